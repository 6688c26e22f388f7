/-
  A step's time; a wheel and the document's one beside it.
-/
import Derived.Test.YtkgnaaocgejeiaaYf
import Derived.Test.YtkgnaaocgejeiaaYg
namespace Go.Proofs.Ytkgnaaocgejeiaa
open Go Go.RowKit Go.Maps
/-- A step's time. -/
def tmI (on : Bool) (t now : Int) : Int := if on then now + (IntKind.u64.wrap t).tmod 50 else t
theorem wrap_50 (x : Int) : ∃ k : Nat, k < 50 ∧ (IntKind.u64.wrap x).tmod 50 = (k : Int) := by
  refine ⟨((IntKind.u64.wrap x).tmod 50).toNat, ?_, ?_⟩ <;> rw [IntKind.wrap_u64, Int.tmod_eq_emod_of_nonneg (by omega)] <;> omega
theorem tm_n {on : Bool} {t now : Int} (ht : N t) (hn : 0 ≤ now ∧ now ≤ 1099511627776) : N (tmI on t now) := by
  unfold tmI
  split
  · obtain ⟨k, hk, e⟩ := wrap_50 t
    rw [e]
    exact ⟨by omega, by omega⟩
  · exact ht
set_option maxHeartbeats 400000 in
theorem time_any (k id t : Int) (on : Bool) (now : Int) (hn : 0 ≤ now ∧ now ≤ 1099511627776) (w : World) : Calls Try.prog 11 #[.agg #[.int .i64 k, .int .i64 id, .int .i64 t, .bool on], .int .i64 now] w fun e w' => e = .returned (.int .i64 (tmI on t now)) ∧ Below w.heap.size w w' := by
  cases on with
  | false =>
    show Calls Try.prog 11 _ w fun e w' => e = .returned (.int .i64 t) ∧ _
    go_enter Try.func11, Try.ntmps11
    go_wp2_with fail
    go_ret
    exact ⟨rfl, (Below.refl _ w).alloc (Nat.le_refl _) _⟩
  | true =>
    show Calls Try.prog 11 _ w fun e w' => e = .returned (.int .i64 (now + (IntKind.u64.wrap t).tmod 50)) ∧ _
    obtain ⟨m, hm, em⟩ := wrap_50 t
    rw [em]
    have w1 : IntKind.i64.wrap (m : Int) = (m : Int) := by simp only [IntKind.wrap_i64]; omega
    obtain ⟨s, hs⟩ : ∃ s, now + (m : Int) = s := ⟨_, rfl⟩
    have w2 : IntKind.i64.wrap (now + (m : Int)) = s := by simp only [IntKind.wrap_i64]; omega
    rw [hs]
    clear hs hn
    go_enter Try.func11, Try.ntmps11
    go_wp2_with fail
    go_ret
    exact ⟨rfl, (Below.refl _ w).alloc (Nat.le_refl _) _⟩
/-- A wheel and the document's beside it, above a block number, and apart. -/
structure Bo (B g q : Nat) (now : Int) (L : List (Int × Int)) (w : World) : Prop where
  ex : ∃ S D, WAt g S now L w ∧ RqAt q D now L w ∧ (∀ k ∈ D, k ∉ S) ∧ (∀ k ∈ S, B ≤ k) ∧ (∀ k ∈ D, B ≤ k)
/-- .. and a block beside both. -/
structure BoX (B g q x : Nat) (o : Obj) (na : Int) (LA : List (Int × Int)) (nb : Int) (LB : List (Int × Int)) (w : World) : Prop where
  ex : ∃ S D, WAt g S na LA w ∧ RqAt q D nb LB w ∧ (∀ k ∈ D, k ∉ S) ∧ (∀ k ∈ S, B ≤ k ∧ k ≠ x) ∧ (∀ k ∈ D, B ≤ k ∧ k ≠ x)
  ob : w.heap[x]? = some o
theorem RqAt.lts {q : Nat} {D : List Nat} {now : Int} {L : List (Int × Int)} {w : World} (h : RqAt q D now L w) : ∃ D', RqAt q D' now L w ∧ (∀ k ∈ D', k ∈ D ∧ k < w.heap.size) := by
  obtain ⟨D', h1, h2, h3⟩ := h.least
  exact ⟨D', h1, fun k hk => ⟨h2 k hk, h3 k hk⟩⟩
theorem Bo.ok {B g q : Nat} {now : Int} {L : List (Int × Int)} {w : World} (h : Bo B g q now L w) : Ok now L := by
  obtain ⟨S, D, h1, _⟩ := h.ex
  exact h1.ok
theorem Bo.below {B g q : Nat} {now : Int} {L : List (Int × Int)} {w w' : World} (h : Bo B g q now L w) (hb : Below w.heap.size w w') : Bo B g q now L w' := by
  obtain ⟨S, D, h1, h2, h3, h4, h5⟩ := h.ex
  obtain ⟨D', k1, k2⟩ := h2.lts
  exact ⟨S, D', h1.below hb, k1.keep (fun k hk => hb.block k (k2 k hk).2) hb.size, fun k hk => h3 k (k2 k hk).1, h4, fun k hk => h5 k (k2 k hk).1⟩
theorem Bo.alike {B g q : Nat} {now : Int} {L : List (Int × Int)} {w w' : World} (h : Bo B g q now L w) (e : w'.heap = w.heap) : Bo B g q now L w' := by
  obtain ⟨S, D, h1, h2, h3, h4, h5⟩ := h.ex
  exact ⟨S, D, h1.alike e, h2.keep (fun k _ => by rw [e]) (by rw [e]; exact Nat.le_refl _), h3, h4, h5⟩
theorem BoX.toBo {B g q x : Nat} {o : Obj} {now : Int} {L : List (Int × Int)} {w : World} (h : BoX B g q x o now L now L w) : Bo B g q now L w := by
  obtain ⟨S, D, h1, h2, h3, h4, h5⟩ := h.ex
  exact ⟨S, D, h1, h2, h3, fun k hk => (h4 k hk).1, fun k hk => (h5 k hk).1⟩
theorem BoX.below {B g q x : Nat} {o : Obj} {na nb : Int} {LA LB : List (Int × Int)} {w w' : World} (h : BoX B g q x o na LA nb LB w) (hb : Below w.heap.size w w') : BoX B g q x o na LA nb LB w' := by
  obtain ⟨S, D, h1, h2, h3, h4, h5⟩ := h.ex
  obtain ⟨D', k1, k2⟩ := h2.lts
  exact ⟨⟨S, D', h1.below hb, k1.keep (fun k hk => hb.block k (k2 k hk).2) hb.size, fun k hk => h3 k (k2 k hk).1, h4, fun k hk => h5 k (k2 k hk).1⟩, (hb.block x (lt_of_heap h.ob)).trans h.ob⟩
theorem BoX.alike {B g q x : Nat} {o : Obj} {na nb : Int} {LA LB : List (Int × Int)} {w w' : World} (h : BoX B g q x o na LA nb LB w) (e : w'.heap = w.heap) : BoX B g q x o na LA nb LB w' := by
  obtain ⟨S, D, h1, h2, h3, h4, h5⟩ := h.ex
  exact ⟨⟨S, D, h1.alike e, h2.keep (fun k _ => by rw [e]) (by rw [e]; exact Nat.le_refl _), h3, h4, h5⟩, by rw [e]; exact h.ob⟩
/-- A new block is laid beside both. -/
theorem Bo.lay {B g q : Nat} {now : Int} {L : List (Int × Int)} {w w' : World} {o : Obj} (h : Bo B g q now L w) (hb : Below w.heap.size w w') (ho : w'.heap[w.heap.size]? = some o) : BoX B g q w.heap.size o now L now L w' := by
  obtain ⟨S, D, h1, h2, h3, h4, h5⟩ := h.ex
  obtain ⟨D', k1, k2⟩ := h2.lts
  refine ⟨⟨S, D', h1.below hb, k1.keep (fun k hk => hb.block k (k2 k hk).2) hb.size, fun k hk => h3 k (k2 k hk).1, fun k hk => ⟨h4 k hk, ?_⟩, fun k hk => ⟨h5 k (k2 k hk).1, ?_⟩⟩, ho⟩
  · have := h1.lt k hk
    omega
  · have := (k2 k hk).2
    omega
theorem box_a {B g q x : Nat} {o : Obj} {na nb na' : Int} {LA LB LA' : List (Int × Int)} {S S' D : List Nat} {w w' : World} (_h1 : WAt g S na LA w) (h2 : RqAt q D nb LB w) (h3 : ∀ k ∈ D, k ∉ S) (h4 : ∀ k ∈ S, B ≤ k ∧ k ≠ x) (h5 : ∀ k ∈ D, B ≤ k ∧ k ≠ x) (hob : w.heap[x]? = some o) (hB : B ≤ w.heap.size)
    (k1 : WAt g S' na' LA' w') (k2 : Nx S S' w) (k3 : Fr S w w') : BoX B g q x o na' LA' nb LB w' ∧ Below B w w' := by
  have hx := lt_of_heap hob
  obtain ⟨D', e1, e2⟩ := h2.lts
  refine ⟨⟨⟨S', D', k1, e1.keep (fun k hk => k3.2 k (e2 k hk).2 (h3 k (e2 k hk).1)) k3.1.size, fun k hk hk' => ?_, fun k hk => ?_, fun k hk => h5 k (e2 k hk).1⟩, (k3.2 x hx (fun hx' => (h4 x hx').2 rfl)).trans hob⟩, k3.below hB (fun k hk => (h4 k hk).1)⟩
  · rcases k2 k hk' with h | h
    · exact h3 k (e2 k hk).1 h
    · have := (e2 k hk).2
      omega
  · rcases k2 k hk with h | h
    · exact h4 k h
    · exact ⟨by omega, by omega⟩
theorem box_b {B g q x : Nat} {o : Obj} {na nb nb' : Int} {LA LB LB' : List (Int × Int)} {S D D' : List Nat} {w w' : World} (h1 : WAt g S na LA w) (h2 : RqAt q D nb LB w) (h3 : ∀ k ∈ D, k ∉ S) (h4 : ∀ k ∈ S, B ≤ k ∧ k ≠ x) (h5 : ∀ k ∈ D, B ≤ k ∧ k ≠ x) (hob : w.heap[x]? = some o) (hB : B ≤ w.heap.size)
    (k1 : RqAt q D' nb' LB' w') (k2 : Nx D D' w) (k3 : Fr [q] w w') : BoX B g q x o na LA nb' LB' w' ∧ Below B w w' := by
  have hx := lt_of_heap hob
  refine ⟨⟨⟨S, D', h1.keep fun k hk => k3.2 k (h1.lt k hk) (fun e => h3 q h2.qm (by rw [List.mem_singleton.1 e] at hk; exact hk)), k1, fun k hk hk' => ?_, h4, fun k hk => ?_⟩, (k3.2 x hx (fun hx' => (h5 q h2.qm).2 (List.mem_singleton.1 hx').symm)).trans hob⟩, k3.below hB (fun k hk => by rw [List.mem_singleton.1 hk]; exact (h5 q h2.qm).1)⟩
  · rcases k2 k hk with h | h
    · exact h3 k h hk'
    · have := h1.lt k hk'
      omega
  · rcases k2 k hk with h | h
    · exact h5 k h
    · exact ⟨by omega, by omega⟩
theorem bset_a {B g q x : Nat} {o : Obj} {na nb : Int} {LA LB : List (Int × Int)} (z v : Int) (w : World) (h : BoX B g q x o na LA nb LB w) (hB : B ≤ w.heap.size) (hz : N z) (hv : N v) :
    Calls Try.prog 13 #[.pointer (some ⟨g, 0, none⟩), .int .i64 z, .int .i64 v] w fun e w' => e = .returned (.int .i64 (setE na LA z v)) ∧ BoX B g q x o na (setL na LA z v) nb LB w' ∧ Below B w w' := by
  obtain ⟨S, D, h1, h2, h3, h4, h5⟩ := h.ex
  exact (wset_any g S na LA z v w h1 hz hv).mono fun e w' ⟨he, S', k1, k2, k3⟩ => ⟨he, box_a h1 h2 h3 h4 h5 h.ob hB k1 k2 k3⟩
theorem bset_b {B g q x : Nat} {o : Obj} {na nb : Int} {LA LB : List (Int × Int)} (z v : Int) (w : World) (h : BoX B g q x o na LA nb LB w) (hB : B ≤ w.heap.size) (hok : Ok nb LB) :
    Calls Try.prog 14 #[.pointer (some ⟨q, 0, none⟩), .int .i64 z, .int .i64 v] w fun e w' => e = .returned (.int .i64 (setE nb LB z v)) ∧ BoX B g q x o na LA nb (setL nb LB z v) w' ∧ Below B w w' := by
  obtain ⟨S, D, h1, h2, h3, h4, h5⟩ := h.ex
  exact (rset_any q D nb LB z v w h2 hok).mono fun e w' ⟨he, D', k1, k2, k3⟩ => ⟨he, box_b h1 h2 h3 h4 h5 h.ob hB k1 k2 k3⟩
theorem bdrop_a {B g q x : Nat} {o : Obj} {na nb : Int} {LA LB : List (Int × Int)} (z : Int) (w : World) (h : BoX B g q x o na LA nb LB w) (hB : B ≤ w.heap.size) (hz : N z) :
    Calls Try.prog 15 #[.pointer (some ⟨g, 0, none⟩), .int .i64 z] w fun e w' => e = .returned (.bool (tOf LA z).isSome) ∧ BoX B g q x o na (del z LA) nb LB w' ∧ Below B w w' := by
  obtain ⟨S, D, h1, h2, h3, h4, h5⟩ := h.ex
  exact (wdrop_any g S na na LA z w h1 hz).mono fun e w' ⟨he, k1, k3⟩ => ⟨he, box_a h1 h2 h3 h4 h5 h.ob hB (⟨h1.ok.del z, k1.mem⟩ : WAt g S na (del z LA) w') (Nx.refl _ _) k3⟩
theorem bdrop_b {B g q x : Nat} {o : Obj} {na nb : Int} {LA LB : List (Int × Int)} (z : Int) (w : World) (h : BoX B g q x o na LA nb LB w) (hB : B ≤ w.heap.size) (hok : Ok nb LB) :
    Calls Try.prog 16 #[.pointer (some ⟨q, 0, none⟩), .int .i64 z] w fun e w' => e = .returned (.bool (tOf LB z).isSome) ∧ BoX B g q x o na LA nb (del z LB) w' ∧ Below B w w' := by
  obtain ⟨S, D, h1, h2, h3, h4, h5⟩ := h.ex
  exact (rdrop_any q D nb LB z w h2 hok.nd hok.ln).mono fun e w' ⟨he, D', k1, k2, k3⟩ => ⟨he, box_b h1 h2 h3 h4 h5 h.ob hB k1 k2 k3⟩
theorem bgo_a {B g q x : Nat} {o : Obj} {na nb : Int} {LA LB : List (Int × Int)} (z : Int) (w : World) (h : BoX B g q x o na LA nb LB w) (hB : B ≤ w.heap.size) (hz : na ≤ z ∧ z ≤ 1099511627776) :
    Calls Try.prog 17 #[.pointer (some ⟨g, 0, none⟩), .int .i64 z] w fun e w' => ∃ ao cap, e = .returned (.tuple #[.slice ao (outN z LA).length cap, .int .i64 0]) ∧ BoX B g q x o z (restN z LA) nb LB w' ∧ Below B w w' ∧ RowZ w' ao (ids (outN z LA)) ∧ (∀ ad, ao = some ad → w.heap.size ≤ ad.block) := by
  obtain ⟨S, D, h1, h2, h3, h4, h5⟩ := h.ex
  refine (wgo_ok g S na LA z w h1 hz).mono fun e w' ⟨v, he, k1, k2, k3⟩ => ?_
  obtain ⟨ao, cap, rfl, k4, k5⟩ := own_row k2
  rw [ids_len] at he
  have := box_a h1 h2 h3 h4 h5 h.ob hB k1 (Nx.refl _ _) k3
  exact ⟨ao, cap, he, this.1, this.2, k4, k5⟩
theorem bgo_b {B g q x : Nat} {o : Obj} {na nb : Int} {LA LB : List (Int × Int)} (z : Int) (w : World) (h : BoX B g q x o na LA nb LB w) (hB : B ≤ w.heap.size) (hl : LB.length ≤ 256) (hz : nb ≤ z ∧ z ≤ 1099511627776) :
    Calls Try.prog 18 #[.pointer (some ⟨q, 0, none⟩), .int .i64 z] w fun e w' => ∃ ao cap, e = .returned (.tuple #[.slice ao (outN z LB).length cap, .int .i64 0]) ∧ BoX B g q x o na LA z (restN z LB) w' ∧ Below B w w' ∧ RowZ w' ao (ids (outN z LB)) ∧ (∀ k, q < k → k < w.heap.size → w'.heap[k]? = w.heap[k]?) := by
  obtain ⟨S, D, h1, h2, h3, h4, h5⟩ := h.ex
  refine (rgo_ok q D nb LB z w h2 hz hl).mono fun e w' ⟨v, he, k1, k2, k3⟩ => ?_
  obtain ⟨ao, cap, rfl, k4, k5⟩ := own_row k2
  rw [ids_len] at he
  have := box_b h1 h2 h3 h4 h5 h.ob hB k1 (Nx.refl _ _) k3
  exact ⟨ao, cap, he, this.1, this.2, k4, fun k hk hk' => k3.2 k hk' (fun e => by have := List.mem_singleton.1 e; omega)⟩
end Go.Proofs.Ytkgnaaocgejeiaa
