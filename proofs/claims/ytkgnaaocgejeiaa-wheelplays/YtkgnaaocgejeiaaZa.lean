/-
  Rows of numbers, scripts, wheels above a block number; the contracts of SameInts, early, kind, time; the statements' own first look (lives), and the walk of the statement WheelNil over this program.
-/
import Derived.Test.YtkgnaaocgejeiaaWy
namespace Go.Proofs.Ytkgnaaocgejeiaa
open Go Go.RowKit Go.Maps
theorem drewN_heap (w : World) (k : Nat) : (w.drewN k).heap = w.heap := rfl
/-- A row of numbers in memory. -/
def RowZ (w : World) (ao : Option Addr) (l : List Int) : Prop := ∀ i z, l[i]? = some z → ∃ ad, ao = some ad ∧ w.cell? (ad.add i) = some (.int .i64 z)
theorem RowZ.mono {w w' : World} {ao : Option Addr} {l : List Int} (h : RowZ w ao l) (hc : ∀ a v, w.cell? a = some v → w'.cell? a = some v) : RowZ w' ao l := fun i s hs => by
  obtain ⟨ad, e, k⟩ := h i s hs
  exact ⟨ad, e, hc _ _ k⟩
theorem RowZ.below {w w' : World} {ao : Option Addr} {l : List Int} (h : RowZ w ao l) (hb : Below w.heap.size w w') : RowZ w' ao l :=
  h.mono fun _ _ hv => (hb.cell (World.block_lt_of_cell? w _ hv)).trans hv
theorem row_block {w : World} {g : Nat} {cur : Array Value} {T : TypeId} {fr : Nat × Nat} {l : List Int} (h : w.heap[g]? = some (.cells cur T fr)) (hc : ∀ (i : Nat) (s : Int), l[i]? = some s → cur[i]? = some (Value.int .i64 s)) : RowZ w (some ⟨g, 0, none⟩) l := by
  intro i s hs
  refine ⟨_, rfl, ?_⟩
  have e : (⟨g, 0, none⟩ : Addr).add i = ⟨g, i, none⟩ := by
    unfold Addr.add
    split
    · subst_vars; rfl
    · simp
  rw [e]
  simp [World.cell?, h, hc i s hs]
theorem own_row {B : Nat} {v : Value} {l : List Int} {w : World} (h : w.ownsRow B 3 1 v l.length (ints l)) : ∃ ao cap, v = .slice ao l.length cap ∧ RowZ w ao l ∧ (∀ ad, ao = some ad → B ≤ ad.block) := by
  rcases h.2 with ⟨e1, e2⟩ | ⟨g, cap, cur, e1, h0, hg, _⟩
  · have e3 : l = [] := List.length_eq_zero_iff.1 e2
    subst e3
    exact ⟨none, 0, e1, fun i s hs => by simp at hs, fun ad e => by cases e⟩
  · subst e1
    refine ⟨_, cap, rfl, fun i z hi => ?_, fun ad e => by cases e; exact h0⟩
    have hl := (List.getElem?_eq_some_iff.1 hi).1
    refine ⟨_, rfl, ?_⟩
    have e : (⟨g, 0, none⟩ : Addr).add i = ⟨g, i, none⟩ := by
      unfold Addr.add
      split
      · subst_vars; rfl
      · simp
    rw [e, World.ownsRow.cellAt h i (by omega), ints_get, hi]
    rfl
set_option maxHeartbeats 1000000 in
theorem same_ints (ao bo : Option Addr) (c1 c2 : Nat) (l : List Int) (w : World) (h1 : RowZ w ao l) (h2 : RowZ w bo l) (hl : l.length ≤ 9223372036854775807) :
    Calls Try.prog 19 #[.slice ao l.length c1, .slice bo l.length c2] w fun e w' => e = .returned (.bool true) ∧ ∃ m, w' = w.drewN m := by
  have H1 : Hid _ := h1
  have H2 : Hid _ := h2
  obtain ⟨n, hn⟩ : ∃ n, l.length = n := ⟨_, rfl⟩
  rw [hn] at hl ⊢
  have HN : Hid _ := hn
  clear h1 h2 hn
  go_enter Try.func19, Try.ntmps19
  go_wp2_with fail
  go_loopw [5] (fun i wr => ∃ j : Nat, j ≤ n ∧ i = .int .i64 (j : Int) ∧ ∃ d, wr = w.drewN d) (fun i _ => n - (intOf i).toNat)
  case atStart => exact ⟨0, Nat.zero_le _, rfl, 0, rfl⟩
  case round =>
    obtain ⟨j, hj, rfl, d, rfl⟩ := hrel
    by_cases hlt : j < n
    · obtain ⟨s, hs⟩ : ∃ s, l[j]? = some s := ⟨_, List.getElem?_eq_getElem (by rw [HN.out]; exact hlt)⟩
      obtain ⟨a1, rfl, k1⟩ := H1.out j s hs
      obtain ⟨a2, rfl, k2⟩ := H2.out j s hs
      have hlt' : (j : Int) < (n : Int) := by omega
      have hj0 : (0 : Int) ≤ (j : Int) := by omega
      clear hs
      go_wp2_with fail
      go_quiet (fail)
      go_wp2_with fail
      go_roundw
      case rel => exact ⟨j + 1, by omega, by go_num, _, rfl⟩
      case measure => simp [intOf]; omega
    · have hnl : ¬ (j : Int) < (n : Int) := by omega
      go_wp2_with fail
      go_ret
      exact ⟨rfl, d, rfl⟩
/-- A wheel in memory, all of it above a block number. -/
structure WB (B g : Nat) (now : Int) (L : List (Int × Int)) (w : World) : Prop where
  ex : ∃ S, WAt g S now L w ∧ ∀ k ∈ S, B ≤ k
theorem WB.below {B g : Nat} {now : Int} {L : List (Int × Int)} {w w' : World} (h : WB B g now L w) (hb : Below w.heap.size w w') : WB B g now L w' := by
  obtain ⟨S, h1, h2⟩ := h
  exact ⟨S, h1.below hb, h2⟩
theorem WB.alike {B g : Nat} {now : Int} {L : List (Int × Int)} {w w' : World} (h : WB B g now L w) (e : w'.heap = w.heap) : WB B g now L w' := by
  obtain ⟨S, h1, h2⟩ := h
  exact ⟨S, h1.alike e, h2⟩
theorem WB.ok {B g : Nat} {now : Int} {L : List (Int × Int)} {w : World} (h : WB B g now L w) : Ok now L := by
  obtain ⟨S, h1, h2⟩ := h
  exact h1.ok
theorem new_b (B : Nat) (w : World) (hB : B ≤ w.heap.size) : Calls Try.prog 9 #[] w fun e w' => e = .returned (.pointer (some ⟨w.heap.size, 0, none⟩)) ∧ WB B w.heap.size 0 [] w' ∧ w'.heap.size = w.heap.size + 1 ∧ Below w.heap.size w w' :=
  (wnew_any w).mono fun _ _ ⟨h1, h2, h3, h4⟩ => ⟨h1, ⟨_, h2, fun k hk => by rw [List.mem_singleton.1 hk]; exact hB⟩, h3, h4⟩
theorem set_b (B g : Nat) (now : Int) (L : List (Int × Int)) (z v : Int) (w : World) (h : WB B g now L w) (hB : B ≤ w.heap.size) (hz : N z) (hv : N v) :
    Calls Try.prog 13 #[.pointer (some ⟨g, 0, none⟩), .int .i64 z, .int .i64 v] w fun e w' => e = .returned (.int .i64 (setE now L z v)) ∧ WB B g now (setL now L z v) w' ∧ Below B w w' := by
  obtain ⟨S, h1, h2⟩ := h
  refine (wset_any g S now L z v w h1 hz hv).mono fun e w' ⟨he, S', k1, k2, k3⟩ => ⟨he, ⟨S', k1, fun k hk => ?_⟩, k3.below hB h2⟩
  rcases k2 k hk with h | h
  · exact h2 k h
  · omega
theorem drop_b (B g : Nat) (now : Int) (L : List (Int × Int)) (z : Int) (w : World) (h : WB B g now L w) (hB : B ≤ w.heap.size) (hz : N z) :
    Calls Try.prog 15 #[.pointer (some ⟨g, 0, none⟩), .int .i64 z] w fun e w' => e = .returned (.bool (tOf L z).isSome) ∧ WB B g now (del z L) w' ∧ Below B w w' := by
  obtain ⟨S, h1, h2⟩ := h
  exact (wdrop_any g S now now L z w h1 hz).mono fun e w' ⟨he, k1, k3⟩ => ⟨he, ⟨S, ⟨h1.ok.del z, k1.mem⟩, h2⟩, k3.below hB h2⟩
/-- What Go leaves, where the wheel lies above a block number. -/
def GoB (B g : Nat) (at_ : Int) (L : List (Int × Int)) (w : World) (e : Ending) (w' : World) : Prop := ∃ ao cap, e = .returned (.tuple #[.slice ao (outN at_ L).length cap, .int .i64 0]) ∧ WB B g at_ (restN at_ L) w' ∧ RowZ w' ao (ids (outN at_ L)) ∧ Below B w w'
theorem ids_len (L : List (Int × Int)) : (ids L).length = L.length := List.length_map _
theorem go_b (B g : Nat) (now : Int) (L : List (Int × Int)) (z : Int) (w : World) (h : WB B g now L w) (hB : B ≤ w.heap.size) (hz : now ≤ z ∧ z ≤ 1099511627776) :
    Calls Try.prog 17 #[.pointer (some ⟨g, 0, none⟩), .int .i64 z] w fun e w' => GoB B g z L w e w' := by
  obtain ⟨S, h1, h2⟩ := h
  refine (wgo_ok g S now L z w h1 hz).mono fun e w' ⟨v, he, k1, k2, k3⟩ => ?_
  obtain ⟨ao, cap, rfl, k4, _⟩ := own_row k2
  rw [ids_len] at he
  exact ⟨ao, cap, he, ⟨S, k1, h2⟩, k4, k3.below hB h2⟩
theorem next_b (B g : Nat) (now : Int) (L : List (Int × Int)) (w : World) (h : WB B g now L w) :
    Calls Try.prog 20 #[.pointer (some ⟨g, 0, none⟩)] w fun e w' => e = .returned (.tuple #[.int .i64 (nxT L), .bool (!L.isEmpty)]) ∧ w' = w := by
  obtain ⟨S, h1, _⟩ := h
  exact wnext_any g S now now L w h1
theorem len_b (B g : Nat) (now : Int) (L : List (Int × Int)) (w : World) (h : WB B g now L w) : Calls Try.prog 21 #[.pointer (some ⟨g, 0, none⟩)] w fun e w' => e = .returned (.int .i64 (L.length : Int)) ∧ w' = w := by
  obtain ⟨S, h1, _⟩ := h
  exact wlen_any g S now now L w h1
theorem now_b (B g : Nat) (now : Int) (L : List (Int × Int)) (w : World) (h : WB B g now L w) : Calls Try.prog 22 #[.pointer (some ⟨g, 0, none⟩)] w fun e w' => e = .returned (.int .i64 now) ∧ w' = w := by
  obtain ⟨S, h1, _⟩ := h
  exact wnow_any g S now now L w h1
theorem at_b (B g : Nat) (now : Int) (L : List (Int × Int)) (z : Int) (w : World) (h : WB B g now L w) (hz : N z) :
    Calls Try.prog 23 #[.pointer (some ⟨g, 0, none⟩), .int .i64 z] w fun e w' => e = .returned (.tuple #[.int .i64 ((tOf L z).getD 0), .bool (tOf L z).isSome]) ∧ w' = w := by
  obtain ⟨S, h1, _⟩ := h
  exact wat_any g S now now L z w h1 hz
/-- A step of a script. -/
structure Sp where
  k : Int
  id : Int
  t : Int
  on : Bool
/-- A script, as it lies. -/
def ArgOps (w : World) (ao : Option Addr) (ts : List Sp) : Prop :=
  ∀ i t, ts[i]? = some t → ∃ g off, ao = some ⟨g, off, none⟩ ∧ g < w.heap.size ∧ w.cell? ⟨g, off + i * 4, none⟩ = some (.int .i64 t.k) ∧ w.cell? ⟨g, off + i * 4 + 1, none⟩ = some (.int .i64 t.id) ∧ w.cell? ⟨g, off + i * 4 + 2, none⟩ = some (.int .i64 t.t) ∧ w.cell? ⟨g, off + i * 4 + 3, none⟩ = some (.bool t.on) ∧ N t.id ∧ N t.t
theorem early_any (ao : Option Addr) (n cap : Nat) (hcap : n ≤ cap) (w : World) : Calls Try.prog 10 #[.slice ao n cap] w fun e w' => e = .returned (.slice ao (min n 400) cap) ∧ w' = w := by
  obtain ⟨k, hk⟩ : ∃ k, min n 400 = k := ⟨_, rfl⟩
  have hm : (if (400 : Int) < (n : Int) then (400 : Int) else (n : Int)) = (k : Int) := by split <;> omega
  have k0 : (0 : Int) ≤ (k : Int) := by omega
  have k1 : (k : Int) ≤ (cap : Int) := by omega
  rw [hk]
  clear hk
  go_enter Try.func10, Try.ntmps10
  go_wp2_with fail
  go_ret
  exact ⟨rfl, rfl⟩
/-- A step's kind. -/
def kd (k : Int) : Nat := ((IntKind.u64.wrap k).tmod 3).toNat
theorem kd_eq (k : Int) : (IntKind.u64.wrap k).tmod 3 = (kd k : Int) := by
  unfold kd
  rw [IntKind.wrap_u64, Int.tmod_eq_emod_of_nonneg (by omega)]
  omega
theorem kd_lt (k : Int) : kd k < 3 := by
  have := kd_eq k
  rw [IntKind.wrap_u64, Int.tmod_eq_emod_of_nonneg (by omega)] at this
  omega
theorem kind_any (k n h : Int) (on : Bool) (w : World) : Calls Try.prog 12 #[.agg #[.int .i64 k, .int .i64 n, .int .i64 h, .bool on]] w fun e w' => e = .returned (.int .i64 (kd k : Int)) ∧ Below w.heap.size w w' := by
  have h1 := kd_eq k
  have h2 := kd_lt k
  obtain ⟨K, hK⟩ : ∃ K, kd k = K := ⟨_, rfl⟩
  rw [hK] at h1 h2 ⊢
  have h3 : IntKind.i64.wrap (K : Int) = (K : Int) := by simp only [IntKind.wrap_i64]; omega
  clear hK
  go_enter Try.func12, Try.ntmps12
  go_wp2_with fail
  go_ret
  exact ⟨rfl, (Below.refl _ w).alloc (Nat.le_refl _) _⟩
set_option maxHeartbeats 1000000 in
theorem lives_any (w : World) : Calls Try.prog 8 #[] w fun e w' => e = .returned (.bool true) ∧ Below w.heap.size w w' := by
  have HS1 : ∀ g W, WB w.heap.size g 0 [] W → w.heap.size ≤ W.heap.size → Calls Try.prog 13 #[.pointer (some ⟨g, 0, none⟩), .int .i64 1, .int .i64 5] W fun e w' => e = .returned (.int .i64 0) ∧ WB w.heap.size g 0 [(1, 5)] w' ∧ Below w.heap.size W w' := fun g W h hB => set_b _ g 0 [] 1 5 W h hB ⟨by decide, by decide⟩ ⟨by decide, by decide⟩
  have HS2 : ∀ g W, WB w.heap.size g 0 [(1, 5)] W → w.heap.size ≤ W.heap.size → Calls Try.prog 13 #[.pointer (some ⟨g, 0, none⟩), .int .i64 2, .int .i64 3] W fun e w' => e = .returned (.int .i64 0) ∧ WB w.heap.size g 0 [(2, 3), (1, 5)] w' ∧ Below w.heap.size W w' := fun g W h hB => set_b _ g 0 [(1, 5)] 2 3 W h hB ⟨by decide, by decide⟩ ⟨by decide, by decide⟩
  have HG : ∀ g W, WB w.heap.size g 0 [(2, 3), (1, 5)] W → w.heap.size ≤ W.heap.size → Calls Try.prog 17 #[.pointer (some ⟨g, 0, none⟩), .int .i64 5] W fun e w' => (∃ ao cap, e = .returned (.tuple #[.slice ao 2 cap, .int .i64 0]) ∧ WB w.heap.size g 5 [] w' ∧ RowZ w' ao [2, 1] ∧ Below w.heap.size W w') := fun g W h hB => go_b _ g 0 [(2, 3), (1, 5)] 5 W h hB ⟨by decide, by decide⟩
  go_enter Try.func8, Try.ntmps8
  go_wp2_with (first
    | (go_at_call 9; refine (new_b _ _ (Nat.le_refl _)).mono ?_; rintro e w1 ⟨rfl, hr1, _, hb1⟩)
    | (go_at_call_of 13 (Value.int .i64 1); refine (HS1 _ _ hr1 hb1.size).mono ?_; rintro e w2 ⟨rfl, hr2, hf2⟩; have hb2 := hb1.trans hf2)
    | (go_at_call_of 13 (Value.int .i64 2); refine (HS2 _ _ hr2 hb2.size).mono ?_; rintro e w3 ⟨rfl, hr3, hf3⟩; have hb3 := hb2.trans hf3)
    | (go_at_call 17; refine (HG _ _ hr3 hb3.size).mono ?_; rintro e w4 ⟨ao4, cap4, rfl, hr4, ht4, hf4⟩; have hb4 := hb3.trans hf4; have hx4 := hb4.size)
    | (go_at_call 19; refine (same_ints _ _ _ _ [2, 1] _ ?_ ?_ (by decide)).mono ?_; exact RowZ.below ht4 ((Below.refl _ w4).alloc (Nat.le_refl _) _); exact row_block (heap_alloc_new w4 _) (fun i s h => by match i, h with | 0, h => cases h; rfl | 1, h => cases h; rfl | n + 2, h => cases h); rintro e w7 ⟨rfl, m7, rfl⟩; have hr7 : ∀ W, W.heap = (w4.alloc (.cells #[Value.int .i64 2, Value.int .i64 1] 3)).heap → WB w.heap.size w.heap.size 5 [] W := fun W hW => (hr4.below ((Below.refl _ w4).alloc (Nat.le_refl _) (.cells #[Value.int .i64 2, Value.int .i64 1] 3))).alike hW)
    | (go_at_call 22; refine (now_b _ _ 5 [] _ (hr7 _ ?_)).mono ?_; exact rfl; rintro e w8 ⟨rfl, rfl⟩)
    | (go_at_call 21; refine (len_b _ _ 5 [] _ (hr7 _ ?_)).mono ?_; exact rfl; rintro e w8 ⟨rfl, rfl⟩))
  go_ret
  exact ⟨rfl, below_drewN (hb4.alloc (by omega) _)⟩
set_option maxHeartbeats 1000000 in
theorem nil_walk (z h : Int) (w : World) : Calls Try.prog 6 #[.int .i64 z, .int .i64 h] w fun e w' => e = .returned (.bool true) ∧ Below w.heap.size w w' := by
  go_enter Try.func6, Try.ntmps6
  go_wp2_with (first
    | (go_at_call 8; refine (lives_any _).mono ?_; rintro e w1 ⟨rfl, hb1⟩)
    | (go_at_call 17; refine (wgo_nil _ _).mono ?_; rintro e w1 ⟨rfl, rfl⟩)
    | (go_at_call 23; refine (wat_nil _ _).mono ?_; rintro e w1 ⟨rfl, rfl⟩)
    | (go_at_call 20; refine (wnext_nil _).mono ?_; rintro e w1 ⟨rfl, rfl⟩)
    | (go_at_call 13; refine (wset_nil _ _ _).mono ?_; rintro e w1 ⟨rfl, rfl⟩)
    | (go_at_call 15; refine (wdrop_nil _ _).mono ?_; rintro e w1 ⟨rfl, rfl⟩)
    | (go_at_call 22; refine (wnow_nil _).mono ?_; rintro e w1 ⟨rfl, rfl⟩)
    | (go_at_call 21; refine (wlen_nil _).mono ?_; rintro e w1 ⟨rfl, rfl⟩))
  go_ret
  exact ⟨rfl, hb1⟩
end Go.Proofs.Ytkgnaaocgejeiaa
