/-
  A wheel in memory, and the contracts of slices.Index, New, Len, Now, At, Next and Drop over this program.
-/
import Derived.Test.YtkgnaaocgejeiaaWp
namespace Go.Proofs.Ytkgnaaocgejeiaa
open Go Go.RowKit Go.Maps
/-- A wheel in memory: its block, all its blocks, a time ahead of which it has none, its time, its numbers in order. -/
structure WBt (g : Nat) (S : List Nat) (m now : Int) (L : List (Int × Int)) (w : World) : Prop where
  ok : Ok m L
  mem : (HdAt g now (.slice none 0 0) (.map none) w ∧ L = [] ∧ S = [g]) ∨ ∃ p cap b l, QAt g p cap b L.length now l (tOf L) w ∧ l.Perm (ids L) ∧ Heap (tOf L) l.length (at0 l) ∧ S = [g, p, b]
/-- .. as it stands between two calls. -/
abbrev WAt (g : Nat) (S : List Nat) (now : Int) (L : List (Int × Int)) (w : World) : Prop := WBt g S now now L w
theorem WBt.keep {g : Nat} {S : List Nat} {m now : Int} {L : List (Int × Int)} {w w' : World} (h : WBt g S m now L w) (e : ∀ k ∈ S, w'.heap[k]? = w.heap[k]?) : WBt g S m now L w' := by
  refine ⟨h.ok, ?_⟩
  rcases h.mem with ⟨h1, h2, rfl⟩ | ⟨p, cap, b, l, h1, h2, h3, rfl⟩
  · exact .inl ⟨h1.keep (e g (by simp)), h2, rfl⟩
  · exact .inr ⟨p, cap, b, l, h1.keep (e g (by simp)) (e p (by simp)) (e b (by simp)), h2, h3, rfl⟩
theorem WBt.lt {g : Nat} {S : List Nat} {m now : Int} {L : List (Int × Int)} {w : World} (h : WBt g S m now L w) : ∀ k ∈ S, k < w.heap.size := by
  intro k hk
  rcases h.mem with ⟨h1, h2, rfl⟩ | ⟨p, cap, b, l, h1, h2, h3, rfl⟩
  · obtain rfl := List.mem_singleton.1 hk
    exact lt_of_heap h1
  · have := h1.lt
    simp only [List.mem_cons, List.not_mem_nil, or_false] at hk
    rcases hk with rfl | rfl | rfl
    · exact this.1
    · exact this.2.1
    · exact this.2.2
theorem WBt.gm {g : Nat} {S : List Nat} {m now : Int} {L : List (Int × Int)} {w : World} (h : WBt g S m now L w) : g ∈ S := by
  rcases h.mem with ⟨h1, h2, rfl⟩ | ⟨p, cap, b, l, h1, h2, h3, rfl⟩ <;> simp
theorem WBt.below {g : Nat} {S : List Nat} {m now : Int} {L : List (Int × Int)} {w w' : World} (h : WBt g S m now L w) (hb : Below w.heap.size w w') : WBt g S m now L w' := h.keep fun k hk => hb.block k (h.lt k hk)
theorem WBt.alike {g : Nat} {S : List Nat} {m now : Int} {L : List (Int × Int)} {w w' : World} (h : WBt g S m now L w) (e : w'.heap = w.heap) : WBt g S m now L w' := h.keep fun k _ => by rw [e]
/-- .. stays behind a call that may have written blocks of another one. -/
theorem WBt.fr {g : Nat} {S T : List Nat} {m now : Int} {L : List (Int × Int)} {w w' : World} (h : WBt g S m now L w) (hf : Fr T w w') (hd : ∀ k ∈ S, k ∉ T) : WBt g S m now L w' := h.keep fun k hk => hf.2 k (h.lt k hk) (hd k hk)
/-- The head of it. -/
theorem WBt.head {g : Nat} {S : List Nat} {m now : Int} {L : List (Int × Int)} {w : World} (h : WBt g S m now L w) : ∃ ao cap mo, HdAt g now (.slice ao L.length cap) (.map mo) w := by
  rcases h.mem with ⟨h1, rfl, _⟩ | ⟨p, cap, b, l, h1, h2, _⟩
  · exact ⟨none, 0, none, h1⟩
  · have e := h2.length_eq
    have hd := h1.hd
    have e2 : l.length = L.length := by rw [e]; simp [ids]
    rw [e2] at hd
    exact ⟨_, _, _, hd⟩
/-- All its blocks are its own, or new. -/
def Nx (S S' : List Nat) (w : World) : Prop := ∀ k ∈ S', k ∈ S ∨ w.heap.size ≤ k
theorem Nx.refl (S : List Nat) (w : World) : Nx S S w := fun _ h => .inl h
set_option maxHeartbeats 400000 in
theorem wnew_any (w : World) : Calls Try.prog 9 #[] w fun e w' => e = .returned (.pointer (some ⟨w.heap.size, 0, none⟩)) ∧ WAt w.heap.size [w.heap.size] 0 [] w' ∧ w'.heap.size = w.heap.size + 1 ∧ Below w.heap.size w w' := by
  go_enter Try.func9, Try.ntmps9
  go_wp2_with fail
  go_ret
  refine ⟨rfl, ⟨Ok.nil, .inl ⟨heap_alloc_new w _, rfl, rfl⟩⟩, by simp, (Below.refl _ w).alloc (Nat.le_refl _) _⟩
theorem wlen_any (g : Nat) (S : List Nat) (m now : Int) (L : List (Int × Int)) (w : World) (h : WBt g S m now L w) : Calls Try.prog 21 #[.pointer (some ⟨g, 0, none⟩)] w fun e w' => e = .returned (.int .i64 (L.length : Int)) ∧ w' = w := by
  obtain ⟨ao, cap, mo, hd⟩ := h.head
  have HL := qlen_any g now _ _ _ _ w hd
  obtain ⟨n, hn⟩ : ∃ n, L.length = n := ⟨_, rfl⟩
  rw [hn] at HL ⊢
  clear h hd hn
  go_enter Try.func21, Try.ntmps21
  go_wp2_with (go_at_call 28; refine HL.mono ?_; rintro e w1 ⟨rfl, rfl⟩)
  go_ret
  exact ⟨rfl, rfl⟩
theorem wlen_nil (w : World) : Calls Try.prog 21 #[.pointer none] w fun e w' => e = .returned (.int .i64 0) ∧ w' = w := by
  go_enter Try.func21, Try.ntmps21
  go_wp2_with fail
  go_ret
  exact ⟨rfl, rfl⟩
theorem wnow_any (g : Nat) (S : List Nat) (m now : Int) (L : List (Int × Int)) (w : World) (h : WBt g S m now L w) : Calls Try.prog 22 #[.pointer (some ⟨g, 0, none⟩)] w fun e w' => e = .returned (.int .i64 now) ∧ w' = w := by
  obtain ⟨ao, cap, mo, hd⟩ := h.head
  have c0 := hd.c0
  clear h hd
  go_enter Try.func22, Try.ntmps22
  go_wp2_with fail
  go_ret
  exact ⟨rfl, rfl⟩
theorem wnow_nil (w : World) : Calls Try.prog 22 #[.pointer none] w fun e w' => e = .returned (.int .i64 0) ∧ w' = w := by
  go_enter Try.func22, Try.ntmps22
  go_wp2_with fail
  go_ret
  exact ⟨rfl, rfl⟩
set_option maxHeartbeats 400000 in
theorem wat_any (g : Nat) (S : List Nat) (m now : Int) (L : List (Int × Int)) (z : Int) (w : World) (h : WBt g S m now L w) (hz : N z) :
    Calls Try.prog 23 #[.pointer (some ⟨g, 0, none⟩), .int .i64 z] w fun e w' => e = .returned (.tuple #[.int .i64 ((tOf L z).getD 0), .bool (tOf L z).isSome]) ∧ w' = w := by
  obtain ⟨ao, cap, mo, hd⟩ := h.head
  have c2 := hd.c2
  have HLK : (Instr.lookup 52 (.map mo) (.int .i64 z) true).run Try.prog w = .ok (.tuple #[.int .i64 ((tOf L z).getD 0), .bool (tOf L z).isSome]) w := by
    rcases h.mem with ⟨h1, rfl, _⟩ | ⟨p, cap', b, l, h1, h2, _⟩
    · have e := h1.c2
      rw [c2] at e
      cases e
      exact look_none w hz
    · have e := h1.hd.c2
      rw [c2] at e
      cases e
      exact h1.mp.lookok hz
  obtain ⟨x, hx⟩ : ∃ x, (tOf L z).getD 0 = x := ⟨_, rfl⟩
  obtain ⟨y, hy⟩ : ∃ y, (tOf L z).isSome = y := ⟨_, rfl⟩
  rw [hx, hy] at HLK ⊢
  clear h hd hx hy hz
  go_enter Try.func23, Try.ntmps23
  go_wp2_with fail
  go_ret2
  exact ⟨rfl, rfl⟩
set_option maxHeartbeats 400000 in
theorem wat_nil (z : Int) (w : World) : Calls Try.prog 23 #[.pointer none, .int .i64 z] w fun e w' => e = .returned (.tuple #[.int .i64 0, .bool false]) ∧ w' = w := by
  go_enter Try.func23, Try.ntmps23
  go_wp2_with fail
  go_ret2
  exact ⟨rfl, rfl⟩
set_option maxHeartbeats 400000 in
theorem wnext_cons (g : Nat) (S : List Nat) (m now : Int) (q : Int × Int) (R : List (Int × Int)) (w : World) (h : WBt g S m now (q :: R) w) :
    Calls Try.prog 20 #[.pointer (some ⟨g, 0, none⟩)] w fun e w' => e = .returned (.tuple #[.int .i64 q.2, .bool true]) ∧ w' = w := by
  have HL := wlen_any g S m now (q :: R) w h
  have HA := wat_any g S m now (q :: R) q.1 w h (h.ok.nn q List.mem_cons_self)
  rw [tOf_mem h.ok.nd List.mem_cons_self] at HA
  rcases h.mem with ⟨h1, h2, _⟩ | ⟨p, cap, b, l, h1, h2, h3, _⟩
  · cases h2
  · have hf := heap_first h.ok h2 h3
    have e2 : l.length = R.length + 1 := by rw [h2.length_eq]; simp [ids]
    have c1 := h1.hd.c1
    rw [e2] at c1
    have ci := h1.rw.cell (at0_lt (l := l) (k := 0) (by omega))
    rw [hf] at ci
    simp only [Option.getD_some, Option.isSome_some] at HA
    rw [List.length_cons] at HL
    obtain ⟨x, hx⟩ : ∃ x, q.1 = x := ⟨_, rfl⟩
    obtain ⟨y, hy⟩ : ∃ y, q.2 = y := ⟨_, rfl⟩
    rw [hx] at HA ci
    rw [hy] at HA ⊢
    obtain ⟨n, hn⟩ : ∃ n, R.length + 1 = n := ⟨_, rfl⟩
    have n0 : ((n : Int) == 0) = false := by simp; omega
    have n1 : (0 : Int) < (n : Int) := by omega
    rw [hn] at HL c1
    clear h h1 h2 h3 hf e2 hx hy hn
    go_enter Try.func20, Try.ntmps20
    go_wp2_with (first
      | (go_at_call 21; refine HL.mono ?_; rintro e w1 ⟨rfl, rfl⟩)
      | (go_at_call 23; refine HA.mono ?_; rintro e w1 ⟨rfl, rfl⟩))
    go_ret2
    exact ⟨rfl, rfl⟩
set_option maxHeartbeats 400000 in
theorem wnext_none (g : Nat) (S : List Nat) (m now : Int) (w : World) (h : WBt g S m now [] w) : Calls Try.prog 20 #[.pointer (some ⟨g, 0, none⟩)] w fun e w' => e = .returned (.tuple #[.int .i64 0, .bool false]) ∧ w' = w := by
  have HL := wlen_any g S m now [] w h
  clear h
  go_enter Try.func20, Try.ntmps20
  go_wp2_with (go_at_call 21; refine HL.mono ?_; rintro e w1 ⟨rfl, rfl⟩)
  go_ret2
  exact ⟨rfl, rfl⟩
set_option maxHeartbeats 400000 in
theorem wnext_nil (w : World) : Calls Try.prog 20 #[.pointer none] w fun e w' => e = .returned (.tuple #[.int .i64 0, .bool false]) ∧ w' = w := by
  go_enter Try.func20, Try.ntmps20
  go_wp2_with (go_at_call 21; refine (wlen_nil _).mono ?_; rintro e w1 ⟨rfl, rfl⟩)
  go_ret2
  exact ⟨rfl, rfl⟩
/-- Next, in either case. -/
def nxT : List (Int × Int) → Int
  | [] => 0
  | q :: _ => q.2
theorem wnext_any (g : Nat) (S : List Nat) (m now : Int) (L : List (Int × Int)) (w : World) (h : WBt g S m now L w) :
    Calls Try.prog 20 #[.pointer (some ⟨g, 0, none⟩)] w fun e w' => e = .returned (.tuple #[.int .i64 (nxT L), .bool (!L.isEmpty)]) ∧ w' = w := by
  cases L with
  | nil => exact wnext_none g S m now w h
  | cons q R => exact wnext_cons g S m now q R w h
set_option maxHeartbeats 1000000 in
theorem index_any (p cap : Nat) (l : List Int) (z : Int) (w : World) (h : RwAt p cap l w) (hz : z ∈ l) (hl : l.length ≤ 1000) :
    Calls Try.prog 27 #[.slice (some ⟨p, 0, none⟩) l.length cap, .int .i64 z] w fun e w' => (∃ i : Nat, e = .returned (.int .i64 (i : Int)) ∧ i < l.length ∧ at0 l i = z) ∧ w' = w := by
  have HR : Hid (RwAt p cap l w) := h
  obtain ⟨k, hk, ek⟩ := List.getElem_of_mem hz
  have HK : Hid (at0 l k = z) := at0_get (by rw [List.getElem?_eq_getElem hk, ek])
  obtain ⟨n, hn⟩ : ∃ n, l.length = n := ⟨_, rfl⟩
  have EN : Hid _ := hn
  rw [hn] at hl hk ⊢
  clear h hz ek hn
  go_enter Try.func27, Try.ntmps27
  go_wp2_with fail
  go_loopw [8] (fun iv wr => ∃ i : Nat, i ≤ k ∧ iv = .int .i64 (i : Int) ∧ wr = w) (fun iv _ => n - (intOf iv).toNat)
  case atStart => exact ⟨0, Nat.zero_le _, rfl, rfl⟩
  case round =>
    obtain ⟨i, hi, rfl, rfl⟩ := hrel
    have hin : (i : Int) < (n : Int) := by omega
    have hi0 : (0 : Int) ≤ (i : Int) := by omega
    have ci := HR.out.cell (at0_lt (l := l) (k := i) (by rw [EN.out]; omega))
    by_cases e : at0 l i = z
    · rw [e] at ci
      have HE : Hid _ := e
      clear e
      go_wp2_with fail
      go_ret
      exact ⟨⟨i, rfl, by omega, HE.out⟩, rfl⟩
    · have hne : i ≠ k := fun e' => e (e' ▸ HK.out)
      obtain ⟨x, hx⟩ : ∃ x, at0 l i = x := ⟨_, rfl⟩
      rw [hx] at ci e
      have e1 : (z == x) = false := by simp; exact fun e' => e e'.symm
      clear hx e
      go_wp2_with fail
      go_roundw
      case rel => exact ⟨i + 1, by omega, by go_num, trivial⟩
      case measure => simp [intOf]; omega
end Go.Proofs.Ytkgnaaocgejeiaa
