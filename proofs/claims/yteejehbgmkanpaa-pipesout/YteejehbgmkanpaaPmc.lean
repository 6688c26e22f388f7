/-
  Bytes that came out put anew: a string appended to a connection's row; Open's store; the contracts of Open, Break, Close.
-/
import Derived.Test.YteejehbgmkanpaaPmb
namespace Go.Proofs.Yteejehbgmkanpaa
open Go Go.RowKit
theorem PsM.put {r : Nat} {S : List Nat} {c : Nat → Pp} {w w1 : World} {i : Nat} {v u : Value} {s : ByteArray} (h : PsM r S c w) (hi : i < 16) (hv : w.cell? ⟨r, i * 5 + 4, none⟩ = some v) (hg : w.grownBy w1 v.ownBlock)
    (hu : w1.ownsRow 0 5 1 u s.size (Lib.strCells s)) (hb : ∀ g, u.ownBlock = some g → v.ownBlock = some g ∨ w.heap.size ≤ g) :
    Lv r S (upd c i { c i with out := s }) w (w1.setCell ⟨r, i * 5 + 4, none⟩ u) := by
  obtain ⟨cs, vs, h1, h2, h3, h4, h5⟩ := h.mem
  obtain rfl : vs i = v := by
    have e := (h2 i hi).2.2.2.2
    simp [World.cell?, h1, e] at hv
    exact hv
  have hr := h.lt r h.rS
  have hr1 : w1.heap[r]? = w.heap[r]? := hg.block r hr fun e => (h4 i r hi e.symm).1 rfl
  have hug : ∀ g, u.ownBlock = some g → g ≠ r := fun g e => by
    rcases hb g e with k | k
    · exact (h4 i g hi k).1
    · omega
  refine ⟨⟨S ++ u.ownBlock.toList, ⟨List.mem_append_left _ h.rS, fun k hk => ?_, _, upd vs i u, heap_set (hr1.trans h1) _ _, fun j hj => ?_, fun j hj => ?_, fun j g hj e => ?_, fun j k g hj hk e1 e2 => ?_⟩, fun k hk => ?_, ?_⟩⟩
  · have hs := ((Below.refl 0 w1).setCell (p := ⟨r, i * 5 + 4, none⟩) (Nat.zero_le _) u).size
    rcases List.mem_append.1 hk with k1 | k1
    · exact Nat.lt_of_lt_of_le (h.lt k k1) (Nat.le_trans hg.size hs)
    · exact Nat.lt_of_lt_of_le (World.ownsRow.lt hu k (by simpa using k1)).2 hs
  · by_cases e : j = i
    · subst e
      rw [upd_self, upd_self]
      exact (h2 j hj).out u s
    · rw [upd_ne e, upd_ne e]
      exact (h2 j hj).other (by omega)
  · by_cases e : j = i
    · subst e
      rw [upd_self, upd_self]
      exact owns_keep hu fun g e => Below.heap_setCell w1 ⟨r, j * 5 + 4, none⟩ u g (hug g e)
    · rw [upd_ne e, upd_ne e]
      refine owns_keep (h3 j hj) fun g hg' => ?_
      obtain ⟨k1, k2⟩ := h4 j g hj hg'
      exact (Below.heap_setCell w1 ⟨r, i * 5 + 4, none⟩ u g k1).trans (hg.block g (h.lt g k2) fun e' => e (h5 j i g hj hi hg' e'.symm))
  · by_cases e' : j = i
    · rw [e', upd_self] at e
      exact ⟨hug g e, List.mem_append_right _ (by simp [e])⟩
    · rw [upd_ne e'] at e
      obtain ⟨k1, k2⟩ := h4 j g hj e
      exact ⟨k1, List.mem_append_left _ k2⟩
  · have H : ∀ j g, j < 16 → j ≠ i → (vs j).ownBlock = some g → u.ownBlock = some g → False := fun j g hj hne ej eu => by
      rcases hb g eu with k | k
      · exact hne (h5 j i g hj hi ej k)
      · have := h.lt g (h4 j g hj ej).2
        omega
    by_cases ej : j = i
    · by_cases ek : k = i
      · rw [ej, ek]
      · rw [ej, upd_self] at e1
        rw [upd_ne ek] at e2
        exact (H k g hk ek e2 e1).elim
    · by_cases ek : k = i
      · rw [upd_ne ej] at e1
        rw [ek, upd_self] at e2
        exact (H j g hj ej e1 e2).elim
      · rw [upd_ne ej] at e1
        rw [upd_ne ek] at e2
        exact h5 j k g hj hk e1 e2
  · rcases List.mem_append.1 hk with k1 | k1
    · exact .inl k1
    · rcases hb k (by simpa using k1) with k2 | k2
      · exact .inl (h4 i k hi k2).2
      · exact .inr k2
  · exact ((Fr.refl S w).grown hg fun k e => (h4 i k hi e).2).setCell _ _ h.rS
theorem grown_refl (w : World) (o : Option Nat) : w.grownBy w o := ⟨rfl, rfl, rfl, Nat.le_refl _, fun _ _ _ => rfl⟩
theorem Lv.trans {r : Nat} {S : List Nat} {c c' : Nat → Pp} {a b d : World} (h : Lv r S c a b) (k : ∀ S', PsM r S' c b → Lv r S' c' b d) : Lv r S c' a d := by
  obtain ⟨S1, h1, h2, h3⟩ := h.ex
  obtain ⟨S2, k1, k2, k3⟩ := (k S1 h1).ex
  refine ⟨S2, k1, fun x hx => ?_, ⟨h3.1.trans k3.1, fun x hx hS => ?_⟩⟩
  · rcases k2 x hx with e | e
    · exact h2 x e
    · exact .inr (Nat.le_trans h3.1.size e)
  · refine (k3.2 x (Nat.lt_of_lt_of_le hx h3.1.size) fun e => ?_).trans (h3.2 x hx hS)
    rcases h2 x e with e' | e'
    · exact hS e'
    · omega
theorem PsM.lset {r : Nat} {S : List Nat} {c : Nat → Pp} {w : World} (h : PsM r S c w) {i : Nat} (hi : i < 16) (k : Nat) (hk : k < 5) (x : Value) (p : Pp) (hp : p.out = (c i).out)
    (hx : ∀ cs v, Cn cs (i * 5) (c i) v → Cn (cs.setIfInBounds (i * 5 + k) x) (i * 5) p v) : Lv r S (upd c i p) w (w.setCell ⟨r, i * 5 + k, none⟩ x) :=
  ⟨S, h.set hi k hk x p hp hx, fun _ e => .inl e, (Fr.refl S w).setCell _ _ h.rS⟩
/-- A connection that was just opened. -/
def p1 : Pp := ⟨true, false, false, 0, ⟨#[]⟩⟩
theorem open_lies {r : Nat} {S : List Nat} {c : Nat → Pp} {w : World} (h : PsM r S c w) {i : Nat} (hi : i < 16) :
    Lv r S (upd c i p1) w (((((w.setCell ⟨r, i * 5, none⟩ (.bool true)).setCell ⟨r, i * 5 + 1, none⟩ (.bool false)).setCell ⟨r, i * 5 + 2, none⟩ (.bool false)).setCell ⟨r, i * 5 + 3, none⟩ (.int .i64 0)).setCell ⟨r, i * 5 + 4, none⟩ (.slice none 0 0)) := by
  have a1 := h.lset hi 0 (by omega) (.bool true) { c i with op := true } rfl fun cs v h => h.op true
  refine a1.trans fun S1 k1 => ?_
  have a2 := k1.lset hi 1 (by omega) (.bool false) { c i with op := true, bk := false } (by rw [upd_self]) fun cs v h => by rw [upd_self] at h; exact h.bk false
  rw [upd_upd] at a2
  refine a2.trans fun S2 k2 => ?_
  have a3 := k2.lset hi 2 (by omega) (.bool false) { c i with op := true, bk := false, br := false } (by rw [upd_self]) fun cs v h => by rw [upd_self] at h; exact h.br false
  rw [upd_upd] at a3
  refine a3.trans fun S3 k3 => ?_
  have a4 := k3.lset hi 3 (by omega) (.int .i64 0) { c i with op := true, bk := false, br := false, lf := 0 } (by rw [upd_self]) fun cs v h => by rw [upd_self] at h; exact h.lf 0
  rw [upd_upd] at a4
  refine a4.trans fun S4 k4 => ?_
  obtain ⟨_, _, _, _, v, hv, _⟩ := k4.cells hi
  have a5 := k4.put (s := ⟨#[]⟩) (u := .slice none 0 0) hi hv (grown_refl _ _) (World.ownsRow_nil _ _ _ _) (fun g e => by cases e)
  rw [upd_upd, upd_self] at a5
  exact a5
set_option maxHeartbeats 1000000 in
theorem open_ok (r i : Nat) (S : List Nat) (c : Nat → Pp) (w : World) (h : PsM r S c w) (hi : i < 16) (h1 : (c i).op = false) :
    Calls Try.prog 18 #[.pointer (some ⟨r, 0, none⟩), .int .i64 (i : Int)] w fun e w' => e = .returned (.int .i64 0) ∧ Lv r S (upd c i p1) w w' := by
  have HL : Hid (Lv r S (upd c i p1) w _) := open_lies h hi
  have H := fun W => conn_any r i W hi
  obtain ⟨k0, k1, k2, k3, v, k4, _⟩ := h.cells hi
  obtain ⟨o, ho⟩ : ∃ o, i * 5 = o := ⟨_, rfl⟩
  have fz := h.fz
  simp only [ho, h1] at HL H k0 k1 k2 k3 k4
  clear h hi ho h1
  go_enter Try.func18, Try.ntmps18
  go_wp2_with (go_at_call 27; refine (H w).mono ?_; rintro e w1 ⟨rfl, rfl⟩)
  go_ret
  exact ⟨rfl, HL.out⟩
theorem break_nil (id n : Int) (w : World) : Calls Try.prog 19 #[.pointer none, .int .i64 id, .int .i64 n] w fun e w' => e = .returned (.int .i64 1) ∧ w' = w := by
  go_enter Try.func19, Try.ntmps19
  go_wp2_with (go_at_call 28; refine (whole_nil id w).mono ?_; rintro e w1 ⟨rfl, rfl⟩)
  go_ret
  exact ⟨rfl, rfl⟩
theorem break_bad (r : Nat) (id n : Int) (w : World) (h : ¬ (0 ≤ id ∧ id < 16)) : Calls Try.prog 19 #[.pointer (some ⟨r, 0, none⟩), .int .i64 id, .int .i64 n] w fun e w' => e = .returned (.int .i64 1) ∧ w' = w := by
  have H := fun W => whole_bad r id W h
  clear h
  go_enter Try.func19, Try.ntmps19
  go_wp2_with (go_at_call 28; refine (H w).mono ?_; rintro e w1 ⟨rfl, rfl⟩)
  go_ret
  exact ⟨rfl, rfl⟩
theorem break_gone (r i : Nat) (n : Int) (S : List Nat) (c : Nat → Pp) (w : World) (h : PsM r S c w) (hi : i < 16) (h1 : (c i).op = false ∨ (c i).bk = true) :
    Calls Try.prog 19 #[.pointer (some ⟨r, 0, none⟩), .int .i64 (i : Int), .int .i64 n] w fun e w' => e = .returned (.int .i64 12) ∧ w' = w := by
  have H := whole_gone r i S c w h hi h1
  clear h h1
  go_enter Try.func19, Try.ntmps19
  go_wp2_with (go_at_call 28; refine H.mono ?_; rintro e w1 ⟨rfl, rfl⟩)
  go_ret
  exact ⟨rfl, rfl⟩
theorem break_lies {r : Nat} {S : List Nat} {c : Nat → Pp} {w : World} (h : PsM r S c w) {i : Nat} (hi : i < 16) (b : Bool) (n : Int) :
    Lv r S (upd c i { c i with br := b, lf := n }) w ((w.setCell ⟨r, i * 5 + 2, none⟩ (.bool b)).setCell ⟨r, i * 5 + 3, none⟩ (.int .i64 n)) := by
  have a3 := h.lset hi 2 (by omega) (.bool b) { c i with br := b } rfl fun cs v h => h.br b
  refine a3.trans fun S3 k3 => ?_
  have a4 := k3.lset hi 3 (by omega) (.int .i64 n) { c i with br := b, lf := n } (by rw [upd_self]) fun cs v h => by rw [upd_self] at h; exact h.lf n
  rw [upd_upd] at a4
  exact a4
set_option maxHeartbeats 1000000 in
theorem break_ok (r i : Nat) (n : Int) (S : List Nat) (c : Nat → Pp) (w : World) (h : PsM r S c w) (hi : i < 16) (h1 : (c i).op = true) (h2 : (c i).bk = false) :
    Calls Try.prog 19 #[.pointer (some ⟨r, 0, none⟩), .int .i64 (i : Int), .int .i64 n] w fun e w' => e = .returned (.int .i64 0) ∧ Lv r S (upd c i { c i with br := decide (0 ≤ n), lf := n }) w w' := by
  have HL : Hid (Lv r S (upd c i { c i with br := decide (0 ≤ n), lf := n }) w _) := break_lies h hi (decide (0 ≤ n)) n
  have H := whole_ok r i S c w h hi h1 h2
  obtain ⟨k0, k1, k2, k3, v, k4, _⟩ := h.cells hi
  obtain ⟨o, ho⟩ : ∃ o, i * 5 = o := ⟨_, rfl⟩
  have fz := h.fz
  simp only [ho] at HL H k0 k1 k2 k3 k4
  clear h hi ho h1 h2
  go_enter Try.func19, Try.ntmps19
  go_wp2_with (go_at_call 28; refine H.mono ?_; rintro e w1 ⟨rfl, rfl⟩)
  go_ret
  exact ⟨rfl, HL.out⟩
theorem close_nil (id : Int) (w : World) : Calls Try.prog 21 #[.pointer none, .int .i64 id] w fun e w' => e = .returned (.int .i64 1) ∧ w' = w := by
  go_enter Try.func21, Try.ntmps21
  go_wp2_with (go_at_call 27; refine (conn_nil id w).mono ?_; rintro e w1 ⟨rfl, rfl⟩)
  go_ret
  exact ⟨rfl, rfl⟩
theorem close_bad (r : Nat) (id : Int) (w : World) (h : ¬ (0 ≤ id ∧ id < 16)) : Calls Try.prog 21 #[.pointer (some ⟨r, 0, none⟩), .int .i64 id] w fun e w' => e = .returned (.int .i64 1) ∧ w' = w := by
  have H := fun W => conn_bad r id W h
  clear h
  go_enter Try.func21, Try.ntmps21
  go_wp2_with (go_at_call 27; refine (H w).mono ?_; rintro e w1 ⟨rfl, rfl⟩)
  go_ret
  exact ⟨rfl, rfl⟩
theorem close_gone (r i : Nat) (S : List Nat) (c : Nat → Pp) (w : World) (h : PsM r S c w) (hi : i < 16) (h1 : (c i).op = false) :
    Calls Try.prog 21 #[.pointer (some ⟨r, 0, none⟩), .int .i64 (i : Int)] w fun e w' => e = .returned (.int .i64 12) ∧ w' = w := by
  have H := fun W => conn_any r i W hi
  obtain ⟨k0, _⟩ := h.cells hi
  obtain ⟨o, ho⟩ : ∃ o, i * 5 = o := ⟨_, rfl⟩
  simp only [ho, h1] at H k0 ⊢
  clear h hi ho h1
  go_enter Try.func21, Try.ntmps21
  go_wp2_with (go_at_call 27; refine (H w).mono ?_; rintro e w1 ⟨rfl, rfl⟩)
  go_ret
  exact ⟨rfl, rfl⟩
set_option maxHeartbeats 1000000 in
theorem close_ok (r i : Nat) (S : List Nat) (c : Nat → Pp) (w : World) (h : PsM r S c w) (hi : i < 16) (h1 : (c i).op = true) :
    Calls Try.prog 21 #[.pointer (some ⟨r, 0, none⟩), .int .i64 (i : Int)] w fun e w' => e = .returned (.int .i64 0) ∧ Lv r S (upd c i { c i with op := false }) w w' := by
  have HL : Hid (Lv r S (upd c i { c i with op := false }) w _) := h.lset hi 0 (by omega) (.bool false) { c i with op := false } rfl fun cs v h => h.op false
  have H := fun W => conn_any r i W hi
  obtain ⟨k0, k1, k2, k3, v, k4, _⟩ := h.cells hi
  obtain ⟨o, ho⟩ : ∃ o, i * 5 = o := ⟨_, rfl⟩
  have fz := h.fz
  simp only [ho, h1] at HL H k0 k1 k2 k3 k4
  clear h hi ho h1
  go_enter Try.func21, Try.ntmps21
  go_wp2_with (go_at_call 27; refine (H w).mono ?_; rintro e w1 ⟨rfl, rfl⟩)
  go_ret
  exact ⟨rfl, HL.out⟩
end Go.Proofs.Yteejehbgmkanpaa
