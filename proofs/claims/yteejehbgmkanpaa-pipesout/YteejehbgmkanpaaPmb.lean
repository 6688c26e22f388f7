/-
  The contracts of New, connection, whole, Open, Close, Break, Is and Whole over this program.
-/
import Derived.Test.YteejehbgmkanpaaPma
namespace Go.Proofs.Yteejehbgmkanpaa
open Go Go.RowKit
theorem conn_nil (id : Int) (w : World) : Calls Try.prog 27 #[.pointer none, .int .i64 id] w fun e w' => e = .returned (.pointer none) ∧ w' = w := by
  go_enter Try.func27, Try.ntmps27
  go_wp2_with fail
  go_ret
  exact ⟨rfl, rfl⟩
theorem conn_bad (r : Nat) (id : Int) (w : World) (h : ¬ (0 ≤ id ∧ id < 16)) : Calls Try.prog 27 #[.pointer (some ⟨r, 0, none⟩), .int .i64 id] w fun e w' => e = .returned (.pointer none) ∧ w' = w := by
  by_cases h0 : id < 0
  · clear h
    go_enter Try.func27, Try.ntmps27
    go_wp2_with fail
    go_ret
    exact ⟨rfl, rfl⟩
  · have h1 : 16 ≤ id := by omega
    have h2 : ¬ id < 16 := by omega
    clear h
    go_enter Try.func27, Try.ntmps27
    go_wp2_with fail
    go_ret
    exact ⟨rfl, rfl⟩
theorem conn_any (r i : Nat) (w : World) (hi : i < 16) : Calls Try.prog 27 #[.pointer (some ⟨r, 0, none⟩), .int .i64 (i : Int)] w fun e w' => e = .returned (.pointer (some ⟨r, i * 5, none⟩)) ∧ w' = w := by
  have h0 : ¬ (i : Int) < 0 := by omega
  have h1 : ¬ 16 ≤ (i : Int) := by omega
  have h2 : (i : Int) < 16 := by omega
  have h3 : (0 : Int) ≤ (i : Int) := by omega
  go_enter Try.func27, Try.ntmps27
  go_wp2_with fail
  go_ret
  exact ⟨rfl, rfl⟩
def z56 : Array Value := ((List.replicate 16 [Value.bool false, Value.bool false, Value.bool false, Value.int .i64 0, Value.slice none 0 0]).flatten).toArray
theorem zero56 (w : World) : (zeroValue 56).run Try.prog w = .ok (.agg z56) w := by kernel_rfl
/-- A connection that was never opened. -/
def p0 : Pp := ⟨false, false, false, 0, ⟨#[]⟩⟩
theorem z56_cn (i : Nat) (hi : i < 16) : Cn z56 (i * 5) p0 (.slice none 0 0) := by
  have H : ∀ i, i < 16 → z56[i * 5]? = some (.bool false) ∧ z56[i * 5 + 1]? = some (.bool false) ∧ z56[i * 5 + 2]? = some (.bool false) ∧ z56[i * 5 + 3]? = some (.int .i64 0) ∧ z56[i * 5 + 4]? = some (.slice none 0 0) := by
    intro i hi
    match i, hi with
    | 0, _ | 1, _ | 2, _ | 3, _ | 4, _ | 5, _ | 6, _ | 7, _ | 8, _ | 9, _ | 10, _ | 11, _ | 12, _ | 13, _ | 14, _ | 15, _ => exact ⟨rfl, rfl, rfl, rfl, rfl⟩
    | n + 16, h => omega
  exact H i hi
theorem PsM.made (w : World) : PsM w.heap.size [w.heap.size] (fun _ => p0) (w.alloc (.cells z56 56 (0, 0))) :=
  ⟨List.mem_singleton.2 rfl, fun k hk => by rw [List.mem_singleton.1 hk]; simp, z56, fun _ => .slice none 0 0, heap_alloc_new w _, z56_cn, fun _ _ => World.ownsRow_nil _ _ _ _, fun _ _ _ h => (by cases h), fun _ _ _ _ _ h => (by cases h)⟩
theorem new_any (w : World) : Calls Try.prog 9 #[] w fun e w' => e = .returned (.pointer (some ⟨w.heap.size, 0, none⟩)) ∧ w' = w.alloc (.cells z56 56 (0, 0)) := by
  have hz := zero56
  go_enter Try.func9, Try.ntmps9
  go_wp2_with fail
  go_ret
  exact ⟨rfl, rfl⟩
theorem whole_nil (id : Int) (w : World) : Calls Try.prog 28 #[.pointer none, .int .i64 id] w fun e w' => e = .returned (.tuple #[.pointer none, .int .i64 1]) ∧ w' = w := by
  go_enter Try.func28, Try.ntmps28
  go_wp2_with (go_at_call 27; refine (conn_nil id w).mono ?_; rintro e w1 ⟨rfl, rfl⟩)
  go_ret2
  exact ⟨rfl, rfl⟩
theorem whole_bad (r : Nat) (id : Int) (w : World) (h : ¬ (0 ≤ id ∧ id < 16)) : Calls Try.prog 28 #[.pointer (some ⟨r, 0, none⟩), .int .i64 id] w fun e w' => e = .returned (.tuple #[.pointer none, .int .i64 1]) ∧ w' = w := by
  have H := fun W => conn_bad r id W h
  clear h
  go_enter Try.func28, Try.ntmps28
  go_wp2_with (go_at_call 27; refine (H w).mono ?_; rintro e w1 ⟨rfl, rfl⟩)
  go_ret2
  exact ⟨rfl, rfl⟩
theorem whole_ok (r i : Nat) (S : List Nat) (c : Nat → Pp) (w : World) (h : PsM r S c w) (hi : i < 16) (h1 : (c i).op = true) (h2 : (c i).bk = false) :
    Calls Try.prog 28 #[.pointer (some ⟨r, 0, none⟩), .int .i64 (i : Int)] w fun e w' => e = .returned (.tuple #[.pointer (some ⟨r, i * 5, none⟩), .int .i64 0]) ∧ w' = w := by
  have H := fun W => conn_any r i W hi
  obtain ⟨k0, k1, _⟩ := h.cells hi
  rw [h1] at k0
  rw [h2] at k1
  clear h hi h1 h2
  obtain ⟨o, ho⟩ : ∃ o, i * 5 = o := ⟨_, rfl⟩
  simp only [ho] at H k0 k1 ⊢
  clear ho
  go_enter Try.func28, Try.ntmps28
  go_wp2_with (go_at_call 27; refine (H w).mono ?_; rintro e w1 ⟨rfl, rfl⟩)
  go_ret2
  exact ⟨rfl, rfl⟩
theorem whole_gone (r i : Nat) (S : List Nat) (c : Nat → Pp) (w : World) (h : PsM r S c w) (hi : i < 16) (h1 : (c i).op = false ∨ (c i).bk = true) :
    Calls Try.prog 28 #[.pointer (some ⟨r, 0, none⟩), .int .i64 (i : Int)] w fun e w' => e = .returned (.tuple #[.pointer none, .int .i64 12]) ∧ w' = w := by
  have H := fun W => conn_any r i W hi
  obtain ⟨k0, k1, _⟩ := h.cells hi
  obtain ⟨o, ho⟩ : ∃ o, i * 5 = o := ⟨_, rfl⟩
  simp only [ho] at H k0 k1 ⊢
  clear h hi ho
  by_cases h2 : (c i).op = false
  · rw [h2] at k0
    clear h1 k1 h2
    go_enter Try.func28, Try.ntmps28
    go_wp2_with (go_at_call 27; refine (H w).mono ?_; rintro e w1 ⟨rfl, rfl⟩)
    go_ret2
    exact ⟨rfl, rfl⟩
  · have h3 : (c i).bk = true := h1.resolve_left h2
    rw [eq_true_of_ne_false h2] at k0
    rw [h3] at k1
    clear h1 h2 h3
    go_enter Try.func28, Try.ntmps28
    go_wp2_with (go_at_call 27; refine (H w).mono ?_; rintro e w1 ⟨rfl, rfl⟩)
    go_ret2
    exact ⟨rfl, rfl⟩
/-- May it be written to? -/
def Pp.wh (p : Pp) : Bool := p.op && !p.bk
theorem isWhole_nil (id : Int) (w : World) : Calls Try.prog 15 #[.pointer none, .int .i64 id] w fun e w' => e = .returned (.bool false) ∧ w' = w := by
  go_enter Try.func15, Try.ntmps15
  go_wp2_with (go_at_call 28; refine (whole_nil id w).mono ?_; rintro e w1 ⟨rfl, rfl⟩)
  go_ret
  exact ⟨rfl, rfl⟩
theorem isWhole_any (r i : Nat) (S : List Nat) (c : Nat → Pp) (w : World) (h : PsM r S c w) (hi : i < 16) :
    Calls Try.prog 15 #[.pointer (some ⟨r, 0, none⟩), .int .i64 (i : Int)] w fun e w' => e = .returned (.bool (c i).wh) ∧ w' = w := by
  unfold Pp.wh
  by_cases h1 : (c i).op = true ∧ (c i).bk = false
  · have H := whole_ok r i S c w h hi h1.1 h1.2
    rw [h1.1, h1.2]
    clear h1 h hi
    go_enter Try.func15, Try.ntmps15
    go_wp2_with (go_at_call 28; refine H.mono ?_; rintro e w1 ⟨rfl, rfl⟩)
    go_ret
    exact ⟨rfl, rfl⟩
  · have h2 : (c i).op = false ∨ (c i).bk = true := by
      cases hop : (c i).op <;> cases hbk : (c i).bk <;> simp_all
    have H := whole_gone r i S c w h hi h2
    have e : ((c i).op && !(c i).bk) = false := by
      rcases h2 with h | h <;> rw [h] <;> simp
    rw [e]
    clear h1 h hi h2 e
    go_enter Try.func15, Try.ntmps15
    go_wp2_with (go_at_call 28; refine H.mono ?_; rintro e w1 ⟨rfl, rfl⟩)
    go_ret
    exact ⟨rfl, rfl⟩
theorem is_nil (id : Int) (w : World) : Calls Try.prog 14 #[.pointer none, .int .i64 id] w fun e w' => e = .returned (.bool false) ∧ w' = w := by
  go_enter Try.func14, Try.ntmps14
  go_wp2_with (go_at_call 27; refine (conn_nil id w).mono ?_; rintro e w1 ⟨rfl, rfl⟩)
  go_ret
  exact ⟨rfl, rfl⟩
theorem is_bad (r : Nat) (id : Int) (w : World) (h : ¬ (0 ≤ id ∧ id < 16)) : Calls Try.prog 14 #[.pointer (some ⟨r, 0, none⟩), .int .i64 id] w fun e w' => e = .returned (.bool false) ∧ w' = w := by
  have H := fun W => conn_bad r id W h
  clear h
  go_enter Try.func14, Try.ntmps14
  go_wp2_with (go_at_call 27; refine (H w).mono ?_; rintro e w1 ⟨rfl, rfl⟩)
  go_ret
  exact ⟨rfl, rfl⟩
theorem is_any (r i : Nat) (S : List Nat) (c : Nat → Pp) (w : World) (h : PsM r S c w) (hi : i < 16) :
    Calls Try.prog 14 #[.pointer (some ⟨r, 0, none⟩), .int .i64 (i : Int)] w fun e w' => e = .returned (.bool (c i).op) ∧ w' = w := by
  have H := fun W => conn_any r i W hi
  obtain ⟨k0, _⟩ := h.cells hi
  obtain ⟨o, ho⟩ : ∃ o, i * 5 = o := ⟨_, rfl⟩
  obtain ⟨b, hb⟩ : ∃ b, (c i).op = b := ⟨_, rfl⟩
  simp only [ho, hb] at H k0 ⊢
  clear h hi ho hb
  go_enter Try.func14, Try.ntmps14
  go_wp2_with (go_at_call 27; refine (H w).mono ?_; rintro e w1 ⟨rfl, rfl⟩)
  go_ret
  exact ⟨rfl, rfl⟩
/-- What a call of the program's leaves: the same object, the blocks grown by new ones at most. -/
structure Lv (r : Nat) (S : List Nat) (c : Nat → Pp) (w w' : World) : Prop where
  ex : ∃ S', PsM r S' c w' ∧ (∀ k ∈ S', k ∈ S ∨ w.heap.size ≤ k) ∧ Fr S w w'
theorem Lv.refl {r : Nat} {S : List Nat} {c : Nat → Pp} {w : World} (h : PsM r S c w) : Lv r S c w w := ⟨S, h, fun _ hk => .inl hk, Fr.refl _ _⟩
theorem open_nil (id : Int) (w : World) : Calls Try.prog 18 #[.pointer none, .int .i64 id] w fun e w' => e = .returned (.int .i64 1) ∧ w' = w := by
  go_enter Try.func18, Try.ntmps18
  go_wp2_with (go_at_call 27; refine (conn_nil id w).mono ?_; rintro e w1 ⟨rfl, rfl⟩)
  go_ret
  exact ⟨rfl, rfl⟩
theorem open_bad (r : Nat) (id : Int) (w : World) (h : ¬ (0 ≤ id ∧ id < 16)) : Calls Try.prog 18 #[.pointer (some ⟨r, 0, none⟩), .int .i64 id] w fun e w' => e = .returned (.int .i64 1) ∧ w' = w := by
  have H := fun W => conn_bad r id W h
  clear h
  go_enter Try.func18, Try.ntmps18
  go_wp2_with (go_at_call 27; refine (H w).mono ?_; rintro e w1 ⟨rfl, rfl⟩)
  go_ret
  exact ⟨rfl, rfl⟩
theorem open_there (r i : Nat) (S : List Nat) (c : Nat → Pp) (w : World) (h : PsM r S c w) (hi : i < 16) (h1 : (c i).op = true) :
    Calls Try.prog 18 #[.pointer (some ⟨r, 0, none⟩), .int .i64 (i : Int)] w fun e w' => e = .returned (.int .i64 8) ∧ w' = w := by
  have H := fun W => conn_any r i W hi
  obtain ⟨k0, _⟩ := h.cells hi
  obtain ⟨o, ho⟩ : ∃ o, i * 5 = o := ⟨_, rfl⟩
  simp only [ho, h1] at H k0 ⊢
  clear h hi ho h1
  go_enter Try.func18, Try.ntmps18
  go_wp2_with (go_at_call 27; refine (H w).mono ?_; rintro e w1 ⟨rfl, rfl⟩)
  go_ret
  exact ⟨rfl, rfl⟩
end Go.Proofs.Yteejehbgmkanpaa
