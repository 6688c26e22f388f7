/-
  The contracts of the document's own functions over this program: Of, Do, Hear, Fit, and what a side is as the program has it.
-/
import Derived.Test.YtojeeopmhogolaaDoorPch
namespace Go.Proofs.YtojeeopmhogolaaDoor
open Go Go.RowKit Go.Sort
theorem blk4 {g : Nat} {x y z u : Value} {T : TypeId} {w : World} (h : Blk g #[x, y, z, u] T w) :
    w.cell? ⟨g, 0, none⟩ = some x ∧ w.cell? ⟨g, 1, none⟩ = some y ∧ w.cell? ⟨g, 2, none⟩ = some z ∧ w.cell? ⟨g, 3, none⟩ = some u ∧ w.frozen? ⟨g, 0, none⟩ = false ∧ w.frozen? ⟨g, 1, none⟩ = false ∧ w.frozen? ⟨g, 2, none⟩ = false ∧ w.frozen? ⟨g, 3, none⟩ = false :=
  ⟨h.cell 0, h.cell 1, h.cell 2, h.cell 3, h.fz 0, h.fz 1, h.fz 2, h.fz 3⟩
theorem below2 (w : World) (o o2 : Obj) : Below w.heap.size w ((w.alloc o).alloc o2) := (bw0 _ _).alloc (by simp) _
set_option maxHeartbeats 2000000 in
theorem of_any (p q a b : Bool) (w : World) : Calls Tryd.prog 10 #[.int .i64 (subN p q), .bool a, .bool b] w fun e w' => e = .returned (.tuple #[.agg #[.bool p, .bool q, .bool a, .bool b], .bool (okN p q a b)]) ∧ Below w.heap.size w w' := by
  cases p <;> cases q <;> cases a <;> cases b <;>
  · simp only [subN, okN]
    go_enter Tryd.func10, Tryd.ntmps10
    go_wp2_with fail
    exact bodyPost_ret (v := .tuple #[.agg #[.bool _, .bool _, .bool _, .bool _], .bool _]) (by simp [results, Tryd.results10, go_sem]) rfl ⟨rfl, below2 _ _ _⟩
theorem of_off (x : Int) (a b : Bool) (w : World) (h : ¬ x = 0 ∧ ¬ x = 1 ∧ ¬ x = 2 ∧ ¬ x = 3) : Calls Tryd.prog 10 #[.int .i64 x, .bool a, .bool b] w fun e w' => e = .returned (.tuple #[.agg #[.bool false, .bool false, .bool a, .bool b], .bool false]) ∧ Below w.heap.size w w' := by
  obtain ⟨h0, h1, h2, h3⟩ := h
  have x1 : (x == 1) = false := by simp [h1]
  have x2 : (x == 2) = false := by simp [h2]
  have x3 : (x == 3) = false := by simp [h3]
  by_cases hl : x < 0
  · have k0 : ¬ 0 ≤ x := by omega
    clear h0 h1 h2 h3
    go_enter Tryd.func10, Tryd.ntmps10
    go_wp2_with fail
    exact bodyPost_ret (v := .tuple #[.agg #[.bool _, .bool _, .bool _, .bool _], .bool _]) (by simp [results, Tryd.results10, go_sem]) rfl ⟨rfl, below2 _ _ _⟩
  · have k0 : 0 ≤ x := by omega
    have k1 : ¬ x ≤ 3 := by omega
    clear h0 h1 h2 h3 hl
    go_enter Tryd.func10, Tryd.ntmps10
    go_wp2_with fail
    exact bodyPost_ret (v := .tuple #[.agg #[.bool _, .bool _, .bool _, .bool _], .bool _]) (by simp [results, Tryd.results10, go_sem]) rfl ⟨rfl, below2 _ _ _⟩
theorem refSub_any (p q a b : Bool) (w : World) : Calls Tryd.prog 28 #[.agg #[.bool p, .bool q, .bool a, .bool b]] w fun e w' => e = .returned (.int .i64 (subN p q)) ∧ Below w.heap.size w w' := by
  cases p <;> cases q <;>
  · simp only [subN]
    go_enter Tryd.func28, Tryd.ntmps28
    go_wp2_with fail
    go_ret
    exact ⟨rfl, bw0 _ _⟩
set_option maxHeartbeats 2000000 in
theorem refDo1 (p q a b : Bool) (w : World) : Calls Tryd.prog 16 #[.agg #[.bool p, .bool q, .bool a, .bool b], .int .i64 1] w fun e w' => e = .returned (.tuple #[.agg #[.bool p, .bool q, .bool (!p), .bool b], .bool true, .bool true]) ∧ Below w.heap.size w w' := by
  · go_enter Tryd.func16, Tryd.ntmps16
    go_wp2_with fail
    exact bodyPost_ret (v := .tuple #[.agg #[.bool _, .bool _, .bool _, .bool _], .bool _, .bool _]) (by simp [results, Tryd.results16, go_sem]) rfl ⟨rfl, below2 _ _ _⟩
set_option maxHeartbeats 2000000 in
theorem refDo2 (p q a b : Bool) (w : World) : Calls Tryd.prog 16 #[.agg #[.bool p, .bool q, .bool a, .bool b], .int .i64 2] w fun e w' => e = .returned (.tuple #[.agg #[.bool p, .bool (q || b), .bool a, .bool false], .bool b, .bool true]) ∧ Below w.heap.size w w' := by
  cases b <;>
  · go_enter Tryd.func16, Tryd.ntmps16
    go_wp2_with fail
    exact bodyPost_ret (v := .tuple #[.agg #[.bool _, .bool _, .bool _, .bool _], .bool _, .bool _]) (by simp [results, Tryd.results16, go_sem]) rfl ⟨rfl, below2 _ _ _⟩
set_option maxHeartbeats 2000000 in
theorem refDo3 (p q a b : Bool) (w : World) : Calls Tryd.prog 16 #[.agg #[.bool p, .bool q, .bool a, .bool b], .int .i64 3] w fun e w' => e = .returned (.tuple #[.agg #[.bool false, .bool q, .bool false, .bool b], .bool (p || a), .bool true]) ∧ Below w.heap.size w w' := by
  cases p <;>
  · go_enter Tryd.func16, Tryd.ntmps16
    go_wp2_with fail
    exact bodyPost_ret (v := .tuple #[.agg #[.bool _, .bool _, .bool _, .bool _], .bool _, .bool _]) (by simp [results, Tryd.results16, go_sem]) rfl ⟨rfl, below2 _ _ _⟩
set_option maxHeartbeats 2000000 in
theorem refDo4 (p q a b : Bool) (w : World) : Calls Tryd.prog 16 #[.agg #[.bool p, .bool q, .bool a, .bool b], .int .i64 4] w fun e w' => e = .returned (.tuple #[.agg #[.bool p, .bool false, .bool a, .bool false], .bool (q || b), .bool true]) ∧ Below w.heap.size w w' := by
  cases q <;>
  · go_enter Tryd.func16, Tryd.ntmps16
    go_wp2_with fail
    exact bodyPost_ret (v := .tuple #[.agg #[.bool _, .bool _, .bool _, .bool _], .bool _, .bool _]) (by simp [results, Tryd.results16, go_sem]) rfl ⟨rfl, below2 _ _ _⟩
set_option maxHeartbeats 2000000 in
theorem refHear1 (p q a b : Bool) (w : World) : Calls Tryd.prog 17 #[.agg #[.bool p, .bool q, .bool a, .bool b], .int .i64 1] w fun e w' => e = .returned (.tuple #[.agg #[.bool p, .bool q, .bool a, .bool (if q then b else true)], .bool (!q && !b), .bool q, .bool true]) ∧ Below w.heap.size w w' := by
  cases q <;>
  · go_enter Tryd.func17, Tryd.ntmps17
    go_wp2_with fail
    exact bodyPost_ret (v := .tuple #[.agg #[.bool _, .bool _, .bool _, .bool _], .bool _, .bool _, .bool _]) (by simp [results, Tryd.results17, go_sem]) rfl ⟨rfl, below2 _ _ _⟩
set_option maxHeartbeats 2000000 in
theorem refHear2 (p q a b : Bool) (w : World) : Calls Tryd.prog 17 #[.agg #[.bool p, .bool q, .bool a, .bool b], .int .i64 2] w fun e w' => e = .returned (.tuple #[.agg #[.bool (p || a), .bool q, .bool false, .bool b], .bool a, .bool false, .bool true]) ∧ Below w.heap.size w w' := by
  cases a <;>
  · go_enter Tryd.func17, Tryd.ntmps17
    go_wp2_with fail
    exact bodyPost_ret (v := .tuple #[.agg #[.bool _, .bool _, .bool _, .bool _], .bool _, .bool _, .bool _]) (by simp [results, Tryd.results17, go_sem]) rfl ⟨rfl, below2 _ _ _⟩
set_option maxHeartbeats 2000000 in
theorem refHear3 (p q a b : Bool) (w : World) : Calls Tryd.prog 17 #[.agg #[.bool p, .bool q, .bool a, .bool b], .int .i64 3] w fun e w' => e = .returned (.tuple #[.agg #[.bool p, .bool false, .bool a, .bool false], .bool (q || b), .bool false, .bool true]) ∧ Below w.heap.size w w' := by
  cases q <;>
  · go_enter Tryd.func17, Tryd.ntmps17
    go_wp2_with fail
    exact bodyPost_ret (v := .tuple #[.agg #[.bool _, .bool _, .bool _, .bool _], .bool _, .bool _, .bool _]) (by simp [results, Tryd.results17, go_sem]) rfl ⟨rfl, below2 _ _ _⟩
set_option maxHeartbeats 2000000 in
theorem refHear4 (p q a b : Bool) (w : World) : Calls Tryd.prog 17 #[.agg #[.bool p, .bool q, .bool a, .bool b], .int .i64 4] w fun e w' => e = .returned (.tuple #[.agg #[.bool false, .bool q, .bool false, .bool b], .bool (p || a), .bool false, .bool true]) ∧ Below w.heap.size w w' := by
  cases p <;>
  · go_enter Tryd.func17, Tryd.ntmps17
    go_wp2_with fail
    exact bodyPost_ret (v := .tuple #[.agg #[.bool _, .bool _, .bool _, .bool _], .bool _, .bool _, .bool _]) (by simp [results, Tryd.results17, go_sem]) rfl ⟨rfl, below2 _ _ _⟩
theorem refDo_no (p q a b : Bool) (act : Int) (h : NoAct act) (w : World) : Calls Tryd.prog 16 #[.agg #[.bool p, .bool q, .bool a, .bool b], .int .i64 act] w fun e w' => e = .returned (.tuple #[.agg #[.bool false, .bool false, .bool false, .bool false], .bool false, .bool false]) ∧ Below w.heap.size w w' := by
  obtain ⟨h1, h2, h3, h4⟩ := h
  have x1 : (act == 1) = false := by simp [h1]
  have x2 : (act == 2) = false := by simp [h2]
  have x3 : (act == 3) = false := by simp [h3]
  have x4 : (act == 4) = false := by simp [h4]
  clear h1 h2 h3 h4
  go_enter Tryd.func16, Tryd.ntmps16
  go_wp2_with fail
  exact bodyPost_ret (v := .tuple #[.agg #[.bool false, .bool false, .bool false, .bool false], .bool false, .bool false]) (by simp [results, Tryd.results16, go_sem]) rfl ⟨rfl, below2 _ _ _⟩
theorem refHear_no (p q a b : Bool) (act : Int) (h : NoAct act) (w : World) : Calls Tryd.prog 17 #[.agg #[.bool p, .bool q, .bool a, .bool b], .int .i64 act] w fun e w' => e = .returned (.tuple #[.agg #[.bool false, .bool false, .bool false, .bool false], .bool false, .bool false, .bool false]) ∧ Below w.heap.size w w' := by
  obtain ⟨h1, h2, h3, h4⟩ := h
  have x1 : (act == 1) = false := by simp [h1]
  have x2 : (act == 2) = false := by simp [h2]
  have x3 : (act == 3) = false := by simp [h3]
  have x4 : (act == 4) = false := by simp [h4]
  clear h1 h2 h3 h4
  go_enter Tryd.func17, Tryd.ntmps17
  go_wp2_with fail
  exact bodyPost_ret (v := .tuple #[.agg #[.bool false, .bool false, .bool false, .bool false], .bool false, .bool false, .bool false]) (by simp [results, Tryd.results17, go_sem]) rfl ⟨rfl, below2 _ _ _⟩
def Sd.ref (s : Sd) : Value := .agg #[.bool s.p, .bool s.q, .bool s.a, .bool s.b]
theorem refDo_any (k : Nat) (hk : 1 ≤ k ∧ k ≤ 4) (s : Sd) (w : World) : Calls Tryd.prog 16 #[s.ref, .int .i64 (k : Int)] w fun e w' => e = .returned (.tuple #[(doS k s).ref, .bool (doT k s), .bool true]) ∧ Below w.heap.size w w' := by
  have hc : k = 1 ∨ k = 2 ∨ k = 3 ∨ k = 4 := by omega
  obtain ⟨p, q, a, b⟩ := s
  rcases hc with rfl | rfl | rfl | rfl
  · exact refDo1 p q a b w
  · exact refDo2 p q a b w
  · exact refDo3 p q a b w
  · exact refDo4 p q a b w
/-- What the document's Hear answers, of any side. -/
def heR (k : Nat) (s : Sd) : Sd := if k = 1 then ⟨s.p, s.q, s.a, if s.q then s.b else true⟩ else heS k s
theorem heR_eq (k : Nat) (s : Sd) (h : s.ok = true) : heR k s = heS k s := by
  unfold heR
  split
  case isTrue h1 =>
    subst h1
    obtain ⟨p, q, a, b⟩ := s
    cases p <;> cases q <;> cases a <;> cases b <;> first | rfl | (exact absurd h (by decide))
  case isFalse => rfl
theorem refHear_any (k : Nat) (hk : 1 ≤ k ∧ k ≤ 4) (s : Sd) (w : World) : Calls Tryd.prog 17 #[s.ref, .int .i64 (k : Int)] w fun e w' => e = .returned (.tuple #[(heR k s).ref, .bool (heT k s), .bool (heE k s), .bool true]) ∧ Below w.heap.size w w' := by
  have hc : k = 1 ∨ k = 2 ∨ k = 3 ∨ k = 4 := by omega
  obtain ⟨p, q, a, b⟩ := s
  rcases hc with rfl | rfl | rfl | rfl
  · exact refHear1 p q a b w
  · exact refHear2 p q a b w
  · exact refHear3 p q a b w
  · exact refHear4 p q a b w
end Go.Proofs.YtojeeopmhogolaaDoor
