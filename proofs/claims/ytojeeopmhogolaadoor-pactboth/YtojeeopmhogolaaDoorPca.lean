/-
  The contracts of Sees, Seen, sub, mirrored and Right over this program, at every side.
-/
import Derived.Test.YtojeeopmhogolaaDoorChecked
import Derived.Deep.QuietTactic
import Derived.BigQuiet
import Derived.WalkKit
import Derived.BigCall
import Derived.Below
import Derived.OwnWalk
import Derived.RegionTactic
import Derived.BigRegion
import Derived.Deep.RegionWith
import Derived.Deep.Draws
import Derived.Deep.RegionLaw
namespace Go.Proofs.YtojeeopmhogolaaDoor
open Go Go.RowKit
/-- The state of a side that sees, that is seen. -/
def subN : Bool → Bool → Int
  | false, false => 0
  | true, false => 1
  | false, true => 2
  | true, true => 3
theorem bw0 (w : World) (o : Obj) : Below w.heap.size w (w.alloc o) := (Below.refl _ _).alloc (Nat.le_refl _) o
set_option maxRecDepth 100000 in
theorem sees_any (p q a b : Bool) (w : World) : Calls Tryd.prog 14 #[.agg #[.int .i64 (subN p q), .bool a, .bool b]] w fun e w' => e = .returned (.bool p) ∧ Below w.heap.size w w' := by
  cases p <;> cases q <;>
  · simp only [subN]
    go_enter Tryd.func14, Tryd.ntmps14
    go_wp2_with fail
    go_ret
    exact ⟨rfl, bw0 _ _⟩
theorem sees_off (s : Int) (a b : Bool) (w : World) (h1 : ¬ s = 1) (h3 : ¬ s = 3) : Calls Tryd.prog 14 #[.agg #[.int .i64 s, .bool a, .bool b]] w fun e w' => e = .returned (.bool false) ∧ Below w.heap.size w w' := by
  have k1 : (s == 1) = false := by simp [h1]
  have k3 : (s == 3) = false := by simp [h3]
  go_enter Tryd.func14, Tryd.ntmps14
  go_wp2_with fail
  go_ret
  exact ⟨rfl, bw0 _ _⟩
theorem seen_any (p q a b : Bool) (w : World) : Calls Tryd.prog 15 #[.agg #[.int .i64 (subN p q), .bool a, .bool b]] w fun e w' => e = .returned (.bool q) ∧ Below w.heap.size w w' := by
  cases p <;> cases q <;>
  · simp only [subN]
    go_enter Tryd.func15, Tryd.ntmps15
    go_wp2_with fail
    go_ret
    exact ⟨rfl, bw0 _ _⟩
theorem seen_off (s : Int) (a b : Bool) (w : World) (h1 : ¬ s = 2) (h3 : ¬ s = 3) : Calls Tryd.prog 15 #[.agg #[.int .i64 s, .bool a, .bool b]] w fun e w' => e = .returned (.bool false) ∧ Below w.heap.size w w' := by
  have k1 : (s == 2) = false := by simp [h1]
  have k3 : (s == 3) = false := by simp [h3]
  go_enter Tryd.func15, Tryd.ntmps15
  go_wp2_with fail
  go_ret
  exact ⟨rfl, bw0 _ _⟩
theorem sub_any (p q : Bool) (w : World) : Calls Tryd.prog 26 #[.bool p, .bool q] w fun e w' => e = .returned (.int .i64 (subN p q)) ∧ w' = w := by
  cases p <;> cases q <;>
  · simp only [subN]
    go_enter Tryd.func26, Tryd.ntmps26
    go_wp2_with fail
    go_ret
    exact ⟨rfl, rfl⟩
set_option maxHeartbeats 1000000 in
theorem mirrored_any (p q a b : Bool) (w : World) : Calls Tryd.prog 27 #[.agg #[.int .i64 (subN p q), .bool a, .bool b]] w fun e w' => e = .returned (.agg #[.int .i64 (subN q p), .bool b, .bool a]) ∧ Below w.heap.size w w' := by
  cases p <;> cases q <;>
  · simp only [subN]
    go_enter Tryd.func27, Tryd.ntmps27
    go_wp2_with fail
    exact bodyPost_ret (v := .agg #[.int .i64 _, .bool b, .bool a]) (by simp [results, Tryd.results27, go_sem]) rfl ⟨rfl, ((bw0 _ _).alloc (by simp) _).alloc (by simp; omega) _⟩
end Go.Proofs.YtojeeopmhogolaaDoor
