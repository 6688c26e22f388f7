/-
  The contracts of the small functions of package signs over this program: mayBe, isBroken, isLetter, isLater, and of unicode/utf8.FullRuneInString: what each returns, for every argument.
-/
import Derived.Test.YthekdgnikkjpdaaGreatDoorBuild
import Derived.Test.YthekdgnikkjpdaaGreatDoorMathc
import Derived.Deep.QuietTactic
import Derived.BigQuiet
import Derived.Shelf.Unicode.DecodeSlow
namespace Go.Proofs.YthekdgnikkjpdaaGreatDoor
open Go.RowKit

theorem ret_bool {a b : Bool} (h : a = b) : Ending.returned (.bool a) = .returned (.bool b) := by rw [h]
def mayI (r : Int) : Bool := r == 9 || r == 10 || r == 13 || (r != 65534 && r != 65535 && decide (32 ≤ r))
set_option maxHeartbeats 400000 in
theorem mayBe_any (r : Int) (w : World) :
    Calls Tryz.prog 51 #[.int .i32 r] w fun e w' => e = .returned (.bool (mayI r)) ∧ w' = w := by
  by_cases h1 : r = 9
  · subst h1; go_enter Tryz.func51, Tryz.ntmps51; go_wp2; go_ret; exact ⟨rfl, rfl⟩
  by_cases h2 : r = 10
  · subst h2; go_enter Tryz.func51, Tryz.ntmps51; go_wp2; go_ret; exact ⟨rfl, rfl⟩
  by_cases h3 : r = 13
  · subst h3; go_enter Tryz.func51, Tryz.ntmps51; go_wp2; go_ret; exact ⟨rfl, rfl⟩
  by_cases h4 : r = 65534
  · subst h4; go_enter Tryz.func51, Tryz.ntmps51; go_wp2; go_ret; exact ⟨rfl, rfl⟩
  by_cases h5 : r = 65535
  · subst h5; go_enter Tryz.func51, Tryz.ntmps51; go_wp2; go_ret; exact ⟨rfl, rfl⟩
  have e1 : (r == 9) = false := by simp [h1]
  have e2 : (r == 10) = false := by simp [h2]
  have e3 : (r == 13) = false := by simp [h3]
  have e4 : (r == 65534) = false := by simp [h4]
  have e5 : (r == 65535) = false := by simp [h5]
  go_enter Tryz.func51, Tryz.ntmps51
  go_wp2
  go_ret
  refine ⟨ret_bool ?_, rfl⟩
  unfold mayI
  rw [e1, e2, e3]
  simp [bne, e4, e5]

set_option maxHeartbeats 400000 in
theorem isBroken_any (s : ByteArray) (r : Int) (w : World) :
    Calls Tryz.prog 49 #[.string s, .int .i32 r] w fun e w' => e = .returned (.bool (decide (r = 65533) && !Lib.hasPrefix s.data.toList [239, 191, 189])) ∧ w' = w := by
  by_cases h1 : r = 65533
  · subst h1
    go_enter Tryz.func49, Tryz.ntmps49
    go_wp2_with (go_at_call 62; refine (Tryz.strings_HasPrefix _ _ _).mono ?_; rintro e w' ⟨rfl, rfl⟩)
    go_ret
    exact ⟨ret_bool (by simp), rfl⟩
  · have e1 : (r == 65533) = false := by simp [h1]
    go_enter Tryz.func49, Tryz.ntmps49
    go_wp2_with (go_at_call 62; refine (Tryz.strings_HasPrefix _ _ _).mono ?_; rintro e w' ⟨rfl, rfl⟩)
    go_ret
    exact ⟨ret_bool (by simp [h1]), rfl⟩
def letZ (r : Int) : Bool := decide (97 ≤ r) && decide (r ≤ 122)
def latZ (r : Int) : Bool := (decide (48 ≤ r) && decide (r ≤ 57)) || r == 45 || r == 58
set_option maxHeartbeats 400000 in
theorem isLetter_any (r : Int) (w : World) :
    Calls Tryz.prog 37 #[.int .i32 r] w fun e w' => e = .returned (.bool (letZ r)) ∧ w' = w := by
  by_cases h : 97 ≤ r
  all_goals
    go_enter Tryz.func37, Tryz.ntmps37
    go_wp2
    go_ret
    exact ⟨ret_bool (by unfold letZ; rw [Bool.eq_iff_iff]; simp; try omega), rfl⟩
set_option maxHeartbeats 400000 in
theorem isLater_any (r : Int) (w : World) :
    Calls Tryz.prog 38 #[.int .i32 r] w fun e w' => e = .returned (.bool (latZ r)) ∧ w' = w := by
  by_cases h : 48 ≤ r
  · by_cases h' : r ≤ 57
    · go_enter Tryz.func38, Tryz.ntmps38
      go_wp2
      go_ret
      exact ⟨ret_bool (by simp [latZ, h, h']), rfl⟩
    · by_cases h2 : r = 45
      · omega
      have e2 : (r == 45) = false := by simp [h2]
      go_enter Tryz.func38, Tryz.ntmps38
      go_wp2
      go_ret
      exact ⟨ret_bool (by simp [latZ, h2]; omega), rfl⟩
  · by_cases h2 : r = 45
    · subst h2
      go_enter Tryz.func38, Tryz.ntmps38
      go_wp2
      go_ret
      exact ⟨ret_bool (by simp [latZ]), rfl⟩
    have e2 : (r == 45) = false := by simp [h2]
    go_enter Tryz.func38, Tryz.ntmps38
    go_wp2
    go_ret
    exact ⟨ret_bool (by simp [latZ, h2]; omega), rfl⟩
end Go.Proofs.YthekdgnikkjpdaaGreatDoor
