/-
  The contracts of the small functions of package signs over this program: mayBe, isBroken, isLetter, isLater, and of unicode/utf8.FullRuneInString: what each returns, for every argument.
-/
import Derived.Test.YtmmkfpeckfmjeaaDoorShelf
import Derived.Test.YtmmkfpeckfmjeaaDoorElm
import Derived.Test.YtmmkfpeckfmjeaaDoorMathb
import Derived.Deep.QuietTactic
import Derived.BigQuiet
import Derived.Shelf.Unicode.DecodeSlow
namespace Go.Proofs.YtmmkfpeckfmjeaaDoor
open Go.RowKit
theorem below_drewN {B : Nat} {w w' : World} (h : Below B w w') (k : Nat) : Below B w (w'.drewN k) := h.trans ⟨rfl, rfl, rfl, Nat.le_refl _, fun _ _ => rfl⟩

theorem ret_bool {a b : Bool} (h : a = b) : Ending.returned (.bool a) = .returned (.bool b) := by rw [h]
def mayI (r : Int) : Bool := r == 9 || r == 10 || r == 13 || (r != 65534 && r != 65535 && decide (32 ≤ r))
set_option maxHeartbeats 400000 in
theorem mayBe_any (r : Int) (w : World) :
    Calls Tryd.prog 84 #[.int .i32 r] w fun e w' => e = .returned (.bool (mayI r)) ∧ w' = w := by
  by_cases h1 : r = 9
  · subst h1; go_enter Tryd.func84, Tryd.ntmps84; go_wp2; go_ret; exact ⟨rfl, rfl⟩
  by_cases h2 : r = 10
  · subst h2; go_enter Tryd.func84, Tryd.ntmps84; go_wp2; go_ret; exact ⟨rfl, rfl⟩
  by_cases h3 : r = 13
  · subst h3; go_enter Tryd.func84, Tryd.ntmps84; go_wp2; go_ret; exact ⟨rfl, rfl⟩
  by_cases h4 : r = 65534
  · subst h4; go_enter Tryd.func84, Tryd.ntmps84; go_wp2; go_ret; exact ⟨rfl, rfl⟩
  by_cases h5 : r = 65535
  · subst h5; go_enter Tryd.func84, Tryd.ntmps84; go_wp2; go_ret; exact ⟨rfl, rfl⟩
  have e1 : (r == 9) = false := by simp [h1]
  have e2 : (r == 10) = false := by simp [h2]
  have e3 : (r == 13) = false := by simp [h3]
  have e4 : (r == 65534) = false := by simp [h4]
  have e5 : (r == 65535) = false := by simp [h5]
  go_enter Tryd.func84, Tryd.ntmps84
  go_wp2
  go_ret
  refine ⟨ret_bool ?_, rfl⟩
  unfold mayI
  rw [e1, e2, e3]
  simp [bne, e4, e5]

set_option maxHeartbeats 400000 in
theorem isBroken_any (s : ByteArray) (r : Int) (w : World) :
    Calls Tryd.prog 82 #[.string s, .int .i32 r] w fun e w' => e = .returned (.bool (decide (r = 65533) && !Lib.hasPrefix s.data.toList [239, 191, 189])) ∧ w' = w := by
  by_cases h1 : r = 65533
  · subst h1
    go_enter Tryd.func82, Tryd.ntmps82
    go_wp2_with (go_at_call 98; refine (Tryd.strings_HasPrefix _ _ _).mono ?_; rintro e w' ⟨rfl, rfl⟩)
    go_ret
    exact ⟨ret_bool (by simp), rfl⟩
  · have e1 : (r == 65533) = false := by simp [h1]
    go_enter Tryd.func82, Tryd.ntmps82
    go_wp2_with (go_at_call 98; refine (Tryd.strings_HasPrefix _ _ _).mono ?_; rintro e w' ⟨rfl, rfl⟩)
    go_ret
    exact ⟨ret_bool (by simp [h1]), rfl⟩
def letZ (r : Int) : Bool := decide (97 ≤ r) && decide (r ≤ 122)
def latZ (r : Int) : Bool := (decide (48 ≤ r) && decide (r ≤ 57)) || r == 45 || r == 58
end Go.Proofs.YtmmkfpeckfmjeaaDoor
