/-
  The contracts of the functions of package wrap and of the document's answer that reckon with numbers alone: Add, Ahead, Within, Less: what each returns, for every argument.
-/
import Derived.Test.YtdhjbbkleihiaaaDoorChecked
import Derived.Deep.QuietTactic
import Derived.BigQuiet
import Derived.WalkKit
import Derived.BigCall
import Derived.Laws.BitsAllLaws
import Derived.Laws.Bits64
namespace Go.Proofs.YtdhjbbkleihiaaaDoor
open Go Go.RowKit
theorem ret_bool {a b : Bool} (h : a = b) : Ending.returned (.bool a) = .returned (.bool b) := by rw [h]
theorem ret_u32 {a b : Int} (h : a = b) : Ending.returned (.int .u32 a) = .returned (.int .u32 b) := by rw [h]
/-- The number that is so many steps on. -/
def addI (h n : Int) : Int := (h + n) % 4294967296
/-- How many steps on it is. -/
def ahI (a b : Int) : Int := (b - a) % 4294967296
def U (h : Int) : Prop := 0 ≤ h ∧ h < 4294967296
def N (n : Int) : Prop := -9223372036854775808 ≤ n ∧ n ≤ 9223372036854775807
theorem addI_u (h n : Int) : U (addI h n) := by unfold U addI; omega
theorem ahI_u (h n : Int) : U (ahI h n) := by unfold U ahI; omega
def witI (h a b : Int) : Bool := decide (ahI a h ≤ ahI a b)
def lessI (a b : Int) : Bool := decide (1 ≤ ahI a b) && decide (ahI a b < 2147483648)
set_option maxRecDepth 100000 in
theorem add_any (h n : Int) (_ : U h) (_ : N n) (w : World) : Calls Tryd.prog 10 #[.int .u32 h, .int .i64 n] w fun e w' => e = .returned (.int .u32 (addI h n)) ∧ w' = w := by
  go_enter Tryd.func10, Tryd.ntmps10
  go_wp2
  go_ret
  refine ⟨ret_u32 ?_, rfl⟩
  unfold addI
  first | omega | (simp only [IntKind.wrap_u32']; omega)
set_option maxRecDepth 100000 in
theorem ahead_any (a b : Int) (_ : U a) (_ : U b) (w : World) : Calls Tryd.prog 12 #[.int .u32 a, .int .u32 b] w fun e w' => e = .returned (.int .u32 (ahI a b)) ∧ w' = w := by
  go_enter Tryd.func12, Tryd.ntmps12
  go_wp2
  go_ret
  refine ⟨ret_u32 ?_, rfl⟩
  unfold ahI
  first | omega | (simp only [IntKind.wrap_u32']; omega)
set_option maxRecDepth 100000 in
theorem within_any (h a b : Int) (hh : U h) (ha : U a) (hb : U b) (w : World) : Calls Tryd.prog 14 #[.int .u32 h, .int .u32 a, .int .u32 b] w fun e w' => e = .returned (.bool (witI h a b)) ∧ w' = w := by
  go_enter Tryd.func14, Tryd.ntmps14
  go_wp2_with (go_at_call 12; first | (refine (ahead_any a h ha hh _).mono ?_; rintro e w' ⟨rfl, rfl⟩) | (refine (ahead_any a b ha hb _).mono ?_; rintro e w' ⟨rfl, rfl⟩))
  go_ret
  exact ⟨rfl, rfl⟩
set_option maxRecDepth 100000 in
theorem less_any (a b : Int) (ha : U a) (hb : U b) (w : World) : Calls Tryd.prog 16 #[.int .u32 a, .int .u32 b] w fun e w' => e = .returned (.bool (lessI a b)) ∧ w' = w := by
  cases h1 : decide (1 ≤ ahI a b) <;> cases h2 : decide (ahI a b < 2147483648) <;> (
    go_enter Tryd.func16, Tryd.ntmps16
    go_wp2_with (go_at_call 12; refine (ahead_any a b ha hb _).mono ?_; rintro e w' ⟨rfl, rfl⟩)
    go_ret
    refine ⟨ret_bool ?_, rfl⟩
    simp_all [lessI])
set_option maxRecDepth 100000 in
theorem refAhead_any (a b : Int) (ha : U a) (hb : U b) (w : World) : Calls Tryd.prog 13 #[.int .u32 a, .int .u32 b] w fun e w' => e = .returned (.int .u32 (ahI a b)) ∧ w' = w := by
  unfold U at ha hb
  by_cases h : a ≤ b
  · go_enter Tryd.func13, Tryd.ntmps13
    go_wp2
    go_ret
    refine ⟨ret_u32 ?_, rfl⟩
    unfold ahI
    first | omega | (simp only [IntKind.wrap_u32']; omega)
  · go_enter Tryd.func13, Tryd.ntmps13
    go_wp2
    go_ret
    refine ⟨ret_u32 ?_, rfl⟩
    unfold ahI
    first | omega | (simp only [IntKind.wrap_u32']; omega)
set_option maxRecDepth 100000 in
theorem refWithin_any (h a b : Int) (hh : U h) (ha : U a) (hb : U b) (w : World) : Calls Tryd.prog 15 #[.int .u32 h, .int .u32 a, .int .u32 b] w fun e w' => e = .returned (.bool (witI h a b)) ∧ w' = w := by
  unfold U at ha hb hh
  cases h0 : decide (a ≤ b) <;> cases h1 : decide (a ≤ h) <;> cases h2 : decide (h ≤ b) <;> (
    go_enter Tryd.func15, Tryd.ntmps15
    go_wp2
    go_ret
    refine ⟨ret_bool ?_, rfl⟩
    simp only [decide_eq_true_eq, decide_eq_false_iff_not] at h0 h1 h2
    unfold witI ahI
    first | (rw [eq_comm]; apply decide_eq_true; omega) | (rw [eq_comm]; apply decide_eq_false; omega) | (rw [decide_eq_decide]; omega))
set_option maxRecDepth 100000 in
theorem refLess_any (a b : Int) (ha : U a) (hb : U b) (w : World) : Calls Tryd.prog 17 #[.int .u32 a, .int .u32 b] w fun e w' => e = .returned (.bool (lessI a b)) ∧ w' = w := by
  cases h1 : decide (1 ≤ ahI a b) <;> cases h2 : decide (ahI a b < 2147483648) <;> (
    go_enter Tryd.func17, Tryd.ntmps17
    go_wp2_with (go_at_call 13; refine (refAhead_any a b ha hb _).mono ?_; rintro e w' ⟨rfl, rfl⟩)
    go_ret
    refine ⟨ret_bool ?_, rfl⟩
    simp_all [lessI])
theorem tmod_cases (n : Int) : (0 ≤ n ∧ n.tmod 4294967296 = n % 4294967296) ∨ (n < 0 ∧ n.tmod 4294967296 = -((-n) % 4294967296)) := by
  rcases Int.lt_or_le n 0 with h | h
  · right
    refine ⟨h, ?_⟩
    have := Int.neg_tmod (-n) 4294967296
    rw [Int.neg_neg] at this
    rw [this, Int.tmod_eq_emod_of_nonneg (by omega)]
  · exact Or.inl ⟨h, Int.tmod_eq_emod_of_nonneg h⟩
set_option maxRecDepth 100000 in
theorem refAdd_any (h n : Int) (hh : U h) (_ : N n) (w : World) : Calls Tryd.prog 11 #[.int .u32 h, .int .i64 n] w fun e w' => e = .returned (.int .u32 (addI h n)) ∧ w' = w := by
  unfold U at hh
  have hk := tmod_cases n
  have hb1 : -4294967296 < n.tmod 4294967296 := by omega
  have hb2 : n.tmod 4294967296 < 4294967296 := by omega
  have hr : (h + n.tmod 4294967296 + 4294967296).tmod 4294967296 = addI h n := by
    rw [Int.tmod_eq_emod_of_nonneg (by omega)]
    unfold addI
    omega
  have hu := addI_u h n
  unfold U at hu
  generalize addI h n = r at *
  clear hk
  go_enter Tryd.func11, Tryd.ntmps11
  go_wp2
  go_ret
  refine ⟨ret_u32 ?_, rfl⟩
  first | omega | (simp only [IntKind.wrap_u32']; omega)
end Go.Proofs.YtdhjbbkleihiaaaDoor
