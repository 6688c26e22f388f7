/-
  The contracts of the functions of package wrap Add, Ahead, Within and the document's Add: what each returns, for every argument.
-/
import Derived.Test.YtjmggofcncladaaSc
import Derived.Deep.QuietTactic
import Derived.BigQuiet
import Derived.WalkKit
import Derived.BigCall
import Derived.Laws.BitsAllLaws
import Derived.Laws.Bits64
namespace Go.Proofs.Ytjmggofcncladaa
open Go Go.RowKit
theorem ret_u32 {a b : Int} (h : a = b) : Ending.returned (.int .u32 a) = .returned (.int .u32 b) := by rw [h]
/-- The number that is so many steps on. -/
def addI (h n : Int) : Int := (h + n) % 4294967296
/-- How many steps on it is. -/
def ahI (a b : Int) : Int := (b - a) % 4294967296
def U (h : Int) : Prop := 0 ≤ h ∧ h < 4294967296
def N (n : Int) : Prop := -9223372036854775808 ≤ n ∧ n ≤ 9223372036854775807
theorem addI_u (h n : Int) : U (addI h n) := by unfold U addI; omega
theorem ahI_u (h n : Int) : U (ahI h n) := by unfold U ahI; omega
def witI (h a b : Int) : Bool := decide (ahI a h ≤ ahI a b)
set_option maxRecDepth 100000 in
theorem add_any (h n : Int) (_ : U h) (_ : N n) (w : World) : Calls Try.prog 36 #[.int .u32 h, .int .i64 n] w fun e w' => e = .returned (.int .u32 (addI h n)) ∧ w' = w := by
  go_enter Try.func36, Try.ntmps36
  go_wp2
  go_ret
  refine ⟨ret_u32 ?_, rfl⟩
  unfold addI
  first | omega | (simp only [IntKind.wrap_u32']; omega)
set_option maxRecDepth 100000 in
theorem ahead_any (a b : Int) (_ : U a) (_ : U b) (w : World) : Calls Try.prog 34 #[.int .u32 a, .int .u32 b] w fun e w' => e = .returned (.int .u32 (ahI a b)) ∧ w' = w := by
  go_enter Try.func34, Try.ntmps34
  go_wp2
  go_ret
  refine ⟨ret_u32 ?_, rfl⟩
  unfold ahI
  first | omega | (simp only [IntKind.wrap_u32']; omega)
set_option maxRecDepth 100000 in
theorem within_any (h a b : Int) (hh : U h) (ha : U a) (hb : U b) (w : World) : Calls Try.prog 33 #[.int .u32 h, .int .u32 a, .int .u32 b] w fun e w' => e = .returned (.bool (witI h a b)) ∧ w' = w := by
  go_enter Try.func33, Try.ntmps33
  go_wp2_with (go_at_call 34; first | (refine (ahead_any a h ha hh _).mono ?_; rintro e w' ⟨rfl, rfl⟩) | (refine (ahead_any a b ha hb _).mono ?_; rintro e w' ⟨rfl, rfl⟩))
  go_ret
  exact ⟨rfl, rfl⟩
theorem tmod_cases (n : Int) : (0 ≤ n ∧ n.tmod 4294967296 = n % 4294967296) ∨ (n < 0 ∧ n.tmod 4294967296 = -((-n) % 4294967296)) := by
  rcases Int.lt_or_le n 0 with h | h
  · right
    refine ⟨h, ?_⟩
    have := Int.neg_tmod (-n) 4294967296
    rw [Int.neg_neg] at this
    rw [this, Int.tmod_eq_emod_of_nonneg (by omega)]
  · exact Or.inl ⟨h, Int.tmod_eq_emod_of_nonneg h⟩
set_option maxRecDepth 100000 in
theorem refAdd_any (h n : Int) (hh : U h) (_ : N n) (w : World) : Calls Try.prog 30 #[.int .u32 h, .int .i64 n] w fun e w' => e = .returned (.int .u32 (addI h n)) ∧ w' = w := by
  unfold U at hh
  have hk := tmod_cases n
  have hb1 : -4294967296 < n.tmod 4294967296 := by omega
  have hb2 : n.tmod 4294967296 < 4294967296 := by omega
  have hr : (h + n.tmod 4294967296 + 4294967296).tmod 4294967296 = addI h n := by
    rw [Int.tmod_eq_emod_of_nonneg (by omega)]
    unfold addI
    omega
  have hu := addI_u h n
  unfold U at hu
  generalize addI h n = r at *
  clear hk
  go_enter Try.func30, Try.ntmps30
  go_wp2
  go_ret
  refine ⟨ret_u32 ?_, rfl⟩
  first | omega | (simp only [IntKind.wrap_u32']; omega)
end Go.Proofs.Ytjmggofcncladaa
