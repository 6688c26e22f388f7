/-
  The walks of the statements WrapOrder, WrapBetween and WrapBack over this program.
-/
import Derived.Test.YtdhjbbkleihiaaaDoorNume
import Derived.Deep.RegionWith
namespace Go.Proofs.YtdhjbbkleihiaaaDoor
open Go Go.RowKit
theorem ah_add (h m : Int) (hm : U m) : ahI h (addI h m) = m := by unfold U at *; unfold ahI addI; omega
def lessM (m : Int) : Bool := decide (1 ≤ m) && decide (m < 2147483648)
theorem less_add (h m : Int) (hm : U m) : lessI h (addI h m) = lessM m := by unfold lessI lessM; rw [ah_add h m hm]
theorem less_self (h : Int) : lessI h h = false := by unfold lessI ahI; simp
theorem u_n {m : Int} (h : U m) : N m := by unfold U at h; unfold N; omega
set_option maxHeartbeats 1000000 in
set_option maxRecDepth 100000 in
theorem order_walk (h b n : Int) (hh : U h) (hb : U b) (_ : N n) (w : World) (hE : Env w) :
    Calls Tryd.prog 8 #[.int .u32 h, .int .u32 b, .int .i64 n] w fun e w' => e = .returned (.bool true) ∧ Below w.heap.size w w' := by
  have HLV := lives_any w hE
  clear hE
  obtain ⟨m, hm⟩ : ∃ m, n % 4294967296 = m := ⟨_, rfl⟩
  have hmu : U m := by unfold U; omega
  have hw1 : (IntKind.u64.wrap n).tmod 4294967296 = m := by
    rw [IntKind.wrap_u64, Int.tmod_eq_emod_of_nonneg (by omega)]; omega
  have hw2 : (n % 18446744073709551616).tmod 4294967296 = m := by
    rw [Int.tmod_eq_emod_of_nonneg (by omega)]; omega
  have hcu := addI_u h b
  have HL1 := fun W => less_any h (addI h m) hh (addI_u h m) W
  have HL2 := fun W => less_any (addI h b) (addI (addI h b) m) hcu (addI_u _ m) W
  have HL3 := fun W => less_any h h hh hh W
  rw [less_add h m hmu] at HL1
  rw [less_add _ m hmu] at HL2
  rw [less_self] at HL3
  have HA1 := fun W => add_any h m hh (u_n hmu) W
  have HA2 := fun W => add_any h b hh (u_n hb) W
  have HA3 := fun W => add_any (addI h b) m hcu (u_n hmu) W
  have hza : (m == 0) = (addI h m == h) := by
    unfold addI U at *
    rw [Bool.eq_iff_iff]
    simp only [beq_iff_eq]
    omega
  have hm0 : 0 ≤ m := hmu.1
  have hm1 : m < 4294967296 := hmu.2
  generalize addI h m = a at *
  generalize addI (addI h b) m = d at *
  generalize addI h b = c at *
  have hb0 : 0 ≤ b := hb.1
  have hb1 : b < 4294967296 := hb.2
  clear hmu hcu hh hb hm
  clear hw2
  rcases (by omega : m = 0 ∨ (1 ≤ m ∧ m < 2147483648) ∨ 2147483648 ≤ m) with h1 | ⟨h1, h2⟩ | h1
  · rw [show lessM m = false by unfold lessM; simp; omega] at HL1 HL2
    have ha : a = h := eq_of_beq (hza.symm.trans (by rw [beq_iff_eq]; exact h1))
    have hz : (m == 0) = true := by rw [beq_iff_eq]; exact h1
    have h2 : ¬ 1 ≤ m := by omega
    subst ha
    clear hza h1
    go_enter Tryd.func8, Tryd.ntmps8
    go_wp2_with (first
      | (go_at_call 9; refine HLV.mono ?_; rintro e w1 ⟨rfl, hb1⟩)
      | (go_at_call_of 10 (Value.int .i64 b); refine (HA2 _).mono ?_; rintro e w2 ⟨rfl, rfl⟩)
      | (go_at_call_of 10 (Value.int .u32 c); refine (HA3 _).mono ?_; rintro e w2 ⟨rfl, rfl⟩)
      | (go_at_call 10; refine (HA1 _).mono ?_; rintro e w2 ⟨rfl, rfl⟩)
      | (go_at_call_of 16 (Value.int .u32 c); refine (HL2 _).mono ?_; rintro e w2 ⟨rfl, rfl⟩)
      | (go_at_call_of 16 (Value.int .u32 a); refine (HL1 _).mono ?_; rintro e w2 ⟨rfl, rfl⟩)
      | (go_at_call 16; refine (HL3 _).mono ?_; rintro e w2 ⟨rfl, rfl⟩))
    go_ret
    exact ⟨rfl, hb1⟩
  · rw [show lessM m = true by unfold lessM; simp [h1, h2]] at HL1 HL2
    have ha : (a == h) = false := by rw [← hza, beq_eq_false_iff_ne]; omega
    have hz : (m == 0) = false := by rw [beq_eq_false_iff_ne]; omega
    clear hza
    go_enter Tryd.func8, Tryd.ntmps8
    go_wp2_with (first
      | (go_at_call 9; refine HLV.mono ?_; rintro e w1 ⟨rfl, hb1⟩)
      | (go_at_call_of 10 (Value.int .i64 b); refine (HA2 _).mono ?_; rintro e w2 ⟨rfl, rfl⟩)
      | (go_at_call_of 10 (Value.int .u32 c); refine (HA3 _).mono ?_; rintro e w2 ⟨rfl, rfl⟩)
      | (go_at_call 10; refine (HA1 _).mono ?_; rintro e w2 ⟨rfl, rfl⟩)
      | (go_at_call_of 16 (Value.int .u32 c); refine (HL2 _).mono ?_; rintro e w2 ⟨rfl, rfl⟩)
      | (go_at_call_of 16 (Value.int .u32 a); refine (HL1 _).mono ?_; rintro e w2 ⟨rfl, rfl⟩)
      | (go_at_call 16; refine (HL3 _).mono ?_; rintro e w2 ⟨rfl, rfl⟩))
    go_ret
    exact ⟨rfl, hb1⟩
  · rw [show lessM m = false by unfold lessM; simp; omega] at HL1 HL2
    have ha : (a == h) = false := by rw [← hza, beq_eq_false_iff_ne]; omega
    have hz : (m == 0) = false := by rw [beq_eq_false_iff_ne]; omega
    have h2 : 1 ≤ m := by omega
    have h3 : ¬ m < 2147483648 := by omega
    clear hza
    go_enter Tryd.func8, Tryd.ntmps8
    go_wp2_with (first
      | (go_at_call 9; refine HLV.mono ?_; rintro e w1 ⟨rfl, hb1⟩)
      | (go_at_call_of 10 (Value.int .i64 b); refine (HA2 _).mono ?_; rintro e w2 ⟨rfl, rfl⟩)
      | (go_at_call_of 10 (Value.int .u32 c); refine (HA3 _).mono ?_; rintro e w2 ⟨rfl, rfl⟩)
      | (go_at_call 10; refine (HA1 _).mono ?_; rintro e w2 ⟨rfl, rfl⟩)
      | (go_at_call_of 16 (Value.int .u32 c); refine (HL2 _).mono ?_; rintro e w2 ⟨rfl, rfl⟩)
      | (go_at_call_of 16 (Value.int .u32 a); refine (HL1 _).mono ?_; rintro e w2 ⟨rfl, rfl⟩)
      | (go_at_call 16; refine (HL3 _).mono ?_; rintro e w2 ⟨rfl, rfl⟩))
    go_ret
    exact ⟨ret_bool (a := !decide (m < 2147483648)) (by rw [Bool.not_eq_true', decide_eq_false_iff_not]; omega), hb1⟩
end Go.Proofs.YtdhjbbkleihiaaaDoor
