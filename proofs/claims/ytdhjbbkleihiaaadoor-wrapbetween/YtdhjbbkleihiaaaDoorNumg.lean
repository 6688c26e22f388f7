/-
  The walk of the statement WrapBetween over this program.
-/
import Derived.Test.YtdhjbbkleihiaaaDoorNumf
namespace Go.Proofs.YtdhjbbkleihiaaaDoor
open Go Go.RowKit
def two (f t : Int) : Nat → Int := fun i => if i = 0 then f else t
theorem span_two (f t : Int) : spanF (two f t) 1 = ahI f t := by
  have := ahI_u f t
  unfold U at this
  simp only [spanF, two]
  simp
  omega
theorem row_two (w : World) (f t : Int) (hf : U f) (ht : U t) : RowZ (w.alloc (.cells #[.int .u32 f, .int .u32 t] 22)) (some ⟨w.heap.size, 0, none⟩) 2 (two f t) := by
  intro i hi
  refine ⟨_, rfl, ?_, ?_⟩
  · match i, hi with
    | 0, _ => exact World.cell?_alloc_new _ _ _ _
    | 1, _ => exact World.cell?_alloc_new _ _ _ _
  · match i, hi with
    | 0, _ => exact hf
    | 1, _ => exact ht
theorem between_cases (f t : Int) (hf : U f) (ht : U t) : ((f == t) = true ∧ (ahI f t == 2147483648) = false ∧ lessI f t = false ∧ lessI t f = false) ∨ ((f == t) = false ∧ (ahI f t == 2147483648) = true ∧ lessI f t = false ∧ lessI t f = false) ∨
    ((f == t) = false ∧ (ahI f t == 2147483648) = false ∧ lessI f t = true ∧ lessI t f = false) ∨ ((f == t) = false ∧ (ahI f t == 2147483648) = false ∧ lessI f t = false ∧ lessI t f = true) := by
  unfold U at *
  unfold lessI
  simp only [beq_iff_eq, beq_eq_false_iff_ne, Bool.and_eq_true, Bool.and_eq_false_iff, decide_eq_true_eq, decide_eq_false_iff_not]
  unfold ahI
  omega
set_option maxHeartbeats 2000000 in
set_option maxRecDepth 100000 in
theorem between_walk (h f t : Int) (hh : U h) (hf : U f) (ht : U t) (w : World) (hE : Env w) :
    Calls Tryd.prog 6 #[.int .u32 h, .int .u32 f, .int .u32 t] w fun e w' => e = .returned (.bool true) ∧ Below w.heap.size w w' := by
  have HLV := lives_any w hE
  clear hE
  have HS := fun W => span_any (some ⟨W.heap.size, 0, none⟩) 2 2 (two f t) (W.alloc (.cells #[.int .u32 f, .int .u32 t] 22)) (row_two W f t hf ht) (by decide)
  simp only [show (2 : Nat) - 1 = 1 from rfl, span_two] at HS
  have H1 := fun W => ahead_any f h hf hh W
  have H2 := fun W => ahead_any h t hh ht W
  have H3 := fun W => ahead_any f t hf ht W
  have HL1 := fun W => less_any f t hf ht W
  have HL2 := fun W => less_any t f ht hf W
  have HW1 := fun W => within_any h f t hh hf ht W
  have HW2 := fun W => within_any f f t hf hf ht W
  have HW3 := fun W => within_any t f t ht hf ht W
  have hc := between_cases f t hf ht
  rw [show witI f f t = true by unfold witI ahI; simp only [decide_eq_true_eq]; omega] at HW2
  rw [show witI t f t = true by unfold witI; simp only [decide_eq_true_eq]; omega] at HW3
  have hpq : (ahI f h + ahI h t == ahI f t) = witI h f t := by
    unfold witI
    rw [Bool.eq_iff_iff]
    simp only [beq_iff_eq, decide_eq_true_eq]
    unfold ahI
    omega
  have hpu := ahI_u f h
  have hqu := ahI_u h t
  have hxu := ahI_u f t
  generalize ahI f h = p at *
  generalize ahI h t = q at *
  generalize ahI f t = x at *
  unfold U at hpu hqu hxu
  obtain ⟨hp0, hp1⟩ := hpu
  obtain ⟨hq0, hq1⟩ := hqu
  obtain ⟨hx0, hx1⟩ := hxu
  generalize lessI f t = l1 at *
  generalize lessI t f = l2 at *
  generalize witI h f t = wv at *
  clear hh hf ht
  obtain ⟨y, hy⟩ : ∃ y, p + q = y := ⟨_, rfl⟩
  have hyw : IntKind.i64.wrap (p + q) = y := by rw [IntKind.wrap_i64]; omega
  rw [hy] at hpq
  have hy0 : 0 ≤ y := by omega
  have hy1 : y < 8589934592 := by omega
  clear hy
  rcases hc with ⟨c1, c2, rfl, rfl⟩ | ⟨c1, c2, rfl, rfl⟩ | ⟨c1, c2, rfl, rfl⟩ | ⟨c1, c2, rfl, rfl⟩ <;> cases wv <;> (
    go_enter Tryd.func6, Tryd.ntmps6
    go_wp2_with (first
      | (go_at_call 9; refine HLV.mono ?_; rintro e w1 ⟨rfl, hb1⟩)
      | (go_at_call 22; refine (HS _).mono ?_; rintro e w2 ⟨rfl, hb2⟩)
      | (go_at_call_of 12 (#[Value.int .u32 f, Value.int .u32 h] : Array Value); refine (H1 _).mono ?_; rintro e w3 ⟨rfl, rfl⟩)
      | (go_at_call_of 12 (#[Value.int .u32 h, Value.int .u32 t] : Array Value); refine (H2 _).mono ?_; rintro e w3 ⟨rfl, rfl⟩)
      | (go_at_call_of 12 (#[Value.int .u32 f, Value.int .u32 t] : Array Value); refine (H3 _).mono ?_; rintro e w3 ⟨rfl, rfl⟩)
      | (go_at_call_of 16 (#[Value.int .u32 f, Value.int .u32 t] : Array Value); refine (HL1 _).mono ?_; rintro e w3 ⟨rfl, rfl⟩)
      | (go_at_call_of 16 (#[Value.int .u32 t, Value.int .u32 f] : Array Value); refine (HL2 _).mono ?_; rintro e w3 ⟨rfl, rfl⟩)
      | (go_at_call_of 14 (#[Value.int .u32 h, Value.int .u32 f, Value.int .u32 t] : Array Value); refine (HW1 _).mono ?_; rintro e w3 ⟨rfl, rfl⟩)
      | (go_at_call_of 14 (#[Value.int .u32 f, Value.int .u32 f, Value.int .u32 t] : Array Value); refine (HW2 _).mono ?_; rintro e w3 ⟨rfl, rfl⟩)
      | (go_at_call_of 14 (#[Value.int .u32 t, Value.int .u32 f, Value.int .u32 t] : Array Value); refine (HW3 _).mono ?_; rintro e w3 ⟨rfl, rfl⟩))
    go_ret
    exact ⟨rfl, hb1.trans ((Below.alloc (Below.refl _ _) (Nat.le_refl _) _).mono hb1.size |>.trans (hb2.mono (Nat.le_trans hb1.size (by simp))))⟩)
end Go.Proofs.YtdhjbbkleihiaaaDoor
