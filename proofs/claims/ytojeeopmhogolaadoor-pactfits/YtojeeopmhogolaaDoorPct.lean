/-
  Sides that fit, and stay so; acts out of numbers; rows of numbers and of truths, as they lie.
-/
import Derived.Test.YtojeeopmhogolaaDoorPcq
namespace Go.Proofs.YtojeeopmhogolaaDoor
open Go Go.RowKit Go.Sort
/-- The sides fit. -/
def FitP (a b : Sd) : Prop := b = a.mir
theorem fitP_n (a b : Sd) (h : FitP a b) : fitN a.p a.q a.a a.b b.p b.q b.a b.b = true := by
  obtain rfl := h
  obtain ⟨p, q, x, y⟩ := a
  simp [fitN, Sd.mir]
theorem FitP.symm {a b : Sd} (h : FitP a b) : FitP b a := by
  obtain rfl := h
  rfl
theorem fitP_bo (k : Nat) (hk : 1 ≤ k ∧ k ≤ 4) (a b : Sd) (ha : a.ok = true) (h : FitP a b) : FitP (boS k a b).1 (boS k a b).2 := by
  obtain rfl := h
  obtain ⟨p, q, x, y⟩ := a
  have hc : k = 1 ∨ k = 2 ∨ k = 3 ∨ k = 4 := by omega
  rcases hc with rfl | rfl | rfl | rfl <;> cases p <;> cases q <;> cases x <;> cases y <;> first | rfl | (exact absurd ha (by decide))
theorem fit_at (a b : Sd) (h : FitP a b) (w : World) : Calls Tryd.prog 20 #[a.val, b.val] w fun e w' => e = .returned (.bool true) ∧ Below w.heap.size w w' := by
  have := fit_all a.sub b.sub a.p a.q a.a a.b b.p b.q b.a b.b w (sees_any a.p a.q a.a a.b) (seen_any b.p b.q b.a b.b) (seen_any a.p a.q a.a a.b) (sees_any b.p b.q b.a b.b)
  rw [fitP_n a b h] at this
  exact this
theorem right_at (a : Sd) (h : a.ok = true) (w : World) : Calls Tryd.prog 13 #[a.val] w fun e w' => e = .returned (.bool true) ∧ Below w.heap.size w w' := by
  have := right_any a.p a.q a.a a.b w
  rw [show okN a.p a.q a.a a.b = true from h] at this
  exact this
/-- The act of a number. -/
def actOf (z : Int) : Nat := (z % 18446744073709551616).toNat % 4
theorem act_facts (z : Int) : ∃ u r : Nat, IntKind.u64.wrap z = (u : Int) ∧ u < 18446744073709551616 ∧ (u : Int).tmod 4 = (r : Int) ∧ r < 4 := by
  refine ⟨(z % 18446744073709551616).toNat, actOf z, ?_, by omega, ?_, by unfold actOf; omega⟩
  · rw [IntKind.wrap_u64]
    omega
  · rw [Int.tmod_eq_emod_of_nonneg (by omega)]
    unfold actOf
    omega
def RowN (w : World) (ao : Option Addr) (n : Nat) (y : Nat → Int) : Prop := ∀ i, i < n → ∃ ad, ao = some ad ∧ w.cell? (ad.add i) = some (.int .i64 (y i))
def RowB (w : World) (ao : Option Addr) (n : Nat) (y : Nat → Bool) : Prop := ∀ i, i < n → ∃ ad, ao = some ad ∧ w.cell? (ad.add i) = some (.bool (y i))
theorem both_at (r : Nat) (hr : r < 4) (a b : Sd) (ha : a.ok = true) (hb : b.ok = true) (W : World) :
    Calls Tryd.prog 19 #[a.val, b.val, .int .i64 (1 + (r : Int))] W fun e w' => e = .returned (.tuple #[(boS (r + 1) a b).1.val, (boS (r + 1) a b).2.val, .int .i64 0]) ∧ Below W.heap.size W w' := by
  have := both_any (r + 1) (by omega) a b ha hb W
  rw [show ((r + 1 : Nat) : Int) = 1 + (r : Int) by omega] at this
  exact this
theorem below_fz {w w' : World} {g : Nat} {xs : Array Value} {T : TypeId} (h : Blk g xs T w) (hb : Below w.heap.size w w') : Blk g xs T w' := h.below hb
end Go.Proofs.YtojeeopmhogolaaDoor
