/-
  Of no program: a region that draws its order, by one relation of what is done, the frame and the memory: each operation is looked at once.
-/
import Derived.Test.YtmmkfpeckfmjeaaDoorElm
namespace Go.Proofs.YtmmkfpeckfmjeaaDoor
open Go Go.RowKit
/-- How many operations are still to come. -/
def leftOf (listed : Array Bool) : Nat := (listed.toList.filter fun b => !b).length
theorem left_set : ∀ (l : List Bool) (i : Nat), l[i]? = some false → ((l.set i true).filter fun b => !b).length + 1 = (l.filter fun b => !b).length
  | [], i, h => by simp at h
  | b :: r, 0, h => by
    simp at h
    subst h
    simp
  | b :: r, i + 1, h => by
    have := left_set r i (by simpa using h)
    cases b <;> simp_all
theorem unlisted {md : Region.Mode} {ops : Array Oper} {listed : Array Bool} {j : Nat} (h : j ∈ Region.ready md ops listed) : listed.toList[j]? = some false := by
  have h0 := (mem_ready.1 h).1
  rw [Array.getElem?_toList]
  rw [Array.getD_eq_getD_getElem?] at h0
  cases hj : listed[j]? with
  | none => rw [hj] at h0; simp at h0
  | some b => rw [hj] at h0; simp at h0; rw [h0]
theorem wpAny_inv {P : Program} {md : Region.Mode} {ops : Array Oper} {Q : Exit → Act → World → Prop} (I : Array Bool → Act → World → Prop)
    (hend : ∀ listed a w, I listed a w → Region.ready md ops listed = [] → Q .normal a w)
    (hstep : ∀ listed a w i, I listed a w → i ∈ Region.ready md ops listed → wpOp P ops Q i (I (listed.setIfInBounds i true)) a w) :
    ∀ (fuel : Nat) (listed : Array Bool) (a : Act) (w : World), I listed a w → leftOf listed ≤ fuel → wpAny P md ops Q fuel listed a w
  | 0, listed, a, w, h, hl => by
    have hr : Region.ready md ops listed = [] := by
      rw [List.eq_nil_iff_forall_not_mem]
      intro j hj
      have := left_set _ _ (unlisted hj)
      unfold leftOf at hl
      omega
    exact ⟨hr, hend _ _ _ h hr⟩
  | fuel + 1, listed, a, w, h, hl => by
    refine ⟨hend _ _ _ h, fun i hi => ?_⟩
    refine wpOp_mono (fun a' w' h' => wpAny_inv I hend hstep fuel _ a' w' h' ?_) (hstep _ _ _ i h hi)
    have := left_set _ _ (unlisted hi)
    unfold leftOf at hl ⊢
    rw [Array.toList_setIfInBounds]
    omega
end Go.Proofs.YtmmkfpeckfmjeaaDoor
