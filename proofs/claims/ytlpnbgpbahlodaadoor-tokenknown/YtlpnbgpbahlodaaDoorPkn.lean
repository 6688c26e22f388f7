/-
  Plain, and over this program: numbers that are drawn again and again, each token being known then.
-/
import Derived.Test.YtlpnbgpbahlodaaDoorPkm
import Derived.Test.YtlpnbgpbahlodaaDoorPkl
namespace Go.Proofs.YtlpnbgpbahlodaaDoor
open Go Go.RowKit
theorem nd_snoc {l : List Nat} {a : Nat} (h : ND l) (ha : a ∉ l) : ND (l ++ [a]) := by
  unfold ND
  rw [List.length_append, List.length_singleton]
  refine ndT_succ (fun i j b h1 h2 h3 h4 => ?_) fun i hi e => ?_
  · rw [List.getElem?_append_left (by omega)] at h3 h4
    exact h i j b h1 h2 h3 h4
  · rw [List.getElem?_append_left hi, List.getElem?_append_right (Nat.le_refl _)] at e
    simp at e
    exact ha (List.mem_of_getElem? e)
theorem nd_nil : ND [] := ndT_zero []
/-- The numbers that differ, in the order of their first places. -/
def nub : List Nat → List Nat → List Nat
  | acc, [] => acc
  | acc, a :: r => if acc.contains a = true then nub acc r else nub (acc ++ [a]) r
theorem nub_take {l : List Nat} {k a : Nat} (h : l[k]? = some a) (acc : List Nat) : nub acc (l.drop k) = if acc.contains a = true then nub acc (l.drop (k + 1)) else nub (acc ++ [a]) (l.drop (k + 1)) := by
  obtain ⟨hk, rfl⟩ := List.getElem?_eq_some_iff.1 h
  rw [List.drop_eq_getElem_cons hk]
  rfl
theorem isIn_map {acc : List Nat} {a : Nat} (hacc : ∀ z ∈ acc, U z) (ha : U a) : isIn (T a) (acc.map T) = acc.contains a := by
  apply Bool.eq_iff_iff.2
  unfold isIn
  rw [List.any_eq_true, List.contains_iff_mem]
  constructor
  · rintro ⟨y, hy, h⟩
    obtain ⟨z, hz, rfl⟩ := List.mem_map.1 hy
    have h2 := T_inj ha (hacc z hz) (of_decide_eq_true h)
    rw [h2]
    exact hz
  · intro h
    exact ⟨T a, List.mem_map_of_mem h, decide_eq_true rfl⟩
/-- What one more drawing does: where it finds one. -/
theorem draw_some {acc : List Nat} {s : ByteArray} {c : Nat} : ∀ (r : List Nat) (i : Nat), (∀ z ∈ acc, U z) → (∀ z ∈ r, U z) → drawF (acc.map T) r i = some (s, c) → ∃ (a k : Nat), r[k]? = some a ∧ c = i + k + 1 ∧ s = T a ∧ ¬ acc.contains a = true ∧ nub acc r = nub (acc ++ [a]) (r.drop (k + 1))
  | [], i, _, _, h => by cases h
  | n :: r, i, h1, h2, h => by
    unfold drawF at h
    rw [isIn_map h1 (h2 n (List.mem_cons_self ..))] at h
    split at h
    · rename_i hc
      obtain ⟨a, k, e1, e2, e3, e4, e5⟩ := draw_some r (i + 1) h1 (fun z hz => h2 z (List.mem_cons_of_mem _ hz)) h
      refine ⟨a, k + 1, e1, by omega, e3, e4, ?_⟩
      show (if acc.contains n = true then nub acc r else nub (acc ++ [n]) r) = _
      rw [if_pos hc, e5]
      rfl
    · rename_i hc
      obtain ⟨rfl, rfl⟩ := Prod.mk.inj (Option.some.inj h)
      refine ⟨n, 0, rfl, by omega, rfl, hc, ?_⟩
      show (if acc.contains n = true then nub acc r else nub (acc ++ [n]) r) = _
      rw [if_neg hc]
      rfl
theorem draw_none {acc : List Nat} : ∀ (r : List Nat) (i : Nat), (∀ z ∈ acc, U z) → (∀ z ∈ r, U z) → drawF (acc.map T) r i = none → nub acc r = acc
  | [], _, _, _, _ => rfl
  | n :: r, i, h1, h2, h => by
    unfold drawF at h
    rw [isIn_map h1 (h2 n (List.mem_cons_self ..))] at h
    split at h
    · rename_i hc
      show (if acc.contains n = true then nub acc r else nub (acc ++ [n]) r) = _
      rw [if_pos hc]
      exact draw_none r (i + 1) h1 (fun z hz => h2 z (List.mem_cons_of_mem _ hz)) h
    · cases h
/-- How many of the first so many places hold what no earlier one does. -/
def firstB (l : List Nat) (i : Nat) : Bool := match l[i]? with
  | some a => !(l.take i).contains a
  | none => false
def cnt (l : List Nat) : Nat → Nat
  | 0 => 0
  | i + 1 => cnt l i + (if firstB l i = true then 1 else 0)
theorem cnt_le (l : List Nat) : ∀ i, cnt l i ≤ i
  | 0 => Nat.le_refl _
  | i + 1 => by
    have := cnt_le l i
    unfold cnt
    split <;> omega
/-- What differs is counted: by places. -/
theorem nub_cnt (l : List Nat) : ∀ (m k : Nat) (acc : List Nat), l.length = k + m → acc.length = cnt l k → (∀ z, acc.contains z = (l.take k).contains z) → (nub acc (l.drop k)).length = cnt l l.length
  | 0, k, acc, h, h1, _ => by
    rw [List.drop_of_length_le (by omega)]
    show acc.length = _
    rw [h1]
    congr 1
    omega
  | m + 1, k, acc, h, h1, h2 => by
    have hk : k < l.length := by omega
    have ha : l[k]? = some l[k] := List.getElem?_eq_getElem hk
    rw [nub_take ha]
    split
    · rename_i hc
      refine nub_cnt l m (k + 1) acc (by omega) ?_ fun z => ?_
      · unfold cnt
        have hf : firstB l k = false := by
          unfold firstB
          rw [ha]
          show (!(l.take k).contains l[k]) = false
          rw [← h2, hc]
          rfl
        rw [hf, h1]
        rfl
      · rw [take_next ha, h2]
        by_cases e : z = l[k]
        · subst e
          rw [h2] at hc
          rw [hc]
          rfl
        · simp [e]
    · rename_i hc
      refine nub_cnt l m (k + 1) (acc ++ [l[k]]) (by omega) ?_ fun z => ?_
      · unfold cnt
        have hf : firstB l k = true := by
          unfold firstB
          rw [ha]
          show (!(l.take k).contains l[k]) = true
          rw [← h2, Bool.eq_false_iff.2 hc]
          rfl
        rw [hf, List.length_append, h1]
        rfl
      · rw [take_next ha, ← h2, List.contains_eq_any_beq, List.contains_eq_any_beq, List.any_append]
        simp
theorem nub_all (l : List Nat) : (nub [] l).length = cnt l l.length := nub_cnt l l.length 0 [] (by omega) rfl (fun z => rfl)
end Go.Proofs.YtlpnbgpbahlodaaDoor
