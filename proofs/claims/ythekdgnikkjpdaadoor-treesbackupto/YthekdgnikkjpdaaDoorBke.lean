/-
  Plain mathematics, of no program: how long a stream of short items is, and what its tokens hold.
-/
import Derived.Test.YthekdgnikkjpdaaDoorBkc
namespace Go.Proofs.YthekdgnikkjpdaaDoor
open Go Go.RowKit
theorem flat_short {d : Nat} : ∀ (l : List El), (∀ k ∈ l, (textE d k).length ≤ 1200 * toksC d k) → (l.flatMap (textE d)).length ≤ 1200 * (l.map (toksC d)).sum
  | [], _ => by simp
  | k :: l, h => by
    have ih := flat_short l fun q hq => h q (by simp [hq])
    have h1 := h k (by simp)
    rw [List.flatMap_cons, List.length_append, List.map_cons, List.sum_cons, Nat.mul_add]
    omega
theorem textE_short : ∀ (d : Nat) (e : El), rightE d e = true → shortE d e → (textE d e).length ≤ 1200 * toksC d e
  | 0, _, h, _ => by cases h
  | d + 1, e, hr, hs => by
    simp only [rightE, Bool.and_eq_true, decide_eq_true_eq] at hr
    obtain ⟨_, hn, _, _, hkids⟩ := hr
    obtain ⟨s1, s2, s3⟩ := hs
    have h2 := nameB_len hn
    have h3 := flat_short (d := d) e.kids fun k hk => textE_short d k (List.all_eq_true.1 hkids k hk) (s3 k hk)
    unfold textE toksC
    rw [List.length_append]
    have h4 : ([60] ++ e.nm ++ attrsT e.attrs).length = 1 + e.nm.length + (attrsT e.attrs).length := by simp; omega
    rw [h4, Nat.mul_add, Nat.mul_add]
    split
    · simp only [List.length_cons, List.length_nil]
      omega
    · rw [List.length_append, List.length_append, List.length_append]
      have h5 : ([60, 47] ++ e.nm ++ [62] : List UInt8).length = 3 + e.nm.length := by simp; omega
      rw [h5]
      simp only [List.length_cons, List.length_nil]
      omega
theorem toks_small : ∀ (d : Nat) (e : El), rightE d e = true → shortB d e = true → ∀ t ∈ toksE d e, t.attrs.length ≤ 1000 ∧ t.text.length ≤ 2000000
  | 0, _, h, _ => by cases h
  | d + 1, e, hr, hs => by
    simp only [rightE, Bool.and_eq_true, decide_eq_true_eq] at hr
    obtain ⟨_, _, ha, _, hkids⟩ := hr
    simp only [rightA, Bool.and_eq_true, decide_eq_true_eq] at ha
    simp only [shortB, Bool.and_eq_true, decide_eq_true_eq] at hs
    obtain ⟨_, s2, s3⟩ := hs
    intro t ht
    simp only [toksE, List.mem_cons, List.mem_append, List.mem_flatMap, List.not_mem_nil, or_false] at ht
    rcases ht with rfl | (ht | ⟨k, hk, ht⟩) | rfl
    · exact ⟨by have := ha.1; show e.attrs.length ≤ 1000; omega, by simp⟩
    · split at ht
      · simp at ht
      · rw [List.mem_singleton] at ht
        subst ht
        exact ⟨by simp, by show e.text.length ≤ _; omega⟩
    · exact toks_small d k (List.all_eq_true.1 hkids k hk) (List.all_eq_true.1 s3 k hk) t ht
    · exact ⟨by simp, by simp⟩
theorem items_small : ∀ (es : List El), (∀ e ∈ es, rightE 4 e = true ∧ shortB 4 e = true ∧ toksC 4 e ≤ 64) → (∀ t ∈ itemsK es, t.attrs.length ≤ 1000 ∧ t.text.length ≤ 2000000) ∧ (itemsK es).length ≤ es.length * 65 ∧ (itemsT es).length ≤ es.length * 76802
  | [], _ => ⟨fun t ht => by simp [itemsK] at ht, by simp [itemsK], by simp [itemsT]⟩
  | e :: es, h => by
    obtain ⟨i1, i2, i3⟩ := items_small es fun q hq => h q (by simp [hq])
    obtain ⟨h1, h2, h3⟩ := h e (by simp)
    have h4 := textE_short 4 e h1 (short_of 4 e h1 h2)
    refine ⟨fun t ht => ?_, ?_, ?_⟩
    · simp only [itemsK, List.mem_append, List.mem_cons] at ht
      rcases ht with ht | rfl | ht
      · exact toks_small 4 e h1 h2 t ht
      · exact ⟨by simp, by simp⟩
      · exact i1 t ht
    · show (toksE 4 e ++ (_ :: itemsK es)).length ≤ _
      rw [List.length_append, List.length_cons, List.length_cons, toks_cnt, Nat.add_mul]
      omega
    · have e1 : itemsT (e :: es) = textE 4 e ++ [32, 10] ++ itemsT es := rfl
      rw [e1, List.length_append, List.length_append]
      simp only [List.length_cons, List.length_nil, Nat.add_mul]
      omega
end Go.Proofs.YthekdgnikkjpdaaDoor
