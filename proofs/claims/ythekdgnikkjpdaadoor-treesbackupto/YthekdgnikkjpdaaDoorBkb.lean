/-
  Plain mathematics, of no program: a builder that takes an element's tokens makes that element.
-/
import Derived.Test.YthekdgnikkjpdaaDoorBka
namespace Go.Proofs.YthekdgnikkjpdaaDoor
open Go Go.RowKit
theorem runB_app : ∀ (a b : List Tok) (S S' : Bs) (evs : List (Int × El)), runB S a = (S', evs, 0) → runB S (a ++ b) = ((runB S' b).1, evs ++ (runB S' b).2.1, (runB S' b).2.2)
  | [], b, S, S', evs, h => by
    simp only [runB, Prod.mk.injEq] at h
    obtain ⟨rfl, rfl, _⟩ := h
    simp
  | t :: a, b, S, S', evs, h => by
    unfold runB at h
    by_cases h0 : (takeN S t).2.2 = 0
    · rw [if_pos h0] at h
      simp only [Prod.mk.injEq] at h
      obtain ⟨h1, h2, h3⟩ := h
      have ih := runB_app a b (takeN S t).1 S' (runB (takeN S t).1 a).2.1 (by rw [← h1, ← h3])
      rw [List.cons_append]
      conv => lhs; unfold runB
      rw [if_pos h0, ih, ← h2]
      simp
    · rw [if_neg h0] at h
      simp only [Prod.mk.injEq] at h
      exact absurd h.2.2 h0
theorem runB_one (S S' : Bs) (t : Tok) (ev : Option (Int × El)) (h : takeN S t = (S', ev, 0)) : runB S [t] = (S', ev.toList, 0) := by simp [runB, h]
theorem take_begin {st : List UInt8} {l : List El} {k : Int} {t : Tok} (hk : t.kind = 1) (hl : l ≠ []) (h64 : k ≠ 64) (h4 : l.length ≠ 4) (h16 : (lastE l).kids.length ≠ 16) : takeN ⟨1, st, l, k, 0⟩ t = (⟨1, st, l ++ [elOf t], k + 1, 0⟩, none, 0) := by
  have he : l.isEmpty = false := by cases l with | nil => exact absurd rfl hl | cons a b => rfl
  simp [takeN, faultN, addN, hk, hl, h64, h4, h16, he]
theorem take_item {st : List UInt8} {k : Int} {t : Tok} (hk : t.kind = 1) : takeN ⟨1, st, [], k, 0⟩ t = (⟨1, st, [elOf t], 1, 0⟩, none, 0) := by
  simp [takeN, faultN, addN, hk]
theorem take_text {st : List UInt8} {l : List El} {k : Int} {t : Tok} (hk : t.kind = 3) (hl : l ≠ []) (h64 : k ≠ 64) : takeN ⟨1, st, l, k, 0⟩ t = (⟨1, st, l.dropLast ++ [(lastE l).say t.text], k + 1, 0⟩, none, 0) := by
  have he : l.isEmpty = false := by cases l with | nil => exact absurd rfl hl | cons a b => rfl
  simp [takeN, faultN, addN, hk, hl, h64, he]
theorem take_end {st : List UInt8} {l : List El} {k : Int} {t : Tok} (hk : t.kind = 2) (hl : l ≠ []) (h64 : k ≠ 64) (hn : t.nm = (lastE l).nm) : takeN ⟨1, st, l, k, 0⟩ t = (⟨1, st, (shutN l).1, k + 1, 0⟩, (shutN l).2.map fun e => (2, e), 0) := by
  have he : l.isEmpty = false := by cases l with | nil => exact absurd rfl hl | cons a b => rfl
  simp [takeN, faultN, addN, innerN, hk, hl, h64, he, hn]
theorem el_eta (e : El) : (⟨e.nm, e.attrs, e.text, e.kids⟩ : El) = e := by cases e; rfl
theorem last_snoc (l : List El) (e : El) : lastE (l ++ [e]) = e := by simp [lastE]
theorem toks_pos (d : Nat) (e : El) (h : rightE d e = true) : 2 ≤ (toksE d e).length := by
  cases d with
  | zero => cases h
  | succ d =>
    simp only [toksE, List.length_cons, List.length_append, List.length_nil]
    omega
theorem kids_run {d : Nat} {st : List UInt8} (ih : ∀ (e : El) (l : List El) (k : Int), rightE d e = true → l ≠ [] → l.length + d ≤ 4 → (lastE l).kids.length < 16 → 0 ≤ k → k + (toksE d e).length ≤ 64 → runB ⟨1, st, l, k, 0⟩ (toksE d e) = (⟨1, st, l.dropLast ++ [(lastE l).put e], k + (toksE d e).length, 0⟩, [], 0)) :
    ∀ (ks : List El) (l : List El) (x : El) (k : Int), (∀ e ∈ ks, rightE d e = true) → l.length + 1 + d ≤ 4 → x.kids.length + ks.length ≤ 16 → 0 ≤ k → k + (ks.flatMap (toksE d)).length ≤ 64 → runB ⟨1, st, l ++ [x], k, 0⟩ (ks.flatMap (toksE d)) = (⟨1, st, l ++ [⟨x.nm, x.attrs, x.text, x.kids ++ ks⟩], k + (ks.flatMap (toksE d)).length, 0⟩, [], 0)
  | [], l, x, k, _, _, _, _, _ => by
    simp only [List.flatMap_nil, runB, List.append_nil, List.length_nil, Prod.mk.injEq, and_true, Bs.mk.injEq, true_and]
    exact ⟨by rw [el_eta], (Int.add_zero k).symm⟩
  | e :: ks, l, x, k, hr, hd, h16, hk, h64 => by
    simp only [List.flatMap_cons, List.length_append, List.length_cons] at h64 h16 ⊢
    have h1 := ih e (l ++ [x]) k (hr e (by simp)) (by simp) (by simp; omega) (by rw [last_snoc]; omega) hk (by omega)
    rw [last_snoc, List.dropLast_concat] at h1
    have h2 := kids_run ih ks l (x.put e) (k + (toksE d e).length) (fun q hq => hr q (by simp [hq])) hd (by show (x.kids ++ [e]).length + ks.length ≤ 16; simp; omega) (by omega) (by omega)
    rw [runB_app _ _ _ _ _ h1, h2]
    simp only [El.put, List.append_assoc, List.singleton_append, List.nil_append, Prod.mk.injEq, and_true, Bs.mk.injEq, true_and]
    push_cast
    omega
/-- Behind the begin of an element: its text and its kids. -/
theorem body_run {d : Nat} {st : List UInt8} (ih : ∀ (e : El) (l : List El) (k : Int), rightE d e = true → l ≠ [] → l.length + d ≤ 4 → (lastE l).kids.length < 16 → 0 ≤ k → k + (toksE d e).length ≤ 64 → runB ⟨1, st, l, k, 0⟩ (toksE d e) = (⟨1, st, l.dropLast ++ [(lastE l).put e], k + (toksE d e).length, 0⟩, [], 0))
    (e : El) (l : List El) (k : Int) (hr : rightE (d + 1) e = true) (hd : l.length + 1 + d ≤ 4) (hk : 0 ≤ k) (h64 : k + ((if e.text.isEmpty then [] else [(⟨3, [], [], e.text⟩ : Tok)]) ++ e.kids.flatMap (toksE d)).length ≤ 64) :
    runB ⟨1, st, l ++ [⟨e.nm, e.attrs, [], []⟩], k, 0⟩ ((if e.text.isEmpty then [] else [(⟨3, [], [], e.text⟩ : Tok)]) ++ e.kids.flatMap (toksE d)) = (⟨1, st, l ++ [e], k + ((if e.text.isEmpty then [] else [(⟨3, [], [], e.text⟩ : Tok)]) ++ e.kids.flatMap (toksE d)).length, 0⟩, [], 0) := by
  simp only [rightE, Bool.and_eq_true, decide_eq_true_eq] at hr
  obtain ⟨hkl, _, _, _, hkids⟩ := hr
  have hka : ∀ q ∈ e.kids, rightE d q = true := fun q hq => List.all_eq_true.1 hkids q hq
  cases ht : e.text with
  | nil =>
    simp only [ht, List.isEmpty_nil, if_true, List.nil_append] at h64 ⊢
    have h := kids_run (st := st) ih e.kids l ⟨e.nm, e.attrs, [], []⟩ k hka hd (by simpa using hkl) hk h64
    rw [h]
    simp only [List.nil_append]
    rw [← ht, el_eta]
  | cons a r =>
    simp only [ht, List.isEmpty_cons, Bool.false_eq_true, if_false, List.length_append, List.length_cons, List.length_nil] at h64 ⊢
    have h1 : takeN ⟨1, st, l ++ [⟨e.nm, e.attrs, [], []⟩], k, 0⟩ ⟨3, [], [], a :: r⟩ = (⟨1, st, l ++ [⟨e.nm, e.attrs, a :: r, []⟩], k + 1, 0⟩, none, 0) := by
      rw [take_text rfl (by simp) (by omega), last_snoc, List.dropLast_concat]
      rfl
    have h := kids_run (st := st) ih e.kids l ⟨e.nm, e.attrs, a :: r, []⟩ (k + 1) hka hd (by simpa using hkl) (by omega) (by omega)
    rw [runB_app _ _ _ _ _ (runB_one _ _ _ _ h1), h]
    simp only [List.nil_append, Option.toList_none, Prod.mk.injEq, and_true, Bs.mk.injEq, true_and]
    refine ⟨by rw [← ht, el_eta], ?_⟩
    push_cast
    omega
theorem elem_run {st : List UInt8} : ∀ (d : Nat) (e : El) (l : List El) (k : Int), rightE d e = true → l ≠ [] → l.length + d ≤ 4 → (lastE l).kids.length < 16 → 0 ≤ k → k + (toksE d e).length ≤ 64 → runB ⟨1, st, l, k, 0⟩ (toksE d e) = (⟨1, st, l.dropLast ++ [(lastE l).put e], k + (toksE d e).length, 0⟩, [], 0)
  | 0, _, _, _, h, _, _, _, _, _ => by cases h
  | d + 1, e, l, k, hr, hl, hd, h16, hk, h64 => by
    have hb := take_begin (st := st) (l := l) (k := k) (t := ⟨1, e.nm, e.attrs, []⟩) rfl hl (by have := toks_pos (d + 1) e hr; omega) (by omega) (by omega)
    simp only [toksE, List.length_cons, List.length_append, List.length_nil] at h64 ⊢
    have hm := body_run (st := st) (elem_run d) e l (k + 1) hr (by omega) (by omega) (by simp only [List.length_append]; omega)
    have hlen : 2 ≤ (l ++ [e]).length := by have := List.length_pos_iff.2 hl; simp; omega
    have hs : shutN (l ++ [e]) = (l.dropLast ++ [(lastE l).put e], none) := by
      unfold shutN
      rw [if_neg (by omega), List.dropLast_concat, last_snoc]
    have he := take_end (st := st) (l := l ++ [e]) (k := k + 1 + ((if e.text.isEmpty then [] else [(⟨3, [], [], e.text⟩ : Tok)]) ++ e.kids.flatMap (toksE d)).length) (t := ⟨2, e.nm, [], []⟩) rfl (by simp) (by simp only [List.length_append]; omega) (by rw [last_snoc])
    rw [hs] at he
    have e1 : (⟨1, e.nm, e.attrs, []⟩ : Tok) :: ((if e.text.isEmpty then [] else [⟨3, [], [], e.text⟩]) ++ e.kids.flatMap (toksE d) ++ [⟨2, e.nm, [], []⟩]) = [⟨1, e.nm, e.attrs, []⟩] ++ (((if e.text.isEmpty then [] else [⟨3, [], [], e.text⟩]) ++ e.kids.flatMap (toksE d)) ++ [⟨2, e.nm, [], []⟩]) := rfl
    rw [e1, runB_app _ _ _ _ _ (runB_one _ _ _ _ hb)]
    have hm' : runB ⟨1, st, l ++ [elOf ⟨1, e.nm, e.attrs, []⟩], k + 1, 0⟩ _ = _ := hm
    rw [runB_app _ _ _ _ _ hm', runB_one _ _ _ _ he]
    simp only [Option.toList_none, List.append_nil, Option.map_none, Prod.mk.injEq, and_true, Bs.mk.injEq, true_and, List.length_append]
    push_cast
    omega
/-- An item, whole. -/
theorem item_run {st : List UInt8} (e : El) (k : Int) (hr : rightE 4 e = true) (h64 : (toksE 4 e).length ≤ 64) : ∃ k', runB ⟨1, st, [], k, 0⟩ (toksE 4 e) = (⟨1, st, [], k', 0⟩, [(2, e)], 0) := by
  have hb := take_item (st := st) (k := k) (t := ⟨1, e.nm, e.attrs, []⟩) rfl
  have e1 : toksE 4 e = [⟨1, e.nm, e.attrs, []⟩] ++ (((if e.text.isEmpty then [] else [⟨3, [], [], e.text⟩]) ++ e.kids.flatMap (toksE 3)) ++ [⟨2, e.nm, [], []⟩]) := rfl
  rw [e1, List.length_append, List.length_append] at h64
  simp only [List.length_cons, List.length_nil] at h64
  have hm := body_run (d := 3) (st := st) (elem_run 3) e [] 1 hr (by simp) (by omega) (by omega)
  rw [List.nil_append, List.nil_append] at hm
  have he := take_end (st := st) (l := [e]) (k := 1 + ((if e.text.isEmpty then [] else [(⟨3, [], [], e.text⟩ : Tok)]) ++ e.kids.flatMap (toksE 3)).length) (t := ⟨2, e.nm, [], []⟩) rfl (by simp) (by omega) rfl
  refine ⟨1 + ((if e.text.isEmpty then [] else [(⟨3, [], [], e.text⟩ : Tok)]) ++ e.kids.flatMap (toksE 3)).length + 1, ?_⟩
  rw [e1, runB_app _ _ _ _ _ (runB_one _ _ _ _ hb)]
  have hm' : runB ⟨1, st, [elOf ⟨1, e.nm, e.attrs, []⟩], 1, 0⟩ _ = _ := hm
  rw [runB_app _ _ _ _ _ hm', runB_one _ _ _ _ he]
  rfl
end Go.Proofs.YthekdgnikkjpdaaDoor
