/-
  Plain mathematics, of no program: the document's reading of tokens, and that a builder goes on alike.
-/
import Derived.Test.YthekdgnikkjpdaaDoorPtree
import Derived.Test.YthekdgnikkjpdaaDoorReaa
namespace Go.Proofs.YthekdgnikkjpdaaDoor
/-- The document's reading: the stream's name and a blank behind it, is the foot there, the item, how deep, its tokens. -/
structure Rs where
  head : List UInt8
  foot : Bool
  item : El
  deep : Nat
  count : Int
def rs0 : Rs := ⟨[], false, el0, 0, 0⟩
def openD : El → Nat → El
  | e, 0 => e
  | e, 1 => e
  | e, d + 2 => openD (lastE e.kids) (d + 1)
def El.onLast (e : El) (f : El → El) : El := ⟨e.nm, e.attrs, e.text, e.kids.dropLast ++ [f (lastE e.kids)]⟩
def saidD : El → Nat → List UInt8 → El
  | e, 0, s => e.say s
  | e, 1, s => e.say s
  | e, d + 2, s => e.onLast fun k => saidD k (d + 1) s
def putD : El → Nat → El → El
  | e, 0, k => e.put k
  | e, 1, k => e.put k
  | e, d + 2, k => e.onLast fun x => putD x (d + 1) k
/-- One token more, as the document reads it: an error, or the state and the event. -/
def stepD (R : Rs) (t : Tok) : Int ⊕ (Rs × Option (Int × El)) :=
  if R.foot = true ∨ t.kind < 1 ∨ 3 < t.kind ∨ (R.head = [] ∧ t.kind ≠ 1) then .inl 3
  else if R.head = [] then .inr (⟨t.nm ++ [32], R.foot, R.item, R.deep, R.count⟩, some (1, elOf t))
  else
    let c : Int := (if R.deep = 0 then 0 else R.count) + 1
    if (R.deep = 0 ∧ t.kind = 3 ∧ blankT t.text = false) ∨ (R.deep = 0 ∧ t.kind = 2 ∧ t.nm ++ [32] ≠ R.head) then .inl 3
    else if R.deep = 0 ∧ t.kind = 2 then .inr (⟨R.head, true, R.item, R.deep, c⟩, some (3, el0))
    else if R.deep = 0 ∧ t.kind = 3 then .inr (⟨R.head, R.foot, R.item, R.deep, c⟩, none)
    else if 64 < c then .inl 4
    else if t.kind = 3 then .inr (⟨R.head, R.foot, saidD R.item R.deep t.text, R.deep, c⟩, none)
    else if t.kind = 1 then
      if 4 ≤ R.deep then .inl 5
      else if R.deep = 0 then .inr (⟨R.head, R.foot, elOf t, 1, c⟩, none)
      else if 16 ≤ (openD R.item R.deep).kids.length then .inl 4
      else .inr (⟨R.head, R.foot, putD R.item R.deep (elOf t), R.deep + 1, c⟩, none)
    else if (openD R.item R.deep).nm ≠ t.nm then .inl 3
    else .inr (⟨R.head, R.foot, R.item, R.deep - 1, c⟩, if R.deep - 1 = 0 then some (2, R.item) else none)
/-- Open elements, each put into the one around it. -/
def nestN : List El → El
  | [] => el0
  | [e] => e
  | e :: x :: r => e.put (nestN (x :: r))
theorem lastE_app (l : List El) (e : El) : lastE (l ++ [e]) = e := by simp [lastE]
theorem put_onLast (e k : El) (f : El → El) : (e.put k).onLast f = e.put (f k) := by
  simp [El.put, El.onLast, lastE_app]
theorem openD_nest : ∀ (l : List El), l ≠ [] → openD (nestN l) l.length = lastE l
  | [], h => absurd rfl h
  | [e], _ => rfl
  | e :: x :: r, _ => by
    have h1 := openD_nest (x :: r) (by simp)
    show openD (lastE (e.put (nestN (x :: r))).kids) ((x :: r).length) = _
    have h2 : lastE (e.put (nestN (x :: r))).kids = nestN (x :: r) := lastE_app _ _
    rw [h2, h1]
    simp [lastE, List.getLastD]
theorem saidD_nest : ∀ (l : List El) (s : List UInt8), l ≠ [] → saidD (nestN l) l.length s = nestN (l.dropLast ++ [(lastE l).say s])
  | [], _, h => absurd rfl h
  | [e], s, _ => rfl
  | e :: x :: r, s, _ => by
    have h1 := saidD_nest (x :: r) s (by simp)
    show (e.put (nestN (x :: r))).onLast (fun k => saidD k ((x :: r).length) s) = _
    rw [put_onLast, h1]
    have h2 : lastE (e :: x :: r) = lastE (x :: r) := by simp [lastE, List.getLastD]
    have h3 : (e :: x :: r).dropLast = e :: (x :: r).dropLast := rfl
    rw [h2, h3]
    cases hr : (x :: r).dropLast ++ [(lastE (x :: r)).say s] with
    | nil => simp at hr
    | cons a b => simp [nestN, hr]
theorem putD_nest : ∀ (l : List El) (k : El), l ≠ [] → putD (nestN l) l.length k = nestN (l ++ [k])
  | [], _, h => absurd rfl h
  | [e], k, _ => rfl
  | e :: x :: r, k, _ => by
    have h1 := putD_nest (x :: r) k (by simp)
    show (e.put (nestN (x :: r))).onLast (fun z => putD z ((x :: r).length) k) = _
    rw [put_onLast, h1]
    rfl
theorem nest_shut : ∀ (l : List El), 2 ≤ l.length → nestN (l.dropLast.dropLast ++ [(lastE l.dropLast).put (lastE l)]) = nestN l
  | [], h => by simp at h
  | [_], h => by simp at h
  | [e, x], _ => rfl
  | e :: x :: y :: r, _ => by
    have h1 := nest_shut (x :: y :: r) (by simp)
    have h3 : (e :: x :: y :: r).dropLast = e :: (x :: y :: r).dropLast := rfl
    have h4 : (x :: y :: r).dropLast = x :: (y :: r).dropLast := rfl
    have h2 : lastE (e :: x :: y :: r) = lastE (x :: y :: r) := by simp [lastE, List.getLastD]
    have h5 : lastE (e :: x :: y :: r).dropLast = lastE (x :: y :: r).dropLast := by rw [h3, h4]; simp [lastE, List.getLastD]
    have h6 : (e :: x :: y :: r).dropLast.dropLast = e :: (x :: y :: r).dropLast.dropLast := by rw [h3, h4]; rfl
    rw [h2, h5, h6]
    cases hr : (x :: y :: r).dropLast.dropLast ++ [(lastE (x :: y :: r).dropLast).put (lastE (x :: y :: r))] with
    | nil => simp at hr
    | cons a b =>
      rw [List.cons_append, hr]
      rw [hr] at h1
      show e.put (nestN (a :: b)) = e.put (nestN (x :: y :: r))
      rw [h1]
/-- A builder that has not failed, and the document's reading, at one place. -/
def RelB (S : Bs) (R : Rs) : Prop :=
  S.failed = 0 ∧ R.deep = S.opn.length ∧ (S.opn ≠ [] → R.item = nestN S.opn ∧ R.count = S.taken) ∧
  ((S.stage = 0 ∧ R.head = [] ∧ R.foot = false ∧ S.opn = []) ∨ (S.stage = 1 ∧ R.head = S.stream ++ [32] ∧ R.foot = false) ∨ (S.stage = 2 ∧ R.head ≠ [] ∧ R.foot = true ∧ S.opn = []))
theorem rel0 : RelB bs0 rs0 := ⟨rfl, rfl, fun h => absurd rfl h, .inl ⟨rfl, rfl, rfl, rfl⟩⟩
theorem nm_eq (a b : List UInt8) : a ++ [32] ≠ b ++ [32] ↔ a ≠ b := by
  constructor
  · intro h e; exact h (by rw [e])
  · intro h e; exact h (List.append_cancel_right e)
/-- One token more: the builder and the document go on alike. -/
theorem step_eq (S : Bs) (R : Rs) (t : Tok) (h : RelB S R) (hok : BOk S) :
    (∃ e, stepD R t = .inl e ∧ e ≠ 0 ∧ takeN S t = (⟨S.stage, [], [], S.taken, e⟩, none, e)) ∨
    ∃ R' ev S', stepD R t = .inr (R', ev) ∧ takeN S t = (S', ev, 0) ∧ RelB S' R' := by
  obtain ⟨hf, hd, hi, hs⟩ := h
  unfold takeN
  rw [if_pos hf]
  by_cases hk : t.kind < 1 ∨ 3 < t.kind
  · refine .inl ⟨3, ?_, by decide, ?_⟩
    · unfold stepD
      rw [if_pos (by rcases hk with h | h; exact .inr (.inl h); exact .inr (.inr (.inl h)))]
    · have : faultN S t = 3 := by
        unfold faultN
        rw [if_pos (by rcases hk with h | h; exact .inr (.inr (.inl h)); exact .inr (.inr (.inr h)))]
      rw [this]
      rfl
  have hk3 : t.kind = 1 ∨ t.kind = 2 ∨ t.kind = 3 := by omega
  rcases hs with ⟨s0, hh, ft, ho⟩ | ⟨s1, hh, ft⟩ | ⟨s2, hh, ft, ho⟩
  · -- ahead of the head
    by_cases h1 : t.kind = 1
    · refine .inr ⟨⟨t.nm ++ [32], R.foot, R.item, R.deep, R.count⟩, some (1, elOf t), ⟨1, t.nm, S.opn, S.taken, S.failed⟩, ?_, ?_, ?_⟩
      · unfold stepD
        rw [if_neg (by rw [ft]; simp; omega), if_pos hh]
      · have : faultN S t = 0 := by
          unfold faultN
          simp [s0, ho, h1]
        rw [if_pos this]
        unfold addN
        simp [ho, s0]
      · refine ⟨hf, hd, fun e => absurd ho e, .inr (.inl ⟨rfl, rfl, ft⟩)⟩
    · refine .inl ⟨3, ?_, by decide, ?_⟩
      · unfold stepD
        rw [if_pos (.inr (.inr (.inr ⟨hh, h1⟩)))]
      · have : faultN S t = 3 := by
          unfold faultN
          rw [if_pos (.inl ⟨s0, h1⟩)]
        rw [this]
        rfl
  · have hhn : R.head ≠ [] := by rw [hh]; simp
    have hA : ¬ (R.foot = true ∨ t.kind < 1 ∨ 3 < t.kind ∨ (R.head = [] ∧ t.kind ≠ 1)) := by
      rw [ft]; simp [hhn]; omega
    have hF : ¬ ((S.stage = 0 ∧ t.kind ≠ 1) ∨ S.stage = 2 ∨ t.kind < 1 ∨ 3 < t.kind) := by omega
    unfold stepD faultN
    simp only [if_neg hA, if_neg hhn, if_neg hF]
    by_cases ho : S.opn = []
    · have hd0 : R.deep = 0 := by rw [hd, ho]; rfl
      rcases hk3 with k1 | k2 | k3
      · -- an item begins
        refine .inr ⟨⟨R.head, R.foot, elOf t, 1, 1⟩, none, ⟨S.stage, S.stream, [elOf t], 1, S.failed⟩, ?_, ?_, ?_⟩
        · simp [hd0, k1]
        · simp [ho, k1, addN, s1]
        · exact ⟨hf, rfl, fun _ => ⟨rfl, rfl⟩, .inr (.inl ⟨s1, hh, ft⟩)⟩
      · -- the foot
        by_cases hn : t.nm = S.stream
        · refine .inr ⟨⟨R.head, true, R.item, R.deep, 1⟩, some (3, el0), ⟨2, [], S.opn, S.taken, S.failed⟩, ?_, ?_, ?_⟩
          · simp [hd0, k2, hh, hn]
          · simp [ho, k2, addN, s1, innerN, hn]
          · exact ⟨hf, hd, fun e => absurd ho e, .inr (.inr ⟨rfl, hhn, rfl, ho⟩)⟩
        · refine .inl ⟨3, ?_, by decide, ?_⟩
          · simp [hd0, k2, hh, hn]
          · simp [ho, k2, innerN, hn]
      · cases hb : blankT t.text with
        | true =>
          refine .inr ⟨⟨R.head, R.foot, R.item, R.deep, 1⟩, none, S, ?_, ?_, ?_⟩
          · simp [hd0, k3]
          · simp [ho, k3, addN, s1]
          · exact ⟨hf, hd, fun e => absurd ho e, .inr (.inl ⟨s1, hh, ft⟩)⟩
        | false =>
          refine .inl ⟨3, ?_, by decide, ?_⟩
          · simp [hd0, k3]
          · simp [ho, k3]
    · obtain ⟨hi1, hi2⟩ := hi ho
      have hdn : R.deep ≠ 0 := by rw [hd]; simp; exact ho
      have hopen : openD R.item R.deep = lastE S.opn := by rw [hi1, hd]; exact openD_nest _ ho
      have hlen := hok.opn
      have htk := hok.taken
      have hemp : S.opn.isEmpty = false := by cases hx : S.opn with | nil => exact absurd hx ho | cons a b => rfl
      have hkid : (lastE S.opn).kids.length ≤ 16 := hok.kids _ (by
        unfold lastE
        rw [List.getLastD_eq_getLast?, List.getLast?_eq_some_getLast ho]
        exact List.getLast_mem ho)
      by_cases h64 : S.taken = 64
      · refine .inl ⟨4, ?_, by decide, ?_⟩
        · have : (64 : Int) < R.count + 1 := by rw [hi2, h64]; decide
          simp [hdn, this]
        · simp [ho, h64]
      have h64' : ¬ (64 : Int) < R.count + 1 := by rw [hi2]; omega
      rcases hk3 with k1 | k2 | k3
      · by_cases h4 : S.opn.length = 4
        · refine .inl ⟨5, ?_, by decide, ?_⟩
          · have : 4 ≤ R.deep := by omega
            simp [hdn, h64', k1, this]
          · simp [ho, h64, k1, h4]
        have h4' : ¬ 4 ≤ R.deep := by omega
        by_cases h16 : (lastE S.opn).kids.length = 16
        · refine .inl ⟨4, ?_, by decide, ?_⟩
          · simp [hdn, h64', k1, h4', hopen, h16]
          · simp [ho, h64, k1, h4, h16]
        · have h16' : ¬ 16 ≤ (lastE S.opn).kids.length := by omega
          refine .inr ⟨⟨R.head, R.foot, putD R.item R.deep (elOf t), R.deep + 1, R.count + 1⟩, none, ⟨S.stage, S.stream, S.opn ++ [elOf t], S.taken + 1, S.failed⟩, ?_, ?_, ?_⟩
          · simp [hdn, h64', k1, h4', hopen, h16']
          · simp [ho, h64, k1, h4, h16, addN, hemp]
          · refine ⟨hf, by simp [hd], fun _ => ⟨?_, by rw [hi2]⟩, .inr (.inl ⟨s1, hh, ft⟩)⟩
            show putD R.item R.deep (elOf t) = _
            rw [hi1, hd]
            exact putD_nest _ _ ho
      · by_cases hn : t.nm = (lastE S.opn).nm
        · refine .inr ⟨⟨R.head, R.foot, R.item, R.deep - 1, R.count + 1⟩, if R.deep - 1 = 0 then some (2, R.item) else none, ⟨S.stage, S.stream, (shutN S.opn).1, S.taken + 1, S.failed⟩, ?_, ?_, ?_⟩
          · simp [hdn, h64', k2, hopen, hn]
          · simp [ho, h64, k2, addN, hemp, innerN, hn]
            unfold shutN
            by_cases hl : S.opn.length ≤ 1
            · rw [if_pos hl, if_pos (by omega)]
              obtain ⟨e, he⟩ : ∃ e, S.opn = [e] := by
                cases hx : S.opn with
                | nil => exact absurd hx ho
                | cons a b => cases b with
                  | nil => exact ⟨a, rfl⟩
                  | cons c d => rw [hx] at hl; simp at hl
              rw [hi1, he]
              rfl
            · rw [if_neg hl, if_neg (by omega)]
              rfl
          · unfold shutN
            by_cases hl : S.opn.length ≤ 1
            · rw [if_pos hl]
              have hpos : 0 < S.opn.length := List.length_pos_iff.2 ho
              exact ⟨hf, by show R.deep - 1 = 0; omega, fun e => absurd rfl e, .inr (.inl ⟨s1, hh, ft⟩)⟩
            · rw [if_neg hl]
              refine ⟨hf, ?_, fun _ => ⟨?_, by rw [hi2]⟩, .inr (.inl ⟨s1, hh, ft⟩)⟩
              · show R.deep - 1 = _
                simp
                omega
              · show R.item = _
                rw [hi1]
                exact (nest_shut _ (by omega)).symm
        · refine .inl ⟨3, ?_, by decide, ?_⟩
          · have hn' : ¬ (lastE S.opn).nm = t.nm := fun e => hn e.symm
            simp [hdn, h64', k2, hopen, hn']
          · simp [ho, h64, k2, innerN, hemp, hn]
      · refine .inr ⟨⟨R.head, R.foot, saidD R.item R.deep t.text, R.deep, R.count + 1⟩, none, ⟨S.stage, S.stream, S.opn.dropLast ++ [(lastE S.opn).say t.text], S.taken + 1, S.failed⟩, ?_, ?_, ?_⟩
        · simp [hdn, h64', k3]
        · simp [ho, h64, k3, addN, hemp]
        · refine ⟨hf, ?_, fun _ => ⟨?_, by rw [hi2]⟩, .inr (.inl ⟨s1, hh, ft⟩)⟩
          · have hpos : 0 < S.opn.length := List.length_pos_iff.2 ho
            show R.deep = _
            simp
            omega
          · show saidD R.item R.deep t.text = _
            rw [hi1, hd]
            exact saidD_nest _ _ ho
  · refine .inl ⟨3, ?_, by decide, ?_⟩
    · unfold stepD
      rw [if_pos (.inl ft)]
    · have : faultN S t = 3 := by
        unfold faultN
        rw [if_pos (.inr (.inl s2))]
      rw [this]
      rfl
end Go.Proofs.YthekdgnikkjpdaaDoor
/-
  Plain mathematics, of no program: the document's reading of all tokens is the builder's.
-/
namespace Go.Proofs.YthekdgnikkjpdaaDoor
/-- The document's reading of tokens: the events, the error, how many elements are open. -/
def runD : Rs → List Tok → List (Int × El) × Int × Int
  | R, [] => ([], 0, if R.head ≠ [] ∧ R.foot = false then 1 + R.deep else 0)
  | R, t :: ts => match stepD R t with
    | .inl e => ([], e, 0)
    | .inr (R', ev) => (ev.toList ++ (runD R' ts).1, (runD R' ts).2.1, (runD R' ts).2.2)
theorem run_eq : ∀ (ts : List Tok) (S : Bs) (R : Rs), RelB S R → BOk2 S → runD R ts = ((runB S ts).2.1, (runB S ts).2.2, depthN (runB S ts).1)
  | [], S, R, h, _ => by
    obtain ⟨hf, hd, _, hs⟩ := h
    show (_, _, _) = ([], 0, depthN S)
    unfold depthN
    rcases hs with ⟨s0, hh, ft, ho⟩ | ⟨s1, hh, ft⟩ | ⟨s2, hh, ft, ho⟩
    · simp [hh, s0]
    · simp [hh, ft, s1, hf, hd]
    · simp [ft, s2]
  | t :: ts, S, R, h, hk => by
    rcases step_eq S R t h hk.1 with ⟨e, h1, h2, h3⟩ | ⟨R', ev, S', h1, h2, h3⟩
    · unfold runD runB
      rw [h1, h3]
      simp [h2, depthN]
    · have hk' := takeN_ok S t hk
      rw [h2] at hk'
      have ih := run_eq ts S' R' h3 hk'
      unfold runD runB
      rw [h1, h2]
      simp [ih]
theorem build_eq (ts : List Tok) (hk : BOk2 bs0) : runD rs0 ts = ((runB bs0 ts).2.1, (runB bs0 ts).2.2, depthN (runB bs0 ts).1) := run_eq ts bs0 rs0 rel0 hk
end Go.Proofs.YthekdgnikkjpdaaDoor
