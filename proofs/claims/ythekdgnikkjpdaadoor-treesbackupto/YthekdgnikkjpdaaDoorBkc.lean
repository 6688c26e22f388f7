/-
  Plain mathematics, of no program: a stream of items, as it is written, is read; and what is short.
-/
import Derived.Test.YthekdgnikkjpdaaDoorBkb
namespace Go.Proofs.YthekdgnikkjpdaaDoor
open Go Go.RowKit
/-- Items, each with two blanks behind it. -/
def itemsT (es : List El) : List UInt8 := es.flatMap fun e => textE 4 e ++ [32, 10]
def itemsK : List El → List Tok
  | [] => []
  | e :: es => toksE 4 e ++ (⟨3, [], [], [32, 10]⟩ :: itemsK es)
theorem name_s : name [115] = true := by decide
theorem text_bl : textN [32, 10] = ([⟨3, [], [], [32, 10]⟩], 0) := by
  have h := text_esc [32, 10] (by decide)
  rw [show esc [32, 10] = [32, 10] from by decide] at h
  exact h
theorem feed_items : ∀ (es : List El) (h : List UInt8) (ts : List Tok), textN h = (ts, 0) → (∀ e ∈ es, rightE 4 e = true ∧ shortE 4 e) → feedN ⟨h, false, 0⟩ (itemsT es ++ [60, 47, 115, 62]) = (⟨[], false, 0⟩, ts ++ itemsK es ++ [⟨2, [115], [], []⟩])
  | [], h, ts, hh, _ => by
    have e : ([60, 47, 115, 62] : List UInt8) = [60] ++ ([47] ++ [115]) ++ [62] := rfl
    rw [show itemsT [] = [] from rfl, List.nil_append, e, feed_whole h ([47] ++ [115]) ts [⟨2, [115], [], []⟩] hh (tag_end name_s) (by decide) (by decide)]
    simp [itemsK]
  | e :: es, h, ts, hh, hr => by
    have h1 := feed_elem 4 e h ts (hr e (by simp)).1 (hr e (by simp)).2 hh
    have h2 := feed_text [32, 10] [] (by decide) (by decide)
    have h3 := feed_items es [32, 10] _ text_bl fun q hq => hr q (by simp [hq])
    have e1 : itemsT (e :: es) ++ [60, 47, 115, 62] = textE 4 e ++ ([32, 10] ++ (itemsT es ++ [60, 47, 115, 62])) := by
      show (textE 4 e ++ [32, 10] ++ itemsT es) ++ [60, 47, 115, 62] = _
      simp
    rw [e1, feedN_app, h1, feedN_app, h2]
    simp only [List.nil_append]
    rw [h3]
    simp [itemsK]
/-- The whole stream. -/
def streamT (es : List El) : List UInt8 := [60, 115, 62] ++ itemsT es ++ [60, 47, 115, 62]
def streamK (es : List El) : List Tok := ⟨1, [115], [], []⟩ :: (itemsK es ++ [⟨2, [115], [], []⟩])
theorem feed_stream (es : List El) (hr : ∀ e ∈ es, rightE 4 e = true ∧ shortE 4 e) : feedN st0 (streamT es) = (⟨[], false, 0⟩, streamK es) := by
  have h1 : feedN ⟨[], false, 0⟩ ([60] ++ [115] ++ [62]) = (⟨[], false, 0⟩, [⟨1, [115], [], []⟩]) := by
    have := feed_whole [] [115] [] [⟨1, [115], [], []⟩] textN_nil (by have := tag_begin (nm := [115]) (l := []) name_s (by decide); simpa [attrsT] using this) (by decide) (by decide)
    simpa using this
  have e1 : streamT es = ([60] ++ [115] ++ [62]) ++ (itemsT es ++ [60, 47, 115, 62]) := by simp [streamT]
  show feedN ⟨[], false, 0⟩ (streamT es) = _
  rw [e1, feedN_app, h1, feed_items es [] [] textN_nil hr]
  simp [streamK]
theorem run_items {st : List UInt8} : ∀ (es : List El) (k : Int), (∀ e ∈ es, rightE 4 e = true ∧ (toksE 4 e).length ≤ 64) → ∃ k', runB ⟨1, st, [], k, 0⟩ (itemsK es) = (⟨1, st, [], k', 0⟩, es.map fun e => (2, e), 0)
  | [], k, _ => ⟨k, rfl⟩
  | e :: es, k, h => by
    obtain ⟨k1, h1⟩ := item_run (st := st) e k (h e (by simp)).1 (h e (by simp)).2
    obtain ⟨k2, h2⟩ := run_items (st := st) es k1 fun q hq => h q (by simp [hq])
    have hb : takeN ⟨1, st, [], k1, 0⟩ ⟨3, [], [], [32, 10]⟩ = (⟨1, st, [], k1, 0⟩, none, 0) := by
      simp [takeN, faultN, addN, show blankT [32, 10] = true from by decide]
    refine ⟨k2, ?_⟩
    show runB _ (toksE 4 e ++ ([⟨3, [], [], [32, 10]⟩] ++ itemsK es)) = _
    rw [runB_app _ _ _ _ _ h1, runB_app _ _ _ _ _ (runB_one _ _ _ _ hb), h2]
    simp
theorem run_stream (es : List El) (h : ∀ e ∈ es, rightE 4 e = true ∧ (toksE 4 e).length ≤ 64) : ∃ S, runB bs0 (streamK es) = (S, (1, ⟨[115], [], [], []⟩) :: (es.map (fun e => (2, e)) ++ [(3, el0)]), 0) ∧ depthN S = 0 := by
  have hb : takeN bs0 ⟨1, [115], [], []⟩ = (⟨1, [115], [], 0, 0⟩, some (1, ⟨[115], [], [], []⟩), 0) := by
    simp [takeN, faultN, addN, bs0, elOf]
  obtain ⟨k2, h2⟩ := run_items (st := [115]) es 0 h
  have he : takeN ⟨1, [115], [], k2, 0⟩ ⟨2, [115], [], []⟩ = (⟨2, [], [], k2, 0⟩, some (3, el0), 0) := by
    simp [takeN, faultN, addN, innerN]
  refine ⟨⟨2, [], [], k2, 0⟩, ?_, by simp [depthN]⟩
  show runB bs0 ([⟨1, [115], [], []⟩] ++ (itemsK es ++ [⟨2, [115], [], []⟩])) = _
  rw [runB_app _ _ _ _ _ (runB_one _ _ _ _ hb), runB_app _ _ _ _ _ h2, runB_one _ _ _ _ he]
  simp
/-- How the statements count what is short: attributes, and texts. -/
def attrsC (l : List (List UInt8 × List UInt8)) : Nat := (l.map fun p => 6 * p.2.length + 20).sum
def shortB : Nat → El → Bool
  | 0, _ => true
  | d + 1, e => decide (attrsC e.attrs ≤ 400) && (decide (e.text.length ≤ 80) && e.kids.all (shortB d))
theorem attrs_cnt : ∀ (l : List (List UInt8 × List UInt8)), (∀ p ∈ l, name p.1 = true) → (attrsT l).length ≤ attrsC l
  | [], _ => by simp [attrsT, attrsC]
  | p :: l, h => by
    have ih := attrs_cnt l fun q hq => h q (by simp [hq])
    have h1 := nameB_len (h p (by simp))
    have h2 := (esc_length p.2).2
    show (attrT p ++ attrsT l).length ≤ 6 * p.2.length + 20 + attrsC l
    rw [List.length_append]
    have : (attrT p).length = 1 + p.1.length + 2 + (esc p.2).length + 1 := by simp [attrT]; omega
    omega
theorem short_of : ∀ (d : Nat) (e : El), rightE d e = true → shortB d e = true → shortE d e
  | 0, _, _, _ => trivial
  | d + 1, e, hr, hs => by
    simp only [rightE, Bool.and_eq_true, decide_eq_true_eq] at hr
    obtain ⟨_, hn, ha, _, hkids⟩ := hr
    simp only [shortB, Bool.and_eq_true, decide_eq_true_eq] at hs
    obtain ⟨s1, s2, s3⟩ := hs
    have h1 := attrs_cnt e.attrs fun p hp => (rightA_all ha p hp).1
    have h2 := nameB_len hn
    have h3 := (esc_length e.text).2
    exact ⟨by omega, by omega, fun k hk => short_of d k (List.all_eq_true.1 hkids k hk) (List.all_eq_true.1 s3 k hk)⟩
/-- How many tokens. -/
def toksC : Nat → El → Nat
  | 0, _ => 0
  | d + 1, e => 2 + (if e.text.isEmpty then 0 else 1) + (e.kids.map (toksC d)).sum
theorem toks_cnt : ∀ (d : Nat) (e : El), (toksE d e).length = toksC d e
  | 0, _ => rfl
  | d + 1, e => by
    have : ∀ l : List El, (l.flatMap (toksE d)).length = (l.map (toksC d)).sum := by
      intro l
      induction l with
      | nil => rfl
      | cons k l ih => rw [List.flatMap_cons, List.length_append, toks_cnt d k, ih]; rfl
    simp only [toksE, toksC, List.length_cons, List.length_append, List.length_nil, this]
    cases e.text.isEmpty <;> simp <;> omega
end Go.Proofs.YthekdgnikkjpdaaDoor
