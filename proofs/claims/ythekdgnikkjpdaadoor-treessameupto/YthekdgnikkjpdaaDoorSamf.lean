/-
  Plain mathematics, no program: an element and four that are changed: which are the same, and that their texts tell them apart.
-/
import Derived.Test.YthekdgnikkjpdaaDoorSamc
import Derived.Test.YthekdgnikkjpdaaDoorCutc
namespace Go.Proofs.YthekdgnikkjpdaaDoor
open Go
def zzE : El := ⟨[122, 122], [], [], []⟩
def chg (e : El) : Nat → El
  | 0 => ⟨[122, 122], e.attrs, e.text, e.kids⟩
  | 1 => ⟨e.nm, e.attrs, e.text ++ [122], e.kids⟩
  | 2 => ⟨e.nm, e.attrs ++ [([122, 122], [])], e.text, e.kids⟩
  | _ => ⟨e.nm, e.attrs, e.text, e.kids ++ [zzE]⟩
def flagE (e : El) (i : Nat) : Bool := (i == 0) && (e.nm == [122, 122])
theorem len_ne {α : Type} [BEq α] [LawfulBEq α] {a b : List α} (h : a.length ≠ b.length) : (a == b) = false := by
  rw [beq_eq_false_iff_ne]
  rintro rfl
  exact h rfl
theorem same_chg (n : Nat) (e : El) (hs : sameE (n + 1) e e = true) (i : Nat) (hi : i < 4) : sameE (n + 1) e (chg e i) = flagE e i := by
  have hk : sameK (sameE n) e.kids e.kids = true := by
    unfold sameE at hs
    simp only [Bool.and_eq_true] at hs
    exact hs.2.2.2
  match i, hi with
  | 0, _ =>
    show ((e.nm == [122, 122]) && ((e.text == e.text) && ((e.attrs == e.attrs) && sameK (sameE n) e.kids e.kids))) = ((0 == 0) && (e.nm == [122, 122]))
    rw [hk, beq_self_eq_true e.text, beq_self_eq_true e.attrs]
    simp
  | 1, _ =>
    show ((e.nm == e.nm) && ((e.text == e.text ++ [122]) && ((e.attrs == e.attrs) && sameK (sameE n) e.kids e.kids))) = false
    rw [len_ne (a := e.text) (b := e.text ++ [122]) (by simp)]
    simp
  | 2, _ =>
    show ((e.nm == e.nm) && ((e.text == e.text) && ((e.attrs == e.attrs ++ [([122, 122], [])]) && sameK (sameE n) e.kids e.kids))) = false
    rw [len_ne (a := e.attrs) (b := e.attrs ++ [([122, 122], [])]) (by simp)]
    simp
  | 3, _ =>
    show ((e.nm == e.nm) && ((e.text == e.text) && ((e.attrs == e.attrs) && sameK (sameE n) e.kids (e.kids ++ [zzE])))) = false
    rw [sameK_len (sameE n) (l := e.kids) (m := e.kids ++ [zzE]) (by simp)]
    simp
def edge (b : UInt8) : Bool := b == 32 || b == 47 || b == 62
theorem name_edge {l : List UInt8} (h : name l = true) : ∀ b ∈ l, edge b = false := by
  intro b hb
  unfold name at h
  rw [Bool.and_eq_true] at h
  rcases name_mem h.2 b hb with h1 | h1
  · unfold isLet at h1
    have h2 := of_decide_eq_true h1
    unfold edge
    simp only [Bool.or_eq_false_iff, beq_eq_false_iff_ne]
    refine ⟨⟨?_, ?_⟩, ?_⟩ <;> (rintro rfl; revert h2; decide)
  · unfold isLat at h1
    unfold edge
    simp only [Bool.or_eq_false_iff, beq_eq_false_iff_ne]
    refine ⟨⟨?_, ?_⟩, ?_⟩ <;> (rintro rfl; revert h1; decide)
theorem until_edge : ∀ (a b : List UInt8) (x y : UInt8) (r q : List UInt8), (∀ c ∈ a, edge c = false) → (∀ c ∈ b, edge c = false) → edge x = true → edge y = true → a ++ x :: r = b ++ y :: q → a = b
  | [], [], _, _, _, _, _, _, _, _, _ => rfl
  | [], c :: b, x, y, r, q, _, hb, hx, _, h => by
    simp only [List.nil_append, List.cons_append, List.cons.injEq] at h
    rw [h.1, hb c (by simp)] at hx
    cases hx
  | c :: a, [], x, y, r, q, ha, _, _, hy, h => by
    simp only [List.nil_append, List.cons_append, List.cons.injEq] at h
    rw [← h.1, ha c (by simp)] at hy
    cases hy
  | c :: a, d :: b, x, y, r, q, ha, hb, hx, hy, h => by
    simp only [List.cons_append, List.cons.injEq] at h
    rw [h.1, until_edge a b x y r q (fun z hz => ha z (by simp [hz])) (fun z hz => hb z (by simp [hz])) hx hy h.2]
theorem after_name (d : Nat) (e : El) : ∃ x r, edge x = true ∧ textE (d + 1) e = 60 :: (e.nm ++ x :: r) := by
  show ∃ x r, edge x = true ∧ ([60] ++ e.nm ++ attrsT e.attrs) ++ (if e.text.isEmpty && e.kids.isEmpty then [47, 62] else ([62] ++ esc e.text) ++ (e.kids.flatMap (textE d) ++ ([60, 47] ++ e.nm ++ [62]))) = _
  cases ha : e.attrs with
  | cons p l => exact ⟨32, _, rfl, by simp [attrsT, attrT]; rfl⟩
  | nil =>
    cases hc : e.text.isEmpty && e.kids.isEmpty with
    | true => exact ⟨47, _, rfl, by simp [attrsT]; rfl⟩
    | false => exact ⟨62, _, rfl, by simp [attrsT]; rfl⟩
def bodyT (d : Nat) (nm text : List UInt8) (kids : List El) : List UInt8 := if text.isEmpty && kids.isEmpty then [47, 62] else ([62] ++ esc text) ++ (kids.flatMap (textE d) ++ ([60, 47] ++ nm ++ [62]))
theorem textE_eq (d : Nat) (e : El) : textE (d + 1) e = ([60] ++ e.nm ++ attrsT e.attrs) ++ bodyT d e.nm e.text e.kids := rfl
theorem bodyT_len (d : Nat) (nm text : List UInt8) (kids : List El) : (bodyT d nm text kids).length = if text.isEmpty && kids.isEmpty then 2 else (esc text).length + (kids.flatMap (textE d)).length + nm.length + 4 := by
  unfold bodyT
  split
  · rfl
  · simp only [List.length_append, List.length_cons, List.length_nil]
    omega
theorem text_len1 (e : El) (i : Nat) (h1 : 1 ≤ i) (h4 : i < 4) : (textE 4 e).length < (textE 4 (chg e i)).length := by
  have E1 : (textE 4 e).length = ([60] ++ e.nm ++ attrsT e.attrs).length + (bodyT 3 e.nm e.text e.kids).length := by rw [textE_eq 3 e, List.length_append]
  have E2 : (textE 4 (chg e i)).length = ([60] ++ (chg e i).nm ++ attrsT (chg e i).attrs).length + (bodyT 3 (chg e i).nm (chg e i).text (chg e i).kids).length := by rw [textE_eq 3 (chg e i), List.length_append]
  rw [E1, E2, bodyT_len, bodyT_len]
  clear E1 E2
  match i, h4 with
  | 1, _ =>
    show ([60] ++ e.nm ++ attrsT e.attrs).length + _ < ([60] ++ e.nm ++ attrsT e.attrs).length + (if (e.text ++ [122]).isEmpty && e.kids.isEmpty then 2 else (esc (e.text ++ [122])).length + (e.kids.flatMap (textE 3)).length + e.nm.length + 4)
    have hz : (e.text ++ [122]).isEmpty = false := by simp
    simp only [hz, Bool.false_and, Bool.false_eq_true, if_false, esc_app, List.length_append]
    have hl := (esc_length [122]).1
    simp only [List.length_singleton] at hl
    split <;> omega
  | 2, _ =>
    show ([60] ++ e.nm ++ attrsT e.attrs).length + _ < ([60] ++ e.nm ++ attrsT (e.attrs ++ [([122, 122], [])])).length + (if e.text.isEmpty && e.kids.isEmpty then 2 else (esc e.text).length + (e.kids.flatMap (textE 3)).length + e.nm.length + 4)
    have ha : attrsT (e.attrs ++ [([122, 122], [])]) = attrsT e.attrs ++ attrT ([122, 122], []) := by simp [attrsT]
    have hb : (attrT ([122, 122], [])).length = 6 := rfl
    rw [ha]
    simp only [List.length_append, hb]
    omega
  | 3, _ =>
    show ([60] ++ e.nm ++ attrsT e.attrs).length + _ < ([60] ++ e.nm ++ attrsT e.attrs).length + (if e.text.isEmpty && (e.kids ++ [zzE]).isEmpty then 2 else (esc e.text).length + ((e.kids ++ [zzE]).flatMap (textE 3)).length + e.nm.length + 4)
    have hz : (e.kids ++ [zzE]).isEmpty = false := by simp
    have hf : ((e.kids ++ [zzE]).flatMap (textE 3)).length = (e.kids.flatMap (textE 3)).length + 5 := by
      rw [List.flatMap_append, List.length_append]
      rfl
    simp only [hz, Bool.and_false, Bool.false_eq_true, if_false, hf]
    split <;> omega
theorem text_chg (e : El) (i : Nat) (hi : i < 4) (hr : rightE 4 e = true) : (textE 4 (chg e i) == textE 4 e) = flagE e i := by
  rcases Nat.eq_zero_or_pos i with rfl | hp
  · show _ = ((0 == 0) && (e.nm == [122, 122]))
    by_cases hz : e.nm = [122, 122]
    · have : chg e 0 = e := by
        obtain ⟨a, b, c, d⟩ := e
        obtain rfl : a = [122, 122] := hz
        rfl
      rw [this, hz]
      simp
    · have hn : name e.nm = true := by
        unfold rightE at hr
        simp only [Bool.and_eq_true] at hr
        exact hr.2.1
      have h1 : (e.nm == [122, 122]) = false := by rw [beq_eq_false_iff_ne]; exact hz
      rw [h1, Bool.and_false, beq_eq_false_iff_ne]
      intro h
      obtain ⟨x, r, hx, e1⟩ := after_name 3 e
      obtain ⟨y, q, hy, e2⟩ := after_name 3 (chg e 0)
      rw [e1, e2] at h
      simp only [List.cons.injEq, true_and] at h
      have hzz : name [122, 122] = true := by decide
      exact hz (until_edge _ _ x y r q (name_edge hn) (name_edge hzz) hx hy h.symm)
  · have hl := text_len1 e i hp hi
    have hf : flagE e i = false := by
      unfold flagE
      rw [show (i == 0) = false by rw [beq_eq_false_iff_ne]; omega, Bool.false_and]
    rw [hf]
    exact len_ne (by omega)
end Go.Proofs.YthekdgnikkjpdaaDoor
/-
  What lies in memory behind the four changed elements.
-/
namespace Go.Proofs.YthekdgnikkjpdaaDoor
open Go Go.RowKit
theorem chg_lies {e : El} {w4 W : World} {R : Nat} {b1 b2 c1 c2 : Option Addr} {k1 k2 d1 d2 m1 m2 f1 f2 : Nat} {nm tx tz : ByteArray} {xs : List Value}
    (hE : ElE (fun k => k ≠ R) w4 e (.string ⟨e.nm.toArray⟩) (.slice b1 k1 d1) (.string ⟨e.text.toArray⟩) (.slice b2 k2 d2)) (hK : KidsAt (ElE (fun k => k ≠ R) w4) e.kids xs)
    (hnm : (⟨e.nm.toArray⟩ : ByteArray) = nm) (htx : (⟨e.text.toArray⟩ : ByteArray) = tx) (htz : (⟨(e.text ++ [122]).toArray⟩ : ByteArray) = tz) (hb : Below w4.heap.size w4 W)
    (hC : At w4.heap.size #[.string ⟨#[122, 122]⟩, .slice b1 k1 d1, .string tx, .slice b2 k2 d2, .string nm, .slice b1 k1 d1, .string tz, .slice b2 k2 d2, .string nm, .slice c1 m1 f1, .string tx, .slice b2 k2 d2, .string nm, .slice b1 k1 d1, .string tx, .slice c2 m2 f2] 32 W)
    {B1 B2 : Nat} (h1 : W.ownsRow B1 55 2 (.slice c1 m1 f1) (e.attrs.length + 1) (pairCells e.attrs ++ [.string ⟨#[122, 122]⟩, .string ⟨#[]⟩]))
    (h2 : W.ownsRow B2 32 4 (.slice c2 m2 f2) (e.kids.length + 1) (xs ++ [.string ⟨#[122, 122]⟩, .slice none 0 0, .string ⟨#[]⟩, .slice none 0 0])) (j : Nat) (hj : j < 4) :
    ∃ (x y : ByteArray) (a b : Option Addr) (n m c d : Nat), W.cell? ⟨w4.heap.size, j * 4, none⟩ = some (.string x) ∧ W.cell? ⟨w4.heap.size, j * 4 + 1, none⟩ = some (.slice a n c) ∧ W.cell? ⟨w4.heap.size, j * 4 + 2, none⟩ = some (.string y) ∧ W.cell? ⟨w4.heap.size, j * 4 + 3, none⟩ = some (.slice b m d) ∧
      ElE (fun _ => True) W (chg e j) (.string x) (.slice a n c) (.string y) (.slice b m d) := by
  obtain ⟨_, r1, _, xs', r2, _⟩ := hE.parts
  have st : ∀ k, (k ≠ R) → k < w4.heap.size → True ∧ W.heap[k]? = w4.heap[k]? := fun k _ hk => ⟨trivial, hb.block k hk⟩
  have R1 := r1.step (P' := fun _ => True) st
  obtain ⟨_, _, _, ys, r3, r4⟩ := (hE.step (P' := fun _ => True) st).parts
  have K1 : KidsAt (ElE (fun _ => True) W) e.kids xs := hK.imp fun _ _ _ _ _ q => q.step st
  have cell : ∀ i, W.cell? ⟨w4.heap.size, i, none⟩ = _ := fun i => Lib.cell_of_heap hC i
  subst hnm htx htz
  match j, hj with
  | 0, _ =>
    refine ⟨_, _, _, _, _, _, _, _, by rw [cell]; rfl, by rw [cell]; rfl, by rw [cell]; rfl, by rw [cell]; rfl, ?_⟩
    exact ElE.mk (e := chg e 0) R1 r3 r4
  | 1, _ =>
    refine ⟨_, _, _, _, _, _, _, _, by rw [cell]; rfl, by rw [cell]; rfl, by rw [cell]; rfl, by rw [cell]; rfl, ?_⟩
    exact ElE.mk (e := chg e 1) R1 r3 r4
  | 2, _ =>
    refine ⟨_, _, _, _, _, _, _, _, by rw [cell]; rfl, by rw [cell]; rfl, by rw [cell]; rfl, by rw [cell]; rfl, ?_⟩
    refine ElE.mk (e := chg e 2) ?_ r3 r4
    show Row _ _ _ (e.attrs ++ [([122, 122], [])]).length (pairCells (e.attrs ++ [([122, 122], [])]))
    rw [List.length_append, pairCells_app]
    exact row_owns h1 fun _ _ => trivial
  | 3, _ =>
    refine ⟨_, _, _, _, _, _, _, _, by rw [cell]; rfl, by rw [cell]; rfl, by rw [cell]; rfl, by rw [cell]; rfl, ?_⟩
    refine ElE.mk (e := chg e 3) (xs := xs ++ [.string ⟨#[122, 122]⟩, .slice none 0 0, .string ⟨#[]⟩, .slice none 0 0]) R1 ?_ ?_
    · show Row _ _ _ (e.kids ++ [zzE]).length _
      rw [List.length_append]
      exact row_owns h2 fun _ _ => trivial
    · exact KidsAt.app K1 ⟨_, _, _, _, [], rfl, ElE.mk (e := zzE) (xs := []) (row_nil _ _ _ _) (row_nil _ _ _ _) rfl, rfl⟩
end Go.Proofs.YthekdgnikkjpdaaDoor
