/-
  A row of elements that a statement is handed: how it lies in memory.
-/
import Derived.Test.YthekdgnikkjpdaaDoorOpnt
import Derived.Test.YthekdgnikkjpdaaDoorOpne
import Derived.Test.YthekdgnikkjpdaaDoorCutc
namespace Go.Proofs.YthekdgnikkjpdaaDoor
open Go Go.ChangeShapes Go.WideShapes Go.ChangeAt Go.RowKit
/-- Elements lie there. -/
def ArgEls (w : World) (ao : Option Addr) (ls : List El) : Prop :=
  ∀ i e, ls[i]? = some e → ∃ g off a1 c1 a2 c2, ao = some ⟨g, off, none⟩ ∧ g < w.heap.size ∧ w.cell? ⟨g, off + i * 4, none⟩ = some (.string ⟨e.nm.toArray⟩) ∧ w.cell? ⟨g, off + i * 4 + 1, none⟩ = some (.slice a1 e.attrs.length c1) ∧
    w.cell? ⟨g, off + i * 4 + 2, none⟩ = some (.string ⟨e.text.toArray⟩) ∧ w.cell? ⟨g, off + i * 4 + 3, none⟩ = some (.slice a2 e.kids.length c2) ∧
    ElE (fun k => k < w.heap.size) w e (.string ⟨e.nm.toArray⟩) (.slice a1 e.attrs.length c1) (.string ⟨e.text.toArray⟩) (.slice a2 e.kids.length c2) ∧ CapE w 6 (.slice a1 e.attrs.length c1) (.slice a2 e.kids.length c2) ∧ ∀ n, smallE n e
section
variable {H : Type} {enc : TypeId × Value → H} {P : Program} {w : World} {base : Nat} {sp : Nat → Bool} {held : Bool}
theorem open_elems {fuel : Nat} {v : Value} {x : DataW H × List MemPlace} (h : DataW.trod enc Tryd.prog w base sp held fuel 30 [v] = some x) (hbk : Rows.uptoBulk x.1 ≤ 2000000) :
    ∃ ao cap, ∃ ls : List El, v = .slice ao ls.length cap ∧ ls.length ≤ cap ∧ ArgEls w ao ls := by
  obtain ⟨ao, n, cap, els, hv, hnc, hn, hx, hall⟩ := open_rows Tryd.underlying30 h
  obtain rfl : v = .slice ao n cap := by simpa using hv
  have hb := bulk_els hx
  have h4 : Tryd.prog.cellsOf 32 = 4 := by kernel_rfl
  have hone : ∀ i, i < n → ∃ e : El, ∃ ad a b c d, ao = some ad ∧ w.cell? (ad.add (i * 4 + 0)) = some a ∧ w.cell? (ad.add (i * 4 + 1)) = some b ∧ w.cell? (ad.add (i * 4 + 2)) = some c ∧ w.cell? (ad.add (i * 4 + 3)) = some d ∧ ElE (fun k => k < w.heap.size) w e a b c d ∧ CapE w 6 b d ∧ ∀ n, smallE n e := fun i hi => by
    obtain ⟨dd, hd⟩ : ∃ d, els[i]? = some d := ⟨_, List.getElem?_eq_getElem (by omega)⟩
    obtain ⟨ad, c1, m, q, e1, e2, e3, e4⟩ := hall i dd hd
    rw [h4] at e2 e3
    obtain ⟨e, a, b, c, d, rfl, hE, hS⟩ := open_elem m e4
    obtain ⟨a', b', c', d', hc', hcap⟩ := cap_elem 6 m e4
    simp only [List.cons.injEq, and_true] at hc'
    obtain ⟨rfl, rfl, rfl, rfl⟩ := hc'
    have hbm := bulk_mem (List.mem_of_getElem? hd)
    exact ⟨e, ad, a, b, c, d, e1, e3 0 _ rfl, e3 1 _ rfl, e3 2 _ rfl, e3 3 _ rfl, hE, hcap, hS (by simp only; omega)⟩
  obtain ⟨ls, hl, hQ⟩ := list_of _ n hone
  subst hl
  refine ⟨ao, cap, ls, rfl, hnc, fun i e ht => ?_⟩
  obtain ⟨ad, a, b, c, d, rfl, k0, k1, k2, k3, hE, hcap, hS⟩ := hQ i e ht
  have hs : ad.spot = none := by
    have hi := (List.getElem?_eq_some_iff.1 ht).1
    obtain ⟨t0, ad0, _, _, _, _, q3, q4, _⟩ := hone 0 (by omega)
    obtain rfl := Option.some.inj q3
    exact spot_of_cell q4
  rw [add_flat hs] at k0 k1 k2 k3
  obtain ⟨g, off, s⟩ := ad
  simp only at hs k0 k1 k2 k3
  subst hs
  obtain ⟨a1, c1, a2, c2, rfl, rfl⟩ := hE.shape
  obtain ⟨rfl, _, rfl, _⟩ := hE.parts
  exact ⟨g, off, a1, c1, a2, c2, rfl, lt_of_cell k1, by simpa [Nat.add_assoc] using k0, by simpa [Nat.add_assoc] using k1, by simpa [Nat.add_assoc] using k2, by simpa [Nat.add_assoc] using k3, hE, hcap, hS⟩
end
end Go.Proofs.YthekdgnikkjpdaaDoor
