/-
  How an argument that is an element is opened: it lies in memory as the element that it is; what a bound on the reading's bulk gives.
-/
import Derived.Test.YthekdgnikkjpdaaGreatDoorOpnt
import Derived.Test.YthekdgnikkjpdaaGreatDoorWric
namespace Go.Proofs.YthekdgnikkjpdaaGreatDoor
open Go Go.ChangeShapes Go.WideShapes Go.ChangeAt Go.RowKit
section
variable {H : Type} {enc : TypeId × Value → H} {P : Program} {w : World} {base : Nat} {sp : Nat → Bool} {held : Bool}
theorem open_rows_lt {t e : TypeId} {fuel : Nat} {cs : List Value} {x : DataW H × List MemPlace} (ht : P.underlying t = some (.slice e)) (h : DataW.trod enc P w base sp held fuel t cs = some x) :
    ∃ ao n cap els, cs = [.slice ao n cap] ∧ n ≤ cap ∧ els.length = n ∧ ((els = [] ∧ x.1 = .nil) ∨ ∃ rest, x.1 = .slice els rest) ∧
      ∀ i d, els[i]? = some d → ∃ ad c1 m q, m < fuel ∧ ao = some ad ∧ c1.length = P.cellsOf e ∧ (∀ j y, c1[j]? = some y → w.cell? (ad.add (i * P.cellsOf e + j)) = some y) ∧ DataW.trod enc P w base sp held m e c1 = some (d, q) := by
  rcases DataW.trod_slice ht h with ⟨hcs, hx⟩ | ⟨a, len, cap, elems, rest, n, hfu, hcs, hx, _, hlc, _, hlen, hel, _⟩
  · exact ⟨none, 0, 0, [], hcs, Nat.le_refl _, rfl, .inl ⟨rfl, by rw [hx]⟩, fun i d hd => by simp at hd⟩
  · refine ⟨some a, len, cap, elems.map (·.1), hcs, hlc, by simpa using hlen, .inr ⟨_, by rw [hx]⟩, fun i d hd => ?_⟩
    have hi : i < len := by rw [← hlen]; have := (List.getElem?_eq_some_iff.1 hd).1; simpa using this
    have hE := hel i hi
    rw [List.getElem?_map] at hd
    cases hy : elems[i]? with
    | none => simp [hy] at hd
    | some y =>
      rw [hy] at hE hd
      simp only [Option.map_some, Option.some.injEq] at hd
      simp only [Option.bind_eq_some_iff] at hE
      obtain ⟨c1, hc1, hy1⟩ := hE
      obtain ⟨k1, k2⟩ := cells_some hc1
      exact ⟨a, c1, n, y.2, by omega, rfl, k1, fun j z hz => by rw [← add_add]; exact k2 j z hz, by rw [hy1, ← hd]⟩
/-- A struct of a string, whatever of one cell, a string, and whatever of one cell. -/
theorem open_quad2 {t s u v : TypeId} {fs : Array Field} {f0 f1 f2 f3 : Field} {fuel : Nat} {cs : List Value} {x : DataW H × List MemPlace} (ht : P.underlying t = some (.struct fs)) (hf : fs = #[f0, f1, f2, f3]) (hc : P.cellsOf t = 4) (hs : P.underlying s = some .string) (hs1 : P.cellsOf s = 1) (hu1 : P.cellsOf u = 1) (hv1 : P.cellsOf v = 1)
    (e0 : f0.type = s ∧ f0.offset = 0) (e1 : f1.type = u ∧ f1.offset = 1) (e2 : f2.type = s ∧ f2.offset = 2) (e3 : f3.type = v ∧ f3.offset = 3) (h : DataW.trod enc P w base sp held fuel t cs = some x) :
    ∃ (a : ByteArray) (y : Value) (b : ByteArray) (z : Value) (d1 d2 : DataW H) (m : Nat) (q1 q2 : List MemPlace), m < fuel ∧ cs = [.string a, y, .string b, z] ∧ x.1 = .agg [.lit (.string a.data.toList), d1, .lit (.string b.data.toList), d2] ∧
      DataW.trod enc P w base sp held m u [y] = some (d1, q1) ∧ DataW.trod enc P w base sp held m v [z] = some (d2, q2) := by
  obtain ⟨xs, n, hfu, hx, hl, hxl, hall⟩ := DataW.trod_struct ht h
  subst hf
  have g0 := hall 0 f0 rfl
  have g1 := hall 1 f1 rfl
  have g2 := hall 2 f2 rfl
  have g3 := hall 3 f3 rfl
  rw [e0.1, e0.2, hs1] at g0
  rw [e1.1, e1.2, hu1] at g1
  rw [e2.1, e2.2, hs1] at g2
  rw [e3.1, e3.2, hv1] at g3
  rw [hc] at hl
  match cs, hl with
  | [c0, c1, c2, c3], _ =>
    match xs, hxl with
    | [y0, y1, y2, y3], _ =>
      obtain ⟨a, p1, p2, _⟩ := DataW.trod_string hs g0
      obtain ⟨b, r1, r2, _⟩ := DataW.trod_string hs g2
      simp at p1 r1
      refine ⟨a, c1, b, c3, y1.1, y3.1, n, y1.2, y3.2, by omega, by rw [p1, r1], ?_, by simpa using g1, by simpa using g3⟩
      rw [hx, p2, r2]
      rfl
end
/-- Elements, each with its four cells. -/
def flat4 : List (El × Value × Value × Value × Value) → List Value
  | [] => []
  | t :: l => t.2.1 :: t.2.2.1 :: t.2.2.2.1 :: t.2.2.2.2 :: flat4 l
theorem flat4_inv : ∀ (l : List (El × Value × Value × Value × Value)) (i : Nat) (x : Value), (flat4 l)[i]? = some x → ∃ j t, l[j]? = some t ∧ ((i = j * 4 + 0 ∧ x = t.2.1) ∨ (i = j * 4 + 1 ∧ x = t.2.2.1) ∨ (i = j * 4 + 2 ∧ x = t.2.2.2.1) ∨ (i = j * 4 + 3 ∧ x = t.2.2.2.2))
  | [], i, x, h => by simp [flat4] at h
  | t :: l, 0, x, h => ⟨0, t, rfl, .inl ⟨rfl, by simpa [flat4] using h.symm⟩⟩
  | t :: l, 1, x, h => ⟨0, t, rfl, .inr (.inl ⟨rfl, by simpa [flat4] using h.symm⟩)⟩
  | t :: l, 2, x, h => ⟨0, t, rfl, .inr (.inr (.inl ⟨rfl, by simpa [flat4] using h.symm⟩))⟩
  | t :: l, 3, x, h => ⟨0, t, rfl, .inr (.inr (.inr ⟨rfl, by simpa [flat4] using h.symm⟩))⟩
  | t :: l, i + 4, x, h => by
    obtain ⟨j, u, hu, hc⟩ := flat4_inv l i x (by simpa [flat4] using h)
    refine ⟨j + 1, u, by simpa using hu, ?_⟩
    rcases hc with ⟨rfl, rfl⟩ | ⟨rfl, rfl⟩ | ⟨rfl, rfl⟩ | ⟨rfl, rfl⟩
    · exact .inl ⟨by omega, rfl⟩
    · exact .inr (.inl ⟨by omega, rfl⟩)
    · exact .inr (.inr (.inl ⟨by omega, rfl⟩))
    · exact .inr (.inr (.inr ⟨by omega, rfl⟩))
theorem flat4_kids {R : El → Value → Value → Value → Value → Prop} : ∀ (l : List (El × Value × Value × Value × Value)), (∀ t ∈ l, R t.1 t.2.1 t.2.2.1 t.2.2.2.1 t.2.2.2.2) → KidsAt R (l.map (·.1)) (flat4 l)
  | [], _ => rfl
  | t :: l, h => ⟨_, _, _, _, _, rfl, h t (by simp), flat4_kids l fun u hu => h u (by simp [hu])⟩
section
variable {H : Type} {enc : TypeId × Value → H} {w : World} {base : Nat} {sp : Nat → Bool} {held : Bool}
/-- Its names are small, so deep. -/
def nmE : Nat → El → Prop
  | 0, _ => True
  | n + 1, e => e.nm.length ≤ 2000000 ∧ ∀ k ∈ e.kids, nmE n k
/-- An element, as an argument's reading has it. -/
theorem open_elem (fuel : Nat) : ∀ {cs : List Value} {x : DataW H × List MemPlace}, DataW.trod enc Tryz.prog w base sp held fuel 25 cs = some x →
    ∃ (e : El) (a b c d : Value), cs = [a, b, c, d] ∧ ElE (fun k => k < w.heap.size) w e a b c d ∧ (Rows.uptoBulk x.1 ≤ 2000000 → ∀ n, smallE n e ∧ nmE n e) := by
  induction fuel using Nat.strongRecOn with
  | ind fuel ih =>
    intro cs x h
    have h4 : Tryz.prog.cellsOf 25 = 4 := by kernel_rfl
    obtain ⟨a, y, b, z, d1, d2, m, q1, q2, hm, rfl, hx, t1, t2⟩ := open_quad2 Tryz.underlying25 rfl h4 Tryz.underlying9 (by kernel_rfl) (by kernel_rfl) (by kernel_rfl) ⟨rfl, rfl⟩ ⟨rfl, rfl⟩ ⟨rfl, rfl⟩ ⟨rfl, rfl⟩ h
    obtain ⟨l, hl1, hl2, hl3⟩ := open_attrs t1
    obtain ⟨ao, n, cap, els, hv, _, hn, hxe, hall⟩ := open_rows_lt Tryz.underlying23 t2
    obtain rfl : z = .slice ao n cap := by simpa using hv
    rw [h4] at hall
    have hb := bulk_els hxe
    have hln := bulk_len els
    obtain ⟨ks, hk, hQ⟩ := list_of (fun i (t : El × Value × Value × Value × Value) => ∃ d ad, els[i]? = some d ∧ ao = some ad ∧ w.cell? (ad.add (i * 4 + 0)) = some t.2.1 ∧ w.cell? (ad.add (i * 4 + 1)) = some t.2.2.1 ∧ w.cell? (ad.add (i * 4 + 2)) = some t.2.2.2.1 ∧ w.cell? (ad.add (i * 4 + 3)) = some t.2.2.2.2 ∧
        ElE (fun k => k < w.heap.size) w t.1 t.2.1 t.2.2.1 t.2.2.2.1 t.2.2.2.2 ∧ (Rows.uptoBulk d ≤ 2000000 → ∀ n, smallE n t.1 ∧ nmE n t.1)) n (fun i hi => by
      obtain ⟨d, hd⟩ : ∃ d, els[i]? = some d := ⟨_, List.getElem?_eq_getElem (by omega)⟩
      obtain ⟨ad, c1, m', q, hm', r1, _, r3, r4⟩ := hall i d hd
      obtain ⟨e', a', b', c', d', rfl, k2, k3⟩ := ih m' (by omega) r4
      exact ⟨(e', a', b', c', d'), d, ad, hd, r1, r3 0 _ rfl, r3 1 _ rfl, r3 2 _ rfl, r3 3 _ rfl, k2, k3⟩)
    subst hk
    refine ⟨⟨a.data.toList, l, b.data.toList, ks.map (·.1)⟩, _, _, _, _, rfl, ElE.mk (e := ⟨a.data.toList, l, b.data.toList, ks.map (·.1)⟩) (xs := flat4 ks) hl1 ⟨ao, cap, by simp, fun i u hu => ?_⟩ (flat4_kids ks fun t ht => ?_), fun hB n => ?_⟩
    · obtain ⟨j, t, ht, hc⟩ := flat4_inv ks i u hu
      obtain ⟨d, ad, _, r1, k0, k1, k2, k3, _⟩ := hQ j t ht
      have hlt : ad.block < w.heap.size := by
        have := lt_of_cell k0
        rwa [block_add] at this
      rcases hc with ⟨rfl, rfl⟩ | ⟨rfl, rfl⟩ | ⟨rfl, rfl⟩ | ⟨rfl, rfl⟩
      · exact ⟨ad, r1, hlt, k0⟩
      · exact ⟨ad, r1, hlt, k1⟩
      · exact ⟨ad, r1, hlt, k2⟩
      · exact ⟨ad, r1, hlt, k3⟩
    · obtain ⟨j, hj⟩ := List.mem_iff_getElem?.1 ht
      obtain ⟨_, _, _, _, _, _, _, _, k, _⟩ := hQ j t hj
      exact k
    · rw [hx] at hB
      simp only [Rows.uptoBulk, Rows.uptoBulkAll] at hB
      have hkk : ∀ (n : Nat) (k : El), k ∈ ks.map (·.1) → smallE n k ∧ nmE n k := fun n k hk => by
        obtain ⟨t, ht, rfl⟩ := List.mem_map.1 hk
        obtain ⟨j, hj⟩ := List.mem_iff_getElem?.1 ht
        obtain ⟨d, _, hd, _, _, _, _, _, _, ks'⟩ := hQ j t hj
        refine ks' ?_ n
        have := bulk_mem (List.mem_of_getElem? hd)
        simp only at hb
        omega
      cases n with
      | zero => exact ⟨trivial, trivial⟩
      | succ n =>
        refine ⟨⟨by show b.data.toList.length ≤ _; omega, by show l.length ≤ _; simp only at hl2; omega, fun p hp => ?_, by show (ks.map (·.1)).length ≤ _; rw [List.length_map]; simp only at hb; omega, fun k hk => (hkk n k hk).1⟩, by show a.data.toList.length ≤ _; omega, fun k hk => (hkk n k hk).2⟩
        have := hl3 p hp
        simp only at this
        omega
end
end Go.Proofs.YthekdgnikkjpdaaGreatDoor
