/-
  A list of texts, a script, and a step, that a statement is handed: how each lies in memory.
-/
import Derived.Test.YteejehbgmkanpaaRows
import Derived.Test.YteejehbgmkanpaaPmh
import Derived.ProofKit
import Derived.OpenShut
import Derived.Deep.Strs
namespace Go.Proofs.Yteejehbgmkanpaa
open Go Go.ChangeShapes Go.WideShapes Go.ChangeAt Go.RowKit
theorem own : ownKnob Try.prog.godebug = none := by kernel_rfl
theorem laidOutP : laidOutB Try.prog = true := by kernel_rfl
theorem cells9 : Try.prog.cellsOf 9 = 1 := by kernel_rfl
/-- A row of texts, as it lies. -/
def RowS (w : World) (ao : Option Addr) (l : List ByteArray) : Prop := ∀ i s, l[i]? = some s → ∃ ad, ao = some ad ∧ w.cell? (ad.add i) = some (.string s)
theorem RowS.below {w w' : World} {ao : Option Addr} {l : List ByteArray} (h : RowS w ao l) (hb : Below w.heap.size w w') : RowS w' ao l := fun i s hs => by
  obtain ⟨ad, e, k⟩ := h i s hs
  exact ⟨ad, e, (hb.cell (World.block_lt_of_cell? w _ k)).trans k⟩
theorem n_of {h : Int} (hw : (Lit.int .i64 h).wf = true) : N h := by
  have e1 : IntKind.i64.min = -9223372036854775808 := rfl
  have e2 : IntKind.i64.max = 9223372036854775807 := rfl
  simp [Lit.wf, e1, e2] at hw
  unfold N
  omega
theorem open_texts {H : Type} {enc : TypeId × Value → H} {W : World} {ao : Option Addr} {len cap : Nat} {d : DataW H} {p : List MemPlace} (h : DataW.Trod enc Try.prog W 0 (fun _ => true) true 44 (.slice ao len cap) d p) :
    ∃ l : List ByteArray, len = l.length ∧ RowS W ao l ∧ l.length ≤ cap := by
  obtain ⟨fuel, hf⟩ := h
  rcases Deep.open_strs Try.underlying44 Try.underlying9 cells9 hf with ⟨hcs, _⟩ | ⟨a, len', cap', m, Sx, hcs, _, hl, _, hmm, _, hc⟩
  · simp [Value.cells] at hcs
    obtain ⟨rfl, rfl, rfl⟩ := hcs
    exact ⟨[], rfl, fun i s hs => by simp at hs, Nat.le_refl _⟩
  · simp [Value.cells] at hcs
    obtain ⟨rfl, rfl, rfl⟩ := hcs
    simp only [if_true] at hmm
    subst hmm
    refine ⟨(List.range len).map Sx, by simp, fun i s hs => ?_, by simpa using hl⟩
    rw [List.getElem?_map] at hs
    obtain ⟨j, hj, rfl⟩ := Option.map_eq_some_iff.1 hs
    have hi := (List.getElem?_eq_some_iff.1 hj).1
    rw [List.getElem?_range (by simpa using hi)] at hj
    cases hj
    exact ⟨a, rfl, (hc i (by simp at hi; omega)).1⟩
section
variable {H : Type} {enc : TypeId × Value → H} {P : Program} {w : World} {base : Nat} {sp : Nat → Bool} {held : Bool}
/-- A list from an element at each place. -/
theorem list_of {α : Type} (Q : Nat → α → Prop) : ∀ n, (∀ i, i < n → ∃ t, Q i t) → ∃ l : List α, l.length = n ∧ ∀ i t, l[i]? = some t → Q i t
  | 0, _ => ⟨[], rfl, fun i t h => by simp at h⟩
  | n + 1, h => by
    obtain ⟨l, h1, h2⟩ := list_of Q n fun i hi => h i (by omega)
    obtain ⟨t, ht⟩ := h n (by omega)
    refine ⟨l ++ [t], by simp [h1], fun i u hu => ?_⟩
    by_cases hi : i < l.length
    · rw [List.getElem?_append_left hi] at hu
      exact h2 i u hu
    · have h0 : i < (l ++ [t]).length := (List.getElem?_eq_some_iff.1 hu).1
      simp at h0
      have hin : i = n := by omega
      subst hin
      rw [List.getElem?_append_right (by omega), h1] at hu
      simp at hu
      subst hu
      exact ht
theorem add_add (a : Addr) (m n : Nat) : (a.add m).add n = a.add (m + n) := by
  unfold Addr.add
  by_cases hn : n = 0
  · subst hn
    simp
  · by_cases hm : m = 0
    · subst hm
      simp [hn]
    · simp [hn, hm, Nat.add_assoc]
theorem cells_some {a : Addr} {n : Nat} {cs : List Value} (h : w.cells? base a n = some cs) : cs.length = n ∧ ∀ i x, cs[i]? = some x → w.cell? (a.add i) = some x := by
  unfold World.cells? at h
  split at h
  · have hl : cs.length = n := by simpa using mapM_some_length h
    refine ⟨hl, fun i x hx => ?_⟩
    have hi : i < n := by rw [← hl]; exact (List.getElem?_eq_some_iff.1 hx).1
    have := mapM_some_get h i i (by simp [hi])
    rw [this]
    exact hx
  · cases h
/-- A slice of whatever: its elements, one by one, each with its cells and its reading. -/
theorem open_rows {t e : TypeId} {fuel : Nat} {cs : List Value} {x : DataW H × List MemPlace} (ht : P.underlying t = some (.slice e)) (h : DataW.trod enc P w base sp held fuel t cs = some x) :
    ∃ ao n cap els, cs = [.slice ao n cap] ∧ n ≤ cap ∧ els.length = n ∧ ((els = [] ∧ x.1 = .nil) ∨ ∃ rest, x.1 = .slice els rest) ∧
      ∀ i d, els[i]? = some d → ∃ ad c1 m q, ao = some ad ∧ c1.length = P.cellsOf e ∧ (∀ j y, c1[j]? = some y → w.cell? (ad.add (i * P.cellsOf e + j)) = some y) ∧ DataW.trod enc P w base sp held m e c1 = some (d, q) := by
  rcases DataW.trod_slice ht h with ⟨hcs, hx⟩ | ⟨a, len, cap, elems, rest, n, _, hcs, hx, _, hlc, _, hlen, hel, _⟩
  · exact ⟨none, 0, 0, [], hcs, Nat.le_refl _, rfl, .inl ⟨rfl, by rw [hx]⟩, fun i d hd => by simp at hd⟩
  · refine ⟨some a, len, cap, elems.map (·.1), hcs, hlc, by simpa using hlen, .inr ⟨_, by rw [hx]⟩, fun i d hd => ?_⟩
    have hi : i < len := by rw [← hlen]; have := (List.getElem?_eq_some_iff.1 hd).1; simpa using this
    have hE := hel i hi
    rw [List.getElem?_map] at hd
    cases hy : elems[i]? with
    | none => simp [hy] at hd
    | some y =>
      rw [hy] at hE hd
      simp only [Option.map_some, Option.some.injEq] at hd
      simp only [Option.bind_eq_some_iff] at hE
      obtain ⟨c1, hc1, hy1⟩ := hE
      obtain ⟨k1, k2⟩ := cells_some hc1
      exact ⟨a, c1, n, y.2, rfl, k1, fun j z hz => by rw [← add_add]; exact k2 j z hz, by rw [hy1, ← hd]⟩
theorem add_flat {ad : Addr} (h : ad.spot = none) (k : Nat) : ad.add k = ⟨ad.block, ad.off + k, none⟩ := by
  obtain ⟨g, off, s⟩ := ad
  simp only at h
  subst h
  unfold Addr.add
  split
  · subst_vars
    rfl
  · rfl
theorem spot_of_cell {ad : Addr} {v : Value} (h : w.cell? (ad.add 0) = some v) : ad.spot = none := by
  have e : ad.add 0 = ad := by simp [Addr.add]
  rw [e] at h
  unfold World.cell? at h
  split at h
  · split at h
    · cases h
    · cases hs : ad.spot with
      | none => rfl
      | some k => simp_all
  · cases h
theorem open_four {t i b : TypeId} {fs : Array Field} {f0 f1 f2 f3 : Field} {fuel : Nat} {cs : List Value} {x : DataW H × List MemPlace} (ht : P.underlying t = some (.struct fs)) (hf : fs = #[f0, f1, f2, f3]) (hc : P.cellsOf t = 4) (hi : P.underlying i = some (.int .i64)) (hi1 : P.cellsOf i = 1) (hb : P.underlying b = some .string) (hb1 : P.cellsOf b = 1)
    (e0 : f0.type = i ∧ f0.offset = 0) (e1 : f1.type = i ∧ f1.offset = 1) (e2 : f2.type = i ∧ f2.offset = 2) (e3 : f3.type = b ∧ f3.offset = 3) (h : DataW.trod enc P w base sp held fuel t cs = some x) :
    ∃ q : Sp, cs = [.int .i64 q.k, .int .i64 q.id, .int .i64 q.n, .string q.s] ∧ Go.Proofs.Yteejehbgmkanpaa.N q.n := by
  obtain ⟨xs, n, _, hx, hl, hxl, hall⟩ := DataW.trod_struct ht h
  subst hf
  have g0 := hall 0 f0 rfl
  have g1 := hall 1 f1 rfl
  have g2 := hall 2 f2 rfl
  have g3 := hall 3 f3 rfl
  rw [e0.1, e0.2, hi1] at g0
  rw [e1.1, e1.2, hi1] at g1
  rw [e2.1, e2.2, hi1] at g2
  rw [e3.1, e3.2, hb1] at g3
  rw [hc] at hl
  match cs, hl with
  | [c0, c1, c2, c3], _ =>
    match xs, hxl with
    | [y0, y1, y2, y3], _ =>
      obtain ⟨k, p0, _, _⟩ := DataW.trod_int hi g0
      obtain ⟨n, p1, _, w1⟩ := DataW.trod_int hi g1
      obtain ⟨h, p2, _, w2⟩ := DataW.trod_int hi g2
      obtain ⟨o, p3, _⟩ := DataW.trod_string hb g3
      simp at p0 p1 p2 p3
      exact ⟨⟨k, n, h, o⟩, by rw [p0, p1, p2, p3], n_of w2⟩
theorem open_script {v : Value} {d : DataW H} {pl : List MemPlace} (h0 : DataW.Trod enc Try.prog w 0 (fun _ => true) true 22 v d pl) {ao : Option Addr} {n cap : Nat} (hv0 : v = .slice ao n cap) :
    ∃ ts : List Sp, n = ts.length ∧ ts.length ≤ cap ∧ ArgOps w ao ts ∧ ∀ t ∈ ts, Go.Proofs.Yteejehbgmkanpaa.N t.n := by
  subst hv0
  obtain ⟨fuel, h⟩ := h0
  obtain ⟨ao', n', cap', els, hv, hnc, hn, hx, hall⟩ := open_rows Try.underlying22 h
  obtain ⟨rfl, rfl, rfl⟩ : ao = ao' ∧ n = n' ∧ cap = cap' := by simpa [Value.cells] using hv
  have h3 : Try.prog.cellsOf 36 = 4 := by kernel_rfl
  have hi1 : Try.prog.cellsOf 3 = 1 := by kernel_rfl
  have hb1 : Try.prog.cellsOf 9 = 1 := by kernel_rfl
  have hone : ∀ i, i < n → ∃ t : Sp, ∃ ad, ao = some ad ∧ w.cell? (ad.add (i * 4 + 0)) = some (.int .i64 t.k) ∧ w.cell? (ad.add (i * 4 + 1)) = some (.int .i64 t.id) ∧ w.cell? (ad.add (i * 4 + 2)) = some (.int .i64 t.n) ∧ w.cell? (ad.add (i * 4 + 3)) = some (.string t.s) ∧ Go.Proofs.Yteejehbgmkanpaa.N t.n := fun i hi => by
    obtain ⟨d, hd⟩ : ∃ d, els[i]? = some d := ⟨_, List.getElem?_eq_getElem (by omega)⟩
    obtain ⟨ad, c1, m, q, e1, e2, e3, e4⟩ := hall i d hd
    rw [h3] at e2 e3
    obtain ⟨t, rfl, k1⟩ := open_four Try.underlying36 rfl h3 Try.underlying3 hi1 Try.underlying9 hb1 ⟨rfl, rfl⟩ ⟨rfl, rfl⟩ ⟨rfl, rfl⟩ ⟨rfl, rfl⟩ e4
    exact ⟨t, ad, e1, e3 0 _ rfl, e3 1 _ rfl, e3 2 _ rfl, e3 3 _ rfl, k1⟩
  obtain ⟨ts, hl, hQ⟩ := list_of _ n hone
  subst hl
  refine ⟨ts, rfl, hnc, fun i t ht => ?_, fun t ht => ?_⟩
  · obtain ⟨ad, rfl, k0, k1, k2, k3, k5⟩ := hQ i t ht
    have hs : ad.spot = none := by
      have hi := (List.getElem?_eq_some_iff.1 ht).1
      obtain ⟨t0, ad0, q3, q4, _⟩ := hone 0 (by omega)
      obtain rfl := Option.some.inj q3
      exact spot_of_cell q4
    rw [add_flat hs] at k0 k1 k2 k3
    obtain ⟨g, off, s⟩ := ad
    simp only at hs k0 k1 k2 k3
    subst hs
    exact ⟨g, off, rfl, World.block_lt_of_cell? w _ k1, by simpa [Nat.add_assoc] using k0, by simpa [Nat.add_assoc] using k1, by simpa [Nat.add_assoc] using k2, by simpa [Nat.add_assoc] using k3⟩
  · obtain ⟨i, hi⟩ := List.mem_iff_getElem?.1 ht
    obtain ⟨_, _, _, _, _, _, k⟩ := hQ i t hi
    exact k
theorem open_step {cs : Array Value} {d : DataW H} {pl : List MemPlace} (h0 : DataW.Trod enc Try.prog w 0 (fun _ => true) true 36 (.agg cs) d pl) :
    ∃ t : Sp, cs = #[.int .i64 t.k, .int .i64 t.id, .int .i64 t.n, .string t.s] := by
  obtain ⟨fuel, h⟩ := h0
  have h3 : Try.prog.cellsOf 36 = 4 := by kernel_rfl
  have hi1 : Try.prog.cellsOf 3 = 1 := by kernel_rfl
  have hb1 : Try.prog.cellsOf 9 = 1 := by kernel_rfl
  obtain ⟨t, e, _⟩ := open_four Try.underlying36 rfl h3 Try.underlying3 hi1 Try.underlying9 hb1 ⟨rfl, rfl⟩ ⟨rfl, rfl⟩ ⟨rfl, rfl⟩ ⟨rfl, rfl⟩ h
  refine ⟨t, ?_⟩
  apply Array.ext'
  simpa [Value.cells] using e
end
end Go.Proofs.Yteejehbgmkanpaa
