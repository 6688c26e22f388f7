/-
  How an argument's reading is opened: rows of attributes and of tokens lie in memory as the lists that they are; what a bound on the reading's bulk gives.
-/
import Derived.Test.YthekdgnikkjpdaaGreatDoorMtree
import Derived.Test.YthekdgnikkjpdaaGreatDoorRattrs
import Derived.Test.YthekdgnikkjpdaaGreatDoorRows
import Derived.WalkKit
import Derived.ProofKit
import Derived.OpenShut
namespace Go.Proofs.YthekdgnikkjpdaaGreatDoor
open Go Go.ChangeShapes Go.WideShapes Go.ChangeAt Go.RowKit
section
variable {H : Type} {enc : TypeId × Value → H} {P : Program} {w : World} {base : Nat} {sp : Nat → Bool} {held : Bool}
/-- A list from an element at each place. -/
theorem list_of {α : Type} (Q : Nat → α → Prop) : ∀ n, (∀ i, i < n → ∃ t, Q i t) → ∃ l : List α, l.length = n ∧ ∀ i t, l[i]? = some t → Q i t
  | 0, _ => ⟨[], rfl, fun i t h => by simp at h⟩
  | n + 1, h => by
    obtain ⟨l, h1, h2⟩ := list_of Q n fun i hi => h i (by omega)
    obtain ⟨t, ht⟩ := h n (by omega)
    refine ⟨l ++ [t], by simp [h1], fun i u hu => ?_⟩
    by_cases hi : i < l.length
    · rw [List.getElem?_append_left hi] at hu
      exact h2 i u hu
    · have h0 : i < (l ++ [t]).length := (List.getElem?_eq_some_iff.1 hu).1
      simp at h0
      have hin : i = n := by omega
      subst hin
      rw [List.getElem?_append_right (by omega), h1] at hu
      simp at hu
      subst hu
      exact ht
theorem add_add (a : Addr) (m n : Nat) : (a.add m).add n = a.add (m + n) := by
  unfold Addr.add
  by_cases hn : n = 0
  · subst hn
    simp
  · by_cases hm : m = 0
    · subst hm
      simp [hn]
    · simp [hn, hm, Nat.add_assoc]
theorem cells_some {a : Addr} {n : Nat} {cs : List Value} (h : w.cells? base a n = some cs) : cs.length = n ∧ ∀ i x, cs[i]? = some x → w.cell? (a.add i) = some x := by
  unfold World.cells? at h
  split at h
  · have hl : cs.length = n := by simpa using mapM_some_length h
    refine ⟨hl, fun i x hx => ?_⟩
    have hi : i < n := by rw [← hl]; exact (List.getElem?_eq_some_iff.1 hx).1
    have := mapM_some_get h i i (by simp [hi])
    rw [this]
    exact hx
  · cases h
/-- A slice of whatever: its elements, one by one, each with its cells and its reading. -/
theorem open_rows {t e : TypeId} {fuel : Nat} {cs : List Value} {x : DataW H × List MemPlace} (ht : P.underlying t = some (.slice e)) (h : DataW.trod enc P w base sp held fuel t cs = some x) :
    ∃ ao n cap els, cs = [.slice ao n cap] ∧ n ≤ cap ∧ els.length = n ∧ ((els = [] ∧ x.1 = .nil) ∨ ∃ rest, x.1 = .slice els rest) ∧
      ∀ i d, els[i]? = some d → ∃ ad c1 m q, ao = some ad ∧ c1.length = P.cellsOf e ∧ (∀ j y, c1[j]? = some y → w.cell? (ad.add (i * P.cellsOf e + j)) = some y) ∧ DataW.trod enc P w base sp held m e c1 = some (d, q) := by
  rcases DataW.trod_slice ht h with ⟨hcs, hx⟩ | ⟨a, len, cap, elems, rest, n, _, hcs, hx, _, hlc, _, hlen, hel, _⟩
  · exact ⟨none, 0, 0, [], hcs, Nat.le_refl _, rfl, .inl ⟨rfl, by rw [hx]⟩, fun i d hd => by simp at hd⟩
  · refine ⟨some a, len, cap, elems.map (·.1), hcs, hlc, by simpa using hlen, .inr ⟨_, by rw [hx]⟩, fun i d hd => ?_⟩
    have hi : i < len := by rw [← hlen]; have := (List.getElem?_eq_some_iff.1 hd).1; simpa using this
    have hE := hel i hi
    rw [List.getElem?_map] at hd
    cases hy : elems[i]? with
    | none => simp [hy] at hd
    | some y =>
      rw [hy] at hE hd
      simp only [Option.map_some, Option.some.injEq] at hd
      simp only [Option.bind_eq_some_iff] at hE
      obtain ⟨c1, hc1, hy1⟩ := hE
      obtain ⟨k1, k2⟩ := cells_some hc1
      exact ⟨a, c1, n, y.2, rfl, k1, fun j z hz => by rw [← add_add]; exact k2 j z hz, by rw [hy1, ← hd]⟩
theorem take_one {cs : List Value} {o : Nat} {v : Value} (h : (cs.drop o).take 1 = [v]) : cs[o]? = some v := by
  have h1 := congrArg (fun l : List Value => l[0]?) h
  simpa [List.getElem?_take, List.getElem?_drop] using h1
/-- A struct of two strings. -/
theorem open_pair2 {t s : TypeId} {fs : Array Field} {f0 f1 : Field} {fuel : Nat} {cs : List Value} {x : DataW H × List MemPlace} (ht : P.underlying t = some (.struct fs)) (hf : fs = #[f0, f1]) (hc : P.cellsOf t = 2) (hs : P.underlying s = some .string) (hs1 : P.cellsOf s = 1)
    (e0 : f0.type = s ∧ f0.offset = 0) (e1 : f1.type = s ∧ f1.offset = 1) (h : DataW.trod enc P w base sp held fuel t cs = some x) :
    ∃ a b : ByteArray, cs = [.string a, .string b] ∧ x.1 = .agg [.lit (.string a.data.toList), .lit (.string b.data.toList)] := by
  obtain ⟨xs, n, _, hx, hl, hxl, hall⟩ := DataW.trod_struct ht h
  subst hf
  have g0 := hall 0 f0 rfl
  have g1 := hall 1 f1 rfl
  rw [e0.1, e0.2, hs1] at g0
  rw [e1.1, e1.2, hs1] at g1
  rw [hc] at hl
  match cs, hl with
  | [u, v], _ =>
    match xs, hxl with
    | [y, z], _ =>
      obtain ⟨a, p1, p2, _⟩ := DataW.trod_string hs g0
      obtain ⟨b, q1, q2, _⟩ := DataW.trod_string hs g1
      simp at p1 q1
      refine ⟨a, b, by rw [p1, q1], ?_⟩
      rw [hx, p2, q2]
      rfl
/-- A struct of an int, a string, whatever of one cell, and a string. -/
theorem open_quad {t i s u : TypeId} {fs : Array Field} {f0 f1 f2 f3 : Field} {fuel : Nat} {cs : List Value} {x : DataW H × List MemPlace} (ht : P.underlying t = some (.struct fs)) (hf : fs = #[f0, f1, f2, f3]) (hc : P.cellsOf t = 4) (hi : P.underlying i = some (.int .i64)) (hi1 : P.cellsOf i = 1) (hs : P.underlying s = some .string) (hs1 : P.cellsOf s = 1) (hu1 : P.cellsOf u = 1)
    (e0 : f0.type = i ∧ f0.offset = 0) (e1 : f1.type = s ∧ f1.offset = 1) (e2 : f2.type = u ∧ f2.offset = 2) (e3 : f3.type = s ∧ f3.offset = 3) (h : DataW.trod enc P w base sp held fuel t cs = some x) :
    ∃ (k : Int) (a : ByteArray) (v : Value) (b : ByteArray) (d : DataW H) (m : Nat) (q : List MemPlace), cs = [.int .i64 k, .string a, v, .string b] ∧ x.1 = .agg [.lit (.int .i64 k), .lit (.string a.data.toList), d, .lit (.string b.data.toList)] ∧ DataW.trod enc P w base sp held m u [v] = some (d, q) := by
  obtain ⟨xs, n, _, hx, hl, hxl, hall⟩ := DataW.trod_struct ht h
  subst hf
  have g0 := hall 0 f0 rfl
  have g1 := hall 1 f1 rfl
  have g2 := hall 2 f2 rfl
  have g3 := hall 3 f3 rfl
  rw [e0.1, e0.2, hi1] at g0
  rw [e1.1, e1.2, hs1] at g1
  rw [e2.1, e2.2, hu1] at g2
  rw [e3.1, e3.2, hs1] at g3
  rw [hc] at hl
  match cs, hl with
  | [c0, c1, c2, c3], _ =>
    match xs, hxl with
    | [y0, y1, y2, y3], _ =>
      obtain ⟨k, p1, p2, _⟩ := DataW.trod_int hi g0
      obtain ⟨a, q1, q2, _⟩ := DataW.trod_string hs g1
      obtain ⟨b, r1, r2, _⟩ := DataW.trod_string hs g3
      simp at p1 q1 r1
      refine ⟨k, a, c2, b, y2.1, n, y2.2, by rw [p1, q1, r1], ?_, by simpa using g2⟩
      rw [hx, p2, q2, r2]
      rfl
end
theorem bulk_pos {H : Type} (d : DataW H) : 1 ≤ Rows.uptoBulk d := by
  cases d with
  | lit l => cases l <;> simp [Rows.uptoBulk]
  | _ => simp [Rows.uptoBulk]
theorem bulk_mem {H : Type} {d : DataW H} : ∀ {l : List (DataW H)}, d ∈ l → Rows.uptoBulk d ≤ Rows.uptoBulkAll l
  | [], h => by simp at h
  | e :: l, h => by
    simp only [Rows.uptoBulkAll]
    rcases List.mem_cons.1 h with rfl | h
    · omega
    · have := bulk_mem h
      omega
theorem bulk_len {H : Type} : ∀ (l : List (DataW H)), l.length ≤ Rows.uptoBulkAll l
  | [] => Nat.zero_le _
  | e :: l => by
    have h1 := bulk_pos e
    have h2 := bulk_len l
    simp only [Rows.uptoBulkAll, List.length_cons]
    omega
theorem bulk_els {H : Type} {els : List (DataW H)} {d : DataW H} (h : (els = [] ∧ d = .nil) ∨ ∃ rest, d = .slice els rest) : Rows.uptoBulkAll els ≤ Rows.uptoBulk d := by
  rcases h with ⟨rfl, rfl⟩ | ⟨rest, rfl⟩
  · simp [Rows.uptoBulkAll, Rows.uptoBulk]
  · simp only [Rows.uptoBulk]
    omega
theorem pair_inv (l : List (List UInt8 × List UInt8)) (i : Nat) (x : Value) (h : (pairCells l)[i]? = some x) : ∃ j p, l[j]? = some p ∧ ((i = j * 2 ∧ x = .string ⟨p.1.toArray⟩) ∨ (i = j * 2 + 1 ∧ x = .string ⟨p.2.toArray⟩)) := by
  have hi := (List.getElem?_eq_some_iff.1 h).1
  rw [pairCells_length] at hi
  obtain ⟨p, hp⟩ : ∃ p, l[i / 2]? = some p := ⟨_, List.getElem?_eq_getElem (by omega)⟩
  obtain ⟨h1, h2⟩ := pair_get l _ p hp
  refine ⟨i / 2, p, hp, ?_⟩
  by_cases he : i = i / 2 * 2
  · rw [← he, h] at h1
    exact .inl ⟨he, Option.some.inj h1⟩
  · have ho : i = i / 2 * 2 + 1 := by omega
    rw [← ho, h] at h2
    exact .inr ⟨ho, Option.some.inj h2⟩
section
variable {H : Type} {enc : TypeId × Value → H} {w : World} {base : Nat} {sp : Nat → Bool} {held : Bool}
/-- Attributes, as an argument's reading has them. -/
theorem open_attrs {fuel : Nat} {v : Value} {x : DataW H × List MemPlace} (h : DataW.trod enc Tryz.prog w base sp held fuel 22 [v] = some x) :
    ∃ l : List (List UInt8 × List UInt8), Row (fun k => k < w.heap.size) w v l.length (pairCells l) ∧ l.length ≤ Rows.uptoBulk x.1 ∧ ∀ p ∈ l, p.1.length + p.2.length ≤ Rows.uptoBulk x.1 := by
  obtain ⟨ao, n, cap, els, hv, _, hn, hx, hall⟩ := open_rows Tryz.underlying22 h
  obtain rfl : v = .slice ao n cap := by simpa using hv
  have hb := bulk_els hx
  have hln := bulk_len els
  have h2 : Tryz.prog.cellsOf 34 = 2 := by kernel_rfl
  obtain ⟨l, hl, hQ⟩ := list_of (fun i (p : List UInt8 × List UInt8) => ∃ d ad, els[i]? = some d ∧ d = .agg [.lit (.string p.1), .lit (.string p.2)] ∧ ao = some ad ∧ w.cell? (ad.add (i * 2)) = some (.string ⟨p.1.toArray⟩) ∧ w.cell? (ad.add (i * 2 + 1)) = some (.string ⟨p.2.toArray⟩)) n (fun i hi => by
    obtain ⟨d, hd⟩ : ∃ d, els[i]? = some d := ⟨_, List.getElem?_eq_getElem (by omega)⟩
    obtain ⟨ad, c1, m, q, e1, e2, e3, e4⟩ := hall i d hd
    rw [h2] at e2 e3
    obtain ⟨a, b, rfl, r2⟩ := open_pair2 Tryz.underlying34 rfl h2 Tryz.underlying9 (by kernel_rfl) ⟨rfl, rfl⟩ ⟨rfl, rfl⟩ e4
    exact ⟨(a.data.toList, b.data.toList), d, ad, hd, r2, e1, e3 0 _ rfl, e3 1 _ rfl⟩)
  subst hl
  refine ⟨l, ⟨ao, cap, rfl, fun i y hy => ?_⟩, by omega, fun p hp => ?_⟩
  · obtain ⟨j, p, hp, hc⟩ := pair_inv l i y hy
    obtain ⟨d, ad, q1, q2, q3, q4, q5⟩ := hQ j p hp
    have hlt : ad.block < w.heap.size := by
      have := lt_of_cell q4
      rwa [block_add] at this
    rcases hc with ⟨rfl, rfl⟩ | ⟨rfl, rfl⟩
    · exact ⟨ad, q3, hlt, q4⟩
    · exact ⟨ad, q3, hlt, q5⟩
  · obtain ⟨j, hj⟩ := List.mem_iff_getElem?.1 hp
    obtain ⟨d, ad, q1, rfl, _⟩ := hQ j p hj
    have := bulk_mem (List.mem_of_getElem? q1)
    simp only [Rows.uptoBulk, Rows.uptoBulkAll] at this
    omega
/-- Tokens lie there. -/
def ArgToks (w : World) (ao : Option Addr) (ts : List Tok) : Prop :=
  ∀ i t, ts[i]? = some t → ∃ g off va, ao = some ⟨g, off, none⟩ ∧ g < w.heap.size ∧ w.cell? ⟨g, off + i * 4, none⟩ = some (.int .i64 t.kind) ∧ w.cell? ⟨g, off + i * 4 + 1, none⟩ = some (.string ⟨t.nm.toArray⟩) ∧
    w.cell? ⟨g, off + i * 4 + 2, none⟩ = some va ∧ w.cell? ⟨g, off + i * 4 + 3, none⟩ = some (.string ⟨t.text.toArray⟩) ∧ Row (fun k => k < w.heap.size) w va t.attrs.length (pairCells t.attrs)
theorem add_flat {ad : Addr} (h : ad.spot = none) (k : Nat) : ad.add k = ⟨ad.block, ad.off + k, none⟩ := by
  obtain ⟨g, off, s⟩ := ad
  simp only at h
  subst h
  unfold Addr.add
  split
  · subst_vars
    rfl
  · rfl
theorem spot_of_cell {ad : Addr} {v : Value} (h : w.cell? (ad.add 0) = some v) : ad.spot = none := by
  have e : ad.add 0 = ad := by simp [Addr.add]
  rw [e] at h
  unfold World.cell? at h
  split at h
  · split at h
    · cases h
    · cases hs : ad.spot with
      | none => rfl
      | some k => simp_all
  · cases h
theorem ArgToks.take {w : World} {ao : Option Addr} {ts : List Tok} (h : ArgToks w ao ts) (n : Nat) : ArgToks w ao (ts.take n) := fun i t ht => h i t (by
  rw [List.getElem?_take] at ht
  split at ht
  · exact ht
  · cases ht)
end
end Go.Proofs.YthekdgnikkjpdaaGreatDoor
