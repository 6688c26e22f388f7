/-
  A row of elements that a statement is handed: how it lies in memory.
-/
import Derived.Test.YthekdgnikkjpdaaDoorOpnt
import Derived.Test.YthekdgnikkjpdaaDoorOpne
import Derived.Test.YthekdgnikkjpdaaDoorCutc
import Derived.Test.YthekdgnikkjpdaaDoorReab
import Derived.Test.YthekdgnikkjpdaaDoorSamc
import Derived.Deep.RegionHeld3
import Derived.Test.YthekdgnikkjpdaaDoorBkd
import Derived.Test.YthekdgnikkjpdaaDoorBke
import Derived.Test.YthekdgnikkjpdaaDoorDeepw
import Derived.Lib.Hide
namespace Go.Proofs.YthekdgnikkjpdaaDoor
open Go Go.ChangeShapes Go.WideShapes Go.ChangeAt Go.RowKit
/-- Elements lie there. -/
def ArgEls (w : World) (ao : Option Addr) (ls : List El) : Prop :=
  ∀ i e, ls[i]? = some e → ∃ g off a1 c1 a2 c2, ao = some ⟨g, off, none⟩ ∧ g < w.heap.size ∧ w.cell? ⟨g, off + i * 4, none⟩ = some (.string ⟨e.nm.toArray⟩) ∧ w.cell? ⟨g, off + i * 4 + 1, none⟩ = some (.slice a1 e.attrs.length c1) ∧
    w.cell? ⟨g, off + i * 4 + 2, none⟩ = some (.string ⟨e.text.toArray⟩) ∧ w.cell? ⟨g, off + i * 4 + 3, none⟩ = some (.slice a2 e.kids.length c2) ∧
    ElE (fun k => k < w.heap.size) w e (.string ⟨e.nm.toArray⟩) (.slice a1 e.attrs.length c1) (.string ⟨e.text.toArray⟩) (.slice a2 e.kids.length c2) ∧ CapE w 6 (.slice a1 e.attrs.length c1) (.slice a2 e.kids.length c2) ∧ ∀ n, smallE n e
section
variable {H : Type} {enc : TypeId × Value → H} {P : Program} {w : World} {base : Nat} {sp : Nat → Bool} {held : Bool}
theorem open_elems {fuel : Nat} {v : Value} {x : DataW H × List MemPlace} (h : DataW.trod enc Tryd.prog w base sp held fuel 30 [v] = some x) (hbk : Rows.uptoBulk x.1 ≤ 2000000) :
    ∃ ao cap, ∃ ls : List El, v = .slice ao ls.length cap ∧ ls.length ≤ cap ∧ ArgEls w ao ls := by
  obtain ⟨ao, n, cap, els, hv, hnc, hn, hx, hall⟩ := open_rows Tryd.underlying30 h
  obtain rfl : v = .slice ao n cap := by simpa using hv
  have hb := bulk_els hx
  have h4 : Tryd.prog.cellsOf 32 = 4 := by kernel_rfl
  have hone : ∀ i, i < n → ∃ e : El, ∃ ad a b c d, ao = some ad ∧ w.cell? (ad.add (i * 4 + 0)) = some a ∧ w.cell? (ad.add (i * 4 + 1)) = some b ∧ w.cell? (ad.add (i * 4 + 2)) = some c ∧ w.cell? (ad.add (i * 4 + 3)) = some d ∧ ElE (fun k => k < w.heap.size) w e a b c d ∧ CapE w 6 b d ∧ ∀ n, smallE n e := fun i hi => by
    obtain ⟨dd, hd⟩ : ∃ d, els[i]? = some d := ⟨_, List.getElem?_eq_getElem (by omega)⟩
    obtain ⟨ad, c1, m, q, e1, e2, e3, e4⟩ := hall i dd hd
    rw [h4] at e2 e3
    obtain ⟨e, a, b, c, d, rfl, hE, hS⟩ := open_elem m e4
    obtain ⟨a', b', c', d', hc', hcap⟩ := cap_elem 6 m e4
    simp only [List.cons.injEq, and_true] at hc'
    obtain ⟨rfl, rfl, rfl, rfl⟩ := hc'
    have hbm := bulk_mem (List.mem_of_getElem? hd)
    exact ⟨e, ad, a, b, c, d, e1, e3 0 _ rfl, e3 1 _ rfl, e3 2 _ rfl, e3 3 _ rfl, hE, hcap, hS (by simp only; omega)⟩
  obtain ⟨ls, hl, hQ⟩ := list_of _ n hone
  subst hl
  refine ⟨ao, cap, ls, rfl, hnc, fun i e ht => ?_⟩
  obtain ⟨ad, a, b, c, d, rfl, k0, k1, k2, k3, hE, hcap, hS⟩ := hQ i e ht
  have hs : ad.spot = none := by
    have hi := (List.getElem?_eq_some_iff.1 ht).1
    obtain ⟨t0, ad0, _, _, _, _, q3, q4, _⟩ := hone 0 (by omega)
    obtain rfl := Option.some.inj q3
    exact spot_of_cell q4
  rw [add_flat hs] at k0 k1 k2 k3
  obtain ⟨g, off, s⟩ := ad
  simp only at hs k0 k1 k2 k3
  subst hs
  obtain ⟨a1, c1, a2, c2, rfl, rfl⟩ := hE.shape
  obtain ⟨rfl, _, rfl, _⟩ := hE.parts
  exact ⟨g, off, a1, c1, a2, c2, rfl, lt_of_cell k1, by simpa [Nat.add_assoc] using k0, by simpa [Nat.add_assoc] using k1, by simpa [Nat.add_assoc] using k2, by simpa [Nat.add_assoc] using k3, hE, hcap, hS⟩
end
end Go.Proofs.YthekdgnikkjpdaaDoor
/-
  The walk of the statement TreesBack over this program: the region of its second loop, which draws its order.
-/
namespace Go.Proofs.YthekdgnikkjpdaaDoor
open Go Go.RowKit
def regionOfB (k : Nat) : Code → Option Code
  | .region n ops d => if n == k then some (.region n ops d) else none
  | .seq a b => match regionOfB k a with
    | some c => some c
    | none => regionOfB k b
  | .block _ c => regionOfB k c
  | .scope c => regionOfB k c
  | .loop c => regionOfB k c
  | .cond _ a b => match regionOfB k a with
    | some c => some c
    | none => regionOfB k b
  | _ => none
set_option maxHeartbeats 8000000 in
set_option maxRecDepth 100000 in
theorem reg19b (gg gw L cW N2 capG k k1 : Nat) (a1 a2 a3 a4 b1 b2 b3 b4 : Value) (wr : World) {v0 v1 v2 v3 v5 v6 v7 v8 v10 v11 v13 v14 v15 v16 v17 v18 v19 v20 v21 v22 v23 v24 v25 v26 v27 v28 v29 v30 v31 v32 v33 v34 v35 v36 v37 v38 v39 v40 v41 v42 v43 v44 v45 v46 v47 v48 v49 v50 v51 v52 v53 v54 v55 v56 v57 v58 v59 v60 v61 v62 v63 v64 v65 v66 v67 v68 v69 v70 v71 v72 v73 v74 v75 v76 v77 v78 v79 v80 v81 v82 v83 v84 v85 v86 v87 v88 v89 v90 v91 v92 v93 v94 v95 v96 v97 v98 v99 v100 v101 v102 v103 v104 v105 v106 v107 v108 v109 v110 v111 v112 v113 v114 v115 v116 v117 v118 : Value} (wk : IntKind.i64.wrap ((k : Int) + 1) = (k1 : Int)) (t0 : (0 : Int) ≤ (k1 : Int)) (t1 : (k1 : Int) < (N2 : Int)) (t2 : (0 : Int) ≤ (k : Int)) (t3 : (k : Int) < (L : Int))
    (HC0 : ∀ W, Below wr.heap.size wr W → W.cell? ⟨gg, k1 * 5, none⟩ = some (.int .i64 2) ∧ W.cell? ⟨gg, k1 * 5 + 1, none⟩ = some a1 ∧ W.cell? ⟨gg, k1 * 5 + 2, none⟩ = some a2 ∧ W.cell? ⟨gg, k1 * 5 + 3, none⟩ = some a3 ∧ W.cell? ⟨gg, k1 * 5 + 4, none⟩ = some a4 ∧ W.cell? ⟨gw, k * 4, none⟩ = some b1 ∧ W.cell? ⟨gw, k * 4 + 1, none⟩ = some b2 ∧ W.cell? ⟨gw, k * 4 + 2, none⟩ = some b3 ∧ W.cell? ⟨gw, k * 4 + 3, none⟩ = some b4)
    (HCL : ∀ W : World, W.heap = wr.heap → Calls Tryd.prog 20 #[.agg #[a1, a2, a3, a4], .agg #[b1, b2, b3, b4]] W fun e w' => e = .returned (.bool true) ∧ Below W.heap.size W w')
    (K : Act → World → Prop) (Q0 : Exit → Act → World → Prop)
    (hK : ∀ (u98 u99 u100 u101 u102 u103 u104 u105 u106 u107 u108 u109 u110 u111 u112 u113 u114 u115 u116 u117 : Value) (w' : World), Below wr.heap.size wr w' → K ⟨#[v0, v1, v2, v3, .slice (some ⟨gw, 0, none⟩) L cW, v5, v6, v7, v8, .slice (some ⟨gg, 0, none⟩) N2 capG, v10, v11, .int .i64 (k : Int), v13, v14, v15, v16, v17, v18, v19, v20, v21, v22, v23, v24, v25, v26, v27, v28, v29, v30, v31, v32, v33, v34, v35, v36, v37, v38, v39, v40, v41, v42, v43, v44, v45, v46, v47, v48, v49, v50, v51, v52, v53, v54, v55, v56, v57, v58, v59, v60, v61, v62, v63, v64, v65, v66, v67, v68, v69, v70, v71, v72, v73, v74, v75, v76, v77, v78, v79, v80, v81, v82, v83, v84, v85, v86, v87, v88, v89, v90, v91, v92, v93, v94, v95, v96, v97, u98, u99, u100, u101, u102, u103, u104, u105, u106, u107, u108, u109, u110, u111, u112, u113, u114, u115, u116, u117, .bool false], []⟩ w') :
    Code.wp Tryd.prog ((Tryd.f4.body.bind (regionOfB 19)).getD .skip) (Exit.then K Q0) ⟨#[v0, v1, v2, v3, .slice (some ⟨gw, 0, none⟩) L cW, v5, v6, v7, v8, .slice (some ⟨gg, 0, none⟩) N2 capG, v10, v11, .int .i64 (k : Int), v13, v14, v15, v16, v17, v18, v19, v20, v21, v22, v23, v24, v25, v26, v27, v28, v29, v30, v31, v32, v33, v34, v35, v36, v37, v38, v39, v40, v41, v42, v43, v44, v45, v46, v47, v48, v49, v50, v51, v52, v53, v54, v55, v56, v57, v58, v59, v60, v61, v62, v63, v64, v65, v66, v67, v68, v69, v70, v71, v72, v73, v74, v75, v76, v77, v78, v79, v80, v81, v82, v83, v84, v85, v86, v87, v88, v89, v90, v91, v92, v93, v94, v95, v96, v97, v98, v99, v100, v101, v102, v103, v104, v105, v106, v107, v108, v109, v110, v111, v112, v113, v114, v115, v116, v117, v118], []⟩ wr := by
  conv => arg 2; whnf
  have HKK : Hid _ := hK
  have HC : Hid (∀ W, Below wr.heap.size wr W → W.cell? ⟨gg, k1 * 5, none⟩ = some (.int .i64 2) ∧ W.cell? ⟨gg, k1 * 5 + 1, none⟩ = some a1 ∧ W.cell? ⟨gg, k1 * 5 + 2, none⟩ = some a2 ∧ W.cell? ⟨gg, k1 * 5 + 3, none⟩ = some a3 ∧ W.cell? ⟨gg, k1 * 5 + 4, none⟩ = some a4 ∧ W.cell? ⟨gw, k * 4, none⟩ = some b1 ∧ W.cell? ⟨gw, k * 4 + 1, none⟩ = some b2 ∧ W.cell? ⟨gw, k * 4 + 2, none⟩ = some b3 ∧ W.cell? ⟨gw, k * 4 + 3, none⟩ = some b4) := HC0
  obtain ⟨y0, y1, y2, y3, y4, x0, x1, x2, x3⟩ := HC0 _ (Below.refl _ _)
  clear hK HC0
  go_region_held3 (fun W => W.cell? ⟨gg, k1 * 5, none⟩ = some (.int .i64 2) ∧ W.cell? ⟨gg, k1 * 5 + 1, none⟩ = some a1 ∧ W.cell? ⟨gg, k1 * 5 + 2, none⟩ = some a2 ∧ W.cell? ⟨gg, k1 * 5 + 3, none⟩ = some a3 ∧ W.cell? ⟨gg, k1 * 5 + 4, none⟩ = some a4 ∧ W.cell? ⟨gw, k * 4, none⟩ = some b1 ∧ W.cell? ⟨gw, k * 4 + 1, none⟩ = some b2 ∧ W.cell? ⟨gw, k * 4 + 2, none⟩ = some b3 ∧ W.cell? ⟨gw, k * 4 + 3, none⟩ = some b4)
    (first
      | go_keep
      | (refine ⟨?_, ?_, ?_, ?_, ?_, ?_, ?_, ?_, ?_⟩ <;> assumption))
    (first | (go_at_call 20; refine (HCL _ ?_).mono ?_; exact rfl; rintro ee w7 ⟨rfl, hb7'⟩; have HB7 : Hid (Below wr.heap.size wr w7) := (Below.refl _ wr).drew.trans hb7'; obtain ⟨z0, z1, z2, z3, z4, w0, w1, w2, w3⟩ := HC.out _ HB7.out; clear hb7'))
  all_goals exact HKK.out _ _ _ _ _ _ _ _ _ _ _ _ _ _ _ _ _ _ _ _ _ HB7.out
end Go.Proofs.YthekdgnikkjpdaaDoor
/-
  The walk of the statement TreesBack over this program: its first loop, which writes the stream.
-/
namespace Go.Proofs.YthekdgnikkjpdaaDoor
open Go Go.RowKit
theorem info32B : (Tryd.prog.info? 32).map (fun i => (i.zero, i.size, i.bytes)) = some (some (.agg #[.string ⟨#[]⟩, .slice none 0 0, .string ⟨#[]⟩, .slice none 0 0]), 4, 80) := by kernel_rfl
theorem bytes_sum (a b : List UInt8) : (⟨a.toArray⟩ : ByteArray) ++ ⟨b.toArray⟩ = ⟨(a ++ b).toArray⟩ := by
  apply ByteArray.ext
  simp
/-- Blocks that the row is not. -/
def Pw (v : Value) (k : Nat) : Prop := v.ownBlock ≠ some k
/-- What is wanted, in memory: the elements in a row of its own. -/
def WtAt (B : Nat) (es : List El) (v : Value) (w : World) : Prop := ∃ xs, w.ownsRow B 32 4 v es.length xs ∧ KidsAt (ElE (Pw v) w) es xs
theorem WtAt.below {B : Nat} {es : List El} {v : Value} {w w' : World} (h : WtAt B es v w) (hb : Below w.heap.size w w') : WtAt B es v w' := by
  obtain ⟨xs, h1, h2⟩ := h
  exact ⟨xs, owns_below h1 hb, h2.imp fun _ _ _ _ _ k => k.step fun k hk hl => ⟨hk, hb.block k hl⟩⟩
theorem WtAt.app {B : Nat} {es : List El} {e : El} {v v1 a b c d : Value} {xs : List Value} {Z w4 : World} (hks : KidsAt (ElE (Pw v) Z) es xs) (hel : ElE (Pw v) Z e a b c d)
    (ho4 : w4.ownsRow B 32 4 v1 (es.length + 1) (xs ++ [a, b, c, d])) (hg : Z.grownBy w4 v.ownBlock) (hloc : v1.ownBlock = v.ownBlock ∨ v1.ownBlock = some Z.heap.size) : WtAt B (es ++ [e]) v1 w4 := by
  have hs : ∀ k, Pw v k → k < Z.heap.size → Pw v1 k ∧ w4.heap[k]? = Z.heap[k]? := fun k hk hl => by
    refine ⟨?_, hg.block k hl fun e => hk e.symm⟩
    rcases hloc with h | h
    · unfold Pw; rw [h]; exact hk
    · unfold Pw
      rw [h]
      intro e
      have := Option.some.inj e
      omega
  exact ⟨_, by rw [List.length_append]; exact ho4, (hks.imp fun _ _ _ _ _ k => k.step hs).app ⟨a, b, c, d, [], rfl, hel.step hs, rfl⟩⟩
theorem small_cutB : ∀ (r : Nat) (top : Bool) (n : Nat) (e : El), (∀ n, smallE n e) → smallE n (cutE r top e)
  | _, _, 0, _, _ => trivial
  | 0, _, n + 1, e, h => by
    obtain ⟨h1, h2, h3, _, _⟩ := h (n + 1)
    refine ⟨?_, ?_, fun p hp => h3 p (List.mem_of_mem_take hp), Nat.zero_le _, fun k hk => by cases hk⟩
    · show (e.text.take 40).length ≤ _
      rw [List.length_take]; omega
    · show (e.attrs.take 8).length ≤ _
      rw [List.length_take]; omega
  | r + 1, top, n + 1, e, h => by
    obtain ⟨h1, h2, h3, h4, h5⟩ := h (n + 1)
    refine ⟨?_, ?_, fun p hp => h3 p (List.mem_of_mem_take hp), ?_, fun k hk => ?_⟩
    · show (e.text.take 40).length ≤ _
      rw [List.length_take]; omega
    · show (e.attrs.take 8).length ≤ _
      rw [List.length_take]; omega
    · show ((e.kids.take (if top then 18 else 3)).map (cutE r false)).length ≤ _
      rw [List.length_map, List.length_take]; omega
    · obtain ⟨q, hq, rfl⟩ := List.mem_map.1 hk
      exact small_cutB r false n q fun j => (h (j + 1)).2.2.2.2 q (List.mem_of_mem_take hq)
/-- The stream's beginning with its items. -/
def headL (es : List El) : List UInt8 := [60, 115, 62] ++ itemsT es
theorem head_next (es : List El) (e : El) : headL es ++ (textE 4 e ++ [32, 10]) = headL (es ++ [e]) := by
  unfold headL itemsT
  rw [List.flatMap_append]
  simp
theorem ba2 (w : World) (o : Obj) : Below w.heap.size w (w.alloc o) := (Below.refl _ _).alloc (Nat.le_refl _) o
/-- What is held of an element that is wanted. -/
def GoodE (e : El) : Prop := rightE 4 e = true ∧ shortB 4 e = true ∧ toksC 4 e ≤ 64 ∧ ∀ n, smallE n e
theorem head_len {es : List El} (h : ∀ e ∈ es, GoodE e) (h5 : es.length ≤ 5) : (headL es).length ≤ 400000 := by
  have := (items_small es fun e he => ⟨(h e he).1, (h e he).2.1, (h e he).2.2.1⟩).2.2
  unfold headL
  rw [List.length_append]
  have : es.length * 76802 ≤ 5 * 76802 := Nat.mul_le_mul_right _ h5
  simp
  omega
theorem evGet {P : Nat → Prop} {w : World} : ∀ {l : List (Int × El)} {xs : List Value} (j : Nat) {p : Int × El}, EvCells P w l xs → l[j]? = some p → ∃ a b c d, xs[j * 5]? = some (.int .i64 p.1) ∧ xs[j * 5 + 1]? = some a ∧ xs[j * 5 + 2]? = some b ∧ xs[j * 5 + 3]? = some c ∧ xs[j * 5 + 4]? = some d ∧ ElE P w p.2 a b c d
  | [], _, _, _, _, h => by simp at h
  | q :: r, xs, 0, p, ⟨a, b, c, d, ys, e, k1, _⟩, h => by
    simp at h
    subst h
    exact ⟨a, b, c, d, by rw [e]; rfl, by rw [e]; rfl, by rw [e]; rfl, by rw [e]; rfl, by rw [e]; rfl, k1⟩
  | q :: r, xs, j + 1, p, ⟨a, b, c, d, ys, e, _, k2⟩, h => by
    obtain ⟨a', b', c', d', h1, h2, h3, h4, h5, h6⟩ := evGet j k2 (by simpa using h)
    refine ⟨a', b', c', d', ?_, ?_, ?_, ?_, ?_, h6⟩ <;> rw [e]
    · rw [show (j + 1) * 5 = j * 5 + 1 + 1 + 1 + 1 + 1 by omega]; exact h1
    · rw [show (j + 1) * 5 + 1 = j * 5 + 1 + 1 + 1 + 1 + 1 + 1 by omega]; exact h2
    · rw [show (j + 1) * 5 + 2 = j * 5 + 2 + 1 + 1 + 1 + 1 + 1 by omega]; exact h3
    · rw [show (j + 1) * 5 + 3 = j * 5 + 3 + 1 + 1 + 1 + 1 + 1 by omega]; exact h4
    · rw [show (j + 1) * 5 + 4 = j * 5 + 4 + 1 + 1 + 1 + 1 + 1 by omega]; exact h5
theorem owns_len {B : Nat} {e : TypeId} {sz : Nat} {ao : Option Addr} {n cap m : Nat} {xs : List Value} {w : World} (h : w.ownsRow B e sz (.slice ao n cap) m xs) : n = m := by
  obtain ⟨ao', cap', e1⟩ := owns_shape h
  exact (Value.slice.inj e1).2.1
/-- The events of the whole stream. -/
def evsB (es : List El) : List (Int × El) := (1, ⟨[115], [], [], []⟩) :: (es.map (fun e => (2, e)) ++ [(3, el0)])
theorem evsB_len (es : List El) : (evsB es).length = es.length + 2 := by simp [evsB]
theorem evsB_get {es : List El} {k : Nat} {e : El} (h : es[k]? = some e) : (evsB es)[k + 1]? = some (2, e) := by
  have hk := (List.getElem?_eq_some_iff.1 h).1
  simp [evsB, List.getElem?_append_left, hk]
  exact (List.getElem?_eq_some_iff.1 h).2
theorem evsB_last (es : List El) : (evsB es)[es.length + 1]? = some (3, el0) := by
  simp [evsB]
/-- What read answers of the whole stream. -/
theorem read_back {es : List El} (hg : ∀ e ∈ es, GoodE e) (h5 : es.length ≤ 5) (w : World) (hT : Tabs w) : Calls Tryd.prog 19 #[.string ⟨(streamT es).toArray⟩] w (RdRes w (evsB es) 0 0) := by
  obtain ⟨i1, i2, i3⟩ := items_small es fun e he => ⟨(hg e he).1, (hg e he).2.1, (hg e he).2.2.1⟩
  have hF := feed_stream es fun e he => ⟨(hg e he).1, short_of 4 e (hg e he).1 (hg e he).2.1⟩
  obtain ⟨S, hR, hS⟩ := run_stream es fun e he => ⟨(hg e he).1, by rw [toks_cnt]; exact (hg e he).2.2.1⟩
  have hl : es.length * 76802 ≤ 5 * 76802 := Nat.mul_le_mul_right _ h5
  have hl2 : es.length * 65 ≤ 5 * 65 := Nat.mul_le_mul_right _ h5
  have := read_walk ⟨(streamT es).toArray⟩ w hT (by show (streamT es).toArray.size ≤ _; rw [List.size_toArray]; simp [streamT]; omega) (streamK es) [] false 0 hF (fun t ht => by
    simp only [streamK, List.mem_cons, List.mem_append, List.not_mem_nil, or_false] at ht
    rcases ht with rfl | ht | rfl
    · exact ⟨by simp, by simp⟩
    · exact i1 t ht
    · exact ⟨by simp, by simp⟩) (by simp [streamK]; omega) S _ 0 hR 0 rfl
  rw [hS] at this
  exact this
set_option maxHeartbeats 4000000 in
set_option maxRecDepth 100000 in
theorem back_walk (ao : Option Addr) (cap : Nat) (ls : List El) (w : World) (hT : Tabs w) (hA : ArgEls w ao ls) (_hcap : ls.length ≤ cap) :
    Calls Tryd.prog 4 #[.slice ao ls.length cap] w fun e w' => e = .returned (.bool true) ∧ Below w.heap.size w w' := by
  obtain ⟨i0, hi, hz0, hz1, hz2⟩ := info_parts info32B
  have hT3 := hT.size
  have HT : Hid (Tabs w) := hT
  have HLV := livesT_any w hT
  have HA : Hid (ArgEls w ao ls) := hA
  obtain ⟨T, hTT⟩ : ∃ T, ls.length = T := ⟨_, rfl⟩
  have ET : Hid _ := hTT
  rw [hTT]
  obtain ⟨s0, hs0⟩ : ∃ s0 : ByteArray, (⟨#[60, 115, 62]⟩ : ByteArray) = s0 := ⟨_, rfl⟩
  have ES0 : Hid (s0 = ⟨(headL []).toArray⟩) := by rw [← hs0]; rfl
  clear hT hA hTT hs0
  go_enter Tryd.func4, Tryd.ntmps4
  go_wp2_with (go_at_call 8; refine HLV.mono ?_; rintro ee w1 ⟨rfl, hb1⟩)
  have HB1 : Hid (Below w.heap.size w w1) := hb1
  have hs1 := hb1.size
  clear hb1 HLV
  go_loopw [3, 4, 5, 6, 7, 8] (fun sv v ii _ _ _ wr => ∃ (j : Nat) (es : List El) (aoW : Option Addr) (cW : Nat) (ss : ByteArray), j ≤ 5 ∧ ii = .int .i64 (j : Int) ∧ sv = .string ss ∧ ss = ⟨(headL es).toArray⟩ ∧ v = .slice aoW es.length cW ∧ es.length ≤ j ∧ (∀ e ∈ es, GoodE e) ∧ WtAt w.heap.size es (.slice aoW es.length cW) wr ∧ Below w.heap.size w wr) (fun _ _ ii _ _ _ _ => 5 - (intOf ii).toNat)
  case atStart => exact ⟨0, [], none, 0, _, Nat.zero_le _, rfl, rfl, rfl, rfl, Nat.zero_le _, (fun e he => by cases he), ⟨[], World.ownsRow_nil _ _ _ _, rfl⟩, HB1.out⟩
  case round =>
    obtain ⟨j, es, aoW, cW, ss, hj5, rfl, rfl, hss, rfl, hej, hgood, hwt, hbw⟩ := hrel
    have HSS : Hid _ := hss
    have HG : Hid (∀ e ∈ es, GoodE e) := hgood
    have HWT : Hid (WtAt w.heap.size es (.slice aoW es.length cW) wr) := hwt
    have HBW : Hid (Below w.heap.size w wr) := hbw
    have hsz := hbw.size
    have hhl := head_len hgood (by omega)
    obtain ⟨L, hL⟩ : ∃ L, es.length = L := ⟨_, rfl⟩
    have EL : Hid _ := hL
    rw [hL] at HWT hej
    rw [hL]
    clear hss hgood hwt hbw hL
    have hin : (j < T ∧ j < 5) ∨ (j < T ∧ ¬ (j : Int) < 5) ∨ ¬ (j : Int) < (T : Int) := by omega
    rcases hin with ⟨h1, h2⟩ | hout
    · have h1' : (j : Int) < (T : Int) := by omega
      have h2' : (j : Int) < 5 := by omega
      have j0 : (0 : Int) ≤ (j : Int) := by omega
      obtain ⟨e0, he0⟩ : ∃ e0, ls[j]? = some e0 := ⟨_, List.getElem?_eq_getElem (by rw [ET.out]; exact h1)⟩
      obtain ⟨g, off, a1, c1, a2, c2, rfl, hg, k0, k1, k2, k3, ⟨m, hE⟩, hcp, hsm⟩ := HA.out j e0 he0
      have k0' : wr.cell? ⟨g, off + j * 4, none⟩ = _ := (HBW.out.cell (p := ⟨g, off + j * 4, none⟩) hg).trans k0
      have k1' : wr.cell? ⟨g, off + j * 4 + 1, none⟩ = _ := (HBW.out.cell (p := ⟨g, off + j * 4 + 1, none⟩) hg).trans k1
      have k2' : wr.cell? ⟨g, off + j * 4 + 2, none⟩ = _ := (HBW.out.cell (p := ⟨g, off + j * 4 + 2, none⟩) hg).trans k2
      have k3' : wr.cell? ⟨g, off + j * 4 + 3, none⟩ = _ := (HBW.out.cell (p := ⟨g, off + j * 4 + 3, none⟩) hg).trans k3
      have HC := cutEl_any w.heap.size 5 true 1 m e0 a1 a2 e0.attrs.length e0.kids.length c1 c2 wr rfl (Nat.le_refl _) rfl hsz (hE.step (row_below HBW.out)) (hcp.below HBW.out)
      obtain ⟨e, he⟩ : ∃ e, cutE 5 true e0 = e := ⟨_, rfl⟩
      rw [he] at HC
      have HSM : Hid (∀ n, smallE n e) := fun n => by rw [← he]; exact small_cutB 5 true n e0 hsm
      obtain ⟨n1, hn1⟩ : ∃ n, e0.attrs.length = n := ⟨_, rfl⟩
      obtain ⟨n2, hn2⟩ : ∃ n, e0.kids.length = n := ⟨_, rfl⟩
      obtain ⟨t1, ht1⟩ : ∃ t : ByteArray, (⟨e0.nm.toArray⟩ : ByteArray) = t := ⟨_, rfl⟩
      obtain ⟨t2, ht2⟩ : ∃ t : ByteArray, (⟨e0.text.toArray⟩ : ByteArray) = t := ⟨_, rfl⟩
      rw [ht1] at k0' HC
      rw [ht2] at k2' HC
      rw [hn1] at k1' HC
      rw [hn2] at k3' HC
      clear k0 k1 k2 k3 he0 hE hcp hsm he hn1 hn2 ht1 ht2
      go_wp2_with (go_at_call 15; refine HC.mono ?_; rintro ee w2 ⟨⟨b1, m1, d1, b2, m2, d2, rfl, hres, hnil1, hnil2⟩, hb2⟩; refine Hid.out ?_)
      refine Lib.hid ?_
      have HRES : Hid (ElE (fun k => k < w.heap.size ∨ wr.heap.size ≤ k) w2 e _ _ _ _) := hres
      have HBW2 : Hid (Below w.heap.size w w2) := HBW.out.trans (hb2.mono hsz)
      have hs2 : wr.heap.size ≤ w2.heap.size := hb2.size
      have HWT2 : Hid (WtAt w.heap.size es (.slice aoW L cW) w2) := HWT.out.below hb2
      obtain ⟨s1, hs1'⟩ : ∃ t : ByteArray, (⟨e.nm.toArray⟩ : ByteArray) = t := ⟨_, rfl⟩
      obtain ⟨s2, hs2'⟩ : ∃ t : ByteArray, (⟨e.text.toArray⟩ : ByteArray) = t := ⟨_, rfl⟩
      rw [hs1', hs2'] at HRES
      rw [hs1', hs2']
      clear hres hb2 HC k0' k1' k2' k3' hs1' hs2' hnil1 hnil2
      obtain ⟨x, hx⟩ : ∃ x, w2.heap.size = x := ⟨_, rfl⟩
      obtain ⟨W3, hW3⟩ : ∃ W3, w2.alloc (.cells #[.string s1, .slice b1 m1 d1, .string s2, .slice b2 m2 d2] 32) = W3 := ⟨_, rfl⟩
      have hb3 : Below w2.heap.size w2 W3 := by rw [← hW3]; exact ba2 _ _
      have HE3 : Hid (ElE (fun k => k < w.heap.size ∨ wr.heap.size ≤ k) W3 e (.string s1) (.slice b1 m1 d1) (.string s2) (.slice b2 m2 d2)) := HRES.out.step (row_below hb3)
      have HA3 : Hid (At x #[.string s1, .slice b1 m1 d1, .string s2, .slice b2 m2 d2] 32 W3) := by rw [← hx, ← hW3]; exact heap_alloc_new w2 _
      have HBW3 : Hid (Below w.heap.size w W3) := HBW2.out.trans (hb3.mono (by omega))
      have HWT3 : Hid (WtAt w.heap.size es (.slice aoW L cW) W3) := HWT2.out.below hb3
      obtain ⟨mm, hEm⟩ := HE3.out
      have HW := write_any mm e _ _ _ _ _ _ _ _ W3 (HT.out.below hT3 HBW3.out) (HSM.out 4) hEm
      have hs3 := HBW3.out.size
      have HWR : Hid (wr.heap.size ≤ W3.heap.size) := Nat.le_trans hs2 hb3.size
      clear hb3 HBW2 HWT2 HRES hs2
      obtain ⟨q0, q1, q2, q3⟩ := el4 HA3.out
      go_wp2_with (go_at_call 16; refine HW.mono ?_; rintro ee w4 ⟨rfl, hb4⟩; refine Hid.out ?_)
      refine Lib.hid ?_
      have HB4 : Hid (Below W3.heap.size W3 w4) := hb4
      have HA4 : Hid (At x #[.string s1, .slice b1 m1 d1, .string s2, .slice b2 m2 d2] 32 w4) := HA3.out.below hb4 (lt_of_heap HA3.out)
      have HE4 : Hid (ElE (fun k => k < w.heap.size ∨ wr.heap.size ≤ k) w4 e (.string s1) (.slice b1 m1 d1) (.string s2) (.slice b2 m2 d2)) := HE3.out.step (row_below hb4)
      have HBW4 : Hid (Below w.heap.size w w4) := HBW3.out.trans (hb4.mono hs3)
      have HWT4 : Hid (WtAt w.heap.size es (.slice aoW L cW) w4) := HWT3.out.below hb4
      have hs4 := HBW4.out.size
      have HWR4 : Hid (wr.heap.size ≤ w4.heap.size) := Nat.le_trans HWR.out hb4.size
      obtain ⟨p0, p1, p2, p3⟩ := el4 HA4.out
      clear HW hEm hb4 hx hW3 q0 q1 q2 q3
      have hwn : (rightE 4 e = false ∧ writeN e = ([], 3)) ∨ (rightE 4 e = true ∧ writeN e = (textE 4 e, 0)) := by
        unfold writeN
        cases rightE 4 e <;> simp
      rcases hwn with ⟨hr, hw⟩ | ⟨hr, hw⟩
      · rw [hw]
        clear hw hr
        go_wp2_with fail
        go_roundw
        case rel => exact ⟨j + 1, es, aoW, cW, _, by omega, by go_num, rfl, HSS.out, by rw [EL.out], by rw [EL.out]; omega, HG.out, by rw [EL.out]; exact HWT4.out, HBW4.out⟩
        case measure => simp [intOf]; omega
      · rw [hw]
        have HSH := short_any 4 e _ _ _ _ w4 hr (HSM.out 4) HE4.out
        have HTK := fun W (hb : Below w4.heap.size w4 W) => tokens_any 4 e _ _ _ _ W (by decide) hr (HE4.out.step (row_below hb))
        have HR : Hid (rightE 4 e = true) := hr
        obtain ⟨tt, htt⟩ : ∃ t : ByteArray, (⟨(textE 4 e).toArray⟩ : ByteArray) = t := ⟨_, rfl⟩
        have ETT : Hid _ := htt
        have hlt : (textE 4 e).length ≤ 1200 * toksC 4 e ∨ shortB 4 e = false := by
          cases h : shortB 4 e with
          | false => exact .inr rfl
          | true => exact .inl (textE_short 4 e hr (short_of 4 e hr h))
        dsimp only
        rw [htt]
        have OWN : Hid (∀ k, (Value.slice aoW L cW).ownBlock = some k → w.heap.size ≤ k ∧ k < wr.heap.size) := fun k hk => by
          obtain ⟨xs, ho, _⟩ := HWT.out
          rw [EL.out] at ho
          exact World.ownsRow.lt ho k hk
        clear hw htt
        cases hsb : shortB 4 e with
        | false =>
          rw [hsb] at HSH
          clear hsb hlt HTK
          go_wp2_with (go_at_call 17; refine HSH.mono ?_; rintro ee w5 ⟨rfl, hb5⟩; have HBW5 : Hid (Below w.heap.size w w5) := HBW4.out.trans (hb5.mono hs4); have HWT5 : Hid (WtAt w.heap.size es (.slice aoW L cW) w5) := HWT4.out.below hb5; clear hb5)
          go_roundw
          case rel => exact ⟨j + 1, es, aoW, cW, _, by omega, by go_num, rfl, HSS.out, by rw [EL.out], by rw [EL.out]; omega, HG.out, by rw [EL.out]; exact HWT5.out, HBW5.out⟩
          case measure => simp [intOf]; omega
        | true =>
          rw [hsb] at HSH
          have HSB : Hid (shortB 4 e = true) := hsb
          obtain ⟨tc, htc⟩ : ∃ tc, toksC 4 e = tc := ⟨_, rfl⟩
          have ETC : Hid _ := htc
          simp only [htc] at HTK
          have hlt2 : (textE 4 e).length ≤ 1200 * tc := by
            rcases hlt with h | h
            · rw [← htc]; exact h
            · rw [hsb] at h; cases h
          clear hsb hlt htc
          by_cases h64 : tc ≤ 64
          · have h64' : (tc : Int) ≤ 64 := by omega
            obtain ⟨t2, ht2⟩ : ∃ t : ByteArray, (⟨(textE 4 e ++ [32, 10]).toArray⟩ : ByteArray) = t := ⟨_, rfl⟩
            obtain ⟨s3, hs3'⟩ : ∃ t : ByteArray, (⟨(headL (es ++ [e])).toArray⟩ : ByteArray) = t := ⟨_, rfl⟩
            have ES3 : Hid _ := hs3'
            have hts : tt.size = (textE 4 e).length := by rw [← ETT.out]; exact List.size_toArray
            have hss2 : ss.size = (headL es).length := by rw [HSS.out]; exact List.size_toArray
            have ht2s : t2.size = (textE 4 e).length + 2 := by rw [← ht2]; show (textE 4 e ++ [32, 10]).toArray.size = _; rw [List.size_toArray, List.length_append]; rfl
            have g1 : ∀ W, (Op.stringOp .add tt ⟨#[32, 10]⟩).run Tryd.prog W = .ok (.string t2) W := fun W => by
              refine (run_string_add_sum W _ _ (by show tt.size + 2 ≤ _; omega)).trans ?_
              rw [← ETT.out, ← ht2]
              congr 2
            have g2 : ∀ W, (Op.stringOp .add ss t2).run Tryd.prog W = .ok (.string s3) W := fun W => by
              refine (run_string_add_sum W _ _ (by omega)).trans ?_
              rw [HSS.out, ← ht2, ← hs3']
              congr 2
              rw [bytes_sum, head_next]
            clear ht2 hs3' hts hss2 ht2s hlt2 hhl
            go_wp2_with (first
              | (go_at_call 17; refine HSH.mono ?_; rintro ee w5 ⟨rfl, hb5⟩; have HB5 : Hid (Below w4.heap.size w4 w5) := hb5; have HA5 : Hid (At x #[.string s1, .slice b1 m1 d1, .string s2, .slice b2 m2 d2] 32 w5) := HA4.out.below hb5 (lt_of_heap HA4.out); obtain ⟨r0, r1, r2, r3⟩ := el4 HA5.out; have hs5 := hb5.size; clear hb5)
              | (go_at_call 18; refine (HTK _ HB5.out).mono ?_; rintro ee w6 ⟨rfl, hb6⟩; have HB6 : Hid (Below w4.heap.size w4 w6) := HB5.out.trans (hb6.mono hs5); have HA6 : Hid (At x #[.string s1, .slice b1 m1 d1, .string s2, .slice b2 m2 d2] 32 w6) := HA5.out.below hb6 (lt_of_heap HA5.out); obtain ⟨v0, v1, v2, v3⟩ := el4 HA6.out; obtain ⟨xs6, ho6, hk6⟩ := HWT4.out.below HB6.out; have HO6 : Hid (w6.ownsRow w.heap.size 32 4 (.slice aoW L cW) L xs6) := (by rw [EL.out] at ho6; exact ho6); have HK6 : Hid (KidsAt (ElE (Pw (.slice aoW L cW)) w6) es xs6) := hk6; have hs6 := HB6.out.size; clear hb6 ho6 hk6)
              | (at_builtin; refine wpList_append_own_at _ rfl (.tmp 50) (.tmp 52) 30 rfl w.heap.size 32 i0 _ 4 80 Tryd.underlying30 hi hz0 hz1 hz2 rfl (by decide) (.slice aoW L cW) L xs6 rfl (World.ownsRow.alloc HO6.out _) ⟨w6.heap.size, 0, none⟩ 1 1 [.string s1, .slice b1 m1 d1, .string s2, .slice b2 m2 d2] rfl rfl (World.news_of_block (cs := #[.string s1, .slice b1 m1 d1, .string s2, .slice b2 m2 d2]) (t := 32) (fr := (0, 0)) (heap_alloc_new w6 _)) ?_ (by unfold maxLen; omega) (by omega) (by simp; omega) ?_; (intro u hu; simp only [List.mem_cons, List.not_mem_nil, or_false] at hu; rcases hu with rfl | rfl | rfl | rfl <;> rfl); intro v7 w7 ho7 hg7 _ hl7; obtain ⟨ao7, cap7, rfl⟩ := owns_shape ho7; have HO7 : Hid _ := ho7; have HG7 : Hid _ := hg7; have HL7 : Hid _ := hl7; clear ho7 hg7 hl7))
            go_roundw
            case rel =>
              have hsA : w6.heap.size ≤ (w6.alloc (.cells #[.string s1, .slice b1 m1 d1, .string s2, .slice b2 m2 d2] 32)).heap.size := by simp
              have hw7 : WtAt w.heap.size (es ++ [e]) (.slice ao7 (L + 1) cap7) w7 := by
                refine WtAt.app (HK6.out.imp fun _ _ _ _ _ k => k.step (row_below (ba2 w6 _))) ((HE4.out.step (row_below HB6.out)).step fun k hk hl => ⟨fun e => ?_, (ba2 w6 _).block k hl⟩) (by rw [EL.out]; exact HO7.out) HG7.out HL7.out
                have := OWN.out k e
                rcases hk with h | h <;> omega
              have hg7 : GoodE e := ⟨HR.out, HSB.out, by rw [ETC.out]; exact h64, HSM.out⟩
              refine ⟨j + 1, es ++ [e], ao7, cap7, s3, by omega, by go_num, rfl, ES3.out.symm, by rw [List.length_append, EL.out]; rfl, by rw [List.length_append, EL.out]; simp; omega, fun q hq => ?_, by rw [List.length_append, EL.out]; exact hw7, (HBW4.out.trans (HB6.out.mono hs4)).trans ((ba2 w6 _).mono (by omega) |>.trans ((Below.refl _ _).grown HG7.out (by omega) (fun k hk => (OWN.out k hk).1)))⟩
              rcases List.mem_append.1 hq with hq | hq
              · exact HG.out q hq
              · rw [List.mem_singleton.1 hq]; exact hg7
            case measure => simp [intOf]; omega
          · have h64' : ¬ (tc : Int) ≤ 64 := by omega
            clear hlt2 hhl
            go_wp2_with (first
              | (go_at_call 17; refine HSH.mono ?_; rintro ee w5 ⟨rfl, hb5⟩; have HB5 : Hid (Below w4.heap.size w4 w5) := hb5; have HA5 : Hid (At x #[.string s1, .slice b1 m1 d1, .string s2, .slice b2 m2 d2] 32 w5) := HA4.out.below hb5 (lt_of_heap HA4.out); obtain ⟨r0, r1, r2, r3⟩ := el4 HA5.out; have hs5 := hb5.size; clear hb5)
              | (go_at_call 18; refine (HTK _ HB5.out).mono ?_; rintro ee w6 ⟨rfl, hb6⟩; have HB6 : Hid (Below w4.heap.size w4 w6) := HB5.out.trans (hb6.mono hs5); clear hb6))
            go_roundw
            case rel => exact ⟨j + 1, es, aoW, cW, _, by omega, by go_num, rfl, HSS.out, by rw [EL.out], by rw [EL.out]; omega, HG.out, by rw [EL.out]; exact HWT4.out.below HB6.out, HBW4.out.trans (HB6.out.mono hs4)⟩
            case measure => simp [intOf]; omega
    · have hst : (⟨(headL es ++ [60, 47, 115, 62]).toArray⟩ : ByteArray) = ⟨(streamT es).toArray⟩ := rfl
      have hRD := fun W (hb : Below w.heap.size w W) => read_back HG.out (by rw [EL.out]; omega) W (HT.out.below hT3 hb)
      obtain ⟨s9, hs9⟩ : ∃ s : ByteArray, (⟨(streamT es).toArray⟩ : ByteArray) = s := ⟨_, rfl⟩
      simp only [hs9] at hRD
      have hss2 : ss.size = (headL es).length := by rw [HSS.out]; exact List.size_toArray
      have g1 : ∀ W, (Op.stringOp .add ss ⟨#[60, 47, 115, 62]⟩).run Tryd.prog W = .ok (.string s9) W := fun W => by
        refine (run_string_add_sum W _ _ (by show ss.size + 4 ≤ _; omega)).trans ?_
        rw [HSS.out, ← hs9, ← hst]
        congr 2
      have hL5 : L ≤ 5 := by omega
      have hdec : (j < T ∧ ¬ (j : Int) < 5 ∧ (j : Int) < (T : Int)) ∨ ¬ (j : Int) < (T : Int) := by omega
      clear hst hs9 hss2 hhl hout
      rcases hdec with ⟨_, h2', h1'⟩ | h1'
      all_goals (
        go_wp2_with (go_at_call 19; refine (hRD _ HBW.out).mono ?_; rintro ee w5 ⟨aoG, nG, capG, xs, rfl, hoG, hevG, hb5⟩; refine Hid.out ?_)
        refine Lib.hid ?_
        obtain rfl : nG = L + 2 := by
          have := owns_len hoG
          rw [evsB_len, EL.out] at this
          exact this
        have hlE : (evsB es).length = L + 2 := by rw [evsB_len, EL.out]
        obtain ⟨gg, rfl⟩ : ∃ gg, aoG = some ⟨gg, 0, none⟩ := by
          rcases hoG.2 with ⟨q1, _⟩ | ⟨gg, _, _, q1, _⟩
          · have := (Value.slice.inj q1).2.1
            omega
          · exact ⟨gg, (Value.slice.inj q1).1⟩
        rw [hlE] at hoG
        have HCG : Hid (∀ i, i < (L + 2) * 5 → w5.cell? ⟨gg, i, none⟩ = xs[i]?) := fun i hi => World.ownsRow.cellAt hoG i hi
        have hggl : gg < w5.heap.size := (World.ownsRow.lt hoG gg rfl).2
        have HEV : Hid (EvCells (fun _ => True) w5 (evsB es) xs) := hevG
        have HB5 : Hid (Below wr.heap.size wr w5) := hb5
        have HBW5 : Hid (Below w.heap.size w w5) := HBW.out.trans (hb5.mono hsz)
        have HWT5 : Hid (WtAt w.heap.size es (.slice aoW L cW) w5) := HWT.out.below hb5
        have y0 : w5.cell? ⟨gg, 0, none⟩ = some (.int .i64 1) := by
          obtain ⟨_, _, _, _, q, _⟩ := evGet 0 HEV.out rfl
          rw [HCG.out 0 (by omega)]
          exact q
        have y3 : w5.cell? ⟨gg, (L + 1) * 5, none⟩ = some (.int .i64 3) := by
          obtain ⟨_, _, _, _, q, _⟩ := evGet (L + 1) HEV.out (by rw [← EL.out]; exact evsB_last es)
          rw [HCG.out _ (by omega)]
          exact q
        have wa : IntKind.i64.wrap (((L + 2 : Nat) : Int) - 1) = ((L + 1 : Nat) : Int) := by simp only [IntKind.wrap_i64]; omega
        have wb : IntKind.i64.wrap ((L : Int) + 2) = ((L + 2 : Nat) : Int) := by simp only [IntKind.wrap_i64]; omega
        have l0 : (0 : Int) ≤ ((L + 1 : Nat) : Int) := by omega
        have l1 : ((L + 1 : Nat) : Int) < ((L + 2 : Nat) : Int) := by omega
        have l2 : (0 : Int) < ((L + 2 : Nat) : Int) := by omega
        clear hoG hevG hb5 hlE hRD
        go_wp2_with fail
        clear y0 y3 wa wb l0 l1 l2
        go_loopw [12] (fun kv wz => ∃ k : Nat, k ≤ L ∧ kv = .int .i64 (k : Int) ∧ Below w5.heap.size w5 wz) (fun kv _ => L - (intOf kv).toNat)
        case atStart => exact ⟨0, Nat.zero_le _, rfl, Below.refl _ _⟩
        case round =>
          obtain ⟨k, hk, rfl, hbz⟩ := hrel
          obtain ⟨wz, rfl⟩ : ∃ wz, wz = wr := ⟨_, rfl⟩
          have HBZ : Hid (Below w5.heap.size w5 wz) := hbz
          by_cases hkl : k < L
          · obtain ⟨e, he⟩ : ∃ e, es[k]? = some e := ⟨_, List.getElem?_eq_getElem (by rw [EL.out]; exact hkl)⟩
            obtain ⟨a, b, c, d, h1, h2, h3, h4, h5, hEl⟩ := evGet (k + 1) HEV.out (evsB_get he)
            obtain ⟨ao1, cap1, ao2, cap2, rfl, rfl⟩ := hEl.shape
            obtain ⟨rfl, _, rfl, _⟩ := hEl.parts
            obtain ⟨xw, how, hkw⟩ := HWT5.out
            rw [EL.out] at how
            obtain ⟨gw, rfl⟩ : ∃ gw, aoW = some ⟨gw, 0, none⟩ := by
              rcases how.2 with ⟨q1, q2⟩ | ⟨gw, _, _, q1, _⟩
              · omega
              · exact ⟨gw, (Value.slice.inj q1).1⟩
            obtain ⟨a', b', c', d', i1, i2, i3, i4, hEl'⟩ := kids_get k hkw he
            obtain ⟨bo1, dap1, bo2, dap2, rfl, rfl⟩ := hEl'.shape
            obtain ⟨rfl, _, rfl, _⟩ := hEl'.parts
            have hgwl : gw < w5.heap.size := (World.ownsRow.lt how gw rfl).2
            have hcw : ∀ i, i < L * 4 → w5.cell? ⟨gw, i, none⟩ = xw[i]? := fun i hi => World.ownsRow.cellAt how i hi
            have hsm := (HG.out e (List.mem_of_getElem? he)).2.2.2
            obtain ⟨m1, hm1⟩ := hEl
            obtain ⟨m2, hm2⟩ := hEl'
            have HCL : ∀ W : World, W.heap = wz.heap → Calls Tryd.prog 20 #[.agg #[.string ⟨e.nm.toArray⟩, .slice ao1 e.attrs.length cap1, .string ⟨e.text.toArray⟩, .slice ao2 e.kids.length cap2], .agg #[.string ⟨e.nm.toArray⟩, .slice bo1 e.attrs.length dap1, .string ⟨e.text.toArray⟩, .slice bo2 e.kids.length dap2]] W fun e w' => e = .returned (.bool true) ∧ Below W.heap.size W w' := fun W hW => by
              have hst : ∀ (P : Nat → Prop) k, P k → k < w5.heap.size → True ∧ W.heap[k]? = w5.heap[k]? := fun P k _ hl => ⟨trivial, by rw [hW]; exact HBZ.out.block k hl⟩
              have q1 : ElAt (fun _ => True) W (max m1 m2) e _ _ _ _ := (hm1.step (hst _)).mono (Nat.le_max_left _ _)
              have q2 : ElAt (fun _ => True) W (max m1 m2) e _ _ _ _ := (hm2.step (hst _)).mono (Nat.le_max_right _ _)
              have := same_any (max m1 m2) e e _ _ _ _ _ _ _ _ _ _ _ _ _ _ _ _ W (hsm _) q1 q2
              rw [same_self (max m1 m2) (max m1 m2) _ W e _ _ _ _ q1 (Nat.le_refl _)] at this
              exact this
            have HC0 : ∀ W, Below wz.heap.size wz W → W.cell? ⟨gg, (k + 1) * 5, none⟩ = some (.int .i64 2) ∧ W.cell? ⟨gg, (k + 1) * 5 + 1, none⟩ = some (.string ⟨e.nm.toArray⟩) ∧ W.cell? ⟨gg, (k + 1) * 5 + 2, none⟩ = some (.slice ao1 e.attrs.length cap1) ∧ W.cell? ⟨gg, (k + 1) * 5 + 3, none⟩ = some (.string ⟨e.text.toArray⟩) ∧ W.cell? ⟨gg, (k + 1) * 5 + 4, none⟩ = some (.slice ao2 e.kids.length cap2) ∧ W.cell? ⟨gw, k * 4, none⟩ = some (.string ⟨e.nm.toArray⟩) ∧ W.cell? ⟨gw, k * 4 + 1, none⟩ = some (.slice bo1 e.attrs.length dap1) ∧ W.cell? ⟨gw, k * 4 + 2, none⟩ = some (.string ⟨e.text.toArray⟩) ∧ W.cell? ⟨gw, k * 4 + 3, none⟩ = some (.slice bo2 e.kids.length dap2) := fun W hW => by
              have hb : Below w5.heap.size w5 W := HBZ.out.trans (hW.mono HBZ.out.size)
              have cg : ∀ i, W.cell? ⟨gg, i, none⟩ = w5.cell? ⟨gg, i, none⟩ := fun i => hb.cell (p := ⟨gg, i, none⟩) hggl
              have cw : ∀ i, W.cell? ⟨gw, i, none⟩ = w5.cell? ⟨gw, i, none⟩ := fun i => hb.cell (p := ⟨gw, i, none⟩) hgwl
              exact ⟨by rw [cg, HCG.out _ (by omega)]; exact h1, by rw [cg, HCG.out _ (by omega)]; exact h2, by rw [cg, HCG.out _ (by omega)]; exact h3, by rw [cg, HCG.out _ (by omega)]; exact h4, by rw [cg, HCG.out _ (by omega)]; exact h5, by rw [cw, hcw _ (by omega)]; exact i1, by rw [cw, hcw _ (by omega)]; exact i2, by rw [cw, hcw _ (by omega)]; exact i3, by rw [cw, hcw _ (by omega)]; exact i4⟩
            have wk : IntKind.i64.wrap ((k : Int) + 1) = ((k + 1 : Nat) : Int) := by simp only [IntKind.wrap_i64]; omega
            have t3 : (k : Int) < (L : Int) := by omega
            have HC0H : Hid _ := HC0
            have HCLH : Hid _ := HCL
            clear h1 h2 h3 h4 h5 how hkw i1 i2 i3 i4 hcw hsm hm1 hm2 he HC0 HCL
            go_wp2_with fail
            refine reg19b gg gw L cW (L + 2) capG k (k + 1) _ _ _ _ _ _ _ _ wz wk (by omega) (by omega) (by omega) t3 HC0H.out HCLH.out _ _ (fun u98 u99 u100 u101 u102 u103 u104 u105 u106 u107 u108 u109 u110 u111 u112 u113 u114 u115 u116 u117 w7 hb7 => ?_)
            go_wp2_with fail
            refine ⟨?_, ?measure⟩
            (repeat (apply Exists.intro; case' h => skip))
            refine ⟨?rel, rfl⟩
            case rel => exact ⟨k + 1, by omega, by go_num, HBZ.out.trans (hb7.mono HBZ.out.size)⟩
            case measure => simp [intOf]; omega
            all_goals exact undef
          · have hkn : ¬ (k : Int) < (L : Int) := by omega
            go_wp2_with fail
            go_ret
            exact ⟨rfl, HBW5.out.trans (HBZ.out.mono HBW5.out.size)⟩)
end Go.Proofs.YthekdgnikkjpdaaDoor
