/-
  The walk of the statement TreesBack over this program: the region of its second loop, which draws its order.
-/
import Derived.Test.YthekdgnikkjpdaaDoorReab
import Derived.Test.YthekdgnikkjpdaaDoorSamc
import Derived.Deep.RegionHeld3
namespace Go.Proofs.YthekdgnikkjpdaaDoor
open Go Go.RowKit
def regionOfB (k : Nat) : Code → Option Code
  | .region n ops d => if n == k then some (.region n ops d) else none
  | .seq a b => match regionOfB k a with
    | some c => some c
    | none => regionOfB k b
  | .block _ c => regionOfB k c
  | .scope c => regionOfB k c
  | .loop c => regionOfB k c
  | .cond _ a b => match regionOfB k a with
    | some c => some c
    | none => regionOfB k b
  | _ => none
set_option maxHeartbeats 8000000 in
set_option maxRecDepth 100000 in
theorem reg19b (gg gw L cW N2 capG k k1 : Nat) (a1 a2 a3 a4 b1 b2 b3 b4 : Value) (wr : World) {v0 v1 v2 v3 v5 v6 v7 v8 v10 v11 v13 v14 v15 v16 v17 v18 v19 v20 v21 v22 v23 v24 v25 v26 v27 v28 v29 v30 v31 v32 v33 v34 v35 v36 v37 v38 v39 v40 v41 v42 v43 v44 v45 v46 v47 v48 v49 v50 v51 v52 v53 v54 v55 v56 v57 v58 v59 v60 v61 v62 v63 v64 v65 v66 v67 v68 v69 v70 v71 v72 v73 v74 v75 v76 v77 v78 v79 v80 v81 v82 v83 v84 v85 v86 v87 v88 v89 v90 v91 v92 v93 v94 v95 v96 v97 v98 v99 v100 v101 v102 v103 v104 v105 v106 v107 v108 v109 v110 v111 v112 v113 v114 v115 v116 v117 v118 : Value} (wk : IntKind.i64.wrap ((k : Int) + 1) = (k1 : Int)) (t0 : (0 : Int) ≤ (k1 : Int)) (t1 : (k1 : Int) < (N2 : Int)) (t2 : (0 : Int) ≤ (k : Int)) (t3 : (k : Int) < (L : Int))
    (HC0 : ∀ W, Below wr.heap.size wr W → W.cell? ⟨gg, k1 * 5, none⟩ = some (.int .i64 2) ∧ W.cell? ⟨gg, k1 * 5 + 1, none⟩ = some a1 ∧ W.cell? ⟨gg, k1 * 5 + 2, none⟩ = some a2 ∧ W.cell? ⟨gg, k1 * 5 + 3, none⟩ = some a3 ∧ W.cell? ⟨gg, k1 * 5 + 4, none⟩ = some a4 ∧ W.cell? ⟨gw, k * 4, none⟩ = some b1 ∧ W.cell? ⟨gw, k * 4 + 1, none⟩ = some b2 ∧ W.cell? ⟨gw, k * 4 + 2, none⟩ = some b3 ∧ W.cell? ⟨gw, k * 4 + 3, none⟩ = some b4)
    (HCL : ∀ W : World, W.heap = wr.heap → Calls Tryd.prog 20 #[.agg #[a1, a2, a3, a4], .agg #[b1, b2, b3, b4]] W fun e w' => e = .returned (.bool true) ∧ Below W.heap.size W w')
    (K : Act → World → Prop) (Q0 : Exit → Act → World → Prop)
    (hK : ∀ (u98 u99 u100 u101 u102 u103 u104 u105 u106 u107 u108 u109 u110 u111 u112 u113 u114 u115 u116 u117 : Value) (w' : World), Below wr.heap.size wr w' → K ⟨#[v0, v1, v2, v3, .slice (some ⟨gw, 0, none⟩) L cW, v5, v6, v7, v8, .slice (some ⟨gg, 0, none⟩) N2 capG, v10, v11, .int .i64 (k : Int), v13, v14, v15, v16, v17, v18, v19, v20, v21, v22, v23, v24, v25, v26, v27, v28, v29, v30, v31, v32, v33, v34, v35, v36, v37, v38, v39, v40, v41, v42, v43, v44, v45, v46, v47, v48, v49, v50, v51, v52, v53, v54, v55, v56, v57, v58, v59, v60, v61, v62, v63, v64, v65, v66, v67, v68, v69, v70, v71, v72, v73, v74, v75, v76, v77, v78, v79, v80, v81, v82, v83, v84, v85, v86, v87, v88, v89, v90, v91, v92, v93, v94, v95, v96, v97, u98, u99, u100, u101, u102, u103, u104, u105, u106, u107, u108, u109, u110, u111, u112, u113, u114, u115, u116, u117, .bool false], []⟩ w') :
    Code.wp Tryd.prog ((Tryd.f4.body.bind (regionOfB 19)).getD .skip) (Exit.then K Q0) ⟨#[v0, v1, v2, v3, .slice (some ⟨gw, 0, none⟩) L cW, v5, v6, v7, v8, .slice (some ⟨gg, 0, none⟩) N2 capG, v10, v11, .int .i64 (k : Int), v13, v14, v15, v16, v17, v18, v19, v20, v21, v22, v23, v24, v25, v26, v27, v28, v29, v30, v31, v32, v33, v34, v35, v36, v37, v38, v39, v40, v41, v42, v43, v44, v45, v46, v47, v48, v49, v50, v51, v52, v53, v54, v55, v56, v57, v58, v59, v60, v61, v62, v63, v64, v65, v66, v67, v68, v69, v70, v71, v72, v73, v74, v75, v76, v77, v78, v79, v80, v81, v82, v83, v84, v85, v86, v87, v88, v89, v90, v91, v92, v93, v94, v95, v96, v97, v98, v99, v100, v101, v102, v103, v104, v105, v106, v107, v108, v109, v110, v111, v112, v113, v114, v115, v116, v117, v118], []⟩ wr := by
  conv => arg 2; whnf
  have HKK : Hid _ := hK
  have HC : Hid (∀ W, Below wr.heap.size wr W → W.cell? ⟨gg, k1 * 5, none⟩ = some (.int .i64 2) ∧ W.cell? ⟨gg, k1 * 5 + 1, none⟩ = some a1 ∧ W.cell? ⟨gg, k1 * 5 + 2, none⟩ = some a2 ∧ W.cell? ⟨gg, k1 * 5 + 3, none⟩ = some a3 ∧ W.cell? ⟨gg, k1 * 5 + 4, none⟩ = some a4 ∧ W.cell? ⟨gw, k * 4, none⟩ = some b1 ∧ W.cell? ⟨gw, k * 4 + 1, none⟩ = some b2 ∧ W.cell? ⟨gw, k * 4 + 2, none⟩ = some b3 ∧ W.cell? ⟨gw, k * 4 + 3, none⟩ = some b4) := HC0
  obtain ⟨y0, y1, y2, y3, y4, x0, x1, x2, x3⟩ := HC0 _ (Below.refl _ _)
  clear hK HC0
  go_region_held3 (fun W => W.cell? ⟨gg, k1 * 5, none⟩ = some (.int .i64 2) ∧ W.cell? ⟨gg, k1 * 5 + 1, none⟩ = some a1 ∧ W.cell? ⟨gg, k1 * 5 + 2, none⟩ = some a2 ∧ W.cell? ⟨gg, k1 * 5 + 3, none⟩ = some a3 ∧ W.cell? ⟨gg, k1 * 5 + 4, none⟩ = some a4 ∧ W.cell? ⟨gw, k * 4, none⟩ = some b1 ∧ W.cell? ⟨gw, k * 4 + 1, none⟩ = some b2 ∧ W.cell? ⟨gw, k * 4 + 2, none⟩ = some b3 ∧ W.cell? ⟨gw, k * 4 + 3, none⟩ = some b4)
    (first
      | go_keep
      | (refine ⟨?_, ?_, ?_, ?_, ?_, ?_, ?_, ?_, ?_⟩ <;> assumption))
    (first | (go_at_call 20; refine (HCL _ ?_).mono ?_; exact rfl; rintro ee w7 ⟨rfl, hb7'⟩; have HB7 : Hid (Below wr.heap.size wr w7) := (Below.refl _ wr).drew.trans hb7'; obtain ⟨z0, z1, z2, z3, z4, w0, w1, w2, w3⟩ := HC.out _ HB7.out; clear hb7'))
  all_goals exact HKK.out _ _ _ _ _ _ _ _ _ _ _ _ _ _ _ _ _ _ _ _ _ HB7.out
end Go.Proofs.YthekdgnikkjpdaaDoor
