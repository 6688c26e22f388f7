/-
  The walk of the statement TreesWrite over this program: its last region, which draws its order.
-/
import Derived.Test.YthekdgnikkjpdaaGreatDoorWsd
import Derived.Lib.QuietBelow
import Derived.Test.YthekdgnikkjpdaaGreatDoorCutc
import Derived.Test.YthekdgnikkjpdaaGreatDoorOpne
import Derived.Test.YthekdgnikkjpdaaGreatDoorDeepw
import Derived.Lib.Hide
namespace Go.Proofs.YthekdgnikkjpdaaGreatDoor
open Go Go.RowKit Go.Sort
def regionOfW (k : Nat) : Code → Option Code
  | .region n ops d => if n == k then some (.region n ops d) else none
  | .seq a b => match regionOfW k a with
    | some c => some c
    | none => regionOfW k b
  | .block _ c => regionOfW k c
  | .scope c => regionOfW k c
  | .loop c => regionOfW k c
  | .cond _ a b => match regionOfW k a with
    | some c => some c
    | none => regionOfW k b
  | _ => none
set_option maxHeartbeats 8000000 in
set_option maxRecDepth 100000 in
theorem reg14w (gA gB : Nat) (x0 x4 y0 y4 ws av : ByteArray) (x1 x5 y1 y5 : Option Addr) (x2 x3 x6 x7 y2 y3 y6 y7 : Nat) (wf : Int) (ok r s : Bool) (w : World) {v0 v1 v2 v5 v6 v15 v16 v17 v18 v19 v20 v21 v22 v23 v24 v25 v26 v27 v28 v29 v30 v31 v32 v33 v34 v35 v36 v37 v38 v39 v40 v41 v42 v43 v44 v45 v46 v47 v48 v49 v50 v51 v52 v53 v54 v55 v56 v57 v58 v59 v60 v61 v62 v63 v64 v65 v66 v67 v68 v69 v70 v71 v72 v73 v74 v75 v76 v77 v78 v79 v80 v81 v82 v83 v84 v85 v86 v87 v88 v89 v90 v91 v92 v93 v94 v95 v96 v97 v98 : Value}
    (a0 : w.cell? ⟨gA, 0, none⟩ = some (.string x0)) (a1 : w.cell? ⟨gA, 1, none⟩ = some (.slice x1 x2 x3)) (a2 : w.cell? ⟨gA, 2, none⟩ = some (.string x4)) (a3 : w.cell? ⟨gA, 3, none⟩ = some (.slice x5 x6 x7)) (b0 : w.cell? ⟨gB, 0, none⟩ = some (.string y0)) (b1 : w.cell? ⟨gB, 1, none⟩ = some (.slice y1 y2 y3)) (b2 : w.cell? ⟨gB, 2, none⟩ = some (.string y4)) (b3 : w.cell? ⟨gB, 3, none⟩ = some (.slice y5 y6 y7))
    (H9 : ∀ W, Below w.heap.size w W → Calls Tryz.prog 9 #[.agg #[.string x0, .slice x1 x2 x3, .string x4, .slice x5 x6 x7]] W fun e w' => e = .returned (.bool r) ∧ Below W.heap.size W w') (H10 : ∀ W, Below w.heap.size w W → Calls Tryz.prog 10 #[.agg #[.string x0, .slice x1 x2 x3, .string x4, .slice x5 x6 x7]] W fun e w' => e = .returned (.bool r) ∧ Below W.heap.size W w') (HAB : ∀ W, Below w.heap.size w W → Calls Tryz.prog 11 #[.agg #[.string x0, .slice x1 x2 x3, .string x4, .slice x5 x6 x7], .agg #[.string y0, .slice y1 y2 y3, .string y4, .slice y5 y6 y7]] W fun e w' => e = .returned (.bool s) ∧ Below W.heap.size W w')
    (H12 : ∀ W, Below w.heap.size w W → Calls Tryz.prog 12 #[.agg #[.string x0, .slice x1 x2 x3, .string x4, .slice x5 x6 x7], .agg #[.string y0, .slice y1 y2 y3, .string y4, .slice y5 y6 y7]] W fun e w' => e = .returned (.bool s) ∧ Below W.heap.size W w') (HAA : ∀ W, Below w.heap.size w W → Calls Tryz.prog 11 #[.agg #[.string x0, .slice x1 x2 x3, .string x4, .slice x5 x6 x7], .agg #[.string x0, .slice x1 x2 x3, .string x4, .slice x5 x6 x7]] W fun e w' => e = .returned (.bool true) ∧ Below W.heap.size W w')
    (K : Act → World → Prop) (Q0 : Exit → Act → World → Prop)
    (hK : ∀ (u60 u61 u62 u63 u64 u65 u66 u67 u68 u69 u70 u71 u72 u73 u74 u75 u76 u77 u78 u79 u80 u81 u82 u83 u84 u85 u86 u87 u88 u89 u90 u91 u92 u93 u94 u95 u96 u97 u98 : Value) (w' : World), Below w.heap.size w w' → K ⟨#[v0, v1, v2, .pointer (some ⟨gA, 0, none⟩), .pointer (some ⟨gB, 0, none⟩), v5, .bool true, .string ws, .int .i64 wf, .string ws, .int .i64 wf, .string av, .bool ok, .string av, .bool ok, v15, v16, v17, v18, v19, v20, v21, v22, v23, v24, v25, v26, v27, v28, v29, v30, v31, v32, v33, v34, v35, v36, v37, v38, v39, v40, v41, v42, v43, v44, v45, v46, v47, v48, v49, v50, v51, v52, v53, v54, v55, v56, v57, v58, v59, u60, u61, u62, u63, u64, u65, u66, u67, u68, u69, u70, u71, u72, u73, u74, u75, u76, u77, u78, u79, u80, u81, u82, u83, u84, u85, u86, u87, u88, u89, u90, u91, u92, u93, u94, u95, u96, u97, u98], []⟩ w') :
    Code.wp Tryz.prog ((Tryz.f3.body.bind (regionOfW 14)).getD .skip) (Exit.then K Q0) ⟨#[v0, v1, v2, .pointer (some ⟨gA, 0, none⟩), .pointer (some ⟨gB, 0, none⟩), v5, v6, .string ws, .int .i64 wf, .string ws, .int .i64 wf, .string av, .bool ok, .string av, .bool ok, v15, v16, v17, v18, v19, v20, v21, v22, v23, v24, v25, v26, v27, v28, v29, v30, v31, v32, v33, v34, v35, v36, v37, v38, v39, v40, v41, v42, v43, v44, v45, v46, v47, v48, v49, v50, v51, v52, v53, v54, v55, v56, v57, v58, v59, v60, v61, v62, v63, v64, v65, v66, v67, v68, v69, v70, v71, v72, v73, v74, v75, v76, v77, v78, v79, v80, v81, v82, v83, v84, v85, v86, v87, v88, v89, v90, v91, v92, v93, v94, v95, v96, v97, v98], []⟩ w := by
  conv => arg 2; whnf
  have HKK : Hid _ := hK
  have c9 : ∀ d os, Calls Tryz.prog 9 #[.agg #[.string x0, .slice x1 x2 x3, .string x4, .slice x5 x6 x7]] (grow (redrawn w d) os) fun e w'' => e = .returned (.bool r) ∧ ∃ p : Regrown, w'' = grow (redrawn w p.d) p.os := fun d os => Calls.regrown_of (H9 _ (below_regrown w d os))
  have c10 : ∀ d os, Calls Tryz.prog 10 #[.agg #[.string x0, .slice x1 x2 x3, .string x4, .slice x5 x6 x7]] (grow (redrawn w d) os) fun e w'' => e = .returned (.bool r) ∧ ∃ p : Regrown, w'' = grow (redrawn w p.d) p.os := fun d os => Calls.regrown_of (H10 _ (below_regrown w d os))
  have cAB : ∀ d os, Calls Tryz.prog 11 #[.agg #[.string x0, .slice x1 x2 x3, .string x4, .slice x5 x6 x7], .agg #[.string y0, .slice y1 y2 y3, .string y4, .slice y5 y6 y7]] (grow (redrawn w d) os) fun e w'' => e = .returned (.bool s) ∧ ∃ p : Regrown, w'' = grow (redrawn w p.d) p.os := fun d os => Calls.regrown_of (HAB _ (below_regrown w d os))
  have c12 : ∀ d os, Calls Tryz.prog 12 #[.agg #[.string x0, .slice x1 x2 x3, .string x4, .slice x5 x6 x7], .agg #[.string y0, .slice y1 y2 y3, .string y4, .slice y5 y6 y7]] (grow (redrawn w d) os) fun e w'' => e = .returned (.bool s) ∧ ∃ p : Regrown, w'' = grow (redrawn w p.d) p.os := fun d os => Calls.regrown_of (H12 _ (below_regrown w d os))
  have cAA : ∀ d os, Calls Tryz.prog 11 #[.agg #[.string x0, .slice x1 x2 x3, .string x4, .slice x5 x6 x7], .agg #[.string x0, .slice x1 x2 x3, .string x4, .slice x5 x6 x7]] (grow (redrawn w d) os) fun e w'' => e = .returned (.bool true) ∧ ∃ p : Regrown, w'' = grow (redrawn w p.d) p.os := fun d os => Calls.regrown_of (HAA _ (below_regrown w d os))
  have k0 := cell_regrown a0
  have k1 := cell_regrown a1
  have k2 := cell_regrown a2
  have k3 := cell_regrown a3
  have l0 := cell_regrown b0
  have l1 := cell_regrown b1
  have l2 := cell_regrown b2
  have l3 := cell_regrown b3
  clear hK H9 H10 HAB H12 HAA a0 a1 a2 a3 b0 b1 b2 b3
  refine wp_region_quiet_below (by kernel_rfl) (by kernel_rfl) ?_
  repeat (quiet_step (first | (go_at_call 9; exact c9 _ _) | (go_at_call 10; exact c10 _ _) | (go_at_call 12; exact c12 _ _) | (go_at_call_of 11 (y0); exact cAB _ _) | (go_at_call 11; exact cAA _ _)))
  refine wpQuiet_nil ?_
  intro _ hw'
  obtain ⟨⟨dq, osq⟩, hw''⟩ := hw'
  subst hw''
  exact HKK.out _ _ _ _ _ _ _ _ _ _ _ _ _ _ _ _ _ _ _ _ _ _ _ _ _ _ _ _ _ _ _ _ _ _ _ _ _ _ _ _ (below_regrown w dq osq)
end Go.Proofs.YthekdgnikkjpdaaGreatDoor

/-
  The walk of the statement TreesWrite over this program: its region of the two cuts, which draws its order; what the cuts leave.
-/
namespace Go.Proofs.YthekdgnikkjpdaaGreatDoor
open Go Go.RowKit
def regionOfV (k : Nat) : Code → Option Code
  | .region n ops d => if n == k then some (.region n ops d) else none
  | .seq a b => match regionOfV k a with
    | some c => some c
    | none => regionOfV k b
  | .block _ c => regionOfV k c
  | .scope c => regionOfV k c
  | .loop c => regionOfV k c
  | .cond _ a b => match regionOfV k a with
    | some c => some c
    | none => regionOfV k b
  | _ => none
/-- Two boxed elements, in the blocks H and H + 1. -/
def TwoE (H : Nat) (e f : El) (W : World) : Prop := ∃ (a1 : Option Addr) (a2 a3 : Nat) (a4 : Option Addr) (a5 a6 : Nat) (b1 : Option Addr) (b2 b3 : Nat) (b4 : Option Addr) (b5 b6 : Nat),
  At H #[.string ⟨e.nm.toArray⟩, .slice a1 a2 a3, .string ⟨e.text.toArray⟩, .slice a4 a5 a6] 25 W ∧ At (H + 1) #[.string ⟨f.nm.toArray⟩, .slice b1 b2 b3, .string ⟨f.text.toArray⟩, .slice b4 b5 b6] 25 W ∧ ElE (fun k => k < H ∨ H + 2 ≤ k) W e (.string ⟨e.nm.toArray⟩) (.slice a1 a2 a3) (.string ⟨e.text.toArray⟩) (.slice a4 a5 a6) ∧ ElE (fun k => k < H ∨ H + 2 ≤ k) W f (.string ⟨f.nm.toArray⟩) (.slice b1 b2 b3) (.string ⟨f.text.toArray⟩) (.slice b4 b5 b6)
def wrt4 (w : World) (g : Nat) (a b c d : Value) : World := (((w.setCell ⟨g, 0, none⟩ a).setCell ⟨g, 1, none⟩ b).setCell ⟨g, 2, none⟩ c).setCell ⟨g, 3, none⟩ d
theorem wrt4_at {w : World} {g : Nat} {x0 x1 x2 x3 a b c d : Value} (h : At g #[x0, x1, x2, x3] 25 w) : At g #[a, b, c, d] 25 (wrt4 w g a b c d) := (((h.set 0 _).set 1 _).set 2 _).set 3 _
theorem wrt4_other (w : World) (g j : Nat) (a b c d : Value) (hne : j ≠ g) : (wrt4 w g a b c d).heap[j]? = w.heap[j]? := by
  unfold wrt4
  rw [Below.heap_setCell _ _ _ j hne, Below.heap_setCell _ _ _ j hne, Below.heap_setCell _ _ _ j hne, Below.heap_setCell _ _ _ j hne]
theorem wrt4_below {B : Nat} {w0 w : World} (g : Nat) (a b c d : Value) (h : Below B w0 w) (hg : B ≤ g) : Below B w0 (wrt4 w g a b c d) := (((h.setCell hg _).setCell hg _).setCell hg _).setCell hg _
theorem two_set {H : Nat} {e f : El} {w0 w : World} {x0 x1 x2 x3 y0 y1 y2 y3 : Value} {a1 a4 b1 b4 : Option Addr} {a2 a3 a5 a6 b2 b3 b5 b6 : Nat} (hA : At H #[x0, x1, x2, x3] 25 w) (hB : At (H + 1) #[y0, y1, y2, y3] 25 w)
    (hE : ElE (fun k => k < H ∨ H + 2 ≤ k) w e (.string ⟨e.nm.toArray⟩) (.slice a1 a2 a3) (.string ⟨e.text.toArray⟩) (.slice a4 a5 a6)) (hF : ElE (fun k => k < H ∨ H + 2 ≤ k) w f (.string ⟨f.nm.toArray⟩) (.slice b1 b2 b3) (.string ⟨f.text.toArray⟩) (.slice b4 b5 b6)) (hb : Below H w0 w) :
    TwoE H e f (wrt4 (wrt4 w H (.string ⟨e.nm.toArray⟩) (.slice a1 a2 a3) (.string ⟨e.text.toArray⟩) (.slice a4 a5 a6)) (H + 1) (.string ⟨f.nm.toArray⟩) (.slice b1 b2 b3) (.string ⟨f.text.toArray⟩) (.slice b4 b5 b6)) ∧
    Below H w0 (wrt4 (wrt4 w H (.string ⟨e.nm.toArray⟩) (.slice a1 a2 a3) (.string ⟨e.text.toArray⟩) (.slice a4 a5 a6)) (H + 1) (.string ⟨f.nm.toArray⟩) (.slice b1 b2 b3) (.string ⟨f.text.toArray⟩) (.slice b4 b5 b6)) := by
  have hk : ∀ k, (k < H ∨ H + 2 ≤ k) → k < w.heap.size → (k < H ∨ H + 2 ≤ k) ∧ (wrt4 (wrt4 w H (.string ⟨e.nm.toArray⟩) (.slice a1 a2 a3) (.string ⟨e.text.toArray⟩) (.slice a4 a5 a6)) (H + 1) (.string ⟨f.nm.toArray⟩) (.slice b1 b2 b3) (.string ⟨f.text.toArray⟩) (.slice b4 b5 b6)).heap[k]? = w.heap[k]? := fun k hk _ =>
    ⟨hk, (wrt4_other _ _ k _ _ _ _ (by omega)).trans (wrt4_other _ _ k _ _ _ _ (by omega))⟩
  refine ⟨⟨a1, a2, a3, a4, a5, a6, b1, b2, b3, b4, b5, b6, ?_, ?_, hE.step hk, hF.step hk⟩, wrt4_below _ _ _ _ _ (wrt4_below _ _ _ _ _ hb (Nat.le_refl _)) (by omega)⟩
  · exact (wrt4_other _ _ H _ _ _ _ (by omega)).trans (wrt4_at hA)
  · exact wrt4_at ((wrt4_other _ _ (H + 1) _ _ _ _ (by omega)).trans hB)
set_option maxHeartbeats 8000000 in
set_option maxRecDepth 100000 in
theorem reg3w (H : Nat) (e f : El) (w0 : World) (x0 x4 y0 y4 : ByteArray) (x1 x5 y1 y5 : Option Addr) (x2 x3 x6 x7 y2 y3 y6 y7 : Nat) (w : World) {v0 v1 v2 v5 v6 v7 v8 v9 v10 v11 v12 v13 v14 v15 v16 v17 v18 v19 v20 v21 v22 v23 v24 v25 v26 v27 v28 v29 v30 v31 v32 v33 v34 v35 v36 v37 v38 v39 v40 v41 v42 v43 v44 v45 v46 v47 v48 v49 v50 v51 v52 v53 v54 v55 v56 v57 v58 v59 v60 v61 v62 v63 v64 v65 v66 v67 v68 v69 v70 v71 v72 v73 v74 v75 v76 v77 v78 v79 v80 v81 v82 v83 v84 v85 v86 v87 v88 v89 v90 v91 v92 v93 v94 v95 v96 v97 v98 : Value}
    (hA : At H #[.string x0, .slice x1 x2 x3, .string x4, .slice x5 x6 x7] 25 w) (hB : At (H + 1) #[.string y0, .slice y1 y2 y3, .string y4, .slice y5 y6 y7] 25 w) (hb0 : Below H w0 w)
    (HA : ∀ W, Below w.heap.size w W → Calls Tryz.prog 5 #[.agg #[.string x0, .slice x1 x2 x3, .string x4, .slice x5 x6 x7], .int .i64 1] W fun e' w' => CutRes H W.heap.size e e' w' ∧ Below W.heap.size W w')
    (HB : ∀ W, Below w.heap.size w W → Calls Tryz.prog 5 #[.agg #[.string y0, .slice y1 y2 y3, .string y4, .slice y5 y6 y7], .int .i64 1] W fun e' w' => CutRes H W.heap.size f e' w' ∧ Below W.heap.size W w')
    (K : Act → World → Prop) (Q0 : Exit → Act → World → Prop)
    (hK : ∀ (u18 u19 u20 u21 : Value) (w' : World), TwoE H e f w' → Below H w0 w' → K ⟨#[v0, v1, v2, .pointer (some ⟨H, 0, none⟩), .pointer (some ⟨H + 1, 0, none⟩), v5, v6, v7, v8, v9, v10, v11, v12, v13, v14, v15, v16, v17, u18, u19, u20, u21, v22, v23, v24, v25, v26, v27, v28, v29, v30, v31, v32, v33, v34, v35, v36, v37, v38, v39, v40, v41, v42, v43, v44, v45, v46, v47, v48, v49, v50, v51, v52, v53, v54, v55, v56, v57, v58, v59, v60, v61, v62, v63, v64, v65, v66, v67, v68, v69, v70, v71, v72, v73, v74, v75, v76, v77, v78, v79, v80, v81, v82, v83, v84, v85, v86, v87, v88, v89, v90, v91, v92, v93, v94, v95, v96, v97, v98], []⟩ w') :
    Code.wp Tryz.prog ((Tryz.f3.body.bind (regionOfV 3)).getD .skip) (Exit.then K Q0) ⟨#[v0, v1, v2, .pointer (some ⟨H, 0, none⟩), .pointer (some ⟨H + 1, 0, none⟩), v5, v6, v7, v8, v9, v10, v11, v12, v13, v14, v15, v16, v17, v18, v19, v20, v21, v22, v23, v24, v25, v26, v27, v28, v29, v30, v31, v32, v33, v34, v35, v36, v37, v38, v39, v40, v41, v42, v43, v44, v45, v46, v47, v48, v49, v50, v51, v52, v53, v54, v55, v56, v57, v58, v59, v60, v61, v62, v63, v64, v65, v66, v67, v68, v69, v70, v71, v72, v73, v74, v75, v76, v77, v78, v79, v80, v81, v82, v83, v84, v85, v86, v87, v88, v89, v90, v91, v92, v93, v94, v95, v96, v97, v98], []⟩ w := by
  conv => arg 2; whnf
  have HKK : Hid _ := hK
  have HHA : Hid _ := hA
  have HHB : Hid _ := hB
  have HB0 : Hid _ := hb0
  have zA := lt_of_heap hA
  have zB := lt_of_heap hB
  obtain ⟨a0, a1, a2, a3⟩ := el4 hA
  obtain ⟨b0, b1, b2, b3⟩ := el4 hB
  have WL : Hid (∀ W' : World, w.heap.size ≤ W'.heap.size → H + 2 ≤ W'.heap.size) := fun W' h => by omega
  clear hK hA hB hb0
  go_region_with (first
    | (go_at_call_of 5 (x0); refine (HA _ ?_).mono ?_; exact Below.drew (Below.refl _ _); rintro ee w2 ⟨⟨p1, p2, p3, p4, p5, p6, rfl, hp, hpn, hpm⟩, hb2⟩; have HP : Hid _ := hp; have HQ2 : Hid (Below w.heap.size w w2) := (Below.refl _ w).drew.trans hb2; have b0' := (HQ2.out.cell (p := ⟨H + 1, 0, none⟩) zB).trans b0; have b1' := (HQ2.out.cell (p := ⟨H + 1, 1, none⟩) zB).trans b1; have b2' := (HQ2.out.cell (p := ⟨H + 1, 2, none⟩) zB).trans b2; have b3' := (HQ2.out.cell (p := ⟨H + 1, 3, none⟩) zB).trans b3; clear hp hb2 hpn hpm)
    | (go_at_call_of 5 (y0); refine (HB _ HQ2.out).mono ?_; rintro ee w3 ⟨⟨q1, q2, q3, q4, q5, q6, rfl, hq, hqn, hqm⟩, hb3⟩; have HQ : Hid _ := hq; have HQ3 : Hid (Below _ _ _) := hb3; have hbb : Below w.heap.size w w3 := HQ2.out.trans (HQ3.out.mono HQ2.out.size); have hA3 := At.below HHA.out hbb zA; have hB3 := At.below HHB.out hbb zB; obtain ⟨g0, g1, g2, g3⟩ := el4 hA3; obtain ⟨g4, g5, g6, g7⟩ := el4 hB3; have fA : ∀ o, w3.frozen? ⟨H, o, none⟩ = false := Lib.frozen_of_heap hA3; have fB : ∀ o, w3.frozen? ⟨H + 1, o, none⟩ = false := Lib.frozen_of_heap hB3; have HA3 : Hid _ := hA3; have HB3 : Hid _ := hB3; have HBB : Hid _ := hbb; clear hq hb3 hqn hqm hA3 hB3 hbb))
  all_goals (
    have s2 := WL.out w2 HQ2.out.size
    have hE := ElE.step (P' := fun k => k < H ∨ H + 2 ≤ k) (w' := w3) (fun k hk _ => ⟨hk.imp id (fun h => Nat.le_trans (WL.out _ (Nat.le_refl _)) h), rfl⟩) (ElE.step (row_below HQ3.out) HP.out)
    have hF := ElE.step (P' := fun k => k < H ∨ H + 2 ≤ k) (w' := w3) (fun k hk _ => ⟨hk.imp id (fun h => Nat.le_trans s2 h), rfl⟩) HQ.out
    obtain ⟨t1, t2⟩ := two_set (w0 := w0) HA3.out HB3.out hE hF (HB0.out.trans (HBB.out.mono (Nat.le_trans (Nat.le_succ_of_le (Nat.le_refl _)) (Nat.le_of_lt zB))))
    exact HKK.out _ _ _ _ _ t1 t2)
end Go.Proofs.YthekdgnikkjpdaaGreatDoor

/-
  The walk of the statement TreesWrite over this program.
-/
namespace Go.Proofs.YthekdgnikkjpdaaGreatDoor
open Go Go.RowKit
theorem small_cut : ∀ (r : Nat) (top : Bool) (n : Nat) (e : El), (∀ n, smallE n e) → smallE n (cutE r top e)
  | _, _, 0, _, _ => trivial
  | 0, _, n + 1, e, h => by
    obtain ⟨h1, h2, h3, _, _⟩ := h (n + 1)
    refine ⟨?_, ?_, fun p hp => h3 p (List.mem_of_mem_take hp), Nat.zero_le _, fun k hk => by cases hk⟩
    · show (e.text.take 40).length ≤ _
      rw [List.length_take]; omega
    · show (e.attrs.take 8).length ≤ _
      rw [List.length_take]; omega
  | r + 1, top, n + 1, e, h => by
    obtain ⟨h1, h2, h3, h4, h5⟩ := h (n + 1)
    refine ⟨?_, ?_, fun p hp => h3 p (List.mem_of_mem_take hp), ?_, fun k hk => ?_⟩
    · show (e.text.take 40).length ≤ _
      rw [List.length_take]; omega
    · show (e.attrs.take 8).length ≤ _
      rw [List.length_take]; omega
    · show ((e.kids.take (if top then 18 else 3)).map (cutE r false)).length ≤ _
      rw [List.length_map, List.length_take]; omega
    · obtain ⟨q, hq, rfl⟩ := List.mem_map.1 hk
      exact small_cut r false n q fun j => (h (j + 1)).2.2.2.2 q (List.mem_of_mem_take hq)
theorem nm_cut : ∀ (r : Nat) (top : Bool) (n : Nat) (e : El), (∀ n, nmE n e) → nmE n (cutE r top e)
  | _, _, 0, _, _ => trivial
  | 0, _, n + 1, e, h => ⟨(h (n + 1)).1, fun k hk => by cases hk⟩
  | r + 1, top, n + 1, e, h => by
    refine ⟨(h (n + 1)).1, fun k hk => ?_⟩
    obtain ⟨q, hq, rfl⟩ := List.mem_map.1 hk
    exact nm_cut r false n q fun j => (h (j + 1)).2 q (List.mem_of_mem_take hq)
theorem deep_cut : ∀ (r : Nat) (top : Bool) (e : El), deepN (r + 1) (cutE r top e)
  | 0, _, _ => fun k hk => by cases hk
  | r + 1, top, e => fun k hk => by
    obtain ⟨q, _, rfl⟩ := List.mem_map.1 hk
    exact deep_cut r false q
theorem len_small : ∀ (n : Nat) (e : El), smallE n e → lenE n e
  | 0, _, _ => trivial
  | n + 1, e, h => ⟨Nat.le_trans h.2.1 (by decide), Nat.le_trans h.2.2.2.1 (by decide), fun k hk => len_small n k (h.2.2.2.2 k hk)⟩
theorem kids_in {R R' : El → Value → Value → Value → Value → Prop} : ∀ {l : List El} {xs : List Value}, (∀ k ∈ l, ∀ a b c d, R k a b c d → R' k a b c d) → KidsAt R l xs → KidsAt R' l xs
  | [], _, _, h => h
  | k :: l, _, hm, ⟨a, b, c, d, ys, e, k1, k2⟩ => ⟨a, b, c, d, ys, e, hm k (by simp) _ _ _ _ k1, kids_in (fun k' hk => hm k' (by simp [hk])) k2⟩
theorem elAt_deep {P : Nat → Prop} {w : World} : ∀ (n m : Nat) (e : El) (a b c d : Value), deepN n e → ElAt P w m e a b c d → ElAt P w n e a b c d
  | 0, _, _, _, _, _, _, h, _ => h.elim
  | _ + 1, 0, _, _, _, _, _, _, h => h.elim
  | n + 1, m + 1, _, _, _, _, _, hd, ⟨q1, q2, q3, xs, q4, q5⟩ => ⟨q1, q2, q3, xs, q4, kids_in (fun x hx a b c d h => elAt_deep n m x a b c d (hd x hx) h) q5⟩
set_option maxHeartbeats 2000000 in
set_option maxRecDepth 100000 in
theorem write_walk (m1 m2 : Nat) (e0 f0 : El) (nm : List UInt8) (x1 x4 y1 y4 : Option Addr) (x2 x3 x5 x6 y2 y3 y5 y6 : Nat) (w : World) (hT : Tabs w) (hsm : ∀ n, smallE n e0 ∧ nmE n e0) (hsm' : ∀ n, smallE n f0 ∧ nmE n f0)
    (hE0 : ElAt (fun k => k < w.heap.size) w m1 e0 (.string ⟨e0.nm.toArray⟩) (.slice x1 x2 x3) (.string ⟨e0.text.toArray⟩) (.slice x4 x5 x6)) (hcap : CapE w 6 (.slice x1 x2 x3) (.slice x4 x5 x6))
    (hF0 : ElAt (fun k => k < w.heap.size) w m2 f0 (.string ⟨f0.nm.toArray⟩) (.slice y1 y2 y3) (.string ⟨f0.text.toArray⟩) (.slice y4 y5 y6)) (hcap' : CapE w 6 (.slice y1 y2 y3) (.slice y4 y5 y6)) :
    Calls Tryz.prog 3 #[.agg #[.string ⟨e0.nm.toArray⟩, .slice x1 x2 x3, .string ⟨e0.text.toArray⟩, .slice x4 x5 x6], .agg #[.string ⟨f0.nm.toArray⟩, .slice y1 y2 y3, .string ⟨f0.text.toArray⟩, .slice y4 y5 y6], .string ⟨nm.toArray⟩] w fun e w' => e = .returned (.bool true) ∧ Below w.heap.size w w' := by
  have hT3 := hT.size
  have HT : Hid (Tabs w) := hT
  have HLV := fun W (hb : Below w.heap.size w W) => livesT_any W (HT.out.below hT3 hb)
  have HCA := fun W (hb : Below w.heap.size w W) => cutEl_any w.heap.size 5 true 1 m1 e0 x1 x4 x2 x5 x3 x6 W rfl (Nat.le_refl _) rfl hb.size (hE0.step (row_below hb)) (hcap.below hb)
  have HCB := fun W (hb : Below w.heap.size w W) => cutEl_any w.heap.size 5 true 1 m2 f0 y1 y4 y2 y5 y3 y6 W rfl (Nat.le_refl _) rfl hb.size (hF0.step (row_below hb)) (hcap'.below hb)
  have HSE : Hid (∀ n, smallE n (cutE 5 true e0) ∧ nmE n (cutE 5 true e0)) := fun n => ⟨small_cut 5 true n e0 fun j => (hsm j).1, nm_cut 5 true n e0 fun j => (hsm j).2⟩
  have HSF : Hid (∀ n, smallE n (cutE 5 true f0) ∧ nmE n (cutE 5 true f0)) := fun n => ⟨small_cut 5 true n f0 fun j => (hsm' j).1, nm_cut 5 true n f0 fun j => (hsm' j).2⟩
  have HDE : Hid (deepN 6 (cutE 5 true e0)) := deep_cut 5 true e0
  have HDF : Hid (deepN 6 (cutE 5 true f0)) := deep_cut 5 true f0
  obtain ⟨e, he⟩ : ∃ e, cutE 5 true e0 = e := ⟨_, rfl⟩
  obtain ⟨f, hf⟩ : ∃ f, cutE 5 true f0 = f := ⟨_, rfl⟩
  rw [he] at HCA HSE HDE
  rw [hf] at HCB HSF HDF
  obtain ⟨z1, hz1⟩ : ∃ t : ByteArray, (⟨e0.nm.toArray⟩ : ByteArray) = t := ⟨_, rfl⟩
  obtain ⟨z2, hz2⟩ : ∃ t : ByteArray, (⟨e0.text.toArray⟩ : ByteArray) = t := ⟨_, rfl⟩
  obtain ⟨z3, hz3⟩ : ∃ t : ByteArray, (⟨f0.nm.toArray⟩ : ByteArray) = t := ⟨_, rfl⟩
  obtain ⟨z4, hz4⟩ : ∃ t : ByteArray, (⟨f0.text.toArray⟩ : ByteArray) = t := ⟨_, rfl⟩
  obtain ⟨N, hN⟩ : ∃ N, (⟨nm.toArray⟩ : ByteArray) = N := ⟨_, rfl⟩
  rw [hz1, hz2] at HCA ⊢
  rw [hz3, hz4] at HCB ⊢
  rw [hN]
  have HNN : Hid ((⟨nm.toArray⟩ : ByteArray) = N) := hN
  have hbo : ∀ o1 o2 : Obj, Below w.heap.size w ((w.alloc o1).alloc o2) := fun o1 o2 => ((Below.refl _ _).alloc (Nat.le_refl _) o1).alloc (by simp) o2
  have hsz : ∀ o1 : Obj, (w.alloc o1).heap.size = w.heap.size + 1 := fun o1 => by simp
  clear hT he hf hz1 hz2 hz3 hz4 hN hE0 hF0 hcap hcap' hsm hsm'
  go_enter Tryz.func3, Tryz.ntmps3
  go_wp2_with (go_at_call 4; refine (HLV _ (hbo _ _)).mono ?_; rintro ee w1 ⟨rfl, hb1⟩; have HB1 : Hid (Below _ _ w1) := hb1; refine Hid.out ?_)
  refine Lib.hid ?_
  have hbw1 : Below w.heap.size w w1 := (hbo (.cells #[.string z1, .slice x1 x2 x3, .string z2, .slice x4 x5 x6] 25) (.cells #[.string z3, .slice y1 y2 y3, .string z4, .slice y4 y5 y6] 25)).trans (HB1.out.mono (hbo _ _).size)
  have hA1 : At w.heap.size #[.string z1, .slice x1 x2 x3, .string z2, .slice x4 x5 x6] 25 w1 := At.below (At.alloc (heap_alloc_new w _) _) HB1.out (by simp; omega)
  have hB1 : At (w.heap.size + 1) #[.string z3, .slice y1 y2 y3, .string z4, .slice y4 y5 y6] 25 w1 := by
    refine At.below ?_ HB1.out (by simp)
    have h := heap_alloc_new (w.alloc (.cells #[.string z1, .slice x1 x2 x3, .string z2, .slice x4 x5 x6] 25)) (.cells #[.string z3, .slice y1 y2 y3, .string z4, .slice y4 y5 y6] 25)
    rw [hsz] at h
    exact h
  clear hb1 HLV
  go_wp2_with fail
  refine reg3w w.heap.size e f w z1 z2 z3 z4 x1 x4 y1 y4 x2 x3 x5 x6 y2 y3 y5 y6 w1 hA1 hB1 hbw1 (fun W hb => HCA W (hbw1.trans (hb.mono hbw1.size))) (fun W hb => HCB W (hbw1.trans (hb.mono hbw1.size))) _ _ (fun u18 u19 u20 u21 w2 hT2 hb2 => ?_)
  obtain ⟨H, hH⟩ : ∃ H, w.heap.size = H := ⟨_, rfl⟩
  obtain ⟨a1, a2, a3, a4, a5, a6, b1, b2, b3, b4, b5, b6, hA2, hB2, hE2, hF2⟩ := hT2
  have HW2 : Hid (Below w.heap.size w w2) := hb2
  have hTB2 : ∀ W, Below w2.heap.size w2 W → Tabs W := fun W hb => HT.out.below hT3 (HW2.out.trans (hb.mono HW2.out.size))
  have l0 : a2 = e.attrs.length := by obtain ⟨_, hR, _, _⟩ := hE2.parts; obtain ⟨_, _, q, _⟩ := hR; exact (Value.slice.inj q).2.1
  obtain ⟨n1, hn1⟩ : ∃ n1, n1 = a2 := ⟨_, rfl⟩
  obtain ⟨mE, hEm⟩ := id hE2
  obtain ⟨mF, hFm⟩ := id hF2
  have hE6 := elAt_deep 6 mE e _ _ _ _ HDE.out hEm
  have hF6 := elAt_deep 6 mF f _ _ _ _ HDF.out hFm
  obtain ⟨wl, wf, hwl⟩ : ∃ wl wf, writeN e = (wl, wf) := ⟨_, _, rfl⟩
  obtain ⟨ws, hws⟩ : ∃ t : ByteArray, (⟨wl.toArray⟩ : ByteArray) = t := ⟨_, rfl⟩
  obtain ⟨av, hav⟩ : ∃ t : ByteArray, atV (attrF nm e.attrs) = t := ⟨_, rfl⟩
  obtain ⟨ok, hok⟩ : ∃ t : Bool, (attrF nm e.attrs).isSome = t := ⟨_, rfl⟩
  have hl8 : e.attrs.length ≤ 2000000 := (HSE.out 1).1.2.1
  have H6 := fun W (hb : Below w2.heap.size w2 W) => write_any mE e _ _ _ _ _ _ _ _ W (hTB2 W hb) (HSE.out 4).1 (hEm.step (row_below hb))
  have H7 := fun W (hb : Below w2.heap.size w2 W) => refWrite_any e _ _ _ _ W (fun m => (HSE.out m).1) (fun m => (HSE.out m).2) (ElE.step (row_below hb) hE2)
  have H8 := fun W (hb : Below w2.heap.size w2 W) => attr_any e nm _ _ _ _ W (ElE.step (row_below hb) hE2) (by omega) av ok hav hok
  have H9 := fun W (hb : Below w2.heap.size w2 W) => rightEl_any mE e _ _ _ _ _ _ _ _ W (hTB2 W hb) (HSE.out 4).1 (hEm.step (row_below hb))
  have H10 := fun W (hb : Below w2.heap.size w2 W) => refRightT_any e _ _ _ _ W (HSE.out 4).1 (HSE.out 4).2 (ElE.step (row_below hb) hE2) (rightE 4 e) rfl
  have H11 := fun W (hb : Below w2.heap.size w2 W) => same_any 6 e f _ _ _ _ _ _ _ _ _ _ _ _ _ _ _ _ W (HSE.out 6).1 (hE6.step (row_below hb)) (hF6.step (row_below hb))
  have H12 := fun W (hb : Below w2.heap.size w2 W) => refSame_any 6 e f _ _ _ _ _ _ _ _ W HDE.out (len_small 6 e (HSE.out 6).1) (len_small 6 f (HSF.out 6).1) (ElE.step (row_below hb) hE2) (ElE.step (row_below hb) hF2)
  have HAA := fun W (hb : Below w2.heap.size w2 W) => same_any 6 e e _ _ _ _ _ _ _ _ _ _ _ _ _ _ _ _ W (HSE.out 6).1 (hE6.step (row_below hb)) (hE6.step (row_below hb))
  rw [hwl] at H6 H7
  rw [same_self 6 6 _ w2 e _ _ _ _ hE6 (Nat.le_refl _)] at HAA
  rw [HNN.out] at H8
  obtain ⟨r, hr⟩ : ∃ r, rightE 4 e = r := ⟨_, rfl⟩
  obtain ⟨s, hs⟩ : ∃ s, sameE 6 e f = s := ⟨_, rfl⟩
  rw [hr] at H9 H10
  rw [hs] at H11 H12
  simp only [hws] at H6 H7
  obtain ⟨_, HR0, _, _⟩ := hE2.parts
  obtain ⟨s1, hs1⟩ : ∃ t : ByteArray, (⟨e.nm.toArray⟩ : ByteArray) = t := ⟨_, rfl⟩
  obtain ⟨s2, hs2⟩ : ∃ t : ByteArray, (⟨e.text.toArray⟩ : ByteArray) = t := ⟨_, rfl⟩
  obtain ⟨s3, hs3⟩ : ∃ t : ByteArray, (⟨f.nm.toArray⟩ : ByteArray) = t := ⟨_, rfl⟩
  obtain ⟨s4, hs4⟩ : ∃ t : ByteArray, (⟨f.text.toArray⟩ : ByteArray) = t := ⟨_, rfl⟩
  rw [hs1, hs2] at H6 H7 H8 H9 H10 HAA hA2
  rw [hs1, hs2, hs3, hs4] at H11 H12
  rw [hs3, hs4] at hB2
  have HC : Hid (∀ W, Below w2.heap.size w2 W → W.cell? ⟨w.heap.size, 0, none⟩ = some (.string s1) ∧ W.cell? ⟨w.heap.size, 1, none⟩ = some (.slice a1 a2 a3) ∧ W.cell? ⟨w.heap.size, 2, none⟩ = some (.string s2) ∧ W.cell? ⟨w.heap.size, 3, none⟩ = some (.slice a4 a5 a6) ∧ W.cell? ⟨w.heap.size + 1, 0, none⟩ = some (.string s3) ∧ W.cell? ⟨w.heap.size + 1, 1, none⟩ = some (.slice b1 b2 b3) ∧ W.cell? ⟨w.heap.size + 1, 2, none⟩ = some (.string s4) ∧ W.cell? ⟨w.heap.size + 1, 3, none⟩ = some (.slice b4 b5 b6)) := fun W hb => by
    obtain ⟨p0, p1, p2, p3⟩ := el4 (hA2.below hb (lt_of_heap hA2))
    obtain ⟨p4, p5, p6, p7⟩ := el4 (hB2.below hb (lt_of_heap hB2))
    exact ⟨p0, p1, p2, p3, p4, p5, p6, p7⟩
  rw [← l0] at HR0
  have R1 : Hid (Row _ _ (.slice a1 a2 a3) a2 (pairCells e.attrs)) := HR0
  have HN1 : Hid (a2 = e.attrs.length) := l0
  have HV : Hid (atV (attrF nm e.attrs) = av) := hav
  have HOK : Hid ((attrF nm e.attrs).isSome = ok) := hok
  have hn8 : a2 ≤ 2000000 := by rw [l0]; exact hl8
  rw [hH] at HC ⊢
  obtain ⟨c0, c1, c2, c3, c4, c5, c6, c7⟩ := HC.out w2 (Below.refl _ _)
  clear hwl hws hav hok hr hs hs1 hs2 hs3 hs4 hA2 hB2 hE2 hF2 hE6 hF6 hEm hFm HCA HCB hA1 hB1 hbw1 hb2 HB1 HR0 hl8 hn1 hTB2 hsz hbo l0
  have hwr : IntKind.i64.wrap ((a2 : Int) - 1) = (a2 : Int) - 1 := by simp only [IntKind.wrap_i64]; omega
  go_wp2_with (first
    | (go_at_call 6; refine (H6 _ (Below.refl _ _)).mono ?_; rintro ee w3 ⟨rfl, hb3⟩; have B3 : Hid (Below w2.heap.size w2 w3) := hb3; obtain ⟨c0', c1', c2', c3', _⟩ := HC.out w3 hb3; clear hb3)
    | (go_at_call 7; refine (H7 _ B3.out).mono ?_; rintro ee w4 ⟨rfl, hb4⟩; have B4 : Hid (Below w2.heap.size w2 w4) := B3.out.trans (hb4.mono B3.out.size); obtain ⟨d0, d1, d2, d3, _⟩ := HC.out w4 B4.out; clear hb4)
    | (go_at_call 8; refine (H8 _ B4.out).mono ?_; rintro ee w5 ⟨rfl, hb5⟩; have B5 : Hid (Below w2.heap.size w2 w5) := B4.out.trans (hb5.mono B4.out.size); obtain ⟨g0, g1, g2, g3, g4, g5, g6, g7⟩ := HC.out w5 B5.out; clear hb5))
  go_loop [13, 14, 15] (fun wv iv kv => ∃ j : Nat, j ≤ a2 ∧ kv = .int .i64 ((j : Int) - 1) ∧ wv = .string (atV (attrF nm (e.attrs.drop j))) ∧ iv = .bool (attrF nm (e.attrs.drop j)).isSome) (fun _ _ kv => (intOf kv + 1).toNat)
  case atStart =>
    refine ⟨a2, Nat.le_refl _, rfl, ?_, ?_⟩
    · rw [List.drop_of_length_le (by rw [HN1.out]; exact Nat.le_refl _)]; rfl
    · rw [List.drop_of_length_le (by rw [HN1.out]; exact Nat.le_refl _)]; rfl
  case round =>
    obtain ⟨j, hj, rfl, rfl, rfl⟩ := hrel
    cases j with
    | zero =>
      rw [show ((0 : Nat) : Int) - 1 = -1 from rfl, List.drop_zero, HV.out, HOK.out]
      go_wp2_with fail
      refine reg14w H (H + 1) s1 s2 s3 s4 ws av a1 a4 b1 b4 a2 a3 a5 a6 b2 b3 b5 b6 wf ok r s w5 g0 g1 g2 g3 g4 g5 g6 g7 (fun W hb => H9 W (B5.out.trans (hb.mono B5.out.size))) (fun W hb => H10 W (B5.out.trans (hb.mono B5.out.size))) (fun W hb => H11 W (B5.out.trans (hb.mono B5.out.size))) (fun W hb => H12 W (B5.out.trans (hb.mono B5.out.size))) (fun W hb => HAA W (B5.out.trans (hb.mono B5.out.size))) _ _ (fun u60 u61 u62 u63 u64 u65 u66 u67 u68 u69 u70 u71 u72 u73 u74 u75 u76 u77 u78 u79 u80 u81 u82 u83 u84 u85 u86 u87 u88 u89 u90 u91 u92 u93 u94 u95 u96 u97 u98 w6 hb6 => ?_)
      have hb7 : Below w.heap.size w w6 := HW2.out.trans ((B5.out.trans (hb6.mono B5.out.size)).mono HW2.out.size)
      rw [hH] at hb7
      have HB7 : Hid (Below H w w6) := hb7
      clear hb6 hb7
      go_wp2_with fail
      go_ret
      exact ⟨rfl, HB7.out⟩
    | succ i =>
      rw [show ((i + 1 : Nat) : Int) - 1 = (i : Int) by omega]
      obtain ⟨pr, hpr⟩ : ∃ pr, e.attrs[i]? = some pr := ⟨_, List.getElem?_eq_getElem (by rw [← HN1.out]; exact hj)⟩
      obtain ⟨k0, k1⟩ := pair_get e.attrs i pr hpr
      obtain ⟨ga, oa, rfl, hga, hca⟩ := row_flat2 R1.out k0
      have ca : ∀ i v, (pairCells e.attrs)[i]? = some v → w5.cell? ⟨ga, oa + i, none⟩ = some v := fun i v hv => (B5.out.cell (p := ⟨ga, oa + i, none⟩) hga).trans (hca i v hv)
      have q0 := ca _ _ k0
      have q1 := ca _ _ k1
      rw [← Nat.add_assoc] at q1
      have hi0 : (0 : Int) ≤ (i : Int) := by omega
      have hi1 : (i : Int) < (a2 : Int) := by omega
      have hwi : IntKind.i64.wrap ((i : Int) - 1) = (i : Int) - 1 := by simp only [IntKind.wrap_i64]; omega
      have hst := attrF_drop (nm := nm) hpr
      cases hpq : pr.1 == nm with
      | true =>
        have hpn := eq_of_beq hpq
        rw [hpq, if_pos rfl] at hst
        have HE : Hid (attrF nm (e.attrs.drop i) = some pr.2) := hst
        rw [hpn, HNN.out] at q0
        obtain ⟨q2, hq2⟩ : ∃ q2, (⟨pr.2.toArray⟩ : ByteArray) = q2 := ⟨_, rfl⟩
        rw [hq2] at q1
        have HQ2 : Hid ((⟨pr.2.toArray⟩ : ByteArray) = q2) := hq2
        clear ca hca k0 k1 hpr hst hpq hpn hq2
        go_wp2_with fail
        go_round
        case rel =>
          refine ⟨i, by omega, rfl, ?_, ?_⟩
          · rw [HE.out, ← HQ2.out]; rfl
          · rw [HE.out]; rfl
        case measure => simp [intOf]; try omega
      | false =>
        rw [hpq, if_neg (by decide)] at hst
        have HE : Hid (attrF nm (e.attrs.drop i) = attrF nm (e.attrs.drop (i + 1))) := hst
        obtain ⟨t1, t2⟩ := bytes_neq2 hpq
        rw [HNN.out] at t1 t2
        obtain ⟨q2, hq2⟩ : ∃ q2, (⟨pr.1.toArray⟩ : ByteArray) = q2 := ⟨_, rfl⟩
        obtain ⟨q3, hq3⟩ : ∃ q3, (⟨pr.2.toArray⟩ : ByteArray) = q3 := ⟨_, rfl⟩
        rw [hq2] at q0 t1 t2
        rw [hq3] at q1
        clear ca hca k0 k1 hpr hst hpq hq2 hq3
        go_wp2_with fail
        go_round
        case rel =>
          refine ⟨i, by omega, rfl, ?_, ?_⟩
          · rw [HE.out]
          · rw [HE.out]
        case measure => simp [intOf]; try omega
end Go.Proofs.YthekdgnikkjpdaaGreatDoor
