/-
  The contract of the document's wheel's call Set over this program: its drawn region, at a row that is there.
-/
import Derived.Test.YtkgnaaocgejeiaaYc
namespace Go.Proofs.Ytkgnaaocgejeiaa
open Go Go.RowKit Go.Maps
set_option maxHeartbeats 4000000 in
set_option maxRecDepth 100000 in
theorem rg9s (q : Nat) (D1 : List Nat) (now z v : Int) (M : List (Int × Int)) (g off cap m P m2 : Nat) (dp : Option Addr) (w1 : World) {v3 v4 v5 v6 v8 v9 v10 v11 v12 v13 v14 v15 v16 v17 v18 v19 v20 v21 v22 v23 v24 v25 v26 v27 v28 v29 v30 v31 v32 v33 v34 v35 v36 v37 v38 v39 v40 v41 v42 v43 v44 v45 v46 v47 v48 v49 v50 v51 v52 v53 v54 v55 v56 v57 v58 v59 v60 v61 v62 v63 v64 v65 v66 v67 v68 v69 v70 v71 v72 v73 v74 v75 v76 v77 v78 v79 v80 v81 v82 v83 v84 v85 v86 v87 v88 v89 v90 v91 v92 v93 v94 v95 v96 v97 v98 v99 v100 v101 v102 : Value} (h1 : w1.heap[q]? = some (.cells #[.slice (some ⟨g, off, none⟩) m cap, .int .i64 now] 29 (0, 0))) (hqm : q ∈ D1)
    (hM : (M.take P).length = P ∧ (M.drop P).length = m2 ∧ P + 1 + m2 ≤ 256 ∧ (ins (z, v) M).length = P + 1 + m2) (hin : ins (z, v) M = M.take P ++ (z, v) :: M.drop P) (hrt : ∀ W, Below w1.heap.size w1 W → RowD W (some ⟨g, off, none⟩) (M.take P)) (hrd : RowD w1 dp (M.drop P)) (hdp : (if cap = P then some (⟨g, off, none⟩ : Addr) else some ⟨g, off + P * 2, none⟩) = dp) (p0 : (0 : Int) ≤ (P : Int)) (p1 : (P : Int) ≤ (m : Int)) (_p2 : (m : Int) ≤ (cap : Int)) (p3 : (P : Int) ≤ (cap : Int)) (hm2 : m - P = m2) 
    (K : Act → World → Prop) (Q0 : Exit → Act → World → Prop)
    (hK : ∀ (u81 u82 u83 u84 u85 u86 u87 u88 u89 u90 u91 u92 u93 u94 u95 u96 u97 u98 u99 u100 u101 u102 : Value) (w' : World), RRes q D1 now (ins (z, v) M) w1 w' → K ⟨#[.pointer (some ⟨q, 0, none⟩), .int .i64 z, .int .i64 v, v3, v4, v5, v6, .int .i64 (P : Int), v8, v9, v10, v11, v12, v13, v14, v15, v16, v17, v18, v19, v20, v21, v22, v23, v24, v25, v26, v27, v28, v29, v30, v31, v32, v33, v34, v35, v36, v37, v38, v39, v40, v41, v42, v43, v44, v45, v46, v47, v48, v49, v50, v51, v52, v53, v54, v55, v56, v57, v58, v59, v60, v61, v62, v63, v64, v65, v66, v67, v68, v69, v70, v71, v72, v73, v74, v75, v76, v77, v78, v79, v80, u81, u82, u83, u84, u85, u86, u87, u88, u89, u90, u91, u92, u93, u94, u95, u96, u97, u98, u99, u100, u101, u102], []⟩ w') :
    Code.wp Try.prog ((Try.f14.body.bind (regionOf 9)).getD .skip) (Exit.then K Q0) ⟨#[.pointer (some ⟨q, 0, none⟩), .int .i64 z, .int .i64 v, v3, v4, v5, v6, .int .i64 (P : Int), v8, v9, v10, v11, v12, v13, v14, v15, v16, v17, v18, v19, v20, v21, v22, v23, v24, v25, v26, v27, v28, v29, v30, v31, v32, v33, v34, v35, v36, v37, v38, v39, v40, v41, v42, v43, v44, v45, v46, v47, v48, v49, v50, v51, v52, v53, v54, v55, v56, v57, v58, v59, v60, v61, v62, v63, v64, v65, v66, v67, v68, v69, v70, v71, v72, v73, v74, v75, v76, v77, v78, v79, v80, v81, v82, v83, v84, v85, v86, v87, v88, v89, v90, v91, v92, v93, v94, v95, v96, v97, v98, v99, v100, v101, v102], []⟩ w1 := by
  conv => arg 2; whnf
  refine Code.wp_mono (Q := Exit.then K (fun _ _ _ => False)) (fun e a w h => ?_) ?_
  · cases e <;> first | exact h | exact h.elim
  obtain ⟨i0, hi, hz0, hz1, hz2⟩ := info_parts info45
  have HKK : Hid _ := hK
  have H1 : Hid _ := h1
  have HQM : Hid _ := hqm
  have HM : Hid _ := hM
  have HIN : Hid _ := hin
  have HRT : Hid (∀ W, Below w1.heap.size w1 W → RowD W (some ⟨g, off, none⟩) (M.take P)) := hrt
  have HRD : Hid (RowD w1 dp (M.drop P)) := hrd
  have HDN : Hid (dp = none → False) := fun e => by rw [e] at hdp; split at hdp <;> cases hdp
  have hql : q < w1.heap.size := lt_of_heap h1
  have HC : Hid (∀ W : World, W.heap[q]? = w1.heap[q]? → W.cell? ⟨q, 0, none⟩ = some (.slice (some ⟨g, off, none⟩) m cap) ∧ W.frozen? ⟨q, 0, none⟩ = false) := fun W hW => ⟨rq_c0 (hW.trans h1), rq_fz (hW.trans h1) 0⟩
  obtain ⟨d0, f0⟩ := HC.out w1 rfl
  obtain ⟨d9, f9⟩ := HC.out ((w1.alloc (.cells #[.int .i64 z, .int .i64 v] 45)).drew) (Below.heap_alloc _ _ _ hql)
  clear hK h1 hqm hM hin hrt hrd
  go_region_law (first
  | (refine step_append_any rfl (.tmp 93) (.tmp 99) 27 rfl w1.heap.size 45 i0 _ 2 16 Try.underlying27 hi hz0 hz1 hz2 rfl (by decide) _ (P + 1) (dues (M.take P) ++ dues [(z, v)]) rfl HO6.out dp m2 (cap - P) (dues (M.drop P)) rfl (fun e => (HDN.out e).elim) (by rw [dues_len, HM.out.2.1]) (RowD.cells HRD6.out) (dues_one _) (by have := HM.out.2.2.1; unfold maxLen; omega) (by have := HM.out.2.2.1; omega) hs6 ?_
     intro v7 w7 ho7 hb7 _
     have hb8 : Below w1.heap.size w1 w7 := HB6.out.trans hb7
     obtain ⟨d3, f3⟩ := HC.out w7 (hb8.block q hql)
     have ho8 : w7.ownsRow w1.heap.size 45 2 v7 (P + 1 + m2) (dues (ins (z, v) M)) := (by have e0 : dues (ins (z, v) M) = (dues (M.take P) ++ dues [(z, v)]) ++ dues (M.drop P) := (by rw [HIN.out, dues_append, List.append_assoc]; rfl); rw [e0]; exact ho7)
     obtain ⟨ao7, cap7, rfl, _⟩ := own_rowd ho8 HM.out.2.2.2
     have HR7 : Hid (RRes q D1 now (ins (z, v) M) w1 (w7.setCell ⟨q, 0, none⟩ (.slice ao7 (P + 1 + m2) cap7))) := rq_store H1.out HQM.out hb8 ho8 HM.out.2.2.2
     clear ho7 ho8 hb7 hb8)
  | (refine step_append_any (w := w5) rfl (.tmp 88) (.tmp 92) 27 rfl w1.heap.size 45 i0 _ 2 16 Try.underlying27 hi hz0 hz1 hz2 rfl (by decide) _ P (dues (M.take P)) rfl HO5.out (some ⟨w1.heap.size, 0, none⟩) 1 1 (dues [(z, v)]) rfl (fun e => by cases e) rfl (row2 hE5) (dues_one _) (by have := HM.out.2.2.1; unfold maxLen; omega) (by have := HM.out.2.2.1; omega) (by first | exact hs5 | (simp; omega)) ?_
     intro v6 w6 ho6 hb6 _
     have HB6 : Hid (Below w1.heap.size w1 w6) := (HB5.out).trans hb6
     obtain ⟨d2, f2⟩ := HC.out w6 (HB6.out.block q hql)
     have HO6 : Hid (w6.ownsRow w1.heap.size 45 2 v6 (P + 1) (dues (M.take P) ++ dues [(z, v)])) := ho6
     have HRD6 : Hid (RowD w6 dp (M.drop P)) := HRD.out.below HB6.out
     have hs6 := HB6.out.size
     clear ho6 hb6)
  | (refine step_append_any (w := w5.alloc (.cells #[.int .i64 z, .int .i64 v] 45)) rfl (.tmp 88) (.tmp 92) 27 rfl w1.heap.size 45 i0 _ 2 16 Try.underlying27 hi hz0 hz1 hz2 rfl (by decide) _ P (dues (M.take P)) rfl (World.ownsRow.alloc HO5.out _) (some ⟨w5.heap.size, 0, none⟩) 1 1 (dues [(z, v)]) rfl (fun e => by cases e) rfl (row2 (heap_alloc_new w5 _)) (dues_one _) (by have := HM.out.2.2.1; unfold maxLen; omega) (by have := HM.out.2.2.1; omega) (by first | exact hs5 | (simp; omega)) ?_
     intro v6 w6 ho6 hb6 _
     have HB6 : Hid (Below w1.heap.size w1 w6) := (HB5.out.alloc hs5 (.cells #[.int .i64 z, .int .i64 v] 45)).trans hb6
     obtain ⟨d2, f2⟩ := HC.out w6 (HB6.out.block q hql)
     have HO6 : Hid (w6.ownsRow w1.heap.size 45 2 v6 (P + 1) (dues (M.take P) ++ dues [(z, v)])) := ho6
     have HRD6 : Hid (RowD w6 dp (M.drop P)) := HRD.out.below HB6.out
     have hs6 := HB6.out.size
     clear ho6 hb6)
  | (refine step_append_any (w := w1.drew) rfl (.const (.slice none 0 0)) (.tmp 87) 27 rfl w1.heap.size 45 i0 _ 2 16 Try.underlying27 hi hz0 hz1 hz2 rfl (by decide) _ 0 [] rfl (World.ownsRow_nil _ _ _ _) (some ⟨g, off, none⟩) P cap (dues (M.take P)) rfl (fun e => by cases e) (by rw [dues_len, HM.out.1]) (RowD.cells (HRT.out _ ((Below.refl _ w1).drew))) (dues_one _) (by have := HM.out.2.2.1; unfold maxLen; omega) (by have := HM.out.2.2.1; omega) (by simp) ?_
     intro v5 w5 ho5 hb5 hg5
     have HB5 : Hid (Below w1.heap.size w1 w5) := ((Below.refl _ w1).drew).trans hb5
     obtain ⟨d1, f1⟩ := HC.out w5 (HB5.out.block q hql)
     have HO5 : Hid (w5.ownsRow w1.heap.size 45 2 v5 P (dues (M.take P))) := (by rw [Nat.zero_add, List.nil_append] at ho5; exact ho5)
     have hs5 := HB5.out.size
     obtain ⟨d4, f4⟩ := HC.out (w5.alloc (.cells #[.int .i64 z, .int .i64 v] 45)) ((Below.heap_alloc _ _ _ (Nat.lt_of_lt_of_le hql hs5)).trans (HB5.out.block q hql))
     clear ho5 hb5 hg5)
  | (refine step_append_any (w := (w1.alloc (.cells #[.int .i64 z, .int .i64 v] 45)).drew) rfl (.const (.slice none 0 0)) (.tmp 87) 27 rfl w1.heap.size 45 i0 _ 2 16 Try.underlying27 hi hz0 hz1 hz2 rfl (by decide) _ 0 [] rfl (World.ownsRow_nil _ _ _ _) (some ⟨g, off, none⟩) P cap (dues (M.take P)) rfl (fun e => by cases e) (by rw [dues_len, HM.out.1]) (RowD.cells (HRT.out _ (((Below.refl _ w1).alloc (Nat.le_refl _) (.cells #[.int .i64 z, .int .i64 v] 45)).drew))) (dues_one _) (by have := HM.out.2.2.1; unfold maxLen; omega) (by have := HM.out.2.2.1; omega) (by simp) ?_
     intro v5 w5 ho5 hb5 hg5
     have HB5 : Hid (Below w1.heap.size w1 w5) := (((Below.refl _ w1).alloc (Nat.le_refl _) (.cells #[.int .i64 z, .int .i64 v] 45)).drew).trans hb5
     obtain ⟨d1, f1⟩ := HC.out w5 (HB5.out.block q hql)
     have HO5 : Hid (w5.ownsRow w1.heap.size 45 2 v5 P (dues (M.take P))) := (by rw [Nat.zero_add, List.nil_append] at ho5; exact ho5)
     have hs5 := HB5.out.size
     obtain ⟨d4, f4⟩ := HC.out (w5.alloc (.cells #[.int .i64 z, .int .i64 v] 45)) ((Below.heap_alloc _ _ _ (Nat.lt_of_lt_of_le hql hs5)).trans (HB5.out.block q hql))
     have hE5 : w5.heap[w1.heap.size]? = some (.cells #[.int .i64 z, .int .i64 v] 45 (0, 0)) := (hg5.block w1.heap.size (by simp) (fun e => by cases e)).trans (heap_alloc_new w1 _); clear ho5 hb5 hg5)
  | fail)
  all_goals exact HKK.out _ _ _ _ _ _ _ _ _ _ _ _ _ _ _ _ _ _ _ _ _ _ _ HR7.out
end Go.Proofs.Ytkgnaaocgejeiaa
