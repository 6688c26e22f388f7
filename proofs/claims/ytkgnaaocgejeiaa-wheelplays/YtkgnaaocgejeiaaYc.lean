/-
  The contract of the document's wheel's call Set over this program.
-/
import Derived.Test.YtkgnaaocgejeiaaYb
import Derived.Test.YtkgnaaocgejeiaaZr
namespace Go.Proofs.Ytkgnaaocgejeiaa
open Go Go.RowKit Go.Maps
/-- The place at which one more stands. -/
def plN (q : Int × Int) (L : List (Int × Int)) : Nat := (L.takeWhile fun r => decide (ltP r q)).length
theorem pl_le (q : Int × Int) (L : List (Int × Int)) : plN q L ≤ L.length := (List.takeWhile_sublist _).length_le
theorem ins_at (q : Int × Int) (L : List (Int × Int)) : ins q L = L.take (plN q L) ++ q :: L.drop (plN q L) := by
  have e := List.takeWhile_append_dropWhile (p := fun r => decide (ltP r q)) (l := L)
  unfold ins plN
  congr 1
  · conv => rhs; arg 2; rw [← e]
    rw [List.take_left]
  · congr 1
    conv => rhs; arg 2; rw [← e]
    rw [List.drop_left]
theorem pl_lt {q : Int × Int} {L : List (Int × Int)} (h : L.Pairwise ltP) {i : Nat} {p : Int × Int} (hp : L[i]? = some p) : ltP p q ↔ i < plN q L := by
  induction L generalizing i with
  | nil => simp at hp
  | cons r L ih =>
    rw [List.pairwise_cons] at h
    unfold plN at ih ⊢
    rw [List.takeWhile_cons]
    by_cases e : ltP r q
    · rw [if_pos (by simpa using e), List.length_cons]
      cases i with
      | zero =>
        simp at hp
        subst hp
        simp [e]
      | succ i =>
        rw [ih h.2 (by simpa using hp)]
        omega
    · rw [if_neg (by simpa using e)]
      simp only [List.length_nil, Nat.not_lt_zero, iff_false]
      cases i with
      | zero =>
        simp at hp
        subst hp
        exact e
      | succ i =>
        intro hk
        exact e (ltP_trans (h.1 p (List.mem_of_getElem? (by simpa using hp))) hk)
set_option maxHeartbeats 400000 in
theorem rset_bad (q : Nat) (D : List Nat) (now : Int) (L : List (Int × Int)) (z v : Int) (w : World) (h : RqAt q D now L w) (hv : v ≤ now ∨ 1099511627776 < v) :
    Calls Try.prog 14 #[.pointer (some ⟨q, 0, none⟩), .int .i64 z, .int .i64 v] w fun e w' => e = .returned (.int .i64 10) ∧ w' = w := by
  obtain ⟨ao, cap, h1, _⟩ := h.ex
  have c1 := rq_c1 h1
  clear h h1
  by_cases e : v ≤ now
  · clear hv
    go_enter Try.func14, Try.ntmps14
    go_wp2_with fail
    go_ret
    exact ⟨rfl, rfl⟩
  · have e2 : 1099511627776 < v := by omega
    clear hv
    go_enter Try.func14, Try.ntmps14
    go_wp2_with fail
    go_ret
    exact ⟨rfl, rfl⟩
set_option maxHeartbeats 400000 in
theorem rset_full (q : Nat) (D : List Nat) (now : Int) (L : List (Int × Int)) (z v : Int) (w : World) (h : RqAt q D now L w) (hv : ¬ v ≤ now) (hv2 : ¬ 1099511627776 < v) (hz : z ∉ ids L) (hL : L.length = 256) :
    Calls Try.prog 14 #[.pointer (some ⟨q, 0, none⟩), .int .i64 z, .int .i64 v] w fun e w' => e = .returned (.int .i64 9) ∧ w' = w := by
  have HAT := rat_no q D now L z w h hz (by omega)
  obtain ⟨ao, cap, h1, _⟩ := h.ex
  have c1 := rq_c1 h1
  have c0 := rq_c0 h1
  rw [hL] at c0
  clear h h1 hz hL
  go_enter Try.func14, Try.ntmps14
  go_wp2_with (go_at_call 25; refine HAT.mono ?_; rintro e w ⟨rfl, rfl⟩)
  go_ret
  exact ⟨rfl, rfl⟩
theorem row2 {w : World} {g : Nat} {z v : Int} {fr : Nat × Nat} (h : w.heap[g]? = some (.cells #[.int .i64 z, .int .i64 v] 45 fr)) : ∀ (j : Nat) (u : Value), (dues [(z, v)])[j]? = some u → ∃ ad, some (⟨g, 0, none⟩ : Addr) = some ad ∧ w.cell? (ad.add j) = some u := by
  intro j u hu
  refine ⟨_, rfl, ?_⟩
  rw [flat_add, Nat.zero_add]
  match j, hu with
  | 0, hu => cases hu; simp [World.cell?, h]
  | 1, hu => cases hu; simp [World.cell?, h]
  | j + 2, hu => cases hu
set_option maxHeartbeats 4000000 in
set_option maxRecDepth 100000 in
theorem rg9n (q : Nat) (D1 : List Nat) (now z v : Int) (M : List (Int × Int)) (w1 : World) {v3 v4 v5 v6 v8 v9 v10 v11 v12 v13 v14 v15 v16 v17 v18 v19 v20 v21 v22 v23 v24 v25 v26 v27 v28 v29 v30 v31 v32 v33 v34 v35 v36 v37 v38 v39 v40 v41 v42 v43 v44 v45 v46 v47 v48 v49 v50 v51 v52 v53 v54 v55 v56 v57 v58 v59 v60 v61 v62 v63 v64 v65 v66 v67 v68 v69 v70 v71 v72 v73 v74 v75 v76 v77 v78 v79 v80 v81 v82 v83 v84 v85 v86 v87 v88 v89 v90 v91 v92 v93 v94 v95 v96 v97 v98 v99 v100 v101 v102 : Value} (h1 : w1.heap[q]? = some (.cells #[.slice none 0 0, .int .i64 now] 29 (0, 0))) (hqm : q ∈ D1)
    (hM : (M.take 0).length = 0 ∧ (M.drop 0).length = 0 ∧ 0 + 1 + 0 ≤ 256 ∧ (ins (z, v) M).length = 0 + 1 + 0) (hin : ins (z, v) M = M.take 0 ++ (z, v) :: M.drop 0) (hrt : ∀ W, Below w1.heap.size w1 W → RowD W none (M.take 0)) (hrd : RowD w1 none (M.drop 0)) 
    (K : Act → World → Prop) (Q0 : Exit → Act → World → Prop)
    (hK : ∀ (u81 u82 u83 u84 u85 u86 u87 u88 u89 u90 u91 u92 u93 u94 u95 u96 u97 u98 u99 u100 u101 u102 : Value) (w' : World), RRes q D1 now (ins (z, v) M) w1 w' → K ⟨#[.pointer (some ⟨q, 0, none⟩), .int .i64 z, .int .i64 v, v3, v4, v5, v6, .int .i64 0, v8, v9, v10, v11, v12, v13, v14, v15, v16, v17, v18, v19, v20, v21, v22, v23, v24, v25, v26, v27, v28, v29, v30, v31, v32, v33, v34, v35, v36, v37, v38, v39, v40, v41, v42, v43, v44, v45, v46, v47, v48, v49, v50, v51, v52, v53, v54, v55, v56, v57, v58, v59, v60, v61, v62, v63, v64, v65, v66, v67, v68, v69, v70, v71, v72, v73, v74, v75, v76, v77, v78, v79, v80, u81, u82, u83, u84, u85, u86, u87, u88, u89, u90, u91, u92, u93, u94, u95, u96, u97, u98, u99, u100, u101, u102], []⟩ w') :
    Code.wp Try.prog ((Try.f14.body.bind (regionOf 9)).getD .skip) (Exit.then K Q0) ⟨#[.pointer (some ⟨q, 0, none⟩), .int .i64 z, .int .i64 v, v3, v4, v5, v6, .int .i64 0, v8, v9, v10, v11, v12, v13, v14, v15, v16, v17, v18, v19, v20, v21, v22, v23, v24, v25, v26, v27, v28, v29, v30, v31, v32, v33, v34, v35, v36, v37, v38, v39, v40, v41, v42, v43, v44, v45, v46, v47, v48, v49, v50, v51, v52, v53, v54, v55, v56, v57, v58, v59, v60, v61, v62, v63, v64, v65, v66, v67, v68, v69, v70, v71, v72, v73, v74, v75, v76, v77, v78, v79, v80, v81, v82, v83, v84, v85, v86, v87, v88, v89, v90, v91, v92, v93, v94, v95, v96, v97, v98, v99, v100, v101, v102], []⟩ w1 := by
  conv => arg 2; whnf
  refine Code.wp_mono (Q := Exit.then K (fun _ _ _ => False)) (fun e a w h => ?_) ?_
  · cases e <;> first | exact h | exact h.elim
  obtain ⟨i0, hi, hz0, hz1, hz2⟩ := info_parts info45
  have HKK : Hid _ := hK
  have H1 : Hid _ := h1
  have HQM : Hid _ := hqm
  have HM : Hid _ := hM
  have HIN : Hid _ := hin
  have HRT : Hid (∀ W, Below w1.heap.size w1 W → RowD W none (M.take 0)) := hrt
  have HRD : Hid (RowD w1 none (M.drop 0)) := hrd
  have hql : q < w1.heap.size := lt_of_heap h1
  have HC : Hid (∀ W : World, W.heap[q]? = w1.heap[q]? → W.cell? ⟨q, 0, none⟩ = some (.slice none 0 0) ∧ W.frozen? ⟨q, 0, none⟩ = false) := fun W hW => ⟨rq_c0 (hW.trans h1), rq_fz (hW.trans h1) 0⟩
  obtain ⟨d0, f0⟩ := HC.out w1 rfl
  obtain ⟨d9, f9⟩ := HC.out ((w1.alloc (.cells #[.int .i64 z, .int .i64 v] 45)).drew) (Below.heap_alloc _ _ _ hql)
  clear hK h1 hqm hM hin hrt hrd
  go_region_law (first
  | (refine step_append_any rfl (.tmp 93) (.tmp 99) 27 rfl w1.heap.size 45 i0 _ 2 16 Try.underlying27 hi hz0 hz1 hz2 rfl (by decide) _ (0 + 1) (dues (M.take 0) ++ dues [(z, v)]) rfl HO6.out none 0 0 (dues (M.drop 0)) rfl (fun _ => ⟨rfl, rfl⟩) (by rw [dues_len, HM.out.2.1]) (RowD.cells HRD6.out) (dues_one _) (by have := HM.out.2.2.1; unfold maxLen; omega) (by have := HM.out.2.2.1; omega) hs6 ?_
     intro v7 w7 ho7 hb7 _
     have hb8 : Below w1.heap.size w1 w7 := HB6.out.trans hb7
     obtain ⟨d3, f3⟩ := HC.out w7 (hb8.block q hql)
     have ho8 : w7.ownsRow w1.heap.size 45 2 v7 (0 + 1 + 0) (dues (ins (z, v) M)) := (by have e0 : dues (ins (z, v) M) = (dues (M.take 0) ++ dues [(z, v)]) ++ dues (M.drop 0) := (by rw [HIN.out, dues_append, List.append_assoc]; rfl); rw [e0]; exact ho7)
     obtain ⟨ao7, cap7, rfl, _⟩ := own_rowd ho8 HM.out.2.2.2
     have HR7 : Hid (RRes q D1 now (ins (z, v) M) w1 (w7.setCell ⟨q, 0, none⟩ (.slice ao7 (0 + 1 + 0) cap7))) := rq_store H1.out HQM.out hb8 ho8 HM.out.2.2.2
     clear ho7 ho8 hb7 hb8)
  | (refine step_append_any (w := (w1.alloc (.cells #[.int .i64 z, .int .i64 v] 45)).drew) rfl (.tmp 88) (.tmp 92) 27 rfl w1.heap.size 45 i0 _ 2 16 Try.underlying27 hi hz0 hz1 hz2 rfl (by decide) _ 0 (dues (M.take 0)) rfl (World.ownsRow_nil _ _ _ _) (some ⟨w1.heap.size, 0, none⟩) 1 1 (dues [(z, v)]) rfl (fun e => by cases e) rfl (row2 (heap_alloc_new w1 _)) (dues_one _) (by have := HM.out.2.2.1; unfold maxLen; omega) (by have := HM.out.2.2.1; omega) (by simp) ?_
     intro v6 w6 ho6 hb6 _
     have HB6 : Hid (Below w1.heap.size w1 w6) := (((Below.refl _ w1).alloc (Nat.le_refl _) (.cells #[.int .i64 z, .int .i64 v] 45)).drew).trans hb6
     obtain ⟨d2, f2⟩ := HC.out w6 (HB6.out.block q hql)
     have HO6 : Hid (w6.ownsRow w1.heap.size 45 2 v6 (0 + 1) (dues (M.take 0) ++ dues [(z, v)])) := ho6
     have HRD6 : Hid (RowD w6 none (M.drop 0)) := HRD.out.below HB6.out
     have hs6 := HB6.out.size
     clear ho6 hb6)
  | fail)
  all_goals exact HKK.out _ _ _ _ _ _ _ _ _ _ _ _ _ _ _ _ _ _ _ _ _ _ _ HR7.out
end Go.Proofs.Ytkgnaaocgejeiaa
