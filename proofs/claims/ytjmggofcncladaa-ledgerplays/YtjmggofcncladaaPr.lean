/-
  The walk of the statement LedgerPlays over this program: the round's last region, which draws its order.
-/
import Derived.Test.YtjmggofcncladaaQb
namespace Go.Proofs.Ytjmggofcncladaa
open Go Go.RowKit
def regionOf (k : Nat) : Code → Option Code
  | .region n ops d => if n == k then some (.region n ops d) else none
  | .seq a b => match regionOf k a with
    | some c => some c
    | none => regionOf k b
  | .block _ c => regionOf k c
  | .scope c => regionOf k c
  | .loop c => regionOf k c
  | .cond _ a b => match regionOf k a with
    | some c => some c
    | none => regionOf k b
  | _ => none
set_option maxHeartbeats 8000000 in
set_option maxRecDepth 100000 in
theorem reg26 (g q C L d i qc : Nat) (a1 a2 a3 : Int) (M : List ByteArray) (qa : Option Addr) (w6 : World) (v0 v1 v2 v3 v4 v5 v6 v9 v10 v11 v13 v14 v15 v16 v17 v18 v19 v20 v21 v22 v23 v24 v25 v26 v27 v28 v29 v30 v31 v32 v33 v34 v35 v36 v37 v38 v39 v40 v41 v42 v43 v44 v45 v46 v47 v48 v49 v50 v51 v52 v53 v54 v55 v56 v57 v58 v59 v60 v61 v62 v63 v64 v65 v66 v67 v68 v69 v70 v71 v72 v73 v74 v75 v76 v77 v78 v79 v80 v81 v82 v83 v84 v85 v86 v87 v88 v89 v90 v91 v92 v93 v94 v95 v96 v97 v98 v99 v100 v101 v102 v103 v104 v105 v106 v107 v108 v109 v110 v111 v112 v113 v114 v115 v116 v117 v118 v119 v120 v121 v122 v123 v124 v125 v126 v127 v128 v129 v130 v131 v132 v133 v134 v135 v136 v137 v138 v139 v140 v141 v142 v143 v144 v145 v146 v147 v148 v149 v150 v151 v152 v153 v154 v155 v156 v157 v158 v159 v160 v161 v162 v163 v164 v165 v166 v167 v168 v169 v170 v171 v172 v173 v174 v175 v176 v177 v178 v179 v180 : Value)
    (c0 : w6.cell? ⟨q, 0, none⟩ = some (.slice qa L qc)) (c1 : w6.cell? ⟨q, 1, none⟩ = some (.int .i64 (d : Int))) (c2 : w6.cell? ⟨q, 2, none⟩ = some (.int .i64 (i : Int)))
    (HS : ∀ W, W.heap = w6.heap → Calls Try.prog 25 #[.pointer (some ⟨g, 0, none⟩)] W fun e w' => e = .returned (.int .u32 a1) ∧ ∃ m, w' = W.drewN m)
    (HC : ∀ W, W.heap = w6.heap → Calls Try.prog 27 #[.pointer (some ⟨g, 0, none⟩)] W fun e w' => e = .returned (.int .u32 a2) ∧ w' = W)
    (HD : ∀ W, W.heap = w6.heap → Calls Try.prog 28 #[.pointer (some ⟨g, 0, none⟩)] W fun e w' => e = .returned (.int .u32 a3) ∧ w' = W)
    (HN1 : ∀ W, W.heap = w6.heap → Calls Try.prog 26 #[.pointer (some ⟨q, 0, none⟩), .int .i64 (L : Int)] W fun e w' => e = .returned (.int .u32 a1) ∧ w' = W)
    (HN2 : ∀ W, W.heap = w6.heap → Calls Try.prog 26 #[.pointer (some ⟨q, 0, none⟩), .int .i64 (d : Int)] W fun e w' => e = .returned (.int .u32 a2) ∧ w' = W)
    (HN3 : ∀ W, W.heap = w6.heap → Calls Try.prog 26 #[.pointer (some ⟨q, 0, none⟩), .int .i64 (i : Int)] W fun e w' => e = .returned (.int .u32 a3) ∧ w' = W)
    (HL : ∀ W, W.heap = w6.heap → Calls Try.prog 29 #[.pointer (some ⟨g, 0, none⟩)] W fun e w' => TxRes W.heap.size M e w' ∧ Below W.heap.size W w')
    (HO : ∀ W, Below w6.heap.size w6 W → Calls Try.prog 22 #[.pointer (some ⟨q, 0, none⟩)] W fun e w' => OpRes M W e w')
    (hC : M.length = C) (hc6 : C ≤ 64)
    (K : Act → World → Prop) (Q0 : Exit → Act → World → Prop) (hQ : ∀ c d v a w, Q0 (.panic c) (Act.put a d v) w → Q0 (.panic c) a w)
    (hK : ∀ (u137 u138 u139 u140 u141 u142 u143 u144 u145 u146 u147 u148 u149 u150 u151 u152 u153 u154 u155 u156 u157 u158 u159 u160 u161 u162 u163 u164 u165 u166 u167 u168 u169 u170 u171 u172 u173 u174 u175 u176 u177 u178 u179 : Value) (w' : World), Below w6.heap.size w6 w' → K ⟨#[v0, v1, v2, v3, v4, v5, v6, .pointer (some ⟨g, 0, none⟩), .pointer (some ⟨q, 0, none⟩), v9, v10, v11, .bool true, v13, v14, v15, v16, v17, v18, v19, v20, v21, v22, v23, v24, v25, v26, v27, v28, v29, v30, v31, v32, v33, v34, v35, v36, v37, v38, v39, v40, v41, v42, v43, v44, v45, v46, v47, v48, v49, v50, v51, v52, v53, v54, v55, v56, v57, v58, v59, v60, v61, v62, v63, v64, v65, v66, v67, v68, v69, v70, v71, v72, v73, v74, v75, v76, v77, v78, v79, v80, v81, v82, v83, v84, v85, v86, v87, v88, v89, v90, v91, v92, v93, v94, v95, v96, v97, v98, v99, v100, v101, v102, v103, v104, v105, v106, v107, v108, v109, v110, v111, v112, v113, v114, v115, v116, v117, v118, v119, v120, v121, v122, v123, v124, v125, v126, v127, v128, v129, v130, v131, v132, v133, v134, v135, v136, u137, u138, u139, u140, u141, u142, u143, u144, u145, u146, u147, u148, u149, u150, u151, u152, u153, u154, u155, u156, u157, u158, u159, u160, u161, u162, u163, u164, u165, u166, u167, u168, u169, u170, u171, u172, u173, u174, u175, u176, u177, u178, u179, .bool false], []⟩ w') :
    Code.wp Try.prog ((Try.f3.body.bind (regionOf 26)).getD .skip) (Exit.then K Q0) ⟨#[v0, v1, v2, v3, v4, v5, v6, .pointer (some ⟨g, 0, none⟩), .pointer (some ⟨q, 0, none⟩), v9, v10, v11, .bool true, v13, v14, v15, v16, v17, v18, v19, v20, v21, v22, v23, v24, v25, v26, v27, v28, v29, v30, v31, v32, v33, v34, v35, v36, v37, v38, v39, v40, v41, v42, v43, v44, v45, v46, v47, v48, v49, v50, v51, v52, v53, v54, v55, v56, v57, v58, v59, v60, v61, v62, v63, v64, v65, v66, v67, v68, v69, v70, v71, v72, v73, v74, v75, v76, v77, v78, v79, v80, v81, v82, v83, v84, v85, v86, v87, v88, v89, v90, v91, v92, v93, v94, v95, v96, v97, v98, v99, v100, v101, v102, v103, v104, v105, v106, v107, v108, v109, v110, v111, v112, v113, v114, v115, v116, v117, v118, v119, v120, v121, v122, v123, v124, v125, v126, v127, v128, v129, v130, v131, v132, v133, v134, v135, v136, v137, v138, v139, v140, v141, v142, v143, v144, v145, v146, v147, v148, v149, v150, v151, v152, v153, v154, v155, v156, v157, v158, v159, v160, v161, v162, v163, v164, v165, v166, v167, v168, v169, v170, v171, v172, v173, v174, v175, v176, v177, v178, v179, v180], []⟩ w6 := by
  conv => arg 2; whnf
  have HKK : Hid _ := hK
  have HC' : Hid _ := hC
  have HSM := fun (x y : Option Addr) (k1 k2 : Nat) (W : World) h1 h2 => same_any x y k1 k2 M W h1 h2 (by omega)
  rw [hC] at HSM
  clear hK hC
  refine wp_region_any (by kernel_rfl) ?_
  change wpAny _ _ _ _ _ _ _ (World.drew _)
  refine wpAny_take (i := 0) (v := ?_) rfl (by kernel_rfl) (by kernel_rfl) (by kernel_rfl) (fun _ _ _ h => hQ _ _ _ _ _ h) (Or.inl ⟨by kernel_rfl, ?_⟩) ?_; rotate_left; (· (intro w; go_simp; first | done | with_reducible rfl))
  refine wpAny_take (i := 1) (v := ?_) rfl (by kernel_rfl) (by kernel_rfl) (by kernel_rfl) (fun _ _ _ h => hQ _ _ _ _ _ h) (Or.inl ⟨by kernel_rfl, ?_⟩) ?_; rotate_left; (· (intro w; go_simp; first | done | with_reducible rfl))
  refine wpAny_take (i := 2) (v := ?_) rfl (by kernel_rfl) (by kernel_rfl) (by kernel_rfl) (fun _ _ _ h => hQ _ _ _ _ _ h) (Or.inl ⟨by kernel_rfl, ?_⟩) ?_; rotate_left; (· (intro w; go_simp; first | done | with_reducible rfl))
  refine wpAny_take (i := 3) (v := ?_) rfl (by kernel_rfl) (by kernel_rfl) (by kernel_rfl) (fun _ _ _ h => hQ _ _ _ _ _ h) (Or.inl ⟨by kernel_rfl, ?_⟩) ?_; rotate_left; (· (intro w; go_simp; first | done | with_reducible rfl))
  refine wpAny_take (i := 5) (v := ?_) rfl (by kernel_rfl) (by kernel_rfl) (by kernel_rfl) (fun _ _ _ h => hQ _ _ _ _ _ h) (Or.inl ⟨by kernel_rfl, ?_⟩) ?_; rotate_left; (· (intro w; go_simp; first | done | with_reducible rfl))
  refine wpAny_take (i := 6) (v := ?_) rfl (by kernel_rfl) (by kernel_rfl) (by kernel_rfl) (fun _ _ _ h => hQ _ _ _ _ _ h) (Or.inl ⟨by kernel_rfl, ?_⟩) ?_; rotate_left; (· (intro w; go_simp; first | done | with_reducible rfl))
  refine wpAny_take (i := 7) (v := ?_) rfl (by kernel_rfl) (by kernel_rfl) (by kernel_rfl) (fun _ _ _ h => hQ _ _ _ _ _ h) (Or.inl ⟨by kernel_rfl, ?_⟩) ?_; rotate_left; (· (intro w; go_simp; first | done | with_reducible rfl))
  refine wpAny_take (i := 8) (v := ?_) rfl (by kernel_rfl) (by kernel_rfl) (by kernel_rfl) (fun _ _ _ h => hQ _ _ _ _ _ h) (Or.inl ⟨by kernel_rfl, ?_⟩) ?_; rotate_left; (· (intro w; go_simp; first | done | with_reducible rfl))
  refine wpAny_ready (rs := [4, 9]) (by kernel_rfl) (by simp) ?_
  refine AllReady.cons rfl (fun K hK => ?_) (AllReady.cons rfl (fun K hK => ?_) AllReady.nil)
  (go_simp; refine (HS _ ?_).mono ?_; exact rfl; rintro ee ww ⟨rfl, m7, rfl⟩; go_simp; refine hK _ _ ?_; clear hK K; refine wpAny_ready (rs := [9]) (by kernel_rfl) (by simp) ?_; refine AllReady.cons rfl (fun K hK => ?_) AllReady.nil; go_simp; refine hK _ _ ?_; clear hK K; refine wpAny_take (i := 10) (v := ?_) rfl (by kernel_rfl) (by kernel_rfl) (by kernel_rfl) (fun _ _ _ h => hQ _ _ _ _ _ h) (Or.inl ⟨by kernel_rfl, ?_⟩) ?_; rotate_left; (· (intro w; go_simp; first | done | with_reducible rfl)))
  rotate_left
  (go_simp; refine hK _ _ ?_; clear hK K; refine wpAny_take (i := 10) (v := ?_) rfl (by kernel_rfl) (by kernel_rfl) (by kernel_rfl) (fun _ _ _ h => hQ _ _ _ _ _ h) (Or.inl ⟨by kernel_rfl, ?_⟩) ?_; rotate_left; (· (intro w; go_simp; first | done | with_reducible rfl)); refine wpAny_ready (rs := [4]) (by kernel_rfl) (by simp) ?_; refine AllReady.cons rfl (fun K hK => ?_) AllReady.nil; go_simp; refine (HS _ ?_).mono ?_; exact rfl; rintro ee ww ⟨rfl, m7, rfl⟩; go_simp; refine hK _ _ ?_; clear hK K)
  all_goals (
    refine wpAny_ready (rs := [11]) (by kernel_rfl) (by simp) ?_; refine AllReady.cons rfl (fun K hK => ?_) AllReady.nil; go_simp; refine (HN1 _ ?_).mono ?_; exact rfl; rintro ee ww ⟨rfl, rfl⟩; go_simp; refine hK _ _ ?_; clear hK K
    refine wpAny_take (i := 12) (v := ?_) rfl (by kernel_rfl) (by kernel_rfl) (by kernel_rfl) (fun _ _ _ h => hQ _ _ _ _ _ h) (Or.inl ⟨by kernel_rfl, ?_⟩) ?_; rotate_left; (· (intro w; go_simp; first | done | with_reducible rfl))
    refine wpAny_take (i := 13) (v := ?_) rfl (by kernel_rfl) (by kernel_rfl) (by kernel_rfl) (fun _ _ _ h => hQ _ _ _ _ _ h) (Or.inl ⟨by kernel_rfl, ?_⟩) ?_; rotate_left; (· (intro w; go_simp; first | done | with_reducible rfl))
    refine wpAny_take (i := 14) (v := ?_) rfl (by kernel_rfl) (by kernel_rfl) (by kernel_rfl) (fun _ _ _ h => hQ _ _ _ _ _ h) (Or.inl ⟨by kernel_rfl, ?_⟩) ?_; rotate_left; (· (intro w; go_simp; first | done | with_reducible rfl))
    refine wpAny_take (i := 15) (v := ?_) rfl (by kernel_rfl) (by kernel_rfl) (by kernel_rfl) (fun _ _ _ h => hQ _ _ _ _ _ h) (Or.inl ⟨by kernel_rfl, ?_⟩) ?_; rotate_left; (· (intro w; go_simp; first | done | with_reducible rfl))
    refine wpAny_take (i := 17) (v := ?_) rfl (by kernel_rfl) (by kernel_rfl) (by kernel_rfl) (fun _ _ _ h => hQ _ _ _ _ _ h) (Or.inl ⟨by kernel_rfl, ?_⟩) ?_; rotate_left; (· (intro w; go_simp; first | done | with_reducible rfl))
    refine wpAny_take (i := 18) (v := ?_) rfl (by kernel_rfl) (by kernel_rfl) (by kernel_rfl) (fun _ _ _ h => hQ _ _ _ _ _ h) (Or.inl ⟨by kernel_rfl, ?_⟩) ?_; rotate_left; (· (intro w; go_simp; first | done | with_reducible rfl))
    refine wpAny_take (i := 19) (v := ?_) rfl (by kernel_rfl) (by kernel_rfl) (by kernel_rfl) (fun _ _ _ h => hQ _ _ _ _ _ h) (Or.inl ⟨by kernel_rfl, ?_⟩) ?_; rotate_left; (· (intro w; go_simp; first | done | with_reducible rfl))
    refine wpAny_take (i := 20) (v := ?_) rfl (by kernel_rfl) (by kernel_rfl) (by kernel_rfl) (fun _ _ _ h => hQ _ _ _ _ _ h) (Or.inl ⟨by kernel_rfl, ?_⟩) ?_; rotate_left; (· (intro w; go_simp; first | done | with_reducible rfl))
    refine wpAny_ready (rs := [16, 21]) (by kernel_rfl) (by simp) ?_
    refine AllReady.cons rfl (fun K hK => ?_) (AllReady.cons rfl (fun K hK => ?_) AllReady.nil)
    (go_simp; refine (HC _ ?_).mono ?_; exact rfl; rintro ee ww ⟨rfl, rfl⟩; go_simp; refine hK _ _ ?_; clear hK K; refine wpAny_ready (rs := [21]) (by kernel_rfl) (by simp) ?_; refine AllReady.cons rfl (fun K hK => ?_) AllReady.nil; go_simp; refine hK _ _ ?_; clear hK K)
    rotate_left
    (go_simp; refine hK _ _ ?_; clear hK K; refine wpAny_ready (rs := [16]) (by kernel_rfl) (by simp) ?_; refine AllReady.cons rfl (fun K hK => ?_) AllReady.nil; go_simp; refine (HC _ ?_).mono ?_; exact rfl; rintro ee ww ⟨rfl, rfl⟩; go_simp; refine hK _ _ ?_; clear hK K)
    all_goals (
      refine wpAny_ready (rs := [22]) (by kernel_rfl) (by simp) ?_; refine AllReady.cons rfl (fun K hK => ?_) AllReady.nil; go_simp; refine (HN2 _ ?_).mono ?_; exact rfl; rintro ee ww ⟨rfl, rfl⟩; go_simp; refine hK _ _ ?_; clear hK K
      refine wpAny_take (i := 23) (v := ?_) rfl (by kernel_rfl) (by kernel_rfl) (by kernel_rfl) (fun _ _ _ h => hQ _ _ _ _ _ h) (Or.inl ⟨by kernel_rfl, ?_⟩) ?_; rotate_left; (· (intro w; go_simp; first | done | with_reducible rfl))
      refine wpAny_take (i := 24) (v := ?_) rfl (by kernel_rfl) (by kernel_rfl) (by kernel_rfl) (fun _ _ _ h => hQ _ _ _ _ _ h) (Or.inl ⟨by kernel_rfl, ?_⟩) ?_; rotate_left; (· (intro w; go_simp; first | done | with_reducible rfl))
      refine wpAny_take (i := 25) (v := ?_) rfl (by kernel_rfl) (by kernel_rfl) (by kernel_rfl) (fun _ _ _ h => hQ _ _ _ _ _ h) (Or.inl ⟨by kernel_rfl, ?_⟩) ?_; rotate_left; (· (intro w; go_simp; first | done | with_reducible rfl))
      refine wpAny_take (i := 26) (v := ?_) rfl (by kernel_rfl) (by kernel_rfl) (by kernel_rfl) (fun _ _ _ h => hQ _ _ _ _ _ h) (Or.inl ⟨by kernel_rfl, ?_⟩) ?_; rotate_left; (· (intro w; go_simp; first | done | with_reducible rfl))
      refine wpAny_take (i := 28) (v := ?_) rfl (by kernel_rfl) (by kernel_rfl) (by kernel_rfl) (fun _ _ _ h => hQ _ _ _ _ _ h) (Or.inl ⟨by kernel_rfl, ?_⟩) ?_; rotate_left; (· (intro w; go_simp; first | done | with_reducible rfl))
      refine wpAny_take (i := 29) (v := ?_) rfl (by kernel_rfl) (by kernel_rfl) (by kernel_rfl) (fun _ _ _ h => hQ _ _ _ _ _ h) (Or.inl ⟨by kernel_rfl, ?_⟩) ?_; rotate_left; (· (intro w; go_simp; first | done | with_reducible rfl))
      refine wpAny_take (i := 30) (v := ?_) rfl (by kernel_rfl) (by kernel_rfl) (by kernel_rfl) (fun _ _ _ h => hQ _ _ _ _ _ h) (Or.inl ⟨by kernel_rfl, ?_⟩) ?_; rotate_left; (· (intro w; go_simp; first | done | with_reducible rfl))
      refine wpAny_take (i := 31) (v := ?_) rfl (by kernel_rfl) (by kernel_rfl) (by kernel_rfl) (fun _ _ _ h => hQ _ _ _ _ _ h) (Or.inl ⟨by kernel_rfl, ?_⟩) ?_; rotate_left; (· (intro w; go_simp; first | done | with_reducible rfl))
      refine wpAny_ready (rs := [27, 32]) (by kernel_rfl) (by simp) ?_
      refine AllReady.cons rfl (fun K hK => ?_) (AllReady.cons rfl (fun K hK => ?_) AllReady.nil)
      (go_simp; refine (HD _ ?_).mono ?_; exact rfl; rintro ee ww ⟨rfl, rfl⟩; go_simp; refine hK _ _ ?_; clear hK K; refine wpAny_ready (rs := [32]) (by kernel_rfl) (by simp) ?_; refine AllReady.cons rfl (fun K hK => ?_) AllReady.nil; go_simp; refine hK _ _ ?_; clear hK K)
      rotate_left
      (go_simp; refine hK _ _ ?_; clear hK K; refine wpAny_ready (rs := [27]) (by kernel_rfl) (by simp) ?_; refine AllReady.cons rfl (fun K hK => ?_) AllReady.nil; go_simp; refine (HD _ ?_).mono ?_; exact rfl; rintro ee ww ⟨rfl, rfl⟩; go_simp; refine hK _ _ ?_; clear hK K)
      all_goals (
        refine wpAny_ready (rs := [33]) (by kernel_rfl) (by simp) ?_; refine AllReady.cons rfl (fun K hK => ?_) AllReady.nil; go_simp; refine (HN3 _ ?_).mono ?_; exact rfl; rintro ee ww ⟨rfl, rfl⟩; go_simp; refine hK _ _ ?_; clear hK K
        refine wpAny_take (i := 34) (v := ?_) rfl (by kernel_rfl) (by kernel_rfl) (by kernel_rfl) (fun _ _ _ h => hQ _ _ _ _ _ h) (Or.inl ⟨by kernel_rfl, ?_⟩) ?_; rotate_left; (· (intro w; go_simp; first | done | with_reducible rfl))
        refine wpAny_take (i := 35) (v := ?_) rfl (by kernel_rfl) (by kernel_rfl) (by kernel_rfl) (fun _ _ _ h => hQ _ _ _ _ _ h) (Or.inl ⟨by kernel_rfl, ?_⟩) ?_; rotate_left; (· (intro w; go_simp; first | done | with_reducible rfl))
        refine wpAny_take (i := 36) (v := ?_) rfl (by kernel_rfl) (by kernel_rfl) (by kernel_rfl) (fun _ _ _ h => hQ _ _ _ _ _ h) (Or.inl ⟨by kernel_rfl, ?_⟩) ?_; rotate_left; (· (intro w; go_simp; first | done | with_reducible rfl))
        refine wpAny_take (i := 37) (v := ?_) rfl (by kernel_rfl) (by kernel_rfl) (by kernel_rfl) (fun _ _ _ h => hQ _ _ _ _ _ h) (Or.inl ⟨by kernel_rfl, ?_⟩) ?_; rotate_left; (· (intro w; go_simp; first | done | with_reducible rfl))
        refine wpAny_take (i := 39) (v := ?_) rfl (by kernel_rfl) (by kernel_rfl) (by kernel_rfl) (fun _ _ _ h => hQ _ _ _ _ _ h) (Or.inl ⟨by kernel_rfl, ?_⟩) ?_; rotate_left; (· (intro w; go_simp; first | done | with_reducible rfl))
        refine wpAny_ready (rs := [38]) (by kernel_rfl) (by simp) ?_; refine AllReady.cons rfl (fun K hK => ?_) AllReady.nil; go_simp
        refine (HL _ ?_).mono ?_; exact rfl; rintro ee w7 ⟨⟨ao7, cap7, rfl, ht7⟩, hb7'⟩; rw [HC'.out]; have hb7 : Below w6.heap.size w6 w7 := (below_drewN (Below.refl _ w6)).trans hb7'; go_simp; refine hK _ _ ?_; clear hK K
        refine wpAny_ready (rs := [40]) (by kernel_rfl) (by simp) ?_; refine AllReady.cons rfl (fun K hK => ?_) AllReady.nil; go_simp
        refine (HO _ hb7).mono ?_; rintro ee w8 ⟨⟨dp8, cap8, rfl, ht8⟩, m8, rfl⟩; rw [HC'.out]; go_simp; refine hK _ _ ?_; clear hK K
        refine wpAny_ready (rs := [41]) (by kernel_rfl) (by simp) ?_; refine AllReady.cons rfl (fun K hK => ?_) AllReady.nil; go_simp
        refine (HSM ao7 dp8 cap7 cap8 (w7.drewN m8) (RowS.mono ht7.row fun _ _ h => h) (RowS.mono ht8 fun _ _ h => h)).mono ?_; rintro ee w9 ⟨rfl, m9, rfl⟩; go_simp; refine hK _ _ ?_; clear hK K
        refine wpAny_take (i := 42) (v := ?_) rfl (by kernel_rfl) (by kernel_rfl) (by kernel_rfl) (fun _ _ _ h => hQ _ _ _ _ _ h) (Or.inl ⟨by kernel_rfl, ?_⟩) ?_; rotate_left; (· (intro w; go_simp; first | done | with_reducible rfl))
        refine wpAny_take (i := 43) (v := ?_) rfl (by kernel_rfl) (by kernel_rfl) (by kernel_rfl) (fun _ _ _ h => hQ _ _ _ _ _ h) (Or.inl ⟨by kernel_rfl, ?_⟩) ?_; rotate_left; (· (intro w; go_simp; first | done | with_reducible rfl))
        refine wpAny_done (by kernel_rfl) ?_ _
        (go_simp; exact HKK.out _ _ _ _ _ _ _ _ _ _ _ _ _ _ _ _ _ _ _ _ _ _ _ _ _ _ _ _ _ _ _ _ _ _ _ _ _ _ _ _ _ _ _ _ (below_drewN hb7)))))
end Go.Proofs.Ytjmggofcncladaa
