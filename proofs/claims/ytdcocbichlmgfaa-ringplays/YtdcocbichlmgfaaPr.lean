/-
  The walk of the statement RingPlays over this program: the round's last region, which draws its order.
-/
import Derived.Test.YtdcocbichlmgfaaPa
namespace Go.Proofs.Ytdcocbichlmgfaa
open Go Go.RowKit
def regionOf (k : Nat) : Code → Option Code
  | .region n ops d => if n == k then some (.region n ops d) else none
  | .seq a b => match regionOf k a with
    | some c => some c
    | none => regionOf k b
  | .block _ c => regionOf k c
  | .scope c => regionOf k c
  | .loop c => regionOf k c
  | .cond _ a b => match regionOf k a with
    | some c => some c
    | none => regionOf k b
  | _ => none
set_option maxHeartbeats 4000000 in
set_option maxRecDepth 100000 in
theorem reg20 (r q n C qc : Nat) (M : List ByteArray) (qa : Option Addr) (w6 : World) (v0 v1 v2 v3 v4 v7 v8 v10 v11 v12 v13 v14 v15 v16 v17 v18 v19 v20 v21 v22 v23 v24 v25 v26 v27 v28 v29 v30 v31 v32 v33 v34 v35 v36 v37 v38 v39 v40 v41 v42 v43 v44 v45 v46 v47 v48 v49 v50 v51 v52 v53 v54 v55 v56 v57 v58 v59 v60 v61 v62 v63 v64 v65 v66 v67 v68 v69 v70 v71 v72 v73 v74 v75 v76 v77 v78 v79 v80 v81 v82 v83 v84 v85 v86 v87 v88 v89 v90 v91 v92 v93 v94 v95 v96 v97 v98 v99 v100 v101 v102 v103 v104 v105 v106 v107 v108 v109 v110 v111 v112 v113 v114 v115 v116 v117 v118 v119 v120 v121 v122 v123 v124 v125 v126 v127 v128 v129 v130 v131 v132 v133 v134 v135 v136 v137 v138 v139 v140 v141 v142 : Value)
    (c0 : w6.cell? ⟨q, 0, none⟩ = some (.slice qa C qc)) (c1 : w6.cell? ⟨q, 1, none⟩ = some (.int .i64 (n : Int))) (hql : q < w6.heap.size)
    (HN : ∀ W, W.heap = w6.heap → Calls Try.prog 22 #[.pointer (some ⟨r, 0, none⟩)] W fun e w' => e = .returned (.int .i64 (C : Int)) ∧ w' = W)
    (HP : ∀ W, W.heap = w6.heap → Calls Try.prog 23 #[.pointer (some ⟨r, 0, none⟩)] W fun e w' => e = .returned (.int .i64 (n : Int)) ∧ w' = W)
    (HL : ∀ W, W.heap = w6.heap → Calls Try.prog 24 #[.pointer (some ⟨r, 0, none⟩)] W fun e w' => TxRes W.heap.size M e w' ∧ Below W.heap.size W w')
    (hC : M.length = C) (hrow : RowS w6 qa M) (hc6 : C ≤ 64)
    (K : Act → World → Prop) (Q0 : Exit → Act → World → Prop) (hQ : ∀ c d v a w, Q0 (.panic c) (Act.put a d v) w → Q0 (.panic c) a w)
    (hK : ∀ (u112 u113 u114 u115 u116 u117 u118 u119 u120 u121 u122 u123 u124 u125 u126 u127 u128 u129 u130 u131 u132 u133 u134 u135 u136 u137 u138 u139 u140 u141 : Value) (w' : World), Below w6.heap.size w6 w' → K ⟨#[v0, v1, v2, v3, v4, .pointer (some ⟨r, 0, none⟩), .pointer (some ⟨q, 0, none⟩), v7, v8, .bool true, v10, v11, v12, v13, v14, v15, v16, v17, v18, v19, v20, v21, v22, v23, v24, v25, v26, v27, v28, v29, v30, v31, v32, v33, v34, v35, v36, v37, v38, v39, v40, v41, v42, v43, v44, v45, v46, v47, v48, v49, v50, v51, v52, v53, v54, v55, v56, v57, v58, v59, v60, v61, v62, v63, v64, v65, v66, v67, v68, v69, v70, v71, v72, v73, v74, v75, v76, v77, v78, v79, v80, v81, v82, v83, v84, v85, v86, v87, v88, v89, v90, v91, v92, v93, v94, v95, v96, v97, v98, v99, v100, v101, v102, v103, v104, v105, v106, v107, v108, v109, v110, v111, u112, u113, u114, u115, u116, u117, u118, u119, u120, u121, u122, u123, u124, u125, u126, u127, u128, u129, u130, u131, u132, u133, u134, u135, u136, u137, u138, u139, u140, u141, .bool false], []⟩ w') :
    Code.wp Try.prog ((Try.f3.body.bind (regionOf 20)).getD .skip) (Exit.then K Q0) ⟨#[v0, v1, v2, v3, v4, .pointer (some ⟨r, 0, none⟩), .pointer (some ⟨q, 0, none⟩), v7, v8, .bool true, v10, v11, v12, v13, v14, v15, v16, v17, v18, v19, v20, v21, v22, v23, v24, v25, v26, v27, v28, v29, v30, v31, v32, v33, v34, v35, v36, v37, v38, v39, v40, v41, v42, v43, v44, v45, v46, v47, v48, v49, v50, v51, v52, v53, v54, v55, v56, v57, v58, v59, v60, v61, v62, v63, v64, v65, v66, v67, v68, v69, v70, v71, v72, v73, v74, v75, v76, v77, v78, v79, v80, v81, v82, v83, v84, v85, v86, v87, v88, v89, v90, v91, v92, v93, v94, v95, v96, v97, v98, v99, v100, v101, v102, v103, v104, v105, v106, v107, v108, v109, v110, v111, v112, v113, v114, v115, v116, v117, v118, v119, v120, v121, v122, v123, v124, v125, v126, v127, v128, v129, v130, v131, v132, v133, v134, v135, v136, v137, v138, v139, v140, v141, v142], []⟩ w6 := by
  conv => arg 2; whnf
  have HKK : Hid _ := hK
  have HC : Hid _ := hC
  have HROW : Hid _ := hrow
  have HSM := fun (x y : Option Addr) (k1 k2 : Nat) (W : World) h1 h2 => same_any x y k1 k2 M W h1 h2 (by omega)
  rw [hC] at HSM
  clear hK hC hrow
  refine wp_region_any (by kernel_rfl) ?_
  change wpAny _ _ _ _ _ _ _ (World.drew _)
  refine wpAny_take (i := 0) (v := ?_) rfl (by kernel_rfl) (by kernel_rfl) (by kernel_rfl) (fun _ _ _ h => hQ _ _ _ _ _ h) (Or.inl ⟨by kernel_rfl, ?_⟩) ?_; rotate_left; (· (intro w; go_simp; first | done | with_reducible rfl))
  refine wpAny_take (i := 1) (v := ?_) rfl (by kernel_rfl) (by kernel_rfl) (by kernel_rfl) (fun _ _ _ h => hQ _ _ _ _ _ h) (Or.inl ⟨by kernel_rfl, ?_⟩) ?_; rotate_left; (· (intro w; go_simp; first | done | with_reducible rfl))
  refine wpAny_take (i := 2) (v := ?_) rfl (by kernel_rfl) (by kernel_rfl) (by kernel_rfl) (fun _ _ _ h => hQ _ _ _ _ _ h) (Or.inl ⟨by kernel_rfl, ?_⟩) ?_; rotate_left; (· (intro w; go_simp; first | done | with_reducible rfl))
  refine wpAny_take (i := 3) (v := ?_) rfl (by kernel_rfl) (by kernel_rfl) (by kernel_rfl) (fun _ _ _ h => hQ _ _ _ _ _ h) (Or.inl ⟨by kernel_rfl, ?_⟩) ?_; rotate_left; (· (intro w; go_simp; first | done | with_reducible rfl))
  refine wpAny_take (i := 5) (v := ?_) rfl (by kernel_rfl) (by kernel_rfl) (by kernel_rfl) (fun _ _ _ h => hQ _ _ _ _ _ h) (Or.inl ⟨by kernel_rfl, ?_⟩) ?_; rotate_left; (· (intro w; go_simp; first | done | with_reducible rfl))
  refine wpAny_take (i := 6) (v := ?_) rfl (by kernel_rfl) (by kernel_rfl) (by kernel_rfl) (fun _ _ _ h => hQ _ _ _ _ _ h) (Or.inl ⟨by kernel_rfl, ?_⟩) ?_; rotate_left; (· (intro w; go_simp; first | done | with_reducible rfl))
  refine wpAny_take (i := 7) (v := ?_) rfl (by kernel_rfl) (by kernel_rfl) (by kernel_rfl) (fun _ _ _ h => hQ _ _ _ _ _ h) (Or.inl ⟨by kernel_rfl, ?_⟩) ?_; rotate_left; (· (intro w; go_simp; first | done | with_reducible rfl))
  refine wpAny_ready (rs := [4, 8]) (by kernel_rfl) (by simp) ?_
  refine AllReady.cons rfl (fun K hK => ?_) (AllReady.cons rfl (fun K hK => ?_) AllReady.nil)
  (go_simp; refine (HN w6.drew rfl).mono ?_; rintro ee ww ⟨rfl, rfl⟩; go_simp; refine hK _ _ ?_; clear hK K; refine wpAny_ready (rs := [8]) (by kernel_rfl) (by simp) ?_; refine AllReady.cons rfl (fun K hK => ?_) AllReady.nil; go_simp; refine hK _ _ ?_; clear hK K; refine wpAny_take (i := 9) (v := ?_) rfl (by kernel_rfl) (by kernel_rfl) (by kernel_rfl) (fun _ _ _ h => hQ _ _ _ _ _ h) (Or.inl ⟨by kernel_rfl, ?_⟩) ?_; rotate_left; (· (intro w; go_simp; first | done | with_reducible rfl)))
  rotate_left
  (go_simp; refine hK _ _ ?_; clear hK K; refine wpAny_take (i := 9) (v := ?_) rfl (by kernel_rfl) (by kernel_rfl) (by kernel_rfl) (fun _ _ _ h => hQ _ _ _ _ _ h) (Or.inl ⟨by kernel_rfl, ?_⟩) ?_; rotate_left; (· (intro w; go_simp; first | done | with_reducible rfl)); refine wpAny_ready (rs := [4]) (by kernel_rfl) (by simp) ?_; refine AllReady.cons rfl (fun K hK => ?_) AllReady.nil; go_simp; refine (HN w6.drew rfl).mono ?_; rintro ee ww ⟨rfl, rfl⟩; go_simp; refine hK _ _ ?_; clear hK K)
  all_goals (
    refine wpAny_take (i := 10) (v := ?_) rfl (by kernel_rfl) (by kernel_rfl) (by kernel_rfl) (fun _ _ _ h => hQ _ _ _ _ _ h) (Or.inl ⟨by kernel_rfl, ?_⟩) ?_; rotate_left; (· (intro w; go_simp; first | done | with_reducible rfl))
    refine wpAny_take (i := 11) (v := ?_) rfl (by kernel_rfl) (by kernel_rfl) (by kernel_rfl) (fun _ _ _ h => hQ _ _ _ _ _ h) (Or.inl ⟨by kernel_rfl, ?_⟩) ?_; rotate_left; (· (intro w; go_simp; first | done | with_reducible rfl))
    refine wpAny_take (i := 12) (v := ?_) rfl (by kernel_rfl) (by kernel_rfl) (by kernel_rfl) (fun _ _ _ h => hQ _ _ _ _ _ h) (Or.inl ⟨by kernel_rfl, ?_⟩) ?_; rotate_left; (· (intro w; go_simp; first | done | with_reducible rfl))
    refine wpAny_take (i := 13) (v := ?_) rfl (by kernel_rfl) (by kernel_rfl) (by kernel_rfl) (fun _ _ _ h => hQ _ _ _ _ _ h) (Or.inl ⟨by kernel_rfl, ?_⟩) ?_; rotate_left; (· (intro w; go_simp; first | done | with_reducible rfl))
    refine wpAny_take (i := 15) (v := ?_) rfl (by kernel_rfl) (by kernel_rfl) (by kernel_rfl) (fun _ _ _ h => hQ _ _ _ _ _ h) (Or.inl ⟨by kernel_rfl, ?_⟩) ?_; rotate_left; (· (intro w; go_simp; first | done | with_reducible rfl))
    refine wpAny_take (i := 16) (v := ?_) rfl (by kernel_rfl) (by kernel_rfl) (by kernel_rfl) (fun _ _ _ h => hQ _ _ _ _ _ h) (Or.inl ⟨by kernel_rfl, ?_⟩) ?_; rotate_left; (· (intro w; go_simp; first | done | with_reducible rfl))
    refine wpAny_take (i := 17) (v := ?_) rfl (by kernel_rfl) (by kernel_rfl) (by kernel_rfl) (fun _ _ _ h => hQ _ _ _ _ _ h) (Or.inl ⟨by kernel_rfl, ?_⟩) ?_; rotate_left; (· (intro w; go_simp; first | done | with_reducible rfl))
    refine wpAny_ready (rs := [14, 18]) (by kernel_rfl) (by simp) ?_
    refine AllReady.cons rfl (fun K hK => ?_) (AllReady.cons rfl (fun K hK => ?_) AllReady.nil)
    (go_simp; refine (HP w6.drew rfl).mono ?_; rintro ee ww ⟨rfl, rfl⟩; go_simp; refine hK _ _ ?_; clear hK K; refine wpAny_ready (rs := [18]) (by kernel_rfl) (by simp) ?_; refine AllReady.cons rfl (fun K hK => ?_) AllReady.nil; go_simp; refine hK _ _ ?_; clear hK K)
    rotate_left
    (go_simp; refine hK _ _ ?_; clear hK K; refine wpAny_ready (rs := [14]) (by kernel_rfl) (by simp) ?_; refine AllReady.cons rfl (fun K hK => ?_) AllReady.nil; go_simp; refine (HP w6.drew rfl).mono ?_; rintro ee ww ⟨rfl, rfl⟩; go_simp; refine hK _ _ ?_; clear hK K)
    all_goals (
      refine wpAny_take (i := 19) (v := ?_) rfl (by kernel_rfl) (by kernel_rfl) (by kernel_rfl) (fun _ _ _ h => hQ _ _ _ _ _ h) (Or.inl ⟨by kernel_rfl, ?_⟩) ?_; rotate_left; (· (intro w; go_simp; first | done | with_reducible rfl))
      refine wpAny_take (i := 20) (v := ?_) rfl (by kernel_rfl) (by kernel_rfl) (by kernel_rfl) (fun _ _ _ h => hQ _ _ _ _ _ h) (Or.inl ⟨by kernel_rfl, ?_⟩) ?_; rotate_left; (· (intro w; go_simp; first | done | with_reducible rfl))
      refine wpAny_take (i := 21) (v := ?_) rfl (by kernel_rfl) (by kernel_rfl) (by kernel_rfl) (fun _ _ _ h => hQ _ _ _ _ _ h) (Or.inl ⟨by kernel_rfl, ?_⟩) ?_; rotate_left; (· (intro w; go_simp; first | done | with_reducible rfl))
      refine wpAny_take (i := 22) (v := ?_) rfl (by kernel_rfl) (by kernel_rfl) (by kernel_rfl) (fun _ _ _ h => hQ _ _ _ _ _ h) (Or.inl ⟨by kernel_rfl, ?_⟩) ?_; rotate_left; (· (intro w; go_simp; first | done | with_reducible rfl))
      refine wpAny_take (i := 24) (v := ?_) rfl (by kernel_rfl) (by kernel_rfl) (by kernel_rfl) (fun _ _ _ h => hQ _ _ _ _ _ h) (Or.inl ⟨by kernel_rfl, ?_⟩) ?_; rotate_left; (· (intro w; go_simp; first | done | with_reducible rfl))
      refine wpAny_take (i := 25) (v := ?_) rfl (by kernel_rfl) (by kernel_rfl) (by kernel_rfl) (fun _ _ _ h => hQ _ _ _ _ _ h) (Or.inl ⟨by kernel_rfl, ?_⟩) ?_; rotate_left; (· (intro w; go_simp; first | done | with_reducible rfl))
      refine wpAny_take (i := 26) (v := ?_) rfl (by kernel_rfl) (by kernel_rfl) (by kernel_rfl) (fun _ _ _ h => hQ _ _ _ _ _ h) (Or.inl ⟨by kernel_rfl, ?_⟩) ?_; rotate_left; (· (intro w; go_simp; first | done | with_reducible rfl))
      refine wpAny_ready (rs := [23, 27]) (by kernel_rfl) (by simp) ?_
      refine AllReady.cons rfl (fun K hK => ?_) (AllReady.cons rfl (fun K hK => ?_) AllReady.nil)
      (go_simp; refine (HL w6.drew rfl).mono ?_; rintro ee w7 ⟨⟨ao7, cap7, rfl, ht7⟩, hb7'⟩; rw [HC.out]; have hb7 : Below w6.heap.size w6 w7 := (Below.refl _ w6).drew.trans hb7'; have c0r : w7.cell? ⟨q, 0, none⟩ = some (.slice qa C qc) := (hb7.cell (p := ⟨q, 0, none⟩) hql).trans c0; go_simp; refine hK _ _ ?_; clear hK K; refine wpAny_ready (rs := [27]) (by kernel_rfl) (by simp) ?_; refine AllReady.cons rfl (fun K hK => ?_) AllReady.nil; go_simp; refine hK _ _ ?_; clear hK K)
      rotate_left
      (go_simp; refine hK _ _ ?_; clear hK K; refine wpAny_ready (rs := [23]) (by kernel_rfl) (by simp) ?_; refine AllReady.cons rfl (fun K hK => ?_) AllReady.nil; go_simp; refine (HL w6.drew rfl).mono ?_; rintro ee w7 ⟨⟨ao7, cap7, rfl, ht7⟩, hb7'⟩; rw [HC.out]; have hb7 : Below w6.heap.size w6 w7 := (Below.refl _ w6).drew.trans hb7'; have c0r : w7.cell? ⟨q, 0, none⟩ = some (.slice qa C qc) := (hb7.cell (p := ⟨q, 0, none⟩) hql).trans c0; go_simp; refine hK _ _ ?_; clear hK K)
      all_goals (
        refine wpAny_ready (rs := [28]) (by kernel_rfl) (by simp) ?_; refine AllReady.cons rfl (fun K hK => ?_) AllReady.nil; go_simp
        refine (HSM ao7 qa cap7 qc w7 ht7.row (RowS.below HROW.out hb7)).mono ?_; rintro ee w8 ⟨rfl, mm, rfl⟩; go_simp; refine hK _ _ ?_; clear hK K
        refine wpAny_take (i := 29) (v := ?_) rfl (by kernel_rfl) (by kernel_rfl) (by kernel_rfl) (fun _ _ _ h => hQ _ _ _ _ _ h) (Or.inl ⟨by kernel_rfl, ?_⟩) ?_; rotate_left; (· (intro w; go_simp; first | done | with_reducible rfl))
        refine wpAny_take (i := 30) (v := ?_) rfl (by kernel_rfl) (by kernel_rfl) (by kernel_rfl) (fun _ _ _ h => hQ _ _ _ _ _ h) (Or.inl ⟨by kernel_rfl, ?_⟩) ?_; rotate_left; (· (intro w; go_simp; first | done | with_reducible rfl))
        refine wpAny_done (by kernel_rfl) ?_ _
        (go_simp; exact HKK.out _ _ _ _ _ _ _ _ _ _ _ _ _ _ _ _ _ _ _ _ _ _ _ _ _ _ _ _ _ _ _ (below_drewN hb7)))))
end Go.Proofs.Ytdcocbichlmgfaa
