/-
  The walk of the statement PactBoth over this program.
-/
import Derived.Test.YtojeeopmhogolaaDoorPcq
namespace Go.Proofs.YtojeeopmhogolaaDoor
open Go Go.RowKit Go.Sort
set_option maxHeartbeats 4000000 in
theorem bothS_ok (x y act a0 b0 : Int) (p q r s a b u v f xp xq xa xb yp yq ya yb a1 a2 b1 b2 : Bool) (w : World) (hN : Names w) (k1 : ¬ act < 1) (k2 : ¬ 4 < act) 
    (H19 : ∀ W, Calls Tryd.prog 19 #[.agg #[.int .i64 x, .bool a, .bool b], .agg #[.int .i64 y, .bool u, .bool v], .int .i64 act] W fun e w' => e = .returned (.tuple #[.agg #[.int .i64 a0, .bool a1, .bool a2], .agg #[.int .i64 b0, .bool b1, .bool b2], .int .i64 0]) ∧ Below W.heap.size W w')
    (H10 : ∀ W, Calls Tryd.prog 10 #[.int .i64 x, .bool a, .bool b] W fun e w' => e = .returned (.tuple #[.agg #[.bool p, .bool q, .bool a, .bool b], .bool true]) ∧ Below W.heap.size W w')
    (H10' : ∀ W, Calls Tryd.prog 10 #[.int .i64 y, .bool u, .bool v] W fun e w' => e = .returned (.tuple #[.agg #[.bool r, .bool s, .bool u, .bool v], .bool true]) ∧ Below W.heap.size W w')
    (H20 : ∀ W, Calls Tryd.prog 20 #[.agg #[.int .i64 x, .bool a, .bool b], .agg #[.int .i64 y, .bool u, .bool v]] W fun e w' => e = .returned (.bool f) ∧ Below W.heap.size W w') (H21 : ∀ W, Calls Tryd.prog 21 #[.agg #[.bool p, .bool q, .bool a, .bool b], .agg #[.bool r, .bool s, .bool u, .bool v]] W fun e w' => e = .returned (.bool f) ∧ Below W.heap.size W w')
    (H22 : ∀ W, Calls Tryd.prog 22 #[.agg #[.bool p, .bool q, .bool a, .bool b], .agg #[.bool r, .bool s, .bool u, .bool v], .int .i64 act] W fun e w' => e = .returned (.tuple #[.agg #[.bool xp, .bool xq, .bool xa, .bool xb], .agg #[.bool yp, .bool yq, .bool ya, .bool yb]]) ∧ Below W.heap.size W w')
    (H18 : ∀ W, Calls Tryd.prog 18 #[.agg #[.bool xp, .bool xq, .bool xa, .bool xb]] W fun e w' => e = .returned (.agg #[.int .i64 a0, .bool a1, .bool a2]) ∧ Below W.heap.size W w') (H18' : ∀ W, Calls Tryd.prog 18 #[.agg #[.bool yp, .bool yq, .bool ya, .bool yb]] W fun e w' => e = .returned (.agg #[.int .i64 b0, .bool b1, .bool b2]) ∧ Below W.heap.size W w') :
    Calls Tryd.prog 4 #[.agg #[.int .i64 x, .bool a, .bool b], .agg #[.int .i64 y, .bool u, .bool v], .int .i64 act] w fun e w' => e = .returned (.bool true) ∧ Below w.heap.size w w' := by
  have HN : Hid (Names w) := hN
  clear hN
  go_enter Tryd.func4, Tryd.ntmps4
  go_wp2_with fail
  have HS : Hid (Blk w.heap.size #[.int .i64 x, .bool a, .bool b] 23 ((w.alloc (.cells #[.int .i64 x, .bool a, .bool b] 23)).alloc (.cells #[.int .i64 y, .bool u, .bool v] 23))) := Blk.new1 _ _ _ _
  have HT : Hid (Blk (w.heap.size + 1) #[.int .i64 y, .bool u, .bool v] 23 ((w.alloc (.cells #[.int .i64 x, .bool a, .bool b] 23)).alloc (.cells #[.int .i64 y, .bool u, .bool v] 23))) := Blk.new2 _ _ _ _
  have HW : Hid (Below w.heap.size w ((w.alloc (.cells #[.int .i64 x, .bool a, .bool b] 23)).alloc (.cells #[.int .i64 y, .bool u, .bool v] 23))) := below2 _ _ _
  refine (lives_any _ (HN.out.below HW.out)).mono ?_
  rintro e w1 ⟨rfl, hb⟩
  replace HW : Hid (Below w.heap.size w w1) := HW.out.trans (hb.mono HW.out.size)
  replace HS : Hid (Blk w.heap.size #[.int .i64 x, .bool a, .bool b] 23 w1) := HS.out.below hb
  replace HT : Hid (Blk (w.heap.size + 1) #[.int .i64 y, .bool u, .bool v] 23 w1) := HT.out.below hb
  clear hb
  obtain ⟨S_0, S_1, S_2, _⟩ := blk3 HS.out
  have S_l : w.heap.size < w1.heap.size := HS.out.lt
  obtain ⟨T_0, T_1, T_2, _⟩ := blk3 HT.out
  have T_l : w.heap.size + 1 < w1.heap.size := HT.out.lt
  go_wp2_with fail
  refine (H19 _).mono ?_
  rintro e w2 ⟨rfl, hb⟩
  clear S_0 S_1 S_2 S_l
  clear T_0 T_1 T_2 T_l
  replace HW : Hid (Below w.heap.size w w2) := HW.out.trans (hb.mono HW.out.size)
  replace HS : Hid (Blk w.heap.size #[.int .i64 x, .bool a, .bool b] 23 w2) := HS.out.below hb
  replace HT : Hid (Blk (w.heap.size + 1) #[.int .i64 y, .bool u, .bool v] 23 w2) := HT.out.below hb
  clear hb
  obtain ⟨S_0, S_1, S_2, _⟩ := blk3 HS.out
  have S_l : w.heap.size < w2.heap.size := HS.out.lt
  obtain ⟨T_0, T_1, T_2, _⟩ := blk3 HT.out
  have T_l : w.heap.size + 1 < w2.heap.size := HT.out.lt
  go_wp2_with fail
  refine (H10 _).mono ?_
  rintro e w3 ⟨rfl, hb⟩
  have HA : Hid (Blk w2.heap.size #[.int .i64 a0, .bool a1, .bool a2] 23 w3) := (Blk.new1 w2 _ _ _).below hb
  have HB : Hid (Blk (w2.heap.size + 1) #[.int .i64 b0, .bool b1, .bool b2] 23 w3) := (Blk.new2 w2 _ _ _).below hb
  replace hb : Below w2.heap.size w2 w3 := (below2 _ _ _).trans (hb.mono (below2 _ _ _).size)
  clear S_0 S_1 S_2 S_l
  clear T_0 T_1 T_2 T_l
  replace HW : Hid (Below w.heap.size w w3) := HW.out.trans (hb.mono HW.out.size)
  replace HS : Hid (Blk w.heap.size #[.int .i64 x, .bool a, .bool b] 23 w3) := HS.out.below hb
  replace HT : Hid (Blk (w.heap.size + 1) #[.int .i64 y, .bool u, .bool v] 23 w3) := HT.out.below hb
  clear hb
  obtain ⟨S_0, S_1, S_2, _⟩ := blk3 HS.out
  have S_l : w.heap.size < w3.heap.size := HS.out.lt
  obtain ⟨T_0, T_1, T_2, _⟩ := blk3 HT.out
  have T_l : w.heap.size + 1 < w3.heap.size := HT.out.lt
  obtain ⟨A_0, A_1, A_2, _⟩ := blk3 HA.out
  have A_l : w2.heap.size < w3.heap.size := HA.out.lt
  obtain ⟨B_0, B_1, B_2, _⟩ := blk3 HB.out
  have B_l : w2.heap.size + 1 < w3.heap.size := HB.out.lt
  go_wp2_with fail
  refine (H10' _).mono ?_
  rintro e w4 ⟨rfl, hb⟩
  have HR : Hid (Blk w3.heap.size #[.bool p, .bool q, .bool a, .bool b] 26 w4) := (Blk.new w3 _ _).below hb
  replace hb : Below w3.heap.size w3 w4 := (bw0 _ _).trans (hb.mono (bw0 _ _).size)
  clear S_0 S_1 S_2 S_l
  clear T_0 T_1 T_2 T_l
  clear A_0 A_1 A_2 A_l
  clear B_0 B_1 B_2 B_l
  replace HW : Hid (Below w.heap.size w w4) := HW.out.trans (hb.mono HW.out.size)
  replace HS : Hid (Blk w.heap.size #[.int .i64 x, .bool a, .bool b] 23 w4) := HS.out.below hb
  replace HT : Hid (Blk (w.heap.size + 1) #[.int .i64 y, .bool u, .bool v] 23 w4) := HT.out.below hb
  replace HA : Hid (Blk w2.heap.size #[.int .i64 a0, .bool a1, .bool a2] 23 w4) := HA.out.below hb
  replace HB : Hid (Blk (w2.heap.size + 1) #[.int .i64 b0, .bool b1, .bool b2] 23 w4) := HB.out.below hb
  clear hb
  obtain ⟨S_0, S_1, S_2, _⟩ := blk3 HS.out
  have S_l : w.heap.size < w4.heap.size := HS.out.lt
  obtain ⟨T_0, T_1, T_2, _⟩ := blk3 HT.out
  have T_l : w.heap.size + 1 < w4.heap.size := HT.out.lt
  obtain ⟨A_0, A_1, A_2, _⟩ := blk3 HA.out
  have A_l : w2.heap.size < w4.heap.size := HA.out.lt
  obtain ⟨B_0, B_1, B_2, _⟩ := blk3 HB.out
  have B_l : w2.heap.size + 1 < w4.heap.size := HB.out.lt
  obtain ⟨R_0, R_1, R_2, R_3, _⟩ := blk4 HR.out
  have R_l : w3.heap.size < w4.heap.size := HR.out.lt
  go_wp2_with fail
  obtain ⟨W5, hW5⟩ : ∃ W5, w4.alloc (.cells #[.bool r, .bool s, .bool u, .bool v] 26) = W5 := ⟨_, rfl⟩
  have hb : Below w4.heap.size w4 W5 := by rw [← hW5]; exact bw0 _ _
  have HQ : Hid (Blk w4.heap.size #[.bool r, .bool s, .bool u, .bool v] 26 W5) := by show Blk _ _ _ _; rw [← hW5]; exact Blk.new _ _ _
  rw [hW5]
  clear hW5
  clear S_0 S_1 S_2 S_l
  clear T_0 T_1 T_2 T_l
  clear A_0 A_1 A_2 A_l
  clear B_0 B_1 B_2 B_l
  clear R_0 R_1 R_2 R_3 R_l
  replace HW : Hid (Below w.heap.size w W5) := HW.out.trans (hb.mono HW.out.size)
  replace HS : Hid (Blk w.heap.size #[.int .i64 x, .bool a, .bool b] 23 W5) := HS.out.below hb
  replace HT : Hid (Blk (w.heap.size + 1) #[.int .i64 y, .bool u, .bool v] 23 W5) := HT.out.below hb
  replace HA : Hid (Blk w2.heap.size #[.int .i64 a0, .bool a1, .bool a2] 23 W5) := HA.out.below hb
  replace HB : Hid (Blk (w2.heap.size + 1) #[.int .i64 b0, .bool b1, .bool b2] 23 W5) := HB.out.below hb
  replace HR : Hid (Blk w3.heap.size #[.bool p, .bool q, .bool a, .bool b] 26 W5) := HR.out.below hb
  clear hb
  obtain ⟨S_0, S_1, S_2, _⟩ := blk3 HS.out
  have S_l : w.heap.size < W5.heap.size := HS.out.lt
  obtain ⟨T_0, T_1, T_2, _⟩ := blk3 HT.out
  have T_l : w.heap.size + 1 < W5.heap.size := HT.out.lt
  obtain ⟨A_0, A_1, A_2, _⟩ := blk3 HA.out
  have A_l : w2.heap.size < W5.heap.size := HA.out.lt
  obtain ⟨B_0, B_1, B_2, _⟩ := blk3 HB.out
  have B_l : w2.heap.size + 1 < W5.heap.size := HB.out.lt
  obtain ⟨R_0, R_1, R_2, R_3, _⟩ := blk4 HR.out
  have R_l : w3.heap.size < W5.heap.size := HR.out.lt
  obtain ⟨Q_0, Q_1, Q_2, Q_3, _⟩ := blk4 HQ.out
  have Q_l : w4.heap.size < W5.heap.size := HQ.out.lt
  have c20 : ∀ d os, Calls Tryd.prog 20 #[.agg #[.int .i64 x, .bool a, .bool b], .agg #[.int .i64 y, .bool u, .bool v]] (grow (redrawn W5 d) os) fun e w'' => e = .returned (.bool f) ∧ ∃ p : Regrown, w'' = grow (redrawn W5 p.d) p.os := fun d os => Calls.regrown_of (H20 _)
  have c21 : ∀ d os, Calls Tryd.prog 21 #[.agg #[.bool p, .bool q, .bool a, .bool b], .agg #[.bool r, .bool s, .bool u, .bool v]] (grow (redrawn W5 d) os) fun e w'' => e = .returned (.bool f) ∧ ∃ p : Regrown, w'' = grow (redrawn W5 p.d) p.os := fun d os => Calls.regrown_of (H21 _)
  have S_k0 := cell_regrown S_0
  have S_k1 := cell_regrown S_1
  have S_k2 := cell_regrown S_2
  have T_k0 := cell_regrown T_0
  have T_k1 := cell_regrown T_1
  have T_k2 := cell_regrown T_2
  have A_k0 := cell_regrown A_0
  have A_k1 := cell_regrown A_1
  have A_k2 := cell_regrown A_2
  have B_k0 := cell_regrown B_0
  have B_k1 := cell_regrown B_1
  have B_k2 := cell_regrown B_2
  have R_k0 := cell_regrown R_0
  have R_k1 := cell_regrown R_1
  have R_k2 := cell_regrown R_2
  have R_k3 := cell_regrown R_3
  have Q_k0 := cell_regrown Q_0
  have Q_k1 := cell_regrown Q_1
  have Q_k2 := cell_regrown Q_2
  have Q_k3 := cell_regrown Q_3
  clear S_0 S_1 S_2 T_0 T_1 T_2 A_0 A_1 A_2 B_0 B_1 B_2 R_0 R_1 R_2 R_3 Q_0 Q_1 Q_2 Q_3
  refine wp_region_quiet_below (by kernel_rfl) (by kernel_rfl) ?_
  repeat (quiet_step (first | (go_at_call 20; exact c20 _ _) | (go_at_call 21; exact c21 _ _)))
  refine wpQuiet_nil ?_
  intro _ hw'
  obtain ⟨⟨dq, osq⟩, hw''⟩ := hw'
  subst hw''
  have hb := below_regrown W5 dq osq
  obtain ⟨w5, hw5⟩ : ∃ w5, grow (redrawn W5 dq) osq = w5 := ⟨_, rfl⟩
  rw [hw5] at hb ⊢
  clear hw5 S_k0 S_k1 S_k2 T_k0 T_k1 T_k2 A_k0 A_k1 A_k2 B_k0 B_k1 B_k2 R_k0 R_k1 R_k2 R_k3 Q_k0 Q_k1 Q_k2 Q_k3 c20 c21 S_l T_l A_l B_l R_l Q_l
  replace HW : Hid (Below w.heap.size w w5) := HW.out.trans (hb.mono HW.out.size)
  replace HS : Hid (Blk w.heap.size #[.int .i64 x, .bool a, .bool b] 23 w5) := HS.out.below hb
  replace HT : Hid (Blk (w.heap.size + 1) #[.int .i64 y, .bool u, .bool v] 23 w5) := HT.out.below hb
  replace HA : Hid (Blk w2.heap.size #[.int .i64 a0, .bool a1, .bool a2] 23 w5) := HA.out.below hb
  replace HB : Hid (Blk (w2.heap.size + 1) #[.int .i64 b0, .bool b1, .bool b2] 23 w5) := HB.out.below hb
  replace HR : Hid (Blk w3.heap.size #[.bool p, .bool q, .bool a, .bool b] 26 w5) := HR.out.below hb
  replace HQ : Hid (Blk w4.heap.size #[.bool r, .bool s, .bool u, .bool v] 26 w5) := HQ.out.below hb
  clear hb
  obtain ⟨S_0, S_1, S_2, _⟩ := blk3 HS.out
  have S_l : w.heap.size < w5.heap.size := HS.out.lt
  obtain ⟨T_0, T_1, T_2, _⟩ := blk3 HT.out
  have T_l : w.heap.size + 1 < w5.heap.size := HT.out.lt
  obtain ⟨A_0, A_1, A_2, _⟩ := blk3 HA.out
  have A_l : w2.heap.size < w5.heap.size := HA.out.lt
  obtain ⟨B_0, B_1, B_2, _⟩ := blk3 HB.out
  have B_l : w2.heap.size + 1 < w5.heap.size := HB.out.lt
  obtain ⟨R_0, R_1, R_2, R_3, _⟩ := blk4 HR.out
  have R_l : w3.heap.size < w5.heap.size := HR.out.lt
  obtain ⟨Q_0, Q_1, Q_2, Q_3, _⟩ := blk4 HQ.out
  have Q_l : w4.heap.size < w5.heap.size := HQ.out.lt
  go_wp2_with fail
  refine (H22 _).mono ?_
  rintro e w6 ⟨rfl, hb⟩
  clear S_0 S_1 S_2 S_l
  clear T_0 T_1 T_2 T_l
  clear A_0 A_1 A_2 A_l
  clear B_0 B_1 B_2 B_l
  clear R_0 R_1 R_2 R_3 R_l
  clear Q_0 Q_1 Q_2 Q_3 Q_l
  replace HW : Hid (Below w.heap.size w w6) := HW.out.trans (hb.mono HW.out.size)
  replace HS : Hid (Blk w.heap.size #[.int .i64 x, .bool a, .bool b] 23 w6) := HS.out.below hb
  replace HT : Hid (Blk (w.heap.size + 1) #[.int .i64 y, .bool u, .bool v] 23 w6) := HT.out.below hb
  replace HA : Hid (Blk w2.heap.size #[.int .i64 a0, .bool a1, .bool a2] 23 w6) := HA.out.below hb
  replace HB : Hid (Blk (w2.heap.size + 1) #[.int .i64 b0, .bool b1, .bool b2] 23 w6) := HB.out.below hb
  replace HR : Hid (Blk w3.heap.size #[.bool p, .bool q, .bool a, .bool b] 26 w6) := HR.out.below hb
  replace HQ : Hid (Blk w4.heap.size #[.bool r, .bool s, .bool u, .bool v] 26 w6) := HQ.out.below hb
  clear hb
  obtain ⟨S_0, S_1, S_2, _⟩ := blk3 HS.out
  have S_l : w.heap.size < w6.heap.size := HS.out.lt
  obtain ⟨T_0, T_1, T_2, _⟩ := blk3 HT.out
  have T_l : w.heap.size + 1 < w6.heap.size := HT.out.lt
  obtain ⟨A_0, A_1, A_2, _⟩ := blk3 HA.out
  have A_l : w2.heap.size < w6.heap.size := HA.out.lt
  obtain ⟨B_0, B_1, B_2, _⟩ := blk3 HB.out
  have B_l : w2.heap.size + 1 < w6.heap.size := HB.out.lt
  obtain ⟨R_0, R_1, R_2, R_3, _⟩ := blk4 HR.out
  have R_l : w3.heap.size < w6.heap.size := HR.out.lt
  obtain ⟨Q_0, Q_1, Q_2, Q_3, _⟩ := blk4 HQ.out
  have Q_l : w4.heap.size < w6.heap.size := HQ.out.lt
  go_wp2_with fail
  obtain ⟨W7, hW7⟩ : ∃ W7, (w6.alloc (.cells #[.bool xp, .bool xq, .bool xa, .bool xb] 26)).alloc (.cells #[.bool yp, .bool yq, .bool ya, .bool yb] 26) = W7 := ⟨_, rfl⟩
  have hb : Below w6.heap.size w6 W7 := by rw [← hW7]; exact below2 _ _ _
  have HX : Hid (Blk w6.heap.size #[.bool xp, .bool xq, .bool xa, .bool xb] 26 W7) := by show Blk _ _ _ _; rw [← hW7]; exact Blk.new1 _ _ _ _
  have HY : Hid (Blk (w6.heap.size + 1) #[.bool yp, .bool yq, .bool ya, .bool yb] 26 W7) := by show Blk _ _ _ _; rw [← hW7]; exact Blk.new2 _ _ _ _
  rw [hW7]
  clear hW7
  clear S_0 S_1 S_2 S_l
  clear T_0 T_1 T_2 T_l
  clear A_0 A_1 A_2 A_l
  clear B_0 B_1 B_2 B_l
  clear R_0 R_1 R_2 R_3 R_l
  clear Q_0 Q_1 Q_2 Q_3 Q_l
  replace HW : Hid (Below w.heap.size w W7) := HW.out.trans (hb.mono HW.out.size)
  replace HS : Hid (Blk w.heap.size #[.int .i64 x, .bool a, .bool b] 23 W7) := HS.out.below hb
  replace HT : Hid (Blk (w.heap.size + 1) #[.int .i64 y, .bool u, .bool v] 23 W7) := HT.out.below hb
  replace HA : Hid (Blk w2.heap.size #[.int .i64 a0, .bool a1, .bool a2] 23 W7) := HA.out.below hb
  replace HB : Hid (Blk (w2.heap.size + 1) #[.int .i64 b0, .bool b1, .bool b2] 23 W7) := HB.out.below hb
  replace HR : Hid (Blk w3.heap.size #[.bool p, .bool q, .bool a, .bool b] 26 W7) := HR.out.below hb
  replace HQ : Hid (Blk w4.heap.size #[.bool r, .bool s, .bool u, .bool v] 26 W7) := HQ.out.below hb
  clear hb
  obtain ⟨S_0, S_1, S_2, _⟩ := blk3 HS.out
  have S_l : w.heap.size < W7.heap.size := HS.out.lt
  obtain ⟨T_0, T_1, T_2, _⟩ := blk3 HT.out
  have T_l : w.heap.size + 1 < W7.heap.size := HT.out.lt
  obtain ⟨A_0, A_1, A_2, _⟩ := blk3 HA.out
  have A_l : w2.heap.size < W7.heap.size := HA.out.lt
  obtain ⟨B_0, B_1, B_2, _⟩ := blk3 HB.out
  have B_l : w2.heap.size + 1 < W7.heap.size := HB.out.lt
  obtain ⟨R_0, R_1, R_2, R_3, _⟩ := blk4 HR.out
  have R_l : w3.heap.size < W7.heap.size := HR.out.lt
  obtain ⟨Q_0, Q_1, Q_2, Q_3, _⟩ := blk4 HQ.out
  have Q_l : w4.heap.size < W7.heap.size := HQ.out.lt
  obtain ⟨X_0, X_1, X_2, X_3, _⟩ := blk4 HX.out
  have X_l : w6.heap.size < W7.heap.size := HX.out.lt
  obtain ⟨Y_0, Y_1, Y_2, Y_3, _⟩ := blk4 HY.out
  have Y_l : w6.heap.size + 1 < W7.heap.size := HY.out.lt
  have c18 : ∀ d os, Calls Tryd.prog 18 #[.agg #[.bool xp, .bool xq, .bool xa, .bool xb]] (grow (redrawn W7 d) os) fun e w'' => e = .returned (.agg #[.int .i64 a0, .bool a1, .bool a2]) ∧ ∃ p : Regrown, w'' = grow (redrawn W7 p.d) p.os := fun d os => Calls.regrown_of (H18 _)
  have c18b : ∀ d os, Calls Tryd.prog 18 #[.agg #[.bool yp, .bool yq, .bool ya, .bool yb]] (grow (redrawn W7 d) os) fun e w'' => e = .returned (.agg #[.int .i64 b0, .bool b1, .bool b2]) ∧ ∃ p : Regrown, w'' = grow (redrawn W7 p.d) p.os := fun d os => Calls.regrown_of (H18' _)
  have S_k0 := cell_regrown S_0
  have S_k1 := cell_regrown S_1
  have S_k2 := cell_regrown S_2
  have T_k0 := cell_regrown T_0
  have T_k1 := cell_regrown T_1
  have T_k2 := cell_regrown T_2
  have A_k0 := cell_regrown A_0
  have A_k1 := cell_regrown A_1
  have A_k2 := cell_regrown A_2
  have B_k0 := cell_regrown B_0
  have B_k1 := cell_regrown B_1
  have B_k2 := cell_regrown B_2
  have R_k0 := cell_regrown R_0
  have R_k1 := cell_regrown R_1
  have R_k2 := cell_regrown R_2
  have R_k3 := cell_regrown R_3
  have Q_k0 := cell_regrown Q_0
  have Q_k1 := cell_regrown Q_1
  have Q_k2 := cell_regrown Q_2
  have Q_k3 := cell_regrown Q_3
  have X_k0 := cell_regrown X_0
  have X_k1 := cell_regrown X_1
  have X_k2 := cell_regrown X_2
  have X_k3 := cell_regrown X_3
  have Y_k0 := cell_regrown Y_0
  have Y_k1 := cell_regrown Y_1
  have Y_k2 := cell_regrown Y_2
  have Y_k3 := cell_regrown Y_3
  clear S_0 S_1 S_2 T_0 T_1 T_2 A_0 A_1 A_2 B_0 B_1 B_2 R_0 R_1 R_2 R_3 Q_0 Q_1 Q_2 Q_3 X_0 X_1 X_2 X_3 Y_0 Y_1 Y_2 Y_3
  refine wp_region_quiet_below (by kernel_rfl) (by kernel_rfl) ?_
  repeat (quiet_step (first | (go_at_call_of 18 (xp); exact c18 _ _) | (go_at_call 18; exact c18b _ _)))
  refine wpQuiet_nil ?_
  intro _ hw'
  obtain ⟨⟨dq, osq⟩, hw''⟩ := hw'
  subst hw''
  have hb := below_regrown W7 dq osq
  obtain ⟨w7, hw7⟩ : ∃ w7, grow (redrawn W7 dq) osq = w7 := ⟨_, rfl⟩
  rw [hw7] at hb ⊢
  clear hw7 S_k0 S_k1 S_k2 T_k0 T_k1 T_k2 A_k0 A_k1 A_k2 B_k0 B_k1 B_k2 R_k0 R_k1 R_k2 R_k3 Q_k0 Q_k1 Q_k2 Q_k3 X_k0 X_k1 X_k2 X_k3 Y_k0 Y_k1 Y_k2 Y_k3 c18 c18b S_l T_l A_l B_l R_l Q_l X_l Y_l
  replace HW : Hid (Below w.heap.size w w7) := HW.out.trans (hb.mono HW.out.size)
  replace HS : Hid (Blk w.heap.size #[.int .i64 x, .bool a, .bool b] 23 w7) := HS.out.below hb
  replace HT : Hid (Blk (w.heap.size + 1) #[.int .i64 y, .bool u, .bool v] 23 w7) := HT.out.below hb
  replace HA : Hid (Blk w2.heap.size #[.int .i64 a0, .bool a1, .bool a2] 23 w7) := HA.out.below hb
  replace HB : Hid (Blk (w2.heap.size + 1) #[.int .i64 b0, .bool b1, .bool b2] 23 w7) := HB.out.below hb
  replace HR : Hid (Blk w3.heap.size #[.bool p, .bool q, .bool a, .bool b] 26 w7) := HR.out.below hb
  replace HQ : Hid (Blk w4.heap.size #[.bool r, .bool s, .bool u, .bool v] 26 w7) := HQ.out.below hb
  replace HX : Hid (Blk w6.heap.size #[.bool xp, .bool xq, .bool xa, .bool xb] 26 w7) := HX.out.below hb
  replace HY : Hid (Blk (w6.heap.size + 1) #[.bool yp, .bool yq, .bool ya, .bool yb] 26 w7) := HY.out.below hb
  clear hb
  obtain ⟨S_0, S_1, S_2, _⟩ := blk3 HS.out
  have S_l : w.heap.size < w7.heap.size := HS.out.lt
  obtain ⟨T_0, T_1, T_2, _⟩ := blk3 HT.out
  have T_l : w.heap.size + 1 < w7.heap.size := HT.out.lt
  obtain ⟨A_0, A_1, A_2, _⟩ := blk3 HA.out
  have A_l : w2.heap.size < w7.heap.size := HA.out.lt
  obtain ⟨B_0, B_1, B_2, _⟩ := blk3 HB.out
  have B_l : w2.heap.size + 1 < w7.heap.size := HB.out.lt
  obtain ⟨R_0, R_1, R_2, R_3, _⟩ := blk4 HR.out
  have R_l : w3.heap.size < w7.heap.size := HR.out.lt
  obtain ⟨Q_0, Q_1, Q_2, Q_3, _⟩ := blk4 HQ.out
  have Q_l : w4.heap.size < w7.heap.size := HQ.out.lt
  obtain ⟨X_0, X_1, X_2, X_3, _⟩ := blk4 HX.out
  have X_l : w6.heap.size < w7.heap.size := HX.out.lt
  obtain ⟨Y_0, Y_1, Y_2, Y_3, _⟩ := blk4 HY.out
  have Y_l : w6.heap.size + 1 < w7.heap.size := HY.out.lt
  go_wp2_with fail
  go_ret
  exact ⟨rfl, HW.out⟩
set_option maxHeartbeats 4000000 in
theorem bothS_bad1 (x y act : Int) (p q r s a b u v f is : Bool) (w : World) (hN : Names w)  
    (H19 : ∀ W, Calls Tryd.prog 19 #[.agg #[.int .i64 x, .bool a, .bool b], .agg #[.int .i64 y, .bool u, .bool v], .int .i64 act] W fun e w' => e = .returned (.tuple #[.agg #[.int .i64 0, .bool false, .bool false], .agg #[.int .i64 0, .bool false, .bool false], .int .i64 1]) ∧ Below W.heap.size W w')
    (H10 : ∀ W, Calls Tryd.prog 10 #[.int .i64 x, .bool a, .bool b] W fun e w' => e = .returned (.tuple #[.agg #[.bool p, .bool q, .bool a, .bool b], .bool false]) ∧ Below W.heap.size W w')
    (H10' : ∀ W, Calls Tryd.prog 10 #[.int .i64 y, .bool u, .bool v] W fun e w' => e = .returned (.tuple #[.agg #[.bool r, .bool s, .bool u, .bool v], .bool is]) ∧ Below W.heap.size W w')
    (H20 : ∀ W, Calls Tryd.prog 20 #[.agg #[.int .i64 x, .bool a, .bool b], .agg #[.int .i64 y, .bool u, .bool v]] W fun e w' => e = .returned (.bool f) ∧ Below W.heap.size W w') (H21 : ∀ W, Calls Tryd.prog 21 #[.agg #[.bool p, .bool q, .bool a, .bool b], .agg #[.bool r, .bool s, .bool u, .bool v]] W fun e w' => e = .returned (.bool f) ∧ Below W.heap.size W w') :
    Calls Tryd.prog 4 #[.agg #[.int .i64 x, .bool a, .bool b], .agg #[.int .i64 y, .bool u, .bool v], .int .i64 act] w fun e w' => e = .returned (.bool true) ∧ Below w.heap.size w w' := by
  have HN : Hid (Names w) := hN
  clear hN
  go_enter Tryd.func4, Tryd.ntmps4
  go_wp2_with fail
  have HS : Hid (Blk w.heap.size #[.int .i64 x, .bool a, .bool b] 23 ((w.alloc (.cells #[.int .i64 x, .bool a, .bool b] 23)).alloc (.cells #[.int .i64 y, .bool u, .bool v] 23))) := Blk.new1 _ _ _ _
  have HT : Hid (Blk (w.heap.size + 1) #[.int .i64 y, .bool u, .bool v] 23 ((w.alloc (.cells #[.int .i64 x, .bool a, .bool b] 23)).alloc (.cells #[.int .i64 y, .bool u, .bool v] 23))) := Blk.new2 _ _ _ _
  have HW : Hid (Below w.heap.size w ((w.alloc (.cells #[.int .i64 x, .bool a, .bool b] 23)).alloc (.cells #[.int .i64 y, .bool u, .bool v] 23))) := below2 _ _ _
  refine (lives_any _ (HN.out.below HW.out)).mono ?_
  rintro e w1 ⟨rfl, hb⟩
  replace HW : Hid (Below w.heap.size w w1) := HW.out.trans (hb.mono HW.out.size)
  replace HS : Hid (Blk w.heap.size #[.int .i64 x, .bool a, .bool b] 23 w1) := HS.out.below hb
  replace HT : Hid (Blk (w.heap.size + 1) #[.int .i64 y, .bool u, .bool v] 23 w1) := HT.out.below hb
  clear hb
  obtain ⟨S_0, S_1, S_2, _⟩ := blk3 HS.out
  have S_l : w.heap.size < w1.heap.size := HS.out.lt
  obtain ⟨T_0, T_1, T_2, _⟩ := blk3 HT.out
  have T_l : w.heap.size + 1 < w1.heap.size := HT.out.lt
  go_wp2_with fail
  refine (H19 _).mono ?_
  rintro e w2 ⟨rfl, hb⟩
  clear S_0 S_1 S_2 S_l
  clear T_0 T_1 T_2 T_l
  replace HW : Hid (Below w.heap.size w w2) := HW.out.trans (hb.mono HW.out.size)
  replace HS : Hid (Blk w.heap.size #[.int .i64 x, .bool a, .bool b] 23 w2) := HS.out.below hb
  replace HT : Hid (Blk (w.heap.size + 1) #[.int .i64 y, .bool u, .bool v] 23 w2) := HT.out.below hb
  clear hb
  obtain ⟨S_0, S_1, S_2, _⟩ := blk3 HS.out
  have S_l : w.heap.size < w2.heap.size := HS.out.lt
  obtain ⟨T_0, T_1, T_2, _⟩ := blk3 HT.out
  have T_l : w.heap.size + 1 < w2.heap.size := HT.out.lt
  go_wp2_with fail
  refine (H10 _).mono ?_
  rintro e w3 ⟨rfl, hb⟩
  have HA : Hid (Blk w2.heap.size #[.int .i64 0, .bool false, .bool false] 23 w3) := (Blk.new1 w2 _ _ _).below hb
  have HB : Hid (Blk (w2.heap.size + 1) #[.int .i64 0, .bool false, .bool false] 23 w3) := (Blk.new2 w2 _ _ _).below hb
  replace hb : Below w2.heap.size w2 w3 := (below2 _ _ _).trans (hb.mono (below2 _ _ _).size)
  clear S_0 S_1 S_2 S_l
  clear T_0 T_1 T_2 T_l
  replace HW : Hid (Below w.heap.size w w3) := HW.out.trans (hb.mono HW.out.size)
  replace HS : Hid (Blk w.heap.size #[.int .i64 x, .bool a, .bool b] 23 w3) := HS.out.below hb
  replace HT : Hid (Blk (w.heap.size + 1) #[.int .i64 y, .bool u, .bool v] 23 w3) := HT.out.below hb
  clear hb
  obtain ⟨S_0, S_1, S_2, _⟩ := blk3 HS.out
  have S_l : w.heap.size < w3.heap.size := HS.out.lt
  obtain ⟨T_0, T_1, T_2, _⟩ := blk3 HT.out
  have T_l : w.heap.size + 1 < w3.heap.size := HT.out.lt
  obtain ⟨A_0, A_1, A_2, _⟩ := blk3 HA.out
  have A_l : w2.heap.size < w3.heap.size := HA.out.lt
  obtain ⟨B_0, B_1, B_2, _⟩ := blk3 HB.out
  have B_l : w2.heap.size + 1 < w3.heap.size := HB.out.lt
  go_wp2_with fail
  refine (H10' _).mono ?_
  rintro e w4 ⟨rfl, hb⟩
  have HR : Hid (Blk w3.heap.size #[.bool p, .bool q, .bool a, .bool b] 26 w4) := (Blk.new w3 _ _).below hb
  replace hb : Below w3.heap.size w3 w4 := (bw0 _ _).trans (hb.mono (bw0 _ _).size)
  clear S_0 S_1 S_2 S_l
  clear T_0 T_1 T_2 T_l
  clear A_0 A_1 A_2 A_l
  clear B_0 B_1 B_2 B_l
  replace HW : Hid (Below w.heap.size w w4) := HW.out.trans (hb.mono HW.out.size)
  replace HS : Hid (Blk w.heap.size #[.int .i64 x, .bool a, .bool b] 23 w4) := HS.out.below hb
  replace HT : Hid (Blk (w.heap.size + 1) #[.int .i64 y, .bool u, .bool v] 23 w4) := HT.out.below hb
  replace HA : Hid (Blk w2.heap.size #[.int .i64 0, .bool false, .bool false] 23 w4) := HA.out.below hb
  replace HB : Hid (Blk (w2.heap.size + 1) #[.int .i64 0, .bool false, .bool false] 23 w4) := HB.out.below hb
  clear hb
  obtain ⟨S_0, S_1, S_2, _⟩ := blk3 HS.out
  have S_l : w.heap.size < w4.heap.size := HS.out.lt
  obtain ⟨T_0, T_1, T_2, _⟩ := blk3 HT.out
  have T_l : w.heap.size + 1 < w4.heap.size := HT.out.lt
  obtain ⟨A_0, A_1, A_2, _⟩ := blk3 HA.out
  have A_l : w2.heap.size < w4.heap.size := HA.out.lt
  obtain ⟨B_0, B_1, B_2, _⟩ := blk3 HB.out
  have B_l : w2.heap.size + 1 < w4.heap.size := HB.out.lt
  obtain ⟨R_0, R_1, R_2, R_3, _⟩ := blk4 HR.out
  have R_l : w3.heap.size < w4.heap.size := HR.out.lt
  go_wp2_with fail
  obtain ⟨W5, hW5⟩ : ∃ W5, w4.alloc (.cells #[.bool r, .bool s, .bool u, .bool v] 26) = W5 := ⟨_, rfl⟩
  have hb : Below w4.heap.size w4 W5 := by rw [← hW5]; exact bw0 _ _
  have HQ : Hid (Blk w4.heap.size #[.bool r, .bool s, .bool u, .bool v] 26 W5) := by show Blk _ _ _ _; rw [← hW5]; exact Blk.new _ _ _
  rw [hW5]
  clear hW5
  clear S_0 S_1 S_2 S_l
  clear T_0 T_1 T_2 T_l
  clear A_0 A_1 A_2 A_l
  clear B_0 B_1 B_2 B_l
  clear R_0 R_1 R_2 R_3 R_l
  replace HW : Hid (Below w.heap.size w W5) := HW.out.trans (hb.mono HW.out.size)
  replace HS : Hid (Blk w.heap.size #[.int .i64 x, .bool a, .bool b] 23 W5) := HS.out.below hb
  replace HT : Hid (Blk (w.heap.size + 1) #[.int .i64 y, .bool u, .bool v] 23 W5) := HT.out.below hb
  replace HA : Hid (Blk w2.heap.size #[.int .i64 0, .bool false, .bool false] 23 W5) := HA.out.below hb
  replace HB : Hid (Blk (w2.heap.size + 1) #[.int .i64 0, .bool false, .bool false] 23 W5) := HB.out.below hb
  replace HR : Hid (Blk w3.heap.size #[.bool p, .bool q, .bool a, .bool b] 26 W5) := HR.out.below hb
  clear hb
  obtain ⟨S_0, S_1, S_2, _⟩ := blk3 HS.out
  have S_l : w.heap.size < W5.heap.size := HS.out.lt
  obtain ⟨T_0, T_1, T_2, _⟩ := blk3 HT.out
  have T_l : w.heap.size + 1 < W5.heap.size := HT.out.lt
  obtain ⟨A_0, A_1, A_2, _⟩ := blk3 HA.out
  have A_l : w2.heap.size < W5.heap.size := HA.out.lt
  obtain ⟨B_0, B_1, B_2, _⟩ := blk3 HB.out
  have B_l : w2.heap.size + 1 < W5.heap.size := HB.out.lt
  obtain ⟨R_0, R_1, R_2, R_3, _⟩ := blk4 HR.out
  have R_l : w3.heap.size < W5.heap.size := HR.out.lt
  obtain ⟨Q_0, Q_1, Q_2, Q_3, _⟩ := blk4 HQ.out
  have Q_l : w4.heap.size < W5.heap.size := HQ.out.lt
  have c20 : ∀ d os, Calls Tryd.prog 20 #[.agg #[.int .i64 x, .bool a, .bool b], .agg #[.int .i64 y, .bool u, .bool v]] (grow (redrawn W5 d) os) fun e w'' => e = .returned (.bool f) ∧ ∃ p : Regrown, w'' = grow (redrawn W5 p.d) p.os := fun d os => Calls.regrown_of (H20 _)
  have c21 : ∀ d os, Calls Tryd.prog 21 #[.agg #[.bool p, .bool q, .bool a, .bool b], .agg #[.bool r, .bool s, .bool u, .bool v]] (grow (redrawn W5 d) os) fun e w'' => e = .returned (.bool f) ∧ ∃ p : Regrown, w'' = grow (redrawn W5 p.d) p.os := fun d os => Calls.regrown_of (H21 _)
  have S_k0 := cell_regrown S_0
  have S_k1 := cell_regrown S_1
  have S_k2 := cell_regrown S_2
  have T_k0 := cell_regrown T_0
  have T_k1 := cell_regrown T_1
  have T_k2 := cell_regrown T_2
  have A_k0 := cell_regrown A_0
  have A_k1 := cell_regrown A_1
  have A_k2 := cell_regrown A_2
  have B_k0 := cell_regrown B_0
  have B_k1 := cell_regrown B_1
  have B_k2 := cell_regrown B_2
  have R_k0 := cell_regrown R_0
  have R_k1 := cell_regrown R_1
  have R_k2 := cell_regrown R_2
  have R_k3 := cell_regrown R_3
  have Q_k0 := cell_regrown Q_0
  have Q_k1 := cell_regrown Q_1
  have Q_k2 := cell_regrown Q_2
  have Q_k3 := cell_regrown Q_3
  clear S_0 S_1 S_2 T_0 T_1 T_2 A_0 A_1 A_2 B_0 B_1 B_2 R_0 R_1 R_2 R_3 Q_0 Q_1 Q_2 Q_3
  refine wp_region_quiet_below (by kernel_rfl) (by kernel_rfl) ?_
  repeat (quiet_step (first | (go_at_call 20; exact c20 _ _) | (go_at_call 21; exact c21 _ _)))
  refine wpQuiet_nil ?_
  intro _ hw'
  obtain ⟨⟨dq, osq⟩, hw''⟩ := hw'
  subst hw''
  have hb := below_regrown W5 dq osq
  obtain ⟨w5, hw5⟩ : ∃ w5, grow (redrawn W5 dq) osq = w5 := ⟨_, rfl⟩
  rw [hw5] at hb ⊢
  clear hw5 S_k0 S_k1 S_k2 T_k0 T_k1 T_k2 A_k0 A_k1 A_k2 B_k0 B_k1 B_k2 R_k0 R_k1 R_k2 R_k3 Q_k0 Q_k1 Q_k2 Q_k3 c20 c21 S_l T_l A_l B_l R_l Q_l
  replace HW : Hid (Below w.heap.size w w5) := HW.out.trans (hb.mono HW.out.size)
  replace HS : Hid (Blk w.heap.size #[.int .i64 x, .bool a, .bool b] 23 w5) := HS.out.below hb
  replace HT : Hid (Blk (w.heap.size + 1) #[.int .i64 y, .bool u, .bool v] 23 w5) := HT.out.below hb
  replace HA : Hid (Blk w2.heap.size #[.int .i64 0, .bool false, .bool false] 23 w5) := HA.out.below hb
  replace HB : Hid (Blk (w2.heap.size + 1) #[.int .i64 0, .bool false, .bool false] 23 w5) := HB.out.below hb
  replace HR : Hid (Blk w3.heap.size #[.bool p, .bool q, .bool a, .bool b] 26 w5) := HR.out.below hb
  replace HQ : Hid (Blk w4.heap.size #[.bool r, .bool s, .bool u, .bool v] 26 w5) := HQ.out.below hb
  clear hb
  obtain ⟨S_0, S_1, S_2, _⟩ := blk3 HS.out
  have S_l : w.heap.size < w5.heap.size := HS.out.lt
  obtain ⟨T_0, T_1, T_2, _⟩ := blk3 HT.out
  have T_l : w.heap.size + 1 < w5.heap.size := HT.out.lt
  obtain ⟨A_0, A_1, A_2, _⟩ := blk3 HA.out
  have A_l : w2.heap.size < w5.heap.size := HA.out.lt
  obtain ⟨B_0, B_1, B_2, _⟩ := blk3 HB.out
  have B_l : w2.heap.size + 1 < w5.heap.size := HB.out.lt
  obtain ⟨R_0, R_1, R_2, R_3, _⟩ := blk4 HR.out
  have R_l : w3.heap.size < w5.heap.size := HR.out.lt
  obtain ⟨Q_0, Q_1, Q_2, Q_3, _⟩ := blk4 HQ.out
  have Q_l : w4.heap.size < w5.heap.size := HQ.out.lt
  go_wp2_with fail
  go_ret
  exact ⟨rfl, HW.out⟩
set_option maxHeartbeats 4000000 in
theorem bothS_bad2 (x y act : Int) (p q r s a b u v f : Bool) (w : World) (hN : Names w)  
    (H19 : ∀ W, Calls Tryd.prog 19 #[.agg #[.int .i64 x, .bool a, .bool b], .agg #[.int .i64 y, .bool u, .bool v], .int .i64 act] W fun e w' => e = .returned (.tuple #[.agg #[.int .i64 0, .bool false, .bool false], .agg #[.int .i64 0, .bool false, .bool false], .int .i64 1]) ∧ Below W.heap.size W w')
    (H10 : ∀ W, Calls Tryd.prog 10 #[.int .i64 x, .bool a, .bool b] W fun e w' => e = .returned (.tuple #[.agg #[.bool p, .bool q, .bool a, .bool b], .bool true]) ∧ Below W.heap.size W w')
    (H10' : ∀ W, Calls Tryd.prog 10 #[.int .i64 y, .bool u, .bool v] W fun e w' => e = .returned (.tuple #[.agg #[.bool r, .bool s, .bool u, .bool v], .bool false]) ∧ Below W.heap.size W w')
    (H20 : ∀ W, Calls Tryd.prog 20 #[.agg #[.int .i64 x, .bool a, .bool b], .agg #[.int .i64 y, .bool u, .bool v]] W fun e w' => e = .returned (.bool f) ∧ Below W.heap.size W w') (H21 : ∀ W, Calls Tryd.prog 21 #[.agg #[.bool p, .bool q, .bool a, .bool b], .agg #[.bool r, .bool s, .bool u, .bool v]] W fun e w' => e = .returned (.bool f) ∧ Below W.heap.size W w') :
    Calls Tryd.prog 4 #[.agg #[.int .i64 x, .bool a, .bool b], .agg #[.int .i64 y, .bool u, .bool v], .int .i64 act] w fun e w' => e = .returned (.bool true) ∧ Below w.heap.size w w' := by
  have HN : Hid (Names w) := hN
  clear hN
  go_enter Tryd.func4, Tryd.ntmps4
  go_wp2_with fail
  have HS : Hid (Blk w.heap.size #[.int .i64 x, .bool a, .bool b] 23 ((w.alloc (.cells #[.int .i64 x, .bool a, .bool b] 23)).alloc (.cells #[.int .i64 y, .bool u, .bool v] 23))) := Blk.new1 _ _ _ _
  have HT : Hid (Blk (w.heap.size + 1) #[.int .i64 y, .bool u, .bool v] 23 ((w.alloc (.cells #[.int .i64 x, .bool a, .bool b] 23)).alloc (.cells #[.int .i64 y, .bool u, .bool v] 23))) := Blk.new2 _ _ _ _
  have HW : Hid (Below w.heap.size w ((w.alloc (.cells #[.int .i64 x, .bool a, .bool b] 23)).alloc (.cells #[.int .i64 y, .bool u, .bool v] 23))) := below2 _ _ _
  refine (lives_any _ (HN.out.below HW.out)).mono ?_
  rintro e w1 ⟨rfl, hb⟩
  replace HW : Hid (Below w.heap.size w w1) := HW.out.trans (hb.mono HW.out.size)
  replace HS : Hid (Blk w.heap.size #[.int .i64 x, .bool a, .bool b] 23 w1) := HS.out.below hb
  replace HT : Hid (Blk (w.heap.size + 1) #[.int .i64 y, .bool u, .bool v] 23 w1) := HT.out.below hb
  clear hb
  obtain ⟨S_0, S_1, S_2, _⟩ := blk3 HS.out
  have S_l : w.heap.size < w1.heap.size := HS.out.lt
  obtain ⟨T_0, T_1, T_2, _⟩ := blk3 HT.out
  have T_l : w.heap.size + 1 < w1.heap.size := HT.out.lt
  go_wp2_with fail
  refine (H19 _).mono ?_
  rintro e w2 ⟨rfl, hb⟩
  clear S_0 S_1 S_2 S_l
  clear T_0 T_1 T_2 T_l
  replace HW : Hid (Below w.heap.size w w2) := HW.out.trans (hb.mono HW.out.size)
  replace HS : Hid (Blk w.heap.size #[.int .i64 x, .bool a, .bool b] 23 w2) := HS.out.below hb
  replace HT : Hid (Blk (w.heap.size + 1) #[.int .i64 y, .bool u, .bool v] 23 w2) := HT.out.below hb
  clear hb
  obtain ⟨S_0, S_1, S_2, _⟩ := blk3 HS.out
  have S_l : w.heap.size < w2.heap.size := HS.out.lt
  obtain ⟨T_0, T_1, T_2, _⟩ := blk3 HT.out
  have T_l : w.heap.size + 1 < w2.heap.size := HT.out.lt
  go_wp2_with fail
  refine (H10 _).mono ?_
  rintro e w3 ⟨rfl, hb⟩
  have HA : Hid (Blk w2.heap.size #[.int .i64 0, .bool false, .bool false] 23 w3) := (Blk.new1 w2 _ _ _).below hb
  have HB : Hid (Blk (w2.heap.size + 1) #[.int .i64 0, .bool false, .bool false] 23 w3) := (Blk.new2 w2 _ _ _).below hb
  replace hb : Below w2.heap.size w2 w3 := (below2 _ _ _).trans (hb.mono (below2 _ _ _).size)
  clear S_0 S_1 S_2 S_l
  clear T_0 T_1 T_2 T_l
  replace HW : Hid (Below w.heap.size w w3) := HW.out.trans (hb.mono HW.out.size)
  replace HS : Hid (Blk w.heap.size #[.int .i64 x, .bool a, .bool b] 23 w3) := HS.out.below hb
  replace HT : Hid (Blk (w.heap.size + 1) #[.int .i64 y, .bool u, .bool v] 23 w3) := HT.out.below hb
  clear hb
  obtain ⟨S_0, S_1, S_2, _⟩ := blk3 HS.out
  have S_l : w.heap.size < w3.heap.size := HS.out.lt
  obtain ⟨T_0, T_1, T_2, _⟩ := blk3 HT.out
  have T_l : w.heap.size + 1 < w3.heap.size := HT.out.lt
  obtain ⟨A_0, A_1, A_2, _⟩ := blk3 HA.out
  have A_l : w2.heap.size < w3.heap.size := HA.out.lt
  obtain ⟨B_0, B_1, B_2, _⟩ := blk3 HB.out
  have B_l : w2.heap.size + 1 < w3.heap.size := HB.out.lt
  go_wp2_with fail
  refine (H10' _).mono ?_
  rintro e w4 ⟨rfl, hb⟩
  have HR : Hid (Blk w3.heap.size #[.bool p, .bool q, .bool a, .bool b] 26 w4) := (Blk.new w3 _ _).below hb
  replace hb : Below w3.heap.size w3 w4 := (bw0 _ _).trans (hb.mono (bw0 _ _).size)
  clear S_0 S_1 S_2 S_l
  clear T_0 T_1 T_2 T_l
  clear A_0 A_1 A_2 A_l
  clear B_0 B_1 B_2 B_l
  replace HW : Hid (Below w.heap.size w w4) := HW.out.trans (hb.mono HW.out.size)
  replace HS : Hid (Blk w.heap.size #[.int .i64 x, .bool a, .bool b] 23 w4) := HS.out.below hb
  replace HT : Hid (Blk (w.heap.size + 1) #[.int .i64 y, .bool u, .bool v] 23 w4) := HT.out.below hb
  replace HA : Hid (Blk w2.heap.size #[.int .i64 0, .bool false, .bool false] 23 w4) := HA.out.below hb
  replace HB : Hid (Blk (w2.heap.size + 1) #[.int .i64 0, .bool false, .bool false] 23 w4) := HB.out.below hb
  clear hb
  obtain ⟨S_0, S_1, S_2, _⟩ := blk3 HS.out
  have S_l : w.heap.size < w4.heap.size := HS.out.lt
  obtain ⟨T_0, T_1, T_2, _⟩ := blk3 HT.out
  have T_l : w.heap.size + 1 < w4.heap.size := HT.out.lt
  obtain ⟨A_0, A_1, A_2, _⟩ := blk3 HA.out
  have A_l : w2.heap.size < w4.heap.size := HA.out.lt
  obtain ⟨B_0, B_1, B_2, _⟩ := blk3 HB.out
  have B_l : w2.heap.size + 1 < w4.heap.size := HB.out.lt
  obtain ⟨R_0, R_1, R_2, R_3, _⟩ := blk4 HR.out
  have R_l : w3.heap.size < w4.heap.size := HR.out.lt
  go_wp2_with fail
  obtain ⟨W5, hW5⟩ : ∃ W5, w4.alloc (.cells #[.bool r, .bool s, .bool u, .bool v] 26) = W5 := ⟨_, rfl⟩
  have hb : Below w4.heap.size w4 W5 := by rw [← hW5]; exact bw0 _ _
  have HQ : Hid (Blk w4.heap.size #[.bool r, .bool s, .bool u, .bool v] 26 W5) := by show Blk _ _ _ _; rw [← hW5]; exact Blk.new _ _ _
  rw [hW5]
  clear hW5
  clear S_0 S_1 S_2 S_l
  clear T_0 T_1 T_2 T_l
  clear A_0 A_1 A_2 A_l
  clear B_0 B_1 B_2 B_l
  clear R_0 R_1 R_2 R_3 R_l
  replace HW : Hid (Below w.heap.size w W5) := HW.out.trans (hb.mono HW.out.size)
  replace HS : Hid (Blk w.heap.size #[.int .i64 x, .bool a, .bool b] 23 W5) := HS.out.below hb
  replace HT : Hid (Blk (w.heap.size + 1) #[.int .i64 y, .bool u, .bool v] 23 W5) := HT.out.below hb
  replace HA : Hid (Blk w2.heap.size #[.int .i64 0, .bool false, .bool false] 23 W5) := HA.out.below hb
  replace HB : Hid (Blk (w2.heap.size + 1) #[.int .i64 0, .bool false, .bool false] 23 W5) := HB.out.below hb
  replace HR : Hid (Blk w3.heap.size #[.bool p, .bool q, .bool a, .bool b] 26 W5) := HR.out.below hb
  clear hb
  obtain ⟨S_0, S_1, S_2, _⟩ := blk3 HS.out
  have S_l : w.heap.size < W5.heap.size := HS.out.lt
  obtain ⟨T_0, T_1, T_2, _⟩ := blk3 HT.out
  have T_l : w.heap.size + 1 < W5.heap.size := HT.out.lt
  obtain ⟨A_0, A_1, A_2, _⟩ := blk3 HA.out
  have A_l : w2.heap.size < W5.heap.size := HA.out.lt
  obtain ⟨B_0, B_1, B_2, _⟩ := blk3 HB.out
  have B_l : w2.heap.size + 1 < W5.heap.size := HB.out.lt
  obtain ⟨R_0, R_1, R_2, R_3, _⟩ := blk4 HR.out
  have R_l : w3.heap.size < W5.heap.size := HR.out.lt
  obtain ⟨Q_0, Q_1, Q_2, Q_3, _⟩ := blk4 HQ.out
  have Q_l : w4.heap.size < W5.heap.size := HQ.out.lt
  have c20 : ∀ d os, Calls Tryd.prog 20 #[.agg #[.int .i64 x, .bool a, .bool b], .agg #[.int .i64 y, .bool u, .bool v]] (grow (redrawn W5 d) os) fun e w'' => e = .returned (.bool f) ∧ ∃ p : Regrown, w'' = grow (redrawn W5 p.d) p.os := fun d os => Calls.regrown_of (H20 _)
  have c21 : ∀ d os, Calls Tryd.prog 21 #[.agg #[.bool p, .bool q, .bool a, .bool b], .agg #[.bool r, .bool s, .bool u, .bool v]] (grow (redrawn W5 d) os) fun e w'' => e = .returned (.bool f) ∧ ∃ p : Regrown, w'' = grow (redrawn W5 p.d) p.os := fun d os => Calls.regrown_of (H21 _)
  have S_k0 := cell_regrown S_0
  have S_k1 := cell_regrown S_1
  have S_k2 := cell_regrown S_2
  have T_k0 := cell_regrown T_0
  have T_k1 := cell_regrown T_1
  have T_k2 := cell_regrown T_2
  have A_k0 := cell_regrown A_0
  have A_k1 := cell_regrown A_1
  have A_k2 := cell_regrown A_2
  have B_k0 := cell_regrown B_0
  have B_k1 := cell_regrown B_1
  have B_k2 := cell_regrown B_2
  have R_k0 := cell_regrown R_0
  have R_k1 := cell_regrown R_1
  have R_k2 := cell_regrown R_2
  have R_k3 := cell_regrown R_3
  have Q_k0 := cell_regrown Q_0
  have Q_k1 := cell_regrown Q_1
  have Q_k2 := cell_regrown Q_2
  have Q_k3 := cell_regrown Q_3
  clear S_0 S_1 S_2 T_0 T_1 T_2 A_0 A_1 A_2 B_0 B_1 B_2 R_0 R_1 R_2 R_3 Q_0 Q_1 Q_2 Q_3
  refine wp_region_quiet_below (by kernel_rfl) (by kernel_rfl) ?_
  repeat (quiet_step (first | (go_at_call 20; exact c20 _ _) | (go_at_call 21; exact c21 _ _)))
  refine wpQuiet_nil ?_
  intro _ hw'
  obtain ⟨⟨dq, osq⟩, hw''⟩ := hw'
  subst hw''
  have hb := below_regrown W5 dq osq
  obtain ⟨w5, hw5⟩ : ∃ w5, grow (redrawn W5 dq) osq = w5 := ⟨_, rfl⟩
  rw [hw5] at hb ⊢
  clear hw5 S_k0 S_k1 S_k2 T_k0 T_k1 T_k2 A_k0 A_k1 A_k2 B_k0 B_k1 B_k2 R_k0 R_k1 R_k2 R_k3 Q_k0 Q_k1 Q_k2 Q_k3 c20 c21 S_l T_l A_l B_l R_l Q_l
  replace HW : Hid (Below w.heap.size w w5) := HW.out.trans (hb.mono HW.out.size)
  replace HS : Hid (Blk w.heap.size #[.int .i64 x, .bool a, .bool b] 23 w5) := HS.out.below hb
  replace HT : Hid (Blk (w.heap.size + 1) #[.int .i64 y, .bool u, .bool v] 23 w5) := HT.out.below hb
  replace HA : Hid (Blk w2.heap.size #[.int .i64 0, .bool false, .bool false] 23 w5) := HA.out.below hb
  replace HB : Hid (Blk (w2.heap.size + 1) #[.int .i64 0, .bool false, .bool false] 23 w5) := HB.out.below hb
  replace HR : Hid (Blk w3.heap.size #[.bool p, .bool q, .bool a, .bool b] 26 w5) := HR.out.below hb
  replace HQ : Hid (Blk w4.heap.size #[.bool r, .bool s, .bool u, .bool v] 26 w5) := HQ.out.below hb
  clear hb
  obtain ⟨S_0, S_1, S_2, _⟩ := blk3 HS.out
  have S_l : w.heap.size < w5.heap.size := HS.out.lt
  obtain ⟨T_0, T_1, T_2, _⟩ := blk3 HT.out
  have T_l : w.heap.size + 1 < w5.heap.size := HT.out.lt
  obtain ⟨A_0, A_1, A_2, _⟩ := blk3 HA.out
  have A_l : w2.heap.size < w5.heap.size := HA.out.lt
  obtain ⟨B_0, B_1, B_2, _⟩ := blk3 HB.out
  have B_l : w2.heap.size + 1 < w5.heap.size := HB.out.lt
  obtain ⟨R_0, R_1, R_2, R_3, _⟩ := blk4 HR.out
  have R_l : w3.heap.size < w5.heap.size := HR.out.lt
  obtain ⟨Q_0, Q_1, Q_2, Q_3, _⟩ := blk4 HQ.out
  have Q_l : w4.heap.size < w5.heap.size := HQ.out.lt
  go_wp2_with fail
  go_ret
  exact ⟨rfl, HW.out⟩
set_option maxHeartbeats 4000000 in
theorem bothS_bad3 (x y act : Int) (p q r s a b u v f : Bool) (w : World) (hN : Names w) (k1 : act < 1) 
    (H19 : ∀ W, Calls Tryd.prog 19 #[.agg #[.int .i64 x, .bool a, .bool b], .agg #[.int .i64 y, .bool u, .bool v], .int .i64 act] W fun e w' => e = .returned (.tuple #[.agg #[.int .i64 0, .bool false, .bool false], .agg #[.int .i64 0, .bool false, .bool false], .int .i64 1]) ∧ Below W.heap.size W w')
    (H10 : ∀ W, Calls Tryd.prog 10 #[.int .i64 x, .bool a, .bool b] W fun e w' => e = .returned (.tuple #[.agg #[.bool p, .bool q, .bool a, .bool b], .bool true]) ∧ Below W.heap.size W w')
    (H10' : ∀ W, Calls Tryd.prog 10 #[.int .i64 y, .bool u, .bool v] W fun e w' => e = .returned (.tuple #[.agg #[.bool r, .bool s, .bool u, .bool v], .bool true]) ∧ Below W.heap.size W w')
    (H20 : ∀ W, Calls Tryd.prog 20 #[.agg #[.int .i64 x, .bool a, .bool b], .agg #[.int .i64 y, .bool u, .bool v]] W fun e w' => e = .returned (.bool f) ∧ Below W.heap.size W w') (H21 : ∀ W, Calls Tryd.prog 21 #[.agg #[.bool p, .bool q, .bool a, .bool b], .agg #[.bool r, .bool s, .bool u, .bool v]] W fun e w' => e = .returned (.bool f) ∧ Below W.heap.size W w') :
    Calls Tryd.prog 4 #[.agg #[.int .i64 x, .bool a, .bool b], .agg #[.int .i64 y, .bool u, .bool v], .int .i64 act] w fun e w' => e = .returned (.bool true) ∧ Below w.heap.size w w' := by
  have HN : Hid (Names w) := hN
  clear hN
  go_enter Tryd.func4, Tryd.ntmps4
  go_wp2_with fail
  have HS : Hid (Blk w.heap.size #[.int .i64 x, .bool a, .bool b] 23 ((w.alloc (.cells #[.int .i64 x, .bool a, .bool b] 23)).alloc (.cells #[.int .i64 y, .bool u, .bool v] 23))) := Blk.new1 _ _ _ _
  have HT : Hid (Blk (w.heap.size + 1) #[.int .i64 y, .bool u, .bool v] 23 ((w.alloc (.cells #[.int .i64 x, .bool a, .bool b] 23)).alloc (.cells #[.int .i64 y, .bool u, .bool v] 23))) := Blk.new2 _ _ _ _
  have HW : Hid (Below w.heap.size w ((w.alloc (.cells #[.int .i64 x, .bool a, .bool b] 23)).alloc (.cells #[.int .i64 y, .bool u, .bool v] 23))) := below2 _ _ _
  refine (lives_any _ (HN.out.below HW.out)).mono ?_
  rintro e w1 ⟨rfl, hb⟩
  replace HW : Hid (Below w.heap.size w w1) := HW.out.trans (hb.mono HW.out.size)
  replace HS : Hid (Blk w.heap.size #[.int .i64 x, .bool a, .bool b] 23 w1) := HS.out.below hb
  replace HT : Hid (Blk (w.heap.size + 1) #[.int .i64 y, .bool u, .bool v] 23 w1) := HT.out.below hb
  clear hb
  obtain ⟨S_0, S_1, S_2, _⟩ := blk3 HS.out
  have S_l : w.heap.size < w1.heap.size := HS.out.lt
  obtain ⟨T_0, T_1, T_2, _⟩ := blk3 HT.out
  have T_l : w.heap.size + 1 < w1.heap.size := HT.out.lt
  go_wp2_with fail
  refine (H19 _).mono ?_
  rintro e w2 ⟨rfl, hb⟩
  clear S_0 S_1 S_2 S_l
  clear T_0 T_1 T_2 T_l
  replace HW : Hid (Below w.heap.size w w2) := HW.out.trans (hb.mono HW.out.size)
  replace HS : Hid (Blk w.heap.size #[.int .i64 x, .bool a, .bool b] 23 w2) := HS.out.below hb
  replace HT : Hid (Blk (w.heap.size + 1) #[.int .i64 y, .bool u, .bool v] 23 w2) := HT.out.below hb
  clear hb
  obtain ⟨S_0, S_1, S_2, _⟩ := blk3 HS.out
  have S_l : w.heap.size < w2.heap.size := HS.out.lt
  obtain ⟨T_0, T_1, T_2, _⟩ := blk3 HT.out
  have T_l : w.heap.size + 1 < w2.heap.size := HT.out.lt
  go_wp2_with fail
  refine (H10 _).mono ?_
  rintro e w3 ⟨rfl, hb⟩
  have HA : Hid (Blk w2.heap.size #[.int .i64 0, .bool false, .bool false] 23 w3) := (Blk.new1 w2 _ _ _).below hb
  have HB : Hid (Blk (w2.heap.size + 1) #[.int .i64 0, .bool false, .bool false] 23 w3) := (Blk.new2 w2 _ _ _).below hb
  replace hb : Below w2.heap.size w2 w3 := (below2 _ _ _).trans (hb.mono (below2 _ _ _).size)
  clear S_0 S_1 S_2 S_l
  clear T_0 T_1 T_2 T_l
  replace HW : Hid (Below w.heap.size w w3) := HW.out.trans (hb.mono HW.out.size)
  replace HS : Hid (Blk w.heap.size #[.int .i64 x, .bool a, .bool b] 23 w3) := HS.out.below hb
  replace HT : Hid (Blk (w.heap.size + 1) #[.int .i64 y, .bool u, .bool v] 23 w3) := HT.out.below hb
  clear hb
  obtain ⟨S_0, S_1, S_2, _⟩ := blk3 HS.out
  have S_l : w.heap.size < w3.heap.size := HS.out.lt
  obtain ⟨T_0, T_1, T_2, _⟩ := blk3 HT.out
  have T_l : w.heap.size + 1 < w3.heap.size := HT.out.lt
  obtain ⟨A_0, A_1, A_2, _⟩ := blk3 HA.out
  have A_l : w2.heap.size < w3.heap.size := HA.out.lt
  obtain ⟨B_0, B_1, B_2, _⟩ := blk3 HB.out
  have B_l : w2.heap.size + 1 < w3.heap.size := HB.out.lt
  go_wp2_with fail
  refine (H10' _).mono ?_
  rintro e w4 ⟨rfl, hb⟩
  have HR : Hid (Blk w3.heap.size #[.bool p, .bool q, .bool a, .bool b] 26 w4) := (Blk.new w3 _ _).below hb
  replace hb : Below w3.heap.size w3 w4 := (bw0 _ _).trans (hb.mono (bw0 _ _).size)
  clear S_0 S_1 S_2 S_l
  clear T_0 T_1 T_2 T_l
  clear A_0 A_1 A_2 A_l
  clear B_0 B_1 B_2 B_l
  replace HW : Hid (Below w.heap.size w w4) := HW.out.trans (hb.mono HW.out.size)
  replace HS : Hid (Blk w.heap.size #[.int .i64 x, .bool a, .bool b] 23 w4) := HS.out.below hb
  replace HT : Hid (Blk (w.heap.size + 1) #[.int .i64 y, .bool u, .bool v] 23 w4) := HT.out.below hb
  replace HA : Hid (Blk w2.heap.size #[.int .i64 0, .bool false, .bool false] 23 w4) := HA.out.below hb
  replace HB : Hid (Blk (w2.heap.size + 1) #[.int .i64 0, .bool false, .bool false] 23 w4) := HB.out.below hb
  clear hb
  obtain ⟨S_0, S_1, S_2, _⟩ := blk3 HS.out
  have S_l : w.heap.size < w4.heap.size := HS.out.lt
  obtain ⟨T_0, T_1, T_2, _⟩ := blk3 HT.out
  have T_l : w.heap.size + 1 < w4.heap.size := HT.out.lt
  obtain ⟨A_0, A_1, A_2, _⟩ := blk3 HA.out
  have A_l : w2.heap.size < w4.heap.size := HA.out.lt
  obtain ⟨B_0, B_1, B_2, _⟩ := blk3 HB.out
  have B_l : w2.heap.size + 1 < w4.heap.size := HB.out.lt
  obtain ⟨R_0, R_1, R_2, R_3, _⟩ := blk4 HR.out
  have R_l : w3.heap.size < w4.heap.size := HR.out.lt
  go_wp2_with fail
  obtain ⟨W5, hW5⟩ : ∃ W5, w4.alloc (.cells #[.bool r, .bool s, .bool u, .bool v] 26) = W5 := ⟨_, rfl⟩
  have hb : Below w4.heap.size w4 W5 := by rw [← hW5]; exact bw0 _ _
  have HQ : Hid (Blk w4.heap.size #[.bool r, .bool s, .bool u, .bool v] 26 W5) := by show Blk _ _ _ _; rw [← hW5]; exact Blk.new _ _ _
  rw [hW5]
  clear hW5
  clear S_0 S_1 S_2 S_l
  clear T_0 T_1 T_2 T_l
  clear A_0 A_1 A_2 A_l
  clear B_0 B_1 B_2 B_l
  clear R_0 R_1 R_2 R_3 R_l
  replace HW : Hid (Below w.heap.size w W5) := HW.out.trans (hb.mono HW.out.size)
  replace HS : Hid (Blk w.heap.size #[.int .i64 x, .bool a, .bool b] 23 W5) := HS.out.below hb
  replace HT : Hid (Blk (w.heap.size + 1) #[.int .i64 y, .bool u, .bool v] 23 W5) := HT.out.below hb
  replace HA : Hid (Blk w2.heap.size #[.int .i64 0, .bool false, .bool false] 23 W5) := HA.out.below hb
  replace HB : Hid (Blk (w2.heap.size + 1) #[.int .i64 0, .bool false, .bool false] 23 W5) := HB.out.below hb
  replace HR : Hid (Blk w3.heap.size #[.bool p, .bool q, .bool a, .bool b] 26 W5) := HR.out.below hb
  clear hb
  obtain ⟨S_0, S_1, S_2, _⟩ := blk3 HS.out
  have S_l : w.heap.size < W5.heap.size := HS.out.lt
  obtain ⟨T_0, T_1, T_2, _⟩ := blk3 HT.out
  have T_l : w.heap.size + 1 < W5.heap.size := HT.out.lt
  obtain ⟨A_0, A_1, A_2, _⟩ := blk3 HA.out
  have A_l : w2.heap.size < W5.heap.size := HA.out.lt
  obtain ⟨B_0, B_1, B_2, _⟩ := blk3 HB.out
  have B_l : w2.heap.size + 1 < W5.heap.size := HB.out.lt
  obtain ⟨R_0, R_1, R_2, R_3, _⟩ := blk4 HR.out
  have R_l : w3.heap.size < W5.heap.size := HR.out.lt
  obtain ⟨Q_0, Q_1, Q_2, Q_3, _⟩ := blk4 HQ.out
  have Q_l : w4.heap.size < W5.heap.size := HQ.out.lt
  have c20 : ∀ d os, Calls Tryd.prog 20 #[.agg #[.int .i64 x, .bool a, .bool b], .agg #[.int .i64 y, .bool u, .bool v]] (grow (redrawn W5 d) os) fun e w'' => e = .returned (.bool f) ∧ ∃ p : Regrown, w'' = grow (redrawn W5 p.d) p.os := fun d os => Calls.regrown_of (H20 _)
  have c21 : ∀ d os, Calls Tryd.prog 21 #[.agg #[.bool p, .bool q, .bool a, .bool b], .agg #[.bool r, .bool s, .bool u, .bool v]] (grow (redrawn W5 d) os) fun e w'' => e = .returned (.bool f) ∧ ∃ p : Regrown, w'' = grow (redrawn W5 p.d) p.os := fun d os => Calls.regrown_of (H21 _)
  have S_k0 := cell_regrown S_0
  have S_k1 := cell_regrown S_1
  have S_k2 := cell_regrown S_2
  have T_k0 := cell_regrown T_0
  have T_k1 := cell_regrown T_1
  have T_k2 := cell_regrown T_2
  have A_k0 := cell_regrown A_0
  have A_k1 := cell_regrown A_1
  have A_k2 := cell_regrown A_2
  have B_k0 := cell_regrown B_0
  have B_k1 := cell_regrown B_1
  have B_k2 := cell_regrown B_2
  have R_k0 := cell_regrown R_0
  have R_k1 := cell_regrown R_1
  have R_k2 := cell_regrown R_2
  have R_k3 := cell_regrown R_3
  have Q_k0 := cell_regrown Q_0
  have Q_k1 := cell_regrown Q_1
  have Q_k2 := cell_regrown Q_2
  have Q_k3 := cell_regrown Q_3
  clear S_0 S_1 S_2 T_0 T_1 T_2 A_0 A_1 A_2 B_0 B_1 B_2 R_0 R_1 R_2 R_3 Q_0 Q_1 Q_2 Q_3
  refine wp_region_quiet_below (by kernel_rfl) (by kernel_rfl) ?_
  repeat (quiet_step (first | (go_at_call 20; exact c20 _ _) | (go_at_call 21; exact c21 _ _)))
  refine wpQuiet_nil ?_
  intro _ hw'
  obtain ⟨⟨dq, osq⟩, hw''⟩ := hw'
  subst hw''
  have hb := below_regrown W5 dq osq
  obtain ⟨w5, hw5⟩ : ∃ w5, grow (redrawn W5 dq) osq = w5 := ⟨_, rfl⟩
  rw [hw5] at hb ⊢
  clear hw5 S_k0 S_k1 S_k2 T_k0 T_k1 T_k2 A_k0 A_k1 A_k2 B_k0 B_k1 B_k2 R_k0 R_k1 R_k2 R_k3 Q_k0 Q_k1 Q_k2 Q_k3 c20 c21 S_l T_l A_l B_l R_l Q_l
  replace HW : Hid (Below w.heap.size w w5) := HW.out.trans (hb.mono HW.out.size)
  replace HS : Hid (Blk w.heap.size #[.int .i64 x, .bool a, .bool b] 23 w5) := HS.out.below hb
  replace HT : Hid (Blk (w.heap.size + 1) #[.int .i64 y, .bool u, .bool v] 23 w5) := HT.out.below hb
  replace HA : Hid (Blk w2.heap.size #[.int .i64 0, .bool false, .bool false] 23 w5) := HA.out.below hb
  replace HB : Hid (Blk (w2.heap.size + 1) #[.int .i64 0, .bool false, .bool false] 23 w5) := HB.out.below hb
  replace HR : Hid (Blk w3.heap.size #[.bool p, .bool q, .bool a, .bool b] 26 w5) := HR.out.below hb
  replace HQ : Hid (Blk w4.heap.size #[.bool r, .bool s, .bool u, .bool v] 26 w5) := HQ.out.below hb
  clear hb
  obtain ⟨S_0, S_1, S_2, _⟩ := blk3 HS.out
  have S_l : w.heap.size < w5.heap.size := HS.out.lt
  obtain ⟨T_0, T_1, T_2, _⟩ := blk3 HT.out
  have T_l : w.heap.size + 1 < w5.heap.size := HT.out.lt
  obtain ⟨A_0, A_1, A_2, _⟩ := blk3 HA.out
  have A_l : w2.heap.size < w5.heap.size := HA.out.lt
  obtain ⟨B_0, B_1, B_2, _⟩ := blk3 HB.out
  have B_l : w2.heap.size + 1 < w5.heap.size := HB.out.lt
  obtain ⟨R_0, R_1, R_2, R_3, _⟩ := blk4 HR.out
  have R_l : w3.heap.size < w5.heap.size := HR.out.lt
  obtain ⟨Q_0, Q_1, Q_2, Q_3, _⟩ := blk4 HQ.out
  have Q_l : w4.heap.size < w5.heap.size := HQ.out.lt
  go_wp2_with fail
  go_ret
  exact ⟨rfl, HW.out⟩
set_option maxHeartbeats 4000000 in
theorem bothS_bad4 (x y act : Int) (p q r s a b u v f : Bool) (w : World) (hN : Names w) (k1 : ¬ act < 1) (k2 : 4 < act) 
    (H19 : ∀ W, Calls Tryd.prog 19 #[.agg #[.int .i64 x, .bool a, .bool b], .agg #[.int .i64 y, .bool u, .bool v], .int .i64 act] W fun e w' => e = .returned (.tuple #[.agg #[.int .i64 0, .bool false, .bool false], .agg #[.int .i64 0, .bool false, .bool false], .int .i64 1]) ∧ Below W.heap.size W w')
    (H10 : ∀ W, Calls Tryd.prog 10 #[.int .i64 x, .bool a, .bool b] W fun e w' => e = .returned (.tuple #[.agg #[.bool p, .bool q, .bool a, .bool b], .bool true]) ∧ Below W.heap.size W w')
    (H10' : ∀ W, Calls Tryd.prog 10 #[.int .i64 y, .bool u, .bool v] W fun e w' => e = .returned (.tuple #[.agg #[.bool r, .bool s, .bool u, .bool v], .bool true]) ∧ Below W.heap.size W w')
    (H20 : ∀ W, Calls Tryd.prog 20 #[.agg #[.int .i64 x, .bool a, .bool b], .agg #[.int .i64 y, .bool u, .bool v]] W fun e w' => e = .returned (.bool f) ∧ Below W.heap.size W w') (H21 : ∀ W, Calls Tryd.prog 21 #[.agg #[.bool p, .bool q, .bool a, .bool b], .agg #[.bool r, .bool s, .bool u, .bool v]] W fun e w' => e = .returned (.bool f) ∧ Below W.heap.size W w') :
    Calls Tryd.prog 4 #[.agg #[.int .i64 x, .bool a, .bool b], .agg #[.int .i64 y, .bool u, .bool v], .int .i64 act] w fun e w' => e = .returned (.bool true) ∧ Below w.heap.size w w' := by
  have HN : Hid (Names w) := hN
  clear hN
  go_enter Tryd.func4, Tryd.ntmps4
  go_wp2_with fail
  have HS : Hid (Blk w.heap.size #[.int .i64 x, .bool a, .bool b] 23 ((w.alloc (.cells #[.int .i64 x, .bool a, .bool b] 23)).alloc (.cells #[.int .i64 y, .bool u, .bool v] 23))) := Blk.new1 _ _ _ _
  have HT : Hid (Blk (w.heap.size + 1) #[.int .i64 y, .bool u, .bool v] 23 ((w.alloc (.cells #[.int .i64 x, .bool a, .bool b] 23)).alloc (.cells #[.int .i64 y, .bool u, .bool v] 23))) := Blk.new2 _ _ _ _
  have HW : Hid (Below w.heap.size w ((w.alloc (.cells #[.int .i64 x, .bool a, .bool b] 23)).alloc (.cells #[.int .i64 y, .bool u, .bool v] 23))) := below2 _ _ _
  refine (lives_any _ (HN.out.below HW.out)).mono ?_
  rintro e w1 ⟨rfl, hb⟩
  replace HW : Hid (Below w.heap.size w w1) := HW.out.trans (hb.mono HW.out.size)
  replace HS : Hid (Blk w.heap.size #[.int .i64 x, .bool a, .bool b] 23 w1) := HS.out.below hb
  replace HT : Hid (Blk (w.heap.size + 1) #[.int .i64 y, .bool u, .bool v] 23 w1) := HT.out.below hb
  clear hb
  obtain ⟨S_0, S_1, S_2, _⟩ := blk3 HS.out
  have S_l : w.heap.size < w1.heap.size := HS.out.lt
  obtain ⟨T_0, T_1, T_2, _⟩ := blk3 HT.out
  have T_l : w.heap.size + 1 < w1.heap.size := HT.out.lt
  go_wp2_with fail
  refine (H19 _).mono ?_
  rintro e w2 ⟨rfl, hb⟩
  clear S_0 S_1 S_2 S_l
  clear T_0 T_1 T_2 T_l
  replace HW : Hid (Below w.heap.size w w2) := HW.out.trans (hb.mono HW.out.size)
  replace HS : Hid (Blk w.heap.size #[.int .i64 x, .bool a, .bool b] 23 w2) := HS.out.below hb
  replace HT : Hid (Blk (w.heap.size + 1) #[.int .i64 y, .bool u, .bool v] 23 w2) := HT.out.below hb
  clear hb
  obtain ⟨S_0, S_1, S_2, _⟩ := blk3 HS.out
  have S_l : w.heap.size < w2.heap.size := HS.out.lt
  obtain ⟨T_0, T_1, T_2, _⟩ := blk3 HT.out
  have T_l : w.heap.size + 1 < w2.heap.size := HT.out.lt
  go_wp2_with fail
  refine (H10 _).mono ?_
  rintro e w3 ⟨rfl, hb⟩
  have HA : Hid (Blk w2.heap.size #[.int .i64 0, .bool false, .bool false] 23 w3) := (Blk.new1 w2 _ _ _).below hb
  have HB : Hid (Blk (w2.heap.size + 1) #[.int .i64 0, .bool false, .bool false] 23 w3) := (Blk.new2 w2 _ _ _).below hb
  replace hb : Below w2.heap.size w2 w3 := (below2 _ _ _).trans (hb.mono (below2 _ _ _).size)
  clear S_0 S_1 S_2 S_l
  clear T_0 T_1 T_2 T_l
  replace HW : Hid (Below w.heap.size w w3) := HW.out.trans (hb.mono HW.out.size)
  replace HS : Hid (Blk w.heap.size #[.int .i64 x, .bool a, .bool b] 23 w3) := HS.out.below hb
  replace HT : Hid (Blk (w.heap.size + 1) #[.int .i64 y, .bool u, .bool v] 23 w3) := HT.out.below hb
  clear hb
  obtain ⟨S_0, S_1, S_2, _⟩ := blk3 HS.out
  have S_l : w.heap.size < w3.heap.size := HS.out.lt
  obtain ⟨T_0, T_1, T_2, _⟩ := blk3 HT.out
  have T_l : w.heap.size + 1 < w3.heap.size := HT.out.lt
  obtain ⟨A_0, A_1, A_2, _⟩ := blk3 HA.out
  have A_l : w2.heap.size < w3.heap.size := HA.out.lt
  obtain ⟨B_0, B_1, B_2, _⟩ := blk3 HB.out
  have B_l : w2.heap.size + 1 < w3.heap.size := HB.out.lt
  go_wp2_with fail
  refine (H10' _).mono ?_
  rintro e w4 ⟨rfl, hb⟩
  have HR : Hid (Blk w3.heap.size #[.bool p, .bool q, .bool a, .bool b] 26 w4) := (Blk.new w3 _ _).below hb
  replace hb : Below w3.heap.size w3 w4 := (bw0 _ _).trans (hb.mono (bw0 _ _).size)
  clear S_0 S_1 S_2 S_l
  clear T_0 T_1 T_2 T_l
  clear A_0 A_1 A_2 A_l
  clear B_0 B_1 B_2 B_l
  replace HW : Hid (Below w.heap.size w w4) := HW.out.trans (hb.mono HW.out.size)
  replace HS : Hid (Blk w.heap.size #[.int .i64 x, .bool a, .bool b] 23 w4) := HS.out.below hb
  replace HT : Hid (Blk (w.heap.size + 1) #[.int .i64 y, .bool u, .bool v] 23 w4) := HT.out.below hb
  replace HA : Hid (Blk w2.heap.size #[.int .i64 0, .bool false, .bool false] 23 w4) := HA.out.below hb
  replace HB : Hid (Blk (w2.heap.size + 1) #[.int .i64 0, .bool false, .bool false] 23 w4) := HB.out.below hb
  clear hb
  obtain ⟨S_0, S_1, S_2, _⟩ := blk3 HS.out
  have S_l : w.heap.size < w4.heap.size := HS.out.lt
  obtain ⟨T_0, T_1, T_2, _⟩ := blk3 HT.out
  have T_l : w.heap.size + 1 < w4.heap.size := HT.out.lt
  obtain ⟨A_0, A_1, A_2, _⟩ := blk3 HA.out
  have A_l : w2.heap.size < w4.heap.size := HA.out.lt
  obtain ⟨B_0, B_1, B_2, _⟩ := blk3 HB.out
  have B_l : w2.heap.size + 1 < w4.heap.size := HB.out.lt
  obtain ⟨R_0, R_1, R_2, R_3, _⟩ := blk4 HR.out
  have R_l : w3.heap.size < w4.heap.size := HR.out.lt
  go_wp2_with fail
  obtain ⟨W5, hW5⟩ : ∃ W5, w4.alloc (.cells #[.bool r, .bool s, .bool u, .bool v] 26) = W5 := ⟨_, rfl⟩
  have hb : Below w4.heap.size w4 W5 := by rw [← hW5]; exact bw0 _ _
  have HQ : Hid (Blk w4.heap.size #[.bool r, .bool s, .bool u, .bool v] 26 W5) := by show Blk _ _ _ _; rw [← hW5]; exact Blk.new _ _ _
  rw [hW5]
  clear hW5
  clear S_0 S_1 S_2 S_l
  clear T_0 T_1 T_2 T_l
  clear A_0 A_1 A_2 A_l
  clear B_0 B_1 B_2 B_l
  clear R_0 R_1 R_2 R_3 R_l
  replace HW : Hid (Below w.heap.size w W5) := HW.out.trans (hb.mono HW.out.size)
  replace HS : Hid (Blk w.heap.size #[.int .i64 x, .bool a, .bool b] 23 W5) := HS.out.below hb
  replace HT : Hid (Blk (w.heap.size + 1) #[.int .i64 y, .bool u, .bool v] 23 W5) := HT.out.below hb
  replace HA : Hid (Blk w2.heap.size #[.int .i64 0, .bool false, .bool false] 23 W5) := HA.out.below hb
  replace HB : Hid (Blk (w2.heap.size + 1) #[.int .i64 0, .bool false, .bool false] 23 W5) := HB.out.below hb
  replace HR : Hid (Blk w3.heap.size #[.bool p, .bool q, .bool a, .bool b] 26 W5) := HR.out.below hb
  clear hb
  obtain ⟨S_0, S_1, S_2, _⟩ := blk3 HS.out
  have S_l : w.heap.size < W5.heap.size := HS.out.lt
  obtain ⟨T_0, T_1, T_2, _⟩ := blk3 HT.out
  have T_l : w.heap.size + 1 < W5.heap.size := HT.out.lt
  obtain ⟨A_0, A_1, A_2, _⟩ := blk3 HA.out
  have A_l : w2.heap.size < W5.heap.size := HA.out.lt
  obtain ⟨B_0, B_1, B_2, _⟩ := blk3 HB.out
  have B_l : w2.heap.size + 1 < W5.heap.size := HB.out.lt
  obtain ⟨R_0, R_1, R_2, R_3, _⟩ := blk4 HR.out
  have R_l : w3.heap.size < W5.heap.size := HR.out.lt
  obtain ⟨Q_0, Q_1, Q_2, Q_3, _⟩ := blk4 HQ.out
  have Q_l : w4.heap.size < W5.heap.size := HQ.out.lt
  have c20 : ∀ d os, Calls Tryd.prog 20 #[.agg #[.int .i64 x, .bool a, .bool b], .agg #[.int .i64 y, .bool u, .bool v]] (grow (redrawn W5 d) os) fun e w'' => e = .returned (.bool f) ∧ ∃ p : Regrown, w'' = grow (redrawn W5 p.d) p.os := fun d os => Calls.regrown_of (H20 _)
  have c21 : ∀ d os, Calls Tryd.prog 21 #[.agg #[.bool p, .bool q, .bool a, .bool b], .agg #[.bool r, .bool s, .bool u, .bool v]] (grow (redrawn W5 d) os) fun e w'' => e = .returned (.bool f) ∧ ∃ p : Regrown, w'' = grow (redrawn W5 p.d) p.os := fun d os => Calls.regrown_of (H21 _)
  have S_k0 := cell_regrown S_0
  have S_k1 := cell_regrown S_1
  have S_k2 := cell_regrown S_2
  have T_k0 := cell_regrown T_0
  have T_k1 := cell_regrown T_1
  have T_k2 := cell_regrown T_2
  have A_k0 := cell_regrown A_0
  have A_k1 := cell_regrown A_1
  have A_k2 := cell_regrown A_2
  have B_k0 := cell_regrown B_0
  have B_k1 := cell_regrown B_1
  have B_k2 := cell_regrown B_2
  have R_k0 := cell_regrown R_0
  have R_k1 := cell_regrown R_1
  have R_k2 := cell_regrown R_2
  have R_k3 := cell_regrown R_3
  have Q_k0 := cell_regrown Q_0
  have Q_k1 := cell_regrown Q_1
  have Q_k2 := cell_regrown Q_2
  have Q_k3 := cell_regrown Q_3
  clear S_0 S_1 S_2 T_0 T_1 T_2 A_0 A_1 A_2 B_0 B_1 B_2 R_0 R_1 R_2 R_3 Q_0 Q_1 Q_2 Q_3
  refine wp_region_quiet_below (by kernel_rfl) (by kernel_rfl) ?_
  repeat (quiet_step (first | (go_at_call 20; exact c20 _ _) | (go_at_call 21; exact c21 _ _)))
  refine wpQuiet_nil ?_
  intro _ hw'
  obtain ⟨⟨dq, osq⟩, hw''⟩ := hw'
  subst hw''
  have hb := below_regrown W5 dq osq
  obtain ⟨w5, hw5⟩ : ∃ w5, grow (redrawn W5 dq) osq = w5 := ⟨_, rfl⟩
  rw [hw5] at hb ⊢
  clear hw5 S_k0 S_k1 S_k2 T_k0 T_k1 T_k2 A_k0 A_k1 A_k2 B_k0 B_k1 B_k2 R_k0 R_k1 R_k2 R_k3 Q_k0 Q_k1 Q_k2 Q_k3 c20 c21 S_l T_l A_l B_l R_l Q_l
  replace HW : Hid (Below w.heap.size w w5) := HW.out.trans (hb.mono HW.out.size)
  replace HS : Hid (Blk w.heap.size #[.int .i64 x, .bool a, .bool b] 23 w5) := HS.out.below hb
  replace HT : Hid (Blk (w.heap.size + 1) #[.int .i64 y, .bool u, .bool v] 23 w5) := HT.out.below hb
  replace HA : Hid (Blk w2.heap.size #[.int .i64 0, .bool false, .bool false] 23 w5) := HA.out.below hb
  replace HB : Hid (Blk (w2.heap.size + 1) #[.int .i64 0, .bool false, .bool false] 23 w5) := HB.out.below hb
  replace HR : Hid (Blk w3.heap.size #[.bool p, .bool q, .bool a, .bool b] 26 w5) := HR.out.below hb
  replace HQ : Hid (Blk w4.heap.size #[.bool r, .bool s, .bool u, .bool v] 26 w5) := HQ.out.below hb
  clear hb
  obtain ⟨S_0, S_1, S_2, _⟩ := blk3 HS.out
  have S_l : w.heap.size < w5.heap.size := HS.out.lt
  obtain ⟨T_0, T_1, T_2, _⟩ := blk3 HT.out
  have T_l : w.heap.size + 1 < w5.heap.size := HT.out.lt
  obtain ⟨A_0, A_1, A_2, _⟩ := blk3 HA.out
  have A_l : w2.heap.size < w5.heap.size := HA.out.lt
  obtain ⟨B_0, B_1, B_2, _⟩ := blk3 HB.out
  have B_l : w2.heap.size + 1 < w5.heap.size := HB.out.lt
  obtain ⟨R_0, R_1, R_2, R_3, _⟩ := blk4 HR.out
  have R_l : w3.heap.size < w5.heap.size := HR.out.lt
  obtain ⟨Q_0, Q_1, Q_2, Q_3, _⟩ := blk4 HQ.out
  have Q_l : w4.heap.size < w5.heap.size := HQ.out.lt
  go_wp2_with fail
  go_ret
  exact ⟨rfl, HW.out⟩
theorem both_walk (x : Int) (a b : Bool) (y : Int) (u v : Bool) (act : Int) (w : World) (hN : Names w) : Calls Tryd.prog 4 #[.agg #[.int .i64 x, .bool a, .bool b], .agg #[.int .i64 y, .bool u, .bool v], .int .i64 act] w fun e w' => e = .returned (.bool true) ∧ Below w.heap.size w w' := by
  obtain ⟨p, q, ok, R⟩ := reads_any x a b
  obtain ⟨r, s, is, Q⟩ := reads_any y u v
  have HF := fun W => fit_all x y p q a b r s u v W R.h14 Q.h15 R.h15 Q.h14
  have HR := fun W => refFit_all p q a b r s u v W
  rcases R.is with ⟨rfl, rfl, hok⟩ | ⟨rfl, hoff⟩
  · rcases Q.is with ⟨rfl, rfl, hok'⟩ | ⟨rfl, hoff'⟩
    · by_cases k1 : act < 1
      · exact bothS_bad3 _ _ act p q r s a b u v _ w hN k1 (both_no _ _ _ _ _ _ _ (.inr (.inr ⟨by omega, by omega, by omega, by omega⟩))) R.h10 Q.h10 HF HR
      · by_cases k2 : 4 < act
        · exact bothS_bad4 _ _ act p q r s a b u v _ w hN k1 k2 (both_no _ _ _ _ _ _ _ (.inr (.inr ⟨by omega, by omega, by omega, by omega⟩))) R.h10 Q.h10 HF HR
        · obtain ⟨k, rfl⟩ : ∃ k : Nat, act = (k : Int) := ⟨act.toNat, by omega⟩
          have hk : 1 ≤ k ∧ k ≤ 4 := by omega
          exact bothS_ok _ _ k _ _ p q r s a b u v _ _ _ _ _ _ _ _ _ _ _ _ _ w hN k1 k2 (both_any k hk ⟨p, q, a, b⟩ ⟨r, s, u, v⟩ hok hok') R.h10 Q.h10 HF HR (refBoth_any k hk ⟨p, q, a, b⟩ ⟨r, s, u, v⟩ hok hok') (side_any _) (side_any _)
    · exact bothS_bad2 _ _ act p q r s a b u v _ w hN (both_no _ _ _ _ _ _ _ (.inr (.inl hoff'))) R.h10 Q.h10 HF HR
  · exact bothS_bad1 _ _ act p q r s a b u v _ is w hN (both_no _ _ _ _ _ _ _ (.inl hoff)) R.h10 Q.h10 HF HR
end Go.Proofs.YtojeeopmhogolaaDoor
