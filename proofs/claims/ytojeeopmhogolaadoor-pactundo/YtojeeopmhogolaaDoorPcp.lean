/-
  The walk of the statement PactSteps over this program.
-/
import Derived.Test.YtojeeopmhogolaaDoorPck
import Derived.Test.YtojeeopmhogolaaDoorPcn
import Derived.Test.YtojeeopmhogolaaDoorPco
namespace Go.Proofs.YtojeeopmhogolaaDoor
open Go Go.RowKit Go.Sort
set_option maxHeartbeats 4000000 in
theorem steps_ok (x act ds hs : Int) (p q a b da db dt ha hy ht he xp xq xa xb yp yq ya yb : Bool) (w : World) (hN : Names w)
    (H10 : ∀ W, Calls Tryd.prog 10 #[.int .i64 x, .bool a, .bool b] W fun e w' => e = .returned (.tuple #[.agg #[.bool p, .bool q, .bool a, .bool b], .bool true]) ∧ Below W.heap.size W w')
    (H11 : ∀ W, Calls Tryd.prog 11 #[.agg #[.int .i64 x, .bool a, .bool b], .int .i64 act] W fun e w' => e = .returned (.tuple #[.agg #[.int .i64 ds, .bool da, .bool db, .bool dt, .bool false], .int .i64 0]) ∧ Below W.heap.size W w')
    (H12 : ∀ W, Calls Tryd.prog 12 #[.agg #[.int .i64 x, .bool a, .bool b], .int .i64 act] W fun e w' => e = .returned (.tuple #[.agg #[.int .i64 hs, .bool ha, .bool hy, .bool ht, .bool he], .int .i64 0]) ∧ Below W.heap.size W w')
    (H13 : ∀ W, Calls Tryd.prog 13 #[.agg #[.int .i64 x, .bool a, .bool b]] W fun e w' => e = .returned (.bool true) ∧ Below W.heap.size W w') (H14 : ∀ W, Calls Tryd.prog 14 #[.agg #[.int .i64 x, .bool a, .bool b]] W fun e w' => e = .returned (.bool p) ∧ Below W.heap.size W w') (H15 : ∀ W, Calls Tryd.prog 15 #[.agg #[.int .i64 x, .bool a, .bool b]] W fun e w' => e = .returned (.bool q) ∧ Below W.heap.size W w')
    (H16 : ∀ W, Calls Tryd.prog 16 #[.agg #[.bool p, .bool q, .bool a, .bool b], .int .i64 act] W fun e w' => e = .returned (.tuple #[.agg #[.bool xp, .bool xq, .bool xa, .bool xb], .bool dt, .bool true]) ∧ Below W.heap.size W w')
    (H17 : ∀ W, Calls Tryd.prog 17 #[.agg #[.bool p, .bool q, .bool a, .bool b], .int .i64 act] W fun e w' => e = .returned (.tuple #[.agg #[.bool yp, .bool yq, .bool ya, .bool yb], .bool ht, .bool he, .bool true]) ∧ Below W.heap.size W w')
    (H18 : ∀ W, Calls Tryd.prog 18 #[.agg #[.bool xp, .bool xq, .bool xa, .bool xb]] W fun e w' => e = .returned (.agg #[.int .i64 ds, .bool da, .bool db]) ∧ Below W.heap.size W w') (H18' : ∀ W, Calls Tryd.prog 18 #[.agg #[.bool yp, .bool yq, .bool ya, .bool yb]] W fun e w' => e = .returned (.agg #[.int .i64 hs, .bool ha, .bool hy]) ∧ Below W.heap.size W w') :
    Calls Tryd.prog 3 #[.agg #[.int .i64 x, .bool a, .bool b], .int .i64 act] w fun e w' => e = .returned (.bool true) ∧ Below w.heap.size w w' := by
  have HN : Hid (Names w) := hN
  clear hN
  have pp : ∀ c : Bool, (c == c) = true := fun c => by cases c <;> rfl
  clear pp
  go_enter Tryd.func3, Tryd.ntmps3
  go_wp2_with fail
  have HS : Hid (Blk w.heap.size #[.int .i64 x, .bool a, .bool b] 23 (w.alloc (.cells #[.int .i64 x, .bool a, .bool b] 23))) := Blk.new _ _ _
  have HW : Hid (Below w.heap.size w (w.alloc (.cells #[.int .i64 x, .bool a, .bool b] 23))) := bw0 _ _
  refine (lives_any _ (HN.out.below HW.out)).mono ?_
  rintro e w1 ⟨rfl, hb⟩
  replace HW : Hid (Below w.heap.size w w1) := HW.out.trans (hb.mono HW.out.size)
  replace HS : Hid (Blk w.heap.size #[.int .i64 x, .bool a, .bool b] 23 w1) := HS.out.below hb
  clear hb
  obtain ⟨S_0, S_1, S_2, _⟩ := blk3 HS.out
  have S_l : w.heap.size < w1.heap.size := HS.out.lt
  go_wp2_with fail
  refine (H10 _).mono ?_
  rintro e w2 ⟨rfl, hb⟩
  clear S_0 S_1 S_2 S_l
  replace HW : Hid (Below w.heap.size w w2) := HW.out.trans (hb.mono HW.out.size)
  replace HS : Hid (Blk w.heap.size #[.int .i64 x, .bool a, .bool b] 23 w2) := HS.out.below hb
  clear hb
  obtain ⟨S_0, S_1, S_2, _⟩ := blk3 HS.out
  have S_l : w.heap.size < w2.heap.size := HS.out.lt
  go_wp2_with fail
  refine (H11 _).mono ?_
  rintro e w3 ⟨rfl, hb⟩
  have HR : Hid (Blk w2.heap.size #[.bool p, .bool q, .bool a, .bool b] 26 w3) := (Blk.new w2 _ _).below hb
  replace hb : Below w2.heap.size w2 w3 := (bw0 _ _).trans (hb.mono (bw0 _ _).size)
  clear S_0 S_1 S_2 S_l
  replace HW : Hid (Below w.heap.size w w3) := HW.out.trans (hb.mono HW.out.size)
  replace HS : Hid (Blk w.heap.size #[.int .i64 x, .bool a, .bool b] 23 w3) := HS.out.below hb
  clear hb
  obtain ⟨S_0, S_1, S_2, _⟩ := blk3 HS.out
  have S_l : w.heap.size < w3.heap.size := HS.out.lt
  obtain ⟨R_0, R_1, R_2, R_3, _⟩ := blk4 HR.out
  have R_l : w2.heap.size < w3.heap.size := HR.out.lt
  go_wp2_with fail
  refine (H12 _).mono ?_
  rintro e w4 ⟨rfl, hb⟩
  have HD : Hid (Blk w3.heap.size #[.int .i64 ds, .bool da, .bool db, .bool dt, .bool false] 30 w4) := (Blk.new w3 _ _).below hb
  replace hb : Below w3.heap.size w3 w4 := (bw0 _ _).trans (hb.mono (bw0 _ _).size)
  clear S_0 S_1 S_2 S_l
  clear R_0 R_1 R_2 R_3 R_l
  replace HW : Hid (Below w.heap.size w w4) := HW.out.trans (hb.mono HW.out.size)
  replace HS : Hid (Blk w.heap.size #[.int .i64 x, .bool a, .bool b] 23 w4) := HS.out.below hb
  replace HR : Hid (Blk w2.heap.size #[.bool p, .bool q, .bool a, .bool b] 26 w4) := HR.out.below hb
  clear hb
  obtain ⟨S_0, S_1, S_2, _⟩ := blk3 HS.out
  have S_l : w.heap.size < w4.heap.size := HS.out.lt
  obtain ⟨R_0, R_1, R_2, R_3, _⟩ := blk4 HR.out
  have R_l : w2.heap.size < w4.heap.size := HR.out.lt
  obtain ⟨D_0, D_1, D_2, D_3, D_4, _⟩ := blk5 HD.out
  have D_l : w3.heap.size < w4.heap.size := HD.out.lt
  go_wp2_with fail
  obtain ⟨W5, hW5⟩ : ∃ W5, w4.alloc (.cells #[.int .i64 hs, .bool ha, .bool hy, .bool ht, .bool he] 30) = W5 := ⟨_, rfl⟩
  have hb : Below w4.heap.size w4 W5 := by rw [← hW5]; exact bw0 _ _
  have HH : Hid (Blk w4.heap.size #[.int .i64 hs, .bool ha, .bool hy, .bool ht, .bool he] 30 W5) := by show Blk _ _ _ _; rw [← hW5]; exact Blk.new _ _ _
  rw [hW5]
  clear hW5
  clear S_0 S_1 S_2 S_l
  clear R_0 R_1 R_2 R_3 R_l
  clear D_0 D_1 D_2 D_3 D_4 D_l
  replace HW : Hid (Below w.heap.size w W5) := HW.out.trans (hb.mono HW.out.size)
  replace HS : Hid (Blk w.heap.size #[.int .i64 x, .bool a, .bool b] 23 W5) := HS.out.below hb
  replace HR : Hid (Blk w2.heap.size #[.bool p, .bool q, .bool a, .bool b] 26 W5) := HR.out.below hb
  replace HD : Hid (Blk w3.heap.size #[.int .i64 ds, .bool da, .bool db, .bool dt, .bool false] 30 W5) := HD.out.below hb
  clear hb
  obtain ⟨S_0, S_1, S_2, _⟩ := blk3 HS.out
  have S_l : w.heap.size < W5.heap.size := HS.out.lt
  obtain ⟨R_0, R_1, R_2, R_3, _⟩ := blk4 HR.out
  have R_l : w2.heap.size < W5.heap.size := HR.out.lt
  obtain ⟨D_0, D_1, D_2, D_3, D_4, _⟩ := blk5 HD.out
  have D_l : w3.heap.size < W5.heap.size := HD.out.lt
  obtain ⟨H_0, H_1, H_2, H_3, H_4, _⟩ := blk5 HH.out
  have H_l : w4.heap.size < W5.heap.size := HH.out.lt
  have c13 : ∀ d os, Calls Tryd.prog 13 #[.agg #[.int .i64 x, .bool a, .bool b]] (grow (redrawn W5 d) os) fun e w'' => e = .returned (.bool true) ∧ ∃ p : Regrown, w'' = grow (redrawn W5 p.d) p.os := fun d os => Calls.regrown_of (H13 _)
  have c14 : ∀ d os, Calls Tryd.prog 14 #[.agg #[.int .i64 x, .bool a, .bool b]] (grow (redrawn W5 d) os) fun e w'' => e = .returned (.bool p) ∧ ∃ p : Regrown, w'' = grow (redrawn W5 p.d) p.os := fun d os => Calls.regrown_of (H14 _)
  have c15 : ∀ d os, Calls Tryd.prog 15 #[.agg #[.int .i64 x, .bool a, .bool b]] (grow (redrawn W5 d) os) fun e w'' => e = .returned (.bool q) ∧ ∃ p : Regrown, w'' = grow (redrawn W5 p.d) p.os := fun d os => Calls.regrown_of (H15 _)
  have S_k0 := cell_regrown S_0
  have S_k1 := cell_regrown S_1
  have S_k2 := cell_regrown S_2
  have R_k0 := cell_regrown R_0
  have R_k1 := cell_regrown R_1
  have R_k2 := cell_regrown R_2
  have R_k3 := cell_regrown R_3
  have D_k0 := cell_regrown D_0
  have D_k1 := cell_regrown D_1
  have D_k2 := cell_regrown D_2
  have D_k3 := cell_regrown D_3
  have D_k4 := cell_regrown D_4
  have H_k0 := cell_regrown H_0
  have H_k1 := cell_regrown H_1
  have H_k2 := cell_regrown H_2
  have H_k3 := cell_regrown H_3
  have H_k4 := cell_regrown H_4
  clear S_0 S_1 S_2 R_0 R_1 R_2 R_3 D_0 D_1 D_2 D_3 D_4 H_0 H_1 H_2 H_3 H_4
  refine wp_region_quiet_below (by kernel_rfl) (by kernel_rfl) ?_
  repeat (quiet_step (first | (go_at_call 13; exact c13 _ _) | (go_at_call 14; exact c14 _ _) | (go_at_call 15; exact c15 _ _)))
  refine wpQuiet_nil ?_
  intro _ hw'
  obtain ⟨⟨dq, osq⟩, hw''⟩ := hw'
  subst hw''
  have hb := below_regrown W5 dq osq
  obtain ⟨w5, hw5⟩ : ∃ w5, grow (redrawn W5 dq) osq = w5 := ⟨_, rfl⟩
  rw [hw5] at hb ⊢
  clear hw5 S_k0 S_k1 S_k2 R_k0 R_k1 R_k2 R_k3 D_k0 D_k1 D_k2 D_k3 D_k4 H_k0 H_k1 H_k2 H_k3 H_k4 c13 c14 c15 S_l R_l D_l H_l
  replace HW : Hid (Below w.heap.size w w5) := HW.out.trans (hb.mono HW.out.size)
  replace HS : Hid (Blk w.heap.size #[.int .i64 x, .bool a, .bool b] 23 w5) := HS.out.below hb
  replace HR : Hid (Blk w2.heap.size #[.bool p, .bool q, .bool a, .bool b] 26 w5) := HR.out.below hb
  replace HD : Hid (Blk w3.heap.size #[.int .i64 ds, .bool da, .bool db, .bool dt, .bool false] 30 w5) := HD.out.below hb
  replace HH : Hid (Blk w4.heap.size #[.int .i64 hs, .bool ha, .bool hy, .bool ht, .bool he] 30 w5) := HH.out.below hb
  clear hb
  obtain ⟨S_0, S_1, S_2, _⟩ := blk3 HS.out
  have S_l : w.heap.size < w5.heap.size := HS.out.lt
  obtain ⟨R_0, R_1, R_2, R_3, _⟩ := blk4 HR.out
  have R_l : w2.heap.size < w5.heap.size := HR.out.lt
  obtain ⟨D_0, D_1, D_2, D_3, D_4, _⟩ := blk5 HD.out
  have D_l : w3.heap.size < w5.heap.size := HD.out.lt
  obtain ⟨H_0, H_1, H_2, H_3, H_4, _⟩ := blk5 HH.out
  have H_l : w4.heap.size < w5.heap.size := HH.out.lt
  go_wp2_with fail
  refine (H16 _).mono ?_
  rintro e w6 ⟨rfl, hb⟩
  clear S_0 S_1 S_2 S_l
  clear R_0 R_1 R_2 R_3 R_l
  clear D_0 D_1 D_2 D_3 D_4 D_l
  clear H_0 H_1 H_2 H_3 H_4 H_l
  replace HW : Hid (Below w.heap.size w w6) := HW.out.trans (hb.mono HW.out.size)
  replace HS : Hid (Blk w.heap.size #[.int .i64 x, .bool a, .bool b] 23 w6) := HS.out.below hb
  replace HR : Hid (Blk w2.heap.size #[.bool p, .bool q, .bool a, .bool b] 26 w6) := HR.out.below hb
  replace HD : Hid (Blk w3.heap.size #[.int .i64 ds, .bool da, .bool db, .bool dt, .bool false] 30 w6) := HD.out.below hb
  replace HH : Hid (Blk w4.heap.size #[.int .i64 hs, .bool ha, .bool hy, .bool ht, .bool he] 30 w6) := HH.out.below hb
  clear hb
  obtain ⟨S_0, S_1, S_2, _⟩ := blk3 HS.out
  have S_l : w.heap.size < w6.heap.size := HS.out.lt
  obtain ⟨R_0, R_1, R_2, R_3, _⟩ := blk4 HR.out
  have R_l : w2.heap.size < w6.heap.size := HR.out.lt
  obtain ⟨D_0, D_1, D_2, D_3, D_4, _⟩ := blk5 HD.out
  have D_l : w3.heap.size < w6.heap.size := HD.out.lt
  obtain ⟨H_0, H_1, H_2, H_3, H_4, _⟩ := blk5 HH.out
  have H_l : w4.heap.size < w6.heap.size := HH.out.lt
  go_wp2_with fail
  refine (H17 _).mono ?_
  rintro e w7 ⟨rfl, hb⟩
  have HX : Hid (Blk w6.heap.size #[.bool xp, .bool xq, .bool xa, .bool xb] 26 w7) := (Blk.new w6 _ _).below hb
  replace hb : Below w6.heap.size w6 w7 := (bw0 _ _).trans (hb.mono (bw0 _ _).size)
  clear S_0 S_1 S_2 S_l
  clear R_0 R_1 R_2 R_3 R_l
  clear D_0 D_1 D_2 D_3 D_4 D_l
  clear H_0 H_1 H_2 H_3 H_4 H_l
  replace HW : Hid (Below w.heap.size w w7) := HW.out.trans (hb.mono HW.out.size)
  replace HS : Hid (Blk w.heap.size #[.int .i64 x, .bool a, .bool b] 23 w7) := HS.out.below hb
  replace HR : Hid (Blk w2.heap.size #[.bool p, .bool q, .bool a, .bool b] 26 w7) := HR.out.below hb
  replace HD : Hid (Blk w3.heap.size #[.int .i64 ds, .bool da, .bool db, .bool dt, .bool false] 30 w7) := HD.out.below hb
  replace HH : Hid (Blk w4.heap.size #[.int .i64 hs, .bool ha, .bool hy, .bool ht, .bool he] 30 w7) := HH.out.below hb
  clear hb
  obtain ⟨S_0, S_1, S_2, _⟩ := blk3 HS.out
  have S_l : w.heap.size < w7.heap.size := HS.out.lt
  obtain ⟨R_0, R_1, R_2, R_3, _⟩ := blk4 HR.out
  have R_l : w2.heap.size < w7.heap.size := HR.out.lt
  obtain ⟨D_0, D_1, D_2, D_3, D_4, _⟩ := blk5 HD.out
  have D_l : w3.heap.size < w7.heap.size := HD.out.lt
  obtain ⟨H_0, H_1, H_2, H_3, H_4, _⟩ := blk5 HH.out
  have H_l : w4.heap.size < w7.heap.size := HH.out.lt
  obtain ⟨X_0, X_1, X_2, X_3, _⟩ := blk4 HX.out
  have X_l : w6.heap.size < w7.heap.size := HX.out.lt
  go_wp2_with fail
  obtain ⟨W8, hW8⟩ : ∃ W8, w7.alloc (.cells #[.bool yp, .bool yq, .bool ya, .bool yb] 26) = W8 := ⟨_, rfl⟩
  have hb : Below w7.heap.size w7 W8 := by rw [← hW8]; exact bw0 _ _
  have HY : Hid (Blk w7.heap.size #[.bool yp, .bool yq, .bool ya, .bool yb] 26 W8) := by show Blk _ _ _ _; rw [← hW8]; exact Blk.new _ _ _
  rw [hW8]
  clear hW8
  clear S_0 S_1 S_2 S_l
  clear R_0 R_1 R_2 R_3 R_l
  clear D_0 D_1 D_2 D_3 D_4 D_l
  clear H_0 H_1 H_2 H_3 H_4 H_l
  clear X_0 X_1 X_2 X_3 X_l
  replace HW : Hid (Below w.heap.size w W8) := HW.out.trans (hb.mono HW.out.size)
  replace HS : Hid (Blk w.heap.size #[.int .i64 x, .bool a, .bool b] 23 W8) := HS.out.below hb
  replace HR : Hid (Blk w2.heap.size #[.bool p, .bool q, .bool a, .bool b] 26 W8) := HR.out.below hb
  replace HD : Hid (Blk w3.heap.size #[.int .i64 ds, .bool da, .bool db, .bool dt, .bool false] 30 W8) := HD.out.below hb
  replace HH : Hid (Blk w4.heap.size #[.int .i64 hs, .bool ha, .bool hy, .bool ht, .bool he] 30 W8) := HH.out.below hb
  replace HX : Hid (Blk w6.heap.size #[.bool xp, .bool xq, .bool xa, .bool xb] 26 W8) := HX.out.below hb
  clear hb
  obtain ⟨S_0, S_1, S_2, _⟩ := blk3 HS.out
  have S_l : w.heap.size < W8.heap.size := HS.out.lt
  obtain ⟨R_0, R_1, R_2, R_3, _⟩ := blk4 HR.out
  have R_l : w2.heap.size < W8.heap.size := HR.out.lt
  obtain ⟨D_0, D_1, D_2, D_3, D_4, _⟩ := blk5 HD.out
  have D_l : w3.heap.size < W8.heap.size := HD.out.lt
  obtain ⟨H_0, H_1, H_2, H_3, H_4, _⟩ := blk5 HH.out
  have H_l : w4.heap.size < W8.heap.size := HH.out.lt
  obtain ⟨X_0, X_1, X_2, X_3, _⟩ := blk4 HX.out
  have X_l : w6.heap.size < W8.heap.size := HX.out.lt
  obtain ⟨Y_0, Y_1, Y_2, Y_3, _⟩ := blk4 HY.out
  have Y_l : w7.heap.size < W8.heap.size := HY.out.lt
  have c18 : ∀ d os, Calls Tryd.prog 18 #[.agg #[.bool xp, .bool xq, .bool xa, .bool xb]] (grow (redrawn W8 d) os) fun e w'' => e = .returned (.agg #[.int .i64 ds, .bool da, .bool db]) ∧ ∃ p : Regrown, w'' = grow (redrawn W8 p.d) p.os := fun d os => Calls.regrown_of (H18 _)
  have c18b : ∀ d os, Calls Tryd.prog 18 #[.agg #[.bool yp, .bool yq, .bool ya, .bool yb]] (grow (redrawn W8 d) os) fun e w'' => e = .returned (.agg #[.int .i64 hs, .bool ha, .bool hy]) ∧ ∃ p : Regrown, w'' = grow (redrawn W8 p.d) p.os := fun d os => Calls.regrown_of (H18' _)
  have S_k0 := cell_regrown S_0
  have S_k1 := cell_regrown S_1
  have S_k2 := cell_regrown S_2
  have R_k0 := cell_regrown R_0
  have R_k1 := cell_regrown R_1
  have R_k2 := cell_regrown R_2
  have R_k3 := cell_regrown R_3
  have D_k0 := cell_regrown D_0
  have D_k1 := cell_regrown D_1
  have D_k2 := cell_regrown D_2
  have D_k3 := cell_regrown D_3
  have D_k4 := cell_regrown D_4
  have H_k0 := cell_regrown H_0
  have H_k1 := cell_regrown H_1
  have H_k2 := cell_regrown H_2
  have H_k3 := cell_regrown H_3
  have H_k4 := cell_regrown H_4
  have X_k0 := cell_regrown X_0
  have X_k1 := cell_regrown X_1
  have X_k2 := cell_regrown X_2
  have X_k3 := cell_regrown X_3
  have Y_k0 := cell_regrown Y_0
  have Y_k1 := cell_regrown Y_1
  have Y_k2 := cell_regrown Y_2
  have Y_k3 := cell_regrown Y_3
  clear S_0 S_1 S_2 R_0 R_1 R_2 R_3 D_0 D_1 D_2 D_3 D_4 H_0 H_1 H_2 H_3 H_4 X_0 X_1 X_2 X_3 Y_0 Y_1 Y_2 Y_3
  refine wp_region_quiet_below (by kernel_rfl) (by kernel_rfl) ?_
  repeat (quiet_step (first | (go_at_call_of 18 (xp); exact c18 _ _) | (go_at_call 18; exact c18b _ _)))
  refine wpQuiet_nil ?_
  intro _ hw'
  obtain ⟨⟨dq, osq⟩, hw''⟩ := hw'
  subst hw''
  have hb := below_regrown W8 dq osq
  obtain ⟨w8, hw8⟩ : ∃ w8, grow (redrawn W8 dq) osq = w8 := ⟨_, rfl⟩
  rw [hw8] at hb ⊢
  clear hw8 S_k0 S_k1 S_k2 R_k0 R_k1 R_k2 R_k3 D_k0 D_k1 D_k2 D_k3 D_k4 H_k0 H_k1 H_k2 H_k3 H_k4 X_k0 X_k1 X_k2 X_k3 Y_k0 Y_k1 Y_k2 Y_k3 c18 c18b S_l R_l D_l H_l X_l Y_l
  replace HW : Hid (Below w.heap.size w w8) := HW.out.trans (hb.mono HW.out.size)
  replace HS : Hid (Blk w.heap.size #[.int .i64 x, .bool a, .bool b] 23 w8) := HS.out.below hb
  replace HR : Hid (Blk w2.heap.size #[.bool p, .bool q, .bool a, .bool b] 26 w8) := HR.out.below hb
  replace HD : Hid (Blk w3.heap.size #[.int .i64 ds, .bool da, .bool db, .bool dt, .bool false] 30 w8) := HD.out.below hb
  replace HH : Hid (Blk w4.heap.size #[.int .i64 hs, .bool ha, .bool hy, .bool ht, .bool he] 30 w8) := HH.out.below hb
  replace HX : Hid (Blk w6.heap.size #[.bool xp, .bool xq, .bool xa, .bool xb] 26 w8) := HX.out.below hb
  replace HY : Hid (Blk w7.heap.size #[.bool yp, .bool yq, .bool ya, .bool yb] 26 w8) := HY.out.below hb
  clear hb
  obtain ⟨S_0, S_1, S_2, _⟩ := blk3 HS.out
  have S_l : w.heap.size < w8.heap.size := HS.out.lt
  obtain ⟨R_0, R_1, R_2, R_3, _⟩ := blk4 HR.out
  have R_l : w2.heap.size < w8.heap.size := HR.out.lt
  obtain ⟨D_0, D_1, D_2, D_3, D_4, _⟩ := blk5 HD.out
  have D_l : w3.heap.size < w8.heap.size := HD.out.lt
  obtain ⟨H_0, H_1, H_2, H_3, H_4, _⟩ := blk5 HH.out
  have H_l : w4.heap.size < w8.heap.size := HH.out.lt
  obtain ⟨X_0, X_1, X_2, X_3, _⟩ := blk4 HX.out
  have X_l : w6.heap.size < w8.heap.size := HX.out.lt
  obtain ⟨Y_0, Y_1, Y_2, Y_3, _⟩ := blk4 HY.out
  have Y_l : w7.heap.size < w8.heap.size := HY.out.lt
  go_wp2_with fail
  go_ret
  exact ⟨rfl, HW.out⟩
set_option maxHeartbeats 4000000 in
theorem steps_bad (x act : Int) (p q a b dt ht he xp xq xa xb yp yq ya yb r is : Bool) (w : World) (hN : Names w)
    (H10 : ∀ W, Calls Tryd.prog 10 #[.int .i64 x, .bool a, .bool b] W fun e w' => e = .returned (.tuple #[.agg #[.bool p, .bool q, .bool a, .bool b], .bool false]) ∧ Below W.heap.size W w')
    (H11 : ∀ W, Calls Tryd.prog 11 #[.agg #[.int .i64 x, .bool a, .bool b], .int .i64 act] W fun e w' => e = .returned (.tuple #[.agg #[.int .i64 0, .bool false, .bool false, .bool false, .bool false], .int .i64 1]) ∧ Below W.heap.size W w')
    (H12 : ∀ W, Calls Tryd.prog 12 #[.agg #[.int .i64 x, .bool a, .bool b], .int .i64 act] W fun e w' => e = .returned (.tuple #[.agg #[.int .i64 0, .bool false, .bool false, .bool false, .bool false], .int .i64 1]) ∧ Below W.heap.size W w')
    (H13 : ∀ W, Calls Tryd.prog 13 #[.agg #[.int .i64 x, .bool a, .bool b]] W fun e w' => e = .returned (.bool false) ∧ Below W.heap.size W w') (H14 : ∀ W, Calls Tryd.prog 14 #[.agg #[.int .i64 x, .bool a, .bool b]] W fun e w' => e = .returned (.bool p) ∧ Below W.heap.size W w') (H15 : ∀ W, Calls Tryd.prog 15 #[.agg #[.int .i64 x, .bool a, .bool b]] W fun e w' => e = .returned (.bool q) ∧ Below W.heap.size W w')
    (H16 : ∀ W, Calls Tryd.prog 16 #[.agg #[.bool p, .bool q, .bool a, .bool b], .int .i64 act] W fun e w' => e = .returned (.tuple #[.agg #[.bool xp, .bool xq, .bool xa, .bool xb], .bool dt, .bool is]) ∧ Below W.heap.size W w')
    (H17 : ∀ W, Calls Tryd.prog 17 #[.agg #[.bool p, .bool q, .bool a, .bool b], .int .i64 act] W fun e w' => e = .returned (.tuple #[.agg #[.bool yp, .bool yq, .bool ya, .bool yb], .bool ht, .bool he, .bool r]) ∧ Below W.heap.size W w') :
    Calls Tryd.prog 3 #[.agg #[.int .i64 x, .bool a, .bool b], .int .i64 act] w fun e w' => e = .returned (.bool true) ∧ Below w.heap.size w w' := by
  have HN : Hid (Names w) := hN
  clear hN
  go_enter Tryd.func3, Tryd.ntmps3
  go_wp2_with fail
  have HS : Hid (Blk w.heap.size #[.int .i64 x, .bool a, .bool b] 23 (w.alloc (.cells #[.int .i64 x, .bool a, .bool b] 23))) := Blk.new _ _ _
  have HW : Hid (Below w.heap.size w (w.alloc (.cells #[.int .i64 x, .bool a, .bool b] 23))) := bw0 _ _
  refine (lives_any _ (HN.out.below HW.out)).mono ?_
  rintro e w1 ⟨rfl, hb⟩
  replace HW : Hid (Below w.heap.size w w1) := HW.out.trans (hb.mono HW.out.size)
  replace HS : Hid (Blk w.heap.size #[.int .i64 x, .bool a, .bool b] 23 w1) := HS.out.below hb
  clear hb
  obtain ⟨S_0, S_1, S_2, _⟩ := blk3 HS.out
  have S_l : w.heap.size < w1.heap.size := HS.out.lt
  go_wp2_with fail
  refine (H10 _).mono ?_
  rintro e w2 ⟨rfl, hb⟩
  clear S_0 S_1 S_2 S_l
  replace HW : Hid (Below w.heap.size w w2) := HW.out.trans (hb.mono HW.out.size)
  replace HS : Hid (Blk w.heap.size #[.int .i64 x, .bool a, .bool b] 23 w2) := HS.out.below hb
  clear hb
  obtain ⟨S_0, S_1, S_2, _⟩ := blk3 HS.out
  have S_l : w.heap.size < w2.heap.size := HS.out.lt
  go_wp2_with fail
  refine (H11 _).mono ?_
  rintro e w3 ⟨rfl, hb⟩
  have HR : Hid (Blk w2.heap.size #[.bool p, .bool q, .bool a, .bool b] 26 w3) := (Blk.new w2 _ _).below hb
  replace hb : Below w2.heap.size w2 w3 := (bw0 _ _).trans (hb.mono (bw0 _ _).size)
  clear S_0 S_1 S_2 S_l
  replace HW : Hid (Below w.heap.size w w3) := HW.out.trans (hb.mono HW.out.size)
  replace HS : Hid (Blk w.heap.size #[.int .i64 x, .bool a, .bool b] 23 w3) := HS.out.below hb
  clear hb
  obtain ⟨S_0, S_1, S_2, _⟩ := blk3 HS.out
  have S_l : w.heap.size < w3.heap.size := HS.out.lt
  obtain ⟨R_0, R_1, R_2, R_3, _⟩ := blk4 HR.out
  have R_l : w2.heap.size < w3.heap.size := HR.out.lt
  go_wp2_with fail
  refine (H12 _).mono ?_
  rintro e w4 ⟨rfl, hb⟩
  have HD : Hid (Blk w3.heap.size #[.int .i64 0, .bool false, .bool false, .bool false, .bool false] 30 w4) := (Blk.new w3 _ _).below hb
  replace hb : Below w3.heap.size w3 w4 := (bw0 _ _).trans (hb.mono (bw0 _ _).size)
  clear S_0 S_1 S_2 S_l
  clear R_0 R_1 R_2 R_3 R_l
  replace HW : Hid (Below w.heap.size w w4) := HW.out.trans (hb.mono HW.out.size)
  replace HS : Hid (Blk w.heap.size #[.int .i64 x, .bool a, .bool b] 23 w4) := HS.out.below hb
  replace HR : Hid (Blk w2.heap.size #[.bool p, .bool q, .bool a, .bool b] 26 w4) := HR.out.below hb
  clear hb
  obtain ⟨S_0, S_1, S_2, _⟩ := blk3 HS.out
  have S_l : w.heap.size < w4.heap.size := HS.out.lt
  obtain ⟨R_0, R_1, R_2, R_3, _⟩ := blk4 HR.out
  have R_l : w2.heap.size < w4.heap.size := HR.out.lt
  obtain ⟨D_0, D_1, D_2, D_3, D_4, _⟩ := blk5 HD.out
  have D_l : w3.heap.size < w4.heap.size := HD.out.lt
  go_wp2_with fail
  obtain ⟨W5, hW5⟩ : ∃ W5, w4.alloc (.cells #[.int .i64 0, .bool false, .bool false, .bool false, .bool false] 30) = W5 := ⟨_, rfl⟩
  have hb : Below w4.heap.size w4 W5 := by rw [← hW5]; exact bw0 _ _
  have HH : Hid (Blk w4.heap.size #[.int .i64 0, .bool false, .bool false, .bool false, .bool false] 30 W5) := by show Blk _ _ _ _; rw [← hW5]; exact Blk.new _ _ _
  rw [hW5]
  clear hW5
  clear S_0 S_1 S_2 S_l
  clear R_0 R_1 R_2 R_3 R_l
  clear D_0 D_1 D_2 D_3 D_4 D_l
  replace HW : Hid (Below w.heap.size w W5) := HW.out.trans (hb.mono HW.out.size)
  replace HS : Hid (Blk w.heap.size #[.int .i64 x, .bool a, .bool b] 23 W5) := HS.out.below hb
  replace HR : Hid (Blk w2.heap.size #[.bool p, .bool q, .bool a, .bool b] 26 W5) := HR.out.below hb
  replace HD : Hid (Blk w3.heap.size #[.int .i64 0, .bool false, .bool false, .bool false, .bool false] 30 W5) := HD.out.below hb
  clear hb
  obtain ⟨S_0, S_1, S_2, _⟩ := blk3 HS.out
  have S_l : w.heap.size < W5.heap.size := HS.out.lt
  obtain ⟨R_0, R_1, R_2, R_3, _⟩ := blk4 HR.out
  have R_l : w2.heap.size < W5.heap.size := HR.out.lt
  obtain ⟨D_0, D_1, D_2, D_3, D_4, _⟩ := blk5 HD.out
  have D_l : w3.heap.size < W5.heap.size := HD.out.lt
  obtain ⟨H_0, H_1, H_2, H_3, H_4, _⟩ := blk5 HH.out
  have H_l : w4.heap.size < W5.heap.size := HH.out.lt
  have c13 : ∀ d os, Calls Tryd.prog 13 #[.agg #[.int .i64 x, .bool a, .bool b]] (grow (redrawn W5 d) os) fun e w'' => e = .returned (.bool false) ∧ ∃ p : Regrown, w'' = grow (redrawn W5 p.d) p.os := fun d os => Calls.regrown_of (H13 _)
  have c14 : ∀ d os, Calls Tryd.prog 14 #[.agg #[.int .i64 x, .bool a, .bool b]] (grow (redrawn W5 d) os) fun e w'' => e = .returned (.bool p) ∧ ∃ p : Regrown, w'' = grow (redrawn W5 p.d) p.os := fun d os => Calls.regrown_of (H14 _)
  have c15 : ∀ d os, Calls Tryd.prog 15 #[.agg #[.int .i64 x, .bool a, .bool b]] (grow (redrawn W5 d) os) fun e w'' => e = .returned (.bool q) ∧ ∃ p : Regrown, w'' = grow (redrawn W5 p.d) p.os := fun d os => Calls.regrown_of (H15 _)
  have S_k0 := cell_regrown S_0
  have S_k1 := cell_regrown S_1
  have S_k2 := cell_regrown S_2
  have R_k0 := cell_regrown R_0
  have R_k1 := cell_regrown R_1
  have R_k2 := cell_regrown R_2
  have R_k3 := cell_regrown R_3
  have D_k0 := cell_regrown D_0
  have D_k1 := cell_regrown D_1
  have D_k2 := cell_regrown D_2
  have D_k3 := cell_regrown D_3
  have D_k4 := cell_regrown D_4
  have H_k0 := cell_regrown H_0
  have H_k1 := cell_regrown H_1
  have H_k2 := cell_regrown H_2
  have H_k3 := cell_regrown H_3
  have H_k4 := cell_regrown H_4
  clear S_0 S_1 S_2 R_0 R_1 R_2 R_3 D_0 D_1 D_2 D_3 D_4 H_0 H_1 H_2 H_3 H_4
  refine wp_region_quiet_below (by kernel_rfl) (by kernel_rfl) ?_
  repeat (quiet_step (first | (go_at_call 13; exact c13 _ _) | (go_at_call 14; exact c14 _ _) | (go_at_call 15; exact c15 _ _)))
  refine wpQuiet_nil ?_
  intro _ hw'
  obtain ⟨⟨dq, osq⟩, hw''⟩ := hw'
  subst hw''
  have hb := below_regrown W5 dq osq
  obtain ⟨w5, hw5⟩ : ∃ w5, grow (redrawn W5 dq) osq = w5 := ⟨_, rfl⟩
  rw [hw5] at hb ⊢
  clear hw5 S_k0 S_k1 S_k2 R_k0 R_k1 R_k2 R_k3 D_k0 D_k1 D_k2 D_k3 D_k4 H_k0 H_k1 H_k2 H_k3 H_k4 c13 c14 c15 S_l R_l D_l H_l
  replace HW : Hid (Below w.heap.size w w5) := HW.out.trans (hb.mono HW.out.size)
  replace HS : Hid (Blk w.heap.size #[.int .i64 x, .bool a, .bool b] 23 w5) := HS.out.below hb
  replace HR : Hid (Blk w2.heap.size #[.bool p, .bool q, .bool a, .bool b] 26 w5) := HR.out.below hb
  replace HD : Hid (Blk w3.heap.size #[.int .i64 0, .bool false, .bool false, .bool false, .bool false] 30 w5) := HD.out.below hb
  replace HH : Hid (Blk w4.heap.size #[.int .i64 0, .bool false, .bool false, .bool false, .bool false] 30 w5) := HH.out.below hb
  clear hb
  obtain ⟨S_0, S_1, S_2, _⟩ := blk3 HS.out
  have S_l : w.heap.size < w5.heap.size := HS.out.lt
  obtain ⟨R_0, R_1, R_2, R_3, _⟩ := blk4 HR.out
  have R_l : w2.heap.size < w5.heap.size := HR.out.lt
  obtain ⟨D_0, D_1, D_2, D_3, D_4, _⟩ := blk5 HD.out
  have D_l : w3.heap.size < w5.heap.size := HD.out.lt
  obtain ⟨H_0, H_1, H_2, H_3, H_4, _⟩ := blk5 HH.out
  have H_l : w4.heap.size < w5.heap.size := HH.out.lt
  go_wp2_with fail
  refine (H16 _).mono ?_
  rintro e w6 ⟨rfl, hb⟩
  clear S_0 S_1 S_2 S_l
  clear R_0 R_1 R_2 R_3 R_l
  clear D_0 D_1 D_2 D_3 D_4 D_l
  clear H_0 H_1 H_2 H_3 H_4 H_l
  replace HW : Hid (Below w.heap.size w w6) := HW.out.trans (hb.mono HW.out.size)
  replace HS : Hid (Blk w.heap.size #[.int .i64 x, .bool a, .bool b] 23 w6) := HS.out.below hb
  replace HR : Hid (Blk w2.heap.size #[.bool p, .bool q, .bool a, .bool b] 26 w6) := HR.out.below hb
  replace HD : Hid (Blk w3.heap.size #[.int .i64 0, .bool false, .bool false, .bool false, .bool false] 30 w6) := HD.out.below hb
  replace HH : Hid (Blk w4.heap.size #[.int .i64 0, .bool false, .bool false, .bool false, .bool false] 30 w6) := HH.out.below hb
  clear hb
  obtain ⟨S_0, S_1, S_2, _⟩ := blk3 HS.out
  have S_l : w.heap.size < w6.heap.size := HS.out.lt
  obtain ⟨R_0, R_1, R_2, R_3, _⟩ := blk4 HR.out
  have R_l : w2.heap.size < w6.heap.size := HR.out.lt
  obtain ⟨D_0, D_1, D_2, D_3, D_4, _⟩ := blk5 HD.out
  have D_l : w3.heap.size < w6.heap.size := HD.out.lt
  obtain ⟨H_0, H_1, H_2, H_3, H_4, _⟩ := blk5 HH.out
  have H_l : w4.heap.size < w6.heap.size := HH.out.lt
  go_wp2_with fail
  refine (H17 _).mono ?_
  rintro e w7 ⟨rfl, hb⟩
  have HX : Hid (Blk w6.heap.size #[.bool xp, .bool xq, .bool xa, .bool xb] 26 w7) := (Blk.new w6 _ _).below hb
  replace hb : Below w6.heap.size w6 w7 := (bw0 _ _).trans (hb.mono (bw0 _ _).size)
  clear S_0 S_1 S_2 S_l
  clear R_0 R_1 R_2 R_3 R_l
  clear D_0 D_1 D_2 D_3 D_4 D_l
  clear H_0 H_1 H_2 H_3 H_4 H_l
  replace HW : Hid (Below w.heap.size w w7) := HW.out.trans (hb.mono HW.out.size)
  replace HS : Hid (Blk w.heap.size #[.int .i64 x, .bool a, .bool b] 23 w7) := HS.out.below hb
  replace HR : Hid (Blk w2.heap.size #[.bool p, .bool q, .bool a, .bool b] 26 w7) := HR.out.below hb
  replace HD : Hid (Blk w3.heap.size #[.int .i64 0, .bool false, .bool false, .bool false, .bool false] 30 w7) := HD.out.below hb
  replace HH : Hid (Blk w4.heap.size #[.int .i64 0, .bool false, .bool false, .bool false, .bool false] 30 w7) := HH.out.below hb
  clear hb
  obtain ⟨S_0, S_1, S_2, _⟩ := blk3 HS.out
  have S_l : w.heap.size < w7.heap.size := HS.out.lt
  obtain ⟨R_0, R_1, R_2, R_3, _⟩ := blk4 HR.out
  have R_l : w2.heap.size < w7.heap.size := HR.out.lt
  obtain ⟨D_0, D_1, D_2, D_3, D_4, _⟩ := blk5 HD.out
  have D_l : w3.heap.size < w7.heap.size := HD.out.lt
  obtain ⟨H_0, H_1, H_2, H_3, H_4, _⟩ := blk5 HH.out
  have H_l : w4.heap.size < w7.heap.size := HH.out.lt
  obtain ⟨X_0, X_1, X_2, X_3, _⟩ := blk4 HX.out
  have X_l : w6.heap.size < w7.heap.size := HX.out.lt
  go_wp2_with fail
  go_ret
  exact ⟨rfl, HW.out.alloc HW.out.size _⟩
set_option maxHeartbeats 4000000 in
theorem steps_none (x act : Int) (p q a b dt ht he xp xq xa xb yp yq ya yb r  : Bool) (w : World) (hN : Names w)
    (H10 : ∀ W, Calls Tryd.prog 10 #[.int .i64 x, .bool a, .bool b] W fun e w' => e = .returned (.tuple #[.agg #[.bool p, .bool q, .bool a, .bool b], .bool true]) ∧ Below W.heap.size W w')
    (H11 : ∀ W, Calls Tryd.prog 11 #[.agg #[.int .i64 x, .bool a, .bool b], .int .i64 act] W fun e w' => e = .returned (.tuple #[.agg #[.int .i64 0, .bool false, .bool false, .bool false, .bool false], .int .i64 1]) ∧ Below W.heap.size W w')
    (H12 : ∀ W, Calls Tryd.prog 12 #[.agg #[.int .i64 x, .bool a, .bool b], .int .i64 act] W fun e w' => e = .returned (.tuple #[.agg #[.int .i64 0, .bool false, .bool false, .bool false, .bool false], .int .i64 1]) ∧ Below W.heap.size W w')
    (H13 : ∀ W, Calls Tryd.prog 13 #[.agg #[.int .i64 x, .bool a, .bool b]] W fun e w' => e = .returned (.bool true) ∧ Below W.heap.size W w') (H14 : ∀ W, Calls Tryd.prog 14 #[.agg #[.int .i64 x, .bool a, .bool b]] W fun e w' => e = .returned (.bool p) ∧ Below W.heap.size W w') (H15 : ∀ W, Calls Tryd.prog 15 #[.agg #[.int .i64 x, .bool a, .bool b]] W fun e w' => e = .returned (.bool q) ∧ Below W.heap.size W w')
    (H16 : ∀ W, Calls Tryd.prog 16 #[.agg #[.bool p, .bool q, .bool a, .bool b], .int .i64 act] W fun e w' => e = .returned (.tuple #[.agg #[.bool xp, .bool xq, .bool xa, .bool xb], .bool dt, .bool false]) ∧ Below W.heap.size W w')
    (H17 : ∀ W, Calls Tryd.prog 17 #[.agg #[.bool p, .bool q, .bool a, .bool b], .int .i64 act] W fun e w' => e = .returned (.tuple #[.agg #[.bool yp, .bool yq, .bool ya, .bool yb], .bool ht, .bool he, .bool r]) ∧ Below W.heap.size W w') :
    Calls Tryd.prog 3 #[.agg #[.int .i64 x, .bool a, .bool b], .int .i64 act] w fun e w' => e = .returned (.bool true) ∧ Below w.heap.size w w' := by
  have HN : Hid (Names w) := hN
  clear hN
  go_enter Tryd.func3, Tryd.ntmps3
  go_wp2_with fail
  have HS : Hid (Blk w.heap.size #[.int .i64 x, .bool a, .bool b] 23 (w.alloc (.cells #[.int .i64 x, .bool a, .bool b] 23))) := Blk.new _ _ _
  have HW : Hid (Below w.heap.size w (w.alloc (.cells #[.int .i64 x, .bool a, .bool b] 23))) := bw0 _ _
  refine (lives_any _ (HN.out.below HW.out)).mono ?_
  rintro e w1 ⟨rfl, hb⟩
  replace HW : Hid (Below w.heap.size w w1) := HW.out.trans (hb.mono HW.out.size)
  replace HS : Hid (Blk w.heap.size #[.int .i64 x, .bool a, .bool b] 23 w1) := HS.out.below hb
  clear hb
  obtain ⟨S_0, S_1, S_2, _⟩ := blk3 HS.out
  have S_l : w.heap.size < w1.heap.size := HS.out.lt
  go_wp2_with fail
  refine (H10 _).mono ?_
  rintro e w2 ⟨rfl, hb⟩
  clear S_0 S_1 S_2 S_l
  replace HW : Hid (Below w.heap.size w w2) := HW.out.trans (hb.mono HW.out.size)
  replace HS : Hid (Blk w.heap.size #[.int .i64 x, .bool a, .bool b] 23 w2) := HS.out.below hb
  clear hb
  obtain ⟨S_0, S_1, S_2, _⟩ := blk3 HS.out
  have S_l : w.heap.size < w2.heap.size := HS.out.lt
  go_wp2_with fail
  refine (H11 _).mono ?_
  rintro e w3 ⟨rfl, hb⟩
  have HR : Hid (Blk w2.heap.size #[.bool p, .bool q, .bool a, .bool b] 26 w3) := (Blk.new w2 _ _).below hb
  replace hb : Below w2.heap.size w2 w3 := (bw0 _ _).trans (hb.mono (bw0 _ _).size)
  clear S_0 S_1 S_2 S_l
  replace HW : Hid (Below w.heap.size w w3) := HW.out.trans (hb.mono HW.out.size)
  replace HS : Hid (Blk w.heap.size #[.int .i64 x, .bool a, .bool b] 23 w3) := HS.out.below hb
  clear hb
  obtain ⟨S_0, S_1, S_2, _⟩ := blk3 HS.out
  have S_l : w.heap.size < w3.heap.size := HS.out.lt
  obtain ⟨R_0, R_1, R_2, R_3, _⟩ := blk4 HR.out
  have R_l : w2.heap.size < w3.heap.size := HR.out.lt
  go_wp2_with fail
  refine (H12 _).mono ?_
  rintro e w4 ⟨rfl, hb⟩
  have HD : Hid (Blk w3.heap.size #[.int .i64 0, .bool false, .bool false, .bool false, .bool false] 30 w4) := (Blk.new w3 _ _).below hb
  replace hb : Below w3.heap.size w3 w4 := (bw0 _ _).trans (hb.mono (bw0 _ _).size)
  clear S_0 S_1 S_2 S_l
  clear R_0 R_1 R_2 R_3 R_l
  replace HW : Hid (Below w.heap.size w w4) := HW.out.trans (hb.mono HW.out.size)
  replace HS : Hid (Blk w.heap.size #[.int .i64 x, .bool a, .bool b] 23 w4) := HS.out.below hb
  replace HR : Hid (Blk w2.heap.size #[.bool p, .bool q, .bool a, .bool b] 26 w4) := HR.out.below hb
  clear hb
  obtain ⟨S_0, S_1, S_2, _⟩ := blk3 HS.out
  have S_l : w.heap.size < w4.heap.size := HS.out.lt
  obtain ⟨R_0, R_1, R_2, R_3, _⟩ := blk4 HR.out
  have R_l : w2.heap.size < w4.heap.size := HR.out.lt
  obtain ⟨D_0, D_1, D_2, D_3, D_4, _⟩ := blk5 HD.out
  have D_l : w3.heap.size < w4.heap.size := HD.out.lt
  go_wp2_with fail
  obtain ⟨W5, hW5⟩ : ∃ W5, w4.alloc (.cells #[.int .i64 0, .bool false, .bool false, .bool false, .bool false] 30) = W5 := ⟨_, rfl⟩
  have hb : Below w4.heap.size w4 W5 := by rw [← hW5]; exact bw0 _ _
  have HH : Hid (Blk w4.heap.size #[.int .i64 0, .bool false, .bool false, .bool false, .bool false] 30 W5) := by show Blk _ _ _ _; rw [← hW5]; exact Blk.new _ _ _
  rw [hW5]
  clear hW5
  clear S_0 S_1 S_2 S_l
  clear R_0 R_1 R_2 R_3 R_l
  clear D_0 D_1 D_2 D_3 D_4 D_l
  replace HW : Hid (Below w.heap.size w W5) := HW.out.trans (hb.mono HW.out.size)
  replace HS : Hid (Blk w.heap.size #[.int .i64 x, .bool a, .bool b] 23 W5) := HS.out.below hb
  replace HR : Hid (Blk w2.heap.size #[.bool p, .bool q, .bool a, .bool b] 26 W5) := HR.out.below hb
  replace HD : Hid (Blk w3.heap.size #[.int .i64 0, .bool false, .bool false, .bool false, .bool false] 30 W5) := HD.out.below hb
  clear hb
  obtain ⟨S_0, S_1, S_2, _⟩ := blk3 HS.out
  have S_l : w.heap.size < W5.heap.size := HS.out.lt
  obtain ⟨R_0, R_1, R_2, R_3, _⟩ := blk4 HR.out
  have R_l : w2.heap.size < W5.heap.size := HR.out.lt
  obtain ⟨D_0, D_1, D_2, D_3, D_4, _⟩ := blk5 HD.out
  have D_l : w3.heap.size < W5.heap.size := HD.out.lt
  obtain ⟨H_0, H_1, H_2, H_3, H_4, _⟩ := blk5 HH.out
  have H_l : w4.heap.size < W5.heap.size := HH.out.lt
  have c13 : ∀ d os, Calls Tryd.prog 13 #[.agg #[.int .i64 x, .bool a, .bool b]] (grow (redrawn W5 d) os) fun e w'' => e = .returned (.bool true) ∧ ∃ p : Regrown, w'' = grow (redrawn W5 p.d) p.os := fun d os => Calls.regrown_of (H13 _)
  have c14 : ∀ d os, Calls Tryd.prog 14 #[.agg #[.int .i64 x, .bool a, .bool b]] (grow (redrawn W5 d) os) fun e w'' => e = .returned (.bool p) ∧ ∃ p : Regrown, w'' = grow (redrawn W5 p.d) p.os := fun d os => Calls.regrown_of (H14 _)
  have c15 : ∀ d os, Calls Tryd.prog 15 #[.agg #[.int .i64 x, .bool a, .bool b]] (grow (redrawn W5 d) os) fun e w'' => e = .returned (.bool q) ∧ ∃ p : Regrown, w'' = grow (redrawn W5 p.d) p.os := fun d os => Calls.regrown_of (H15 _)
  have S_k0 := cell_regrown S_0
  have S_k1 := cell_regrown S_1
  have S_k2 := cell_regrown S_2
  have R_k0 := cell_regrown R_0
  have R_k1 := cell_regrown R_1
  have R_k2 := cell_regrown R_2
  have R_k3 := cell_regrown R_3
  have D_k0 := cell_regrown D_0
  have D_k1 := cell_regrown D_1
  have D_k2 := cell_regrown D_2
  have D_k3 := cell_regrown D_3
  have D_k4 := cell_regrown D_4
  have H_k0 := cell_regrown H_0
  have H_k1 := cell_regrown H_1
  have H_k2 := cell_regrown H_2
  have H_k3 := cell_regrown H_3
  have H_k4 := cell_regrown H_4
  clear S_0 S_1 S_2 R_0 R_1 R_2 R_3 D_0 D_1 D_2 D_3 D_4 H_0 H_1 H_2 H_3 H_4
  refine wp_region_quiet_below (by kernel_rfl) (by kernel_rfl) ?_
  repeat (quiet_step (first | (go_at_call 13; exact c13 _ _) | (go_at_call 14; exact c14 _ _) | (go_at_call 15; exact c15 _ _)))
  refine wpQuiet_nil ?_
  intro _ hw'
  obtain ⟨⟨dq, osq⟩, hw''⟩ := hw'
  subst hw''
  have hb := below_regrown W5 dq osq
  obtain ⟨w5, hw5⟩ : ∃ w5, grow (redrawn W5 dq) osq = w5 := ⟨_, rfl⟩
  rw [hw5] at hb ⊢
  clear hw5 S_k0 S_k1 S_k2 R_k0 R_k1 R_k2 R_k3 D_k0 D_k1 D_k2 D_k3 D_k4 H_k0 H_k1 H_k2 H_k3 H_k4 c13 c14 c15 S_l R_l D_l H_l
  replace HW : Hid (Below w.heap.size w w5) := HW.out.trans (hb.mono HW.out.size)
  replace HS : Hid (Blk w.heap.size #[.int .i64 x, .bool a, .bool b] 23 w5) := HS.out.below hb
  replace HR : Hid (Blk w2.heap.size #[.bool p, .bool q, .bool a, .bool b] 26 w5) := HR.out.below hb
  replace HD : Hid (Blk w3.heap.size #[.int .i64 0, .bool false, .bool false, .bool false, .bool false] 30 w5) := HD.out.below hb
  replace HH : Hid (Blk w4.heap.size #[.int .i64 0, .bool false, .bool false, .bool false, .bool false] 30 w5) := HH.out.below hb
  clear hb
  obtain ⟨S_0, S_1, S_2, _⟩ := blk3 HS.out
  have S_l : w.heap.size < w5.heap.size := HS.out.lt
  obtain ⟨R_0, R_1, R_2, R_3, _⟩ := blk4 HR.out
  have R_l : w2.heap.size < w5.heap.size := HR.out.lt
  obtain ⟨D_0, D_1, D_2, D_3, D_4, _⟩ := blk5 HD.out
  have D_l : w3.heap.size < w5.heap.size := HD.out.lt
  obtain ⟨H_0, H_1, H_2, H_3, H_4, _⟩ := blk5 HH.out
  have H_l : w4.heap.size < w5.heap.size := HH.out.lt
  go_wp2_with fail
  refine (H16 _).mono ?_
  rintro e w6 ⟨rfl, hb⟩
  clear S_0 S_1 S_2 S_l
  clear R_0 R_1 R_2 R_3 R_l
  clear D_0 D_1 D_2 D_3 D_4 D_l
  clear H_0 H_1 H_2 H_3 H_4 H_l
  replace HW : Hid (Below w.heap.size w w6) := HW.out.trans (hb.mono HW.out.size)
  replace HS : Hid (Blk w.heap.size #[.int .i64 x, .bool a, .bool b] 23 w6) := HS.out.below hb
  replace HR : Hid (Blk w2.heap.size #[.bool p, .bool q, .bool a, .bool b] 26 w6) := HR.out.below hb
  replace HD : Hid (Blk w3.heap.size #[.int .i64 0, .bool false, .bool false, .bool false, .bool false] 30 w6) := HD.out.below hb
  replace HH : Hid (Blk w4.heap.size #[.int .i64 0, .bool false, .bool false, .bool false, .bool false] 30 w6) := HH.out.below hb
  clear hb
  obtain ⟨S_0, S_1, S_2, _⟩ := blk3 HS.out
  have S_l : w.heap.size < w6.heap.size := HS.out.lt
  obtain ⟨R_0, R_1, R_2, R_3, _⟩ := blk4 HR.out
  have R_l : w2.heap.size < w6.heap.size := HR.out.lt
  obtain ⟨D_0, D_1, D_2, D_3, D_4, _⟩ := blk5 HD.out
  have D_l : w3.heap.size < w6.heap.size := HD.out.lt
  obtain ⟨H_0, H_1, H_2, H_3, H_4, _⟩ := blk5 HH.out
  have H_l : w4.heap.size < w6.heap.size := HH.out.lt
  go_wp2_with fail
  refine (H17 _).mono ?_
  rintro e w7 ⟨rfl, hb⟩
  have HX : Hid (Blk w6.heap.size #[.bool xp, .bool xq, .bool xa, .bool xb] 26 w7) := (Blk.new w6 _ _).below hb
  replace hb : Below w6.heap.size w6 w7 := (bw0 _ _).trans (hb.mono (bw0 _ _).size)
  clear S_0 S_1 S_2 S_l
  clear R_0 R_1 R_2 R_3 R_l
  clear D_0 D_1 D_2 D_3 D_4 D_l
  clear H_0 H_1 H_2 H_3 H_4 H_l
  replace HW : Hid (Below w.heap.size w w7) := HW.out.trans (hb.mono HW.out.size)
  replace HS : Hid (Blk w.heap.size #[.int .i64 x, .bool a, .bool b] 23 w7) := HS.out.below hb
  replace HR : Hid (Blk w2.heap.size #[.bool p, .bool q, .bool a, .bool b] 26 w7) := HR.out.below hb
  replace HD : Hid (Blk w3.heap.size #[.int .i64 0, .bool false, .bool false, .bool false, .bool false] 30 w7) := HD.out.below hb
  replace HH : Hid (Blk w4.heap.size #[.int .i64 0, .bool false, .bool false, .bool false, .bool false] 30 w7) := HH.out.below hb
  clear hb
  obtain ⟨S_0, S_1, S_2, _⟩ := blk3 HS.out
  have S_l : w.heap.size < w7.heap.size := HS.out.lt
  obtain ⟨R_0, R_1, R_2, R_3, _⟩ := blk4 HR.out
  have R_l : w2.heap.size < w7.heap.size := HR.out.lt
  obtain ⟨D_0, D_1, D_2, D_3, D_4, _⟩ := blk5 HD.out
  have D_l : w3.heap.size < w7.heap.size := HD.out.lt
  obtain ⟨H_0, H_1, H_2, H_3, H_4, _⟩ := blk5 HH.out
  have H_l : w4.heap.size < w7.heap.size := HH.out.lt
  obtain ⟨X_0, X_1, X_2, X_3, _⟩ := blk4 HX.out
  have X_l : w6.heap.size < w7.heap.size := HX.out.lt
  go_wp2_with fail
  go_ret
  exact ⟨rfl, HW.out.alloc HW.out.size _⟩
end Go.Proofs.YtojeeopmhogolaaDoor
