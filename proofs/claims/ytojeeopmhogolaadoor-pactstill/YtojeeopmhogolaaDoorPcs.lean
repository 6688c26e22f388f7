/-
  The walk of the statement PactStill over this program.
-/
import Derived.Test.YtojeeopmhogolaaDoorPcq
namespace Go.Proofs.YtojeeopmhogolaaDoor
open Go Go.RowKit Go.Sort
set_option maxHeartbeats 4000000 in
theorem still_no (x act : Int) (a b : Bool) (w : World) (hN : Names w)
    (H11 : ∀ W, Calls Tryd.prog 11 #[.agg #[.int .i64 x, .bool a, .bool b], .int .i64 act] W fun e w' => e = .returned (.tuple #[.agg #[.int .i64 0, .bool false, .bool false, .bool false, .bool false], .int .i64 1]) ∧ Below W.heap.size W w')
    (H12 : ∀ W, Calls Tryd.prog 12 #[.agg #[.int .i64 x, .bool a, .bool b], .int .i64 act] W fun e w' => e = .returned (.tuple #[.agg #[.int .i64 0, .bool false, .bool false, .bool false, .bool false], .int .i64 1]) ∧ Below W.heap.size W w') :
    Calls Tryd.prog 8 #[.agg #[.int .i64 x, .bool a, .bool b], .int .i64 act] w fun e w' => e = .returned (.bool true) ∧ Below w.heap.size w w' := by
  have HN : Hid (Names w) := hN
  clear hN
  go_enter Tryd.func8, Tryd.ntmps8
  go_wp2_with fail
  have HS : Hid (Blk w.heap.size #[.int .i64 x, .bool a, .bool b] 23 (w.alloc (.cells #[.int .i64 x, .bool a, .bool b] 23))) := Blk.new _ _ _
  have HW : Hid (Below w.heap.size w (w.alloc (.cells #[.int .i64 x, .bool a, .bool b] 23))) := bw0 _ _
  refine (lives_any _ (HN.out.below HW.out)).mono ?_
  rintro e w1 ⟨rfl, hb⟩
  replace HW : Hid (Below w.heap.size w w1) := HW.out.trans (hb.mono HW.out.size)
  replace HS : Hid (Blk w.heap.size #[.int .i64 x, .bool a, .bool b] 23 w1) := HS.out.below hb
  clear hb
  obtain ⟨S_0, S_1, S_2, _⟩ := blk3 HS.out
  have S_l : w.heap.size < w1.heap.size := HS.out.lt
  go_wp2_with fail
  refine (H11 _).mono ?_
  rintro e w2 ⟨rfl, hb⟩
  clear S_0 S_1 S_2 S_l
  replace HW : Hid (Below w.heap.size w w2) := HW.out.trans (hb.mono HW.out.size)
  replace HS : Hid (Blk w.heap.size #[.int .i64 x, .bool a, .bool b] 23 w2) := HS.out.below hb
  clear hb
  obtain ⟨S_0, S_1, S_2, _⟩ := blk3 HS.out
  have S_l : w.heap.size < w2.heap.size := HS.out.lt
  go_wp2_with fail
  refine (H12 _).mono ?_
  rintro e w3 ⟨rfl, hb⟩
  have HD : Hid (Blk w2.heap.size #[.int .i64 0, .bool false, .bool false, .bool false, .bool false] 30 w3) := (Blk.new w2 _ _).below hb
  replace hb : Below w2.heap.size w2 w3 := (bw0 _ _).trans (hb.mono (bw0 _ _).size)
  clear S_0 S_1 S_2 S_l
  replace HW : Hid (Below w.heap.size w w3) := HW.out.trans (hb.mono HW.out.size)
  replace HS : Hid (Blk w.heap.size #[.int .i64 x, .bool a, .bool b] 23 w3) := HS.out.below hb
  clear hb
  obtain ⟨S_0, S_1, S_2, _⟩ := blk3 HS.out
  have S_l : w.heap.size < w3.heap.size := HS.out.lt
  obtain ⟨D_0, D_1, D_2, D_3, D_4, _⟩ := blk5 HD.out
  have D_l : w2.heap.size < w3.heap.size := HD.out.lt
  go_wp2_with fail
  go_ret
  exact ⟨rfl, HW.out.alloc HW.out.size _⟩
set_option maxHeartbeats 4000000 in
theorem still1t (x x1 x2 : Int) (a b a1 b1 a2 b2 he2 : Bool) (w : World) (hN : Names w)
    (H11 : ∀ W, Calls Tryd.prog 11 #[.agg #[.int .i64 x, .bool a, .bool b], .int .i64 1] W fun e w' => e = .returned (.tuple #[.agg #[.int .i64 x1, .bool a1, .bool b1, .bool true, .bool false], .int .i64 0]) ∧ Below W.heap.size W w')
    (H12 : ∀ W, Calls Tryd.prog 12 #[.agg #[.int .i64 x, .bool a, .bool b], .int .i64 1] W fun e w' => e = .returned (.tuple #[.agg #[.int .i64 x2, .bool a2, .bool b2, .bool true, .bool false], .int .i64 0]) ∧ Below W.heap.size W w')
    (H11' : ∀ W, Calls Tryd.prog 11 #[.agg #[.int .i64 x1, .bool a1, .bool b1], .int .i64 1] W fun e w' => e = .returned (.tuple #[.agg #[.int .i64 x1, .bool a1, .bool b1, .bool true, .bool false], .int .i64 0]) ∧ Below W.heap.size W w')
    (H12' : ∀ W, Calls Tryd.prog 12 #[.agg #[.int .i64 x2, .bool a2, .bool b2], .int .i64 1] W fun e w' => e = .returned (.tuple #[.agg #[.int .i64 x2, .bool a2, .bool b2, .bool false, .bool he2], .int .i64 0]) ∧ Below W.heap.size W w') :
    Calls Tryd.prog 8 #[.agg #[.int .i64 x, .bool a, .bool b], .int .i64 1] w fun e w' => e = .returned (.bool true) ∧ Below w.heap.size w w' := by
  have HN : Hid (Names w) := hN
  clear hN
  go_enter Tryd.func8, Tryd.ntmps8
  go_wp2_with fail
  have HS : Hid (Blk w.heap.size #[.int .i64 x, .bool a, .bool b] 23 (w.alloc (.cells #[.int .i64 x, .bool a, .bool b] 23))) := Blk.new _ _ _
  have HW : Hid (Below w.heap.size w (w.alloc (.cells #[.int .i64 x, .bool a, .bool b] 23))) := bw0 _ _
  refine (lives_any _ (HN.out.below HW.out)).mono ?_
  rintro e w1 ⟨rfl, hb⟩
  replace HW : Hid (Below w.heap.size w w1) := HW.out.trans (hb.mono HW.out.size)
  replace HS : Hid (Blk w.heap.size #[.int .i64 x, .bool a, .bool b] 23 w1) := HS.out.below hb
  clear hb
  obtain ⟨S_0, S_1, S_2, _⟩ := blk3 HS.out
  have S_l : w.heap.size < w1.heap.size := HS.out.lt
  go_wp2_with fail
  refine (H11 _).mono ?_
  rintro e w2 ⟨rfl, hb⟩
  clear S_0 S_1 S_2 S_l
  replace HW : Hid (Below w.heap.size w w2) := HW.out.trans (hb.mono HW.out.size)
  replace HS : Hid (Blk w.heap.size #[.int .i64 x, .bool a, .bool b] 23 w2) := HS.out.below hb
  clear hb
  obtain ⟨S_0, S_1, S_2, _⟩ := blk3 HS.out
  have S_l : w.heap.size < w2.heap.size := HS.out.lt
  go_wp2_with fail
  refine (H12 _).mono ?_
  rintro e w3 ⟨rfl, hb⟩
  have HD : Hid (Blk w2.heap.size #[.int .i64 x1, .bool a1, .bool b1, .bool true, .bool false] 30 w3) := (Blk.new w2 _ _).below hb
  replace hb : Below w2.heap.size w2 w3 := (bw0 _ _).trans (hb.mono (bw0 _ _).size)
  clear S_0 S_1 S_2 S_l
  replace HW : Hid (Below w.heap.size w w3) := HW.out.trans (hb.mono HW.out.size)
  replace HS : Hid (Blk w.heap.size #[.int .i64 x, .bool a, .bool b] 23 w3) := HS.out.below hb
  clear hb
  obtain ⟨S_0, S_1, S_2, _⟩ := blk3 HS.out
  have S_l : w.heap.size < w3.heap.size := HS.out.lt
  obtain ⟨D_0, D_1, D_2, D_3, D_4, _⟩ := blk5 HD.out
  have D_l : w2.heap.size < w3.heap.size := HD.out.lt
  go_wp2_with fail
  refine (H11' _).mono ?_
  rintro e w4 ⟨rfl, hb⟩
  have HH : Hid (Blk w3.heap.size #[.int .i64 x2, .bool a2, .bool b2, .bool true, .bool false] 30 w4) := (Blk.new w3 _ _).below hb
  replace hb : Below w3.heap.size w3 w4 := (bw0 _ _).trans (hb.mono (bw0 _ _).size)
  clear S_0 S_1 S_2 S_l
  clear D_0 D_1 D_2 D_3 D_4 D_l
  replace HW : Hid (Below w.heap.size w w4) := HW.out.trans (hb.mono HW.out.size)
  replace HS : Hid (Blk w.heap.size #[.int .i64 x, .bool a, .bool b] 23 w4) := HS.out.below hb
  replace HD : Hid (Blk w2.heap.size #[.int .i64 x1, .bool a1, .bool b1, .bool true, .bool false] 30 w4) := HD.out.below hb
  clear hb
  obtain ⟨S_0, S_1, S_2, _⟩ := blk3 HS.out
  have S_l : w.heap.size < w4.heap.size := HS.out.lt
  obtain ⟨D_0, D_1, D_2, D_3, D_4, _⟩ := blk5 HD.out
  have D_l : w2.heap.size < w4.heap.size := HD.out.lt
  obtain ⟨H_0, H_1, H_2, H_3, H_4, _⟩ := blk5 HH.out
  have H_l : w3.heap.size < w4.heap.size := HH.out.lt
  go_wp2_with fail
  refine (H12' _).mono ?_
  rintro e w5 ⟨rfl, hb⟩
  have HE : Hid (Blk w4.heap.size #[.int .i64 x1, .bool a1, .bool b1, .bool true, .bool false] 30 w5) := (Blk.new w4 _ _).below hb
  replace hb : Below w4.heap.size w4 w5 := (bw0 _ _).trans (hb.mono (bw0 _ _).size)
  clear S_0 S_1 S_2 S_l
  clear D_0 D_1 D_2 D_3 D_4 D_l
  clear H_0 H_1 H_2 H_3 H_4 H_l
  replace HW : Hid (Below w.heap.size w w5) := HW.out.trans (hb.mono HW.out.size)
  replace HS : Hid (Blk w.heap.size #[.int .i64 x, .bool a, .bool b] 23 w5) := HS.out.below hb
  replace HD : Hid (Blk w2.heap.size #[.int .i64 x1, .bool a1, .bool b1, .bool true, .bool false] 30 w5) := HD.out.below hb
  replace HH : Hid (Blk w3.heap.size #[.int .i64 x2, .bool a2, .bool b2, .bool true, .bool false] 30 w5) := HH.out.below hb
  clear hb
  obtain ⟨S_0, S_1, S_2, _⟩ := blk3 HS.out
  have S_l : w.heap.size < w5.heap.size := HS.out.lt
  obtain ⟨D_0, D_1, D_2, D_3, D_4, _⟩ := blk5 HD.out
  have D_l : w2.heap.size < w5.heap.size := HD.out.lt
  obtain ⟨H_0, H_1, H_2, H_3, H_4, _⟩ := blk5 HH.out
  have H_l : w3.heap.size < w5.heap.size := HH.out.lt
  obtain ⟨E_0, E_1, E_2, E_3, E_4, _⟩ := blk5 HE.out
  have E_l : w4.heap.size < w5.heap.size := HE.out.lt
  go_wp2_with fail
  go_ret
  exact ⟨rfl, HW.out.alloc HW.out.size _⟩
set_option maxHeartbeats 4000000 in
theorem still1f (x x1 : Int) (a b a1 b1 he he2 : Bool) (w : World) (hN : Names w)
    (H11 : ∀ W, Calls Tryd.prog 11 #[.agg #[.int .i64 x, .bool a, .bool b], .int .i64 1] W fun e w' => e = .returned (.tuple #[.agg #[.int .i64 x1, .bool a1, .bool b1, .bool true, .bool false], .int .i64 0]) ∧ Below W.heap.size W w')
    (H12 : ∀ W, Calls Tryd.prog 12 #[.agg #[.int .i64 x, .bool a, .bool b], .int .i64 1] W fun e w' => e = .returned (.tuple #[.agg #[.int .i64 x, .bool a, .bool b, .bool false, .bool he], .int .i64 0]) ∧ Below W.heap.size W w')
    (H11' : ∀ W, Calls Tryd.prog 11 #[.agg #[.int .i64 x1, .bool a1, .bool b1], .int .i64 1] W fun e w' => e = .returned (.tuple #[.agg #[.int .i64 x1, .bool a1, .bool b1, .bool true, .bool false], .int .i64 0]) ∧ Below W.heap.size W w')
    (H12' : ∀ W, Calls Tryd.prog 12 #[.agg #[.int .i64 x, .bool a, .bool b], .int .i64 1] W fun e w' => e = .returned (.tuple #[.agg #[.int .i64 x, .bool a, .bool b, .bool false, .bool he2], .int .i64 0]) ∧ Below W.heap.size W w') :
    Calls Tryd.prog 8 #[.agg #[.int .i64 x, .bool a, .bool b], .int .i64 1] w fun e w' => e = .returned (.bool true) ∧ Below w.heap.size w w' := by
  have HN : Hid (Names w) := hN
  clear hN
  go_enter Tryd.func8, Tryd.ntmps8
  go_wp2_with fail
  have HS : Hid (Blk w.heap.size #[.int .i64 x, .bool a, .bool b] 23 (w.alloc (.cells #[.int .i64 x, .bool a, .bool b] 23))) := Blk.new _ _ _
  have HW : Hid (Below w.heap.size w (w.alloc (.cells #[.int .i64 x, .bool a, .bool b] 23))) := bw0 _ _
  refine (lives_any _ (HN.out.below HW.out)).mono ?_
  rintro e w1 ⟨rfl, hb⟩
  replace HW : Hid (Below w.heap.size w w1) := HW.out.trans (hb.mono HW.out.size)
  replace HS : Hid (Blk w.heap.size #[.int .i64 x, .bool a, .bool b] 23 w1) := HS.out.below hb
  clear hb
  obtain ⟨S_0, S_1, S_2, _⟩ := blk3 HS.out
  have S_l : w.heap.size < w1.heap.size := HS.out.lt
  go_wp2_with fail
  refine (H11 _).mono ?_
  rintro e w2 ⟨rfl, hb⟩
  clear S_0 S_1 S_2 S_l
  replace HW : Hid (Below w.heap.size w w2) := HW.out.trans (hb.mono HW.out.size)
  replace HS : Hid (Blk w.heap.size #[.int .i64 x, .bool a, .bool b] 23 w2) := HS.out.below hb
  clear hb
  obtain ⟨S_0, S_1, S_2, _⟩ := blk3 HS.out
  have S_l : w.heap.size < w2.heap.size := HS.out.lt
  go_wp2_with fail
  refine (H12 _).mono ?_
  rintro e w3 ⟨rfl, hb⟩
  have HD : Hid (Blk w2.heap.size #[.int .i64 x1, .bool a1, .bool b1, .bool true, .bool false] 30 w3) := (Blk.new w2 _ _).below hb
  replace hb : Below w2.heap.size w2 w3 := (bw0 _ _).trans (hb.mono (bw0 _ _).size)
  clear S_0 S_1 S_2 S_l
  replace HW : Hid (Below w.heap.size w w3) := HW.out.trans (hb.mono HW.out.size)
  replace HS : Hid (Blk w.heap.size #[.int .i64 x, .bool a, .bool b] 23 w3) := HS.out.below hb
  clear hb
  obtain ⟨S_0, S_1, S_2, _⟩ := blk3 HS.out
  have S_l : w.heap.size < w3.heap.size := HS.out.lt
  obtain ⟨D_0, D_1, D_2, D_3, D_4, _⟩ := blk5 HD.out
  have D_l : w2.heap.size < w3.heap.size := HD.out.lt
  go_wp2_with fail
  refine (H11' _).mono ?_
  rintro e w4 ⟨rfl, hb⟩
  have HH : Hid (Blk w3.heap.size #[.int .i64 x, .bool a, .bool b, .bool false, .bool he] 30 w4) := (Blk.new w3 _ _).below hb
  replace hb : Below w3.heap.size w3 w4 := (bw0 _ _).trans (hb.mono (bw0 _ _).size)
  clear S_0 S_1 S_2 S_l
  clear D_0 D_1 D_2 D_3 D_4 D_l
  replace HW : Hid (Below w.heap.size w w4) := HW.out.trans (hb.mono HW.out.size)
  replace HS : Hid (Blk w.heap.size #[.int .i64 x, .bool a, .bool b] 23 w4) := HS.out.below hb
  replace HD : Hid (Blk w2.heap.size #[.int .i64 x1, .bool a1, .bool b1, .bool true, .bool false] 30 w4) := HD.out.below hb
  clear hb
  obtain ⟨S_0, S_1, S_2, _⟩ := blk3 HS.out
  have S_l : w.heap.size < w4.heap.size := HS.out.lt
  obtain ⟨D_0, D_1, D_2, D_3, D_4, _⟩ := blk5 HD.out
  have D_l : w2.heap.size < w4.heap.size := HD.out.lt
  obtain ⟨H_0, H_1, H_2, H_3, H_4, _⟩ := blk5 HH.out
  have H_l : w3.heap.size < w4.heap.size := HH.out.lt
  go_wp2_with fail
  refine (H12' _).mono ?_
  rintro e w5 ⟨rfl, hb⟩
  have HE : Hid (Blk w4.heap.size #[.int .i64 x1, .bool a1, .bool b1, .bool true, .bool false] 30 w5) := (Blk.new w4 _ _).below hb
  replace hb : Below w4.heap.size w4 w5 := (bw0 _ _).trans (hb.mono (bw0 _ _).size)
  clear S_0 S_1 S_2 S_l
  clear D_0 D_1 D_2 D_3 D_4 D_l
  clear H_0 H_1 H_2 H_3 H_4 H_l
  replace HW : Hid (Below w.heap.size w w5) := HW.out.trans (hb.mono HW.out.size)
  replace HS : Hid (Blk w.heap.size #[.int .i64 x, .bool a, .bool b] 23 w5) := HS.out.below hb
  replace HD : Hid (Blk w2.heap.size #[.int .i64 x1, .bool a1, .bool b1, .bool true, .bool false] 30 w5) := HD.out.below hb
  replace HH : Hid (Blk w3.heap.size #[.int .i64 x, .bool a, .bool b, .bool false, .bool he] 30 w5) := HH.out.below hb
  clear hb
  obtain ⟨S_0, S_1, S_2, _⟩ := blk3 HS.out
  have S_l : w.heap.size < w5.heap.size := HS.out.lt
  obtain ⟨D_0, D_1, D_2, D_3, D_4, _⟩ := blk5 HD.out
  have D_l : w2.heap.size < w5.heap.size := HD.out.lt
  obtain ⟨H_0, H_1, H_2, H_3, H_4, _⟩ := blk5 HH.out
  have H_l : w3.heap.size < w5.heap.size := HH.out.lt
  obtain ⟨E_0, E_1, E_2, E_3, E_4, _⟩ := blk5 HE.out
  have E_l : w4.heap.size < w5.heap.size := HE.out.lt
  go_wp2_with fail
  go_ret
  exact ⟨rfl, HW.out.alloc HW.out.size _⟩
set_option maxHeartbeats 4000000 in
theorem stilltt (x act x1 x2 : Int) (a b a1 b1 a2 b2 he2 : Bool) (w : World) (hN : Names w) (k1 : (act == 1) = false)
    (H11 : ∀ W, Calls Tryd.prog 11 #[.agg #[.int .i64 x, .bool a, .bool b], .int .i64 act] W fun e w' => e = .returned (.tuple #[.agg #[.int .i64 x1, .bool a1, .bool b1, .bool true, .bool false], .int .i64 0]) ∧ Below W.heap.size W w')
    (H12 : ∀ W, Calls Tryd.prog 12 #[.agg #[.int .i64 x, .bool a, .bool b], .int .i64 act] W fun e w' => e = .returned (.tuple #[.agg #[.int .i64 x2, .bool a2, .bool b2, .bool true, .bool false], .int .i64 0]) ∧ Below W.heap.size W w')
    (H11' : ∀ W, Calls Tryd.prog 11 #[.agg #[.int .i64 x1, .bool a1, .bool b1], .int .i64 act] W fun e w' => e = .returned (.tuple #[.agg #[.int .i64 x1, .bool a1, .bool b1, .bool false, .bool false], .int .i64 0]) ∧ Below W.heap.size W w')
    (H12' : ∀ W, Calls Tryd.prog 12 #[.agg #[.int .i64 x2, .bool a2, .bool b2], .int .i64 act] W fun e w' => e = .returned (.tuple #[.agg #[.int .i64 x2, .bool a2, .bool b2, .bool false, .bool he2], .int .i64 0]) ∧ Below W.heap.size W w') :
    Calls Tryd.prog 8 #[.agg #[.int .i64 x, .bool a, .bool b], .int .i64 act] w fun e w' => e = .returned (.bool true) ∧ Below w.heap.size w w' := by
  have HN : Hid (Names w) := hN
  clear hN
  go_enter Tryd.func8, Tryd.ntmps8
  go_wp2_with fail
  have HS : Hid (Blk w.heap.size #[.int .i64 x, .bool a, .bool b] 23 (w.alloc (.cells #[.int .i64 x, .bool a, .bool b] 23))) := Blk.new _ _ _
  have HW : Hid (Below w.heap.size w (w.alloc (.cells #[.int .i64 x, .bool a, .bool b] 23))) := bw0 _ _
  refine (lives_any _ (HN.out.below HW.out)).mono ?_
  rintro e w1 ⟨rfl, hb⟩
  replace HW : Hid (Below w.heap.size w w1) := HW.out.trans (hb.mono HW.out.size)
  replace HS : Hid (Blk w.heap.size #[.int .i64 x, .bool a, .bool b] 23 w1) := HS.out.below hb
  clear hb
  obtain ⟨S_0, S_1, S_2, _⟩ := blk3 HS.out
  have S_l : w.heap.size < w1.heap.size := HS.out.lt
  go_wp2_with fail
  refine (H11 _).mono ?_
  rintro e w2 ⟨rfl, hb⟩
  clear S_0 S_1 S_2 S_l
  replace HW : Hid (Below w.heap.size w w2) := HW.out.trans (hb.mono HW.out.size)
  replace HS : Hid (Blk w.heap.size #[.int .i64 x, .bool a, .bool b] 23 w2) := HS.out.below hb
  clear hb
  obtain ⟨S_0, S_1, S_2, _⟩ := blk3 HS.out
  have S_l : w.heap.size < w2.heap.size := HS.out.lt
  go_wp2_with fail
  refine (H12 _).mono ?_
  rintro e w3 ⟨rfl, hb⟩
  have HD : Hid (Blk w2.heap.size #[.int .i64 x1, .bool a1, .bool b1, .bool true, .bool false] 30 w3) := (Blk.new w2 _ _).below hb
  replace hb : Below w2.heap.size w2 w3 := (bw0 _ _).trans (hb.mono (bw0 _ _).size)
  clear S_0 S_1 S_2 S_l
  replace HW : Hid (Below w.heap.size w w3) := HW.out.trans (hb.mono HW.out.size)
  replace HS : Hid (Blk w.heap.size #[.int .i64 x, .bool a, .bool b] 23 w3) := HS.out.below hb
  clear hb
  obtain ⟨S_0, S_1, S_2, _⟩ := blk3 HS.out
  have S_l : w.heap.size < w3.heap.size := HS.out.lt
  obtain ⟨D_0, D_1, D_2, D_3, D_4, _⟩ := blk5 HD.out
  have D_l : w2.heap.size < w3.heap.size := HD.out.lt
  go_wp2_with fail
  refine (H11' _).mono ?_
  rintro e w4 ⟨rfl, hb⟩
  have HH : Hid (Blk w3.heap.size #[.int .i64 x2, .bool a2, .bool b2, .bool true, .bool false] 30 w4) := (Blk.new w3 _ _).below hb
  replace hb : Below w3.heap.size w3 w4 := (bw0 _ _).trans (hb.mono (bw0 _ _).size)
  clear S_0 S_1 S_2 S_l
  clear D_0 D_1 D_2 D_3 D_4 D_l
  replace HW : Hid (Below w.heap.size w w4) := HW.out.trans (hb.mono HW.out.size)
  replace HS : Hid (Blk w.heap.size #[.int .i64 x, .bool a, .bool b] 23 w4) := HS.out.below hb
  replace HD : Hid (Blk w2.heap.size #[.int .i64 x1, .bool a1, .bool b1, .bool true, .bool false] 30 w4) := HD.out.below hb
  clear hb
  obtain ⟨S_0, S_1, S_2, _⟩ := blk3 HS.out
  have S_l : w.heap.size < w4.heap.size := HS.out.lt
  obtain ⟨D_0, D_1, D_2, D_3, D_4, _⟩ := blk5 HD.out
  have D_l : w2.heap.size < w4.heap.size := HD.out.lt
  obtain ⟨H_0, H_1, H_2, H_3, H_4, _⟩ := blk5 HH.out
  have H_l : w3.heap.size < w4.heap.size := HH.out.lt
  go_wp2_with fail
  refine (H12' _).mono ?_
  rintro e w5 ⟨rfl, hb⟩
  have HE : Hid (Blk w4.heap.size #[.int .i64 x1, .bool a1, .bool b1, .bool false, .bool false] 30 w5) := (Blk.new w4 _ _).below hb
  replace hb : Below w4.heap.size w4 w5 := (bw0 _ _).trans (hb.mono (bw0 _ _).size)
  clear S_0 S_1 S_2 S_l
  clear D_0 D_1 D_2 D_3 D_4 D_l
  clear H_0 H_1 H_2 H_3 H_4 H_l
  replace HW : Hid (Below w.heap.size w w5) := HW.out.trans (hb.mono HW.out.size)
  replace HS : Hid (Blk w.heap.size #[.int .i64 x, .bool a, .bool b] 23 w5) := HS.out.below hb
  replace HD : Hid (Blk w2.heap.size #[.int .i64 x1, .bool a1, .bool b1, .bool true, .bool false] 30 w5) := HD.out.below hb
  replace HH : Hid (Blk w3.heap.size #[.int .i64 x2, .bool a2, .bool b2, .bool true, .bool false] 30 w5) := HH.out.below hb
  clear hb
  obtain ⟨S_0, S_1, S_2, _⟩ := blk3 HS.out
  have S_l : w.heap.size < w5.heap.size := HS.out.lt
  obtain ⟨D_0, D_1, D_2, D_3, D_4, _⟩ := blk5 HD.out
  have D_l : w2.heap.size < w5.heap.size := HD.out.lt
  obtain ⟨H_0, H_1, H_2, H_3, H_4, _⟩ := blk5 HH.out
  have H_l : w3.heap.size < w5.heap.size := HH.out.lt
  obtain ⟨E_0, E_1, E_2, E_3, E_4, _⟩ := blk5 HE.out
  have E_l : w4.heap.size < w5.heap.size := HE.out.lt
  go_wp2_with fail
  go_ret
  exact ⟨rfl, HW.out.alloc HW.out.size _⟩
set_option maxHeartbeats 4000000 in
theorem stilltf (x act x1 : Int) (a b a1 b1 he he2 : Bool) (w : World) (hN : Names w) (k1 : (act == 1) = false)
    (H11 : ∀ W, Calls Tryd.prog 11 #[.agg #[.int .i64 x, .bool a, .bool b], .int .i64 act] W fun e w' => e = .returned (.tuple #[.agg #[.int .i64 x1, .bool a1, .bool b1, .bool true, .bool false], .int .i64 0]) ∧ Below W.heap.size W w')
    (H12 : ∀ W, Calls Tryd.prog 12 #[.agg #[.int .i64 x, .bool a, .bool b], .int .i64 act] W fun e w' => e = .returned (.tuple #[.agg #[.int .i64 x, .bool a, .bool b, .bool false, .bool he], .int .i64 0]) ∧ Below W.heap.size W w')
    (H11' : ∀ W, Calls Tryd.prog 11 #[.agg #[.int .i64 x1, .bool a1, .bool b1], .int .i64 act] W fun e w' => e = .returned (.tuple #[.agg #[.int .i64 x1, .bool a1, .bool b1, .bool false, .bool false], .int .i64 0]) ∧ Below W.heap.size W w')
    (H12' : ∀ W, Calls Tryd.prog 12 #[.agg #[.int .i64 x, .bool a, .bool b], .int .i64 act] W fun e w' => e = .returned (.tuple #[.agg #[.int .i64 x, .bool a, .bool b, .bool false, .bool he2], .int .i64 0]) ∧ Below W.heap.size W w') :
    Calls Tryd.prog 8 #[.agg #[.int .i64 x, .bool a, .bool b], .int .i64 act] w fun e w' => e = .returned (.bool true) ∧ Below w.heap.size w w' := by
  have HN : Hid (Names w) := hN
  clear hN
  go_enter Tryd.func8, Tryd.ntmps8
  go_wp2_with fail
  have HS : Hid (Blk w.heap.size #[.int .i64 x, .bool a, .bool b] 23 (w.alloc (.cells #[.int .i64 x, .bool a, .bool b] 23))) := Blk.new _ _ _
  have HW : Hid (Below w.heap.size w (w.alloc (.cells #[.int .i64 x, .bool a, .bool b] 23))) := bw0 _ _
  refine (lives_any _ (HN.out.below HW.out)).mono ?_
  rintro e w1 ⟨rfl, hb⟩
  replace HW : Hid (Below w.heap.size w w1) := HW.out.trans (hb.mono HW.out.size)
  replace HS : Hid (Blk w.heap.size #[.int .i64 x, .bool a, .bool b] 23 w1) := HS.out.below hb
  clear hb
  obtain ⟨S_0, S_1, S_2, _⟩ := blk3 HS.out
  have S_l : w.heap.size < w1.heap.size := HS.out.lt
  go_wp2_with fail
  refine (H11 _).mono ?_
  rintro e w2 ⟨rfl, hb⟩
  clear S_0 S_1 S_2 S_l
  replace HW : Hid (Below w.heap.size w w2) := HW.out.trans (hb.mono HW.out.size)
  replace HS : Hid (Blk w.heap.size #[.int .i64 x, .bool a, .bool b] 23 w2) := HS.out.below hb
  clear hb
  obtain ⟨S_0, S_1, S_2, _⟩ := blk3 HS.out
  have S_l : w.heap.size < w2.heap.size := HS.out.lt
  go_wp2_with fail
  refine (H12 _).mono ?_
  rintro e w3 ⟨rfl, hb⟩
  have HD : Hid (Blk w2.heap.size #[.int .i64 x1, .bool a1, .bool b1, .bool true, .bool false] 30 w3) := (Blk.new w2 _ _).below hb
  replace hb : Below w2.heap.size w2 w3 := (bw0 _ _).trans (hb.mono (bw0 _ _).size)
  clear S_0 S_1 S_2 S_l
  replace HW : Hid (Below w.heap.size w w3) := HW.out.trans (hb.mono HW.out.size)
  replace HS : Hid (Blk w.heap.size #[.int .i64 x, .bool a, .bool b] 23 w3) := HS.out.below hb
  clear hb
  obtain ⟨S_0, S_1, S_2, _⟩ := blk3 HS.out
  have S_l : w.heap.size < w3.heap.size := HS.out.lt
  obtain ⟨D_0, D_1, D_2, D_3, D_4, _⟩ := blk5 HD.out
  have D_l : w2.heap.size < w3.heap.size := HD.out.lt
  go_wp2_with fail
  refine (H11' _).mono ?_
  rintro e w4 ⟨rfl, hb⟩
  have HH : Hid (Blk w3.heap.size #[.int .i64 x, .bool a, .bool b, .bool false, .bool he] 30 w4) := (Blk.new w3 _ _).below hb
  replace hb : Below w3.heap.size w3 w4 := (bw0 _ _).trans (hb.mono (bw0 _ _).size)
  clear S_0 S_1 S_2 S_l
  clear D_0 D_1 D_2 D_3 D_4 D_l
  replace HW : Hid (Below w.heap.size w w4) := HW.out.trans (hb.mono HW.out.size)
  replace HS : Hid (Blk w.heap.size #[.int .i64 x, .bool a, .bool b] 23 w4) := HS.out.below hb
  replace HD : Hid (Blk w2.heap.size #[.int .i64 x1, .bool a1, .bool b1, .bool true, .bool false] 30 w4) := HD.out.below hb
  clear hb
  obtain ⟨S_0, S_1, S_2, _⟩ := blk3 HS.out
  have S_l : w.heap.size < w4.heap.size := HS.out.lt
  obtain ⟨D_0, D_1, D_2, D_3, D_4, _⟩ := blk5 HD.out
  have D_l : w2.heap.size < w4.heap.size := HD.out.lt
  obtain ⟨H_0, H_1, H_2, H_3, H_4, _⟩ := blk5 HH.out
  have H_l : w3.heap.size < w4.heap.size := HH.out.lt
  go_wp2_with fail
  refine (H12' _).mono ?_
  rintro e w5 ⟨rfl, hb⟩
  have HE : Hid (Blk w4.heap.size #[.int .i64 x1, .bool a1, .bool b1, .bool false, .bool false] 30 w5) := (Blk.new w4 _ _).below hb
  replace hb : Below w4.heap.size w4 w5 := (bw0 _ _).trans (hb.mono (bw0 _ _).size)
  clear S_0 S_1 S_2 S_l
  clear D_0 D_1 D_2 D_3 D_4 D_l
  clear H_0 H_1 H_2 H_3 H_4 H_l
  replace HW : Hid (Below w.heap.size w w5) := HW.out.trans (hb.mono HW.out.size)
  replace HS : Hid (Blk w.heap.size #[.int .i64 x, .bool a, .bool b] 23 w5) := HS.out.below hb
  replace HD : Hid (Blk w2.heap.size #[.int .i64 x1, .bool a1, .bool b1, .bool true, .bool false] 30 w5) := HD.out.below hb
  replace HH : Hid (Blk w3.heap.size #[.int .i64 x, .bool a, .bool b, .bool false, .bool he] 30 w5) := HH.out.below hb
  clear hb
  obtain ⟨S_0, S_1, S_2, _⟩ := blk3 HS.out
  have S_l : w.heap.size < w5.heap.size := HS.out.lt
  obtain ⟨D_0, D_1, D_2, D_3, D_4, _⟩ := blk5 HD.out
  have D_l : w2.heap.size < w5.heap.size := HD.out.lt
  obtain ⟨H_0, H_1, H_2, H_3, H_4, _⟩ := blk5 HH.out
  have H_l : w3.heap.size < w5.heap.size := HH.out.lt
  obtain ⟨E_0, E_1, E_2, E_3, E_4, _⟩ := blk5 HE.out
  have E_l : w4.heap.size < w5.heap.size := HE.out.lt
  go_wp2_with fail
  go_ret
  exact ⟨rfl, HW.out.alloc HW.out.size _⟩
set_option maxHeartbeats 4000000 in
theorem stillft (x act x2 : Int) (a b a2 b2 he2 : Bool) (w : World) (hN : Names w) (k1 : (act == 1) = false)
    (H11 : ∀ W, Calls Tryd.prog 11 #[.agg #[.int .i64 x, .bool a, .bool b], .int .i64 act] W fun e w' => e = .returned (.tuple #[.agg #[.int .i64 x, .bool a, .bool b, .bool false, .bool false], .int .i64 0]) ∧ Below W.heap.size W w')
    (H12 : ∀ W, Calls Tryd.prog 12 #[.agg #[.int .i64 x, .bool a, .bool b], .int .i64 act] W fun e w' => e = .returned (.tuple #[.agg #[.int .i64 x2, .bool a2, .bool b2, .bool true, .bool false], .int .i64 0]) ∧ Below W.heap.size W w')
    (H11' : ∀ W, Calls Tryd.prog 11 #[.agg #[.int .i64 x, .bool a, .bool b], .int .i64 act] W fun e w' => e = .returned (.tuple #[.agg #[.int .i64 x, .bool a, .bool b, .bool false, .bool false], .int .i64 0]) ∧ Below W.heap.size W w')
    (H12' : ∀ W, Calls Tryd.prog 12 #[.agg #[.int .i64 x2, .bool a2, .bool b2], .int .i64 act] W fun e w' => e = .returned (.tuple #[.agg #[.int .i64 x2, .bool a2, .bool b2, .bool false, .bool he2], .int .i64 0]) ∧ Below W.heap.size W w') :
    Calls Tryd.prog 8 #[.agg #[.int .i64 x, .bool a, .bool b], .int .i64 act] w fun e w' => e = .returned (.bool true) ∧ Below w.heap.size w w' := by
  have HN : Hid (Names w) := hN
  clear hN
  go_enter Tryd.func8, Tryd.ntmps8
  go_wp2_with fail
  have HS : Hid (Blk w.heap.size #[.int .i64 x, .bool a, .bool b] 23 (w.alloc (.cells #[.int .i64 x, .bool a, .bool b] 23))) := Blk.new _ _ _
  have HW : Hid (Below w.heap.size w (w.alloc (.cells #[.int .i64 x, .bool a, .bool b] 23))) := bw0 _ _
  refine (lives_any _ (HN.out.below HW.out)).mono ?_
  rintro e w1 ⟨rfl, hb⟩
  replace HW : Hid (Below w.heap.size w w1) := HW.out.trans (hb.mono HW.out.size)
  replace HS : Hid (Blk w.heap.size #[.int .i64 x, .bool a, .bool b] 23 w1) := HS.out.below hb
  clear hb
  obtain ⟨S_0, S_1, S_2, _⟩ := blk3 HS.out
  have S_l : w.heap.size < w1.heap.size := HS.out.lt
  go_wp2_with fail
  refine (H11 _).mono ?_
  rintro e w2 ⟨rfl, hb⟩
  clear S_0 S_1 S_2 S_l
  replace HW : Hid (Below w.heap.size w w2) := HW.out.trans (hb.mono HW.out.size)
  replace HS : Hid (Blk w.heap.size #[.int .i64 x, .bool a, .bool b] 23 w2) := HS.out.below hb
  clear hb
  obtain ⟨S_0, S_1, S_2, _⟩ := blk3 HS.out
  have S_l : w.heap.size < w2.heap.size := HS.out.lt
  go_wp2_with fail
  refine (H12 _).mono ?_
  rintro e w3 ⟨rfl, hb⟩
  have HD : Hid (Blk w2.heap.size #[.int .i64 x, .bool a, .bool b, .bool false, .bool false] 30 w3) := (Blk.new w2 _ _).below hb
  replace hb : Below w2.heap.size w2 w3 := (bw0 _ _).trans (hb.mono (bw0 _ _).size)
  clear S_0 S_1 S_2 S_l
  replace HW : Hid (Below w.heap.size w w3) := HW.out.trans (hb.mono HW.out.size)
  replace HS : Hid (Blk w.heap.size #[.int .i64 x, .bool a, .bool b] 23 w3) := HS.out.below hb
  clear hb
  obtain ⟨S_0, S_1, S_2, _⟩ := blk3 HS.out
  have S_l : w.heap.size < w3.heap.size := HS.out.lt
  obtain ⟨D_0, D_1, D_2, D_3, D_4, _⟩ := blk5 HD.out
  have D_l : w2.heap.size < w3.heap.size := HD.out.lt
  go_wp2_with fail
  refine (H11' _).mono ?_
  rintro e w4 ⟨rfl, hb⟩
  have HH : Hid (Blk w3.heap.size #[.int .i64 x2, .bool a2, .bool b2, .bool true, .bool false] 30 w4) := (Blk.new w3 _ _).below hb
  replace hb : Below w3.heap.size w3 w4 := (bw0 _ _).trans (hb.mono (bw0 _ _).size)
  clear S_0 S_1 S_2 S_l
  clear D_0 D_1 D_2 D_3 D_4 D_l
  replace HW : Hid (Below w.heap.size w w4) := HW.out.trans (hb.mono HW.out.size)
  replace HS : Hid (Blk w.heap.size #[.int .i64 x, .bool a, .bool b] 23 w4) := HS.out.below hb
  replace HD : Hid (Blk w2.heap.size #[.int .i64 x, .bool a, .bool b, .bool false, .bool false] 30 w4) := HD.out.below hb
  clear hb
  obtain ⟨S_0, S_1, S_2, _⟩ := blk3 HS.out
  have S_l : w.heap.size < w4.heap.size := HS.out.lt
  obtain ⟨D_0, D_1, D_2, D_3, D_4, _⟩ := blk5 HD.out
  have D_l : w2.heap.size < w4.heap.size := HD.out.lt
  obtain ⟨H_0, H_1, H_2, H_3, H_4, _⟩ := blk5 HH.out
  have H_l : w3.heap.size < w4.heap.size := HH.out.lt
  go_wp2_with fail
  refine (H12' _).mono ?_
  rintro e w5 ⟨rfl, hb⟩
  have HE : Hid (Blk w4.heap.size #[.int .i64 x, .bool a, .bool b, .bool false, .bool false] 30 w5) := (Blk.new w4 _ _).below hb
  replace hb : Below w4.heap.size w4 w5 := (bw0 _ _).trans (hb.mono (bw0 _ _).size)
  clear S_0 S_1 S_2 S_l
  clear D_0 D_1 D_2 D_3 D_4 D_l
  clear H_0 H_1 H_2 H_3 H_4 H_l
  replace HW : Hid (Below w.heap.size w w5) := HW.out.trans (hb.mono HW.out.size)
  replace HS : Hid (Blk w.heap.size #[.int .i64 x, .bool a, .bool b] 23 w5) := HS.out.below hb
  replace HD : Hid (Blk w2.heap.size #[.int .i64 x, .bool a, .bool b, .bool false, .bool false] 30 w5) := HD.out.below hb
  replace HH : Hid (Blk w3.heap.size #[.int .i64 x2, .bool a2, .bool b2, .bool true, .bool false] 30 w5) := HH.out.below hb
  clear hb
  obtain ⟨S_0, S_1, S_2, _⟩ := blk3 HS.out
  have S_l : w.heap.size < w5.heap.size := HS.out.lt
  obtain ⟨D_0, D_1, D_2, D_3, D_4, _⟩ := blk5 HD.out
  have D_l : w2.heap.size < w5.heap.size := HD.out.lt
  obtain ⟨H_0, H_1, H_2, H_3, H_4, _⟩ := blk5 HH.out
  have H_l : w3.heap.size < w5.heap.size := HH.out.lt
  obtain ⟨E_0, E_1, E_2, E_3, E_4, _⟩ := blk5 HE.out
  have E_l : w4.heap.size < w5.heap.size := HE.out.lt
  go_wp2_with fail
  go_ret
  exact ⟨rfl, HW.out.alloc HW.out.size _⟩
set_option maxHeartbeats 4000000 in
theorem stillff (x act : Int) (a b he he2 : Bool) (w : World) (hN : Names w) (k1 : (act == 1) = false)
    (H11 : ∀ W, Calls Tryd.prog 11 #[.agg #[.int .i64 x, .bool a, .bool b], .int .i64 act] W fun e w' => e = .returned (.tuple #[.agg #[.int .i64 x, .bool a, .bool b, .bool false, .bool false], .int .i64 0]) ∧ Below W.heap.size W w')
    (H12 : ∀ W, Calls Tryd.prog 12 #[.agg #[.int .i64 x, .bool a, .bool b], .int .i64 act] W fun e w' => e = .returned (.tuple #[.agg #[.int .i64 x, .bool a, .bool b, .bool false, .bool he], .int .i64 0]) ∧ Below W.heap.size W w')
    (H11' : ∀ W, Calls Tryd.prog 11 #[.agg #[.int .i64 x, .bool a, .bool b], .int .i64 act] W fun e w' => e = .returned (.tuple #[.agg #[.int .i64 x, .bool a, .bool b, .bool false, .bool false], .int .i64 0]) ∧ Below W.heap.size W w')
    (H12' : ∀ W, Calls Tryd.prog 12 #[.agg #[.int .i64 x, .bool a, .bool b], .int .i64 act] W fun e w' => e = .returned (.tuple #[.agg #[.int .i64 x, .bool a, .bool b, .bool false, .bool he2], .int .i64 0]) ∧ Below W.heap.size W w') :
    Calls Tryd.prog 8 #[.agg #[.int .i64 x, .bool a, .bool b], .int .i64 act] w fun e w' => e = .returned (.bool true) ∧ Below w.heap.size w w' := by
  have HN : Hid (Names w) := hN
  clear hN
  go_enter Tryd.func8, Tryd.ntmps8
  go_wp2_with fail
  have HS : Hid (Blk w.heap.size #[.int .i64 x, .bool a, .bool b] 23 (w.alloc (.cells #[.int .i64 x, .bool a, .bool b] 23))) := Blk.new _ _ _
  have HW : Hid (Below w.heap.size w (w.alloc (.cells #[.int .i64 x, .bool a, .bool b] 23))) := bw0 _ _
  refine (lives_any _ (HN.out.below HW.out)).mono ?_
  rintro e w1 ⟨rfl, hb⟩
  replace HW : Hid (Below w.heap.size w w1) := HW.out.trans (hb.mono HW.out.size)
  replace HS : Hid (Blk w.heap.size #[.int .i64 x, .bool a, .bool b] 23 w1) := HS.out.below hb
  clear hb
  obtain ⟨S_0, S_1, S_2, _⟩ := blk3 HS.out
  have S_l : w.heap.size < w1.heap.size := HS.out.lt
  go_wp2_with fail
  refine (H11 _).mono ?_
  rintro e w2 ⟨rfl, hb⟩
  clear S_0 S_1 S_2 S_l
  replace HW : Hid (Below w.heap.size w w2) := HW.out.trans (hb.mono HW.out.size)
  replace HS : Hid (Blk w.heap.size #[.int .i64 x, .bool a, .bool b] 23 w2) := HS.out.below hb
  clear hb
  obtain ⟨S_0, S_1, S_2, _⟩ := blk3 HS.out
  have S_l : w.heap.size < w2.heap.size := HS.out.lt
  go_wp2_with fail
  refine (H12 _).mono ?_
  rintro e w3 ⟨rfl, hb⟩
  have HD : Hid (Blk w2.heap.size #[.int .i64 x, .bool a, .bool b, .bool false, .bool false] 30 w3) := (Blk.new w2 _ _).below hb
  replace hb : Below w2.heap.size w2 w3 := (bw0 _ _).trans (hb.mono (bw0 _ _).size)
  clear S_0 S_1 S_2 S_l
  replace HW : Hid (Below w.heap.size w w3) := HW.out.trans (hb.mono HW.out.size)
  replace HS : Hid (Blk w.heap.size #[.int .i64 x, .bool a, .bool b] 23 w3) := HS.out.below hb
  clear hb
  obtain ⟨S_0, S_1, S_2, _⟩ := blk3 HS.out
  have S_l : w.heap.size < w3.heap.size := HS.out.lt
  obtain ⟨D_0, D_1, D_2, D_3, D_4, _⟩ := blk5 HD.out
  have D_l : w2.heap.size < w3.heap.size := HD.out.lt
  go_wp2_with fail
  refine (H11' _).mono ?_
  rintro e w4 ⟨rfl, hb⟩
  have HH : Hid (Blk w3.heap.size #[.int .i64 x, .bool a, .bool b, .bool false, .bool he] 30 w4) := (Blk.new w3 _ _).below hb
  replace hb : Below w3.heap.size w3 w4 := (bw0 _ _).trans (hb.mono (bw0 _ _).size)
  clear S_0 S_1 S_2 S_l
  clear D_0 D_1 D_2 D_3 D_4 D_l
  replace HW : Hid (Below w.heap.size w w4) := HW.out.trans (hb.mono HW.out.size)
  replace HS : Hid (Blk w.heap.size #[.int .i64 x, .bool a, .bool b] 23 w4) := HS.out.below hb
  replace HD : Hid (Blk w2.heap.size #[.int .i64 x, .bool a, .bool b, .bool false, .bool false] 30 w4) := HD.out.below hb
  clear hb
  obtain ⟨S_0, S_1, S_2, _⟩ := blk3 HS.out
  have S_l : w.heap.size < w4.heap.size := HS.out.lt
  obtain ⟨D_0, D_1, D_2, D_3, D_4, _⟩ := blk5 HD.out
  have D_l : w2.heap.size < w4.heap.size := HD.out.lt
  obtain ⟨H_0, H_1, H_2, H_3, H_4, _⟩ := blk5 HH.out
  have H_l : w3.heap.size < w4.heap.size := HH.out.lt
  go_wp2_with fail
  refine (H12' _).mono ?_
  rintro e w5 ⟨rfl, hb⟩
  have HE : Hid (Blk w4.heap.size #[.int .i64 x, .bool a, .bool b, .bool false, .bool false] 30 w5) := (Blk.new w4 _ _).below hb
  replace hb : Below w4.heap.size w4 w5 := (bw0 _ _).trans (hb.mono (bw0 _ _).size)
  clear S_0 S_1 S_2 S_l
  clear D_0 D_1 D_2 D_3 D_4 D_l
  clear H_0 H_1 H_2 H_3 H_4 H_l
  replace HW : Hid (Below w.heap.size w w5) := HW.out.trans (hb.mono HW.out.size)
  replace HS : Hid (Blk w.heap.size #[.int .i64 x, .bool a, .bool b] 23 w5) := HS.out.below hb
  replace HD : Hid (Blk w2.heap.size #[.int .i64 x, .bool a, .bool b, .bool false, .bool false] 30 w5) := HD.out.below hb
  replace HH : Hid (Blk w3.heap.size #[.int .i64 x, .bool a, .bool b, .bool false, .bool he] 30 w5) := HH.out.below hb
  clear hb
  obtain ⟨S_0, S_1, S_2, _⟩ := blk3 HS.out
  have S_l : w.heap.size < w5.heap.size := HS.out.lt
  obtain ⟨D_0, D_1, D_2, D_3, D_4, _⟩ := blk5 HD.out
  have D_l : w2.heap.size < w5.heap.size := HD.out.lt
  obtain ⟨H_0, H_1, H_2, H_3, H_4, _⟩ := blk5 HH.out
  have H_l : w3.heap.size < w5.heap.size := HH.out.lt
  obtain ⟨E_0, E_1, E_2, E_3, E_4, _⟩ := blk5 HE.out
  have E_l : w4.heap.size < w5.heap.size := HE.out.lt
  go_wp2_with fail
  go_ret
  exact ⟨rfl, HW.out.alloc HW.out.size _⟩
theorem doS_twice (k : Nat) (s : Sd) (h : s.ok = true) : doS k (doS k s) = doS k s ∧ doT k (doS k s) = (if k = 1 then true else false) := by
  obtain ⟨p, q, a, b⟩ := s
  by_cases h1 : k = 1
  · subst h1
    exact ⟨rfl, rfl⟩
  · rw [if_neg h1]
    by_cases h2 : k = 2
    · subst h2
      revert h
      revert p q a b
      simp [doS, doT]
    · by_cases h3 : k = 3
      · subst h3
        exact ⟨rfl, rfl⟩
      · simp [doS, doT, h1, h2, h3]
theorem heS_still (k : Nat) (s : Sd) (h : s.ok = true) (ht : heT k s = false) : heS k s = s := by
  by_cases h1 : k = 1
  · subst h1
    obtain ⟨p, q, a, b⟩ := s
    cases p <;> cases q <;> cases a <;> cases b <;> first | rfl | (exact absurd h (by decide)) | (exact absurd ht (by decide))
  · have : doT k s.mir = false := by simpa [heT, h1] using ht
    unfold heS
    rw [doS_still k _ this]
    rfl
theorem heS_twice (k : Nat) (s : Sd) (h : s.ok = true) : heS k (heS k s) = heS k s ∧ heT k (heS k s) = false ∧ (heT k s = true → heE k s = false) := by
  have hm := doS_twice k s.mir (mir_ok s h)
  have e1 : (heS k s).mir = doS k s.mir := rfl
  refine ⟨?_, ?_, ?_⟩
  · unfold heS at e1 ⊢
    rw [e1, hm.1]
  · by_cases h1 : k = 1
    · subst h1
      obtain ⟨p, q, a, b⟩ := s
      cases p <;> cases q <;> cases a <;> cases b <;> first | rfl | (exact absurd h (by decide))
    · simp only [heT, h1, if_false]
      rw [e1, hm.2, if_neg h1]
  · intro ht
    by_cases h1 : k = 1
    · subst h1
      obtain ⟨p, q, a, b⟩ := s
      cases q
      · rfl
      · exact absurd ht (by simp [heT])
    · simp [heE, h1]
theorem still_walk (x : Int) (a b : Bool) (act : Int) (w : World) (hN : Names w) : Calls Tryd.prog 8 #[.agg #[.int .i64 x, .bool a, .bool b], .int .i64 act] w fun e w' => e = .returned (.bool true) ∧ Below w.heap.size w w' := by
  obtain ⟨p, q, ok, R⟩ := reads_any x a b
  rcases R.is with ⟨rfl, rfl, hok⟩ | ⟨rfl, hoff⟩
  case inr => exact still_no x act a b w hN (do_no _ _ _ _ (.inl hoff)) (hear_no _ _ _ _ (.inl hoff))
  rcases act_cases act with ⟨k, rfl, hk⟩ | hno
  case inr => exact still_no _ act a b w hN (do_no _ _ _ _ (.inr hno)) (hear_no _ _ _ _ (.inr hno))
  obtain ⟨s, hs⟩ : ∃ s : Sd, s = ⟨p, q, a, b⟩ := ⟨_, rfl⟩
  have hsok : s.ok = true := by rw [hs]; exact hok
  have H11 := do_any k hk s hsok
  have H12 := hear_any k hk s hsok
  have H11' := do_any k hk (doS k s) (doS_ok k s hsok)
  have H12' := hear_any k hk (heS k s) (heS_ok k s hsok)
  obtain ⟨e1, e2⟩ := doS_twice k s hsok
  obtain ⟨e3, e4, e5⟩ := heS_twice k s hsok
  rw [e1, e2] at H11'
  rw [e3, e4] at H12'
  have es : subN p q = s.sub ∧ a = s.a ∧ b = s.b := by subst hs; exact ⟨rfl, rfl, rfl⟩
  obtain ⟨es1, es2, es3⟩ := es
  rw [es1, es2, es3]
  clear es1 es2 es3 hs hok R
  cases ht : heT k s
  · rw [ht, heS_still k s hsok ht] at H12
    rw [heS_still k s hsok ht] at H12'
    by_cases h1 : k = 1
    · subst h1
      exact still1f _ _ _ _ _ _ _ _ w hN H11 H12 H11' H12'
    · rw [if_neg h1] at H11'
      have k1 : (((k : Nat) : Int) == 1) = false := by simp; omega
      cases hd : doT k s
      · rw [hd, doS_still k s hd] at H11
        rw [doS_still k s hd] at H11'
        exact stillff _ _ _ _ _ _ w hN k1 H11 H12 H11' H12'
      · rw [hd] at H11
        exact stilltf _ _ _ _ _ _ _ _ _ w hN k1 H11 H12 H11' H12'
  · rw [ht, e5 ht] at H12
    by_cases h1 : k = 1
    · subst h1
      exact still1t _ _ _ _ _ _ _ _ _ _ w hN H11 H12 H11' H12'
    · rw [if_neg h1] at H11'
      have k1 : (((k : Nat) : Int) == 1) = false := by simp; omega
      cases hd : doT k s
      · rw [hd, doS_still k s hd] at H11
        rw [doS_still k s hd] at H11'
        exact stillft _ _ _ _ _ _ _ _ w hN k1 H11 H12 H11' H12'
      · rw [hd] at H11
        exact stilltt _ _ _ _ _ _ _ _ _ _ _ w hN k1 H11 H12 H11' H12'
end Go.Proofs.YtojeeopmhogolaaDoor
