/-
  The contract of Both over this program: what is told, echoed or not.
-/
import Derived.Test.YtojeeopmhogolaaDoorPcf
namespace Go.Proofs.YtojeeopmhogolaaDoor
open Go Go.RowKit Go.Sort
set_option maxHeartbeats 4000000 in
/-- What is told, and not echoed. -/
theorem both_told (sa sb s1 s2 : Int) (aa ab ba bb a1 a2 b1 b2 t2  : Bool) (act : Int) (w : World)
    (H11 : ∀ W, Calls Tryd.prog 11 #[.agg #[.int .i64 sa, .bool aa, .bool ab], .int .i64 act] W fun e w' => e = .returned (.tuple #[.agg #[.int .i64 s1, .bool a1, .bool b1, .bool true, .bool false], .int .i64 0]) ∧ Below W.heap.size W w')
    (H12 : ∀ W, Calls Tryd.prog 12 #[.agg #[.int .i64 sb, .bool ba, .bool bb], .int .i64 act] W fun e w' => e = .returned (.tuple #[.agg #[.int .i64 s2, .bool a2, .bool b2, .bool t2, .bool false], .int .i64 0]) ∧ Below W.heap.size W w')
    (H13 : ∀ W, Calls Tryd.prog 13 #[.agg #[.int .i64 sb, .bool ba, .bool bb]] W fun e w' => e = .returned (.bool true) ∧ Below W.heap.size W w') :
    Calls Tryd.prog 19 #[.agg #[.int .i64 sa, .bool aa, .bool ab], .agg #[.int .i64 sb, .bool ba, .bool bb], .int .i64 act] w fun e w' => e = .returned (.tuple #[.agg #[.int .i64 s1, .bool a1, .bool b1], .agg #[.int .i64 s2, .bool a2, .bool b2], .int .i64 0]) ∧ Below w.heap.size w w' := by
  have HA : Hid (Blk w.heap.size #[.int .i64 sa, .bool aa, .bool ab] 23 ((((w.alloc (.cells #[.int .i64 sa, .bool aa, .bool ab] 23)).alloc (.cells #[.int .i64 sb, .bool ba, .bool bb] 23)).alloc (.cells #[.int .i64 0, .bool false, .bool false] 23)).alloc (.cells #[.int .i64 0, .bool false, .bool false] 23))) := (((Blk.new1 w _ _ _).below (bw0 _ _)).below (bw0 _ _))
  have HB : Hid (Blk (w.heap.size + 1) #[.int .i64 sb, .bool ba, .bool bb] 23 ((((w.alloc (.cells #[.int .i64 sa, .bool aa, .bool ab] 23)).alloc (.cells #[.int .i64 sb, .bool ba, .bool bb] 23)).alloc (.cells #[.int .i64 0, .bool false, .bool false] 23)).alloc (.cells #[.int .i64 0, .bool false, .bool false] 23))) := (((Blk.new2 w _ _ _).below (bw0 _ _)).below (bw0 _ _))
  have HC : Hid (Blk (w.heap.size + 1 + 1) #[.int .i64 0, .bool false, .bool false] 23 ((((w.alloc (.cells #[.int .i64 sa, .bool aa, .bool ab] 23)).alloc (.cells #[.int .i64 sb, .bool ba, .bool bb] 23)).alloc (.cells #[.int .i64 0, .bool false, .bool false] 23)).alloc (.cells #[.int .i64 0, .bool false, .bool false] 23))) := (Blk.new3 w _ _ _ _).below (bw0 _ _)
  have HD : Hid (Blk (w.heap.size + 1 + 1 + 1) #[.int .i64 0, .bool false, .bool false] 23 ((((w.alloc (.cells #[.int .i64 sa, .bool aa, .bool ab] 23)).alloc (.cells #[.int .i64 sb, .bool ba, .bool bb] 23)).alloc (.cells #[.int .i64 0, .bool false, .bool false] 23)).alloc (.cells #[.int .i64 0, .bool false, .bool false] 23))) := Blk.new4 w _ _ _ _ _
  have HW : Hid (Below w.heap.size w ((((w.alloc (.cells #[.int .i64 sa, .bool aa, .bool ab] 23)).alloc (.cells #[.int .i64 sb, .bool ba, .bool bb] 23)).alloc (.cells #[.int .i64 0, .bool false, .bool false] 23)).alloc (.cells #[.int .i64 0, .bool false, .bool false] 23))) := (((bw0 _ _).alloc (by simp) _).alloc (by simp; omega) _).alloc (by simp; omega) _
  go_enter Tryd.func19, Tryd.ntmps19
  go_wp2_with (first
    | (go_at_call 11; refine (H11 _).mono ?_; rintro e w1 ⟨rfl, hb⟩; replace HW : Hid (Below w.heap.size w w1) := HW.out.trans (hb.mono HW.out.size); replace HA : Hid (Blk w.heap.size _ 23 w1) := HA.out.below hb; replace HB : Hid (Blk (w.heap.size + 1) _ 23 w1) := HB.out.below hb; replace HC : Hid (Blk (w.heap.size + 1 + 1) _ 23 w1) := HC.out.below hb; replace HD : Hid (Blk (w.heap.size + 1 + 1 + 1) _ 23 w1) := HD.out.below hb; obtain ⟨a0, a1_, a2_, _⟩ := blk3 HA.out; obtain ⟨b0, b1_, b2_, _⟩ := blk3 HB.out; obtain ⟨c0, c1, c2, k0, k1, k2⟩ := blk3 HC.out; obtain ⟨d0, d1, d2, l0, l1, l2⟩ := blk3 HD.out; clear hb; have hl : w.heap.size + 1 + 1 + 1 < w1.heap.size := HD.out.lt; have m0 : w.heap.size < w1.heap.size := HA.out.lt; have m1 : w.heap.size + 1 < w1.heap.size := HB.out.lt; have m2 : w.heap.size + 1 + 1 < w1.heap.size := HC.out.lt)
    | (go_at_call 13; refine (H13 _).mono ?_; rintro e w2 ⟨rfl, hb⟩; have HG : Hid (Blk w1.heap.size _ 30 w2) := (Blk.new w1 _ _).below hb; have hlg : w1.heap.size < w2.heap.size := HG.out.lt; replace hb : Below w1.heap.size w1 w2 := (bw0 _ _).trans (hb.mono (bw0 _ _).size); replace HW : Hid (Below w.heap.size w w2) := HW.out.trans (hb.mono HW.out.size); replace HA : Hid (Blk w.heap.size _ 23 w2) := HA.out.below hb; replace HB : Hid (Blk (w.heap.size + 1) _ 23 w2) := HB.out.below hb; replace HC : Hid (Blk (w.heap.size + 1 + 1) _ 23 w2) := HC.out.below hb; replace HD : Hid (Blk (w.heap.size + 1 + 1 + 1) _ 23 w2) := HD.out.below hb; obtain ⟨a0, a1_, a2_, _⟩ := blk3 HA.out; obtain ⟨b0, b1_, b2_, _⟩ := blk3 HB.out; obtain ⟨c0, c1, c2, k0, k1, k2⟩ := blk3 HC.out; obtain ⟨d0, d1, d2, l0, l1, l2⟩ := blk3 HD.out; clear hb; obtain ⟨g0, g1, g2, g3, g4, _⟩ := blk5 HG.out; have hl : w.heap.size + 1 + 1 + 1 < w2.heap.size := HD.out.lt; have m0 : w.heap.size < w2.heap.size := HA.out.lt; have m1 : w.heap.size + 1 < w2.heap.size := HB.out.lt; have m2 : w.heap.size + 1 + 1 < w2.heap.size := HC.out.lt))
  refine (H12 _).mono ?_
  rintro e w3 ⟨rfl, hb⟩
  replace HG : Hid (Blk w1.heap.size _ 30 w3) := HG.out.below hb
  replace HW : Hid (Below w.heap.size w w3) := HW.out.trans (hb.mono HW.out.size)
  replace HA : Hid (Blk w.heap.size _ 23 w3) := HA.out.below hb
  replace HB : Hid (Blk (w.heap.size + 1) _ 23 w3) := HB.out.below hb
  replace HC : Hid (Blk (w.heap.size + 1 + 1) _ 23 w3) := HC.out.below hb
  replace HD : Hid (Blk (w.heap.size + 1 + 1 + 1) _ 23 w3) := HD.out.below hb
  obtain ⟨a0, a1_, a2_, _⟩ := blk3 HA.out
  obtain ⟨b0, b1_, b2_, _⟩ := blk3 HB.out
  obtain ⟨c0, c1, c2, k0, k1, k2⟩ := blk3 HC.out
  obtain ⟨d0, d1, d2, l0, l1, l2⟩ := blk3 HD.out
  clear hb
  clear g0 g1 g2 g3 g4
  obtain ⟨g0, g1, g2, g3, g4, _⟩ := blk5 HG.out
  have hl : w.heap.size + 1 + 1 + 1 < w3.heap.size := HD.out.lt
  have hl2 : w1.heap.size < w3.heap.size := HG.out.lt
  have m0 : w.heap.size < w3.heap.size := HA.out.lt
  have m1 : w.heap.size + 1 < w3.heap.size := HB.out.lt
  have m2 : w.heap.size + 1 + 1 < w3.heap.size := HC.out.lt
  go_wp2_with fail
  go_region
  have E1 : Blk (w.heap.size + 1 + 1) #[.int .i64 s1, .bool a1, .bool b1] 23 (((((((w3.setCell ⟨w.heap.size + 1 + 1, 0, none⟩ (.int .i64 s1)).setCell ⟨w.heap.size + 1 + 1, 1, none⟩ (.bool a1)).setCell ⟨w.heap.size + 1 + 1, 2, none⟩ (.bool b1)).setCell ⟨w.heap.size + 1 + 1 + 1, 0, none⟩ (.int .i64 s2)).setCell ⟨w.heap.size + 1 + 1 + 1, 1, none⟩ (.bool a2)).setCell ⟨w.heap.size + 1 + 1 + 1, 2, none⟩ (.bool b2)).alloc (.cells #[.int .i64 s2, .bool a2, .bool b2, .bool t2, .bool false] 30)).drew := Blk.drew (w := (((((((w3.setCell ⟨w.heap.size + 1 + 1, 0, none⟩ (.int .i64 s1)).setCell ⟨w.heap.size + 1 + 1, 1, none⟩ (.bool a1)).setCell ⟨w.heap.size + 1 + 1, 2, none⟩ (.bool b1)).setCell ⟨w.heap.size + 1 + 1 + 1, 0, none⟩ (.int .i64 s2)).setCell ⟨w.heap.size + 1 + 1 + 1, 1, none⟩ (.bool a2)).setCell ⟨w.heap.size + 1 + 1 + 1, 2, none⟩ (.bool b2)).alloc (.cells #[.int .i64 s2, .bool a2, .bool b2, .bool t2, .bool false] 30))) (((((((HC.out.set 0 _).set 1 _).set 2 _).other (by omega) 0 _).other (by omega) 1 _).other (by omega) 2 _).below (bw0 _ _))
  have E2 : Blk (w.heap.size + 1 + 1 + 1) #[.int .i64 s2, .bool a2, .bool b2] 23 (((((((w3.setCell ⟨w.heap.size + 1 + 1, 0, none⟩ (.int .i64 s1)).setCell ⟨w.heap.size + 1 + 1, 1, none⟩ (.bool a1)).setCell ⟨w.heap.size + 1 + 1, 2, none⟩ (.bool b1)).setCell ⟨w.heap.size + 1 + 1 + 1, 0, none⟩ (.int .i64 s2)).setCell ⟨w.heap.size + 1 + 1 + 1, 1, none⟩ (.bool a2)).setCell ⟨w.heap.size + 1 + 1 + 1, 2, none⟩ (.bool b2)).alloc (.cells #[.int .i64 s2, .bool a2, .bool b2, .bool t2, .bool false] 30)).drew := Blk.drew (w := (((((((w3.setCell ⟨w.heap.size + 1 + 1, 0, none⟩ (.int .i64 s1)).setCell ⟨w.heap.size + 1 + 1, 1, none⟩ (.bool a1)).setCell ⟨w.heap.size + 1 + 1, 2, none⟩ (.bool b1)).setCell ⟨w.heap.size + 1 + 1 + 1, 0, none⟩ (.int .i64 s2)).setCell ⟨w.heap.size + 1 + 1 + 1, 1, none⟩ (.bool a2)).setCell ⟨w.heap.size + 1 + 1 + 1, 2, none⟩ (.bool b2)).alloc (.cells #[.int .i64 s2, .bool a2, .bool b2, .bool t2, .bool false] 30))) (((((((HD.out.other (by omega) 0 _).other (by omega) 1 _).other (by omega) 2 _).set 0 _).set 1 _).set 2 _).below (bw0 _ _))
  clear c0 c1 c2 d0 d1 d2
  obtain ⟨c0, c1, c2, _⟩ := blk3 E1
  obtain ⟨d0, d1, d2, _⟩ := blk3 E2
  go_wp2_with fail
  refine bodyPost_ret (v := .tuple #[.agg #[.int .i64 s1, .bool a1, .bool b1], .agg #[.int .i64 s2, .bool a2, .bool b2], .int .i64 0]) (by simp [results, Tryd.results19, go_sem, c0, c1, c2, d0, d1, d2]) rfl ⟨rfl, ?_⟩
  refine Below.drew ?_
  refine Below.alloc ?_ (by simp; omega) _
  repeat (refine Below.setCell ?_ (by simp; try omega) _)
  exact HW.out
set_option maxHeartbeats 4000000 in
/-- What is told, and echoed. -/
theorem both_echo (sa sb s1 s2 s3 : Int) (aa ab ba bb a1 a2 a3 b1 b2 b3 t2 t3 e3 : Bool) (act : Int) (w : World)
    (H11 : ∀ W, Calls Tryd.prog 11 #[.agg #[.int .i64 sa, .bool aa, .bool ab], .int .i64 act] W fun e w' => e = .returned (.tuple #[.agg #[.int .i64 s1, .bool a1, .bool b1, .bool true, .bool false], .int .i64 0]) ∧ Below W.heap.size W w')
    (H12 : ∀ W, Calls Tryd.prog 12 #[.agg #[.int .i64 sb, .bool ba, .bool bb], .int .i64 act] W fun e w' => e = .returned (.tuple #[.agg #[.int .i64 s2, .bool a2, .bool b2, .bool t2, .bool true], .int .i64 0]) ∧ Below W.heap.size W w')
    (H12' : ∀ W, Calls Tryd.prog 12 #[.agg #[.int .i64 s1, .bool a1, .bool b1], .int .i64 2] W fun e w' => e = .returned (.tuple #[.agg #[.int .i64 s3, .bool a3, .bool b3, .bool t3, .bool e3], .int .i64 0]) ∧ Below W.heap.size W w')
    (H13 : ∀ W, Calls Tryd.prog 13 #[.agg #[.int .i64 sb, .bool ba, .bool bb]] W fun e w' => e = .returned (.bool true) ∧ Below W.heap.size W w') :
    Calls Tryd.prog 19 #[.agg #[.int .i64 sa, .bool aa, .bool ab], .agg #[.int .i64 sb, .bool ba, .bool bb], .int .i64 act] w fun e w' => e = .returned (.tuple #[.agg #[.int .i64 s3, .bool a3, .bool b3], .agg #[.int .i64 s2, .bool a2, .bool b2], .int .i64 0]) ∧ Below w.heap.size w w' := by
  have HA : Hid (Blk w.heap.size #[.int .i64 sa, .bool aa, .bool ab] 23 ((((w.alloc (.cells #[.int .i64 sa, .bool aa, .bool ab] 23)).alloc (.cells #[.int .i64 sb, .bool ba, .bool bb] 23)).alloc (.cells #[.int .i64 0, .bool false, .bool false] 23)).alloc (.cells #[.int .i64 0, .bool false, .bool false] 23))) := (((Blk.new1 w _ _ _).below (bw0 _ _)).below (bw0 _ _))
  have HB : Hid (Blk (w.heap.size + 1) #[.int .i64 sb, .bool ba, .bool bb] 23 ((((w.alloc (.cells #[.int .i64 sa, .bool aa, .bool ab] 23)).alloc (.cells #[.int .i64 sb, .bool ba, .bool bb] 23)).alloc (.cells #[.int .i64 0, .bool false, .bool false] 23)).alloc (.cells #[.int .i64 0, .bool false, .bool false] 23))) := (((Blk.new2 w _ _ _).below (bw0 _ _)).below (bw0 _ _))
  have HC : Hid (Blk (w.heap.size + 1 + 1) #[.int .i64 0, .bool false, .bool false] 23 ((((w.alloc (.cells #[.int .i64 sa, .bool aa, .bool ab] 23)).alloc (.cells #[.int .i64 sb, .bool ba, .bool bb] 23)).alloc (.cells #[.int .i64 0, .bool false, .bool false] 23)).alloc (.cells #[.int .i64 0, .bool false, .bool false] 23))) := (Blk.new3 w _ _ _ _).below (bw0 _ _)
  have HD : Hid (Blk (w.heap.size + 1 + 1 + 1) #[.int .i64 0, .bool false, .bool false] 23 ((((w.alloc (.cells #[.int .i64 sa, .bool aa, .bool ab] 23)).alloc (.cells #[.int .i64 sb, .bool ba, .bool bb] 23)).alloc (.cells #[.int .i64 0, .bool false, .bool false] 23)).alloc (.cells #[.int .i64 0, .bool false, .bool false] 23))) := Blk.new4 w _ _ _ _ _
  have HW : Hid (Below w.heap.size w ((((w.alloc (.cells #[.int .i64 sa, .bool aa, .bool ab] 23)).alloc (.cells #[.int .i64 sb, .bool ba, .bool bb] 23)).alloc (.cells #[.int .i64 0, .bool false, .bool false] 23)).alloc (.cells #[.int .i64 0, .bool false, .bool false] 23))) := (((bw0 _ _).alloc (by simp) _).alloc (by simp; omega) _).alloc (by simp; omega) _
  go_enter Tryd.func19, Tryd.ntmps19
  go_wp2_with (first
    | (go_at_call 11; refine (H11 _).mono ?_; rintro e w1 ⟨rfl, hb⟩; replace HW : Hid (Below w.heap.size w w1) := HW.out.trans (hb.mono HW.out.size); replace HA : Hid (Blk w.heap.size _ 23 w1) := HA.out.below hb; replace HB : Hid (Blk (w.heap.size + 1) _ 23 w1) := HB.out.below hb; replace HC : Hid (Blk (w.heap.size + 1 + 1) _ 23 w1) := HC.out.below hb; replace HD : Hid (Blk (w.heap.size + 1 + 1 + 1) _ 23 w1) := HD.out.below hb; obtain ⟨a0, a1_, a2_, _⟩ := blk3 HA.out; obtain ⟨b0, b1_, b2_, _⟩ := blk3 HB.out; obtain ⟨c0, c1, c2, k0, k1, k2⟩ := blk3 HC.out; obtain ⟨d0, d1, d2, l0, l1, l2⟩ := blk3 HD.out; clear hb; have hl : w.heap.size + 1 + 1 + 1 < w1.heap.size := HD.out.lt; have m0 : w.heap.size < w1.heap.size := HA.out.lt; have m1 : w.heap.size + 1 < w1.heap.size := HB.out.lt; have m2 : w.heap.size + 1 + 1 < w1.heap.size := HC.out.lt)
    | (go_at_call 13; refine (H13 _).mono ?_; rintro e w2 ⟨rfl, hb⟩; have HG : Hid (Blk w1.heap.size _ 30 w2) := (Blk.new w1 _ _).below hb; have hlg : w1.heap.size < w2.heap.size := HG.out.lt; replace hb : Below w1.heap.size w1 w2 := (bw0 _ _).trans (hb.mono (bw0 _ _).size); replace HW : Hid (Below w.heap.size w w2) := HW.out.trans (hb.mono HW.out.size); replace HA : Hid (Blk w.heap.size _ 23 w2) := HA.out.below hb; replace HB : Hid (Blk (w.heap.size + 1) _ 23 w2) := HB.out.below hb; replace HC : Hid (Blk (w.heap.size + 1 + 1) _ 23 w2) := HC.out.below hb; replace HD : Hid (Blk (w.heap.size + 1 + 1 + 1) _ 23 w2) := HD.out.below hb; obtain ⟨a0, a1_, a2_, _⟩ := blk3 HA.out; obtain ⟨b0, b1_, b2_, _⟩ := blk3 HB.out; obtain ⟨c0, c1, c2, k0, k1, k2⟩ := blk3 HC.out; obtain ⟨d0, d1, d2, l0, l1, l2⟩ := blk3 HD.out; clear hb; obtain ⟨g0, g1, g2, g3, g4, _⟩ := blk5 HG.out; have hl : w.heap.size + 1 + 1 + 1 < w2.heap.size := HD.out.lt; have m0 : w.heap.size < w2.heap.size := HA.out.lt; have m1 : w.heap.size + 1 < w2.heap.size := HB.out.lt; have m2 : w.heap.size + 1 + 1 < w2.heap.size := HC.out.lt))
  refine (H12 _).mono ?_
  rintro e w3 ⟨rfl, hb⟩
  replace HG : Hid (Blk w1.heap.size _ 30 w3) := HG.out.below hb
  replace HW : Hid (Below w.heap.size w w3) := HW.out.trans (hb.mono HW.out.size)
  replace HA : Hid (Blk w.heap.size _ 23 w3) := HA.out.below hb
  replace HB : Hid (Blk (w.heap.size + 1) _ 23 w3) := HB.out.below hb
  replace HC : Hid (Blk (w.heap.size + 1 + 1) _ 23 w3) := HC.out.below hb
  replace HD : Hid (Blk (w.heap.size + 1 + 1 + 1) _ 23 w3) := HD.out.below hb
  obtain ⟨a0, a1_, a2_, _⟩ := blk3 HA.out
  obtain ⟨b0, b1_, b2_, _⟩ := blk3 HB.out
  obtain ⟨c0, c1, c2, k0, k1, k2⟩ := blk3 HC.out
  obtain ⟨d0, d1, d2, l0, l1, l2⟩ := blk3 HD.out
  clear hb
  clear g0 g1 g2 g3 g4
  obtain ⟨g0, g1, g2, g3, g4, _⟩ := blk5 HG.out
  have hl : w.heap.size + 1 + 1 + 1 < w3.heap.size := HD.out.lt
  have hl2 : w1.heap.size < w3.heap.size := HG.out.lt
  have m0 : w.heap.size < w3.heap.size := HA.out.lt
  have m1 : w.heap.size + 1 < w3.heap.size := HB.out.lt
  have m2 : w.heap.size + 1 + 1 < w3.heap.size := HC.out.lt
  go_wp2_with fail
  refine (H12' _).mono ?_
  rintro e w4 ⟨rfl, hb⟩
  replace HG : Hid (Blk w1.heap.size _ 30 w4) := HG.out.below ((bw0 _ _).trans (hb.mono (bw0 _ _).size))
  have HI : Hid (Blk w3.heap.size _ 30 w4) := (Blk.new w3 _ _).below hb
  replace hb : Below w3.heap.size w3 w4 := (bw0 _ _).trans (hb.mono (bw0 _ _).size)
  replace HW : Hid (Below w.heap.size w w4) := HW.out.trans (hb.mono HW.out.size)
  replace HA : Hid (Blk w.heap.size _ 23 w4) := HA.out.below hb
  replace HB : Hid (Blk (w.heap.size + 1) _ 23 w4) := HB.out.below hb
  replace HC : Hid (Blk (w.heap.size + 1 + 1) _ 23 w4) := HC.out.below hb
  replace HD : Hid (Blk (w.heap.size + 1 + 1 + 1) _ 23 w4) := HD.out.below hb
  obtain ⟨a0, a1_, a2_, _⟩ := blk3 HA.out
  obtain ⟨b0, b1_, b2_, _⟩ := blk3 HB.out
  obtain ⟨c0, c1, c2, k0, k1, k2⟩ := blk3 HC.out
  obtain ⟨d0, d1, d2, l0, l1, l2⟩ := blk3 HD.out
  clear hb
  clear g0 g1 g2 g3 g4
  obtain ⟨g0, g1, g2, g3, g4, _⟩ := blk5 HG.out
  obtain ⟨i0, i1, i2, i3, i4, _⟩ := blk5 HI.out
  have hl : w.heap.size + 1 + 1 + 1 < w4.heap.size := HD.out.lt
  have hl2 : w1.heap.size < w4.heap.size := HG.out.lt
  have hl3 : w3.heap.size < w4.heap.size := HI.out.lt
  have m0 : w.heap.size < w4.heap.size := HA.out.lt
  have m1 : w.heap.size + 1 < w4.heap.size := HB.out.lt
  have m2 : w.heap.size + 1 + 1 < w4.heap.size := HC.out.lt
  go_wp2_with fail
  go_region
  have E1 : Blk (w.heap.size + 1 + 1) #[.int .i64 s3, .bool a3, .bool b3] 23 (((((((w4.setCell ⟨w.heap.size + 1 + 1, 0, none⟩ (.int .i64 s3)).setCell ⟨w.heap.size + 1 + 1, 1, none⟩ (.bool a3)).setCell ⟨w.heap.size + 1 + 1, 2, none⟩ (.bool b3)).setCell ⟨w.heap.size + 1 + 1 + 1, 0, none⟩ (.int .i64 s2)).setCell ⟨w.heap.size + 1 + 1 + 1, 1, none⟩ (.bool a2)).setCell ⟨w.heap.size + 1 + 1 + 1, 2, none⟩ (.bool b2)).alloc (.cells #[.int .i64 s3, .bool a3, .bool b3, .bool t3, .bool e3] 30)).drew := Blk.drew (w := (((((((w4.setCell ⟨w.heap.size + 1 + 1, 0, none⟩ (.int .i64 s3)).setCell ⟨w.heap.size + 1 + 1, 1, none⟩ (.bool a3)).setCell ⟨w.heap.size + 1 + 1, 2, none⟩ (.bool b3)).setCell ⟨w.heap.size + 1 + 1 + 1, 0, none⟩ (.int .i64 s2)).setCell ⟨w.heap.size + 1 + 1 + 1, 1, none⟩ (.bool a2)).setCell ⟨w.heap.size + 1 + 1 + 1, 2, none⟩ (.bool b2)).alloc (.cells #[.int .i64 s3, .bool a3, .bool b3, .bool t3, .bool e3] 30))) (((((((HC.out.set 0 _).set 1 _).set 2 _).other (by omega) 0 _).other (by omega) 1 _).other (by omega) 2 _).below (bw0 _ _))
  have E2 : Blk (w.heap.size + 1 + 1 + 1) #[.int .i64 s2, .bool a2, .bool b2] 23 (((((((w4.setCell ⟨w.heap.size + 1 + 1, 0, none⟩ (.int .i64 s3)).setCell ⟨w.heap.size + 1 + 1, 1, none⟩ (.bool a3)).setCell ⟨w.heap.size + 1 + 1, 2, none⟩ (.bool b3)).setCell ⟨w.heap.size + 1 + 1 + 1, 0, none⟩ (.int .i64 s2)).setCell ⟨w.heap.size + 1 + 1 + 1, 1, none⟩ (.bool a2)).setCell ⟨w.heap.size + 1 + 1 + 1, 2, none⟩ (.bool b2)).alloc (.cells #[.int .i64 s3, .bool a3, .bool b3, .bool t3, .bool e3] 30)).drew := Blk.drew (w := (((((((w4.setCell ⟨w.heap.size + 1 + 1, 0, none⟩ (.int .i64 s3)).setCell ⟨w.heap.size + 1 + 1, 1, none⟩ (.bool a3)).setCell ⟨w.heap.size + 1 + 1, 2, none⟩ (.bool b3)).setCell ⟨w.heap.size + 1 + 1 + 1, 0, none⟩ (.int .i64 s2)).setCell ⟨w.heap.size + 1 + 1 + 1, 1, none⟩ (.bool a2)).setCell ⟨w.heap.size + 1 + 1 + 1, 2, none⟩ (.bool b2)).alloc (.cells #[.int .i64 s3, .bool a3, .bool b3, .bool t3, .bool e3] 30))) (((((((HD.out.other (by omega) 0 _).other (by omega) 1 _).other (by omega) 2 _).set 0 _).set 1 _).set 2 _).below (bw0 _ _))
  clear c0 c1 c2 d0 d1 d2
  obtain ⟨c0, c1, c2, _⟩ := blk3 E1
  obtain ⟨d0, d1, d2, _⟩ := blk3 E2
  go_wp2_with fail
  refine bodyPost_ret (v := .tuple #[.agg #[.int .i64 s3, .bool a3, .bool b3], .agg #[.int .i64 s2, .bool a2, .bool b2], .int .i64 0]) (by simp [results, Tryd.results19, go_sem, c0, c1, c2, d0, d1, d2]) rfl ⟨rfl, ?_⟩
  refine Below.drew ?_
  refine Below.alloc ?_ (by simp; omega) _
  repeat (refine Below.setCell ?_ (by simp; try omega) _)
  exact HW.out
end Go.Proofs.YtojeeopmhogolaaDoor
