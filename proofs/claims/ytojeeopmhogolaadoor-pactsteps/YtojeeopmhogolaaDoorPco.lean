/-
  The contracts of the document's Both and Fit over this program.
-/
import Derived.Test.YtojeeopmhogolaaDoorPci
import Derived.Test.YtojeeopmhogolaaDoorPcm
namespace Go.Proofs.YtojeeopmhogolaaDoor
open Go Go.RowKit Go.Sort
theorem refFitA0 (q1 p2 a1 b2 b1 a2 : Bool) (w : World) : Calls Tryd.prog 21 #[.agg #[.bool true, .bool q1, .bool a1, .bool b1], .agg #[.bool p2, .bool false, .bool a2, .bool b2]] w fun e w' => e = .returned (.bool false) ∧ Below w.heap.size w w' := by
  go_enter Tryd.func21, Tryd.ntmps21
  go_wp2_with fail
  go_ret
  exact ⟨rfl, below2 _ _ _⟩
theorem refFitB0 (p1 a1 b2 b1 a2 : Bool) (w : World) : Calls Tryd.prog 21 #[.agg #[.bool p1, .bool true, .bool a1, .bool b1], .agg #[.bool false, .bool p1, .bool a2, .bool b2]] w fun e w' => e = .returned (.bool false) ∧ Below w.heap.size w w' := by
  go_enter Tryd.func21, Tryd.ntmps21
  go_wp2_with fail
  go_ret
  exact ⟨rfl, below2 _ _ _⟩
theorem refFitC0 (p1 q1 b1 a2 : Bool) (w : World) : Calls Tryd.prog 21 #[.agg #[.bool p1, .bool q1, .bool true, .bool b1], .agg #[.bool q1, .bool p1, .bool a2, .bool false]] w fun e w' => e = .returned (.bool false) ∧ Below w.heap.size w w' := by
  go_enter Tryd.func21, Tryd.ntmps21
  go_wp2_with fail
  go_ret
  exact ⟨rfl, below2 _ _ _⟩
theorem refFitD0 (p1 q1 a1 : Bool) (w : World) : Calls Tryd.prog 21 #[.agg #[.bool p1, .bool q1, .bool a1, .bool true], .agg #[.bool q1, .bool p1, .bool false, .bool a1]] w fun e w' => e = .returned (.bool false) ∧ Below w.heap.size w w' := by
  go_enter Tryd.func21, Tryd.ntmps21
  go_wp2_with fail
  go_ret
  exact ⟨rfl, below2 _ _ _⟩
theorem refFitA1 (q1 p2 a1 b2 b1 a2 : Bool) (w : World) : Calls Tryd.prog 21 #[.agg #[.bool false, .bool q1, .bool a1, .bool b1], .agg #[.bool p2, .bool true, .bool a2, .bool b2]] w fun e w' => e = .returned (.bool false) ∧ Below w.heap.size w w' := by
  go_enter Tryd.func21, Tryd.ntmps21
  go_wp2_with fail
  go_ret
  exact ⟨rfl, below2 _ _ _⟩
theorem refFitB1 (p1 a1 b2 b1 a2 : Bool) (w : World) : Calls Tryd.prog 21 #[.agg #[.bool p1, .bool false, .bool a1, .bool b1], .agg #[.bool true, .bool p1, .bool a2, .bool b2]] w fun e w' => e = .returned (.bool false) ∧ Below w.heap.size w w' := by
  go_enter Tryd.func21, Tryd.ntmps21
  go_wp2_with fail
  go_ret
  exact ⟨rfl, below2 _ _ _⟩
theorem refFitC1 (p1 q1 b1 a2 : Bool) (w : World) : Calls Tryd.prog 21 #[.agg #[.bool p1, .bool q1, .bool false, .bool b1], .agg #[.bool q1, .bool p1, .bool a2, .bool true]] w fun e w' => e = .returned (.bool false) ∧ Below w.heap.size w w' := by
  go_enter Tryd.func21, Tryd.ntmps21
  go_wp2_with fail
  go_ret
  exact ⟨rfl, below2 _ _ _⟩
theorem refFitD1 (p1 q1 a1 : Bool) (w : World) : Calls Tryd.prog 21 #[.agg #[.bool p1, .bool q1, .bool a1, .bool false], .agg #[.bool q1, .bool p1, .bool true, .bool a1]] w fun e w' => e = .returned (.bool false) ∧ Below w.heap.size w w' := by
  go_enter Tryd.func21, Tryd.ntmps21
  go_wp2_with fail
  go_ret
  exact ⟨rfl, below2 _ _ _⟩
theorem refFitE (p1 q1 a1 b1 : Bool) (w : World) : Calls Tryd.prog 21 #[.agg #[.bool p1, .bool q1, .bool a1, .bool b1], .agg #[.bool q1, .bool p1, .bool b1, .bool a1]] w fun e w' => e = .returned (.bool true) ∧ Below w.heap.size w w' := by
  go_enter Tryd.func21, Tryd.ntmps21
  go_wp2_with fail
  go_ret
  exact ⟨rfl, below2 _ _ _⟩
theorem refFit_all (p1 q1 a1 b1 p2 q2 a2 b2 : Bool) (w : World) : Calls Tryd.prog 21 #[.agg #[.bool p1, .bool q1, .bool a1, .bool b1], .agg #[.bool p2, .bool q2, .bool a2, .bool b2]] w fun e w' => e = .returned (.bool (fitN p1 q1 a1 b1 p2 q2 a2 b2)) ∧ Below w.heap.size w w' := by
  by_cases h1 : p1 = q2
  · subst h1
    by_cases h2 : q1 = p2
    · subst h2
      by_cases h3 : a1 = b2
      · subst h3
        by_cases h4 : b1 = a2
        · subst h4
          rw [show fitN p1 q1 a1 b1 q1 p1 b1 a1 = true by simp [fitN]]
          exact refFitE p1 q1 a1 b1 w
        · rw [show fitN p1 q1 a1 b1 q1 p1 a2 a1 = false by simp [fitN, h4]]
          cases b1 <;> cases a2 <;> simp at h4
          · exact refFitD1 p1 q1 a1 w
          · exact refFitD0 p1 q1 a1 w
      · rw [show fitN p1 q1 a1 b1 q1 p1 a2 b2 = false by simp [fitN, h3]]
        cases a1 <;> cases b2 <;> simp at h3
        · exact refFitC1 p1 q1 b1 a2 w
        · exact refFitC0 p1 q1 b1 a2 w
    · rw [show fitN p1 q1 a1 b1 p2 p1 a2 b2 = false by simp [fitN, h2]]
      cases q1 <;> cases p2 <;> simp at h2
      · exact refFitB1 p1 a1 b2 b1 a2 w
      · exact refFitB0 p1 a1 b2 b1 a2 w
  · rw [show fitN p1 q1 a1 b1 p2 q2 a2 b2 = false by simp [fitN, h1]]
    cases p1 <;> cases q2 <;> simp at h1
    · exact refFitA1 q1 p2 a1 b2 b1 a2 w
    · exact refFitA0 q1 p2 a1 b2 b1 a2 w
set_option maxHeartbeats 4000000 in
theorem refBoth1 (up uq ua ub vp vq va vb xp xq xa xb xi : Bool) (act : Int) (w : World)
    (H16 : ∀ W, Calls Tryd.prog 16 #[.agg #[.bool up, .bool uq, .bool ua, .bool ub], .int .i64 act] W fun e w' => e = .returned (.tuple #[.agg #[.bool xp, .bool xq, .bool xa, .bool xb], .bool false, .bool xi]) ∧ Below W.heap.size W w') :
    Calls Tryd.prog 22 #[.agg #[.bool up, .bool uq, .bool ua, .bool ub], .agg #[.bool vp, .bool vq, .bool va, .bool vb], .int .i64 act] w fun e w' => e = .returned (.tuple #[.agg #[.bool xp, .bool xq, .bool xa, .bool xb], .agg #[.bool vp, .bool vq, .bool va, .bool vb]]) ∧ Below w.heap.size w w' := by
  have HA : Hid (Blk w.heap.size #[.bool up, .bool uq, .bool ua, .bool ub] 26 ((((w.alloc (.cells #[.bool up, .bool uq, .bool ua, .bool ub] 26)).alloc (.cells #[.bool vp, .bool vq, .bool va, .bool vb] 26)).alloc (.cells #[.bool false, .bool false, .bool false, .bool false] 26)).alloc (.cells #[.bool false, .bool false, .bool false, .bool false] 26))) := (((Blk.new1 w _ _ _).below (bw0 _ _)).below (bw0 _ _))
  have HB : Hid (Blk (w.heap.size + 1) #[.bool vp, .bool vq, .bool va, .bool vb] 26 ((((w.alloc (.cells #[.bool up, .bool uq, .bool ua, .bool ub] 26)).alloc (.cells #[.bool vp, .bool vq, .bool va, .bool vb] 26)).alloc (.cells #[.bool false, .bool false, .bool false, .bool false] 26)).alloc (.cells #[.bool false, .bool false, .bool false, .bool false] 26))) := (((Blk.new2 w _ _ _).below (bw0 _ _)).below (bw0 _ _))
  have HC : Hid (Blk (w.heap.size + 1 + 1) #[.bool false, .bool false, .bool false, .bool false] 26 ((((w.alloc (.cells #[.bool up, .bool uq, .bool ua, .bool ub] 26)).alloc (.cells #[.bool vp, .bool vq, .bool va, .bool vb] 26)).alloc (.cells #[.bool false, .bool false, .bool false, .bool false] 26)).alloc (.cells #[.bool false, .bool false, .bool false, .bool false] 26))) := (Blk.new3 w _ _ _ _).below (bw0 _ _)
  have HD : Hid (Blk (w.heap.size + 1 + 1 + 1) #[.bool false, .bool false, .bool false, .bool false] 26 ((((w.alloc (.cells #[.bool up, .bool uq, .bool ua, .bool ub] 26)).alloc (.cells #[.bool vp, .bool vq, .bool va, .bool vb] 26)).alloc (.cells #[.bool false, .bool false, .bool false, .bool false] 26)).alloc (.cells #[.bool false, .bool false, .bool false, .bool false] 26))) := Blk.new4 w _ _ _ _ _
  have HW : Hid (Below w.heap.size w ((((w.alloc (.cells #[.bool up, .bool uq, .bool ua, .bool ub] 26)).alloc (.cells #[.bool vp, .bool vq, .bool va, .bool vb] 26)).alloc (.cells #[.bool false, .bool false, .bool false, .bool false] 26)).alloc (.cells #[.bool false, .bool false, .bool false, .bool false] 26))) := (((bw0 _ _).alloc (by simp) _).alloc (by simp; omega) _).alloc (by simp; omega) _
  go_enter Tryd.func22, Tryd.ntmps22
  go_wp2_with (go_at_call 16; refine (H16 _).mono ?_; rintro e w1 ⟨rfl, hb⟩; replace HW : Hid (Below w.heap.size w w1) := HW.out.trans (hb.mono HW.out.size); replace HA : Hid (Blk w.heap.size _ 26 w1) := HA.out.below hb; replace HB : Hid (Blk (w.heap.size + 1) _ 26 w1) := HB.out.below hb; replace HC : Hid (Blk (w.heap.size + 1 + 1) _ 26 w1) := HC.out.below hb; replace HD : Hid (Blk (w.heap.size + 1 + 1 + 1) _ 26 w1) := HD.out.below hb; obtain ⟨b0, b1, b2, b3, _⟩ := blk4 HB.out; obtain ⟨c0, c1, c2, c3, k0, k1, k2, k3⟩ := blk4 HC.out; obtain ⟨d0, d1, d2, d3, l0, l1, l2, l3⟩ := blk4 HD.out; clear hb; have m0 : w.heap.size < w1.heap.size := HA.out.lt; have m1 : w.heap.size + 1 < w1.heap.size := HB.out.lt; have m2 : w.heap.size + 1 + 1 < w1.heap.size := HC.out.lt; have m3 : w.heap.size + 1 + 1 + 1 < w1.heap.size := HD.out.lt)
  go_region
  have E1 : Blk (w.heap.size + 1 + 1) #[.bool xp, .bool xq, .bool xa, .bool xb] 26 (((((((((w1.setCell ⟨w.heap.size + 1 + 1, 0, none⟩ (.bool xp)).setCell ⟨w.heap.size + 1 + 1, 1, none⟩ (.bool xq)).setCell ⟨w.heap.size + 1 + 1, 2, none⟩ (.bool xa)).setCell ⟨w.heap.size + 1 + 1, 3, none⟩ (.bool xb)).setCell ⟨w.heap.size + 1 + 1 + 1, 0, none⟩ (.bool vp)).setCell ⟨w.heap.size + 1 + 1 + 1, 1, none⟩ (.bool vq)).setCell ⟨w.heap.size + 1 + 1 + 1, 2, none⟩ (.bool va)).setCell ⟨w.heap.size + 1 + 1 + 1, 3, none⟩ (.bool vb)).alloc (.cells #[.bool xp, .bool xq, .bool xa, .bool xb] 26)).drew := Blk.drew (w := (((((((((w1.setCell ⟨w.heap.size + 1 + 1, 0, none⟩ (.bool xp)).setCell ⟨w.heap.size + 1 + 1, 1, none⟩ (.bool xq)).setCell ⟨w.heap.size + 1 + 1, 2, none⟩ (.bool xa)).setCell ⟨w.heap.size + 1 + 1, 3, none⟩ (.bool xb)).setCell ⟨w.heap.size + 1 + 1 + 1, 0, none⟩ (.bool vp)).setCell ⟨w.heap.size + 1 + 1 + 1, 1, none⟩ (.bool vq)).setCell ⟨w.heap.size + 1 + 1 + 1, 2, none⟩ (.bool va)).setCell ⟨w.heap.size + 1 + 1 + 1, 3, none⟩ (.bool vb)).alloc (.cells #[.bool xp, .bool xq, .bool xa, .bool xb] 26))) (((((((((HC.out.set 0 _).set 1 _).set 2 _).set 3 _).other (by omega) 0 _).other (by omega) 1 _).other (by omega) 2 _).other (by omega) 3 _).below (bw0 _ _))
  have E2 : Blk (w.heap.size + 1 + 1 + 1) #[.bool vp, .bool vq, .bool va, .bool vb] 26 (((((((((w1.setCell ⟨w.heap.size + 1 + 1, 0, none⟩ (.bool xp)).setCell ⟨w.heap.size + 1 + 1, 1, none⟩ (.bool xq)).setCell ⟨w.heap.size + 1 + 1, 2, none⟩ (.bool xa)).setCell ⟨w.heap.size + 1 + 1, 3, none⟩ (.bool xb)).setCell ⟨w.heap.size + 1 + 1 + 1, 0, none⟩ (.bool vp)).setCell ⟨w.heap.size + 1 + 1 + 1, 1, none⟩ (.bool vq)).setCell ⟨w.heap.size + 1 + 1 + 1, 2, none⟩ (.bool va)).setCell ⟨w.heap.size + 1 + 1 + 1, 3, none⟩ (.bool vb)).alloc (.cells #[.bool xp, .bool xq, .bool xa, .bool xb] 26)).drew := Blk.drew (w := (((((((((w1.setCell ⟨w.heap.size + 1 + 1, 0, none⟩ (.bool xp)).setCell ⟨w.heap.size + 1 + 1, 1, none⟩ (.bool xq)).setCell ⟨w.heap.size + 1 + 1, 2, none⟩ (.bool xa)).setCell ⟨w.heap.size + 1 + 1, 3, none⟩ (.bool xb)).setCell ⟨w.heap.size + 1 + 1 + 1, 0, none⟩ (.bool vp)).setCell ⟨w.heap.size + 1 + 1 + 1, 1, none⟩ (.bool vq)).setCell ⟨w.heap.size + 1 + 1 + 1, 2, none⟩ (.bool va)).setCell ⟨w.heap.size + 1 + 1 + 1, 3, none⟩ (.bool vb)).alloc (.cells #[.bool xp, .bool xq, .bool xa, .bool xb] 26))) (((((((((HD.out.other (by omega) 0 _).other (by omega) 1 _).other (by omega) 2 _).other (by omega) 3 _).set 0 _).set 1 _).set 2 _).set 3 _).below (bw0 _ _))
  clear c0 c1 c2 c3 d0 d1 d2 d3
  obtain ⟨c0, c1, c2, c3, _⟩ := blk4 E1
  obtain ⟨d0, d1, d2, d3, _⟩ := blk4 E2
  go_wp2_with fail
  refine bodyPost_ret (v := .tuple #[.agg #[.bool xp, .bool xq, .bool xa, .bool xb], .agg #[.bool vp, .bool vq, .bool va, .bool vb]]) (by simp [results, Tryd.results22, go_sem, c0, c1, c2, c3, d0, d1, d2, d3]) rfl ⟨rfl, ?_⟩
  refine Below.drew ?_
  refine Below.alloc ?_ (by simp; omega) _
  repeat (refine Below.setCell ?_ (by simp; try omega) _)
  exact HW.out
set_option maxHeartbeats 4000000 in
theorem refBoth2 (up uq ua ub vp vq va vb xp xq xa xb yp yq ya yb xi yt yi : Bool) (act : Int) (w : World)
    (H16 : ∀ W, Calls Tryd.prog 16 #[.agg #[.bool up, .bool uq, .bool ua, .bool ub], .int .i64 act] W fun e w' => e = .returned (.tuple #[.agg #[.bool xp, .bool xq, .bool xa, .bool xb], .bool true, .bool xi]) ∧ Below W.heap.size W w')
    (H17 : ∀ W, Calls Tryd.prog 17 #[.agg #[.bool vp, .bool vq, .bool va, .bool vb], .int .i64 act] W fun e w' => e = .returned (.tuple #[.agg #[.bool yp, .bool yq, .bool ya, .bool yb], .bool yt, .bool false, .bool yi]) ∧ Below W.heap.size W w') :
    Calls Tryd.prog 22 #[.agg #[.bool up, .bool uq, .bool ua, .bool ub], .agg #[.bool vp, .bool vq, .bool va, .bool vb], .int .i64 act] w fun e w' => e = .returned (.tuple #[.agg #[.bool xp, .bool xq, .bool xa, .bool xb], .agg #[.bool yp, .bool yq, .bool ya, .bool yb]]) ∧ Below w.heap.size w w' := by
  have HA : Hid (Blk w.heap.size #[.bool up, .bool uq, .bool ua, .bool ub] 26 ((((w.alloc (.cells #[.bool up, .bool uq, .bool ua, .bool ub] 26)).alloc (.cells #[.bool vp, .bool vq, .bool va, .bool vb] 26)).alloc (.cells #[.bool false, .bool false, .bool false, .bool false] 26)).alloc (.cells #[.bool false, .bool false, .bool false, .bool false] 26))) := (((Blk.new1 w _ _ _).below (bw0 _ _)).below (bw0 _ _))
  have HB : Hid (Blk (w.heap.size + 1) #[.bool vp, .bool vq, .bool va, .bool vb] 26 ((((w.alloc (.cells #[.bool up, .bool uq, .bool ua, .bool ub] 26)).alloc (.cells #[.bool vp, .bool vq, .bool va, .bool vb] 26)).alloc (.cells #[.bool false, .bool false, .bool false, .bool false] 26)).alloc (.cells #[.bool false, .bool false, .bool false, .bool false] 26))) := (((Blk.new2 w _ _ _).below (bw0 _ _)).below (bw0 _ _))
  have HC : Hid (Blk (w.heap.size + 1 + 1) #[.bool false, .bool false, .bool false, .bool false] 26 ((((w.alloc (.cells #[.bool up, .bool uq, .bool ua, .bool ub] 26)).alloc (.cells #[.bool vp, .bool vq, .bool va, .bool vb] 26)).alloc (.cells #[.bool false, .bool false, .bool false, .bool false] 26)).alloc (.cells #[.bool false, .bool false, .bool false, .bool false] 26))) := (Blk.new3 w _ _ _ _).below (bw0 _ _)
  have HD : Hid (Blk (w.heap.size + 1 + 1 + 1) #[.bool false, .bool false, .bool false, .bool false] 26 ((((w.alloc (.cells #[.bool up, .bool uq, .bool ua, .bool ub] 26)).alloc (.cells #[.bool vp, .bool vq, .bool va, .bool vb] 26)).alloc (.cells #[.bool false, .bool false, .bool false, .bool false] 26)).alloc (.cells #[.bool false, .bool false, .bool false, .bool false] 26))) := Blk.new4 w _ _ _ _ _
  have HW : Hid (Below w.heap.size w ((((w.alloc (.cells #[.bool up, .bool uq, .bool ua, .bool ub] 26)).alloc (.cells #[.bool vp, .bool vq, .bool va, .bool vb] 26)).alloc (.cells #[.bool false, .bool false, .bool false, .bool false] 26)).alloc (.cells #[.bool false, .bool false, .bool false, .bool false] 26))) := (((bw0 _ _).alloc (by simp) _).alloc (by simp; omega) _).alloc (by simp; omega) _
  go_enter Tryd.func22, Tryd.ntmps22
  go_wp2_with (go_at_call 16; refine (H16 _).mono ?_; rintro e w1 ⟨rfl, hb⟩; replace HW : Hid (Below w.heap.size w w1) := HW.out.trans (hb.mono HW.out.size); replace HA : Hid (Blk w.heap.size _ 26 w1) := HA.out.below hb; replace HB : Hid (Blk (w.heap.size + 1) _ 26 w1) := HB.out.below hb; replace HC : Hid (Blk (w.heap.size + 1 + 1) _ 26 w1) := HC.out.below hb; replace HD : Hid (Blk (w.heap.size + 1 + 1 + 1) _ 26 w1) := HD.out.below hb; obtain ⟨b0, b1, b2, b3, _⟩ := blk4 HB.out; obtain ⟨c0, c1, c2, c3, k0, k1, k2, k3⟩ := blk4 HC.out; obtain ⟨d0, d1, d2, d3, l0, l1, l2, l3⟩ := blk4 HD.out; clear hb; have m0 : w.heap.size < w1.heap.size := HA.out.lt; have m1 : w.heap.size + 1 < w1.heap.size := HB.out.lt; have m2 : w.heap.size + 1 + 1 < w1.heap.size := HC.out.lt; have m3 : w.heap.size + 1 + 1 + 1 < w1.heap.size := HD.out.lt)
  refine (H17 _).mono ?_
  rintro e w2 ⟨rfl, hb⟩
  have HG : Hid (Blk w1.heap.size #[.bool xp, .bool xq, .bool xa, .bool xb] 26 w2) := (Blk.new w1 _ _).below hb
  replace hb : Below w1.heap.size w1 w2 := (bw0 _ _).trans (hb.mono (bw0 _ _).size)
  obtain ⟨g0, g1, g2, g3, i0, i1, i2, i3⟩ := blk4 HG.out
  have hl : w1.heap.size < w2.heap.size := HG.out.lt
  have hg2 : w.heap.size + 1 + 1 + 1 < w1.heap.size := m3
  replace HW : Hid (Below w.heap.size w w2) := HW.out.trans (hb.mono HW.out.size)
  replace HA : Hid (Blk w.heap.size _ 26 w2) := HA.out.below hb
  replace HB : Hid (Blk (w.heap.size + 1) _ 26 w2) := HB.out.below hb
  replace HC : Hid (Blk (w.heap.size + 1 + 1) _ 26 w2) := HC.out.below hb
  replace HD : Hid (Blk (w.heap.size + 1 + 1 + 1) _ 26 w2) := HD.out.below hb
  obtain ⟨b0, b1, b2, b3, _⟩ := blk4 HB.out
  obtain ⟨c0, c1, c2, c3, k0, k1, k2, k3⟩ := blk4 HC.out
  obtain ⟨d0, d1, d2, d3, l0, l1, l2, l3⟩ := blk4 HD.out
  clear hb
  have m0 : w.heap.size < w2.heap.size := HA.out.lt
  have m1 : w.heap.size + 1 < w2.heap.size := HB.out.lt
  have m2 : w.heap.size + 1 + 1 < w2.heap.size := HC.out.lt
  have m3 : w.heap.size + 1 + 1 + 1 < w2.heap.size := HD.out.lt
  go_wp2_with fail
  go_region
  have E1 : Blk (w.heap.size + 1 + 1) #[.bool xp, .bool xq, .bool xa, .bool xb] 26 (((((((((w2.setCell ⟨w.heap.size + 1 + 1, 0, none⟩ (.bool xp)).setCell ⟨w.heap.size + 1 + 1, 1, none⟩ (.bool xq)).setCell ⟨w.heap.size + 1 + 1, 2, none⟩ (.bool xa)).setCell ⟨w.heap.size + 1 + 1, 3, none⟩ (.bool xb)).setCell ⟨w.heap.size + 1 + 1 + 1, 0, none⟩ (.bool yp)).setCell ⟨w.heap.size + 1 + 1 + 1, 1, none⟩ (.bool yq)).setCell ⟨w.heap.size + 1 + 1 + 1, 2, none⟩ (.bool ya)).setCell ⟨w.heap.size + 1 + 1 + 1, 3, none⟩ (.bool yb)).alloc (.cells #[.bool yp, .bool yq, .bool ya, .bool yb] 26)).drew := Blk.drew (w := (((((((((w2.setCell ⟨w.heap.size + 1 + 1, 0, none⟩ (.bool xp)).setCell ⟨w.heap.size + 1 + 1, 1, none⟩ (.bool xq)).setCell ⟨w.heap.size + 1 + 1, 2, none⟩ (.bool xa)).setCell ⟨w.heap.size + 1 + 1, 3, none⟩ (.bool xb)).setCell ⟨w.heap.size + 1 + 1 + 1, 0, none⟩ (.bool yp)).setCell ⟨w.heap.size + 1 + 1 + 1, 1, none⟩ (.bool yq)).setCell ⟨w.heap.size + 1 + 1 + 1, 2, none⟩ (.bool ya)).setCell ⟨w.heap.size + 1 + 1 + 1, 3, none⟩ (.bool yb)).alloc (.cells #[.bool yp, .bool yq, .bool ya, .bool yb] 26))) (((((((((HC.out.set 0 _).set 1 _).set 2 _).set 3 _).other (by omega) 0 _).other (by omega) 1 _).other (by omega) 2 _).other (by omega) 3 _).below (bw0 _ _))
  have E2 : Blk (w.heap.size + 1 + 1 + 1) #[.bool yp, .bool yq, .bool ya, .bool yb] 26 (((((((((w2.setCell ⟨w.heap.size + 1 + 1, 0, none⟩ (.bool xp)).setCell ⟨w.heap.size + 1 + 1, 1, none⟩ (.bool xq)).setCell ⟨w.heap.size + 1 + 1, 2, none⟩ (.bool xa)).setCell ⟨w.heap.size + 1 + 1, 3, none⟩ (.bool xb)).setCell ⟨w.heap.size + 1 + 1 + 1, 0, none⟩ (.bool yp)).setCell ⟨w.heap.size + 1 + 1 + 1, 1, none⟩ (.bool yq)).setCell ⟨w.heap.size + 1 + 1 + 1, 2, none⟩ (.bool ya)).setCell ⟨w.heap.size + 1 + 1 + 1, 3, none⟩ (.bool yb)).alloc (.cells #[.bool yp, .bool yq, .bool ya, .bool yb] 26)).drew := Blk.drew (w := (((((((((w2.setCell ⟨w.heap.size + 1 + 1, 0, none⟩ (.bool xp)).setCell ⟨w.heap.size + 1 + 1, 1, none⟩ (.bool xq)).setCell ⟨w.heap.size + 1 + 1, 2, none⟩ (.bool xa)).setCell ⟨w.heap.size + 1 + 1, 3, none⟩ (.bool xb)).setCell ⟨w.heap.size + 1 + 1 + 1, 0, none⟩ (.bool yp)).setCell ⟨w.heap.size + 1 + 1 + 1, 1, none⟩ (.bool yq)).setCell ⟨w.heap.size + 1 + 1 + 1, 2, none⟩ (.bool ya)).setCell ⟨w.heap.size + 1 + 1 + 1, 3, none⟩ (.bool yb)).alloc (.cells #[.bool yp, .bool yq, .bool ya, .bool yb] 26))) (((((((((HD.out.other (by omega) 0 _).other (by omega) 1 _).other (by omega) 2 _).other (by omega) 3 _).set 0 _).set 1 _).set 2 _).set 3 _).below (bw0 _ _))
  clear c0 c1 c2 c3 d0 d1 d2 d3
  obtain ⟨c0, c1, c2, c3, _⟩ := blk4 E1
  obtain ⟨d0, d1, d2, d3, _⟩ := blk4 E2
  go_wp2_with fail
  refine bodyPost_ret (v := .tuple #[.agg #[.bool xp, .bool xq, .bool xa, .bool xb], .agg #[.bool yp, .bool yq, .bool ya, .bool yb]]) (by simp [results, Tryd.results22, go_sem, c0, c1, c2, c3, d0, d1, d2, d3]) rfl ⟨rfl, ?_⟩
  refine Below.drew ?_
  refine Below.alloc ?_ (by simp; omega) _
  repeat (refine Below.setCell ?_ (by simp; try omega) _)
  exact HW.out
set_option maxHeartbeats 4000000 in
theorem refBoth3 (up uq ua ub vp vq va vb xp xq xa xb yp yq ya yb zp zq za zb xi yt yi zt ze zi : Bool) (act : Int) (w : World)
    (H16 : ∀ W, Calls Tryd.prog 16 #[.agg #[.bool up, .bool uq, .bool ua, .bool ub], .int .i64 act] W fun e w' => e = .returned (.tuple #[.agg #[.bool xp, .bool xq, .bool xa, .bool xb], .bool true, .bool xi]) ∧ Below W.heap.size W w')
    (H17 : ∀ W, Calls Tryd.prog 17 #[.agg #[.bool vp, .bool vq, .bool va, .bool vb], .int .i64 act] W fun e w' => e = .returned (.tuple #[.agg #[.bool yp, .bool yq, .bool ya, .bool yb], .bool yt, .bool true, .bool yi]) ∧ Below W.heap.size W w')
    (H17' : ∀ W, Calls Tryd.prog 17 #[.agg #[.bool xp, .bool xq, .bool xa, .bool xb], .int .i64 2] W fun e w' => e = .returned (.tuple #[.agg #[.bool zp, .bool zq, .bool za, .bool zb], .bool zt, .bool ze, .bool zi]) ∧ Below W.heap.size W w') :
    Calls Tryd.prog 22 #[.agg #[.bool up, .bool uq, .bool ua, .bool ub], .agg #[.bool vp, .bool vq, .bool va, .bool vb], .int .i64 act] w fun e w' => e = .returned (.tuple #[.agg #[.bool zp, .bool zq, .bool za, .bool zb], .agg #[.bool yp, .bool yq, .bool ya, .bool yb]]) ∧ Below w.heap.size w w' := by
  have HA : Hid (Blk w.heap.size #[.bool up, .bool uq, .bool ua, .bool ub] 26 ((((w.alloc (.cells #[.bool up, .bool uq, .bool ua, .bool ub] 26)).alloc (.cells #[.bool vp, .bool vq, .bool va, .bool vb] 26)).alloc (.cells #[.bool false, .bool false, .bool false, .bool false] 26)).alloc (.cells #[.bool false, .bool false, .bool false, .bool false] 26))) := (((Blk.new1 w _ _ _).below (bw0 _ _)).below (bw0 _ _))
  have HB : Hid (Blk (w.heap.size + 1) #[.bool vp, .bool vq, .bool va, .bool vb] 26 ((((w.alloc (.cells #[.bool up, .bool uq, .bool ua, .bool ub] 26)).alloc (.cells #[.bool vp, .bool vq, .bool va, .bool vb] 26)).alloc (.cells #[.bool false, .bool false, .bool false, .bool false] 26)).alloc (.cells #[.bool false, .bool false, .bool false, .bool false] 26))) := (((Blk.new2 w _ _ _).below (bw0 _ _)).below (bw0 _ _))
  have HC : Hid (Blk (w.heap.size + 1 + 1) #[.bool false, .bool false, .bool false, .bool false] 26 ((((w.alloc (.cells #[.bool up, .bool uq, .bool ua, .bool ub] 26)).alloc (.cells #[.bool vp, .bool vq, .bool va, .bool vb] 26)).alloc (.cells #[.bool false, .bool false, .bool false, .bool false] 26)).alloc (.cells #[.bool false, .bool false, .bool false, .bool false] 26))) := (Blk.new3 w _ _ _ _).below (bw0 _ _)
  have HD : Hid (Blk (w.heap.size + 1 + 1 + 1) #[.bool false, .bool false, .bool false, .bool false] 26 ((((w.alloc (.cells #[.bool up, .bool uq, .bool ua, .bool ub] 26)).alloc (.cells #[.bool vp, .bool vq, .bool va, .bool vb] 26)).alloc (.cells #[.bool false, .bool false, .bool false, .bool false] 26)).alloc (.cells #[.bool false, .bool false, .bool false, .bool false] 26))) := Blk.new4 w _ _ _ _ _
  have HW : Hid (Below w.heap.size w ((((w.alloc (.cells #[.bool up, .bool uq, .bool ua, .bool ub] 26)).alloc (.cells #[.bool vp, .bool vq, .bool va, .bool vb] 26)).alloc (.cells #[.bool false, .bool false, .bool false, .bool false] 26)).alloc (.cells #[.bool false, .bool false, .bool false, .bool false] 26))) := (((bw0 _ _).alloc (by simp) _).alloc (by simp; omega) _).alloc (by simp; omega) _
  go_enter Tryd.func22, Tryd.ntmps22
  go_wp2_with (go_at_call 16; refine (H16 _).mono ?_; rintro e w1 ⟨rfl, hb⟩; replace HW : Hid (Below w.heap.size w w1) := HW.out.trans (hb.mono HW.out.size); replace HA : Hid (Blk w.heap.size _ 26 w1) := HA.out.below hb; replace HB : Hid (Blk (w.heap.size + 1) _ 26 w1) := HB.out.below hb; replace HC : Hid (Blk (w.heap.size + 1 + 1) _ 26 w1) := HC.out.below hb; replace HD : Hid (Blk (w.heap.size + 1 + 1 + 1) _ 26 w1) := HD.out.below hb; obtain ⟨b0, b1, b2, b3, _⟩ := blk4 HB.out; obtain ⟨c0, c1, c2, c3, k0, k1, k2, k3⟩ := blk4 HC.out; obtain ⟨d0, d1, d2, d3, l0, l1, l2, l3⟩ := blk4 HD.out; clear hb; have m0 : w.heap.size < w1.heap.size := HA.out.lt; have m1 : w.heap.size + 1 < w1.heap.size := HB.out.lt; have m2 : w.heap.size + 1 + 1 < w1.heap.size := HC.out.lt; have m3 : w.heap.size + 1 + 1 + 1 < w1.heap.size := HD.out.lt)
  refine (H17 _).mono ?_
  rintro e w2 ⟨rfl, hb⟩
  have HG : Hid (Blk w1.heap.size #[.bool xp, .bool xq, .bool xa, .bool xb] 26 w2) := (Blk.new w1 _ _).below hb
  replace hb : Below w1.heap.size w1 w2 := (bw0 _ _).trans (hb.mono (bw0 _ _).size)
  obtain ⟨g0, g1, g2, g3, i0, i1, i2, i3⟩ := blk4 HG.out
  have hl : w1.heap.size < w2.heap.size := HG.out.lt
  have hg2 : w.heap.size + 1 + 1 + 1 < w1.heap.size := m3
  replace HW : Hid (Below w.heap.size w w2) := HW.out.trans (hb.mono HW.out.size)
  replace HA : Hid (Blk w.heap.size _ 26 w2) := HA.out.below hb
  replace HB : Hid (Blk (w.heap.size + 1) _ 26 w2) := HB.out.below hb
  replace HC : Hid (Blk (w.heap.size + 1 + 1) _ 26 w2) := HC.out.below hb
  replace HD : Hid (Blk (w.heap.size + 1 + 1 + 1) _ 26 w2) := HD.out.below hb
  obtain ⟨b0, b1, b2, b3, _⟩ := blk4 HB.out
  obtain ⟨c0, c1, c2, c3, k0, k1, k2, k3⟩ := blk4 HC.out
  obtain ⟨d0, d1, d2, d3, l0, l1, l2, l3⟩ := blk4 HD.out
  clear hb
  have m0 : w.heap.size < w2.heap.size := HA.out.lt
  have m1 : w.heap.size + 1 < w2.heap.size := HB.out.lt
  have m2 : w.heap.size + 1 + 1 < w2.heap.size := HC.out.lt
  have m3 : w.heap.size + 1 + 1 + 1 < w2.heap.size := HD.out.lt
  go_wp2_with fail
  refine (H17' _).mono ?_
  rintro e w3 ⟨rfl, hb⟩
  have HI : Hid (Blk w2.heap.size #[.bool yp, .bool yq, .bool ya, .bool yb] 26 w3) := (Blk.new w2 _ _).below hb
  replace hb : Below w2.heap.size w2 w3 := (bw0 _ _).trans (hb.mono (bw0 _ _).size)
  replace HG : Hid (Blk w1.heap.size #[.bool xp, .bool xq, .bool xa, .bool xb] 26 w3) := HG.out.below hb
  clear g0 g1 g2 g3 i0 i1 i2 i3
  obtain ⟨g0, g1, g2, g3, i0, i1, i2, i3⟩ := blk4 HG.out
  obtain ⟨j0, j1, j2, j3, _⟩ := blk4 HI.out
  have hl2 : w2.heap.size < w3.heap.size := HI.out.lt
  have hl3 : w1.heap.size < w3.heap.size := HG.out.lt
  replace HW : Hid (Below w.heap.size w w3) := HW.out.trans (hb.mono HW.out.size)
  replace HA : Hid (Blk w.heap.size _ 26 w3) := HA.out.below hb
  replace HB : Hid (Blk (w.heap.size + 1) _ 26 w3) := HB.out.below hb
  replace HC : Hid (Blk (w.heap.size + 1 + 1) _ 26 w3) := HC.out.below hb
  replace HD : Hid (Blk (w.heap.size + 1 + 1 + 1) _ 26 w3) := HD.out.below hb
  obtain ⟨b0, b1, b2, b3, _⟩ := blk4 HB.out
  obtain ⟨c0, c1, c2, c3, k0, k1, k2, k3⟩ := blk4 HC.out
  obtain ⟨d0, d1, d2, d3, l0, l1, l2, l3⟩ := blk4 HD.out
  clear hb
  have m0 : w.heap.size < w3.heap.size := HA.out.lt
  have m1 : w.heap.size + 1 < w3.heap.size := HB.out.lt
  have m2 : w.heap.size + 1 + 1 < w3.heap.size := HC.out.lt
  have m3 : w.heap.size + 1 + 1 + 1 < w3.heap.size := HD.out.lt
  have hd1 : ¬ w2.heap.size = w1.heap.size := by omega
  have hd2 : ¬ w1.heap.size = w2.heap.size := by omega
  go_wp2_with fail
  go_region
  have E1 : Blk (w.heap.size + 1 + 1) #[.bool zp, .bool zq, .bool za, .bool zb] 26 (((((((((((((w3.setCell ⟨w1.heap.size, 0, none⟩ (.bool zp)).setCell ⟨w1.heap.size, 1, none⟩ (.bool zq)).setCell ⟨w1.heap.size, 2, none⟩ (.bool za)).setCell ⟨w1.heap.size, 3, none⟩ (.bool zb)).setCell ⟨w.heap.size + 1 + 1, 0, none⟩ (.bool zp)).setCell ⟨w.heap.size + 1 + 1, 1, none⟩ (.bool zq)).setCell ⟨w.heap.size + 1 + 1, 2, none⟩ (.bool za)).setCell ⟨w.heap.size + 1 + 1, 3, none⟩ (.bool zb)).setCell ⟨w.heap.size + 1 + 1 + 1, 0, none⟩ (.bool yp)).setCell ⟨w.heap.size + 1 + 1 + 1, 1, none⟩ (.bool yq)).setCell ⟨w.heap.size + 1 + 1 + 1, 2, none⟩ (.bool ya)).setCell ⟨w.heap.size + 1 + 1 + 1, 3, none⟩ (.bool yb)).alloc (.cells #[.bool zp, .bool zq, .bool za, .bool zb] 26)).drew := Blk.drew (w := (((((((((((((w3.setCell ⟨w1.heap.size, 0, none⟩ (.bool zp)).setCell ⟨w1.heap.size, 1, none⟩ (.bool zq)).setCell ⟨w1.heap.size, 2, none⟩ (.bool za)).setCell ⟨w1.heap.size, 3, none⟩ (.bool zb)).setCell ⟨w.heap.size + 1 + 1, 0, none⟩ (.bool zp)).setCell ⟨w.heap.size + 1 + 1, 1, none⟩ (.bool zq)).setCell ⟨w.heap.size + 1 + 1, 2, none⟩ (.bool za)).setCell ⟨w.heap.size + 1 + 1, 3, none⟩ (.bool zb)).setCell ⟨w.heap.size + 1 + 1 + 1, 0, none⟩ (.bool yp)).setCell ⟨w.heap.size + 1 + 1 + 1, 1, none⟩ (.bool yq)).setCell ⟨w.heap.size + 1 + 1 + 1, 2, none⟩ (.bool ya)).setCell ⟨w.heap.size + 1 + 1 + 1, 3, none⟩ (.bool yb)).alloc (.cells #[.bool zp, .bool zq, .bool za, .bool zb] 26))) (((((((((((((HC.out.other (by omega) 0 _).other (by omega) 1 _).other (by omega) 2 _).other (by omega) 3 _).set 0 _).set 1 _).set 2 _).set 3 _).other (by omega) 0 _).other (by omega) 1 _).other (by omega) 2 _).other (by omega) 3 _).below (bw0 _ _))
  have E2 : Blk (w.heap.size + 1 + 1 + 1) #[.bool yp, .bool yq, .bool ya, .bool yb] 26 (((((((((((((w3.setCell ⟨w1.heap.size, 0, none⟩ (.bool zp)).setCell ⟨w1.heap.size, 1, none⟩ (.bool zq)).setCell ⟨w1.heap.size, 2, none⟩ (.bool za)).setCell ⟨w1.heap.size, 3, none⟩ (.bool zb)).setCell ⟨w.heap.size + 1 + 1, 0, none⟩ (.bool zp)).setCell ⟨w.heap.size + 1 + 1, 1, none⟩ (.bool zq)).setCell ⟨w.heap.size + 1 + 1, 2, none⟩ (.bool za)).setCell ⟨w.heap.size + 1 + 1, 3, none⟩ (.bool zb)).setCell ⟨w.heap.size + 1 + 1 + 1, 0, none⟩ (.bool yp)).setCell ⟨w.heap.size + 1 + 1 + 1, 1, none⟩ (.bool yq)).setCell ⟨w.heap.size + 1 + 1 + 1, 2, none⟩ (.bool ya)).setCell ⟨w.heap.size + 1 + 1 + 1, 3, none⟩ (.bool yb)).alloc (.cells #[.bool zp, .bool zq, .bool za, .bool zb] 26)).drew := Blk.drew (w := (((((((((((((w3.setCell ⟨w1.heap.size, 0, none⟩ (.bool zp)).setCell ⟨w1.heap.size, 1, none⟩ (.bool zq)).setCell ⟨w1.heap.size, 2, none⟩ (.bool za)).setCell ⟨w1.heap.size, 3, none⟩ (.bool zb)).setCell ⟨w.heap.size + 1 + 1, 0, none⟩ (.bool zp)).setCell ⟨w.heap.size + 1 + 1, 1, none⟩ (.bool zq)).setCell ⟨w.heap.size + 1 + 1, 2, none⟩ (.bool za)).setCell ⟨w.heap.size + 1 + 1, 3, none⟩ (.bool zb)).setCell ⟨w.heap.size + 1 + 1 + 1, 0, none⟩ (.bool yp)).setCell ⟨w.heap.size + 1 + 1 + 1, 1, none⟩ (.bool yq)).setCell ⟨w.heap.size + 1 + 1 + 1, 2, none⟩ (.bool ya)).setCell ⟨w.heap.size + 1 + 1 + 1, 3, none⟩ (.bool yb)).alloc (.cells #[.bool zp, .bool zq, .bool za, .bool zb] 26))) (((((((((((((HD.out.other (by omega) 0 _).other (by omega) 1 _).other (by omega) 2 _).other (by omega) 3 _).other (by omega) 0 _).other (by omega) 1 _).other (by omega) 2 _).other (by omega) 3 _).set 0 _).set 1 _).set 2 _).set 3 _).below (bw0 _ _))
  clear c0 c1 c2 c3 d0 d1 d2 d3
  obtain ⟨c0, c1, c2, c3, _⟩ := blk4 E1
  obtain ⟨d0, d1, d2, d3, _⟩ := blk4 E2
  go_wp2_with fail
  refine bodyPost_ret (v := .tuple #[.agg #[.bool zp, .bool zq, .bool za, .bool zb], .agg #[.bool yp, .bool yq, .bool ya, .bool yb]]) (by simp [results, Tryd.results22, go_sem, c0, c1, c2, c3, d0, d1, d2, d3]) rfl ⟨rfl, ?_⟩
  refine Below.drew ?_
  refine Below.alloc ?_ (by simp; omega) _
  repeat (refine Below.setCell ?_ (by simp; try omega) _)
  exact HW.out
theorem doS_still (k : Nat) (s : Sd) (h : doT k s = false) : doS k s = s := by
  obtain ⟨p, q, a, b⟩ := s
  unfold doT at h
  unfold doS
  split
  · rw [if_pos (by assumption)] at h; cases h
  · rw [if_neg (by assumption)] at h
    split
    · rw [if_pos (by assumption)] at h
      simp only at h
      subst h
      simp
    · rw [if_neg (by assumption)] at h
      split
      · rw [if_pos (by assumption)] at h
        simp only [Bool.or_eq_false_iff] at h
        obtain ⟨rfl, rfl⟩ := h
        rfl
      · rw [if_neg (by assumption)] at h
        simp only [Bool.or_eq_false_iff] at h
        obtain ⟨rfl, rfl⟩ := h
        rfl
theorem refBoth_any (k : Nat) (hk : 1 ≤ k ∧ k ≤ 4) (a b : Sd) (ha : a.ok = true) (hb : b.ok = true) (w : World) :
    Calls Tryd.prog 22 #[a.ref, b.ref, .int .i64 (k : Int)] w fun e w' => e = .returned (.tuple #[(boS k a b).1.ref, (boS k a b).2.ref]) ∧ Below w.heap.size w w' := by
  have H16 := refDo_any k hk a
  have H17 := refHear_any k hk b
  rw [heR_eq k b hb] at H17
  have H17' := refHear_any 2 (by omega) (doS k a)
  rw [heR_eq 2 _ (doS_ok k a ha)] at H17'
  cases ht : doT k a
  · rw [ht, doS_still k a ht] at H16
    have e : boS k a b = (a, b) := by simp [boS, ht]
    rw [e]
    exact refBoth1 _ _ _ _ _ _ _ _ _ _ _ _ _ _ w H16
  · rw [ht] at H16
    cases he : heE k b
    · rw [he] at H17
      have e : boS k a b = (doS k a, heS k b) := by simp [boS, ht, he]
      rw [e]
      exact refBoth2 _ _ _ _ _ _ _ _ _ _ _ _ _ _ _ _ _ _ _ _ w H16 H17
    · rw [he] at H17
      have e : boS k a b = (heS 2 (doS k a), heS k b) := by simp [boS, ht, he]
      rw [e]
      exact refBoth3 _ _ _ _ _ _ _ _ _ _ _ _ _ _ _ _ _ _ _ _ _ _ _ _ _ _ _ w H16 H17 H17'
end Go.Proofs.YtojeeopmhogolaaDoor
