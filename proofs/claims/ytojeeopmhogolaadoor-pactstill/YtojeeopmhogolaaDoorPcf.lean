/-
  The contract of Both over this program: an act on both sides.
-/
import Derived.Test.YtojeeopmhogolaaDoorPce
namespace Go.Proofs.YtojeeopmhogolaaDoor
open Go Go.RowKit Go.Sort
theorem doS_ok (k : Nat) (s : Sd) (h : s.ok = true) : (doS k s).ok = true := by
  obtain ⟨p, q, a, b⟩ := s
  unfold doS
  split
  · revert h; revert p q a b; decide
  · split
    · revert h; revert p q a b; decide
    · split
      · revert h; revert p q a b; decide
      · revert h; revert p q a b; decide
theorem heS_ok (k : Nat) (s : Sd) (h : s.ok = true) : (heS k s).ok = true := mir_ok _ (doS_ok k _ (mir_ok s h))
theorem Blk.drew {g : Nat} {xs : Array Value} {T : TypeId} {w : World} (h : Blk g xs T w) : Blk g xs T w.drew := h
theorem Blk.new3 (w : World) (o o2 : Obj) (xs : Array Value) (T : TypeId) : Blk (w.heap.size + 1 + 1) xs T (((w.alloc o).alloc o2).alloc (.cells xs T (0, 0))) := by
  have := Blk.new ((w.alloc o).alloc o2) xs T
  rw [show ((w.alloc o).alloc o2).heap.size = w.heap.size + 1 + 1 by simp] at this
  exact this
theorem Blk.new4 (w : World) (o o2 o3 : Obj) (xs : Array Value) (T : TypeId) : Blk (w.heap.size + 1 + 1 + 1) xs T ((((w.alloc o).alloc o2).alloc o3).alloc (.cells xs T (0, 0))) := by
  have := Blk.new (((w.alloc o).alloc o2).alloc o3) xs T
  rw [show (((w.alloc o).alloc o2).alloc o3).heap.size = w.heap.size + 1 + 1 + 1 by simp] at this
  exact this
set_option maxHeartbeats 2000000 in
/-- The first side may not be, or there is no such act. -/
theorem both_err (sa sb : Int) (aa ab ba bb : Bool) (act : Int) (w : World)
    (H11 : ∀ W, Calls Tryd.prog 11 #[.agg #[.int .i64 sa, .bool aa, .bool ab], .int .i64 act] W fun e w' => e = .returned (.tuple #[.agg #[.int .i64 0, .bool false, .bool false, .bool false, .bool false], .int .i64 1]) ∧ Below W.heap.size W w') :
    Calls Tryd.prog 19 #[.agg #[.int .i64 sa, .bool aa, .bool ab], .agg #[.int .i64 sb, .bool ba, .bool bb], .int .i64 act] w fun e w' => e = .returned (.tuple #[.agg #[.int .i64 0, .bool false, .bool false], .agg #[.int .i64 0, .bool false, .bool false], .int .i64 1]) ∧ Below w.heap.size w w' := by
  have HA : Hid (Blk w.heap.size #[.int .i64 sa, .bool aa, .bool ab] 23 ((((w.alloc (.cells #[.int .i64 sa, .bool aa, .bool ab] 23)).alloc (.cells #[.int .i64 sb, .bool ba, .bool bb] 23)).alloc (.cells #[.int .i64 0, .bool false, .bool false] 23)).alloc (.cells #[.int .i64 0, .bool false, .bool false] 23))) := (((Blk.new1 w _ _ _).below (bw0 _ _)).below (bw0 _ _))
  have HB : Hid (Blk (w.heap.size + 1) #[.int .i64 sb, .bool ba, .bool bb] 23 ((((w.alloc (.cells #[.int .i64 sa, .bool aa, .bool ab] 23)).alloc (.cells #[.int .i64 sb, .bool ba, .bool bb] 23)).alloc (.cells #[.int .i64 0, .bool false, .bool false] 23)).alloc (.cells #[.int .i64 0, .bool false, .bool false] 23))) := (((Blk.new2 w _ _ _).below (bw0 _ _)).below (bw0 _ _))
  have HC : Hid (Blk (w.heap.size + 1 + 1) #[.int .i64 0, .bool false, .bool false] 23 ((((w.alloc (.cells #[.int .i64 sa, .bool aa, .bool ab] 23)).alloc (.cells #[.int .i64 sb, .bool ba, .bool bb] 23)).alloc (.cells #[.int .i64 0, .bool false, .bool false] 23)).alloc (.cells #[.int .i64 0, .bool false, .bool false] 23))) := (Blk.new3 w _ _ _ _).below (bw0 _ _)
  have HD : Hid (Blk (w.heap.size + 1 + 1 + 1) #[.int .i64 0, .bool false, .bool false] 23 ((((w.alloc (.cells #[.int .i64 sa, .bool aa, .bool ab] 23)).alloc (.cells #[.int .i64 sb, .bool ba, .bool bb] 23)).alloc (.cells #[.int .i64 0, .bool false, .bool false] 23)).alloc (.cells #[.int .i64 0, .bool false, .bool false] 23))) := Blk.new4 w _ _ _ _ _
  have HW : Hid (Below w.heap.size w ((((w.alloc (.cells #[.int .i64 sa, .bool aa, .bool ab] 23)).alloc (.cells #[.int .i64 sb, .bool ba, .bool bb] 23)).alloc (.cells #[.int .i64 0, .bool false, .bool false] 23)).alloc (.cells #[.int .i64 0, .bool false, .bool false] 23))) := (((bw0 _ _).alloc (by simp) _).alloc (by simp; omega) _).alloc (by simp; omega) _
  go_enter Tryd.func19, Tryd.ntmps19
  go_wp2_with (go_at_call 11; refine (H11 _).mono ?_; rintro e w1 ⟨rfl, hb⟩; replace HW : Hid (Below w.heap.size w w1) := HW.out.trans (hb.mono HW.out.size); replace HA : Hid (Blk w.heap.size _ 23 w1) := HA.out.below hb; replace HB : Hid (Blk (w.heap.size + 1) _ 23 w1) := HB.out.below hb; replace HC : Hid (Blk (w.heap.size + 1 + 1) _ 23 w1) := HC.out.below hb; replace HD : Hid (Blk (w.heap.size + 1 + 1 + 1) _ 23 w1) := HD.out.below hb; obtain ⟨a0, a1_, a2_, _⟩ := blk3 HA.out; obtain ⟨b0, b1_, b2_, _⟩ := blk3 HB.out; obtain ⟨c0, c1, c2, k0, k1, k2⟩ := blk3 HC.out; obtain ⟨d0, d1, d2, l0, l1, l2⟩ := blk3 HD.out; clear hb; have hl : w.heap.size + 1 + 1 + 1 < w1.heap.size := HD.out.lt; have m0 : w.heap.size < w1.heap.size := HA.out.lt; have m1 : w.heap.size + 1 < w1.heap.size := HB.out.lt; have m2 : w.heap.size + 1 + 1 < w1.heap.size := HC.out.lt)
  have E1 : Blk (w.heap.size + 1 + 1) #[.int .i64 0, .bool false, .bool false] 23 (((((((w1.setCell ⟨w.heap.size + 1 + 1, 0, none⟩ (.int .i64 0)).setCell ⟨w.heap.size + 1 + 1, 1, none⟩ (.bool false)).setCell ⟨w.heap.size + 1 + 1, 2, none⟩ (.bool false)).setCell ⟨w.heap.size + 1 + 1 + 1, 0, none⟩ (.int .i64 0)).setCell ⟨w.heap.size + 1 + 1 + 1, 1, none⟩ (.bool false)).setCell ⟨w.heap.size + 1 + 1 + 1, 2, none⟩ (.bool false)).alloc (.cells #[.int .i64 0, .bool false, .bool false, .bool false, .bool false] 30)) := ((((((HC.out.set 0 _).set 1 _).set 2 _).other (by omega) 0 _).other (by omega) 1 _).other (by omega) 2 _).below (bw0 _ _)
  have E2 : Blk (w.heap.size + 1 + 1 + 1) #[.int .i64 0, .bool false, .bool false] 23 (((((((w1.setCell ⟨w.heap.size + 1 + 1, 0, none⟩ (.int .i64 0)).setCell ⟨w.heap.size + 1 + 1, 1, none⟩ (.bool false)).setCell ⟨w.heap.size + 1 + 1, 2, none⟩ (.bool false)).setCell ⟨w.heap.size + 1 + 1 + 1, 0, none⟩ (.int .i64 0)).setCell ⟨w.heap.size + 1 + 1 + 1, 1, none⟩ (.bool false)).setCell ⟨w.heap.size + 1 + 1 + 1, 2, none⟩ (.bool false)).alloc (.cells #[.int .i64 0, .bool false, .bool false, .bool false, .bool false] 30)) := ((((((HD.out.other (by omega) 0 _).other (by omega) 1 _).other (by omega) 2 _).set 0 _).set 1 _).set 2 _).below (bw0 _ _)
  obtain ⟨c0, c1, c2, _⟩ := blk3 E1
  obtain ⟨d0, d1, d2, _⟩ := blk3 E2
  refine bodyPost_ret (v := .tuple #[.agg #[.int .i64 0, .bool false, .bool false], .agg #[.int .i64 0, .bool false, .bool false], .int .i64 1]) (by simp [results, Tryd.results19, go_sem, c0, c1, c2, d0, d1, d2]) rfl ⟨rfl, ?_⟩
  refine Below.alloc ?_ (by simp; omega) _
  repeat (refine Below.setCell ?_ (by simp; try omega) _)
  exact HW.out
set_option maxHeartbeats 4000000 in
/-- What isn't told. -/
theorem both_not (sa sb s1 : Int) (aa ab ba bb a1 b1   : Bool) (act : Int) (w : World)
    (H11 : ∀ W, Calls Tryd.prog 11 #[.agg #[.int .i64 sa, .bool aa, .bool ab], .int .i64 act] W fun e w' => e = .returned (.tuple #[.agg #[.int .i64 s1, .bool a1, .bool b1, .bool false, .bool false], .int .i64 0]) ∧ Below W.heap.size W w')
    (H13 : ∀ W, Calls Tryd.prog 13 #[.agg #[.int .i64 sb, .bool ba, .bool bb]] W fun e w' => e = .returned (.bool true) ∧ Below W.heap.size W w') :
    Calls Tryd.prog 19 #[.agg #[.int .i64 sa, .bool aa, .bool ab], .agg #[.int .i64 sb, .bool ba, .bool bb], .int .i64 act] w fun e w' => e = .returned (.tuple #[.agg #[.int .i64 sa, .bool aa, .bool ab], .agg #[.int .i64 sb, .bool ba, .bool bb], .int .i64 0]) ∧ Below w.heap.size w w' := by
  have HA : Hid (Blk w.heap.size #[.int .i64 sa, .bool aa, .bool ab] 23 ((((w.alloc (.cells #[.int .i64 sa, .bool aa, .bool ab] 23)).alloc (.cells #[.int .i64 sb, .bool ba, .bool bb] 23)).alloc (.cells #[.int .i64 0, .bool false, .bool false] 23)).alloc (.cells #[.int .i64 0, .bool false, .bool false] 23))) := (((Blk.new1 w _ _ _).below (bw0 _ _)).below (bw0 _ _))
  have HB : Hid (Blk (w.heap.size + 1) #[.int .i64 sb, .bool ba, .bool bb] 23 ((((w.alloc (.cells #[.int .i64 sa, .bool aa, .bool ab] 23)).alloc (.cells #[.int .i64 sb, .bool ba, .bool bb] 23)).alloc (.cells #[.int .i64 0, .bool false, .bool false] 23)).alloc (.cells #[.int .i64 0, .bool false, .bool false] 23))) := (((Blk.new2 w _ _ _).below (bw0 _ _)).below (bw0 _ _))
  have HC : Hid (Blk (w.heap.size + 1 + 1) #[.int .i64 0, .bool false, .bool false] 23 ((((w.alloc (.cells #[.int .i64 sa, .bool aa, .bool ab] 23)).alloc (.cells #[.int .i64 sb, .bool ba, .bool bb] 23)).alloc (.cells #[.int .i64 0, .bool false, .bool false] 23)).alloc (.cells #[.int .i64 0, .bool false, .bool false] 23))) := (Blk.new3 w _ _ _ _).below (bw0 _ _)
  have HD : Hid (Blk (w.heap.size + 1 + 1 + 1) #[.int .i64 0, .bool false, .bool false] 23 ((((w.alloc (.cells #[.int .i64 sa, .bool aa, .bool ab] 23)).alloc (.cells #[.int .i64 sb, .bool ba, .bool bb] 23)).alloc (.cells #[.int .i64 0, .bool false, .bool false] 23)).alloc (.cells #[.int .i64 0, .bool false, .bool false] 23))) := Blk.new4 w _ _ _ _ _
  have HW : Hid (Below w.heap.size w ((((w.alloc (.cells #[.int .i64 sa, .bool aa, .bool ab] 23)).alloc (.cells #[.int .i64 sb, .bool ba, .bool bb] 23)).alloc (.cells #[.int .i64 0, .bool false, .bool false] 23)).alloc (.cells #[.int .i64 0, .bool false, .bool false] 23))) := (((bw0 _ _).alloc (by simp) _).alloc (by simp; omega) _).alloc (by simp; omega) _
  go_enter Tryd.func19, Tryd.ntmps19
  go_wp2_with (first
    | (go_at_call 11; refine (H11 _).mono ?_; rintro e w1 ⟨rfl, hb⟩; replace HW : Hid (Below w.heap.size w w1) := HW.out.trans (hb.mono HW.out.size); replace HA : Hid (Blk w.heap.size _ 23 w1) := HA.out.below hb; replace HB : Hid (Blk (w.heap.size + 1) _ 23 w1) := HB.out.below hb; replace HC : Hid (Blk (w.heap.size + 1 + 1) _ 23 w1) := HC.out.below hb; replace HD : Hid (Blk (w.heap.size + 1 + 1 + 1) _ 23 w1) := HD.out.below hb; obtain ⟨a0, a1_, a2_, _⟩ := blk3 HA.out; obtain ⟨b0, b1_, b2_, _⟩ := blk3 HB.out; obtain ⟨c0, c1, c2, k0, k1, k2⟩ := blk3 HC.out; obtain ⟨d0, d1, d2, l0, l1, l2⟩ := blk3 HD.out; clear hb; have hl : w.heap.size + 1 + 1 + 1 < w1.heap.size := HD.out.lt; have m0 : w.heap.size < w1.heap.size := HA.out.lt; have m1 : w.heap.size + 1 < w1.heap.size := HB.out.lt; have m2 : w.heap.size + 1 + 1 < w1.heap.size := HC.out.lt)
    | (go_at_call 13; refine (H13 _).mono ?_; rintro e w2 ⟨rfl, hb⟩; have HG : Hid (Blk w1.heap.size _ 30 w2) := (Blk.new w1 _ _).below hb; have hlg : w1.heap.size < w2.heap.size := HG.out.lt; replace hb : Below w1.heap.size w1 w2 := (bw0 _ _).trans (hb.mono (bw0 _ _).size); replace HW : Hid (Below w.heap.size w w2) := HW.out.trans (hb.mono HW.out.size); replace HA : Hid (Blk w.heap.size _ 23 w2) := HA.out.below hb; replace HB : Hid (Blk (w.heap.size + 1) _ 23 w2) := HB.out.below hb; replace HC : Hid (Blk (w.heap.size + 1 + 1) _ 23 w2) := HC.out.below hb; replace HD : Hid (Blk (w.heap.size + 1 + 1 + 1) _ 23 w2) := HD.out.below hb; obtain ⟨a0, a1_, a2_, _⟩ := blk3 HA.out; obtain ⟨b0, b1_, b2_, _⟩ := blk3 HB.out; obtain ⟨c0, c1, c2, k0, k1, k2⟩ := blk3 HC.out; obtain ⟨d0, d1, d2, l0, l1, l2⟩ := blk3 HD.out; clear hb; obtain ⟨g0, g1, g2, g3, g4, _⟩ := blk5 HG.out; have hl : w.heap.size + 1 + 1 + 1 < w2.heap.size := HD.out.lt; have m0 : w.heap.size < w2.heap.size := HA.out.lt; have m1 : w.heap.size + 1 < w2.heap.size := HB.out.lt; have m2 : w.heap.size + 1 + 1 < w2.heap.size := HC.out.lt))
  go_region
  have E1 : Blk (w.heap.size + 1 + 1) #[.int .i64 sa, .bool aa, .bool ab] 23 ((((((w2.setCell ⟨w.heap.size + 1 + 1, 0, none⟩ (.int .i64 sa)).setCell ⟨w.heap.size + 1 + 1, 1, none⟩ (.bool aa)).setCell ⟨w.heap.size + 1 + 1, 2, none⟩ (.bool ab)).setCell ⟨w.heap.size + 1 + 1 + 1, 0, none⟩ (.int .i64 sb)).setCell ⟨w.heap.size + 1 + 1 + 1, 1, none⟩ (.bool ba)).setCell ⟨w.heap.size + 1 + 1 + 1, 2, none⟩ (.bool bb)).drew := Blk.drew (w := ((((((w2.setCell ⟨w.heap.size + 1 + 1, 0, none⟩ (.int .i64 sa)).setCell ⟨w.heap.size + 1 + 1, 1, none⟩ (.bool aa)).setCell ⟨w.heap.size + 1 + 1, 2, none⟩ (.bool ab)).setCell ⟨w.heap.size + 1 + 1 + 1, 0, none⟩ (.int .i64 sb)).setCell ⟨w.heap.size + 1 + 1 + 1, 1, none⟩ (.bool ba)).setCell ⟨w.heap.size + 1 + 1 + 1, 2, none⟩ (.bool bb))) ((((((HC.out.set 0 _).set 1 _).set 2 _).other (by omega) 0 _).other (by omega) 1 _).other (by omega) 2 _)
  have E2 : Blk (w.heap.size + 1 + 1 + 1) #[.int .i64 sb, .bool ba, .bool bb] 23 ((((((w2.setCell ⟨w.heap.size + 1 + 1, 0, none⟩ (.int .i64 sa)).setCell ⟨w.heap.size + 1 + 1, 1, none⟩ (.bool aa)).setCell ⟨w.heap.size + 1 + 1, 2, none⟩ (.bool ab)).setCell ⟨w.heap.size + 1 + 1 + 1, 0, none⟩ (.int .i64 sb)).setCell ⟨w.heap.size + 1 + 1 + 1, 1, none⟩ (.bool ba)).setCell ⟨w.heap.size + 1 + 1 + 1, 2, none⟩ (.bool bb)).drew := Blk.drew (w := ((((((w2.setCell ⟨w.heap.size + 1 + 1, 0, none⟩ (.int .i64 sa)).setCell ⟨w.heap.size + 1 + 1, 1, none⟩ (.bool aa)).setCell ⟨w.heap.size + 1 + 1, 2, none⟩ (.bool ab)).setCell ⟨w.heap.size + 1 + 1 + 1, 0, none⟩ (.int .i64 sb)).setCell ⟨w.heap.size + 1 + 1 + 1, 1, none⟩ (.bool ba)).setCell ⟨w.heap.size + 1 + 1 + 1, 2, none⟩ (.bool bb))) ((((((HD.out.other (by omega) 0 _).other (by omega) 1 _).other (by omega) 2 _).set 0 _).set 1 _).set 2 _)
  clear c0 c1 c2 d0 d1 d2
  obtain ⟨c0, c1, c2, _⟩ := blk3 E1
  obtain ⟨d0, d1, d2, _⟩ := blk3 E2
  go_wp2_with fail
  refine bodyPost_ret (v := .tuple #[.agg #[.int .i64 sa, .bool aa, .bool ab], .agg #[.int .i64 sb, .bool ba, .bool bb], .int .i64 0]) (by simp [results, Tryd.results19, go_sem, c0, c1, c2, d0, d1, d2]) rfl ⟨rfl, ?_⟩
  refine Below.drew ?_
  repeat (refine Below.setCell ?_ (by simp; try omega) _)
  exact HW.out
end Go.Proofs.YtojeeopmhogolaaDoor
