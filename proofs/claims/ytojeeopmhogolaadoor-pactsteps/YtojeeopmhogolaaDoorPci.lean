/-
  The contract of Fit over this program.
-/
import Derived.Test.YtojeeopmhogolaaDoorPcc
namespace Go.Proofs.YtojeeopmhogolaaDoor
open Go Go.RowKit Go.Sort
set_option maxHeartbeats 2000000 in
theorem fitA0 (s1 s2 : Int) (q1 p2 a1 b2 b1 a2 : Bool) (w : World) (Hc1 : ∀ W, Calls Tryd.prog 14 #[.agg #[.int .i64 s1, .bool a1, .bool b1]] W fun e w' => e = .returned (.bool true) ∧ Below W.heap.size W w') (Hc2 : ∀ W, Calls Tryd.prog 15 #[.agg #[.int .i64 s2, .bool a2, .bool b2]] W fun e w' => e = .returned (.bool false) ∧ Below W.heap.size W w') (Hc3 : ∀ W, Calls Tryd.prog 15 #[.agg #[.int .i64 s1, .bool a1, .bool b1]] W fun e w' => e = .returned (.bool q1) ∧ Below W.heap.size W w') (Hc4 : ∀ W, Calls Tryd.prog 14 #[.agg #[.int .i64 s2, .bool a2, .bool b2]] W fun e w' => e = .returned (.bool p2) ∧ Below W.heap.size W w') :
    Calls Tryd.prog 20 #[.agg #[.int .i64 s1, .bool a1, .bool b1], .agg #[.int .i64 s2, .bool a2, .bool b2]] w fun e w' => e = .returned (.bool false) ∧ Below w.heap.size w w' := by
  obtain ⟨W, hW⟩ : ∃ W, (w.alloc (.cells #[.int .i64 s1, .bool a1, .bool b1] 23)).alloc (.cells #[.int .i64 s2, .bool a2, .bool b2] 23) = W := ⟨_, rfl⟩
  have HA : Blk w.heap.size #[.int .i64 s1, .bool a1, .bool b1] 23 W := by rw [← hW]; exact Blk.new1 _ _ _ _
  have HB : Blk (w.heap.size + 1) #[.int .i64 s2, .bool a2, .bool b2] 23 W := by rw [← hW]; exact Blk.new2 _ _ _ _
  have HW : Hid (Below w.heap.size w W) := by show Below _ _ _; rw [← hW]; exact (bw0 _ _).alloc (by simp) _
  have HWW : Hid (_ = W) := hW
  clear hW
  go_enter Tryd.func20, Tryd.ntmps20
  go_wp2_with fail
  rw [HWW.out]
  obtain ⟨a0, a1', a2', _⟩ := blk3 HA
  obtain ⟨b0, b1', b2', _⟩ := blk3 HB
  have k0 := cell_regrown a0
  have k1 := cell_regrown a1'
  have k2 := cell_regrown a2'
  have l0 := cell_regrown b0
  have l1 := cell_regrown b1'
  have l2 := cell_regrown b2'
  have c1 : ∀ d os, Calls Tryd.prog 14 #[.agg #[.int .i64 s1, .bool a1, .bool b1]] (grow (redrawn W d) os) fun e w'' => e = .returned (.bool true) ∧ ∃ p : Regrown, w'' = grow (redrawn W p.d) p.os := fun d os => Calls.regrown_of (Hc1 _)
  have c2 : ∀ d os, Calls Tryd.prog 15 #[.agg #[.int .i64 s2, .bool a2, .bool b2]] (grow (redrawn W d) os) fun e w'' => e = .returned (.bool false) ∧ ∃ p : Regrown, w'' = grow (redrawn W p.d) p.os := fun d os => Calls.regrown_of (Hc2 _)
  have c3 : ∀ d os, Calls Tryd.prog 15 #[.agg #[.int .i64 s1, .bool a1, .bool b1]] (grow (redrawn W d) os) fun e w'' => e = .returned (.bool q1) ∧ ∃ p : Regrown, w'' = grow (redrawn W p.d) p.os := fun d os => Calls.regrown_of (Hc3 _)
  have c4 : ∀ d os, Calls Tryd.prog 14 #[.agg #[.int .i64 s2, .bool a2, .bool b2]] (grow (redrawn W d) os) fun e w'' => e = .returned (.bool p2) ∧ ∃ p : Regrown, w'' = grow (redrawn W p.d) p.os := fun d os => Calls.regrown_of (Hc4 _)
  clear HWW HA HB a0 a1' a2' b0 b1' b2' Hc1 Hc2 Hc3 Hc4
  refine wp_region_quiet_below (by kernel_rfl) (by kernel_rfl) ?_
  repeat (quiet_step (first | (go_at_call_of 14 (s1); exact c1 _ _) | (go_at_call_of 15 (s1); exact c3 _ _) | (go_at_call 14; exact c4 _ _) | (go_at_call 15; exact c2 _ _)))
  refine wpQuiet_nil ?_
  intro _ hw'
  obtain ⟨⟨dq, osq⟩, hw''⟩ := hw'
  subst hw''
  have HZ : Hid _ := HW.out.trans ((below_regrown W dq osq).mono HW.out.size)
  clear c1 c2 c3 c4 k0 k1 k2 l0 l1 l2
  go_wp2_with fail
  go_ret
  exact ⟨rfl, HZ.out⟩
set_option maxHeartbeats 2000000 in
theorem fitB0 (s1 s2 : Int) (p1 a1 b2 b1 a2 : Bool) (w : World) (Hc1 : ∀ W, Calls Tryd.prog 14 #[.agg #[.int .i64 s1, .bool a1, .bool b1]] W fun e w' => e = .returned (.bool p1) ∧ Below W.heap.size W w') (Hc2 : ∀ W, Calls Tryd.prog 15 #[.agg #[.int .i64 s2, .bool a2, .bool b2]] W fun e w' => e = .returned (.bool p1) ∧ Below W.heap.size W w') (Hc3 : ∀ W, Calls Tryd.prog 15 #[.agg #[.int .i64 s1, .bool a1, .bool b1]] W fun e w' => e = .returned (.bool true) ∧ Below W.heap.size W w') (Hc4 : ∀ W, Calls Tryd.prog 14 #[.agg #[.int .i64 s2, .bool a2, .bool b2]] W fun e w' => e = .returned (.bool false) ∧ Below W.heap.size W w') :
    Calls Tryd.prog 20 #[.agg #[.int .i64 s1, .bool a1, .bool b1], .agg #[.int .i64 s2, .bool a2, .bool b2]] w fun e w' => e = .returned (.bool false) ∧ Below w.heap.size w w' := by
  obtain ⟨W, hW⟩ : ∃ W, (w.alloc (.cells #[.int .i64 s1, .bool a1, .bool b1] 23)).alloc (.cells #[.int .i64 s2, .bool a2, .bool b2] 23) = W := ⟨_, rfl⟩
  have HA : Blk w.heap.size #[.int .i64 s1, .bool a1, .bool b1] 23 W := by rw [← hW]; exact Blk.new1 _ _ _ _
  have HB : Blk (w.heap.size + 1) #[.int .i64 s2, .bool a2, .bool b2] 23 W := by rw [← hW]; exact Blk.new2 _ _ _ _
  have HW : Hid (Below w.heap.size w W) := by show Below _ _ _; rw [← hW]; exact (bw0 _ _).alloc (by simp) _
  have HWW : Hid (_ = W) := hW
  clear hW
  go_enter Tryd.func20, Tryd.ntmps20
  go_wp2_with fail
  rw [HWW.out]
  obtain ⟨a0, a1', a2', _⟩ := blk3 HA
  obtain ⟨b0, b1', b2', _⟩ := blk3 HB
  have k0 := cell_regrown a0
  have k1 := cell_regrown a1'
  have k2 := cell_regrown a2'
  have l0 := cell_regrown b0
  have l1 := cell_regrown b1'
  have l2 := cell_regrown b2'
  have c1 : ∀ d os, Calls Tryd.prog 14 #[.agg #[.int .i64 s1, .bool a1, .bool b1]] (grow (redrawn W d) os) fun e w'' => e = .returned (.bool p1) ∧ ∃ p : Regrown, w'' = grow (redrawn W p.d) p.os := fun d os => Calls.regrown_of (Hc1 _)
  have c2 : ∀ d os, Calls Tryd.prog 15 #[.agg #[.int .i64 s2, .bool a2, .bool b2]] (grow (redrawn W d) os) fun e w'' => e = .returned (.bool p1) ∧ ∃ p : Regrown, w'' = grow (redrawn W p.d) p.os := fun d os => Calls.regrown_of (Hc2 _)
  have c3 : ∀ d os, Calls Tryd.prog 15 #[.agg #[.int .i64 s1, .bool a1, .bool b1]] (grow (redrawn W d) os) fun e w'' => e = .returned (.bool true) ∧ ∃ p : Regrown, w'' = grow (redrawn W p.d) p.os := fun d os => Calls.regrown_of (Hc3 _)
  have c4 : ∀ d os, Calls Tryd.prog 14 #[.agg #[.int .i64 s2, .bool a2, .bool b2]] (grow (redrawn W d) os) fun e w'' => e = .returned (.bool false) ∧ ∃ p : Regrown, w'' = grow (redrawn W p.d) p.os := fun d os => Calls.regrown_of (Hc4 _)
  clear HWW HA HB a0 a1' a2' b0 b1' b2' Hc1 Hc2 Hc3 Hc4
  refine wp_region_quiet_below (by kernel_rfl) (by kernel_rfl) ?_
  repeat (quiet_step (first | (go_at_call_of 14 (s1); exact c1 _ _) | (go_at_call_of 15 (s1); exact c3 _ _) | (go_at_call 14; exact c4 _ _) | (go_at_call 15; exact c2 _ _)))
  refine wpQuiet_nil ?_
  intro _ hw'
  obtain ⟨⟨dq, osq⟩, hw''⟩ := hw'
  subst hw''
  have HZ : Hid _ := HW.out.trans ((below_regrown W dq osq).mono HW.out.size)
  clear c1 c2 c3 c4 k0 k1 k2 l0 l1 l2
  go_wp2_with fail
  go_ret
  exact ⟨rfl, HZ.out⟩
set_option maxHeartbeats 2000000 in
theorem fitC0 (s1 s2 : Int) (p1 q1 b1 a2 : Bool) (w : World) (Hc1 : ∀ W, Calls Tryd.prog 14 #[.agg #[.int .i64 s1, .bool true, .bool b1]] W fun e w' => e = .returned (.bool p1) ∧ Below W.heap.size W w') (Hc2 : ∀ W, Calls Tryd.prog 15 #[.agg #[.int .i64 s2, .bool a2, .bool false]] W fun e w' => e = .returned (.bool p1) ∧ Below W.heap.size W w') (Hc3 : ∀ W, Calls Tryd.prog 15 #[.agg #[.int .i64 s1, .bool true, .bool b1]] W fun e w' => e = .returned (.bool q1) ∧ Below W.heap.size W w') (Hc4 : ∀ W, Calls Tryd.prog 14 #[.agg #[.int .i64 s2, .bool a2, .bool false]] W fun e w' => e = .returned (.bool q1) ∧ Below W.heap.size W w') :
    Calls Tryd.prog 20 #[.agg #[.int .i64 s1, .bool true, .bool b1], .agg #[.int .i64 s2, .bool a2, .bool false]] w fun e w' => e = .returned (.bool false) ∧ Below w.heap.size w w' := by
  obtain ⟨W, hW⟩ : ∃ W, (w.alloc (.cells #[.int .i64 s1, .bool true, .bool b1] 23)).alloc (.cells #[.int .i64 s2, .bool a2, .bool false] 23) = W := ⟨_, rfl⟩
  have HA : Blk w.heap.size #[.int .i64 s1, .bool true, .bool b1] 23 W := by rw [← hW]; exact Blk.new1 _ _ _ _
  have HB : Blk (w.heap.size + 1) #[.int .i64 s2, .bool a2, .bool false] 23 W := by rw [← hW]; exact Blk.new2 _ _ _ _
  have HW : Hid (Below w.heap.size w W) := by show Below _ _ _; rw [← hW]; exact (bw0 _ _).alloc (by simp) _
  have HWW : Hid (_ = W) := hW
  clear hW
  go_enter Tryd.func20, Tryd.ntmps20
  go_wp2_with fail
  rw [HWW.out]
  obtain ⟨a0, a1', a2', _⟩ := blk3 HA
  obtain ⟨b0, b1', b2', _⟩ := blk3 HB
  have k0 := cell_regrown a0
  have k1 := cell_regrown a1'
  have k2 := cell_regrown a2'
  have l0 := cell_regrown b0
  have l1 := cell_regrown b1'
  have l2 := cell_regrown b2'
  have c1 : ∀ d os, Calls Tryd.prog 14 #[.agg #[.int .i64 s1, .bool true, .bool b1]] (grow (redrawn W d) os) fun e w'' => e = .returned (.bool p1) ∧ ∃ p : Regrown, w'' = grow (redrawn W p.d) p.os := fun d os => Calls.regrown_of (Hc1 _)
  have c2 : ∀ d os, Calls Tryd.prog 15 #[.agg #[.int .i64 s2, .bool a2, .bool false]] (grow (redrawn W d) os) fun e w'' => e = .returned (.bool p1) ∧ ∃ p : Regrown, w'' = grow (redrawn W p.d) p.os := fun d os => Calls.regrown_of (Hc2 _)
  have c3 : ∀ d os, Calls Tryd.prog 15 #[.agg #[.int .i64 s1, .bool true, .bool b1]] (grow (redrawn W d) os) fun e w'' => e = .returned (.bool q1) ∧ ∃ p : Regrown, w'' = grow (redrawn W p.d) p.os := fun d os => Calls.regrown_of (Hc3 _)
  have c4 : ∀ d os, Calls Tryd.prog 14 #[.agg #[.int .i64 s2, .bool a2, .bool false]] (grow (redrawn W d) os) fun e w'' => e = .returned (.bool q1) ∧ ∃ p : Regrown, w'' = grow (redrawn W p.d) p.os := fun d os => Calls.regrown_of (Hc4 _)
  clear HWW HA HB a0 a1' a2' b0 b1' b2' Hc1 Hc2 Hc3 Hc4
  refine wp_region_quiet_below (by kernel_rfl) (by kernel_rfl) ?_
  repeat (quiet_step (first | (go_at_call_of 14 (s1); exact c1 _ _) | (go_at_call_of 15 (s1); exact c3 _ _) | (go_at_call 14; exact c4 _ _) | (go_at_call 15; exact c2 _ _)))
  refine wpQuiet_nil ?_
  intro _ hw'
  obtain ⟨⟨dq, osq⟩, hw''⟩ := hw'
  subst hw''
  have HZ : Hid _ := HW.out.trans ((below_regrown W dq osq).mono HW.out.size)
  clear c1 c2 c3 c4 k0 k1 k2 l0 l1 l2
  go_wp2_with fail
  go_ret
  exact ⟨rfl, HZ.out⟩
set_option maxHeartbeats 2000000 in
theorem fitD0 (s1 s2 : Int) (p1 q1 a1 : Bool) (w : World) (Hc1 : ∀ W, Calls Tryd.prog 14 #[.agg #[.int .i64 s1, .bool a1, .bool true]] W fun e w' => e = .returned (.bool p1) ∧ Below W.heap.size W w') (Hc2 : ∀ W, Calls Tryd.prog 15 #[.agg #[.int .i64 s2, .bool false, .bool a1]] W fun e w' => e = .returned (.bool p1) ∧ Below W.heap.size W w') (Hc3 : ∀ W, Calls Tryd.prog 15 #[.agg #[.int .i64 s1, .bool a1, .bool true]] W fun e w' => e = .returned (.bool q1) ∧ Below W.heap.size W w') (Hc4 : ∀ W, Calls Tryd.prog 14 #[.agg #[.int .i64 s2, .bool false, .bool a1]] W fun e w' => e = .returned (.bool q1) ∧ Below W.heap.size W w') :
    Calls Tryd.prog 20 #[.agg #[.int .i64 s1, .bool a1, .bool true], .agg #[.int .i64 s2, .bool false, .bool a1]] w fun e w' => e = .returned (.bool false) ∧ Below w.heap.size w w' := by
  obtain ⟨W, hW⟩ : ∃ W, (w.alloc (.cells #[.int .i64 s1, .bool a1, .bool true] 23)).alloc (.cells #[.int .i64 s2, .bool false, .bool a1] 23) = W := ⟨_, rfl⟩
  have HA : Blk w.heap.size #[.int .i64 s1, .bool a1, .bool true] 23 W := by rw [← hW]; exact Blk.new1 _ _ _ _
  have HB : Blk (w.heap.size + 1) #[.int .i64 s2, .bool false, .bool a1] 23 W := by rw [← hW]; exact Blk.new2 _ _ _ _
  have HW : Hid (Below w.heap.size w W) := by show Below _ _ _; rw [← hW]; exact (bw0 _ _).alloc (by simp) _
  have HWW : Hid (_ = W) := hW
  clear hW
  go_enter Tryd.func20, Tryd.ntmps20
  go_wp2_with fail
  rw [HWW.out]
  obtain ⟨a0, a1', a2', _⟩ := blk3 HA
  obtain ⟨b0, b1', b2', _⟩ := blk3 HB
  have k0 := cell_regrown a0
  have k1 := cell_regrown a1'
  have k2 := cell_regrown a2'
  have l0 := cell_regrown b0
  have l1 := cell_regrown b1'
  have l2 := cell_regrown b2'
  have c1 : ∀ d os, Calls Tryd.prog 14 #[.agg #[.int .i64 s1, .bool a1, .bool true]] (grow (redrawn W d) os) fun e w'' => e = .returned (.bool p1) ∧ ∃ p : Regrown, w'' = grow (redrawn W p.d) p.os := fun d os => Calls.regrown_of (Hc1 _)
  have c2 : ∀ d os, Calls Tryd.prog 15 #[.agg #[.int .i64 s2, .bool false, .bool a1]] (grow (redrawn W d) os) fun e w'' => e = .returned (.bool p1) ∧ ∃ p : Regrown, w'' = grow (redrawn W p.d) p.os := fun d os => Calls.regrown_of (Hc2 _)
  have c3 : ∀ d os, Calls Tryd.prog 15 #[.agg #[.int .i64 s1, .bool a1, .bool true]] (grow (redrawn W d) os) fun e w'' => e = .returned (.bool q1) ∧ ∃ p : Regrown, w'' = grow (redrawn W p.d) p.os := fun d os => Calls.regrown_of (Hc3 _)
  have c4 : ∀ d os, Calls Tryd.prog 14 #[.agg #[.int .i64 s2, .bool false, .bool a1]] (grow (redrawn W d) os) fun e w'' => e = .returned (.bool q1) ∧ ∃ p : Regrown, w'' = grow (redrawn W p.d) p.os := fun d os => Calls.regrown_of (Hc4 _)
  clear HWW HA HB a0 a1' a2' b0 b1' b2' Hc1 Hc2 Hc3 Hc4
  refine wp_region_quiet_below (by kernel_rfl) (by kernel_rfl) ?_
  repeat (quiet_step (first | (go_at_call_of 14 (s1); exact c1 _ _) | (go_at_call_of 15 (s1); exact c3 _ _) | (go_at_call 14; exact c4 _ _) | (go_at_call 15; exact c2 _ _)))
  refine wpQuiet_nil ?_
  intro _ hw'
  obtain ⟨⟨dq, osq⟩, hw''⟩ := hw'
  subst hw''
  have HZ : Hid _ := HW.out.trans ((below_regrown W dq osq).mono HW.out.size)
  clear c1 c2 c3 c4 k0 k1 k2 l0 l1 l2
  go_wp2_with fail
  go_ret
  exact ⟨rfl, HZ.out⟩
set_option maxHeartbeats 2000000 in
theorem fitA1 (s1 s2 : Int) (q1 p2 a1 b2 b1 a2 : Bool) (w : World) (Hc1 : ∀ W, Calls Tryd.prog 14 #[.agg #[.int .i64 s1, .bool a1, .bool b1]] W fun e w' => e = .returned (.bool false) ∧ Below W.heap.size W w') (Hc2 : ∀ W, Calls Tryd.prog 15 #[.agg #[.int .i64 s2, .bool a2, .bool b2]] W fun e w' => e = .returned (.bool true) ∧ Below W.heap.size W w') (Hc3 : ∀ W, Calls Tryd.prog 15 #[.agg #[.int .i64 s1, .bool a1, .bool b1]] W fun e w' => e = .returned (.bool q1) ∧ Below W.heap.size W w') (Hc4 : ∀ W, Calls Tryd.prog 14 #[.agg #[.int .i64 s2, .bool a2, .bool b2]] W fun e w' => e = .returned (.bool p2) ∧ Below W.heap.size W w') :
    Calls Tryd.prog 20 #[.agg #[.int .i64 s1, .bool a1, .bool b1], .agg #[.int .i64 s2, .bool a2, .bool b2]] w fun e w' => e = .returned (.bool false) ∧ Below w.heap.size w w' := by
  obtain ⟨W, hW⟩ : ∃ W, (w.alloc (.cells #[.int .i64 s1, .bool a1, .bool b1] 23)).alloc (.cells #[.int .i64 s2, .bool a2, .bool b2] 23) = W := ⟨_, rfl⟩
  have HA : Blk w.heap.size #[.int .i64 s1, .bool a1, .bool b1] 23 W := by rw [← hW]; exact Blk.new1 _ _ _ _
  have HB : Blk (w.heap.size + 1) #[.int .i64 s2, .bool a2, .bool b2] 23 W := by rw [← hW]; exact Blk.new2 _ _ _ _
  have HW : Hid (Below w.heap.size w W) := by show Below _ _ _; rw [← hW]; exact (bw0 _ _).alloc (by simp) _
  have HWW : Hid (_ = W) := hW
  clear hW
  go_enter Tryd.func20, Tryd.ntmps20
  go_wp2_with fail
  rw [HWW.out]
  obtain ⟨a0, a1', a2', _⟩ := blk3 HA
  obtain ⟨b0, b1', b2', _⟩ := blk3 HB
  have k0 := cell_regrown a0
  have k1 := cell_regrown a1'
  have k2 := cell_regrown a2'
  have l0 := cell_regrown b0
  have l1 := cell_regrown b1'
  have l2 := cell_regrown b2'
  have c1 : ∀ d os, Calls Tryd.prog 14 #[.agg #[.int .i64 s1, .bool a1, .bool b1]] (grow (redrawn W d) os) fun e w'' => e = .returned (.bool false) ∧ ∃ p : Regrown, w'' = grow (redrawn W p.d) p.os := fun d os => Calls.regrown_of (Hc1 _)
  have c2 : ∀ d os, Calls Tryd.prog 15 #[.agg #[.int .i64 s2, .bool a2, .bool b2]] (grow (redrawn W d) os) fun e w'' => e = .returned (.bool true) ∧ ∃ p : Regrown, w'' = grow (redrawn W p.d) p.os := fun d os => Calls.regrown_of (Hc2 _)
  have c3 : ∀ d os, Calls Tryd.prog 15 #[.agg #[.int .i64 s1, .bool a1, .bool b1]] (grow (redrawn W d) os) fun e w'' => e = .returned (.bool q1) ∧ ∃ p : Regrown, w'' = grow (redrawn W p.d) p.os := fun d os => Calls.regrown_of (Hc3 _)
  have c4 : ∀ d os, Calls Tryd.prog 14 #[.agg #[.int .i64 s2, .bool a2, .bool b2]] (grow (redrawn W d) os) fun e w'' => e = .returned (.bool p2) ∧ ∃ p : Regrown, w'' = grow (redrawn W p.d) p.os := fun d os => Calls.regrown_of (Hc4 _)
  clear HWW HA HB a0 a1' a2' b0 b1' b2' Hc1 Hc2 Hc3 Hc4
  refine wp_region_quiet_below (by kernel_rfl) (by kernel_rfl) ?_
  repeat (quiet_step (first | (go_at_call_of 14 (s1); exact c1 _ _) | (go_at_call_of 15 (s1); exact c3 _ _) | (go_at_call 14; exact c4 _ _) | (go_at_call 15; exact c2 _ _)))
  refine wpQuiet_nil ?_
  intro _ hw'
  obtain ⟨⟨dq, osq⟩, hw''⟩ := hw'
  subst hw''
  have HZ : Hid _ := HW.out.trans ((below_regrown W dq osq).mono HW.out.size)
  clear c1 c2 c3 c4 k0 k1 k2 l0 l1 l2
  go_wp2_with fail
  go_ret
  exact ⟨rfl, HZ.out⟩
set_option maxHeartbeats 2000000 in
theorem fitB1 (s1 s2 : Int) (p1 a1 b2 b1 a2 : Bool) (w : World) (Hc1 : ∀ W, Calls Tryd.prog 14 #[.agg #[.int .i64 s1, .bool a1, .bool b1]] W fun e w' => e = .returned (.bool p1) ∧ Below W.heap.size W w') (Hc2 : ∀ W, Calls Tryd.prog 15 #[.agg #[.int .i64 s2, .bool a2, .bool b2]] W fun e w' => e = .returned (.bool p1) ∧ Below W.heap.size W w') (Hc3 : ∀ W, Calls Tryd.prog 15 #[.agg #[.int .i64 s1, .bool a1, .bool b1]] W fun e w' => e = .returned (.bool false) ∧ Below W.heap.size W w') (Hc4 : ∀ W, Calls Tryd.prog 14 #[.agg #[.int .i64 s2, .bool a2, .bool b2]] W fun e w' => e = .returned (.bool true) ∧ Below W.heap.size W w') :
    Calls Tryd.prog 20 #[.agg #[.int .i64 s1, .bool a1, .bool b1], .agg #[.int .i64 s2, .bool a2, .bool b2]] w fun e w' => e = .returned (.bool false) ∧ Below w.heap.size w w' := by
  obtain ⟨W, hW⟩ : ∃ W, (w.alloc (.cells #[.int .i64 s1, .bool a1, .bool b1] 23)).alloc (.cells #[.int .i64 s2, .bool a2, .bool b2] 23) = W := ⟨_, rfl⟩
  have HA : Blk w.heap.size #[.int .i64 s1, .bool a1, .bool b1] 23 W := by rw [← hW]; exact Blk.new1 _ _ _ _
  have HB : Blk (w.heap.size + 1) #[.int .i64 s2, .bool a2, .bool b2] 23 W := by rw [← hW]; exact Blk.new2 _ _ _ _
  have HW : Hid (Below w.heap.size w W) := by show Below _ _ _; rw [← hW]; exact (bw0 _ _).alloc (by simp) _
  have HWW : Hid (_ = W) := hW
  clear hW
  go_enter Tryd.func20, Tryd.ntmps20
  go_wp2_with fail
  rw [HWW.out]
  obtain ⟨a0, a1', a2', _⟩ := blk3 HA
  obtain ⟨b0, b1', b2', _⟩ := blk3 HB
  have k0 := cell_regrown a0
  have k1 := cell_regrown a1'
  have k2 := cell_regrown a2'
  have l0 := cell_regrown b0
  have l1 := cell_regrown b1'
  have l2 := cell_regrown b2'
  have c1 : ∀ d os, Calls Tryd.prog 14 #[.agg #[.int .i64 s1, .bool a1, .bool b1]] (grow (redrawn W d) os) fun e w'' => e = .returned (.bool p1) ∧ ∃ p : Regrown, w'' = grow (redrawn W p.d) p.os := fun d os => Calls.regrown_of (Hc1 _)
  have c2 : ∀ d os, Calls Tryd.prog 15 #[.agg #[.int .i64 s2, .bool a2, .bool b2]] (grow (redrawn W d) os) fun e w'' => e = .returned (.bool p1) ∧ ∃ p : Regrown, w'' = grow (redrawn W p.d) p.os := fun d os => Calls.regrown_of (Hc2 _)
  have c3 : ∀ d os, Calls Tryd.prog 15 #[.agg #[.int .i64 s1, .bool a1, .bool b1]] (grow (redrawn W d) os) fun e w'' => e = .returned (.bool false) ∧ ∃ p : Regrown, w'' = grow (redrawn W p.d) p.os := fun d os => Calls.regrown_of (Hc3 _)
  have c4 : ∀ d os, Calls Tryd.prog 14 #[.agg #[.int .i64 s2, .bool a2, .bool b2]] (grow (redrawn W d) os) fun e w'' => e = .returned (.bool true) ∧ ∃ p : Regrown, w'' = grow (redrawn W p.d) p.os := fun d os => Calls.regrown_of (Hc4 _)
  clear HWW HA HB a0 a1' a2' b0 b1' b2' Hc1 Hc2 Hc3 Hc4
  refine wp_region_quiet_below (by kernel_rfl) (by kernel_rfl) ?_
  repeat (quiet_step (first | (go_at_call_of 14 (s1); exact c1 _ _) | (go_at_call_of 15 (s1); exact c3 _ _) | (go_at_call 14; exact c4 _ _) | (go_at_call 15; exact c2 _ _)))
  refine wpQuiet_nil ?_
  intro _ hw'
  obtain ⟨⟨dq, osq⟩, hw''⟩ := hw'
  subst hw''
  have HZ : Hid _ := HW.out.trans ((below_regrown W dq osq).mono HW.out.size)
  clear c1 c2 c3 c4 k0 k1 k2 l0 l1 l2
  go_wp2_with fail
  go_ret
  exact ⟨rfl, HZ.out⟩
set_option maxHeartbeats 2000000 in
theorem fitC1 (s1 s2 : Int) (p1 q1 b1 a2 : Bool) (w : World) (Hc1 : ∀ W, Calls Tryd.prog 14 #[.agg #[.int .i64 s1, .bool false, .bool b1]] W fun e w' => e = .returned (.bool p1) ∧ Below W.heap.size W w') (Hc2 : ∀ W, Calls Tryd.prog 15 #[.agg #[.int .i64 s2, .bool a2, .bool true]] W fun e w' => e = .returned (.bool p1) ∧ Below W.heap.size W w') (Hc3 : ∀ W, Calls Tryd.prog 15 #[.agg #[.int .i64 s1, .bool false, .bool b1]] W fun e w' => e = .returned (.bool q1) ∧ Below W.heap.size W w') (Hc4 : ∀ W, Calls Tryd.prog 14 #[.agg #[.int .i64 s2, .bool a2, .bool true]] W fun e w' => e = .returned (.bool q1) ∧ Below W.heap.size W w') :
    Calls Tryd.prog 20 #[.agg #[.int .i64 s1, .bool false, .bool b1], .agg #[.int .i64 s2, .bool a2, .bool true]] w fun e w' => e = .returned (.bool false) ∧ Below w.heap.size w w' := by
  obtain ⟨W, hW⟩ : ∃ W, (w.alloc (.cells #[.int .i64 s1, .bool false, .bool b1] 23)).alloc (.cells #[.int .i64 s2, .bool a2, .bool true] 23) = W := ⟨_, rfl⟩
  have HA : Blk w.heap.size #[.int .i64 s1, .bool false, .bool b1] 23 W := by rw [← hW]; exact Blk.new1 _ _ _ _
  have HB : Blk (w.heap.size + 1) #[.int .i64 s2, .bool a2, .bool true] 23 W := by rw [← hW]; exact Blk.new2 _ _ _ _
  have HW : Hid (Below w.heap.size w W) := by show Below _ _ _; rw [← hW]; exact (bw0 _ _).alloc (by simp) _
  have HWW : Hid (_ = W) := hW
  clear hW
  go_enter Tryd.func20, Tryd.ntmps20
  go_wp2_with fail
  rw [HWW.out]
  obtain ⟨a0, a1', a2', _⟩ := blk3 HA
  obtain ⟨b0, b1', b2', _⟩ := blk3 HB
  have k0 := cell_regrown a0
  have k1 := cell_regrown a1'
  have k2 := cell_regrown a2'
  have l0 := cell_regrown b0
  have l1 := cell_regrown b1'
  have l2 := cell_regrown b2'
  have c1 : ∀ d os, Calls Tryd.prog 14 #[.agg #[.int .i64 s1, .bool false, .bool b1]] (grow (redrawn W d) os) fun e w'' => e = .returned (.bool p1) ∧ ∃ p : Regrown, w'' = grow (redrawn W p.d) p.os := fun d os => Calls.regrown_of (Hc1 _)
  have c2 : ∀ d os, Calls Tryd.prog 15 #[.agg #[.int .i64 s2, .bool a2, .bool true]] (grow (redrawn W d) os) fun e w'' => e = .returned (.bool p1) ∧ ∃ p : Regrown, w'' = grow (redrawn W p.d) p.os := fun d os => Calls.regrown_of (Hc2 _)
  have c3 : ∀ d os, Calls Tryd.prog 15 #[.agg #[.int .i64 s1, .bool false, .bool b1]] (grow (redrawn W d) os) fun e w'' => e = .returned (.bool q1) ∧ ∃ p : Regrown, w'' = grow (redrawn W p.d) p.os := fun d os => Calls.regrown_of (Hc3 _)
  have c4 : ∀ d os, Calls Tryd.prog 14 #[.agg #[.int .i64 s2, .bool a2, .bool true]] (grow (redrawn W d) os) fun e w'' => e = .returned (.bool q1) ∧ ∃ p : Regrown, w'' = grow (redrawn W p.d) p.os := fun d os => Calls.regrown_of (Hc4 _)
  clear HWW HA HB a0 a1' a2' b0 b1' b2' Hc1 Hc2 Hc3 Hc4
  refine wp_region_quiet_below (by kernel_rfl) (by kernel_rfl) ?_
  repeat (quiet_step (first | (go_at_call_of 14 (s1); exact c1 _ _) | (go_at_call_of 15 (s1); exact c3 _ _) | (go_at_call 14; exact c4 _ _) | (go_at_call 15; exact c2 _ _)))
  refine wpQuiet_nil ?_
  intro _ hw'
  obtain ⟨⟨dq, osq⟩, hw''⟩ := hw'
  subst hw''
  have HZ : Hid _ := HW.out.trans ((below_regrown W dq osq).mono HW.out.size)
  clear c1 c2 c3 c4 k0 k1 k2 l0 l1 l2
  go_wp2_with fail
  go_ret
  exact ⟨rfl, HZ.out⟩
set_option maxHeartbeats 2000000 in
theorem fitD1 (s1 s2 : Int) (p1 q1 a1 : Bool) (w : World) (Hc1 : ∀ W, Calls Tryd.prog 14 #[.agg #[.int .i64 s1, .bool a1, .bool false]] W fun e w' => e = .returned (.bool p1) ∧ Below W.heap.size W w') (Hc2 : ∀ W, Calls Tryd.prog 15 #[.agg #[.int .i64 s2, .bool true, .bool a1]] W fun e w' => e = .returned (.bool p1) ∧ Below W.heap.size W w') (Hc3 : ∀ W, Calls Tryd.prog 15 #[.agg #[.int .i64 s1, .bool a1, .bool false]] W fun e w' => e = .returned (.bool q1) ∧ Below W.heap.size W w') (Hc4 : ∀ W, Calls Tryd.prog 14 #[.agg #[.int .i64 s2, .bool true, .bool a1]] W fun e w' => e = .returned (.bool q1) ∧ Below W.heap.size W w') :
    Calls Tryd.prog 20 #[.agg #[.int .i64 s1, .bool a1, .bool false], .agg #[.int .i64 s2, .bool true, .bool a1]] w fun e w' => e = .returned (.bool false) ∧ Below w.heap.size w w' := by
  obtain ⟨W, hW⟩ : ∃ W, (w.alloc (.cells #[.int .i64 s1, .bool a1, .bool false] 23)).alloc (.cells #[.int .i64 s2, .bool true, .bool a1] 23) = W := ⟨_, rfl⟩
  have HA : Blk w.heap.size #[.int .i64 s1, .bool a1, .bool false] 23 W := by rw [← hW]; exact Blk.new1 _ _ _ _
  have HB : Blk (w.heap.size + 1) #[.int .i64 s2, .bool true, .bool a1] 23 W := by rw [← hW]; exact Blk.new2 _ _ _ _
  have HW : Hid (Below w.heap.size w W) := by show Below _ _ _; rw [← hW]; exact (bw0 _ _).alloc (by simp) _
  have HWW : Hid (_ = W) := hW
  clear hW
  go_enter Tryd.func20, Tryd.ntmps20
  go_wp2_with fail
  rw [HWW.out]
  obtain ⟨a0, a1', a2', _⟩ := blk3 HA
  obtain ⟨b0, b1', b2', _⟩ := blk3 HB
  have k0 := cell_regrown a0
  have k1 := cell_regrown a1'
  have k2 := cell_regrown a2'
  have l0 := cell_regrown b0
  have l1 := cell_regrown b1'
  have l2 := cell_regrown b2'
  have c1 : ∀ d os, Calls Tryd.prog 14 #[.agg #[.int .i64 s1, .bool a1, .bool false]] (grow (redrawn W d) os) fun e w'' => e = .returned (.bool p1) ∧ ∃ p : Regrown, w'' = grow (redrawn W p.d) p.os := fun d os => Calls.regrown_of (Hc1 _)
  have c2 : ∀ d os, Calls Tryd.prog 15 #[.agg #[.int .i64 s2, .bool true, .bool a1]] (grow (redrawn W d) os) fun e w'' => e = .returned (.bool p1) ∧ ∃ p : Regrown, w'' = grow (redrawn W p.d) p.os := fun d os => Calls.regrown_of (Hc2 _)
  have c3 : ∀ d os, Calls Tryd.prog 15 #[.agg #[.int .i64 s1, .bool a1, .bool false]] (grow (redrawn W d) os) fun e w'' => e = .returned (.bool q1) ∧ ∃ p : Regrown, w'' = grow (redrawn W p.d) p.os := fun d os => Calls.regrown_of (Hc3 _)
  have c4 : ∀ d os, Calls Tryd.prog 14 #[.agg #[.int .i64 s2, .bool true, .bool a1]] (grow (redrawn W d) os) fun e w'' => e = .returned (.bool q1) ∧ ∃ p : Regrown, w'' = grow (redrawn W p.d) p.os := fun d os => Calls.regrown_of (Hc4 _)
  clear HWW HA HB a0 a1' a2' b0 b1' b2' Hc1 Hc2 Hc3 Hc4
  refine wp_region_quiet_below (by kernel_rfl) (by kernel_rfl) ?_
  repeat (quiet_step (first | (go_at_call_of 14 (s1); exact c1 _ _) | (go_at_call_of 15 (s1); exact c3 _ _) | (go_at_call 14; exact c4 _ _) | (go_at_call 15; exact c2 _ _)))
  refine wpQuiet_nil ?_
  intro _ hw'
  obtain ⟨⟨dq, osq⟩, hw''⟩ := hw'
  subst hw''
  have HZ : Hid _ := HW.out.trans ((below_regrown W dq osq).mono HW.out.size)
  clear c1 c2 c3 c4 k0 k1 k2 l0 l1 l2
  go_wp2_with fail
  go_ret
  exact ⟨rfl, HZ.out⟩
set_option maxHeartbeats 2000000 in
theorem fitE (s1 s2 : Int) (p1 q1 a1 b1 : Bool) (w : World) (Hc1 : ∀ W, Calls Tryd.prog 14 #[.agg #[.int .i64 s1, .bool a1, .bool b1]] W fun e w' => e = .returned (.bool p1) ∧ Below W.heap.size W w') (Hc2 : ∀ W, Calls Tryd.prog 15 #[.agg #[.int .i64 s2, .bool b1, .bool a1]] W fun e w' => e = .returned (.bool p1) ∧ Below W.heap.size W w') (Hc3 : ∀ W, Calls Tryd.prog 15 #[.agg #[.int .i64 s1, .bool a1, .bool b1]] W fun e w' => e = .returned (.bool q1) ∧ Below W.heap.size W w') (Hc4 : ∀ W, Calls Tryd.prog 14 #[.agg #[.int .i64 s2, .bool b1, .bool a1]] W fun e w' => e = .returned (.bool q1) ∧ Below W.heap.size W w') :
    Calls Tryd.prog 20 #[.agg #[.int .i64 s1, .bool a1, .bool b1], .agg #[.int .i64 s2, .bool b1, .bool a1]] w fun e w' => e = .returned (.bool true) ∧ Below w.heap.size w w' := by
  obtain ⟨W, hW⟩ : ∃ W, (w.alloc (.cells #[.int .i64 s1, .bool a1, .bool b1] 23)).alloc (.cells #[.int .i64 s2, .bool b1, .bool a1] 23) = W := ⟨_, rfl⟩
  have HA : Blk w.heap.size #[.int .i64 s1, .bool a1, .bool b1] 23 W := by rw [← hW]; exact Blk.new1 _ _ _ _
  have HB : Blk (w.heap.size + 1) #[.int .i64 s2, .bool b1, .bool a1] 23 W := by rw [← hW]; exact Blk.new2 _ _ _ _
  have HW : Hid (Below w.heap.size w W) := by show Below _ _ _; rw [← hW]; exact (bw0 _ _).alloc (by simp) _
  have HWW : Hid (_ = W) := hW
  clear hW
  go_enter Tryd.func20, Tryd.ntmps20
  go_wp2_with fail
  rw [HWW.out]
  obtain ⟨a0, a1', a2', _⟩ := blk3 HA
  obtain ⟨b0, b1', b2', _⟩ := blk3 HB
  have k0 := cell_regrown a0
  have k1 := cell_regrown a1'
  have k2 := cell_regrown a2'
  have l0 := cell_regrown b0
  have l1 := cell_regrown b1'
  have l2 := cell_regrown b2'
  have c1 : ∀ d os, Calls Tryd.prog 14 #[.agg #[.int .i64 s1, .bool a1, .bool b1]] (grow (redrawn W d) os) fun e w'' => e = .returned (.bool p1) ∧ ∃ p : Regrown, w'' = grow (redrawn W p.d) p.os := fun d os => Calls.regrown_of (Hc1 _)
  have c2 : ∀ d os, Calls Tryd.prog 15 #[.agg #[.int .i64 s2, .bool b1, .bool a1]] (grow (redrawn W d) os) fun e w'' => e = .returned (.bool p1) ∧ ∃ p : Regrown, w'' = grow (redrawn W p.d) p.os := fun d os => Calls.regrown_of (Hc2 _)
  have c3 : ∀ d os, Calls Tryd.prog 15 #[.agg #[.int .i64 s1, .bool a1, .bool b1]] (grow (redrawn W d) os) fun e w'' => e = .returned (.bool q1) ∧ ∃ p : Regrown, w'' = grow (redrawn W p.d) p.os := fun d os => Calls.regrown_of (Hc3 _)
  have c4 : ∀ d os, Calls Tryd.prog 14 #[.agg #[.int .i64 s2, .bool b1, .bool a1]] (grow (redrawn W d) os) fun e w'' => e = .returned (.bool q1) ∧ ∃ p : Regrown, w'' = grow (redrawn W p.d) p.os := fun d os => Calls.regrown_of (Hc4 _)
  clear HWW HA HB a0 a1' a2' b0 b1' b2' Hc1 Hc2 Hc3 Hc4
  refine wp_region_quiet_below (by kernel_rfl) (by kernel_rfl) ?_
  repeat (quiet_step (first | (go_at_call_of 14 (s1); exact c1 _ _) | (go_at_call_of 15 (s1); exact c3 _ _) | (go_at_call 14; exact c4 _ _) | (go_at_call 15; exact c2 _ _)))
  refine wpQuiet_nil ?_
  intro _ hw'
  obtain ⟨⟨dq, osq⟩, hw''⟩ := hw'
  subst hw''
  have HZ : Hid _ := HW.out.trans ((below_regrown W dq osq).mono HW.out.size)
  clear c1 c2 c3 c4 k0 k1 k2 l0 l1 l2
  go_wp2_with fail
  go_ret
  exact ⟨rfl, HZ.out⟩
def fitN (p1 q1 a1 b1 p2 q2 a2 b2 : Bool) : Bool := (p1 == q2) && (q1 == p2) && (a1 == b2) && (b1 == a2)
theorem fit_all (s1 s2 : Int) (p1 q1 a1 b1 p2 q2 a2 b2 : Bool) (w : World) (H1 : ∀ W, Calls Tryd.prog 14 #[.agg #[.int .i64 s1, .bool a1, .bool b1]] W fun e w' => e = .returned (.bool p1) ∧ Below W.heap.size W w') (H2 : ∀ W, Calls Tryd.prog 15 #[.agg #[.int .i64 s2, .bool a2, .bool b2]] W fun e w' => e = .returned (.bool q2) ∧ Below W.heap.size W w') (H3 : ∀ W, Calls Tryd.prog 15 #[.agg #[.int .i64 s1, .bool a1, .bool b1]] W fun e w' => e = .returned (.bool q1) ∧ Below W.heap.size W w') (H4 : ∀ W, Calls Tryd.prog 14 #[.agg #[.int .i64 s2, .bool a2, .bool b2]] W fun e w' => e = .returned (.bool p2) ∧ Below W.heap.size W w') :
    Calls Tryd.prog 20 #[.agg #[.int .i64 s1, .bool a1, .bool b1], .agg #[.int .i64 s2, .bool a2, .bool b2]] w fun e w' => e = .returned (.bool (fitN p1 q1 a1 b1 p2 q2 a2 b2)) ∧ Below w.heap.size w w' := by
  by_cases h1 : p1 = q2
  · subst h1
    by_cases h2 : q1 = p2
    · subst h2
      by_cases h3 : a1 = b2
      · subst h3
        by_cases h4 : b1 = a2
        · subst h4
          rw [show fitN p1 q1 a1 b1 q1 p1 b1 a1 = true by simp [fitN]]
          exact fitE s1 s2 p1 q1 a1 b1 w H1 H2 H3 H4
        · rw [show fitN p1 q1 a1 b1 q1 p1 a2 a1 = false by simp [fitN, h4]]
          cases b1 <;> cases a2 <;> simp at h4
          · exact fitD1 s1 s2 p1 q1 a1 w H1 H2 H3 H4
          · exact fitD0 s1 s2 p1 q1 a1 w H1 H2 H3 H4
      · rw [show fitN p1 q1 a1 b1 q1 p1 a2 b2 = false by simp [fitN, h3]]
        cases a1 <;> cases b2 <;> simp at h3
        · exact fitC1 s1 s2 p1 q1 b1 a2 w H1 H2 H3 H4
        · exact fitC0 s1 s2 p1 q1 b1 a2 w H1 H2 H3 H4
    · rw [show fitN p1 q1 a1 b1 p2 p1 a2 b2 = false by simp [fitN, h2]]
      cases q1 <;> cases p2 <;> simp at h2
      · exact fitB1 s1 s2 p1 a1 b2 b1 a2 w H1 H2 H3 H4
      · exact fitB0 s1 s2 p1 a1 b2 b1 a2 w H1 H2 H3 H4
  · rw [show fitN p1 q1 a1 b1 p2 q2 a2 b2 = false by simp [fitN, h1]]
    cases p1 <;> cases q2 <;> simp at h1
    · exact fitA1 s1 s2 q1 p2 a1 b2 b1 a2 w H1 H2 H3 H4
    · exact fitA0 s1 s2 q1 p2 a1 b2 b1 a2 w H1 H2 H3 H4
end Go.Proofs.YtojeeopmhogolaaDoor
