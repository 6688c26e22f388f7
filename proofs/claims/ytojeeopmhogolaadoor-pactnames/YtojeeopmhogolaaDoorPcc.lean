/-
  The contract of Do over this program: one's own act, at every side and every act.
-/
import Derived.Test.YtojeeopmhogolaaDoorPcb
namespace Go.Proofs.YtojeeopmhogolaaDoor
open Go Go.RowKit Go.Sort
theorem Blk.new2 (w : World) (o : Obj) (xs : Array Value) (T : TypeId) : Blk (w.heap.size + 1) xs T ((w.alloc o).alloc (.cells xs T (0, 0))) := by
  have := Blk.new (w.alloc o) xs T
  rw [show (w.alloc o).heap.size = w.heap.size + 1 by simp] at this
  exact this
theorem right_off (s : Int) (a b : Bool) (w : World) (h0 : ¬ s = 0) (h1 : ¬ s = 1) (h2 : ¬ s = 2) (h3 : ¬ s = 3) : Calls Tryd.prog 13 #[.agg #[.int .i64 s, .bool a, .bool b]] w fun e w' => e = .returned (.bool false) ∧ Below w.heap.size w w' := by
  have H1 := fun W => sees_off s a b W h1 h3
  have H2 := fun W => seen_off s a b W h2 h3
  have HB0 : Hid (Blk w.heap.size #[.int .i64 s, .bool a, .bool b] 23 (w.alloc (.cells #[.int .i64 s, .bool a, .bool b] 23))) := Blk.new _ _ _
  have HW0 : Hid (Below w.heap.size w (w.alloc (.cells #[.int .i64 s, .bool a, .bool b] 23))) := bw0 _ _
  have k0 : (s == 0) = false := by simp [h0]
  clear h1 h2 h3
  go_enter Tryd.func13, Tryd.ntmps13
  go_wp2_with (first
    | (go_at_call 14; refine (H1 _).mono ?_; rintro e w1 ⟨rfl, hb1⟩; replace HW0 : Hid (Below w.heap.size w w1) := HW0.out.trans (hb1.mono HW0.out.size); replace HB0 : Hid (Blk w.heap.size _ 23 w1) := HB0.out.below hb1; obtain ⟨d0, d1, d2, _⟩ := blk3 HB0.out; clear hb1)
    | (go_at_call 15; refine (H2 _).mono ?_; rintro e w1 ⟨rfl, hb1⟩; replace HW0 : Hid (Below w.heap.size w w1) := HW0.out.trans (hb1.mono HW0.out.size); replace HB0 : Hid (Blk w.heap.size _ 23 w1) := HB0.out.below hb1; obtain ⟨d0, d1, d2, _⟩ := blk3 HB0.out; clear hb1))
  go_ret
  exact ⟨rfl, HW0.out⟩
set_option maxHeartbeats 1000000 in
theorem do_side (s : Int) (a b : Bool) (act : Int) (w : World) (H : ∀ W, Calls Tryd.prog 13 #[.agg #[.int .i64 s, .bool a, .bool b]] W fun e w' => e = .returned (.bool false) ∧ Below W.heap.size W w') :
    Calls Tryd.prog 11 #[.agg #[.int .i64 s, .bool a, .bool b], .int .i64 act] w fun e w' => e = .returned (.tuple #[.agg #[.int .i64 0, .bool false, .bool false, .bool false, .bool false], .int .i64 1]) ∧ Below w.heap.size w w' := by
  have HB0 : Hid (Blk (w.heap.size + 1) #[.int .i64 0, .bool false, .bool false, .bool false, .bool false] 30 ((w.alloc (.cells #[.int .i64 s, .bool a, .bool b] 23)).alloc (.cells #[.int .i64 0, .bool false, .bool false, .bool false, .bool false] 30))) := Blk.new2 _ _ _ _
  have HW0 : Hid (Below w.heap.size w ((w.alloc (.cells #[.int .i64 s, .bool a, .bool b] 23)).alloc (.cells #[.int .i64 0, .bool false, .bool false, .bool false, .bool false] 30))) := (bw0 _ _).alloc (by simp) _
  go_enter Tryd.func11, Tryd.ntmps11
  go_wp2_with (go_at_call 13; refine (H _).mono ?_; rintro e w1 ⟨rfl, hb1⟩; replace HW0 : Hid (Below w.heap.size w w1) := HW0.out.trans (hb1.mono HW0.out.size); replace HB0 : Hid (Blk (w.heap.size + 1) _ 30 w1) := HB0.out.below hb1; obtain ⟨d0, d1, d2, d3, d4, f0, f1, f2, f3, f4⟩ := blk5 HB0.out; clear hb1)
  refine bodyPost_ret (v := .tuple #[.agg #[.int .i64 0, .bool false, .bool false, .bool false, .bool false], .int .i64 1]) (by simp [results, Tryd.results11, go_sem, d0, d1, d2, d3, d4]) rfl ⟨rfl, ?_⟩
  repeat (refine Below.setCell ?_ (by simp) _)
  exact HW0.out
set_option maxHeartbeats 2000000 in
theorem do1 (s r : Int) (p q a b : Bool) (w : World) (H13 : ∀ W, Calls Tryd.prog 13 #[.agg #[.int .i64 s, .bool a, .bool b]] W fun e w' => e = .returned (.bool true) ∧ Below W.heap.size W w') (H14 : ∀ W, Calls Tryd.prog 14 #[.agg #[.int .i64 s, .bool a, .bool b]] W fun e w' => e = .returned (.bool p) ∧ Below W.heap.size W w') (H15 : ∀ W, Calls Tryd.prog 15 #[.agg #[.int .i64 s, .bool a, .bool b]] W fun e w' => e = .returned (.bool q) ∧ Below W.heap.size W w')
    (H26 : ∀ W, Calls Tryd.prog 26 #[.bool p, .bool q] W fun e w' => e = .returned (.int .i64 r) ∧ w' = W) :
    Calls Tryd.prog 11 #[.agg #[.int .i64 s, .bool a, .bool b], .int .i64 1] w fun e w' => e = .returned (.tuple #[.agg #[.int .i64 r, .bool (!p), .bool b, .bool true, .bool false], .int .i64 0]) ∧ Below w.heap.size w w' := by
  have HB0 : Hid (Blk w.heap.size #[.int .i64 s, .bool a, .bool b] 23 ((w.alloc (.cells #[.int .i64 s, .bool a, .bool b] 23)).alloc (.cells #[.int .i64 0, .bool false, .bool false, .bool false, .bool false] 30))) := Blk.new1 _ _ _ _
  have HB1 : Hid (Blk (w.heap.size + 1) #[.int .i64 0, .bool false, .bool false, .bool false, .bool false] 30 ((w.alloc (.cells #[.int .i64 s, .bool a, .bool b] 23)).alloc (.cells #[.int .i64 0, .bool false, .bool false, .bool false, .bool false] 30))) := Blk.new2 _ _ _ _
  have HW0 : Hid (Below w.heap.size w ((w.alloc (.cells #[.int .i64 s, .bool a, .bool b] 23)).alloc (.cells #[.int .i64 0, .bool false, .bool false, .bool false, .bool false] 30))) := (bw0 _ _).alloc (by simp) _
  go_enter Tryd.func11, Tryd.ntmps11
  go_wp2_with (go_at_call 13; refine (H13 _).mono ?_; rintro e w1 ⟨rfl, hb1⟩; replace HW0 : Hid (Below w.heap.size w w1) := HW0.out.trans (hb1.mono HW0.out.size); replace HB0 : Hid (Blk w.heap.size _ 23 w1) := HB0.out.below hb1; replace HB1 : Hid (Blk (w.heap.size + 1) _ 30 w1) := HB1.out.below hb1; obtain ⟨c0, c1, c2, _⟩ := blk3 HB0.out; clear hb1)
  have c14 : ∀ d os, Calls Tryd.prog 14 #[.agg #[.int .i64 s, .bool a, .bool b]] (grow (redrawn w1 d) os) fun e w'' => e = .returned (.bool p) ∧ ∃ p : Regrown, w'' = grow (redrawn w1 p.d) p.os := fun d os => Calls.regrown_of (H14 _)
  have c15 : ∀ d os, Calls Tryd.prog 15 #[.agg #[.int .i64 s, .bool a, .bool b]] (grow (redrawn w1 d) os) fun e w'' => e = .returned (.bool q) ∧ ∃ p : Regrown, w'' = grow (redrawn w1 p.d) p.os := fun d os => Calls.regrown_of (H15 _)
  have k0 := cell_regrown c0
  have k1 := cell_regrown c1
  have k2 := cell_regrown c2
  clear c0 c1 c2 H13 H14 H15
  refine wp_region_quiet_below (by kernel_rfl) (by kernel_rfl) ?_
  repeat (quiet_step (first | (go_at_call 14; exact c14 _ _) | (go_at_call 15; exact c15 _ _)))
  refine wpQuiet_nil ?_
  intro _ hw'
  obtain ⟨⟨dq, osq⟩, hw''⟩ := hw'
  subst hw''
  have hb2 := below_regrown w1 dq osq
  obtain ⟨w2, hw2⟩ : ∃ w2, grow (redrawn w1 dq) osq = w2 := ⟨_, rfl⟩
  rw [hw2] at hb2 ⊢
  replace HW0 : Hid (Below w.heap.size w w2) := HW0.out.trans (hb2.mono HW0.out.size)
  replace HB0 : Hid (Blk w.heap.size _ 23 w2) := HB0.out.below hb2
  replace HB1 : Hid (Blk (w.heap.size + 1) _ 30 w2) := HB1.out.below hb2
  obtain ⟨c0, c1, c2, e0, e1, e2⟩ := blk3 HB0.out
  obtain ⟨d0, d1, d2, d3, d4, f0, f1, f2, f3, f4⟩ := blk5 HB1.out
  clear hw2 hb2 k0 k1 k2 c14 c15
  go_wp2_with (go_at_call 26; refine (H26 _).mono ?_; rintro e w3 ⟨rfl, rfl⟩)
  refine bodyPost_ret (v := .tuple #[.agg #[.int .i64 r, .bool (!p), .bool b, .bool true, .bool false], .int .i64 0]) (by simp [results, Tryd.results11, go_sem, d0, d1, d2, d3, d4]) rfl ⟨rfl, ?_⟩
  repeat (refine Below.setCell ?_ (by simp) _)
  exact HW0.out
set_option maxHeartbeats 2000000 in
theorem do2t (s r : Int) (p a b : Bool) (w : World) (H13 : ∀ W, Calls Tryd.prog 13 #[.agg #[.int .i64 s, .bool a, .bool b]] W fun e w' => e = .returned (.bool true) ∧ Below W.heap.size W w') (H14 : ∀ W, Calls Tryd.prog 14 #[.agg #[.int .i64 s, .bool a, .bool b]] W fun e w' => e = .returned (.bool p) ∧ Below W.heap.size W w') (H15 : ∀ W, Calls Tryd.prog 15 #[.agg #[.int .i64 s, .bool a, .bool b]] W fun e w' => e = .returned (.bool true) ∧ Below W.heap.size W w')
    (H26 : ∀ W, Calls Tryd.prog 26 #[.bool p, .bool true] W fun e w' => e = .returned (.int .i64 r) ∧ w' = W) :
    Calls Tryd.prog 11 #[.agg #[.int .i64 s, .bool a, .bool b], .int .i64 2] w fun e w' => e = .returned (.tuple #[.agg #[.int .i64 r, .bool a, .bool false, .bool b, .bool false], .int .i64 0]) ∧ Below w.heap.size w w' := by
  have HB0 : Hid (Blk w.heap.size #[.int .i64 s, .bool a, .bool b] 23 ((w.alloc (.cells #[.int .i64 s, .bool a, .bool b] 23)).alloc (.cells #[.int .i64 0, .bool false, .bool false, .bool false, .bool false] 30))) := Blk.new1 _ _ _ _
  have HB1 : Hid (Blk (w.heap.size + 1) #[.int .i64 0, .bool false, .bool false, .bool false, .bool false] 30 ((w.alloc (.cells #[.int .i64 s, .bool a, .bool b] 23)).alloc (.cells #[.int .i64 0, .bool false, .bool false, .bool false, .bool false] 30))) := Blk.new2 _ _ _ _
  have HW0 : Hid (Below w.heap.size w ((w.alloc (.cells #[.int .i64 s, .bool a, .bool b] 23)).alloc (.cells #[.int .i64 0, .bool false, .bool false, .bool false, .bool false] 30))) := (bw0 _ _).alloc (by simp) _
  go_enter Tryd.func11, Tryd.ntmps11
  go_wp2_with (go_at_call 13; refine (H13 _).mono ?_; rintro e w1 ⟨rfl, hb1⟩; replace HW0 : Hid (Below w.heap.size w w1) := HW0.out.trans (hb1.mono HW0.out.size); replace HB0 : Hid (Blk w.heap.size _ 23 w1) := HB0.out.below hb1; replace HB1 : Hid (Blk (w.heap.size + 1) _ 30 w1) := HB1.out.below hb1; obtain ⟨c0, c1, c2, _⟩ := blk3 HB0.out; clear hb1)
  have c14 : ∀ d os, Calls Tryd.prog 14 #[.agg #[.int .i64 s, .bool a, .bool b]] (grow (redrawn w1 d) os) fun e w'' => e = .returned (.bool p) ∧ ∃ p : Regrown, w'' = grow (redrawn w1 p.d) p.os := fun d os => Calls.regrown_of (H14 _)
  have c15 : ∀ d os, Calls Tryd.prog 15 #[.agg #[.int .i64 s, .bool a, .bool b]] (grow (redrawn w1 d) os) fun e w'' => e = .returned (.bool true) ∧ ∃ p : Regrown, w'' = grow (redrawn w1 p.d) p.os := fun d os => Calls.regrown_of (H15 _)
  have k0 := cell_regrown c0
  have k1 := cell_regrown c1
  have k2 := cell_regrown c2
  clear c0 c1 c2 H13 H14 H15
  refine wp_region_quiet_below (by kernel_rfl) (by kernel_rfl) ?_
  repeat (quiet_step (first | (go_at_call 14; exact c14 _ _) | (go_at_call 15; exact c15 _ _)))
  refine wpQuiet_nil ?_
  intro _ hw'
  obtain ⟨⟨dq, osq⟩, hw''⟩ := hw'
  subst hw''
  have hb2 := below_regrown w1 dq osq
  obtain ⟨w2, hw2⟩ : ∃ w2, grow (redrawn w1 dq) osq = w2 := ⟨_, rfl⟩
  rw [hw2] at hb2 ⊢
  replace HW0 : Hid (Below w.heap.size w w2) := HW0.out.trans (hb2.mono HW0.out.size)
  replace HB0 : Hid (Blk w.heap.size _ 23 w2) := HB0.out.below hb2
  replace HB1 : Hid (Blk (w.heap.size + 1) _ 30 w2) := HB1.out.below hb2
  obtain ⟨c0, c1, c2, e0, e1, e2⟩ := blk3 HB0.out
  obtain ⟨d0, d1, d2, d3, d4, f0, f1, f2, f3, f4⟩ := blk5 HB1.out
  clear hw2 hb2 k0 k1 k2 c14 c15
  go_wp2_with (go_at_call 26; refine (H26 _).mono ?_; rintro e w3 ⟨rfl, rfl⟩)
  refine bodyPost_ret (v := .tuple #[.agg #[.int .i64 r, .bool a, .bool false, .bool b, .bool false], .int .i64 0]) (by simp [results, Tryd.results11, go_sem, d0, d1, d2, d3, d4]) rfl ⟨rfl, ?_⟩
  repeat (refine Below.setCell ?_ (by simp) _)
  exact HW0.out
set_option maxHeartbeats 2000000 in
theorem do2f (s r : Int) (p a b : Bool) (w : World) (H13 : ∀ W, Calls Tryd.prog 13 #[.agg #[.int .i64 s, .bool a, .bool b]] W fun e w' => e = .returned (.bool true) ∧ Below W.heap.size W w') (H14 : ∀ W, Calls Tryd.prog 14 #[.agg #[.int .i64 s, .bool a, .bool b]] W fun e w' => e = .returned (.bool p) ∧ Below W.heap.size W w') (H15 : ∀ W, Calls Tryd.prog 15 #[.agg #[.int .i64 s, .bool a, .bool b]] W fun e w' => e = .returned (.bool false) ∧ Below W.heap.size W w')
    (H26 : ∀ W, Calls Tryd.prog 26 #[.bool p, .bool b] W fun e w' => e = .returned (.int .i64 r) ∧ w' = W) :
    Calls Tryd.prog 11 #[.agg #[.int .i64 s, .bool a, .bool b], .int .i64 2] w fun e w' => e = .returned (.tuple #[.agg #[.int .i64 r, .bool a, .bool false, .bool b, .bool false], .int .i64 0]) ∧ Below w.heap.size w w' := by
  have HB0 : Hid (Blk w.heap.size #[.int .i64 s, .bool a, .bool b] 23 ((w.alloc (.cells #[.int .i64 s, .bool a, .bool b] 23)).alloc (.cells #[.int .i64 0, .bool false, .bool false, .bool false, .bool false] 30))) := Blk.new1 _ _ _ _
  have HB1 : Hid (Blk (w.heap.size + 1) #[.int .i64 0, .bool false, .bool false, .bool false, .bool false] 30 ((w.alloc (.cells #[.int .i64 s, .bool a, .bool b] 23)).alloc (.cells #[.int .i64 0, .bool false, .bool false, .bool false, .bool false] 30))) := Blk.new2 _ _ _ _
  have HW0 : Hid (Below w.heap.size w ((w.alloc (.cells #[.int .i64 s, .bool a, .bool b] 23)).alloc (.cells #[.int .i64 0, .bool false, .bool false, .bool false, .bool false] 30))) := (bw0 _ _).alloc (by simp) _
  go_enter Tryd.func11, Tryd.ntmps11
  go_wp2_with (go_at_call 13; refine (H13 _).mono ?_; rintro e w1 ⟨rfl, hb1⟩; replace HW0 : Hid (Below w.heap.size w w1) := HW0.out.trans (hb1.mono HW0.out.size); replace HB0 : Hid (Blk w.heap.size _ 23 w1) := HB0.out.below hb1; replace HB1 : Hid (Blk (w.heap.size + 1) _ 30 w1) := HB1.out.below hb1; obtain ⟨c0, c1, c2, _⟩ := blk3 HB0.out; clear hb1)
  have c14 : ∀ d os, Calls Tryd.prog 14 #[.agg #[.int .i64 s, .bool a, .bool b]] (grow (redrawn w1 d) os) fun e w'' => e = .returned (.bool p) ∧ ∃ p : Regrown, w'' = grow (redrawn w1 p.d) p.os := fun d os => Calls.regrown_of (H14 _)
  have c15 : ∀ d os, Calls Tryd.prog 15 #[.agg #[.int .i64 s, .bool a, .bool b]] (grow (redrawn w1 d) os) fun e w'' => e = .returned (.bool false) ∧ ∃ p : Regrown, w'' = grow (redrawn w1 p.d) p.os := fun d os => Calls.regrown_of (H15 _)
  have k0 := cell_regrown c0
  have k1 := cell_regrown c1
  have k2 := cell_regrown c2
  clear c0 c1 c2 H13 H14 H15
  refine wp_region_quiet_below (by kernel_rfl) (by kernel_rfl) ?_
  repeat (quiet_step (first | (go_at_call 14; exact c14 _ _) | (go_at_call 15; exact c15 _ _)))
  refine wpQuiet_nil ?_
  intro _ hw'
  obtain ⟨⟨dq, osq⟩, hw''⟩ := hw'
  subst hw''
  have hb2 := below_regrown w1 dq osq
  obtain ⟨w2, hw2⟩ : ∃ w2, grow (redrawn w1 dq) osq = w2 := ⟨_, rfl⟩
  rw [hw2] at hb2 ⊢
  replace HW0 : Hid (Below w.heap.size w w2) := HW0.out.trans (hb2.mono HW0.out.size)
  replace HB0 : Hid (Blk w.heap.size _ 23 w2) := HB0.out.below hb2
  replace HB1 : Hid (Blk (w.heap.size + 1) _ 30 w2) := HB1.out.below hb2
  obtain ⟨c0, c1, c2, e0, e1, e2⟩ := blk3 HB0.out
  obtain ⟨d0, d1, d2, d3, d4, f0, f1, f2, f3, f4⟩ := blk5 HB1.out
  clear hw2 hb2 k0 k1 k2 c14 c15
  go_wp2_with (go_at_call 26; refine (H26 _).mono ?_; rintro e w3 ⟨rfl, rfl⟩)
  refine bodyPost_ret (v := .tuple #[.agg #[.int .i64 r, .bool a, .bool false, .bool b, .bool false], .int .i64 0]) (by simp [results, Tryd.results11, go_sem, d0, d1, d2, d3, d4]) rfl ⟨rfl, ?_⟩
  repeat (refine Below.setCell ?_ (by simp) _)
  exact HW0.out
set_option maxHeartbeats 2000000 in
theorem do3t (s r : Int) (q a b : Bool) (w : World) (H13 : ∀ W, Calls Tryd.prog 13 #[.agg #[.int .i64 s, .bool a, .bool b]] W fun e w' => e = .returned (.bool true) ∧ Below W.heap.size W w') (H14 : ∀ W, Calls Tryd.prog 14 #[.agg #[.int .i64 s, .bool a, .bool b]] W fun e w' => e = .returned (.bool true) ∧ Below W.heap.size W w') (H15 : ∀ W, Calls Tryd.prog 15 #[.agg #[.int .i64 s, .bool a, .bool b]] W fun e w' => e = .returned (.bool q) ∧ Below W.heap.size W w')
    (H26 : ∀ W, Calls Tryd.prog 26 #[.bool false, .bool q] W fun e w' => e = .returned (.int .i64 r) ∧ w' = W) :
    Calls Tryd.prog 11 #[.agg #[.int .i64 s, .bool a, .bool b], .int .i64 3] w fun e w' => e = .returned (.tuple #[.agg #[.int .i64 r, .bool false, .bool b, .bool true, .bool false], .int .i64 0]) ∧ Below w.heap.size w w' := by
  have HB0 : Hid (Blk w.heap.size #[.int .i64 s, .bool a, .bool b] 23 ((w.alloc (.cells #[.int .i64 s, .bool a, .bool b] 23)).alloc (.cells #[.int .i64 0, .bool false, .bool false, .bool false, .bool false] 30))) := Blk.new1 _ _ _ _
  have HB1 : Hid (Blk (w.heap.size + 1) #[.int .i64 0, .bool false, .bool false, .bool false, .bool false] 30 ((w.alloc (.cells #[.int .i64 s, .bool a, .bool b] 23)).alloc (.cells #[.int .i64 0, .bool false, .bool false, .bool false, .bool false] 30))) := Blk.new2 _ _ _ _
  have HW0 : Hid (Below w.heap.size w ((w.alloc (.cells #[.int .i64 s, .bool a, .bool b] 23)).alloc (.cells #[.int .i64 0, .bool false, .bool false, .bool false, .bool false] 30))) := (bw0 _ _).alloc (by simp) _
  go_enter Tryd.func11, Tryd.ntmps11
  go_wp2_with (go_at_call 13; refine (H13 _).mono ?_; rintro e w1 ⟨rfl, hb1⟩; replace HW0 : Hid (Below w.heap.size w w1) := HW0.out.trans (hb1.mono HW0.out.size); replace HB0 : Hid (Blk w.heap.size _ 23 w1) := HB0.out.below hb1; replace HB1 : Hid (Blk (w.heap.size + 1) _ 30 w1) := HB1.out.below hb1; obtain ⟨c0, c1, c2, _⟩ := blk3 HB0.out; clear hb1)
  have c14 : ∀ d os, Calls Tryd.prog 14 #[.agg #[.int .i64 s, .bool a, .bool b]] (grow (redrawn w1 d) os) fun e w'' => e = .returned (.bool true) ∧ ∃ p : Regrown, w'' = grow (redrawn w1 p.d) p.os := fun d os => Calls.regrown_of (H14 _)
  have c15 : ∀ d os, Calls Tryd.prog 15 #[.agg #[.int .i64 s, .bool a, .bool b]] (grow (redrawn w1 d) os) fun e w'' => e = .returned (.bool q) ∧ ∃ p : Regrown, w'' = grow (redrawn w1 p.d) p.os := fun d os => Calls.regrown_of (H15 _)
  have k0 := cell_regrown c0
  have k1 := cell_regrown c1
  have k2 := cell_regrown c2
  clear c0 c1 c2 H13 H14 H15
  refine wp_region_quiet_below (by kernel_rfl) (by kernel_rfl) ?_
  repeat (quiet_step (first | (go_at_call 14; exact c14 _ _) | (go_at_call 15; exact c15 _ _)))
  refine wpQuiet_nil ?_
  intro _ hw'
  obtain ⟨⟨dq, osq⟩, hw''⟩ := hw'
  subst hw''
  have hb2 := below_regrown w1 dq osq
  obtain ⟨w2, hw2⟩ : ∃ w2, grow (redrawn w1 dq) osq = w2 := ⟨_, rfl⟩
  rw [hw2] at hb2 ⊢
  replace HW0 : Hid (Below w.heap.size w w2) := HW0.out.trans (hb2.mono HW0.out.size)
  replace HB0 : Hid (Blk w.heap.size _ 23 w2) := HB0.out.below hb2
  replace HB1 : Hid (Blk (w.heap.size + 1) _ 30 w2) := HB1.out.below hb2
  obtain ⟨c0, c1, c2, e0, e1, e2⟩ := blk3 HB0.out
  obtain ⟨d0, d1, d2, d3, d4, f0, f1, f2, f3, f4⟩ := blk5 HB1.out
  clear hw2 hb2 k0 k1 k2 c14 c15
  go_wp2_with (go_at_call 26; refine (H26 _).mono ?_; rintro e w3 ⟨rfl, rfl⟩)
  refine bodyPost_ret (v := .tuple #[.agg #[.int .i64 r, .bool false, .bool b, .bool true, .bool false], .int .i64 0]) (by simp [results, Tryd.results11, go_sem, d0, d1, d2, d3, d4]) rfl ⟨rfl, ?_⟩
  repeat (refine Below.setCell ?_ (by simp) _)
  exact HW0.out
set_option maxHeartbeats 2000000 in
theorem do3f (s r : Int) (q a b : Bool) (w : World) (H13 : ∀ W, Calls Tryd.prog 13 #[.agg #[.int .i64 s, .bool a, .bool b]] W fun e w' => e = .returned (.bool true) ∧ Below W.heap.size W w') (H14 : ∀ W, Calls Tryd.prog 14 #[.agg #[.int .i64 s, .bool a, .bool b]] W fun e w' => e = .returned (.bool false) ∧ Below W.heap.size W w') (H15 : ∀ W, Calls Tryd.prog 15 #[.agg #[.int .i64 s, .bool a, .bool b]] W fun e w' => e = .returned (.bool q) ∧ Below W.heap.size W w')
    (H26 : ∀ W, Calls Tryd.prog 26 #[.bool false, .bool q] W fun e w' => e = .returned (.int .i64 r) ∧ w' = W) :
    Calls Tryd.prog 11 #[.agg #[.int .i64 s, .bool a, .bool b], .int .i64 3] w fun e w' => e = .returned (.tuple #[.agg #[.int .i64 r, .bool false, .bool b, .bool a, .bool false], .int .i64 0]) ∧ Below w.heap.size w w' := by
  have HB0 : Hid (Blk w.heap.size #[.int .i64 s, .bool a, .bool b] 23 ((w.alloc (.cells #[.int .i64 s, .bool a, .bool b] 23)).alloc (.cells #[.int .i64 0, .bool false, .bool false, .bool false, .bool false] 30))) := Blk.new1 _ _ _ _
  have HB1 : Hid (Blk (w.heap.size + 1) #[.int .i64 0, .bool false, .bool false, .bool false, .bool false] 30 ((w.alloc (.cells #[.int .i64 s, .bool a, .bool b] 23)).alloc (.cells #[.int .i64 0, .bool false, .bool false, .bool false, .bool false] 30))) := Blk.new2 _ _ _ _
  have HW0 : Hid (Below w.heap.size w ((w.alloc (.cells #[.int .i64 s, .bool a, .bool b] 23)).alloc (.cells #[.int .i64 0, .bool false, .bool false, .bool false, .bool false] 30))) := (bw0 _ _).alloc (by simp) _
  go_enter Tryd.func11, Tryd.ntmps11
  go_wp2_with (go_at_call 13; refine (H13 _).mono ?_; rintro e w1 ⟨rfl, hb1⟩; replace HW0 : Hid (Below w.heap.size w w1) := HW0.out.trans (hb1.mono HW0.out.size); replace HB0 : Hid (Blk w.heap.size _ 23 w1) := HB0.out.below hb1; replace HB1 : Hid (Blk (w.heap.size + 1) _ 30 w1) := HB1.out.below hb1; obtain ⟨c0, c1, c2, _⟩ := blk3 HB0.out; clear hb1)
  have c14 : ∀ d os, Calls Tryd.prog 14 #[.agg #[.int .i64 s, .bool a, .bool b]] (grow (redrawn w1 d) os) fun e w'' => e = .returned (.bool false) ∧ ∃ p : Regrown, w'' = grow (redrawn w1 p.d) p.os := fun d os => Calls.regrown_of (H14 _)
  have c15 : ∀ d os, Calls Tryd.prog 15 #[.agg #[.int .i64 s, .bool a, .bool b]] (grow (redrawn w1 d) os) fun e w'' => e = .returned (.bool q) ∧ ∃ p : Regrown, w'' = grow (redrawn w1 p.d) p.os := fun d os => Calls.regrown_of (H15 _)
  have k0 := cell_regrown c0
  have k1 := cell_regrown c1
  have k2 := cell_regrown c2
  clear c0 c1 c2 H13 H14 H15
  refine wp_region_quiet_below (by kernel_rfl) (by kernel_rfl) ?_
  repeat (quiet_step (first | (go_at_call 14; exact c14 _ _) | (go_at_call 15; exact c15 _ _)))
  refine wpQuiet_nil ?_
  intro _ hw'
  obtain ⟨⟨dq, osq⟩, hw''⟩ := hw'
  subst hw''
  have hb2 := below_regrown w1 dq osq
  obtain ⟨w2, hw2⟩ : ∃ w2, grow (redrawn w1 dq) osq = w2 := ⟨_, rfl⟩
  rw [hw2] at hb2 ⊢
  replace HW0 : Hid (Below w.heap.size w w2) := HW0.out.trans (hb2.mono HW0.out.size)
  replace HB0 : Hid (Blk w.heap.size _ 23 w2) := HB0.out.below hb2
  replace HB1 : Hid (Blk (w.heap.size + 1) _ 30 w2) := HB1.out.below hb2
  obtain ⟨c0, c1, c2, e0, e1, e2⟩ := blk3 HB0.out
  obtain ⟨d0, d1, d2, d3, d4, f0, f1, f2, f3, f4⟩ := blk5 HB1.out
  clear hw2 hb2 k0 k1 k2 c14 c15
  go_wp2_with (go_at_call 26; refine (H26 _).mono ?_; rintro e w3 ⟨rfl, rfl⟩)
  refine bodyPost_ret (v := .tuple #[.agg #[.int .i64 r, .bool false, .bool b, .bool a, .bool false], .int .i64 0]) (by simp [results, Tryd.results11, go_sem, d0, d1, d2, d3, d4]) rfl ⟨rfl, ?_⟩
  repeat (refine Below.setCell ?_ (by simp) _)
  exact HW0.out
set_option maxHeartbeats 2000000 in
theorem do4t (s r : Int) (p a b : Bool) (w : World) (H13 : ∀ W, Calls Tryd.prog 13 #[.agg #[.int .i64 s, .bool a, .bool b]] W fun e w' => e = .returned (.bool true) ∧ Below W.heap.size W w') (H14 : ∀ W, Calls Tryd.prog 14 #[.agg #[.int .i64 s, .bool a, .bool b]] W fun e w' => e = .returned (.bool p) ∧ Below W.heap.size W w') (H15 : ∀ W, Calls Tryd.prog 15 #[.agg #[.int .i64 s, .bool a, .bool b]] W fun e w' => e = .returned (.bool true) ∧ Below W.heap.size W w')
    (H26 : ∀ W, Calls Tryd.prog 26 #[.bool p, .bool false] W fun e w' => e = .returned (.int .i64 r) ∧ w' = W) :
    Calls Tryd.prog 11 #[.agg #[.int .i64 s, .bool a, .bool b], .int .i64 4] w fun e w' => e = .returned (.tuple #[.agg #[.int .i64 r, .bool a, .bool false, .bool true, .bool false], .int .i64 0]) ∧ Below w.heap.size w w' := by
  have HB0 : Hid (Blk w.heap.size #[.int .i64 s, .bool a, .bool b] 23 ((w.alloc (.cells #[.int .i64 s, .bool a, .bool b] 23)).alloc (.cells #[.int .i64 0, .bool false, .bool false, .bool false, .bool false] 30))) := Blk.new1 _ _ _ _
  have HB1 : Hid (Blk (w.heap.size + 1) #[.int .i64 0, .bool false, .bool false, .bool false, .bool false] 30 ((w.alloc (.cells #[.int .i64 s, .bool a, .bool b] 23)).alloc (.cells #[.int .i64 0, .bool false, .bool false, .bool false, .bool false] 30))) := Blk.new2 _ _ _ _
  have HW0 : Hid (Below w.heap.size w ((w.alloc (.cells #[.int .i64 s, .bool a, .bool b] 23)).alloc (.cells #[.int .i64 0, .bool false, .bool false, .bool false, .bool false] 30))) := (bw0 _ _).alloc (by simp) _
  go_enter Tryd.func11, Tryd.ntmps11
  go_wp2_with (go_at_call 13; refine (H13 _).mono ?_; rintro e w1 ⟨rfl, hb1⟩; replace HW0 : Hid (Below w.heap.size w w1) := HW0.out.trans (hb1.mono HW0.out.size); replace HB0 : Hid (Blk w.heap.size _ 23 w1) := HB0.out.below hb1; replace HB1 : Hid (Blk (w.heap.size + 1) _ 30 w1) := HB1.out.below hb1; obtain ⟨c0, c1, c2, _⟩ := blk3 HB0.out; clear hb1)
  have c14 : ∀ d os, Calls Tryd.prog 14 #[.agg #[.int .i64 s, .bool a, .bool b]] (grow (redrawn w1 d) os) fun e w'' => e = .returned (.bool p) ∧ ∃ p : Regrown, w'' = grow (redrawn w1 p.d) p.os := fun d os => Calls.regrown_of (H14 _)
  have c15 : ∀ d os, Calls Tryd.prog 15 #[.agg #[.int .i64 s, .bool a, .bool b]] (grow (redrawn w1 d) os) fun e w'' => e = .returned (.bool true) ∧ ∃ p : Regrown, w'' = grow (redrawn w1 p.d) p.os := fun d os => Calls.regrown_of (H15 _)
  have k0 := cell_regrown c0
  have k1 := cell_regrown c1
  have k2 := cell_regrown c2
  clear c0 c1 c2 H13 H14 H15
  refine wp_region_quiet_below (by kernel_rfl) (by kernel_rfl) ?_
  repeat (quiet_step (first | (go_at_call 14; exact c14 _ _) | (go_at_call 15; exact c15 _ _)))
  refine wpQuiet_nil ?_
  intro _ hw'
  obtain ⟨⟨dq, osq⟩, hw''⟩ := hw'
  subst hw''
  have hb2 := below_regrown w1 dq osq
  obtain ⟨w2, hw2⟩ : ∃ w2, grow (redrawn w1 dq) osq = w2 := ⟨_, rfl⟩
  rw [hw2] at hb2 ⊢
  replace HW0 : Hid (Below w.heap.size w w2) := HW0.out.trans (hb2.mono HW0.out.size)
  replace HB0 : Hid (Blk w.heap.size _ 23 w2) := HB0.out.below hb2
  replace HB1 : Hid (Blk (w.heap.size + 1) _ 30 w2) := HB1.out.below hb2
  obtain ⟨c0, c1, c2, e0, e1, e2⟩ := blk3 HB0.out
  obtain ⟨d0, d1, d2, d3, d4, f0, f1, f2, f3, f4⟩ := blk5 HB1.out
  clear hw2 hb2 k0 k1 k2 c14 c15
  go_wp2_with (go_at_call 26; refine (H26 _).mono ?_; rintro e w3 ⟨rfl, rfl⟩)
  refine bodyPost_ret (v := .tuple #[.agg #[.int .i64 r, .bool a, .bool false, .bool true, .bool false], .int .i64 0]) (by simp [results, Tryd.results11, go_sem, d0, d1, d2, d3, d4]) rfl ⟨rfl, ?_⟩
  repeat (refine Below.setCell ?_ (by simp) _)
  exact HW0.out
set_option maxHeartbeats 2000000 in
theorem do4f (s r : Int) (p a b : Bool) (w : World) (H13 : ∀ W, Calls Tryd.prog 13 #[.agg #[.int .i64 s, .bool a, .bool b]] W fun e w' => e = .returned (.bool true) ∧ Below W.heap.size W w') (H14 : ∀ W, Calls Tryd.prog 14 #[.agg #[.int .i64 s, .bool a, .bool b]] W fun e w' => e = .returned (.bool p) ∧ Below W.heap.size W w') (H15 : ∀ W, Calls Tryd.prog 15 #[.agg #[.int .i64 s, .bool a, .bool b]] W fun e w' => e = .returned (.bool false) ∧ Below W.heap.size W w')
    (H26 : ∀ W, Calls Tryd.prog 26 #[.bool p, .bool false] W fun e w' => e = .returned (.int .i64 r) ∧ w' = W) :
    Calls Tryd.prog 11 #[.agg #[.int .i64 s, .bool a, .bool b], .int .i64 4] w fun e w' => e = .returned (.tuple #[.agg #[.int .i64 r, .bool a, .bool false, .bool b, .bool false], .int .i64 0]) ∧ Below w.heap.size w w' := by
  have HB0 : Hid (Blk w.heap.size #[.int .i64 s, .bool a, .bool b] 23 ((w.alloc (.cells #[.int .i64 s, .bool a, .bool b] 23)).alloc (.cells #[.int .i64 0, .bool false, .bool false, .bool false, .bool false] 30))) := Blk.new1 _ _ _ _
  have HB1 : Hid (Blk (w.heap.size + 1) #[.int .i64 0, .bool false, .bool false, .bool false, .bool false] 30 ((w.alloc (.cells #[.int .i64 s, .bool a, .bool b] 23)).alloc (.cells #[.int .i64 0, .bool false, .bool false, .bool false, .bool false] 30))) := Blk.new2 _ _ _ _
  have HW0 : Hid (Below w.heap.size w ((w.alloc (.cells #[.int .i64 s, .bool a, .bool b] 23)).alloc (.cells #[.int .i64 0, .bool false, .bool false, .bool false, .bool false] 30))) := (bw0 _ _).alloc (by simp) _
  go_enter Tryd.func11, Tryd.ntmps11
  go_wp2_with (go_at_call 13; refine (H13 _).mono ?_; rintro e w1 ⟨rfl, hb1⟩; replace HW0 : Hid (Below w.heap.size w w1) := HW0.out.trans (hb1.mono HW0.out.size); replace HB0 : Hid (Blk w.heap.size _ 23 w1) := HB0.out.below hb1; replace HB1 : Hid (Blk (w.heap.size + 1) _ 30 w1) := HB1.out.below hb1; obtain ⟨c0, c1, c2, _⟩ := blk3 HB0.out; clear hb1)
  have c14 : ∀ d os, Calls Tryd.prog 14 #[.agg #[.int .i64 s, .bool a, .bool b]] (grow (redrawn w1 d) os) fun e w'' => e = .returned (.bool p) ∧ ∃ p : Regrown, w'' = grow (redrawn w1 p.d) p.os := fun d os => Calls.regrown_of (H14 _)
  have c15 : ∀ d os, Calls Tryd.prog 15 #[.agg #[.int .i64 s, .bool a, .bool b]] (grow (redrawn w1 d) os) fun e w'' => e = .returned (.bool false) ∧ ∃ p : Regrown, w'' = grow (redrawn w1 p.d) p.os := fun d os => Calls.regrown_of (H15 _)
  have k0 := cell_regrown c0
  have k1 := cell_regrown c1
  have k2 := cell_regrown c2
  clear c0 c1 c2 H13 H14 H15
  refine wp_region_quiet_below (by kernel_rfl) (by kernel_rfl) ?_
  repeat (quiet_step (first | (go_at_call 14; exact c14 _ _) | (go_at_call 15; exact c15 _ _)))
  refine wpQuiet_nil ?_
  intro _ hw'
  obtain ⟨⟨dq, osq⟩, hw''⟩ := hw'
  subst hw''
  have hb2 := below_regrown w1 dq osq
  obtain ⟨w2, hw2⟩ : ∃ w2, grow (redrawn w1 dq) osq = w2 := ⟨_, rfl⟩
  rw [hw2] at hb2 ⊢
  replace HW0 : Hid (Below w.heap.size w w2) := HW0.out.trans (hb2.mono HW0.out.size)
  replace HB0 : Hid (Blk w.heap.size _ 23 w2) := HB0.out.below hb2
  replace HB1 : Hid (Blk (w.heap.size + 1) _ 30 w2) := HB1.out.below hb2
  obtain ⟨c0, c1, c2, e0, e1, e2⟩ := blk3 HB0.out
  obtain ⟨d0, d1, d2, d3, d4, f0, f1, f2, f3, f4⟩ := blk5 HB1.out
  clear hw2 hb2 k0 k1 k2 c14 c15
  go_wp2_with (go_at_call 26; refine (H26 _).mono ?_; rintro e w3 ⟨rfl, rfl⟩)
  refine bodyPost_ret (v := .tuple #[.agg #[.int .i64 r, .bool a, .bool false, .bool b, .bool false], .int .i64 0]) (by simp [results, Tryd.results11, go_sem, d0, d1, d2, d3, d4]) rfl ⟨rfl, ?_⟩
  repeat (refine Below.setCell ?_ (by simp) _)
  exact HW0.out
/-- A side that sees, is seen, has asked, is wanted. -/
structure Sd where
  p : Bool
  q : Bool
  a : Bool
  b : Bool
def Sd.ok (s : Sd) : Bool := okN s.p s.q s.a s.b
def Sd.sub (s : Sd) : Int := subN s.p s.q
/-- Behind one's own act; is it told? -/
def doS (k : Nat) (s : Sd) : Sd :=
  if k = 1 then ⟨s.p, s.q, !s.p, s.b⟩ else if k = 2 then ⟨s.p, s.q || s.b, s.a, false⟩ else if k = 3 then ⟨false, s.q, false, s.b⟩ else ⟨s.p, false, s.a, false⟩
def doT (k : Nat) (s : Sd) : Bool := if k = 1 then true else if k = 2 then s.b else if k = 3 then s.p || s.a else s.q || s.b
theorem do_any (k : Nat) (hk : 1 ≤ k ∧ k ≤ 4) (s : Sd) (hok : s.ok = true) (w : World) :
    Calls Tryd.prog 11 #[.agg #[.int .i64 s.sub, .bool s.a, .bool s.b], .int .i64 (k : Int)] w fun e w' => e = .returned (.tuple #[.agg #[.int .i64 (doS k s).sub, .bool (doS k s).a, .bool (doS k s).b, .bool (doT k s), .bool false], .int .i64 0]) ∧ Below w.heap.size w w' := by
  obtain ⟨p, q, a, b⟩ := s
  have H13 : ∀ W, Calls Tryd.prog 13 #[.agg #[.int .i64 (subN p q), .bool a, .bool b]] W fun e w' => e = .returned (.bool true) ∧ Below W.heap.size W w' := fun W => by
    have := right_any p q a b W
    rw [show okN p q a b = true from hok] at this
    exact this
  obtain ⟨h1, h2⟩ := hk
  have hc : k = 1 ∨ k = 2 ∨ k = 3 ∨ k = 4 := by omega
  rcases hc with rfl | rfl | rfl | rfl
  · exact do1 _ _ p q a b w H13 (sees_any p q a b) (seen_any p q a b) (sub_any p q)
  · cases q
    · exact do2f _ _ p a b w H13 (sees_any p false a b) (seen_any p false a b) (sub_any p b)
    · exact do2t _ _ p a b w H13 (sees_any p true a b) (seen_any p true a b) (sub_any p true)
  · cases p
    · exact do3f _ _ q a b w H13 (sees_any false q a b) (seen_any false q a b) (sub_any false q)
    · exact do3t _ _ q a b w H13 (sees_any true q a b) (seen_any true q a b) (sub_any false q)
  · cases q
    · exact do4f _ _ p a b w H13 (sees_any p false a b) (seen_any p false a b) (sub_any p false)
    · exact do4t _ _ p a b w H13 (sees_any p true a b) (seen_any p true a b) (sub_any p false)
end Go.Proofs.YtojeeopmhogolaaDoor
