/-
  Do and Hear where the side may not be, or there is no such act; Hear at every side and every act.
-/
import Derived.Test.YtojeeopmhogolaaDoorPcd
namespace Go.Proofs.YtojeeopmhogolaaDoor
open Go Go.RowKit Go.Sort
set_option maxHeartbeats 2000000 in
theorem do_act (s act : Int) (p q a b : Bool) (w : World) (x1 : (act == 1) = false) (x2 : (act == 2) = false) (x3 : (act == 3) = false) (x4 : (act == 4) = false) (H13 : ∀ W, Calls Tryd.prog 13 #[.agg #[.int .i64 s, .bool a, .bool b]] W fun e w' => e = .returned (.bool true) ∧ Below W.heap.size W w') (H14 : ∀ W, Calls Tryd.prog 14 #[.agg #[.int .i64 s, .bool a, .bool b]] W fun e w' => e = .returned (.bool p) ∧ Below W.heap.size W w') (H15 : ∀ W, Calls Tryd.prog 15 #[.agg #[.int .i64 s, .bool a, .bool b]] W fun e w' => e = .returned (.bool q) ∧ Below W.heap.size W w') :
    Calls Tryd.prog 11 #[.agg #[.int .i64 s, .bool a, .bool b], .int .i64 act] w fun e w' => e = .returned (.tuple #[.agg #[.int .i64 0, .bool false, .bool false, .bool false, .bool false], .int .i64 1]) ∧ Below w.heap.size w w' := by
  have HB0 : Hid (Blk w.heap.size #[.int .i64 s, .bool a, .bool b] 23 ((w.alloc (.cells #[.int .i64 s, .bool a, .bool b] 23)).alloc (.cells #[.int .i64 0, .bool false, .bool false, .bool false, .bool false] 30))) := Blk.new1 _ _ _ _
  have HB1 : Hid (Blk (w.heap.size + 1) #[.int .i64 0, .bool false, .bool false, .bool false, .bool false] 30 ((w.alloc (.cells #[.int .i64 s, .bool a, .bool b] 23)).alloc (.cells #[.int .i64 0, .bool false, .bool false, .bool false, .bool false] 30))) := Blk.new2 _ _ _ _
  have HW0 : Hid (Below w.heap.size w ((w.alloc (.cells #[.int .i64 s, .bool a, .bool b] 23)).alloc (.cells #[.int .i64 0, .bool false, .bool false, .bool false, .bool false] 30))) := (bw0 _ _).alloc (by simp) _
  go_enter Tryd.func11, Tryd.ntmps11
  go_wp2_with (go_at_call 13; refine (H13 _).mono ?_; rintro e w1 ⟨rfl, hb1⟩; replace HW0 : Hid (Below w.heap.size w w1) := HW0.out.trans (hb1.mono HW0.out.size); replace HB0 : Hid (Blk w.heap.size _ 23 w1) := HB0.out.below hb1; replace HB1 : Hid (Blk (w.heap.size + 1) _ 30 w1) := HB1.out.below hb1; obtain ⟨c0, c1, c2, _⟩ := blk3 HB0.out; clear hb1)
  have c14 : ∀ d os, Calls Tryd.prog 14 #[.agg #[.int .i64 s, .bool a, .bool b]] (grow (redrawn w1 d) os) fun e w'' => e = .returned (.bool p) ∧ ∃ p : Regrown, w'' = grow (redrawn w1 p.d) p.os := fun d os => Calls.regrown_of (H14 _)
  have c15 : ∀ d os, Calls Tryd.prog 15 #[.agg #[.int .i64 s, .bool a, .bool b]] (grow (redrawn w1 d) os) fun e w'' => e = .returned (.bool q) ∧ ∃ p : Regrown, w'' = grow (redrawn w1 p.d) p.os := fun d os => Calls.regrown_of (H15 _)
  have k0 := cell_regrown c0
  have k1 := cell_regrown c1
  have k2 := cell_regrown c2
  clear c0 c1 c2 H13 H14 H15
  refine wp_region_quiet_below (by kernel_rfl) (by kernel_rfl) ?_
  repeat (quiet_step (first | (go_at_call 14; exact c14 _ _) | (go_at_call 15; exact c15 _ _)))
  refine wpQuiet_nil ?_
  intro _ hw'
  obtain ⟨⟨dq, osq⟩, hw''⟩ := hw'
  subst hw''
  have hb2 := below_regrown w1 dq osq
  obtain ⟨w2, hw2⟩ : ∃ w2, grow (redrawn w1 dq) osq = w2 := ⟨_, rfl⟩
  rw [hw2] at hb2 ⊢
  replace HW0 : Hid (Below w.heap.size w w2) := HW0.out.trans (hb2.mono HW0.out.size)
  replace HB0 : Hid (Blk w.heap.size _ 23 w2) := HB0.out.below hb2
  replace HB1 : Hid (Blk (w.heap.size + 1) _ 30 w2) := HB1.out.below hb2
  obtain ⟨c0, c1, c2, e0, e1, e2⟩ := blk3 HB0.out
  obtain ⟨d0, d1, d2, d3, d4, f0, f1, f2, f3, f4⟩ := blk5 HB1.out
  clear hw2 hb2 k0 k1 k2 c14 c15
  go_wp2_with fail
  refine bodyPost_ret (v := .tuple #[.agg #[.int .i64 0, .bool false, .bool false, .bool false, .bool false], .int .i64 1]) (by simp [results, Tryd.results11, go_sem, d0, d1, d2, d3, d4]) rfl ⟨rfl, ?_⟩
  repeat (refine Below.setCell ?_ (by simp) _)
  exact HW0.out
/-- A number is a state's, or none's. -/
theorem side_cases (x : Int) : (∃ p q, x = subN p q) ∨ (¬ x = 0 ∧ ¬ x = 1 ∧ ¬ x = 2 ∧ ¬ x = 3) := by
  by_cases h0 : x = 0
  · exact .inl ⟨false, false, h0⟩
  · by_cases h1 : x = 1
    · exact .inl ⟨true, false, h1⟩
    · by_cases h2 : x = 2
      · exact .inl ⟨false, true, h2⟩
      · by_cases h3 : x = 3
        · exact .inl ⟨true, true, h3⟩
        · exact .inr ⟨h0, h1, h2, h3⟩
theorem act_cases (act : Int) : (∃ k : Nat, act = (k : Int) ∧ 1 ≤ k ∧ k ≤ 4) ∨ (¬ act = 1 ∧ ¬ act = 2 ∧ ¬ act = 3 ∧ ¬ act = 4) := by
  by_cases h : 1 ≤ act ∧ act ≤ 4
  · exact .inl ⟨act.toNat, by omega, by omega, by omega⟩
  · exact .inr ⟨by omega, by omega, by omega, by omega⟩
/-- A side that may not be. -/
def Off (x : Int) (a b : Bool) : Prop := (¬ x = 0 ∧ ¬ x = 1 ∧ ¬ x = 2 ∧ ¬ x = 3) ∨ ∃ p q, x = subN p q ∧ okN p q a b = false
def NoAct (act : Int) : Prop := ¬ act = 1 ∧ ¬ act = 2 ∧ ¬ act = 3 ∧ ¬ act = 4
theorem mirrored_off (x : Int) (a b : Bool) (h : ¬ x = 0 ∧ ¬ x = 1 ∧ ¬ x = 2 ∧ ¬ x = 3) (w : World) : Calls Tryd.prog 27 #[.agg #[.int .i64 x, .bool a, .bool b]] w fun e w' => e = .returned (.agg #[.int .i64 x, .bool b, .bool a]) ∧ Below w.heap.size w w' := by
  obtain ⟨_, h1, h2, _⟩ := h
  have x1 : (x == 1) = false := by simp [h1]
  have x2 : (x == 2) = false := by simp [h2]
  go_enter Tryd.func27, Tryd.ntmps27
  go_wp2_with fail
  exact bodyPost_ret (v := .agg #[.int .i64 x, .bool b, .bool a]) (by simp [results, Tryd.results27, go_sem]) rfl ⟨rfl, ((bw0 _ _).alloc (by simp) _).alloc (by simp; omega) _⟩
theorem right_no (x : Int) (a b : Bool) (h : Off x a b) (w : World) : Calls Tryd.prog 13 #[.agg #[.int .i64 x, .bool a, .bool b]] w fun e w' => e = .returned (.bool false) ∧ Below w.heap.size w w' := by
  rcases h with ⟨h0, h1, h2, h3⟩ | ⟨p, q, rfl, h⟩
  · exact right_off x a b w h0 h1 h2 h3
  · have := right_any p q a b w
    rw [h] at this
    exact this
theorem do_no (x : Int) (a b : Bool) (act : Int) (h : Off x a b ∨ NoAct act) (w : World) :
    Calls Tryd.prog 11 #[.agg #[.int .i64 x, .bool a, .bool b], .int .i64 act] w fun e w' => e = .returned (.tuple #[.agg #[.int .i64 0, .bool false, .bool false, .bool false, .bool false], .int .i64 1]) ∧ Below w.heap.size w w' := by
  have key : ∀ (x : Int), Off x a b → Calls Tryd.prog 11 #[.agg #[.int .i64 x, .bool a, .bool b], .int .i64 act] w fun e w' => e = .returned (.tuple #[.agg #[.int .i64 0, .bool false, .bool false, .bool false, .bool false], .int .i64 1]) ∧ Below w.heap.size w w' :=
    fun x h => do_side x a b act w fun W => right_no x a b h W
  rcases h with h | ⟨h1, h2, h3, h4⟩
  · exact key x h
  · rcases side_cases x with ⟨p, q, rfl⟩ | h
    · cases hok : okN p q a b
      · exact key _ (.inr ⟨p, q, rfl, hok⟩)
      · have H13 : ∀ W, Calls Tryd.prog 13 #[.agg #[.int .i64 (subN p q), .bool a, .bool b]] W fun e w' => e = .returned (.bool true) ∧ Below W.heap.size W w' := fun W => by
          have := right_any p q a b W
          rw [hok] at this
          exact this
        exact do_act _ act p q a b w (by simp [h1]) (by simp [h2]) (by simp [h3]) (by simp [h4]) H13 (sees_any p q a b) (seen_any p q a b)
    · exact key x (.inl h)
set_option maxHeartbeats 1000000 in
theorem hear_err (s s' : Int) (a b a' b' : Bool) (act : Int) (w : World)
    (H27 : ∀ W, Calls Tryd.prog 27 #[.agg #[.int .i64 s, .bool a, .bool b]] W fun e w' => e = .returned (.agg #[.int .i64 s', .bool a', .bool b']) ∧ Below W.heap.size W w')
    (H11 : ∀ W, Calls Tryd.prog 11 #[.agg #[.int .i64 s', .bool a', .bool b'], .int .i64 act] W fun e w' => e = .returned (.tuple #[.agg #[.int .i64 0, .bool false, .bool false, .bool false, .bool false], .int .i64 1]) ∧ Below W.heap.size W w') :
    Calls Tryd.prog 12 #[.agg #[.int .i64 s, .bool a, .bool b], .int .i64 act] w fun e w' => e = .returned (.tuple #[.agg #[.int .i64 0, .bool false, .bool false, .bool false, .bool false], .int .i64 1]) ∧ Below w.heap.size w w' := by
  have HB1 : Hid (Blk (w.heap.size + 1) #[.int .i64 0, .bool false, .bool false, .bool false, .bool false] 30 ((w.alloc (.cells #[.int .i64 s, .bool a, .bool b] 23)).alloc (.cells #[.int .i64 0, .bool false, .bool false, .bool false, .bool false] 30))) := Blk.new2 _ _ _ _
  have HW0 : Hid (Below w.heap.size w ((w.alloc (.cells #[.int .i64 s, .bool a, .bool b] 23)).alloc (.cells #[.int .i64 0, .bool false, .bool false, .bool false, .bool false] 30))) := (bw0 _ _).alloc (by simp) _
  go_enter Tryd.func12, Tryd.ntmps12
  go_wp2_with (first
    | (go_at_call 11; refine (H11 _).mono ?_; rintro e w2 ⟨rfl, hb2⟩; replace HW0 : Hid (Below w.heap.size w w2) := HW0.out.trans (hb2.mono HW0.out.size); replace HB1 : Hid (Blk (w.heap.size + 1) _ 30 w2) := HB1.out.below hb2; obtain ⟨d0, d1, d2, d3, d4, f0, f1, f2, f3, f4⟩ := blk5 HB1.out; have hl : ¬ w2.heap.size = w.heap.size + 1 := (Nat.ne_of_lt HB1.out.lt).symm; have hl2 : ¬ w.heap.size + 1 = w2.heap.size := Nat.ne_of_lt HB1.out.lt; have hl3 : w.heap.size + 1 < w2.heap.size := HB1.out.lt; clear hb2)
    | (go_at_call 27; refine (H27 _).mono ?_; rintro e w1 ⟨rfl, hb1⟩; replace HW0 : Hid (Below w.heap.size w w1) := HW0.out.trans (hb1.mono HW0.out.size); replace HB1 : Hid (Blk (w.heap.size + 1) _ 30 w1) := HB1.out.below hb1; clear hb1))
  have HF : Blk (w.heap.size + 1) #[.int .i64 0, .bool false, .bool false, .bool false, .bool false] 30 ((((((w2.setCell ⟨w.heap.size + 1, 0, none⟩ (.int .i64 0)).setCell ⟨w.heap.size + 1, 1, none⟩ (.bool false)).setCell ⟨w.heap.size + 1, 2, none⟩ (.bool false)).setCell ⟨w.heap.size + 1, 3, none⟩ (.bool false)).setCell ⟨w.heap.size + 1, 4, none⟩ (.bool false)).alloc (.cells #[.int .i64 0, .bool false, .bool false, .bool false, .bool false] 30)) := (((((HB1.out.set 0 _).set 1 _).set 2 _).set 3 _).set 4 _).below (bw0 _ _)
  obtain ⟨d0, d1, d2, d3, d4, _⟩ := blk5 HF
  refine bodyPost_ret (v := .tuple #[.agg #[.int .i64 0, .bool false, .bool false, .bool false, .bool false], .int .i64 1]) (by simp [results, Tryd.results12, go_sem, d0, d1, d2, d3, d4]) rfl ⟨rfl, ?_⟩
  refine Below.alloc ?_ (by have := HW0.out.size; simp; omega) _
  repeat (refine Below.setCell ?_ (by simp) _)
  exact HW0.out
theorem hear_no (x : Int) (a b : Bool) (act : Int) (h : Off x a b ∨ NoAct act) (w : World) :
    Calls Tryd.prog 12 #[.agg #[.int .i64 x, .bool a, .bool b], .int .i64 act] w fun e w' => e = .returned (.tuple #[.agg #[.int .i64 0, .bool false, .bool false, .bool false, .bool false], .int .i64 1]) ∧ Below w.heap.size w w' := by
  rcases side_cases x with ⟨p, q, rfl⟩ | h0
  · refine hear_err _ _ a b b a act w (mirrored_any p q a b) (do_no _ _ _ _ ?_)
    rcases h with h | h
    · refine .inl (.inr ⟨q, p, rfl, ?_⟩)
      rcases h with ⟨h0, h1, h2, h3⟩ | ⟨p', q', e, h⟩
      · cases p <;> cases q <;> simp_all [subN]
      · revert e h
        revert p q p' q' a b
        decide
    · exact .inr h
  · refine hear_err _ _ a b b a act w (mirrored_off x a b h0) (do_no _ _ _ _ (.inl (.inl h0)))
/-- Behind the other one's act; is it passed on; is it echoed? -/
def heS (k : Nat) (s : Sd) : Sd := (doS k s.mir).mir
def heT (k : Nat) (s : Sd) : Bool := if k = 1 then !s.q && !s.b else doT k s.mir
def heE (k : Nat) (s : Sd) : Bool := if k = 1 then s.q else false
theorem neq_ask (p q a b : Bool) (h : okN p q a b = true) (W : World) : (binOp .neq 23 (.agg #[.int .i64 (subN p q), .bool a, .bool !q]) (.agg #[.int .i64 (subN p q), .bool a, .bool b])).run Tryd.prog W = .ok (.bool (!q && !b)) W := by
  cases p <;> cases q <;> cases a <;> cases b <;> first | (exact absurd h (by decide)) | (clear h; kernel_rfl)
theorem hear_any (k : Nat) (hk : 1 ≤ k ∧ k ≤ 4) (s : Sd) (hok : s.ok = true) (w : World) :
    Calls Tryd.prog 12 #[.agg #[.int .i64 s.sub, .bool s.a, .bool s.b], .int .i64 (k : Int)] w fun e w' => e = .returned (.tuple #[.agg #[.int .i64 (heS k s).sub, .bool (heS k s).a, .bool (heS k s).b, .bool (heT k s), .bool (heE k s)], .int .i64 0]) ∧ Below w.heap.size w w' := by
  have HD := do_any k hk s.mir (mir_ok s hok)
  have HM := mirrored_any s.p s.q s.a s.b
  have HM2 := mirrored_any (doS k s.mir).p (doS k s.mir).q (doS k s.mir).a (doS k s.mir).b
  by_cases h1 : k = 1
  · subst h1
    obtain ⟨p, q, a, b⟩ := s
    have HS := seen_any p q a b
    exact hear_ask (subN p q) (subN q p) a b (!q) q (!q && !b) w (neq_ask p q a b hok) HM HD HM2 HS
  · have := hear_not s.sub s.mir.sub (doS k s.mir).sub (heS k s).sub s.a s.b (doS k s.mir).a (doS k s.mir).b (doT k s.mir) k (by simp; omega) w HM HD HM2
    rw [show heT k s = doT k s.mir by simp [heT, h1], show heE k s = false by simp [heE, h1]]
    exact this
end Go.Proofs.YtojeeopmhogolaaDoor
