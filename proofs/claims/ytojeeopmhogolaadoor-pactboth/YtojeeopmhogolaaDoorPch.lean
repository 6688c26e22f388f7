/-
  The contract of Both over this program, at every two sides and every act.
-/
import Derived.Test.YtojeeopmhogolaaDoorPcg
namespace Go.Proofs.YtojeeopmhogolaaDoor
open Go Go.RowKit Go.Sort
set_option maxHeartbeats 2000000 in
/-- The second side may not be. -/
theorem both_err2 (sa sb s1 : Int) (aa ab ba bb a1 b1 t : Bool) (act : Int) (w : World)
    (H11 : ∀ W, Calls Tryd.prog 11 #[.agg #[.int .i64 sa, .bool aa, .bool ab], .int .i64 act] W fun e w' => e = .returned (.tuple #[.agg #[.int .i64 s1, .bool a1, .bool b1, .bool t, .bool false], .int .i64 0]) ∧ Below W.heap.size W w')
    (H13 : ∀ W, Calls Tryd.prog 13 #[.agg #[.int .i64 sb, .bool ba, .bool bb]] W fun e w' => e = .returned (.bool false) ∧ Below W.heap.size W w') :
    Calls Tryd.prog 19 #[.agg #[.int .i64 sa, .bool aa, .bool ab], .agg #[.int .i64 sb, .bool ba, .bool bb], .int .i64 act] w fun e w' => e = .returned (.tuple #[.agg #[.int .i64 0, .bool false, .bool false], .agg #[.int .i64 0, .bool false, .bool false], .int .i64 1]) ∧ Below w.heap.size w w' := by
  have HA : Hid (Blk w.heap.size #[.int .i64 sa, .bool aa, .bool ab] 23 ((((w.alloc (.cells #[.int .i64 sa, .bool aa, .bool ab] 23)).alloc (.cells #[.int .i64 sb, .bool ba, .bool bb] 23)).alloc (.cells #[.int .i64 0, .bool false, .bool false] 23)).alloc (.cells #[.int .i64 0, .bool false, .bool false] 23))) := (((Blk.new1 w _ _ _).below (bw0 _ _)).below (bw0 _ _))
  have HB : Hid (Blk (w.heap.size + 1) #[.int .i64 sb, .bool ba, .bool bb] 23 ((((w.alloc (.cells #[.int .i64 sa, .bool aa, .bool ab] 23)).alloc (.cells #[.int .i64 sb, .bool ba, .bool bb] 23)).alloc (.cells #[.int .i64 0, .bool false, .bool false] 23)).alloc (.cells #[.int .i64 0, .bool false, .bool false] 23))) := (((Blk.new2 w _ _ _).below (bw0 _ _)).below (bw0 _ _))
  have HC : Hid (Blk (w.heap.size + 1 + 1) #[.int .i64 0, .bool false, .bool false] 23 ((((w.alloc (.cells #[.int .i64 sa, .bool aa, .bool ab] 23)).alloc (.cells #[.int .i64 sb, .bool ba, .bool bb] 23)).alloc (.cells #[.int .i64 0, .bool false, .bool false] 23)).alloc (.cells #[.int .i64 0, .bool false, .bool false] 23))) := (Blk.new3 w _ _ _ _).below (bw0 _ _)
  have HD : Hid (Blk (w.heap.size + 1 + 1 + 1) #[.int .i64 0, .bool false, .bool false] 23 ((((w.alloc (.cells #[.int .i64 sa, .bool aa, .bool ab] 23)).alloc (.cells #[.int .i64 sb, .bool ba, .bool bb] 23)).alloc (.cells #[.int .i64 0, .bool false, .bool false] 23)).alloc (.cells #[.int .i64 0, .bool false, .bool false] 23))) := Blk.new4 w _ _ _ _ _
  have HW : Hid (Below w.heap.size w ((((w.alloc (.cells #[.int .i64 sa, .bool aa, .bool ab] 23)).alloc (.cells #[.int .i64 sb, .bool ba, .bool bb] 23)).alloc (.cells #[.int .i64 0, .bool false, .bool false] 23)).alloc (.cells #[.int .i64 0, .bool false, .bool false] 23))) := (((bw0 _ _).alloc (by simp) _).alloc (by simp; omega) _).alloc (by simp; omega) _
  go_enter Tryd.func19, Tryd.ntmps19
  go_wp2_with (first
    | (go_at_call 11; refine (H11 _).mono ?_; rintro e w1 ⟨rfl, hb⟩; replace HW : Hid (Below w.heap.size w w1) := HW.out.trans (hb.mono HW.out.size); replace HA : Hid (Blk w.heap.size _ 23 w1) := HA.out.below hb; replace HB : Hid (Blk (w.heap.size + 1) _ 23 w1) := HB.out.below hb; replace HC : Hid (Blk (w.heap.size + 1 + 1) _ 23 w1) := HC.out.below hb; replace HD : Hid (Blk (w.heap.size + 1 + 1 + 1) _ 23 w1) := HD.out.below hb; obtain ⟨a0, a1_, a2_, _⟩ := blk3 HA.out; obtain ⟨b0, b1_, b2_, _⟩ := blk3 HB.out; obtain ⟨c0, c1, c2, k0, k1, k2⟩ := blk3 HC.out; obtain ⟨d0, d1, d2, l0, l1, l2⟩ := blk3 HD.out; clear hb; have hl : w.heap.size + 1 + 1 + 1 < w1.heap.size := HD.out.lt; have m0 : w.heap.size < w1.heap.size := HA.out.lt; have m1 : w.heap.size + 1 < w1.heap.size := HB.out.lt; have m2 : w.heap.size + 1 + 1 < w1.heap.size := HC.out.lt)
    | (go_at_call 13; refine (H13 _).mono ?_; rintro e w2 ⟨rfl, hb⟩; have HG : Hid (Blk w1.heap.size _ 30 w2) := (Blk.new w1 _ _).below hb; have hlg : w1.heap.size < w2.heap.size := HG.out.lt; replace hb : Below w1.heap.size w1 w2 := (bw0 _ _).trans (hb.mono (bw0 _ _).size); replace HW : Hid (Below w.heap.size w w2) := HW.out.trans (hb.mono HW.out.size); replace HA : Hid (Blk w.heap.size _ 23 w2) := HA.out.below hb; replace HB : Hid (Blk (w.heap.size + 1) _ 23 w2) := HB.out.below hb; replace HC : Hid (Blk (w.heap.size + 1 + 1) _ 23 w2) := HC.out.below hb; replace HD : Hid (Blk (w.heap.size + 1 + 1 + 1) _ 23 w2) := HD.out.below hb; obtain ⟨a0, a1_, a2_, _⟩ := blk3 HA.out; obtain ⟨b0, b1_, b2_, _⟩ := blk3 HB.out; obtain ⟨c0, c1, c2, k0, k1, k2⟩ := blk3 HC.out; obtain ⟨d0, d1, d2, l0, l1, l2⟩ := blk3 HD.out; clear hb; obtain ⟨g0, g1, g2, g3, g4, _⟩ := blk5 HG.out; have hl : w.heap.size + 1 + 1 + 1 < w2.heap.size := HD.out.lt; have m0 : w.heap.size < w2.heap.size := HA.out.lt; have m1 : w.heap.size + 1 < w2.heap.size := HB.out.lt; have m2 : w.heap.size + 1 + 1 < w2.heap.size := HC.out.lt))
  have E1 : Blk (w.heap.size + 1 + 1) #[.int .i64 0, .bool false, .bool false] 23 ((((((w2.setCell ⟨w.heap.size + 1 + 1, 0, none⟩ (.int .i64 0)).setCell ⟨w.heap.size + 1 + 1, 1, none⟩ (.bool false)).setCell ⟨w.heap.size + 1 + 1, 2, none⟩ (.bool false)).setCell ⟨w.heap.size + 1 + 1 + 1, 0, none⟩ (.int .i64 0)).setCell ⟨w.heap.size + 1 + 1 + 1, 1, none⟩ (.bool false)).setCell ⟨w.heap.size + 1 + 1 + 1, 2, none⟩ (.bool false)) := (((((HC.out.set 0 _).set 1 _).set 2 _).other (by omega) 0 _).other (by omega) 1 _).other (by omega) 2 _
  have E2 : Blk (w.heap.size + 1 + 1 + 1) #[.int .i64 0, .bool false, .bool false] 23 ((((((w2.setCell ⟨w.heap.size + 1 + 1, 0, none⟩ (.int .i64 0)).setCell ⟨w.heap.size + 1 + 1, 1, none⟩ (.bool false)).setCell ⟨w.heap.size + 1 + 1, 2, none⟩ (.bool false)).setCell ⟨w.heap.size + 1 + 1 + 1, 0, none⟩ (.int .i64 0)).setCell ⟨w.heap.size + 1 + 1 + 1, 1, none⟩ (.bool false)).setCell ⟨w.heap.size + 1 + 1 + 1, 2, none⟩ (.bool false)) := (((((HD.out.other (by omega) 0 _).other (by omega) 1 _).other (by omega) 2 _).set 0 _).set 1 _).set 2 _
  clear c0 c1 c2 d0 d1 d2
  obtain ⟨c0, c1, c2, _⟩ := blk3 E1
  obtain ⟨d0, d1, d2, _⟩ := blk3 E2
  refine bodyPost_ret (v := .tuple #[.agg #[.int .i64 0, .bool false, .bool false], .agg #[.int .i64 0, .bool false, .bool false], .int .i64 1]) (by simp [results, Tryd.results19, go_sem, c0, c1, c2, d0, d1, d2]) rfl ⟨rfl, ?_⟩
  repeat (refine Below.setCell ?_ (by simp; try omega) _)
  exact HW.out
/-- Both sides behind a's act. -/
def boS (k : Nat) (a b : Sd) : Sd × Sd := if doT k a then (if heE k b then (heS 2 (doS k a), heS k b) else (doS k a, heS k b)) else (a, b)
theorem boS_ok (k : Nat) (a b : Sd) (ha : a.ok = true) (hb : b.ok = true) : (boS k a b).1.ok = true ∧ (boS k a b).2.ok = true := by
  unfold boS
  split
  · split
    · exact ⟨heS_ok 2 _ (doS_ok k a ha), heS_ok k b hb⟩
    · exact ⟨doS_ok k a ha, heS_ok k b hb⟩
  · exact ⟨ha, hb⟩
def Sd.val (s : Sd) : Value := .agg #[.int .i64 s.sub, .bool s.a, .bool s.b]
theorem both_any (k : Nat) (hk : 1 ≤ k ∧ k ≤ 4) (a b : Sd) (ha : a.ok = true) (hb : b.ok = true) (w : World) :
    Calls Tryd.prog 19 #[a.val, b.val, .int .i64 (k : Int)] w fun e w' => e = .returned (.tuple #[(boS k a b).1.val, (boS k a b).2.val, .int .i64 0]) ∧ Below w.heap.size w w' := by
  have H11 := do_any k hk a ha
  have H12 := hear_any k hk b hb
  have H12' := hear_any 2 (by omega) (doS k a) (doS_ok k a ha)
  have H13 : ∀ W, Calls Tryd.prog 13 #[b.val] W fun e w' => e = .returned (.bool true) ∧ Below W.heap.size W w' := fun W => by
    have := right_any b.p b.q b.a b.b W
    rw [show okN b.p b.q b.a b.b = true from hb] at this
    exact this
  cases ht : doT k a
  · rw [ht] at H11
    have e : boS k a b = (a, b) := by simp [boS, ht]
    rw [e]
    exact both_not _ _ _ _ _ _ _ _ _ _ w H11 H13
  · rw [ht] at H11
    cases he : heE k b
    · rw [he] at H12
      have e : boS k a b = (doS k a, heS k b) := by simp [boS, ht, he]
      rw [e]
      exact both_told _ _ _ _ _ _ _ _ _ _ _ _ _ _ w H11 H12 H13
    · rw [he] at H12
      have e : boS k a b = (heS 2 (doS k a), heS k b) := by simp [boS, ht, he]
      rw [e]
      exact both_echo _ _ _ _ _ _ _ _ _ _ _ _ _ _ _ _ _ _ _ w H11 H12 H12' H13
theorem both_no (x y : Int) (aa ab ba bb : Bool) (act : Int) (h : Off x aa ab ∨ Off y ba bb ∨ NoAct act) (w : World) :
    Calls Tryd.prog 19 #[.agg #[.int .i64 x, .bool aa, .bool ab], .agg #[.int .i64 y, .bool ba, .bool bb], .int .i64 act] w fun e w' => e = .returned (.tuple #[.agg #[.int .i64 0, .bool false, .bool false], .agg #[.int .i64 0, .bool false, .bool false], .int .i64 1]) ∧ Below w.heap.size w w' := by
  by_cases h1 : Off x aa ab ∨ NoAct act
  · exact both_err _ _ _ _ _ _ _ w (do_no _ _ _ _ h1)
  · have hy : Off y ba bb := by
      rcases h with h | h | h
      · exact absurd (.inl h) h1
      · exact h
      · exact absurd (.inr h) h1
    rcases side_cases x with ⟨p, q, rfl⟩ | h0
    · cases hok : okN p q aa ab
      · exact absurd (.inl (.inr ⟨p, q, rfl, hok⟩)) h1
      · rcases act_cases act with ⟨k, rfl, hk⟩ | h2
        · exact both_err2 _ _ _ _ _ _ _ _ _ _ _ w (do_any k hk ⟨p, q, aa, ab⟩ hok) (right_no _ _ _ hy)
        · exact absurd (.inr h2) h1
    · exact absurd (.inl (.inl h0)) h1
end Go.Proofs.YtojeeopmhogolaaDoor
