/-
  The contract of Hear over this program: the other one's act, at every side and every act.
-/
import Derived.Test.YtojeeopmhogolaaDoorPcc
namespace Go.Proofs.YtojeeopmhogolaaDoor
open Go Go.RowKit Go.Sort
theorem Blk.set {g : Nat} {xs : Array Value} {T : TypeId} {w : World} (h : Blk g xs T w) (i : Nat) (v : Value) : Blk g (xs.setIfInBounds i v) T (w.setCell ⟨g, i, none⟩ v) := by
  have hlt := h.lt
  have h' : w.heap[g] = .cells xs T (0, 0) := by unfold Blk at h; simpa [Array.getElem?_eq_getElem hlt] using h
  show (w.heap.modify g _)[g]? = _
  rw [Array.getElem?_eq_getElem (by simpa using hlt), Array.getElem_modify_self, h']
  rfl
theorem Blk.other {g k : Nat} {xs : Array Value} {T : TypeId} {w : World} (h : Blk k xs T w) (hk : ¬ k = g) (i : Nat) (v : Value) : Blk k xs T (w.setCell ⟨g, i, none⟩ v) :=
  (Below.heap_setCell w ⟨g, i, none⟩ v k hk).trans h
def Sd.mir (s : Sd) : Sd := ⟨s.q, s.p, s.b, s.a⟩
theorem mir_ok (s : Sd) (h : s.ok = true) : s.mir.ok = true := by
  obtain ⟨p, q, a, b⟩ := s
  revert h
  revert p q a b
  decide
set_option maxHeartbeats 2000000 in
/-- An act that isn't an ask. -/
theorem hear_not (s s' r r' : Int) (a b a' b' t : Bool) (act : Int) (hact : (act == 1) = false) (w : World)
    (H27 : ∀ W, Calls Tryd.prog 27 #[.agg #[.int .i64 s, .bool a, .bool b]] W fun e w' => e = .returned (.agg #[.int .i64 s', .bool b, .bool a]) ∧ Below W.heap.size W w')
    (H11 : ∀ W, Calls Tryd.prog 11 #[.agg #[.int .i64 s', .bool b, .bool a], .int .i64 act] W fun e w' => e = .returned (.tuple #[.agg #[.int .i64 r, .bool a', .bool b', .bool t, .bool false], .int .i64 0]) ∧ Below W.heap.size W w')
    (H27' : ∀ W, Calls Tryd.prog 27 #[.agg #[.int .i64 r, .bool a', .bool b']] W fun e w' => e = .returned (.agg #[.int .i64 r', .bool b', .bool a']) ∧ Below W.heap.size W w') :
    Calls Tryd.prog 12 #[.agg #[.int .i64 s, .bool a, .bool b], .int .i64 act] w fun e w' => e = .returned (.tuple #[.agg #[.int .i64 r', .bool b', .bool a', .bool t, .bool false], .int .i64 0]) ∧ Below w.heap.size w w' := by
  have HB1 : Hid (Blk (w.heap.size + 1) #[.int .i64 0, .bool false, .bool false, .bool false, .bool false] 30 ((w.alloc (.cells #[.int .i64 s, .bool a, .bool b] 23)).alloc (.cells #[.int .i64 0, .bool false, .bool false, .bool false, .bool false] 30))) := Blk.new2 _ _ _ _
  have HW0 : Hid (Below w.heap.size w ((w.alloc (.cells #[.int .i64 s, .bool a, .bool b] 23)).alloc (.cells #[.int .i64 0, .bool false, .bool false, .bool false, .bool false] 30))) := (bw0 _ _).alloc (by simp) _
  go_enter Tryd.func12, Tryd.ntmps12
  go_wp2_with (first
    | (go_at_call 11; refine (H11 _).mono ?_; rintro e w2 ⟨rfl, hb2⟩; replace HW0 : Hid (Below w.heap.size w w2) := HW0.out.trans (hb2.mono HW0.out.size); replace HB1 : Hid (Blk (w.heap.size + 1) _ 30 w2) := HB1.out.below hb2; obtain ⟨d0, d1, d2, d3, d4, f0, f1, f2, f3, f4⟩ := blk5 HB1.out; clear hb2)
    | (go_at_call_of 27 (s); refine (H27 _).mono ?_; rintro e w1 ⟨rfl, hb1⟩; replace HW0 : Hid (Below w.heap.size w w1) := HW0.out.trans (hb1.mono HW0.out.size); replace HB1 : Hid (Blk (w.heap.size + 1) _ 30 w1) := HB1.out.below hb1; clear hb1))
  refine (H27' _).mono ?_
  rintro e w3 ⟨rfl, hb3⟩
  have HW3 : Hid (Below w.heap.size w w3) := (HW0.out.alloc HW0.out.size _).trans (hb3.mono (by have := HW0.out.size; simp; omega))
  have HB3 := ((HB1.out.below (bw0 _ _)).below hb3)
  have HG3 := (Blk.new w2 _ _).below hb3
  have hl : w.heap.size + 1 < w2.heap.size := HB1.out.lt
  obtain ⟨g, hg⟩ : ∃ g, w2.heap.size = g := ⟨_, rfl⟩
  rw [hg] at HG3 hl ⊢
  obtain ⟨d0, d1, d2, d3, d4, f0, f1, f2, f3, f4⟩ := blk5 HB3
  obtain ⟨g0, g1, g2, g3, g4, i0, i1, i2, i3, i4⟩ := blk5 HG3
  have hne : ¬ g = w.heap.size + 1 := by omega
  have hne2 : ¬ w.heap.size + 1 = g := by omega
  have hle : w.heap.size ≤ g := by omega
  clear HB3 HG3 hb3 hl hg HB1 HW0
  go_wp2_with fail
  refine bodyPost_ret (v := .tuple #[.agg #[.int .i64 r', .bool b', .bool a', .bool t, .bool false], .int .i64 0]) (by simp [results, Tryd.results12, go_sem, d0, d1, d2, d3, d4]) rfl ⟨rfl, ?_⟩
  repeat (refine Below.setCell ?_ (by first | exact hle | simp) _)
  exact HW3.out
set_option maxHeartbeats 4000000 in
/-- An ask, that comes. -/
theorem hear_ask (s s' : Int) (a b nb q t : Bool) (w : World) (HN : ∀ W, (binOp .neq 23 (.agg #[.int .i64 s, .bool a, .bool nb]) (.agg #[.int .i64 s, .bool a, .bool b])).run Tryd.prog W = .ok (.bool t) W)
    (H27 : ∀ W, Calls Tryd.prog 27 #[.agg #[.int .i64 s, .bool a, .bool b]] W fun e w' => e = .returned (.agg #[.int .i64 s', .bool b, .bool a]) ∧ Below W.heap.size W w')
    (H11 : ∀ W, Calls Tryd.prog 11 #[.agg #[.int .i64 s', .bool b, .bool a], .int .i64 1] W fun e w' => e = .returned (.tuple #[.agg #[.int .i64 s', .bool nb, .bool a, .bool true, .bool false], .int .i64 0]) ∧ Below W.heap.size W w')
    (H27' : ∀ W, Calls Tryd.prog 27 #[.agg #[.int .i64 s', .bool nb, .bool a]] W fun e w' => e = .returned (.agg #[.int .i64 s, .bool a, .bool nb]) ∧ Below W.heap.size W w')
    (H15 : ∀ W, Calls Tryd.prog 15 #[.agg #[.int .i64 s, .bool a, .bool b]] W fun e w' => e = .returned (.bool q) ∧ Below W.heap.size W w') :
    Calls Tryd.prog 12 #[.agg #[.int .i64 s, .bool a, .bool b], .int .i64 1] w fun e w' => e = .returned (.tuple #[.agg #[.int .i64 s, .bool a, .bool nb, .bool t, .bool q], .int .i64 0]) ∧ Below w.heap.size w w' := by
  have HB0 : Hid (Blk w.heap.size #[.int .i64 s, .bool a, .bool b] 23 ((w.alloc (.cells #[.int .i64 s, .bool a, .bool b] 23)).alloc (.cells #[.int .i64 0, .bool false, .bool false, .bool false, .bool false] 30))) := Blk.new1 _ _ _ _
  have HB1 : Hid (Blk (w.heap.size + 1) #[.int .i64 0, .bool false, .bool false, .bool false, .bool false] 30 ((w.alloc (.cells #[.int .i64 s, .bool a, .bool b] 23)).alloc (.cells #[.int .i64 0, .bool false, .bool false, .bool false, .bool false] 30))) := Blk.new2 _ _ _ _
  have HW0 : Hid (Below w.heap.size w ((w.alloc (.cells #[.int .i64 s, .bool a, .bool b] 23)).alloc (.cells #[.int .i64 0, .bool false, .bool false, .bool false, .bool false] 30))) := (bw0 _ _).alloc (by simp) _
  go_enter Tryd.func12, Tryd.ntmps12
  go_wp2_with (go_at_call 27; refine (H27 _).mono ?_; rintro e w1 ⟨rfl, hb1⟩; replace HW0 : Hid (Below w.heap.size w w1) := HW0.out.trans (hb1.mono HW0.out.size); replace HB0 : Hid (Blk w.heap.size _ 23 w1) := HB0.out.below hb1; replace HB1 : Hid (Blk (w.heap.size + 1) _ 30 w1) := HB1.out.below hb1; clear hb1)
  refine (H11 _).mono ?_
  rintro e w2 ⟨rfl, hb2⟩
  replace HW0 : Hid (Below w.heap.size w w2) := HW0.out.trans (hb2.mono HW0.out.size)
  replace HB0 : Hid (Blk w.heap.size _ 23 w2) := HB0.out.below hb2
  replace HB1 : Hid (Blk (w.heap.size + 1) _ 30 w2) := HB1.out.below hb2
  clear hb2
  go_wp2_with fail
  refine (H27' _).mono ?_
  rintro e w3 ⟨rfl, hb3⟩
  have HW3 : Hid (Below w.heap.size w w3) := (HW0.out.alloc HW0.out.size _).trans (hb3.mono (by have := HW0.out.size; simp; omega))
  have HB2 := ((HB0.out.below (bw0 _ _)).below hb3)
  have HB3 := ((HB1.out.below (bw0 _ _)).below hb3)
  have HG3 := (Blk.new w2 #[.int .i64 s', .bool nb, .bool a, .bool true, .bool false] 30).below hb3
  have hl : w.heap.size + 1 < w2.heap.size := HB1.out.lt
  obtain ⟨g, hg⟩ : ∃ g, w2.heap.size = g := ⟨_, rfl⟩
  rw [hg] at HG3 hl ⊢
  obtain ⟨c0, c1, c2, _⟩ := blk3 HB2
  obtain ⟨d0, d1, d2, d3, d4, f0, f1, f2, f3, f4⟩ := blk5 HB3
  obtain ⟨g0, g1, g2, g3, g4, i0, i1, i2, i3, i4⟩ := blk5 HG3
  have hne : ¬ g = w.heap.size + 1 := by omega
  have hne2 : ¬ w.heap.size + 1 = g := by omega
  have hne3 : ¬ g = w.heap.size := by omega
  have hne4 : ¬ w.heap.size = g := by omega
  have hle : w.heap.size ≤ g := by omega
  have hb3s := hb3.size
  have hgl : g < w3.heap.size := by simp at hb3s; omega
  have HW4 : Hid (Below w.heap.size w (((w3.setCell ⟨g, 0, none⟩ (.int .i64 s)).setCell ⟨g, 1, none⟩ (.bool a)).setCell ⟨g, 2, none⟩ (.bool nb))) := ((HW3.out.setCell (p := ⟨g, 0, none⟩) hle _).setCell (p := ⟨g, 1, none⟩) hle _).setCell (p := ⟨g, 2, none⟩) hle _
  have HG4 : Hid (Blk g #[.int .i64 s, .bool a, .bool nb, .bool true, .bool false] 30 (((w3.setCell ⟨g, 0, none⟩ (.int .i64 s)).setCell ⟨g, 1, none⟩ (.bool a)).setCell ⟨g, 2, none⟩ (.bool nb))) := ((HG3.set 0 _).set 1 _).set 2 _
  have HC4 : Hid (Blk w.heap.size _ 23 (((w3.setCell ⟨g, 0, none⟩ (.int .i64 s)).setCell ⟨g, 1, none⟩ (.bool a)).setCell ⟨g, 2, none⟩ (.bool nb))) := ((HB2.other hne4 0 _).other hne4 1 _).other hne4 2 _
  have HD4 : Hid (Blk (w.heap.size + 1) _ 30 (((w3.setCell ⟨g, 0, none⟩ (.int .i64 s)).setCell ⟨g, 1, none⟩ (.bool a)).setCell ⟨g, 2, none⟩ (.bool nb))) := ((HB3.other hne2 0 _).other hne2 1 _).other hne2 2 _
  clear HB3 HG3 hb3 hl hg HB1 HW0 HB2 HB0 hb3s
  go_wp2_with fail
  clear c0 c1 c2 d0 d1 d2 d3 d4 f0 f1 f2 f3 f4 g0 g1 g2 g3 g4 i0 i1 i2 i3 i4 HW3
  obtain ⟨w4, hw4⟩ : ∃ w4, ((w3.setCell ⟨g, 0, none⟩ (.int .i64 s)).setCell ⟨g, 1, none⟩ (.bool a)).setCell ⟨g, 2, none⟩ (.bool nb) = w4 := ⟨_, rfl⟩
  rw [hw4] at HW4 HG4 HC4 HD4 ⊢
  clear hw4
  obtain ⟨c0, c1, c2, _⟩ := blk3 HC4.out
  obtain ⟨g0, g1, g2, g3, g4, i0, i1, i2, i3, i4⟩ := blk5 HG4.out
  go_region_with (go_at_call 15; refine (H15 _).mono ?_; rintro e w5 ⟨rfl, hb5⟩; replace hb5 : Below w4.heap.size w4 w5 := ((Below.refl w4.heap.size w4).drew).trans hb5; have HW5 : Hid (Below w.heap.size w w5) := HW4.out.trans (hb5.mono HW4.out.size); have HG5 : Hid (Blk g _ 30 w5) := HG4.out.below hb5; have HC5 : Hid (Blk w.heap.size _ 23 w5) := HC4.out.below hb5; have HD5 : Hid (Blk (w.heap.size + 1) _ 30 w5) := HD4.out.below hb5; obtain ⟨c0', c1', c2', _⟩ := blk3 HC5.out; obtain ⟨g0', g1', g2', g3', g4', i0', i1', i2', i3', i4'⟩ := blk5 HG5.out; obtain ⟨d0, d1, d2, d3, d4, f0, f1, f2, f3, f4⟩ := blk5 HD5.out; clear hb5)
  all_goals clear c0 c1 c2 g0 g1 g2 g3 g4 i0 i1 i2 i3 i4 HN
  all_goals go_wp2_with fail
  all_goals refine bodyPost_ret (v := .tuple #[.agg #[.int .i64 s, .bool a, .bool nb, .bool t, .bool q], .int .i64 0]) (by simp [results, Tryd.results12, go_sem, d0, d1, d2, d3, d4]) rfl ⟨rfl, ?_⟩
  all_goals repeat (refine Below.setCell ?_ (by first | exact hle | simp) _)
  all_goals exact HW5.out
end Go.Proofs.YtojeeopmhogolaaDoor
