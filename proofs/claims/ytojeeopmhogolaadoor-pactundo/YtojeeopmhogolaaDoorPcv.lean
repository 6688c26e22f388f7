/-
  The walk of the statement PactUndo over this program.
-/
import Derived.Test.YtojeeopmhogolaaDoorPcu
import Derived.Test.YtojeeopmhogolaaDoorPcm
namespace Go.Proofs.YtojeeopmhogolaaDoor
open Go Go.RowKit Go.Sort
/-- What the last calls of the statement PactUndo answer, of two sides. -/
structure Tail (sa sb s3 d3 s4 d4 s1 d1 s2 d2 : Int) (aa ab ba bb e3 f3 a4 e4 f4 a1 b1 e1 f1 a2 b2 e2 f2 qa pa : Bool) : Prop where
  K3 : ∀ W, Calls Tryd.prog 19 #[.agg #[.int .i64 sa, .bool aa, .bool ab], .agg #[.int .i64 sb, .bool ba, .bool bb], .int .i64 3] W fun e w' => e = .returned (.tuple #[.agg #[.int .i64 s3, .bool false, .bool ab], .agg #[.int .i64 d3, .bool e3, .bool f3], .int .i64 0]) ∧ Below W.heap.size W w'
  K4 : ∀ W, Calls Tryd.prog 19 #[.agg #[.int .i64 sa, .bool aa, .bool ab], .agg #[.int .i64 sb, .bool ba, .bool bb], .int .i64 4] W fun e w' => e = .returned (.tuple #[.agg #[.int .i64 s4, .bool a4, .bool false], .agg #[.int .i64 d4, .bool e4, .bool f4], .int .i64 0]) ∧ Below W.heap.size W w'
  K1 : ∀ W, Calls Tryd.prog 19 #[.agg #[.int .i64 sa, .bool aa, .bool ab], .agg #[.int .i64 sb, .bool ba, .bool bb], .int .i64 1] W fun e w' => e = .returned (.tuple #[.agg #[.int .i64 s1, .bool a1, .bool b1], .agg #[.int .i64 d1, .bool e1, .bool f1], .int .i64 0]) ∧ Below W.heap.size W w'
  K2 : ∀ W, Calls Tryd.prog 19 #[.agg #[.int .i64 d1, .bool e1, .bool f1], .agg #[.int .i64 s1, .bool a1, .bool b1], .int .i64 2] W fun e w' => e = .returned (.tuple #[.agg #[.int .i64 d2, .bool e2, .bool f2], .agg #[.int .i64 s2, .bool a2, .bool b2], .int .i64 0]) ∧ Below W.heap.size W w'
  N3 : ∀ W, Calls Tryd.prog 14 #[.agg #[.int .i64 s3, .bool false, .bool ab]] W fun e w' => e = .returned (.bool false) ∧ Below W.heap.size W w'
  M3 : ∀ W, Calls Tryd.prog 15 #[.agg #[.int .i64 s3, .bool false, .bool ab]] W fun e w' => e = .returned (.bool qa) ∧ Below W.heap.size W w'
  MA : ∀ W, Calls Tryd.prog 15 #[.agg #[.int .i64 sa, .bool aa, .bool ab]] W fun e w' => e = .returned (.bool qa) ∧ Below W.heap.size W w'
  NA : ∀ W, Calls Tryd.prog 14 #[.agg #[.int .i64 sa, .bool aa, .bool ab]] W fun e w' => e = .returned (.bool pa) ∧ Below W.heap.size W w'
  M4 : ∀ W, Calls Tryd.prog 15 #[.agg #[.int .i64 s4, .bool a4, .bool false]] W fun e w' => e = .returned (.bool false) ∧ Below W.heap.size W w'
  N4 : ∀ W, Calls Tryd.prog 14 #[.agg #[.int .i64 s4, .bool a4, .bool false]] W fun e w' => e = .returned (.bool pa) ∧ Below W.heap.size W w'
  ND4 : ∀ W, Calls Tryd.prog 14 #[.agg #[.int .i64 d4, .bool e4, .bool f4]] W fun e w' => e = .returned (.bool false) ∧ Below W.heap.size W w'
  N1 : ∀ W, Calls Tryd.prog 14 #[.agg #[.int .i64 s2, .bool a2, .bool b2]] W fun e w' => e = .returned (.bool true) ∧ Below W.heap.size W w'
  MD1 : ∀ W, Calls Tryd.prog 15 #[.agg #[.int .i64 d2, .bool e2, .bool f2]] W fun e w' => e = .returned (.bool true) ∧ Below W.heap.size W w'
  M1 : ∀ W, Calls Tryd.prog 15 #[.agg #[.int .i64 s2, .bool a2, .bool b2]] W fun e w' => e = .returned (.bool qa) ∧ Below W.heap.size W w'
theorem undo_plain (t : Sd) (h : t.ok = true) : (boS 3 t t.mir).1.p = false ∧ (boS 3 t t.mir).1.a = false ∧ (boS 3 t t.mir).1.q = t.q ∧ (boS 3 t t.mir).1.b = t.b ∧
    (boS 4 t t.mir).1.q = false ∧ (boS 4 t t.mir).1.b = false ∧ (boS 4 t t.mir).1.p = t.p ∧ (boS 4 t t.mir).2.p = false ∧
    (boS 2 (boS 1 t t.mir).2 (boS 1 t t.mir).1).2.p = true ∧ (boS 2 (boS 1 t t.mir).2 (boS 1 t t.mir).1).1.q = true ∧ (boS 2 (boS 1 t t.mir).2 (boS 1 t t.mir).1).2.q = t.q := by
  obtain ⟨p, q, a, b⟩ := t
  revert h
  revert p q a b
  decide
theorem tail_any (t u : Sd) (ht : t.ok = true) (hu : u.ok = true) (hf : FitP t u) : ∃ s3 d3 s4 d4 s1 d1 s2 d2 e3 f3 a4 e4 f4 a1 b1 e1 f1 a2 b2 e2 f2 qa pa, Tail t.sub u.sub s3 d3 s4 d4 s1 d1 s2 d2 t.a t.b u.a u.b e3 f3 a4 e4 f4 a1 b1 e1 f1 a2 b2 e2 f2 qa pa := by
  obtain rfl := hf
  obtain ⟨h1, h2, h3, h4, h5, h6, h7, h8, h9, h10, h11⟩ := undo_plain t ht
  have k3 := both_any 3 (by omega) t t.mir ht hu
  have k4 := both_any 4 (by omega) t t.mir ht hu
  have k1 := both_any 1 (by omega) t t.mir ht hu
  have o1 := boS_ok 1 t t.mir ht hu
  have k2 := both_any 2 (by omega) (boS 1 t t.mir).2 (boS 1 t t.mir).1 o1.2 o1.1
  obtain ⟨c3, hc3⟩ : ∃ c, (boS 3 t t.mir).1 = c := ⟨_, rfl⟩
  obtain ⟨x3, hx3⟩ : ∃ c, (boS 3 t t.mir).2 = c := ⟨_, rfl⟩
  obtain ⟨c4, hc4⟩ : ∃ c, (boS 4 t t.mir).1 = c := ⟨_, rfl⟩
  obtain ⟨x4, hx4⟩ : ∃ c, (boS 4 t t.mir).2 = c := ⟨_, rfl⟩
  obtain ⟨c1, hc1⟩ : ∃ c, (boS 1 t t.mir).1 = c := ⟨_, rfl⟩
  obtain ⟨x1, hx1⟩ : ∃ c, (boS 1 t t.mir).2 = c := ⟨_, rfl⟩
  simp only [hc3, hx3] at k3 h1 h2 h3 h4
  simp only [hc4, hx4] at k4 h5 h6 h7 h8
  simp only [hc1, hx1] at k1 k2 h9 h10 h11
  obtain ⟨c2, hc2⟩ : ∃ c, (boS 2 x1 c1).2 = c := ⟨_, rfl⟩
  obtain ⟨x2, hx2⟩ : ∃ c, (boS 2 x1 c1).1 = c := ⟨_, rfl⟩
  simp only [hc2, hx2] at k2 h9 h10 h11
  clear hc3 hx3 hc4 hx4 hc1 hx1 hc2 hx2 o1
  have n3 := sees_any c3.p c3.q c3.a c3.b
  have m3 := seen_any c3.p c3.q c3.a c3.b
  have na := sees_any t.p t.q t.a t.b
  have ma := seen_any t.p t.q t.a t.b
  have m4 := seen_any c4.p c4.q c4.a c4.b
  have n4 := sees_any c4.p c4.q c4.a c4.b
  have nd4 := sees_any x4.p x4.q x4.a x4.b
  have n1 := sees_any c2.p c2.q c2.a c2.b
  have md1 := seen_any x2.p x2.q x2.a x2.b
  have m1 := seen_any c2.p c2.q c2.a c2.b
  obtain ⟨p3, q3, a3, b3⟩ := c3
  obtain ⟨p4, q4, a4, b4⟩ := c4
  obtain ⟨y4, z4, u4, v4⟩ := x4
  obtain ⟨p2, q2, a2, b2⟩ := c2
  obtain ⟨y2, z2, u2, v2⟩ := x2
  simp only at h1 h2 h3 h4 h5 h6 h7 h8 h9 h10 h11
  subst h1 h2 h3 h4 h5 h6 h7 h8 h9 h10 h11
  exact ⟨_, _, _, _, _, _, _, _, _, _, _, _, _, _, _, _, _, _, _, _, _, t.q, t.p, k3, k4, k1, k2, n3, m3, ma, na, m4, n4, nd4, n1, md1, m1⟩
set_option maxRecDepth 100000 in
set_option maxHeartbeats 16000000 in
theorem undo_walk (ao bo : Option Addr) (n m c1 c2 : Nat) (y : Nat → Int) (t : Nat → Bool) (w : World) (hy : RowN w ao n y) (ht : RowB w bo m t) (hN : Names w) :
    Calls Tryd.prog 6 #[.slice ao n c1, .slice bo m c2] w fun e w' => e = .returned (.bool true) ∧ Below w.heap.size w w' := by
  have HN : Hid (Names w) := hN
  have HY : Hid (RowN w ao n y) := hy
  have HT : Hid (RowB w bo m t) := ht
  clear hN hy ht
  go_enter Tryd.func6, Tryd.ntmps6
  go_wp2_with (go_at_call 9; refine (lives_any _ HN.out).mono ?_; rintro e w1 ⟨rfl, hb1⟩; have HW1 : Hid (Below w.heap.size w w1) := hb1; clear hb1)
  have HA0 : Hid (Blk w1.heap.size #[.int .i64 0, .bool false, .bool false] 23 ((w1.alloc (.cells #[.int .i64 0, .bool false, .bool false] 23)).alloc (.cells #[.int .i64 0, .bool false, .bool false] 23))) := Blk.new1 _ _ _ _
  have HB0 : Hid (Blk (w1.heap.size + 1) #[.int .i64 0, .bool false, .bool false] 23 ((w1.alloc (.cells #[.int .i64 0, .bool false, .bool false] 23)).alloc (.cells #[.int .i64 0, .bool false, .bool false] 23))) := Blk.new2 _ _ _ _
  have HW0 : Hid (Below w.heap.size w ((w1.alloc (.cells #[.int .i64 0, .bool false, .bool false] 23)).alloc (.cells #[.int .i64 0, .bool false, .bool false] 23))) := (HW1.out.alloc HW1.out.size _).alloc (by have := HW1.out.size; simp; omega) _
  have hle0 : w.heap.size ≤ w1.heap.size := HW1.out.size
  obtain ⟨g, hg⟩ : ∃ g, w1.heap.size = g := ⟨_, rfl⟩
  rw [hg] at HA0 HB0 hle0 ⊢
  clear hg
  go_loopw [7] (fun i wr => ∃ (k : Nat) (t1 t2 : Sd), k ≤ n ∧ k ≤ 60 ∧ i = .int .i64 (k : Int) ∧ t1.ok = true ∧ t2.ok = true ∧ FitP t1 t2 ∧ Blk g #[.int .i64 t1.sub, .bool t1.a, .bool t1.b] 23 wr ∧ Blk (g + 1) #[.int .i64 t2.sub, .bool t2.a, .bool t2.b] 23 wr ∧ Below w.heap.size w wr) (fun i _ => 60 - (intOf i).toNat)
  case atStart => exact ⟨0, ⟨false, false, false, false⟩, ⟨false, false, false, false⟩, Nat.zero_le _, Nat.zero_le _, rfl, rfl, rfl, rfl, HA0.out, HB0.out, HW0.out⟩
  case round =>
    obtain ⟨k, t1, t2, hkn, hk2, rfl, ho1, ho2, hf, ha, hb, hw⟩ := hrel
    have HA : Hid (Blk g _ 23 wr) := ha
    have HB : Hid (Blk (g + 1) _ 23 wr) := hb
    have HW : Hid (Below w.heap.size w wr) := hw
    obtain ⟨a_0, a_1, a_2, _⟩ := blk3 ha
    obtain ⟨b_0, b_1, b_2, _⟩ := blk3 hb
    have hle : w.heap.size ≤ g ∧ w.heap.size ≤ g + 1 := by omega
    have hleS : w.heap.size ≤ g + 1 ∧ w.heap.size ≤ g := by omega
    clear ha hb HA0 HB0 HW0 HW1
    by_cases hlt : k < n ∧ k < 60
    · obtain ⟨h1, h2⟩ := hlt
      obtain ⟨ad, rfl, c0⟩ := HY.out k h1
      have k0 : wr.cell? (ad.add k) = some (.int .i64 (y k)) := (hw.cell (World.block_lt_of_cell? w _ c0)).trans c0
      obtain ⟨u, r, q1, q2, q3, hr4⟩ := act_facts (y k)
      obtain ⟨z, hz⟩ : ∃ z, y k = z := ⟨_, rfl⟩
      rw [hz] at k0 q1
      have h1' : (k : Int) < (n : Int) := by omega
      have h2' : (k : Int) < 60 := by omega
      have hk0 : (0 : Int) ≤ (k : Int) := by omega
      have hu0 : (0 : Int) ≤ (u : Int) := by omega
      have hr0 : (0 : Int) ≤ (r : Int) := by omega
      have hr5 : (r : Int) < 4 := by omega
      clear c0 hz
      by_cases h3 : k < m
      · obtain ⟨bd, rfl, e0⟩ := HT.out k h3
        have l0 : wr.cell? (bd.add k) = some (.bool (t k)) := (hw.cell (World.block_lt_of_cell? w _ e0)).trans e0
        have h3' : (k : Int) < (m : Int) := by omega
        clear e0 hw
        cases htk : t k
        · rw [htk] at l0
          clear htk
          obtain ⟨v1, hv1⟩ : ∃ u, (boS (r + 1) t1 t2).1 = u := ⟨_, rfl⟩
          obtain ⟨v2, hv2⟩ : ∃ u, (boS (r + 1) t1 t2).2 = u := ⟨_, rfl⟩
          have HBO := fun W => both_at r hr4 t1 t2 ho1 ho2 W
          have hok := boS_ok (r + 1) t1 t2 ho1 ho2
          have hfit := fitP_bo (r + 1) (by omega) t1 t2 ho1 hf
          rw [hv1, hv2] at hok hfit
          simp only [hv1, hv2] at HBO
          have HOA : Hid (v1.ok = true) := hok.1
          have HOB : Hid (v2.ok = true) := hok.2
          have HFI : Hid (FitP v1 v2) := hfit
          clear hv1 hv2 hok hfit ho1 ho2 hf
          simp only [Sd.val] at HBO
          go_wp2_with (go_at_call 19; refine (HBO _).mono ?_; rintro e w2 ⟨rfl, hb2⟩; have l2 : w2.cell? (bd.add k) = some (.bool false) := (hb2.cell (World.block_lt_of_cell? wr _ l0)).trans l0; have l3 : ((w2.alloc (.cells #[.int .i64 v1.sub, .bool v1.a, .bool v1.b] 23)).alloc (.cells #[.int .i64 v2.sub, .bool v2.a, .bool v2.b] 23)).cell? (bd.add k) = some (.bool false) := ((below2 w2 _ _).cell (World.block_lt_of_cell? w2 _ l2)).trans l2; clear l2; replace HW : Hid (Below w.heap.size w w2) := HW.out.trans (hb2.mono HW.out.size); replace HA : Hid (Blk g _ 23 w2) := HA.out.below hb2; replace HB : Hid (Blk (g + 1) _ 23 w2) := HB.out.below hb2; clear a_0 a_1 a_2 b_0 b_1 b_2 hb2; obtain ⟨a_0, a_1, a_2, a_3, a_4, a_5⟩ := blk3 HA.out; obtain ⟨b_0, b_1, b_2, b_3, b_4, b_5⟩ := blk3 HB.out; have a_l : g < w2.heap.size := HA.out.lt; have b_l : g + 1 < w2.heap.size := HB.out.lt)
          have HA3 : Hid (Blk g #[.int .i64 v1.sub, .bool v1.a, .bool v1.b] 23 ((((((((w2.setCell ⟨g, 0, none⟩ (.int .i64 v1.sub)).setCell ⟨g, 1, none⟩ (.bool v1.a)).setCell ⟨g, 2, none⟩ (.bool v1.b)).setCell ⟨g + 1, 0, none⟩ (.int .i64 v2.sub)).setCell ⟨g + 1, 1, none⟩ (.bool v2.a)).setCell ⟨g + 1, 2, none⟩ (.bool v2.b)).alloc (.cells #[.int .i64 v1.sub, .bool v1.a, .bool v1.b] 23)).alloc (.cells #[.int .i64 v2.sub, .bool v2.a, .bool v2.b] 23))) := ((((((HA.out.set 0 _).set 1 _).set 2 _).other (by omega) 0 _).other (by omega) 1 _).other (by omega) 2 _).below (below2 _ _ _)
          have HB3 : Hid (Blk (g + 1) #[.int .i64 v2.sub, .bool v2.a, .bool v2.b] 23 ((((((((w2.setCell ⟨g, 0, none⟩ (.int .i64 v1.sub)).setCell ⟨g, 1, none⟩ (.bool v1.a)).setCell ⟨g, 2, none⟩ (.bool v1.b)).setCell ⟨g + 1, 0, none⟩ (.int .i64 v2.sub)).setCell ⟨g + 1, 1, none⟩ (.bool v2.a)).setCell ⟨g + 1, 2, none⟩ (.bool v2.b)).alloc (.cells #[.int .i64 v1.sub, .bool v1.a, .bool v1.b] 23)).alloc (.cells #[.int .i64 v2.sub, .bool v2.a, .bool v2.b] 23))) := ((((((HB.out.other (by omega) 0 _).other (by omega) 1 _).other (by omega) 2 _).set 0 _).set 1 _).set 2 _).below (below2 _ _ _)
          have HW3 : Hid (Below w.heap.size w ((((((((w2.setCell ⟨g, 0, none⟩ (.int .i64 v1.sub)).setCell ⟨g, 1, none⟩ (.bool v1.a)).setCell ⟨g, 2, none⟩ (.bool v1.b)).setCell ⟨g + 1, 0, none⟩ (.int .i64 v2.sub)).setCell ⟨g + 1, 1, none⟩ (.bool v2.a)).setCell ⟨g + 1, 2, none⟩ (.bool v2.b)).alloc (.cells #[.int .i64 v1.sub, .bool v1.a, .bool v1.b] 23)).alloc (.cells #[.int .i64 v2.sub, .bool v2.a, .bool v2.b] 23))) := ((by3 HW.out hle).alloc (by have := HW.out.size; simp; omega) _).alloc (by have := HW.out.size; simp; omega) _
          go_roundw
          case rel => exact ⟨k + 1, v1, v2, by omega, by omega, by go_num, HOA.out, HOB.out, HFI.out, HA3.out, HB3.out, HW3.out⟩
          case measure => simp [intOf]; omega
        · rw [htk] at l0
          clear htk
          clear hleS
          obtain ⟨v1, hv1⟩ : ∃ u, (boS (r + 1) t1 t2).1 = u := ⟨_, rfl⟩
          obtain ⟨v2, hv2⟩ : ∃ u, (boS (r + 1) t1 t2).2 = u := ⟨_, rfl⟩
          have HBO := fun W => both_at r hr4 t1 t2 ho1 ho2 W
          have hok := boS_ok (r + 1) t1 t2 ho1 ho2
          have hfit := fitP_bo (r + 1) (by omega) t1 t2 ho1 hf
          rw [hv1, hv2] at hok hfit
          simp only [hv1, hv2] at HBO
          obtain ⟨u1, hu1⟩ : ∃ u, (boS (r + 1) t2 t1).1 = u := ⟨_, rfl⟩
          obtain ⟨u2, hu2⟩ : ∃ u, (boS (r + 1) t2 t1).2 = u := ⟨_, rfl⟩
          have HBO2 := fun W => both_at r hr4 t2 t1 ho2 ho1 W
          have hok2 := boS_ok (r + 1) t2 t1 ho2 ho1
          have hfit2 := fitP_bo (r + 1) (by omega) t2 t1 ho2 hf.symm
          rw [hu1, hu2] at hok2 hfit2
          simp only [hu1, hu2] at HBO2
          have HOA : Hid (u2.ok = true) := hok2.2
          have HOB : Hid (u1.ok = true) := hok2.1
          have HFI : Hid (FitP u2 u1) := hfit2.symm
          simp only [Sd.val] at HBO2
          clear hu1 hu2 hok2 hfit2
          clear hv1 hv2 hok hfit ho1 ho2 hf
          simp only [Sd.val] at HBO
          go_wp2_with fail
          refine (HBO _).mono ?_
          rintro e w2 ⟨rfl, hb2⟩
          have l2 : w2.cell? (bd.add k) = some (.bool true) := (hb2.cell (World.block_lt_of_cell? wr _ l0)).trans l0
          have l3 : ((w2.alloc (.cells #[.int .i64 v1.sub, .bool v1.a, .bool v1.b] 23)).alloc (.cells #[.int .i64 v2.sub, .bool v2.a, .bool v2.b] 23)).cell? (bd.add k) = some (.bool true) := ((below2 w2 _ _).cell (World.block_lt_of_cell? w2 _ l2)).trans l2
          clear l2
          replace HW : Hid (Below w.heap.size w w2) := HW.out.trans (hb2.mono HW.out.size)
          replace HA : Hid (Blk g _ 23 w2) := HA.out.below hb2
          replace HB : Hid (Blk (g + 1) _ 23 w2) := HB.out.below hb2
          clear a_0 a_1 a_2 b_0 b_1 b_2 hb2
          obtain ⟨a_0, a_1, a_2, a_3, a_4, a_5⟩ := blk3 HA.out
          obtain ⟨b_0, b_1, b_2, b_3, b_4, b_5⟩ := blk3 HB.out
          have a_l : g < w2.heap.size := HA.out.lt
          have b_l : g + 1 < w2.heap.size := HB.out.lt
          go_wp2_with fail
          have hgx := Blk.new1 w2 #[.int .i64 v1.sub, .bool v1.a, .bool v1.b] 23 (.cells #[.int .i64 v2.sub, .bool v2.a, .bool v2.b] 23)
          have hgy := Blk.new2 w2 (.cells #[.int .i64 v1.sub, .bool v1.a, .bool v1.b] 23) #[.int .i64 v2.sub, .bool v2.a, .bool v2.b] 23
          refine (HBO2 _).mono ?_
          rintro e w3 ⟨rfl, hb3⟩
          have HX : Hid (Blk w2.heap.size _ 23 w3) := hgx.below hb3
          have HY2 : Hid (Blk (w2.heap.size + 1) _ 23 w3) := hgy.below hb3
          replace hb3 : Below w2.heap.size w2 w3 := (below2 _ _ _).trans (hb3.mono (below2 _ _ _).size)
          clear a_0 a_1 a_2 a_3 a_4 a_5 b_0 b_1 b_2 b_3 b_4 b_5 hgx hgy
          replace HW : Hid (Below w.heap.size w w3) := HW.out.trans (hb3.mono HW.out.size)
          replace HA : Hid (Blk g _ 23 w3) := HA.out.below hb3
          replace HB : Hid (Blk (g + 1) _ 23 w3) := HB.out.below hb3
          clear hb3
          obtain ⟨a_0, a_1, a_2, a_3, a_4, a_5⟩ := blk3 HA.out
          obtain ⟨b_0, b_1, b_2, b_3, b_4, b_5⟩ := blk3 HB.out
          obtain ⟨x_0, x_1, x_2, x_3, x_4, x_5⟩ := blk3 HX.out
          obtain ⟨z_0, z_1, z_2, z_3, z_4, z_5⟩ := blk3 HY2.out
          have n1 : ¬ w2.heap.size = g := by omega
          have n2 : ¬ w2.heap.size + 1 = g := by omega
          have n3 : ¬ w2.heap.size = g + 1 := by omega
          have n4 : ¬ w2.heap.size + 1 = g + 1 := by omega
          have n5 : ¬ g = w2.heap.size := by omega
          have n6 : ¬ g = w2.heap.size + 1 := by omega
          have n7 : ¬ g + 1 = w2.heap.size := by omega
          have n8 : ¬ g + 1 = w2.heap.size + 1 := by omega
          go_wp2_with fail
          have HA3 : Hid (Blk g #[.int .i64 u2.sub, .bool u2.a, .bool u2.b] 23 ((((((((((((w3.setCell ⟨w2.heap.size + 1, 0, none⟩ (.int .i64 u1.sub)).setCell ⟨w2.heap.size + 1, 1, none⟩ (.bool u1.a)).setCell ⟨w2.heap.size + 1, 2, none⟩ (.bool u1.b)).setCell ⟨w2.heap.size, 0, none⟩ (.int .i64 u2.sub)).setCell ⟨w2.heap.size, 1, none⟩ (.bool u2.a)).setCell ⟨w2.heap.size, 2, none⟩ (.bool u2.b)).setCell ⟨g, 0, none⟩ (.int .i64 u2.sub)).setCell ⟨g, 1, none⟩ (.bool u2.a)).setCell ⟨g, 2, none⟩ (.bool u2.b)).setCell ⟨g + 1, 0, none⟩ (.int .i64 u1.sub)).setCell ⟨g + 1, 1, none⟩ (.bool u1.a)).setCell ⟨g + 1, 2, none⟩ (.bool u1.b))) := ((((((((((((HA.out.other (by omega) 0 _).other (by omega) 1 _).other (by omega) 2 _).other (by omega) 0 _).other (by omega) 1 _).other (by omega) 2 _).set 0 _).set 1 _).set 2 _).other (by omega) 0 _).other (by omega) 1 _).other (by omega) 2 _)
          have HB3 : Hid (Blk (g + 1) #[.int .i64 u1.sub, .bool u1.a, .bool u1.b] 23 ((((((((((((w3.setCell ⟨w2.heap.size + 1, 0, none⟩ (.int .i64 u1.sub)).setCell ⟨w2.heap.size + 1, 1, none⟩ (.bool u1.a)).setCell ⟨w2.heap.size + 1, 2, none⟩ (.bool u1.b)).setCell ⟨w2.heap.size, 0, none⟩ (.int .i64 u2.sub)).setCell ⟨w2.heap.size, 1, none⟩ (.bool u2.a)).setCell ⟨w2.heap.size, 2, none⟩ (.bool u2.b)).setCell ⟨g, 0, none⟩ (.int .i64 u2.sub)).setCell ⟨g, 1, none⟩ (.bool u2.a)).setCell ⟨g, 2, none⟩ (.bool u2.b)).setCell ⟨g + 1, 0, none⟩ (.int .i64 u1.sub)).setCell ⟨g + 1, 1, none⟩ (.bool u1.a)).setCell ⟨g + 1, 2, none⟩ (.bool u1.b))) := ((((((((((((HB.out.other (by omega) 0 _).other (by omega) 1 _).other (by omega) 2 _).other (by omega) 0 _).other (by omega) 1 _).other (by omega) 2 _).other (by omega) 0 _).other (by omega) 1 _).other (by omega) 2 _).set 0 _).set 1 _).set 2 _)
          have HW3 : Hid (Below w.heap.size w ((((((((((((w3.setCell ⟨w2.heap.size + 1, 0, none⟩ (.int .i64 u1.sub)).setCell ⟨w2.heap.size + 1, 1, none⟩ (.bool u1.a)).setCell ⟨w2.heap.size + 1, 2, none⟩ (.bool u1.b)).setCell ⟨w2.heap.size, 0, none⟩ (.int .i64 u2.sub)).setCell ⟨w2.heap.size, 1, none⟩ (.bool u2.a)).setCell ⟨w2.heap.size, 2, none⟩ (.bool u2.b)).setCell ⟨g, 0, none⟩ (.int .i64 u2.sub)).setCell ⟨g, 1, none⟩ (.bool u2.a)).setCell ⟨g, 2, none⟩ (.bool u2.b)).setCell ⟨g + 1, 0, none⟩ (.int .i64 u1.sub)).setCell ⟨g + 1, 1, none⟩ (.bool u1.a)).setCell ⟨g + 1, 2, none⟩ (.bool u1.b))) := by3 (by3 HW.out ⟨by omega, by omega⟩) hle
          go_roundw
          case rel => exact ⟨k + 1, u2, u1, by omega, by omega, by go_num, HOA.out, HOB.out, HFI.out, HA3.out, HB3.out, HW3.out⟩
          case measure => simp [intOf]; omega
      · have h3' : ¬ (k : Int) < (m : Int) := by omega
        clear hw
        obtain ⟨v1, hv1⟩ : ∃ u, (boS (r + 1) t1 t2).1 = u := ⟨_, rfl⟩
        obtain ⟨v2, hv2⟩ : ∃ u, (boS (r + 1) t1 t2).2 = u := ⟨_, rfl⟩
        have HBO := fun W => both_at r hr4 t1 t2 ho1 ho2 W
        have hok := boS_ok (r + 1) t1 t2 ho1 ho2
        have hfit := fitP_bo (r + 1) (by omega) t1 t2 ho1 hf
        rw [hv1, hv2] at hok hfit
        simp only [hv1, hv2] at HBO
        have HOA : Hid (v1.ok = true) := hok.1
        have HOB : Hid (v2.ok = true) := hok.2
        have HFI : Hid (FitP v1 v2) := hfit
        clear hv1 hv2 hok hfit ho1 ho2 hf
        simp only [Sd.val] at HBO
        go_wp2_with (go_at_call 19; refine (HBO _).mono ?_; rintro e w2 ⟨rfl, hb2⟩; replace HW : Hid (Below w.heap.size w w2) := HW.out.trans (hb2.mono HW.out.size); replace HA : Hid (Blk g _ 23 w2) := HA.out.below hb2; replace HB : Hid (Blk (g + 1) _ 23 w2) := HB.out.below hb2; clear a_0 a_1 a_2 b_0 b_1 b_2 hb2; obtain ⟨a_0, a_1, a_2, a_3, a_4, a_5⟩ := blk3 HA.out; obtain ⟨b_0, b_1, b_2, b_3, b_4, b_5⟩ := blk3 HB.out; have a_l : g < w2.heap.size := HA.out.lt; have b_l : g + 1 < w2.heap.size := HB.out.lt)
        have HA3 : Hid (Blk g #[.int .i64 v1.sub, .bool v1.a, .bool v1.b] 23 ((((((((w2.setCell ⟨g, 0, none⟩ (.int .i64 v1.sub)).setCell ⟨g, 1, none⟩ (.bool v1.a)).setCell ⟨g, 2, none⟩ (.bool v1.b)).setCell ⟨g + 1, 0, none⟩ (.int .i64 v2.sub)).setCell ⟨g + 1, 1, none⟩ (.bool v2.a)).setCell ⟨g + 1, 2, none⟩ (.bool v2.b)).alloc (.cells #[.int .i64 v1.sub, .bool v1.a, .bool v1.b] 23)).alloc (.cells #[.int .i64 v2.sub, .bool v2.a, .bool v2.b] 23))) := ((((((HA.out.set 0 _).set 1 _).set 2 _).other (by omega) 0 _).other (by omega) 1 _).other (by omega) 2 _).below (below2 _ _ _)
        have HB3 : Hid (Blk (g + 1) #[.int .i64 v2.sub, .bool v2.a, .bool v2.b] 23 ((((((((w2.setCell ⟨g, 0, none⟩ (.int .i64 v1.sub)).setCell ⟨g, 1, none⟩ (.bool v1.a)).setCell ⟨g, 2, none⟩ (.bool v1.b)).setCell ⟨g + 1, 0, none⟩ (.int .i64 v2.sub)).setCell ⟨g + 1, 1, none⟩ (.bool v2.a)).setCell ⟨g + 1, 2, none⟩ (.bool v2.b)).alloc (.cells #[.int .i64 v1.sub, .bool v1.a, .bool v1.b] 23)).alloc (.cells #[.int .i64 v2.sub, .bool v2.a, .bool v2.b] 23))) := ((((((HB.out.other (by omega) 0 _).other (by omega) 1 _).other (by omega) 2 _).set 0 _).set 1 _).set 2 _).below (below2 _ _ _)
        have HW3 : Hid (Below w.heap.size w ((((((((w2.setCell ⟨g, 0, none⟩ (.int .i64 v1.sub)).setCell ⟨g, 1, none⟩ (.bool v1.a)).setCell ⟨g, 2, none⟩ (.bool v1.b)).setCell ⟨g + 1, 0, none⟩ (.int .i64 v2.sub)).setCell ⟨g + 1, 1, none⟩ (.bool v2.a)).setCell ⟨g + 1, 2, none⟩ (.bool v2.b)).alloc (.cells #[.int .i64 v1.sub, .bool v1.a, .bool v1.b] 23)).alloc (.cells #[.int .i64 v2.sub, .bool v2.a, .bool v2.b] 23))) := ((by3 HW.out hle).alloc (by have := HW.out.size; simp; omega) _).alloc (by have := HW.out.size; simp; omega) _
        go_roundw
        case rel => exact ⟨k + 1, v1, v2, by omega, by omega, by go_num, HOA.out, HOB.out, HFI.out, HA3.out, HB3.out, HW3.out⟩
        case measure => simp [intOf]; omega
    · have hend : ¬ (k : Int) < (n : Int) ∨ ((k : Int) < (n : Int) ∧ ¬ (k : Int) < 60) := by omega
      clear hw hlt
      obtain ⟨s3, d3, s4, d4, s1, d1, s2, d2, e3, f3, a4, e4, f4, a1, b1, e1, f1, a2, b2, e2, f2, qa, pa, HL0⟩ := tail_any t1 t2 ho1 ho2 hf
      have HL : Hid (Tail _ _ s3 d3 s4 d4 s1 d1 s2 d2 _ _ _ _ e3 f3 a4 e4 f4 a1 b1 e1 f1 a2 b2 e2 f2 qa pa) := HL0
      obtain ⟨sa, hsa⟩ : ∃ x, t1.sub = x := ⟨_, rfl⟩
      obtain ⟨sb, hsb⟩ : ∃ x, t2.sub = x := ⟨_, rfl⟩
      obtain ⟨aa, haa⟩ : ∃ x, t1.a = x := ⟨_, rfl⟩
      obtain ⟨ab, hab⟩ : ∃ x, t1.b = x := ⟨_, rfl⟩
      obtain ⟨ba, hba⟩ : ∃ x, t2.a = x := ⟨_, rfl⟩
      obtain ⟨bb, hbb⟩ : ∃ x, t2.b = x := ⟨_, rfl⟩
      rw [hsa, hsb, haa, hab, hba, hbb] at HL
      rw [hsa, haa, hab] at HA
      rw [hsb, hba, hbb] at HB
      rw [hsa] at a_0
      rw [haa] at a_1
      rw [hab] at a_2
      rw [hsb] at b_0
      rw [hba] at b_1
      rw [hbb] at b_2
      clear HL0 hsa hsb haa hab hba hbb ho1 ho2 hf hle hleS
      rcases hend with hend | ⟨he1, he2⟩
      · go_wp2_with fail
        refine (HL.out.K3 _).mono ?_
        rintro e w10 ⟨rfl, hb⟩
        replace HW : Hid (Below w.heap.size w w10) := HW.out.trans (hb.mono HW.out.size)
        replace HA : Hid (Blk g #[.int .i64 sa, .bool aa, .bool ab] 23 w10) := HA.out.below hb
        replace HB : Hid (Blk (g + 1) #[.int .i64 sb, .bool ba, .bool bb] 23 w10) := HB.out.below hb
        clear hb
        obtain ⟨A_0, A_1, A_2, _⟩ := blk3 HA.out
        have A_l : g < w10.heap.size := HA.out.lt
        obtain ⟨B_0, B_1, B_2, _⟩ := blk3 HB.out
        have B_l : g + 1 < w10.heap.size := HB.out.lt
        go_wp2_with fail
        have pac : g + 1 < w10.heap.size := B_l
        have pwl : w.heap.size ≤ g := hle0
        obtain ⟨W11, hW11⟩ : ∃ W11, (w10.alloc (.cells #[.int .i64 s3, .bool false, .bool ab] 23)).alloc (.cells #[.int .i64 d3, .bool e3, .bool f3] 23) = W11 := ⟨_, rfl⟩
        have hb : Below w10.heap.size w10 W11 := by rw [← hW11]; exact below2 _ _ _
        have HC : Hid (Blk w10.heap.size #[.int .i64 s3, .bool false, .bool ab] 23 W11) := by show Blk _ _ _ _; rw [← hW11]; exact Blk.new1 _ _ _ _
        have HD : Hid (Blk (w10.heap.size + 1) #[.int .i64 d3, .bool e3, .bool f3] 23 W11) := by show Blk _ _ _ _; rw [← hW11]; exact Blk.new2 _ _ _ _
        rw [hW11]
        clear hW11
        clear A_0 A_1 A_2 A_l
        clear B_0 B_1 B_2 B_l
        replace HW : Hid (Below w.heap.size w W11) := HW.out.trans (hb.mono HW.out.size)
        replace HA : Hid (Blk g #[.int .i64 sa, .bool aa, .bool ab] 23 W11) := HA.out.below hb
        replace HB : Hid (Blk (g + 1) #[.int .i64 sb, .bool ba, .bool bb] 23 W11) := HB.out.below hb
        clear hb
        obtain ⟨A_0, A_1, A_2, _⟩ := blk3 HA.out
        have A_l : g < W11.heap.size := HA.out.lt
        obtain ⟨B_0, B_1, B_2, _⟩ := blk3 HB.out
        have B_l : g + 1 < W11.heap.size := HB.out.lt
        obtain ⟨C_0, C_1, C_2, _⟩ := blk3 HC.out
        have C_l : w10.heap.size < W11.heap.size := HC.out.lt
        obtain ⟨D_0, D_1, D_2, _⟩ := blk3 HD.out
        have D_l : w10.heap.size + 1 < W11.heap.size := HD.out.lt
        have q1 : ∀ d os, Calls Tryd.prog 14 #[.agg #[.int .i64 s3, .bool false, .bool ab]] (grow (redrawn W11 d) os) fun e w'' => e = .returned (.bool false) ∧ ∃ p : Regrown, w'' = grow (redrawn W11 p.d) p.os := fun d os => Calls.regrown_of (HL.out.N3 _)
        have q2 : ∀ d os, Calls Tryd.prog 15 #[.agg #[.int .i64 s3, .bool false, .bool ab]] (grow (redrawn W11 d) os) fun e w'' => e = .returned (.bool qa) ∧ ∃ p : Regrown, w'' = grow (redrawn W11 p.d) p.os := fun d os => Calls.regrown_of (HL.out.M3 _)
        have q3 : ∀ d os, Calls Tryd.prog 15 #[.agg #[.int .i64 sa, .bool aa, .bool ab]] (grow (redrawn W11 d) os) fun e w'' => e = .returned (.bool qa) ∧ ∃ p : Regrown, w'' = grow (redrawn W11 p.d) p.os := fun d os => Calls.regrown_of (HL.out.MA _)
        have A_k0 := cell_regrown A_0
        have A_k1 := cell_regrown A_1
        have A_k2 := cell_regrown A_2
        have B_k0 := cell_regrown B_0
        have B_k1 := cell_regrown B_1
        have B_k2 := cell_regrown B_2
        have C_k0 := cell_regrown C_0
        have C_k1 := cell_regrown C_1
        have C_k2 := cell_regrown C_2
        have D_k0 := cell_regrown D_0
        have D_k1 := cell_regrown D_1
        have D_k2 := cell_regrown D_2
        clear A_0 A_1 A_2 B_0 B_1 B_2 C_0 C_1 C_2 D_0 D_1 D_2
        refine wp_region_quiet_below (by kernel_rfl) (by kernel_rfl) ?_
        repeat (quiet_step (first | (go_at_call 14; exact q1 _ _) | (go_at_call_of 15 (s3); exact q2 _ _) | (go_at_call 15; exact q3 _ _)))
        refine wpQuiet_nil ?_
        intro _ hw'
        obtain ⟨⟨dq, osq⟩, hw''⟩ := hw'
        subst hw''
        have hb := below_regrown W11 dq osq
        obtain ⟨w11, hw11⟩ : ∃ w11, grow (redrawn W11 dq) osq = w11 := ⟨_, rfl⟩
        rw [hw11] at hb ⊢
        clear hw11 A_k0 A_k1 A_k2 B_k0 B_k1 B_k2 C_k0 C_k1 C_k2 D_k0 D_k1 D_k2 q1 q2 q3 A_l B_l C_l D_l
        replace HW : Hid (Below w.heap.size w w11) := HW.out.trans (hb.mono HW.out.size)
        replace HA : Hid (Blk g #[.int .i64 sa, .bool aa, .bool ab] 23 w11) := HA.out.below hb
        replace HB : Hid (Blk (g + 1) #[.int .i64 sb, .bool ba, .bool bb] 23 w11) := HB.out.below hb
        replace HC : Hid (Blk w10.heap.size #[.int .i64 s3, .bool false, .bool ab] 23 w11) := HC.out.below hb
        replace HD : Hid (Blk (w10.heap.size + 1) #[.int .i64 d3, .bool e3, .bool f3] 23 w11) := HD.out.below hb
        clear hb
        obtain ⟨A_0, A_1, A_2, _⟩ := blk3 HA.out
        have A_l : g < w11.heap.size := HA.out.lt
        obtain ⟨B_0, B_1, B_2, _⟩ := blk3 HB.out
        have B_l : g + 1 < w11.heap.size := HB.out.lt
        obtain ⟨C_0, C_1, C_2, C_f0, C_f1, C_f2⟩ := blk3 HC.out
        have C_l : w10.heap.size < w11.heap.size := HC.out.lt
        obtain ⟨D_0, D_1, D_2, D_f0, D_f1, D_f2⟩ := blk3 HD.out
        have D_l : w10.heap.size + 1 < w11.heap.size := HD.out.lt
        go_wp2_with fail
        refine (HL.out.K4 _).mono ?_
        rintro e w12 ⟨rfl, hb⟩
        clear A_0 A_1 A_2 A_l
        clear B_0 B_1 B_2 B_l
        clear C_0 C_1 C_2 C_l C_f0 C_f1 C_f2
        clear D_0 D_1 D_2 D_l D_f0 D_f1 D_f2
        replace HW : Hid (Below w.heap.size w w12) := HW.out.trans (hb.mono HW.out.size)
        replace HA : Hid (Blk g #[.int .i64 sa, .bool aa, .bool ab] 23 w12) := HA.out.below hb
        replace HB : Hid (Blk (g + 1) #[.int .i64 sb, .bool ba, .bool bb] 23 w12) := HB.out.below hb
        replace HC : Hid (Blk w10.heap.size #[.int .i64 s3, .bool false, .bool ab] 23 w12) := HC.out.below hb
        replace HD : Hid (Blk (w10.heap.size + 1) #[.int .i64 d3, .bool e3, .bool f3] 23 w12) := HD.out.below hb
        clear hb
        obtain ⟨A_0, A_1, A_2, _⟩ := blk3 HA.out
        have A_l : g < w12.heap.size := HA.out.lt
        obtain ⟨B_0, B_1, B_2, _⟩ := blk3 HB.out
        have B_l : g + 1 < w12.heap.size := HB.out.lt
        obtain ⟨C_0, C_1, C_2, C_f0, C_f1, C_f2⟩ := blk3 HC.out
        have C_l : w10.heap.size < w12.heap.size := HC.out.lt
        obtain ⟨D_0, D_1, D_2, D_f0, D_f1, D_f2⟩ := blk3 HD.out
        have D_l : w10.heap.size + 1 < w12.heap.size := HD.out.lt
        have pcd : True := trivial
        go_wp2_with fail
        replace HA : Hid (Blk g #[.int .i64 sa, .bool aa, .bool ab] 23 ((((((w12.setCell ⟨w10.heap.size, 0, none⟩ (.int .i64 s4)).setCell ⟨w10.heap.size, 1, none⟩ (.bool a4)).setCell ⟨w10.heap.size, 2, none⟩ (.bool false)).setCell ⟨w10.heap.size + 1, 0, none⟩ (.int .i64 d4)).setCell ⟨w10.heap.size + 1, 1, none⟩ (.bool e4)).setCell ⟨w10.heap.size + 1, 2, none⟩ (.bool f4))) := ((((((HA.out.other (by omega) 0 _).other (by omega) 1 _).other (by omega) 2 _).other (by omega) 0 _).other (by omega) 1 _).other (by omega) 2 _)
        replace HB : Hid (Blk (g + 1) #[.int .i64 sb, .bool ba, .bool bb] 23 ((((((w12.setCell ⟨w10.heap.size, 0, none⟩ (.int .i64 s4)).setCell ⟨w10.heap.size, 1, none⟩ (.bool a4)).setCell ⟨w10.heap.size, 2, none⟩ (.bool false)).setCell ⟨w10.heap.size + 1, 0, none⟩ (.int .i64 d4)).setCell ⟨w10.heap.size + 1, 1, none⟩ (.bool e4)).setCell ⟨w10.heap.size + 1, 2, none⟩ (.bool f4))) := ((((((HB.out.other (by omega) 0 _).other (by omega) 1 _).other (by omega) 2 _).other (by omega) 0 _).other (by omega) 1 _).other (by omega) 2 _)
        replace HC : Hid (Blk w10.heap.size #[.int .i64 s4, .bool a4, .bool false] 23 ((((((w12.setCell ⟨w10.heap.size, 0, none⟩ (.int .i64 s4)).setCell ⟨w10.heap.size, 1, none⟩ (.bool a4)).setCell ⟨w10.heap.size, 2, none⟩ (.bool false)).setCell ⟨w10.heap.size + 1, 0, none⟩ (.int .i64 d4)).setCell ⟨w10.heap.size + 1, 1, none⟩ (.bool e4)).setCell ⟨w10.heap.size + 1, 2, none⟩ (.bool f4))) := ((((((HC.out.set 0 _).set 1 _).set 2 _).other (by omega) 0 _).other (by omega) 1 _).other (by omega) 2 _)
        replace HD : Hid (Blk (w10.heap.size + 1) #[.int .i64 d4, .bool e4, .bool f4] 23 ((((((w12.setCell ⟨w10.heap.size, 0, none⟩ (.int .i64 s4)).setCell ⟨w10.heap.size, 1, none⟩ (.bool a4)).setCell ⟨w10.heap.size, 2, none⟩ (.bool false)).setCell ⟨w10.heap.size + 1, 0, none⟩ (.int .i64 d4)).setCell ⟨w10.heap.size + 1, 1, none⟩ (.bool e4)).setCell ⟨w10.heap.size + 1, 2, none⟩ (.bool f4))) := ((((((HD.out.other (by omega) 0 _).other (by omega) 1 _).other (by omega) 2 _).set 0 _).set 1 _).set 2 _)
        replace HW : Hid (Below w.heap.size w ((((((w12.setCell ⟨w10.heap.size, 0, none⟩ (.int .i64 s4)).setCell ⟨w10.heap.size, 1, none⟩ (.bool a4)).setCell ⟨w10.heap.size, 2, none⟩ (.bool false)).setCell ⟨w10.heap.size + 1, 0, none⟩ (.int .i64 d4)).setCell ⟨w10.heap.size + 1, 1, none⟩ (.bool e4)).setCell ⟨w10.heap.size + 1, 2, none⟩ (.bool f4))) := by
          show Below _ _ _
          repeat (refine Below.setCell ?_ (by simp; try omega) _)
          exact HW.out
        clear A_0 A_1 A_2 A_l
        clear B_0 B_1 B_2 B_l
        clear C_0 C_1 C_2 C_l C_f0 C_f1 C_f2
        clear D_0 D_1 D_2 D_l D_f0 D_f1 D_f2
        obtain ⟨W13, hW13⟩ : ∃ W13, ((((((w12.setCell ⟨w10.heap.size, 0, none⟩ (.int .i64 s4)).setCell ⟨w10.heap.size, 1, none⟩ (.bool a4)).setCell ⟨w10.heap.size, 2, none⟩ (.bool false)).setCell ⟨w10.heap.size + 1, 0, none⟩ (.int .i64 d4)).setCell ⟨w10.heap.size + 1, 1, none⟩ (.bool e4)).setCell ⟨w10.heap.size + 1, 2, none⟩ (.bool f4)) = W13 := ⟨_, rfl⟩
        rw [hW13] at HA HB HC HD HW ⊢
        clear hW13
        obtain ⟨A_0, A_1, A_2, _⟩ := blk3 HA.out
        have A_l : g < W13.heap.size := HA.out.lt
        obtain ⟨B_0, B_1, B_2, _⟩ := blk3 HB.out
        have B_l : g + 1 < W13.heap.size := HB.out.lt
        obtain ⟨C_0, C_1, C_2, C_f0, C_f1, C_f2⟩ := blk3 HC.out
        have C_l : w10.heap.size < W13.heap.size := HC.out.lt
        obtain ⟨D_0, D_1, D_2, D_f0, D_f1, D_f2⟩ := blk3 HD.out
        have D_l : w10.heap.size + 1 < W13.heap.size := HD.out.lt
        obtain ⟨W14, hW14⟩ : ∃ W14, W13 = W14 := ⟨_, rfl⟩
        have hb : Below W13.heap.size W13 W14 := by rw [← hW14]; exact Below.refl _ _
        rw [hW14]
        clear hW14
        clear A_0 A_1 A_2 A_l
        clear B_0 B_1 B_2 B_l
        clear C_0 C_1 C_2 C_l C_f0 C_f1 C_f2
        clear D_0 D_1 D_2 D_l D_f0 D_f1 D_f2
        replace HW : Hid (Below w.heap.size w W14) := HW.out.trans (hb.mono HW.out.size)
        replace HA : Hid (Blk g #[.int .i64 sa, .bool aa, .bool ab] 23 W14) := HA.out.below hb
        replace HB : Hid (Blk (g + 1) #[.int .i64 sb, .bool ba, .bool bb] 23 W14) := HB.out.below hb
        replace HC : Hid (Blk w10.heap.size #[.int .i64 s4, .bool a4, .bool false] 23 W14) := HC.out.below hb
        replace HD : Hid (Blk (w10.heap.size + 1) #[.int .i64 d4, .bool e4, .bool f4] 23 W14) := HD.out.below hb
        clear hb
        obtain ⟨A_0, A_1, A_2, _⟩ := blk3 HA.out
        have A_l : g < W14.heap.size := HA.out.lt
        obtain ⟨B_0, B_1, B_2, _⟩ := blk3 HB.out
        have B_l : g + 1 < W14.heap.size := HB.out.lt
        obtain ⟨C_0, C_1, C_2, C_f0, C_f1, C_f2⟩ := blk3 HC.out
        have C_l : w10.heap.size < W14.heap.size := HC.out.lt
        obtain ⟨D_0, D_1, D_2, D_f0, D_f1, D_f2⟩ := blk3 HD.out
        have D_l : w10.heap.size + 1 < W14.heap.size := HD.out.lt
        have q1 : ∀ d os, Calls Tryd.prog 15 #[.agg #[.int .i64 s4, .bool a4, .bool false]] (grow (redrawn W14 d) os) fun e w'' => e = .returned (.bool false) ∧ ∃ p : Regrown, w'' = grow (redrawn W14 p.d) p.os := fun d os => Calls.regrown_of (HL.out.M4 _)
        have q2 : ∀ d os, Calls Tryd.prog 14 #[.agg #[.int .i64 s4, .bool a4, .bool false]] (grow (redrawn W14 d) os) fun e w'' => e = .returned (.bool pa) ∧ ∃ p : Regrown, w'' = grow (redrawn W14 p.d) p.os := fun d os => Calls.regrown_of (HL.out.N4 _)
        have q3 : ∀ d os, Calls Tryd.prog 14 #[.agg #[.int .i64 d4, .bool e4, .bool f4]] (grow (redrawn W14 d) os) fun e w'' => e = .returned (.bool false) ∧ ∃ p : Regrown, w'' = grow (redrawn W14 p.d) p.os := fun d os => Calls.regrown_of (HL.out.ND4 _)
        have q4 : ∀ d os, Calls Tryd.prog 14 #[.agg #[.int .i64 sa, .bool aa, .bool ab]] (grow (redrawn W14 d) os) fun e w'' => e = .returned (.bool pa) ∧ ∃ p : Regrown, w'' = grow (redrawn W14 p.d) p.os := fun d os => Calls.regrown_of (HL.out.NA _)
        have A_k0 := cell_regrown A_0
        have A_k1 := cell_regrown A_1
        have A_k2 := cell_regrown A_2
        have B_k0 := cell_regrown B_0
        have B_k1 := cell_regrown B_1
        have B_k2 := cell_regrown B_2
        have C_k0 := cell_regrown C_0
        have C_k1 := cell_regrown C_1
        have C_k2 := cell_regrown C_2
        have D_k0 := cell_regrown D_0
        have D_k1 := cell_regrown D_1
        have D_k2 := cell_regrown D_2
        clear A_0 A_1 A_2 B_0 B_1 B_2 C_0 C_1 C_2 D_0 D_1 D_2
        refine wp_region_quiet_below (by kernel_rfl) (by kernel_rfl) ?_
        repeat (quiet_step (first | (go_at_call 15; exact q1 _ _) | (go_at_call_of 14 (s4); exact q2 _ _) | (go_at_call_of 14 (d4); exact q3 _ _) | (go_at_call 14; exact q4 _ _)))
        refine wpQuiet_nil ?_
        intro _ hw'
        obtain ⟨⟨dq, osq⟩, hw''⟩ := hw'
        subst hw''
        have hb := below_regrown W14 dq osq
        obtain ⟨w14, hw14⟩ : ∃ w14, grow (redrawn W14 dq) osq = w14 := ⟨_, rfl⟩
        rw [hw14] at hb ⊢
        clear hw14 A_k0 A_k1 A_k2 B_k0 B_k1 B_k2 C_k0 C_k1 C_k2 D_k0 D_k1 D_k2 q1 q2 q3 q4 A_l B_l C_l D_l
        replace HW : Hid (Below w.heap.size w w14) := HW.out.trans (hb.mono HW.out.size)
        replace HA : Hid (Blk g #[.int .i64 sa, .bool aa, .bool ab] 23 w14) := HA.out.below hb
        replace HB : Hid (Blk (g + 1) #[.int .i64 sb, .bool ba, .bool bb] 23 w14) := HB.out.below hb
        replace HC : Hid (Blk w10.heap.size #[.int .i64 s4, .bool a4, .bool false] 23 w14) := HC.out.below hb
        replace HD : Hid (Blk (w10.heap.size + 1) #[.int .i64 d4, .bool e4, .bool f4] 23 w14) := HD.out.below hb
        clear hb
        obtain ⟨A_0, A_1, A_2, _⟩ := blk3 HA.out
        have A_l : g < w14.heap.size := HA.out.lt
        obtain ⟨B_0, B_1, B_2, _⟩ := blk3 HB.out
        have B_l : g + 1 < w14.heap.size := HB.out.lt
        obtain ⟨C_0, C_1, C_2, C_f0, C_f1, C_f2⟩ := blk3 HC.out
        have C_l : w10.heap.size < w14.heap.size := HC.out.lt
        obtain ⟨D_0, D_1, D_2, D_f0, D_f1, D_f2⟩ := blk3 HD.out
        have D_l : w10.heap.size + 1 < w14.heap.size := HD.out.lt
        go_wp2_with fail
        refine (HL.out.K1 _).mono ?_
        rintro e w15 ⟨rfl, hb⟩
        clear A_0 A_1 A_2 A_l
        clear B_0 B_1 B_2 B_l
        clear C_0 C_1 C_2 C_l C_f0 C_f1 C_f2
        clear D_0 D_1 D_2 D_l D_f0 D_f1 D_f2
        replace HW : Hid (Below w.heap.size w w15) := HW.out.trans (hb.mono HW.out.size)
        replace HA : Hid (Blk g #[.int .i64 sa, .bool aa, .bool ab] 23 w15) := HA.out.below hb
        replace HB : Hid (Blk (g + 1) #[.int .i64 sb, .bool ba, .bool bb] 23 w15) := HB.out.below hb
        replace HC : Hid (Blk w10.heap.size #[.int .i64 s4, .bool a4, .bool false] 23 w15) := HC.out.below hb
        replace HD : Hid (Blk (w10.heap.size + 1) #[.int .i64 d4, .bool e4, .bool f4] 23 w15) := HD.out.below hb
        clear hb
        obtain ⟨A_0, A_1, A_2, _⟩ := blk3 HA.out
        have A_l : g < w15.heap.size := HA.out.lt
        obtain ⟨B_0, B_1, B_2, _⟩ := blk3 HB.out
        have B_l : g + 1 < w15.heap.size := HB.out.lt
        obtain ⟨C_0, C_1, C_2, C_f0, C_f1, C_f2⟩ := blk3 HC.out
        have C_l : w10.heap.size < w15.heap.size := HC.out.lt
        obtain ⟨D_0, D_1, D_2, D_f0, D_f1, D_f2⟩ := blk3 HD.out
        have D_l : w10.heap.size + 1 < w15.heap.size := HD.out.lt
        go_wp2_with fail
        replace HA : Hid (Blk g #[.int .i64 sa, .bool aa, .bool ab] 23 ((((((w15.setCell ⟨w10.heap.size, 0, none⟩ (.int .i64 s1)).setCell ⟨w10.heap.size, 1, none⟩ (.bool a1)).setCell ⟨w10.heap.size, 2, none⟩ (.bool b1)).setCell ⟨w10.heap.size + 1, 0, none⟩ (.int .i64 d1)).setCell ⟨w10.heap.size + 1, 1, none⟩ (.bool e1)).setCell ⟨w10.heap.size + 1, 2, none⟩ (.bool f1))) := ((((((HA.out.other (by omega) 0 _).other (by omega) 1 _).other (by omega) 2 _).other (by omega) 0 _).other (by omega) 1 _).other (by omega) 2 _)
        replace HB : Hid (Blk (g + 1) #[.int .i64 sb, .bool ba, .bool bb] 23 ((((((w15.setCell ⟨w10.heap.size, 0, none⟩ (.int .i64 s1)).setCell ⟨w10.heap.size, 1, none⟩ (.bool a1)).setCell ⟨w10.heap.size, 2, none⟩ (.bool b1)).setCell ⟨w10.heap.size + 1, 0, none⟩ (.int .i64 d1)).setCell ⟨w10.heap.size + 1, 1, none⟩ (.bool e1)).setCell ⟨w10.heap.size + 1, 2, none⟩ (.bool f1))) := ((((((HB.out.other (by omega) 0 _).other (by omega) 1 _).other (by omega) 2 _).other (by omega) 0 _).other (by omega) 1 _).other (by omega) 2 _)
        replace HC : Hid (Blk w10.heap.size #[.int .i64 s1, .bool a1, .bool b1] 23 ((((((w15.setCell ⟨w10.heap.size, 0, none⟩ (.int .i64 s1)).setCell ⟨w10.heap.size, 1, none⟩ (.bool a1)).setCell ⟨w10.heap.size, 2, none⟩ (.bool b1)).setCell ⟨w10.heap.size + 1, 0, none⟩ (.int .i64 d1)).setCell ⟨w10.heap.size + 1, 1, none⟩ (.bool e1)).setCell ⟨w10.heap.size + 1, 2, none⟩ (.bool f1))) := ((((((HC.out.set 0 _).set 1 _).set 2 _).other (by omega) 0 _).other (by omega) 1 _).other (by omega) 2 _)
        replace HD : Hid (Blk (w10.heap.size + 1) #[.int .i64 d1, .bool e1, .bool f1] 23 ((((((w15.setCell ⟨w10.heap.size, 0, none⟩ (.int .i64 s1)).setCell ⟨w10.heap.size, 1, none⟩ (.bool a1)).setCell ⟨w10.heap.size, 2, none⟩ (.bool b1)).setCell ⟨w10.heap.size + 1, 0, none⟩ (.int .i64 d1)).setCell ⟨w10.heap.size + 1, 1, none⟩ (.bool e1)).setCell ⟨w10.heap.size + 1, 2, none⟩ (.bool f1))) := ((((((HD.out.other (by omega) 0 _).other (by omega) 1 _).other (by omega) 2 _).set 0 _).set 1 _).set 2 _)
        replace HW : Hid (Below w.heap.size w ((((((w15.setCell ⟨w10.heap.size, 0, none⟩ (.int .i64 s1)).setCell ⟨w10.heap.size, 1, none⟩ (.bool a1)).setCell ⟨w10.heap.size, 2, none⟩ (.bool b1)).setCell ⟨w10.heap.size + 1, 0, none⟩ (.int .i64 d1)).setCell ⟨w10.heap.size + 1, 1, none⟩ (.bool e1)).setCell ⟨w10.heap.size + 1, 2, none⟩ (.bool f1))) := by
          show Below _ _ _
          repeat (refine Below.setCell ?_ (by simp; try omega) _)
          exact HW.out
        clear A_0 A_1 A_2 A_l
        clear B_0 B_1 B_2 B_l
        clear C_0 C_1 C_2 C_l C_f0 C_f1 C_f2
        clear D_0 D_1 D_2 D_l D_f0 D_f1 D_f2
        obtain ⟨W16, hW16⟩ : ∃ W16, ((((((w15.setCell ⟨w10.heap.size, 0, none⟩ (.int .i64 s1)).setCell ⟨w10.heap.size, 1, none⟩ (.bool a1)).setCell ⟨w10.heap.size, 2, none⟩ (.bool b1)).setCell ⟨w10.heap.size + 1, 0, none⟩ (.int .i64 d1)).setCell ⟨w10.heap.size + 1, 1, none⟩ (.bool e1)).setCell ⟨w10.heap.size + 1, 2, none⟩ (.bool f1)) = W16 := ⟨_, rfl⟩
        rw [hW16] at HA HB HC HD HW ⊢
        clear hW16
        obtain ⟨A_0, A_1, A_2, _⟩ := blk3 HA.out
        have A_l : g < W16.heap.size := HA.out.lt
        obtain ⟨B_0, B_1, B_2, _⟩ := blk3 HB.out
        have B_l : g + 1 < W16.heap.size := HB.out.lt
        obtain ⟨C_0, C_1, C_2, C_f0, C_f1, C_f2⟩ := blk3 HC.out
        have C_l : w10.heap.size < W16.heap.size := HC.out.lt
        obtain ⟨D_0, D_1, D_2, D_f0, D_f1, D_f2⟩ := blk3 HD.out
        have D_l : w10.heap.size + 1 < W16.heap.size := HD.out.lt
        refine (HL.out.K2 _).mono ?_
        rintro e w17 ⟨rfl, hb⟩
        clear A_0 A_1 A_2 A_l
        clear B_0 B_1 B_2 B_l
        clear C_0 C_1 C_2 C_l C_f0 C_f1 C_f2
        clear D_0 D_1 D_2 D_l D_f0 D_f1 D_f2
        replace HW : Hid (Below w.heap.size w w17) := HW.out.trans (hb.mono HW.out.size)
        replace HA : Hid (Blk g #[.int .i64 sa, .bool aa, .bool ab] 23 w17) := HA.out.below hb
        replace HB : Hid (Blk (g + 1) #[.int .i64 sb, .bool ba, .bool bb] 23 w17) := HB.out.below hb
        replace HC : Hid (Blk w10.heap.size #[.int .i64 s1, .bool a1, .bool b1] 23 w17) := HC.out.below hb
        replace HD : Hid (Blk (w10.heap.size + 1) #[.int .i64 d1, .bool e1, .bool f1] 23 w17) := HD.out.below hb
        clear hb
        obtain ⟨A_0, A_1, A_2, _⟩ := blk3 HA.out
        have A_l : g < w17.heap.size := HA.out.lt
        obtain ⟨B_0, B_1, B_2, _⟩ := blk3 HB.out
        have B_l : g + 1 < w17.heap.size := HB.out.lt
        obtain ⟨C_0, C_1, C_2, C_f0, C_f1, C_f2⟩ := blk3 HC.out
        have C_l : w10.heap.size < w17.heap.size := HC.out.lt
        obtain ⟨D_0, D_1, D_2, D_f0, D_f1, D_f2⟩ := blk3 HD.out
        have D_l : w10.heap.size + 1 < w17.heap.size := HD.out.lt
        go_wp2_with fail
        replace HA : Hid (Blk g #[.int .i64 sa, .bool aa, .bool ab] 23 ((((((w17.setCell ⟨w10.heap.size + 1, 0, none⟩ (.int .i64 d2)).setCell ⟨w10.heap.size + 1, 1, none⟩ (.bool e2)).setCell ⟨w10.heap.size + 1, 2, none⟩ (.bool f2)).setCell ⟨w10.heap.size, 0, none⟩ (.int .i64 s2)).setCell ⟨w10.heap.size, 1, none⟩ (.bool a2)).setCell ⟨w10.heap.size, 2, none⟩ (.bool b2))) := ((((((HA.out.other (by omega) 0 _).other (by omega) 1 _).other (by omega) 2 _).other (by omega) 0 _).other (by omega) 1 _).other (by omega) 2 _)
        replace HB : Hid (Blk (g + 1) #[.int .i64 sb, .bool ba, .bool bb] 23 ((((((w17.setCell ⟨w10.heap.size + 1, 0, none⟩ (.int .i64 d2)).setCell ⟨w10.heap.size + 1, 1, none⟩ (.bool e2)).setCell ⟨w10.heap.size + 1, 2, none⟩ (.bool f2)).setCell ⟨w10.heap.size, 0, none⟩ (.int .i64 s2)).setCell ⟨w10.heap.size, 1, none⟩ (.bool a2)).setCell ⟨w10.heap.size, 2, none⟩ (.bool b2))) := ((((((HB.out.other (by omega) 0 _).other (by omega) 1 _).other (by omega) 2 _).other (by omega) 0 _).other (by omega) 1 _).other (by omega) 2 _)
        replace HC : Hid (Blk w10.heap.size #[.int .i64 s2, .bool a2, .bool b2] 23 ((((((w17.setCell ⟨w10.heap.size + 1, 0, none⟩ (.int .i64 d2)).setCell ⟨w10.heap.size + 1, 1, none⟩ (.bool e2)).setCell ⟨w10.heap.size + 1, 2, none⟩ (.bool f2)).setCell ⟨w10.heap.size, 0, none⟩ (.int .i64 s2)).setCell ⟨w10.heap.size, 1, none⟩ (.bool a2)).setCell ⟨w10.heap.size, 2, none⟩ (.bool b2))) := ((((((HC.out.other (by omega) 0 _).other (by omega) 1 _).other (by omega) 2 _).set 0 _).set 1 _).set 2 _)
        replace HD : Hid (Blk (w10.heap.size + 1) #[.int .i64 d2, .bool e2, .bool f2] 23 ((((((w17.setCell ⟨w10.heap.size + 1, 0, none⟩ (.int .i64 d2)).setCell ⟨w10.heap.size + 1, 1, none⟩ (.bool e2)).setCell ⟨w10.heap.size + 1, 2, none⟩ (.bool f2)).setCell ⟨w10.heap.size, 0, none⟩ (.int .i64 s2)).setCell ⟨w10.heap.size, 1, none⟩ (.bool a2)).setCell ⟨w10.heap.size, 2, none⟩ (.bool b2))) := ((((((HD.out.set 0 _).set 1 _).set 2 _).other (by omega) 0 _).other (by omega) 1 _).other (by omega) 2 _)
        replace HW : Hid (Below w.heap.size w ((((((w17.setCell ⟨w10.heap.size + 1, 0, none⟩ (.int .i64 d2)).setCell ⟨w10.heap.size + 1, 1, none⟩ (.bool e2)).setCell ⟨w10.heap.size + 1, 2, none⟩ (.bool f2)).setCell ⟨w10.heap.size, 0, none⟩ (.int .i64 s2)).setCell ⟨w10.heap.size, 1, none⟩ (.bool a2)).setCell ⟨w10.heap.size, 2, none⟩ (.bool b2))) := by
          show Below _ _ _
          repeat (refine Below.setCell ?_ (by simp; try omega) _)
          exact HW.out
        clear A_0 A_1 A_2 A_l
        clear B_0 B_1 B_2 B_l
        clear C_0 C_1 C_2 C_l C_f0 C_f1 C_f2
        clear D_0 D_1 D_2 D_l D_f0 D_f1 D_f2
        obtain ⟨W18, hW18⟩ : ∃ W18, ((((((w17.setCell ⟨w10.heap.size + 1, 0, none⟩ (.int .i64 d2)).setCell ⟨w10.heap.size + 1, 1, none⟩ (.bool e2)).setCell ⟨w10.heap.size + 1, 2, none⟩ (.bool f2)).setCell ⟨w10.heap.size, 0, none⟩ (.int .i64 s2)).setCell ⟨w10.heap.size, 1, none⟩ (.bool a2)).setCell ⟨w10.heap.size, 2, none⟩ (.bool b2)) = W18 := ⟨_, rfl⟩
        rw [hW18] at HA HB HC HD HW ⊢
        clear hW18
        obtain ⟨A_0, A_1, A_2, _⟩ := blk3 HA.out
        have A_l : g < W18.heap.size := HA.out.lt
        obtain ⟨B_0, B_1, B_2, _⟩ := blk3 HB.out
        have B_l : g + 1 < W18.heap.size := HB.out.lt
        obtain ⟨C_0, C_1, C_2, C_f0, C_f1, C_f2⟩ := blk3 HC.out
        have C_l : w10.heap.size < W18.heap.size := HC.out.lt
        obtain ⟨D_0, D_1, D_2, D_f0, D_f1, D_f2⟩ := blk3 HD.out
        have D_l : w10.heap.size + 1 < W18.heap.size := HD.out.lt
        obtain ⟨W19, hW19⟩ : ∃ W19, W18 = W19 := ⟨_, rfl⟩
        have hb : Below W18.heap.size W18 W19 := by rw [← hW19]; exact Below.refl _ _
        rw [hW19]
        clear hW19
        clear A_0 A_1 A_2 A_l
        clear B_0 B_1 B_2 B_l
        clear C_0 C_1 C_2 C_l C_f0 C_f1 C_f2
        clear D_0 D_1 D_2 D_l D_f0 D_f1 D_f2
        replace HW : Hid (Below w.heap.size w W19) := HW.out.trans (hb.mono HW.out.size)
        replace HA : Hid (Blk g #[.int .i64 sa, .bool aa, .bool ab] 23 W19) := HA.out.below hb
        replace HB : Hid (Blk (g + 1) #[.int .i64 sb, .bool ba, .bool bb] 23 W19) := HB.out.below hb
        replace HC : Hid (Blk w10.heap.size #[.int .i64 s2, .bool a2, .bool b2] 23 W19) := HC.out.below hb
        replace HD : Hid (Blk (w10.heap.size + 1) #[.int .i64 d2, .bool e2, .bool f2] 23 W19) := HD.out.below hb
        clear hb
        obtain ⟨A_0, A_1, A_2, _⟩ := blk3 HA.out
        have A_l : g < W19.heap.size := HA.out.lt
        obtain ⟨B_0, B_1, B_2, _⟩ := blk3 HB.out
        have B_l : g + 1 < W19.heap.size := HB.out.lt
        obtain ⟨C_0, C_1, C_2, _⟩ := blk3 HC.out
        have C_l : w10.heap.size < W19.heap.size := HC.out.lt
        obtain ⟨D_0, D_1, D_2, _⟩ := blk3 HD.out
        have D_l : w10.heap.size + 1 < W19.heap.size := HD.out.lt
        have q1 : ∀ d os, Calls Tryd.prog 14 #[.agg #[.int .i64 s2, .bool a2, .bool b2]] (grow (redrawn W19 d) os) fun e w'' => e = .returned (.bool true) ∧ ∃ p : Regrown, w'' = grow (redrawn W19 p.d) p.os := fun d os => Calls.regrown_of (HL.out.N1 _)
        have q2 : ∀ d os, Calls Tryd.prog 15 #[.agg #[.int .i64 d2, .bool e2, .bool f2]] (grow (redrawn W19 d) os) fun e w'' => e = .returned (.bool true) ∧ ∃ p : Regrown, w'' = grow (redrawn W19 p.d) p.os := fun d os => Calls.regrown_of (HL.out.MD1 _)
        have q3 : ∀ d os, Calls Tryd.prog 15 #[.agg #[.int .i64 s2, .bool a2, .bool b2]] (grow (redrawn W19 d) os) fun e w'' => e = .returned (.bool qa) ∧ ∃ p : Regrown, w'' = grow (redrawn W19 p.d) p.os := fun d os => Calls.regrown_of (HL.out.M1 _)
        have q4 : ∀ d os, Calls Tryd.prog 15 #[.agg #[.int .i64 sa, .bool aa, .bool ab]] (grow (redrawn W19 d) os) fun e w'' => e = .returned (.bool qa) ∧ ∃ p : Regrown, w'' = grow (redrawn W19 p.d) p.os := fun d os => Calls.regrown_of (HL.out.MA _)
        have A_k0 := cell_regrown A_0
        have A_k1 := cell_regrown A_1
        have A_k2 := cell_regrown A_2
        have B_k0 := cell_regrown B_0
        have B_k1 := cell_regrown B_1
        have B_k2 := cell_regrown B_2
        have C_k0 := cell_regrown C_0
        have C_k1 := cell_regrown C_1
        have C_k2 := cell_regrown C_2
        have D_k0 := cell_regrown D_0
        have D_k1 := cell_regrown D_1
        have D_k2 := cell_regrown D_2
        clear A_0 A_1 A_2 B_0 B_1 B_2 C_0 C_1 C_2 D_0 D_1 D_2
        refine wp_region_quiet_below (by kernel_rfl) (by kernel_rfl) ?_
        repeat (quiet_step (first | (go_at_call 14; exact q1 _ _) | (go_at_call_of 15 (d2); exact q2 _ _) | (go_at_call_of 15 (s2); exact q3 _ _) | (go_at_call 15; exact q4 _ _)))
        refine wpQuiet_nil ?_
        intro _ hw'
        obtain ⟨⟨dq, osq⟩, hw''⟩ := hw'
        subst hw''
        have hb := below_regrown W19 dq osq
        obtain ⟨w19, hw19⟩ : ∃ w19, grow (redrawn W19 dq) osq = w19 := ⟨_, rfl⟩
        rw [hw19] at hb ⊢
        clear hw19 A_k0 A_k1 A_k2 B_k0 B_k1 B_k2 C_k0 C_k1 C_k2 D_k0 D_k1 D_k2 q1 q2 q3 q4 A_l B_l C_l D_l
        replace HW : Hid (Below w.heap.size w w19) := HW.out.trans (hb.mono HW.out.size)
        replace HA : Hid (Blk g #[.int .i64 sa, .bool aa, .bool ab] 23 w19) := HA.out.below hb
        replace HB : Hid (Blk (g + 1) #[.int .i64 sb, .bool ba, .bool bb] 23 w19) := HB.out.below hb
        replace HC : Hid (Blk w10.heap.size #[.int .i64 s2, .bool a2, .bool b2] 23 w19) := HC.out.below hb
        replace HD : Hid (Blk (w10.heap.size + 1) #[.int .i64 d2, .bool e2, .bool f2] 23 w19) := HD.out.below hb
        clear hb
        obtain ⟨A_0, A_1, A_2, _⟩ := blk3 HA.out
        have A_l : g < w19.heap.size := HA.out.lt
        obtain ⟨B_0, B_1, B_2, _⟩ := blk3 HB.out
        have B_l : g + 1 < w19.heap.size := HB.out.lt
        obtain ⟨C_0, C_1, C_2, _⟩ := blk3 HC.out
        have C_l : w10.heap.size < w19.heap.size := HC.out.lt
        obtain ⟨D_0, D_1, D_2, _⟩ := blk3 HD.out
        have D_l : w10.heap.size + 1 < w19.heap.size := HD.out.lt
        go_wp2_with fail
        go_ret
        exact ⟨rfl, HW.out⟩
      · go_wp2_with fail
        refine (HL.out.K3 _).mono ?_
        rintro e w10 ⟨rfl, hb⟩
        replace HW : Hid (Below w.heap.size w w10) := HW.out.trans (hb.mono HW.out.size)
        replace HA : Hid (Blk g #[.int .i64 sa, .bool aa, .bool ab] 23 w10) := HA.out.below hb
        replace HB : Hid (Blk (g + 1) #[.int .i64 sb, .bool ba, .bool bb] 23 w10) := HB.out.below hb
        clear hb
        obtain ⟨A_0, A_1, A_2, _⟩ := blk3 HA.out
        have A_l : g < w10.heap.size := HA.out.lt
        obtain ⟨B_0, B_1, B_2, _⟩ := blk3 HB.out
        have B_l : g + 1 < w10.heap.size := HB.out.lt
        go_wp2_with fail
        have pac : g + 1 < w10.heap.size := B_l
        have pwl : w.heap.size ≤ g := hle0
        obtain ⟨W11, hW11⟩ : ∃ W11, (w10.alloc (.cells #[.int .i64 s3, .bool false, .bool ab] 23)).alloc (.cells #[.int .i64 d3, .bool e3, .bool f3] 23) = W11 := ⟨_, rfl⟩
        have hb : Below w10.heap.size w10 W11 := by rw [← hW11]; exact below2 _ _ _
        have HC : Hid (Blk w10.heap.size #[.int .i64 s3, .bool false, .bool ab] 23 W11) := by show Blk _ _ _ _; rw [← hW11]; exact Blk.new1 _ _ _ _
        have HD : Hid (Blk (w10.heap.size + 1) #[.int .i64 d3, .bool e3, .bool f3] 23 W11) := by show Blk _ _ _ _; rw [← hW11]; exact Blk.new2 _ _ _ _
        rw [hW11]
        clear hW11
        clear A_0 A_1 A_2 A_l
        clear B_0 B_1 B_2 B_l
        replace HW : Hid (Below w.heap.size w W11) := HW.out.trans (hb.mono HW.out.size)
        replace HA : Hid (Blk g #[.int .i64 sa, .bool aa, .bool ab] 23 W11) := HA.out.below hb
        replace HB : Hid (Blk (g + 1) #[.int .i64 sb, .bool ba, .bool bb] 23 W11) := HB.out.below hb
        clear hb
        obtain ⟨A_0, A_1, A_2, _⟩ := blk3 HA.out
        have A_l : g < W11.heap.size := HA.out.lt
        obtain ⟨B_0, B_1, B_2, _⟩ := blk3 HB.out
        have B_l : g + 1 < W11.heap.size := HB.out.lt
        obtain ⟨C_0, C_1, C_2, _⟩ := blk3 HC.out
        have C_l : w10.heap.size < W11.heap.size := HC.out.lt
        obtain ⟨D_0, D_1, D_2, _⟩ := blk3 HD.out
        have D_l : w10.heap.size + 1 < W11.heap.size := HD.out.lt
        have q1 : ∀ d os, Calls Tryd.prog 14 #[.agg #[.int .i64 s3, .bool false, .bool ab]] (grow (redrawn W11 d) os) fun e w'' => e = .returned (.bool false) ∧ ∃ p : Regrown, w'' = grow (redrawn W11 p.d) p.os := fun d os => Calls.regrown_of (HL.out.N3 _)
        have q2 : ∀ d os, Calls Tryd.prog 15 #[.agg #[.int .i64 s3, .bool false, .bool ab]] (grow (redrawn W11 d) os) fun e w'' => e = .returned (.bool qa) ∧ ∃ p : Regrown, w'' = grow (redrawn W11 p.d) p.os := fun d os => Calls.regrown_of (HL.out.M3 _)
        have q3 : ∀ d os, Calls Tryd.prog 15 #[.agg #[.int .i64 sa, .bool aa, .bool ab]] (grow (redrawn W11 d) os) fun e w'' => e = .returned (.bool qa) ∧ ∃ p : Regrown, w'' = grow (redrawn W11 p.d) p.os := fun d os => Calls.regrown_of (HL.out.MA _)
        have A_k0 := cell_regrown A_0
        have A_k1 := cell_regrown A_1
        have A_k2 := cell_regrown A_2
        have B_k0 := cell_regrown B_0
        have B_k1 := cell_regrown B_1
        have B_k2 := cell_regrown B_2
        have C_k0 := cell_regrown C_0
        have C_k1 := cell_regrown C_1
        have C_k2 := cell_regrown C_2
        have D_k0 := cell_regrown D_0
        have D_k1 := cell_regrown D_1
        have D_k2 := cell_regrown D_2
        clear A_0 A_1 A_2 B_0 B_1 B_2 C_0 C_1 C_2 D_0 D_1 D_2
        refine wp_region_quiet_below (by kernel_rfl) (by kernel_rfl) ?_
        repeat (quiet_step (first | (go_at_call 14; exact q1 _ _) | (go_at_call_of 15 (s3); exact q2 _ _) | (go_at_call 15; exact q3 _ _)))
        refine wpQuiet_nil ?_
        intro _ hw'
        obtain ⟨⟨dq, osq⟩, hw''⟩ := hw'
        subst hw''
        have hb := below_regrown W11 dq osq
        obtain ⟨w11, hw11⟩ : ∃ w11, grow (redrawn W11 dq) osq = w11 := ⟨_, rfl⟩
        rw [hw11] at hb ⊢
        clear hw11 A_k0 A_k1 A_k2 B_k0 B_k1 B_k2 C_k0 C_k1 C_k2 D_k0 D_k1 D_k2 q1 q2 q3 A_l B_l C_l D_l
        replace HW : Hid (Below w.heap.size w w11) := HW.out.trans (hb.mono HW.out.size)
        replace HA : Hid (Blk g #[.int .i64 sa, .bool aa, .bool ab] 23 w11) := HA.out.below hb
        replace HB : Hid (Blk (g + 1) #[.int .i64 sb, .bool ba, .bool bb] 23 w11) := HB.out.below hb
        replace HC : Hid (Blk w10.heap.size #[.int .i64 s3, .bool false, .bool ab] 23 w11) := HC.out.below hb
        replace HD : Hid (Blk (w10.heap.size + 1) #[.int .i64 d3, .bool e3, .bool f3] 23 w11) := HD.out.below hb
        clear hb
        obtain ⟨A_0, A_1, A_2, _⟩ := blk3 HA.out
        have A_l : g < w11.heap.size := HA.out.lt
        obtain ⟨B_0, B_1, B_2, _⟩ := blk3 HB.out
        have B_l : g + 1 < w11.heap.size := HB.out.lt
        obtain ⟨C_0, C_1, C_2, C_f0, C_f1, C_f2⟩ := blk3 HC.out
        have C_l : w10.heap.size < w11.heap.size := HC.out.lt
        obtain ⟨D_0, D_1, D_2, D_f0, D_f1, D_f2⟩ := blk3 HD.out
        have D_l : w10.heap.size + 1 < w11.heap.size := HD.out.lt
        go_wp2_with fail
        refine (HL.out.K4 _).mono ?_
        rintro e w12 ⟨rfl, hb⟩
        clear A_0 A_1 A_2 A_l
        clear B_0 B_1 B_2 B_l
        clear C_0 C_1 C_2 C_l C_f0 C_f1 C_f2
        clear D_0 D_1 D_2 D_l D_f0 D_f1 D_f2
        replace HW : Hid (Below w.heap.size w w12) := HW.out.trans (hb.mono HW.out.size)
        replace HA : Hid (Blk g #[.int .i64 sa, .bool aa, .bool ab] 23 w12) := HA.out.below hb
        replace HB : Hid (Blk (g + 1) #[.int .i64 sb, .bool ba, .bool bb] 23 w12) := HB.out.below hb
        replace HC : Hid (Blk w10.heap.size #[.int .i64 s3, .bool false, .bool ab] 23 w12) := HC.out.below hb
        replace HD : Hid (Blk (w10.heap.size + 1) #[.int .i64 d3, .bool e3, .bool f3] 23 w12) := HD.out.below hb
        clear hb
        obtain ⟨A_0, A_1, A_2, _⟩ := blk3 HA.out
        have A_l : g < w12.heap.size := HA.out.lt
        obtain ⟨B_0, B_1, B_2, _⟩ := blk3 HB.out
        have B_l : g + 1 < w12.heap.size := HB.out.lt
        obtain ⟨C_0, C_1, C_2, C_f0, C_f1, C_f2⟩ := blk3 HC.out
        have C_l : w10.heap.size < w12.heap.size := HC.out.lt
        obtain ⟨D_0, D_1, D_2, D_f0, D_f1, D_f2⟩ := blk3 HD.out
        have D_l : w10.heap.size + 1 < w12.heap.size := HD.out.lt
        have pcd : True := trivial
        go_wp2_with fail
        replace HA : Hid (Blk g #[.int .i64 sa, .bool aa, .bool ab] 23 ((((((w12.setCell ⟨w10.heap.size, 0, none⟩ (.int .i64 s4)).setCell ⟨w10.heap.size, 1, none⟩ (.bool a4)).setCell ⟨w10.heap.size, 2, none⟩ (.bool false)).setCell ⟨w10.heap.size + 1, 0, none⟩ (.int .i64 d4)).setCell ⟨w10.heap.size + 1, 1, none⟩ (.bool e4)).setCell ⟨w10.heap.size + 1, 2, none⟩ (.bool f4))) := ((((((HA.out.other (by omega) 0 _).other (by omega) 1 _).other (by omega) 2 _).other (by omega) 0 _).other (by omega) 1 _).other (by omega) 2 _)
        replace HB : Hid (Blk (g + 1) #[.int .i64 sb, .bool ba, .bool bb] 23 ((((((w12.setCell ⟨w10.heap.size, 0, none⟩ (.int .i64 s4)).setCell ⟨w10.heap.size, 1, none⟩ (.bool a4)).setCell ⟨w10.heap.size, 2, none⟩ (.bool false)).setCell ⟨w10.heap.size + 1, 0, none⟩ (.int .i64 d4)).setCell ⟨w10.heap.size + 1, 1, none⟩ (.bool e4)).setCell ⟨w10.heap.size + 1, 2, none⟩ (.bool f4))) := ((((((HB.out.other (by omega) 0 _).other (by omega) 1 _).other (by omega) 2 _).other (by omega) 0 _).other (by omega) 1 _).other (by omega) 2 _)
        replace HC : Hid (Blk w10.heap.size #[.int .i64 s4, .bool a4, .bool false] 23 ((((((w12.setCell ⟨w10.heap.size, 0, none⟩ (.int .i64 s4)).setCell ⟨w10.heap.size, 1, none⟩ (.bool a4)).setCell ⟨w10.heap.size, 2, none⟩ (.bool false)).setCell ⟨w10.heap.size + 1, 0, none⟩ (.int .i64 d4)).setCell ⟨w10.heap.size + 1, 1, none⟩ (.bool e4)).setCell ⟨w10.heap.size + 1, 2, none⟩ (.bool f4))) := ((((((HC.out.set 0 _).set 1 _).set 2 _).other (by omega) 0 _).other (by omega) 1 _).other (by omega) 2 _)
        replace HD : Hid (Blk (w10.heap.size + 1) #[.int .i64 d4, .bool e4, .bool f4] 23 ((((((w12.setCell ⟨w10.heap.size, 0, none⟩ (.int .i64 s4)).setCell ⟨w10.heap.size, 1, none⟩ (.bool a4)).setCell ⟨w10.heap.size, 2, none⟩ (.bool false)).setCell ⟨w10.heap.size + 1, 0, none⟩ (.int .i64 d4)).setCell ⟨w10.heap.size + 1, 1, none⟩ (.bool e4)).setCell ⟨w10.heap.size + 1, 2, none⟩ (.bool f4))) := ((((((HD.out.other (by omega) 0 _).other (by omega) 1 _).other (by omega) 2 _).set 0 _).set 1 _).set 2 _)
        replace HW : Hid (Below w.heap.size w ((((((w12.setCell ⟨w10.heap.size, 0, none⟩ (.int .i64 s4)).setCell ⟨w10.heap.size, 1, none⟩ (.bool a4)).setCell ⟨w10.heap.size, 2, none⟩ (.bool false)).setCell ⟨w10.heap.size + 1, 0, none⟩ (.int .i64 d4)).setCell ⟨w10.heap.size + 1, 1, none⟩ (.bool e4)).setCell ⟨w10.heap.size + 1, 2, none⟩ (.bool f4))) := by
          show Below _ _ _
          repeat (refine Below.setCell ?_ (by simp; try omega) _)
          exact HW.out
        clear A_0 A_1 A_2 A_l
        clear B_0 B_1 B_2 B_l
        clear C_0 C_1 C_2 C_l C_f0 C_f1 C_f2
        clear D_0 D_1 D_2 D_l D_f0 D_f1 D_f2
        obtain ⟨W13, hW13⟩ : ∃ W13, ((((((w12.setCell ⟨w10.heap.size, 0, none⟩ (.int .i64 s4)).setCell ⟨w10.heap.size, 1, none⟩ (.bool a4)).setCell ⟨w10.heap.size, 2, none⟩ (.bool false)).setCell ⟨w10.heap.size + 1, 0, none⟩ (.int .i64 d4)).setCell ⟨w10.heap.size + 1, 1, none⟩ (.bool e4)).setCell ⟨w10.heap.size + 1, 2, none⟩ (.bool f4)) = W13 := ⟨_, rfl⟩
        rw [hW13] at HA HB HC HD HW ⊢
        clear hW13
        obtain ⟨A_0, A_1, A_2, _⟩ := blk3 HA.out
        have A_l : g < W13.heap.size := HA.out.lt
        obtain ⟨B_0, B_1, B_2, _⟩ := blk3 HB.out
        have B_l : g + 1 < W13.heap.size := HB.out.lt
        obtain ⟨C_0, C_1, C_2, C_f0, C_f1, C_f2⟩ := blk3 HC.out
        have C_l : w10.heap.size < W13.heap.size := HC.out.lt
        obtain ⟨D_0, D_1, D_2, D_f0, D_f1, D_f2⟩ := blk3 HD.out
        have D_l : w10.heap.size + 1 < W13.heap.size := HD.out.lt
        obtain ⟨W14, hW14⟩ : ∃ W14, W13 = W14 := ⟨_, rfl⟩
        have hb : Below W13.heap.size W13 W14 := by rw [← hW14]; exact Below.refl _ _
        rw [hW14]
        clear hW14
        clear A_0 A_1 A_2 A_l
        clear B_0 B_1 B_2 B_l
        clear C_0 C_1 C_2 C_l C_f0 C_f1 C_f2
        clear D_0 D_1 D_2 D_l D_f0 D_f1 D_f2
        replace HW : Hid (Below w.heap.size w W14) := HW.out.trans (hb.mono HW.out.size)
        replace HA : Hid (Blk g #[.int .i64 sa, .bool aa, .bool ab] 23 W14) := HA.out.below hb
        replace HB : Hid (Blk (g + 1) #[.int .i64 sb, .bool ba, .bool bb] 23 W14) := HB.out.below hb
        replace HC : Hid (Blk w10.heap.size #[.int .i64 s4, .bool a4, .bool false] 23 W14) := HC.out.below hb
        replace HD : Hid (Blk (w10.heap.size + 1) #[.int .i64 d4, .bool e4, .bool f4] 23 W14) := HD.out.below hb
        clear hb
        obtain ⟨A_0, A_1, A_2, _⟩ := blk3 HA.out
        have A_l : g < W14.heap.size := HA.out.lt
        obtain ⟨B_0, B_1, B_2, _⟩ := blk3 HB.out
        have B_l : g + 1 < W14.heap.size := HB.out.lt
        obtain ⟨C_0, C_1, C_2, C_f0, C_f1, C_f2⟩ := blk3 HC.out
        have C_l : w10.heap.size < W14.heap.size := HC.out.lt
        obtain ⟨D_0, D_1, D_2, D_f0, D_f1, D_f2⟩ := blk3 HD.out
        have D_l : w10.heap.size + 1 < W14.heap.size := HD.out.lt
        have q1 : ∀ d os, Calls Tryd.prog 15 #[.agg #[.int .i64 s4, .bool a4, .bool false]] (grow (redrawn W14 d) os) fun e w'' => e = .returned (.bool false) ∧ ∃ p : Regrown, w'' = grow (redrawn W14 p.d) p.os := fun d os => Calls.regrown_of (HL.out.M4 _)
        have q2 : ∀ d os, Calls Tryd.prog 14 #[.agg #[.int .i64 s4, .bool a4, .bool false]] (grow (redrawn W14 d) os) fun e w'' => e = .returned (.bool pa) ∧ ∃ p : Regrown, w'' = grow (redrawn W14 p.d) p.os := fun d os => Calls.regrown_of (HL.out.N4 _)
        have q3 : ∀ d os, Calls Tryd.prog 14 #[.agg #[.int .i64 d4, .bool e4, .bool f4]] (grow (redrawn W14 d) os) fun e w'' => e = .returned (.bool false) ∧ ∃ p : Regrown, w'' = grow (redrawn W14 p.d) p.os := fun d os => Calls.regrown_of (HL.out.ND4 _)
        have q4 : ∀ d os, Calls Tryd.prog 14 #[.agg #[.int .i64 sa, .bool aa, .bool ab]] (grow (redrawn W14 d) os) fun e w'' => e = .returned (.bool pa) ∧ ∃ p : Regrown, w'' = grow (redrawn W14 p.d) p.os := fun d os => Calls.regrown_of (HL.out.NA _)
        have A_k0 := cell_regrown A_0
        have A_k1 := cell_regrown A_1
        have A_k2 := cell_regrown A_2
        have B_k0 := cell_regrown B_0
        have B_k1 := cell_regrown B_1
        have B_k2 := cell_regrown B_2
        have C_k0 := cell_regrown C_0
        have C_k1 := cell_regrown C_1
        have C_k2 := cell_regrown C_2
        have D_k0 := cell_regrown D_0
        have D_k1 := cell_regrown D_1
        have D_k2 := cell_regrown D_2
        clear A_0 A_1 A_2 B_0 B_1 B_2 C_0 C_1 C_2 D_0 D_1 D_2
        refine wp_region_quiet_below (by kernel_rfl) (by kernel_rfl) ?_
        repeat (quiet_step (first | (go_at_call 15; exact q1 _ _) | (go_at_call_of 14 (s4); exact q2 _ _) | (go_at_call_of 14 (d4); exact q3 _ _) | (go_at_call 14; exact q4 _ _)))
        refine wpQuiet_nil ?_
        intro _ hw'
        obtain ⟨⟨dq, osq⟩, hw''⟩ := hw'
        subst hw''
        have hb := below_regrown W14 dq osq
        obtain ⟨w14, hw14⟩ : ∃ w14, grow (redrawn W14 dq) osq = w14 := ⟨_, rfl⟩
        rw [hw14] at hb ⊢
        clear hw14 A_k0 A_k1 A_k2 B_k0 B_k1 B_k2 C_k0 C_k1 C_k2 D_k0 D_k1 D_k2 q1 q2 q3 q4 A_l B_l C_l D_l
        replace HW : Hid (Below w.heap.size w w14) := HW.out.trans (hb.mono HW.out.size)
        replace HA : Hid (Blk g #[.int .i64 sa, .bool aa, .bool ab] 23 w14) := HA.out.below hb
        replace HB : Hid (Blk (g + 1) #[.int .i64 sb, .bool ba, .bool bb] 23 w14) := HB.out.below hb
        replace HC : Hid (Blk w10.heap.size #[.int .i64 s4, .bool a4, .bool false] 23 w14) := HC.out.below hb
        replace HD : Hid (Blk (w10.heap.size + 1) #[.int .i64 d4, .bool e4, .bool f4] 23 w14) := HD.out.below hb
        clear hb
        obtain ⟨A_0, A_1, A_2, _⟩ := blk3 HA.out
        have A_l : g < w14.heap.size := HA.out.lt
        obtain ⟨B_0, B_1, B_2, _⟩ := blk3 HB.out
        have B_l : g + 1 < w14.heap.size := HB.out.lt
        obtain ⟨C_0, C_1, C_2, C_f0, C_f1, C_f2⟩ := blk3 HC.out
        have C_l : w10.heap.size < w14.heap.size := HC.out.lt
        obtain ⟨D_0, D_1, D_2, D_f0, D_f1, D_f2⟩ := blk3 HD.out
        have D_l : w10.heap.size + 1 < w14.heap.size := HD.out.lt
        go_wp2_with fail
        refine (HL.out.K1 _).mono ?_
        rintro e w15 ⟨rfl, hb⟩
        clear A_0 A_1 A_2 A_l
        clear B_0 B_1 B_2 B_l
        clear C_0 C_1 C_2 C_l C_f0 C_f1 C_f2
        clear D_0 D_1 D_2 D_l D_f0 D_f1 D_f2
        replace HW : Hid (Below w.heap.size w w15) := HW.out.trans (hb.mono HW.out.size)
        replace HA : Hid (Blk g #[.int .i64 sa, .bool aa, .bool ab] 23 w15) := HA.out.below hb
        replace HB : Hid (Blk (g + 1) #[.int .i64 sb, .bool ba, .bool bb] 23 w15) := HB.out.below hb
        replace HC : Hid (Blk w10.heap.size #[.int .i64 s4, .bool a4, .bool false] 23 w15) := HC.out.below hb
        replace HD : Hid (Blk (w10.heap.size + 1) #[.int .i64 d4, .bool e4, .bool f4] 23 w15) := HD.out.below hb
        clear hb
        obtain ⟨A_0, A_1, A_2, _⟩ := blk3 HA.out
        have A_l : g < w15.heap.size := HA.out.lt
        obtain ⟨B_0, B_1, B_2, _⟩ := blk3 HB.out
        have B_l : g + 1 < w15.heap.size := HB.out.lt
        obtain ⟨C_0, C_1, C_2, C_f0, C_f1, C_f2⟩ := blk3 HC.out
        have C_l : w10.heap.size < w15.heap.size := HC.out.lt
        obtain ⟨D_0, D_1, D_2, D_f0, D_f1, D_f2⟩ := blk3 HD.out
        have D_l : w10.heap.size + 1 < w15.heap.size := HD.out.lt
        go_wp2_with fail
        replace HA : Hid (Blk g #[.int .i64 sa, .bool aa, .bool ab] 23 ((((((w15.setCell ⟨w10.heap.size, 0, none⟩ (.int .i64 s1)).setCell ⟨w10.heap.size, 1, none⟩ (.bool a1)).setCell ⟨w10.heap.size, 2, none⟩ (.bool b1)).setCell ⟨w10.heap.size + 1, 0, none⟩ (.int .i64 d1)).setCell ⟨w10.heap.size + 1, 1, none⟩ (.bool e1)).setCell ⟨w10.heap.size + 1, 2, none⟩ (.bool f1))) := ((((((HA.out.other (by omega) 0 _).other (by omega) 1 _).other (by omega) 2 _).other (by omega) 0 _).other (by omega) 1 _).other (by omega) 2 _)
        replace HB : Hid (Blk (g + 1) #[.int .i64 sb, .bool ba, .bool bb] 23 ((((((w15.setCell ⟨w10.heap.size, 0, none⟩ (.int .i64 s1)).setCell ⟨w10.heap.size, 1, none⟩ (.bool a1)).setCell ⟨w10.heap.size, 2, none⟩ (.bool b1)).setCell ⟨w10.heap.size + 1, 0, none⟩ (.int .i64 d1)).setCell ⟨w10.heap.size + 1, 1, none⟩ (.bool e1)).setCell ⟨w10.heap.size + 1, 2, none⟩ (.bool f1))) := ((((((HB.out.other (by omega) 0 _).other (by omega) 1 _).other (by omega) 2 _).other (by omega) 0 _).other (by omega) 1 _).other (by omega) 2 _)
        replace HC : Hid (Blk w10.heap.size #[.int .i64 s1, .bool a1, .bool b1] 23 ((((((w15.setCell ⟨w10.heap.size, 0, none⟩ (.int .i64 s1)).setCell ⟨w10.heap.size, 1, none⟩ (.bool a1)).setCell ⟨w10.heap.size, 2, none⟩ (.bool b1)).setCell ⟨w10.heap.size + 1, 0, none⟩ (.int .i64 d1)).setCell ⟨w10.heap.size + 1, 1, none⟩ (.bool e1)).setCell ⟨w10.heap.size + 1, 2, none⟩ (.bool f1))) := ((((((HC.out.set 0 _).set 1 _).set 2 _).other (by omega) 0 _).other (by omega) 1 _).other (by omega) 2 _)
        replace HD : Hid (Blk (w10.heap.size + 1) #[.int .i64 d1, .bool e1, .bool f1] 23 ((((((w15.setCell ⟨w10.heap.size, 0, none⟩ (.int .i64 s1)).setCell ⟨w10.heap.size, 1, none⟩ (.bool a1)).setCell ⟨w10.heap.size, 2, none⟩ (.bool b1)).setCell ⟨w10.heap.size + 1, 0, none⟩ (.int .i64 d1)).setCell ⟨w10.heap.size + 1, 1, none⟩ (.bool e1)).setCell ⟨w10.heap.size + 1, 2, none⟩ (.bool f1))) := ((((((HD.out.other (by omega) 0 _).other (by omega) 1 _).other (by omega) 2 _).set 0 _).set 1 _).set 2 _)
        replace HW : Hid (Below w.heap.size w ((((((w15.setCell ⟨w10.heap.size, 0, none⟩ (.int .i64 s1)).setCell ⟨w10.heap.size, 1, none⟩ (.bool a1)).setCell ⟨w10.heap.size, 2, none⟩ (.bool b1)).setCell ⟨w10.heap.size + 1, 0, none⟩ (.int .i64 d1)).setCell ⟨w10.heap.size + 1, 1, none⟩ (.bool e1)).setCell ⟨w10.heap.size + 1, 2, none⟩ (.bool f1))) := by
          show Below _ _ _
          repeat (refine Below.setCell ?_ (by simp; try omega) _)
          exact HW.out
        clear A_0 A_1 A_2 A_l
        clear B_0 B_1 B_2 B_l
        clear C_0 C_1 C_2 C_l C_f0 C_f1 C_f2
        clear D_0 D_1 D_2 D_l D_f0 D_f1 D_f2
        obtain ⟨W16, hW16⟩ : ∃ W16, ((((((w15.setCell ⟨w10.heap.size, 0, none⟩ (.int .i64 s1)).setCell ⟨w10.heap.size, 1, none⟩ (.bool a1)).setCell ⟨w10.heap.size, 2, none⟩ (.bool b1)).setCell ⟨w10.heap.size + 1, 0, none⟩ (.int .i64 d1)).setCell ⟨w10.heap.size + 1, 1, none⟩ (.bool e1)).setCell ⟨w10.heap.size + 1, 2, none⟩ (.bool f1)) = W16 := ⟨_, rfl⟩
        rw [hW16] at HA HB HC HD HW ⊢
        clear hW16
        obtain ⟨A_0, A_1, A_2, _⟩ := blk3 HA.out
        have A_l : g < W16.heap.size := HA.out.lt
        obtain ⟨B_0, B_1, B_2, _⟩ := blk3 HB.out
        have B_l : g + 1 < W16.heap.size := HB.out.lt
        obtain ⟨C_0, C_1, C_2, C_f0, C_f1, C_f2⟩ := blk3 HC.out
        have C_l : w10.heap.size < W16.heap.size := HC.out.lt
        obtain ⟨D_0, D_1, D_2, D_f0, D_f1, D_f2⟩ := blk3 HD.out
        have D_l : w10.heap.size + 1 < W16.heap.size := HD.out.lt
        refine (HL.out.K2 _).mono ?_
        rintro e w17 ⟨rfl, hb⟩
        clear A_0 A_1 A_2 A_l
        clear B_0 B_1 B_2 B_l
        clear C_0 C_1 C_2 C_l C_f0 C_f1 C_f2
        clear D_0 D_1 D_2 D_l D_f0 D_f1 D_f2
        replace HW : Hid (Below w.heap.size w w17) := HW.out.trans (hb.mono HW.out.size)
        replace HA : Hid (Blk g #[.int .i64 sa, .bool aa, .bool ab] 23 w17) := HA.out.below hb
        replace HB : Hid (Blk (g + 1) #[.int .i64 sb, .bool ba, .bool bb] 23 w17) := HB.out.below hb
        replace HC : Hid (Blk w10.heap.size #[.int .i64 s1, .bool a1, .bool b1] 23 w17) := HC.out.below hb
        replace HD : Hid (Blk (w10.heap.size + 1) #[.int .i64 d1, .bool e1, .bool f1] 23 w17) := HD.out.below hb
        clear hb
        obtain ⟨A_0, A_1, A_2, _⟩ := blk3 HA.out
        have A_l : g < w17.heap.size := HA.out.lt
        obtain ⟨B_0, B_1, B_2, _⟩ := blk3 HB.out
        have B_l : g + 1 < w17.heap.size := HB.out.lt
        obtain ⟨C_0, C_1, C_2, C_f0, C_f1, C_f2⟩ := blk3 HC.out
        have C_l : w10.heap.size < w17.heap.size := HC.out.lt
        obtain ⟨D_0, D_1, D_2, D_f0, D_f1, D_f2⟩ := blk3 HD.out
        have D_l : w10.heap.size + 1 < w17.heap.size := HD.out.lt
        go_wp2_with fail
        replace HA : Hid (Blk g #[.int .i64 sa, .bool aa, .bool ab] 23 ((((((w17.setCell ⟨w10.heap.size + 1, 0, none⟩ (.int .i64 d2)).setCell ⟨w10.heap.size + 1, 1, none⟩ (.bool e2)).setCell ⟨w10.heap.size + 1, 2, none⟩ (.bool f2)).setCell ⟨w10.heap.size, 0, none⟩ (.int .i64 s2)).setCell ⟨w10.heap.size, 1, none⟩ (.bool a2)).setCell ⟨w10.heap.size, 2, none⟩ (.bool b2))) := ((((((HA.out.other (by omega) 0 _).other (by omega) 1 _).other (by omega) 2 _).other (by omega) 0 _).other (by omega) 1 _).other (by omega) 2 _)
        replace HB : Hid (Blk (g + 1) #[.int .i64 sb, .bool ba, .bool bb] 23 ((((((w17.setCell ⟨w10.heap.size + 1, 0, none⟩ (.int .i64 d2)).setCell ⟨w10.heap.size + 1, 1, none⟩ (.bool e2)).setCell ⟨w10.heap.size + 1, 2, none⟩ (.bool f2)).setCell ⟨w10.heap.size, 0, none⟩ (.int .i64 s2)).setCell ⟨w10.heap.size, 1, none⟩ (.bool a2)).setCell ⟨w10.heap.size, 2, none⟩ (.bool b2))) := ((((((HB.out.other (by omega) 0 _).other (by omega) 1 _).other (by omega) 2 _).other (by omega) 0 _).other (by omega) 1 _).other (by omega) 2 _)
        replace HC : Hid (Blk w10.heap.size #[.int .i64 s2, .bool a2, .bool b2] 23 ((((((w17.setCell ⟨w10.heap.size + 1, 0, none⟩ (.int .i64 d2)).setCell ⟨w10.heap.size + 1, 1, none⟩ (.bool e2)).setCell ⟨w10.heap.size + 1, 2, none⟩ (.bool f2)).setCell ⟨w10.heap.size, 0, none⟩ (.int .i64 s2)).setCell ⟨w10.heap.size, 1, none⟩ (.bool a2)).setCell ⟨w10.heap.size, 2, none⟩ (.bool b2))) := ((((((HC.out.other (by omega) 0 _).other (by omega) 1 _).other (by omega) 2 _).set 0 _).set 1 _).set 2 _)
        replace HD : Hid (Blk (w10.heap.size + 1) #[.int .i64 d2, .bool e2, .bool f2] 23 ((((((w17.setCell ⟨w10.heap.size + 1, 0, none⟩ (.int .i64 d2)).setCell ⟨w10.heap.size + 1, 1, none⟩ (.bool e2)).setCell ⟨w10.heap.size + 1, 2, none⟩ (.bool f2)).setCell ⟨w10.heap.size, 0, none⟩ (.int .i64 s2)).setCell ⟨w10.heap.size, 1, none⟩ (.bool a2)).setCell ⟨w10.heap.size, 2, none⟩ (.bool b2))) := ((((((HD.out.set 0 _).set 1 _).set 2 _).other (by omega) 0 _).other (by omega) 1 _).other (by omega) 2 _)
        replace HW : Hid (Below w.heap.size w ((((((w17.setCell ⟨w10.heap.size + 1, 0, none⟩ (.int .i64 d2)).setCell ⟨w10.heap.size + 1, 1, none⟩ (.bool e2)).setCell ⟨w10.heap.size + 1, 2, none⟩ (.bool f2)).setCell ⟨w10.heap.size, 0, none⟩ (.int .i64 s2)).setCell ⟨w10.heap.size, 1, none⟩ (.bool a2)).setCell ⟨w10.heap.size, 2, none⟩ (.bool b2))) := by
          show Below _ _ _
          repeat (refine Below.setCell ?_ (by simp; try omega) _)
          exact HW.out
        clear A_0 A_1 A_2 A_l
        clear B_0 B_1 B_2 B_l
        clear C_0 C_1 C_2 C_l C_f0 C_f1 C_f2
        clear D_0 D_1 D_2 D_l D_f0 D_f1 D_f2
        obtain ⟨W18, hW18⟩ : ∃ W18, ((((((w17.setCell ⟨w10.heap.size + 1, 0, none⟩ (.int .i64 d2)).setCell ⟨w10.heap.size + 1, 1, none⟩ (.bool e2)).setCell ⟨w10.heap.size + 1, 2, none⟩ (.bool f2)).setCell ⟨w10.heap.size, 0, none⟩ (.int .i64 s2)).setCell ⟨w10.heap.size, 1, none⟩ (.bool a2)).setCell ⟨w10.heap.size, 2, none⟩ (.bool b2)) = W18 := ⟨_, rfl⟩
        rw [hW18] at HA HB HC HD HW ⊢
        clear hW18
        obtain ⟨A_0, A_1, A_2, _⟩ := blk3 HA.out
        have A_l : g < W18.heap.size := HA.out.lt
        obtain ⟨B_0, B_1, B_2, _⟩ := blk3 HB.out
        have B_l : g + 1 < W18.heap.size := HB.out.lt
        obtain ⟨C_0, C_1, C_2, C_f0, C_f1, C_f2⟩ := blk3 HC.out
        have C_l : w10.heap.size < W18.heap.size := HC.out.lt
        obtain ⟨D_0, D_1, D_2, D_f0, D_f1, D_f2⟩ := blk3 HD.out
        have D_l : w10.heap.size + 1 < W18.heap.size := HD.out.lt
        obtain ⟨W19, hW19⟩ : ∃ W19, W18 = W19 := ⟨_, rfl⟩
        have hb : Below W18.heap.size W18 W19 := by rw [← hW19]; exact Below.refl _ _
        rw [hW19]
        clear hW19
        clear A_0 A_1 A_2 A_l
        clear B_0 B_1 B_2 B_l
        clear C_0 C_1 C_2 C_l C_f0 C_f1 C_f2
        clear D_0 D_1 D_2 D_l D_f0 D_f1 D_f2
        replace HW : Hid (Below w.heap.size w W19) := HW.out.trans (hb.mono HW.out.size)
        replace HA : Hid (Blk g #[.int .i64 sa, .bool aa, .bool ab] 23 W19) := HA.out.below hb
        replace HB : Hid (Blk (g + 1) #[.int .i64 sb, .bool ba, .bool bb] 23 W19) := HB.out.below hb
        replace HC : Hid (Blk w10.heap.size #[.int .i64 s2, .bool a2, .bool b2] 23 W19) := HC.out.below hb
        replace HD : Hid (Blk (w10.heap.size + 1) #[.int .i64 d2, .bool e2, .bool f2] 23 W19) := HD.out.below hb
        clear hb
        obtain ⟨A_0, A_1, A_2, _⟩ := blk3 HA.out
        have A_l : g < W19.heap.size := HA.out.lt
        obtain ⟨B_0, B_1, B_2, _⟩ := blk3 HB.out
        have B_l : g + 1 < W19.heap.size := HB.out.lt
        obtain ⟨C_0, C_1, C_2, _⟩ := blk3 HC.out
        have C_l : w10.heap.size < W19.heap.size := HC.out.lt
        obtain ⟨D_0, D_1, D_2, _⟩ := blk3 HD.out
        have D_l : w10.heap.size + 1 < W19.heap.size := HD.out.lt
        have q1 : ∀ d os, Calls Tryd.prog 14 #[.agg #[.int .i64 s2, .bool a2, .bool b2]] (grow (redrawn W19 d) os) fun e w'' => e = .returned (.bool true) ∧ ∃ p : Regrown, w'' = grow (redrawn W19 p.d) p.os := fun d os => Calls.regrown_of (HL.out.N1 _)
        have q2 : ∀ d os, Calls Tryd.prog 15 #[.agg #[.int .i64 d2, .bool e2, .bool f2]] (grow (redrawn W19 d) os) fun e w'' => e = .returned (.bool true) ∧ ∃ p : Regrown, w'' = grow (redrawn W19 p.d) p.os := fun d os => Calls.regrown_of (HL.out.MD1 _)
        have q3 : ∀ d os, Calls Tryd.prog 15 #[.agg #[.int .i64 s2, .bool a2, .bool b2]] (grow (redrawn W19 d) os) fun e w'' => e = .returned (.bool qa) ∧ ∃ p : Regrown, w'' = grow (redrawn W19 p.d) p.os := fun d os => Calls.regrown_of (HL.out.M1 _)
        have q4 : ∀ d os, Calls Tryd.prog 15 #[.agg #[.int .i64 sa, .bool aa, .bool ab]] (grow (redrawn W19 d) os) fun e w'' => e = .returned (.bool qa) ∧ ∃ p : Regrown, w'' = grow (redrawn W19 p.d) p.os := fun d os => Calls.regrown_of (HL.out.MA _)
        have A_k0 := cell_regrown A_0
        have A_k1 := cell_regrown A_1
        have A_k2 := cell_regrown A_2
        have B_k0 := cell_regrown B_0
        have B_k1 := cell_regrown B_1
        have B_k2 := cell_regrown B_2
        have C_k0 := cell_regrown C_0
        have C_k1 := cell_regrown C_1
        have C_k2 := cell_regrown C_2
        have D_k0 := cell_regrown D_0
        have D_k1 := cell_regrown D_1
        have D_k2 := cell_regrown D_2
        clear A_0 A_1 A_2 B_0 B_1 B_2 C_0 C_1 C_2 D_0 D_1 D_2
        refine wp_region_quiet_below (by kernel_rfl) (by kernel_rfl) ?_
        repeat (quiet_step (first | (go_at_call 14; exact q1 _ _) | (go_at_call_of 15 (d2); exact q2 _ _) | (go_at_call_of 15 (s2); exact q3 _ _) | (go_at_call 15; exact q4 _ _)))
        refine wpQuiet_nil ?_
        intro _ hw'
        obtain ⟨⟨dq, osq⟩, hw''⟩ := hw'
        subst hw''
        have hb := below_regrown W19 dq osq
        obtain ⟨w19, hw19⟩ : ∃ w19, grow (redrawn W19 dq) osq = w19 := ⟨_, rfl⟩
        rw [hw19] at hb ⊢
        clear hw19 A_k0 A_k1 A_k2 B_k0 B_k1 B_k2 C_k0 C_k1 C_k2 D_k0 D_k1 D_k2 q1 q2 q3 q4 A_l B_l C_l D_l
        replace HW : Hid (Below w.heap.size w w19) := HW.out.trans (hb.mono HW.out.size)
        replace HA : Hid (Blk g #[.int .i64 sa, .bool aa, .bool ab] 23 w19) := HA.out.below hb
        replace HB : Hid (Blk (g + 1) #[.int .i64 sb, .bool ba, .bool bb] 23 w19) := HB.out.below hb
        replace HC : Hid (Blk w10.heap.size #[.int .i64 s2, .bool a2, .bool b2] 23 w19) := HC.out.below hb
        replace HD : Hid (Blk (w10.heap.size + 1) #[.int .i64 d2, .bool e2, .bool f2] 23 w19) := HD.out.below hb
        clear hb
        obtain ⟨A_0, A_1, A_2, _⟩ := blk3 HA.out
        have A_l : g < w19.heap.size := HA.out.lt
        obtain ⟨B_0, B_1, B_2, _⟩ := blk3 HB.out
        have B_l : g + 1 < w19.heap.size := HB.out.lt
        obtain ⟨C_0, C_1, C_2, _⟩ := blk3 HC.out
        have C_l : w10.heap.size < w19.heap.size := HC.out.lt
        obtain ⟨D_0, D_1, D_2, _⟩ := blk3 HD.out
        have D_l : w10.heap.size + 1 < w19.heap.size := HD.out.lt
        go_wp2_with fail
        go_ret
        exact ⟨rfl, HW.out⟩
end Go.Proofs.YtojeeopmhogolaaDoor
