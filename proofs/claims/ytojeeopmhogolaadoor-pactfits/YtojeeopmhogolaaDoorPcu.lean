/-
  The walk of the statement PactFits over this program.
-/
import Derived.Test.YtojeeopmhogolaaDoorPct
namespace Go.Proofs.YtojeeopmhogolaaDoor
open Go Go.RowKit Go.Sort
theorem by3 {w w2 : World} {g h : Nat} {x y z x' y' z' : Value} {B : Nat} (hw : Below B w w2) (hg : B ≤ g ∧ B ≤ h) :
    Below B w ((((((w2.setCell ⟨g, 0, none⟩ x).setCell ⟨g, 1, none⟩ y).setCell ⟨g, 2, none⟩ z).setCell ⟨h, 0, none⟩ x').setCell ⟨h, 1, none⟩ y').setCell ⟨h, 2, none⟩ z') :=
  (((((hw.setCell (p := ⟨g, 0, none⟩) hg.1 _).setCell (p := ⟨g, 1, none⟩) hg.1 _).setCell (p := ⟨g, 2, none⟩) hg.1 _).setCell (p := ⟨h, 0, none⟩) hg.2 _).setCell (p := ⟨h, 1, none⟩) hg.2 _).setCell (p := ⟨h, 2, none⟩) hg.2 _
set_option maxHeartbeats 8000000 in
theorem fits_walk (ao bo : Option Addr) (n m c1 c2 : Nat) (y : Nat → Int) (t : Nat → Bool) (w : World) (hy : RowN w ao n y) (ht : RowB w bo m t) (hN : Names w) :
    Calls Tryd.prog 5 #[.slice ao n c1, .slice bo m c2] w fun e w' => e = .returned (.bool true) ∧ Below w.heap.size w w' := by
  have HN : Hid (Names w) := hN
  have HY : Hid (RowN w ao n y) := hy
  have HT : Hid (RowB w bo m t) := ht
  clear hN hy ht
  go_enter Tryd.func5, Tryd.ntmps5
  go_wp2_with (go_at_call 9; refine (lives_any _ HN.out).mono ?_; rintro e w1 ⟨rfl, hb1⟩; have HW1 : Hid (Below w.heap.size w w1) := hb1; clear hb1)
  have HA0 : Hid (Blk w1.heap.size #[.int .i64 0, .bool false, .bool false] 23 ((w1.alloc (.cells #[.int .i64 0, .bool false, .bool false] 23)).alloc (.cells #[.int .i64 0, .bool false, .bool false] 23))) := Blk.new1 _ _ _ _
  have HB0 : Hid (Blk (w1.heap.size + 1) #[.int .i64 0, .bool false, .bool false] 23 ((w1.alloc (.cells #[.int .i64 0, .bool false, .bool false] 23)).alloc (.cells #[.int .i64 0, .bool false, .bool false] 23))) := Blk.new2 _ _ _ _
  have HW0 : Hid (Below w.heap.size w ((w1.alloc (.cells #[.int .i64 0, .bool false, .bool false] 23)).alloc (.cells #[.int .i64 0, .bool false, .bool false] 23))) := (HW1.out.alloc HW1.out.size _).alloc (by have := HW1.out.size; simp; omega) _
  have hle0 : w.heap.size ≤ w1.heap.size := HW1.out.size
  obtain ⟨g, hg⟩ : ∃ g, w1.heap.size = g := ⟨_, rfl⟩
  rw [hg] at HA0 HB0 hle0 ⊢
  clear hg
  go_loopw [7] (fun i wr => ∃ (k : Nat) (t1 t2 : Sd), k ≤ n ∧ k ≤ 200 ∧ i = .int .i64 (k : Int) ∧ t1.ok = true ∧ t2.ok = true ∧ FitP t1 t2 ∧ Blk g #[.int .i64 t1.sub, .bool t1.a, .bool t1.b] 23 wr ∧ Blk (g + 1) #[.int .i64 t2.sub, .bool t2.a, .bool t2.b] 23 wr ∧ Below w.heap.size w wr) (fun i _ => 200 - (intOf i).toNat)
  case atStart => exact ⟨0, ⟨false, false, false, false⟩, ⟨false, false, false, false⟩, Nat.zero_le _, Nat.zero_le _, rfl, rfl, rfl, rfl, HA0.out, HB0.out, HW0.out⟩
  case round =>
    obtain ⟨k, t1, t2, hkn, hk2, rfl, ho1, ho2, hf, ha, hb, hw⟩ := hrel
    have HA : Hid (Blk g _ 23 wr) := ha
    have HB : Hid (Blk (g + 1) _ 23 wr) := hb
    have HW : Hid (Below w.heap.size w wr) := hw
    obtain ⟨a_0, a_1, a_2, _⟩ := blk3 ha
    obtain ⟨b_0, b_1, b_2, _⟩ := blk3 hb
    have hle : w.heap.size ≤ g ∧ w.heap.size ≤ g + 1 := by omega
    have hleS : w.heap.size ≤ g + 1 ∧ w.heap.size ≤ g := by omega
    clear ha hb HA0 HB0 HW0 HW1
    by_cases hlt : k < n ∧ k < 200
    · obtain ⟨h1, h2⟩ := hlt
      obtain ⟨ad, rfl, c0⟩ := HY.out k h1
      have k0 : wr.cell? (ad.add k) = some (.int .i64 (y k)) := (hw.cell (World.block_lt_of_cell? w _ c0)).trans c0
      obtain ⟨u, r, q1, q2, q3, hr4⟩ := act_facts (y k)
      obtain ⟨z, hz⟩ : ∃ z, y k = z := ⟨_, rfl⟩
      rw [hz] at k0 q1
      have h1' : (k : Int) < (n : Int) := by omega
      have h2' : (k : Int) < 200 := by omega
      have hk0 : (0 : Int) ≤ (k : Int) := by omega
      have hu0 : (0 : Int) ≤ (u : Int) := by omega
      have hr0 : (0 : Int) ≤ (r : Int) := by omega
      have hr5 : (r : Int) < 4 := by omega
      clear c0 hz
      by_cases h3 : k < m
      · obtain ⟨bd, rfl, e0⟩ := HT.out k h3
        have l0 : wr.cell? (bd.add k) = some (.bool (t k)) := (hw.cell (World.block_lt_of_cell? w _ e0)).trans e0
        have h3' : (k : Int) < (m : Int) := by omega
        clear e0 hw
        cases htk : t k
        · rw [htk] at l0
          clear htk
          obtain ⟨u1, hu1⟩ : ∃ u, (boS (r + 1) t1 t2).1 = u := ⟨_, rfl⟩
          obtain ⟨u2, hu2⟩ : ∃ u, (boS (r + 1) t1 t2).2 = u := ⟨_, rfl⟩
          have HBO := fun W => both_at r hr4 t1 t2 ho1 ho2 W
          have hok := boS_ok (r + 1) t1 t2 ho1 ho2
          have hfit := fitP_bo (r + 1) (by omega) t1 t2 ho1 hf
          rw [hu1, hu2] at hok hfit
          simp only [hu1, hu2] at HBO
          have HOA : Hid (u1.ok = true) := hok.1
          have HOB : Hid (u2.ok = true) := hok.2
          have HFI : Hid (FitP u1 u2) := hfit
          have HR1 := right_at u1 HOA.out
          have HR2 := right_at u2 HOB.out
          have HF1 := fit_at u1 u2 HFI.out
          have HF2 := fit_at u2 u1 HFI.out.symm
          clear hu1 hu2 hok hfit ho1 ho2 hf
          simp only [Sd.val] at HBO HR1 HR2 HF1 HF2
          go_wp2_with (first
            | (go_at_call 19; refine (HBO _).mono ?_; rintro e w2 ⟨rfl, hb2⟩; replace HW : Hid (Below w.heap.size w w2) := HW.out.trans (hb2.mono HW.out.size); replace HA : Hid (Blk g _ 23 w2) := HA.out.below hb2; replace HB : Hid (Blk (g + 1) _ 23 w2) := HB.out.below hb2; clear a_0 a_1 a_2 b_0 b_1 b_2 hb2; obtain ⟨a_0, a_1, a_2, a_3, a_4, a_5⟩ := blk3 HA.out; obtain ⟨b_0, b_1, b_2, b_3, b_4, b_5⟩ := blk3 HB.out; have HA3 : Hid (Blk g #[.int .i64 u1.sub, .bool u1.a, .bool u1.b] 23 ((((((w2.setCell ⟨g, 0, none⟩ (.int .i64 u1.sub)).setCell ⟨g, 1, none⟩ (.bool u1.a)).setCell ⟨g, 2, none⟩ (.bool u1.b)).setCell ⟨g + 1, 0, none⟩ (.int .i64 u2.sub)).setCell ⟨g + 1, 1, none⟩ (.bool u2.a)).setCell ⟨g + 1, 2, none⟩ (.bool u2.b))) := ((((((HA.out.set 0 _).set 1 _).set 2 _).other (by omega) 0 _).other (by omega) 1 _).other (by omega) 2 _); have HB3 : Hid (Blk (g + 1) #[.int .i64 u2.sub, .bool u2.a, .bool u2.b] 23 ((((((w2.setCell ⟨g, 0, none⟩ (.int .i64 u1.sub)).setCell ⟨g, 1, none⟩ (.bool u1.a)).setCell ⟨g, 2, none⟩ (.bool u1.b)).setCell ⟨g + 1, 0, none⟩ (.int .i64 u2.sub)).setCell ⟨g + 1, 1, none⟩ (.bool u2.a)).setCell ⟨g + 1, 2, none⟩ (.bool u2.b))) := ((((((HB.out.other (by omega) 0 _).other (by omega) 1 _).other (by omega) 2 _).set 0 _).set 1 _).set 2 _); have HW3 : Hid (Below w.heap.size w ((((((w2.setCell ⟨g, 0, none⟩ (.int .i64 u1.sub)).setCell ⟨g, 1, none⟩ (.bool u1.a)).setCell ⟨g, 2, none⟩ (.bool u1.b)).setCell ⟨g + 1, 0, none⟩ (.int .i64 u2.sub)).setCell ⟨g + 1, 1, none⟩ (.bool u2.a)).setCell ⟨g + 1, 2, none⟩ (.bool u2.b))) := by3 HW.out hle)
            | (go_at_call_of 13 (u1.sub); refine (HR1 _).mono ?_; rintro e w4 ⟨rfl, hb4⟩; replace HW3 : Hid (Below w.heap.size w w4) := HW3.out.trans (hb4.mono HW3.out.size); replace HA3 : Hid (Blk g _ 23 w4) := HA3.out.below hb4; replace HB3 : Hid (Blk (g + 1) _ 23 w4) := HB3.out.below hb4; obtain ⟨c_0, c_1, c_2, _⟩ := blk3 HA3.out; obtain ⟨d_0, d_1, d_2, _⟩ := blk3 HB3.out; clear hb4)
            | (go_at_call 13; refine (HR2 _).mono ?_; rintro e w4 ⟨rfl, hb4⟩; replace HW3 : Hid (Below w.heap.size w w4) := HW3.out.trans (hb4.mono HW3.out.size); replace HA3 : Hid (Blk g _ 23 w4) := HA3.out.below hb4; replace HB3 : Hid (Blk (g + 1) _ 23 w4) := HB3.out.below hb4; obtain ⟨c_0, c_1, c_2, _⟩ := blk3 HA3.out; obtain ⟨d_0, d_1, d_2, _⟩ := blk3 HB3.out; clear hb4)
            | (go_at_call_of 20 (#[Value.agg #[.int .i64 u1.sub, .bool u1.a, .bool u1.b], Value.agg #[.int .i64 u2.sub, .bool u2.a, .bool u2.b]] : Array Value); refine (HF1 _).mono ?_; rintro e w4 ⟨rfl, hb4⟩; replace HW3 : Hid (Below w.heap.size w w4) := HW3.out.trans (hb4.mono HW3.out.size); replace HA3 : Hid (Blk g _ 23 w4) := HA3.out.below hb4; replace HB3 : Hid (Blk (g + 1) _ 23 w4) := HB3.out.below hb4; obtain ⟨c_0, c_1, c_2, _⟩ := blk3 HA3.out; obtain ⟨d_0, d_1, d_2, _⟩ := blk3 HB3.out; clear hb4)
            | (go_at_call 20; refine (HF2 _).mono ?_; rintro e w4 ⟨rfl, hb4⟩; replace HW3 : Hid (Below w.heap.size w w4) := HW3.out.trans (hb4.mono HW3.out.size); replace HA3 : Hid (Blk g _ 23 w4) := HA3.out.below hb4; replace HB3 : Hid (Blk (g + 1) _ 23 w4) := HB3.out.below hb4; obtain ⟨c_0, c_1, c_2, _⟩ := blk3 HA3.out; obtain ⟨d_0, d_1, d_2, _⟩ := blk3 HB3.out; clear hb4))
          go_roundw
          case rel => exact ⟨k + 1, u1, u2, by omega, by omega, by go_num, HOA.out, HOB.out, HFI.out, HA3.out, HB3.out, HW3.out⟩
          case measure => simp [intOf]; omega
        · rw [htk] at l0
          clear htk
          replace hle := hleS
          obtain ⟨u1, hu1⟩ : ∃ u, (boS (r + 1) t2 t1).1 = u := ⟨_, rfl⟩
          obtain ⟨u2, hu2⟩ : ∃ u, (boS (r + 1) t2 t1).2 = u := ⟨_, rfl⟩
          have HBO := fun W => both_at r hr4 t2 t1 ho2 ho1 W
          have hok := boS_ok (r + 1) t2 t1 ho2 ho1
          have hfit := fitP_bo (r + 1) (by omega) t2 t1 ho2 hf.symm
          rw [hu1, hu2] at hok hfit
          simp only [hu1, hu2] at HBO
          have HOA : Hid (u2.ok = true) := hok.2
          have HOB : Hid (u1.ok = true) := hok.1
          have HFI : Hid (FitP u2 u1) := hfit.symm
          have HR1 := right_at u2 HOA.out
          have HR2 := right_at u1 HOB.out
          have HF1 := fit_at u2 u1 HFI.out
          have HF2 := fit_at u1 u2 HFI.out.symm
          clear hu1 hu2 hok hfit ho1 ho2 hf
          simp only [Sd.val] at HBO HR1 HR2 HF1 HF2
          go_wp2_with (first
            | (go_at_call 19; refine (HBO _).mono ?_; rintro e w2 ⟨rfl, hb2⟩; replace HW : Hid (Below w.heap.size w w2) := HW.out.trans (hb2.mono HW.out.size); replace HA : Hid (Blk g _ 23 w2) := HA.out.below hb2; replace HB : Hid (Blk (g + 1) _ 23 w2) := HB.out.below hb2; clear a_0 a_1 a_2 b_0 b_1 b_2 hb2; obtain ⟨a_0, a_1, a_2, a_3, a_4, a_5⟩ := blk3 HA.out; obtain ⟨b_0, b_1, b_2, b_3, b_4, b_5⟩ := blk3 HB.out; have HA3 : Hid (Blk g #[.int .i64 u2.sub, .bool u2.a, .bool u2.b] 23 ((((((w2.setCell ⟨g + 1, 0, none⟩ (.int .i64 u1.sub)).setCell ⟨g + 1, 1, none⟩ (.bool u1.a)).setCell ⟨g + 1, 2, none⟩ (.bool u1.b)).setCell ⟨g, 0, none⟩ (.int .i64 u2.sub)).setCell ⟨g, 1, none⟩ (.bool u2.a)).setCell ⟨g, 2, none⟩ (.bool u2.b))) := ((((((HA.out.other (by omega) 0 _).other (by omega) 1 _).other (by omega) 2 _).set 0 _).set 1 _).set 2 _); have HB3 : Hid (Blk (g + 1) #[.int .i64 u1.sub, .bool u1.a, .bool u1.b] 23 ((((((w2.setCell ⟨g + 1, 0, none⟩ (.int .i64 u1.sub)).setCell ⟨g + 1, 1, none⟩ (.bool u1.a)).setCell ⟨g + 1, 2, none⟩ (.bool u1.b)).setCell ⟨g, 0, none⟩ (.int .i64 u2.sub)).setCell ⟨g, 1, none⟩ (.bool u2.a)).setCell ⟨g, 2, none⟩ (.bool u2.b))) := ((((((HB.out.set 0 _).set 1 _).set 2 _).other (by omega) 0 _).other (by omega) 1 _).other (by omega) 2 _); have HW3 : Hid (Below w.heap.size w ((((((w2.setCell ⟨g + 1, 0, none⟩ (.int .i64 u1.sub)).setCell ⟨g + 1, 1, none⟩ (.bool u1.a)).setCell ⟨g + 1, 2, none⟩ (.bool u1.b)).setCell ⟨g, 0, none⟩ (.int .i64 u2.sub)).setCell ⟨g, 1, none⟩ (.bool u2.a)).setCell ⟨g, 2, none⟩ (.bool u2.b))) := by3 HW.out hle)
            | (go_at_call_of 13 (u2.sub); refine (HR1 _).mono ?_; rintro e w4 ⟨rfl, hb4⟩; replace HW3 : Hid (Below w.heap.size w w4) := HW3.out.trans (hb4.mono HW3.out.size); replace HA3 : Hid (Blk g _ 23 w4) := HA3.out.below hb4; replace HB3 : Hid (Blk (g + 1) _ 23 w4) := HB3.out.below hb4; obtain ⟨c_0, c_1, c_2, _⟩ := blk3 HA3.out; obtain ⟨d_0, d_1, d_2, _⟩ := blk3 HB3.out; clear hb4)
            | (go_at_call 13; refine (HR2 _).mono ?_; rintro e w4 ⟨rfl, hb4⟩; replace HW3 : Hid (Below w.heap.size w w4) := HW3.out.trans (hb4.mono HW3.out.size); replace HA3 : Hid (Blk g _ 23 w4) := HA3.out.below hb4; replace HB3 : Hid (Blk (g + 1) _ 23 w4) := HB3.out.below hb4; obtain ⟨c_0, c_1, c_2, _⟩ := blk3 HA3.out; obtain ⟨d_0, d_1, d_2, _⟩ := blk3 HB3.out; clear hb4)
            | (go_at_call_of 20 (#[Value.agg #[.int .i64 u2.sub, .bool u2.a, .bool u2.b], Value.agg #[.int .i64 u1.sub, .bool u1.a, .bool u1.b]] : Array Value); refine (HF1 _).mono ?_; rintro e w4 ⟨rfl, hb4⟩; replace HW3 : Hid (Below w.heap.size w w4) := HW3.out.trans (hb4.mono HW3.out.size); replace HA3 : Hid (Blk g _ 23 w4) := HA3.out.below hb4; replace HB3 : Hid (Blk (g + 1) _ 23 w4) := HB3.out.below hb4; obtain ⟨c_0, c_1, c_2, _⟩ := blk3 HA3.out; obtain ⟨d_0, d_1, d_2, _⟩ := blk3 HB3.out; clear hb4)
            | (go_at_call 20; refine (HF2 _).mono ?_; rintro e w4 ⟨rfl, hb4⟩; replace HW3 : Hid (Below w.heap.size w w4) := HW3.out.trans (hb4.mono HW3.out.size); replace HA3 : Hid (Blk g _ 23 w4) := HA3.out.below hb4; replace HB3 : Hid (Blk (g + 1) _ 23 w4) := HB3.out.below hb4; obtain ⟨c_0, c_1, c_2, _⟩ := blk3 HA3.out; obtain ⟨d_0, d_1, d_2, _⟩ := blk3 HB3.out; clear hb4))
          go_roundw
          case rel => exact ⟨k + 1, u2, u1, by omega, by omega, by go_num, HOA.out, HOB.out, HFI.out, HA3.out, HB3.out, HW3.out⟩
          case measure => simp [intOf]; omega
      · have h3' : ¬ (k : Int) < (m : Int) := by omega
        clear hw
        obtain ⟨u1, hu1⟩ : ∃ u, (boS (r + 1) t1 t2).1 = u := ⟨_, rfl⟩
        obtain ⟨u2, hu2⟩ : ∃ u, (boS (r + 1) t1 t2).2 = u := ⟨_, rfl⟩
        have HBO := fun W => both_at r hr4 t1 t2 ho1 ho2 W
        have hok := boS_ok (r + 1) t1 t2 ho1 ho2
        have hfit := fitP_bo (r + 1) (by omega) t1 t2 ho1 hf
        rw [hu1, hu2] at hok hfit
        simp only [hu1, hu2] at HBO
        have HOA : Hid (u1.ok = true) := hok.1
        have HOB : Hid (u2.ok = true) := hok.2
        have HFI : Hid (FitP u1 u2) := hfit
        have HR1 := right_at u1 HOA.out
        have HR2 := right_at u2 HOB.out
        have HF1 := fit_at u1 u2 HFI.out
        have HF2 := fit_at u2 u1 HFI.out.symm
        clear hu1 hu2 hok hfit ho1 ho2 hf
        simp only [Sd.val] at HBO HR1 HR2 HF1 HF2
        go_wp2_with (first
          | (go_at_call 19; refine (HBO _).mono ?_; rintro e w2 ⟨rfl, hb2⟩; replace HW : Hid (Below w.heap.size w w2) := HW.out.trans (hb2.mono HW.out.size); replace HA : Hid (Blk g _ 23 w2) := HA.out.below hb2; replace HB : Hid (Blk (g + 1) _ 23 w2) := HB.out.below hb2; clear a_0 a_1 a_2 b_0 b_1 b_2 hb2; obtain ⟨a_0, a_1, a_2, a_3, a_4, a_5⟩ := blk3 HA.out; obtain ⟨b_0, b_1, b_2, b_3, b_4, b_5⟩ := blk3 HB.out; have HA3 : Hid (Blk g #[.int .i64 u1.sub, .bool u1.a, .bool u1.b] 23 ((((((w2.setCell ⟨g, 0, none⟩ (.int .i64 u1.sub)).setCell ⟨g, 1, none⟩ (.bool u1.a)).setCell ⟨g, 2, none⟩ (.bool u1.b)).setCell ⟨g + 1, 0, none⟩ (.int .i64 u2.sub)).setCell ⟨g + 1, 1, none⟩ (.bool u2.a)).setCell ⟨g + 1, 2, none⟩ (.bool u2.b))) := ((((((HA.out.set 0 _).set 1 _).set 2 _).other (by omega) 0 _).other (by omega) 1 _).other (by omega) 2 _); have HB3 : Hid (Blk (g + 1) #[.int .i64 u2.sub, .bool u2.a, .bool u2.b] 23 ((((((w2.setCell ⟨g, 0, none⟩ (.int .i64 u1.sub)).setCell ⟨g, 1, none⟩ (.bool u1.a)).setCell ⟨g, 2, none⟩ (.bool u1.b)).setCell ⟨g + 1, 0, none⟩ (.int .i64 u2.sub)).setCell ⟨g + 1, 1, none⟩ (.bool u2.a)).setCell ⟨g + 1, 2, none⟩ (.bool u2.b))) := ((((((HB.out.other (by omega) 0 _).other (by omega) 1 _).other (by omega) 2 _).set 0 _).set 1 _).set 2 _); have HW3 : Hid (Below w.heap.size w ((((((w2.setCell ⟨g, 0, none⟩ (.int .i64 u1.sub)).setCell ⟨g, 1, none⟩ (.bool u1.a)).setCell ⟨g, 2, none⟩ (.bool u1.b)).setCell ⟨g + 1, 0, none⟩ (.int .i64 u2.sub)).setCell ⟨g + 1, 1, none⟩ (.bool u2.a)).setCell ⟨g + 1, 2, none⟩ (.bool u2.b))) := by3 HW.out hle)
          | (go_at_call_of 13 (u1.sub); refine (HR1 _).mono ?_; rintro e w4 ⟨rfl, hb4⟩; replace HW3 : Hid (Below w.heap.size w w4) := HW3.out.trans (hb4.mono HW3.out.size); replace HA3 : Hid (Blk g _ 23 w4) := HA3.out.below hb4; replace HB3 : Hid (Blk (g + 1) _ 23 w4) := HB3.out.below hb4; obtain ⟨c_0, c_1, c_2, _⟩ := blk3 HA3.out; obtain ⟨d_0, d_1, d_2, _⟩ := blk3 HB3.out; clear hb4)
          | (go_at_call 13; refine (HR2 _).mono ?_; rintro e w4 ⟨rfl, hb4⟩; replace HW3 : Hid (Below w.heap.size w w4) := HW3.out.trans (hb4.mono HW3.out.size); replace HA3 : Hid (Blk g _ 23 w4) := HA3.out.below hb4; replace HB3 : Hid (Blk (g + 1) _ 23 w4) := HB3.out.below hb4; obtain ⟨c_0, c_1, c_2, _⟩ := blk3 HA3.out; obtain ⟨d_0, d_1, d_2, _⟩ := blk3 HB3.out; clear hb4)
          | (go_at_call_of 20 (#[Value.agg #[.int .i64 u1.sub, .bool u1.a, .bool u1.b], Value.agg #[.int .i64 u2.sub, .bool u2.a, .bool u2.b]] : Array Value); refine (HF1 _).mono ?_; rintro e w4 ⟨rfl, hb4⟩; replace HW3 : Hid (Below w.heap.size w w4) := HW3.out.trans (hb4.mono HW3.out.size); replace HA3 : Hid (Blk g _ 23 w4) := HA3.out.below hb4; replace HB3 : Hid (Blk (g + 1) _ 23 w4) := HB3.out.below hb4; obtain ⟨c_0, c_1, c_2, _⟩ := blk3 HA3.out; obtain ⟨d_0, d_1, d_2, _⟩ := blk3 HB3.out; clear hb4)
          | (go_at_call 20; refine (HF2 _).mono ?_; rintro e w4 ⟨rfl, hb4⟩; replace HW3 : Hid (Below w.heap.size w w4) := HW3.out.trans (hb4.mono HW3.out.size); replace HA3 : Hid (Blk g _ 23 w4) := HA3.out.below hb4; replace HB3 : Hid (Blk (g + 1) _ 23 w4) := HB3.out.below hb4; obtain ⟨c_0, c_1, c_2, _⟩ := blk3 HA3.out; obtain ⟨d_0, d_1, d_2, _⟩ := blk3 HB3.out; clear hb4))
        go_roundw
        case rel => exact ⟨k + 1, u1, u2, by omega, by omega, by go_num, HOA.out, HOB.out, HFI.out, HA3.out, HB3.out, HW3.out⟩
        case measure => simp [intOf]; omega
    · have hend : ¬ (k : Int) < (n : Int) ∨ ((k : Int) < (n : Int) ∧ ¬ (k : Int) < 200) := by omega
      clear hw hlt
      rcases hend with hend | ⟨he1, he2⟩
      · go_wp2_with fail
        go_ret
        exact ⟨rfl, HW.out⟩
      · go_wp2_with fail
        go_ret
        exact ⟨rfl, HW.out⟩
end Go.Proofs.YtojeeopmhogolaaDoor
