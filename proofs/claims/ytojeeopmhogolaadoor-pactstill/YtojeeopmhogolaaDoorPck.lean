/-
  The statements' own first look (lives) over this program.
-/
import Derived.Test.YtojeeopmhogolaaDoorPch
import Derived.Test.YtojeeopmhogolaaDoorPci
import Derived.Test.YtojeeopmhogolaaDoorPcj
namespace Go.Proofs.YtojeeopmhogolaaDoor
open Go Go.RowKit Go.Sort
def z0 : Sd := ⟨false, false, false, false⟩
set_option maxHeartbeats 4000000 in
theorem lives_any (w : World) (hN : Names w) : Calls Tryd.prog 9 #[] w fun e w' => e = .returned (.bool true) ∧ Below w.heap.size w w' := by
  have HN : Hid (Names w) := hN
  have H1 : ∀ W, Calls Tryd.prog 19 #[.agg #[.int .i64 0, .bool false, .bool false], .agg #[.int .i64 0, .bool false, .bool false], .int .i64 1] W fun e w' => e = .returned (.tuple #[.agg #[.int .i64 0, .bool true, .bool false], .agg #[.int .i64 0, .bool false, .bool true], .int .i64 0]) ∧ Below W.heap.size W w' := both_any 1 (by omega) z0 z0 rfl rfl
  have H2 : ∀ W, Calls Tryd.prog 19 #[.agg #[.int .i64 0, .bool false, .bool true], .agg #[.int .i64 0, .bool true, .bool false], .int .i64 2] W fun e w' => e = .returned (.tuple #[.agg #[.int .i64 2, .bool false, .bool false], .agg #[.int .i64 1, .bool false, .bool false], .int .i64 0]) ∧ Below W.heap.size W w' := both_any 2 (by omega) ⟨false, false, false, true⟩ ⟨false, false, true, false⟩ rfl rfl
  have H3 : ∀ W, Calls Tryd.prog 14 #[.agg #[.int .i64 1, .bool false, .bool false]] W fun e w' => e = .returned (.bool true) ∧ Below W.heap.size W w' := sees_any true false false false
  have H4 : ∀ W, Calls Tryd.prog 15 #[.agg #[.int .i64 2, .bool false, .bool false]] W fun e w' => e = .returned (.bool true) ∧ Below W.heap.size W w' := seen_any false true false false
  have H5 : ∀ W, Calls Tryd.prog 15 #[.agg #[.int .i64 1, .bool false, .bool false]] W fun e w' => e = .returned (.bool false) ∧ Below W.heap.size W w' := seen_any true false false false
  have H6 : ∀ W, Names W → Calls Tryd.prog 24 #[.int .i64 2] W fun e w' => e = .returned (.string ⟨#[115, 117, 98, 115, 99, 114, 105, 98, 101, 100]⟩) ∧ w' = W := fun W h => name_any 2 W h
  have H7 : ∀ W, Names W → Calls Tryd.prog 23 #[.string ⟨#[117, 110, 115, 117, 98, 115, 99, 114, 105, 98, 101]⟩] W fun e w' => e = .returned (.int .i64 3) ∧ w' = W := fun W h => act_any [117, 110, 115, 117, 98, 115, 99, 114, 105, 98, 101] W h
  have H8 : ∀ W, Calls Tryd.prog 20 #[.agg #[.int .i64 1, .bool false, .bool false], .agg #[.int .i64 2, .bool false, .bool false]] W fun e w' => e = .returned (.bool true) ∧ Below W.heap.size W w' := fun W => fit_all 1 2 true false false false false true false false W (sees_any true false false false) (seen_any false true false false) (seen_any true false false false) (sees_any false true false false)
  clear hN
  go_enter Tryd.func9, Tryd.ntmps9
  go_wp2_with fail
  refine (H1 _).mono ?_
  rintro e w1 ⟨rfl, hb1⟩
  have HW1 : Hid (Below w.heap.size w w1) := hb1
  clear hb1 H1
  go_wp2_with fail
  refine (H2 _).mono ?_
  rintro e w2 ⟨rfl, hb2⟩
  have HA := (Blk.new1 w1 _ 23 _).below hb2
  have HB := (Blk.new2 w1 _ _ 23).below hb2
  have HW2 : Hid (Below w.heap.size w w2) := ((HW1.out.alloc HW1.out.size _).alloc (by have := HW1.out.size; simp; omega) _).trans (hb2.mono (by have := HW1.out.size; simp; omega))
  have hle : w.heap.size ≤ w1.heap.size := HW1.out.size
  obtain ⟨a0, a1, a2, a3, a4, a5⟩ := blk3 HA
  obtain ⟨b0, b1, b2, b3, b4, b5⟩ := blk3 HB
  have HA3 : Hid (Blk w1.heap.size #[.int .i64 1, .bool false, .bool false] 23 ((((((w2.setCell ⟨w1.heap.size + 1, 0, none⟩ (.int .i64 2)).setCell ⟨w1.heap.size + 1, 1, none⟩ (.bool false)).setCell ⟨w1.heap.size + 1, 2, none⟩ (.bool false)).setCell ⟨w1.heap.size, 0, none⟩ (.int .i64 1)).setCell ⟨w1.heap.size, 1, none⟩ (.bool false)).setCell ⟨w1.heap.size, 2, none⟩ (.bool false))) := (((((HA.other (by omega) 0 _).other (by omega) 1 _).other (by omega) 2 _).set 0 _).set 1 _).set 2 _
  have HB3 : Hid (Blk (w1.heap.size + 1) #[.int .i64 2, .bool false, .bool false] 23 ((((((w2.setCell ⟨w1.heap.size + 1, 0, none⟩ (.int .i64 2)).setCell ⟨w1.heap.size + 1, 1, none⟩ (.bool false)).setCell ⟨w1.heap.size + 1, 2, none⟩ (.bool false)).setCell ⟨w1.heap.size, 0, none⟩ (.int .i64 1)).setCell ⟨w1.heap.size, 1, none⟩ (.bool false)).setCell ⟨w1.heap.size, 2, none⟩ (.bool false))) := (((((HB.set 0 _).set 1 _).set 2 _).other (by omega) 0 _).other (by omega) 1 _).other (by omega) 2 _
  replace HW2 : Hid (Below w.heap.size w ((((((w2.setCell ⟨w1.heap.size + 1, 0, none⟩ (.int .i64 2)).setCell ⟨w1.heap.size + 1, 1, none⟩ (.bool false)).setCell ⟨w1.heap.size + 1, 2, none⟩ (.bool false)).setCell ⟨w1.heap.size, 0, none⟩ (.int .i64 1)).setCell ⟨w1.heap.size, 1, none⟩ (.bool false)).setCell ⟨w1.heap.size, 2, none⟩ (.bool false))) := by
    show Below _ _ _
    repeat (refine Below.setCell ?_ (by simp; try omega) _)
    exact HW2.out
  clear HA HB hb2 H2
  obtain ⟨g, hg⟩ : ∃ g, w1.heap.size = g := ⟨_, rfl⟩
  rw [hg] at HA3 HB3 HW2 a0 a1 a2 a3 a4 a5 b0 b1 b2 b3 b4 b5 ⊢
  clear hg hle HW1
  have HA := HA3
  have HB := HB3
  clear HA3 HB3
  go_wp2_with (first
    | (go_at_call 14; refine (H3 _).mono ?_; rintro e w4 ⟨rfl, hb4⟩; replace HW2 : Hid (Below w.heap.size w w4) := HW2.out.trans (hb4.mono HW2.out.size); replace HA : Hid (Blk g #[.int .i64 1, .bool false, .bool false] 23 w4) := HA.out.below hb4; replace HB : Hid (Blk (g + 1) #[.int .i64 2, .bool false, .bool false] 23 w4) := HB.out.below hb4; obtain ⟨a0, a1, a2, _⟩ := blk3 HA.out; obtain ⟨b0, b1, b2, _⟩ := blk3 HB.out; clear hb4)
    | (go_at_call 24; refine (H6 _ (HN.out.below HW2.out)).mono ?_; rintro e w4 ⟨rfl, rfl⟩)
    | (go_at_call 23; refine (H7 _ (HN.out.below HW2.out)).mono ?_; rintro e w4 ⟨rfl, rfl⟩)
    | (go_at_call 20; refine (H8 _).mono ?_; rintro e w4 ⟨rfl, hb4⟩; replace HW2 : Hid (Below w.heap.size w w4) := HW2.out.trans (hb4.mono HW2.out.size); replace HA : Hid (Blk g #[.int .i64 1, .bool false, .bool false] 23 w4) := HA.out.below hb4; replace HB : Hid (Blk (g + 1) #[.int .i64 2, .bool false, .bool false] 23 w4) := HB.out.below hb4; obtain ⟨a0, a1, a2, _⟩ := blk3 HA.out; obtain ⟨b0, b1, b2, _⟩ := blk3 HB.out; clear hb4)
    | (go_at_call_of 15 (2 : Int); refine (H4 _).mono ?_; rintro e w4 ⟨rfl, hb4⟩; replace HW2 : Hid (Below w.heap.size w w4) := HW2.out.trans (hb4.mono HW2.out.size); replace HA : Hid (Blk g #[.int .i64 1, .bool false, .bool false] 23 w4) := HA.out.below hb4; replace HB : Hid (Blk (g + 1) #[.int .i64 2, .bool false, .bool false] 23 w4) := HB.out.below hb4; obtain ⟨a0, a1, a2, _⟩ := blk3 HA.out; obtain ⟨b0, b1, b2, _⟩ := blk3 HB.out; clear hb4)
    | (go_at_call 15; refine (H5 _).mono ?_; rintro e w4 ⟨rfl, hb4⟩; replace HW2 : Hid (Below w.heap.size w w4) := HW2.out.trans (hb4.mono HW2.out.size); replace HA : Hid (Blk g #[.int .i64 1, .bool false, .bool false] 23 w4) := HA.out.below hb4; replace HB : Hid (Blk (g + 1) #[.int .i64 2, .bool false, .bool false] 23 w4) := HB.out.below hb4; obtain ⟨a0, a1, a2, _⟩ := blk3 HA.out; obtain ⟨b0, b1, b2, _⟩ := blk3 HB.out; clear hb4))
  go_ret
  exact ⟨rfl, HW2.out⟩
end Go.Proofs.YtojeeopmhogolaaDoor
