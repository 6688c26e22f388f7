/-
  The contract of side over this program: what a side of the document's is, as the program has it.
-/
import Derived.Test.YtojeeopmhogolaaDoorPcm
namespace Go.Proofs.YtojeeopmhogolaaDoor
open Go Go.RowKit Go.Sort
set_option maxHeartbeats 4000000 in
theorem side_at (p q a b : Bool) (s : Int) (w : World) (H28 : ∀ W, Calls Tryd.prog 28 #[.agg #[.bool p, .bool q, .bool a, .bool b]] W fun e w' => e = .returned (.int .i64 s) ∧ Below W.heap.size W w') :
    Calls Tryd.prog 18 #[.agg #[.bool p, .bool q, .bool a, .bool b]] w fun e w' => e = .returned (.agg #[.int .i64 s, .bool a, .bool b]) ∧ Below w.heap.size w w' := by
  obtain ⟨W, hW⟩ : ∃ W, (w.alloc (.cells #[.bool p, .bool q, .bool a, .bool b] 26)).alloc (.cells #[.int .i64 0, .bool false, .bool false] 23) = W := ⟨_, rfl⟩
  have HA : Hid (Blk w.heap.size #[.bool p, .bool q, .bool a, .bool b] 26 W) := by show Blk _ _ _ _; rw [← hW]; exact Blk.new1 _ _ _ _
  have HB : Hid (Blk (w.heap.size + 1) #[.int .i64 0, .bool false, .bool false] 23 W) := by show Blk _ _ _ _; rw [← hW]; exact Blk.new2 _ _ _ _
  have HW : Hid (Below w.heap.size w W) := by show Below _ _ _; rw [← hW]; exact below2 _ _ _
  have HWW : Hid (_ = W) := hW
  clear hW
  go_enter Tryd.func18, Tryd.ntmps18
  go_wp2_with fail
  rw [HWW.out]
  clear HWW
  obtain ⟨a0, a1, a2, a3, _⟩ := blk4 HA.out
  obtain ⟨b0, b1, b2, f0, f1, f2⟩ := blk3 HB.out
  go_region_with (go_at_call 28; refine (H28 _).mono ?_; rintro e w1 ⟨rfl, hb1⟩; replace hb1 : Below W.heap.size W w1 := ⟨hb1.os, hb1.tape, hb1.output, hb1.size, hb1.block⟩; have HW1 : Hid (Below w.heap.size w w1) := HW.out.trans (hb1.mono HW.out.size); have HA1 := HA.out.below hb1; have HB1 := HB.out.below hb1; obtain ⟨a0', a1', a2', a3', _⟩ := blk4 HA1; obtain ⟨b0', b1', b2', f0', f1', f2'⟩ := blk3 HB1; clear hb1 HA1 HB1)
  all_goals go_wp2_with fail
  all_goals refine bodyPost_ret (v := .agg #[.int .i64 s, .bool a, .bool b]) (by simp [results, Tryd.results18, go_sem, b0', b1', b2']) rfl ⟨rfl, ?_⟩
  all_goals repeat (first | refine Below.drew ?_ | refine Below.setCell ?_ (by simp) _)
  all_goals exact HW1.out
theorem side_any (t : Sd) (w : World) : Calls Tryd.prog 18 #[t.ref] w fun e w' => e = .returned t.val ∧ Below w.heap.size w w' :=
  side_at t.p t.q t.a t.b _ w (refSub_any t.p t.q t.a t.b)
end Go.Proofs.YtojeeopmhogolaaDoor
