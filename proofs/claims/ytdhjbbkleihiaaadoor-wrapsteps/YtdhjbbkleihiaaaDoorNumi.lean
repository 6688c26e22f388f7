/-
  The walk of the statement WrapSteps over this program.
-/
import Derived.Test.YtdhjbbkleihiaaaDoorNumf
namespace Go.Proofs.YtdhjbbkleihiaaaDoor
open Go Go.RowKit
set_option maxHeartbeats 2000000 in
set_option maxRecDepth 100000 in
theorem steps_walk (a b c n : Int) (ha : U a) (hb : U b) (hc : U c) (hn : N n) (w : World) (hE : Env w) :
    Calls Tryd.prog 3 #[.agg #[.int .u32 a, .int .u32 b, .int .u32 c], .int .i64 n] w fun e w' => e = .returned (.bool true) ∧ Below w.heap.size w w' := by
  have HE : Hid (Env w) := hE
  have HLV := fun W h => lives_any W h
  clear hE
  have H1 := fun W => add_any a n ha hn W
  have H2 := fun W => refAdd_any a n ha hn W
  have H3 := fun W => ahead_any a b ha hb W
  have H4 := fun W => refAhead_any a b ha hb W
  have H5 := fun W => within_any a b c ha hb hc W
  have H6 := fun W => refWithin_any a b c ha hb hc W
  have H7 := fun W => less_any a b ha hb W
  have H8 := fun W => refLess_any a b ha hb W
  generalize addI a n = r1 at *
  generalize ahI a b = r2 at *
  generalize witI a b c = r3 at *
  generalize lessI a b = r4 at *
  go_enter Tryd.func3, Tryd.ntmps3
  go_wp2_with (go_at_call 9; refine (HLV _ (HE.out.below (Joins.below_alloc1 w _))).mono ?_; rintro e w1 ⟨rfl, hb1⟩; refine Hid.out ?_)
  refine Lib.hid ?_
  have q0 : (w.alloc (.cells #[.int .u32 a, .int .u32 b, .int .u32 c] 23)).cell? ⟨w.heap.size, 0, none⟩ = some (.int .u32 a) := World.cell?_alloc_new _ _ _ _
  have q1 : (w.alloc (.cells #[.int .u32 a, .int .u32 b, .int .u32 c] 23)).cell? ⟨w.heap.size, 1, none⟩ = some (.int .u32 b) := World.cell?_alloc_new _ _ _ _
  have q2 : (w.alloc (.cells #[.int .u32 a, .int .u32 b, .int .u32 c] 23)).cell? ⟨w.heap.size, 2, none⟩ = some (.int .u32 c) := World.cell?_alloc_new _ _ _ _
  have k0 : w1.cell? ⟨w.heap.size, 0, none⟩ = some (.int .u32 a) := (hb1.cell (World.block_lt_of_cell? _ _ q0)).trans q0
  have k1 : w1.cell? ⟨w.heap.size, 1, none⟩ = some (.int .u32 b) := (hb1.cell (World.block_lt_of_cell? _ _ q1)).trans q1
  have k2 : w1.cell? ⟨w.heap.size, 2, none⟩ = some (.int .u32 c) := (hb1.cell (World.block_lt_of_cell? _ _ q2)).trans q2
  clear q0 q1 q2
  have HB : Hid (Below w.heap.size w w1) := (Joins.below_alloc1 w _).trans (hb1.mono (Joins.below_alloc1 w _).size)
  clear hb1
  go_wp2_with fail
  go_quiet (first
    | (go_at_call 10; exact Calls.quiet_of_same (H1 _)) | (go_at_call 11; exact Calls.quiet_of_same (H2 _))
    | (go_at_call 12; exact Calls.quiet_of_same (H3 _)) | (go_at_call 13; exact Calls.quiet_of_same (H4 _))
    | (go_at_call 14; exact Calls.quiet_of_same (H5 _)) | (go_at_call 15; exact Calls.quiet_of_same (H6 _))
    | (go_at_call 16; exact Calls.quiet_of_same (H7 _)) | (go_at_call 17; exact Calls.quiet_of_same (H8 _)))
  go_wp2_with fail
  go_ret
  exact ⟨rfl, below_drewN HB.out⟩
end Go.Proofs.YtdhjbbkleihiaaaDoor
