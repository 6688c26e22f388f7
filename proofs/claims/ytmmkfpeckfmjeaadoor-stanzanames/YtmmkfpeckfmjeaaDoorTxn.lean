/-
  The contract of lives over this program: first what it calls.
-/
import Derived.Test.YtmmkfpeckfmjeaaDoorTxm
namespace Go.Proofs.YtmmkfpeckfmjeaaDoor
open Go Go.RowKit Go.Maps Go.Sort
def Tr' (_ : Nat) : Prop := True
def x9 : El := ⟨[97], [([104], [53])], [], []⟩
def x1 : El := ⟨[112, 114, 101, 115, 101, 110, 99, 101], [], [], [⟨[115, 104, 111, 119], [], [97, 119, 97, 121], []⟩]⟩
theorem kind9 : kindN x9 = 9 := by decide +kernel
theorem fits9 : fitsW 3 (shapeN 9) x9 = true := by decide +kernel
theorem kind1 : kindN x1 = 1 := by decide +kernel
theorem fits1' : fitsW 3 (shapeN 1) x1 = true := by decide +kernel
theorem num9 : numV x9.attrs [104] = 5 := by decide +kernel
theorem val9 : valN x9.attrs [112, 114, 101, 118, 105, 100] = [] := by decide +kernel
theorem sz9 : szE 3 x9 := by simp [szE, x9]
theorem sz1 : szE 3 x1 := by simp [szE, x1]
theorem read9 (W : World) (g : Nat) (hA : At g #[.string ⟨#[104]⟩, .string ⟨#[53]⟩] 46 W) (hV : Va W) : Calls Tryd.prog 8 #[.agg #[.string ⟨#[97]⟩, .slice (some ⟨g, 0, none⟩) 1 1, .string ⟨#[]⟩, .slice none 0 0]] W fun e w' => e = .returned (.tuple #[.agg (staC 9 ⟨#[]⟩ ⟨#[]⟩ ⟨#[]⟩ ⟨#[]⟩ ⟨#[]⟩ ⟨#[]⟩ ⟨#[]⟩ 5 0 false none 0 0), .int .i64 0]) ∧ Below W.heap.size W w' := by
  have hE : ElE Tr' W x9 (.string ⟨#[97]⟩) (.slice (some ⟨g, 0, none⟩) 1 1) (.string ⟨#[]⟩) (.slice none 0 0) := by
    refine ElE.mk (e := x9) (xs := []) ⟨_, _, rfl, fun i x hx => ⟨_, rfl, trivial, ?_⟩⟩ (row_nil _ _ _ _) rfl
    have hadd : (⟨g, 0, none⟩ : Addr).add i = ⟨g, i, none⟩ := by unfold Addr.add; split <;> simp_all
    rw [hadd, Lib.cell_of_heap hA, ← Array.getElem?_toList]
    exact hx
  refine read_ok x9 9 _ _ _ _ W hE sz9 hV kind9 (by omega) (by omega) fits9 ⟨#[]⟩ ⟨#[]⟩ ⟨#[]⟩ ⟨#[]⟩ ⟨#[]⟩ ⟨#[]⟩ ⟨#[]⟩ 5 0 false none 0 0 (fun W' hb => ?_) rfl
  have := told9_any x9 _ _ _ _ W' (hE.below hb) sz9.one (hV.below hb)
  rw [num9, val9] at this
  exact this
set_option maxHeartbeats 1000000 in
set_option maxRecDepth 100000 in
theorem counts_get (w : World) : Calls Tryd.prog 17 #[.agg #[.int .i64 2, .string ⟨#[]⟩, .string ⟨#[]⟩, .string ⟨#[]⟩, .string ⟨#[]⟩, .string ⟨#[]⟩, .string ⟨#[]⟩, .string ⟨#[]⟩, .int .u32 0, .int .i64 0, .bool false, .slice none 0 0]] w fun e w' => e = .returned (.bool true) ∧ Below w.heap.size w w' := by
  go_enter Tryd.func17, Tryd.ntmps17
  go_wp2_with fail
  go_ret
  exact ⟨rfl, bw0 w _⟩
end Go.Proofs.YtmmkfpeckfmjeaaDoor
