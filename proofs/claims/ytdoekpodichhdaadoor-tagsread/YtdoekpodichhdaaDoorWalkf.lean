/-
  The contracts of signs.textFor and standInAt over this program.
-/
import Derived.Test.YtdoekpodichhdaaDoorWalke
namespace Go.Proofs.YtdoekpodichhdaaDoor
open Go.RowKit
theorem size61 : (Tryd.prog.info? 89).map (·.size) = some standCells.size := by kernel_rfl
theorem idx0 (w : World) : (Instr.index 89 (.agg standCells) (.int .i64 0)).run Tryd.prog w = .ok (.agg #[.int .i32 38, .string ⟨#[38, 97, 109, 112, 59]⟩]) w := by kernel_rfl
theorem idx1 (w : World) : (Instr.index 89 (.agg standCells) (.int .i64 1)).run Tryd.prog w = .ok (.agg #[.int .i32 60, .string ⟨#[38, 108, 116, 59]⟩]) w := by kernel_rfl
theorem idx2 (w : World) : (Instr.index 89 (.agg standCells) (.int .i64 2)).run Tryd.prog w = .ok (.agg #[.int .i32 62, .string ⟨#[38, 103, 116, 59]⟩]) w := by kernel_rfl
theorem idx3 (w : World) : (Instr.index 89 (.agg standCells) (.int .i64 3)).run Tryd.prog w = .ok (.agg #[.int .i32 34, .string ⟨#[38, 113, 117, 111, 116, 59]⟩]) w := by kernel_rfl
theorem idx4 (w : World) : (Instr.index 89 (.agg standCells) (.int .i64 4)).run Tryd.prog w = .ok (.agg #[.int .i32 39, .string ⟨#[38, 97, 112, 111, 115, 59]⟩]) w := by kernel_rfl
def textI (r : Int) : ByteArray × Bool :=
  if r = 38 then (⟨#[38, 97, 109, 112, 59]⟩, true) else if r = 60 then (⟨#[38, 108, 116, 59]⟩, true) else if r = 62 then (⟨#[38, 103, 116, 59]⟩, true)
  else if r = 34 then (⟨#[38, 113, 117, 111, 116, 59]⟩, true) else if r = 39 then (⟨#[38, 97, 112, 111, 115, 59]⟩, true) else (⟨#[]⟩, false)
theorem ret_text {a b : ByteArray × Bool} (h : a = b) : Ending.returned (.tuple #[.string a.1, .bool a.2]) = .returned (.tuple #[.string b.1, .bool b.2]) := by rw [h]
end Go.Proofs.YtdoekpodichhdaaDoor
