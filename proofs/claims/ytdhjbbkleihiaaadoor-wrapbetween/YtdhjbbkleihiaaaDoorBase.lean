/-
  From the listed variables' readings to what the walks ask of memory: the table of powers of ten and the two errors of strconv.
-/
import Derived.Test.YtdhjbbkleihiaaaDoorRows
import Derived.Test.YtdhjbbkleihiaaaDoorNume
import Derived.ProofKit
import Derived.OpenShut
import Derived.Stop.Joined
import Derived.Stop.LaidErr
import Derived.Lay
import Derived.Lib.LaidTab
import Derived.SevenTiedAt
import Derived.LaidMore
namespace Go.Proofs.YtdhjbbkleihiaaaDoor
open Go Go.ChangeShapes Go.WideShapes Go.ChangeAt Go.RowKit
theorem own : ownKnob Tryd.prog.godebug = none := by kernel_rfl
def laid5 : List (String × DataW Unit) := [("math/bits.deBruijn32tab", Rows.laid_math_bits_deBruijn32tab), ("math/bits.deBruijn64tab", Rows.laid_math_bits_deBruijn64tab), ("internal/strconv.uint64pow10", Rows.laid_internal_strconv_uint64pow10), ("strconv.ErrRange", Rows.laid_strconv_ErrRange), ("strconv.ErrSyntax", Rows.laid_strconv_ErrSyntax)]
theorem pow_eq : (Rows.laid_internal_strconv_uint64pow10 : DataW Unit) = Lib.tabData .u64 Lib.pow10Tab := by kernel_rfl
theorem t0 : (Tryd.prog.globals[0]?).map (·.type) = some 43 := by kernel_rfl
theorem t1 : (Tryd.prog.globals[1]?).map (·.type) = some 43 := by kernel_rfl
theorem t2 : (Tryd.prog.globals[2]?).map (·.type) = some 67 := by kernel_rfl
theorem c41 : Tryd.prog.cellsOf 41 = 1 := by kernel_rfl
theorem c67 : Tryd.prog.cellsOf 67 = 20 := by kernel_rfl
theorem c74 : Tryd.prog.cellsOf 74 = 1 := by kernel_rfl
theorem c9 : Tryd.prog.cellsOf 9 = 1 := by kernel_rfl
theorem star : "*" ++ "errors.errorString" = "*errors.errorString" := by decide
theorem row72 (u : TypeId) (h : Tryd.prog.typeName? 3 u = some "*errors.errorString") : u = 72 :=
  typeName_ptr_named (nm := "errors.errorString") (by rw [star]; kernel_rfl) (by kernel_rfl) (by decide) u (by rw [star]; exact h)
set_option maxRecDepth 100000 in
theorem env_of_laid {W : World} (h : laidMetH Tryd.prog laid5 W) : Env W := by
  rw [MakeChecks.laidMetH_plain _ _ _ (by kernel_rfl)] at h
  have h3 := h.tail.tail
  refine ⟨?_, ?_, ?_⟩
  · rw [pow_eq] at h3
    exact Lib.tabIs_of_head g2 t2 Tryd.underlying67 Tryd.underlying41 c41 c67 h3
  · obtain ⟨a0, s0, hv0, _⟩ := laid_sentinel h3.tail.tail g0 t0 Tryd.underlying43 row72 Tryd.underlying72 Tryd.underlying74 rfl rfl Tryd.underlying9 c74 c9
    exact ⟨_, _, hv0⟩
  · obtain ⟨a0, s0, hv0, _⟩ := laid_sentinel h3.tail g1 t1 Tryd.underlying43 row72 Tryd.underlying72 Tryd.underlying74 rfl rfl Tryd.underlying9 c74 c9
    exact ⟨_, _, hv0⟩
theorem u_of {h : Int} (hw : (Lit.int .u32 h).wf = true) : U h := by
  have e1 : IntKind.u32.min = 0 := rfl
  have e2 : IntKind.u32.max = 4294967295 := rfl
  simp [Lit.wf, e1, e2] at hw
  unfold U
  omega
theorem n_of {h : Int} (hw : (Lit.int .i64 h).wf = true) : N h := by
  have e1 : IntKind.i64.min = -9223372036854775808 := rfl
  have e2 : IntKind.i64.max = 9223372036854775807 := rfl
  simp [Lit.wf, e1, e2] at hw
  unfold N
  omega
end Go.Proofs.YtdhjbbkleihiaaaDoor
