/-
  From the listed variables' readings to what the walks ask of memory: the two tables of unicode/utf8, the table of powers of ten and the two errors of strconv.
-/
import Derived.Test.YtmmkfpeckfmjeaaDoorRows
import Derived.Test.YtmmkfpeckfmjeaaDoorTxb
import Derived.ProofKit
import Derived.OpenShut
import Derived.Stop.Joined
import Derived.Stop.LaidErr
import Derived.Lay
import Derived.Lib.LaidTab
import Derived.Lib.LaidU8T
import Derived.SevenTiedAt
import Derived.LaidMore
namespace Go.Proofs.YtmmkfpeckfmjeaaDoor
open Go Go.ChangeShapes Go.WideShapes Go.ChangeAt Go.RowKit
theorem own : ownKnob Tryd.prog.godebug = none := by kernel_rfl
theorem laidOutP : laidOutB Tryd.prog = true := by kernel_rfl
def laid8 : List (String × DataW Unit) := [("math/bits.deBruijn32tab", Rows.laid_math_bits_deBruijn32tab), ("math/bits.deBruijn64tab", Rows.laid_math_bits_deBruijn64tab), ("internal/strconv.uint64pow10", Rows.laid_internal_strconv_uint64pow10), ("unicode/utf8.acceptRanges", Rows.laid_unicode_utf8_acceptRanges), ("strconv.ErrRange", Rows.laid_strconv_ErrRange), ("strconv.ErrSyntax", Rows.laid_strconv_ErrSyntax), ("tidewater/stanza.subTexts", Rows.laid_tidewater_stanza_subTexts), ("unicode/utf8.first", Rows.laid_unicode_utf8_first)]
theorem pow_eq : (Rows.laid_internal_strconv_uint64pow10 : DataW Unit) = Lib.tabData .u64 Lib.pow10Tab := by kernel_rfl
theorem t5 : (Tryd.prog.globals[5]?).map (·.type) = some 100 := by kernel_rfl
theorem t6 : (Tryd.prog.globals[6]?).map (·.type) = some 100 := by kernel_rfl
theorem t2 : (Tryd.prog.globals[2]?).map (·.type) = some 121 := by kernel_rfl
theorem c87 : Tryd.prog.cellsOf 87 = 1 := by kernel_rfl
theorem c121 : Tryd.prog.cellsOf 121 = 20 := by kernel_rfl
theorem c143 : Tryd.prog.cellsOf 143 = 1 := by kernel_rfl
theorem c9 : Tryd.prog.cellsOf 9 = 1 := by kernel_rfl
theorem star : "*" ++ "errors.errorString" = "*errors.errorString" := by decide
theorem row141 (u : TypeId) (h : Tryd.prog.typeName? 3 u = some "*errors.errorString") : u = 141 :=
  typeName_ptr_named (nm := "errors.errorString") (by rw [star]; kernel_rfl) (by kernel_rfl) (by decide) u (by rw [star]; exact h)
set_option maxRecDepth 100000 in
theorem env_of_laid {W : World} (h : laidMetH Tryd.prog laid8 W) : Env W := by
  rw [MakeChecks.laidMetH_plain _ _ _ (by kernel_rfl)] at h
  have h3 := h.tail.tail
  refine ⟨?_, ?_, ?_⟩
  · rw [pow_eq] at h3
    exact Lib.tabIs_of_head g2 t2 Tryd.underlying121 Tryd.underlying87 c87 c121 h3
  · obtain ⟨a0, s0, hv0, _⟩ := laid_sentinel h3.tail.tail.tail g0 t5 Tryd.underlying100 row141 Tryd.underlying141 Tryd.underlying143 rfl rfl Tryd.underlying9 c143 c9
    exact ⟨_, _, hv0⟩
  · obtain ⟨a0, s0, hv0, _⟩ := laid_sentinel h3.tail.tail g1 t6 Tryd.underlying100 row141 Tryd.underlying141 Tryd.underlying143 rfl rfl Tryd.underlying9 c143 c9
    exact ⟨_, _, hv0⟩
def ren : Go.Shelf.Ren := ⟨fun n => n, fun | 5 => 5 | 119 => 129 | 138 => 131 | 139 => 132 | n => n, fun | 3 => 3 | 4 => 4 | n => n⟩
theorem u8types : U8Types Tryd.prog ren := ⟨by kernel_rfl, by kernel_rfl, by kernel_rfl, by kernel_rfl⟩
theorem u8extra : U8Extra Tryd.prog ren := ⟨by kernel_rfl, by kernel_rfl, by kernel_rfl, by kernel_rfl, by kernel_rfl, by kernel_rfl, by kernel_rfl⟩
theorem accept_eq : Rows.laid_unicode_utf8_acceptRanges = Lib.acceptData := by kernel_rfl
theorem first_eq : Rows.laid_unicode_utf8_first = Lib.firstData := by kernel_rfl
theorem tabs_of_laid {W : World} (h : laidMetH Tryd.prog laid8 W) : Tabs W := by
  rw [MakeChecks.laidMetH_plain _ _ _ (by kernel_rfl)] at h
  have r1 := Lib.laidMet.reads h (n := "unicode/utf8.acceptRanges") (d := Rows.laid_unicode_utf8_acceptRanges) (.tail _ (.tail _ (.tail _ (.head _))))
  have r3 := Lib.laidMet.reads h (n := "unicode/utf8.first") (d := Rows.laid_unicode_utf8_first) (.tail _ (.tail _ (.tail _ (.tail _ (.tail _ (.tail _ (.tail _ (.head _))))))))
  rw [accept_eq] at r1
  rw [first_eq] at r3
  exact ⟨utf8Tabs_of_readsT u8types u8extra r3 r1⟩
theorem va_of_laid {W : World} (h : laidMetH Tryd.prog laid8 W) : Va W := ⟨env_of_laid h, tabs_of_laid h⟩
theorem str_of {s : ByteArray} (h : s.data.toList.length ≤ reachBytes) : s.size ≤ 281474976710656 := by
  have h2 := reachBytes_lt
  rw [Array.length_toList] at h
  have h3 : s.size = s.data.size := rfl
  omega
end Go.Proofs.YtmmkfpeckfmjeaaDoor
