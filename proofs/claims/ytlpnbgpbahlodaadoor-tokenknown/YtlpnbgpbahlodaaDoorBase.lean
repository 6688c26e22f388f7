/-
  From the listed variables' readings to what the walks ask of memory (the two errors of strconv); rows of numbers and of texts that a statement is handed.
-/
import Derived.Test.YtlpnbgpbahlodaaDoorRows
import Derived.Test.YtlpnbgpbahlodaaDoorPkh
import Derived.ProofKit
import Derived.OpenShut
import Derived.Deep.Strs
import Derived.Stop.Joined
import Derived.Stop.LaidErr
import Derived.Lay
import Derived.Lib.LaidTab
import Derived.SevenTiedAt
import Derived.LaidMore
namespace Go.Proofs.YtlpnbgpbahlodaaDoor
open Go Go.ChangeShapes Go.WideShapes Go.ChangeAt Go.RowKit
theorem own : ownKnob Tryd.prog.godebug = none := by kernel_rfl
theorem laidOutP : laidOutB Tryd.prog = true := by kernel_rfl
def laid5 : List (String × DataW Unit) := [("math/bits.deBruijn32tab", Rows.laid_math_bits_deBruijn32tab), ("math/bits.deBruijn64tab", Rows.laid_math_bits_deBruijn64tab), ("internal/strconv.uint64pow10", Rows.laid_internal_strconv_uint64pow10), ("strconv.ErrRange", Rows.laid_strconv_ErrRange), ("strconv.ErrSyntax", Rows.laid_strconv_ErrSyntax)]
theorem t0 : (Tryd.prog.globals[0]?).map (·.type) = some 41 := by kernel_rfl
theorem t1 : (Tryd.prog.globals[1]?).map (·.type) = some 41 := by kernel_rfl
theorem c64 : Tryd.prog.cellsOf 64 = 1 := by kernel_rfl
theorem c9 : Tryd.prog.cellsOf 9 = 1 := by kernel_rfl
theorem c22 : Tryd.prog.cellsOf 22 = 1 := by kernel_rfl
theorem star : "*" ++ "errors.errorString" = "*errors.errorString" := by decide
theorem row62 (u : TypeId) (h : Tryd.prog.typeName? 3 u = some "*errors.errorString") : u = 62 :=
  typeName_ptr_named (nm := "errors.errorString") (by rw [star]; kernel_rfl) (by kernel_rfl) (by decide) u (by rw [star]; exact h)
set_option maxRecDepth 100000 in
theorem env_of_laid {W : World} (h : laidMetH Tryd.prog laid5 W) : Env W := by
  rw [MakeChecks.laidMetH_plain _ _ _ (by kernel_rfl)] at h
  have h3 := h.tail.tail
  refine ⟨?_, ?_⟩
  · obtain ⟨a0, s0, hv0, _⟩ := laid_sentinel h3.tail.tail g0 t0 Tryd.underlying41 row62 Tryd.underlying62 Tryd.underlying64 rfl rfl Tryd.underlying9 c64 c9
    exact ⟨_, _, hv0⟩
  · obtain ⟨a0, s0, hv0, _⟩ := laid_sentinel h3.tail g1 t1 Tryd.underlying41 row62 Tryd.underlying62 Tryd.underlying64 rfl rfl Tryd.underlying9 c64 c9
    exact ⟨_, _, hv0⟩
theorem u_of {h : Int} (hw : (Lit.int .u64 h).wf = true) : ∃ u : Nat, h = (u : Int) ∧ U u := by
  have e1 : IntKind.u64.min = 0 := rfl
  have e2 : IntKind.u64.max = 18446744073709551615 := rfl
  simp [Lit.wf, e1, e2] at hw
  exact ⟨h.toNat, by omega, by unfold U; omega⟩
theorem n_of {h : Int} (hw : (Lit.int .i64 h).wf = true) : -9223372036854775808 ≤ h ∧ h ≤ 9223372036854775807 := by
  have e1 : IntKind.i64.min = -9223372036854775808 := rfl
  have e2 : IntKind.i64.max = 9223372036854775807 := rfl
  simp [Lit.wf, e1, e2] at hw
  omega
theorem str_of {s : ByteArray} (h : s.data.toList.length ≤ reachBytes) : s.size ≤ 281474976710656 := by
  have h2 := reachBytes_lt
  rw [Array.length_toList] at h
  have h3 : s.size = s.data.size := rfl
  omega
theorem open_texts {H : Type} {enc : TypeId × Value → H} {W : World} {ao : Option Addr} {len cap : Nat} {d : DataW H} {p : List MemPlace} (h : DataW.Trod enc Tryd.prog W 0 (fun _ => true) true 29 (.slice ao len cap) d p) :
    ∃ l : List ByteArray, len = l.length ∧ RowS W ao l ∧ l.length ≤ cap := by
  obtain ⟨fuel, hf⟩ := h
  rcases Deep.open_strs Tryd.underlying29 Tryd.underlying9 c9 hf with ⟨hcs, _⟩ | ⟨a, len', cap', m, Sx, hcs, _, hl, _, hmm, _, hc⟩
  · simp [Value.cells] at hcs
    obtain ⟨rfl, rfl, rfl⟩ := hcs
    exact ⟨[], rfl, fun i s hs => by simp [strs] at hs, Nat.le_refl _⟩
  · simp [Value.cells] at hcs
    obtain ⟨rfl, rfl, rfl⟩ := hcs
    simp only [if_true] at hmm
    subst hmm
    refine ⟨(List.range len).map Sx, by simp, fun i s hs => ?_, by simpa using hl⟩
    rw [strs_get, List.getElem?_map] at hs
    obtain ⟨y, hy, rfl⟩ := Option.map_eq_some_iff.1 hs
    obtain ⟨j, hj, rfl⟩ := Option.map_eq_some_iff.1 hy
    have hi := (List.getElem?_eq_some_iff.1 hj).1
    rw [List.getElem?_range (by simpa using hi)] at hj
    cases hj
    exact ⟨a, rfl, (hc i (by simp at hi; omega)).1⟩
theorem open_nums {H : Type} {enc : TypeId × Value → H} {W : World} {ao : Option Addr} {len cap : Nat} {d : DataW H} {p : List MemPlace} (h : DataW.Trod enc Tryd.prog W 0 (fun _ => true) true 28 (.slice ao len cap) d p) :
    ∃ l : List Nat, len = l.length ∧ RowU W ao l ∧ l.length ≤ cap ∧ ∀ z ∈ l, U z := by
  obtain ⟨fuel, hf⟩ := h
  rcases open_ints Tryd.underlying28 Tryd.underlying22 c22 hf with ⟨hcs, hx⟩ | ⟨a, len', cap', zs, hcs, _, hl, hm, hz, hx, hcell, hwz⟩
  · simp [Value.cells] at hcs
    obtain ⟨rfl, rfl, rfl⟩ := hcs
    exact ⟨[], rfl, fun i s hs => by simp [us] at hs, Nat.le_refl _, fun z hz => by cases hz⟩
  · simp [Value.cells] at hcs
    obtain ⟨rfl, rfl, rfl⟩ := hcs
    simp only [if_true] at hz
    have hlz : (zs.take len).length = len := by rw [List.length_take]; omega
    refine ⟨(zs.take len).map Int.toNat, by rw [List.length_map, hlz], fun i s hs => ?_, by rw [List.length_map, hlz]; exact hl, fun z hz' => ?_⟩
    · rw [us_get, List.getElem?_map] at hs
      obtain ⟨y, hy, rfl⟩ := Option.map_eq_some_iff.1 hs
      obtain ⟨x, hx', rfl⟩ := Option.map_eq_some_iff.1 hy
      rw [List.getElem?_take] at hx'
      split at hx'
      case isFalse => cases hx'
      have hi := (List.getElem?_eq_some_iff.1 hx').1
      have hc := hcell i (by omega)
      have hg : zs.getD i 0 = x := by rw [List.getD_eq_getElem?_getD, hx', Option.getD_some]
      rw [hg] at hc
      obtain ⟨u, hu, _⟩ := u_of (hwz x (List.mem_of_getElem? hx'))
      refine ⟨a, rfl, ?_⟩
      rw [hc, hu]
      rfl
    · obtain ⟨x, hx', rfl⟩ := List.mem_map.1 hz'
      obtain ⟨u, rfl, hu⟩ := u_of (hwz x (List.mem_of_mem_take hx'))
      exact hu
end Go.Proofs.YtlpnbgpbahlodaaDoor
