/-
  From the listed variables' readings to what the walks ask of memory: the two tables of unicode/utf8 and what stands for the five signs.
-/
import Derived.Test.YthekdgnikkjpdaaDoorRows
import Derived.Test.YthekdgnikkjpdaaDoorWalkk
import Derived.ProofKit
import Derived.OpenShut
import Derived.Stop.Joined
import Derived.PinnedBridge
import Derived.Lay
import Derived.Lib.LaidU8T
import Derived.SevenTiedAt
import Derived.LaidMore
namespace Go.Proofs.YthekdgnikkjpdaaDoor
open Go.ChangeShapes Go.WideShapes Go.ChangeAt Go.RowKit
theorem own : ownKnob Tryd.prog.godebug = none := by kernel_rfl
def laid3 : List (String × DataW Unit) := [("unicode/utf8.acceptRanges", Rows.laid_unicode_utf8_acceptRanges), ("tidewater/signs.standIns", Rows.laid_tidewater_signs_standIns), ("unicode/utf8.first", Rows.laid_unicode_utf8_first)]
def ren : Go.Shelf.Ren := ⟨fun n => n, fun | 5 => 5 | 119 => 128 | 138 => 130 | 139 => 131 | n => n, fun | 3 => 1 | 4 => 2 | n => n⟩
theorem u8types : U8Types Tryd.prog ren := ⟨by kernel_rfl, by kernel_rfl, by kernel_rfl, by kernel_rfl⟩
theorem u8extra : U8Extra Tryd.prog ren := ⟨by kernel_rfl, by kernel_rfl, by kernel_rfl, by kernel_rfl, by kernel_rfl, by kernel_rfl, by kernel_rfl⟩
theorem accept_eq : Rows.laid_unicode_utf8_acceptRanges = Lib.acceptData := by kernel_rfl
theorem first_eq : Rows.laid_unicode_utf8_first = Lib.firstData := Pinned.utf8First_eq
theorem gStand : Tryd.prog.globalNamed "tidewater/signs.standIns" = some 0 := by kernel_rfl
theorem tStand : (Tryd.prog.globals[0]?).map (·.type) = some 121 := by kernel_rfl
theorem c61 : Tryd.prog.cellsOf 121 = 10 := by kernel_rfl
theorem c53 : Tryd.prog.cellsOf 120 = 2 := by kernel_rfl
theorem c21 : Tryd.prog.cellsOf 21 = 1 := by kernel_rfl
theorem c9 : Tryd.prog.cellsOf 9 = 1 := by kernel_rfl
set_option maxRecDepth 100000 in
theorem pair_is {H : Type} {enc : TypeId × Value → H} {w : World} {base : Nat} {sp : Nat → Bool} {held : Bool} {fuel : Nat} {cs : List Value} {n : Int} {bs : List UInt8} {q : List MemPlace}
    (h : DataW.trod enc Tryd.prog w base sp held fuel 120 cs = some (.agg [.lit (.int .i32 n), .lit (.string bs)], q)) : cs = [.int .i32 n, .string ⟨bs.toArray⟩] := by
  obtain ⟨y0, y1, m, hx, hl, h0, h1⟩ := trod_struct2 Tryd.underlying120 h
  rw [c53] at hl
  obtain ⟨k, e0, e0', _⟩ := DataW.trod_int Tryd.underlying21 h0
  obtain ⟨s, e1, e1', _⟩ := DataW.trod_string Tryd.underlying9 h1
  subst e0'
  subst e1'
  simp only [Prod.mk.injEq, DataW.agg.injEq, List.cons.injEq, DataW.lit.injEq, Lit.int.injEq, Lit.string.injEq, true_and, and_true] at hx
  obtain ⟨⟨rfl, rfl⟩, _⟩ := hx
  match cs, hl with
  | [a, b], _ =>
    simp [c21, c9] at e0 e1
    rw [e0, e1]
set_option maxRecDepth 100000 in
theorem tabs_of_laid {W : World} (h : laidMetH Tryd.prog laid3 W) : Tabs W := by
  rw [MakeChecks.laidMetH_plain _ _ _ (by kernel_rfl)] at h
  have r1 := Lib.laidMet.reads h (n := "unicode/utf8.acceptRanges") (d := Rows.laid_unicode_utf8_acceptRanges) (.head _)
  have r2 := Lib.laidMet.reads h (n := "tidewater/signs.standIns") (d := Rows.laid_tidewater_signs_standIns) (.tail _ (.head _))
  have r3 := Lib.laidMet.reads h (n := "unicode/utf8.first") (d := Rows.laid_unicode_utf8_first) (.tail _ (.tail _ (.head _)))
  rw [accept_eq] at r1
  rw [first_eq] at r3
  refine ⟨utf8Tabs_of_readsT u8types u8extra r3 r1, ?_⟩
  obtain ⟨g, t, cs, fuel, p, hg, hty, hvar, hd⟩ := r2
  obtain rfl := Option.some.inj (gStand.symm.trans hg)
  obtain rfl := Option.some.inj (tStand.symm.trans hty)
  obtain ⟨xs, m, rfl, hx, hlen, hn, hel⟩ := DataW.trod_array Tryd.underlying121 hd
  rw [c61] at hlen
  simp only [c53] at hel
  have hcs : cs = standCells := by
    simp only [Prod.mk.injEq, Rows.laid_tidewater_signs_standIns, DataW.agg.injEq] at hx
    match xs, hn, hx with
    | [x0, x1, x2, x3, x4], _, hx =>
      simp only [List.map_cons, List.map_nil, List.cons.injEq, and_true] at hx
      obtain ⟨⟨k0, k1, k2, k3, k4⟩, _⟩ := hx
      have j0 := pair_is ((hel 0 (by decide)).trans (show _ = some (_, x0.2) by rw [k0]; rfl))
      have j1 := pair_is ((hel 1 (by decide)).trans (show _ = some (_, x1.2) by rw [k1]; rfl))
      have j2 := pair_is ((hel 2 (by decide)).trans (show _ = some (_, x2.2) by rw [k2]; rfl))
      have j3 := pair_is ((hel 3 (by decide)).trans (show _ = some (_, x3.2) by rw [k3]; rfl))
      have j4 := pair_is ((hel 4 (by decide)).trans (show _ = some (_, x4.2) by rw [k4]; rfl))
      obtain ⟨l⟩ := cs
      simp only at hlen j0 j1 j2 j3 j4
      match l, hlen with
      | [a0, a1, a2, a3, a4, a5, a6, a7, a8, a9], _ =>
        simp at j0 j1 j2 j3 j4
        rw [j0.1, j0.2, j1.1, j1.2, j2.1, j2.2, j3.1, j3.2, j4.1, j4.2]
        rfl
  subst hcs
  simp only [World.var?, hg, Option.bind_some] at hvar
  split at hvar
  · rename_i cs t fr hh
    cases hvar
    exact ⟨t, fr, hh⟩
  · cases hvar
end Go.Proofs.YthekdgnikkjpdaaDoor
