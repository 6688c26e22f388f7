/-
  From the listed variable's reading to what the walks ask of memory (the names of acts); a side, numbers and truths that a statement is handed.
-/
import Derived.Test.YtojeeopmhogolaaDoorRows
import Derived.Test.YtojeeopmhogolaaDoorPck
import Derived.ProofKit
import Derived.OpenShut
import Derived.Deep.Strs
import Derived.Deep.Grids
import Derived.Stop.Joined
import Derived.Stop.LaidErr
import Derived.Lay
import Derived.Lib.LaidTab
import Derived.SevenTiedAt
import Derived.LaidMore
namespace Go.Proofs.YtojeeopmhogolaaDoor
open Go Go.ChangeShapes Go.WideShapes Go.ChangeAt Go.RowKit
theorem own : ownKnob Tryd.prog.godebug = none := by kernel_rfl
theorem laidOutP : laidOutB Tryd.prog = true := by kernel_rfl
def laid1 : List (String × DataW Unit) := [("tidewater/pact.names", Rows.laid_tidewater_pact_names)]
theorem g0 : Tryd.prog.globalNamed "tidewater/pact.names" = some 0 := by kernel_rfl
theorem t0 : (Tryd.prog.globals[0]?).map (·.type) = some 58 := by kernel_rfl
theorem c9 : Tryd.prog.cellsOf 9 = 1 := by kernel_rfl
theorem c58 : Tryd.prog.cellsOf 58 = 5 := by kernel_rfl
theorem c3 : Tryd.prog.cellsOf 3 = 1 := by kernel_rfl
theorem c4 : Tryd.prog.cellsOf 4 = 1 := by kernel_rfl
theorem c23 : Tryd.prog.cellsOf 23 = 3 := by kernel_rfl
/-- An array of texts that reads as these holds them, cell for cell. -/
theorem cells_of_texts {H : Type} {enc : TypeId × Value → H} {P : Program} {w : World} {base : Nat} {sp : Nat → Bool} {held : Bool} {fuel : Nat} {t e : TypeId} {n : Nat} {cs : List Value} {l : List (List UInt8)} {x : DataW H × List MemPlace}
    (ht : P.underlying t = some (.array n e)) (he : P.underlying e = some .string) (hce : P.cellsOf e = 1) (h : DataW.trod enc P w base sp held fuel t cs = some x) (hx : x.1 = .agg (l.map fun s => .lit (.string s))) :
    ∀ (i : Nat) (s : List UInt8), i < n → l[i]? = some s → cs[i]? = some (.string ⟨s.toArray⟩) := by
  obtain ⟨xs, m, _, rfl, _, hxl, hall⟩ := DataW.trod_array ht h
  intro i s hi hs
  have h1 := hall i hi
  rw [hce] at h1
  obtain ⟨y, hy⟩ : ∃ y, xs[i]? = some y := ⟨_, List.getElem?_eq_getElem (by omega)⟩
  rw [hy] at h1
  obtain ⟨u, hc, hyu, _⟩ := DataW.trod_string he h1
  have h2 : (xs.map (·.1))[i]? = some (DataW.lit (.string s) : DataW H) := by
    have h3 : xs.map (·.1) = l.map fun s => (DataW.lit (.string s) : DataW H) := by simpa using hx
    rw [h3, List.getElem?_map, hs]
    rfl
  rw [List.getElem?_map, hy] at h2
  rw [hyu] at h2
  simp at h2
  have h4 : cs[i]? = some (.string u) := by
    have := congrArg (·[0]?) hc
    simpa [List.getElem?_take, List.getElem?_drop] using this
  rw [h4, ← h2]
set_option maxRecDepth 100000 in
theorem names_of_laid {W : World} (h : laidMetH Tryd.prog laid1 W) : Names W := by
  rw [MakeChecks.laidMetH_plain _ _ _ (by kernel_rfl)] at h
  obtain ⟨ps, ⟨g', t', cs, fuel, p, q, hg', ht', hvar, hd, _, _⟩, _⟩ := h
  obtain rfl := Option.some.inj (g0.symm.trans hg')
  obtain rfl := Option.some.inj (t0.symm.trans ht')
  have H := cells_of_texts (l := [[], [115, 117, 98, 115, 99, 114, 105, 98, 101], [115, 117, 98, 115, 99, 114, 105, 98, 101, 100], [117, 110, 115, 117, 98, 115, 99, 114, 105, 98, 101], [117, 110, 115, 117, 98, 115, 99, 114, 105, 98, 101, 100]]) Tryd.underlying58 Tryd.underlying9 c9 hd rfl
  have K := fun i => World.var?_cell g0 hvar i
  refine ⟨?_, ?_, ?_, ?_, ?_⟩
  · rw [K 0]; simpa using H 0 _ (by omega) rfl
  · rw [K 1]; simpa using H 1 _ (by omega) rfl
  · rw [K 2]; simpa using H 2 _ (by omega) rfl
  · rw [K 3]; simpa using H 3 _ (by omega) rfl
  · rw [K 4]; simpa using H 4 _ (by omega) rfl
section
variable {H : Type} {enc : TypeId × Value → H} {w : World}
theorem open_side {cs : Array Value} {d : DataW H} {pl : List MemPlace} (h0 : DataW.Trod enc Tryd.prog w 0 (fun _ => true) true 23 (.agg cs) d pl) :
    ∃ (s : Int) (a b : Bool), cs = #[.int .i64 s, .bool a, .bool b] := by
  obtain ⟨fuel, h⟩ := h0
  obtain ⟨xs, n, _, hx, hl, hxl, hall⟩ := DataW.trod_struct Tryd.underlying23 h
  have g0 := hall 0 _ rfl
  have g1 := hall 1 _ rfl
  have g2 := hall 2 _ rfl
  rw [c23] at hl
  have e : (Value.agg cs).cells.toList = cs.toList := rfl
  rw [e] at hl g0 g1 g2
  generalize hcs : cs.toList = l at hl g0 g1 g2
  match l, hl with
  | [k0, k1, k2], _ =>
    match xs, hxl with
    | [y0, y1, y2], _ =>
      obtain ⟨k, p0, _, _⟩ := DataW.trod_int Tryd.underlying3 g0
      obtain ⟨a, p1, _⟩ := DataW.trod_bool Tryd.underlying4 g1
      obtain ⟨b, p2, _⟩ := DataW.trod_bool Tryd.underlying4 g2
      simp [c3, c4] at p0 p1 p2
      refine ⟨k, a, b, ?_⟩
      apply Array.ext'
      rw [hcs, p0, p1, p2]
end
end Go.Proofs.YtojeeopmhogolaaDoor
