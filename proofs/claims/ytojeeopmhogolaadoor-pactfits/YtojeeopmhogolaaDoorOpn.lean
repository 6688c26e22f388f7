/-
  A row of numbers, a row of truths, that a statement is handed: how each lies in memory.
-/
import Derived.Test.YtojeeopmhogolaaDoorBase
import Derived.Test.YtojeeopmhogolaaDoorPct
namespace Go.Proofs.YtojeeopmhogolaaDoor
open Go Go.ChangeShapes Go.WideShapes Go.ChangeAt Go.RowKit
theorem open_nums {H : Type} {enc : TypeId × Value → H} {W : World} {ao : Option Addr} {len cap : Nat} {d : DataW H} {p : List MemPlace} (h : DataW.Trod enc Tryd.prog W 0 (fun _ => true) true 48 (.slice ao len cap) d p) :
    ∃ y : Nat → Int, RowN W ao len y := by
  obtain ⟨fuel, hf⟩ := h
  rcases open_ints Tryd.underlying48 Tryd.underlying3 c3 hf with ⟨hcs, hx⟩ | ⟨a, len', cap', zs, hcs, _, hl, hm, hz, hx, hcell, hwz⟩
  · simp [Value.cells] at hcs
    obtain ⟨rfl, rfl, rfl⟩ := hcs
    exact ⟨fun _ => 0, fun i hi => absurd hi (Nat.not_lt_zero _)⟩
  · simp [Value.cells] at hcs
    obtain ⟨rfl, rfl, rfl⟩ := hcs
    simp only [if_true] at hz
    exact ⟨fun i => zs.getD i 0, fun i hi => ⟨a, rfl, hcell i (by omega)⟩⟩
theorem open_truths {H : Type} {enc : TypeId × Value → H} {W : World} {ao : Option Addr} {len cap : Nat} {d : DataW H} {p : List MemPlace} (h : DataW.Trod enc Tryd.prog W 0 (fun _ => true) true 49 (.slice ao len cap) d p) :
    ∃ y : Nat → Bool, RowB W ao len y := by
  obtain ⟨fuel, hf⟩ := h
  rcases Deep.open_bools Tryd.underlying49 Tryd.underlying4 c4 hf with ⟨hcs, hx⟩ | ⟨a, len', cap', B, hcs, _, hl, hm, hx, hcell⟩
  · simp [Value.cells] at hcs
    obtain ⟨rfl, rfl, rfl⟩ := hcs
    exact ⟨fun _ => false, fun i hi => absurd hi (Nat.not_lt_zero _)⟩
  · simp [Value.cells] at hcs
    obtain ⟨rfl, rfl, rfl⟩ := hcs
    exact ⟨B, fun i hi => ⟨a, rfl, hcell i (by omega)⟩⟩
end Go.Proofs.YtojeeopmhogolaaDoor
