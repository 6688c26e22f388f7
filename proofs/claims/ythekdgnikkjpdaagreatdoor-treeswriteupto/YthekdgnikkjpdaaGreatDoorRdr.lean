/-
  The contracts of tags.New and (*tags.Reader).take over this program.
-/
import Derived.Test.YthekdgnikkjpdaaGreatDoorRtag
import Derived.Laws.IdiomStrings
import Derived.Laws.BytesString
namespace Go.Proofs.YthekdgnikkjpdaaGreatDoor
open Go.RowKit
/-- A reader in memory: its block, the bytes that it holds, its mark and its error. -/
structure RdrAt (B r : Nat) (h : List UInt8) (t : Bool) (e : Int) (w : World) : Prop where
  base : B ≤ r
  at_ : ∃ ao n cap, w.heap[r]? = some (.cells #[.slice ao n cap, .bool t, .int .i64 e] 84 (0, 0)) ∧ w.ownsRow B 5 1 (.slice ao n cap) h.length (Lib.byteCells h)
set_option maxHeartbeats 400000 in
theorem new_any (w : World) : Calls Tryz.prog 28 #[] w fun e w' => e = .returned (.pointer (some ⟨w.heap.size, 0, none⟩)) ∧ w' = w.alloc (.cells #[.slice none 0 0, .bool false, .int .i64 0] 84) := by
  go_enter Tryz.func28, Tryz.ntmps28
  go_wp2
  go_ret
  exact ⟨rfl, rfl⟩
theorem rdr_new (w : World) (B : Nat) (hB : B ≤ w.heap.size) : RdrAt B w.heap.size [] false 0 (w.alloc (.cells #[.slice none 0 0, .bool false, .int .i64 0] 84)) :=
  ⟨hB, none, 0, 0, heap_alloc_new w _, World.ownsRow_nil _ _ _ _⟩
theorem RdrAt.block {B r : Nat} {h : List UInt8} {t : Bool} {e : Int} {w : World} (k : RdrAt B r h t e w) : ∃ cs, w.heap[r]? = some (.cells cs 84 (0, 0)) := by
  obtain ⟨_, _, _, k1, _⟩ := k.at_
  exact ⟨_, k1⟩
theorem RdrAt.below {B r : Nat} {h : List UInt8} {t : Bool} {e : Int} {w w' : World} (k : RdrAt B r h t e w) (hb : Below w.heap.size w w') : RdrAt B r h t e w' := by
  obtain ⟨ao, n, cap, k1, k2⟩ := k.at_
  exact ⟨k.base, ao, n, cap, (hb.block r (lt_of_heap k1)).trans k1, owns_below k2 hb⟩
theorem owns_n {B : Nat} {e : TypeId} {sz : Nat} {ao : Option Addr} {n m cap : Nat} {xs : List Value} {w : World} (h : w.ownsRow B e sz (.slice ao n cap) m xs) : n = m := by
  obtain ⟨a, c, e⟩ := owns_shape h
  exact (Value.slice.inj e).2.1
theorem byte_get (h : List UInt8) (j : Nat) (hj : j < h.length) : (Lib.byteCells h)[j]? = some (.int .u8 (h[j].toNat : Int)) := by
  simp [Lib.byteCells, List.getElem?_eq_getElem hj]
theorem conv_nil (w : World) : (convert 44 9 (.slice none 0 0)).run Tryz.prog w = .ok (.string ⟨#[]⟩) w := by
  rw [run_convert_bytes_string w 44 9 5 none 0 0 Tryz.underlying44 Tryz.underlying5 Tryz.underlying9]
  simp [Conv.bytesToString]
  rfl
theorem conv_held {B g cap : Nat} {h : List UInt8} {w : World} (k : w.ownsRow B 5 1 (.slice (some ⟨g, 0, none⟩) h.length cap) h.length (Lib.byteCells h)) : (convert 44 9 (.slice (some ⟨g, 0, none⟩) h.length cap)).run Tryz.prog w = .ok (.string ⟨h.toArray⟩) w :=
  run_convert_bytes_back w 44 9 5 ⟨g, 0, none⟩ cap h Tryz.underlying44 Tryz.underlying5 Tryz.underlying9 fun j hj => by
    have hadd : (⟨g, 0, none⟩ : Addr).add j = ⟨g, j, none⟩ := by unfold Addr.add; split <;> simp_all
    rw [hadd, World.ownsRow.cellAt k j (by omega), byte_get h j hj]
theorem rdr_put {r : Nat} {w : World} {ao : Option Addr} {n cap : Nat} {t : Bool} {e : Int} (v : Value) (k1 : w.heap[r]? = some (.cells #[.slice ao n cap, .bool t, .int .i64 e] 84 (0, 0))) :
    (w.setCell ⟨r, 0, none⟩ v).heap[r]? = some (.cells #[v, .bool t, .int .i64 e] 84 (0, 0)) := by
  have hlt := lt_of_heap k1
  have h' : w.heap[r] = .cells #[.slice ao n cap, .bool t, .int .i64 e] 84 (0, 0) := by simpa [Array.getElem?_eq_getElem hlt] using k1
  show (w.heap.modify r _)[r]? = _
  rw [Array.getElem?_eq_getElem (by simpa using hlt), Array.getElem_modify_self, h']
  rfl
theorem fr_set (B r : Nat) (w : World) (o : Nat) (v : Value) (hB : B ≤ r) : Fr B r w (w.setCell ⟨r, o, none⟩ v) :=
  ⟨(Below.refl B w).setCell (p := ⟨r, o, none⟩) hB v, fun k _ h1 h2 _ => (Below.heap_setCell w ⟨r, o, none⟩ v k h2).trans h1⟩
/-- A row of bytes is not the reader's own block. -/
theorem bytes_ne {B r : Nat} {w : World} {v : Value} {n : Nat} {xs : List Value} {cs : Array Value} (k2 : w.ownsRow B 5 1 v n xs) (k1 : w.heap[r]? = some (.cells cs 84 (0, 0))) : v.ownBlock ≠ some r := by
  intro e
  rcases k2.2 with ⟨h1, _⟩ | ⟨g, cap, cur, h1, _, h3, _⟩
  · rw [h1] at e
    simp [Value.ownBlock] at e
  · rw [h1] at e
    simp [Value.ownBlock] at e
    subst e
    rw [k1] at h3
    have := (Obj.cells.inj (Option.some.inj h3)).2.1
    simp at this
theorem owns_zero {B g n cap : Nat} {e : TypeId} {xs : List Value} {w : World} (k : w.ownsRow B e 1 (.slice (some ⟨g, 0, none⟩) n cap) n xs) : w.ownsRow B e 1 (.slice (some ⟨g, 0, none⟩) 0 cap) 0 [] := by
  rcases k.2 with ⟨h1, _⟩ | ⟨g', cap', cur, h1, h2, h3, _, h5, h6, _⟩
  · simp at h1
  · obtain ⟨e1, _, rfl⟩ := Value.slice.inj h1
    cases e1
    exact ⟨rfl, .inr ⟨_, _, cur, rfl, h2, h3, Nat.zero_le _, h5, h6, by simp⟩⟩
set_option maxHeartbeats 400000 in
theorem take_any (B r : Nat) (h : List UInt8) (t : Bool) (e : Int) (w : World) (k : RdrAt B r h t e w) : Calls Tryz.prog 53 #[.pointer (some ⟨r, 0, none⟩)] w fun e' w' => e' = .returned (.string ⟨h.toArray⟩) ∧ RdrAt B r [] t e w' ∧ Fr B r w w' := by
  obtain ⟨ao, n, cap, k1, k2⟩ := k.at_
  have hBr := k.base
  obtain rfl := owns_n k2
  have c0 : w.cell? ⟨r, 0, none⟩ = some (.slice ao h.length cap) := by rw [Lib.cell_of_heap k1]; rfl
  have f0 : w.frozen? ⟨r, 0, none⟩ = false := Lib.frozen_of_heap k1 0
  rcases k2.2 with ⟨h1, h2⟩ | ⟨g, cap', cur, h1, _, h3, h4, _⟩
  · obtain ⟨rfl, _, rfl⟩ := Value.slice.inj h1
    obtain rfl := List.eq_nil_of_length_eq_zero h2
    have hcv := conv_nil w
    have K : Hid _ := k1
    clear k2 k k1 h1 h2
    go_enter Tryz.func53, Tryz.ntmps53
    go_wp2
    go_ret
    exact ⟨rfl, ⟨hBr, none, 0, 0, rdr_put _ K.out, World.ownsRow_nil _ _ _ _⟩, fr_set B r w 0 _ hBr⟩
  · obtain ⟨rfl, _, rfl⟩ := Value.slice.inj h1
    have hcv := conv_held k2
    have K : Hid _ := k1
    have K2 : Hid _ := k2
    clear k2 k k1 h1 h3
    go_enter Tryz.func53, Tryz.ntmps53
    go_wp2
    go_ret
    exact ⟨rfl, ⟨hBr, _, 0, cap, rdr_put _ K.out, ownsRow_setCell_other (owns_zero K2.out) (bytes_ne (owns_zero K2.out) K.out) _⟩, fr_set B r w 0 _ hBr⟩
end Go.Proofs.YthekdgnikkjpdaaGreatDoor
