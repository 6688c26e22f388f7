/-
  A side and what it says, plain; blocks of one's own behind calls; the contract of Right over this program.
-/
import Derived.Test.YtojeeopmhogolaaDoorPca
import Derived.Lib.QuietBelow
namespace Go.Proofs.YtojeeopmhogolaaDoor
open Go Go.RowKit Go.Sort
def okN (p q a b : Bool) : Bool := !(a && p) && !(b && q)
/-- A block of so many cells, that may be written. -/
def Blk (g : Nat) (xs : Array Value) (T : TypeId) (w : World) : Prop := w.heap[g]? = some (.cells xs T (0, 0))
theorem Blk.lt {g : Nat} {xs : Array Value} {T : TypeId} {w : World} (h : Blk g xs T w) : g < w.heap.size := (Array.getElem?_eq_some_iff.1 h).1
theorem Blk.below {g : Nat} {xs : Array Value} {T : TypeId} {w w' : World} (h : Blk g xs T w) (hb : Below w.heap.size w w') : Blk g xs T w' := (hb.block g h.lt).trans h
theorem Blk.cell {g : Nat} {xs : Array Value} {T : TypeId} {w : World} (h : Blk g xs T w) (i : Nat) : w.cell? ⟨g, i, none⟩ = xs[i]? := by
  unfold Blk at h
  simp [World.cell?, h]
theorem Blk.fz {g : Nat} {xs : Array Value} {T : TypeId} {w : World} (h : Blk g xs T w) (i : Nat) : w.frozen? ⟨g, i, none⟩ = false := by
  unfold Blk at h
  simp [World.frozen?, h]
theorem Blk.new (w : World) (xs : Array Value) (T : TypeId) : Blk w.heap.size xs T (w.alloc (.cells xs T (0, 0))) := heap_alloc_new w _
theorem Blk.new1 (w : World) (xs : Array Value) (T : TypeId) (o : Obj) : Blk w.heap.size xs T ((w.alloc (.cells xs T (0, 0))).alloc o) := (Blk.new w xs T).below (bw0 _ _)
theorem blk3 {g : Nat} {x y z : Value} {T : TypeId} {w : World} (h : Blk g #[x, y, z] T w) :
    w.cell? ⟨g, 0, none⟩ = some x ∧ w.cell? ⟨g, 1, none⟩ = some y ∧ w.cell? ⟨g, 2, none⟩ = some z ∧ w.frozen? ⟨g, 0, none⟩ = false ∧ w.frozen? ⟨g, 1, none⟩ = false ∧ w.frozen? ⟨g, 2, none⟩ = false :=
  ⟨h.cell 0, h.cell 1, h.cell 2, h.fz 0, h.fz 1, h.fz 2⟩
theorem blk5 {g : Nat} {x y z u v : Value} {T : TypeId} {w : World} (h : Blk g #[x, y, z, u, v] T w) :
    w.cell? ⟨g, 0, none⟩ = some x ∧ w.cell? ⟨g, 1, none⟩ = some y ∧ w.cell? ⟨g, 2, none⟩ = some z ∧ w.cell? ⟨g, 3, none⟩ = some u ∧ w.cell? ⟨g, 4, none⟩ = some v ∧ w.frozen? ⟨g, 0, none⟩ = false ∧ w.frozen? ⟨g, 1, none⟩ = false ∧ w.frozen? ⟨g, 2, none⟩ = false ∧ w.frozen? ⟨g, 3, none⟩ = false ∧ w.frozen? ⟨g, 4, none⟩ = false :=
  ⟨h.cell 0, h.cell 1, h.cell 2, h.cell 3, h.cell 4, h.fz 0, h.fz 1, h.fz 2, h.fz 3, h.fz 4⟩
set_option maxHeartbeats 4000000 in
theorem right_any (p q a b : Bool) (w : World) : Calls Tryd.prog 13 #[.agg #[.int .i64 (subN p q), .bool a, .bool b]] w fun e w' => e = .returned (.bool (okN p q a b)) ∧ Below w.heap.size w w' := by
  have H1 := sees_any p q a b
  have H2 := seen_any p q a b
  have HB0 : Hid (Blk w.heap.size #[.int .i64 (subN p q), .bool a, .bool b] 23 (w.alloc (.cells #[.int .i64 (subN p q), .bool a, .bool b] 23))) := Blk.new _ _ _
  have HW0 : Hid (Below w.heap.size w (w.alloc (.cells #[.int .i64 (subN p q), .bool a, .bool b] 23))) := bw0 _ _
  cases p <;> cases q <;> cases a <;> cases b <;>
  · simp only [subN, okN] at H1 H2 HB0 HW0 ⊢
    go_enter Tryd.func13, Tryd.ntmps13
    go_wp2_with (first
      | (go_at_call 14; refine (H1 _).mono ?_; rintro e w1 ⟨rfl, hb1⟩; replace HW0 : Hid (Below w.heap.size w w1) := HW0.out.trans (hb1.mono HW0.out.size); replace HB0 : Hid (Blk w.heap.size _ 23 w1) := HB0.out.below hb1; obtain ⟨d0, d1, d2, _⟩ := blk3 HB0.out; clear hb1)
      | (go_at_call 15; refine (H2 _).mono ?_; rintro e w1 ⟨rfl, hb1⟩; replace HW0 : Hid (Below w.heap.size w w1) := HW0.out.trans (hb1.mono HW0.out.size); replace HB0 : Hid (Blk w.heap.size _ 23 w1) := HB0.out.below hb1; obtain ⟨d0, d1, d2, _⟩ := blk3 HB0.out; clear hb1))
    go_ret
    exact ⟨rfl, HW0.out⟩

end Go.Proofs.YtojeeopmhogolaaDoor
