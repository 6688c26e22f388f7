/-
  The contracts of elem (of empty values), slices.Equal of empty slices, Same of a plain presence, over this program.
-/
import Derived.Test.YtmmkfpeckfmjeaaDoorTxj
namespace Go.Proofs.YtmmkfpeckfmjeaaDoor
open Go Go.RowKit Go.Maps Go.Sort
/-- Four cells stored into a block. -/
theorem store4 {r : Nat} {w2 : World} {x0 x1 x2 x3 : Value} {T : TypeId} (y0 y1 y2 y3 : Value) (hA : At r #[x0, x1, x2, x3] T w2) :
    ∃ w3, ((((w2.setCell ⟨r, 0, none⟩ y0).setCell ⟨r, 1, none⟩ y1).setCell ⟨r, 2, none⟩ y2).setCell ⟨r, 3, none⟩ y3) = w3 ∧ At r #[y0, y1, y2, y3] T w3 ∧ (∀ n w, n ≤ r → RowKit.Below n w w2 → RowKit.Below n w w3) := by
  have h0 : At r #[y0, x1, x2, x3] T _ := At.set hA 0 y0
  have h1 : At r #[y0, y1, x2, x3] T _ := At.set h0 1 y1
  have h2 : At r #[y0, y1, y2, x3] T _ := At.set h1 2 y2
  have h3 : At r #[y0, y1, y2, y3] T _ := At.set h2 3 y3
  exact ⟨_, rfl, h3, fun n w hn hb => (((hb.setCell hn _).setCell hn _).setCell hn _).setCell hn _⟩
set_option maxHeartbeats 4000000 in
set_option maxRecDepth 100000 in
/-- No attribute is told where each value is empty: three names. -/
theorem elem_none (nm : ByteArray) (g : Nat) (t1 t2 t3 : ByteArray) (w : World) (hr : At g #[.string t1, .string ⟨#[]⟩, .string t2, .string ⟨#[]⟩, .string t3, .string ⟨#[]⟩] 9 w) :
    Calls Tryd.prog 29 #[.string nm, .slice (some ⟨g, 0, none⟩) 6 6] w fun e w' => e = .returned (.agg #[.string nm, .slice none 0 0, .string ⟨#[]⟩, .slice none 0 0]) ∧ Below w.heap.size w w' := by
  have k1 : ∀ o1 o2, ((w.alloc o1).alloc o2).cell? ⟨g, 1, none⟩ = some (.string ⟨#[]⟩) := fun o1 o2 => by rw [Lib.cell_of_heap ((hr.alloc o1).alloc o2)]; rfl
  have k3 : ∀ o1 o2, ((w.alloc o1).alloc o2).cell? ⟨g, 3, none⟩ = some (.string ⟨#[]⟩) := fun o1 o2 => by rw [Lib.cell_of_heap ((hr.alloc o1).alloc o2)]; rfl
  have k5 : ∀ o1 o2, ((w.alloc o1).alloc o2).cell? ⟨g, 5, none⟩ = some (.string ⟨#[]⟩) := fun o1 o2 => by rw [Lib.cell_of_heap ((hr.alloc o1).alloc o2)]; rfl
  have h2b : Hid (∀ o1 o2, Below w.heap.size w ((w.alloc o1).alloc o2)) := fun o1 o2 => (bw0 w o1).alloc (by simp) o2
  clear hr
  go_enter Tryd.func29, Tryd.ntmps29
  go_wp2_with fail
  obtain ⟨W0, hW0⟩ : ∃ W0, (w.alloc (.cells #[.string ⟨#[]⟩, .slice none 0 0, .string ⟨#[]⟩, .slice none 0 0] 29)).alloc (.cells #[.string nm, .slice none 0 0, .string ⟨#[]⟩, .slice none 0 0] 29) = W0 := ⟨_, rfl⟩
  have K1 := k1 (.cells #[.string ⟨#[]⟩, .slice none 0 0, .string ⟨#[]⟩, .slice none 0 0] 29) (.cells #[.string nm, .slice none 0 0, .string ⟨#[]⟩, .slice none 0 0] 29)
  have K3 := k3 (.cells #[.string ⟨#[]⟩, .slice none 0 0, .string ⟨#[]⟩, .slice none 0 0] 29) (.cells #[.string nm, .slice none 0 0, .string ⟨#[]⟩, .slice none 0 0] 29)
  have K5 := k5 (.cells #[.string ⟨#[]⟩, .slice none 0 0, .string ⟨#[]⟩, .slice none 0 0] 29) (.cells #[.string nm, .slice none 0 0, .string ⟨#[]⟩, .slice none 0 0] 29)
  have HB0 := Lib.hid (h2b.out (.cells #[.string ⟨#[]⟩, .slice none 0 0, .string ⟨#[]⟩, .slice none 0 0] 29) (.cells #[.string nm, .slice none 0 0, .string ⟨#[]⟩, .slice none 0 0] 29))
  have HA0 : Hid (At w.heap.size #[.string ⟨#[]⟩, .slice none 0 0, .string ⟨#[]⟩, .slice none 0 0] 29 ((w.alloc (.cells #[.string ⟨#[]⟩, .slice none 0 0, .string ⟨#[]⟩, .slice none 0 0] 29)).alloc (.cells #[.string nm, .slice none 0 0, .string ⟨#[]⟩, .slice none 0 0] 29))) := At.alloc (heap_alloc_new w _) _
  have HA1 : Hid (At (w.heap.size + 1) #[.string nm, .slice none 0 0, .string ⟨#[]⟩, .slice none 0 0] 29 ((w.alloc (.cells #[.string ⟨#[]⟩, .slice none 0 0, .string ⟨#[]⟩, .slice none 0 0] 29)).alloc (.cells #[.string nm, .slice none 0 0, .string ⟨#[]⟩, .slice none 0 0] 29))) := by
    have : At _ #[.string nm, .slice none 0 0, .string ⟨#[]⟩, .slice none 0 0] 29 _ := heap_alloc_new (w.alloc (.cells #[.string ⟨#[]⟩, .slice none 0 0, .string ⟨#[]⟩, .slice none 0 0] 29)) (.cells #[.string nm, .slice none 0 0, .string ⟨#[]⟩, .slice none 0 0] 29)
    rw [show (w.alloc (.cells #[.string ⟨#[]⟩, .slice none 0 0, .string ⟨#[]⟩, .slice none 0 0] 29)).heap.size = w.heap.size + 1 by simp] at this
    exact this
  rw [hW0] at K1 K3 K5 HB0 HA0 HA1 ⊢
  clear hW0 k1 k3 k5 h2b
  go_loopw [6] (fun i wr => (i = .int .i64 1 ∨ i = .int .i64 3 ∨ i = .int .i64 5 ∨ i = .int .i64 7) ∧ wr = W0) (fun i _ => 8 - (intOf i).toNat)
  case atStart => exact ⟨.inl rfl, rfl⟩
  case round =>
    obtain ⟨hi, rfl⟩ := hrel
    rcases hi with rfl | rfl | rfl | rfl
    · go_wp2_with fail
      go_roundw
      case rel => exact ⟨.inr (.inl rfl), trivial⟩
      case measure => simp [intOf]
    · go_wp2_with fail
      go_roundw
      case rel => exact ⟨.inr (.inr (.inl rfl)), trivial⟩
      case measure => simp [intOf]
    · go_wp2_with fail
      go_roundw
      case rel => exact ⟨.inr (.inr (.inr rfl)), trivial⟩
      case measure => simp [intOf]
    · obtain ⟨c0, c1, c2, c3⟩ : wr.cell? ⟨w.heap.size, 0, none⟩ = some (.string ⟨#[]⟩) ∧ wr.cell? ⟨w.heap.size, 1, none⟩ = some (.slice none 0 0) ∧ wr.cell? ⟨w.heap.size, 2, none⟩ = some (.string ⟨#[]⟩) ∧ wr.cell? ⟨w.heap.size, 3, none⟩ = some (.slice none 0 0) := ⟨by rw [Lib.cell_of_heap HA0.out]; rfl, by rw [Lib.cell_of_heap HA0.out]; rfl, by rw [Lib.cell_of_heap HA0.out]; rfl, by rw [Lib.cell_of_heap HA0.out]; rfl⟩
      obtain ⟨d0, d1, d2, d3⟩ : wr.cell? ⟨w.heap.size + 1, 0, none⟩ = some (.string nm) ∧ wr.cell? ⟨w.heap.size + 1, 1, none⟩ = some (.slice none 0 0) ∧ wr.cell? ⟨w.heap.size + 1, 2, none⟩ = some (.string ⟨#[]⟩) ∧ wr.cell? ⟨w.heap.size + 1, 3, none⟩ = some (.slice none 0 0) := ⟨by rw [Lib.cell_of_heap HA1.out]; rfl, by rw [Lib.cell_of_heap HA1.out]; rfl, by rw [Lib.cell_of_heap HA1.out]; rfl, by rw [Lib.cell_of_heap HA1.out]; rfl⟩
      have fz : ∀ o, wr.frozen? ⟨w.heap.size, o, none⟩ = false := Lib.frozen_of_heap HA0.out
      obtain ⟨w5, hw5, hA5, hb5⟩ := store4 (.string nm) (.slice none 0 0) (.string ⟨#[]⟩) (.slice none 0 0) HA0.out
      have HB5 := Lib.hid (hb5 _ w (Nat.le_refl _) HB0.out)
      obtain ⟨e0, e1, e2, e3⟩ : w5.cell? ⟨w.heap.size, 0, none⟩ = some (.string nm) ∧ w5.cell? ⟨w.heap.size, 1, none⟩ = some (.slice none 0 0) ∧ w5.cell? ⟨w.heap.size, 2, none⟩ = some (.string ⟨#[]⟩) ∧ w5.cell? ⟨w.heap.size, 3, none⟩ = some (.slice none 0 0) := ⟨by rw [Lib.cell_of_heap hA5]; rfl, by rw [Lib.cell_of_heap hA5]; rfl, by rw [Lib.cell_of_heap hA5]; rfl, by rw [Lib.cell_of_heap hA5]; rfl⟩
      clear hA5 hb5
      go_wp2_with fail
      refine bodyPost_ret (v := .agg #[.string nm, .slice none 0 0, .string ⟨#[]⟩, .slice none 0 0]) (by simp [results, Tryd.results29, go_sem, e0, e1, e2, e3]) rfl ⟨rfl, HB5.out⟩
set_option maxHeartbeats 4000000 in
set_option maxRecDepth 100000 in
theorem equal_none (w : World) : Calls Tryd.prog 23 #[.slice none 0 0, .slice none 0 0] w fun e w' => e = .returned (.bool true) ∧ w' = w := by
  go_enter Tryd.func23, Tryd.ntmps23
  go_wp2_with fail
  go_loopw [13] (fun i wr => i = .int .i64 0 ∧ wr = w) (fun _ _ => 0)
  case atStart => exact ⟨rfl, rfl⟩
  case round =>
    obtain ⟨rfl, rfl⟩ := hrel
    go_wp2_with fail
    go_ret
    exact ⟨rfl, rfl⟩
set_option maxHeartbeats 4000000 in
set_option maxRecDepth 100000 in
theorem same_plain (V : ByteArray) (w : World) : Calls Tryd.prog 9 #[.agg (staC 1 ⟨#[]⟩ ⟨#[]⟩ ⟨#[]⟩ ⟨#[]⟩ V ⟨#[]⟩ ⟨#[]⟩ 0 0 false none 0 0), .agg (staC 1 ⟨#[]⟩ ⟨#[]⟩ ⟨#[]⟩ ⟨#[]⟩ V ⟨#[]⟩ ⟨#[]⟩ 0 0 false none 0 0)] w fun e w' => e = .returned (.bool true) ∧ Below w.heap.size w w' := by
  unfold staC
  have h2b : Hid (∀ o1 o2, Below w.heap.size w ((w.alloc o1).alloc o2)) := fun o1 o2 => (bw0 w o1).alloc (by simp) o2
  go_enter Tryd.func9, Tryd.ntmps9
  go_wp2_with fail
  go_at_call 23
  refine (equal_none _).mono ?_
  rintro e w2 ⟨rfl, rfl⟩
  go_wp2_with fail
  go_ret
  exact ⟨rfl, h2b.out _ _⟩
end Go.Proofs.YtmmkfpeckfmjeaaDoor
