/-
  The contracts of signs.textFor and standInAt over this program.
-/
import Derived.Test.YthekdgnikkjpdaaGreatDoorWalke
namespace Go.Proofs.YthekdgnikkjpdaaGreatDoor
open Go.RowKit
theorem size61 : (Tryz.prog.info? 106).map (·.size) = some standCells.size := by kernel_rfl
theorem idx0 (w : World) : (Instr.index 106 (.agg standCells) (.int .i64 0)).run Tryz.prog w = .ok (.agg #[.int .i32 38, .string ⟨#[38, 97, 109, 112, 59]⟩]) w := by kernel_rfl
theorem idx1 (w : World) : (Instr.index 106 (.agg standCells) (.int .i64 1)).run Tryz.prog w = .ok (.agg #[.int .i32 60, .string ⟨#[38, 108, 116, 59]⟩]) w := by kernel_rfl
theorem idx2 (w : World) : (Instr.index 106 (.agg standCells) (.int .i64 2)).run Tryz.prog w = .ok (.agg #[.int .i32 62, .string ⟨#[38, 103, 116, 59]⟩]) w := by kernel_rfl
theorem idx3 (w : World) : (Instr.index 106 (.agg standCells) (.int .i64 3)).run Tryz.prog w = .ok (.agg #[.int .i32 34, .string ⟨#[38, 113, 117, 111, 116, 59]⟩]) w := by kernel_rfl
theorem idx4 (w : World) : (Instr.index 106 (.agg standCells) (.int .i64 4)).run Tryz.prog w = .ok (.agg #[.int .i32 39, .string ⟨#[38, 97, 112, 111, 115, 59]⟩]) w := by kernel_rfl
def textI (r : Int) : ByteArray × Bool :=
  if r = 38 then (⟨#[38, 97, 109, 112, 59]⟩, true) else if r = 60 then (⟨#[38, 108, 116, 59]⟩, true) else if r = 62 then (⟨#[38, 103, 116, 59]⟩, true)
  else if r = 34 then (⟨#[38, 113, 117, 111, 116, 59]⟩, true) else if r = 39 then (⟨#[38, 97, 112, 111, 115, 59]⟩, true) else (⟨#[]⟩, false)
theorem ret_text {a b : ByteArray × Bool} (h : a = b) : Ending.returned (.tuple #[.string a.1, .bool a.2]) = .returned (.tuple #[.string b.1, .bool b.2]) := by rw [h]
set_option maxHeartbeats 1000000 in
theorem textFor_any (r : Int) (w : World) (hT : Tabs w) :
    Calls Tryz.prog 45 #[.int .i32 r] w fun e w' => e = .returned (.tuple #[.string (textI r).1, .bool (textI r).2]) ∧ Below w.heap.size w w' := by
  obtain ⟨t, fr, hst⟩ := hT.st
  clear hT
  have i0 := idx0; have i1 := idx1; have i2 := idx2; have i3 := idx3; have i4 := idx4
  go_enter Tryz.func45, Tryz.ntmps45
  go_wp2_with (refine wpList_load_row rfl 106 _ rfl 0 rfl t standCells fr _ hst Tryz.underlying106 rfl size61 ?_)
  go_loopw [7] (fun i wr => ∃ k : Nat, k ≤ 5 ∧ i = .int .i64 k ∧ Below w.heap.size w wr ∧ (1 ≤ k → r ≠ 38) ∧ (2 ≤ k → r ≠ 60) ∧ (3 ≤ k → r ≠ 62) ∧ (4 ≤ k → r ≠ 34) ∧ (5 ≤ k → r ≠ 39)) (fun i _ => 5 - (intOf i).toNat)
  case atStart => exact ⟨0, by omega, rfl, Below.refl _ _, by omega, by omega, by omega, by omega, by omega⟩
  case round =>
    obtain ⟨k, hk, rfl, hbw, n1, n2, n3, n4, n5⟩ := hrel
    have hsz := hbw.size
    have hb2 : ∀ o, Below w.heap.size w (wr.alloc o) := fun o => hbw.alloc hsz o
    have hk' : k = 0 ∨ k = 1 ∨ k = 2 ∨ k = 3 ∨ k = 4 ∨ k = 5 := by omega
    rcases hk' with rfl | rfl | rfl | rfl | rfl | rfl
    · by_cases hr : r = 38
      · subst hr
        clear n1 n2 n3 n4 n5 hk
        go_wp2
        go_ret2
        exact ⟨rfl, hb2 _⟩
      · have e : ((38 : Int) == r) = false := by simp; omega
        have HN : Hid _ := (⟨n1, n2, n3, n4, n5⟩ : _ ∧ _ ∧ _ ∧ _ ∧ _)
        have HR : Hid _ := hr
        clear n1 n2 n3 n4 n5 hk hr
        go_wp2
        go_roundw
        case rel =>
          obtain ⟨n1, n2, n3, n4, n5⟩ := HN.out
          exact ⟨1, by omega, rfl, hb2 _, fun _ => HR.out, by omega, by omega, by omega, by omega⟩
        case measure => simp [intOf]
    · by_cases hr : r = 60
      · subst hr
        clear n1 n2 n3 n4 n5 hk
        go_wp2
        go_ret2
        exact ⟨rfl, hb2 _⟩
      · have e : ((60 : Int) == r) = false := by simp; omega
        have HN : Hid _ := (⟨n1, n2, n3, n4, n5⟩ : _ ∧ _ ∧ _ ∧ _ ∧ _)
        have HR : Hid _ := hr
        clear n1 n2 n3 n4 n5 hk hr
        go_wp2
        go_roundw
        case rel =>
          obtain ⟨n1, n2, n3, n4, n5⟩ := HN.out
          exact ⟨2, by omega, rfl, hb2 _, by omega, fun _ => HR.out, by omega, by omega, by omega⟩
        case measure => simp [intOf]
    · by_cases hr : r = 62
      · subst hr
        clear n1 n2 n3 n4 n5 hk
        go_wp2
        go_ret2
        exact ⟨rfl, hb2 _⟩
      · have e : ((62 : Int) == r) = false := by simp; omega
        have HN : Hid _ := (⟨n1, n2, n3, n4, n5⟩ : _ ∧ _ ∧ _ ∧ _ ∧ _)
        have HR : Hid _ := hr
        clear n1 n2 n3 n4 n5 hk hr
        go_wp2
        go_roundw
        case rel =>
          obtain ⟨n1, n2, n3, n4, n5⟩ := HN.out
          exact ⟨3, by omega, rfl, hb2 _, by omega, by omega, fun _ => HR.out, by omega, by omega⟩
        case measure => simp [intOf]
    · by_cases hr : r = 34
      · subst hr
        clear n1 n2 n3 n4 n5 hk
        go_wp2
        go_ret2
        exact ⟨rfl, hb2 _⟩
      · have e : ((34 : Int) == r) = false := by simp; omega
        have HN : Hid _ := (⟨n1, n2, n3, n4, n5⟩ : _ ∧ _ ∧ _ ∧ _ ∧ _)
        have HR : Hid _ := hr
        clear n1 n2 n3 n4 n5 hk hr
        go_wp2
        go_roundw
        case rel =>
          obtain ⟨n1, n2, n3, n4, n5⟩ := HN.out
          exact ⟨4, by omega, rfl, hb2 _, by omega, by omega, by omega, fun _ => HR.out, by omega⟩
        case measure => simp [intOf]
    · by_cases hr : r = 39
      · subst hr
        clear n1 n2 n3 n4 n5 hk
        go_wp2
        go_ret2
        exact ⟨rfl, hb2 _⟩
      · have e : ((39 : Int) == r) = false := by simp; omega
        have HN : Hid _ := (⟨n1, n2, n3, n4, n5⟩ : _ ∧ _ ∧ _ ∧ _ ∧ _)
        have HR : Hid _ := hr
        clear n1 n2 n3 n4 n5 hk hr
        go_wp2
        go_roundw
        case rel =>
          obtain ⟨n1, n2, n3, n4, n5⟩ := HN.out
          exact ⟨5, by omega, rfl, hb2 _, by omega, by omega, by omega, by omega, fun _ => HR.out⟩
        case measure => simp [intOf]
    · have e : textI r = (⟨#[]⟩, false) := by
        unfold textI
        rw [if_neg (n1 (by omega)), if_neg (n2 (by omega)), if_neg (n3 (by omega)), if_neg (n4 (by omega)), if_neg (n5 (by omega))]
      have HE : Hid _ := e
      clear n1 n2 n3 n4 n5 hk e
      go_wp2
      go_ret2
      exact ⟨ret_text (a := (⟨#[]⟩, false)) HE.out.symm, hbw⟩
end Go.Proofs.YthekdgnikkjpdaaGreatDoor

/-
  The contract of signs.standInAt over this program.
-/
namespace Go.Proofs.YthekdgnikkjpdaaGreatDoor
open Go.RowKit
theorem prefix_at (s p : ByteArray) (b : Bool) (hb : Lib.hasPrefix s.data.toList p.data.toList = b) (w : World) : Calls Tryz.prog 62 #[.string s, .string p] w fun e w' => e = .returned (.bool b) ∧ w' = w := by
  have h := Tryz.strings_HasPrefix s p w
  rw [hb] at h
  exact h
def standI (l : List UInt8) : Int × ByteArray × Bool :=
  if Lib.hasPrefix l [38, 97, 109, 112, 59] then (38, ⟨#[38, 97, 109, 112, 59]⟩, true) else if Lib.hasPrefix l [38, 108, 116, 59] then (60, ⟨#[38, 108, 116, 59]⟩, true) else if Lib.hasPrefix l [38, 103, 116, 59] then (62, ⟨#[38, 103, 116, 59]⟩, true)
  else if Lib.hasPrefix l [38, 113, 117, 111, 116, 59] then (34, ⟨#[38, 113, 117, 111, 116, 59]⟩, true) else if Lib.hasPrefix l [38, 97, 112, 111, 115, 59] then (39, ⟨#[38, 97, 112, 111, 115, 59]⟩, true) else (0, ⟨#[]⟩, false)
theorem ret_stand {a b : Int × ByteArray × Bool} (h : a = b) : Ending.returned (.tuple #[.agg #[.int .i32 a.1, .string a.2.1], .bool a.2.2]) = .returned (.tuple #[.agg #[.int .i32 b.1, .string b.2.1], .bool b.2.2]) := by rw [h]
set_option maxHeartbeats 1000000 in
theorem standInAt_any (s : ByteArray) (w : World) (hT : Tabs w) :
    Calls Tryz.prog 78 #[.string s] w fun e w' => e = .returned (.tuple #[.agg #[.int .i32 (standI s.data.toList).1, .string (standI s.data.toList).2.1], .bool (standI s.data.toList).2.2]) ∧ Below w.heap.size w w' := by
  have hT3 := hT.size
  obtain ⟨t, fr, hst⟩ := hT.st
  clear hT
  have hst2 : ∀ o, (w.alloc o).heap[0]? = some (.cells standCells t fr) := fun o => by rw [Below.heap_alloc w o 0 (by omega)]; exact hst
  have i0 := idx0; have i1 := idx1; have i2 := idx2; have i3 := idx3; have i4 := idx4
  go_enter Tryz.func78, Tryz.ntmps78
  go_wp2_with (refine wpList_load_row rfl 106 _ rfl 0 rfl t standCells fr _ (hst2 _) Tryz.underlying106 rfl size61 ?_)
  go_loopw [7] (fun i wr => ∃ k : Nat, k ≤ 5 ∧ i = .int .i64 k ∧ Below w.heap.size w wr ∧ wr.heap[w.heap.size]? = some (.cells #[.int .i32 0, .string ⟨#[]⟩] 105 (0, 0)) ∧
      (1 ≤ k → Lib.hasPrefix s.data.toList [38, 97, 109, 112, 59] = false) ∧ (2 ≤ k → Lib.hasPrefix s.data.toList [38, 108, 116, 59] = false) ∧ (3 ≤ k → Lib.hasPrefix s.data.toList [38, 103, 116, 59] = false) ∧
      (4 ≤ k → Lib.hasPrefix s.data.toList [38, 113, 117, 111, 116, 59] = false) ∧ (5 ≤ k → Lib.hasPrefix s.data.toList [38, 97, 112, 111, 115, 59] = false)) (fun i _ => 5 - (intOf i).toNat)
  case atStart =>
    refine ⟨0, by omega, rfl, (Below.refl _ w).alloc (Nat.le_refl _) _, ?_, by omega, by omega, by omega, by omega, by omega⟩
    exact Array.getElem?_push_size
  case round =>
    obtain ⟨k, hk, rfl, hbw, hres, n1, n2, n3, n4, n5⟩ := hrel
    have hsz : w.heap.size < wr.heap.size := (Array.getElem?_eq_some_iff.1 hres).1
    have hb2 : ∀ o, Below w.heap.size w (wr.alloc o) := fun o => hbw.alloc (by omega) o
    have hres2 : ∀ o, (wr.alloc o).heap[w.heap.size]? = some (.cells #[.int .i32 0, .string ⟨#[]⟩] 105 (0, 0)) := fun o => by rw [Below.heap_alloc wr o w.heap.size hsz]; exact hres
    have c0 : wr.cell? ⟨w.heap.size, 0, none⟩ = some (.int .i32 0) := by rw [Lib.cell_of_heap hres]; rfl
    have c1 : wr.cell? ⟨w.heap.size, 1, none⟩ = some (.string ⟨#[]⟩) := by rw [Lib.cell_of_heap hres]; rfl
    have f0 : wr.frozen? ⟨w.heap.size, 0, none⟩ = false := Lib.frozen_of_heap hres 0
    have f1 : wr.frozen? ⟨w.heap.size, 1, none⟩ = false := Lib.frozen_of_heap hres 1
    have hk' : k = 0 ∨ k = 1 ∨ k = 2 ∨ k = 3 ∨ k = 4 ∨ k = 5 := by omega
    rcases hk' with rfl | rfl | rfl | rfl | rfl | rfl
    · cases hr : Lib.hasPrefix s.data.toList [38, 97, 109, 112, 59] with
      | true =>
        have hp := prefix_at s ⟨#[38, 97, 109, 112, 59]⟩ true hr
        have HE : Hid (standI s.data.toList = (38, ⟨#[38, 97, 109, 112, 59]⟩, true)) := by
          show _ = _
          unfold standI
          rw [if_pos hr]
        clear n1 n2 n3 n4 n5 hk hr hres
        go_wp2_with (go_at_call 62; refine (hp _).mono ?_; rintro e w' ⟨rfl, rfl⟩)
        refine bodyPost_ret (v := .tuple #[.agg #[.int .i32 38, .string ⟨#[38, 97, 109, 112, 59]⟩], .bool true]) (by simp [results, Tryz.results78, go_sem, hsz, c0, c1]) rfl ⟨ret_stand (a := (38, ⟨#[38, 97, 109, 112, 59]⟩, true)) HE.out.symm, ?_⟩
        exact ((hbw.setCell (p := ⟨w.heap.size, 0, none⟩) (Nat.le_refl _) _).setCell (p := ⟨w.heap.size, 1, none⟩) (Nat.le_refl _) _).alloc (by simp; omega) _
      | false =>
        have hp := prefix_at s ⟨#[38, 97, 109, 112, 59]⟩ false hr
        have HN : Hid _ := (⟨n1, n2, n3, n4, n5⟩ : _ ∧ _ ∧ _ ∧ _ ∧ _)
        clear n1 n2 n3 n4 n5 hk hr hres
        go_wp2_with (go_at_call 62; refine (hp _).mono ?_; rintro e w' ⟨rfl, rfl⟩)
        go_roundw
        case rel =>
          obtain ⟨n1, n2, n3, n4, n5⟩ := HN.out
          exact ⟨1, by omega, rfl, hb2 _, hres2 _, fun _ => trivial, by omega, by omega, by omega, by omega⟩
        case measure => simp [intOf]
    · cases hr : Lib.hasPrefix s.data.toList [38, 108, 116, 59] with
      | true =>
        have hp := prefix_at s ⟨#[38, 108, 116, 59]⟩ true hr
        have HE : Hid (standI s.data.toList = (60, ⟨#[38, 108, 116, 59]⟩, true)) := by
          show _ = _
          unfold standI
          rw [if_neg (by rw [n1 (by omega)]; decide), if_pos hr]
        clear n1 n2 n3 n4 n5 hk hr hres
        go_wp2_with (go_at_call 62; refine (hp _).mono ?_; rintro e w' ⟨rfl, rfl⟩)
        refine bodyPost_ret (v := .tuple #[.agg #[.int .i32 60, .string ⟨#[38, 108, 116, 59]⟩], .bool true]) (by simp [results, Tryz.results78, go_sem, hsz, c0, c1]) rfl ⟨ret_stand (a := (60, ⟨#[38, 108, 116, 59]⟩, true)) HE.out.symm, ?_⟩
        exact ((hbw.setCell (p := ⟨w.heap.size, 0, none⟩) (Nat.le_refl _) _).setCell (p := ⟨w.heap.size, 1, none⟩) (Nat.le_refl _) _).alloc (by simp; omega) _
      | false =>
        have hp := prefix_at s ⟨#[38, 108, 116, 59]⟩ false hr
        have HN : Hid _ := (⟨n1, n2, n3, n4, n5⟩ : _ ∧ _ ∧ _ ∧ _ ∧ _)
        clear n1 n2 n3 n4 n5 hk hr hres
        go_wp2_with (go_at_call 62; refine (hp _).mono ?_; rintro e w' ⟨rfl, rfl⟩)
        go_roundw
        case rel =>
          obtain ⟨n1, n2, n3, n4, n5⟩ := HN.out
          exact ⟨2, by omega, rfl, hb2 _, hres2 _, fun _ => n1 (by omega), fun _ => trivial, by omega, by omega, by omega⟩
        case measure => simp [intOf]
    · cases hr : Lib.hasPrefix s.data.toList [38, 103, 116, 59] with
      | true =>
        have hp := prefix_at s ⟨#[38, 103, 116, 59]⟩ true hr
        have HE : Hid (standI s.data.toList = (62, ⟨#[38, 103, 116, 59]⟩, true)) := by
          show _ = _
          unfold standI
          rw [if_neg (by rw [n1 (by omega)]; decide), if_neg (by rw [n2 (by omega)]; decide), if_pos hr]
        clear n1 n2 n3 n4 n5 hk hr hres
        go_wp2_with (go_at_call 62; refine (hp _).mono ?_; rintro e w' ⟨rfl, rfl⟩)
        refine bodyPost_ret (v := .tuple #[.agg #[.int .i32 62, .string ⟨#[38, 103, 116, 59]⟩], .bool true]) (by simp [results, Tryz.results78, go_sem, hsz, c0, c1]) rfl ⟨ret_stand (a := (62, ⟨#[38, 103, 116, 59]⟩, true)) HE.out.symm, ?_⟩
        exact ((hbw.setCell (p := ⟨w.heap.size, 0, none⟩) (Nat.le_refl _) _).setCell (p := ⟨w.heap.size, 1, none⟩) (Nat.le_refl _) _).alloc (by simp; omega) _
      | false =>
        have hp := prefix_at s ⟨#[38, 103, 116, 59]⟩ false hr
        have HN : Hid _ := (⟨n1, n2, n3, n4, n5⟩ : _ ∧ _ ∧ _ ∧ _ ∧ _)
        clear n1 n2 n3 n4 n5 hk hr hres
        go_wp2_with (go_at_call 62; refine (hp _).mono ?_; rintro e w' ⟨rfl, rfl⟩)
        go_roundw
        case rel =>
          obtain ⟨n1, n2, n3, n4, n5⟩ := HN.out
          exact ⟨3, by omega, rfl, hb2 _, hres2 _, fun _ => n1 (by omega), fun _ => n2 (by omega), fun _ => trivial, by omega, by omega⟩
        case measure => simp [intOf]
    · cases hr : Lib.hasPrefix s.data.toList [38, 113, 117, 111, 116, 59] with
      | true =>
        have hp := prefix_at s ⟨#[38, 113, 117, 111, 116, 59]⟩ true hr
        have HE : Hid (standI s.data.toList = (34, ⟨#[38, 113, 117, 111, 116, 59]⟩, true)) := by
          show _ = _
          unfold standI
          rw [if_neg (by rw [n1 (by omega)]; decide), if_neg (by rw [n2 (by omega)]; decide), if_neg (by rw [n3 (by omega)]; decide), if_pos hr]
        clear n1 n2 n3 n4 n5 hk hr hres
        go_wp2_with (go_at_call 62; refine (hp _).mono ?_; rintro e w' ⟨rfl, rfl⟩)
        refine bodyPost_ret (v := .tuple #[.agg #[.int .i32 34, .string ⟨#[38, 113, 117, 111, 116, 59]⟩], .bool true]) (by simp [results, Tryz.results78, go_sem, hsz, c0, c1]) rfl ⟨ret_stand (a := (34, ⟨#[38, 113, 117, 111, 116, 59]⟩, true)) HE.out.symm, ?_⟩
        exact ((hbw.setCell (p := ⟨w.heap.size, 0, none⟩) (Nat.le_refl _) _).setCell (p := ⟨w.heap.size, 1, none⟩) (Nat.le_refl _) _).alloc (by simp; omega) _
      | false =>
        have hp := prefix_at s ⟨#[38, 113, 117, 111, 116, 59]⟩ false hr
        have HN : Hid _ := (⟨n1, n2, n3, n4, n5⟩ : _ ∧ _ ∧ _ ∧ _ ∧ _)
        clear n1 n2 n3 n4 n5 hk hr hres
        go_wp2_with (go_at_call 62; refine (hp _).mono ?_; rintro e w' ⟨rfl, rfl⟩)
        go_roundw
        case rel =>
          obtain ⟨n1, n2, n3, n4, n5⟩ := HN.out
          exact ⟨4, by omega, rfl, hb2 _, hres2 _, fun _ => n1 (by omega), fun _ => n2 (by omega), fun _ => n3 (by omega), fun _ => trivial, by omega⟩
        case measure => simp [intOf]
    · cases hr : Lib.hasPrefix s.data.toList [38, 97, 112, 111, 115, 59] with
      | true =>
        have hp := prefix_at s ⟨#[38, 97, 112, 111, 115, 59]⟩ true hr
        have HE : Hid (standI s.data.toList = (39, ⟨#[38, 97, 112, 111, 115, 59]⟩, true)) := by
          show _ = _
          unfold standI
          rw [if_neg (by rw [n1 (by omega)]; decide), if_neg (by rw [n2 (by omega)]; decide), if_neg (by rw [n3 (by omega)]; decide), if_neg (by rw [n4 (by omega)]; decide), if_pos hr]
        clear n1 n2 n3 n4 n5 hk hr hres
        go_wp2_with (go_at_call 62; refine (hp _).mono ?_; rintro e w' ⟨rfl, rfl⟩)
        refine bodyPost_ret (v := .tuple #[.agg #[.int .i32 39, .string ⟨#[38, 97, 112, 111, 115, 59]⟩], .bool true]) (by simp [results, Tryz.results78, go_sem, hsz, c0, c1]) rfl ⟨ret_stand (a := (39, ⟨#[38, 97, 112, 111, 115, 59]⟩, true)) HE.out.symm, ?_⟩
        exact ((hbw.setCell (p := ⟨w.heap.size, 0, none⟩) (Nat.le_refl _) _).setCell (p := ⟨w.heap.size, 1, none⟩) (Nat.le_refl _) _).alloc (by simp; omega) _
      | false =>
        have hp := prefix_at s ⟨#[38, 97, 112, 111, 115, 59]⟩ false hr
        have HN : Hid _ := (⟨n1, n2, n3, n4, n5⟩ : _ ∧ _ ∧ _ ∧ _ ∧ _)
        clear n1 n2 n3 n4 n5 hk hr hres
        go_wp2_with (go_at_call 62; refine (hp _).mono ?_; rintro e w' ⟨rfl, rfl⟩)
        go_roundw
        case rel =>
          obtain ⟨n1, n2, n3, n4, n5⟩ := HN.out
          exact ⟨5, by omega, rfl, hb2 _, hres2 _, fun _ => n1 (by omega), fun _ => n2 (by omega), fun _ => n3 (by omega), fun _ => n4 (by omega), fun _ => trivial⟩
        case measure => simp [intOf]
    · have HE : Hid (standI s.data.toList = (0, ⟨#[]⟩, false)) := by
        show _ = _
        unfold standI
        rw [if_neg (by rw [n1 (by omega)]; decide), if_neg (by rw [n2 (by omega)]; decide), if_neg (by rw [n3 (by omega)]; decide), if_neg (by rw [n4 (by omega)]; decide), if_neg (by rw [n5 (by omega)]; decide)]
      clear n1 n2 n3 n4 n5 hk hres
      go_wp2
      refine bodyPost_ret (v := .tuple #[.agg #[.int .i32 0, .string ⟨#[]⟩], .bool false]) (by simp [results, Tryz.results78, go_sem, c0, c1]) rfl ⟨ret_stand (a := (0, ⟨#[]⟩, false)) HE.out.symm, ?_⟩
      exact (hbw.setCell (p := ⟨w.heap.size, 0, none⟩) (Nat.le_refl _) _).setCell (p := ⟨w.heap.size, 1, none⟩) (Nat.le_refl _) _
end Go.Proofs.YthekdgnikkjpdaaGreatDoor
