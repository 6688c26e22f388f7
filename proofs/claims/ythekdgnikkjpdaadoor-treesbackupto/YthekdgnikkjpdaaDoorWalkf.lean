/-
  The contracts of signs.textFor and standInAt over this program.
-/
import Derived.Test.YthekdgnikkjpdaaDoorWalke
namespace Go.Proofs.YthekdgnikkjpdaaDoor
open Go.RowKit
theorem size61 : (Tryd.prog.info? 121).map (·.size) = some standCells.size := by kernel_rfl
theorem idx0 (w : World) : (Instr.index 121 (.agg standCells) (.int .i64 0)).run Tryd.prog w = .ok (.agg #[.int .i32 38, .string ⟨#[38, 97, 109, 112, 59]⟩]) w := by kernel_rfl
theorem idx1 (w : World) : (Instr.index 121 (.agg standCells) (.int .i64 1)).run Tryd.prog w = .ok (.agg #[.int .i32 60, .string ⟨#[38, 108, 116, 59]⟩]) w := by kernel_rfl
theorem idx2 (w : World) : (Instr.index 121 (.agg standCells) (.int .i64 2)).run Tryd.prog w = .ok (.agg #[.int .i32 62, .string ⟨#[38, 103, 116, 59]⟩]) w := by kernel_rfl
theorem idx3 (w : World) : (Instr.index 121 (.agg standCells) (.int .i64 3)).run Tryd.prog w = .ok (.agg #[.int .i32 34, .string ⟨#[38, 113, 117, 111, 116, 59]⟩]) w := by kernel_rfl
theorem idx4 (w : World) : (Instr.index 121 (.agg standCells) (.int .i64 4)).run Tryd.prog w = .ok (.agg #[.int .i32 39, .string ⟨#[38, 97, 112, 111, 115, 59]⟩]) w := by kernel_rfl
def textI (r : Int) : ByteArray × Bool :=
  if r = 38 then (⟨#[38, 97, 109, 112, 59]⟩, true) else if r = 60 then (⟨#[38, 108, 116, 59]⟩, true) else if r = 62 then (⟨#[38, 103, 116, 59]⟩, true)
  else if r = 34 then (⟨#[38, 113, 117, 111, 116, 59]⟩, true) else if r = 39 then (⟨#[38, 97, 112, 111, 115, 59]⟩, true) else (⟨#[]⟩, false)
theorem ret_text {a b : ByteArray × Bool} (h : a = b) : Ending.returned (.tuple #[.string a.1, .bool a.2]) = .returned (.tuple #[.string b.1, .bool b.2]) := by rw [h]
set_option maxHeartbeats 1000000 in
theorem textFor_any (r : Int) (w : World) (hT : Tabs w) :
    Calls Tryd.prog 64 #[.int .i32 r] w fun e w' => e = .returned (.tuple #[.string (textI r).1, .bool (textI r).2]) ∧ Below w.heap.size w w' := by
  obtain ⟨t, fr, hst⟩ := hT.st
  clear hT
  have i0 := idx0; have i1 := idx1; have i2 := idx2; have i3 := idx3; have i4 := idx4
  go_enter Tryd.func64, Tryd.ntmps64
  go_wp2_with (refine wpList_load_row rfl 121 _ rfl 0 rfl t standCells fr _ hst Tryd.underlying121 rfl size61 ?_)
  go_loopw [7] (fun i wr => ∃ k : Nat, k ≤ 5 ∧ i = .int .i64 k ∧ Below w.heap.size w wr ∧ (1 ≤ k → r ≠ 38) ∧ (2 ≤ k → r ≠ 60) ∧ (3 ≤ k → r ≠ 62) ∧ (4 ≤ k → r ≠ 34) ∧ (5 ≤ k → r ≠ 39)) (fun i _ => 5 - (intOf i).toNat)
  case atStart => exact ⟨0, by omega, rfl, Below.refl _ _, by omega, by omega, by omega, by omega, by omega⟩
  case round =>
    obtain ⟨k, hk, rfl, hbw, n1, n2, n3, n4, n5⟩ := hrel
    have hsz := hbw.size
    have hb2 : ∀ o, Below w.heap.size w (wr.alloc o) := fun o => hbw.alloc hsz o
    have hk' : k = 0 ∨ k = 1 ∨ k = 2 ∨ k = 3 ∨ k = 4 ∨ k = 5 := by omega
    rcases hk' with rfl | rfl | rfl | rfl | rfl | rfl
    · by_cases hr : r = 38
      · subst hr
        clear n1 n2 n3 n4 n5 hk
        go_wp2
        go_ret2
        exact ⟨rfl, hb2 _⟩
      · have e : ((38 : Int) == r) = false := by simp; omega
        have HN : Hid _ := (⟨n1, n2, n3, n4, n5⟩ : _ ∧ _ ∧ _ ∧ _ ∧ _)
        have HR : Hid _ := hr
        clear n1 n2 n3 n4 n5 hk hr
        go_wp2
        go_roundw
        case rel =>
          obtain ⟨n1, n2, n3, n4, n5⟩ := HN.out
          exact ⟨1, by omega, rfl, hb2 _, fun _ => HR.out, by omega, by omega, by omega, by omega⟩
        case measure => simp [intOf]
    · by_cases hr : r = 60
      · subst hr
        clear n1 n2 n3 n4 n5 hk
        go_wp2
        go_ret2
        exact ⟨rfl, hb2 _⟩
      · have e : ((60 : Int) == r) = false := by simp; omega
        have HN : Hid _ := (⟨n1, n2, n3, n4, n5⟩ : _ ∧ _ ∧ _ ∧ _ ∧ _)
        have HR : Hid _ := hr
        clear n1 n2 n3 n4 n5 hk hr
        go_wp2
        go_roundw
        case rel =>
          obtain ⟨n1, n2, n3, n4, n5⟩ := HN.out
          exact ⟨2, by omega, rfl, hb2 _, by omega, fun _ => HR.out, by omega, by omega, by omega⟩
        case measure => simp [intOf]
    · by_cases hr : r = 62
      · subst hr
        clear n1 n2 n3 n4 n5 hk
        go_wp2
        go_ret2
        exact ⟨rfl, hb2 _⟩
      · have e : ((62 : Int) == r) = false := by simp; omega
        have HN : Hid _ := (⟨n1, n2, n3, n4, n5⟩ : _ ∧ _ ∧ _ ∧ _ ∧ _)
        have HR : Hid _ := hr
        clear n1 n2 n3 n4 n5 hk hr
        go_wp2
        go_roundw
        case rel =>
          obtain ⟨n1, n2, n3, n4, n5⟩ := HN.out
          exact ⟨3, by omega, rfl, hb2 _, by omega, by omega, fun _ => HR.out, by omega, by omega⟩
        case measure => simp [intOf]
    · by_cases hr : r = 34
      · subst hr
        clear n1 n2 n3 n4 n5 hk
        go_wp2
        go_ret2
        exact ⟨rfl, hb2 _⟩
      · have e : ((34 : Int) == r) = false := by simp; omega
        have HN : Hid _ := (⟨n1, n2, n3, n4, n5⟩ : _ ∧ _ ∧ _ ∧ _ ∧ _)
        have HR : Hid _ := hr
        clear n1 n2 n3 n4 n5 hk hr
        go_wp2
        go_roundw
        case rel =>
          obtain ⟨n1, n2, n3, n4, n5⟩ := HN.out
          exact ⟨4, by omega, rfl, hb2 _, by omega, by omega, by omega, fun _ => HR.out, by omega⟩
        case measure => simp [intOf]
    · by_cases hr : r = 39
      · subst hr
        clear n1 n2 n3 n4 n5 hk
        go_wp2
        go_ret2
        exact ⟨rfl, hb2 _⟩
      · have e : ((39 : Int) == r) = false := by simp; omega
        have HN : Hid _ := (⟨n1, n2, n3, n4, n5⟩ : _ ∧ _ ∧ _ ∧ _ ∧ _)
        have HR : Hid _ := hr
        clear n1 n2 n3 n4 n5 hk hr
        go_wp2
        go_roundw
        case rel =>
          obtain ⟨n1, n2, n3, n4, n5⟩ := HN.out
          exact ⟨5, by omega, rfl, hb2 _, by omega, by omega, by omega, by omega, fun _ => HR.out⟩
        case measure => simp [intOf]
    · have e : textI r = (⟨#[]⟩, false) := by
        unfold textI
        rw [if_neg (n1 (by omega)), if_neg (n2 (by omega)), if_neg (n3 (by omega)), if_neg (n4 (by omega)), if_neg (n5 (by omega))]
      have HE : Hid _ := e
      clear n1 n2 n3 n4 n5 hk e
      go_wp2
      go_ret2
      exact ⟨ret_text (a := (⟨#[]⟩, false)) HE.out.symm, hbw⟩
end Go.Proofs.YthekdgnikkjpdaaDoor
