/-
  The contracts of wrap.Span and of the document's Span over this program: how long the way is through a row of numbers.
-/
import Derived.Test.YtdhjbbkleihiaaaDoorNumb
import Derived.Below
import Derived.Deep.QuietTactic
import Derived.BigQuiet
import Derived.Lib.SliceRun
namespace Go.Proofs.YtdhjbbkleihiaaaDoor
open Go Go.RowKit
theorem below_drewN {B : Nat} {w w' : World} {k : Nat} (h : Below B w w') : Below B w (w'.drewN k) := h.trans ⟨rfl, rfl, rfl, Nat.le_refl _, fun _ _ => rfl⟩
/-- A row of numbers of 32 bits, as it lies. -/
def RowZ (w : World) (ao : Option Addr) (n : Nat) (z : Nat → Int) : Prop := ∀ i, i < n → ∃ ad, ao = some ad ∧ w.cell? (ad.add i) = some (.int .u32 (z i)) ∧ U (z i)
set_option maxHeartbeats 1000000 in
set_option maxRecDepth 100000 in
theorem span_any (ao : Option Addr) (n cap : Nat) (z : Nat → Int) (w : World) (hz : RowZ w ao n z) (hbig : n ≤ 9223372036854775807) :
    Calls Tryd.prog 22 #[.slice ao n cap] w fun e w' => e = .returned (.int .u32 (spanF z (n - 1))) ∧ Below w.heap.size w w' := by
  have HZ : Hid _ := hz
  clear hz
  obtain ⟨r, hr⟩ : ∃ r, spanF z (n - 1) = r := ⟨_, rfl⟩
  rw [hr]
  have HR : Hid _ := hr
  clear hr
  go_enter Tryd.func22, Tryd.ntmps22
  go_wp2_with fail
  go_loopw [3, 4] (fun a i wr => ∃ j : Nat, 1 ≤ j ∧ j - 1 ≤ n - 1 ∧ i = .int .i64 (j : Int) ∧ a = .int .u32 (spanF z (j - 1)) ∧ Below w.heap.size w wr) (fun _ i _ => n - (intOf i).toNat)
  case atStart => exact ⟨1, Nat.le_refl _, Nat.zero_le _, rfl, rfl, Below.refl _ _⟩
  case round =>
    obtain ⟨j, hj, hk, rfl, rfl, hbw⟩ := hrel
    obtain ⟨k, hjk⟩ : ∃ k, j = k + 1 := ⟨j - 1, by omega⟩
    have e1 : j - 1 = k := by omega
    rw [e1] at hk ⊢
    obtain ⟨s, hs⟩ : ∃ s, spanF z k = s := ⟨_, rfl⟩
    have hsu := spanF_u z k
    rw [hs] at hsu ⊢
    have HS : Hid _ := hs
    have HJ : Hid (j = k + 1) := hjk
    clear hs e1
    unfold U at hsu
    by_cases hlt : j < n
    · obtain ⟨ad, rfl, c0, u0⟩ := HZ.out k (by omega)
      obtain ⟨ad', e', c1, u1⟩ := HZ.out j hlt
      cases e'
      have k0 : wr.cell? (ad.add k) = some (.int .u32 (z k)) := (hbw.cell (World.block_lt_of_cell? w _ c0)).trans c0
      have k1 : wr.cell? (ad.add j) = some (.int .u32 (z j)) := (hbw.cell (World.block_lt_of_cell? w _ c1)).trans c1
      have H1 := fun W => ahead_any (z k) (z j) u0 u1 W
      have hau := ahI_u (z k) (z j)
      have hlt' : (j : Int) < (n : Int) := by omega
      have hj0 : (0 : Int) ≤ (j : Int) := Int.natCast_nonneg _
      have hi0 : (0 : Int) ≤ (k : Int) := Int.natCast_nonneg _
      have hi1 : (k : Int) < (n : Int) := by omega
      have hi2 : (n : Int) ≤ 9223372036854775807 := by omega
      have hwk : IntKind.i64.wrap ((j : Int) - 1) = (k : Int) := by simp only [IntKind.wrap_i64]; omega
      obtain ⟨x, hx⟩ : ∃ x, ahI (z k) (z j) = x := ⟨_, rfl⟩
      rw [hx] at hau
      simp only [hx] at H1
      unfold U at hau
      have HX : Hid _ := hx
      obtain ⟨hs0, hs1⟩ := hsu
      obtain ⟨hx0, hx1⟩ := hau
      obtain ⟨m, hm⟩ : ∃ m, 4294967295 - s = m := ⟨_, rfl⟩
      have hwm : IntKind.u32.wrap (4294967295 - s) = m := by rw [IntKind.wrap_u32']; omega
      by_cases ho : 4294967295 < s + x
      · have HE : Hid (r = 4294967295) := by
          show _ = _
          rw [← HR.out]
          exact spanF_over z k (n - 1) (by omega) (by rw [HS.out, ← HJ.out, HX.out]; exact ho)
        have hd : m < x := by omega
        clear hm ho hx hjk
        go_wp2_with fail
        go_quiet ((go_at_call 12; exact Calls.quiet_of_same (H1 _)))
        go_wp2_with fail
        go_ret
        exact ⟨ret_u32 HE.out.symm, below_drewN hbw⟩
      · have HE : Hid (spanF z j = s + x) := by
          show _ = _
          rw [hjk]
          unfold spanF
          rw [HS.out, ← HJ.out, HX.out]
          omega
        have hd : ¬ m < x := by omega
        obtain ⟨y, hy⟩ : ∃ y, s + x = y := ⟨_, rfl⟩
        have hsx : IntKind.u32.wrap (s + x) = y := by rw [IntKind.wrap_u32']; omega
        have HY : Hid _ := hy
        clear hm ho hy hx hjk
        go_wp2_with fail
        go_quiet ((go_at_call 12; exact Calls.quiet_of_same (H1 _)))
        go_wp2_with fail
        go_roundw
        case rel => exact ⟨j + 1, by omega, by omega, by go_num, by rw [show j + 1 - 1 = j by omega, HE.out, HY.out], below_drewN hbw⟩
        case measure => simp [intOf]; omega
    · have HE : Hid (r = s) := by
        show _ = _
        rw [← HR.out, ← HS.out, show n - 1 = k by omega]
      have hnl : ¬ (j : Int) < (n : Int) := by omega
      clear hjk
      go_wp2_with fail
      go_ret
      exact ⟨ret_u32 HE.out.symm, hbw⟩
theorem min_if (a : Int) : (if 4294967295 < a then 4294967295 else a) = min a 4294967295 := by split <;> omega
set_option maxHeartbeats 1000000 in
set_option maxRecDepth 100000 in
theorem refSpan_any (ao : Option Addr) (n cap : Nat) (z : Nat → Int) (w : World) (hz : RowZ w ao n z) (hbig : n ≤ 9223372036854775807) :
    Calls Tryd.prog 23 #[.slice ao n cap] w fun e w' => e = .returned (.int .u32 (spanF z (n - 1))) ∧ Below w.heap.size w w' := by
  have HZ : Hid _ := hz
  clear hz
  obtain ⟨r, hr⟩ : ∃ r, spanF z (n - 1) = r := ⟨_, rfl⟩
  rw [hr]
  have HR : Hid _ := hr
  clear hr
  go_enter Tryd.func23, Tryd.ntmps23
  go_wp2_with fail
  go_loopw [3, 4] (fun a i wr => ∃ j : Nat, 1 ≤ j ∧ j - 1 ≤ n - 1 ∧ i = .int .i64 (j : Int) ∧ a = .int .i64 (spanF z (j - 1)) ∧ Below w.heap.size w wr) (fun _ i _ => n - (intOf i).toNat)
  case atStart => exact ⟨1, Nat.le_refl _, Nat.zero_le _, rfl, rfl, Below.refl _ _⟩
  case round =>
    obtain ⟨j, hj, hk, rfl, rfl, hbw⟩ := hrel
    obtain ⟨k, hjk⟩ : ∃ k, j = k + 1 := ⟨j - 1, by omega⟩
    have e1 : j - 1 = k := by omega
    rw [e1] at hk ⊢
    obtain ⟨s, hs⟩ : ∃ s, spanF z k = s := ⟨_, rfl⟩
    have hsu := spanF_u z k
    rw [hs] at hsu ⊢
    have HS : Hid _ := hs
    have HJ : Hid (j = k + 1) := hjk
    clear hs e1
    unfold U at hsu
    obtain ⟨hs0, hs1⟩ := hsu
    by_cases hlt : j < n
    · obtain ⟨ad, rfl, c0, u0⟩ := HZ.out k (by omega)
      obtain ⟨ad', e', c1, u1⟩ := HZ.out j hlt
      cases e'
      have k0 : wr.cell? (ad.add k) = some (.int .u32 (z k)) := (hbw.cell (World.block_lt_of_cell? w _ c0)).trans c0
      have k1 : wr.cell? (ad.add j) = some (.int .u32 (z j)) := (hbw.cell (World.block_lt_of_cell? w _ c1)).trans c1
      have H1 := fun W => refAhead_any (z k) (z j) u0 u1 W
      have hau := ahI_u (z k) (z j)
      have hlt' : (j : Int) < (n : Int) := by omega
      have hj0 : (0 : Int) ≤ (j : Int) := Int.natCast_nonneg _
      have hi0 : (0 : Int) ≤ (k : Int) := Int.natCast_nonneg _
      have hi1 : (k : Int) < (n : Int) := by omega
      have hi2 : (n : Int) ≤ 9223372036854775807 := by omega
      have hwk : IntKind.i64.wrap ((j : Int) - 1) = (k : Int) := by simp only [IntKind.wrap_i64]; omega
      obtain ⟨x, hx⟩ : ∃ x, ahI (z k) (z j) = x := ⟨_, rfl⟩
      rw [hx] at hau
      simp only [hx] at H1
      unfold U at hau
      have HX : Hid _ := hx
      obtain ⟨hx0, hx1⟩ := hau
      have HE : Hid (spanF z j = min (s + x) 4294967295) := by
        show _ = _
        rw [hjk]
        unfold spanF
        rw [HS.out, ← HJ.out, HX.out]
      clear hx hjk
      go_wp2_with fail
      go_quiet ((go_at_call 13; exact Calls.quiet_of_same (H1 _)))
      go_wp2_with fail
      go_roundw
      case rel => exact ⟨j + 1, by omega, by omega, by go_num, by rw [show j + 1 - 1 = j by omega, HE.out, min_if], below_drewN hbw⟩
      case measure => simp [intOf]; omega
    · have HE : Hid (r = s) := by
        show _ = _
        rw [← HR.out, ← HS.out, show n - 1 = k by omega]
      have hnl : ¬ (j : Int) < (n : Int) := by omega
      clear hjk
      go_wp2_with fail
      go_ret
      exact ⟨ret_u32 (by rw [HE.out]), hbw⟩
end Go.Proofs.YtdhjbbkleihiaaaDoor
