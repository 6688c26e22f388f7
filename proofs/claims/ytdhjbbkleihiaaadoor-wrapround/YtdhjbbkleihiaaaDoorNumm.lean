/-
  The walk of the statement WrapRound over this program.
-/
import Derived.Test.YtdhjbbkleihiaaaDoorNumf
import Derived.OwnWalk
import Derived.CellFam
import Derived.Deep.AppendLies
namespace Go.Proofs.YtdhjbbkleihiaaaDoor
open Go Go.RowKit
def sumF (y : Nat → Int) : Nat → Int
  | 0 => 0
  | k + 1 => sumF y k + y k % 4294967296
theorem sumF_b (y : Nat → Int) : ∀ k : Nat, 0 ≤ sumF y k ∧ sumF y k ≤ (k : Int) * 4294967295
  | 0 => by unfold sumF; omega
  | k + 1 => by
    have := sumF_b y k
    unfold sumF
    omega
theorem ah_step (h S m : Int) (hm : U m) : ahI (addI h S) (addI h (S + m)) = m := by unfold U at hm; unfold ahI addI; omega
theorem span_sum (h : Int) (y : Nat → Int) : ∀ k, spanF (fun i => addI h (sumF y i)) k = min (sumF y k) 4294967295
  | 0 => by unfold spanF sumF; omega
  | k + 1 => by
    have h1 := span_sum h y k
    have h2 := sumF_b y k
    have hm : U (y k % 4294967296) := by unfold U; omega
    have h3 := ah_step h (sumF y k) (y k % 4294967296) hm
    unfold U at hm
    show min (spanF _ k + ahI (addI h (sumF y k)) (addI h (sumF y (k + 1)))) 4294967295 = _
    rw [h1]
    show min (min (sumF y k) 4294967295 + ahI (addI h (sumF y k)) (addI h (sumF y k + y k % 4294967296))) 4294967295 = min (sumF y k + y k % 4294967296) 4294967295
    rw [h3]
    omega
def rowCells (z : Nat → Int) (n : Nat) : List Value := (List.range n).map fun i => .int .u32 (z i)
theorem rowCells_succ (z : Nat → Int) (n : Nat) : rowCells z (n + 1) = rowCells z n ++ [.int .u32 (z n)] := by
  unfold rowCells
  rw [List.range_succ, List.map_append]
  rfl
theorem rowZ_owns {w : World} {B : Nat} {ao : Option Addr} {n cap : Nat} {z : Nat → Int} (h : w.ownsRow B 22 1 (.slice ao n cap) n (rowCells z n)) (hz : ∀ i, U (z i)) : RowZ w ao n z := by
  intro i hi
  obtain ⟨_, h0 | ⟨g, cap', cur, hv, _⟩⟩ := id h
  · omega
  · obtain ⟨rfl, _, rfl⟩ := Value.slice.inj hv
    refine ⟨_, rfl, ?_, hz i⟩
    refine h.cells (g := g) rfl i _ ?_
    unfold rowCells
    rw [List.getElem?_map, List.getElem?_range hi]
    rfl
theorem info22 : (Tryd.prog.info? 22).map (fun i => (i.zero, i.size, i.bytes)) = some (some (.int .u32 0), 1, 4) := by kernel_rfl
/-- A row of integers, as it lies. -/
def RowN (w : World) (ao : Option Addr) (n : Nat) (y : Nat → Int) : Prop := ∀ i, i < n → ∃ ad, ao = some ad ∧ w.cell? (ad.add i) = some (.int .i64 (y i))
set_option maxHeartbeats 2000000 in
set_option maxRecDepth 100000 in
theorem round_walk (h : Int) (ao : Option Addr) (n cap : Nat) (y : Nat → Int) (hh : U h) (w : World) (hrow : RowN w ao n y) (hE : Env w) :
    Calls Tryd.prog 7 #[.int .u32 h, .slice ao n cap] w fun e w' => e = .returned (.bool true) ∧ Below w.heap.size w w' := by
  have HLV := lives_any w hE
  have HY : Hid (RowN w ao n y) := hrow
  have HU : Hid (U h) := hh
  clear hE hrow
  obtain ⟨i0, hi, hz0, hz1, hz2⟩ := info_parts info22
  have hadd0 : addI h 0 = h := by unfold U at hh; unfold addI; omega
  have HA0 : Hid _ := hadd0
  clear hadd0 hh
  go_enter Tryd.func7, Tryd.ntmps7
  go_wp2_with (go_at_call 9; refine HLV.mono ?_; rintro e w1 ⟨rfl, hb1⟩)
  go_loopw [5, 6, 7, 8] (fun v a t i wr => ∃ k : Nat, k ≤ n ∧ k ≤ 60 ∧ i = .int .i64 k ∧ a = .int .i64 (sumF y k) ∧ t = .int .u32 (addI h (sumF y k)) ∧ (∃ bo cp, v = .slice bo (k + 1) cp ∧ wr.ownsRow w.heap.size 22 1 (.slice bo (k + 1) cp) (k + 1) (rowCells (fun j => addI h (sumF y j)) (k + 1))) ∧ Below w.heap.size w wr) (fun _ _ _ i _ => n - (intOf i).toNat)
  case atStart =>
    refine ⟨0, Nat.zero_le _, Nat.zero_le _, rfl, rfl, by show _ = Value.int .u32 (addI h 0); rw [HA0.out], ⟨_, _, rfl, ?_⟩, hb1.alloc hb1.size _⟩
    refine ⟨by simp [rowCells], .inr ⟨_, _, _, rfl, hb1.size, heap_alloc_new w1 _, Nat.le_refl _, by decide, rfl, ?_⟩⟩
    simp only [rowCells]
    show [Value.int .u32 h] = [Value.int .u32 (addI h 0)]
    rw [HA0.out]
  case round =>
    obtain ⟨k, hk, hk6, rfl, rfl, rfl, ⟨bo, cp, rfl, hown⟩, hbw⟩ := hrel
    have hsb := sumF_b y k
    have HOWN : Hid (wr.ownsRow w.heap.size 22 1 (.slice bo (k + 1) cp) (k + 1) (rowCells (fun j => addI h (sumF y j)) (k + 1))) := hown
    clear hown
    by_cases hlt : k < n ∧ k < 60
    · obtain ⟨ad, rfl, c0⟩ := HY.out k hlt.1
      have k0 : wr.cell? (ad.add k) = some (.int .i64 (y k)) := (hbw.cell (World.block_lt_of_cell? w _ c0)).trans c0
      have ik1 : (k : Int) < (n : Int) := by omega
      have ik2 : (k : Int) < 60 := by omega
      have ik0 : (0 : Int) ≤ (k : Int) := Int.natCast_nonneg _
      obtain ⟨m, hm⟩ : ∃ m, y k % 4294967296 = m := ⟨_, rfl⟩
      have hmu : U m := by unfold U; omega
      have hw1 : (IntKind.u64.wrap (y k)).tmod 4294967296 = m := by
        rw [IntKind.wrap_u64, Int.tmod_eq_emod_of_nonneg (by omega)]; omega
      have HS : Hid (sumF y (k + 1) = sumF y k + m) := by
        show sumF y k + y k % 4294967296 = sumF y k + m
        rw [hm]
      have HA := fun W => add_any (addI h (sumF y k)) m (addI_u _ _) (u_n hmu) W
      have hat : addI (addI h (sumF y k)) m = addI h (sumF y k + m) := by unfold addI; omega
      rw [hat] at HA
      obtain ⟨hs0, hs1⟩ := hsb
      obtain ⟨m0, m1⟩ : 0 ≤ m ∧ m < 4294967296 := hmu
      have hs2 : sumF y k ≤ 257698037700 := by omega
      clear hm hat hs1
      obtain ⟨S, hS⟩ : ∃ S, sumF y k = S := ⟨_, rfl⟩
      rw [hS] at HA hs0 hs2 ⊢
      have HSS : Hid _ := hS
      obtain ⟨t1, ht1⟩ : ∃ t1, addI h S = t1 := ⟨_, rfl⟩
      obtain ⟨t2, ht2⟩ : ∃ t2, addI h (S + m) = t2 := ⟨_, rfl⟩
      rw [ht1] at HA ⊢
      rw [ht2] at HA
      have HT2 : Hid _ := ht2
      clear hS ht1 ht2 c0
      have hnw : ∀ W : World, ∀ j u, ([Value.int .u32 t2] : List Value)[j]? = some u → (W.alloc (.cells #[.int .u32 t2] 22)).cell? ((⟨W.heap.size, 0, none⟩ : Addr).add j) = some u := by
        intro W j u hu
        cases j with
        | zero => cases hu; exact World.cell?_alloc_new _ _ _ _
        | succ j => simp at hu
      have HNW : Hid _ := hnw
      clear hnw
      go_wp2_with (first
        | (go_at_call 10; refine (HA _).mono ?_; rintro e w2 ⟨rfl, rfl⟩)
        | (at_builtin; refine wpList_append_own _ rfl (.tmp 38) (.tmp 40) 30 rfl w.heap.size 22 i0 _ 1 4 Tryd.underlying30 hi hz0 hz1 hz2 rfl (by decide) _ _ _ rfl (World.ownsRow.alloc HOWN.out _) ⟨w2.heap.size, 0, none⟩ 1 1 [.int .u32 t2] rfl rfl (HNW.out w2) (by intro u hu; simp at hu; subst hu; rfl) ?a3 ?a4 ?a5 ?_))
      case a3 => unfold maxLen; omega
      case a4 => omega
      case a5 => exact Nat.le_trans hbw.size (Joins.below_alloc1 w2 _).size
      intro v' w3 hown' hgrow _
      have HO3 : Hid _ := hown'
      have HB3 : Hid (Below w.heap.size w w3) := (hbw.alloc hbw.size _).grown hgrow (Nat.le_trans hbw.size (Joins.below_alloc1 w2 _).size) (fun g hg => (World.ownsRow.lt HOWN.out g hg).1)
      clear hown' hgrow
      obtain ⟨g, cp', hv'⟩ : ∃ g cp', v' = .slice (some ⟨g, 0, none⟩) (k + 1 + 1) cp' := by
        obtain ⟨_, h0 | ⟨g, cap', cur, hv, _⟩⟩ := HO3.out
        · omega
        · exact ⟨g, cap', hv⟩
      subst hv'
      go_wp2_with fail
      go_roundw
      case rel =>
        refine ⟨k + 1, by omega, by omega, by go_num, ?_, ?_, ⟨_, _, rfl, ?_⟩, HB3.out⟩
        · rw [HS.out, HSS.out]
        · rw [HS.out, HSS.out, HT2.out]
        · rw [rowCells_succ, HS.out, HSS.out, HT2.out]
          exact HO3.out
      case measure => simp [intOf]; omega
    · have hz : RowZ wr bo (k + 1) (fun j => addI h (sumF y j)) := rowZ_owns HOWN.out (fun i => addI_u _ _)
      have HZ : Hid _ := hz
      have HSP := fun W hr => span_any bo (k + 1) cp (fun j => addI h (sumF y j)) W hr (by omega)
      rw [show k + 1 - 1 = k by omega, span_sum] at HSP
      obtain ⟨hs0, hs1⟩ := hsb
      have hs2 : sumF y k ≤ 257698037700 := by omega
      have hN1 : N (sumF y k) := by unfold N; omega
      have hN2 : N (-sumF y k) := by unfold N; omega
      have HA1 := fun W => add_any h (sumF y k) HU.out hN1 W
      have HA2 := fun W => add_any (addI h (sumF y k)) (-sumF y k) (addI_u _ _) hN2 W
      have hback : addI (addI h (sumF y k)) (-sumF y k) = h := by
        have := HU.out
        unfold U at this
        unfold addI
        omega
      rw [hback] at HA2
      have hend : ¬ (k : Int) < (n : Int) ∨ ((k : Int) < (n : Int) ∧ ¬ (k : Int) < 60) := by omega
      clear hz hs1 hN1 hN2 hback hlt
      obtain ⟨S, hS⟩ : ∃ S, sumF y k = S := ⟨_, rfl⟩
      rw [hS] at HA1 HA2 HSP hs0 hs2 ⊢
      obtain ⟨t1, ht1⟩ : ∃ t1, addI h S = t1 := ⟨_, rfl⟩
      rw [ht1] at HA1 HA2 ⊢
      obtain ⟨M, hM⟩ : ∃ M, min S 4294967295 = M := ⟨_, rfl⟩
      rw [hM] at HSP
      have hM0 : 0 ≤ M := by omega
      have hM1 : M < 4294967296 := by omega
      clear hS ht1
      rcases hend with hend | ⟨he1, he2⟩ <;> (
        go_wp2_with (first
          | (go_at_call_of 10 (Value.int .u32 h); refine (HA1 _).mono ?_; rintro e w2 ⟨rfl, rfl⟩)
          | (go_at_call 22; refine (HSP _ HZ.out).mono ?_; rintro e w4 ⟨rfl, hb4⟩; replace hb4 := hbw.trans (hb4.mono hbw.size))
          | (go_at_call 10; refine (HA2 _).mono ?_; rintro e w2 ⟨rfl, rfl⟩))
        go_ret
        exact ⟨rfl, hb4⟩)
end Go.Proofs.YtdhjbbkleihiaaaDoor
