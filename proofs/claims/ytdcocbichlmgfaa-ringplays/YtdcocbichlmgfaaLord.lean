/-
  The walk of the statement RingOrder over this program.
-/
import Derived.Test.YtdcocbichlmgfaaSc
namespace Go.Proofs.Ytdcocbichlmgfaa
open Go Go.RowKit
/-- A row of integers, as it lies. -/
def RowN (w : World) (ao : Option Addr) (n : Nat) (y : Nat → Int) : Prop := ∀ i, i < n → ∃ ad, ao = some ad ∧ w.cell? (ad.add i) = some (.int .i64 (y i))
theorem one_cell {a : ByteArray} : ∀ (i : Nat) (s : ByteArray), [a][i]? = some s → (#[Value.string a] : Array Value)[i]? = some (Value.string s)
  | 0, _, h => by cases h; rfl
  | _ + 1, _, h => by simp at h
theorem TxAt.cap_le {B : Nat} {ao : Option Addr} {cap : Nat} {l : List ByteArray} {w : World} (h : TxAt B ao cap l w) : l.length ≤ cap := by
  rcases h.2 with ⟨_, h2⟩ | ⟨g, cap', cur, h1, _, _, h4, _⟩
  · omega
  · rw [(Value.slice.inj h1).2.2]; exact h4
theorem RowS.take {w : World} {ao : Option Addr} {l : List ByteArray} (h : RowS w ao l) (k : Nat) : RowS w ao (l.take k) := fun i s hs => h i s (by rw [List.getElem?_take] at hs; split at hs; exact hs; cases hs)
def lenV : Value → Nat
  | .slice _ n _ => n
  | _ => 0
set_option maxHeartbeats 2000000 in
theorem order_walk (zp : Int) (ao bo : Option Addr) (cap nb capb : Nat) (l : List ByteArray) (y : Nat → Int) (w : World) (hrow : RowS w ao l) (hys : RowN w bo nb y) (hcap : l.length ≤ cap) :
    Calls Try.prog 4 #[.int .i64 zp, .slice ao l.length cap, .slice bo nb capb] w fun e w' => e = .returned (.bool true) ∧ Below w.heap.size w w' := by
  obtain ⟨i0, hi, hz0, hz1, hz2⟩ := info_parts info9
  have HYS : Hid _ := hys
  obtain ⟨l2, hl2⟩ : ∃ l2, l.take 200 = l2 := ⟨_, rfl⟩
  have HROW : Hid (RowS w ao l2) := by
    intro i s hs
    rw [← hl2] at hs
    exact hrow i s (by rw [List.getElem?_take] at hs; split at hs; exact hs; cases hs)
  obtain ⟨L, hL⟩ : ∃ L, l.length = L := ⟨_, rfl⟩
  obtain ⟨N, hN⟩ : ∃ N, l2.length = N := ⟨_, rfl⟩
  have HN : Hid _ := hN
  have hNL : N = min 200 L := by rw [← hN, ← hl2, List.length_take, hL]
  rw [hL] at hcap ⊢
  have hmin : (if (200 : Int) < (L : Int) then (200 : Int) else (L : Int)) = (N : Int) := by split <;> omega
  have hN0 : (0 : Int) ≤ (N : Int) := by omega
  have hN1 : (N : Int) ≤ (cap : Int) := by omega
  have hN2 : N ≤ 200 := by omega
  clear hrow hL hl2 hN hys hNL
  go_enter Try.func4, Try.ntmps4
  go_wp2_with (first
    | (go_at_call 9; refine (lives_any _).mono ?_; rintro e w1 ⟨rfl, hb1⟩)
    | (go_at_call 10; refine (new_any _ _).mono ?_; rintro e w2 ⟨rfl, hr2, hb2⟩))
  have s1 := hb1.size
  obtain ⟨l1, l2'⟩ := hr2.lt
  have HR2 : Hid _ := hr2
  have HB2 : Hid (Below w.heap.size w w2) := hb1.trans (hb2.mono hb1.size)
  obtain ⟨B, hB⟩ : ∃ B, w2.heap.size = B := ⟨_, rfl⟩
  have HBB : Hid _ := hB
  rw [hB] at l1 l2'
  obtain ⟨p, hp⟩ : ∃ p, w1.heap.size = p := ⟨_, rfl⟩
  have hwp : w.heap.size ≤ p := by omega
  rw [hp] at HR2 l1 l2' ⊢
  obtain ⟨r, hr⟩ : ∃ r, p + 1 = r := ⟨_, rfl⟩
  have hwr : w.heap.size ≤ r := by omega
  rw [hr] at HR2 l1 ⊢
  have hwB : w.heap.size ≤ B := by omega
  obtain ⟨n, hn⟩ : ∃ n, nz zp = n := ⟨_, rfl⟩
  rw [hn] at HR2
  clear hr2 hb1 hb2 hp hr hn hB s1
  go_loopw [8, 9, 10, 11, 12, 13] (fun v i _ _ _ _ wr => ∃ j : Nat, j ≤ N ∧ i = .int .i64 (j : Int) ∧ (∃ f m o ao' cap', v = .slice ao' (List.length o) cap' ∧ RgAt r p n f m wr ∧ TxAt B ao' cap' o wr ∧ o ++ m = l2.take j) ∧ B ≤ wr.heap.size ∧ Below w.heap.size w wr) (fun _ i _ _ _ _ _ => N - (intOf i).toNat)
  case atStart => exact ⟨0, Nat.zero_le _, rfl, ⟨0, [], [], none, 0, rfl, HR2.out, World.ownsRow_nil _ _ _ _, rfl⟩, Nat.le_of_eq HBB.out.symm, HB2.out⟩
  case round =>
    obtain ⟨j, hj, rfl, ⟨f, m, o, ao', cap', rfl, hrg, hto, hom⟩, hBw, hbw⟩ := hrel
    by_cases hlt : j < N
    · obtain ⟨s, hs⟩ : ∃ s, l2[j]? = some s := ⟨_, List.getElem?_eq_getElem (by rw [HN.out]; exact hlt)⟩
      obtain ⟨ad, rfl, c0⟩ := HROW.out j s hs
      have hlb := World.block_lt_of_cell? w _ c0
      have hnx : l2.take (j + 1) = l2.take j ++ [s] := by rw [List.take_add_one, hs]; rfl
      have HNX : Hid _ := hnx
      have h1' : (j : Int) < (N : Int) := by omega
      have hj0 : (0 : Int) ≤ (j : Int) := by omega
      have HRG : Hid _ := hrg
      have HTO : Hid (TxAt B ao' cap' o wr) := hto
      have HOM : Hid _ := hom
      have HBW : Hid (Below w.heap.size w wr) := hbw
      have HJ : Hid ((l2.take j).length = j) := by show _ = _; rw [List.length_take, HN.out]; omega
      have HC0 : Hid (w.cell? (ad.add j) = some (.string s)) := c0
      clear hs c0 hnx hrg hto hom hbw
      go_wp2_with fail
      go_loopw [8, 10, 11] (fun v _ _ ws => (∃ f m o ao' cap', v = .slice ao' (List.length o) cap' ∧ RgAt r p n f m ws ∧ TxAt B ao' cap' o ws ∧ o ++ m = l2.take j) ∧ B ≤ ws.heap.size ∧ Below w.heap.size w ws) (fun v _ _ _ => j - lenV v)
      case atStart => exact ⟨⟨f, m, o, ao', cap', rfl, HRG.out, HTO.out, HOM.out⟩, hBw, HBW.out⟩
      case round =>
        obtain ⟨⟨f1, m1, o1, ao1, cap1, rfl, hrg1, hto1, hom1⟩, hBw1, hbw1⟩ := hrel
        have hsz1 := hbw1.size
        have hln := hrg1.ln
        have h64 := hrg1.n64
        have hn0 := hrg1.n0
        have k0 : wr.cell? (ad.add j) = some (.string s) := (hbw1.cell hlb).trans HC0.out
        have HR1 : Hid _ := hrg1
        have HT1 : Hid (TxAt B ao1 cap1 o1 wr) := hto1
        have HO1 : Hid _ := hom1
        have HB1 : Hid (Below w.heap.size w wr) := hbw1
        have hlen : o1.length + m1.length = j := by have := congrArg List.length hom1; rw [HJ.out, List.length_append] at this; exact this
        have HLEN : Hid _ := hlen
        clear HRG HTO HOM HBW hrg1 hto1 hom1 hbw1
        by_cases hm : m1.length < n
        · have HP0 := fun W (hh : RgAt r p n f1 m1 W) => push_ok r p n f1 m1 s W hh hm
          clear hm hln hlen
          by_cases hjn : j < nb
          · have hjn' : (j : Int) < (nb : Int) := by omega
            obtain ⟨ad2, rfl, d0⟩ := HYS.out j hjn
            have hlb2 := World.block_lt_of_cell? w _ d0
            have HD0 : Hid _ := d0
            clear d0 hjn
            go_wp2_with (go_at_call 14; refine (HP0 _ HR1.out).mono ?_; rintro e w3 ⟨rfl, hr3, hf3⟩)
            have e0 : w3.cell? (ad2.add j) = some (.int .i64 (y j)) := ((hf3.below hsz1 hwr hwp).cell hlb2).trans ((HB1.out.cell hlb2).trans HD0.out)
            have hC6 := hr3.ln
            obtain ⟨C, hC⟩ : ∃ C, (m1 ++ [s]).length = C := ⟨_, rfl⟩
            rw [hC] at hC6
            obtain ⟨D, hD⟩ : ∃ D, C + 1 = D := ⟨_, rfl⟩
            have hD1 : IntKind.i64.wrap ((C : Int) + 1) = (D : Int) := by simp only [IntKind.wrap_i64]; omega
            have hD2 : IntKind.u64.wrap (D : Int) = (D : Int) := by simp only [IntKind.wrap_u64]; omega
            have hD3 : ((D : Int) == 0) = false := by simp; omega
            have hD4 : ¬ (D : Int) = 0 := by omega
            have hD5 : ¬ D = 0 := by omega
            obtain ⟨k, hk⟩ : ∃ k : Nat, (IntKind.u64.wrap (y j)).tmod (D : Int) = (k : Int) := ⟨((IntKind.u64.wrap (y j)).tmod (D : Int)).toNat, by
              have h0 : 0 ≤ (IntKind.u64.wrap (y j)).tmod (D : Int) := by
                rw [IntKind.wrap_u64, Int.tmod_eq_emod_of_nonneg (by omega)]
                exact Int.emod_nonneg _ (by omega)
              omega⟩
            have hkC : k ≤ C := by
              rw [IntKind.wrap_u64, Int.tmod_eq_emod_of_nonneg (by omega)] at hk
              have := Int.emod_lt_of_pos (y j % 18446744073709551616) (b := (D : Int)) (by omega)
              omega
            have hk2 : IntKind.i64.wrap (k : Int) = (k : Int) := by simp only [IntKind.wrap_i64]; omega
            have hk3 : IntKind.u64.wrap (k : Int) = (k : Int) := by simp only [IntKind.wrap_u64]; omega
            have HN3 := fun W (hh : RgAt r p n f1 (m1 ++ [s]) W) => len_any r p n f1 (m1 ++ [s]).length W hh.hd
            simp only [hC] at HN3
            have EC : Hid _ := hC
            have HR3 : Hid _ := hr3
            have HF3 : Hid (Fz r p wr w3) := hf3
            have s3 := hf3.1.size
            clear hD hC hr3 hf3
            go_quiet ((go_at_call 22; refine Calls.quiet_of_same (HN3 _ ?_); exact HR3.out.keep rfl rfl))
            have HL3 := fun W hh => list_any r p n f1 (m1 ++ [s]) W hh
            have HDR := fun W hh => drop_ok r p n f1 (m1 ++ [s]) k W hh (by rw [EC.out]; exact hkC)
            have hk0 : (0 : Int) ≤ (k : Int) := by omega
            obtain ⟨K, hK⟩ : ∃ K, o1.length = K := ⟨_, rfl⟩
            have HK : Hid _ := hK
            have HT1' : Hid (wr.ownsRow B 9 1 (.slice ao1 K cap1) K (strs o1)) := by rw [← hK]; exact HT1.out
            have hKj : K ≤ j := by have := HLEN.out; omega
            rw [hK]
            clear hK
            go_wp2_with (first
              | (go_at_call 24; refine (HL3 _ ?_).mono ?_; exact HR3.out.keep rfl rfl; rintro e w4 ⟨⟨ao4, cap4, rfl, ht4⟩, hb4⟩; rw [EC.out]; have hb4' := (below_drewN (Below.refl w3.heap.size w3)).trans hb4; have hkcap : (k : Int) ≤ (cap4 : Int) := (by have := ht4.cap_le; rw [EC.out] at this; omega))
              | (go_at_call 16; refine (HDR _ ?_).mono ?_; exact HR3.out.keep (hb4.block r HR3.out.lt.1) (hb4.block p HR3.out.lt.2); rintro e w5 ⟨rfl, hr5, hf5⟩; have HT5 : Hid (TxAt B ao1 cap1 o1 w5) := (((TxAt.fz HT1.out HF3.out l1 l2').below hb4').fz hf5 l1 l2'); have s5 := hf5.1.size; have s4 := hb4'.size; (have HTA : Hid (RowS w5 ao4 ((m1 ++ [s]).take k)) := (RowS.take (TxAt.fz ht4 hf5 HR3.out.lt.1 HR3.out.lt.2).row k)); have HNL : Hid (ao4 = none → k = 0 ∧ cap4 = 0) := (fun e => by have := ht4.nil0 e; rw [EC.out] at this; omega))
              | (at_builtin; refine wpList_append_any rfl (.tmp 73) (.tmp 76) 35 rfl B 9 i0 _ 1 16 Try.underlying35 hi hz0 hz1 hz2 rfl (by decide) _ K (strs o1) rfl (by have := HT5.out; unfold TxAt at this; rw [HK.out] at this; exact this) ao4 k cap4 (strs ((m1 ++ [s]).take k)) rfl HNL.out (by rw [strs_length, List.length_take, EC.out]; omega) (RowS.cells HTA.out) (strs_one _) (by unfold maxLen; omega) (by omega) (by omega) ?_
                 intro v6 w6 ho6 hb6 hg6
                 rw [← strs_app] at ho6
                 obtain ⟨ao6, cap6, rfl, ht6⟩ := tx_of_owns ho6 (by rw [List.length_append, List.length_take, HK.out, EC.out]; omega)
                 clear ho6 hg6))
            go_roundw
            case rel =>
              have hB5 : Below w.heap.size w w5 := ((HB1.out.trans (Fz.below HF3.out hsz1 hwr hwp)).trans (hb4'.mono (by omega))).trans (hf5.below (by omega) hwr hwp)
              refine ⟨j + 1, by omega, by go_num, ⟨_, (m1 ++ [s]).drop k, o1 ++ (m1 ++ [s]).take k, ao6, cap6, by simp, hr5.keep (hb6.block r l1) (hb6.block p l2'), ht6, ?_⟩, Nat.le_trans (by omega) hb6.size, hB5.trans (hb6.mono hwB)⟩
              rw [HNX.out, ← HO1.out, List.append_assoc, List.take_append_drop, List.append_assoc]
            case measure => simp [intOf]; omega
          · have hjn' : ¬ (j : Int) < (nb : Int) := by omega
            go_wp2_with (go_at_call 14; refine (HP0 _ HR1.out).mono ?_; rintro e w3 ⟨rfl, hr3, hf3⟩)
            go_roundw
            case rel =>
              refine ⟨j + 1, by omega, by go_num, ⟨f1, m1 ++ [s], o1, ao1, cap1, rfl, hr3, TxAt.fz HT1.out hf3 l1 l2', ?_⟩, Nat.le_trans hBw1 hf3.1.size, HB1.out.trans (hf3.below hsz1 hwr hwp)⟩
              rw [HNX.out, ← HO1.out, List.append_assoc]
            case measure => simp [intOf]; omega
        · have hmn : m1.length = n := by omega
          obtain ⟨s0, m2, hm2⟩ : ∃ s0 m2, m1 = s0 :: m2 := by
            cases m1 with
            | nil => simp at hmn; omega
            | cons a b => exact ⟨a, b, rfl⟩
          have HP0 := fun W (hh : RgAt r p n f1 m1 W) => push_full r p n f1 m1 s W hh hmn
          have HAT : ∀ W, RgAt r p n f1 m1 W → Calls Try.prog 21 #[.pointer (some ⟨r, 0, none⟩), .int .i64 0] W _ := fun W hh => at_in r p n f1 m1 0 s0 W hh (by rw [hm2]; rfl)
          have HDR : ∀ W, RgAt r p n f1 m1 W → Calls Try.prog 16 #[.pointer (some ⟨r, 0, none⟩), .int .i64 1] W _ := fun W hh => drop_ok r p n f1 m1 1 W hh (by omega)
          have HM2 : Hid (o1 ++ [s0] ++ m1.drop 1 = l2.take j) := by
            show _ = _
            rw [← HO1.out, hm2]
            simp
          have hlj : o1.length < j := by omega
          obtain ⟨K, hK⟩ : ∃ K, o1.length = K := ⟨_, rfl⟩
          have HK : Hid _ := hK
          have HT1' : Hid (wr.ownsRow B 9 1 (.slice ao1 K cap1) K (strs o1)) := by rw [← hK]; exact HT1.out
          rw [hK] at hlj ⊢
          clear hm hln hlen hmn hm2 hK
          go_wp2_with (first
            | (go_at_call 14; refine (HP0 _ HR1.out).mono ?_; rintro e wr ⟨rfl, rfl⟩)
            | (go_at_call 21; refine (HAT _ HR1.out).mono ?_; rintro e w3 ⟨rfl, mm, rfl⟩)
            | (go_at_call 16; refine (HDR _ ?_).mono ?_; exact HR1.out.keep rfl rfl; rintro e w4 ⟨rfl, hr4, hf4⟩; have hf4' := ((Fz.refl r p wr).drewN mm).trans hf4)
            | (at_builtin; refine wpList_append_any rfl (.tmp 48) (.tmp 50) 35 rfl B 9 i0 _ 1 16 Try.underlying35 hi hz0 hz1 hz2 rfl (by decide) _ K (strs o1) rfl (World.ownsRow.alloc (owns_keep HT1'.out fun k hk hB => hf4'.2 k hk (by omega) (by omega)) _) (some ⟨w4.heap.size, 0, none⟩) 1 1 (strs [s0]) rfl (fun e => by cases e) (by rfl) (RowS.cells (row_block (heap_alloc_new w4 _) one_cell)) (strs_one _) (by unfold maxLen; omega) (by omega) (by have := hf4'.1.size; simp; omega) ?_
               intro v5 w5 ho5 hb5 hg5
               rw [← strs_app] at ho5
               obtain ⟨ao5, cap5, rfl, ht5⟩ := tx_of_owns ho5 (by simp [HK.out])
               clear ho5 hg5))
          go_roundw
          case rel =>
            have s4 := hf4'.1.size
            have hB4 : Below B w4 w5 := ((Below.refl B w4).alloc (by omega) _).trans hb5
            refine ⟨⟨_, m1.drop 1, o1 ++ [s0], ao5, cap5, by rw [List.length_append]; rfl, hr4.keep (hB4.block r l1) (hB4.block p l2'), ht5, HM2.out⟩, Nat.le_trans hBw1 (Nat.le_trans s4 hB4.size), (HB1.out.trans (hf4'.below hsz1 hwr hwp)).trans (hB4.mono hwB)⟩
          case measure =>
            show j - (o1.length + 1) < j - K
            rw [HK.out]
            omega
    · obtain rfl : j = N := by omega
      have hlt' : ¬ (j : Int) < (j : Int) := by omega
      have hsz := hbw.size
      have HRG : Hid _ := hrg
      have HTO : Hid (TxAt B ao' cap' o wr) := hto
      have HBW : Hid (Below w.heap.size w wr) := hbw
      have HOM : Hid (o ++ m = l2) := by
        show _ = _
        rw [hom, List.take_of_length_le (by rw [HN.out]; exact Nat.le_refl _)]
      have hln := hrg.ln
      have h64 := hrg.n64
      have hlen : o.length + m.length = j := by have := congrArg List.length HOM.out; rw [HN.out, List.length_append] at this; exact this
      have HCT : ∀ W, RgAt r p n f m W → Calls Try.prog 19 #[.pointer (some ⟨r, 0, none⟩), .int .i64 0] W fun e w' => TxRes W.heap.size m e w' ∧ RgAt r p n f [] w' ∧ Fz r p W w' := fun W hh => cut_any r p n f m 0 W hh
      have HN3 : ∀ W, RgAt r p n f [] W → Calls Try.prog 22 #[.pointer (some ⟨r, 0, none⟩)] W fun e w' => e = .returned (.int .i64 0) ∧ w' = W := fun W hh => len_any r p n f 0 W hh.hd
      have HSM := fun (x y : Option Addr) (c1 c2 : Nat) (W : World) h1 h2 => same_any x y c1 c2 l2 W h1 h2 (by rw [HN.out]; omega)
      rw [HN.out] at HSM
      obtain ⟨K, hK⟩ : ∃ K, o.length = K := ⟨_, rfl⟩
      obtain ⟨C, hC⟩ : ∃ C, m.length = C := ⟨_, rfl⟩
      have HK : Hid _ := hK
      have EC : Hid _ := hC
      rw [hK, hC] at hlen
      rw [hK]
      have HLE : Hid _ := hlen
      obtain ⟨hrl, hpl⟩ := hrg.lt
      clear hrg hto hbw hom hK hC hln hlen hlt
      go_wp2_with (first
        | (go_at_call 19; refine (HCT _ HRG.out).mono ?_; rintro e w4 ⟨⟨ao4, cap4, rfl, ht4⟩, hr4, hf4⟩; rw [EC.out]; have s4 := hf4.1.size; (have HN4 : Hid (ao4 = none → C = 0 ∧ cap4 = 0) := (fun e => by have := ht4.nil0 e; rw [EC.out] at this; omega)))
        | (at_builtin; refine wpList_append_any rfl (.tmp 78) (.tmp 80) 35 rfl B 9 i0 _ 1 16 Try.underlying35 hi hz0 hz1 hz2 rfl (by decide) _ K (strs o) rfl (by have := TxAt.fz HTO.out hf4 l1 l2'; unfold TxAt at this; rw [HK.out] at this; exact this) ao4 C cap4 (strs m) rfl HN4.out (by rw [strs_length, EC.out, Nat.mul_one]) (RowS.cells ht4.row) (strs_one _) (by have := HLE.out; unfold maxLen; omega) (by have := HLE.out; omega) (by omega) ?_
           intro v6 w6 ho6 hb6 hg6
           rw [← strs_app, HOM.out] at ho6
           obtain ⟨ao6, cap6, rfl, ht6⟩ := tx_of_owns ho6 (by rw [HN.out]; exact HLE.out)
           rw [HN.out]
           clear ho6 hg6)
        | (go_at_call 18; refine (HSM _ _ _ _ _ ?_ ?_).mono ?_; exact ht6.row; exact RowS.below HROW.out ((HBW.out.trans (hf4.below hsz hwr hwp)).trans (hb6.mono hwB)); rintro e w7 ⟨rfl, mm, rfl⟩)
        | (go_at_call 22; refine (HN3 _ ?_).mono ?_; exact hr4.keep (hb6.block r l1) (hb6.block p l2'); rintro e w7 ⟨rfl, rfl⟩))
      go_ret
      exact ⟨rfl, below_drewN ((HBW.out.trans (hf4.below hsz hwr hwp)).trans (hb6.mono hwB))⟩
end Go.Proofs.Ytdcocbichlmgfaa
