/-
  The walk of the statement RingCuts over this program.
-/
import Derived.Test.YtdcocbichlmgfaaSc
namespace Go.Proofs.Ytdcocbichlmgfaa
open Go Go.RowKit
set_option maxHeartbeats 2000000 in
theorem cuts_walk (zp z : Int) (ao : Option Addr) (cap : Nat) (l : List ByteArray) (w : World) (hrow : RowS w ao l) :
    Calls Try.prog 5 #[.int .i64 zp, .slice ao l.length cap, .int .i64 z] w fun e w' => e = .returned (.bool true) ∧ Below w.heap.size w w' := by
  obtain ⟨i0, hi, hz0, hz1, hz2⟩ := info_parts info9
  have HROW : Hid _ := hrow
  obtain ⟨L, hL⟩ : ∃ L, l.length = L := ⟨_, rfl⟩
  rw [hL]
  have HLL : Hid _ := hL
  clear hrow hL
  go_enter Try.func5, Try.ntmps5
  go_wp2_with (first
    | (go_at_call 9; refine (lives_any _).mono ?_; rintro e w1 ⟨rfl, hb1⟩)
    | (go_at_call 10; refine (new_any _ _).mono ?_; rintro e w2 ⟨rfl, hr2, hb2⟩))
  have HR2 : Hid _ := hr2
  have HB2 : Hid (Below w.heap.size w w2) := hb1.trans (hb2.mono hb1.size)
  obtain ⟨p, hp⟩ : ∃ p, w1.heap.size = p := ⟨_, rfl⟩
  have hwp : w.heap.size ≤ p := by have := hb1.size; omega
  rw [hp] at HR2 ⊢
  obtain ⟨r, hr⟩ : ∃ r, p + 1 = r := ⟨_, rfl⟩
  have hwr : w.heap.size ≤ r := by omega
  rw [hr] at HR2 ⊢
  obtain ⟨n, hn⟩ : ∃ n, nz zp = n := ⟨_, rfl⟩
  rw [hn] at HR2
  clear hr2 hb1 hb2 hp hr hn
  go_loopw [8] (fun i wr => ∃ j : Nat, j ≤ L ∧ j ≤ 64 ∧ i = .int .i64 (j : Int) ∧ (∃ m, RgAt r p n 0 m wr) ∧ Below w.heap.size w wr) (fun i _ => L - (intOf i).toNat)
  case atStart => exact ⟨0, Nat.zero_le _, Nat.zero_le _, rfl, ⟨_, HR2.out⟩, HB2.out⟩
  case round =>
    obtain ⟨j, hj, hj6, rfl, ⟨m, hrg⟩, hbw⟩ := hrel
    by_cases hlt : j < L ∧ j < 64
    · obtain ⟨h1, h2⟩ := hlt
      obtain ⟨s, hs⟩ : ∃ s, l[j]? = some s := ⟨_, List.getElem?_eq_getElem (by rw [HLL.out]; exact h1)⟩
      obtain ⟨ad, rfl, c0⟩ := HROW.out j s hs
      have k0 : wr.cell? (ad.add j) = some (.string s) := (hbw.cell (World.block_lt_of_cell? w _ c0)).trans c0
      have h1' : (j : Int) < (L : Int) := by omega
      have h2' : (j : Int) < 64 := by omega
      have hj0 : (0 : Int) ≤ (j : Int) := by omega
      have hsz := hbw.size
      clear hs c0
      go_wp2_with (go_at_call 14; refine (push_any _ _ _ _ _ _ _ hrg).mono ?_; rintro e w3 ⟨rfl, hr3, hf3⟩)
      go_roundw
      case rel => exact ⟨j + 1, by omega, by omega, by go_num, ⟨_, hr3⟩, hbw.trans (hf3.below hsz hwr hwp)⟩
      case measure => simp [intOf]; omega
    · have hend : ¬ (j : Int) < (L : Int) ∨ ((j : Int) < (L : Int) ∧ ¬ (j : Int) < 64) := by omega
      have HRG : Hid _ := hrg
      have hsz := hbw.size
      have h64 := hrg.n64
      have hln := hrg.ln
      have HBW : Hid (Below w.heap.size w wr) := hbw
      obtain ⟨c, hc⟩ : ∃ c, m.length = c := ⟨_, rfl⟩
      obtain ⟨a, ha⟩ : ∃ a, (m.take z.toNat).length = a := ⟨_, rfl⟩
      obtain ⟨b, hb⟩ : ∃ b, (m.drop z.toNat).length = b := ⟨_, rfl⟩
      have EC : Hid _ := hc
      have EA : Hid _ := ha
      have EB : Hid _ := hb
      rw [List.length_take, hc] at ha
      rw [List.length_drop, hc] at hb
      have hab : c = a + b := by omega
      have hc6 : c ≤ 64 := by omega
      have HAB : Hid _ := hab
      have hsub : (c : Int) - (b : Int) = (a : Int) := by omega
      have hmin : ¬ z < 0 → (if (c : Int) < z then (c : Int) else z) = (a : Int) := by intro h0; split <;> omega
      have HL1 := fun W (hh : RgAt r p n 0 m W) => list_any r p n 0 m W hh
      have HL2 := fun W (hh : RgAt r p n 0 (m.take z.toNat) W) => list_any r p n 0 (m.take z.toNat) W hh
      have HCT := fun W (hh : RgAt r p n 0 m W) => cut_any r p n 0 m z W hh
      have HLN := fun W (hh : RgAt r p n 0 (m.take z.toNat) W) => len_any r p n 0 (m.take z.toNat).length W hh.hd
      have HSM := fun (x y : Option Addr) (c1 c2 : Nat) (W : World) h1 h2 => same_any x y c1 c2 m W h1 h2 (by omega)
      have HTD : Hid (m.take z.toNat ++ m.drop z.toNat = m) := List.take_append_drop _ _
      rw [hc] at HSM
      simp only [EA.out] at HLN
      clear hlt hbw hrg hc ha hb hab hln
      obtain ⟨lt, hlt⟩ : ∃ lt, m.take z.toNat = lt := ⟨_, rfl⟩
      obtain ⟨ld, hld⟩ : ∃ ld, m.drop z.toNat = ld := ⟨_, rfl⟩
      simp only [hlt, hld] at HTD HLN HCT HL2 EA EB
      clear hlt hld
      obtain ⟨hrl, hpl⟩ := HRG.out.lt
      by_cases hzz : z < 0
      · clear hmin
        rcases hend with hend | ⟨he1, he2⟩ <;> (
          go_wp2_with (first
            | (go_at_call 24; refine (HL2 _ hr4).mono ?_; rintro e w5 ⟨⟨ao5, cap5, rfl, ht5⟩, hb5⟩; (have ho5 := ht5; unfold TxAt at ho5; rw [EA.out] at ho5 ⊢); have hn4 := ht4.nil0; rw [EB.out] at hn4; (have HN4 : Hid _ := hn4); (have HO5 : Hid _ := ho5); have HR4 : Hid _ := (ht4.row.below hb5).cells; clear ho5 hn4)
            | (go_at_call 24; refine (HL1 _ HRG.out).mono ?_; rintro e w3 ⟨⟨ao3, cap3, rfl, ht3⟩, hb3⟩; rw [EC.out])
            | (go_at_call 19; refine (HCT _ (HRG.out.below hb3)).mono ?_; rintro e w4 ⟨⟨ao4, cap4, rfl, ht4⟩, hr4, hf4⟩; rw [EB.out])
            | (at_builtin; refine wpList_append_any rfl (.tmp 39) (.tmp 40) 35 rfl w4.heap.size 9 i0 _ 1 16 Try.underlying35 hi hz0 hz1 hz2 rfl (by decide) _ a (strs lt) rfl HO5.out ao4 b cap4 (strs ld) rfl HN4.out (by rw [strs_length, EB.out, Nat.mul_one]) HR4.out (strs_one _) (by have := HAB.out; unfold maxLen; omega) (by have := HAB.out; omega) hb5.size ?_
               intro v6 w6 ho6 hb6 hg6
               rw [← strs_app, HTD.out] at ho6
               obtain ⟨ao6, cap6, rfl, ht6⟩ := tx_of_owns ho6 (by rw [EC.out, HAB.out])
               rw [EC.out]
               clear ho6 hg6)
            | (go_at_call 18; refine (HSM _ _ _ _ _ ?_ ?_).mono ?_; exact ht6.row; exact (ht3.fz hf4 hrl hpl).row.below ((hb5.trans hb6)); rintro e w7 ⟨rfl, mm, rfl⟩)
            | (go_at_call 22; refine (HLN _ ?_).mono ?_; exact (hr4.below (hb5.trans hb6)).keep rfl rfl; rintro e w7 ⟨rfl, rfl⟩))
          go_ret
          have s3 := hb3.size
          have s4 := hf4.1.size
          have s5 := hb5.size
          exact ⟨rfl, below_drewN ((((HBW.out.trans (hb3.mono hsz)).trans (hf4.below (by omega) hwr hwp)).trans (hb5.mono (by omega))).trans (hb6.mono (by omega)))⟩)
      · have hmin' := hmin hzz
        clear hmin
        rcases hend with hend | ⟨he1, he2⟩ <;> (
          go_wp2_with (first
            | (go_at_call 24; refine (HL2 _ hr4).mono ?_; rintro e w5 ⟨⟨ao5, cap5, rfl, ht5⟩, hb5⟩; (have ho5 := ht5; unfold TxAt at ho5; rw [EA.out] at ho5 ⊢); have hn4 := ht4.nil0; rw [EB.out] at hn4; (have HN4 : Hid _ := hn4); (have HO5 : Hid _ := ho5); have HR4 : Hid _ := (ht4.row.below hb5).cells; clear ho5 hn4)
            | (go_at_call 24; refine (HL1 _ HRG.out).mono ?_; rintro e w3 ⟨⟨ao3, cap3, rfl, ht3⟩, hb3⟩; rw [EC.out])
            | (go_at_call 19; refine (HCT _ (HRG.out.below hb3)).mono ?_; rintro e w4 ⟨⟨ao4, cap4, rfl, ht4⟩, hr4, hf4⟩; rw [EB.out])
            | (at_builtin; refine wpList_append_any rfl (.tmp 39) (.tmp 40) 35 rfl w4.heap.size 9 i0 _ 1 16 Try.underlying35 hi hz0 hz1 hz2 rfl (by decide) _ a (strs lt) rfl HO5.out ao4 b cap4 (strs ld) rfl HN4.out (by rw [strs_length, EB.out, Nat.mul_one]) HR4.out (strs_one _) (by have := HAB.out; unfold maxLen; omega) (by have := HAB.out; omega) hb5.size ?_
               intro v6 w6 ho6 hb6 hg6
               rw [← strs_app, HTD.out] at ho6
               obtain ⟨ao6, cap6, rfl, ht6⟩ := tx_of_owns ho6 (by rw [EC.out, HAB.out])
               rw [EC.out]
               clear ho6 hg6)
            | (go_at_call 18; refine (HSM _ _ _ _ _ ?_ ?_).mono ?_; exact ht6.row; exact (ht3.fz hf4 hrl hpl).row.below ((hb5.trans hb6)); rintro e w7 ⟨rfl, mm, rfl⟩)
            | (go_at_call 22; refine (HLN _ ?_).mono ?_; exact (hr4.below (hb5.trans hb6)).keep rfl rfl; rintro e w7 ⟨rfl, rfl⟩))
          go_ret
          have s3 := hb3.size
          have s4 := hf4.1.size
          have s5 := hb5.size
          exact ⟨rfl, below_drewN ((((HBW.out.trans (hb3.mono hsz)).trans (hf4.below (by omega) hwr hwp)).trans (hb5.mono (by omega))).trans (hb6.mono (by omega)))⟩)
end Go.Proofs.Ytdcocbichlmgfaa
