/-
  The walk of the statement RingRound over this program.
-/
import Derived.Test.YtdcocbichlmgfaaSc
namespace Go.Proofs.Ytdcocbichlmgfaa
open Go Go.RowKit
theorem pushN_one (n : Nat) (s : ByteArray) (hn : 0 < n) : (pushN n [] s).drop 1 = [] ∧ 1 ≤ (pushN n [] s).length := by
  unfold pushN
  rw [if_pos (by simpa using hn)]
  exact ⟨rfl, Nat.le_refl _⟩
set_option maxHeartbeats 2000000 in
theorem round_walk (zp z : Int) (ao : Option Addr) (cap : Nat) (l : List ByteArray) (w : World) (hrow : RowS w ao l) :
    Calls Try.prog 7 #[.int .i64 zp, .int .i64 z, .slice ao l.length cap] w fun e w' => e = .returned (.bool true) ∧ Below w.heap.size w w' := by
  have HROW : Hid _ := hrow
  obtain ⟨L, hL⟩ : ∃ L, l.length = L := ⟨_, rfl⟩
  rw [hL]
  have HLL : Hid _ := hL
  obtain ⟨N, hN⟩ : ∃ N : Nat, (IntKind.u64.wrap z).tmod 200 = (N : Int) := ⟨((IntKind.u64.wrap z).tmod 200).toNat, by
    rw [IntKind.wrap_u64, Int.tmod_eq_emod_of_nonneg (by omega)]; omega⟩
  have hN2 : N < 200 := by
    rw [IntKind.wrap_u64, Int.tmod_eq_emod_of_nonneg (by omega)] at hN; omega
  have hN3 : IntKind.i64.wrap (N : Int) = (N : Int) := by simp only [IntKind.wrap_i64]; omega
  clear hrow hL
  go_enter Try.func7, Try.ntmps7
  go_wp2_with (first
    | (go_at_call 9; refine (lives_any _).mono ?_; rintro e w1 ⟨rfl, hb1⟩)
    | (go_at_call 10; refine (new_any _ w2).mono ?_; rintro e w3 ⟨rfl, hr3, hb3⟩)
    | (go_at_call 10; refine (new_any _ _).mono ?_; rintro e w2 ⟨rfl, hr2, hb2⟩))
  have s1 := hb1.size
  have s2 := hb2.size
  obtain ⟨l1, l2⟩ := hr2.lt
  have n0 := (nz_b zp).1
  have HR2 : Hid _ := hr2.below hb3
  have HR3 : Hid _ := hr3
  have HB3 : Hid (Below w.heap.size w w3) := (hb1.trans (hb2.mono s1)).trans (hb3.mono (by omega))
  obtain ⟨p, hp⟩ : ∃ p, w1.heap.size = p := ⟨_, rfl⟩
  obtain ⟨r, hr⟩ : ∃ r, p + 1 = r := ⟨_, rfl⟩
  obtain ⟨p', hp'⟩ : ∃ p', w2.heap.size = p' := ⟨_, rfl⟩
  obtain ⟨r', hr'⟩ : ∃ r', p' + 1 = r' := ⟨_, rfl⟩
  rw [hp, hr] at HR2 ⊢
  rw [hp', hr'] at HR3 ⊢
  have q1 : w.heap.size ≤ p := by omega
  have q2 : w.heap.size ≤ r := by omega
  have q3 : w.heap.size ≤ p' := by omega
  have q4 : w.heap.size ≤ r' := by omega
  have d1 : r ≠ r' := by omega
  have d2 : r ≠ p' := by omega
  have d3 : p ≠ r' := by omega
  have d4 : p ≠ p' := by omega
  obtain ⟨n, hn⟩ : ∃ n, nz zp = n := ⟨_, rfl⟩
  rw [hn] at HR2 HR3 n0
  clear hr2 hb1 hb2 hp hr hn hr3 hb3 hp' hr' l1 l2 s1 s2
  go_loopw [9] (fun i wr => ∃ j : Nat, j ≤ N ∧ i = .int .i64 (j : Int) ∧ (∃ f, RgAt r p n f [] wr) ∧ RgAt r' p' n 0 [] wr ∧ Below w.heap.size w wr) (fun i _ => N - (intOf i).toNat)
  case atStart => exact ⟨0, Nat.zero_le _, rfl, ⟨0, HR2.out⟩, HR3.out, HB3.out⟩
  case round =>
    obtain ⟨j, hj, rfl, ⟨f, hrg⟩, hrg', hbw⟩ := hrel
    have hsz := hbw.size
    by_cases hlt : j < N
    · have hlt' : (j : Int) < (N : Int) := by omega
      obtain ⟨o1, o2⟩ := pushN_one n ⟨#[111, 108, 100]⟩ n0
      have HPU := fun W hh => push_ok r p n f [] ⟨#[111, 108, 100]⟩ W hh n0
      have HDR : ∀ W, RgAt r p n f ([] ++ [⟨#[111, 108, 100]⟩]) W → Calls Try.prog 16 #[.pointer (some ⟨r, 0, none⟩), .int .i64 1] W _ := fun W hh => drop_ok r p n f ([] ++ [⟨#[111, 108, 100]⟩]) 1 W hh (by decide)
      have HRG : Hid _ := hrg
      have HRG' : Hid _ := hrg'
      clear hrg hrg' o1 o2
      go_wp2_with (first
        | (go_at_call 14; refine (HPU _ HRG.out).mono ?_; rintro e w4 ⟨rfl, hr4, hf4⟩)
        | (go_at_call 16; refine (HDR _ hr4).mono ?_; rintro e w5 ⟨rfl, hr5, hf5⟩))
      have hf := hf4.trans hf5
      go_roundw
      case rel => exact ⟨j + 1, by omega, by go_num, ⟨_, hr5⟩, HRG'.out.fz hf d1.symm d3.symm d2.symm d4.symm, hbw.trans (hf.below hsz q2 q1)⟩
      case measure => simp [intOf]; omega
    · have hlt' : ¬ (j : Int) < (N : Int) := by omega
      have HRG : Hid _ := hrg
      have HRG' : Hid _ := hrg'
      have HBW : Hid _ := hbw
      clear hrg hrg' hbw hlt
      go_wp2_with fail
      go_loopw [10] (fun i ws => ∃ j : Nat, j ≤ L ∧ j ≤ 70 ∧ i = .int .i64 (j : Int) ∧ (∃ m, RgAt r p n f m ws ∧ RgAt r' p' n 0 m ws) ∧ Below w.heap.size w ws) (fun i _ => L - (intOf i).toNat)
      case atStart => exact ⟨0, Nat.zero_le _, Nat.zero_le _, rfl, ⟨[], HRG.out, HRG'.out⟩, HBW.out⟩
      case round =>
        obtain ⟨k, hk, hk7, rfl, ⟨m, hrg, hrg'⟩, hbw⟩ := hrel
        have hsz := hbw.size
        have HG1 : Hid _ := hrg
        have HG2 : Hid _ := hrg'
        by_cases hlt : k < L ∧ k < 70
        · obtain ⟨h1, h2⟩ := hlt
          obtain ⟨s, hs⟩ : ∃ s, l[k]? = some s := ⟨_, List.getElem?_eq_getElem (by rw [HLL.out]; exact h1)⟩
          obtain ⟨ad, rfl, c0⟩ := HROW.out k s hs
          have k0 : wr.cell? (ad.add k) = some (.string s) := (hbw.cell (World.block_lt_of_cell? w _ c0)).trans c0
          have h1' : (k : Int) < (L : Int) := by omega
          have h2' : (k : Int) < 70 := by omega
          have hj0 : (0 : Int) ≤ (k : Int) := by omega
          have HC0 : Hid ((ad.add k).block < w.heap.size) := World.block_lt_of_cell? w _ c0
          have HP1 := fun W hh => push_any r p n f m s W hh
          have HP2 := fun W hh => push_any r' p' n 0 m s W hh
          obtain ⟨b, hb⟩ : ∃ b, decide (m.length < n) = b := ⟨_, rfl⟩
          rw [hb] at HP1 HP2
          have HBB : Hid (Below w.heap.size w wr) := hbw
          clear hs c0 hrg hrg' hb hbw HBW HRG HRG'
          go_wp2_with fail
          go_region_with (first
            | (go_at_call_of 14 (Value.pointer (some ⟨r, 0, none⟩)); refine (HP1 _ ?_).mono ?_; exact HG1.out.keep rfl rfl; rintro e w4 ⟨rfl, hr4, hf4⟩; have hf4' := (Fz.refl r p wr).drew.trans hf4; have k4 : w4.cell? (ad.add k) = some (.string s) := (((hf4'.below hsz q2 q1).cell HC0.out).trans k0))
            | (go_at_call_of 14 (Value.pointer (some ⟨r', 0, none⟩)); refine (HP2 _ ?_).mono ?_; exact (HG2.out.fz hf4' d1.symm d3.symm d2.symm d4.symm); rintro e w5 ⟨rfl, hr5, hf5⟩; have k5 : w5.cell? (ad.add k) = some (.string s) := (((hf5.below (Nat.le_trans hsz hf4'.1.size) q4 q3).cell HC0.out).trans k4)))
          all_goals (
            go_wp2_with fail
            go_roundw
            case rel =>
              refine ⟨k + 1, by omega, by omega, by go_num, ⟨_, hr4.fz hf5 d1 d2 d3 d4, hr5⟩, ?_⟩
              exact (HBB.out.trans (hf4'.below hsz q2 q1)).trans (hf5.below (Nat.le_trans hsz hf4'.1.size) q4 q3)
            case measure => simp [intOf]; omega)
        · have hend : ¬ (k : Int) < (L : Int) ∨ ((k : Int) < (L : Int) ∧ ¬ (k : Int) < 70) := by omega
          have HBB : Hid (Below w.heap.size w wr) := hbw
          have h64 := hrg.n64
          have hln := hrg.ln
          obtain ⟨c, hc⟩ : ∃ c, m.length = c := ⟨_, rfl⟩
          have EC : Hid _ := hc
          have HL1 := fun W hh => list_any r p n f m W hh
          have HL2 := fun W hh => list_any r' p' n 0 m W hh
          have HN1 := fun W (hh : RgAt r p n f m W) => len_any r p n f m.length W hh.hd
          have HN2 := fun W (hh : RgAt r' p' n 0 m W) => len_any r' p' n 0 m.length W hh.hd
          have HSM := fun (x y : Option Addr) (c1 c2 : Nat) (W : World) h1 h2 => same_any x y c1 c2 m W h1 h2 (by omega)
          rw [hc] at HSM
          simp only [hc] at HN1 HN2
          clear hrg hrg' hbw HBW HRG HRG' hlt hc hln
          rcases hend with hend | ⟨he1, he2⟩ <;> (
            go_wp2_with (first
              | (go_at_call_of 24 (Value.pointer (some ⟨r, 0, none⟩)); refine (HL1 _ HG1.out).mono ?_; rintro e w4 ⟨⟨ao4, cap4, rfl, ht4⟩, hb4⟩; rw [EC.out])
              | (go_at_call_of 24 (Value.pointer (some ⟨r', 0, none⟩)); refine (HL2 _ (HG2.out.below hb4)).mono ?_; rintro e w5 ⟨⟨ao5, cap5, rfl, ht5⟩, hb5⟩; rw [EC.out]; have hb45 := hb4.trans (hb5.mono hb4.size))
              | (go_at_call 18; refine (HSM _ _ _ _ _ ?_ ?_).mono ?_; exact ht4.row.below hb5; exact ht5.row; rintro e w7 ⟨rfl, mm, rfl⟩)
              | (go_at_call_of 22 (Value.pointer (some ⟨r, 0, none⟩)); refine (HN1 _ ?_).mono ?_; exact (HG1.out.below hb45).keep rfl rfl; rintro e w7 ⟨rfl, rfl⟩)
              | (go_at_call_of 22 (Value.pointer (some ⟨r', 0, none⟩)); refine (HN2 _ ?_).mono ?_; exact (HG2.out.below hb45).keep rfl rfl; rintro e w7 ⟨rfl, rfl⟩))
            go_ret
            exact ⟨rfl, below_drewN (HBB.out.trans (hb45.mono hsz))⟩)
end Go.Proofs.Ytdcocbichlmgfaa
