/-
  The walk of the statement RingAt over this program.
-/
import Derived.Test.YtdcocbichlmgfaaSc
namespace Go.Proofs.Ytdcocbichlmgfaa
open Go Go.RowKit
theorem drop_any (r p n f : Nat) (l : List ByteArray) (k : Int) (w : World) (h : RgAt r p n f l w) :
    Calls Try.prog 16 #[.pointer (some ⟨r, 0, none⟩), .int .i64 k] w fun e w' => ∃ b f' l', e = .returned (.bool b) ∧ RgAt r p n f' l' w' ∧ Fz r p w w' := by
  by_cases hk : 0 ≤ k ∧ k ≤ l.length
  · obtain ⟨j, rfl⟩ : ∃ j : Nat, k = (j : Int) := ⟨k.toNat, by omega⟩
    exact (drop_ok r p n f l j w h (by omega)).mono fun e w' ⟨h1, h2, h3⟩ => ⟨_, _, _, h1, h2, h3⟩
  · refine (drop_bad r p n f l k w h hk).mono fun e w' ⟨h1, h2⟩ => ?_
    subst h2
    exact ⟨_, _, _, h1, h, Fz.refl _ _ _⟩
theorem RowS.tail {w : World} {g cap : Nat} {l : List ByteArray} {dp : Option Addr} (h : RowS w (some ⟨g, 0, none⟩) l) (hc : l.length ≤ cap) (hd : (if cap = 1 then some (⟨g, 0, none⟩ : Addr) else some ⟨g, 1, none⟩) = dp) : RowS w dp (l.drop 1) := by
  intro i s hs
  rw [List.getElem?_drop] at hs
  have hi := (List.getElem?_eq_some_iff.1 hs).1
  rw [if_neg (by omega)] at hd
  obtain ⟨ad, h1, h2⟩ := h (1 + i) s hs
  cases h1
  have e1 : (⟨g, 0, none⟩ : Addr).add (1 + i) = ⟨g, 1 + i, none⟩ := by unfold Addr.add; split <;> simp_all
  have e2 : (⟨g, 1, none⟩ : Addr).add i = ⟨g, 1 + i, none⟩ := by unfold Addr.add; split <;> simp_all
  exact ⟨_, hd.symm, by rw [e2, ← e1]; exact h2⟩
set_option maxHeartbeats 2000000 in
theorem at_walk (zp z : Int) (ao : Option Addr) (cap : Nat) (l : List ByteArray) (w : World) (hrow : RowS w ao l) :
    Calls Try.prog 8 #[.int .i64 zp, .slice ao l.length cap, .int .i64 z] w fun e w' => e = .returned (.bool true) ∧ Below w.heap.size w w' := by
  have HROW : Hid _ := hrow
  obtain ⟨L, hL⟩ : ∃ L, l.length = L := ⟨_, rfl⟩
  rw [hL]
  have HLL : Hid _ := hL
  clear hrow hL
  go_enter Try.func8, Try.ntmps8
  go_wp2_with (first
    | (go_at_call 9; refine (lives_any _).mono ?_; rintro e w1 ⟨rfl, hb1⟩)
    | (go_at_call 10; refine (new_any _ _).mono ?_; rintro e w2 ⟨rfl, hr2, hb2⟩))
  have HR2 : Hid _ := hr2
  have HB2 : Hid (Below w.heap.size w w2) := hb1.trans (hb2.mono hb1.size)
  obtain ⟨p, hp⟩ : ∃ p, w1.heap.size = p := ⟨_, rfl⟩
  have hwp : w.heap.size ≤ p := by have := hb1.size; omega
  rw [hp] at HR2 ⊢
  obtain ⟨r, hr⟩ : ∃ r, p + 1 = r := ⟨_, rfl⟩
  have hwr : w.heap.size ≤ r := by omega
  rw [hr] at HR2 ⊢
  obtain ⟨n, hn⟩ : ∃ n, nz zp = n := ⟨_, rfl⟩
  rw [hn] at HR2
  clear hr2 hb1 hb2 hp hr hn
  go_loopw [8] (fun i wr => ∃ j : Nat, j ≤ L ∧ j ≤ 100 ∧ i = .int .i64 (j : Int) ∧ (∃ f m, RgAt r p n f m wr) ∧ Below w.heap.size w wr) (fun i _ => L - (intOf i).toNat)
  case atStart => exact ⟨0, Nat.zero_le _, Nat.zero_le _, rfl, ⟨_, _, HR2.out⟩, HB2.out⟩
  case round =>
    obtain ⟨j, hj, hj6, rfl, ⟨f, m, hrg⟩, hbw⟩ := hrel
    have hsz := hbw.size
    by_cases hlt : j < L ∧ j < 100
    · obtain ⟨h1, h2⟩ := hlt
      obtain ⟨s, hs⟩ : ∃ s, l[j]? = some s := ⟨_, List.getElem?_eq_getElem (by rw [HLL.out]; exact h1)⟩
      obtain ⟨ad, rfl, c0⟩ := HROW.out j s hs
      have hlb := World.block_lt_of_cell? w _ c0
      have k0 : wr.cell? (ad.add j) = some (.string s) := (hbw.cell hlb).trans c0
      have h1' : (j : Int) < (L : Int) := by omega
      have h2' : (j : Int) < 100 := by omega
      have hj0 : (0 : Int) ≤ (j : Int) := by omega
      have HPA := fun W m f hh => push_any r p n f m s W hh
      have HP0 := fun W (hh : RgAt r p n f m W) hm => push_ok r p n f m s W hh hm
      have HP1 := fun W (hh : RgAt r p n f m W) hm => push_full r p n f m s W hh hm
      have hln := hrg.ln
      clear hs c0
      by_cases hm : m.length < n
      · have HM : Hid _ := hm
        clear hm
        go_wp2_with (go_at_call 14; refine (HP0 _ hrg HM.out).mono ?_; rintro e w3 ⟨rfl, hr3, hf3⟩)
        go_roundw
        case rel => exact ⟨j + 1, by omega, by omega, by go_num, ⟨_, _, hr3⟩, hbw.trans (hf3.below hsz hwr hwp)⟩
        case measure => simp [intOf]; omega
      · have HM : Hid (m.length = n) := by show _ = _; omega
        have HBW : Hid (Below w.heap.size w wr) := hbw
        have HRG : Hid (RgAt r p n f m wr) := hrg
        clear hm hln hbw hrg
        go_wp2_with (first
          | (go_at_call 14; refine (HPA _ _ _ hr4).mono ?_; rintro e w5 ⟨rfl, hr5, hf5⟩)
          | (go_at_call 14; refine (HP1 _ HRG.out HM.out).mono ?_; rintro e wr ⟨rfl, rfl⟩)
          | (go_at_call 16; refine (drop_any _ _ _ _ _ _ _ HRG.out).mono ?_; rintro e w4 ⟨b, f4, l4, rfl, hr4, hf4⟩; have k4 : w4.cell? (ad.add j) = some (.string s) := (((hf4.below hsz hwr hwp).cell hlb).trans k0)))
        have hf := hf4.trans hf5
        go_roundw
        case rel => exact ⟨j + 1, by omega, by omega, by go_num, ⟨_, _, hr5⟩, HBW.out.trans (hf.below hsz hwr hwp)⟩
        case measure => simp [intOf]; omega
    · have hend : ¬ (j : Int) < (L : Int) ∨ ((j : Int) < (L : Int) ∧ ¬ (j : Int) < 100) := by omega
      have HRG : Hid (RgAt r p n f m wr) := hrg
      have HBW : Hid (Below w.heap.size w wr) := hbw
      have HL1 := fun W hh => list_any r p n f m W hh
      have hln := hrg.ln
      have hn6 := hrg.n64
      obtain ⟨c, hc⟩ : ∃ c, m.length = c := ⟨_, rfl⟩
      have EC : Hid _ := hc
      rw [hc] at hln
      clear hlt hrg hbw hc
      have HN1 := fun W (hh : RgAt r p n f m W) => len_any r p n f m.length W hh.hd
      have HQ1 := fun W (hh : RgAt r p n f m W) => places_any r p n f m.length W hh.hd
      simp only [EC.out] at HN1 HQ1
      have c64 : c ≤ 64 := by omega
      rcases hend with hend | ⟨he1, he2⟩ <;> (
        go_wp2_with (go_at_call 24; refine (HL1 _ HRG.out).mono ?_; rintro e w3 ⟨⟨ao3, cap3, rfl, ht3⟩, hb3⟩; rw [EC.out])
        have HT3 : Hid (TxAt wr.heap.size ao3 cap3 m w3) := ht3
        have HB3 : Hid (Below wr.heap.size wr w3) := hb3
        have HR3 : Hid (RgAt r p n f m w3) := HRG.out.below hb3
        have s3 := hb3.size
        clear ht3 hb3
        go_loopw [10, 11, 12] (fun i _ _ ws => ∃ k : Nat, k ≤ c ∧ i = .int .i64 (k : Int) ∧ ∃ d, ws = w3.drewN d) (fun i _ _ _ => c - (intOf i).toNat)
        case atStart => exact ⟨0, Nat.zero_le _, rfl, 0, rfl⟩
        case round =>
          obtain ⟨k, hk, rfl, d, rfl⟩ := hrel
          by_cases hkc : k < c
          · obtain ⟨s, hs⟩ : ∃ s, m[k]? = some s := ⟨_, List.getElem?_eq_getElem (by rw [EC.out]; exact hkc)⟩
            obtain ⟨ad, rfl, k0⟩ := (TxAt.row HT3.out) k s hs
            have HAT := fun W hh => at_in r p n f m k s W hh hs
            have h1' : (k : Int) < (c : Int) := by omega
            have hj0 : (0 : Int) ≤ (k : Int) := by omega
            clear hs
            go_wp2_with (go_at_call 21; refine (HAT _ ?_).mono ?_; exact HR3.out.keep rfl rfl; rintro e w4 ⟨rfl, mm, rfl⟩)
            go_roundw
            case rel => exact ⟨k + 1, by omega, by go_num, _, rfl⟩
            case measure => simp [intOf]; omega
          · have h1' : ¬ (k : Int) < (c : Int) := by omega
            obtain ⟨hrl, hpl⟩ := HRG.out.lt
            by_cases hc0 : c = 0
            · have HD0 : ∀ W, RgAt r p n f m W → Calls Try.prog 16 #[.pointer (some ⟨r, 0, none⟩), .int .i64 1] W _ := fun W hh => drop_bad r p n f m 1 W hh (by rw [EC.out]; omega)
              have hcb : ((c : Int) == 0) = true := by simp; omega
              have HAO : ¬ (0 ≤ z ∧ z < (c : Int)) → ∀ W, RgAt r p n f m W → Calls Try.prog 21 #[.pointer (some ⟨r, 0, none⟩), .int .i64 z] W _ := fun hz W hh => at_out r p n f m z W hh (by rw [EC.out]; exact hz)
              have hcn : ¬ (n : Int) < (c : Int) := by omega
              by_cases hz : z < 0
              · have hz' : ¬ 0 ≤ z := by omega
                have HAT := HAO (by omega)
                clear HAO hc0
                go_wp2_with (first
                  | (go_at_call 21; refine (HAT _ ?_).mono ?_; exact HR3.out.keep rfl rfl; rintro e w4 ⟨rfl, rfl⟩)
                  | (go_at_call 22; refine (HN1 _ ?_).mono ?_; exact HR3.out.keep rfl rfl; rintro e w4 ⟨rfl, rfl⟩)
                  | (go_at_call 23; refine (HQ1 _ ?_).mono ?_; exact HR3.out.keep rfl rfl; rintro e w4 ⟨rfl, rfl⟩)
                  | (go_at_call 16; refine (HD0 _ ?_).mono ?_; exact HR3.out.keep rfl rfl; rintro e w5 ⟨rfl, rfl⟩))
                go_ret
                exact ⟨rfl, below_drewN (HBW.out.trans (HB3.out.mono hsz))⟩
              · have hz' : 0 ≤ z := by omega
                have hz2 : ¬ z < (c : Int) := by omega
                have HAT := HAO (by omega)
                clear HAO hc0
                go_wp2_with (first
                  | (go_at_call 21; refine (HAT _ ?_).mono ?_; exact HR3.out.keep rfl rfl; rintro e w4 ⟨rfl, rfl⟩)
                  | (go_at_call 22; refine (HN1 _ ?_).mono ?_; exact HR3.out.keep rfl rfl; rintro e w4 ⟨rfl, rfl⟩)
                  | (go_at_call 23; refine (HQ1 _ ?_).mono ?_; exact HR3.out.keep rfl rfl; rintro e w4 ⟨rfl, rfl⟩)
                  | (go_at_call 16; refine (HD0 _ ?_).mono ?_; exact HR3.out.keep rfl rfl; rintro e w5 ⟨rfl, rfl⟩))
                go_ret
                exact ⟨rfl, below_drewN (HBW.out.trans (HB3.out.mono hsz))⟩
            · have HD1 : ∀ W, RgAt r p n f m W → Calls Try.prog 16 #[.pointer (some ⟨r, 0, none⟩), .int .i64 1] W _ := fun W hh => drop_ok r p n f m 1 W hh (by rw [EC.out]; omega)
              have hcn : ¬ (n : Int) < (c : Int) := by omega
              have HL5 := fun W hh => list_any r p n ((f + 1) % n) (m.drop 1) W hh
              obtain ⟨c1, hc1⟩ : ∃ c1, c - 1 = c1 := ⟨_, rfl⟩
              have EC1 : Hid ((m.drop 1).length = c1) := by show _ = _; rw [List.length_drop, EC.out]; exact hc1
              have HSM := fun (x y : Option Addr) (k1 k2 : Nat) (W : World) h1 h2 => same_any x y k1 k2 (m.drop 1) W h1 h2 (by rw [EC1.out]; omega)
              rw [EC1.out] at HSM
              obtain ⟨g, hg⟩ : ∃ g, ao3 = some ⟨g, 0, none⟩ := by
                rcases (HT3.out).2 with ⟨_, h2⟩ | ⟨g, cap', cur, h1, _⟩
                · rw [EC.out] at h2; omega
                · exact ⟨g, (Value.slice.inj h1).1⟩
              subst hg
              have HCAP : Hid (m.length ≤ cap3) := by
                rcases (HT3.out).2 with ⟨h1, _⟩ | ⟨g', cap', cur, h1, _, _, h4, _⟩
                · cases (Value.slice.inj h1).1
                · rw [(Value.slice.inj h1).2.2]; exact h4
              have hcap : c ≤ cap3 := by have := HCAP.out; rw [EC.out] at this; exact this
              obtain ⟨dp, hdp⟩ : ∃ dp, (if cap3 = 1 then some (⟨g, 0, none⟩ : Addr) else some ⟨g, 1, none⟩) = dp := ⟨_, rfl⟩
              have HDP : Hid _ := hdp
              have hc1' : (1 : Int) ≤ (c : Int) := by omega
              have HAO : ¬ (0 ≤ z ∧ z < (c : Int)) → ∀ W, RgAt r p n f m W → Calls Try.prog 21 #[.pointer (some ⟨r, 0, none⟩), .int .i64 z] W _ := fun hz W hh => at_out r p n f m z W hh (by rw [EC.out]; exact hz)
              by_cases hz : z < 0
              · have hz' : ¬ 0 ≤ z := by omega
                have HAT := HAO (by omega)
                clear HAO hc0
                go_wp2_with (first
                  | (go_at_call 21; refine (HAT _ ?_).mono ?_; exact HR3.out.keep rfl rfl; rintro e w4 ⟨rfl, rfl⟩)
                  | (go_at_call 22; refine (HN1 _ ?_).mono ?_; exact HR3.out.keep rfl rfl; rintro e w4 ⟨rfl, rfl⟩)
                  | (go_at_call 23; refine (HQ1 _ ?_).mono ?_; exact HR3.out.keep rfl rfl; rintro e w4 ⟨rfl, rfl⟩)
                  | (go_at_call 16; refine (HD1 _ ?_).mono ?_; exact HR3.out.keep rfl rfl; rintro e w5 ⟨rfl, hr5, hf5⟩))
                have hf5' := ((Fz.refl r p w3).drewN _).trans hf5
                have HTT : Hid (TxAt wr.heap.size (some ⟨g, 0, none⟩) cap3 m w5) := TxAt.fz HT3.out hf5' hrl hpl
                have HR5 : Hid _ := hr5
                have HF5 : Hid (Fz r p w3 w5) := hf5'
                have s5 := hf5'.1.size
                have hB3 : w.heap.size ≤ w3.heap.size := Nat.le_trans hsz s3
                have hB5 : w.heap.size ≤ w5.heap.size := Nat.le_trans hB3 s5
                clear hf5 hf5' hr5
                go_region_with (first
                  | (go_at_call 24; refine (HL5 _ ?_).mono ?_; exact HR5.out.keep rfl rfl; rintro e w6 ⟨⟨ao6, cap6, rfl, ht6⟩, hb6⟩; rw [EC1.out])
                  | (go_at_call 18; refine (HSM _ _ _ _ _ ?_ ?_).mono ?_; exact ht6.row; exact RowS.tail (RowS.below (TxAt.row HTT.out) ((Below.refl _ w5).drew.trans hb6)) HCAP.out HDP.out; rintro e w7 ⟨rfl, mm, rfl⟩))
                all_goals (
                  go_wp2_with fail
                  go_ret
                  exact ⟨rfl, below_drewN (((HBW.out.trans (HB3.out.mono hsz)).trans (Fz.below HF5.out hB3 hwr hwp)).trans (((Below.refl _ w5).drew.trans hb6).mono hB5))⟩)
              · by_cases hz2 : z < (c : Int)
                · obtain ⟨q, rfl⟩ : ∃ q : Nat, z = (q : Int) := ⟨z.toNat, by omega⟩
                  obtain ⟨s, hs⟩ : ∃ s, m[q]? = some s := ⟨_, List.getElem?_eq_getElem (by rw [EC.out]; omega)⟩
                  have HAT := fun W hh => at_in r p n f m q s W hh hs
                  have hz' : 0 ≤ (q : Int) := by omega
                  clear HAO hc0 hs
                  go_wp2_with (first
                    | (go_at_call 21; refine (HAT _ ?_).mono ?_; exact HR3.out.keep rfl rfl; rintro e w4 ⟨rfl, mq, rfl⟩)
                    | (go_at_call 22; refine (HN1 _ ?_).mono ?_; exact HR3.out.keep rfl rfl; rintro e w4 ⟨rfl, rfl⟩)
                    | (go_at_call 23; refine (HQ1 _ ?_).mono ?_; exact HR3.out.keep rfl rfl; rintro e w4 ⟨rfl, rfl⟩)
                    | (go_at_call 16; refine (HD1 _ ?_).mono ?_; exact HR3.out.keep rfl rfl; rintro e w5 ⟨rfl, hr5, hf5⟩))
                  have hf5' := ((Fz.refl r p w3).drewN _).trans hf5
                  have HTT : Hid (TxAt wr.heap.size (some ⟨g, 0, none⟩) cap3 m w5) := TxAt.fz HT3.out hf5' hrl hpl
                  have HR5 : Hid _ := hr5
                  have HF5 : Hid (Fz r p w3 w5) := hf5'
                  have s5 := hf5'.1.size
                  have hB3 : w.heap.size ≤ w3.heap.size := Nat.le_trans hsz s3
                  have hB5 : w.heap.size ≤ w5.heap.size := Nat.le_trans hB3 s5
                  clear hf5 hf5' hr5
                  go_region_with (first
                    | (go_at_call 24; refine (HL5 _ ?_).mono ?_; exact HR5.out.keep rfl rfl; rintro e w6 ⟨⟨ao6, cap6, rfl, ht6⟩, hb6⟩; rw [EC1.out])
                    | (go_at_call 18; refine (HSM _ _ _ _ _ ?_ ?_).mono ?_; exact ht6.row; exact RowS.tail (RowS.below (TxAt.row HTT.out) ((Below.refl _ w5).drew.trans hb6)) HCAP.out HDP.out; rintro e w7 ⟨rfl, mm, rfl⟩))
                  all_goals (
                    go_wp2_with fail
                    go_ret
                    exact ⟨rfl, below_drewN (((HBW.out.trans (HB3.out.mono hsz)).trans (Fz.below HF5.out hB3 hwr hwp)).trans (((Below.refl _ w5).drew.trans hb6).mono hB5))⟩)
                · have hz' : 0 ≤ z := by omega
                  have HAT := HAO (by omega)
                  clear HAO hc0
                  go_wp2_with (first
                    | (go_at_call 21; refine (HAT _ ?_).mono ?_; exact HR3.out.keep rfl rfl; rintro e w4 ⟨rfl, rfl⟩)
                    | (go_at_call 22; refine (HN1 _ ?_).mono ?_; exact HR3.out.keep rfl rfl; rintro e w4 ⟨rfl, rfl⟩)
                    | (go_at_call 23; refine (HQ1 _ ?_).mono ?_; exact HR3.out.keep rfl rfl; rintro e w4 ⟨rfl, rfl⟩)
                    | (go_at_call 16; refine (HD1 _ ?_).mono ?_; exact HR3.out.keep rfl rfl; rintro e w5 ⟨rfl, hr5, hf5⟩))
                  have hf5' := ((Fz.refl r p w3).drewN _).trans hf5
                  have HTT : Hid (TxAt wr.heap.size (some ⟨g, 0, none⟩) cap3 m w5) := TxAt.fz HT3.out hf5' hrl hpl
                  have HR5 : Hid _ := hr5
                  have HF5 : Hid (Fz r p w3 w5) := hf5'
                  have s5 := hf5'.1.size
                  have hB3 : w.heap.size ≤ w3.heap.size := Nat.le_trans hsz s3
                  have hB5 : w.heap.size ≤ w5.heap.size := Nat.le_trans hB3 s5
                  clear hf5 hf5' hr5
                  go_region_with (first
                    | (go_at_call 24; refine (HL5 _ ?_).mono ?_; exact HR5.out.keep rfl rfl; rintro e w6 ⟨⟨ao6, cap6, rfl, ht6⟩, hb6⟩; rw [EC1.out])
                    | (go_at_call 18; refine (HSM _ _ _ _ _ ?_ ?_).mono ?_; exact ht6.row; exact RowS.tail (RowS.below (TxAt.row HTT.out) ((Below.refl _ w5).drew.trans hb6)) HCAP.out HDP.out; rintro e w7 ⟨rfl, mm, rfl⟩))
                  all_goals (
                    go_wp2_with fail
                    go_ret
                    exact ⟨rfl, below_drewN (((HBW.out.trans (HB3.out.mono hsz)).trans (Fz.below HF5.out hB3 hwr hwp)).trans (((Below.refl _ w5).drew.trans hb6).mono hB5))⟩))
end Go.Proofs.Ytdcocbichlmgfaa
