/-
  The walk of the statement TagsPieces over this program, where the list of integers has at most 200 of them: it returns true.
-/
import Derived.Test.YtdoekpodichhdaaDoorLawg
namespace Go.Proofs.YtdoekpodichhdaaDoor
open Go.RowKit
set_option maxHeartbeats 8000000 in
set_option maxRecDepth 100000 in
theorem pieces_small (s : ByteArray) (aoC : Option Addr) (nC capC : Nat) (zs : List Int) (w : World) (hT : Tabs w) (hs : s.size ≤ maxLen) (hbig : nC ≤ 200) (hcell : ∀ i, i < nC → ∃ ad, aoC = some ad ∧ w.cell? (ad.add i) = some (.int .i64 (zs.getD i 0))) :
    Calls Tryd.prog 4 #[.string s, .slice aoC nC capC] w fun e w' => e = .returned (.bool true) ∧ Below w.heap.size w w' := by
  have hT3 := hT.size
  obtain ⟨u, hu, E1⟩ := early_at s hs
  have H0 := lives_any w hT
  obtain ⟨i0, hi, hz0, hz1, hz2⟩ := info_parts info44
  obtain ⟨⟨⟨h, tg, er⟩, l⟩, hF⟩ : ∃ p, feedN st0 u.data.toList = p := ⟨_, rfl⟩
  have HF : Hid _ := hF
  have HCL : Hid _ := hcell
  clear hs hF hcell
  go_enter Tryd.func4, Tryd.ntmps4
  go_wp2_with (first | (go_at_call 9; refine H0.mono ?_; rintro e w1 ⟨rfl, hb1⟩) | (go_at_call 10; refine (E1 _).mono ?_; rintro e w' ⟨rfl, hw⟩; rw [hw]) | (go_at_call 11; refine (new_any _).mono ?_; rintro e w' ⟨rfl, hw⟩; rw [hw]))
  obtain ⟨x1, x2⟩ := two_new w1
  have hs1 := hb1.size
  have hb3 := (hb1.alloc hs1 (.cells #[.slice none 0 0, .bool false, .int .i64 0] 49)).alloc (by simp; omega) (.cells #[.slice none 0 0, .bool false, .int .i64 0] 49)
  refine (feed_at w.heap.size w1.heap.size st0 _ _ u HF.out _ (x1.rdr hs1) ok_st0 (hT.below hT3 hb3) hT3 (by omega)).mono ?_
  rintro e w2 ⟨⟨ao2, n2, cap2, rfl, t2⟩, r2, f2⟩
  have y2 := x2.fr f2 (by omega)
  have hb4 := hb3.trans f2.1
  have t2' : ToksAt 44 w.heap.size (.slice ao2 n2 cap2) l w2 := t2.base (by simp; omega)
  have hlt2 : Hid (∀ k, (Value.slice ao2 n2 cap2).ownBlock = some k → k < w2.heap.size) := fun k hk => (t2.choose_spec.1.lt k hk).2
  have hmid : Mid w w2 w1.heap.size (w1.heap.size + 1) (.slice ao2 n2 cap2) u [] u (.slice none 0 0) w2 := by
    refine ⟨rfl, ToksAt.nil _ _ _, y2.rdr (by omega), ?_, ?_, hb4, Nat.le_refl _⟩
    · rw [HF.out]; exact t2'
    · rw [HF.out]; exact r2.heldIs
  clear H0 E1 x1 x2 t2 t2' r2 f2 y2 hb3
  go_wp2
  go_loopw [9, 10, 11, 12] (fun vb f rest i wr => ∃ (k : Nat) (pre : List UInt8) (x : ByteArray) (ao : Option Addr) (n cap : Nat), k ≤ nC ∧ i = .int .i64 k ∧ rest = .string x ∧ vb = .slice ao n cap ∧ f = .int .i64 (feedN st0 pre).1.err ∧ Mid w w2 w1.heap.size (w1.heap.size + 1) (.slice ao2 n2 cap2) u pre x (.slice ao n cap) wr) (fun _ _ _ i _ => nC - (intOf i).toNat)
  case atStart => exact ⟨0, [], u, none, 0, 0, Nat.zero_le _, rfl, rfl, rfl, rfl, hmid⟩
  case round =>
    obtain ⟨k, pre, x, ao, n, cap, hk, rfl, rfl, rfl, rfl, hm⟩ := hrel
    have hcl := congrArg List.length hm.cut
    rw [List.length_append, ← size_list, ← size_list] at hcl
    have hxs : x.size ≤ u.size := by omega
    obtain ⟨⟨⟨h', tg', er'⟩, l'⟩, hP⟩ : ∃ p, feedN st0 pre = p := ⟨_, rfl⟩
    have hR := hm.rdr
    have hTk := hm.toks
    rw [hP] at hR hTk
    have hO := ok_feed pre st0 ok_st0
    rw [hP] at hO
    have hll : l'.length ≤ 6000 := by
      have := feedN_len pre st0
      rw [hP] at this
      simp only at this
      omega
    have HP : Hid _ := hP
    simp only [hP]
    have hbm := hm.below
    obtain ⟨cs2, kr⟩ := hR.block
    clear hP hcl
    by_cases hlt : k < nC
    · have hkn : k < nC := by omega
      obtain ⟨ad, rfl, hc0⟩ := HCL.out k hkn
      have hcb := World.block_lt_of_cell? w _ hc0
      obtain ⟨c, hc⟩ : ∃ c, zs.getD k 0 = c := ⟨_, rfl⟩
      rw [hc] at hc0
      have c0 : wr.cell? (ad.add k) = some (.int .i64 c) := (hbm.cell hcb).trans hc0
      obtain ⟨q, hq, hqe⟩ := mod_cut c x.size (by omega)
      have hxq : (x.extract 0 q).data.toList = x.data.toList.take q := take_list x q
      have hxd : (x.extract q x.size).data.toList = x.data.toList.drop q := by
        rw [Lib.extract_data]
        exact List.take_of_length_le (by simp)
      have hxz : (x.extract 0 q).size ≤ 100000 := by
        have := congrArg List.length hxq
        rw [← size_list, List.length_take] at this
        omega
      obtain ⟨⟨S2, l2⟩, hG⟩ : ∃ p, feedN ⟨h', tg', er'⟩ (x.extract 0 q).data.toList = p := ⟨_, rfl⟩
      have H1 := feed_at w.heap.size (w1.heap.size + 1) ⟨h', tg', er'⟩ S2 l2 (x.extract 0 q) hG wr hR hO (hT.below hT3 hbm) hT3 hxz
      have hl2 : l2.length ≤ 6000 := by
        have := feedN_len (x.extract 0 q).data.toList ⟨h', tg', er'⟩
        rw [hG, hxq, List.length_take, ← size_list] at this
        simp only at this
        omega
      have HFP : Hid (feedN st0 (pre ++ x.data.toList.take q) = (S2, l' ++ l2)) := by
        show _ = _
        rw [feedN_app, HP.out]
        simp only
        rw [← hxq, hG]
      have HCUT : Hid (u.data.toList = (pre ++ x.data.toList.take q) ++ (x.extract q x.size).data.toList) := by
        show _ = _
        rw [hxd, List.append_assoc, List.take_append_drop]
        exact hm.cut
      have h2 : (k : Int) < 200 := by omega
      clear hG hxq hxd hc hc0 hcb
      go_wp2_with (go_at_call 12; refine H1.mono ?_)
      rintro e w3 ⟨⟨ao3, n3, cap3, rfl, t3⟩, r3, f3⟩
      have tb := hTk.fr (by decide) f3 kr (by decide) (by decide)
      have tl : ToksAt 44 w2.heap.size (.slice ao3 n3 cap3) l2 w3 := t3.base hm.size
      have to := hm.one.fr (by decide) f3 kr (by decide) (by decide)
      have hh := hm.held.fr f3 (by omega)
      have hb5 := hbm.trans f3.1
      have hsz : w2.heap.size ≤ w3.heap.size := by have := hm.size; have := f3.1.size; omega
      have TB : Hid _ := tb
      have TL : Hid _ := tl
      have TO : Hid _ := to
      have HHD : Hid _ := hh
      have R3 : Hid _ := r3
      clear tb tl to hh r3 f3 t3 hm hR hTk H1 kr hO
      go_wp2_with (at_builtin; refine wpList_append_toks (by rfl) (.tmp 60) (.tmp 61) 26 rfl 44 (by decide) i0 _ Tryd.underlying26 hi hz0 hz1 hz2 rfl w2.heap.size _ l' rfl TB.out _ l2 rfl TL.out ?a4 hsz ?_)
      case a4 => omega
      rintro v' w4 tk4 ⟨xs4, o4⟩ g4
      obtain ⟨n4, hn4⟩ : ∃ n4, (l' ++ l2).length = n4 := ⟨_, rfl⟩
      obtain ⟨ao4, cap4, hv4⟩ := owns_shape tk4.choose_spec.1
      rw [hn4] at hv4
      subst hv4
      have MID : Hid (Mid w w2 w1.heap.size (w1.heap.size + 1) (.slice ao2 n2 cap2) u (pre ++ x.data.toList.take q) (x.extract q x.size) (.slice ao4 n4 cap4) w4) := by
        refine ⟨HCUT.out, ?_, ?_, toks_keep TO.out g4 hlt2.out o4 (Nat.le_refl _), HeldIs.grown HHD.out o4 g4, hb5.grown g4 hb5.size (fun k hk => by have := owns_lt o4 k hk; have := hb4.size; omega), ?_⟩
        · rw [HFP.out]; exact tk4
        · rw [HFP.out]; exact rdr_grown R3.out o4 g4
        · have := g4.size; omega
      clear tk4 o4 g4 TB TL TO HHD R3 hn4
      go_wp2
      go_roundw
      case rel => exact ⟨k + 1, pre ++ x.data.toList.take q, x.extract q x.size, ao4, _, cap4, by omega, by go_num, rfl, rfl, by rw [HFP.out], MID.out⟩
      case measure => simp [intOf]; omega
    · skip
      have hx1 : ¬ ((k : Int) < (nC : Int)) := by omega
      obtain ⟨⟨⟨h4, tg4, er4⟩, l4⟩, hG⟩ : ∃ p, feedN ⟨h', tg', er'⟩ x.data.toList = p := ⟨_, rfl⟩
      have hall := feedN_app pre x.data.toList st0
      rw [← hm.cut, HF.out, HP.out] at hall
      simp only at hall
      rw [hG] at hall
      obtain ⟨hs4, hl4⟩ := Prod.mk.inj hall
      obtain ⟨rfl, rfl, rfl⟩ := St.mk.inj hs4
      simp only at hl4
      subst hl4
      have H1 := feed_at w.heap.size (w1.heap.size + 1) ⟨h', tg', er'⟩ _ l4 x hG wr hR hO (hT.below hT3 hbm) hT3 (by omega)
      have hl4 : l4.length ≤ 6000 := by
        have := feedN_len x.data.toList ⟨h', tg', er'⟩
        rw [hG, ← size_list] at this
        simp only at this
        omega
      have HSIX : Hid (∀ q ∈ l' ++ l4, q.attrs.length ≤ 1000000) := fun q hq => by
        have := feedN_six u.data.toList st0 q (by rw [HF.out]; exact hq)
        omega
      have HERR : Hid (er' ≠ 0 → er = er' ∧ l4 = []) := fun hne => by
        have := feedN_err x.data.toList ⟨h', tg', er'⟩ hne
        rw [hG] at this
        obtain ⟨q1, q2⟩ := Prod.mk.inj this
        obtain ⟨_, _, q3⟩ := St.mk.inj q1
        exact ⟨q3, q2⟩
      clear hG hall hs4
      go_wp2_with (go_at_call 12; refine H1.mono ?_)
      rintro e w3 ⟨⟨ao3, n3, cap3, rfl, t3⟩, r3, f3⟩
      have tb := hTk.fr (by decide) f3 kr (by decide) (by decide)
      have tl : ToksAt 44 w2.heap.size (.slice ao3 n3 cap3) l4 w3 := t3.base hm.size
      have to := hm.one.fr (by decide) f3 kr (by decide) (by decide)
      rw [HF.out] at to
      have hh := hm.held.fr f3 (by omega)
      rw [HF.out] at hh
      have hb5 := hbm.trans f3.1
      have hsz : w2.heap.size ≤ w3.heap.size := by have := hm.size; have := f3.1.size; omega
      have hn3 : Hid (n3 = l4.length) := owns_n t3.choose_spec.1
      have TB : Hid _ := tb
      have TL : Hid _ := tl
      have TO : Hid _ := to
      have HHD : Hid _ := hh
      have R3 : Hid _ := r3
      clear tb tl to hh r3 f3 t3 hm hR hTk H1 kr hO
      go_wp2_with (at_builtin; refine wpList_append_toks (by rfl) (.tmp 73) (.tmp 74) 26 rfl 44 (by decide) i0 _ Tryd.underlying26 hi hz0 hz1 hz2 rfl w2.heap.size _ l' rfl TB.out _ l4 rfl TL.out ?b4 hsz ?_)
      case b4 => omega
      rintro v' w4 tk4 ⟨xs4, o4⟩ g4
      obtain ⟨n4, hn4⟩ : ∃ n4, (l' ++ l4).length = n4 := ⟨_, rfl⟩
      obtain ⟨ao4, cap4, hv4⟩ := owns_shape tk4.choose_spec.1
      rw [hn4] at hv4
      subst hv4
      clear hn4
      have hb6 := hb5.grown g4 hb5.size (fun k hk => by have := owns_lt o4 k hk; have := hb4.size; omega)
      have ta := toks_keep TO.out g4 hlt2.out o4 (Nat.le_refl _)
      have k1 := HeldIs.grown HHD.out o4 g4
      have k2 := (rdr_grown R3.out o4 g4).heldIs
      have A1 := as_any w.heap.size ao2 n2 cap2 (l' ++ l4) w4 ta (by simp; omega)
      have hbw4 := hb4.size
      have tk4' : ToksAt 44 w.heap.size (.slice ao4 n4 cap4) (l' ++ l4) w4 := tk4.base hbw4
      have TK : Hid _ := tk4'
      have K1 : Hid _ := k1
      have K2 : Hid _ := k2
      clear tk4 tk4' o4 g4 TB TL TO HHD R3 k1 k2 ta
      have fin : ∀ w5 ao5 n5 cap5 xs5, Below w4.heap.size w4 w5 → w5.ownsRow w4.heap.size 53 4 (.slice ao5 n5 cap5) (l' ++ l4).length xs5 → TokCells w.heap.size w5 (l' ++ l4) xs5 → ∀ w6 ao6 n6 cap6 xs6, Below w5.heap.size w5 w6 → w6.ownsRow w5.heap.size 53 4 (.slice ao6 n6 cap6) (l' ++ l4).length xs6 → TokCells w.heap.size w6 (l' ++ l4) xs6 →
          Calls Tryd.prog 14 #[.slice ao5 n5 cap5, .slice ao6 n6 cap6] w6 fun e w' => e = .returned (.bool true) ∧ Below w6.heap.size w6 w' := by
        intro w5 ao5 n5 cap5 xs5 b5 o5 c5 w6 ao6 n6 cap6 xs6 b6 o6 c6
        have s5 := b5.size
        have s6 := b6.size
        have s4 := hb6.size
        exact same_any w.heap.size w.heap.size _ _ _ _ _ _ (l' ++ l4) w6 ⟨xs5, owns_base (owns_below o5 b6) (by omega), c5.mono (Nat.le_refl _) fun _ _ q => owns_below q b6⟩ ⟨xs6, owns_base o6 (by omega), c6⟩ (by simp; omega) HSIX.out
      have FIN : Hid _ := fin
      clear fin
      by_cases her : er' = 0
      · subst her
        have HN3 : Hid _ := hn3
        go_wp2_with (go_at_call_of 15 (Value.slice ao2 n2 cap2); refine A1.mono ?_; rintro e w5 ⟨⟨ao5, n5, cap5, xs5, rfl, o5, c5⟩, b5⟩)
        have A2 := as_any w.heap.size ao4 n4 cap4 (l' ++ l4) w5 (ToksAt.below TK.out b5) (by simp; omega)
        go_wp2_with (go_at_call_of 15 (Value.slice ao4 n4 cap4); refine A2.mono ?_; rintro e w6 ⟨⟨ao6, n6, cap6, xs6, rfl, o6, c6⟩, b6⟩)
        have SM := FIN.out w5 ao5 n5 cap5 xs5 b5 o5 c5 w6 ao6 n6 cap6 xs6 b6 o6 c6
        have s4 := hb6.size
        have s5 := b5.size
        have hb7 := (hb6.trans (b5.mono s4)).trans (b6.mono (by omega))
        have K16 := HeldIs.below (HeldIs.below K1.out b5) b6
        have K26 := HeldIs.below (HeldIs.below K2.out b5) b6
        clear A1 A2 o5 c5 o6 c6 b5 b6 FIN
        go_wp2_with (go_at_call 14; refine SM.mono ?_; rintro e w7 ⟨rfl, b7⟩)
        have q1 := held_is _ _ _ (HeldIs.below K16 b7)
        have q2 := held_is _ _ _ (HeldIs.below K26 b7)
        have hb8 := hb7.trans (b7.mono hb7.size)
        clear SM K16 K26 b7
        go_wp2_with (first | (go_at_call 16; refine q1.mono ?_; rintro e w' ⟨rfl, hw⟩; rw [hw]) | (go_at_call 16; refine q2.mono ?_; rintro e w' ⟨rfl, hw⟩; rw [hw]))
        go_ret
        exact ⟨rfl, hb8⟩
      · obtain ⟨rfl, h40⟩ := HERR.out her
        have hn0 : n3 = 0 := by rw [hn3.out, h40]; rfl
        subst hn0
        have her' : (er == 0) = false := by simpa using her
        have her2 : (er != 0) = true := by simpa using her
        clear h40
        go_wp2_with (go_at_call_of 15 (Value.slice ao2 n2 cap2); refine A1.mono ?_; rintro e w5 ⟨⟨ao5, n5, cap5, xs5, rfl, o5, c5⟩, b5⟩)
        have A2 := as_any w.heap.size ao4 n4 cap4 (l' ++ l4) w5 (ToksAt.below TK.out b5) (by simp; omega)
        go_wp2_with (go_at_call_of 15 (Value.slice ao4 n4 cap4); refine A2.mono ?_; rintro e w6 ⟨⟨ao6, n6, cap6, xs6, rfl, o6, c6⟩, b6⟩)
        have SM := FIN.out w5 ao5 n5 cap5 xs5 b5 o5 c5 w6 ao6 n6 cap6 xs6 b6 o6 c6
        have s4 := hb6.size
        have s5 := b5.size
        have hb7 := (hb6.trans (b5.mono s4)).trans (b6.mono (by omega))
        have K16 := HeldIs.below (HeldIs.below K1.out b5) b6
        have K26 := HeldIs.below (HeldIs.below K2.out b5) b6
        clear A1 A2 o5 c5 o6 c6 b5 b6 FIN
        go_wp2_with (go_at_call 14; refine SM.mono ?_; rintro e w7 ⟨rfl, b7⟩)
        have q1 := held_is _ _ _ (HeldIs.below K16 b7)
        have q2 := held_is _ _ _ (HeldIs.below K26 b7)
        have hb8 := hb7.trans (b7.mono hb7.size)
        clear SM K16 K26 b7
        go_wp2_with (first | (go_at_call 16; refine q1.mono ?_; rintro e w' ⟨rfl, hw⟩; rw [hw]) | (go_at_call 16; refine q2.mono ?_; rintro e w' ⟨rfl, hw⟩; rw [hw]))
        go_ret
        exact ⟨rfl, hb8⟩
end Go.Proofs.YtdoekpodichhdaaDoor
