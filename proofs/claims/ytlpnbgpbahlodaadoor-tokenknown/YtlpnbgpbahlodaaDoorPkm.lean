/-
  Over this program: the walk of TokenDraws.
-/
import Derived.Test.YtlpnbgpbahlodaaDoorPkj
namespace Go.Proofs.YtlpnbgpbahlodaaDoor
open Go Go.RowKit
def drS (o : Option (ByteArray × Nat)) : ByteArray := match o with | some p => p.1 | none => ⟨#[]⟩
def drC (o : Option (ByteArray × Nat)) (m : Nat) : Nat := match o with | some p => p.2 | none => m
def drE (o : Option (ByteArray × Nat)) : Int := match o with | some _ => 0 | none => 14
theorem DrawRes.fix {o : Option (ByteArray × Nat)} {m : Nat} {e : Ending} (h : DrawRes o m e) : e = .returned (.tuple #[.string (drS o), .int .i64 (drC o m : Int), .int .i64 (drE o)]) := by
  obtain ⟨s, c, err, rfl, ⟨rfl, rfl⟩ | ⟨rfl, rfl, rfl, rfl⟩⟩ := h <;> rfl
theorem refMix_row (x : Nat) (z : Int) (N : Nat) (L : List Nat) (hN : lenN z = N) (hL : mixL N (max x 1) = L) (w : World) : Calls Tryd.prog 19 #[.int .u64 (x : Int), .int .i64 z] w fun e w' => (∃ ao cap, e = .returned (.slice ao N cap) ∧ RowU w' ao L) ∧ Below w.heap.size w w' := by
  refine (refMix_any x z w).mono fun e w' ⟨⟨ao, cap, h1, h2⟩, hb⟩ => ⟨⟨ao, cap, ?_, ?_⟩, hb⟩
  · rw [h1, mixL_length, hN]
  · rw [← hL, ← hN]
    exact h2.row
theorem same_self (ao bo : Option Addr) (c1 c2 N : Nat) (L : List Nat) (hL : L.length = N) (hN : N ≤ 1000) (W : World) (h1 : RowU W ao L) (h2 : RowU W bo L) :
    Calls Tryd.prog 17 #[.slice ao N c1, .slice bo N c2] W fun e w' => e = .returned (.bool true) ∧ ∃ k, w' = W.drewN k := by
  have := sameU_any ao bo c1 c2 L L W h1 h2 (by omega) true (decide_eq_true rfl)
  rw [hL] at this
  exact this
theorem at_zero {w : World} {ad : Addr} {l : List Nat} {x : Nat} (h : RowU w (some ad) l) (hx : l[0]? = some x) : w.cell? ad = some (.int .u64 (x : Int)) := by
  obtain ⟨ad', e, hc⟩ := h.at hx
  cases e
  have a1 : ad.add 0 = ad := by unfold Addr.add; split <;> simp_all
  rw [a1] at hc
  exact hc
set_option maxHeartbeats 1000000 in
set_option maxRecDepth 100000 in
theorem draws_walk (ao bo : Option Addr) (c1 c2 : Nat) (l : List Nat) (ks : List ByteArray) (z : Int) (w : World) (h1 : RowU w ao l) (h2 : RowS w bo ks) (hc1 : l.length ≤ c1) (hc2 : ks.length ≤ c2) (hu : ∀ z ∈ l, U z) (hE : Env w) :
    Calls Tryd.prog 4 #[.slice ao l.length c1, .slice bo ks.length c2, .int .i64 z] w fun e w' => e = .returned (.bool true) ∧ Below w.heap.size w w' := by
  have HLV := lives_any w hE
  obtain ⟨l2, hl2⟩ : ∃ l2, l.take 150 = l2 := ⟨_, rfl⟩
  obtain ⟨k2, hk2⟩ : ∃ k2, ks.take 30 = k2 := ⟨_, rfl⟩
  obtain ⟨n, hn⟩ : ∃ n, l2.length = n := ⟨_, rfl⟩
  obtain ⟨q, hq⟩ : ∃ q, k2.length = q := ⟨_, rfl⟩
  have hn1 : min (l.length : Int) 150 = (n : Int) := by rw [← hn, ← hl2, List.length_take]; omega
  have hq1 : min (ks.length : Int) 30 = (q : Int) := by rw [← hq, ← hk2, List.length_take]; omega
  have hn2 : (n : Int) ≤ (c1 : Int) := by omega
  have hq2 : (q : Int) ≤ (c2 : Int) := by omega
  have hn3 : n ≤ 150 := by omega
  have hq3 : q ≤ 30 := by omega
  have HROW : Hid (RowU w ao l2) := by rw [← hl2]; exact RowU.take h1 _
  have HROS : Hid (RowS w bo k2) := by rw [← hk2]; exact RowS.take h2 _
  have hu2 : ∀ z ∈ l2, U z := fun z hz => hu z (by rw [← hl2] at hz; exact List.mem_of_mem_take hz)
  have HD1 := fun W ha hb => draw_any ao bo c1 c2 l2 k2 z W ha hb (by omega) (by omega) (by omega) hu2
  have HD2 := fun W ha hb => refDraw_any ao bo c1 c2 l2 k2 z W ha hb (by omega) (by omega) hu2
  obtain ⟨r, hr⟩ : ∃ r : Bool, (r = true ↔ ND l2) := by
    by_cases h : ND l2
    · exact ⟨true, fun _ => h, fun _ => rfl⟩
    · exact ⟨false, (by intro e; cases e), fun e => absurd e h⟩
  have HA1 := fun W ha => apart_any ao c1 l2 W ha (by omega) hu2 r hr
  have HA2 := fun W ha => refApart_any ao c1 l2 W ha (by omega) r hr
  rw [hn, hq] at HD1 HD2
  rw [hn] at HA1 HA2
  obtain ⟨o, ho⟩ : ∃ o, drawF k2 (l2.take (triesN z)) 0 = o := ⟨_, rfl⟩
  obtain ⟨m, hm⟩ : ∃ m, min (triesN z) n = m := ⟨_, rfl⟩
  rw [ho, hm] at HD1 HD2
  have HF : Hid (∀ e, DrawRes o m e → e = .returned (.tuple #[.string (drS o), .int .i64 (drC o m : Int), .int .i64 (drE o)])) := fun e h => h.fix
  obtain ⟨S, hS⟩ : ∃ S, drS o = S := ⟨_, rfl⟩
  obtain ⟨C, hC⟩ : ∃ C, drC o m = C := ⟨_, rfl⟩
  obtain ⟨E, hE'⟩ : ∃ E, drE o = E := ⟨_, rfl⟩
  rw [hS, hC, hE'] at HF
  obtain ⟨N, hN⟩ : ∃ N, lenN z = N := ⟨_, rfl⟩
  have hN1 : N ≤ 1000 := by unfold lenN at hN; omega
  obtain ⟨n0, hn0⟩ : ∃ n0, l.length = n0 := ⟨_, rfl⟩
  obtain ⟨q0, hq0⟩ : ∃ q0, ks.length = q0 := ⟨_, rfl⟩
  rw [hn0] at hn1 ⊢
  rw [hq0] at hq1 ⊢
  have HCASE : Hid ((n = 0) ∨ (∃ x, 0 < n ∧ l2[0]? = some x)) := by
    by_cases h : n = 0
    · exact Or.inl h
    · exact Or.inr ⟨_, by omega, List.getElem?_eq_getElem (by omega)⟩
  have HM1 := fun (x : Nat) (W : World) => mix_any x z W
  have HM2 := fun (x : Nat) (L : List Nat) (hL : mixL N (max x 1) = L) (W : World) => refMix_row x z N L hN hL W
  rw [hN] at HM1
  clear h1 h2 hc1 hc2 hu hE hl2 hk2 hn hq hr ho hm hS hC hE' hN hn0 hq0 hu2
  go_enter Tryd.func4, Tryd.ntmps4
  go_wp2_with (first
    | (go_at_call 8; refine HLV.mono ?_; rintro e w1 ⟨rfl, hb1⟩))
  go_quiet (fail)
  have hbq : Below w.heap.size w (w1.drewN nq) := below_drewN hb1
  clear hb1
  rcases HCASE.out with hz | ⟨x, hz, hx⟩
  · subst hz
    obtain ⟨L, hL⟩ : ∃ L, mixL N (max 0 1) = L := ⟨_, rfl⟩
    have HLL : Hid (L.length = N) := by rw [← hL]; exact mixL_length _ _
    have HX1 := fun W => HM1 0 W
    have HX2 := fun W => HM2 0 L hL W
    rw [hL] at HX1
    clear hL HM1 HM2
    go_wp2_with (first
      | (go_at_call 13; refine (HD1 _ (HROW.out.below hbq) (HROS.out.below hbq)).mono ?_; rintro e w2 ⟨hd2, hb2⟩; have hd2' := HF.out _ hd2; subst hd2'; replace hb2 := hbq.trans (hb2.mono hbq.size); clear hd2)
      | (go_at_call 14; refine (HD2 _ (HROW.out.below hb2) (HROS.out.below hb2)).mono ?_; rintro e w9 ⟨hd3, rfl⟩; have hd3' := HF.out _ hd3; subst hd3'; clear hd3)
      | (go_at_call 15; refine (HA1 _ (HROW.out.below hb2)).mono ?_; rintro e w3 ⟨rfl, hb3⟩; replace hb3 := hb2.trans (hb3.mono hb2.size))
      | (go_at_call 16; refine (HA2 _ (HROW.out.below hb3)).mono ?_; rintro e w4 ⟨rfl, hw4⟩; have hb4 := hb3.trans ((below_drew2 hw4).mono hb3.size); clear hw4)
      | (go_at_call 18; refine (HX1 _).mono ?_; rintro e w5 ⟨rfl, hr5, hb5, -⟩; obtain ⟨b, hb⟩ : ∃ b, w4.heap.size = b := ⟨_, rfl⟩; rw [hb] at hr5 ⊢; have HR5 : Hid (RowU w5 (some ⟨b, 0, none⟩) L) := hr5; replace hb5 := hb4.trans (hb5.mono hb4.size); clear hr5 hb)
      | (go_at_call 19; refine (HX2 _).mono ?_; rintro e w6 ⟨⟨ao6, c6, rfl, hr6⟩, hb6⟩; have HR6 : Hid (RowU w6 (some ⟨b, 0, none⟩) L) := HR5.out.below hb6; have HR7 : Hid (RowU w6 ao6 L) := hr6; replace hb6 := hb5.trans (hb6.mono hb5.size); clear hr6)
      | (go_at_call 17; refine (same_self _ _ _ _ N L HLL.out hN1 _ HR6.out HR7.out).mono ?_; rintro e w7 ⟨rfl, hw7⟩; have hb7 := hb6.trans ((below_drew2 hw7).mono hb6.size); clear hw7))
    go_ret
    exact ⟨by simp, hb7⟩
  · obtain ⟨ad, rfl, c0⟩ := (HROW.out.below hbq).at hx
    have HX0 : Hid (l2[0]? = some x) := hx
    have hz' : (0 : Int) < (n : Int) := by omega
    clear hx c0
    obtain ⟨L, hL⟩ : ∃ L, mixL N (max x 1) = L := ⟨_, rfl⟩
    have HLL : Hid (L.length = N) := by rw [← hL]; exact mixL_length _ _
    have HX1 := fun W => HM1 x W
    have HX2 := fun W => HM2 x L hL W
    rw [hL] at HX1
    clear hL HM1 HM2
    go_wp2_with (first
      | (go_at_call 13; refine (HD1 _ (HROW.out.below hbq) (HROS.out.below hbq)).mono ?_; rintro e w2 ⟨hd2, hb2⟩; have hd2' := HF.out _ hd2; subst hd2'; replace hb2 := hbq.trans (hb2.mono hbq.size); clear hd2)
      | (go_at_call 14; refine (HD2 _ (HROW.out.below hb2) (HROS.out.below hb2)).mono ?_; rintro e w9 ⟨hd3, rfl⟩; have hd3' := HF.out _ hd3; subst hd3'; clear hd3; have c0 := at_zero (HROW.out.below hb2) HX0.out)
      | (go_at_call 15; refine (HA1 _ (HROW.out.below hb2)).mono ?_; rintro e w3 ⟨rfl, hb3⟩; replace hb3 := hb2.trans (hb3.mono hb2.size))
      | (go_at_call 16; refine (HA2 _ (HROW.out.below hb3)).mono ?_; rintro e w4 ⟨rfl, hw4⟩; have hb4 := hb3.trans ((below_drew2 hw4).mono hb3.size); clear hw4)
      | (go_at_call 18; refine (HX1 _).mono ?_; rintro e w5 ⟨rfl, hr5, hb5, -⟩; obtain ⟨b, hb⟩ : ∃ b, w4.heap.size = b := ⟨_, rfl⟩; rw [hb] at hr5 ⊢; have HR5 : Hid (RowU w5 (some ⟨b, 0, none⟩) L) := hr5; replace hb5 := hb4.trans (hb5.mono hb4.size); clear hr5 hb)
      | (go_at_call 19; refine (HX2 _).mono ?_; rintro e w6 ⟨⟨ao6, c6, rfl, hr6⟩, hb6⟩; have HR6 : Hid (RowU w6 (some ⟨b, 0, none⟩) L) := HR5.out.below hb6; have HR7 : Hid (RowU w6 ao6 L) := hr6; replace hb6 := hb5.trans (hb6.mono hb5.size); clear hr6)
      | (go_at_call 17; refine (same_self _ _ _ _ N L HLL.out hN1 _ HR6.out HR7.out).mono ?_; rintro e w7 ⟨rfl, hw7⟩; have hb7 := hb6.trans ((below_drew2 hw7).mono hb6.size); clear hw7))
    go_ret
    exact ⟨by simp, hb7⟩
end Go.Proofs.YtlpnbgpbahlodaaDoor
