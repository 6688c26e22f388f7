/-
  The walk of the statement PipesApart over this program.
-/
import Derived.Test.YteejehbgmkanpaaPml
namespace Go.Proofs.Yteejehbgmkanpaa
open Go Go.RowKit
theorem below_drewN' {B : Nat} {w w' : World} {k : Nat} (h : Below B (w.drewN k) w') : Below B w w' := ⟨h.os, h.tape, h.output, h.size, h.block⟩
theorem Stay.trans {T : List Nat} {a b c : World} (h : Stay T a b) (k : Stay T b c) : Stay T a c := fun x hx => (k x hx).trans (h x hx)
theorem Stay.of_below {T : List Nat} {a b : World} (h : Below a.heap.size a b) (hT : ∀ k ∈ T, k < a.heap.size) : Stay T a b := fun x hx => h.block x (hT x hx)
theorem Stay.less {T U : List Nat} {a b : World} (h : Stay T a b) (hU : ∀ k ∈ U, k ∈ T) : Stay U a b := fun x hx => h x (hU x hx)
/-- What the round knows. -/
structure Apt (B ga gb : Nat) (T : List Nat) (aoa aob : Option Addr) (la lb : List Sp) (k : Nat) (c d : Nat → Pp) (w0 w : World) : Prop where
  two : Two B ga gb T c d w
  one : c 1 = d 1
  ga : Good c (80 * k)
  gb : Good d (80 * k)
  ra : ArgOps w aoa la
  rb : ArgOps w aob lb
  be : Below B w0 w
theorem stE_1 (c : Nat → Pp) (k : Nat) (s : ByteArray) : stE c k 1 s = pE (c 1) k s := by
  unfold stE
  rw [if_pos (by omega)]
  rfl
theorem stC_1 (c : Nat → Pp) (k : Nat) (n : Int) (s : ByteArray) : stC c k 1 n s 1 = pC (c 1) k n s := by
  unfold stC
  rw [if_pos (by omega)]
  exact upd_self c 1 _
theorem stC_2 (c : Nat → Pp) (k : Nat) (n : Int) (s : ByteArray) : stC c k 2 n s 1 = c 1 := by
  unfold stC
  rw [if_pos (by omega)]
  exact upd_ne (by decide)
set_option maxHeartbeats 2000000 in
theorem apart_walk (ao bo : Option Addr) (capa capb : Nat) (la lb : List Sp) (w : World) (ha : ArgOps w ao la) (hb : ArgOps w bo lb) (hna : ∀ t ∈ la, N t.n) (hnb : ∀ t ∈ lb, N t.n) :
    Calls Try.prog 5 #[.slice ao la.length capa, .slice bo lb.length capb] w fun e w' => e = .returned (.bool true) ∧ Below w.heap.size w w' := by
  have HL := fun W => lives_any W
  have HEA := fun W h => early_ops ao capa la W h
  have HEB := fun W h => early_ops bo capb lb W h
  have HNA : Hid (∀ t ∈ la, N t.n) := hna
  have HNB : Hid (∀ t ∈ lb, N t.n) := hnb
  have HRA : Hid (ArgOps w ao la) := ha
  have HRB : Hid (ArgOps w bo lb) := hb
  have hla := earlyN_len la
  have hlb := earlyN_len lb
  obtain ⟨na, hna'⟩ : ∃ na, (earlyN la).length = na := ⟨_, rfl⟩
  obtain ⟨nb, hnb'⟩ : ∃ nb, (earlyN lb).length = nb := ⟨_, rfl⟩
  have ENA : Hid ((earlyN la).length = na) := hna'
  have ENB : Hid ((earlyN lb).length = nb) := hnb'
  simp only [hna'] at HEA
  simp only [hnb'] at HEB
  rw [hna'] at hla
  rw [hnb'] at hlb
  clear ha hb hna hnb hna' hnb'
  go_enter Try.func5, Try.ntmps5
  go_wp2_with (first
    | (go_at_call 8; refine (HL w).mono ?_; rintro e w1 ⟨rfl, hb1⟩; have HB1 : Hid (Below w.heap.size w w1) := hb1; have hs1 := hb1.size; clear hb1)
    | (go_at_call 9; refine (new_any w2).mono ?_; rintro e w3 ⟨rfl, hw3⟩; have HT3 : Hid (Two w.heap.size w1.heap.size w2.heap.size [] (fun _ => p0) (fun _ => p0) w3) := (by rw [hw3]; exact two_new HO2.out hs2); have hb3 : Below w2.heap.size w2 w3 := (by rw [hw3]; exact (Below.refl _ _).alloc (Nat.le_refl _) _); have HB3 : Hid (Below w.heap.size w w3) := HB2.out.trans (hb3.mono hs2); have hs3 : w.heap.size ≤ w3.heap.size := Nat.le_trans hs2 hb3.size; clear hb3 hw3)
    | (go_at_call 9; refine (new_b w.heap.size w1 hs1).mono ?_; rintro e w2 ⟨rfl, hO2, hb2⟩; have HO2 : Hid (Ob w.heap.size w1.heap.size (fun _ => p0) w2) := hO2; have HB2 : Hid (Below w.heap.size w w2) := HB1.out.trans (hb2.mono hs1); have hs2 : w.heap.size ≤ w2.heap.size := Nat.le_trans hs1 hb2.size; clear hO2 hb2)
    | (go_at_call 10; refine (HEB w4 (HRB.out.below HB4.out)).mono ?_; rintro e w5 ⟨bo', capb', rfl, hcb, hrb, ⟨Tb, htb1, htb2⟩, hb5⟩; have HB5 : Hid (Below w4.heap.size w4 w5) := hb5; have HR5 : Hid (ArgOps w5 bo' (earlyN lb)) := hrb; have HTb : Hid _ := htb1; have HUb : Hid _ := htb2; clear hb5 hrb htb1 htb2)
    | (go_at_call 10; refine (HEA w3 (HRA.out.below HB3.out)).mono ?_; rintro e w4 ⟨ao', capa', rfl, hca, hra, ⟨Ta, hta1, hta2⟩, hb4⟩; have HB34 : Hid (Below w3.heap.size w3 w4) := hb4; have HB4 : Hid (Below w.heap.size w w4) := HB3.out.trans (hb4.mono hs3); have HR4 : Hid (ArgOps w4 ao' (earlyN la)) := hra; have HTa : Hid _ := hta1; have HUa : Hid _ := hta2; clear hb4 hra hta1 hta2))
  obtain ⟨T, hT⟩ : ∃ T, T = Ta ++ Tb := ⟨_, rfl⟩
  obtain ⟨ga, hga⟩ : ∃ ga, w1.heap.size = ga := ⟨_, rfl⟩
  obtain ⟨gb, hgb⟩ : ∃ gb, w2.heap.size = gb := ⟨_, rfl⟩
  have HB45 : Hid (Below w.heap.size w w5) := HB4.out.trans (HB5.out.mono (Nat.le_trans hs3 HB34.out.size))
  have HTA : Hid (∀ g off, ao' = some ⟨g, off, none⟩ → g ∈ T) := fun g off e => by rw [hT]; exact List.mem_append_left _ (HUa.out g off e)
  have HTB : Hid (∀ g off, bo' = some ⟨g, off, none⟩ → g ∈ T) := fun g off e => by rw [hT]; exact List.mem_append_right _ (HUb.out g off e)
  have HA0 : Hid (Apt w.heap.size ga gb T ao' bo' (earlyN la) (earlyN lb) 0 (fun _ => p0) (fun _ => p0) w w5) := by
    have h35 : Below w3.heap.size w3 w5 := HB34.out.trans (HB5.out.mono HB34.out.size)
    refine ⟨?_, rfl, good_p0, good_p0, HR4.out.below HB5.out, HR5.out, HB45.out⟩
    rw [← hga, ← hgb]
    refine (HT3.out.more (U := Ta ++ Tb) h35 (fun x hx => ?_)).less (fun x hx => by rw [hT] at hx; exact List.mem_append_left _ hx)
    rcases List.mem_append.1 hx with e | e
    · have := HTa.out x e
      have := HB5.out.size
      omega
    · have := HTb.out x e
      have := HB34.out.size
      omega
  rw [hga, hgb]
  clear hT hga hgb HT3 HB1 HB2 HB3 HB34 HB4 HB5 HB45 HO2 hs1 hs2 hs3 HTa HTb HUa HUb HR4 HR5 HEA HEB HL
  go_loopw [7] (fun i wr => ∃ (k : Nat) (c d : Nat → Pp), k ≤ 100 ∧ i = .int .i64 (k : Int) ∧ Apt w.heap.size ga gb T ao' bo' (earlyN la) (earlyN lb) k c d w wr) (fun i _ => 100 - (intOf i).toNat)
  case atStart => exact ⟨0, _, _, by omega, rfl, HA0.out⟩
  case round =>
    clear HA0
    obtain ⟨k, c, d, hk, rfl, hA⟩ := hrel
    have HT : Hid (Two w.heap.size ga gb T c d wr) := hA.two
    have HONE : Hid (c 1 = d 1) := hA.one
    have HGC : Hid (Good c (80 * k)) := hA.ga
    have HGD : Hid (Good d (80 * k)) := hA.gb
    have HRA : Hid (ArgOps wr ao' (earlyN la)) := hA.ra
    have HRB : Hid (ArgOps wr bo' (earlyN lb)) := hA.rb
    have HB : Hid (Below w.heap.size w wr) := hA.be
    have hsz := hA.be.size
    clear hA
    have i0 : (0 : Int) ≤ (k : Int) := by omega
    by_cases h1 : k < na
    · obtain ⟨t, ht⟩ : ∃ t, (earlyN la)[k]? = some t := ⟨_, List.getElem?_eq_getElem (by rw [ENA.out]; omega)⟩
      obtain ⟨g, off, rfl, hg, a0, a1, a2, a3⟩ := HRA.out k t ht
      obtain ⟨u, hu, eu⟩ := earlyN_get ht
      have hN : N t.n := by rw [eu]; exact HNA.out u hu
      have hS : t.s.size ≤ 40 := by rw [eu]; exact cut_size u
      have HTX : Hid (Two w.heap.size ga gb ([wr.heap.size] ++ T) c d (wr.alloc (.cells #[.int .i64 t.k, .int .i64 1, .int .i64 t.n, .string t.s] 36))) := HT.out.more ((Below.refl _ _).alloc (Nat.le_refl _) _) (fun x hx => by rw [List.mem_singleton.1 hx]; simp)
      have HDA := fun W' (h : Two w.heap.size ga gb ([wr.heap.size] ++ T) c d W') hB => two_does_a t.k 1 t.n t.s W' h hB HGC.out (by omega) hS
      have HDB := fun c' W' (h : Two w.heap.size ga gb ([wr.heap.size] ++ T) c' d W') hB => two_does_b t.k 1 t.n t.s W' h hB HGD.out (by omega) hS
      have HONE7 : Hid ((stC c (kd t.k) 1 t.n t.s) 1 = (stC d (kd t.k) 1 t.n t.s) 1) := by
        show _ = _
        rw [stC_1, stC_1, HONE.out]
      have HGC7 : Hid (Good (stC c (kd t.k) 1 t.n t.s) (80 * k + 40)) := HGC.out.step hN hS
      have HGD7 : Hid (Good (stC d (kd t.k) 1 t.n t.s) (80 * k + 40)) := HGD.out.step hN hS
      have eE : stE d (kd t.k) 1 t.s = stE c (kd t.k) 1 t.s := by rw [stE_1, stE_1, HONE.out]
      simp only [eE] at HDB
      obtain ⟨c7, hc7⟩ : ∃ c7, stC c (kd t.k) 1 t.n t.s = c7 := ⟨_, rfl⟩
      obtain ⟨d7, hd7⟩ : ∃ d7, stC d (kd t.k) 1 t.n t.s = d7 := ⟨_, rfl⟩
      obtain ⟨e7, he7⟩ : ∃ e7, stE c (kd t.k) 1 t.s = e7 := ⟨_, rfl⟩
      simp only [hc7, hd7, he7] at HDA HDB HONE7 HGC7 HGD7
      have HDB7 := HDB c7
      have HX : Hid (∀ W' : World, Stay ([wr.heap.size] ++ T) (wr.alloc (.cells #[.int .i64 t.k, .int .i64 1, .int .i64 t.n, .string t.s] 36)) W' → W'.cell? ⟨wr.heap.size, 0, none⟩ = some (.int .i64 t.k) ∧ W'.cell? ⟨wr.heap.size, 1, none⟩ = some (.int .i64 1) ∧ W'.cell? ⟨wr.heap.size, 2, none⟩ = some (.int .i64 t.n) ∧ W'.cell? ⟨wr.heap.size, 3, none⟩ = some (.string t.s)) := fun W' hW => by
        have e := hW wr.heap.size (List.mem_append_left _ (List.mem_singleton.2 rfl))
        rw [heap_alloc_new] at e
        simp [World.cell?, e]
      obtain ⟨tk, tid, tn, ts⟩ := t
      simp only at a0 a1 a2 a3 HDA HDB7 HTX HX
      have i1 : (k : Int) < (na : Int) := by omega
      clear ht hu eu hN hS eE HDB hc7 hd7 he7
      go_wp2_with fail
      go_region_with (first
        | (go_at_call_of 11 (Value.pointer (some ⟨gb, 0, none⟩)); refine (HDB7 _ ?_ ?_).mono ?_; exact HT6.out.alike rfl; exact hz6; rintro e w7 ⟨rfl, ht7, hb7, hst7⟩; have HT7 : Hid (Two w.heap.size ga gb T c7 d7 w7) := ht7.less (fun x hx => List.mem_append_right _ hx); have HB7 : Hid (Below w.heap.size w w7) := HB6.out.trans ⟨hb7.os, hb7.tape, hb7.output, hb7.size, hb7.block⟩; have HS7 : Hid (Stay T wr w7) := HS6.out.trans (Stay.less hst7 (fun x hx => List.mem_append_right _ hx)); have hz7 : wr.heap.size ≤ w7.heap.size := Nat.le_trans hy6 hb7.size; clear ht7 hb7 hst7)
        | (go_at_call_of 11 (Value.pointer (some ⟨ga, 0, none⟩)); refine (HDA _ ?_ ?_).mono ?_; exact HTX.out.alike rfl; (exact Nat.le_trans hsz (by simp)); rintro e w6 ⟨rfl, ht6, hb6, hst6⟩; have HT6 : Hid (Two w.heap.size ga gb ([wr.heap.size] ++ T) c7 d w6) := ht6; have HB6 : Hid (Below w.heap.size w w6) := (HB.out.alloc hsz _).trans ⟨hb6.os, hb6.tape, hb6.output, hb6.size, hb6.block⟩; have HS6 : Hid (Stay T wr w6) := ((Stay.of_below ((Below.refl _ _).alloc (Nat.le_refl _) _) HT.out.tl).trans (Stay.less hst6 (fun x hx => List.mem_append_right _ hx))); obtain ⟨q0, q1, q2, q3⟩ := HX.out w6 hst6; have hz6 : w.heap.size ≤ w6.heap.size := HB6.out.size; have hy6 : wr.heap.size ≤ w6.heap.size := Nat.le_trans (by simp) hb6.size; clear ht6 hb6 hst6))
      all_goals (
        by_cases h2 : k < nb
        · have HRB7 : Hid (ArgOps w7 bo' (earlyN lb)) := HRB.out.stay HTB.out HS7.out hz7
          obtain ⟨t2, ht2⟩ : ∃ t, (earlyN lb)[k]? = some t := ⟨_, List.getElem?_eq_getElem (by rw [ENB.out]; omega)⟩
          obtain ⟨g2, off2, rfl, hg2, b0, b1, b2, b3⟩ := HRB7.out k t2 ht2
          obtain ⟨u2, hu2, eu2⟩ := earlyN_get ht2
          have hN2 : N t2.n := by rw [eu2]; exact HNB.out u2 hu2
          have hS2 : t2.s.size ≤ 40 := by rw [eu2]; exact cut_size u2
          have hszW := HB7.out.size
          have HTX : Hid (Two w.heap.size ga gb ([w7.heap.size] ++ T) c7 d7 (w7.alloc (.cells #[.int .i64 t2.k, .int .i64 2, .int .i64 t2.n, .string t2.s] 36))) := HT7.out.more ((Below.refl _ _).alloc (Nat.le_refl _) _) (fun x hx => by rw [List.mem_singleton.1 hx]; simp)
          have HD2 := fun W' (h : Two w.heap.size ga gb ([w7.heap.size] ++ T) c7 d7 W') hB => two_does_a t2.k 2 t2.n t2.s W' h hB HGC7.out (by omega) hS2
          have E2 : Hid ((stC c7 (kd t2.k) 2 t2.n t2.s) 1 = c7 1) := stC_2 _ _ _ _
          have HG2 : Hid (Good (stC c7 (kd t2.k) 2 t2.n t2.s) (80 * k + 40 + 40)) := HGC7.out.step hN2 hS2
          obtain ⟨c8, hc8⟩ : ∃ c8, stC c7 (kd t2.k) 2 t2.n t2.s = c8 := ⟨_, rfl⟩
          obtain ⟨e8, he8⟩ : ∃ e8, stE c7 (kd t2.k) 2 t2.s = e8 := ⟨_, rfl⟩
          simp only [hc8, he8] at HD2 E2 HG2
          obtain ⟨tk2, tid2, tn2, ts2⟩ := t2
          simp only at b0 b1 b2 b3 HD2 HTX
          have j1 : (k : Int) < (nb : Int) := by omega
          clear ht2 hu2 eu2 hN2 hS2 hc8 he8
          go_wp2_with (go_at_call 11; refine (HD2 _ ?_ ?_).mono ?_; exact HTX.out.alike rfl; (exact Nat.le_trans hszW (by simp)); rintro e w9 ⟨rfl, ht9, hb9, hst9⟩; have HT9 : Hid (Two w.heap.size ga gb T c8 d7 w9) := ht9.less (fun x hx => List.mem_append_right _ hx); have HB9 : Hid (Below w.heap.size w w9) := (HB7.out.alloc hszW _).trans hb9; have HS9 : Hid (Stay T wr w9) := (HS7.out).trans ((Stay.of_below ((Below.refl _ _).alloc (Nat.le_refl _) _) HT7.out.tl).trans (hst9.less (fun x hx => List.mem_append_right _ hx))); have hz9 : wr.heap.size ≤ w9.heap.size := Nat.le_trans hz7 (Nat.le_trans (by simp) hb9.size); clear ht9 hb9 hst9)
          go_roundw
          case rel => exact ⟨k + 1, c8, d7, by omega, by go_num, ⟨HT9.out, by rw [E2.out]; exact HONE7.out, HG2.out.mono (by omega), HGD7.out.mono (by omega), HRA.out.stay HTA.out HS9.out hz9, HRB.out.stay HTB.out HS9.out hz9, HB9.out⟩⟩
          case measure => simp [intOf]; omega
        · have j1 : ¬ (k : Int) < (nb : Int) := by omega
          go_wp2_with fail
          go_roundw
          case rel => exact ⟨k + 1, c7, d7, by omega, by go_num, ⟨HT7.out, HONE7.out, HGC7.out.mono (by omega), HGD7.out.mono (by omega), HRA.out.stay HTA.out HS7.out hz7, HRB.out.stay HTB.out HS7.out hz7, HB7.out⟩⟩
          case measure => simp [intOf]; omega)
    · have i1 : ¬ (k : Int) < (na : Int) := by omega
      by_cases h2 : k < nb
      · have HGC7 : Hid (Good c (80 * k + 40)) := HGC.out.mono (by omega)
        have HGD7 : Hid (Good d (80 * k + 40)) := HGD.out.mono (by omega)
        have HONE7 : Hid (c 1 = d 1) := HONE.out
        have HS7 : Hid (Stay T wr wr) := fun _ _ => rfl
        obtain ⟨t2, ht2⟩ : ∃ t, (earlyN lb)[k]? = some t := ⟨_, List.getElem?_eq_getElem (by rw [ENB.out]; omega)⟩
        obtain ⟨g2, off2, rfl, hg2, b0, b1, b2, b3⟩ := HRB.out k t2 ht2
        obtain ⟨u2, hu2, eu2⟩ := earlyN_get ht2
        have hN2 : N t2.n := by rw [eu2]; exact HNB.out u2 hu2
        have hS2 : t2.s.size ≤ 40 := by rw [eu2]; exact cut_size u2
        have hszW := HB.out.size
        have HTX : Hid (Two w.heap.size ga gb ([wr.heap.size] ++ T) c d (wr.alloc (.cells #[.int .i64 t2.k, .int .i64 2, .int .i64 t2.n, .string t2.s] 36))) := HT.out.more ((Below.refl _ _).alloc (Nat.le_refl _) _) (fun x hx => by rw [List.mem_singleton.1 hx]; simp)
        have HD2 := fun W' (h : Two w.heap.size ga gb ([wr.heap.size] ++ T) c d W') hB => two_does_a t2.k 2 t2.n t2.s W' h hB HGC7.out (by omega) hS2
        have E2 : Hid ((stC c (kd t2.k) 2 t2.n t2.s) 1 = c 1) := stC_2 _ _ _ _
        have HG2 : Hid (Good (stC c (kd t2.k) 2 t2.n t2.s) (80 * k + 40 + 40)) := HGC7.out.step hN2 hS2
        obtain ⟨c8, hc8⟩ : ∃ c8, stC c (kd t2.k) 2 t2.n t2.s = c8 := ⟨_, rfl⟩
        obtain ⟨e8, he8⟩ : ∃ e8, stE c (kd t2.k) 2 t2.s = e8 := ⟨_, rfl⟩
        simp only [hc8, he8] at HD2 E2 HG2
        obtain ⟨tk2, tid2, tn2, ts2⟩ := t2
        simp only at b0 b1 b2 b3 HD2 HTX
        have j1 : (k : Int) < (nb : Int) := by omega
        clear ht2 hu2 eu2 hN2 hS2 hc8 he8
        go_wp2_with (go_at_call 11; refine (HD2 _ ?_ ?_).mono ?_; exact HTX.out.alike rfl; (exact Nat.le_trans hszW (by simp)); rintro e w9 ⟨rfl, ht9, hb9, hst9⟩; have HT9 : Hid (Two w.heap.size ga gb T c8 d w9) := ht9.less (fun x hx => List.mem_append_right _ hx); have HB9 : Hid (Below w.heap.size w w9) := (HB.out.alloc hszW _).trans hb9; have HS9 : Hid (Stay T wr w9) := (HS7.out).trans ((Stay.of_below ((Below.refl _ _).alloc (Nat.le_refl _) _) HT.out.tl).trans (hst9.less (fun x hx => List.mem_append_right _ hx))); have hz9 : wr.heap.size ≤ w9.heap.size := Nat.le_trans (Nat.le_refl _) (Nat.le_trans (by simp) hb9.size); clear ht9 hb9 hst9)
        go_roundw
        case rel => exact ⟨k + 1, c8, d, by omega, by go_num, ⟨HT9.out, by rw [E2.out]; exact HONE7.out, HG2.out.mono (by omega), HGD7.out.mono (by omega), HRA.out.stay HTA.out HS9.out hz9, HRB.out.stay HTB.out HS9.out hz9, HB9.out⟩⟩
        case measure => simp [intOf]; omega
      · have j1 : ¬ (k : Int) < (nb : Int) := by omega
        obtain ⟨u, hu⟩ : ∃ u, (c 1).out = u := ⟨_, rfl⟩
        obtain ⟨b1, hb1⟩ : ∃ b, (c 1).op = b := ⟨_, rfl⟩
        obtain ⟨b2, hb2⟩ : ∃ b, (c 1).wh = b := ⟨_, rfl⟩
        have HUA : ∀ W, Ob w.heap.size ga c W → Calls Try.prog 13 #[.pointer (some ⟨ga, 0, none⟩), .int .i64 1] W fun e w' => e = .returned (.string u) ∧ w' = W := fun W h => by
          rw [← hu]
          exact out_b _ _ c 1 W h (by omega)
        have HUB : ∀ W, Ob w.heap.size gb d W → Calls Try.prog 13 #[.pointer (some ⟨gb, 0, none⟩), .int .i64 1] W fun e w' => e = .returned (.string u) ∧ w' = W := fun W h => by
          rw [← hu, HONE.out]
          exact out_b _ _ d 1 W h (by omega)
        have HIA : ∀ W, Ob w.heap.size ga c W → Calls Try.prog 14 #[.pointer (some ⟨ga, 0, none⟩), .int .i64 1] W fun e w' => e = .returned (.bool b1) ∧ w' = W := fun W h => by
          rw [← hb1]
          exact is_b _ _ c 1 W h (by omega)
        have HIB : ∀ W, Ob w.heap.size gb d W → Calls Try.prog 14 #[.pointer (some ⟨gb, 0, none⟩), .int .i64 1] W fun e w' => e = .returned (.bool b1) ∧ w' = W := fun W h => by
          rw [← hb1, HONE.out]
          exact is_b _ _ d 1 W h (by omega)
        have HHA : ∀ W, Ob w.heap.size ga c W → Calls Try.prog 15 #[.pointer (some ⟨ga, 0, none⟩), .int .i64 1] W fun e w' => e = .returned (.bool b2) ∧ w' = W := fun W h => by
          rw [← hb2]
          exact whole_b _ _ c 1 W h (by omega)
        have HHB : ∀ W, Ob w.heap.size gb d W → Calls Try.prog 15 #[.pointer (some ⟨gb, 0, none⟩), .int .i64 1] W fun e w' => e = .returned (.bool b2) ∧ w' = W := fun W h => by
          rw [← hb2, HONE.out]
          exact whole_b _ _ d 1 W h (by omega)
        have HCL : ∀ W, Ob w.heap.size ga c W → w.heap.size ≤ W.heap.size → Calls Try.prog 21 #[.pointer (some ⟨ga, 0, none⟩), .int .i64 1] W fun e w' => (∃ E, e = .returned (.int .i64 E)) ∧ Ob w.heap.size ga (upd c 1 { c 1 with op := false }) w' ∧ Below w.heap.size W w' := fun W h hB => by
          obtain ⟨S, k1, k2⟩ := h
          exact (Close_all ga S c 1 0 ⟨#[]⟩ W k1).mono fun e w' ⟨he, hL⟩ => ⟨⟨_, he⟩, Lv.ob hL k2 hB⟩
        have HU2 : ∀ W, Ob w.heap.size ga (upd c 1 { c 1 with op := false }) W → Calls Try.prog 13 #[.pointer (some ⟨ga, 0, none⟩), .int .i64 1] W fun e w' => e = .returned (.string u) ∧ w' = W := fun W h => by
          have H := out_b _ _ _ 1 W h (by omega)
          rw [upd_self] at H
          rw [← hu]
          exact H
        have HOP : ∀ W, Ob w.heap.size ga (upd c 1 { c 1 with op := false }) W → w.heap.size ≤ W.heap.size → Calls Try.prog 18 #[.pointer (some ⟨ga, 0, none⟩), .int .i64 1] W fun e w' => e = .returned (.int .i64 0) ∧ Ob w.heap.size ga (upd c 1 p1) w' ∧ Below w.heap.size W w' := fun W h hB => by
          have H := open_b _ _ _ 1 W h hB (by omega) (by rw [upd_self])
          rw [upd_upd] at H
          exact H
        have HU3 : ∀ W, Ob w.heap.size ga (upd c 1 p1) W → Calls Try.prog 13 #[.pointer (some ⟨ga, 0, none⟩), .int .i64 1] W fun e w' => e = .returned (.string ⟨#[]⟩) ∧ w' = W := fun W h => by
          have H := out_b _ _ _ 1 W h (by omega)
          rw [upd_self] at H
          exact H
        have HOA : Hid (Ob w.heap.size ga c wr) := HT.out.obA
        have HOB : Hid (Ob w.heap.size gb d wr) := HT.out.obB
        clear hu hb1 hb2 HT HONE HGC HGD HRA HRB
        go_wp2_with (first
          | (go_at_call 13; refine (HU3 _ HO9.out).mono ?_; rintro e w9 ⟨rfl, rfl⟩)
          | (go_at_call 13; refine (HU2 _ HO8.out).mono ?_; rintro e w8 ⟨rfl, rfl⟩)
          | (go_at_call_of 13 (Value.pointer (some ⟨ga, 0, none⟩)); refine (HUA _ HOA.out).mono ?_; rintro e wr ⟨rfl, rfl⟩)
          | (go_at_call_of 13 (Value.pointer (some ⟨gb, 0, none⟩)); refine (HUB _ HOB.out).mono ?_; rintro e wr ⟨rfl, rfl⟩)
          | (go_at_call_of 14 (Value.pointer (some ⟨ga, 0, none⟩)); refine (HIA _ HOA.out).mono ?_; rintro e wr ⟨rfl, rfl⟩)
          | (go_at_call_of 14 (Value.pointer (some ⟨gb, 0, none⟩)); refine (HIB _ HOB.out).mono ?_; rintro e wr ⟨rfl, rfl⟩)
          | (go_at_call_of 15 (Value.pointer (some ⟨ga, 0, none⟩)); refine (HHA _ HOA.out).mono ?_; rintro e wr ⟨rfl, rfl⟩)
          | (go_at_call_of 15 (Value.pointer (some ⟨gb, 0, none⟩)); refine (HHB _ HOB.out).mono ?_; rintro e wr ⟨rfl, rfl⟩)
          | (go_at_call 21; refine (HCL _ HOA.out hsz).mono ?_; rintro e w8 ⟨⟨E8, rfl⟩, ho8, hb8⟩; have HO8 : Hid (Ob w.heap.size ga (upd c 1 { c 1 with op := false }) w8) := ho8; have HB8 : Hid (Below w.heap.size w w8) := HB.out.trans hb8; have hz8 := HB8.out.size; clear ho8 hb8)
          | (go_at_call 18; refine (HOP _ HO8.out hz8).mono ?_; rintro e w9 ⟨rfl, ho9, hb9⟩; have HO9 : Hid (Ob w.heap.size ga (upd c 1 p1) w9) := ho9; have HB9 : Hid (Below w.heap.size w w9) := HB8.out.trans hb9; clear ho9 hb9))
        go_ret
        exact ⟨rfl, HB9.out⟩
end Go.Proofs.Yteejehbgmkanpaa
