/-
  The walk of the statement PipesOut over this program.
-/
import Derived.Test.YteejehbgmkanpaaPmi
namespace Go.Proofs.Yteejehbgmkanpaa
open Go Go.RowKit
theorem below_drewN {B : Nat} {w w' : World} {k : Nat} (h : Below B w w') : Below B w (w'.drewN k) := h.trans ⟨rfl, rfl, rfl, Nat.le_refl _, fun _ _ => rfl⟩
set_option maxHeartbeats 2000000 in
theorem out_walk (ao : Option Addr) (cap : Nat) (l : List ByteArray) (n : Int) (w : World) (h : RowS w ao l) (hcap : l.length ≤ cap) (hn : N n) :
    Calls Try.prog 4 #[.slice ao l.length cap, .int .i64 n] w fun e w' => e = .returned (.bool true) ∧ Below w.heap.size w w' := by
  have HL := fun W => lives_any W
  have HOP : ∀ B r W, Ob B r (fun _ => p0) W → B ≤ W.heap.size → Calls Try.prog 18 #[.pointer (some ⟨r, 0, none⟩), .int .i64 3] W fun e w' => e = .returned (.int .i64 0) ∧ Ob B r (upd (fun _ => p0) 3 p1) w' ∧ Below B W w' := fun B r W h hB => open_b B r _ 3 W h hB (by omega) rfl
  have HBR : ∀ B r W, Ob B r (upd (fun _ => p0) 3 p1) W → B ≤ W.heap.size → Calls Try.prog 19 #[.pointer (some ⟨r, 0, none⟩), .int .i64 3, .int .i64 n] W fun e w' => e = .returned (.int .i64 0) ∧ Ob B r (upd (fun _ => p0) 3 (stO n ⟨#[]⟩)) w' ∧ Below B W w' := fun B r W h hB => by
    have H := break_b B r _ 3 n W h hB (by omega) (by rw [upd_self]; rfl) (by rw [upd_self]; rfl)
    rw [upd_self, upd_upd, stO_start] at H
    exact H
  have HW : ∀ B r (all s : ByteArray) W, all.size ≤ 100000 → s.size ≤ 40 → Ob B r (upd (fun _ => p0) 3 (stO n all)) W → B ≤ W.heap.size → Calls Try.prog 20 #[.pointer (some ⟨r, 0, none⟩), .int .i64 3, .string s] W fun e w' => e = .returned (.int .i64 (pE (stO n all) 1 s)) ∧ Ob B r (upd (fun _ => p0) 3 (stO n (all ++ s))) w' ∧ Below B W w' := fun B r all s W h1 h2 h hB => by
    have := stO_out_le n all
    have H := Write_b B r _ 3 s W h hB (by omega) (by rw [upd_self]; exact stO_ok hn all) (by rw [upd_self]; omega)
    rw [upd_self, upd_upd, stO_write] at H
    exact H
  have HU : ∀ B r all W, Ob B r (upd (fun _ => p0) 3 (stO n all)) W → Calls Try.prog 13 #[.pointer (some ⟨r, 0, none⟩), .int .i64 3] W fun e w' => e = .returned (.string (stO n all).out) ∧ w' = W := fun B r all W h => by
    have H := out_b B r _ 3 W h (by omega)
    rw [upd_self] at H
    exact H
  have HI : ∀ B r all W, Ob B r (upd (fun _ => p0) 3 (stO n all)) W → Calls Try.prog 14 #[.pointer (some ⟨r, 0, none⟩), .int .i64 3] W fun e w' => e = .returned (.bool true) ∧ w' = W := fun B r all W h => by
    have H := is_b B r _ 3 W h (by omega)
    rw [upd_self, stO_op] at H
    exact H
  have HH : ∀ B r all W, Ob B r (upd (fun _ => p0) 3 (stO n all)) W → Calls Try.prog 15 #[.pointer (some ⟨r, 0, none⟩), .int .i64 3] W fun e w' => e = .returned (.bool (stO n all).wh) ∧ w' = W := fun B r all W h => by
    have H := whole_b B r _ 3 W h (by omega)
    rw [upd_self] at H
    exact H
  have HR : Hid (RowS w ao l) := h
  obtain ⟨z, hz⟩ : ∃ z, l.length = z := ⟨_, rfl⟩
  have HZ : Hid (l.length = z) := hz
  rw [hz] at hcap ⊢
  clear h hz hn
  go_enter Try.func4, Try.ntmps4
  go_wp2_with (first
    | (go_at_call 8; refine (HL w).mono ?_; rintro e w1 ⟨rfl, hb1⟩; have HB1 : Hid (Below w.heap.size w w1) := hb1; have hs1 := hb1.size; clear hb1)
    | (go_at_call 9; refine (new_b w.heap.size w1 hs1).mono ?_; rintro e w2 ⟨rfl, hO2, hb2⟩; have HO2 : Hid (Ob w.heap.size w1.heap.size (fun _ => p0) w2) := hO2; have HB2 : Hid (Below w.heap.size w w2) := HB1.out.trans (hb2.mono hs1); have hs2 : w.heap.size ≤ w2.heap.size := Nat.le_trans hs1 hb2.size; clear hO2 hb2)
    | (go_at_call 18; refine (HOP _ _ _ HO2.out hs2).mono ?_; rintro e w3 ⟨rfl, hO3, hb3⟩; have HO3 : Hid (Ob w.heap.size w1.heap.size (upd (fun _ => p0) 3 p1) w3) := hO3; have HB3 : Hid (Below w.heap.size w w3) := HB2.out.trans hb3; have hs3 : w.heap.size ≤ w3.heap.size := Nat.le_trans hs2 hb3.size; clear hO3 hb3)
    | (go_at_call 19; refine (HBR _ _ _ HO3.out hs3).mono ?_; rintro e w4 ⟨rfl, hO4, hb4⟩; have HO4 : Hid (Ob w.heap.size w1.heap.size (upd (fun _ => p0) 3 (stO n ⟨#[]⟩)) w4) := hO4; have HB4 : Hid (Below w.heap.size w w4) := HB3.out.trans hb4; have hs4 : w.heap.size ≤ w4.heap.size := Nat.le_trans hs3 hb4.size; clear hO4 hb4))
  obtain ⟨r, hr⟩ : ∃ r, w1.heap.size = r := ⟨_, rfl⟩
  rw [hr] at HO4 ⊢
  clear HO2 HO3 hr hs1 hs2 hs3 hs4 HB1 HB2 HB3
  go_loopw [6, 7] (fun a i wr => ∃ (all : ByteArray) (k : Nat), a = .string all ∧ all = joinN (l.take k) ∧ k ≤ z ∧ k ≤ 50 ∧ i = .int .i64 (k : Int) ∧ Ob w.heap.size r (upd (fun _ => p0) 3 (stO n all)) wr ∧ Below w.heap.size w wr) (fun _ i _ => 50 - (intOf i).toNat)
  case atStart => exact ⟨_, 0, rfl, joinN_nil.symm, by omega, by omega, rfl, HO4.out, HB4.out⟩
  case round =>
    obtain ⟨all, k, rfl, hall, hkz, hk, rfl, hO, hb⟩ := hrel
    have HO : Hid (Ob w.heap.size r (upd (fun _ => p0) 3 (stO n all)) wr) := hO
    have HB : Hid (Below w.heap.size w wr) := hb
    have hsz := hb.size
    have hsa : all.size ≤ 2000 := by
      have := joinN_size l k
      rw [hall]
      omega
    have HALL : Hid (all = joinN (l.take k)) := hall
    by_cases hlt : k < z ∧ k < 50
    · obtain ⟨s, hs⟩ : ∃ s, l[k]? = some s := ⟨_, List.getElem?_eq_getElem (by rw [HZ.out]; exact hlt.1)⟩
      obtain ⟨ad, rfl, ks⟩ := (HR.out.below hb) k s hs
      have EJ : Hid (joinN (l.take (k + 1)) = all ++ cutB s) := by
        show _ = _
        rw [hall]
        exact joinN_take hs
      obtain ⟨m, hm⟩ : ∃ m, min s.size 40 = m := ⟨_, rfl⟩
      have hm1 : (if (40 : Int) < (s.size : Int) then (40 : Int) else (s.size : Int)) = (m : Int) := by split <;> omega
      have m0 : (0 : Int) ≤ (m : Int) := by omega
      have m1 : (m : Int) ≤ (s.size : Int) := by omega
      have h40 := cutB_size s
      have EQ : Hid (cutB s = s.extract 0 m) := by
        show _ = _
        unfold cutB
        rw [hm]
      rw [EQ.out] at h40
      obtain ⟨q, hq⟩ : ∃ q, s.extract 0 m = q := ⟨_, rfl⟩
      rw [hq] at h40
      have EQ2 : Hid (cutB s = q) := by
        show _ = _
        rw [EQ.out, hq]
      have HW2 := HW w.heap.size r all q
      have HE := stO_e n all q
      obtain ⟨E, hE⟩ : ∃ E, pE (stO n all) 1 q = E := ⟨_, rfl⟩
      rw [hE] at HE
      simp only [hE] at HW2
      have HH2 := HH w.heap.size r all
      obtain ⟨b, hb'⟩ : ∃ b, (stO n all).wh = b := ⟨_, rfl⟩
      rw [hb'] at HE
      simp only [hb'] at HH2
      have h1 : (k : Int) < (z : Int) := by omega
      have h2 : (k : Int) < 50 := by omega
      have h3 : (0 : Int) ≤ (k : Int) := by omega
      have h4 : (k : Int) < (cap : Int) := by omega
      have hne : E = 0 ∨ ¬ E = 0 := by omega
      clear hO hb hs hall hlt hE hb' hm EQ HALL HOP HBR HI HU HH HW HL HO4 HB4
      by_cases hn0 : n < 0
      · rw [decide_eq_true hn0, Bool.true_or, Bool.and_true] at HE
        cases b with
        | false =>
          have hE1 : ¬ E = 0 := by simpa using HE
          have hE2 : (E == 0) = false := HE
          clear HE hne
          go_wp2_with fail
          go_quiet (fail)
          go_wp2_with (first
            | (go_at_call 15; refine (HH2 _ ?_).mono ?_; exact HO.out.alike rfl; rintro e w6 ⟨rfl, rfl⟩)
            | (go_at_call 20; refine (HW2 _ (by omega) h40 ?_ ?_).mono ?_; exact HO.out.alike rfl; exact hsz; rintro e w5 ⟨rfl, hO5, hb5⟩; have HO5 : Hid (Ob w.heap.size r (upd (fun _ => p0) 3 (stO n (all ++ q))) w5) := hO5; have HB5 : Hid (Below w.heap.size w w5) := (below_drewN HB.out).trans hb5; clear hO5 hb5))
          go_roundw
          case rel => exact ⟨_, k + 1, rfl, by rw [EJ.out, EQ2.out], by omega, by omega, by go_num, HO5.out, HB5.out⟩
          case measure => simp [intOf]; omega
        | true =>
          obtain rfl : E = 0 := by simpa using HE
          clear HE hne
          go_wp2_with fail
          go_quiet (fail)
          go_wp2_with (first
            | (go_at_call 15; refine (HH2 _ ?_).mono ?_; exact HO.out.alike rfl; rintro e w6 ⟨rfl, rfl⟩)
            | (go_at_call 20; refine (HW2 _ (by omega) h40 ?_ ?_).mono ?_; exact HO.out.alike rfl; exact hsz; rintro e w5 ⟨rfl, hO5, hb5⟩; have HO5 : Hid (Ob w.heap.size r (upd (fun _ => p0) 3 (stO n (all ++ q))) w5) := hO5; have HB5 : Hid (Below w.heap.size w w5) := (below_drewN HB.out).trans hb5; clear hO5 hb5))
          go_roundw
          case rel => exact ⟨_, k + 1, rfl, by rw [EJ.out, EQ2.out], by omega, by omega, by go_num, HO5.out, HB5.out⟩
          case measure => simp [intOf]; omega
      · rw [decide_eq_false hn0, Bool.false_or] at HE
        by_cases hfit : ((all ++ q).size : Int) ≤ n
        · rw [decide_eq_true hfit, Bool.and_true] at HE
          rw [ByteArray.size_append] at hfit
          cases b with
          | false =>
            have hE1 : ¬ E = 0 := by simpa using HE
            have hE2 : (E == 0) = false := HE
            clear HE hne
            go_wp2_with fail
            go_quiet (fail)
            go_wp2_with (first
              | (go_at_call 15; refine (HH2 _ ?_).mono ?_; exact HO.out.alike rfl; rintro e w6 ⟨rfl, rfl⟩)
              | (go_at_call 20; refine (HW2 _ (by omega) h40 ?_ ?_).mono ?_; exact HO.out.alike rfl; exact hsz; rintro e w5 ⟨rfl, hO5, hb5⟩; have HO5 : Hid (Ob w.heap.size r (upd (fun _ => p0) 3 (stO n (all ++ q))) w5) := hO5; have HB5 : Hid (Below w.heap.size w w5) := (below_drewN HB.out).trans hb5; clear hO5 hb5))
            go_roundw
            case rel => exact ⟨_, k + 1, rfl, by rw [EJ.out, EQ2.out], by omega, by omega, by go_num, HO5.out, HB5.out⟩
            case measure => simp [intOf]; omega
          | true =>
            obtain rfl : E = 0 := by simpa using HE
            have hf2 : (all.size : Int) + (q.size : Int) ≤ n := by omega
            have hf3 : ¬ n < (all.size : Int) + (q.size : Int) := by omega
            clear HE hne
            go_wp2_with fail
            go_quiet (fail)
            go_wp2_with (first
              | (go_at_call 15; refine (HH2 _ ?_).mono ?_; exact HO.out.alike rfl; rintro e w6 ⟨rfl, rfl⟩)
              | (go_at_call 20; refine (HW2 _ (by omega) h40 ?_ ?_).mono ?_; exact HO.out.alike rfl; exact hsz; rintro e w5 ⟨rfl, hO5, hb5⟩; have HO5 : Hid (Ob w.heap.size r (upd (fun _ => p0) 3 (stO n (all ++ q))) w5) := hO5; have HB5 : Hid (Below w.heap.size w w5) := (below_drewN HB.out).trans hb5; clear hO5 hb5))
            go_roundw
            case rel => exact ⟨_, k + 1, rfl, by rw [EJ.out, EQ2.out], by omega, by omega, by go_num, HO5.out, HB5.out⟩
            case measure => simp [intOf]; omega
        · rw [decide_eq_false hfit, Bool.and_false] at HE
          rw [ByteArray.size_append] at hfit
          have hE1 : ¬ E = 0 := by simpa using HE
          have hE2 : (E == 0) = false := HE
          clear HE hne
          cases b with
          | false =>
            go_wp2_with fail
            go_quiet (fail)
            go_wp2_with (first
              | (go_at_call 15; refine (HH2 _ ?_).mono ?_; exact HO.out.alike rfl; rintro e w6 ⟨rfl, rfl⟩)
              | (go_at_call 20; refine (HW2 _ (by omega) h40 ?_ ?_).mono ?_; exact HO.out.alike rfl; exact hsz; rintro e w5 ⟨rfl, hO5, hb5⟩; have HO5 : Hid (Ob w.heap.size r (upd (fun _ => p0) 3 (stO n (all ++ q))) w5) := hO5; have HB5 : Hid (Below w.heap.size w w5) := (below_drewN HB.out).trans hb5; clear hO5 hb5))
            go_roundw
            case rel => exact ⟨_, k + 1, rfl, by rw [EJ.out, EQ2.out], by omega, by omega, by go_num, HO5.out, HB5.out⟩
            case measure => simp [intOf]; omega
          | true =>
            go_wp2_with fail
            go_quiet (fail)
            go_wp2_with (first
              | (go_at_call 15; refine (HH2 _ ?_).mono ?_; exact HO.out.alike rfl; rintro e w6 ⟨rfl, rfl⟩)
              | (go_at_call 20; refine (HW2 _ (by omega) h40 ?_ ?_).mono ?_; exact HO.out.alike rfl; exact hsz; rintro e w5 ⟨rfl, hO5, hb5⟩; have HO5 : Hid (Ob w.heap.size r (upd (fun _ => p0) 3 (stO n (all ++ q))) w5) := hO5; have HB5 : Hid (Below w.heap.size w w5) := (below_drewN HB.out).trans hb5; clear hO5 hb5))
            go_roundw
            case rel => exact ⟨_, k + 1, rfl, by rw [EJ.out, EQ2.out], by omega, by omega, by go_num, HO5.out, HB5.out⟩
            case measure => simp [intOf]; omega
    · have hq : z ≤ k ∨ (50 ≤ k ∧ k < z) := by omega
      have HU2 := HU w.heap.size r all
      have HH2 := HH w.heap.size r all
      have HI2 := HI w.heap.size r all
      clear hO hb hall hlt HALL HOP HBR HI HU HH HW HL HO4 HB4
      by_cases hn0 : n < 0
      · have e1 : (stO n all).out = all := by unfold stO; rw [if_pos hn0]
        have e2 : (stO n all).wh = true := by unfold stO; rw [if_pos hn0]; rfl
        simp only [e1] at HU2
        simp only [e2] at HH2
        clear e1 e2
        rcases hq with hq | ⟨hq, hq2⟩
        · have h1 : ¬ (k : Int) < (z : Int) := by omega
          go_wp2_with (first
            | (go_at_call 13; refine (HU2 _ HO.out).mono ?_; rintro e wr ⟨rfl, rfl⟩)
            | (go_at_call 15; refine (HH2 _ HO.out).mono ?_; rintro e wr ⟨rfl, rfl⟩)
            | (go_at_call 14; refine (HI2 _ HO.out).mono ?_; rintro e wr ⟨rfl, rfl⟩))
          go_ret
          exact ⟨rfl, HB.out⟩
        · have h1 : ¬ (k : Int) < 50 := by omega
          have h2 : (k : Int) < (z : Int) := by omega
          go_wp2_with (first
            | (go_at_call 13; refine (HU2 _ HO.out).mono ?_; rintro e wr ⟨rfl, rfl⟩)
            | (go_at_call 15; refine (HH2 _ HO.out).mono ?_; rintro e wr ⟨rfl, rfl⟩)
            | (go_at_call 14; refine (HI2 _ HO.out).mono ?_; rintro e wr ⟨rfl, rfl⟩))
          go_ret
          exact ⟨rfl, HB.out⟩
      · obtain ⟨m, rfl⟩ : ∃ m : Nat, n = (m : Int) := ⟨n.toNat, by omega⟩
        by_cases hm : all.size ≤ m
        · have e1 : (stO (m : Int) all).out = all := by unfold stO; rw [if_neg hn0]; exact ext_all (by omega)
          have e2 : (stO (m : Int) all).wh = true := by unfold stO; rw [if_neg hn0]; simp [Pp.wh, hm]
          have hm2 : (all.size : Int) ≤ (m : Int) := by omega
          have hm3 : ¬ (m : Int) < (all.size : Int) := by omega
          simp only [e1] at HU2
          simp only [e2] at HH2
          clear e1 e2
          rcases hq with hq | ⟨hq, hq2⟩
          · have h1 : ¬ (k : Int) < (z : Int) := by omega
            go_wp2_with (first
              | (go_at_call 13; refine (HU2 _ HO.out).mono ?_; rintro e wr ⟨rfl, rfl⟩)
              | (go_at_call 15; refine (HH2 _ HO.out).mono ?_; rintro e wr ⟨rfl, rfl⟩)
              | (go_at_call 14; refine (HI2 _ HO.out).mono ?_; rintro e wr ⟨rfl, rfl⟩))
            go_ret
            exact ⟨rfl, HB.out⟩
          · have h1 : ¬ (k : Int) < 50 := by omega
            have h2 : (k : Int) < (z : Int) := by omega
            go_wp2_with (first
              | (go_at_call 13; refine (HU2 _ HO.out).mono ?_; rintro e wr ⟨rfl, rfl⟩)
              | (go_at_call 15; refine (HH2 _ HO.out).mono ?_; rintro e wr ⟨rfl, rfl⟩)
              | (go_at_call 14; refine (HI2 _ HO.out).mono ?_; rintro e wr ⟨rfl, rfl⟩))
            go_ret
            exact ⟨rfl, HB.out⟩
        · have e1 : (stO (m : Int) all).out = all.extract 0 m := by unfold stO; rw [if_neg hn0]; rfl
          have e2 : (stO (m : Int) all).wh = false := by unfold stO; rw [if_neg hn0]; simp [Pp.wh]; omega
          have hm2 : ¬ (all.size : Int) ≤ (m : Int) := by omega
          have hm3 : (m : Int) ≤ (all.size : Int) := by omega
          have hm4 : (0 : Int) ≤ (m : Int) := by omega
          simp only [e1] at HU2
          simp only [e2] at HH2
          clear e1 e2
          rcases hq with hq | ⟨hq, hq2⟩
          · have h1 : ¬ (k : Int) < (z : Int) := by omega
            go_wp2_with (first
              | (go_at_call 13; refine (HU2 _ HO.out).mono ?_; rintro e wr ⟨rfl, rfl⟩)
              | (go_at_call 15; refine (HH2 _ HO.out).mono ?_; rintro e wr ⟨rfl, rfl⟩)
              | (go_at_call 14; refine (HI2 _ HO.out).mono ?_; rintro e wr ⟨rfl, rfl⟩))
            go_ret
            exact ⟨rfl, HB.out⟩
          · have h1 : ¬ (k : Int) < 50 := by omega
            have h2 : (k : Int) < (z : Int) := by omega
            go_wp2_with (first
              | (go_at_call 13; refine (HU2 _ HO.out).mono ?_; rintro e wr ⟨rfl, rfl⟩)
              | (go_at_call 15; refine (HH2 _ HO.out).mono ?_; rintro e wr ⟨rfl, rfl⟩)
              | (go_at_call 14; refine (HI2 _ HO.out).mono ?_; rintro e wr ⟨rfl, rfl⟩))
            go_ret
            exact ⟨rfl, HB.out⟩
end Go.Proofs.Yteejehbgmkanpaa
