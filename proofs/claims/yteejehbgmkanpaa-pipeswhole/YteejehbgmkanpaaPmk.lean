/-
  The walk of the statement PipesWhole over this program.
-/
import Derived.Test.YteejehbgmkanpaaPmj
namespace Go.Proofs.Yteejehbgmkanpaa
open Go Go.RowKit
/-- Two connections, 1 and 2, beside those that were never opened. -/
def cW (x y : Pp) : Nat → Pp := fun j => if j = 1 then x else if j = 2 then y else p0
theorem cW_0 : (fun _ => p0) = cW p0 p0 := by
  funext j
  unfold cW
  split
  · rfl
  · split <;> rfl
theorem cW_1 (x y z : Pp) : upd (cW x y) 1 z = cW z y := by
  funext j
  unfold upd cW
  by_cases h : j = 1
  · rw [if_pos h, if_pos h]
  · rw [if_neg h, if_neg h, if_neg h]
theorem cW_2 (x y z : Pp) : upd (cW x y) 2 z = cW x z := by
  funext j
  unfold upd cW
  by_cases h : j = 2
  · subst h
    rfl
  · rw [if_neg h]
    by_cases h1 : j = 1
    · rw [if_pos h1, if_pos h1]
    · rw [if_neg h1, if_neg h1, if_neg h, if_neg h]
theorem cW_a (x y : Pp) : cW x y 1 = x := rfl
theorem cW_b (x y : Pp) : cW x y 2 = y := rfl
set_option maxHeartbeats 2000000 in
theorem whole_walk (ao : Option Addr) (cap : Nat) (l : List ByteArray) (n : Int) (w : World) (h : RowS w ao l) (hcap : l.length ≤ cap) (hn : N n) :
    Calls Try.prog 7 #[.slice ao l.length cap, .int .i64 n] w fun e w' => e = .returned (.bool true) ∧ Below w.heap.size w w' := by
  have HL := fun W => lives_any W
  have HNW : ∀ B W, B ≤ W.heap.size → Calls Try.prog 9 #[] W fun e w' => e = .returned (.pointer (some ⟨W.heap.size, 0, none⟩)) ∧ Ob B W.heap.size (cW p0 p0) w' ∧ Below W.heap.size W w' := fun B W hB => by
    have H := new_b B W hB
    rw [cW_0] at H
    exact H
  have HO1 : ∀ B r W, Ob B r (cW p0 p0) W → B ≤ W.heap.size → Calls Try.prog 18 #[.pointer (some ⟨r, 0, none⟩), .int .i64 1] W fun e w' => e = .returned (.int .i64 0) ∧ Ob B r (cW p1 p0) w' ∧ Below B W w' := fun B r W h hB => by
    have H := open_b B r _ 1 W h hB (by omega) rfl
    rw [cW_1] at H
    exact H
  have HO2 : ∀ B r W, Ob B r (cW p1 p0) W → B ≤ W.heap.size → Calls Try.prog 18 #[.pointer (some ⟨r, 0, none⟩), .int .i64 2] W fun e w' => e = .returned (.int .i64 0) ∧ Ob B r (cW p1 p1) w' ∧ Below B W w' := fun B r W h hB => by
    have H := open_b B r _ 2 W h hB (by omega) rfl
    rw [cW_2] at H
    exact H
  have HB1 : ∀ B r W, Ob B r (cW p1 p1) W → B ≤ W.heap.size → Calls Try.prog 19 #[.pointer (some ⟨r, 0, none⟩), .int .i64 1, .int .i64 n] W fun e w' => e = .returned (.int .i64 0) ∧ Ob B r (cW (stO n ⟨#[]⟩) p1) w' ∧ Below B W w' := fun B r W h hB => by
    have H := break_b B r _ 1 n W h hB (by omega) rfl rfl
    rw [cW_1, cW_a, stO_start] at H
    exact H
  have HB2 : ∀ B r W, Ob B r (cW (stO n ⟨#[]⟩) p1) W → B ≤ W.heap.size → Calls Try.prog 19 #[.pointer (some ⟨r, 0, none⟩), .int .i64 2, .int .i64 n] W fun e w' => e = .returned (.int .i64 0) ∧ Ob B r (cW (stO n ⟨#[]⟩) (stO n ⟨#[]⟩)) w' ∧ Below B W w' := fun B r W h hB => by
    have H := break_b B r _ 2 n W h hB (by omega) rfl rfl
    rw [cW_2, cW_b, stO_start] at H
    exact H
  have HW1 : ∀ B r (all s : ByteArray) W, all.size ≤ 100000 → s.size ≤ 40 → Ob B r (cW (stO n all) (stO n ⟨#[]⟩)) W → B ≤ W.heap.size → Calls Try.prog 20 #[.pointer (some ⟨r, 0, none⟩), .int .i64 1, .string s] W fun e w' => e = .returned (.int .i64 (pE (stO n all) 1 s)) ∧ Ob B r (cW (stO n (all ++ s)) (stO n ⟨#[]⟩)) w' ∧ Below B W w' := fun B r all s W h1 h2 h hB => by
    have := stO_out_le n all
    have H := Write_b B r _ 1 s W h hB (by omega) (by rw [cW_a]; exact stO_ok hn all) (by rw [cW_a]; omega)
    rw [cW_a, cW_1, stO_write] at H
    exact H
  have HW2 : ∀ B r (all : ByteArray) W, all.size ≤ 100000 → Ob B r (cW (stO n all) (stO n ⟨#[]⟩)) W → B ≤ W.heap.size → Calls Try.prog 20 #[.pointer (some ⟨r, 0, none⟩), .int .i64 2, .string all] W fun e w' => e = .returned (.int .i64 (pE (stO n ⟨#[]⟩) 1 all)) ∧ Ob B r (cW (stO n all) (stO n all)) w' ∧ Below B W w' := fun B r all W h1 h hB => by
    have := stO_out_le n ⟨#[]⟩
    have e0 : (⟨#[]⟩ : ByteArray).size = 0 := rfl
    have H := Write_b B r _ 2 all W h hB (by omega) (by rw [cW_b]; exact stO_ok hn _) (by rw [cW_b]; omega)
    rw [cW_b, cW_2, stO_write, nil_app] at H
    exact H
  have HU1 : ∀ B r all W, Ob B r (cW (stO n all) (stO n all)) W → Calls Try.prog 13 #[.pointer (some ⟨r, 0, none⟩), .int .i64 1] W fun e w' => e = .returned (.string (stO n all).out) ∧ w' = W := fun B r all W h => out_b B r _ 1 W h (by omega)
  have HU2 : ∀ B r all W, Ob B r (cW (stO n all) (stO n all)) W → Calls Try.prog 13 #[.pointer (some ⟨r, 0, none⟩), .int .i64 2] W fun e w' => e = .returned (.string (stO n all).out) ∧ w' = W := fun B r all W h => out_b B r _ 2 W h (by omega)
  have HH1 : ∀ B r all W, Ob B r (cW (stO n all) (stO n all)) W → Calls Try.prog 15 #[.pointer (some ⟨r, 0, none⟩), .int .i64 1] W fun e w' => e = .returned (.bool (stO n all).wh) ∧ w' = W := fun B r all W h => whole_b B r _ 1 W h (by omega)
  have HH2 : ∀ B r all W, Ob B r (cW (stO n all) (stO n all)) W → Calls Try.prog 15 #[.pointer (some ⟨r, 0, none⟩), .int .i64 2] W fun e w' => e = .returned (.bool (stO n all).wh) ∧ w' = W := fun B r all W h => whole_b B r _ 2 W h (by omega)
  have HI1 : ∀ B r all W, Ob B r (cW (stO n all) (stO n all)) W → Calls Try.prog 14 #[.pointer (some ⟨r, 0, none⟩), .int .i64 1] W fun e w' => e = .returned (.bool true) ∧ w' = W := fun B r all W h => by
    have H := is_b B r _ 1 W h (by omega)
    rw [cW_a, stO_op] at H
    exact H
  have HR : Hid (RowS w ao l) := h
  obtain ⟨z, hz⟩ : ∃ z, l.length = z := ⟨_, rfl⟩
  have HZ : Hid (l.length = z) := hz
  rw [hz] at hcap ⊢
  clear h hz hn
  go_enter Try.func7, Try.ntmps7
  go_wp2_with (first
    | (go_at_call 8; refine (HL w).mono ?_; rintro e w1 ⟨rfl, hb1⟩; have HS1 : Hid (Below w.heap.size w w1) := hb1; have hs1 := hb1.size; clear hb1)
    | (go_at_call 9; refine (HNW w.heap.size w1 hs1).mono ?_; rintro e w2 ⟨rfl, hO2, hb2⟩; have G2 : Hid (Ob w.heap.size w1.heap.size (cW p0 p0) w2) := hO2; have HS2 : Hid (Below w.heap.size w w2) := HS1.out.trans (hb2.mono hs1); have hs2 : w.heap.size ≤ w2.heap.size := Nat.le_trans hs1 hb2.size; clear hO2 hb2)
    | (go_at_call_of 18 (Value.int .i64 2); refine (HO2 _ _ _ G3.out hs3).mono ?_; rintro e w4 ⟨rfl, hO4, hb4⟩; have G4 : Hid (Ob w.heap.size w1.heap.size (cW p1 p1) w4) := hO4; have HS4 : Hid (Below w.heap.size w w4) := HS3.out.trans hb4; have hs4 : w.heap.size ≤ w4.heap.size := Nat.le_trans hs3 hb4.size; clear hO4 hb4)
    | (go_at_call_of 18 (Value.int .i64 1); refine (HO1 _ _ _ G2.out hs2).mono ?_; rintro e w3 ⟨rfl, hO3, hb3⟩; have G3 : Hid (Ob w.heap.size w1.heap.size (cW p1 p0) w3) := hO3; have HS3 : Hid (Below w.heap.size w w3) := HS2.out.trans hb3; have hs3 : w.heap.size ≤ w3.heap.size := Nat.le_trans hs2 hb3.size; clear hO3 hb3)
    | (go_at_call_of 19 (Value.int .i64 2); refine (HB2 _ _ _ G5.out hs5).mono ?_; rintro e w6 ⟨rfl, hO6, hb6⟩; have G6 : Hid (Ob w.heap.size w1.heap.size (cW (stO n ⟨#[]⟩) (stO n ⟨#[]⟩)) w6) := hO6; have HS6 : Hid (Below w.heap.size w w6) := HS5.out.trans hb6; clear hO6 hb6)
    | (go_at_call_of 19 (Value.int .i64 1); refine (HB1 _ _ _ G4.out hs4).mono ?_; rintro e w5 ⟨rfl, hO5, hb5⟩; have G5 : Hid (Ob w.heap.size w1.heap.size (cW (stO n ⟨#[]⟩) p1) w5) := hO5; have HS5 : Hid (Below w.heap.size w w5) := HS4.out.trans hb5; have hs5 : w.heap.size ≤ w5.heap.size := Nat.le_trans hs4 hb5.size; clear hO5 hb5))
  obtain ⟨r, hr⟩ : ∃ r, w1.heap.size = r := ⟨_, rfl⟩
  rw [hr] at G6 ⊢
  clear G2 G3 G4 G5 hr hs1 hs2 hs3 hs4 hs5 HS1 HS2 HS3 HS4 HS5
  go_loopw [6, 7] (fun a i wr => ∃ (all : ByteArray) (k : Nat), a = .string all ∧ all = joinN (l.take k) ∧ k ≤ z ∧ k ≤ 50 ∧ i = .int .i64 (k : Int) ∧ Ob w.heap.size r (cW (stO n all) (stO n ⟨#[]⟩)) wr ∧ Below w.heap.size w wr) (fun _ i _ => 50 - (intOf i).toNat)
  case atStart => exact ⟨_, 0, rfl, joinN_nil.symm, by omega, by omega, rfl, G6.out, HS6.out⟩
  case round =>
    obtain ⟨all, k, rfl, hall, hkz, hk, rfl, hO, hb⟩ := hrel
    have HO : Hid (Ob w.heap.size r (cW (stO n all) (stO n ⟨#[]⟩)) wr) := hO
    have HB : Hid (Below w.heap.size w wr) := hb
    have hsz := hb.size
    have hsa : all.size ≤ 2000 := by
      have := joinN_size l k
      rw [hall]
      omega
    have HALL : Hid (all = joinN (l.take k)) := hall
    by_cases hlt : k < z ∧ k < 50
    · obtain ⟨s, hs⟩ : ∃ s, l[k]? = some s := ⟨_, List.getElem?_eq_getElem (by rw [HZ.out]; exact hlt.1)⟩
      obtain ⟨ad, rfl, ks⟩ := (HR.out.below hb) k s hs
      have EJ : Hid (joinN (l.take (k + 1)) = all ++ cutB s) := by
        show _ = _
        rw [hall]
        exact joinN_take hs
      obtain ⟨m, hm⟩ : ∃ m, min s.size 40 = m := ⟨_, rfl⟩
      have hm1 : (if (40 : Int) < (s.size : Int) then (40 : Int) else (s.size : Int)) = (m : Int) := by split <;> omega
      have m0 : (0 : Int) ≤ (m : Int) := by omega
      have m1 : (m : Int) ≤ (s.size : Int) := by omega
      have h40 := cutB_size s
      have EQ : Hid (cutB s = s.extract 0 m) := by
        show _ = _
        unfold cutB
        rw [hm]
      rw [EQ.out] at h40
      obtain ⟨q, hq⟩ : ∃ q, s.extract 0 m = q := ⟨_, rfl⟩
      rw [hq] at h40
      have EQ2 : Hid (cutB s = q) := by
        show _ = _
        rw [EQ.out, hq]
      have HW3 := HW1 w.heap.size r all q
      have h1 : (k : Int) < (z : Int) := by omega
      have h2 : (k : Int) < 50 := by omega
      have h3 : (0 : Int) ≤ (k : Int) := by omega
      have h4 : (k : Int) < (cap : Int) := by omega
      clear hO hb hs hall hlt hm EQ HALL HO1 HO2 HB1 HB2 HNW HU1 HU2 HH1 HH2 HI1 HW1 HW2 HL G6 HS6
      go_wp2_with fail
      go_quiet (fail)
      go_wp2_with (go_at_call 20; refine (HW3 _ (by omega) h40 ?_ ?_).mono ?_; exact HO.out.alike rfl; exact hsz; rintro e w5 ⟨rfl, hO5, hb5⟩; have HO5 : Hid (Ob w.heap.size r (cW (stO n (all ++ q)) (stO n ⟨#[]⟩)) w5) := hO5; have HB5 : Hid (Below w.heap.size w w5) := (below_drewN HB.out).trans hb5; clear hO5 hb5)
      go_roundw
      case rel => exact ⟨_, k + 1, rfl, by rw [EJ.out, EQ2.out], by omega, by omega, by go_num, HO5.out, HB5.out⟩
      case measure => simp [intOf]; omega
    · have hq : z ≤ k ∨ (50 ≤ k ∧ k < z) := by omega
      have HX := HW2 w.heap.size r all
      have HU3 := HU1 w.heap.size r all
      have HU4 := HU2 w.heap.size r all
      have HH3 := HH1 w.heap.size r all
      have HH4 := HH2 w.heap.size r all
      have HI3 := HI1 w.heap.size r all
      obtain ⟨E, hE⟩ : ∃ E, pE (stO n ⟨#[]⟩) 1 all = E := ⟨_, rfl⟩
      obtain ⟨b, hb'⟩ : ∃ b, (stO n all).wh = b := ⟨_, rfl⟩
      obtain ⟨u, hu⟩ : ∃ u, (stO n all).out = u := ⟨_, rfl⟩
      simp only [hE] at HX
      simp only [hb'] at HH3 HH4
      simp only [hu] at HU3 HU4
      clear hO hb hall hlt HALL HO1 HO2 HB1 HB2 HNW HU1 HU2 HH1 HH2 HI1 HW1 HW2 HL G6 HS6 hE hb' hu
      rcases hq with hq | ⟨hq, hq2⟩
      · have h1 : ¬ (k : Int) < (z : Int) := by omega
        go_wp2_with (first
          | (go_at_call 20; refine (HX _ (by omega) HO.out hsz).mono ?_; rintro e w5 ⟨rfl, hO5, hb5⟩; have HO5 : Hid (Ob w.heap.size r (cW (stO n all) (stO n all)) w5) := hO5; have HB5 : Hid (Below w.heap.size w w5) := HB.out.trans hb5; clear hO5 hb5)
          | (go_at_call_of 13 (Value.int .i64 1); refine (HU3 _ HO5.out).mono ?_; rintro e w5 ⟨rfl, rfl⟩)
          | (go_at_call_of 13 (Value.int .i64 2); refine (HU4 _ HO5.out).mono ?_; rintro e w5 ⟨rfl, rfl⟩)
          | (go_at_call_of 15 (Value.int .i64 1); refine (HH3 _ HO5.out).mono ?_; rintro e w5 ⟨rfl, rfl⟩)
          | (go_at_call_of 15 (Value.int .i64 2); refine (HH4 _ HO5.out).mono ?_; rintro e w5 ⟨rfl, rfl⟩)
          | (go_at_call 14; refine (HI3 _ HO5.out).mono ?_; rintro e w5 ⟨rfl, rfl⟩))
        go_ret
        exact ⟨rfl, HB5.out⟩
      · have h1 : ¬ (k : Int) < 50 := by omega
        have h2 : (k : Int) < (z : Int) := by omega
        go_wp2_with (first
          | (go_at_call 20; refine (HX _ (by omega) HO.out hsz).mono ?_; rintro e w5 ⟨rfl, hO5, hb5⟩; have HO5 : Hid (Ob w.heap.size r (cW (stO n all) (stO n all)) w5) := hO5; have HB5 : Hid (Below w.heap.size w w5) := HB.out.trans hb5; clear hO5 hb5)
          | (go_at_call_of 13 (Value.int .i64 1); refine (HU3 _ HO5.out).mono ?_; rintro e w5 ⟨rfl, rfl⟩)
          | (go_at_call_of 13 (Value.int .i64 2); refine (HU4 _ HO5.out).mono ?_; rintro e w5 ⟨rfl, rfl⟩)
          | (go_at_call_of 15 (Value.int .i64 1); refine (HH3 _ HO5.out).mono ?_; rintro e w5 ⟨rfl, rfl⟩)
          | (go_at_call_of 15 (Value.int .i64 2); refine (HH4 _ HO5.out).mono ?_; rintro e w5 ⟨rfl, rfl⟩)
          | (go_at_call 14; refine (HI3 _ HO5.out).mono ?_; rintro e w5 ⟨rfl, rfl⟩))
        go_ret
        exact ⟨rfl, HB5.out⟩
end Go.Proofs.Yteejehbgmkanpaa
