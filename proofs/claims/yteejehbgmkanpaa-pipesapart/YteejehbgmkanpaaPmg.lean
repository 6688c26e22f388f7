/-
  Connections above a block number; the statements' own first look (lives).
-/
import Derived.Test.YteejehbgmkanpaaPmf
namespace Go.Proofs.Yteejehbgmkanpaa
open Go Go.RowKit
/-- Connections in memory, all of it above a block number; nothing about them is out of bounds. -/
structure Ob (B r : Nat) (c : Nat → Pp) (w : World) : Prop where
  ex : ∃ S, PsM r S c w ∧ ∀ k ∈ S, B ≤ k
theorem Ob.below {B r : Nat} {c : Nat → Pp} {w w' : World} (h : Ob B r c w) (hb : Below w.heap.size w w') : Ob B r c w' := by
  obtain ⟨S, h1, h2⟩ := h
  exact ⟨S, h1.below hb, h2⟩
theorem Ob.alike {B r : Nat} {c : Nat → Pp} {w w' : World} (h : Ob B r c w) (e : w'.heap = w.heap) : Ob B r c w' := by
  obtain ⟨S, h1, h2⟩ := h
  exact ⟨S, h1.alike e, h2⟩
theorem Lv.ob {B r : Nat} {S : List Nat} {c : Nat → Pp} {w w' : World} (h : Lv r S c w w') (hS : ∀ k ∈ S, B ≤ k) (hB : B ≤ w.heap.size) : Ob B r c w' ∧ Below B w w' := by
  obtain ⟨S', h1, h2, h3⟩ := h.ex
  exact ⟨⟨S', h1, fun k hk => (h2 k hk).elim (hS k) (Nat.le_trans hB)⟩, h3.below hB hS⟩
theorem new_b (B : Nat) (w : World) (hB : B ≤ w.heap.size) : Calls Try.prog 9 #[] w fun e w' => e = .returned (.pointer (some ⟨w.heap.size, 0, none⟩)) ∧ Ob B w.heap.size (fun _ => p0) w' ∧ Below w.heap.size w w' :=
  (new_any w).mono fun _ _ ⟨h1, h2⟩ => ⟨h1, by rw [h2]; exact ⟨_, PsM.made w, fun k hk => by rw [List.mem_singleton.1 hk]; exact hB⟩, by rw [h2]; exact (Below.refl _ _).alloc (Nat.le_refl _) _⟩
theorem open_b (B r : Nat) (c : Nat → Pp) (i : Nat) (w : World) (h : Ob B r c w) (hB : B ≤ w.heap.size) (hi : i < 16) (h1 : (c i).op = false) :
    Calls Try.prog 18 #[.pointer (some ⟨r, 0, none⟩), .int .i64 (i : Int)] w fun e w' => e = .returned (.int .i64 0) ∧ Ob B r (upd c i p1) w' ∧ Below B w w' := by
  obtain ⟨S, k1, k2⟩ := h
  exact (open_ok r i S c w k1 hi h1).mono fun e w' ⟨he, hL⟩ => ⟨he, hL.ob k2 hB⟩
theorem break_b (B r : Nat) (c : Nat → Pp) (i : Nat) (n : Int) (w : World) (h : Ob B r c w) (hB : B ≤ w.heap.size) (hi : i < 16) (h1 : (c i).op = true) (h2 : (c i).bk = false) :
    Calls Try.prog 19 #[.pointer (some ⟨r, 0, none⟩), .int .i64 (i : Int), .int .i64 n] w fun e w' => e = .returned (.int .i64 0) ∧ Ob B r (upd c i { c i with br := decide (0 ≤ n), lf := n }) w' ∧ Below B w w' := by
  obtain ⟨S, k1, k2⟩ := h
  exact (break_ok r i n S c w k1 hi h1 h2).mono fun e w' ⟨he, hL⟩ => ⟨he, hL.ob k2 hB⟩
/-- Write, of a connection whether it is whole or not. -/
theorem Write_b (B r : Nat) (c : Nat → Pp) (i : Nat) (s : ByteArray) (w : World) (h : Ob B r c w) (hB : B ≤ w.heap.size) (hi : i < 16) (hok : Pok (c i)) (hl : (c i).out.size + s.size ≤ 140737488355328) :
    Calls Try.prog 20 #[.pointer (some ⟨r, 0, none⟩), .int .i64 (i : Int), .string s] w fun e w' => e = .returned (.int .i64 (pE (c i) 1 s)) ∧ Ob B r (upd c i (pC (c i) 1 0 s)) w' ∧ Below B w w' := by
  obtain ⟨S, k1, k2⟩ := h
  by_cases h1 : (c i).wh = true
  · exact (Write_ok r i S c s w k1 hi hok hl (wh_of h1).1 (wh_of h1).2).mono fun e w' ⟨he, hL⟩ => ⟨by rw [he]; simp [pE, h1], by simp only [pC, if_pos h1]; exact hL.ob k2 hB⟩
  · refine (Write_gone r i s S c w k1 hi (wh_not h1)).mono fun e w' ⟨he, hw⟩ => ⟨by rw [he]; simp [pE, h1], ?_⟩
    rw [hw]
    simp only [pC, if_neg h1]
    rw [upd_same]
    exact ⟨⟨S, k1, k2⟩, Below.refl _ _⟩
theorem out_b (B r : Nat) (c : Nat → Pp) (i : Nat) (w : World) (h : Ob B r c w) (hi : i < 16) :
    Calls Try.prog 13 #[.pointer (some ⟨r, 0, none⟩), .int .i64 (i : Int)] w fun e w' => e = .returned (.string (c i).out) ∧ w' = w := by
  obtain ⟨S, k1, k2⟩ := h
  exact out_any r i S c w k1 hi
theorem is_b (B r : Nat) (c : Nat → Pp) (i : Nat) (w : World) (h : Ob B r c w) (hi : i < 16) :
    Calls Try.prog 14 #[.pointer (some ⟨r, 0, none⟩), .int .i64 (i : Int)] w fun e w' => e = .returned (.bool (c i).op) ∧ w' = w := by
  obtain ⟨S, k1, k2⟩ := h
  exact is_any r i S c w k1 hi
theorem whole_b (B r : Nat) (c : Nat → Pp) (i : Nat) (w : World) (h : Ob B r c w) (hi : i < 16) :
    Calls Try.prog 15 #[.pointer (some ⟨r, 0, none⟩), .int .i64 (i : Int)] w fun e w' => e = .returned (.bool (c i).wh) ∧ w' = w := by
  obtain ⟨S, k1, k2⟩ := h
  exact isWhole_any r i S c w k1 hi
theorem all_b (B r : Nat) (c : Nat → Pp) (w : World) (h : Ob B r c w) :
    Calls Try.prog 17 #[.pointer (some ⟨r, 0, none⟩)] w fun e w' => ∃ v, e = .returned v ∧ w'.ownsRow w.heap.size 3 1 v (allN (fun i => (c i).op) 16).length (ints (allN (fun i => (c i).op) 16)) ∧ Below w.heap.size w w' := by
  obtain ⟨S, k1, k2⟩ := h
  exact all_any r S c w k1
/-- The connections behind the first look. -/
def cA : Nat → Pp := upd (fun _ => p0) 0 p1
def cB : Nat → Pp := upd cA 0 { cA 0 with br := decide ((0 : Int) ≤ 2), lf := 2 }
def cC : Nat → Pp := upd cB 0 (pC (cB 0) 1 0 ⟨#[97, 98, 99]⟩)
theorem cC_e : pE (cB 0) 1 ⟨#[97, 98, 99]⟩ = 12 := by decide +kernel
theorem cC_out : (cC 0).out = ⟨#[97, 98]⟩ := by decide +kernel
theorem cC_op : (cC 0).op = true := by decide +kernel
theorem cC_wh : (cC 0).wh = false := by decide +kernel
theorem cC_all : (allN (fun i => (cC i).op) 16).length = 1 := by decide +kernel
set_option maxHeartbeats 1000000 in
theorem lives_any (w : World) : Calls Try.prog 8 #[] w fun e w' => e = .returned (.bool true) ∧ Below w.heap.size w w' := by
  obtain ⟨r, hr⟩ : ∃ r, w.heap.size = r := ⟨_, rfl⟩
  have HN : Calls Try.prog 9 #[] w fun e w' => e = .returned (.pointer (some ⟨r, 0, none⟩)) ∧ Ob r r (fun _ => p0) w' ∧ Below r w w' := by
    rw [← hr]
    exact new_b _ w (Nat.le_refl _)
  have HO : ∀ W, Ob r r (fun _ => p0) W → r ≤ W.heap.size → Calls Try.prog 18 #[.pointer (some ⟨r, 0, none⟩), .int .i64 0] W fun e w' => e = .returned (.int .i64 0) ∧ Ob r r cA w' ∧ Below r W w' := fun W h hB => open_b r r _ 0 W h hB (by omega) rfl
  have HB : ∀ W, Ob r r cA W → r ≤ W.heap.size → Calls Try.prog 19 #[.pointer (some ⟨r, 0, none⟩), .int .i64 0, .int .i64 2] W fun e w' => e = .returned (.int .i64 0) ∧ Ob r r cB w' ∧ Below r W w' := fun W h hB => break_b r r _ 0 2 W h hB (by omega) rfl rfl
  have HW : ∀ W, Ob r r cB W → r ≤ W.heap.size → Calls Try.prog 20 #[.pointer (some ⟨r, 0, none⟩), .int .i64 0, .string ⟨#[97, 98, 99]⟩] W fun e w' => e = .returned (.int .i64 12) ∧ Ob r r cC w' ∧ Below r W w' := fun W h hB => by
    rw [← cC_e]
    exact Write_b r r cB 0 _ W h hB (by omega) ⟨by show N 2; unfold N; omega, fun _ => by show (0 : Int) ≤ 2; omega⟩ (by show 0 + 3 ≤ _; omega)
  have HU : ∀ W, Ob r r cC W → Calls Try.prog 13 #[.pointer (some ⟨r, 0, none⟩), .int .i64 0] W fun e w' => e = .returned (.string ⟨#[97, 98]⟩) ∧ w' = W := fun W h => by
    rw [← cC_out]
    exact out_b r r cC 0 W h (by omega)
  have HI : ∀ W, Ob r r cC W → Calls Try.prog 14 #[.pointer (some ⟨r, 0, none⟩), .int .i64 0] W fun e w' => e = .returned (.bool true) ∧ w' = W := fun W h => by
    rw [← cC_op]
    exact is_b r r cC 0 W h (by omega)
  have HH : ∀ W, Ob r r cC W → Calls Try.prog 15 #[.pointer (some ⟨r, 0, none⟩), .int .i64 0] W fun e w' => e = .returned (.bool false) ∧ w' = W := fun W h => by
    rw [← cC_wh]
    exact whole_b r r cC 0 W h (by omega)
  have HA : ∀ W, Ob r r cC W → Calls Try.prog 17 #[.pointer (some ⟨r, 0, none⟩)] W fun e w' => (∃ ao cap, e = .returned (.slice ao 1 cap)) ∧ Below W.heap.size W w' := fun W h => by
    refine (all_b r r cC W h).mono fun e w' ⟨v, he, ho, hb⟩ => ⟨?_, hb⟩
    obtain ⟨ao, cap, rfl⟩ := owns_slice ho
    rw [cC_all] at he
    exact ⟨ao, cap, he⟩
  rw [hr]
  have HR : Hid (w.heap.size = r) := hr
  clear hr
  go_enter Try.func8, Try.ntmps8
  go_wp2_with (first
    | (go_at_call 9; refine HN.mono ?_; rintro e w1 ⟨rfl, hO1, hb1⟩; have HO1 : Hid (Ob r r (fun _ => p0) w1) := hO1; have HB1 : Hid (Below r w w1) := hb1; have hs1 : r ≤ w1.heap.size := Nat.le_trans (Nat.le_of_eq HR.out.symm) hb1.size; clear hO1 hb1)
    | (go_at_call 18; refine (HO _ HO1.out hs1).mono ?_; rintro e w2 ⟨rfl, hO2, hb2⟩; have HO2 : Hid (Ob r r cA w2) := hO2; have HB2 : Hid (Below r w w2) := HB1.out.trans hb2; have hs2 : r ≤ w2.heap.size := Nat.le_trans hs1 hb2.size; clear hO2 hb2)
    | (go_at_call 19; refine (HB _ HO2.out hs2).mono ?_; rintro e w3 ⟨rfl, hO3, hb3⟩; have HO3 : Hid (Ob r r cB w3) := hO3; have HB3 : Hid (Below r w w3) := HB2.out.trans hb3; have hs3 : r ≤ w3.heap.size := Nat.le_trans hs2 hb3.size; clear hO3 hb3)
    | (go_at_call 20; refine (HW _ HO3.out hs3).mono ?_; rintro e w4 ⟨rfl, hO4, hb4⟩; have HO4 : Hid (Ob r r cC w4) := hO4; have HB4 : Hid (Below r w w4) := HB3.out.trans hb4; have hs4 : r ≤ w4.heap.size := Nat.le_trans hs3 hb4.size; clear hO4 hb4)
    | (go_at_call 13; refine (HU _ HO4.out).mono ?_; rintro e w4 ⟨rfl, rfl⟩)
    | (go_at_call 14; refine (HI _ HO4.out).mono ?_; rintro e w4 ⟨rfl, rfl⟩)
    | (go_at_call 15; refine (HH _ HO4.out).mono ?_; rintro e w4 ⟨rfl, rfl⟩)
    | (go_at_call 17; refine (HA _ HO4.out).mono ?_; rintro e w5 ⟨⟨ao, cap, rfl⟩, hb5⟩; have HB5 : Hid (Below r w w5) := HB4.out.trans (hb5.mono hs4); clear hb5))
  go_ret
  exact ⟨rfl, HB5.out⟩
end Go.Proofs.Yteejehbgmkanpaa
