/-
  A step of a script on the program's connections: what it answers and what it leaves; the contracts of kind and does, and the statements' own first look (lives).
-/
import Derived.Test.YteejehbgmkanpaaPme
namespace Go.Proofs.Yteejehbgmkanpaa
open Go Go.RowKit
/-- What a call of a kind (0 Open, 1 Write, 2 Break, else Close) answers, of one connection, and what it leaves. -/
def pE (p : Pp) (k : Nat) (s : ByteArray) : Int :=
  match k with
  | 0 => if p.op = true then 8 else 0
  | 1 => if p.wh = true then p.wrE s else 12
  | 2 => if p.wh = true then 0 else 12
  | _ => if p.op = true then 0 else 12
def pC (p : Pp) (k : Nat) (n : Int) (s : ByteArray) : Pp :=
  match k with
  | 0 => if p.op = true then p else p1
  | 1 => if p.wh = true then p.wrote s else p
  | 2 => if p.wh = true then { p with br := decide (0 ≤ n), lf := n } else p
  | _ => { p with op := false }
abbrev inR (id : Int) : Prop := 0 ≤ id ∧ id < 16
def stE (c : Nat → Pp) (k : Nat) (id : Int) (s : ByteArray) : Int := if inR id then pE (c id.toNat) k s else 1
def stC (c : Nat → Pp) (k : Nat) (id n : Int) (s : ByteArray) : Nat → Pp := if inR id then upd c id.toNat (pC (c id.toNat) k n s) else c
theorem wh_of {p : Pp} (h : p.wh = true) : p.op = true ∧ p.bk = false := by
  unfold Pp.wh at h
  simpa using h
theorem wh_not {p : Pp} (h : ¬ p.wh = true) : p.op = false ∨ p.bk = true := by
  unfold Pp.wh at h
  cases hop : p.op <;> cases hbk : p.bk <;> simp_all
theorem Lv.same {r : Nat} {S : List Nat} {c : Nat → Pp} {w : World} {i : Nat} {p : Pp} (h : PsM r S c w) (e : p = c i) : Lv r S (upd c i p) w w := by
  rw [e, upd_same]
  exact Lv.refl h
theorem in_nat {id : Int} (h : inR id) : ∃ i : Nat, id = (i : Int) ∧ i < 16 ∧ id.toNat = i := by
  exact ⟨id.toNat, by omega, by omega, rfl⟩
theorem Open_all (r : Nat) (S : List Nat) (c : Nat → Pp) (id n : Int) (s : ByteArray) (w : World) (h : PsM r S c w) :
    Calls Try.prog 18 #[.pointer (some ⟨r, 0, none⟩), .int .i64 id] w fun e w' => e = .returned (.int .i64 (stE c 0 id s)) ∧ Lv r S (stC c 0 id n s) w w' := by
  unfold stE stC
  by_cases hr : inR id
  · obtain ⟨i, rfl, hi, hn⟩ := in_nat hr
    rw [if_pos hr, if_pos hr, hn]
    by_cases h1 : (c i).op = true
    · exact (open_there r i S c w h hi h1).mono fun e w' ⟨he, hw⟩ => ⟨by rw [he]; simp [pE, h1], by rw [hw]; exact Lv.same h (by simp [pC, h1])⟩
    · exact (open_ok r i S c w h hi (eq_false_of_ne_true h1)).mono fun e w' ⟨he, hw⟩ => ⟨by rw [he]; simp [pE, h1], by simp only [pC, if_neg h1]; exact hw⟩
  · rw [if_neg hr, if_neg hr]
    exact (open_bad r id w hr).mono fun e w' ⟨he, hw⟩ => ⟨he, by rw [hw]; exact Lv.refl h⟩
theorem Break_all (r : Nat) (S : List Nat) (c : Nat → Pp) (id n : Int) (s : ByteArray) (w : World) (h : PsM r S c w) :
    Calls Try.prog 19 #[.pointer (some ⟨r, 0, none⟩), .int .i64 id, .int .i64 n] w fun e w' => e = .returned (.int .i64 (stE c 2 id s)) ∧ Lv r S (stC c 2 id n s) w w' := by
  unfold stE stC
  by_cases hr : inR id
  · obtain ⟨i, rfl, hi, hn⟩ := in_nat hr
    rw [if_pos hr, if_pos hr, hn]
    by_cases h1 : (c i).wh = true
    · exact (break_ok r i n S c w h hi (wh_of h1).1 (wh_of h1).2).mono fun e w' ⟨he, hw⟩ => ⟨by rw [he]; simp [pE, h1], by simp only [pC, if_pos h1]; exact hw⟩
    · exact (break_gone r i n S c w h hi (wh_not h1)).mono fun e w' ⟨he, hw⟩ => ⟨by rw [he]; simp [pE, h1], by rw [hw]; exact Lv.same h (by simp [pC, h1])⟩
  · rw [if_neg hr, if_neg hr]
    exact (break_bad r id n w hr).mono fun e w' ⟨he, hw⟩ => ⟨he, by rw [hw]; exact Lv.refl h⟩
theorem Close_all (r : Nat) (S : List Nat) (c : Nat → Pp) (id n : Int) (s : ByteArray) (w : World) (h : PsM r S c w) :
    Calls Try.prog 21 #[.pointer (some ⟨r, 0, none⟩), .int .i64 id] w fun e w' => e = .returned (.int .i64 (stE c 3 id s)) ∧ Lv r S (stC c 3 id n s) w w' := by
  unfold stE stC
  by_cases hr : inR id
  · obtain ⟨i, rfl, hi, hn⟩ := in_nat hr
    rw [if_pos hr, if_pos hr, hn]
    by_cases h1 : (c i).op = true
    · exact (close_ok r i S c w h hi h1).mono fun e w' ⟨he, hw⟩ => ⟨by rw [he]; simp [pE, h1], hw⟩
    · have h2 := eq_false_of_ne_true h1
      have e3 : pC (c i) 3 n s = c i := by
        show ({ c i with op := false } : Pp) = c i
        rw [← h2]
      exact (close_gone r i S c w h hi h2).mono fun e w' ⟨he, hw⟩ => ⟨by rw [he]; simp [pE, h2], by rw [hw]; exact Lv.same h e3⟩
  · rw [if_neg hr, if_neg hr]
    exact (close_bad r id w hr).mono fun e w' ⟨he, hw⟩ => ⟨he, by rw [hw]; exact Lv.refl h⟩
theorem Write_all (r : Nat) (S : List Nat) (c : Nat → Pp) (id n : Int) (s : ByteArray) (w : World) (h : PsM r S c w) (hok : ∀ i, i < 16 → Pok (c i)) (hl : ∀ i, i < 16 → (c i).out.size + s.size ≤ 140737488355328) :
    Calls Try.prog 20 #[.pointer (some ⟨r, 0, none⟩), .int .i64 id, .string s] w fun e w' => e = .returned (.int .i64 (stE c 1 id s)) ∧ Lv r S (stC c 1 id n s) w w' := by
  unfold stE stC
  by_cases hr : inR id
  · obtain ⟨i, rfl, hi, hn⟩ := in_nat hr
    rw [if_pos hr, if_pos hr, hn]
    by_cases h1 : (c i).wh = true
    · exact (Write_ok r i S c s w h hi (hok i hi) (hl i hi) (wh_of h1).1 (wh_of h1).2).mono fun e w' ⟨he, hw⟩ => ⟨by rw [he]; simp [pE, h1], by simp only [pC, if_pos h1]; exact hw⟩
    · exact (Write_gone r i s S c w h hi (wh_not h1)).mono fun e w' ⟨he, hw⟩ => ⟨by rw [he]; simp [pE, h1], by rw [hw]; exact Lv.same h (by simp [pC, h1])⟩
  · rw [if_neg hr, if_neg hr]
    exact (Write_bad r id s w hr).mono fun e w' ⟨he, hw⟩ => ⟨he, by rw [hw]; exact Lv.refl h⟩
/-- A step of a script. -/
structure Sp where
  k : Int
  id : Int
  n : Int
  s : ByteArray
/-- A step's kind. -/
def kd (k : Int) : Nat := ((IntKind.u64.wrap k).tmod 4).toNat
theorem kd_eq (k : Int) : (IntKind.u64.wrap k).tmod 4 = (kd k : Int) := by
  unfold kd
  rw [IntKind.wrap_u64, Int.tmod_eq_emod_of_nonneg (by omega)]
  omega
theorem kd_lt (k : Int) : kd k < 4 := by
  have := kd_eq k
  rw [IntKind.wrap_u64, Int.tmod_eq_emod_of_nonneg (by omega)] at this
  omega
theorem kind_any (k id n : Int) (s : ByteArray) (w : World) : Calls Try.prog 22 #[.agg #[.int .i64 k, .int .i64 id, .int .i64 n, .string s]] w fun e w' => e = .returned (.int .i64 (kd k : Int)) ∧ Below w.heap.size w w' := by
  have h1 := kd_eq k
  have h2 := kd_lt k
  obtain ⟨q, hq⟩ : ∃ q, kd k = q := ⟨_, rfl⟩
  rw [hq] at h1 h2
  rw [hq]
  have h3 : IntKind.i64.wrap (q : Int) = (q : Int) := by simp only [IntKind.wrap_i64]; omega
  clear hq
  go_enter Try.func22, Try.ntmps22
  go_wp2_with fail
  go_ret
  exact ⟨rfl, (Below.refl _ _).alloc (Nat.le_refl _) _⟩
theorem Lv.pre {r : Nat} {S : List Nat} {c : Nat → Pp} {w w1 w' : World} (h : Lv r S c w1 w') (hb : Below w.heap.size w w1) : Lv r S c w w' := by
  obtain ⟨S', h1, h2, h3⟩ := h.ex
  refine ⟨S', h1, fun k hk => (h2 k hk).imp_right fun e => Nat.le_trans hb.size e, ⟨(hb.mono (Nat.zero_le _)).trans h3.1, fun k hk hS => (h3.2 k (Nat.lt_of_lt_of_le hk hb.size) hS).trans (hb.block k hk)⟩⟩
theorem below_arg {w w1 : World} {k id n : Int} {s : ByteArray} (h : Below (w.alloc (.cells #[.int .i64 k, .int .i64 id, .int .i64 n, .string s] 36)).heap.size (w.alloc (.cells #[.int .i64 k, .int .i64 id, .int .i64 n, .string s] 36)) w1) :
    w1.cell? ⟨w.heap.size, 0, none⟩ = some (.int .i64 k) ∧ w1.cell? ⟨w.heap.size, 1, none⟩ = some (.int .i64 id) ∧ w1.cell? ⟨w.heap.size, 2, none⟩ = some (.int .i64 n) ∧ w1.cell? ⟨w.heap.size, 3, none⟩ = some (.string s) := by
  have e := h.block w.heap.size (by simp)
  rw [heap_alloc_new] at e
  simp [World.cell?, e]
set_option maxHeartbeats 2000000 in
theorem does_any (r : Nat) (S : List Nat) (c : Nat → Pp) (k id n : Int) (s : ByteArray) (w : World) (h : PsM r S c w) (hok : ∀ i, i < 16 → Pok (c i)) (hl : ∀ i, i < 16 → (c i).out.size + s.size ≤ 140737488355328) :
    Calls Try.prog 11 #[.pointer (some ⟨r, 0, none⟩), .agg #[.int .i64 k, .int .i64 id, .int .i64 n, .string s]] w fun e w' => e = .returned (.int .i64 (stE c (kd k) id s)) ∧ Lv r S (stC c (kd k) id n s) w w' := by
  have hb0 : Below w.heap.size w (w.alloc (.cells #[.int .i64 k, .int .i64 id, .int .i64 n, .string s] 36)) := (Below.refl _ _).alloc (Nat.le_refl _) _
  have HK := kind_any k id n s (w.alloc (.cells #[.int .i64 k, .int .i64 id, .int .i64 n, .string s] 36))
  have HP : Hid (PsM r S c w) := h
  have hlt := kd_lt k
  obtain ⟨q, hq⟩ : ∃ q, kd k = q := ⟨_, rfl⟩
  rw [hq] at HK hlt
  rw [hq]
  clear h hq
  have hc : q = 0 ∨ q = 1 ∨ q = 2 ∨ q = 3 := by omega
  clear hlt
  rcases hc with rfl | rfl | rfl | rfl
  · have H : ∀ W, PsM r S c W → Calls Try.prog 18 #[.pointer (some ⟨r, 0, none⟩), .int .i64 id] W fun e w' => e = .returned (.int .i64 (stE c 0 id s)) ∧ Lv r S (stC c 0 id n s) W w' := fun W hW => Open_all r S c id n s W hW
    obtain ⟨E, hE⟩ : ∃ E, stE c 0 id s = E := ⟨_, rfl⟩
    obtain ⟨C, hC⟩ : ∃ C, stC c 0 id n s = C := ⟨_, rfl⟩
    rw [hE, hC]
    simp only [hE, hC] at H
    clear hE hC hok hl
    go_enter Try.func11, Try.ntmps11
    go_wp2_with (first
      | (go_at_call 22; refine HK.mono ?_; rintro e w1 ⟨rfl, hb1⟩; obtain ⟨d0, d1, d2, d3⟩ := below_arg hb1; have HB1 : Hid (Below w.heap.size w w1) := hb0.trans (hb1.mono (by simp)); clear hb1)
      | (go_at_call 18; refine (H _ (HP.out.below HB1.out)).mono ?_; rintro e w2 ⟨rfl, hL⟩; have HL : Hid (Lv r S C w w2) := Lv.pre hL HB1.out; clear hL))
    go_ret
    exact ⟨rfl, HL.out⟩
  · have H : ∀ W, PsM r S c W → Calls Try.prog 20 #[.pointer (some ⟨r, 0, none⟩), .int .i64 id, .string s] W fun e w' => e = .returned (.int .i64 (stE c 1 id s)) ∧ Lv r S (stC c 1 id n s) W w' := fun W hW => Write_all r S c id n s W hW hok hl
    obtain ⟨E, hE⟩ : ∃ E, stE c 1 id s = E := ⟨_, rfl⟩
    obtain ⟨C, hC⟩ : ∃ C, stC c 1 id n s = C := ⟨_, rfl⟩
    rw [hE, hC]
    simp only [hE, hC] at H
    clear hE hC hok hl
    go_enter Try.func11, Try.ntmps11
    go_wp2_with (first
      | (go_at_call 22; refine HK.mono ?_; rintro e w1 ⟨rfl, hb1⟩; obtain ⟨d0, d1, d2, d3⟩ := below_arg hb1; have HB1 : Hid (Below w.heap.size w w1) := hb0.trans (hb1.mono (by simp)); clear hb1)
      | (go_at_call 20; refine (H _ (HP.out.below HB1.out)).mono ?_; rintro e w2 ⟨rfl, hL⟩; have HL : Hid (Lv r S C w w2) := Lv.pre hL HB1.out; clear hL))
    go_ret
    exact ⟨rfl, HL.out⟩
  · have H : ∀ W, PsM r S c W → Calls Try.prog 19 #[.pointer (some ⟨r, 0, none⟩), .int .i64 id, .int .i64 n] W fun e w' => e = .returned (.int .i64 (stE c 2 id s)) ∧ Lv r S (stC c 2 id n s) W w' := fun W hW => Break_all r S c id n s W hW
    obtain ⟨E, hE⟩ : ∃ E, stE c 2 id s = E := ⟨_, rfl⟩
    obtain ⟨C, hC⟩ : ∃ C, stC c 2 id n s = C := ⟨_, rfl⟩
    rw [hE, hC]
    simp only [hE, hC] at H
    clear hE hC hok hl
    go_enter Try.func11, Try.ntmps11
    go_wp2_with (first
      | (go_at_call 22; refine HK.mono ?_; rintro e w1 ⟨rfl, hb1⟩; obtain ⟨d0, d1, d2, d3⟩ := below_arg hb1; have HB1 : Hid (Below w.heap.size w w1) := hb0.trans (hb1.mono (by simp)); clear hb1)
      | (go_at_call 19; refine (H _ (HP.out.below HB1.out)).mono ?_; rintro e w2 ⟨rfl, hL⟩; have HL : Hid (Lv r S C w w2) := Lv.pre hL HB1.out; clear hL))
    go_ret
    exact ⟨rfl, HL.out⟩
  · have H : ∀ W, PsM r S c W → Calls Try.prog 21 #[.pointer (some ⟨r, 0, none⟩), .int .i64 id] W fun e w' => e = .returned (.int .i64 (stE c 3 id s)) ∧ Lv r S (stC c 3 id n s) W w' := fun W hW => Close_all r S c id n s W hW
    obtain ⟨E, hE⟩ : ∃ E, stE c 3 id s = E := ⟨_, rfl⟩
    obtain ⟨C, hC⟩ : ∃ C, stC c 3 id n s = C := ⟨_, rfl⟩
    rw [hE, hC]
    simp only [hE, hC] at H
    clear hE hC hok hl
    go_enter Try.func11, Try.ntmps11
    go_wp2_with (first
      | (go_at_call 22; refine HK.mono ?_; rintro e w1 ⟨rfl, hb1⟩; obtain ⟨d0, d1, d2, d3⟩ := below_arg hb1; have HB1 : Hid (Below w.heap.size w w1) := hb0.trans (hb1.mono (by simp)); clear hb1)
      | (go_at_call 21; refine (H _ (HP.out.below HB1.out)).mono ?_; rintro e w2 ⟨rfl, hL⟩; have HL : Hid (Lv r S C w w2) := Lv.pre hL HB1.out; clear hL))
    go_ret
    exact ⟨rfl, HL.out⟩
end Go.Proofs.Yteejehbgmkanpaa
