/-
  A step of a script on the document's connections; a program's connections beside the document's, and how they fit; rows of numbers that are the same.
-/
import Derived.Test.YteejehbgmkanpaaPqb
namespace Go.Proofs.Yteejehbgmkanpaa
open Go Go.RowKit
/-- A row of numbers in memory. -/
def RowZ (w : World) (ao : Option Addr) (l : List Int) : Prop := ∀ i z, l[i]? = some z → ∃ ad, ao = some ad ∧ w.cell? (ad.add i) = some (.int .i64 z)
theorem RowZ.mono {w w' : World} {ao : Option Addr} {l : List Int} (h : RowZ w ao l) (hc : ∀ a v, w.cell? a = some v → w'.cell? a = some v) : RowZ w' ao l := fun i s hs => by
  obtain ⟨ad, e, k⟩ := h i s hs
  exact ⟨ad, e, hc _ _ k⟩
theorem RowZ.below {w w' : World} {ao : Option Addr} {l : List Int} (h : RowZ w ao l) (hb : Below w.heap.size w w') : RowZ w' ao l :=
  h.mono fun _ _ hv => (hb.cell (World.block_lt_of_cell? w _ hv)).trans hv
theorem row_block {w : World} {g : Nat} {cur : Array Value} {T : TypeId} {fr : Nat × Nat} {l : List Int} (h : w.heap[g]? = some (.cells cur T fr)) (hc : ∀ (i : Nat) (s : Int), l[i]? = some s → cur[i]? = some (Value.int .i64 s)) : RowZ w (some ⟨g, 0, none⟩) l := by
  intro i s hs
  refine ⟨_, rfl, ?_⟩
  have e : (⟨g, 0, none⟩ : Addr).add i = ⟨g, i, none⟩ := by
    unfold Addr.add
    split
    · subst_vars; rfl
    · simp
  rw [e]
  simp [World.cell?, h, hc i s hs]
theorem own_row {B : Nat} {v : Value} {l : List Int} {w : World} (h : w.ownsRow B 3 1 v l.length (ints l)) : ∃ ao cap, v = .slice ao l.length cap ∧ RowZ w ao l ∧ (∀ ad, ao = some ad → B ≤ ad.block) := by
  rcases h.2 with ⟨e1, e2⟩ | ⟨g, cap, cur, e1, h0, hg, _⟩
  · have e3 : l = [] := List.length_eq_zero_iff.1 e2
    subst e3
    exact ⟨none, 0, e1, fun i s hs => by simp at hs, fun ad e => by cases e⟩
  · subst e1
    refine ⟨_, cap, rfl, fun i z hi => ?_, fun ad e => by cases e; exact h0⟩
    have hl := (List.getElem?_eq_some_iff.1 hi).1
    refine ⟨_, rfl, ?_⟩
    have e : (⟨g, 0, none⟩ : Addr).add i = ⟨g, i, none⟩ := by
      unfold Addr.add
      split
      · subst_vars; rfl
      · simp
    rw [e, World.ownsRow.cellAt h i (by omega), ints_get, hi]
    rfl
set_option maxHeartbeats 1000000 in
theorem same_ints (ao bo : Option Addr) (c1 c2 : Nat) (l : List Int) (w : World) (h1 : RowZ w ao l) (h2 : RowZ w bo l) (hl : l.length ≤ 9223372036854775807) :
    Calls Try.prog 16 #[.slice ao l.length c1, .slice bo l.length c2] w fun e w' => e = .returned (.bool true) ∧ ∃ m, w' = w.drewN m := by
  have H1 : Hid _ := h1
  have H2 : Hid _ := h2
  obtain ⟨n, hn⟩ : ∃ n, l.length = n := ⟨_, rfl⟩
  rw [hn] at hl ⊢
  have HN : Hid _ := hn
  clear h1 h2 hn
  go_enter Try.func16, Try.ntmps16
  go_wp2_with fail
  go_loopw [5] (fun i wr => ∃ j : Nat, j ≤ n ∧ i = .int .i64 (j : Int) ∧ ∃ d, wr = w.drewN d) (fun i _ => n - (intOf i).toNat)
  case atStart => exact ⟨0, Nat.zero_le _, rfl, 0, rfl⟩
  case round =>
    obtain ⟨j, hj, rfl, d, rfl⟩ := hrel
    by_cases hlt : j < n
    · obtain ⟨s, hs⟩ : ∃ s, l[j]? = some s := ⟨_, List.getElem?_eq_getElem (by rw [HN.out]; exact hlt)⟩
      obtain ⟨a1, rfl, k1⟩ := H1.out j s hs
      obtain ⟨a2, rfl, k2⟩ := H2.out j s hs
      have hlt' : (j : Int) < (n : Int) := by omega
      have hj0 : (0 : Int) ≤ (j : Int) := by omega
      clear hs
      go_wp2_with fail
      go_quiet (fail)
      go_wp2_with fail
      go_roundw
      case rel => exact ⟨j + 1, by omega, by go_num, _, rfl⟩
      case measure => simp [intOf]; omega
    · have hnl : ¬ (j : Int) < (n : Int) := by omega
      go_wp2_with fail
      go_ret
      exact ⟨rfl, d, rfl⟩
def Qp.wh (p : Qp) : Bool := p.op && !p.bk
def qE (p : Qp) (k : Nat) (s : ByteArray) : Int :=
  match k with
  | 0 => if p.op = true then 8 else 0
  | 1 => if p.wh = true then p.wrE s else 12
  | 2 => if p.wh = true then 0 else 12
  | _ => if p.op = true then 0 else 12
def qC (p : Qp) (k : Nat) (n : Int) (s : ByteArray) : Qp :=
  match k with
  | 0 => if p.op = true then p else q1
  | 1 => if p.wh = true then p.wrote s else p
  | 2 => if p.wh = true then { p with lf := max n (-1) } else p
  | _ => { p with op := false }
def qtE (c : Nat → Qp) (k : Nat) (id : Int) (s : ByteArray) : Int := if inR id then qE (c id.toNat) k s else 1
def qtC (c : Nat → Qp) (k : Nat) (id n : Int) (s : ByteArray) : Nat → Qp := if inR id then upd c id.toNat (qC (c id.toNat) k n s) else c
theorem qwh_of {p : Qp} (h : p.wh = true) : p.op = true ∧ p.bk = false := by
  unfold Qp.wh at h
  simpa using h
theorem qwh_not {p : Qp} (h : ¬ p.wh = true) : p.op = false ∨ p.bk = true := by
  unfold Qp.wh at h
  cases hop : p.op <;> cases hbk : p.bk <;> simp_all
theorem Lq.refl {q : Nat} {d : Nat → Qp} {w : World} (h : PqAt q d w) : Lq q d w w := ⟨h, Fr.refl _ _⟩
theorem Lq.same {q : Nat} {d : Nat → Qp} {w : World} {i : Nat} {p : Qp} (h : PqAt q d w) (e : p = d i) : Lq q (upd d i p) w w := by
  rw [e, upd_same]
  exact Lq.refl h
theorem Lq.pre {q : Nat} {d : Nat → Qp} {w w1 w' : World} (h : Lq q d w1 w') (hb : Below w.heap.size w w1) : Lq q d w w' :=
  ⟨h.1, ⟨(hb.mono (Nat.zero_le _)).trans h.2.1, fun k hk hS => (h.2.2 k (Nat.lt_of_lt_of_le hk hb.size) hS).trans (hb.block k hk)⟩⟩
theorem Qopen_all (q : Nat) (d : Nat → Qp) (id n : Int) (s : ByteArray) (w : World) (h : PqAt q d w) :
    Calls Try.prog 23 #[.pointer (some ⟨q, 0, none⟩), .int .i64 id] w fun e w' => e = .returned (.int .i64 (qtE d 0 id s)) ∧ Lq q (qtC d 0 id n s) w w' := by
  unfold qtE qtC
  by_cases hr : inR id
  · obtain ⟨i, rfl, hi, hn⟩ := in_nat hr
    rw [if_pos hr, if_pos hr, hn]
    by_cases h1 : (d i).op = true
    · exact (qopen_there q i d w h hi h1).mono fun e w' ⟨he, hw⟩ => ⟨by rw [he]; simp [qE, h1], by rw [hw]; exact Lq.same h (by simp [qC, h1])⟩
    · exact (qopen_ok q i d w h hi (eq_false_of_ne_true h1)).mono fun e w' ⟨he, hw⟩ => ⟨by rw [he]; simp [qE, h1], by simp only [qC, if_neg h1]; exact hw⟩
  · rw [if_neg hr, if_neg hr]
    exact (qopen_bad q id w hr).mono fun e w' ⟨he, hw⟩ => ⟨he, by rw [hw]; exact Lq.refl h⟩
theorem Qbreak_all (q : Nat) (d : Nat → Qp) (id n : Int) (s : ByteArray) (w : World) (h : PqAt q d w) :
    Calls Try.prog 25 #[.pointer (some ⟨q, 0, none⟩), .int .i64 id, .int .i64 n] w fun e w' => e = .returned (.int .i64 (qtE d 2 id s)) ∧ Lq q (qtC d 2 id n s) w w' := by
  unfold qtE qtC
  by_cases hr : inR id
  · obtain ⟨i, rfl, hi, hn⟩ := in_nat hr
    rw [if_pos hr, if_pos hr, hn]
    by_cases h1 : (d i).wh = true
    · exact (qbreak_ok q i n _ rfl d w h hi (qwh_of h1).1 (qwh_of h1).2).mono fun e w' ⟨he, hw⟩ => ⟨by rw [he]; simp [qE, h1], by simp only [qC, if_pos h1]; exact hw⟩
    · exact (qbreak_gone q i n d w h hi (qwh_not h1)).mono fun e w' ⟨he, hw⟩ => ⟨by rw [he]; simp [qE, h1], by rw [hw]; exact Lq.same h (by simp [qC, h1])⟩
  · rw [if_neg hr, if_neg hr]
    exact (qbreak_bad q id n w hr).mono fun e w' ⟨he, hw⟩ => ⟨he, by rw [hw]; exact Lq.refl h⟩
theorem Qclose_all (q : Nat) (d : Nat → Qp) (id n : Int) (s : ByteArray) (w : World) (h : PqAt q d w) :
    Calls Try.prog 26 #[.pointer (some ⟨q, 0, none⟩), .int .i64 id] w fun e w' => e = .returned (.int .i64 (qtE d 3 id s)) ∧ Lq q (qtC d 3 id n s) w w' := by
  unfold qtE qtC
  by_cases hr : inR id
  · obtain ⟨i, rfl, hi, hn⟩ := in_nat hr
    rw [if_pos hr, if_pos hr, hn]
    by_cases h1 : (d i).op = true
    · exact (qclose_ok q i d w h hi h1).mono fun e w' ⟨he, hw⟩ => ⟨by rw [he]; simp [qE, h1], hw⟩
    · have h2 := eq_false_of_ne_true h1
      have e3 : qC (d i) 3 n s = d i := by
        show ({ d i with op := false } : Qp) = d i
        rw [← h2]
      exact (qclose_gone q i d w h hi h2).mono fun e w' ⟨he, hw⟩ => ⟨by rw [he]; simp [qE, h2], by rw [hw]; exact Lq.same h e3⟩
  · rw [if_neg hr, if_neg hr]
    exact (qclose_bad q id w hr).mono fun e w' ⟨he, hw⟩ => ⟨he, by rw [hw]; exact Lq.refl h⟩
theorem Qwrite_all (q : Nat) (d : Nat → Qp) (id n : Int) (s : ByteArray) (w : World) (h : PqAt q d w) (ho : ∀ i, i < 16 → (d i).out.size ≤ 100000 ∧ N (d i).lf) (hs : s.size ≤ 100000) :
    Calls Try.prog 24 #[.pointer (some ⟨q, 0, none⟩), .int .i64 id, .string s] w fun e w' => e = .returned (.int .i64 (qtE d 1 id s)) ∧ Lq q (qtC d 1 id n s) w w' := by
  unfold qtE qtC
  by_cases hr : inR id
  · obtain ⟨i, rfl, hi, hn⟩ := in_nat hr
    rw [if_pos hr, if_pos hr, hn]
    by_cases h1 : (d i).wh = true
    · obtain ⟨k1, k2⟩ := qwh_of h1
      simp only [qE, qC, if_pos h1]
      unfold Qp.wrE Qp.wrote
      by_cases hl : (d i).lf < 0
      · rw [if_pos hl, if_pos hl]
        exact qwrite_free q i s d w h hi k1 k2 hl hs (ho i hi).1
      · rw [if_neg hl, if_neg hl]
        obtain ⟨m, hm⟩ : ∃ m : Nat, (d i).lf = (m : Int) := ⟨(d i).lf.toNat, by omega⟩
        have hm2 : m ≤ 9223372036854775807 := by
          have := (ho i hi).2
          unfold N at this
          omega
        by_cases hfit : s.size ≤ m
        · have H := qwrite_left q i m s.size s d w h hi k1 k2 hm 0 false (by omega) (fun _ => ⟨rfl, rfl⟩) (fun e => (e rfl).elim) hm2 hs (ho i hi).1
          rw [hm, if_pos (by omega), if_pos (by omega)]
          have e1 : ((m - s.size : Nat) : Int) = (m : Int) - (s.size : Int) := by omega
          rw [e1, ext_all (Nat.le_refl _)] at H
          rw [← k2] at H
          exact H
        · have H := qwrite_left q i m m s d w h hi k1 k2 hm 12 true (by omega) (fun e => by omega) (fun _ => ⟨rfl, rfl⟩) hm2 hs (ho i hi).1
          rw [hm, if_neg (by omega), if_neg (by omega)]
          have e1 : ((m - m : Nat) : Int) = 0 := by omega
          rw [e1] at H
          exact H
    · exact (qwrite_gone q i s d w h hi (qwh_not h1)).mono fun e w' ⟨he, hw⟩ => ⟨by rw [he]; simp [qE, h1], by rw [hw]; exact Lq.same h (by simp [qC, h1])⟩
  · rw [if_neg hr, if_neg hr]
    exact (qwrite_bad q id s w hr).mono fun e w' ⟨he, hw⟩ => ⟨he, by rw [hw]; exact Lq.refl h⟩
set_option maxHeartbeats 2000000 in
theorem qdoes_any (q : Nat) (d : Nat → Qp) (k id n : Int) (s : ByteArray) (w : World) (h : PqAt q d w) (ho : ∀ i, i < 16 → (d i).out.size ≤ 100000 ∧ N (d i).lf) (hs : s.size ≤ 100000) :
    Calls Try.prog 12 #[.pointer (some ⟨q, 0, none⟩), .agg #[.int .i64 k, .int .i64 id, .int .i64 n, .string s]] w fun e w' => e = .returned (.int .i64 (qtE d (kd k) id s)) ∧ Lq q (qtC d (kd k) id n s) w w' := by
  have hb0 : Below w.heap.size w (w.alloc (.cells #[.int .i64 k, .int .i64 id, .int .i64 n, .string s] 36)) := (Below.refl _ _).alloc (Nat.le_refl _) _
  have HK := kind_any k id n s (w.alloc (.cells #[.int .i64 k, .int .i64 id, .int .i64 n, .string s] 36))
  have HP : Hid (PqAt q d w) := h
  have hlt := kd_lt k
  obtain ⟨x, hx⟩ : ∃ x, kd k = x := ⟨_, rfl⟩
  rw [hx] at HK hlt
  rw [hx]
  clear h hx
  have hc : x = 0 ∨ x = 1 ∨ x = 2 ∨ x = 3 := by omega
  clear hlt
  rcases hc with rfl | rfl | rfl | rfl
  · have H : ∀ W, PqAt q d W → Calls Try.prog 23 #[.pointer (some ⟨q, 0, none⟩), .int .i64 id] W fun e w' => e = .returned (.int .i64 (qtE d 0 id s)) ∧ Lq q (qtC d 0 id n s) W w' := fun W hW => Qopen_all q d id n s W hW
    obtain ⟨E, hE⟩ : ∃ E, qtE d 0 id s = E := ⟨_, rfl⟩
    obtain ⟨C, hC⟩ : ∃ C, qtC d 0 id n s = C := ⟨_, rfl⟩
    rw [hE, hC]
    simp only [hE, hC] at H
    clear hE hC ho hs
    go_enter Try.func12, Try.ntmps12
    go_wp2_with (first
      | (go_at_call 22; refine HK.mono ?_; rintro e w1 ⟨rfl, hb1⟩; obtain ⟨d0, d1, d2, d3⟩ := below_arg hb1; have HB1 : Hid (Below w.heap.size w w1) := hb0.trans (hb1.mono (by simp)); clear hb1)
      | (go_at_call 23; refine (H _ (HP.out.below HB1.out)).mono ?_; rintro e w2 ⟨rfl, hL⟩; have HL : Hid (Lq q C w w2) := Lq.pre hL HB1.out; clear hL))
    go_ret
    exact ⟨rfl, HL.out⟩
  · have H : ∀ W, PqAt q d W → Calls Try.prog 24 #[.pointer (some ⟨q, 0, none⟩), .int .i64 id, .string s] W fun e w' => e = .returned (.int .i64 (qtE d 1 id s)) ∧ Lq q (qtC d 1 id n s) W w' := fun W hW => Qwrite_all q d id n s W hW ho hs
    obtain ⟨E, hE⟩ : ∃ E, qtE d 1 id s = E := ⟨_, rfl⟩
    obtain ⟨C, hC⟩ : ∃ C, qtC d 1 id n s = C := ⟨_, rfl⟩
    rw [hE, hC]
    simp only [hE, hC] at H
    clear hE hC ho hs
    go_enter Try.func12, Try.ntmps12
    go_wp2_with (first
      | (go_at_call 22; refine HK.mono ?_; rintro e w1 ⟨rfl, hb1⟩; obtain ⟨d0, d1, d2, d3⟩ := below_arg hb1; have HB1 : Hid (Below w.heap.size w w1) := hb0.trans (hb1.mono (by simp)); clear hb1)
      | (go_at_call 24; refine (H _ (HP.out.below HB1.out)).mono ?_; rintro e w2 ⟨rfl, hL⟩; have HL : Hid (Lq q C w w2) := Lq.pre hL HB1.out; clear hL))
    go_ret
    exact ⟨rfl, HL.out⟩
  · have H : ∀ W, PqAt q d W → Calls Try.prog 25 #[.pointer (some ⟨q, 0, none⟩), .int .i64 id, .int .i64 n] W fun e w' => e = .returned (.int .i64 (qtE d 2 id s)) ∧ Lq q (qtC d 2 id n s) W w' := fun W hW => Qbreak_all q d id n s W hW
    obtain ⟨E, hE⟩ : ∃ E, qtE d 2 id s = E := ⟨_, rfl⟩
    obtain ⟨C, hC⟩ : ∃ C, qtC d 2 id n s = C := ⟨_, rfl⟩
    rw [hE, hC]
    simp only [hE, hC] at H
    clear hE hC ho hs
    go_enter Try.func12, Try.ntmps12
    go_wp2_with (first
      | (go_at_call 22; refine HK.mono ?_; rintro e w1 ⟨rfl, hb1⟩; obtain ⟨d0, d1, d2, d3⟩ := below_arg hb1; have HB1 : Hid (Below w.heap.size w w1) := hb0.trans (hb1.mono (by simp)); clear hb1)
      | (go_at_call 25; refine (H _ (HP.out.below HB1.out)).mono ?_; rintro e w2 ⟨rfl, hL⟩; have HL : Hid (Lq q C w w2) := Lq.pre hL HB1.out; clear hL))
    go_ret
    exact ⟨rfl, HL.out⟩
  · have H : ∀ W, PqAt q d W → Calls Try.prog 26 #[.pointer (some ⟨q, 0, none⟩), .int .i64 id] W fun e w' => e = .returned (.int .i64 (qtE d 3 id s)) ∧ Lq q (qtC d 3 id n s) W w' := fun W hW => Qclose_all q d id n s W hW
    obtain ⟨E, hE⟩ : ∃ E, qtE d 3 id s = E := ⟨_, rfl⟩
    obtain ⟨C, hC⟩ : ∃ C, qtC d 3 id n s = C := ⟨_, rfl⟩
    rw [hE, hC]
    simp only [hE, hC] at H
    clear hE hC ho hs
    go_enter Try.func12, Try.ntmps12
    go_wp2_with (first
      | (go_at_call 22; refine HK.mono ?_; rintro e w1 ⟨rfl, hb1⟩; obtain ⟨d0, d1, d2, d3⟩ := below_arg hb1; have HB1 : Hid (Below w.heap.size w w1) := hb0.trans (hb1.mono (by simp)); clear hb1)
      | (go_at_call 26; refine (H _ (HP.out.below HB1.out)).mono ?_; rintro e w2 ⟨rfl, hL⟩; have HL : Hid (Lq q C w w2) := Lq.pre hL HB1.out; clear hL))
    go_ret
    exact ⟨rfl, HL.out⟩
/-- A connection of the program's is the document's. -/
structure Rq (p : Pp) (q : Qp) : Prop where
  op : p.op = q.op
  bk : p.bk = q.bk
  out : p.out = q.out
  lf : p.op = true → q.lf = if p.br = true then p.lf else -1
theorem rel_wh {p : Pp} {q : Qp} (h : Rq p q) : p.wh = q.wh := by
  unfold Pp.wh Qp.wh
  rw [h.op, h.bk]
theorem rel_start : Rq p0 q0 := ⟨rfl, rfl, rfl, fun e => by cases e⟩
theorem rel_wr {p : Pp} {q : Qp} (h : Rq p q) (hok : Pok p) (hw : p.wh = true) (s : ByteArray) : p.wrE s = q.wrE s ∧ Rq (p.wrote s) (q.wrote s) := by
  have hop := (wh_of hw).1
  have hl := h.lf hop
  unfold Pp.wrE Qp.wrE Pp.wrote Qp.wrote
  by_cases hb : p.br = false
  · rw [hb, if_neg (by decide)] at hl
    have h0 : q.lf < 0 := by omega
    rw [if_pos hb, if_pos h0, if_pos hb, if_pos h0]
    refine ⟨rfl, h.op, h.bk, ?_, fun _ => ?_⟩
    · show p.out ++ s = q.out ++ s
      rw [h.out]
    · show q.lf = if p.br = true then p.lf else -1
      rw [hb, hl]
      rfl
  · have hb1 := eq_true_of_ne_false hb
    rw [if_pos hb1] at hl
    have h0 : ¬ q.lf < 0 := by have := hok.l hb1; omega
    rw [if_neg hb, if_neg h0, if_neg hb, if_neg h0, hl]
    by_cases hf : (s.size : Int) ≤ p.lf
    · rw [if_pos hf, if_pos hf, if_pos hf]
      refine ⟨rfl, h.op, h.bk, ?_, fun _ => ?_⟩
      · show p.out ++ s = q.out ++ s
        rw [h.out]
      · show p.lf - s.size = if p.br = true then p.lf - s.size else -1
        rw [if_pos hb1]
    · rw [if_neg hf, if_neg hf, if_neg hf]
      refine ⟨rfl, h.op, rfl, ?_, fun _ => ?_⟩
      · show p.out ++ s.extract 0 p.lf.toNat = q.out ++ s.extract 0 p.lf.toNat
        rw [h.out]
      · show (0 : Int) = if p.br = true then 0 else -1
        rw [if_pos hb1]
theorem rel_step {p : Pp} {q : Qp} (h : Rq p q) (hok : Pok p) (k : Nat) (n : Int) (s : ByteArray) : pE p k s = qE q k s ∧ Rq (pC p k n s) (qC q k n s) := by
  match k with
  | 0 =>
    simp only [pE, qE, pC, qC, ← h.op]
    refine ⟨trivial, ?_⟩
    by_cases hop : p.op = true
    · rw [if_pos hop, if_pos hop]
      exact h
    · rw [if_neg hop, if_neg hop]
      exact ⟨rfl, rfl, rfl, fun _ => rfl⟩
  | 1 =>
    simp only [pE, qE, pC, qC, ← rel_wh h]
    by_cases hw : p.wh = true
    · rw [if_pos hw, if_pos hw, if_pos hw, if_pos hw]
      exact rel_wr h hok hw s
    · rw [if_neg hw, if_neg hw, if_neg hw, if_neg hw]
      exact ⟨rfl, h⟩
  | 2 =>
    simp only [pE, qE, pC, qC, ← rel_wh h]
    refine ⟨trivial, ?_⟩
    by_cases hw : p.wh = true
    · rw [if_pos hw, if_pos hw]
      refine ⟨h.op, h.bk, h.out, fun _ => ?_⟩
      show max n (-1) = if decide (0 ≤ n) = true then n else -1
      by_cases hn : 0 ≤ n
      · rw [decide_eq_true hn, if_pos rfl]
        omega
      · rw [decide_eq_false hn, if_neg (by decide)]
        omega
    · rw [if_neg hw, if_neg hw]
      exact h
  | k + 3 =>
    refine ⟨?_, rfl, h.bk, h.out, fun e => by cases e⟩
    show (if p.op = true then (0 : Int) else 12) = if q.op = true then 0 else 12
    rw [h.op]
theorem rel_st {c : Nat → Pp} {d : Nat → Qp} (h : ∀ i, i < 16 → Rq (c i) (d i)) (hok : ∀ i, i < 16 → Pok (c i)) (k : Nat) (id n : Int) (s : ByteArray) :
    stE c k id s = qtE d k id s ∧ ∀ i, i < 16 → Rq (stC c k id n s i) (qtC d k id n s i) := by
  unfold stE qtE stC qtC
  by_cases hr : inR id
  · obtain ⟨j, rfl, hj, hn⟩ := in_nat hr
    rw [if_pos hr, if_pos hr, if_pos hr, if_pos hr, hn]
    obtain ⟨e1, e2⟩ := rel_step (h j hj) (hok j hj) k n s
    refine ⟨e1, fun i hi => ?_⟩
    by_cases e : i = j
    · subst e
      rw [upd_self, upd_self]
      exact e2
    · rw [upd_ne e, upd_ne e]
      exact h i hi
  · rw [if_neg hr, if_neg hr, if_neg hr, if_neg hr]
    exact ⟨rfl, h⟩
/-- The document's are within bounds. -/
def Goq (d : Nat → Qp) (m : Nat) : Prop := ∀ i, i < 16 → (d i).out.size ≤ m ∧ N (d i).lf
theorem qC_ok {p : Qp} {k : Nat} {n : Int} {s : ByteArray} (h : N p.lf) (hn : N n) : N (qC p k n s).lf := by
  unfold N at h hn
  unfold qC
  split
  · split
    · exact h
    · show N (-1)
      unfold N
      omega
  · split
    · unfold Qp.wrote
      split
      · exact h
      · split
        · show N (p.lf - (s.size : Int))
          unfold N
          omega
        · show N 0
          unfold N
          omega
    · exact h
  · split
    · show N (max n (-1))
      unfold N
      omega
    · exact h
  · exact h
theorem Goq.of {c : Nat → Pp} {d : Nat → Qp} {m : Nat} (h : ∀ i, i < 16 → Rq (c i) (d i)) (hg : Good c m) (hn : ∀ i, i < 16 → N (d i).lf) : Goq d m := fun i hi => ⟨by rw [← (h i hi).out]; exact (hg i hi).2, hn i hi⟩
theorem qtC_n {d : Nat → Qp} {k : Nat} {id n : Int} {s : ByteArray} (h : ∀ i, i < 16 → N (d i).lf) (hn : N n) : ∀ i, i < 16 → N (qtC d k id n s i).lf := by
  intro i hi
  unfold qtC
  split
  · by_cases e : i = id.toNat
    · subst e
      rw [upd_self]
      exact qC_ok (h _ hi) hn
    · rw [upd_ne e]
      exact h i hi
  · exact h i hi
end Go.Proofs.Yteejehbgmkanpaa
