/-
  The walk of the statement TagsLong over this program: for every input it returns true.
-/
import Derived.Test.YtdoekpodichhdaaDoorLawa
namespace Go.Proofs.YtdoekpodichhdaaDoor
open Go.RowKit
/-- A reader behind so many bytes x. -/
def xs (t : Bool) (i : Nat) : St := if i ≤ 512 then ⟨List.replicate i 120, t, 0⟩ else ⟨[], t, 4⟩
theorem read_x (h : List UInt8) (t : Bool) : readN h t 120 = if h.length = 512 then (h, t, [], 4) else (h ++ [120], t, [], 0) := by
  unfold readN
  rw [if_neg (by decide), if_neg (by simp)]
theorem step_x (h : List UInt8) (t : Bool) : feedN ⟨h, t, 0⟩ [120] = if h.length = 512 then (⟨[], t, 4⟩, []) else (⟨h ++ [120], t, 0⟩, []) := by
  unfold feedN stepN
  simp only [if_true, read_x, feedN]
  by_cases h5 : h.length = 512
  · simp only [if_pos h5]
    rfl
  · simp only [if_neg h5]
    rfl
theorem xs_step (t : Bool) (i : Nat) : feedN (xs t i) [120] = (xs t (i + 1), []) := by
  unfold xs
  by_cases h : i ≤ 512
  · rw [if_pos h, step_x, List.length_replicate]
    by_cases h2 : i = 512
    · rw [if_pos h2, if_neg (by omega)]
    · rw [if_neg h2, if_pos (by omega), List.replicate_succ']
  · rw [if_neg h, if_neg (by omega)]
    exact feedN_err _ _ (show (4 : Int) ≠ 0 by decide)
theorem xs_ok (t : Bool) (i : Nat) : Ok (xs t i) := by
  unfold xs
  by_cases h : i ≤ 512
  · rw [if_pos h]
    exact ⟨by simpa using h, .inl rfl, fun e => absurd rfl e⟩
  · rw [if_neg h]
    exact ⟨by simp, .inr (.inr (.inr rfl)), fun _ => rfl⟩
theorem xs_err (t : Bool) (i : Nat) : (xs t i).err = if i ≤ 512 then 0 else 4 := by
  unfold xs
  split <;> rfl
theorem xs_held (t : Bool) (i : Nat) : (xs t i).held.length = if i ≤ 512 then i else 0 := by
  unfold xs
  split <;> simp
theorem xs_zero (t : Bool) : xs t 0 = ⟨[], t, 0⟩ := rfl
theorem long0 : feedN st0 [60] = (xs true 0, []) := by kernel_rfl
def LongSt (B r : Nat) (t : Bool) (i : Nat) (w0 w : World) : Prop := RdrAt B r (xs t i).held (xs t i).tag (xs t i).err w ∧ Below B w0 w
theorem mod600 (x : Int) : ∃ m : Nat, m < 600 ∧ wrap64 ((IntKind.u64.wrap x).tmod 600) = (m : Int) := by
  have h : IntKind.u64.wrap x = x % 18446744073709551616 := rfl
  refine ⟨(x % 18446744073709551616 % 600).toNat, by omega, ?_⟩
  rw [h, Int.tmod_eq_emod_of_nonneg (by omega)]
  unfold wrap64
  omega
set_option maxHeartbeats 4000000 in
set_option maxRecDepth 100000 in
theorem long_walk (x : Int) (t : Bool) (w : World) (hT : Tabs w) : Calls Tryd.prog 8 #[.int .i64 x, .bool t] w fun e w' => e = .returned (.bool true) ∧ Below w.heap.size w w' := by
  have hT3 := hT.size
  have H0 := lives_any w hT
  obtain ⟨m, hm, hx⟩ := mod600 x
  cases t with
  | true =>
    go_enter Tryd.func8, Tryd.ntmps8
    go_wp2_with (first | (go_at_call 9; refine H0.mono ?_; rintro e w1 ⟨rfl, hb1⟩) | (go_at_call 11; refine (new_any _).mono ?_; rintro e w' ⟨rfl, hw⟩; rw [hw]) | (go_at_call 12; refine (feed_at w.heap.size w1.heap.size st0 _ _ ⟨#[60]⟩ long0 _ (made hb1 hb1.size).1 ok_st0 (hT.below hT3 (made hb1 hb1.size).2) hT3 (by decide)).mono ?_))
    rintro e w2 ⟨⟨ao2, n2, cap2, rfl, t2⟩, r2, f2⟩
    have hb2 := (made hb1 hb1.size).2.trans f2.1
    have hst : LongSt w.heap.size w1.heap.size true 0 w w2 := ⟨r2, hb2⟩
    clear t2 r2 f2 hb2
    go_wp2
    go_loopw [6] (fun i wr => ∃ j : Nat, j ≤ m ∧ i = .int .i64 j ∧ LongSt w.heap.size w1.heap.size true j w wr) (fun i _ => m - (intOf i).toNat)
    case atStart => exact ⟨0, Nat.zero_le _, rfl, hst⟩
    case round =>
      obtain ⟨j, hj, rfl, hl⟩ := hrel
      by_cases hlt : j < m
      · have H1 := feed_at w.heap.size w1.heap.size (xs true j) _ _ ⟨#[120]⟩ (xs_step true j) wr hl.1 (xs_ok true j) (hT.below hT3 hl.2) hT3 (by decide)
        have hE := xs_err true (j + 1)
        go_wp2_with (go_at_call 12; refine H1.mono ?_)
        rintro e w3 ⟨⟨ao3, n3, cap3, rfl, t3⟩, r3, f3⟩
        obtain ⟨xs3, ho3, _⟩ := t3
        have hn3 : n3 = 0 := owns_n ho3
        subst hn3
        have hl3 : LongSt w.heap.size w1.heap.size true (j + 1) w w3 := ⟨r3, hl.2.trans f3.1⟩
        clear r3 f3 ho3
        by_cases h5 : j + 1 ≤ 512
        · rw [if_pos h5] at hE
          have hj5 : (j : Int) < 512 := by omega
          simp only [hE]
          go_wp2
          go_roundw
          case rel => exact ⟨j + 1, by omega, by go_num, hl3⟩
          case measure => simp [intOf]; omega
        · rw [if_neg h5] at hE
          have hj5 : ¬ (j : Int) < 512 := by omega
          simp only [hE]
          go_wp2
          go_roundw
          case rel => exact ⟨j + 1, by omega, by go_num, hl3⟩
          case measure => simp [intOf]; omega
      · have hjm : j = m := by omega
        subst hjm
        have H3 := held_any _ _ _ _ _ wr hl.1
        have hH := xs_held true j
        rw [hH] at H3
        clear hH
        by_cases h5 : j ≤ 512
        · rw [if_pos h5] at H3
          go_wp2_with (go_at_call 16; refine H3.mono ?_; rintro e w' ⟨rfl, hw⟩; rw [hw])
          go_ret
          exact ⟨rfl, hl.2⟩
        · rw [if_neg h5] at H3
          have hj0 : ((0 : Int) == (j : Int)) = false := beq_no (by omega)
          have hj5 : (512 : Int) < (j : Int) := by omega
          go_wp2_with (go_at_call 16; refine H3.mono ?_; rintro e w' ⟨rfl, hw⟩; rw [hw])
          go_ret
          exact ⟨rfl, hl.2⟩
  | false =>
    go_enter Tryd.func8, Tryd.ntmps8
    go_wp2_with (first | (go_at_call 9; refine H0.mono ?_; rintro e w1 ⟨rfl, hb1⟩) | (go_at_call 11; refine (new_any _).mono ?_; rintro e w' ⟨rfl, hw⟩; rw [hw]))
    have hst : LongSt w.heap.size w1.heap.size false 0 w (w1.alloc (.cells #[.slice none 0 0, .bool false, .int .i64 0] 49)) := made hb1 hb1.size
    go_loopw [6] (fun i wr => ∃ j : Nat, j ≤ m ∧ i = .int .i64 j ∧ LongSt w.heap.size w1.heap.size false j w wr) (fun i _ => m - (intOf i).toNat)
    case atStart => exact ⟨0, Nat.zero_le _, rfl, hst⟩
    case round =>
      obtain ⟨j, hj, rfl, hl⟩ := hrel
      by_cases hlt : j < m
      · have H1 := feed_at w.heap.size w1.heap.size (xs false j) _ _ ⟨#[120]⟩ (xs_step false j) wr hl.1 (xs_ok false j) (hT.below hT3 hl.2) hT3 (by decide)
        have hE := xs_err false (j + 1)
        go_wp2_with (go_at_call 12; refine H1.mono ?_)
        rintro e w3 ⟨⟨ao3, n3, cap3, rfl, t3⟩, r3, f3⟩
        obtain ⟨xs3, ho3, _⟩ := t3
        have hn3 : n3 = 0 := owns_n ho3
        subst hn3
        have hl3 : LongSt w.heap.size w1.heap.size false (j + 1) w w3 := ⟨r3, hl.2.trans f3.1⟩
        clear r3 f3 ho3
        by_cases h5 : j + 1 ≤ 512
        · rw [if_pos h5] at hE
          have hj5 : (j : Int) < 512 := by omega
          simp only [hE]
          go_wp2
          go_roundw
          case rel => exact ⟨j + 1, by omega, by go_num, hl3⟩
          case measure => simp [intOf]; omega
        · rw [if_neg h5] at hE
          have hj5 : ¬ (j : Int) < 512 := by omega
          simp only [hE]
          go_wp2
          go_roundw
          case rel => exact ⟨j + 1, by omega, by go_num, hl3⟩
          case measure => simp [intOf]; omega
      · have hjm : j = m := by omega
        subst hjm
        have H3 := held_any _ _ _ _ _ wr hl.1
        have hH := xs_held false j
        rw [hH] at H3
        clear hH
        by_cases h5 : j ≤ 512
        · rw [if_pos h5] at H3
          go_wp2_with (go_at_call 16; refine H3.mono ?_; rintro e w' ⟨rfl, hw⟩; rw [hw])
          go_ret
          exact ⟨rfl, hl.2⟩
        · rw [if_neg h5] at H3
          have hj0 : ((0 : Int) == (j : Int)) = false := beq_no (by omega)
          have hj5 : (512 : Int) < (j : Int) := by omega
          go_wp2_with (go_at_call 16; refine H3.mono ?_; rintro e w' ⟨rfl, hw⟩; rw [hw])
          go_ret
          exact ⟨rfl, hl.2⟩
end Go.Proofs.YtdoekpodichhdaaDoor
