/-
  The walk of the statement PactNames over this program.
-/
import Derived.Test.YtojeeopmhogolaaDoorPck
namespace Go.Proofs.YtojeeopmhogolaaDoor
open Go Go.RowKit Go.Sort
set_option maxHeartbeats 2000000 in
theorem nmAP (act : Int) (T x : ByteArray) (w : World) (hN : Names w) (k1 : act < 1) (n : Int) (k3 : (n == 0) = false) (k4 : 0 < n) (HR : ∀ W, Calls Tryd.prog 25 #[.int .i64 n] W fun e w' => e = .returned (.string T) ∧ Below W.heap.size W w') (HT : ∀ W, Names W → Calls Tryd.prog 23 #[.string T] W fun e w' => e = .returned (.int .i64 n) ∧ w' = W) (HM : ∀ W, Names W → Calls Tryd.prog 24 #[.int .i64 act] W fun e w' => e = .returned (.string x) ∧ w' = W) (HF : ∀ W, Calls Tryd.prog 25 #[.int .i64 act] W fun e w' => e = .returned (.string x) ∧ Below W.heap.size W w') :
    Calls Tryd.prog 7 #[.int .i64 act, .string T] w fun e w' => e = .returned (.bool true) ∧ Below w.heap.size w w' := by
  have HN : Hid (Names w) := hN
  clear hN
  go_enter Tryd.func7, Tryd.ntmps7
  go_wp2_with (first
    | (go_at_call 9; refine (lives_any _ HN.out).mono ?_; rintro e w1 ⟨rfl, hb1⟩; have HW1 : Hid (Below w.heap.size w w1) := hb1; clear hb1)
    | (go_at_call_of 23 (T); refine (HT _ (HN.out.below HW1.out)).mono ?_; rintro e w1 ⟨rfl, rfl⟩)
    | (go_at_call 24; refine (HM _ (HN.out.below HW1.out)).mono ?_; rintro e w1 ⟨rfl, rfl⟩)
    | (go_at_call_of 25 (n); refine (HR _).mono ?_; rintro e w2 ⟨rfl, hb2⟩; replace HW1 : Hid (Below w.heap.size w w2) := HW1.out.trans (hb2.mono HW1.out.size); clear hb2)
    | (go_at_call 25; refine (HF _).mono ?_; rintro e w2 ⟨rfl, hb2⟩; replace HW1 : Hid (Below w.heap.size w w2) := HW1.out.trans (hb2.mono HW1.out.size); clear hb2))
  go_ret
  exact ⟨rfl, HW1.out⟩
set_option maxHeartbeats 2000000 in
theorem nmAZ (act : Int) (T x : ByteArray) (w : World) (hN : Names w) (k1 : act < 1) (e1 : (T.toList == [115, 117, 98, 115, 99, 114, 105, 98, 101]) = false) (_f1 : ¬ T.toList = [115, 117, 98, 115, 99, 114, 105, 98, 101]) (e2 : (T.toList == [115, 117, 98, 115, 99, 114, 105, 98, 101, 100]) = false) (_f2 : ¬ T.toList = [115, 117, 98, 115, 99, 114, 105, 98, 101, 100]) (e3 : (T.toList == [117, 110, 115, 117, 98, 115, 99, 114, 105, 98, 101]) = false) (_f3 : ¬ T.toList = [117, 110, 115, 117, 98, 115, 99, 114, 105, 98, 101]) (e4 : (T.toList == [117, 110, 115, 117, 98, 115, 99, 114, 105, 98, 101, 100]) = false) (_f4 : ¬ T.toList = [117, 110, 115, 117, 98, 115, 99, 114, 105, 98, 101, 100]) (HT : ∀ W, Names W → Calls Tryd.prog 23 #[.string T] W fun e w' => e = .returned (.int .i64 0) ∧ w' = W) (HM : ∀ W, Names W → Calls Tryd.prog 24 #[.int .i64 act] W fun e w' => e = .returned (.string x) ∧ w' = W) (HF : ∀ W, Calls Tryd.prog 25 #[.int .i64 act] W fun e w' => e = .returned (.string x) ∧ Below W.heap.size W w') :
    Calls Tryd.prog 7 #[.int .i64 act, .string T] w fun e w' => e = .returned (.bool true) ∧ Below w.heap.size w w' := by
  have HN : Hid (Names w) := hN
  clear hN
  go_enter Tryd.func7, Tryd.ntmps7
  go_wp2_with (first
    | (go_at_call 9; refine (lives_any _ HN.out).mono ?_; rintro e w1 ⟨rfl, hb1⟩; have HW1 : Hid (Below w.heap.size w w1) := hb1; clear hb1)
    | (go_at_call_of 23 (T); refine (HT _ (HN.out.below HW1.out)).mono ?_; rintro e w1 ⟨rfl, rfl⟩)
    | (go_at_call 24; refine (HM _ (HN.out.below HW1.out)).mono ?_; rintro e w1 ⟨rfl, rfl⟩)
    | (go_at_call 25; refine (HF _).mono ?_; rintro e w2 ⟨rfl, hb2⟩; replace HW1 : Hid (Below w.heap.size w w2) := HW1.out.trans (hb2.mono HW1.out.size); clear hb2))
  go_ret
  exact ⟨rfl, HW1.out⟩
set_option maxHeartbeats 2000000 in
theorem nmBP (act : Int) (T x : ByteArray) (w : World) (hN : Names w) (k1 : ¬ act < 1) (k2 : 4 < act) (n : Int) (k3 : (n == 0) = false) (k4 : 0 < n) (HR : ∀ W, Calls Tryd.prog 25 #[.int .i64 n] W fun e w' => e = .returned (.string T) ∧ Below W.heap.size W w') (HT : ∀ W, Names W → Calls Tryd.prog 23 #[.string T] W fun e w' => e = .returned (.int .i64 n) ∧ w' = W) (HM : ∀ W, Names W → Calls Tryd.prog 24 #[.int .i64 act] W fun e w' => e = .returned (.string x) ∧ w' = W) (HF : ∀ W, Calls Tryd.prog 25 #[.int .i64 act] W fun e w' => e = .returned (.string x) ∧ Below W.heap.size W w') :
    Calls Tryd.prog 7 #[.int .i64 act, .string T] w fun e w' => e = .returned (.bool true) ∧ Below w.heap.size w w' := by
  have HN : Hid (Names w) := hN
  clear hN
  go_enter Tryd.func7, Tryd.ntmps7
  go_wp2_with (first
    | (go_at_call 9; refine (lives_any _ HN.out).mono ?_; rintro e w1 ⟨rfl, hb1⟩; have HW1 : Hid (Below w.heap.size w w1) := hb1; clear hb1)
    | (go_at_call_of 23 (T); refine (HT _ (HN.out.below HW1.out)).mono ?_; rintro e w1 ⟨rfl, rfl⟩)
    | (go_at_call 24; refine (HM _ (HN.out.below HW1.out)).mono ?_; rintro e w1 ⟨rfl, rfl⟩)
    | (go_at_call_of 25 (n); refine (HR _).mono ?_; rintro e w2 ⟨rfl, hb2⟩; replace HW1 : Hid (Below w.heap.size w w2) := HW1.out.trans (hb2.mono HW1.out.size); clear hb2)
    | (go_at_call 25; refine (HF _).mono ?_; rintro e w2 ⟨rfl, hb2⟩; replace HW1 : Hid (Below w.heap.size w w2) := HW1.out.trans (hb2.mono HW1.out.size); clear hb2))
  go_ret
  exact ⟨rfl, HW1.out⟩
set_option maxHeartbeats 2000000 in
theorem nmBZ (act : Int) (T x : ByteArray) (w : World) (hN : Names w) (k1 : ¬ act < 1) (k2 : 4 < act) (e1 : (T.toList == [115, 117, 98, 115, 99, 114, 105, 98, 101]) = false) (_f1 : ¬ T.toList = [115, 117, 98, 115, 99, 114, 105, 98, 101]) (e2 : (T.toList == [115, 117, 98, 115, 99, 114, 105, 98, 101, 100]) = false) (_f2 : ¬ T.toList = [115, 117, 98, 115, 99, 114, 105, 98, 101, 100]) (e3 : (T.toList == [117, 110, 115, 117, 98, 115, 99, 114, 105, 98, 101]) = false) (_f3 : ¬ T.toList = [117, 110, 115, 117, 98, 115, 99, 114, 105, 98, 101]) (e4 : (T.toList == [117, 110, 115, 117, 98, 115, 99, 114, 105, 98, 101, 100]) = false) (_f4 : ¬ T.toList = [117, 110, 115, 117, 98, 115, 99, 114, 105, 98, 101, 100]) (HT : ∀ W, Names W → Calls Tryd.prog 23 #[.string T] W fun e w' => e = .returned (.int .i64 0) ∧ w' = W) (HM : ∀ W, Names W → Calls Tryd.prog 24 #[.int .i64 act] W fun e w' => e = .returned (.string x) ∧ w' = W) (HF : ∀ W, Calls Tryd.prog 25 #[.int .i64 act] W fun e w' => e = .returned (.string x) ∧ Below W.heap.size W w') :
    Calls Tryd.prog 7 #[.int .i64 act, .string T] w fun e w' => e = .returned (.bool true) ∧ Below w.heap.size w w' := by
  have HN : Hid (Names w) := hN
  clear hN
  go_enter Tryd.func7, Tryd.ntmps7
  go_wp2_with (first
    | (go_at_call 9; refine (lives_any _ HN.out).mono ?_; rintro e w1 ⟨rfl, hb1⟩; have HW1 : Hid (Below w.heap.size w w1) := hb1; clear hb1)
    | (go_at_call_of 23 (T); refine (HT _ (HN.out.below HW1.out)).mono ?_; rintro e w1 ⟨rfl, rfl⟩)
    | (go_at_call 24; refine (HM _ (HN.out.below HW1.out)).mono ?_; rintro e w1 ⟨rfl, rfl⟩)
    | (go_at_call 25; refine (HF _).mono ?_; rintro e w2 ⟨rfl, hb2⟩; replace HW1 : Hid (Below w.heap.size w w2) := HW1.out.trans (hb2.mono HW1.out.size); clear hb2))
  go_ret
  exact ⟨rfl, HW1.out⟩
set_option maxHeartbeats 2000000 in
theorem nmCP (act : Int) (T x : ByteArray) (w : World) (hN : Names w) (k1 : ¬ act < 1) (k2 : ¬ 4 < act) (n : Int) (k3 : (n == 0) = false) (k4 : 0 < n) (HR : ∀ W, Calls Tryd.prog 25 #[.int .i64 n] W fun e w' => e = .returned (.string T) ∧ Below W.heap.size W w') (HT : ∀ W, Names W → Calls Tryd.prog 23 #[.string T] W fun e w' => e = .returned (.int .i64 n) ∧ w' = W) (HM : ∀ W, Names W → Calls Tryd.prog 24 #[.int .i64 act] W fun e w' => e = .returned (.string x) ∧ w' = W) (HF : ∀ W, Calls Tryd.prog 25 #[.int .i64 act] W fun e w' => e = .returned (.string x) ∧ Below W.heap.size W w') (HC : ∀ W, Names W → Calls Tryd.prog 23 #[.string x] W fun e w' => e = .returned (.int .i64 act) ∧ w' = W) :
    Calls Tryd.prog 7 #[.int .i64 act, .string T] w fun e w' => e = .returned (.bool true) ∧ Below w.heap.size w w' := by
  have HN : Hid (Names w) := hN
  clear hN
  go_enter Tryd.func7, Tryd.ntmps7
  go_wp2_with (first
    | (go_at_call 9; refine (lives_any _ HN.out).mono ?_; rintro e w1 ⟨rfl, hb1⟩; have HW1 : Hid (Below w.heap.size w w1) := hb1; clear hb1)
    | (go_at_call_of 23 (T); refine (HT _ (HN.out.below HW1.out)).mono ?_; rintro e w1 ⟨rfl, rfl⟩)
    | (go_at_call 24; refine (HM _ (HN.out.below HW1.out)).mono ?_; rintro e w1 ⟨rfl, rfl⟩)
    | (go_at_call_of 25 (n); refine (HR _).mono ?_; rintro e w2 ⟨rfl, hb2⟩; replace HW1 : Hid (Below w.heap.size w w2) := HW1.out.trans (hb2.mono HW1.out.size); clear hb2)
    | (go_at_call 25; refine (HF _).mono ?_; rintro e w2 ⟨rfl, hb2⟩; replace HW1 : Hid (Below w.heap.size w w2) := HW1.out.trans (hb2.mono HW1.out.size); clear hb2)
    | (go_at_call 23; refine (HC _ (HN.out.below HW1.out)).mono ?_; rintro e w1 ⟨rfl, rfl⟩))
  go_ret
  exact ⟨rfl, HW1.out⟩
set_option maxHeartbeats 2000000 in
theorem nmCZ (act : Int) (T x : ByteArray) (w : World) (hN : Names w) (k1 : ¬ act < 1) (k2 : ¬ 4 < act) (e1 : (T.toList == [115, 117, 98, 115, 99, 114, 105, 98, 101]) = false) (_f1 : ¬ T.toList = [115, 117, 98, 115, 99, 114, 105, 98, 101]) (e2 : (T.toList == [115, 117, 98, 115, 99, 114, 105, 98, 101, 100]) = false) (_f2 : ¬ T.toList = [115, 117, 98, 115, 99, 114, 105, 98, 101, 100]) (e3 : (T.toList == [117, 110, 115, 117, 98, 115, 99, 114, 105, 98, 101]) = false) (_f3 : ¬ T.toList = [117, 110, 115, 117, 98, 115, 99, 114, 105, 98, 101]) (e4 : (T.toList == [117, 110, 115, 117, 98, 115, 99, 114, 105, 98, 101, 100]) = false) (_f4 : ¬ T.toList = [117, 110, 115, 117, 98, 115, 99, 114, 105, 98, 101, 100]) (HT : ∀ W, Names W → Calls Tryd.prog 23 #[.string T] W fun e w' => e = .returned (.int .i64 0) ∧ w' = W) (HM : ∀ W, Names W → Calls Tryd.prog 24 #[.int .i64 act] W fun e w' => e = .returned (.string x) ∧ w' = W) (HF : ∀ W, Calls Tryd.prog 25 #[.int .i64 act] W fun e w' => e = .returned (.string x) ∧ Below W.heap.size W w') (HC : ∀ W, Names W → Calls Tryd.prog 23 #[.string x] W fun e w' => e = .returned (.int .i64 act) ∧ w' = W) :
    Calls Tryd.prog 7 #[.int .i64 act, .string T] w fun e w' => e = .returned (.bool true) ∧ Below w.heap.size w w' := by
  have HN : Hid (Names w) := hN
  clear hN
  go_enter Tryd.func7, Tryd.ntmps7
  go_wp2_with (first
    | (go_at_call 9; refine (lives_any _ HN.out).mono ?_; rintro e w1 ⟨rfl, hb1⟩; have HW1 : Hid (Below w.heap.size w w1) := hb1; clear hb1)
    | (go_at_call_of 23 (T); refine (HT _ (HN.out.below HW1.out)).mono ?_; rintro e w1 ⟨rfl, rfl⟩)
    | (go_at_call 24; refine (HM _ (HN.out.below HW1.out)).mono ?_; rintro e w1 ⟨rfl, rfl⟩)
    | (go_at_call 25; refine (HF _).mono ?_; rintro e w2 ⟨rfl, hb2⟩; replace HW1 : Hid (Below w.heap.size w w2) := HW1.out.trans (hb2.mono HW1.out.size); clear hb2)
    | (go_at_call 23; refine (HC _ (HN.out.below HW1.out)).mono ?_; rintro e w1 ⟨rfl, rfl⟩))
  go_ret
  exact ⟨rfl, HW1.out⟩
theorem nameN_out (k : Int) (h : k < 1 ∨ 4 < k) : nameN k = ⟨#[]⟩ := by
  unfold nameN
  rw [if_neg (by omega), if_neg (by omega), if_neg (by omega), if_neg (by omega)]
theorem act_name (k : Nat) (hk : 1 ≤ k ∧ k ≤ 4) : actN (nameN k).data.toList = k := by
  have hc : k = 1 ∨ k = 2 ∨ k = 3 ∨ k = 4 := by omega
  rcases hc with rfl | rfl | rfl | rfl <;> decide +kernel
theorem name_act (t : List UInt8) (h : actN t ≠ 0) : nameN (actN t : Int) = ⟨t.toArray⟩ ∧ 0 < actN t := by
  refine ⟨?_, by omega⟩
  unfold actN at h ⊢
  by_cases h0 : (([] : List UInt8) == t) = true
  · obtain rfl := eq_of_beq h0
    exact absurd rfl h
  · rw [if_neg h0] at h ⊢
    by_cases h1 : (([115, 117, 98, 115, 99, 114, 105, 98, 101] : List UInt8) == t) = true
    · obtain rfl := eq_of_beq h1
      decide +kernel
    · rw [if_neg h1] at h ⊢
      by_cases h2 : (([115, 117, 98, 115, 99, 114, 105, 98, 101, 100] : List UInt8) == t) = true
      · obtain rfl := eq_of_beq h2
        decide +kernel
      · rw [if_neg h2] at h ⊢
        by_cases h3 : (([117, 110, 115, 117, 98, 115, 99, 114, 105, 98, 101] : List UInt8) == t) = true
        · obtain rfl := eq_of_beq h3
          decide +kernel
        · rw [if_neg h3] at h ⊢
          by_cases h4 : (([117, 110, 115, 117, 98, 115, 99, 114, 105, 98, 101, 100] : List UInt8) == t) = true
          · obtain rfl := eq_of_beq h4
            decide +kernel
          · rw [if_neg h4] at h ⊢
            exact absurd rfl h
theorem name_zero (t : List UInt8) (h : actN t = 0) : (([115, 117, 98, 115, 99, 114, 105, 98, 101] : List UInt8) == t) = false ∧ (([115, 117, 98, 115, 99, 114, 105, 98, 101, 100] : List UInt8) == t) = false ∧ (([117, 110, 115, 117, 98, 115, 99, 114, 105, 98, 101] : List UInt8) == t) = false ∧ (([117, 110, 115, 117, 98, 115, 99, 114, 105, 98, 101, 100] : List UInt8) == t) = false := by
  unfold actN at h
  by_cases h0 : (([] : List UInt8) == t) = true
  · obtain rfl := eq_of_beq h0
    decide
  · rw [if_neg h0] at h
    by_cases h1 : (([115, 117, 98, 115, 99, 114, 105, 98, 101] : List UInt8) == t) = true
    · rw [if_pos h1] at h
      exact absurd h (by decide)
    · rw [if_neg h1] at h
      by_cases h2 : (([115, 117, 98, 115, 99, 114, 105, 98, 101, 100] : List UInt8) == t) = true
      · rw [if_pos h2] at h
        exact absurd h (by decide)
      · rw [if_neg h2] at h
        by_cases h3 : (([117, 110, 115, 117, 98, 115, 99, 114, 105, 98, 101] : List UInt8) == t) = true
        · rw [if_pos h3] at h
          exact absurd h (by decide)
        · rw [if_neg h3] at h
          by_cases h4 : (([117, 110, 115, 117, 98, 115, 99, 114, 105, 98, 101, 100] : List UInt8) == t) = true
          · rw [if_pos h4] at h
            exact absurd h (by decide)
          · rw [if_neg h4] at h
            exact ⟨by simpa using h1, by simpa using h2, by simpa using h3, by simpa using h4⟩
theorem names_walk (act : Int) (t : List UInt8) (w : World) (hN : Names w) : Calls Tryd.prog 7 #[.int .i64 act, .string ⟨t.toArray⟩] w fun e w' => e = .returned (.bool true) ∧ Below w.heap.size w w' := by
  have HT := fun W h => act_any t W h
  have HM := fun W h => name_any act W h
  have HF := fun W => refName_any act W
  by_cases hz : actN t = 0
  · rw [hz] at HT
    obtain ⟨z1, z2, z3, z4⟩ := name_zero t hz
    obtain ⟨e1, f1⟩ := bytes_neq2 z1
    rw [show (⟨([115, 117, 98, 115, 99, 114, 105, 98, 101] : List UInt8).toArray⟩ : ByteArray).toList = [115, 117, 98, 115, 99, 114, 105, 98, 101] by decide +kernel] at e1 f1
    replace e1 : ((⟨t.toArray⟩ : ByteArray).toList == [115, 117, 98, 115, 99, 114, 105, 98, 101]) = false := by rw [BEq.comm]; exact e1
    replace f1 : ¬ (⟨t.toArray⟩ : ByteArray).toList = [115, 117, 98, 115, 99, 114, 105, 98, 101] := fun h => f1 h.symm
    obtain ⟨e2, f2⟩ := bytes_neq2 z2
    rw [show (⟨([115, 117, 98, 115, 99, 114, 105, 98, 101, 100] : List UInt8).toArray⟩ : ByteArray).toList = [115, 117, 98, 115, 99, 114, 105, 98, 101, 100] by decide +kernel] at e2 f2
    replace e2 : ((⟨t.toArray⟩ : ByteArray).toList == [115, 117, 98, 115, 99, 114, 105, 98, 101, 100]) = false := by rw [BEq.comm]; exact e2
    replace f2 : ¬ (⟨t.toArray⟩ : ByteArray).toList = [115, 117, 98, 115, 99, 114, 105, 98, 101, 100] := fun h => f2 h.symm
    obtain ⟨e3, f3⟩ := bytes_neq2 z3
    rw [show (⟨([117, 110, 115, 117, 98, 115, 99, 114, 105, 98, 101] : List UInt8).toArray⟩ : ByteArray).toList = [117, 110, 115, 117, 98, 115, 99, 114, 105, 98, 101] by decide +kernel] at e3 f3
    replace e3 : ((⟨t.toArray⟩ : ByteArray).toList == [117, 110, 115, 117, 98, 115, 99, 114, 105, 98, 101]) = false := by rw [BEq.comm]; exact e3
    replace f3 : ¬ (⟨t.toArray⟩ : ByteArray).toList = [117, 110, 115, 117, 98, 115, 99, 114, 105, 98, 101] := fun h => f3 h.symm
    obtain ⟨e4, f4⟩ := bytes_neq2 z4
    rw [show (⟨([117, 110, 115, 117, 98, 115, 99, 114, 105, 98, 101, 100] : List UInt8).toArray⟩ : ByteArray).toList = [117, 110, 115, 117, 98, 115, 99, 114, 105, 98, 101, 100] by decide +kernel] at e4 f4
    replace e4 : ((⟨t.toArray⟩ : ByteArray).toList == [117, 110, 115, 117, 98, 115, 99, 114, 105, 98, 101, 100]) = false := by rw [BEq.comm]; exact e4
    replace f4 : ¬ (⟨t.toArray⟩ : ByteArray).toList = [117, 110, 115, 117, 98, 115, 99, 114, 105, 98, 101, 100] := fun h => f4 h.symm
    by_cases k1 : act < 1
    · exact nmAZ act _ _ w hN k1 e1 f1 e2 f2 e3 f3 e4 f4 HT HM HF
    · by_cases k2 : 4 < act
      · exact nmBZ act _ _ w hN k1 k2 e1 f1 e2 f2 e3 f3 e4 f4 HT HM HF
      · obtain ⟨k, rfl⟩ : ∃ k : Nat, act = (k : Int) := ⟨act.toNat, by omega⟩
        refine nmCZ k _ _ w hN k1 k2 e1 f1 e2 f2 e3 f3 e4 f4 HT HM HF fun W h => ?_
        have := act_any (nameN k).data.toList W h
        rw [act_name k (by omega)] at this
        simpa using this
  · obtain ⟨hn, hp⟩ := name_act t hz
    have HR := fun W => refName_any (actN t : Int) W
    rw [hn] at HR
    have k3 : (((actN t : Nat) : Int) == 0) = false := by simp; omega
    have k4 : (0 : Int) < ((actN t : Nat) : Int) := by omega
    by_cases k1 : act < 1
    · exact nmAP act _ _ w hN k1 _ k3 k4 HR HT HM HF
    · by_cases k2 : 4 < act
      · exact nmBP act _ _ w hN k1 k2 _ k3 k4 HR HT HM HF
      · obtain ⟨k, rfl⟩ : ∃ k : Nat, act = (k : Int) := ⟨act.toNat, by omega⟩
        refine nmCP k _ _ w hN k1 k2 _ k3 k4 HR HT HM HF fun W h => ?_
        have := act_any (nameN k).data.toList W h
        rw [act_name k (by omega)] at this
        simpa using this
end Go.Proofs.YtojeeopmhogolaaDoor
