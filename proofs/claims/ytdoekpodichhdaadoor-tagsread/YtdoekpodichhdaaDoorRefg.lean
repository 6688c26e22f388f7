/-
  The contracts of tidewaterref02.blank, blanks and name over this program: for every string of at most 100000 bytes.
-/
import Derived.Test.YtdoekpodichhdaaDoorReff
import Derived.Test.YtdoekpodichhdaaDoorPtagc
import Derived.Test.YtdoekpodichhdaaDoorLawg
namespace Go.Proofs.YtdoekpodichhdaaDoor
open Go.RowKit
def blN (l : List UInt8) : Nat := (l.takeWhile bl).length
def nmN (l : List UInt8) : Nat := (runN l).length
theorem drop_while (f : UInt8 → Bool) : ∀ l : List UInt8, l.drop (l.takeWhile f).length = l.dropWhile f
  | [] => rfl
  | a :: l => by
    rw [List.takeWhile_cons, List.dropWhile_cons]
    cases f a with
    | true => simpa using drop_while f l
    | false => rfl
theorem trim_drop (l : List UInt8) : l.drop (blN l) = trimL l := drop_while bl l
theorem run_take (l : List UInt8) : l.take (nmN l) = runN l := by
  conv => lhs; rw [← run_app l]
  have : nmN (runN l ++ runZ l) = (runN l).length := by unfold nmN; rw [run_app]
  rw [this, List.take_left]
theorem len_while (f : UInt8 → Bool) (l : List UInt8) (k : Nat) (c : UInt8) (t : List UInt8) (h : l.drop k = c :: t) (hf : f c = true) : ((l.drop k).takeWhile f).length = 1 + ((l.drop (k + 1)).takeWhile f).length := by
  have e : l.drop (k + 1) = t := by rw [← List.drop_drop, h]; rfl
  rw [h, e, List.takeWhile_cons, hf]
  simp
  omega
theorem len_stop (f : UInt8 → Bool) (l : List UInt8) (k : Nat) (c : UInt8) (t : List UInt8) (h : l.drop k = c :: t) (hf : f c = false) : ((l.drop k).takeWhile f).length = 0 := by
  rw [h, List.takeWhile_cons, hf]
  rfl
theorem len_le (f : UInt8 → Bool) (l : List UInt8) : (l.takeWhile f).length ≤ l.length := (List.takeWhile_sublist _).length_le
theorem drop_at (s : ByteArray) (k : Nat) (h : k < s.size) : s.data.toList.drop k = s[k] :: s.data.toList.drop (k + 1) := by
  rw [List.drop_eq_getElem_cons (by rw [← size_list]; exact h)]
  rfl
set_option maxHeartbeats 1000000 in
theorem refBlank_any (c : UInt8) (w : World) : Calls Tryd.prog 37 #[.int .u8 c.toNat] w fun e w' => e = .returned (.bool (bl c)) ∧ w' = w := by
  cases hb : bl c with
  | true =>
    have h4 : c = 32 ∨ c = 9 ∨ c = 10 ∨ c = 13 := by simpa [bl] using hb
    rcases h4 with rfl | rfl | rfl | rfl
    all_goals
      go_enter Tryd.func37, Tryd.ntmps37
      go_wp2
      go_ret
      exact ⟨rfl, rfl⟩
  | false =>
    have h4 : ¬ (c.toNat : Int) = 32 ∧ ¬ (c.toNat : Int) = 9 ∧ ¬ (c.toNat : Int) = 10 ∧ ¬ (c.toNat : Int) = 13 := by
      simp [bl, ← UInt8.toNat_inj] at hb
      omega
    obtain ⟨a, b, d, e⟩ := h4
    have a' : ((c.toNat : Int) == 32) = false := beq_no a
    have b' : ((c.toNat : Int) == 9) = false := beq_no b
    have d' : ((c.toNat : Int) == 10) = false := beq_no d
    have e' : ((c.toNat : Int) == 13) = false := beq_no e
    clear hb
    go_enter Tryd.func37, Tryd.ntmps37
    go_wp2
    go_ret
    exact ⟨rfl, rfl⟩
theorem refBlank_at (c : UInt8) (b : Bool) (h : bl c = b) (w : World) : Calls Tryd.prog 37 #[.int .u8 c.toNat] w fun e w' => e = .returned (.bool b) ∧ w' = w := h ▸ refBlank_any c w
set_option maxHeartbeats 1000000 in
theorem refBlanks_any (s : ByteArray) (w : World) (hs : s.size ≤ 100000) : Calls Tryd.prog 27 #[.string s] w fun e w' => e = .returned (.int .i64 (blN s.data.toList)) ∧ w' = w := by
  go_enter Tryd.func27, Tryd.ntmps27
  go_wp2
  go_loop [3] (fun i => ∃ k : Nat, k ≤ s.size ∧ i = .int .i64 k ∧ blN s.data.toList = k + ((s.data.toList.drop k).takeWhile bl).length) (fun i => s.size - (intOf i).toNat)
  case atStart => exact ⟨0, Nat.zero_le _, rfl, by simp [blN]⟩
  case round =>
    obtain ⟨k, hk, rfl, hb⟩ := hrel
    have HB : Hid _ := hb
    clear hb
    by_cases hlt : k < s.size
    · have HD : Hid _ := drop_at s k hlt
      cases hc : bl (s[k]'hlt) with
      | true =>
        have HC : Hid _ := hc
        have H1 := fun W => refBlank_at (s[k]'hlt) true hc W
        clear hc
        go_wp2_with (go_at_call 37; refine (H1 _).mono ?_; rintro e w' ⟨rfl, hw⟩; rw [hw])
        go_round
        case rel => exact ⟨k + 1, by omega, by go_num, by rw [HB.out, len_while bl _ _ _ _ HD.out HC.out]; omega⟩
        case measure => simp [intOf]; omega
      | false =>
        have HC : Hid _ := hc
        have H1 := fun W => refBlank_at (s[k]'hlt) false hc W
        clear hc
        go_wp2_with (go_at_call 37; refine (H1 _).mono ?_; rintro e w' ⟨rfl, hw⟩; rw [hw])
        go_ret
        exact ⟨ret_int (by rw [HB.out, len_stop bl _ _ _ _ HD.out HC.out]; simp), rfl⟩
    · go_wp2
      go_ret
      exact ⟨ret_int (by rw [HB.out, List.drop_eq_nil_of_le (by rw [← size_list]; omega)]; simp), rfl⟩
theorem nm_ways (c : UInt8) : (isNm c = true ∧ ((97 ≤ (c.toNat : Int) ∧ (c.toNat : Int) ≤ 122) ∨ (48 ≤ (c.toNat : Int) ∧ (c.toNat : Int) ≤ 57) ∨ (c.toNat : Int) = 45 ∨ (c.toNat : Int) = 58)) ∨
    (isNm c = false ∧ (122 < (c.toNat : Int) ∨ (58 < (c.toNat : Int) ∧ (c.toNat : Int) < 97) ∨ (45 < (c.toNat : Int) ∧ (c.toNat : Int) < 48) ∨ (c.toNat : Int) < 45)) := by
  unfold isNm isLet isLat
  by_cases h1 : 97 ≤ c.toNat ∧ c.toNat ≤ 122
  · exact .inl ⟨by simp [h1], by omega⟩
  · by_cases h2 : 48 ≤ c.toNat ∧ c.toNat ≤ 57
    · exact .inl ⟨by simp [h2], by omega⟩
    · by_cases h3 : c.toNat = 45
      · exact .inl ⟨by simp [show c = 45 from UInt8.toNat_inj.1 h3], by omega⟩
      · by_cases h4 : c.toNat = 58
        · exact .inl ⟨by simp [show c = 58 from UInt8.toNat_inj.1 h4], by omega⟩
        · refine .inr ⟨?_, by omega⟩
          have e3 : (c == 45) = false := by simpa using fun e => h3 (by rw [e]; rfl)
          have e4 : (c == 58) = false := by simpa using fun e => h4 (by rw [e]; rfl)
          simp [h1, h2, e3, e4]
set_option maxHeartbeats 4000000 in
theorem refRun_any (s : ByteArray) (w : World) (hs : s.size ≤ 100000) : Calls Tryd.prog 25 #[.string s] w fun e w' => e = .returned (.int .i64 (nmN s.data.toList)) ∧ w' = w := by
  go_enter Tryd.func25, Tryd.ntmps25
  go_wp2
  go_loop [3] (fun i => ∃ k : Nat, k ≤ s.size ∧ i = .int .i64 k ∧ nmN s.data.toList = k + ((s.data.toList.drop k).takeWhile isNm).length) (fun i => s.size - (intOf i).toNat)
  case atStart => exact ⟨0, Nat.zero_le _, rfl, by simp [nmN, runN]⟩
  case round =>
    obtain ⟨k, hk, rfl, hb⟩ := hrel
    have HB : Hid _ := hb
    clear hb
    by_cases hlt : k < s.size
    · have HD : Hid _ := drop_at s k hlt
      rcases nm_ways (s[k]'hlt) with ⟨hc, h4⟩ | ⟨hc, h4⟩
      · have HC : Hid _ := hc
        clear hc
        rcases h4 with ⟨a, b⟩ | ⟨a, b⟩ | a | a
        all_goals
          go_wp2
          go_round
          case rel => exact ⟨k + 1, by omega, by go_num, by rw [HB.out, len_while isNm _ _ _ _ HD.out HC.out]; omega⟩
          case measure => simp [intOf]; omega
      · have HC : Hid _ := hc
        clear hc
        have n45 : (((s[k]'hlt).toNat : Int) == 45) = false := beq_no (by omega)
        have n58 : (((s[k]'hlt).toNat : Int) == 58) = false := beq_no (by omega)
        rcases h4 with a | ⟨a, b⟩ | ⟨a, b⟩ | a
        all_goals
          go_wp2
          go_ret
          exact ⟨ret_int (by rw [HB.out, len_stop isNm _ _ _ _ HD.out HC.out]; simp), rfl⟩
    · go_wp2
      go_ret
      exact ⟨ret_int (by rw [HB.out, List.drop_eq_nil_of_le (by rw [← size_list]; omega)]; simp), rfl⟩
end Go.Proofs.YtdoekpodichhdaaDoor
