/-
  The statement SignsWhole, walked: for every string the call returns true, and nothing that was there has turned.
-/
import Derived.Test.YtjhiebpehpaapaaDoorWalkk
namespace Go.Proofs.YtjhiebpehpaapaaDoor
open Go.RowKit
set_option maxHeartbeats 2000000 in
set_option maxRecDepth 100000 in
theorem whole_none (s u : ByteArray) (w : World) (hT : Tabs w) (hu : u.size ≤ 300) (hE : ∀ w, Calls Tryd.prog 10 #[.string s] w fun e w' => e = .returned (.string u) ∧ w' = w)
    (hc : whole u.data.toList = none) :
    Calls Tryd.prog 7 #[.string s] w fun e w' => e = .returned (.bool true) ∧ Below w.heap.size w w' := by
  have hT3 := hT.size
  have k1 := whole_at u 0 2 (by unfold wholeN; rw [hc])
  have k2 := right_at u 2 (by
    have : ¬ right u.data.toList = true := by rw [right_iff, hc]; simp
    unfold rightN; rw [if_neg this])
  clear hc
  go_enter Tryd.func7, Tryd.ntmps7
  go_wp2_with (go_at_call 9; refine (lives_any _ hT).mono ?_)
  rintro e w1 ⟨rfl, b1⟩
  have hT1 := hT.below hT3 b1
  have hs1 := b1.size
  go_wp2_with (go_at_call 10; refine (hE _).mono ?_; rintro e w' ⟨rfl, rfl⟩)
  go_wp2_with (go_at_call 11; refine (k1 _ hT1 (by omega)).mono ?_)
  rintro e w2 ⟨rfl, b2⟩
  have b2' := b1.trans (b2.mono hs1)
  have hT2 := hT.below hT3 b2'
  have hs2 := b2'.size
  go_wp2_with (go_at_call 13; refine (k2 _ hT2 (by omega)).mono ?_)
  rintro e w3 ⟨rfl, b3⟩
  have b3' := b2'.trans (b3.mono hs2)
  have hs3 := b3'.size
  go_wp2
  go_loopw [5] (fun i wr => ∃ k : Nat, k ≤ u.size ∧ i = .int .i64 k ∧ Below w.heap.size w wr) (fun i _ => u.size - (intOf i).toNat)
  case atStart => exact ⟨0, Nat.zero_le _, rfl, b3'⟩
  case round =>
    obtain ⟨k, hk, rfl, hbw⟩ := hrel
    have hT5 := hT.below hT3 hbw
    have hsr := hbw.size
    by_cases hlt : k < u.size
    · go_wp2_with (go_at_call 13; refine (k2 _ hT5 (by omega)).mono ?_; rintro e w5 ⟨rfl, b5⟩)
      go_ret
      exact ⟨rfl, hbw.trans (b5.mono hsr)⟩
    · go_wp2
      go_ret
      exact ⟨rfl, hbw⟩
set_option maxHeartbeats 2000000 in
set_option maxRecDepth 100000 in
theorem whole_less (s u : ByteArray) (w : World) (hT : Tabs w) (hu : u.size ≤ 300) (hE : ∀ w, Calls Tryd.prog 10 #[.string s] w fun e w' => e = .returned (.string u) ∧ w' = w)
    (n : Nat) (hc : whole u.data.toList = some n) (hn : n < u.size) :
    Calls Tryd.prog 7 #[.string s] w fun e w' => e = .returned (.bool true) ∧ Below w.heap.size w w' := by
  have hT3 := hT.size
  have hle := whole_le _ _ hc
  rw [← size_list] at hle
  obtain ⟨hl1, hl2⟩ := hle
  have e2 := (whole_app u.data.toList [] n hc).2
  have k1 := whole_at u n 0 (by unfold wholeN; rw [hc])
  have k4 := right_at (u.extract 0 n) 0 (by
    have : right (u.extract 0 n).data.toList = true := by
      rw [right_iff, take_list, e2, List.length_take, ← size_list, Nat.min_eq_left hl1]
    unfold rightN; rw [if_pos this])
  have HS3 : Hid ((u.extract 0 n).size = n) := by
    show _ = _
    simp [ByteArray.size_extract]
    omega
  have k2 := right_at u 2 (by
    have : ¬ right u.data.toList = true := by
      rw [right_iff, hc, ← size_list]
      simp
      omega
    unfold rightN; rw [if_neg this])
  have en : ((n : Int) == (u.size : Int)) = false := by simp; omega
  clear hc e2
  go_enter Tryd.func7, Tryd.ntmps7
  go_wp2_with (go_at_call 9; refine (lives_any _ hT).mono ?_)
  rintro e w1 ⟨rfl, b1⟩
  have hT1 := hT.below hT3 b1
  have hs1 := b1.size
  go_wp2_with (go_at_call 10; refine (hE _).mono ?_; rintro e w' ⟨rfl, rfl⟩)
  go_wp2_with (go_at_call 11; refine (k1 _ hT1 (by omega)).mono ?_)
  rintro e w2 ⟨rfl, b2⟩
  have b2' := b1.trans (b2.mono hs1)
  have hT2 := hT.below hT3 b2'
  have hs2 := b2'.size
  go_wp2_with (go_at_call 13; refine (k4 _ hT2 (by rw [HS3.out]; omega)).mono ?_)
  rintro e w3 ⟨rfl, b3⟩
  have b3' := b2'.trans (b3.mono hs2)
  have hT4 := hT.below hT3 b3'
  have hs3 := b3'.size
  go_wp2_with (go_at_call 13; refine (k2 _ hT4 (by omega)).mono ?_)
  rintro e w4 ⟨rfl, b4⟩
  have b4' := b3'.trans (b4.mono hs3)
  have hs4 := b4'.size
  go_wp2
  go_loopw [5] (fun i wr => ∃ k : Nat, k ≤ u.size ∧ i = .int .i64 k ∧ Below w.heap.size w wr) (fun i _ => u.size - (intOf i).toNat)
  case atStart => exact ⟨0, Nat.zero_le _, rfl, b4'⟩
  case round =>
    obtain ⟨k, hk, rfl, hbw⟩ := hrel
    have hT5 := hT.below hT3 hbw
    have hsr := hbw.size
    by_cases hlt : k < u.size
    · go_wp2_with (go_at_call 13; refine (k2 _ hT5 (by omega)).mono ?_; rintro e w5 ⟨rfl, b5⟩)
      go_ret
      exact ⟨rfl, hbw.trans (b5.mono hsr)⟩
    · go_wp2
      go_ret
      exact ⟨rfl, hbw⟩
set_option maxHeartbeats 2000000 in
set_option maxRecDepth 100000 in
theorem whole_all (s u : ByteArray) (w : World) (hT : Tabs w) (hu : u.size ≤ 300) (hE : ∀ w, Calls Tryd.prog 10 #[.string s] w fun e w' => e = .returned (.string u) ∧ w' = w)
    (n : Nat) (hc : whole u.data.toList = some n) (hn : n = u.size) :
    Calls Tryd.prog 7 #[.string s] w fun e w' => e = .returned (.bool true) ∧ Below w.heap.size w w' := by
  have hT3 := hT.size
  have hle := whole_le _ _ hc
  rw [← size_list] at hle
  obtain ⟨hl1, hl2⟩ := hle
  have e2 := (whole_app u.data.toList [] n hc).2
  have k1 := whole_at u n 0 (by unfold wholeN; rw [hc])
  have k4 := right_at (u.extract 0 n) 0 (by
    have : right (u.extract 0 n).data.toList = true := by
      rw [right_iff, take_list, e2, List.length_take, ← size_list, Nat.min_eq_left hl1]
    unfold rightN; rw [if_pos this])
  have HS3 : Hid ((u.extract 0 n).size = n) := by
    show _ = _
    simp [ByteArray.size_extract]
    omega
  have hr : right u.data.toList = true := by rw [right_iff, hc, ← size_list, hn]
  have k2 := right_at u 0 (by unfold rightN; rw [if_pos hr])
  have hk5 : ∀ k, k < u.size → ∃ m : Nat, m ≤ k ∧ k ≤ m + 3 ∧ wholeN (u.extract 0 k).data.toList = ((m : Int), 0) := by
    intro k hk
    cases hw : whole (u.data.toList.take k) with
    | none =>
      have := whole_app_none (u.data.toList.take k) (u.data.toList.drop k) hw
      rw [List.take_append_drop, hc] at this
      cases this
    | some m =>
      have q := whole_le _ _ hw
      rw [List.length_take, ← size_list, Nat.min_eq_left (by omega)] at q
      exact ⟨m, q.1, q.2, by unfold wholeN; rw [take_list, hw]⟩
  have HK : Hid _ := hk5
  have en : ((n : Int) == (u.size : Int)) = true := by simp [hn]
  clear hc e2 hr hk5 hn
  go_enter Tryd.func7, Tryd.ntmps7
  go_wp2_with (go_at_call 9; refine (lives_any _ hT).mono ?_)
  rintro e w1 ⟨rfl, b1⟩
  have hT1 := hT.below hT3 b1
  have hs1 := b1.size
  go_wp2_with (go_at_call 10; refine (hE _).mono ?_; rintro e w' ⟨rfl, rfl⟩)
  go_wp2_with (go_at_call 11; refine (k1 _ hT1 (by omega)).mono ?_)
  rintro e w2 ⟨rfl, b2⟩
  have b2' := b1.trans (b2.mono hs1)
  have hT2 := hT.below hT3 b2'
  have hs2 := b2'.size
  go_wp2_with (go_at_call 13; refine (k4 _ hT2 (by rw [HS3.out]; omega)).mono ?_)
  rintro e w3 ⟨rfl, b3⟩
  have b3' := b2'.trans (b3.mono hs2)
  have hT4 := hT.below hT3 b3'
  have hs3 := b3'.size
  go_wp2_with (go_at_call 13; refine (k2 _ hT4 (by omega)).mono ?_)
  rintro e w4 ⟨rfl, b4⟩
  have b4' := b3'.trans (b4.mono hs3)
  have hs4 := b4'.size
  go_wp2
  go_loopw [5] (fun i wr => ∃ k : Nat, k ≤ u.size ∧ i = .int .i64 k ∧ Below w.heap.size w wr) (fun i _ => u.size - (intOf i).toNat)
  case atStart => exact ⟨0, Nat.zero_le _, rfl, b4'⟩
  case round =>
    obtain ⟨k, hk, rfl, hbw⟩ := hrel
    have hT5 := hT.below hT3 hbw
    have hsr := hbw.size
    by_cases hlt : k < u.size
    · obtain ⟨m, hm1, hm2, hm3⟩ := HK.out k hlt
      have k6 := whole_at (u.extract 0 k) m 0 hm3
      have HS4 : Hid ((u.extract 0 k).size = k) := by
        show _ = _
        simp [ByteArray.size_extract]
        omega
      clear hm3
      go_wp2_with (go_at_call 13; refine (k2 _ hT5 (by omega)).mono ?_)
      rintro e w5 ⟨rfl, b5⟩
      have b5' := hbw.trans (b5.mono hsr)
      have hT6 := hT.below hT3 b5'
      have hs5 := b5'.size
      go_wp2_with (go_at_call 11; refine (k6 _ hT6 (by rw [HS4.out]; omega)).mono ?_)
      rintro e w6 ⟨rfl, b6⟩
      have b6' := b5'.trans (b6.mono hs5)
      go_wp2
      go_roundw
      case rel => exact ⟨k + 1, by omega, by go_num, b6'⟩
      case measure => simp [intOf]; omega
    · go_wp2
      go_ret
      exact ⟨rfl, hbw⟩
theorem whole_walk (s : ByteArray) (w : World) (hT : Tabs w) (hs : s.size ≤ maxLen) :
    Calls Tryd.prog 7 #[.string s] w fun e w' => e = .returned (.bool true) ∧ Below w.heap.size w w' := by
  obtain ⟨u, hu, hE⟩ := early_at s hs
  cases hc : whole u.data.toList with
  | none => exact whole_none s u w hT hu hE hc
  | some n =>
    have := (whole_le _ _ hc).1
    rw [← size_list] at this
    by_cases hn : n = u.size
    · exact whole_all s u w hT hu hE n hc hn
    · exact whole_less s u w hT hu hE n hc (by omega)
end Go.Proofs.YtjhiebpehpaapaaDoor
