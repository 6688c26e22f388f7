/-
  The statement SignsPieces, walked: for every two strings the call returns true, and nothing that was there has turned.
-/
import Derived.Test.YtjhiebpehpaapaaDoorWalkk
namespace Go.Proofs.YtjhiebpehpaapaaDoor
open Go.RowKit
set_option maxHeartbeats 2000000 in
set_option maxRecDepth 100000 in
theorem pieces_none (s t u v : ByteArray) (w : World) (hT : Tabs w) (hu : u.size ≤ 300) (hv : v.size ≤ 300) (hE : ∀ w, Calls Tryd.prog 10 #[.string s] w fun e w' => e = .returned (.string u) ∧ w' = w) (hF : ∀ w, Calls Tryd.prog 10 #[.string t] w fun e w' => e = .returned (.string v) ∧ w' = w)
    (hc : whole u.data.toList = none) :
    Calls Tryd.prog 6 #[.string s, .string t] w fun e w' => e = .returned (.bool true) ∧ Below w.heap.size w w' := by
  have hT3 := hT.size
  have k1 := whole_at (u ++ v) 0 2 (by unfold wholeN; rw [app_list, whole_app_none _ _ hc])
  have k2 := whole_at u 0 2 (by unfold wholeN; rw [hc])
  have HS : Hid _ := app_size u v
  clear hc
  go_enter Tryd.func6, Tryd.ntmps6
  go_wp2_with (go_at_call 9; refine (lives_any _ hT).mono ?_)
  rintro e w1 ⟨rfl, b1⟩
  have hT1 := hT.below hT3 b1
  have hs1 := b1.size
  go_wp2_with (first | (go_at_call 10; refine (hE _).mono ?_; rintro e w' ⟨rfl, rfl⟩) | (go_at_call 10; refine (hF _).mono ?_; rintro e w' ⟨rfl, rfl⟩))
  go_wp2_with (go_at_call 11; refine (k1 _ hT1 (by rw [HS.out]; omega)).mono ?_)
  rintro e w2 ⟨rfl, b2⟩
  have b2' := b1.trans (b2.mono hs1)
  have hT2 := hT.below hT3 b2'
  have hs2 := b2'.size
  go_wp2_with (go_at_call 11; refine (k2 _ hT2 (by omega)).mono ?_)
  rintro e w3 ⟨rfl, b3⟩
  have b3' := b2'.trans (b3.mono hs2)
  have hT4 := hT.below hT3 b3'
  have hs3 := b3'.size
  go_wp2
  go_ret
  exact ⟨rfl, b3'⟩
set_option maxHeartbeats 2000000 in
set_option maxRecDepth 100000 in
theorem pieces_bad (s t u v : ByteArray) (w : World) (hT : Tabs w) (hu : u.size ≤ 300) (hv : v.size ≤ 300) (hE : ∀ w, Calls Tryd.prog 10 #[.string s] w fun e w' => e = .returned (.string u) ∧ w' = w) (hF : ∀ w, Calls Tryd.prog 10 #[.string t] w fun e w' => e = .returned (.string v) ∧ w' = w)
    (n : Nat) (hc : whole u.data.toList = some n) (hm : whole (u.data.toList.drop n ++ v.data.toList) = none) :
    Calls Tryd.prog 6 #[.string s, .string t] w fun e w' => e = .returned (.bool true) ∧ Below w.heap.size w w' := by
  have hT3 := hT.size
  have hle := whole_le _ _ hc
  rw [← size_list] at hle
  obtain ⟨hl1, hl2⟩ := hle
  obtain ⟨e1, e2⟩ := whole_app u.data.toList v.data.toList n hc
  have k2 := whole_at u n 0 (by unfold wholeN; rw [hc])
  have k4 := right_at (u.extract 0 n) 0 (by
    have : right (u.extract 0 n).data.toList = true := by
      rw [right_iff, take_list, e2, List.length_take, ← size_list, Nat.min_eq_left hl1]
    unfold rightN; rw [if_pos this])
  have HS : Hid _ := app_size u v
  have HS2 : Hid ((u.extract n u.size ++ v).size = u.size - n + v.size) := by
    show _ = _
    rw [app_size]
    simp [ByteArray.size_extract]
  have HS3 : Hid ((u.extract 0 n).size = n) := by
    show _ = _
    simp [ByteArray.size_extract]
    omega
  have k1 := whole_at (u ++ v) 0 2 (by unfold wholeN; rw [app_list, e1, hm]; rfl)
  have k3 := whole_at (u.extract n u.size ++ v) 0 2 (by unfold wholeN; rw [app_list, extract_list, hm])
  clear hc hm e1 e2
  go_enter Tryd.func6, Tryd.ntmps6
  go_wp2_with (go_at_call 9; refine (lives_any _ hT).mono ?_)
  rintro e w1 ⟨rfl, b1⟩
  have hT1 := hT.below hT3 b1
  have hs1 := b1.size
  go_wp2_with (first | (go_at_call 10; refine (hE _).mono ?_; rintro e w' ⟨rfl, rfl⟩) | (go_at_call 10; refine (hF _).mono ?_; rintro e w' ⟨rfl, rfl⟩))
  go_wp2_with (go_at_call 11; refine (k1 _ hT1 (by rw [HS.out]; omega)).mono ?_)
  rintro e w2 ⟨rfl, b2⟩
  have b2' := b1.trans (b2.mono hs1)
  have hT2 := hT.below hT3 b2'
  have hs2 := b2'.size
  go_wp2_with (go_at_call 11; refine (k2 _ hT2 (by omega)).mono ?_)
  rintro e w3 ⟨rfl, b3⟩
  have b3' := b2'.trans (b3.mono hs2)
  have hT4 := hT.below hT3 b3'
  have hs3 := b3'.size
  go_wp2_with (go_at_call 11; refine (k3 _ hT4 (by rw [HS2.out]; omega)).mono ?_)
  rintro e w4 ⟨rfl, b4⟩
  have b4' := b3'.trans (b4.mono hs3)
  have hT5 := hT.below hT3 b4'
  have hs4 := b4'.size
  go_wp2_with (go_at_call 13; refine (k4 _ hT5 (by rw [HS3.out]; omega)).mono ?_)
  rintro e w5 ⟨rfl, b5⟩
  have b5' := b4'.trans (b5.mono hs4)
  have hT6 := hT.below hT3 b5'
  have hs5 := b5'.size
  go_wp2
  go_ret
  exact ⟨rfl, b5'⟩
set_option maxHeartbeats 2000000 in
set_option maxRecDepth 100000 in
theorem pieces_ok (s t u v : ByteArray) (w : World) (hT : Tabs w) (hu : u.size ≤ 300) (hv : v.size ≤ 300) (hE : ∀ w, Calls Tryd.prog 10 #[.string s] w fun e w' => e = .returned (.string u) ∧ w' = w) (hF : ∀ w, Calls Tryd.prog 10 #[.string t] w fun e w' => e = .returned (.string v) ∧ w' = w)
    (n m : Nat) (hc : whole u.data.toList = some n) (hm : whole (u.data.toList.drop n ++ v.data.toList) = some m) :
    Calls Tryd.prog 6 #[.string s, .string t] w fun e w' => e = .returned (.bool true) ∧ Below w.heap.size w w' := by
  have hT3 := hT.size
  have hle := whole_le _ _ hc
  rw [← size_list] at hle
  obtain ⟨hl1, hl2⟩ := hle
  obtain ⟨e1, e2⟩ := whole_app u.data.toList v.data.toList n hc
  have k2 := whole_at u n 0 (by unfold wholeN; rw [hc])
  have k4 := right_at (u.extract 0 n) 0 (by
    have : right (u.extract 0 n).data.toList = true := by
      rw [right_iff, take_list, e2, List.length_take, ← size_list, Nat.min_eq_left hl1]
    unfold rightN; rw [if_pos this])
  have HS : Hid _ := app_size u v
  have HS2 : Hid ((u.extract n u.size ++ v).size = u.size - n + v.size) := by
    show _ = _
    rw [app_size]
    simp [ByteArray.size_extract]
  have HS3 : Hid ((u.extract 0 n).size = n) := by
    show _ = _
    simp [ByteArray.size_extract]
    omega
  have k1 := whole_at (u ++ v) ((n : Int) + m) 0 (by unfold wholeN; rw [app_list, e1, hm]; simp; omega)
  have k3 := whole_at (u.extract n u.size ++ v) m 0 (by unfold wholeN; rw [app_list, extract_list, hm])
  have hmle := (whole_le _ _ hm).1
  have hm2 : m ≤ u.size - n + v.size := by
    rw [List.length_append, List.length_drop, ← size_list, ← size_list] at hmle
    exact hmle
  have k5 : ∀ h : u.size + v.size ≤ n + m, ∀ w, Tabs w → Calls Tryd.prog 13 #[.string (u ++ v)] w fun e w' => e = .returned (.int .i64 0) ∧ Below w.heap.size w w' := by
    intro h w hT
    refine right_at (u ++ v) 0 ?_ w hT (by rw [app_size]; omega)
    have : right (u ++ v).data.toList = true := by
      rw [right_iff, app_list, e1, hm, List.length_append, ← size_list, ← size_list]
      simp
      omega
    unfold rightN; rw [if_pos this]
  clear hc hm e1 e2 hmle
  by_cases hall : n + m < u.size + v.size
  · clear k5
    have hall2 : ((n : Int) + m) < (u.size : Int) + v.size := by omega
    go_enter Tryd.func6, Tryd.ntmps6
    go_wp2_with (go_at_call 9; refine (lives_any _ hT).mono ?_)
    rintro e w1 ⟨rfl, b1⟩
    have hT1 := hT.below hT3 b1
    have hs1 := b1.size
    go_wp2_with (first | (go_at_call 10; refine (hE _).mono ?_; rintro e w' ⟨rfl, rfl⟩) | (go_at_call 10; refine (hF _).mono ?_; rintro e w' ⟨rfl, rfl⟩))
    go_wp2_with (go_at_call 11; refine (k1 _ hT1 (by rw [HS.out]; omega)).mono ?_)
    rintro e w2 ⟨rfl, b2⟩
    have b2' := b1.trans (b2.mono hs1)
    have hT2 := hT.below hT3 b2'
    have hs2 := b2'.size
    go_wp2_with (go_at_call 11; refine (k2 _ hT2 (by omega)).mono ?_)
    rintro e w3 ⟨rfl, b3⟩
    have b3' := b2'.trans (b3.mono hs2)
    have hT4 := hT.below hT3 b3'
    have hs3 := b3'.size
    go_wp2_with (go_at_call 11; refine (k3 _ hT4 (by rw [HS2.out]; omega)).mono ?_)
    rintro e w4 ⟨rfl, b4⟩
    have b4' := b3'.trans (b4.mono hs3)
    have hT5 := hT.below hT3 b4'
    have hs4 := b4'.size
    go_wp2_with (go_at_call 13; refine (k4 _ hT5 (by rw [HS3.out]; omega)).mono ?_)
    rintro e w5 ⟨rfl, b5⟩
    have b5' := b4'.trans (b5.mono hs4)
    have hT6 := hT.below hT3 b5'
    have hs5 := b5'.size
    go_wp2
    go_ret
    exact ⟨rfl, b5'⟩
  · have k6 := k5 (by omega)
    clear k5
    go_enter Tryd.func6, Tryd.ntmps6
    go_wp2_with (go_at_call 9; refine (lives_any _ hT).mono ?_)
    rintro e w1 ⟨rfl, b1⟩
    have hT1 := hT.below hT3 b1
    have hs1 := b1.size
    go_wp2_with (first | (go_at_call 10; refine (hE _).mono ?_; rintro e w' ⟨rfl, rfl⟩) | (go_at_call 10; refine (hF _).mono ?_; rintro e w' ⟨rfl, rfl⟩))
    go_wp2_with (go_at_call 11; refine (k1 _ hT1 (by rw [HS.out]; omega)).mono ?_)
    rintro e w2 ⟨rfl, b2⟩
    have b2' := b1.trans (b2.mono hs1)
    have hT2 := hT.below hT3 b2'
    have hs2 := b2'.size
    go_wp2_with (go_at_call 11; refine (k2 _ hT2 (by omega)).mono ?_)
    rintro e w3 ⟨rfl, b3⟩
    have b3' := b2'.trans (b3.mono hs2)
    have hT4 := hT.below hT3 b3'
    have hs3 := b3'.size
    go_wp2_with (go_at_call 11; refine (k3 _ hT4 (by rw [HS2.out]; omega)).mono ?_)
    rintro e w4 ⟨rfl, b4⟩
    have b4' := b3'.trans (b4.mono hs3)
    have hT5 := hT.below hT3 b4'
    have hs4 := b4'.size
    go_wp2_with (go_at_call 13; refine (k4 _ hT5 (by rw [HS3.out]; omega)).mono ?_)
    rintro e w5 ⟨rfl, b5⟩
    have b5' := b4'.trans (b5.mono hs4)
    have hT6 := hT.below hT3 b5'
    have hs5 := b5'.size
    go_wp2_with (go_at_call 13; refine (k6 _ hT6).mono ?_; rintro e w6 ⟨rfl, b6⟩)
    go_ret
    exact ⟨rfl, b5'.trans (b6.mono hs5)⟩
theorem pieces_walk (s t : ByteArray) (w : World) (hT : Tabs w) (hs : s.size ≤ maxLen) (ht : t.size ≤ maxLen) :
    Calls Tryd.prog 6 #[.string s, .string t] w fun e w' => e = .returned (.bool true) ∧ Below w.heap.size w w' := by
  obtain ⟨u, hu, hE⟩ := early_at s hs
  obtain ⟨v, hv, hF⟩ := early_at t ht
  cases hc : whole u.data.toList with
  | none => exact pieces_none s t u v w hT hu hv hE hF hc
  | some n =>
    cases hm : whole (u.data.toList.drop n ++ v.data.toList) with
    | none => exact pieces_bad s t u v w hT hu hv hE hF n hc hm
    | some m => exact pieces_ok s t u v w hT hu hv hE hF n m hc hm
end Go.Proofs.YtjhiebpehpaapaaDoor
