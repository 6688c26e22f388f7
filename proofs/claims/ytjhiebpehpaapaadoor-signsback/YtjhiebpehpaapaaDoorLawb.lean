/-
  The statement SignsBack, walked: for every string the call returns true, and nothing that was there has turned.
-/
import Derived.Test.YtjhiebpehpaapaaDoorWalkk
namespace Go.Proofs.YtjhiebpehpaapaaDoor
open Go.RowKit
set_option maxHeartbeats 2000000 in
set_option maxRecDepth 100000 in
theorem back_walk (s : ByteArray) (w : World) (hT : Tabs w) (hs : s.size ≤ maxLen) :
    Calls Tryd.prog 5 #[.string s] w fun e w' => e = .returned (.bool true) ∧ Below w.heap.size w w' := by
  obtain ⟨u, hu, hE⟩ := early_at s hs
  have hT3 := hT.size
  clear hs
  cases hr : right u.data.toList with
  | false =>
    have k1 := escape_at u ⟨#[]⟩ 2 (by simp [escN, hr])
    clear hr
    go_enter Tryd.func5, Tryd.ntmps5
    go_wp2_with (go_at_call 9; refine (lives_any _ hT).mono ?_)
    rintro e w1 ⟨rfl, b1⟩
    have hT1 := hT.below hT3 b1
    have hs1 := b1.size
    go_wp2_with (go_at_call 10; refine (hE _).mono ?_; rintro e w' ⟨rfl, rfl⟩)
    go_wp2_with (go_at_call 17; refine (k1 _ hT1 (by omega)).mono ?_)
    rintro e w2 ⟨rfl, b2⟩
    go_wp2
    go_ret
    exact ⟨rfl, b1.trans (b2.mono hs1)⟩
  | true =>
    obtain ⟨a, ha⟩ : ∃ a : ByteArray, a = ⟨(esc u.data.toList).toArray⟩ := ⟨_, rfl⟩
    have hal : a.data.toList = esc u.data.toList := by rw [ha]
    have hle := esc_length u.data.toList
    rw [← hal, ← size_list, ← size_list] at hle
    obtain ⟨hle1, hle2⟩ := hle
    have k1 := escape_at u a 0 (by simp [escN, hr, ha])
    have hra := right_esc u.data.toList hr
    have k2 := unescape_at a u 0 (by
      unfold unescN
      rw [hal, hra, unesc_esc]
      rfl)
    have k3 := right_at a 0 (by unfold rightN; rw [hal, hra]; rfl)
    have hmem : ∀ (k : Nat) (h : k < a.size), (((a[k]'h).toNat : Int) == 60) = false ∧ (((a[k]'h).toNat : Int) == 62) = false ∧ (((a[k]'h).toNat : Int) == 34) = false ∧ (((a[k]'h).toNat : Int) == 39) = false := by
      intro k h
      have hm : (a[k]'h) ∈ esc u.data.toList := by
        rw [← hal, ← getD_byte a k h]
        have h' : k < a.data.toList.length := by rw [← size_list]; exact h
        rw [List.getD_eq_getElem?_getD, List.getElem?_eq_getElem h', Option.getD_some]
        exact List.getElem_mem h'
      have q := esc_mem _ _ hm
      simp only [ne_eq, ← UInt8.toNat_inj] at q
      have n60 : (60 : UInt8).toNat = 60 := rfl
      have n62 : (62 : UInt8).toNat = 62 := rfl
      have n34 : (34 : UInt8).toNat = 34 := rfl
      have n39 : (39 : UInt8).toNat = 39 := rfl
      rw [n60, n62, n34, n39] at q
      simp only [beq_eq_false_iff_ne, ne_eq]
      omega
    have HM : Hid _ := hmem
    clear hr ha hal hra hmem
    go_enter Tryd.func5, Tryd.ntmps5
    go_wp2_with (go_at_call 9; refine (lives_any _ hT).mono ?_)
    rintro e w1 ⟨rfl, b1⟩
    have hT1 := hT.below hT3 b1
    have hs1 := b1.size
    go_wp2_with (go_at_call 10; refine (hE _).mono ?_; rintro e w' ⟨rfl, rfl⟩)
    go_wp2_with (go_at_call 17; refine (k1 _ hT1 (by omega)).mono ?_)
    rintro e w2 ⟨rfl, b2⟩
    have b2' := b1.trans (b2.mono hs1)
    have hT2 := hT.below hT3 b2'
    have hs2 := b2'.size
    go_wp2_with (go_at_call 19; refine (k2 _ hT2 (by omega)).mono ?_)
    rintro e w3 ⟨rfl, b3⟩
    have b3' := b2'.trans (b3.mono hs2)
    have hT4 := hT.below hT3 b3'
    have hs3 := b3'.size
    clear k1 k2 hE
    go_wp2
    go_loop [7] (fun i => ∃ k : Nat, k ≤ a.size ∧ i = .int .i64 k) (fun i => a.size - (intOf i).toNat)
    case atStart => exact ⟨0, Nat.zero_le _, rfl⟩
    case round =>
      obtain ⟨k, hk, rfl⟩ := hrel
      by_cases hlt : k < a.size
      · obtain ⟨m1, m2, m3, m4⟩ := HM.out k hlt
        go_wp2
        go_round
        case rel => exact ⟨k + 1, by omega, by go_num⟩
        case measure => simp [intOf]; omega
      · go_wp2_with (go_at_call 13; refine (k3 _ hT4 (by omega)).mono ?_; rintro e w4 ⟨rfl, b4⟩)
        go_ret
        exact ⟨rfl, b3'.trans (b4.mono hs3)⟩
end Go.Proofs.YtjhiebpehpaapaaDoor
