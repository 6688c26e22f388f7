/-
  The statement SignsNames, walked: for every string the call returns true, and nothing that was there has turned.
-/
import Derived.Test.YtjhiebpehpaapaaDoorWalkk
namespace Go.Proofs.YtjhiebpehpaapaaDoor
open Go.RowKit
set_option maxHeartbeats 2000000 in
set_option maxRecDepth 100000 in
theorem names_no (s u : ByteArray) (w : World) (hT : Tabs w) (_hu : u.size ≤ 300) (hE : ∀ w, Calls Tryd.prog 10 #[.string s] w fun e w' => e = .returned (.string u) ∧ w' = w)
    (hn : name u.data.toList = false) :
    Calls Tryd.prog 8 #[.string s] w fun e w' => e = .returned (.bool true) ∧ Below w.heap.size w w' := by
  have hT3 := hT.size
  have k1 := name_at u false hn
  by_cases h1 : u.size = 1
  · have h0 : 0 < u.size := by omega
    have hb : ((u[0]'h0).toNat : Int) < 97 ∨ (97 : Int) ≤ ((u[0]'h0).toNat : Int) ∧ (122 : Int) < ((u[0]'h0).toNat : Int) := by
      have e : u.data.toList = [u[0]'h0] := by
        have hd := drop_cons u 0 h0
        rw [List.drop_zero, getD_byte u 0 h0] at hd
        rw [hd]
        congr 1
        exact List.drop_eq_nil_of_le (by rw [← size_list]; omega)
      rw [e, name_one] at hn
      unfold isLet at hn
      simp at hn
      omega
    have e1 : ((u.size : Int) != 1) = false := by simp [h1]
    clear hn
    rcases hb with hb | ⟨hb, hb2⟩
    all_goals
      go_enter Tryd.func8, Tryd.ntmps8
      go_wp2_with (go_at_call 9; refine (lives_any _ hT).mono ?_)
      rintro e w1 ⟨rfl, b1⟩
      have hs1 := b1.size
      go_wp2_with (go_at_call 10; refine (hE _).mono ?_; rintro e w' ⟨rfl, rfl⟩)
      go_wp2_with (go_at_call 15; refine (k1 _).mono ?_)
      rintro e w2 ⟨rfl, b2⟩
      go_wp2
      go_ret
      exact ⟨rfl, b1.trans (b2.mono hs1)⟩
  · have e1 : ((u.size : Int) != 1) = true := by simp; omega
    clear hn
    go_enter Tryd.func8, Tryd.ntmps8
    go_wp2_with (go_at_call 9; refine (lives_any _ hT).mono ?_)
    rintro e w1 ⟨rfl, b1⟩
    have hs1 := b1.size
    go_wp2_with (go_at_call 10; refine (hE _).mono ?_; rintro e w' ⟨rfl, rfl⟩)
    go_wp2_with (go_at_call 15; refine (k1 _).mono ?_)
    rintro e w2 ⟨rfl, b2⟩
    go_wp2
    go_ret
    exact ⟨rfl, b1.trans (b2.mono hs1)⟩
set_option maxHeartbeats 4000000 in
set_option maxRecDepth 100000 in
theorem names_yes (s u : ByteArray) (w : World) (hT : Tabs w) (hu : u.size ≤ 300) (hE : ∀ w, Calls Tryd.prog 10 #[.string s] w fun e w' => e = .returned (.string u) ∧ w' = w)
    (hn : name u.data.toList = true) :
    Calls Tryd.prog 8 #[.string s] w fun e w' => e = .returned (.bool true) ∧ Below w.heap.size w w' := by
  have hT3 := hT.size
  have k1 := name_at u true hn
  have hsz : 1 ≤ u.size ∧ u.size ≤ 16 := by
    have := hn
    simp only [name, Bool.and_eq_true, decide_eq_true_eq, ← size_list] at this
    exact this.1
  obtain ⟨hz1, hz2⟩ := hsz
  obtain ⟨hr, he⟩ := name_right _ hn
  have k2 := escape_at u u 0 (by unfold escN; rw [if_pos hr, he])
  have HK : Hid (∀ k, 1 ≤ k → ∀ w, Calls Tryd.prog 15 #[.string (u.extract 0 k)] w fun e w' => e = .returned (.bool true) ∧ Below w.heap.size w w') := by
    intro k hk w
    exact name_at (u.extract 0 k) true (by rw [take_list]; exact name_take _ hn k hk) w
  have sn : ∀ b : UInt8, name (u ++ ⟨#[b]⟩).data.toList = (decide (u.size < 16) && (isLet b || isLat b)) := by
    intro b
    rw [app_list, size_list]
    exact name_snoc _ hn b
  have k3 := name_at (u ++ ⟨#[45]⟩) (decide (u.size < 16)) (by rw [sn, show (isLet 45 || isLat 45) = true by decide, Bool.and_true])
  have k4 := name_at (u ++ ⟨#[48]⟩) (decide (u.size < 16)) (by rw [sn, show (isLet 48 || isLat 48) = true by decide, Bool.and_true])
  have k5 := name_at (u ++ ⟨#[65]⟩) false (by rw [sn, show (isLet 65 || isLat 65) = false by decide, Bool.and_false])
  have k6 := name_at (⟨#[48]⟩ ++ u) false (by rw [app_list]; exact name_zero _)
  clear hn hr he sn
  go_enter Tryd.func8, Tryd.ntmps8
  go_wp2_with (go_at_call 9; refine (lives_any _ hT).mono ?_)
  rintro e w1 ⟨rfl, b1⟩
  have hs1 := b1.size
  go_wp2_with (go_at_call 10; refine (hE _).mono ?_; rintro e w' ⟨rfl, rfl⟩)
  go_wp2_with (go_at_call 15; refine (k1 _).mono ?_)
  rintro e w2 ⟨rfl, b2⟩
  have b2' := b1.trans (b2.mono hs1)
  have hs2 := b2'.size
  go_wp2
  go_loopw [3] (fun i wr => ∃ k : Nat, 1 ≤ k ∧ k ≤ u.size + 1 ∧ i = .int .i64 k ∧ Below w.heap.size w wr) (fun i _ => u.size + 1 - (intOf i).toNat)
  case atStart => exact ⟨1, by omega, by omega, rfl, b2'⟩
  case round =>
    obtain ⟨k, hk0, hk, rfl, hbw⟩ := hrel
    have hT5 := hT.below hT3 hbw
    have hsr := hbw.size
    by_cases hlt : k ≤ u.size
    · have kk := HK.out k hk0
      go_wp2_with (go_at_call 15; refine (kk _).mono ?_)
      rintro e w5 ⟨rfl, b5⟩
      have b5' := hbw.trans (b5.mono hsr)
      go_wp2
      go_roundw
      case rel => exact ⟨k + 1, by omega, by omega, by go_num, b5'⟩
      case measure => simp [intOf]; omega
    · clear HK
      go_wp2_with (go_at_call 17; refine (k2 _ hT5 (by omega)).mono ?_)
      rintro e w5 ⟨rfl, b5⟩
      have b5' := hbw.trans (b5.mono hsr)
      have hs5 := b5'.size
      go_wp2_with (go_at_call 15; refine (k3 _).mono ?_)
      rintro e w6 ⟨rfl, b6⟩
      have b6' := b5'.trans (b6.mono hs5)
      have hs6 := b6'.size
      go_wp2_with (go_at_call 15; refine (k4 _).mono ?_)
      rintro e w7 ⟨rfl, b7⟩
      have b7' := b6'.trans (b7.mono hs6)
      have hs7 := b7'.size
      go_wp2_with (go_at_call 15; refine (k5 _).mono ?_)
      rintro e w8 ⟨rfl, b8⟩
      have b8' := b7'.trans (b8.mono hs7)
      have hs8 := b8'.size
      go_wp2_with (go_at_call 15; refine (k6 _).mono ?_)
      rintro e w9 ⟨rfl, b9⟩
      have b9' := b8'.trans (b9.mono hs8)
      go_wp2
      go_ret
      exact ⟨rfl, b9'⟩
theorem names_walk (s : ByteArray) (w : World) (hT : Tabs w) (hs : s.size ≤ maxLen) :
    Calls Tryd.prog 8 #[.string s] w fun e w' => e = .returned (.bool true) ∧ Below w.heap.size w w' := by
  obtain ⟨u, hu, hE⟩ := early_at s hs
  cases hn : name u.data.toList with
  | false => exact names_no s u w hT hu hE hn
  | true => exact names_yes s u w hT hu hE hn
end Go.Proofs.YtjhiebpehpaapaaDoor
