/-
  The contracts of the reference's Sign, Right, Whole and Name over this program: for every string of at most 100000 bytes.
-/
import Derived.Test.YtdoekpodichhdaaDoorRefb
namespace Go.Proofs.YtdoekpodichhdaaDoor
open Go.RowKit
set_option maxHeartbeats 1000000 in
set_option maxRecDepth 100000 in
theorem refSign_any (s : ByteArray) (w : World) (h0 : 0 < s.size) (hs : s.size ≤ 100000) :
    Calls Tryd.prog 35 #[.string s] w fun e w' => e = .returned (.tuple #[.int .i64 ((sg s.data.toList).1 : Nat), .int .i64 (sg s.data.toList).2]) ∧ w' = w := by
  have hc : s.data.toList = (s[0]'h0) :: s.data.toList.drop 1 := by
    have := drop_cons s 0 h0
    rw [List.drop_zero, getD_byte s 0 h0] at this
    exact this
  by_cases c2 : 192 ≤ (s[0]'h0).toNat ∧ (s[0]'h0).toNat < 224
  · have e := ref_sg2 (s[0]'h0) (s.data.toList.drop 1) c2.1 c2.2
    rw [← hc] at e
    rw [e]
    exact refSign_2 s w h0 hs (by omega) (by omega)
  by_cases c3 : 224 ≤ (s[0]'h0).toNat ∧ (s[0]'h0).toNat < 240
  · have e := ref_sg3 (s[0]'h0) (s.data.toList.drop 1) c3.1 c3.2
    rw [← hc] at e
    rw [e]
    exact refSign_3 s w h0 hs (by omega) (by omega)
  by_cases c4 : 240 ≤ (s[0]'h0).toNat ∧ (s[0]'h0).toNat < 248
  · have e := ref_sg4 (s[0]'h0) (s.data.toList.drop 1) c4.1 c4.2
    rw [← hc] at e
    rw [e]
    exact refSign_4 s w h0 hs (by omega) (by omega)
  have hb := (s[0]'h0).toNat_lt
  have he := not_empty s h0
  by_cases c1 : (s[0]'h0).toNat < 128
  · have e := sg_lo (s[0]'h0) (s.data.toList.drop 1) c1
    rw [← hc] at e
    have HE : Hid _ := e
    have c1' : ((s[0]'h0).toNat : Int) < 128 := by omega
    clear e hc c2 c3 c4 c1 hb
    go_enter Tryd.func35, Tryd.ntmps35
    go_wp2
    go_ret2
    exact ⟨ret_ref (a := ((s[0]'h0).toNat, 1)) HE.out.symm, rfl⟩
  · have e := sg_isBad (s[0]'h0) (s.data.toList.drop 1) (by omega) (by omega)
    rw [← hc] at e
    have HE : Hid _ := e
    have c1' : (128 : Int) ≤ ((s[0]'h0).toNat : Int) := by omega
    have c5 : ((s[0]'h0).toNat : Int) < 192 ∨ (248 : Int) ≤ ((s[0]'h0).toNat : Int) := by omega
    have hb' : ((s[0]'h0).toNat : Int) < 256 := by omega
    clear e hc c2 c3 c4 c1 hb
    rcases c5 with c5 | c5
    all_goals
      go_enter Tryd.func35, Tryd.ntmps35
      go_wp2
      go_ret2
      exact ⟨ret_ref (a := (0, 0)) HE.out.symm, rfl⟩
theorem refSign_at (s : ByteArray) (pos : Nat) (hp : pos < s.size) (hs : s.size ≤ 100000) (v : Nat) (n : Int) (h : sg (s.data.toList.drop pos) = (v, n)) (w : World) :
    Calls Tryd.prog 35 #[.string (s.extract pos s.size)] w fun e w' => e = .returned (.tuple #[.int .i64 (v : Nat), .int .i64 n]) ∧ w' = w := by
  have hsz : (s.extract pos s.size).size = s.size - pos := by simp [ByteArray.size_extract]
  have k := refSign_any (s.extract pos s.size) w (by omega) (by omega)
  rw [extract_list, h] at k
  exact k
theorem refMay_at (v : Nat) (b : Bool) (h : may v = b) (w : World) : Calls Tryd.prog 36 #[.int .i64 (v : Nat)] w fun e w' => e = .returned (.bool b) ∧ w' = w := by
  have k := refMay_any v w
  rw [h] at k
  exact k
set_option maxHeartbeats 2000000 in
set_option maxRecDepth 100000 in
theorem refRight_any (s : ByteArray) (w : World) (hs : s.size ≤ 100000) :
    Calls Tryd.prog 23 #[.string s] w fun e w' => e = .returned (.int .i64 (rightN s.data.toList)) ∧ w' = w := by
  go_enter Tryd.func23, Tryd.ntmps23
  go_wp2
  go_loop [0] (fun p => ∃ u : ByteArray, u.size ≤ s.size ∧ p = .string u ∧ right s.data.toList = right u.data.toList) (fun p => match p with | .string u => u.size | _ => 0)
  case atStart => exact ⟨s, Nat.le_refl _, rfl, rfl⟩
  case round =>
    obtain ⟨u, hu, rfl, hacc⟩ := hrel
    have HA : Hid _ := hacc
    clear hacc
    by_cases hp : 0 < u.size
    · have hul : u.data.toList ≠ [] := by
        intro e
        have := congrArg List.length e
        rw [← size_list, List.length_nil] at this
        omega
      obtain ⟨v, n, hvn⟩ : ∃ v n, sg u.data.toList = (v, n) := ⟨_, _, rfl⟩
      have k1 : ∀ w, Calls Tryd.prog 35 #[.string u] w fun e w' => e = .returned (.tuple #[.int .i64 (v : Nat), .int .i64 n]) ∧ w' = w := by
        intro w
        have k := refSign_any u w hp (by omega)
        rw [hvn] at k
        exact k
      rcases whole_cases u.data.toList with ⟨c1, _, c3⟩ | ⟨c1, c3⟩ | ⟨c1, c2, c3⟩ | ⟨m, c1, c2, c3, c4, c5⟩
      · have hn : n ≤ 0 := by rw [hvn] at c1; simp at c1; omega
        have HF : Hid (rightN s.data.toList = 2) := by
          show _ = _
          have : ¬ right u.data.toList = true := by
            rw [right_iff, c3, ← size_list]
            simp
            omega
          unfold rightN
          rw [HA.out, if_neg this]
        clear c1 c3 hvn hul
        go_wp2_with (go_at_call 35; refine (k1 _).mono ?_; rintro e w' ⟨rfl, rfl⟩)
        go_ret
        exact ⟨ret_int HF.out.symm, rfl⟩
      · have hn : n ≤ 0 := by rw [hvn] at c1; simp at c1; omega
        have HF : Hid (rightN s.data.toList = 2) := by
          show _ = _
          have : ¬ right u.data.toList = true := by rw [right_iff, c3]; simp
          unfold rightN
          rw [HA.out, if_neg this]
        clear c1 c3 hvn hul
        go_wp2_with (go_at_call 35; refine (k1 _).mono ?_; rintro e w' ⟨rfl, rfl⟩)
        go_ret
        exact ⟨ret_int HF.out.symm, rfl⟩
      · have hn : 1 ≤ n := by rw [hvn] at c1; exact c1
        have k2 := refMay_at v false (by rw [hvn] at c2; exact c2)
        have HF : Hid (rightN s.data.toList = 2) := by
          show _ = _
          have : ¬ right u.data.toList = true := by rw [right_iff, c3]; simp
          unfold rightN
          rw [HA.out, if_neg this]
        clear c1 c2 c3 hvn hul
        go_wp2_with (first | (go_at_call 35; refine (k1 _).mono ?_; rintro e w' ⟨rfl, rfl⟩) | (go_at_call 36; refine (k2 _).mono ?_; rintro e w' ⟨rfl, rfl⟩))
        go_ret
        exact ⟨ret_int HF.out.symm, rfl⟩
      · have hn : n = (m : Int) := by rw [hvn] at c3; exact c3
        subst hn
        have k2 := refMay_at v true (by rw [hvn] at c4; exact c4)
        have hm2 : m ≤ u.size := by rw [← size_list] at c2; exact c2
        have HF : Hid (right u.data.toList = right (u.extract m u.size).data.toList) := by
          show _ = _
          rw [extract_list]
          unfold right
          rw [c5, List.length_drop, ← size_list]
          cases whole (u.data.toList.drop m) with
          | none => rfl
          | some x =>
            rw [Bool.eq_iff_iff]
            simp
            omega
        have hsz2 : (u.extract m u.size).size = u.size - m := by simp [ByteArray.size_extract]
        have HS : Hid _ := hsz2
        clear c2 c3 c4 c5 hvn hul hsz2
        go_wp2_with (first | (go_at_call 35; refine (k1 _).mono ?_; rintro e w' ⟨rfl, rfl⟩) | (go_at_call 36; refine (k2 _).mono ?_; rintro e w' ⟨rfl, rfl⟩))
        go_round
        case rel => exact ⟨u.extract m u.size, by rw [HS.out]; omega, rfl, by rw [HA.out, HF.out]⟩
        case measure =>
          have := HS.out
          simp only
          omega
    · have HF : Hid (rightN s.data.toList = 0) := by
        show _ = _
        have e : u.data.toList = [] := List.length_eq_zero_iff.1 (by rw [← size_list]; omega)
        unfold rightN
        rw [HA.out, e]
        rfl
      go_wp2
      go_ret
      exact ⟨ret_int HF.out.symm, rfl⟩
end Go.Proofs.YtdoekpodichhdaaDoor
