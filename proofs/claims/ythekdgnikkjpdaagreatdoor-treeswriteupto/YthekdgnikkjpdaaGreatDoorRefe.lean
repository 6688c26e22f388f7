/-
  The contracts of the reference's Sign, Right, Whole and Name over this program: for every string of at most 100000 bytes.
-/
import Derived.Test.YthekdgnikkjpdaaGreatDoorRefb
namespace Go.Proofs.YthekdgnikkjpdaaGreatDoor
open Go.RowKit
set_option maxHeartbeats 1000000 in
set_option maxRecDepth 100000 in
theorem refSign_any (s : ByteArray) (w : World) (h0 : 0 < s.size) (hs : s.size ≤ 2000000) :
    Calls Tryz.prog 47 #[.string s] w fun e w' => e = .returned (.tuple #[.int .i64 ((sg s.data.toList).1 : Nat), .int .i64 (sg s.data.toList).2]) ∧ w' = w := by
  have hc : s.data.toList = (s[0]'h0) :: s.data.toList.drop 1 := by
    have := drop_cons s 0 h0
    rw [List.drop_zero, getD_byte s 0 h0] at this
    exact this
  by_cases c2 : 192 ≤ (s[0]'h0).toNat ∧ (s[0]'h0).toNat < 224
  · have e := ref_sg2 (s[0]'h0) (s.data.toList.drop 1) c2.1 c2.2
    rw [← hc] at e
    rw [e]
    exact refSign_2 s w h0 hs (by omega) (by omega)
  by_cases c3 : 224 ≤ (s[0]'h0).toNat ∧ (s[0]'h0).toNat < 240
  · have e := ref_sg3 (s[0]'h0) (s.data.toList.drop 1) c3.1 c3.2
    rw [← hc] at e
    rw [e]
    exact refSign_3 s w h0 hs (by omega) (by omega)
  by_cases c4 : 240 ≤ (s[0]'h0).toNat ∧ (s[0]'h0).toNat < 248
  · have e := ref_sg4 (s[0]'h0) (s.data.toList.drop 1) c4.1 c4.2
    rw [← hc] at e
    rw [e]
    exact refSign_4 s w h0 hs (by omega) (by omega)
  have hb := (s[0]'h0).toNat_lt
  have he := not_empty s h0
  by_cases c1 : (s[0]'h0).toNat < 128
  · have e := sg_lo (s[0]'h0) (s.data.toList.drop 1) c1
    rw [← hc] at e
    have HE : Hid _ := e
    have c1' : ((s[0]'h0).toNat : Int) < 128 := by omega
    clear e hc c2 c3 c4 c1 hb
    go_enter Tryz.func47, Tryz.ntmps47
    go_wp2
    go_ret2
    exact ⟨ret_ref (a := ((s[0]'h0).toNat, 1)) HE.out.symm, rfl⟩
  · have e := sg_isBad (s[0]'h0) (s.data.toList.drop 1) (by omega) (by omega)
    rw [← hc] at e
    have HE : Hid _ := e
    have c1' : (128 : Int) ≤ ((s[0]'h0).toNat : Int) := by omega
    have c5 : ((s[0]'h0).toNat : Int) < 192 ∨ (248 : Int) ≤ ((s[0]'h0).toNat : Int) := by omega
    have hb' : ((s[0]'h0).toNat : Int) < 256 := by omega
    clear e hc c2 c3 c4 c1 hb
    rcases c5 with c5 | c5
    all_goals
      go_enter Tryz.func47, Tryz.ntmps47
      go_wp2
      go_ret2
      exact ⟨ret_ref (a := (0, 0)) HE.out.symm, rfl⟩
theorem refSign_at (s : ByteArray) (pos : Nat) (hp : pos < s.size) (hs : s.size ≤ 2000000) (v : Nat) (n : Int) (h : sg (s.data.toList.drop pos) = (v, n)) (w : World) :
    Calls Tryz.prog 47 #[.string (s.extract pos s.size)] w fun e w' => e = .returned (.tuple #[.int .i64 (v : Nat), .int .i64 n]) ∧ w' = w := by
  have hsz : (s.extract pos s.size).size = s.size - pos := by simp [ByteArray.size_extract]
  have k := refSign_any (s.extract pos s.size) w (by omega) (by omega)
  rw [extract_list, h] at k
  exact k
theorem refMay_at (v : Nat) (b : Bool) (h : may v = b) (w : World) : Calls Tryz.prog 48 #[.int .i64 (v : Nat)] w fun e w' => e = .returned (.bool b) ∧ w' = w := by
  have k := refMay_any v w
  rw [h] at k
  exact k
set_option maxHeartbeats 2000000 in
set_option maxRecDepth 100000 in
theorem refRight_any (s : ByteArray) (w : World) (hs : s.size ≤ 2000000) :
    Calls Tryz.prog 35 #[.string s] w fun e w' => e = .returned (.int .i64 (rightN s.data.toList)) ∧ w' = w := by
  go_enter Tryz.func35, Tryz.ntmps35
  go_wp2
  go_loop [0] (fun p => ∃ u : ByteArray, u.size ≤ s.size ∧ p = .string u ∧ right s.data.toList = right u.data.toList) (fun p => match p with | .string u => u.size | _ => 0)
  case atStart => exact ⟨s, Nat.le_refl _, rfl, rfl⟩
  case round =>
    obtain ⟨u, hu, rfl, hacc⟩ := hrel
    have HA : Hid _ := hacc
    clear hacc
    by_cases hp : 0 < u.size
    · have hul : u.data.toList ≠ [] := by
        intro e
        have := congrArg List.length e
        rw [← size_list, List.length_nil] at this
        omega
      obtain ⟨v, n, hvn⟩ : ∃ v n, sg u.data.toList = (v, n) := ⟨_, _, rfl⟩
      have k1 : ∀ w, Calls Tryz.prog 47 #[.string u] w fun e w' => e = .returned (.tuple #[.int .i64 (v : Nat), .int .i64 n]) ∧ w' = w := by
        intro w
        have k := refSign_any u w hp (by omega)
        rw [hvn] at k
        exact k
      rcases whole_cases u.data.toList with ⟨c1, _, c3⟩ | ⟨c1, c3⟩ | ⟨c1, c2, c3⟩ | ⟨m, c1, c2, c3, c4, c5⟩
      · have hn : n ≤ 0 := by rw [hvn] at c1; simp at c1; omega
        have HF : Hid (rightN s.data.toList = 2) := by
          show _ = _
          have : ¬ right u.data.toList = true := by
            rw [right_iff, c3, ← size_list]
            simp
            omega
          unfold rightN
          rw [HA.out, if_neg this]
        clear c1 c3 hvn hul
        go_wp2_with (go_at_call 47; refine (k1 _).mono ?_; rintro e w' ⟨rfl, rfl⟩)
        go_ret
        exact ⟨ret_int HF.out.symm, rfl⟩
      · have hn : n ≤ 0 := by rw [hvn] at c1; simp at c1; omega
        have HF : Hid (rightN s.data.toList = 2) := by
          show _ = _
          have : ¬ right u.data.toList = true := by rw [right_iff, c3]; simp
          unfold rightN
          rw [HA.out, if_neg this]
        clear c1 c3 hvn hul
        go_wp2_with (go_at_call 47; refine (k1 _).mono ?_; rintro e w' ⟨rfl, rfl⟩)
        go_ret
        exact ⟨ret_int HF.out.symm, rfl⟩
      · have hn : 1 ≤ n := by rw [hvn] at c1; exact c1
        have k2 := refMay_at v false (by rw [hvn] at c2; exact c2)
        have HF : Hid (rightN s.data.toList = 2) := by
          show _ = _
          have : ¬ right u.data.toList = true := by rw [right_iff, c3]; simp
          unfold rightN
          rw [HA.out, if_neg this]
        clear c1 c2 c3 hvn hul
        go_wp2_with (first | (go_at_call 47; refine (k1 _).mono ?_; rintro e w' ⟨rfl, rfl⟩) | (go_at_call 48; refine (k2 _).mono ?_; rintro e w' ⟨rfl, rfl⟩))
        go_ret
        exact ⟨ret_int HF.out.symm, rfl⟩
      · have hn : n = (m : Int) := by rw [hvn] at c3; exact c3
        subst hn
        have k2 := refMay_at v true (by rw [hvn] at c4; exact c4)
        have hm2 : m ≤ u.size := by rw [← size_list] at c2; exact c2
        have HF : Hid (right u.data.toList = right (u.extract m u.size).data.toList) := by
          show _ = _
          rw [extract_list]
          unfold right
          rw [c5, List.length_drop, ← size_list]
          cases whole (u.data.toList.drop m) with
          | none => rfl
          | some x =>
            rw [Bool.eq_iff_iff]
            simp
            omega
        have hsz2 : (u.extract m u.size).size = u.size - m := by simp [ByteArray.size_extract]
        have HS : Hid _ := hsz2
        clear c2 c3 c4 c5 hvn hul hsz2
        go_wp2_with (first | (go_at_call 47; refine (k1 _).mono ?_; rintro e w' ⟨rfl, rfl⟩) | (go_at_call 48; refine (k2 _).mono ?_; rintro e w' ⟨rfl, rfl⟩))
        go_round
        case rel => exact ⟨u.extract m u.size, by rw [HS.out]; omega, rfl, by rw [HA.out, HF.out]⟩
        case measure =>
          have := HS.out
          simp only
          omega
    · have HF : Hid (rightN s.data.toList = 0) := by
        show _ = _
        have e : u.data.toList = [] := List.length_eq_zero_iff.1 (by rw [← size_list]; omega)
        unfold rightN
        rw [HA.out, e]
        rfl
      go_wp2
      go_ret
      exact ⟨ret_int HF.out.symm, rfl⟩
end Go.Proofs.YthekdgnikkjpdaaGreatDoor

/-
  The contract of the reference's Name over this program: for every string of at most 100000 bytes.
-/
namespace Go.Proofs.YthekdgnikkjpdaaGreatDoor
open Go.RowKit
theorem isLet_iff (a : UInt8) : isLet a = true ↔ 97 ≤ a.toNat ∧ a.toNat ≤ 122 := by unfold isLet; exact decide_eq_true_iff
theorem isLat_iff (a : UInt8) : isLat a = true ↔ (48 ≤ a.toNat ∧ a.toNat ≤ 57) ∨ a.toNat = 45 ∨ a.toNat = 58 := by
  rw [← latZ_lat]
  unfold latZ
  simp
  omega
theorem isLet_no (a : UInt8) (h : a.toNat < 97 ∨ 122 < a.toNat) : isLet a = false := by
  cases e : isLet a with
  | false => rfl
  | true => rw [isLet_iff] at e; omega
theorem isLat_no (a : UInt8) (h : ¬ ((48 ≤ a.toNat ∧ a.toNat ≤ 57) ∨ a.toNat = 45 ∨ a.toNat = 58)) : isLat a = false := by
  cases e : isLat a with
  | false => rfl
  | true => exact absurd ((isLat_iff a).1 e) h
set_option maxHeartbeats 2000000 in
set_option maxRecDepth 100000 in
theorem refName_any (s : ByteArray) (w : World) (hs : s.size ≤ 2000000) :
    Calls Tryz.prog 40 #[.string s] w fun e w' => e = .returned (.bool (name s.data.toList)) ∧ w' = w := by
  go_enter Tryz.func40, Tryz.ntmps40
  go_wp2
  go_loop [3] (fun p => ∃ k : Nat, k ≤ s.size ∧ p = .int .i64 k ∧ nameAll true s.data.toList = nameAll (decide (k = 0)) (s.data.toList.drop k)) (fun p => s.size - (intOf p).toNat)
  case atStart => exact ⟨0, Nat.zero_le _, rfl, by simp⟩
  case round =>
    obtain ⟨k, hk, rfl, hacc⟩ := hrel
    by_cases hlt : k < s.size
    · have hdr := drop_cons s k hlt
      rw [getD_byte s k hlt] at hdr
      rw [hdr, nameAll] at hacc
      have hb256 : ((s[k]'hlt).toNat : Int) < 256 := by have := (s[k]'hlt).toNat_lt; omega
      have HA : Hid _ := hacc
      clear hacc hdr
      by_cases hL : (97 : Int) ≤ ((s[k]'hlt).toNat : Int)
      · by_cases hL2 : ((s[k]'hlt).toNat : Int) ≤ 122
        · have HL : Hid (isLet (s[k]'hlt) = true) := (isLet_iff _).2 ⟨by omega, by omega⟩
          go_wp2
          go_round
          case rel =>
            refine ⟨k + 1, by omega, by go_num, ?_⟩
            rw [HA.out, HL.out]
            simp
          case measure => simp [intOf]; omega
        · have HL : Hid (isLet (s[k]'hlt) = false) := isLet_no _ (by omega)
          have HT : Hid (isLat (s[k]'hlt) = false) := isLat_no _ (by omega)
          have HF : Hid (name s.data.toList = false) := by
            show _ = _
            unfold name
            rw [HA.out, HL.out, HT.out]
            simp
          have m45 : (((s[k]'hlt).toNat : Int) != 45) = true := by simp; omega
          have m58 : (((s[k]'hlt).toNat : Int) != 58) = true := by simp; omega
          have hL3 : decide (((s[k]'hlt).toNat : Int) ≤ 122) = false := decide_eq_false hL2
          have hL4 : decide (((s[k]'hlt).toNat : Int) ≤ 57) = false := decide_eq_false (by omega)
          clear hL2
          by_cases h0 : k = 0
          · subst h0
            go_wp2
            go_ret
            exact ⟨ret_bool HF.out.symm, rfl⟩
          · have e0 : ((k : Int) == 0) = false := by simp; omega
            go_wp2
            go_ret
            exact ⟨ret_bool HF.out.symm, rfl⟩
      · have HL : Hid (isLet (s[k]'hlt) = false) := isLet_no _ (by omega)
        by_cases h0 : k = 0
        · have HF : Hid (name s.data.toList = false) := by
            show _ = _
            unfold name
            rw [HA.out, HL.out]
            simp [h0]
          subst h0
          go_wp2
          go_ret
          exact ⟨ret_bool HF.out.symm, rfl⟩
        have e0 : ((k : Int) == 0) = false := by simp; omega
        by_cases h48 : (48 : Int) ≤ ((s[k]'hlt).toNat : Int)
        · by_cases h57 : ((s[k]'hlt).toNat : Int) ≤ 57
          · have HT : Hid (isLat (s[k]'hlt) = true) := (isLat_iff _).2 (by omega)
            go_wp2
            go_round
            case rel =>
              refine ⟨k + 1, by omega, by go_num, ?_⟩
              rw [HA.out, HL.out, HT.out]
              simp [h0]
            case measure => simp [intOf]; omega
          · have m45 : (((s[k]'hlt).toNat : Int) != 45) = true := by simp; omega
            by_cases h58 : (s[k]'hlt).toNat = 58
            · have HT : Hid (isLat (s[k]'hlt) = true) := (isLat_iff _).2 (by omega)
              have m58 : (((s[k]'hlt).toNat : Int) != 58) = false := by simp; omega
              clear h58
              go_wp2
              go_round
              case rel =>
                refine ⟨k + 1, by omega, by go_num, ?_⟩
                rw [HA.out, HL.out, HT.out]
                simp [h0]
              case measure => simp [intOf]; omega
            · have HT : Hid (isLat (s[k]'hlt) = false) := isLat_no _ (by omega)
              have m58 : (((s[k]'hlt).toNat : Int) != 58) = true := by simp; omega
              clear h58
              have HF : Hid (name s.data.toList = false) := by
                show _ = _
                unfold name
                rw [HA.out, HL.out, HT.out]
                simp
              go_wp2
              go_ret
              exact ⟨ret_bool HF.out.symm, rfl⟩
        · have m58 : (((s[k]'hlt).toNat : Int) != 58) = true := by simp; omega
          by_cases h45 : (s[k]'hlt).toNat = 45
          · have HT : Hid (isLat (s[k]'hlt) = true) := (isLat_iff _).2 (by omega)
            have m45 : (((s[k]'hlt).toNat : Int) != 45) = false := by simp; omega
            clear h45
            go_wp2
            go_round
            case rel =>
              refine ⟨k + 1, by omega, by go_num, ?_⟩
              rw [HA.out, HL.out, HT.out]
              simp [h0]
            case measure => simp [intOf]; omega
          · have HT : Hid (isLat (s[k]'hlt) = false) := isLat_no _ (by omega)
            have m45 : (((s[k]'hlt).toNat : Int) != 45) = true := by simp; omega
            clear h45
            have HF : Hid (name s.data.toList = false) := by
              show _ = _
              unfold name
              rw [HA.out, HL.out, HT.out]
              simp
            go_wp2
            go_ret
            exact ⟨ret_bool HF.out.symm, rfl⟩
    · have HF : Hid (nameAll true s.data.toList = true) := by
        show _ = _
        have e2 : s.data.toList.drop k = [] := List.drop_eq_nil_of_le (by rw [← size_list]; omega)
        rw [hacc, e2]
        rfl
      clear hacc
      by_cases h1 : 1 ≤ s.size
      · by_cases h2 : s.size ≤ 16
        · have e : name s.data.toList = true := by
            unfold name
            rw [HF.out, ← size_list]
            simp
            omega
          have HE : Hid _ := e
          clear e HF
          go_wp2
          go_ret
          exact ⟨ret_bool (by rw [HE.out]; simp; omega), rfl⟩
        · have e : name s.data.toList = false := by
            unfold name
            rw [HF.out, ← size_list]
            simp
            omega
          have HE : Hid _ := e
          clear e HF
          go_wp2
          go_ret
          exact ⟨ret_bool (by rw [HE.out]; simp; omega), rfl⟩
      · have e : name s.data.toList = false := by
          unfold name
          rw [HF.out, ← size_list]
          simp
          omega
        have HE : Hid _ := e
        clear e HF
        go_wp2
        go_ret
        exact ⟨ret_bool HE.out.symm, rfl⟩
end Go.Proofs.YthekdgnikkjpdaaGreatDoor

/-
  The contract of the reference's pairs over this program, and of its Escape.
-/
namespace Go.Proofs.YthekdgnikkjpdaaGreatDoor
open Go.RowKit
def refPairs : Array Value := #[.string ⟨#[38]⟩, .string ⟨#[38, 97, 109, 112, 59]⟩, .string ⟨#[60]⟩, .string ⟨#[38, 108, 116, 59]⟩, .string ⟨#[62]⟩, .string ⟨#[38, 103, 116, 59]⟩, .string ⟨#[34]⟩, .string ⟨#[38, 113, 117, 111, 116, 59]⟩, .string ⟨#[39]⟩, .string ⟨#[38, 97, 112, 111, 115, 59]⟩]
set_option maxHeartbeats 1000000 in
set_option maxRecDepth 100000 in
theorem pairs_any (w : World) : Calls Tryz.prog 36 #[] w fun e w' => e = .returned (.agg refPairs) ∧ Below w.heap.size w w' := by
  go_enter Tryz.func36, Tryz.ntmps36
  go_wp2
  refine bodyPost_ret (v := .agg refPairs) (by simp [results, Tryz.results36, go_sem, refPairs]) rfl ⟨rfl, ?_⟩
  exact (Below.refl _ _).alloc (Nat.le_refl _) _
theorem refRight_at (s : ByteArray) (c : Int) (hc : rightN s.data.toList = c) (hs : s.size ≤ 2000000) (w : World) :
    Calls Tryz.prog 35 #[.string s] w fun e w' => e = .returned (.int .i64 c) ∧ w' = w := by
  have h := refRight_any s w hs
  rw [hc] at h
  exact h
def tK (a : UInt8) (k : Nat) : List UInt8 :=
  if 1 ≤ k ∧ a = 38 then [38, 97, 109, 112, 59] else if 2 ≤ k ∧ a = 60 then [38, 108, 116, 59] else if 3 ≤ k ∧ a = 62 then [38, 103, 116, 59]
  else if 4 ≤ k ∧ a = 34 then [38, 113, 117, 111, 116, 59] else if 5 ≤ k ∧ a = 39 then [38, 97, 112, 111, 115, 59] else [a]
theorem tK_0 (a : UInt8) : tK a 0 = [a] := by simp [tK]
theorem tK_5 (a : UInt8) : tK a 5 = esc1 a := by simp [tK, esc1]
theorem one_list (s : ByteArray) (k : Nat) (hk : k < s.size) : (s.extract k (k + 1)).data.toList = [s[k]'hk] := by
  rw [Lib.extract_data, drop_cons s k hk, getD_byte s k hk]
  simp
theorem one_eq (s : ByteArray) (k : Nat) (hk : k < s.size) (c : UInt8) : ((s.extract k (k + 1)).toList == [c]) = decide ((s[k]'hk) = c) := by
  rw [Lib.toList_data, one_list s k hk, Bool.eq_iff_iff]
  simp
theorem take_esc (s : ByteArray) (k : Nat) (hk : k < s.size) : esc (s.data.toList.take (k + 1)) = esc (s.data.toList.take k) ++ esc1 (s[k]'hk) := by
  have h : k < s.data.toList.length := by rw [← size_list]; exact hk
  rw [List.take_succ_eq_append_getElem h, esc_app]
  simp [esc]
  rfl
theorem array_of {a : ByteArray} {l : List UInt8} (h : a.data.toList = l) : a = ⟨l.toArray⟩ := by rw [← h]
theorem tK_hit0 : tK 38 1 = [38, 97, 109, 112, 59] := by decide
theorem tK_miss0 (a : UInt8) (h : a ≠ 38) : tK a 1 = tK a 0 := by simp [tK, h]
theorem tK_hit1 : tK 60 2 = [38, 108, 116, 59] := by decide
theorem tK_miss1 (a : UInt8) (h : a ≠ 60) : tK a 2 = tK a 1 := by simp [tK, h]
theorem tK_hit2 : tK 62 3 = [38, 103, 116, 59] := by decide
theorem tK_miss2 (a : UInt8) (h : a ≠ 62) : tK a 3 = tK a 2 := by simp [tK, h]
theorem tK_hit3 : tK 34 4 = [38, 113, 117, 111, 116, 59] := by decide
theorem tK_miss3 (a : UInt8) (h : a ≠ 34) : tK a 4 = tK a 3 := by simp [tK, h]
theorem tK_hit4 : tK 39 5 = [38, 97, 112, 111, 115, 59] := by decide
theorem tK_miss4 (a : UInt8) (h : a ≠ 39) : tK a 5 = tK a 4 := by simp [tK, h]
set_option maxHeartbeats 1000000 in
theorem refEscape_no (s : ByteArray) (w : World) (hs : s.size ≤ 2000000) (hr : right s.data.toList = false) :
    Calls Tryz.prog 19 #[.string s] w fun e w' => e = .returned (.tuple #[.string ⟨#[]⟩, .int .i64 2]) ∧ Below w.heap.size w w' := by
  have h := refRight_at s 2 (by simp [rightN, hr]) hs
  clear hr
  go_enter Tryz.func19, Tryz.ntmps19
  go_wp2_with (go_at_call 35; refine (h _).mono ?_; rintro e w' ⟨rfl, rfl⟩)
  go_ret2
  exact ⟨rfl, Below.refl _ _⟩
set_option maxHeartbeats 4000000 in
set_option maxRecDepth 100000 in
theorem refEscape_yes (s : ByteArray) (w : World) (hs : s.size ≤ 2000000) (hr : right s.data.toList = true) :
    Calls Tryz.prog 19 #[.string s] w fun e w' => e = .returned (.tuple #[.string ⟨(esc s.data.toList).toArray⟩, .int .i64 0]) ∧ Below w.heap.size w w' := by
  have h := refRight_at s 0 (by simp [rightN, hr]) hs
  clear hr
  go_enter Tryz.func19, Tryz.ntmps19
  go_wp2_with (go_at_call 35; refine (h _).mono ?_; rintro e w' ⟨rfl, rfl⟩)
  have kp := pairs_any
  unfold refPairs at kp
  go_wp2_with (go_at_call 36; refine (kp _).mono ?_)
  rintro e w1 ⟨rfl, b1⟩
  clear h kp
  go_wp2
  have hs1 := b1.size
  have hs1 := b1.size
  go_loopw [4, 6] (fun out i wr => ∃ (k : Nat) (o : ByteArray), k ≤ s.size ∧ i = .int .i64 k ∧ out = .string o ∧ o.data.toList = esc (s.data.toList.take k) ∧ Below w1.heap.size w1 wr ∧ wr.heap[w1.heap.size]? = some (.cells refPairs 77 (0, 0))) (fun _ i _ => s.size - (intOf i).toNat)
  case atStart => exact ⟨0, ⟨#[]⟩, Nat.zero_le _, rfl, rfl, rfl, (Below.refl _ _).alloc (Nat.le_refl _) _, Array.getElem?_push_size⟩
  case round =>
    obtain ⟨k, o, hk, rfl, rfl, ho, hbw, hres⟩ := hrel
    have hsz : w1.heap.size < wr.heap.size := (Array.getElem?_eq_some_iff.1 hres).1
    have HO : Hid _ := ho
    have ho2 : (o.size : Int) ≤ 12000000 := by
      have q := (esc_length (s.data.toList.take k)).2
      rw [← ho, ← size_list, List.length_take, ← size_list] at q
      omega
    clear ho
    by_cases hlt : k < s.size
    · go_wp2
      go_loopw [7, 8] (fun t j wq => ∃ (m : Nat) (x : ByteArray), m ≤ 5 ∧ j = .int .i64 m ∧ t = .string x ∧ x.data.toList = tK (s[k]'hlt) m ∧ Below w1.heap.size w1 wq ∧ wq.heap[w1.heap.size]? = some (.cells refPairs 77 (0, 0))) (fun _ j _ => 5 - (intOf j).toNat)
      case atStart => exact ⟨0, _, by omega, rfl, rfl, by rw [one_list s k hlt, tK_0], hbw, hres⟩
      case round =>
        obtain ⟨m, x, hm, rfl, rfl, hx, hbq, hrq⟩ := hrel
        have c0 : wr.cell? ⟨w1.heap.size, 0, none⟩ = some (.string ⟨#[38]⟩) := by rw [Lib.cell_of_heap hrq]; rfl
        have c1 : wr.cell? ⟨w1.heap.size, 1, none⟩ = some (.string ⟨#[38, 97, 109, 112, 59]⟩) := by rw [Lib.cell_of_heap hrq]; rfl
        have c2 : wr.cell? ⟨w1.heap.size, 2, none⟩ = some (.string ⟨#[60]⟩) := by rw [Lib.cell_of_heap hrq]; rfl
        have c3 : wr.cell? ⟨w1.heap.size, 3, none⟩ = some (.string ⟨#[38, 108, 116, 59]⟩) := by rw [Lib.cell_of_heap hrq]; rfl
        have c4 : wr.cell? ⟨w1.heap.size, 4, none⟩ = some (.string ⟨#[62]⟩) := by rw [Lib.cell_of_heap hrq]; rfl
        have c5 : wr.cell? ⟨w1.heap.size, 5, none⟩ = some (.string ⟨#[38, 103, 116, 59]⟩) := by rw [Lib.cell_of_heap hrq]; rfl
        have c6 : wr.cell? ⟨w1.heap.size, 6, none⟩ = some (.string ⟨#[34]⟩) := by rw [Lib.cell_of_heap hrq]; rfl
        have c7 : wr.cell? ⟨w1.heap.size, 7, none⟩ = some (.string ⟨#[38, 113, 117, 111, 116, 59]⟩) := by rw [Lib.cell_of_heap hrq]; rfl
        have c8 : wr.cell? ⟨w1.heap.size, 8, none⟩ = some (.string ⟨#[39]⟩) := by rw [Lib.cell_of_heap hrq]; rfl
        have c9 : wr.cell? ⟨w1.heap.size, 9, none⟩ = some (.string ⟨#[38, 97, 112, 111, 115, 59]⟩) := by rw [Lib.cell_of_heap hrq]; rfl
        have hm' : m = 0 ∨ m = 1 ∨ m = 2 ∨ m = 3 ∨ m = 4 ∨ m = 5 := by omega
        have hk1 : (k : Int) + 1 ≤ s.size := by omega
        have HX : Hid _ := hx
        have HR : Hid _ := hrq
        clear hx hrq hres
        rcases hm' with rfl | rfl | rfl | rfl | rfl | rfl
        · have eq1 := one_eq s k hlt 38
          by_cases ha : (s[k]'hlt) = 38
          · rw [decide_eq_true ha] at eq1
            have HC : Hid _ := ha
            clear ha
            go_wp2
            go_quiet (fail)
            go_wp2
            go_roundw
            case rel => exact ⟨1, ⟨#[38, 97, 109, 112, 59]⟩, by omega, rfl, rfl, by rw [HC.out, tK_hit0], below_drewN hbq _, HR.out⟩
            case measure => simp [intOf]
          · rw [decide_eq_false ha] at eq1
            have HC : Hid _ := ha
            clear ha
            go_wp2
            go_quiet (fail)
            go_wp2
            go_roundw
            case rel => exact ⟨1, x, by omega, rfl, rfl, by rw [HX.out, tK_miss0 _ HC.out], below_drewN hbq _, HR.out⟩
            case measure => simp [intOf]
        · have eq1 := one_eq s k hlt 60
          by_cases ha : (s[k]'hlt) = 60
          · rw [decide_eq_true ha] at eq1
            have HC : Hid _ := ha
            clear ha
            go_wp2
            go_quiet (fail)
            go_wp2
            go_roundw
            case rel => exact ⟨2, ⟨#[38, 108, 116, 59]⟩, by omega, rfl, rfl, by rw [HC.out, tK_hit1], below_drewN hbq _, HR.out⟩
            case measure => simp [intOf]
          · rw [decide_eq_false ha] at eq1
            have HC : Hid _ := ha
            clear ha
            go_wp2
            go_quiet (fail)
            go_wp2
            go_roundw
            case rel => exact ⟨2, x, by omega, rfl, rfl, by rw [HX.out, tK_miss1 _ HC.out], below_drewN hbq _, HR.out⟩
            case measure => simp [intOf]
        · have eq1 := one_eq s k hlt 62
          by_cases ha : (s[k]'hlt) = 62
          · rw [decide_eq_true ha] at eq1
            have HC : Hid _ := ha
            clear ha
            go_wp2
            go_quiet (fail)
            go_wp2
            go_roundw
            case rel => exact ⟨3, ⟨#[38, 103, 116, 59]⟩, by omega, rfl, rfl, by rw [HC.out, tK_hit2], below_drewN hbq _, HR.out⟩
            case measure => simp [intOf]
          · rw [decide_eq_false ha] at eq1
            have HC : Hid _ := ha
            clear ha
            go_wp2
            go_quiet (fail)
            go_wp2
            go_roundw
            case rel => exact ⟨3, x, by omega, rfl, rfl, by rw [HX.out, tK_miss2 _ HC.out], below_drewN hbq _, HR.out⟩
            case measure => simp [intOf]
        · have eq1 := one_eq s k hlt 34
          by_cases ha : (s[k]'hlt) = 34
          · rw [decide_eq_true ha] at eq1
            have HC : Hid _ := ha
            clear ha
            go_wp2
            go_quiet (fail)
            go_wp2
            go_roundw
            case rel => exact ⟨4, ⟨#[38, 113, 117, 111, 116, 59]⟩, by omega, rfl, rfl, by rw [HC.out, tK_hit3], below_drewN hbq _, HR.out⟩
            case measure => simp [intOf]
          · rw [decide_eq_false ha] at eq1
            have HC : Hid _ := ha
            clear ha
            go_wp2
            go_quiet (fail)
            go_wp2
            go_roundw
            case rel => exact ⟨4, x, by omega, rfl, rfl, by rw [HX.out, tK_miss3 _ HC.out], below_drewN hbq _, HR.out⟩
            case measure => simp [intOf]
        · have eq1 := one_eq s k hlt 39
          by_cases ha : (s[k]'hlt) = 39
          · rw [decide_eq_true ha] at eq1
            have HC : Hid _ := ha
            clear ha
            go_wp2
            go_quiet (fail)
            go_wp2
            go_roundw
            case rel => exact ⟨5, ⟨#[38, 97, 112, 111, 115, 59]⟩, by omega, rfl, rfl, by rw [HC.out, tK_hit4], below_drewN hbq _, HR.out⟩
            case measure => simp [intOf]
          · rw [decide_eq_false ha] at eq1
            have HC : Hid _ := ha
            clear ha
            go_wp2
            go_quiet (fail)
            go_wp2
            go_roundw
            case rel => exact ⟨5, x, by omega, rfl, rfl, by rw [HX.out, tK_miss4 _ HC.out], below_drewN hbq _, HR.out⟩
            case measure => simp [intOf]
        · have hx2 : (x.size : Int) ≤ 6 := by
            have q := (esc1_length (s[k]'hlt)).2
            have q2 := HX.out
            rw [tK_5] at q2
            rw [← q2, ← size_list] at q
            omega
          go_wp2
          go_roundw
          case rel =>
            refine ⟨k + 1, o ++ x, by omega, by go_num, rfl, ?_, hbq, HR.out⟩
            rw [app_list, HO.out, HX.out, tK_5, take_esc s k hlt]
          case measure => simp [intOf]; omega
    · go_wp2
      go_ret2
      have e : o = ⟨(esc s.data.toList).toArray⟩ := array_of (by rw [HO.out, List.take_of_length_le (by rw [← size_list]; omega)])
      exact ⟨ret_esc (a := (o, 0)) (b := (_, 0)) (by rw [e]), b1.trans (hbw.mono hs1)⟩
theorem refEscape_any (s : ByteArray) (w : World) (hs : s.size ≤ 2000000) :
    Calls Tryz.prog 19 #[.string s] w fun e w' => e = .returned (.tuple #[.string (escN s.data.toList).1, .int .i64 (escN s.data.toList).2]) ∧ Below w.heap.size w w' := by
  cases hr : right s.data.toList with
  | true =>
    have e : escN s.data.toList = (⟨(esc s.data.toList).toArray⟩, 0) := by simp [escN, hr]
    rw [e]
    exact refEscape_yes s w hs hr
  | false =>
    have e : escN s.data.toList = (⟨#[]⟩, 2) := by simp [escN, hr]
    rw [e]
    exact refEscape_no s w hs hr
end Go.Proofs.YthekdgnikkjpdaaGreatDoor
