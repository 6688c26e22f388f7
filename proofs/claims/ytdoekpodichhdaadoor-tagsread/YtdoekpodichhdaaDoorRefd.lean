/-
  The contract of the reference's Name over this program: for every string of at most 100000 bytes.
-/
import Derived.Test.YtdoekpodichhdaaDoorRefc
namespace Go.Proofs.YtdoekpodichhdaaDoor
open Go.RowKit
theorem isLet_iff (a : UInt8) : isLet a = true ↔ 97 ≤ a.toNat ∧ a.toNat ≤ 122 := by unfold isLet; exact decide_eq_true_iff
theorem isLat_iff (a : UInt8) : isLat a = true ↔ (48 ≤ a.toNat ∧ a.toNat ≤ 57) ∨ a.toNat = 45 ∨ a.toNat = 58 := by
  rw [← latZ_lat]
  unfold latZ
  simp
  omega
theorem isLet_no (a : UInt8) (h : a.toNat < 97 ∨ 122 < a.toNat) : isLet a = false := by
  cases e : isLet a with
  | false => rfl
  | true => rw [isLet_iff] at e; omega
theorem isLat_no (a : UInt8) (h : ¬ ((48 ≤ a.toNat ∧ a.toNat ≤ 57) ∨ a.toNat = 45 ∨ a.toNat = 58)) : isLat a = false := by
  cases e : isLat a with
  | false => rfl
  | true => exact absurd ((isLat_iff a).1 e) h
set_option maxHeartbeats 2000000 in
set_option maxRecDepth 100000 in
theorem refName_any (s : ByteArray) (w : World) (hs : s.size ≤ 100000) :
    Calls Tryd.prog 26 #[.string s] w fun e w' => e = .returned (.bool (name s.data.toList)) ∧ w' = w := by
  go_enter Tryd.func26, Tryd.ntmps26
  go_wp2
  go_loop [3] (fun p => ∃ k : Nat, k ≤ s.size ∧ p = .int .i64 k ∧ nameAll true s.data.toList = nameAll (decide (k = 0)) (s.data.toList.drop k)) (fun p => s.size - (intOf p).toNat)
  case atStart => exact ⟨0, Nat.zero_le _, rfl, by simp⟩
  case round =>
    obtain ⟨k, hk, rfl, hacc⟩ := hrel
    by_cases hlt : k < s.size
    · have hdr := drop_cons s k hlt
      rw [getD_byte s k hlt] at hdr
      rw [hdr, nameAll] at hacc
      have hb256 : ((s[k]'hlt).toNat : Int) < 256 := by have := (s[k]'hlt).toNat_lt; omega
      have HA : Hid _ := hacc
      clear hacc hdr
      by_cases hL : (97 : Int) ≤ ((s[k]'hlt).toNat : Int)
      · by_cases hL2 : ((s[k]'hlt).toNat : Int) ≤ 122
        · have HL : Hid (isLet (s[k]'hlt) = true) := (isLet_iff _).2 ⟨by omega, by omega⟩
          go_wp2
          go_round
          case rel =>
            refine ⟨k + 1, by omega, by go_num, ?_⟩
            rw [HA.out, HL.out]
            simp
          case measure => simp [intOf]; omega
        · have HL : Hid (isLet (s[k]'hlt) = false) := isLet_no _ (by omega)
          have HT : Hid (isLat (s[k]'hlt) = false) := isLat_no _ (by omega)
          have HF : Hid (name s.data.toList = false) := by
            show _ = _
            unfold name
            rw [HA.out, HL.out, HT.out]
            simp
          have m45 : (((s[k]'hlt).toNat : Int) != 45) = true := by simp; omega
          have m58 : (((s[k]'hlt).toNat : Int) != 58) = true := by simp; omega
          have hL3 : decide (((s[k]'hlt).toNat : Int) ≤ 122) = false := decide_eq_false hL2
          have hL4 : decide (((s[k]'hlt).toNat : Int) ≤ 57) = false := decide_eq_false (by omega)
          clear hL2
          by_cases h0 : k = 0
          · subst h0
            go_wp2
            go_ret
            exact ⟨ret_bool HF.out.symm, rfl⟩
          · have e0 : ((k : Int) == 0) = false := by simp; omega
            go_wp2
            go_ret
            exact ⟨ret_bool HF.out.symm, rfl⟩
      · have HL : Hid (isLet (s[k]'hlt) = false) := isLet_no _ (by omega)
        by_cases h0 : k = 0
        · have HF : Hid (name s.data.toList = false) := by
            show _ = _
            unfold name
            rw [HA.out, HL.out]
            simp [h0]
          subst h0
          go_wp2
          go_ret
          exact ⟨ret_bool HF.out.symm, rfl⟩
        have e0 : ((k : Int) == 0) = false := by simp; omega
        by_cases h48 : (48 : Int) ≤ ((s[k]'hlt).toNat : Int)
        · by_cases h57 : ((s[k]'hlt).toNat : Int) ≤ 57
          · have HT : Hid (isLat (s[k]'hlt) = true) := (isLat_iff _).2 (by omega)
            go_wp2
            go_round
            case rel =>
              refine ⟨k + 1, by omega, by go_num, ?_⟩
              rw [HA.out, HL.out, HT.out]
              simp [h0]
            case measure => simp [intOf]; omega
          · have m45 : (((s[k]'hlt).toNat : Int) != 45) = true := by simp; omega
            by_cases h58 : (s[k]'hlt).toNat = 58
            · have HT : Hid (isLat (s[k]'hlt) = true) := (isLat_iff _).2 (by omega)
              have m58 : (((s[k]'hlt).toNat : Int) != 58) = false := by simp; omega
              clear h58
              go_wp2
              go_round
              case rel =>
                refine ⟨k + 1, by omega, by go_num, ?_⟩
                rw [HA.out, HL.out, HT.out]
                simp [h0]
              case measure => simp [intOf]; omega
            · have HT : Hid (isLat (s[k]'hlt) = false) := isLat_no _ (by omega)
              have m58 : (((s[k]'hlt).toNat : Int) != 58) = true := by simp; omega
              clear h58
              have HF : Hid (name s.data.toList = false) := by
                show _ = _
                unfold name
                rw [HA.out, HL.out, HT.out]
                simp
              go_wp2
              go_ret
              exact ⟨ret_bool HF.out.symm, rfl⟩
        · have m58 : (((s[k]'hlt).toNat : Int) != 58) = true := by simp; omega
          by_cases h45 : (s[k]'hlt).toNat = 45
          · have HT : Hid (isLat (s[k]'hlt) = true) := (isLat_iff _).2 (by omega)
            have m45 : (((s[k]'hlt).toNat : Int) != 45) = false := by simp; omega
            clear h45
            go_wp2
            go_round
            case rel =>
              refine ⟨k + 1, by omega, by go_num, ?_⟩
              rw [HA.out, HL.out, HT.out]
              simp [h0]
            case measure => simp [intOf]; omega
          · have HT : Hid (isLat (s[k]'hlt) = false) := isLat_no _ (by omega)
            have m45 : (((s[k]'hlt).toNat : Int) != 45) = true := by simp; omega
            clear h45
            have HF : Hid (name s.data.toList = false) := by
              show _ = _
              unfold name
              rw [HA.out, HL.out, HT.out]
              simp
            go_wp2
            go_ret
            exact ⟨ret_bool HF.out.symm, rfl⟩
    · have HF : Hid (nameAll true s.data.toList = true) := by
        show _ = _
        have e2 : s.data.toList.drop k = [] := List.drop_eq_nil_of_le (by rw [← size_list]; omega)
        rw [hacc, e2]
        rfl
      clear hacc
      by_cases h1 : 1 ≤ s.size
      · by_cases h2 : s.size ≤ 16
        · have e : name s.data.toList = true := by
            unfold name
            rw [HF.out, ← size_list]
            simp
            omega
          have HE : Hid _ := e
          clear e HF
          go_wp2
          go_ret
          exact ⟨ret_bool (by rw [HE.out]; simp; omega), rfl⟩
        · have e : name s.data.toList = false := by
            unfold name
            rw [HF.out, ← size_list]
            simp
            omega
          have HE : Hid _ := e
          clear e HF
          go_wp2
          go_ret
          exact ⟨ret_bool (by rw [HE.out]; simp; omega), rfl⟩
      · have e : name s.data.toList = false := by
          unfold name
          rw [HF.out, ← size_list]
          simp
          omega
        have HE : Hid _ := e
        clear e HF
        go_wp2
        go_ret
        exact ⟨ret_bool HE.out.symm, rfl⟩
end Go.Proofs.YtdoekpodichhdaaDoor
