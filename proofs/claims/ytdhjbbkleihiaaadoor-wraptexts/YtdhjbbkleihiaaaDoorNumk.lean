/-
  Over this program: the document's own number of a text.
-/
import Derived.Test.YtdhjbbkleihiaaaDoorNumf
namespace Go.Proofs.YtdhjbbkleihiaaaDoor
open Go Go.RowKit
theorem take_succ (s : ByteArray) (k : Nat) (h : k < s.size) : s.data.toList.take (k + 1) = s.data.toList.take k ++ [s[k]'h] := by
  have h' : k < s.data.toList.length := by rw [Array.length_toList]; exact h
  rw [List.take_succ_eq_append_getElem h']
  congr 1
theorem valL_lt : ∀ (l : List UInt8) (acc : Nat), l.all digB = true → valL acc l < (acc + 1) * 10 ^ l.length
  | [], acc, _ => by show acc < (acc + 1) * 1; omega
  | c :: r, acc, h => by
    rw [List.all_cons, Bool.and_eq_true] at h
    have hc : 48 ≤ c.toNat ∧ c.toNat ≤ 57 := by simpa [digB] using h.1
    have h1 := valL_lt r (acc * 10 + (c.toNat - 48)) h.2
    have h2 : (acc * 10 + (c.toNat - 48) + 1) * 10 ^ r.length ≤ ((acc + 1) * 10) * 10 ^ r.length := Nat.mul_le_mul_right _ (by omega)
    show valL (acc * 10 + (c.toNat - 48)) r < _
    rw [List.length_cons, Nat.pow_succ, Nat.mul_comm (10 ^ r.length) 10, ← Nat.mul_assoc]
    omega
theorem head_byte (s : ByteArray) (h : 0 < s.size) : s.data.toList.head? = some (s[0]'h) := by
  have h' : 0 < s.data.toList.length := by rw [Array.length_toList]; exact h
  rw [List.head?_eq_getElem?, List.getElem?_eq_getElem h']
  congr 1
theorem toList_ne (s : ByteArray) (h : 0 < s.size) : s.toList.isEmpty = false := by
  rw [ByteArray.toList_eq]
  have h' : s.data.toList.length = s.size := Array.length_toList
  cases hl : s.data.toList with
  | nil => rw [hl] at h'; simp at h'; omega
  | cons a r => rfl
theorem all_take (l : List UInt8) (k : Nat) (h : k < l.length) (hd : digB l[k] = false) : l.all digB = false := by
  rw [List.all_eq_false]
  exact ⟨l[k], List.getElem_mem h, by simp [hd]⟩
set_option maxHeartbeats 2000000 in
set_option maxRecDepth 100000 in
theorem refRead_any (s : ByteArray) (r : Nat) (b : Bool) (hs : s.size ≤ 40) (hr : (refN s.data.toList).getD 0 = r) (hb : (refN s.data.toList).isSome = b) (w : World) :
    Calls Tryd.prog 19 #[.string s] w fun e w' => e = .returned (.tuple #[.int .u32 r, .bool b]) ∧ w' = w := by
  have HR : Hid _ := hr
  have HB : Hid _ := hb
  clear hr hb
  have hlen : s.data.toList.length = s.size := Array.length_toList
  have HL : Hid _ := hlen
  clear hlen
  by_cases h0 : s.size = 0
  · have he : s.data.toList = [] := List.length_eq_zero_iff.1 (by rw [HL.out]; exact h0)
    have hn : refN s.data.toList = none := by rw [he]; simp [refN]
    rw [hn] at HR HB
    obtain rfl : (0 : Nat) = r := HR.out
    obtain rfl : false = b := HB.out
    obtain rfl : s = ⟨[].toArray⟩ := bytes_ext he
    go_enter Tryd.func19, Tryd.ntmps19
    go_wp2_with fail
    go_ret2
    exact ⟨rfl, rfl⟩
  have hse := toList_ne s (by omega)
  by_cases h1 : 10 < s.size
  · have hn : refN s.data.toList = none := by
      unfold refN
      rw [if_pos (Or.inr (Or.inl (by rw [HL.out]; exact h1)))]
    rw [hn] at HR HB
    obtain rfl : (0 : Nat) = r := HR.out
    obtain rfl : false = b := HB.out
    clear hn
    have i1 : (10 : Int) < (s.size : Int) := by omega
    go_enter Tryd.func19, Tryd.ntmps19
    go_wp2_with fail
    go_ret2
    exact ⟨rfl, rfl⟩
  have hp : 0 < s.size := by omega
  have hh := head_byte s hp
  have i1 : ¬ (10 : Int) < (s.size : Int) := by omega
  have i2 : (0 : Int) < (s.size : Int) := by omega
  by_cases h2 : (s[0]'hp).toNat = 48 ∧ 1 < s.size
  · have hn : refN s.data.toList = none := by
      unfold refN
      rw [if_pos (Or.inr (Or.inr ⟨by rw [hh, show s[0]'hp = 48 from UInt8.toNat_inj.1 h2.1], by rw [HL.out]; exact h2.2⟩))]
    rw [hn] at HR HB
    obtain rfl : (0 : Nat) = r := HR.out
    obtain rfl : false = b := HB.out
    clear hn hh
    have i3 : (1 : Int) < (s.size : Int) := by omega
    have i4 : (((s[0]'hp).toNat : Int) == 48) = true := by rw [beq_iff_eq]; omega
    go_enter Tryd.func19, Tryd.ntmps19
    go_wp2_with fail
    go_ret2
    exact ⟨rfl, rfl⟩
  · have hnn : refN s.data.toList = if s.data.toList.all digB = true then (if valL 0 s.data.toList < 4294967296 then some (valL 0 s.data.toList) else none) else none := by
      unfold refN
      rw [if_neg]
      rintro (h | h | ⟨h, h'⟩)
      · rw [h] at HL; exact h0 HL.out.symm
      · rw [HL.out] at h; exact h1 h
      · rw [hh] at h
        rw [HL.out] at h'
        exact h2 ⟨by rw [Option.some.inj h]; rfl, h'⟩
    have HN : Hid _ := hnn
    clear hnn hh
    have hguard : (((s[0]'hp).toNat : Int) == 48) = false ∨ ((((s[0]'hp).toNat : Int) == 48) = true ∧ ¬ (1 : Int) < (s.size : Int)) := by
      by_cases hq : (s[0]'hp).toNat = 48
      · right
        refine ⟨by rw [beq_iff_eq]; omega, ?_⟩
        have : ¬ 1 < s.size := fun h => h2 ⟨hq, h⟩
        omega
      · left
        rw [beq_eq_false_iff_ne]
        omega
    clear h2
    rcases hguard with i4 | ⟨i4, i5⟩ <;> (
      go_enter Tryd.func19, Tryd.ntmps19
      go_wp2_with fail
      go_loop [4, 5] (fun a p => ∃ k : Nat, k ≤ s.size ∧ p = .int .i64 k ∧ a = .int .i64 (valL 0 (s.data.toList.take k) : Nat) ∧ (s.data.toList.take k).all digB = true) (fun _ p => s.size - (intOf p).toNat)
      case atStart => exact ⟨0, Nat.zero_le _, rfl, rfl, rfl⟩
      case round =>
        obtain ⟨k, hk, rfl, rfl, hd⟩ := hrel
        have hvb : valL 0 (s.data.toList.take k) < 10000000000 := by
          have h1 := valL_lt _ 0 hd
          rw [List.length_take, HL.out, Nat.min_eq_left hk] at h1
          have h2 : 10 ^ k ≤ 10 ^ 10 := Nat.pow_le_pow_right (by omega) (by omega)
          omega
        obtain ⟨v, hv⟩ : ∃ v, valL 0 (s.data.toList.take k) = v := ⟨_, rfl⟩
        rw [hv] at hvb ⊢
        have HV : Hid _ := hv
        have HD : Hid _ := hd
        clear hv hd
        by_cases hlt : k < s.size
        · have hb256 : ((s[k]'hlt).toNat : Int) < 256 := by have := (s[k]'hlt).toNat_lt; omega
          have ik : (k : Int) < (s.size : Int) := by omega
          have hlt' : k < s.data.toList.length := by rw [HL.out]; exact hlt
          have hno : digB (s[k]'hlt) = false → r = 0 ∧ b = false := by
            intro hdd
            have hal := all_take s.data.toList k hlt' hdd
            have hn := HN.out
            rw [hal, if_neg (by decide)] at hn
            rw [hn] at HR HB
            exact ⟨HR.out.symm, HB.out.symm⟩
          by_cases c1 : ((s[k]'hlt).toNat : Int) < 48
          · obtain ⟨rfl, rfl⟩ := hno (by unfold digB; rw [decide_eq_false (by omega)]; rfl)
            clear hno
            go_wp2_with fail
            go_ret2
            exact ⟨rfl, rfl⟩
          · by_cases c2 : (57 : Int) < ((s[k]'hlt).toNat : Int)
            · obtain ⟨rfl, rfl⟩ := hno (by unfold digB; rw [decide_eq_false (p := (s[k]'hlt).toNat ≤ 57) (by omega), Bool.and_false])
              clear hno
              go_wp2_with fail
              go_ret2
              exact ⟨rfl, rfl⟩
            · have HX : Hid (valL 0 (s.data.toList.take (k + 1)) = v * 10 + ((s[k]'hlt).toNat - 48)) := by
                show _ = _
                rw [take_succ s k hlt, valL_append, HV.out]
                rfl
              have HY : Hid ((s.data.toList.take (k + 1)).all digB = true) := by
                show _ = _
                rw [take_succ s k hlt, List.all_append, HD.out]
                simp [digB]
                omega
              have hv0 : (v : Int) < 10000000000 := by omega
              clear hno
              go_wp2_with fail
              go_round
              case rel =>
                refine ⟨k + 1, by omega, by go_num, ?_, HY.out⟩
                rw [HX.out]
                congr 1
                omega
              case measure => simp [intOf]; omega
        · have ek : k = s.size := by omega
          have et : s.data.toList.take k = s.data.toList := List.take_of_length_le (by rw [HL.out]; omega)
          rw [et] at HV HD
          have hn := HN.out
          rw [HD.out, HV.out, if_pos rfl] at hn
          have ik : ¬ (k : Int) < (s.size : Int) := by omega
          clear et
          by_cases hbig : v < 4294967296
          · rw [if_pos hbig] at hn
            rw [hn] at HR HB
            obtain rfl : v = r := HR.out
            obtain rfl : true = b := HB.out
            have iv : ¬ (4294967296 : Int) ≤ (v : Int) := by omega
            have iw : (v : Int) < 4294967296 := by omega
            clear hn ek
            go_wp2_with fail
            go_ret2
            exact ⟨rfl, rfl⟩
          · rw [if_neg hbig] at hn
            rw [hn] at HR HB
            obtain rfl : 0 = r := HR.out
            obtain rfl : false = b := HB.out
            have iv : (4294967296 : Int) ≤ (v : Int) := by omega
            clear hn ek
            go_wp2_with fail
            go_ret2
            exact ⟨rfl, rfl⟩)
end Go.Proofs.YtdhjbbkleihiaaaDoor
