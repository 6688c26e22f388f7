/-
  Over this program: strconv.ParseUint at base 32 and 64 bits.
-/
import Derived.Test.YtlpnbgpbahlodaaDoorPka
import Derived.Test.YtlpnbgpbahlodaaDoorShelf
import Derived.Lib.Strings
import Derived.Lib.Walk
import Derived.Lib.ConvBytes
import Derived.Lib.AtoiAllMem
import Derived.Lib.AtoiErrMem
import Derived.Lib.ParseIntBMem
import Derived.Lib.Hide
import Derived.Laws.Strings3
import Derived.Laws.Closers25
import Derived.Laws.Closers25b
import Derived.WalkKit
import Derived.BigCall
import Derived.BigGuard
namespace Go.Proofs.YtlpnbgpbahlodaaDoor
open Go Go.Shelf Go.RowKit
theorem lower_at (c b : Int) (hb : bits .or .u8 c 32 = b) (w : World) : Calls Tryd.prog 25 #[.int .u8 c] w fun e w' => e = .returned (.int .u8 b) ∧ w' = w := by
  subst hb
  exact AnyPu.internal_strconv_lower { Tryd.laysPu14 with } c w
theorem low95 : bits .or .u8 95 32 = 127 := by decide
theorem dlow_dig {c : UInt8} (h : 48 ≤ c.toNat ∧ c.toNat ≤ 57) : dlow c = c.toNat - 48 := if_pos h
theorem dlow_let {c : UInt8} {b : Int} (h : ¬ (48 ≤ c.toNat ∧ c.toNat ≤ 57)) (hb : bits .or .u8 (c.toNat : Int) 32 = b) (h1 : 97 ≤ b ∧ b ≤ 122) : dlow c = b.toNat - 87 := by
  unfold dlow
  rw [if_neg h, hb, if_pos h1]
theorem dlow_no {c : UInt8} {b : Int} (h : ¬ (48 ≤ c.toNat ∧ c.toNat ≤ 57)) (hb : bits .or .u8 (c.toNat : Int) 32 = b) (h1 : ¬ (97 ≤ b ∧ b ≤ 122)) : dlow c = 99 := by
  unfold dlow
  rw [if_neg h, hb, if_neg h1]
theorem pu_syn {acc : Nat} {c : UInt8} {r : List UInt8} (h : ¬ dlow c < 32) : pu32 acc (c :: r) = .syntax := if_neg h
theorem pu_rng {acc : Nat} {c : UInt8} {r : List UInt8} (h : dlow c < 32) (h1 : 576460752303423488 ≤ acc) : pu32 acc (c :: r) = .range := (if_pos h).trans (if_pos h1)
theorem pu_go {acc : Nat} {c : UInt8} {r : List UInt8} (h : dlow c < 32) (h1 : ¬ 576460752303423488 ≤ acc) : pu32 acc (c :: r) = pu32 (acc * 32 + dlow c) r := (if_pos h).trans (if_neg h1)
set_option maxHeartbeats 32000000 in
set_option maxRecDepth 100000 in
theorem in32_any (t : ByteArray) (hne : t.size ≠ 0) (hmax : t.size ≤ 9223372036854775806) (w : World) :
    Calls Tryd.prog 22 #[.string t, .int .i64 32, .int .i64 64] w fun e w' => e = .returned (Lib.uintTuple 50 (pu32 0 t.data.toList)) ∧ w' = Lib.bytesWorld w 5 t := by
  have hemp : t.toList.isEmpty = false := by
    rw [← decide_eq_emptyBytes]
    exact decide_eq_false (fun h => hne (by rw [h]; rfl))
  have hcv := Lib.run_convert_string_bytes (P := Tryd.prog) w 9 45 5 t (u := .string) Tryd.underlying9 Tryd.underlying45 Tryd.underlying5
  have hB : ∀ j, j < t.size → (Lib.bytesWorld w 5 t).cell? ⟨w.heap.size, j, none⟩ = some (.int .u8 (t.data.toList.getD j 0).toNat) := fun j hj => Lib.bytesWorld_cell w 5 t j hj
  obtain ⟨W1, hW1⟩ : ∃ W1, W1 = Lib.bytesWorld w 5 t := ⟨_, rfl⟩
  rw [← hW1] at hcv hB ⊢
  clear hW1
  obtain ⟨bs, hL⟩ : ∃ bs, bs = t.data.toList := ⟨_, rfl⟩
  have hLn : bs.length = t.size := by rw [hL, Lib.size_eq]
  rw [← hL] at hB ⊢
  clear hL
  have hmv : IntKind.u64.wrap (IntKind.u64.wrap 18446744073709551616 - 1) = 18446744073709551615 := by
    rw [IntKind.wrap_u64, IntKind.wrap_u64]
    decide
  go_enter Tryd.func22, Tryd.ntmps22
  go_wp2
  go_loop [12, 13, 101] (fun vu vn vi => ∃ (k acc : Nat) (a : Int), vu = .bool false ∧ vn = .int .u64 a ∧ vi = .int .i64 k ∧ k ≤ t.size ∧ Hid (a = (acc : Int) ∧ acc < 18446744073709551616 ∧ pu32 0 bs = pu32 acc (bs.drop k)))
    (fun _ _ vi => t.size - (intOf vi).toNat)
  case atStart => exact ⟨0, 0, 0, rfl, rfl, rfl, by omega, rfl, by omega, rfl⟩
  case round =>
    obtain ⟨k, acc, a, rfl, rfl, rfl, hk, hh⟩ := hrel
    obtain ⟨ha, hacc, hdec⟩ := hh.out
    clear hh
    have a0 : 0 ≤ a := by omega
    have a1 : a < 18446744073709551616 := by omega
    by_cases hkn : k < t.size
    · have hc := hB k hkn
      have hdrop : bs.drop k = bs[k]'(by omega) :: bs.drop (k + 1) := List.drop_eq_getElem_cons (by omega)
      have hget : bs.getD k 0 = bs[k]'(by omega) := by simp [List.getD, List.getElem?_eq_getElem (show k < bs.length by omega)]
      rw [hdrop] at hdec
      rw [hget] at hc
      generalize bs[k]'(by omega) = c at hc hdec
      have hc256 : c.toNat < 256 := c.toNat_lt
      clear hB hdrop hget
      obtain ⟨b, hb⟩ : ∃ b, bits .or .u8 (c.toNat : Int) 32 = b := ⟨_, rfl⟩
      have b0 : 0 ≤ b := by rw [← hb]; exact bits_lo_u8 .or (c.toNat : Int) 32
      have b1 : b ≤ 255 := by rw [← hb]; exact bits_hi_u8 .or (c.toNat : Int) 32
      have HLW := fun W => lower_at _ _ hb W
      by_cases hdig : 48 ≤ c.toNat ∧ c.toNat ≤ 57
      · have hdl := dlow_dig hdig
        obtain ⟨hd0, hd1⟩ := hdig
        by_cases hcut : 576460752303423488 ≤ acc
        · rw [pu_rng (by omega) hcut] at hdec
          have icut : 576460752303423488 ≤ a := by omega
          clear hcut hacc ha hdl HLW hb b0 b1
          go_wp2
          go_ret2
          first | exact ⟨rfl, rfl⟩ | exact ⟨by rw [hdec]; rfl, rfl⟩
        · rw [pu_go (by omega) hcut, hdl] at hdec
          have HN : Hid (a * 32 + ((c.toNat : Int) - 48) = ((acc * 32 + (c.toNat - 48) : Nat) : Int) ∧ acc * 32 + (c.toNat - 48) < 18446744073709551616 ∧ pu32 0 bs = pu32 (acc * 32 + (c.toNat - 48)) (bs.drop (k + 1))) := Lib.hid ⟨by omega, by omega, hdec⟩
          have icut : a < 576460752303423488 := by omega
          clear hcut hacc hdec ha hdl HLW hb b0 b1
          go_wp2
          refine ⟨⟨k + 1, acc * 32 + (c.toNat - 48), a * 32 + ((c.toNat : Int) - 48), rfl, (by first | rfl | (congr 1; omega)), (by first | rfl | (congr 1; omega)), by omega, HN⟩, by simp [intOf]; omega⟩
      · by_cases h95 : c.toNat = 95
        · have hbb : b = 127 := by rw [← hb, h95]; exact low95
          rw [pu_syn (by rw [dlow_no hdig hb (by omega)]; omega)] at hdec
          subst hbb
          have e95 : (c.toNat : Int) = 95 := by omega
          rw [e95] at hc HLW
          clear hacc ha hb b0 b1
          go_wp2_with (go_at_call 25; refine (HLW _).mono ?_; rintro e w' ⟨rfl, rfl⟩)
          go_ret2
          first | exact ⟨rfl, rfl⟩ | exact ⟨by rw [hdec]; rfl, rfl⟩
        · have i95 : ¬ (c.toNat : Int) = 95 := by omega
          have hnd : (c.toNat : Int) < 48 ∨ (57 : Int) < (c.toNat : Int) := by omega
          by_cases hlet : 97 ≤ b ∧ b ≤ 122
          · have hdl := dlow_let hdig hb hlet
            obtain ⟨l0, l1⟩ := hlet
            by_cases h32 : b ≤ 118
            · by_cases hcut : 576460752303423488 ≤ acc
              · rw [pu_rng (by omega) hcut] at hdec
                have icut : 576460752303423488 ≤ a := by omega
                clear hcut hacc ha hdl hb hdig h95
                rcases hnd with hnd | hnd <;> (
                  go_wp2_with (go_at_call 25; refine (HLW _).mono ?_; rintro e w' ⟨rfl, rfl⟩)
                  go_ret2
                  first | exact ⟨rfl, rfl⟩ | exact ⟨by rw [hdec]; rfl, rfl⟩)
              · rw [pu_go (by omega) hcut, hdl] at hdec
                have HN : Hid (a * 32 + (b - 87) = ((acc * 32 + (b.toNat - 87) : Nat) : Int) ∧ acc * 32 + (b.toNat - 87) < 18446744073709551616 ∧ pu32 0 bs = pu32 (acc * 32 + (b.toNat - 87)) (bs.drop (k + 1))) := Lib.hid ⟨by omega, by omega, hdec⟩
                have icut : a < 576460752303423488 := by omega
                clear hcut hacc hdec ha hdl hb hdig h95
                rcases hnd with hnd | hnd <;> (
                  go_wp2_with (go_at_call 25; refine (HLW _).mono ?_; rintro e w' ⟨rfl, rfl⟩)
                  refine ⟨⟨k + 1, acc * 32 + (b.toNat - 87), a * 32 + (b - 87), rfl, (by first | rfl | (congr 1; omega)), (by first | rfl | (congr 1; omega)), by omega, HN⟩, by simp [intOf]; omega⟩)
            · rw [pu_syn (by omega)] at hdec
              have h32' : 118 < b := by omega
              clear hacc ha hdl hb hdig h95 h32
              rcases hnd with hnd | hnd <;> (
                go_wp2_with (go_at_call 25; refine (HLW _).mono ?_; rintro e w' ⟨rfl, rfl⟩)
                go_ret2
                first | exact ⟨rfl, rfl⟩ | exact ⟨by rw [hdec]; rfl, rfl⟩)
          · rw [pu_syn (by rw [dlow_no hdig hb hlet]; omega)] at hdec
            have hl : b < 97 ∨ (97 ≤ b ∧ 122 < b) := by omega
            clear hacc ha hb hdig h95 hlet
            rcases hnd with hnd | hnd <;> rcases hl with hl | ⟨hl0, hl⟩ <;> (
              go_wp2_with (go_at_call 25; refine (HLW _).mono ?_; rintro e w' ⟨rfl, rfl⟩)
              go_ret2
              first | exact ⟨rfl, rfl⟩ | exact ⟨by rw [hdec]; rfl, rfl⟩)
    · have hkk : k = t.size := by omega
      subst hkk
      have hF : pu32 acc (bs.drop t.size) = .ok acc := by rw [List.drop_eq_nil_of_le (by omega)]; rfl
      rw [hF] at hdec
      subst ha
      clear hacc hF a0 a1
      go_wp2
      go_ret2
      first | exact ⟨rfl, rfl⟩ | exact ⟨by rw [hdec]; rfl, rfl⟩
end Go.Proofs.YtlpnbgpbahlodaaDoor
