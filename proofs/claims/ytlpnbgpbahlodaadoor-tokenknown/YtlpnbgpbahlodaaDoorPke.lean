/-
  Over this program: the document's own token of a number, and its own number of a text.
-/
import Derived.Test.YtlpnbgpbahlodaaDoorPkd
import Derived.Laws.Concat
namespace Go.Proofs.YtlpnbgpbahlodaaDoor
open Go Go.RowKit
theorem sg_cut (q : Nat) (h : q < 32) : SG.extract q (q + 1) = ⟨#[digC q]⟩ := by
  have : ∀ q : Fin 32, SG.extract q.1 (q.1 + 1) = ⟨#[digC q.1]⟩ := by decide
  exact this ⟨q, h⟩
theorem cat_bytes (a b : List UInt8) : (⟨a.toArray⟩ : ByteArray) ++ ⟨b.toArray⟩ = ⟨(a ++ b).toArray⟩ := by
  apply ByteArray.ext
  simp
set_option maxHeartbeats 1000000 in
set_option maxRecDepth 100000 in
theorem refOf_any (u : Nat) (hu : u < 18446744073709551616) (w : World) : Calls Tryd.prog 12 #[.int .u64 (u : Int)] w fun e w' => e = .returned (.string ⟨(tokL 13 u).toArray⟩) ∧ w' = w := by
  go_enter Tryd.func12, Tryd.ntmps12
  go_wp2_with fail
  go_loop [0, 3, 4, 5] (fun n s i _ => ∃ k : Nat, k ≤ 13 ∧ n = .int .u64 ((u / 32 ^ k : Nat) : Int) ∧ i = .int .i64 (k : Int) ∧ s = .string ⟨(tokL k u).toArray⟩) (fun _ _ i _ => 13 - (intOf i).toNat)
  case atStart => exact ⟨0, by omega, by simp, rfl, rfl⟩
  case round =>
    obtain ⟨k, hk, rfl, rfl, rfl⟩ := hrel
    obtain ⟨x, hx⟩ : ∃ x, u / 32 ^ k = x := ⟨_, rfl⟩
    have hx64 : x < 18446744073709551616 := by rw [← hx]; exact Nat.lt_of_le_of_lt (Nat.div_le_self _ _) hu
    have HX : Hid (u / 32 ^ k = x) := hx
    obtain ⟨T, hT⟩ : ∃ T : ByteArray, (⟨(tokL k u).toArray⟩ : ByteArray) = T := ⟨_, rfl⟩
    have HT : Hid ((⟨(tokL k u).toArray⟩ : ByteArray) = T) := hT
    rw [hx, hT]
    by_cases hlt : k < 13
    · obtain ⟨q, hq⟩ : ∃ q, x % 32 = q := ⟨_, rfl⟩
      have hq32 : q < 32 := by omega
      have hqt : (x : Int).tmod 32 = (q : Int) := by rw [Int.tmod_eq_emod_of_nonneg (by omega)]; omega
      obtain ⟨y, hy⟩ : ∃ y, x / 32 = y := ⟨_, rfl⟩
      have HY : Hid (x / 32 = y) := hy
      have hyt : (x : Int).tdiv 32 = (y : Int) := by rw [Int.tdiv_eq_ediv_of_nonneg (by omega)]; omega
      obtain ⟨T', hT'⟩ : ∃ T' : ByteArray, (⟨(tokL (k + 1) u).toArray⟩ : ByteArray) = T' := ⟨_, rfl⟩
      have HT' : Hid ((⟨(tokL (k + 1) u).toArray⟩ : ByteArray) = T') := hT'
      have hsum : (⟨#[digC q]⟩ : ByteArray) ++ T = T' := by
        rw [← hT, ← hT', tokL_head, hx, hq]
        exact cat_bytes [digC q] (tokL k u)
      have hTs : T.size = k := by rw [← hT]; show (tokL k u).length = k; exact tokL_length _ _
      have hadd : ∀ W, (Op.stringOp .add (⟨#[digC q]⟩ : ByteArray) T).run Tryd.prog W = .ok (.string T') W := fun W => by
        rw [← hsum]
        refine run_string_add_sum _ _ _ ?_
        rw [hTs]
        show 1 + k ≤ _
        omega
      have hsl : ∀ W, (Instr.slice 9 (.string SG) (some (.int .i64 (q : Int))) (some (.int .i64 ((q : Int) + 1))) none).run Tryd.prog W = .ok (.string ⟨#[digC q]⟩) W := fun W => by
        have h := run_slice_string (P := Tryd.prog) W 9 SG .i64 .i64 (q : Int) ((q : Int) + 1) Tryd.underlying9 (by omega) (by omega) (by show (q : Int) + 1 ≤ 32; omega)
        rw [h]
        have e1 : ((q : Int)).toNat = q := by omega
        have e2 : ((q : Int) + 1).toNat = q + 1 := by omega
        rw [e1, e2, sg_cut q hq32]
      have h13 : (k : Int) < 13 := by omega
      have hqw : IntKind.i64.wrap (q : Int) = (q : Int) := by simp only [IntKind.wrap_i64]; omega
      clear hx hq hy hT hT' hsum hTs
      go_wp2_with fail
      refine ⟨⟨k + 1, by omega, ?_, by go_num, by rw [HT'.out]⟩, by simp [intOf]; omega⟩
      rw [IntKind.wrap_u64, Nat.pow_succ, ← Nat.div_div_eq_div_mul, HX.out, HY.out]
      have hyy := HY.out
      congr 1
      omega
    · obtain rfl : k = 13 := by omega
      clear hx hT
      go_wp2_with fail
      rw [HT.out]
      go_ret
      exact ⟨rfl, rfl⟩
theorem take_succ (s : ByteArray) (k : Nat) (h : k < s.size) : s.data.toList.take (k + 1) = s.data.toList.take k ++ [s[k]'h] := by
  have h' : k < s.data.toList.length := by rw [Array.length_toList]; exact h
  rw [List.take_succ_eq_append_getElem h']
  congr 1
theorem headD_get (l : List UInt8) (h : 0 < l.length) : l.headD 0 = l[0]'h := by
  cases l with
  | nil => simp at h
  | cons a b => rfl
theorem refT_bad {s : List UInt8} (h : ¬ (s.all okD = true ∧ s.length = 13 ∧ dval (s.headD 0) ≤ 15)) : refT s = none := if_neg h
/-- Which digit the document finds a byte to be. -/
def dI (c : UInt8) (k : Nat) : Int := if dval c < k then (dval c : Int) else -1
theorem dI_step {c : UInt8} {k : Nat} (hk : k < 32) : dI c (k + 1) = if c = digC k then (k : Int) else dI c k := by
  unfold dI
  by_cases h : dval c = k
  · have h1 : c = digC k := by rw [← h]; exact (dig_dval (by omega)).symm
    rw [if_pos h1, if_pos (by omega), h]
  · have h1 : ¬ c = digC k := fun e => h (by rw [e]; exact dval_dig k hk)
    rw [if_neg h1]
    split <;> split <;> first | rfl | omega
set_option maxHeartbeats 2000000 in
set_option maxRecDepth 100000 in
theorem refRead_any (s : ByteArray) (r : Nat) (b : Bool) (hs : s.size ≤ 40) (hr : (refT s.data.toList).getD 0 = r) (hb : (refT s.data.toList).isSome = b) (w : World) :
    Calls Tryd.prog 10 #[.string s] w fun e w' => e = .returned (.tuple #[.int .u64 (r : Int), .bool b]) ∧ ∃ m, w' = w.drewN m := by
  have HR : Hid _ := hr
  have HB : Hid _ := hb
  have hlen : s.data.toList.length = s.size := Array.length_toList
  have HL : Hid _ := hlen
  have hbad : ¬ (s.data.toList.all okD = true ∧ s.data.toList.length = 13 ∧ dval (s.data.toList.headD 0) ≤ 15) → r = 0 ∧ b = false := by
    intro h
    rw [refT_bad h] at hr hb
    exact ⟨hr.symm, hb.symm⟩
  have HBAD : Hid (¬ (s.data.toList.all okD = true ∧ s.data.toList.length = 13 ∧ dval (s.data.toList.headD 0) ≤ 15) → r = 0 ∧ b = false) := hbad
  clear hr hb hlen hbad
  go_enter Tryd.func10, Tryd.ntmps10
  go_wp2_with fail
  go_loopw [4, 5, 6, 7] (fun n i _ _ wr => (∃ dr, wr = w.drewN dr) ∧ ∃ k v : Nat, k ≤ s.size ∧ i = .int .i64 (k : Int) ∧ n = .int .u64 (v : Int) ∧ v < 18446744073709551616 ∧ Hid (v = val 0 (s.data.toList.take k) % 18446744073709551616 ∧ (s.data.toList.take k).all okD = true ∧ (0 < k → dval (s.data.toList.headD 0) ≤ 15))) (fun _ i _ _ _ => s.size - (intOf i).toNat)
  case atStart => exact ⟨⟨0, rfl⟩, 0, 0, Nat.zero_le _, rfl, rfl, by omega, by simp [val], rfl, fun h => absurd h (Nat.lt_irrefl _)⟩
  case round =>
    obtain ⟨⟨dr, rfl⟩, k, v, hk, rfl, rfl, hv64, HV⟩ := hrel
    by_cases hlt : k < s.size
    · have ik : (k : Int) < (s.size : Int) := by omega
      obtain ⟨c, hc⟩ : ∃ c, s[k]'hlt = c := ⟨_, rfl⟩
      have hc256 : ((s[k]'hlt).toNat : Int) < 256 := by have := (s[k]'hlt).toNat_lt; omega
      have HC : Hid (s[k]'hlt = c) := hc
      clear hc
      go_wp2_with fail
      go_loopw [6, 7] (fun d j wr => (∃ dr, wr = w.drewN dr) ∧ ∃ m : Nat, m ≤ 32 ∧ j = .int .i64 (m : Int) ∧ d = .int .i64 (dI c m)) (fun _ j _ => 32 - (intOf j).toNat)
      case atStart => exact ⟨⟨dr, rfl⟩, 0, by omega, rfl, by simp [dI]⟩
      case round =>
        obtain ⟨⟨dr2, rfl⟩, m, hm, rfl, rfl⟩ := hrel
        by_cases hm32 : m < 32
        · have im : (m : Int) < 32 := by omega
          have hst := dI_step (c := c) hm32
          have hg := sg_get m hm32
          by_cases hcd : c = digC m
          · rw [if_pos hcd] at hst
            have HST : Hid _ := hst
            have heq : (((s[k]'hlt).toNat : Int) == ((SG[m]'hm32).toNat : Int)) = true := by rw [HC.out, hg, hcd]; simp
            clear hst hg hcd
            go_wp2_with fail
            go_quiet (fail)
            go_wp2_with fail
            go_roundw
            case rel => exact ⟨⟨_, rfl⟩, m + 1, by omega, by go_num, by rw [HST.out]⟩
            case measure => simp [intOf]; omega
          · rw [if_neg hcd] at hst
            have HST : Hid _ := hst
            have heq : (((s[k]'hlt).toNat : Int) == ((SG[m]'hm32).toNat : Int)) = false := by
              rw [HC.out, hg, beq_eq_false_iff_ne]
              intro e
              exact hcd (UInt8.toNat_inj.1 (by omega))
            clear hst hg hcd
            go_wp2_with fail
            go_quiet (fail)
            go_wp2_with fail
            go_roundw
            case rel => exact ⟨⟨_, rfl⟩, m + 1, by omega, by go_num, by rw [HST.out]⟩
            case measure => simp [intOf]; omega
        · obtain rfl : m = 32 := by omega
          have hok : (s.data.toList.take (k + 1)).all okD = ((s.data.toList.take k).all okD && okD c) := by
            rw [take_succ s k hlt, List.all_append, HC.out]
            simp
          have hhd : k = 0 → s.data.toList.headD 0 = c := by
            intro e
            subst e
            have h' : 0 < s.data.toList.length := by rw [HL.out]; exact hlt
            rw [← HC.out]
            show _ = s.data.toList[0]'h'
            exact headD_get _ h'
          by_cases hcv : dval c < 32
          · obtain ⟨d, hd⟩ : ∃ d, dval c = d := ⟨_, rfl⟩
            have hdI : dI c 32 = (d : Int) := by unfold dI; rw [if_pos hcv, hd]
            have hd32 : (d : Int) < 32 := by omega
            have hd0 : (0 : Int) ≤ (d : Int) := by omega
            have hok2 : (s.data.toList.take (k + 1)).all okD = true := by
              rw [hok, HV.out.2.1]
              show okD c = true
              exact decide_eq_true hcv
            by_cases h15 : k = 0 ∧ 15 < d
            · obtain ⟨rfl, rfl⟩ := HBAD.out (fun h => by
                have h1 := h.2.2
                rw [hhd h15.1, hd] at h1
                omega)
              have i0 : ((k : Int) == 0) = true := by rw [beq_iff_eq]; omega
              have i15 : (15 : Int) < (d : Int) := by omega
              rw [hdI]
              clear hok hhd hok2 hcv hdI hd h15
              go_wp2_with fail
              go_ret2
              exact ⟨rfl, _, rfl⟩
            · have hg : (((k : Int) == 0) = true ∧ ¬ (15 : Int) < (d : Int)) ∨ ((k : Int) == 0) = false := by
                by_cases e : k = 0
                · left
                  refine ⟨by rw [beq_iff_eq]; omega, ?_⟩
                  have : ¬ 15 < d := fun h => h15 ⟨e, h⟩
                  omega
                · right
                  rw [beq_eq_false_iff_ne]
                  omega
              have hh15 : 0 < k + 1 → dval (s.data.toList.headD 0) ≤ 15 := by
                intro _
                by_cases e : k = 0
                · rw [hhd e, hd]
                  have : ¬ 15 < d := fun h => h15 ⟨e, h⟩
                  omega
                · exact HV.out.2.2 (by omega)
              obtain ⟨p, hp⟩ : ∃ p : Nat, 32 * v % 18446744073709551616 = p := ⟨_, rfl⟩
              have hpw : IntKind.u64.wrap (32 * (v : Int)) = (p : Int) := by rw [IntKind.wrap_u64]; omega
              obtain ⟨v', hv'⟩ : ∃ v' : Nat, (p + d) % 18446744073709551616 = v' := ⟨_, rfl⟩
              have hvw : IntKind.u64.wrap ((p : Int) + (d : Int)) = (v' : Int) := by rw [IntKind.wrap_u64]; omega
              have hp64 : p < 18446744073709551616 := by omega
              have HV' : Hid (v' = val 0 (s.data.toList.take (k + 1)) % 18446744073709551616 ∧ (s.data.toList.take (k + 1)).all okD = true ∧ (0 < k + 1 → dval (s.data.toList.headD 0) ≤ 15)) := by
                refine ⟨?_, hok2, hh15⟩
                rw [take_succ s k hlt, val_app, HC.out]
                show v' = (val 0 (s.data.toList.take k) * 32 + dval c) % _
                have h1 := HV.out.1
                rw [hd]
                omega
              have hv64' : v' < 18446744073709551616 := by omega
              rw [hdI]
              clear hok hhd hok2 hcv hdI hd h15 hh15 hp hv' HV
              rcases hg with ⟨i0, i15⟩ | i0 <;> (
                go_wp2_with fail
                go_roundw
                case rel => exact ⟨⟨_, rfl⟩, k + 1, v', by omega, by go_num, rfl, hv64', HV'⟩
                case measure => simp [intOf]; omega)
          · have hdI : dI c 32 = -1 := by unfold dI; rw [if_neg hcv]
            obtain ⟨rfl, rfl⟩ := HBAD.out (fun h => by
              have h1 := h.1
              have h2 : c ∈ s.data.toList := by
                rw [← HC.out]
                have h' : k < s.data.toList.length := by rw [HL.out]; exact hlt
                exact List.getElem_mem h'
              have h3 := List.all_eq_true.1 h1 c h2
              exact hcv (by simpa [okD] using h3))
            rw [hdI]
            clear hok hhd hcv hdI
            go_wp2_with fail
            go_ret2
            exact ⟨rfl, _, rfl⟩
    · obtain rfl : k = s.size := by omega
      have ik : ¬ (s.size : Int) < (s.size : Int) := by omega
      have et : s.data.toList.take s.size = s.data.toList := List.take_of_length_le (by rw [HL.out]; exact Nat.le_refl _)
      have hv := HV.out
      rw [et] at hv
      by_cases h13 : s.size = 13
      · have i13 : ((s.size : Int) == 13) = true := by rw [beq_iff_eq]; omega
        have hT : refT s.data.toList = some (val 0 s.data.toList) := if_pos ⟨hv.2.1, by rw [HL.out]; exact h13, hv.2.2 (by omega)⟩
        have hlt64 := (refT_some hT).2
        have hr := HR.out
        have hb := HB.out
        rw [hT] at hr hb
        obtain rfl : true = b := hb
        have hvr : v = r := by rw [← hr]; show v = val 0 s.data.toList; rw [hv.1]; omega
        subst hvr
        have e13 : (s.size : Int) = 13 := by omega
        clear hr hT hv et i13 HV hlt64 hlt
        go_wp2_with fail
        go_ret2
        exact ⟨rfl, _, rfl⟩
      · obtain ⟨rfl, rfl⟩ := HBAD.out (fun h => h13 (by rw [← HL.out]; exact h.2.1))
        have i13 : ¬ (s.size : Int) = 13 := by omega
        clear hv et HV hlt
        go_wp2_with fail
        go_ret2
        exact ⟨rfl, _, rfl⟩
end Go.Proofs.YtlpnbgpbahlodaaDoor
