/-
  Over this program: the document's own Draw.
-/
import Derived.Test.YtlpnbgpbahlodaaDoorPkh
namespace Go.Proofs.YtlpnbgpbahlodaaDoor
open Go Go.RowKit
theorem isIn_take {l : List ByteArray} {j : Nat} {p x : ByteArray} (h : l[j]? = some p) : isIn x (l.take (j + 1)) = (isIn x (l.take j) || decide (x = p)) := by
  have e : l.take (j + 1) = l.take j ++ [p] := by rw [List.take_add_one, h]; rfl
  rw [e, isIn_app]
  simp [isIn]
set_option maxHeartbeats 1000000 in
set_option maxRecDepth 100000 in
theorem refDraw_any (ao bo : Option Addr) (c1 c2 : Nat) (l : List Nat) (ks : List ByteArray) (z : Int) (w : World) (h1 : RowU w ao l) (h2 : RowS w bo ks) (hl : l.length ≤ 1000) (hk : ks.length ≤ 1000) (hu : ∀ z ∈ l, U z) :
    Calls Tryd.prog 14 #[.slice ao l.length c1, .slice bo ks.length c2, .int .i64 z] w fun e w' => DrawRes (drawF ks (l.take (triesN z)) 0) (min (triesN z) l.length) e ∧ w' = w := by
  obtain ⟨o, ho⟩ : ∃ o, drawF ks (l.take (triesN z)) 0 = o := ⟨_, rfl⟩
  obtain ⟨m, hm⟩ : ∃ m, min (triesN z) l.length = m := ⟨_, rfl⟩
  obtain ⟨l2, hl2⟩ : ∃ l2, l.take (triesN z) = l2 := ⟨_, rfl⟩
  obtain ⟨t, ht⟩ : ∃ t, triesN z = t := ⟨_, rfl⟩
  have hlm : l2.length = m := by rw [← hl2, List.length_take, hm]
  have HROW : Hid (RowU w ao l2) := by rw [← hl2]; exact RowU.take h1 _
  have HU : Hid (∀ z ∈ l2, U z) := fun z hz => hu z (by rw [← hl2] at hz; exact List.mem_of_mem_take hz)
  have HROS : Hid (RowS w bo ks) := h2
  obtain ⟨n, hn⟩ : ∃ n, l.length = n := ⟨_, rfl⟩
  rw [hl2] at ho ⊢
  rw [ho, hm]
  rw [hn] at hl hm ⊢
  have HO : Hid (drawF ks l2 0 = o) := ho
  have HL : Hid (l2.length = m) := hlm
  have hmm : min (max z 1) 100 = (t : Int) := by unfold triesN at ht; omega
  rw [ht] at hm
  have HM : Hid (min t n = m) := hm
  have hm2 : m ≤ 1000 := by omega
  have hnn : (if (t : Int) < (n : Int) then (t : Int) else (n : Int)) = (m : Int) := by split <;> omega
  have hnm : min (n : Int) (t : Int) = (m : Int) := by omega
  obtain ⟨kl, hkl⟩ : ∃ kl, ks.length = kl := ⟨_, rfl⟩
  have HKL : Hid (ks.length = kl) := hkl
  rw [hkl] at hk ⊢
  clear h1 h2 hu hn ho hlm hl2 hm hkl ht
  go_enter Tryd.func14, Tryd.ntmps14
  go_wp2_with fail
  go_loop [9, 10, 11, 12] (fun i _ _ _ => ∃ k : Nat, k ≤ m ∧ i = .int .i64 (k : Int) ∧ Hid (drawF ks (l2.drop k) k = o)) (fun i _ _ _ => m - (intOf i).toNat)
  case atStart => exact ⟨0, Nat.zero_le _, rfl, HO.out⟩
  case round =>
    obtain ⟨k, hk', rfl, HK⟩ := hrel
    by_cases hlt : k < m
    · obtain ⟨a, ha⟩ : ∃ a, l2[k]? = some a := ⟨_, List.getElem?_eq_getElem (by rw [HL.out]; exact hlt)⟩
      have hua := HU.out a (List.mem_of_getElem? ha)
      obtain ⟨ad, rfl, k1⟩ := HROW.out.at ha
      have hst := draw_drop (ks := ks) ha k
      have HT := fun W => refOf_any a hua W
      have hlt1 : (k : Int) < (n : Int) := by have := HM.out; omega
      have hlt2 : (k : Int) < (t : Int) := by have := HM.out; omega
      obtain ⟨x, hx⟩ : ∃ x, T a = x := ⟨_, rfl⟩
      have hxx : (⟨(tokL 13 a).toArray⟩ : ByteArray) = x := hx
      rw [hxx] at HT
      rw [hx] at hst
      have HST : Hid (drawF ks (l2.drop k) k = if isIn x ks = true then drawF ks (l2.drop (k + 1)) (k + 1) else some (x, k + 1)) := hst
      clear ha hst hua hx hxx hlt
      go_wp2_with (first
        | (go_at_call 12; refine (HT _).mono ?_; rintro e w1 ⟨rfl, rfl⟩))
      go_loop [11, 12] (fun b j => ∃ (q : Nat) (v : Bool), q ≤ kl ∧ j = .int .i64 (q : Int) ∧ b = .bool v ∧ Hid (isIn x (ks.take q) = v)) (fun _ j => kl - (intOf j).toNat)
      case atStart => exact ⟨0, false, Nat.zero_le _, rfl, rfl, rfl⟩
      case round =>
        obtain ⟨q, v, hq, rfl, rfl, HV⟩ := hrel
        by_cases hqk : q < kl
        · obtain ⟨p, hp⟩ : ∃ p, ks[q]? = some p := ⟨_, List.getElem?_eq_getElem (by rw [HKL.out]; exact hqk)⟩
          obtain ⟨ad2, e2, k2⟩ := HROS.out.at hp
          subst e2
          have hst := isIn_take (x := x) hp
          have hq1 : (q : Int) < (kl : Int) := by omega
          cases v with
          | true =>
            have HE : Hid (isIn x (ks.take (q + 1)) = true) := by
              show _ = _
              rw [hst, HV.out]
              rfl
            clear hst hp
            go_wp2_with fail
            go_round
            case rel => exact ⟨q + 1, true, by omega, by go_num, rfl, HE⟩
            case measure => simp [intOf]; omega
          | false =>
            by_cases hxp : x = p
            · have HE : Hid (isIn x (ks.take (q + 1)) = true) := by
                show _ = _
                rw [hst, decide_eq_true hxp, Bool.or_true]
              clear hst hp
              subst hxp
              go_wp2_with fail
              go_round
              case rel => exact ⟨q + 1, true, by omega, by go_num, by simp, HE⟩
              case measure => simp [intOf]; omega
            · have HE : Hid (isIn x (ks.take (q + 1)) = false) := by
                show _ = _
                rw [hst, decide_eq_false hxp, Bool.or_false]
                exact HV.out
              have h1 := ne_list (fun e : p = x => hxp e.symm)
              have h2 : (p.toList == x.toList) = false := beq_eq_false_iff_ne.2 h1
              clear hst hp hxp
              go_wp2_with fail
              go_round
              case rel => exact ⟨q + 1, false, by omega, by go_num, by simp, HE⟩
              case measure => simp [intOf]; omega
        · obtain rfl : q = kl := by omega
          have hq1 : ¬ (q : Int) < (q : Int) := by omega
          have hv := HV.out
          rw [List.take_of_length_le (by rw [HKL.out]; exact Nat.le_refl _)] at hv
          have HK2 := HK.out
          rw [HST.out, hv] at HK2
          clear hv hqk
          cases v with
          | true =>
            rw [if_pos rfl] at HK2
            have HE : Hid (drawF ks (l2.drop (k + 1)) (k + 1) = o) := HK2
            clear HK2
            go_wp2_with fail
            go_round
            case rel => exact ⟨k + 1, by have := HM.out; omega, by go_num, HE⟩
            case measure => simp [intOf]; have := HM.out; omega
          | false =>
            rw [if_neg (by decide)] at HK2
            have HE : Hid (some (x, k + 1) = o) := HK2
            clear HK2
            go_wp2_with fail
            go_ret3
            exact ⟨⟨x, k + 1, 0, by simp, Or.inl ⟨HE.out.symm, rfl⟩⟩, rfl⟩
    · obtain rfl : k = m := by omega
      have h3 := HK.out
      rw [List.drop_of_length_le (by rw [HL.out]; exact Nat.le_refl _)] at h3
      have HE : Hid (none = o) := h3
      have hway : ¬ (k : Int) < (n : Int) ∨ ((k : Int) < (n : Int) ∧ ¬ (k : Int) < (t : Int)) := by have := HM.out; omega
      clear hlt h3
      rcases hway with hw | ⟨hw, hw2⟩ <;> (
        go_wp2_with fail
        go_ret3
        exact ⟨⟨⟨#[]⟩, k, 14, rfl, Or.inr ⟨HE.out.symm, rfl, rfl, rfl⟩⟩, rfl⟩)
end Go.Proofs.YtlpnbgpbahlodaaDoor
