/-
  The walk of the statement StanzaNames over this program.
-/
import Derived.Test.YtmmkfpeckfmjeaaDoorTxo
namespace Go.Proofs.YtmmkfpeckfmjeaaDoor
open Go Go.RowKit Go.Maps Go.Sort
theorem cut_no : ∀ (t s : List UInt8), (47 : UInt8) ∉ t → cutN (t ++ 47 :: s) = (t, s, true)
  | [], s, _ => rfl
  | b :: r, s, h => by
    have hb : (b == 47) = false := by
      rw [beq_eq_false_iff_ne]
      rintro rfl
      exact h (List.mem_cons_self ..)
    have ih := cut_no r s (fun h' => h (List.mem_cons_of_mem _ h'))
    show cutN (b :: (r ++ 47 :: s)) = _
    unfold cutN
    rw [hb, ih]
    rfl
theorem cut_in : ∀ (t s : List UInt8), (47 : UInt8) ∈ t → (47 : UInt8) ∈ (cutN (t ++ 47 :: s)).2.1 ∧ (cutN (t ++ 47 :: s)).2.2 = true
  | [], s, h => by simp at h
  | b :: r, s, h => by
    show _ ∈ (cutN (b :: (r ++ 47 :: s))).2.1 ∧ _
    cases hb : b == 47 with
    | true =>
      show _ ∧ (cutN (b :: (r ++ 47 :: s))).2.2 = true
      unfold cutN
      rw [hb, if_pos rfl]
      exact ⟨by simp, rfl⟩
    | false =>
      have hm : (47 : UInt8) ∈ r := by
        rcases List.mem_cons.1 h with rfl | h
        · simp at hb
        · exact h
      have ih := cut_in r s hm
      show _ ∧ (cutN (b :: (r ++ 47 :: s))).2.2 = true
      unfold cutN
      rw [hb, if_neg (by decide)]
      exact ih
theorem user_no {t : List UInt8} (h : userN t = true) : (47 : UInt8) ∉ t := fun hm => by
  unfold userN at h
  simp only [Bool.and_eq_true] at h
  have := List.all_eq_true.1 h.2.2 _ hm
  revert this
  decide
theorem addr_join (t s : List UInt8) : addrOk (t ++ 47 :: s) = (userN t && userN s) := by
  unfold addrOk
  by_cases hm : (47 : UInt8) ∈ t
  · obtain ⟨h1, h2⟩ := cut_in t s hm
    have e1 : userN t = false := by
      cases h : userN t with
      | false => rfl
      | true => exact absurd hm (user_no h)
    have e2 : userN (cutN (t ++ 47 :: s)).2.1 = false := by
      cases h : userN (cutN (t ++ 47 :: s)).2.1 with
      | false => rfl
      | true => exact absurd h1 (user_no h)
    rw [e1, e2, h2]
    simp
  · rw [cut_no t s hm]
    rfl
theorem data_join (t s : ByteArray) : (t ++ ⟨#[47]⟩ ++ s).data.toList = t.data.toList ++ 47 :: s.data.toList := by
  simp
set_option linter.unusedSimpArgs false in
set_option maxHeartbeats 4000000 in
set_option maxRecDepth 100000 in
theorem names_walk (s t : ByteArray) (hs : s.size ≤ 281474976710656) (ht : t.size ≤ 281474976710656) (w : World) (HLV : ∀ W, Below w.heap.size w W → Calls Tryd.prog 6 #[] W fun e w' => e = .returned (.bool true) ∧ Below W.heap.size W w') :
    Calls Tryd.prog 4 #[.string s, .string t] w fun e w' => e = .returned (.bool true) ∧ Below w.heap.size w w' := by
  have HLV := Lib.hid HLV
  have hj : (t ++ ⟨#[47]⟩ ++ s).size ≤ 9223372036854775806 := by
    rw [size_list, data_join, List.length_append, List.length_cons, ← size_list, ← size_list]
    omega
  have H12a := Lib.hid (fun W => address_any s (by omega) W)
  have H12b := Lib.hid (fun W => address_any (t ++ ⟨#[47]⟩ ++ s) hj W)
  have H13 := Lib.hid (fun W => refAddress_any s (by omega) W)
  have H14s := Lib.hid (fun W => user_any s W)
  have H14t := Lib.hid (fun W => user_any t W)
  have H15 := Lib.hid (fun W => refUser_any s (by omega) W)
  unfold addrR at H12a H12b
  unfold refAddr at H13
  rw [data_join, addr_join] at H12b
  have hz1 : ¬ 9223372036854775807 < t.size + 1 := by omega
  have hz2 : ¬ 9223372036854775807 < t.size + 1 + s.size := by omega
  have back : ∀ b : ByteArray, (⟨b.data.toList.toArray⟩ : ByteArray) = b := fun b => by simp
  have hcn : userN t.data.toList = true → cutN (t.data.toList ++ 47 :: s.data.toList) = (t.data.toList, s.data.toList, true) := fun h => cut_no _ _ (user_no h)
  obtain ⟨c1, hc1⟩ : ∃ c1 : ByteArray, (⟨(cutN s.data.toList).1.toArray⟩ : ByteArray) = c1 := ⟨_, rfl⟩
  obtain ⟨c2, hc2⟩ : ∃ c2 : ByteArray, (⟨(cutN s.data.toList).2.1.toArray⟩ : ByteArray) = c2 := ⟨_, rfl⟩
  rw [hc1, hc2] at H12a H13
  obtain ⟨J, hJ⟩ : ∃ J, t ++ ⟨#[47]⟩ ++ s = J := ⟨_, rfl⟩
  rw [hJ] at H12b
  cases hS : addrOk s.data.toList <;> cases hT1 : userN t.data.toList <;> cases hT2 : userN s.data.toList
  all_goals (
    rw [hS] at H12a H13
    rw [hT1, hT2] at H12b
    rw [hT2] at H14s H15
    rw [hT1] at H14t
    try rw [hcn hT1] at H12b
    simp only [Bool.and_true, Bool.and_false, Bool.and_self, if_true, Bool.false_eq_true, if_false, back] at H12a H12b
    clear hcn hS hT1 hT2 hc1 hc2 back hj hs ht
    go_enter Tryd.func4, Tryd.ntmps4
    go_wp2_with fail
    go_at_call 6
    refine (HLV.out _ (Below.refl _ _)).mono ?_
    rintro e w1 ⟨rfl, hb1⟩
    have HB1 := Lib.hid hb1
    clear hb1
    clear HLV
    go_wp2_with fail
    go_at_call 12
    refine (H12a.out _).mono ?_
    rintro e w2 ⟨rfl, hb2⟩
    have HB2 := Lib.hid (HB1.out.trans (hb2.mono HB1.out.size))
    clear hb2
    clear H12a
    go_wp2_with fail
    go_at_call 13
    refine (H13.out _).mono ?_
    rintro e w3 ⟨rfl, d, rfl⟩
    have HB3 : Hid (RowKit.Below w.heap.size w (w2.drewN d)) := Below.same HB2.out rfl rfl rfl rfl
    clear H13
    go_wp2_with fail
    go_at_call 12
    refine (H12b.out _).mono ?_
    rintro e w4 ⟨rfl, hb4⟩
    have HB4 := Lib.hid (HB3.out.trans (hb4.mono HB3.out.size))
    clear hb4
    clear H12b
    go_wp2_with fail
    go_at_call 14
    refine (H14t.out _).mono ?_
    rintro e w6 ⟨rfl, hb6⟩
    have HB6 := Lib.hid (HB4.out.trans (hb6.mono HB4.out.size))
    clear hb6
    clear H14t
    go_wp2_with fail
    repeat (go_at_call 14; refine (H14s.out _).mono ?_; rintro e w5 ⟨rfl, hb5⟩; have HB6 := Lib.hid (HB6.out.trans (hb5.mono HB6.out.size)); clear hb5; go_wp2_with fail)
    go_at_call 15
    refine (H15.out _).mono ?_
    rintro e w7 ⟨rfl, rfl⟩
    clear H15
    go_wp2_with fail
    go_ret
    exact ⟨rfl, HB6.out⟩)
end Go.Proofs.YtmmkfpeckfmjeaaDoor
