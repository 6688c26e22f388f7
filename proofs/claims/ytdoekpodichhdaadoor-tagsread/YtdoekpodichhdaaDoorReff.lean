/-
  The contract of the reference's Unescape over this program: for every string of at most 100000 bytes.
-/
import Derived.Test.YtdoekpodichhdaaDoorRefe
namespace Go.Proofs.YtdoekpodichhdaaDoor
open Go.RowKit
/-- Which of the first m texts begins here: the sign for which it stands, and its bytes. -/
def fK (l : List UInt8) : Nat → Option (UInt8 × Nat)
  | 0 => none
  | 1 => if Lib.hasPrefix l [38, 97, 109, 112, 59] then some (38, 5) else fK l 0
  | 2 => if Lib.hasPrefix l [38, 108, 116, 59] then some (60, 4) else fK l 1
  | 3 => if Lib.hasPrefix l [38, 103, 116, 59] then some (62, 4) else fK l 2
  | 4 => if Lib.hasPrefix l [38, 113, 117, 111, 116, 59] then some (34, 6) else fK l 3
  | 5 => if Lib.hasPrefix l [38, 97, 112, 111, 115, 59] then some (39, 6) else fK l 4
  | _ => none
theorem pre_list {l p : List UInt8} (h : Lib.hasPrefix l p = true) : ∃ t, l = p ++ t := by
  unfold Lib.hasPrefix at h
  obtain ⟨t, rfl⟩ := List.isPrefixOf_iff_prefix.1 h
  exact ⟨t, rfl⟩
theorem fK_5 (l : List UInt8) : fK l 5 = entAt l := by
  by_cases h0 : Lib.hasPrefix l [38, 97, 109, 112, 59] = true
  · obtain ⟨t, rfl⟩ := pre_list h0
    simp [fK, entAt, Lib.hasPrefix]
  by_cases h1 : Lib.hasPrefix l [38, 108, 116, 59] = true
  · obtain ⟨t, rfl⟩ := pre_list h1
    simp [fK, entAt, Lib.hasPrefix]
  by_cases h2 : Lib.hasPrefix l [38, 103, 116, 59] = true
  · obtain ⟨t, rfl⟩ := pre_list h2
    simp [fK, entAt, Lib.hasPrefix]
  by_cases h3 : Lib.hasPrefix l [38, 113, 117, 111, 116, 59] = true
  · obtain ⟨t, rfl⟩ := pre_list h3
    simp [fK, entAt, Lib.hasPrefix]
  by_cases h4 : Lib.hasPrefix l [38, 97, 112, 111, 115, 59] = true
  · obtain ⟨t, rfl⟩ := pre_list h4
    simp [fK, entAt, Lib.hasPrefix]
  simp [fK, entAt, h0, h1, h2, h3, h4]
theorem pre_yes (s : ByteArray) (k n : Nat) (p : List UInt8) (hn : p.length = n) (hk : k ≤ s.size) (h : Lib.hasPrefix (s.data.toList.drop k) p = true) : k + n ≤ s.size ∧ ((s.extract k (k + n)).toList == p) = true := by
  obtain ⟨t, ht⟩ := pre_list h
  have hl := congrArg List.length ht
  rw [List.length_drop, ← size_list, List.length_append] at hl
  refine ⟨by omega, ?_⟩
  rw [Lib.toList_data, Lib.extract_data, ht, show k + n - k = n by omega, ← hn, List.take_left]
  simp
theorem pre_no (s : ByteArray) (k n : Nat) (p : List UInt8) (hn : p.length = n) (_hl : k + n ≤ s.size) (h : Lib.hasPrefix (s.data.toList.drop k) p = false) : ((s.extract k (k + n)).toList == p) = false := by
  cases e : ((s.extract k (k + n)).toList == p) with
  | false => rfl
  | true =>
    have e2 : (s.extract k (k + n)).toList = p := by simpa using e
    rw [Lib.toList_data, Lib.extract_data, show k + n - k = n by omega] at e2
    have : p <+: s.data.toList.drop k := by rw [← e2]; exact List.take_prefix _ _
    unfold Lib.hasPrefix at h
    rw [List.isPrefixOf_iff_prefix.2 this] at h
    cases h
set_option maxHeartbeats 1000000 in
theorem refUnescape_no (s : ByteArray) (w : World) (hs : s.size ≤ 100000) (hr : right s.data.toList = false) :
    Calls Tryd.prog 18 #[.string s] w fun e w' => e = .returned (.tuple #[.string ⟨#[]⟩, .int .i64 2]) ∧ Below w.heap.size w w' := by
  have h := refRight_at s 2 (by simp [rightN, hr]) hs
  clear hr
  go_enter Tryd.func18, Tryd.ntmps18
  go_wp2_with (go_at_call 23; refine (h _).mono ?_; rintro e w' ⟨rfl, rfl⟩)
  go_ret2
  exact ⟨rfl, Below.refl _ _⟩
set_option maxHeartbeats 4000000 in
set_option maxRecDepth 100000 in
theorem refUnescape_yes (s : ByteArray) (w : World) (hs : s.size ≤ 100000) (hr : right s.data.toList = true) :
    Calls Tryd.prog 18 #[.string s] w fun e w' => e = .returned (.tuple #[.string (unescR s.data.toList).1, .int .i64 (unescR s.data.toList).2]) ∧ Below w.heap.size w w' := by
  have h := refRight_at s 0 (by simp [rightN, hr]) hs
  clear hr
  go_enter Tryd.func18, Tryd.ntmps18
  go_wp2_with (go_at_call 23; refine (h _).mono ?_; rintro e w' ⟨rfl, rfl⟩)
  have kp := pairs_any
  unfold refPairs at kp
  go_wp2_with (go_at_call 24; refine (kp _).mono ?_)
  rintro e w1 ⟨rfl, b1⟩
  clear h kp
  have hs1 := b1.size
  go_wp2
  go_loop [4, 6] (fun out i => ∃ (k : Nat) (o : ByteArray), k ≤ s.size ∧ i = .int .i64 k ∧ out = .string o ∧ o.size ≤ k ∧ unesc s.data.toList = (unesc (s.data.toList.drop k)).map (o.data.toList ++ ·)) (fun _ i => s.size - (intOf i).toNat)
  case atStart => exact ⟨0, ⟨#[]⟩, Nat.zero_le _, rfl, rfl, Nat.le_refl _, by simp⟩
  case round =>
    obtain ⟨k, o, hk, rfl, rfl, ho, hacc⟩ := hrel
    have HA : Hid _ := hacc
    clear hacc
    by_cases hlt : k < s.size
    · have hdr := drop_cons s k hlt
      rw [getD_byte s k hlt] at hdr
      have hk1 : (k : Int) + 1 ≤ s.size := by omega
      by_cases h60 : (s[k]'hlt) = 60
      · have HF : Hid (unescR s.data.toList = (⟨#[]⟩, 3)) := by
          show _ = _
          unfold unescR
          rw [HA.out, hdr, h60, unesc_lt]
          rfl
        have e60 : (((s[k]'hlt).toNat : Int) == 60) = true := by rw [h60]; rfl
        clear h60 hdr
        go_wp2
        go_ret2
        exact ⟨ret_esc (a := (⟨#[]⟩, 3)) HF.out.symm, b1.trans (((Below.refl _ _).alloc (Nat.le_refl _) _).mono hs1)⟩
      have e60 : (((s[k]'hlt).toNat : Int) == 60) = false := by
        simp
        intro e
        exact h60 (UInt8.toNat_inj.1 (by simpa using (by omega : (s[k]'hlt).toNat = 60)))
      by_cases h38 : (s[k]'hlt) = 38
      · have e38 : (((s[k]'hlt).toNat : Int) == 38) = true := by rw [h38]; rfl
        rw [h38] at hdr
        have HD : Hid _ := hdr
        clear h60 h38 hdr
        go_wp2
        go_loop [7, 8, 9] (fun t n j => ∃ (m : Nat) (x : ByteArray) (q : Nat), m ≤ 5 ∧ j = .int .i64 m ∧ t = .string x ∧ n = .int .i64 q ∧ (fK (s.data.toList.drop k) m = none → q = 0) ∧ (∀ c q', fK (s.data.toList.drop k) m = some (c, q') → q = q' ∧ x.data.toList = [c])) (fun _ _ j => 5 - (intOf j).toNat)
        case atStart => exact ⟨0, _, 0, by omega, rfl, rfl, rfl, fun _ => rfl, fun c q' h => by simp [fK] at h⟩
        case round =>
          obtain ⟨m, x, q, hm, rfl, rfl, rfl, hq1, hq2⟩ := hrel
          have HQ : Hid _ := (⟨hq1, hq2⟩ : _ ∧ _)
          clear hq1 hq2
          have hm' : m = 0 ∨ m = 1 ∨ m = 2 ∨ m = 3 ∨ m = 4 ∨ m = 5 := by omega
          rcases hm' with rfl | rfl | rfl | rfl | rfl | rfl
          · cases hp : Lib.hasPrefix (s.data.toList.drop k) [38, 97, 109, 112, 59] with
            | true =>
              obtain ⟨g1, g2⟩ := pre_yes s k 5 [38, 97, 109, 112, 59] rfl hk hp
              have HF : Hid (fK (s.data.toList.drop k) 1 = some (38, 5)) := by show _ = _; simp [fK, hp]
              have g3 : (5 : Int) ≤ (s.size : Int) - k := by omega
              clear hp
              go_wp2
              go_round
              case rel =>
                refine ⟨1, ⟨#[38]⟩, 5, by omega, rfl, rfl, rfl, ?_, ?_⟩
                · intro e
                  rw [HF.out] at e
                  cases e
                · intro c q' e
                  rw [HF.out] at e
                  cases e
                  exact ⟨rfl, rfl⟩
              case measure => simp [intOf]
            | false =>
              have HF : Hid (fK (s.data.toList.drop k) 1 = fK (s.data.toList.drop k) 0) := by show _ = _; simp [fK, hp]
              by_cases hl : k + 5 ≤ s.size
              · have g2 := pre_no s k 5 [38, 97, 109, 112, 59] rfl hl hp
                have g3 : (5 : Int) ≤ (s.size : Int) - k := by omega
                clear hp
                go_wp2
                go_round
                case rel =>
                  obtain ⟨q1, q2⟩ := HQ.out
                  refine ⟨1, x, q, by omega, rfl, rfl, rfl, ?_, ?_⟩
                  · intro e
                    rw [HF.out] at e
                    exact q1 e
                  · intro c q' e
                    rw [HF.out] at e
                    exact q2 c q' e
                case measure => simp [intOf]
              · have g3 : (s.size : Int) - k < 5 := by omega
                clear hp
                go_wp2
                go_round
                case rel =>
                  obtain ⟨q1, q2⟩ := HQ.out
                  refine ⟨1, x, q, by omega, rfl, rfl, rfl, ?_, ?_⟩
                  · intro e
                    rw [HF.out] at e
                    exact q1 e
                  · intro c q' e
                    rw [HF.out] at e
                    exact q2 c q' e
                case measure => simp [intOf]
          · cases hp : Lib.hasPrefix (s.data.toList.drop k) [38, 108, 116, 59] with
            | true =>
              obtain ⟨g1, g2⟩ := pre_yes s k 4 [38, 108, 116, 59] rfl hk hp
              have HF : Hid (fK (s.data.toList.drop k) 2 = some (60, 4)) := by show _ = _; simp [fK, hp]
              have g3 : (4 : Int) ≤ (s.size : Int) - k := by omega
              clear hp
              go_wp2
              go_round
              case rel =>
                refine ⟨2, ⟨#[60]⟩, 4, by omega, rfl, rfl, rfl, ?_, ?_⟩
                · intro e
                  rw [HF.out] at e
                  cases e
                · intro c q' e
                  rw [HF.out] at e
                  cases e
                  exact ⟨rfl, rfl⟩
              case measure => simp [intOf]
            | false =>
              have HF : Hid (fK (s.data.toList.drop k) 2 = fK (s.data.toList.drop k) 1) := by show _ = _; simp [fK, hp]
              by_cases hl : k + 4 ≤ s.size
              · have g2 := pre_no s k 4 [38, 108, 116, 59] rfl hl hp
                have g3 : (4 : Int) ≤ (s.size : Int) - k := by omega
                clear hp
                go_wp2
                go_round
                case rel =>
                  obtain ⟨q1, q2⟩ := HQ.out
                  refine ⟨2, x, q, by omega, rfl, rfl, rfl, ?_, ?_⟩
                  · intro e
                    rw [HF.out] at e
                    exact q1 e
                  · intro c q' e
                    rw [HF.out] at e
                    exact q2 c q' e
                case measure => simp [intOf]
              · have g3 : (s.size : Int) - k < 4 := by omega
                clear hp
                go_wp2
                go_round
                case rel =>
                  obtain ⟨q1, q2⟩ := HQ.out
                  refine ⟨2, x, q, by omega, rfl, rfl, rfl, ?_, ?_⟩
                  · intro e
                    rw [HF.out] at e
                    exact q1 e
                  · intro c q' e
                    rw [HF.out] at e
                    exact q2 c q' e
                case measure => simp [intOf]
          · cases hp : Lib.hasPrefix (s.data.toList.drop k) [38, 103, 116, 59] with
            | true =>
              obtain ⟨g1, g2⟩ := pre_yes s k 4 [38, 103, 116, 59] rfl hk hp
              have HF : Hid (fK (s.data.toList.drop k) 3 = some (62, 4)) := by show _ = _; simp [fK, hp]
              have g3 : (4 : Int) ≤ (s.size : Int) - k := by omega
              clear hp
              go_wp2
              go_round
              case rel =>
                refine ⟨3, ⟨#[62]⟩, 4, by omega, rfl, rfl, rfl, ?_, ?_⟩
                · intro e
                  rw [HF.out] at e
                  cases e
                · intro c q' e
                  rw [HF.out] at e
                  cases e
                  exact ⟨rfl, rfl⟩
              case measure => simp [intOf]
            | false =>
              have HF : Hid (fK (s.data.toList.drop k) 3 = fK (s.data.toList.drop k) 2) := by show _ = _; simp [fK, hp]
              by_cases hl : k + 4 ≤ s.size
              · have g2 := pre_no s k 4 [38, 103, 116, 59] rfl hl hp
                have g3 : (4 : Int) ≤ (s.size : Int) - k := by omega
                clear hp
                go_wp2
                go_round
                case rel =>
                  obtain ⟨q1, q2⟩ := HQ.out
                  refine ⟨3, x, q, by omega, rfl, rfl, rfl, ?_, ?_⟩
                  · intro e
                    rw [HF.out] at e
                    exact q1 e
                  · intro c q' e
                    rw [HF.out] at e
                    exact q2 c q' e
                case measure => simp [intOf]
              · have g3 : (s.size : Int) - k < 4 := by omega
                clear hp
                go_wp2
                go_round
                case rel =>
                  obtain ⟨q1, q2⟩ := HQ.out
                  refine ⟨3, x, q, by omega, rfl, rfl, rfl, ?_, ?_⟩
                  · intro e
                    rw [HF.out] at e
                    exact q1 e
                  · intro c q' e
                    rw [HF.out] at e
                    exact q2 c q' e
                case measure => simp [intOf]
          · cases hp : Lib.hasPrefix (s.data.toList.drop k) [38, 113, 117, 111, 116, 59] with
            | true =>
              obtain ⟨g1, g2⟩ := pre_yes s k 6 [38, 113, 117, 111, 116, 59] rfl hk hp
              have HF : Hid (fK (s.data.toList.drop k) 4 = some (34, 6)) := by show _ = _; simp [fK, hp]
              have g3 : (6 : Int) ≤ (s.size : Int) - k := by omega
              clear hp
              go_wp2
              go_round
              case rel =>
                refine ⟨4, ⟨#[34]⟩, 6, by omega, rfl, rfl, rfl, ?_, ?_⟩
                · intro e
                  rw [HF.out] at e
                  cases e
                · intro c q' e
                  rw [HF.out] at e
                  cases e
                  exact ⟨rfl, rfl⟩
              case measure => simp [intOf]
            | false =>
              have HF : Hid (fK (s.data.toList.drop k) 4 = fK (s.data.toList.drop k) 3) := by show _ = _; simp [fK, hp]
              by_cases hl : k + 6 ≤ s.size
              · have g2 := pre_no s k 6 [38, 113, 117, 111, 116, 59] rfl hl hp
                have g3 : (6 : Int) ≤ (s.size : Int) - k := by omega
                clear hp
                go_wp2
                go_round
                case rel =>
                  obtain ⟨q1, q2⟩ := HQ.out
                  refine ⟨4, x, q, by omega, rfl, rfl, rfl, ?_, ?_⟩
                  · intro e
                    rw [HF.out] at e
                    exact q1 e
                  · intro c q' e
                    rw [HF.out] at e
                    exact q2 c q' e
                case measure => simp [intOf]
              · have g3 : (s.size : Int) - k < 6 := by omega
                clear hp
                go_wp2
                go_round
                case rel =>
                  obtain ⟨q1, q2⟩ := HQ.out
                  refine ⟨4, x, q, by omega, rfl, rfl, rfl, ?_, ?_⟩
                  · intro e
                    rw [HF.out] at e
                    exact q1 e
                  · intro c q' e
                    rw [HF.out] at e
                    exact q2 c q' e
                case measure => simp [intOf]
          · cases hp : Lib.hasPrefix (s.data.toList.drop k) [38, 97, 112, 111, 115, 59] with
            | true =>
              obtain ⟨g1, g2⟩ := pre_yes s k 6 [38, 97, 112, 111, 115, 59] rfl hk hp
              have HF : Hid (fK (s.data.toList.drop k) 5 = some (39, 6)) := by show _ = _; simp [fK, hp]
              have g3 : (6 : Int) ≤ (s.size : Int) - k := by omega
              clear hp
              go_wp2
              go_round
              case rel =>
                refine ⟨5, ⟨#[39]⟩, 6, by omega, rfl, rfl, rfl, ?_, ?_⟩
                · intro e
                  rw [HF.out] at e
                  cases e
                · intro c q' e
                  rw [HF.out] at e
                  cases e
                  exact ⟨rfl, rfl⟩
              case measure => simp [intOf]
            | false =>
              have HF : Hid (fK (s.data.toList.drop k) 5 = fK (s.data.toList.drop k) 4) := by show _ = _; simp [fK, hp]
              by_cases hl : k + 6 ≤ s.size
              · have g2 := pre_no s k 6 [38, 97, 112, 111, 115, 59] rfl hl hp
                have g3 : (6 : Int) ≤ (s.size : Int) - k := by omega
                clear hp
                go_wp2
                go_round
                case rel =>
                  obtain ⟨q1, q2⟩ := HQ.out
                  refine ⟨5, x, q, by omega, rfl, rfl, rfl, ?_, ?_⟩
                  · intro e
                    rw [HF.out] at e
                    exact q1 e
                  · intro c q' e
                    rw [HF.out] at e
                    exact q2 c q' e
                case measure => simp [intOf]
              · have g3 : (s.size : Int) - k < 6 := by omega
                clear hp
                go_wp2
                go_round
                case rel =>
                  obtain ⟨q1, q2⟩ := HQ.out
                  refine ⟨5, x, q, by omega, rfl, rfl, rfl, ?_, ?_⟩
                  · intro e
                    rw [HF.out] at e
                    exact q1 e
                  · intro c q' e
                    rw [HF.out] at e
                    exact q2 c q' e
                case measure => simp [intOf]
          · cases he : entAt (s.data.toList.drop k) with
            | none =>
              have hq0 : q = 0 := HQ.out.1 (by rw [fK_5]; exact he)
              subst hq0
              have HF : Hid (unescR s.data.toList = (⟨#[]⟩, 3)) := by
                show _ = _
                unfold unescR
                rw [HA.out]
                rw [HD.out] at he ⊢
                rw [unesc_amp_no _ he]
                rfl
              clear he
              go_wp2
              go_ret2
              exact ⟨ret_esc (a := (⟨#[]⟩, 3)) HF.out.symm, b1.trans (((Below.refl _ _).alloc (Nat.le_refl _) _).mono hs1)⟩
            | some cn =>
              obtain ⟨c, n⟩ := cn
              obtain ⟨hqn, hxc⟩ := HQ.out.2 c n (by rw [fK_5]; exact he)
              subst hqn
              obtain ⟨z1, z2, z3, _, _⟩ := entAt_n he
              rw [List.length_drop, ← size_list] at z3
              have HU : Hid (unesc (s.data.toList.drop k) = (unesc (s.data.toList.drop (k + q))).map (c :: ·)) := by
                show _ = _
                have e2 : (s.data.toList.drop k).drop q = s.data.toList.drop (k + q) := List.drop_drop
                rw [← e2]
                rw [HD.out] at he ⊢
                exact unesc_amp _ c q he
              have hxs : x.size = 1 := by rw [size_list, hxc]; rfl
              have HX : Hid _ := hxc
              have hxs' : (x.size : Int) ≤ 1 := by omega
              have HS : Hid _ := hxs
              have hq0 : ((q : Int) == 0) = false := by simp; omega
              clear he hxc hxs
              go_wp2
              go_round
              case rel =>
                refine ⟨k + q, o ++ x, by omega, by go_num, rfl, by rw [app_size, HS.out]; omega, ?_⟩
                rw [HA.out, HU.out, app_list, HX.out]
                cases unesc (s.data.toList.drop (k + q)) with
                | none => rfl
                | some y => simp
              case measure => simp [intOf]; omega
      · have e38 : (((s[k]'hlt).toNat : Int) == 38) = false := by
          simp
          intro e
          exact h38 (UInt8.toNat_inj.1 (by simpa using (by omega : (s[k]'hlt).toNat = 38)))
        have HU : Hid (unesc (s.data.toList.drop k) = (unesc (s.data.toList.drop (k + 1))).map ((s[k]'hlt) :: ·)) := by
          show _ = _
          rw [hdr, unesc_other _ _ h60 h38]
        have HX : Hid _ := one_list s k hlt
        have HS : Hid ((s.extract k (k + 1)).size = 1) := by
          show _ = _
          rw [size_list, HX.out]
          rfl
        clear h60 h38 hdr
        go_wp2
        go_round
        case rel =>
          refine ⟨k + 1, o ++ s.extract k (k + 1), by omega, by go_num, rfl, by rw [app_size, HS.out]; omega, ?_⟩
          rw [HA.out, HU.out, app_list, HX.out]
          cases unesc (s.data.toList.drop (k + 1)) with
          | none => rfl
          | some y => simp
        case measure => simp [intOf]; omega
    · go_wp2
      go_ret2
      have e2 : s.data.toList.drop k = [] := List.drop_eq_nil_of_le (by rw [← size_list]; omega)
      have e3 := HA.out
      rw [e2, unesc_nil] at e3
      simp only [Option.map_some, List.append_nil] at e3
      exact ⟨ret_esc (a := (o, 0)) (by unfold unescR; rw [e3]), b1.trans (((Below.refl _ _).alloc (Nat.le_refl _) _).mono hs1)⟩
theorem refUnescape_any (s : ByteArray) (w : World) (hs : s.size ≤ 100000) :
    Calls Tryd.prog 18 #[.string s] w fun e w' => e = .returned (.tuple #[.string (unescN s.data.toList).1, .int .i64 (unescN s.data.toList).2]) ∧ Below w.heap.size w w' := by
  cases hr : right s.data.toList with
  | true =>
    have e : unescN s.data.toList = unescR s.data.toList := by unfold unescN unescR; rw [hr]; cases unesc s.data.toList <;> rfl
    rw [e]
    exact refUnescape_yes s w hs hr
  | false =>
    have e : unescN s.data.toList = (⟨#[]⟩, 2) := by simp [unescN, hr]
    rw [e]
    exact refUnescape_no s w hs hr
end Go.Proofs.YtdoekpodichhdaaDoor
