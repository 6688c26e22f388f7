/-
  The contracts of User, strings.Cut at one byte, Address, and of the document's User and Address over this program.
-/
import Derived.Test.YtmmkfpeckfmjeaaDoorPsta
import Derived.Test.YtmmkfpeckfmjeaaDoorWalkd
import Derived.Test.YtmmkfpeckfmjeaaDoorNume
import Derived.Laws.RangeString
import Derived.Laws.RangeAny
import Derived.Deep.QuietTactic
import Derived.LoopTactic
namespace Go.Proofs.YtmmkfpeckfmjeaaDoor
open Go Go.RowKit
theorem decode_high (s : ByteArray) (pos : Nat) (h : 128 ≤ (s.get! pos).toNat) : 128 ≤ (Utf8.decode s pos).1 := by
  have e : s.get! (pos + 0) = s.get! pos := rfl
  unfold Utf8.decode
  simp only [e]
  rw [if_neg (by omega)]
  have hr : 128 ≤ Utf8.runeError := by decide
  split
  · split
    · assumption
    · exact hr
  · split
    · split
      · rename_i h1
        simp only [ge_iff_le, Bool.and_eq_true, decide_eq_true_eq] at h1
        omega
      · exact hr
    · split
      · split
        · rename_i h1
          simp only [ge_iff_le, Bool.and_eq_true, decide_eq_true_eq] at h1
          omega
        · exact hr
      · exact hr
theorem get_list (s : ByteArray) (i : Nat) (h : i < s.size) : s.get! i = s.data.toList[i]'(by simpa using h) := by
  show s.data[i]! = _
  simp [h]
theorem take_list (u : ByteArray) (n : Nat) : (u.extract 0 n).data.toList = u.data.toList.take n := by
  simp
theorem mk_of_list {s : ByteArray} {l : List UInt8} (h : s.data.toList = l) : s = ⟨l.toArray⟩ := by
  subst h
  simp
/-- One rune of a user. -/
theorem low_rune (s : ByteArray) (i : Nat) (h : i < s.size) : (lowB (s.data.toList[i]'(by simpa using h)) = true ∧ Utf8.decode s i = ((s.data.toList[i]'(by simpa using h)).toNat, 1)) ∨
    (lowB (s.data.toList[i]'(by simpa using h)) = false ∧ ¬ ((97 ≤ (Utf8.decode s i).1 ∧ (Utf8.decode s i).1 ≤ 122) ∨ (48 ≤ (Utf8.decode s i).1 ∧ (Utf8.decode s i).1 ≤ 57))) := by
  have e := get_list s i h
  by_cases hb : 128 ≤ (s.get! i).toNat
  · right
    have hd := decode_high s i hb
    rw [e] at hb
    refine ⟨?_, by omega⟩
    unfold lowB
    rw [decide_eq_false (by omega), decide_eq_false (by omega)]
    rfl
  · have ha : (s[i]'h).toNat < 128 := by
      have e2 : s.get! i = s[i]'h := by
        simp [ByteArray.get!, getElem!_pos, h]
        rfl
      rw [← e2]
      omega
    have hd := decode_ascii s i h ha
    have e3 : s[i]'h = s.data.toList[i]'(by simpa using h) := by
      rw [← e]
      simp [ByteArray.get!, getElem!_pos, h]
      rfl
    rw [e3] at hd
    cases hl : lowB (s.data.toList[i]'(by simpa using h)) with
    | true => exact .inl ⟨rfl, hd⟩
    | false =>
      right
      refine ⟨rfl, ?_⟩
      rw [hd]
      unfold lowB at hl
      simp only [Bool.or_eq_false_iff, decide_eq_false_iff_not] at hl
      intro hc
      rcases hc with hc | hc
      · exact hl.1 hc
      · exact hl.2 hc
def cutA (c : UInt8) (l : List UInt8) : List UInt8 := l.takeWhile (· != c)
def cutZ (c : UInt8) (l : List UInt8) : List UInt8 := (l.dropWhile (· != c)).drop 1
def cutB (c : UInt8) (l : List UInt8) : Bool := l.contains c
theorem cut_way (c : UInt8) : ∀ l : List UInt8, (Lib.indexByte l c = -1 ∧ cutA c l = l ∧ cutZ c l = [] ∧ cutB c l = false) ∨
    ∃ i : Nat, Lib.indexByte l c = i ∧ i < l.length ∧ cutA c l = l.take i ∧ cutZ c l = l.drop (i + 1) ∧ cutB c l = true
  | [] => .inl ⟨rfl, rfl, rfl, rfl⟩
  | b :: l => by
    by_cases hb : b = c
    · subst hb
      exact .inr ⟨0, by simp [Lib.indexByte], by simp, by simp [cutA], by simp [cutZ], by simp [cutB]⟩
    · have h1 : (b == c) = false := by simpa using hb
      have h2 : (c == b) = false := by simpa using fun e => hb (Eq.symm e)
      have h3 : (b != c) = true := by simpa using hb
      rcases cut_way c l with ⟨k1, k2, k3, k4⟩ | ⟨i, k1, k2, k3, k4, k5⟩
      · unfold cutA at k2 ⊢
        unfold cutZ at k3 ⊢
        unfold cutB at k4 ⊢
        refine .inl ⟨by simp [Lib.indexByte, h1, k1], ?_, ?_, ?_⟩
        · rw [List.takeWhile_cons, h3, if_pos rfl, k2]
        · rw [List.dropWhile_cons, h3, if_pos rfl, k3]
        · rw [List.contains_cons, h2, k4]; rfl
      · unfold cutA at k3 ⊢
        unfold cutZ at k4 ⊢
        unfold cutB at k5 ⊢
        refine .inr ⟨i + 1, ?_, by simp; omega, ?_, ?_, ?_⟩
        · have : ((i : Int) == -1) = false := by simp
          simp [Lib.indexByte, h1, k1, this]
        · rw [List.takeWhile_cons, h3, if_pos rfl, k3]; rfl
        · rw [List.dropWhile_cons, h3, if_pos rfl, k4]; rfl
        · rw [List.contains_cons, k5]; simp
theorem ret_cut {a a' b b' : ByteArray} {x x' : Bool} (h : a = a') (h2 : b = b') (h3 : x = x') : Ending.returned (.tuple #[.string a, .string b, .bool x]) = .returned (.tuple #[.string a', .string b', .bool x']) := by rw [h, h2, h3]
set_option maxHeartbeats 1000000 in
set_option maxRecDepth 100000 in
theorem cutLite_any (s : ByteArray) (c : UInt8) (w : World) (hs : s.size ≤ 9223372036854775806) :
    Calls Tryd.prog 52 #[.string s, .string ⟨#[c]⟩] w fun e w' => e = .returned (.tuple #[.string ⟨(cutA c s.data.toList).toArray⟩, .string ⟨(cutZ c s.data.toList).toArray⟩, .bool (cutB c s.data.toList)]) ∧ ∃ n, w' = w.drewN n := by
  have hI := Tryd.stringslite_Index_one s c w
  rcases cut_way c s.data.toList with ⟨k1, k2, k3, k4⟩ | ⟨i, k1, k2, k3, k4, k5⟩
  · rw [k1] at hI
    rw [k2, k3, k4]
    clear k1 k2 k3 k4
    go_enter Tryd.func52, Tryd.ntmps52
    go_wp2_with (go_at_call 65; refine hI.mono ?_; rintro e w' ⟨rfl, hw⟩; rw [hw])
    go_ret3
    exact ⟨rfl, 0, rfl⟩
  · rw [k1] at hI
    rw [k3, k4, k5]
    have hi : i < s.size := by rw [size_list]; exact k2
    clear k1 k3 k4 k5 k2
    have hwr : IntKind.i64.wrap ((i : Int) + 1) = ((i + 1 : Nat) : Int) := by simp [IntKind.wrap_i64]; omega
    go_enter Tryd.func52, Tryd.ntmps52
    go_wp2_with (go_at_call 65; refine hI.mono ?_; rintro e w' ⟨rfl, hw⟩; rw [hw])
    go_quiet (fail)
    go_wp2
    go_ret3
    exact ⟨ret_cut (mk_of_list (by rw [take_list])) (mk_of_list (by rw [Lib.extract_data]; exact List.take_of_length_le (by simp))) rfl, nq, rfl⟩
set_option maxHeartbeats 1000000 in
set_option maxRecDepth 100000 in
theorem cut_any (s : ByteArray) (c : UInt8) (w : World) (hs : s.size ≤ 9223372036854775806) :
    Calls Tryd.prog 25 #[.string s, .string ⟨#[c]⟩] w fun e w' => e = .returned (.tuple #[.string ⟨(cutA c s.data.toList).toArray⟩, .string ⟨(cutZ c s.data.toList).toArray⟩, .bool (cutB c s.data.toList)]) ∧ ∃ n, w' = w.drewN n := by
  have h := cutLite_any s c w hs
  go_enter Tryd.func25, Tryd.ntmps25
  go_wp2_with (go_at_call 52; refine h.mono ?_)
  rintro e w' ⟨rfl, n, rfl⟩
  go_wp2
  go_ret3
  exact ⟨rfl, n, rfl⟩
theorem cutN_eq : ∀ l : List UInt8, cutN l = (cutA 47 l, cutZ 47 l, cutB 47 l)
  | [] => rfl
  | b :: r => by
    unfold cutN
    by_cases hb : b = 47
    · subst hb
      rfl
    · have h1 : (b == 47) = false := by simpa using hb
      have h2 : (b != 47) = true := by simpa using hb
      have h3 : ((47 : UInt8) == b) = false := by simpa using fun e => hb (Eq.symm e)
      rw [h1, if_neg (by decide), cutN_eq r]
      have h4 : (47 : UInt8) = b ↔ False := ⟨fun e => hb e.symm, False.elim⟩
      simp [cutA, cutZ, cutB, h2, h4]
theorem all_step {l : List UInt8} {i : Nat} (h : i < l.length) (p : UInt8 → Bool) : (l.take (i + 1)).all p = ((l.take i).all p && p l[i]) := by
  rw [List.take_add_one, List.getElem?_eq_getElem h, List.all_append]
  simp
theorem all_of_take {l : List UInt8} {i : Nat} (h : i < l.length) (p : UInt8 → Bool) (hp : p l[i] = false) : l.all p = false := by
  rw [Bool.eq_false_iff]
  intro e
  have := List.all_eq_true.1 e l[i] (List.getElem_mem h)
  rw [hp] at this
  cases this
theorem iter_below (w : World) (s : ByteArray) (pos : Nat) : Below w.heap.size w (w.iter s pos) := (Below.refl _ _).alloc (Nat.le_refl _) _
set_option maxHeartbeats 1000000 in
set_option maxRecDepth 1000000 in
theorem user_any (s : ByteArray) (w : World) : Calls Tryd.prog 14 #[.string s] w fun e w' => e = .returned (.bool (userN s.data.toList)) ∧ Below w.heap.size w w' := by
  have hlen := size_list s
  unfold userN
  by_cases h0 : 1 ≤ s.size ∧ s.size ≤ 16
  · rw [← hlen, decide_eq_true h0.1, decide_eq_true h0.2, Bool.true_and, Bool.true_and]
    have g1 : ¬ (s.size : Int) < 1 := by omega
    have g2 : ¬ 16 < (s.size : Int) := by omega
    obtain ⟨h01, h02⟩ := h0
    have HL : Hid (s.size = s.data.toList.length) := hlen
    obtain ⟨r, hr⟩ : ∃ r, s.data.toList.all lowB = r := ⟨_, rfl⟩
    have HR : Hid (s.data.toList.all lowB = r) := hr
    rw [hr]
    clear hlen hr h01
    go_enter Tryd.func14, Tryd.ntmps14
    go_wp2_with fail
    go_loopw [4] (fun _ wr => ∃ i : Nat, wr = w.iter s i ∧ i ≤ s.size ∧ (s.data.toList.take i).all lowB = true) (fun _ wr => s.size - wr.iterPos w.heap.size)
    case atStart => exact ⟨0, rfl, Nat.zero_le _, rfl⟩
    case round =>
      obtain ⟨i, rfl, hi, hall⟩ := hrel
      have HA : Hid ((s.data.toList.take i).all lowB = true) := hall
      clear hall
      by_cases hlt : i < s.size
      · have hnx : ∀ ty, (Instr.next (.pointer (some ⟨w.heap.size, 0, none⟩)) true ty).run Tryd.prog (w.iter s i) = _ := fun ty => run_next_any w s i ty hlt
        have hl2 : i < s.data.toList.length := by rw [← size_list]; exact hlt
        rcases low_rune s i hlt with ⟨k1, k2⟩ | ⟨k1, k2⟩
        · have HS : Hid ((s.data.toList.take (i + 1)).all lowB = true) := by
            show _ = _
            rw [all_step hl2, HA.out, k1]
            rfl
          rw [k2] at hnx
          unfold lowB at k1
          obtain ⟨v, hv⟩ : ∃ v, (s.data.toList[i]'hl2).toNat = v := ⟨_, rfl⟩
          rw [hv] at hnx k1
          simp only [Bool.or_eq_true, decide_eq_true_eq] at k1
          clear hv k2 hl2
          by_cases hv97 : 97 ≤ v
          · have t1 : (97 : Int) ≤ (v : Int) := by omega
            have t2 : (v : Int) ≤ 122 := by omega
            clear k1 hv97
            go_wp2_with fail
            go_roundw
            case rel => exact ⟨i + 1, rfl, by omega, HS.out⟩
            case measure => simp; omega
          · have t1 : ¬ (97 : Int) ≤ (v : Int) := by omega
            have t2 : (48 : Int) ≤ (v : Int) := by omega
            have t3 : (v : Int) ≤ 57 := by omega
            clear k1 hv97
            go_wp2_with fail
            go_roundw
            case rel => exact ⟨i + 1, rfl, by omega, HS.out⟩
            case measure => simp; omega
        · have hrf : r = false := by rw [← HR.out]; exact all_of_take hl2 _ k1
          subst hrf
          obtain ⟨v, hv⟩ : ∃ v, (Utf8.decode s i).1 = v := ⟨_, rfl⟩
          obtain ⟨y, hy⟩ : ∃ y, (Utf8.decode s i).2 = y := ⟨_, rfl⟩
          rw [hv, hy] at hnx
          rw [hv] at k2
          clear hv hy k1 hl2
          by_cases hv97 : 97 ≤ v
          · have t1 : (97 : Int) ≤ (v : Int) := by omega
            have t2 : ¬ (v : Int) ≤ 122 := by omega
            have t3 : (48 : Int) ≤ (v : Int) := by omega
            have t4 : ¬ (v : Int) ≤ 57 := by omega
            clear k2 hv97
            go_wp2_with fail
            go_ret
            exact ⟨rfl, iter_below _ _ _⟩
          · have t1 : ¬ (97 : Int) ≤ (v : Int) := by omega
            by_cases hv48 : 48 ≤ v
            · have t2 : (48 : Int) ≤ (v : Int) := by omega
              have t3 : ¬ (v : Int) ≤ 57 := by omega
              clear k2 hv97 hv48
              go_wp2_with fail
              go_ret
              exact ⟨rfl, iter_below _ _ _⟩
            · have t2 : ¬ (48 : Int) ≤ (v : Int) := by omega
              clear k2 hv97 hv48
              go_wp2_with fail
              go_ret
              exact ⟨rfl, iter_below _ _ _⟩
      · have hnx : ∀ ty, (Instr.next (.pointer (some ⟨w.heap.size, 0, none⟩)) true ty).run Tryd.prog (w.iter s i) = _ := fun ty => run_next_end w s i ty hlt
        have hrt : r = true := by
          rw [← HR.out]
          have := HA.out
          rw [List.take_of_length_le (by rw [← size_list]; omega)] at this
          exact this
        subst hrt
        go_wp2_with fail
        go_ret
        exact ⟨rfl, iter_below _ _ _⟩
  · have hr : (decide (1 ≤ s.data.toList.length) && (decide (s.data.toList.length ≤ 16) && s.data.toList.all lowB)) = false := by
      rw [← hlen]
      by_cases h1 : 1 ≤ s.size
      · rw [decide_eq_false (by omega : ¬ s.size ≤ 16)]
        simp
      · rw [decide_eq_false h1]
        rfl
    rw [hr]
    by_cases h1 : s.size < 1
    · have g1 : (s.size : Int) < 1 := by omega
      clear h0 hr hlen
      go_enter Tryd.func14, Tryd.ntmps14
      go_wp2_with fail
      go_ret
      exact ⟨rfl, Below.refl _ _⟩
    · have g1 : ¬ (s.size : Int) < 1 := by omega
      have g2 : 16 < (s.size : Int) := by omega
      clear h0 hr hlen h1
      go_enter Tryd.func14, Tryd.ntmps14
      go_wp2_with fail
      go_ret
      exact ⟨rfl, Below.refl _ _⟩
set_option maxHeartbeats 1000000 in
set_option maxRecDepth 1000000 in
theorem refUser_any (s : ByteArray) (hs : s.size ≤ 9223372036854775806) (w : World) : Calls Tryd.prog 15 #[.string s] w fun e w' => e = .returned (.bool (userN s.data.toList)) ∧ w' = w := by
  have HL : Hid (s.size = s.data.toList.length) := size_list s
  have HU : Hid (userN s.data.toList = (decide (1 ≤ s.size) && (decide (s.size ≤ 16) && s.data.toList.all lowB))) := by
    show _ = _
    unfold userN
    rw [← size_list]
  obtain ⟨r, hr⟩ : ∃ r, userN s.data.toList = r := ⟨_, rfl⟩
  have HR : Hid (userN s.data.toList = r) := hr
  rw [hr]
  clear hr
  go_enter Tryd.func15, Tryd.ntmps15
  go_wp2_with fail
  go_loopw [3] (fun x wr => ∃ i : Nat, x = .int .i64 (i : Int) ∧ wr = w ∧ i ≤ s.size ∧ (s.data.toList.take i).all lowB = true) (fun x _ => s.size - (intOf x).toNat)
  case atStart => exact ⟨0, rfl, rfl, Nat.zero_le _, rfl⟩
  case round =>
    obtain ⟨i, rfl, rfl, hi, hall⟩ := hrel
    have HA : Hid ((s.data.toList.take i).all lowB = true) := hall
    clear hall
    by_cases hlt : i < s.size
    · have hl2 : i < s.data.toList.length := by rw [← size_list]; exact hlt
      have e3 : (s[i]'hlt).toNat = (s.data.toList[i]'hl2).toNat := by
        rw [← get_list s i hlt]
        simp [ByteArray.get!, getElem!_pos, hlt]
        rfl
      obtain ⟨v, hv⟩ : ∃ v, (s.data.toList[i]'hl2).toNat = v := ⟨_, rfl⟩
      have i0 : (0 : Int) ≤ (i : Int) := by omega
      have i1 : (i : Int) < (s.size : Int) := by omega
      cases hb : lowB (s.data.toList[i]'hl2) with
      | true =>
        have HS : Hid ((s.data.toList.take (i + 1)).all lowB = true) := by
          show _ = _
          rw [all_step hl2, HA.out, hb]
          rfl
        unfold lowB at hb
        rw [hv] at hb e3
        simp only [Bool.or_eq_true, decide_eq_true_eq] at hb
        clear hv hl2
        by_cases hv97 : 97 ≤ v
        · have t1 : (97 : Int) ≤ (v : Int) := by omega
          have t2 : (v : Int) ≤ 122 := by omega
          have t3 : ¬ (v : Int) < 97 := by omega
          clear hb hv97
          go_wp2_with fail
          go_roundw
          case rel => exact ⟨i + 1, by go_num, trivial, by omega, HS.out⟩
          case measure => simp [intOf]; omega
        · have t1 : ¬ (97 : Int) ≤ (v : Int) := by omega
          have t2 : (v : Int) < 97 := by omega
          have t3 : (v : Int) ≤ 57 := by omega
          have t4 : ¬ (v : Int) < 48 := by omega
          have t5 : (48 : Int) ≤ (v : Int) := by omega
          clear hb hv97
          go_wp2_with fail
          go_roundw
          case rel => exact ⟨i + 1, by go_num, trivial, by omega, HS.out⟩
          case measure => simp [intOf]; omega
      | false =>
        have hrf : r = false := by
          rw [← HR.out, HU.out, all_of_take hl2 _ hb, Bool.and_false, Bool.and_false]
        subst hrf
        unfold lowB at hb
        rw [hv] at hb e3
        simp only [Bool.or_eq_false_iff, decide_eq_false_iff_not] at hb
        clear hv hl2
        by_cases hv97 : 97 ≤ v
        · have t1 : (97 : Int) ≤ (v : Int) := by omega
          have t2 : ¬ (v : Int) ≤ 122 := by omega
          have t3 : ¬ (v : Int) < 97 := by omega
          have t4 : ¬ (v : Int) < 48 := by omega
          have t5 : (48 : Int) ≤ (v : Int) := by omega
          have t6 : ¬ (v : Int) ≤ 57 := by omega
          clear hb hv97
          go_wp2_with fail
          go_ret
          exact ⟨rfl, rfl⟩
        · have t1 : ¬ (97 : Int) ≤ (v : Int) := by omega
          have t2 : (v : Int) < 97 := by omega
          by_cases hv48 : 48 ≤ v
          · have t4 : ¬ (v : Int) < 48 := by omega
            have t5 : (48 : Int) ≤ (v : Int) := by omega
            have t6 : ¬ (v : Int) ≤ 57 := by omega
            clear hb hv97 hv48
            go_wp2_with fail
            go_ret
            exact ⟨rfl, rfl⟩
          · have t4 : (v : Int) < 48 := by omega
            have t5 : ¬ (48 : Int) ≤ (v : Int) := by omega
            clear hb hv97 hv48
            go_wp2_with fail
            go_ret
            exact ⟨rfl, rfl⟩
    · have hall : s.data.toList.all lowB = true := by
        have := HA.out
        rw [List.take_of_length_le (by rw [← size_list]; omega)] at this
        exact this
      have hrr : (decide (1 ≤ s.size) && decide (s.size ≤ 16)) = r := by
        rw [← HR.out, HU.out, hall, Bool.and_true]
      have j1 : ¬ (i : Int) < (s.size : Int) := by omega
      clear hall
      by_cases h1 : 1 ≤ s.size
      · rw [decide_eq_true h1, Bool.true_and] at hrr
        have g1 : (1 : Int) ≤ (s.size : Int) := by omega
        have g1' : ¬ (s.size : Int) < 1 := by omega
        by_cases h2 : s.size ≤ 16
        · rw [decide_eq_true h2] at hrr
          subst hrr
          have g2 : (s.size : Int) ≤ 16 := by omega
          go_wp2_with fail
          go_ret
          exact ⟨rfl, rfl⟩
        · rw [decide_eq_false h2] at hrr
          subst hrr
          have g2 : ¬ (s.size : Int) ≤ 16 := by omega
          go_wp2_with fail
          go_ret
          exact ⟨rfl, rfl⟩
      · rw [decide_eq_false h1, Bool.false_and] at hrr
        subst hrr
        have g1 : ¬ (1 : Int) ≤ (s.size : Int) := by omega
        have g1' : (s.size : Int) < 1 := by omega
        go_wp2_with fail
        go_ret
        exact ⟨rfl, rfl⟩
theorem address_aux (s : ByteArray) : (⟨(cutA 47 s.data.toList).toArray⟩ : ByteArray).data.toList = cutA 47 s.data.toList ∧ (⟨(cutZ 47 s.data.toList).toArray⟩ : ByteArray).data.toList = cutZ 47 s.data.toList := ⟨rfl, rfl⟩
/-- What Address answers. -/
def addrR (s : ByteArray) : Ending := if addrOk s.data.toList then .returned (.tuple #[.string ⟨(cutN s.data.toList).1.toArray⟩, .string ⟨(cutN s.data.toList).2.1.toArray⟩, .bool true]) else .returned (.tuple #[.string ⟨#[]⟩, .string ⟨#[]⟩, .bool false])
set_option maxHeartbeats 1000000 in
set_option maxRecDepth 1000000 in
theorem address_any (s : ByteArray) (hs : s.size ≤ 9223372036854775806) (w : World) : Calls Tryd.prog 12 #[.string s] w fun e w' => e = addrR s ∧ Below w.heap.size w w' := by
  have HC := cut_any s 47 w hs
  have HX : Hid (addrOk s.data.toList = (userN (cutA 47 s.data.toList) && (!cutB 47 s.data.toList || userN (cutZ 47 s.data.toList)))) := by
    show _ = _
    unfold addrOk
    rw [cutN_eq]
  have HE : Hid (addrR s = if addrOk s.data.toList then .returned (.tuple #[.string ⟨(cutA 47 s.data.toList).toArray⟩, .string ⟨(cutZ 47 s.data.toList).toArray⟩, .bool true]) else .returned (.tuple #[.string ⟨#[]⟩, .string ⟨#[]⟩, .bool false])) := by
    show _ = _
    unfold addrR
    rw [cutN_eq]
  have HU1 := fun W => user_any ⟨(cutA 47 s.data.toList).toArray⟩ W
  have HU2 := fun W => user_any ⟨(cutZ 47 s.data.toList).toArray⟩ W
  rw [HE.out, HX.out]
  obtain ⟨A, hA⟩ : ∃ A : ByteArray, (⟨(cutA 47 s.data.toList).toArray⟩ : ByteArray) = A := ⟨_, rfl⟩
  obtain ⟨Z, hZ⟩ : ∃ A : ByteArray, (⟨(cutZ 47 s.data.toList).toArray⟩ : ByteArray) = A := ⟨_, rfl⟩
  have eA : A.data.toList = cutA 47 s.data.toList := by rw [← hA]
  have eZ : Z.data.toList = cutZ 47 s.data.toList := by rw [← hZ]
  rw [hA, hZ] at HC ⊢
  rw [hA] at HU1
  rw [hZ] at HU2
  rw [eA] at HU1
  rw [eZ] at HU2
  obtain ⟨b, hb⟩ : ∃ b, cutB 47 s.data.toList = b := ⟨_, rfl⟩
  obtain ⟨u1, hu1⟩ : ∃ b, userN (cutA 47 s.data.toList) = b := ⟨_, rfl⟩
  obtain ⟨u2, hu2⟩ : ∃ b, userN (cutZ 47 s.data.toList) = b := ⟨_, rfl⟩
  rw [hb] at HC ⊢
  rw [hu1] at HU1 ⊢
  rw [hu2] at HU2 ⊢
  clear HX HE hA hZ eA eZ hb hu1 hu2 hs
  cases b <;> cases u1 <;> cases u2 <;> (
    first
      | rw [if_pos (by rfl)]
      | rw [if_neg (by decide)]
    go_enter Tryd.func12, Tryd.ntmps12
    go_wp2_with (first
      | (go_at_call 25; refine HC.mono ?_; rintro e w1 ⟨rfl, n, rfl⟩)
      | (go_at_call_of 14 (Value.string Z); refine (HU2 _).mono ?_; rintro e w3 ⟨rfl, hb3⟩; have HB3 : Hid (Below w.heap.size w w3) := HB2.out.trans (hb3.mono hz2); clear hb3)
      | (go_at_call_of 14 (Value.string A); refine (HU1 _).mono ?_; rintro e w2 ⟨rfl, hb2⟩; have HB2 : Hid (Below w.heap.size w w2) := ⟨hb2.os, hb2.tape, hb2.output, hb2.size, hb2.block⟩; have hz2 : w.heap.size ≤ w2.heap.size := hb2.size; clear hb2))
    go_ret3
    first
      | exact ⟨rfl, HB3.out⟩
      | exact ⟨rfl, HB2.out⟩)
theorem slice_all (s : ByteArray) : s.extract 0 s.size = s := by
  apply ByteArray.ext
  simp
theorem cutN_at {l : List UInt8} {i : Nat} (h : i < l.length) (hn : ∀ x ∈ l.take i, (x == 47) = false) (hx : l[i] = 47) : cutN l = (l.take i, l.drop (i + 1), true) := by
  induction i generalizing l with
  | zero =>
    cases l with
    | nil => simp at h
    | cons b r =>
      simp at hx
      subst hx
      rfl
  | succ i ih =>
    cases l with
    | nil => simp at h
    | cons b r =>
      have hb := hn b (by simp)
      unfold cutN
      rw [hb, if_neg (by decide), ih (by simpa using h) (fun x hx' => hn x (by simp [hx'])) (by simpa using hx)]
      rfl
theorem cutN_none {l : List UInt8} (hn : ∀ x ∈ l, (x == 47) = false) : cutN l = (l, [], false) := by
  induction l with
  | nil => rfl
  | cons b r ih =>
    have hb := hn b (by simp)
    unfold cutN
    rw [hb, if_neg (by decide), ih fun x hx => hn x (by simp [hx])]
/-- What the document's Address answers. -/
def refAddr (s : ByteArray) : Ending := .returned (.tuple #[.string ⟨(cutN s.data.toList).1.toArray⟩, .string ⟨(cutN s.data.toList).2.1.toArray⟩, .bool (addrOk s.data.toList)])
set_option maxHeartbeats 2000000 in
set_option maxRecDepth 1000000 in
theorem refAddress_any (s : ByteArray) (hs : s.size ≤ 9223372036854775806) (w : World) : Calls Tryd.prog 13 #[.string s] w fun e w' => e = refAddr s ∧ ∃ d, w' = w.drewN d := by
  obtain ⟨R, hR⟩ : ∃ R, refAddr s = R := ⟨_, rfl⟩
  have HRR : Hid (refAddr s = R) := hR
  rw [hR]
  clear hR
  go_enter Tryd.func13, Tryd.ntmps13
  go_wp2_with fail
  go_loopw [5] (fun x wr => ∃ i : Nat, x = .int .i64 (i : Int) ∧ wr = w ∧ i ≤ s.size ∧ (∀ x ∈ s.data.toList.take i, (x == 47) = false)) (fun x _ => s.size - (intOf x).toNat)
  case atStart => exact ⟨0, rfl, rfl, Nat.zero_le _, fun x hx => by simp at hx⟩
  case round =>
    obtain ⟨i, rfl, rfl, hi, hall⟩ := hrel
    have HA : Hid (∀ x ∈ s.data.toList.take i, (x == 47) = false) := hall
    clear hall
    by_cases hlt : i < s.size
    · have hl2 : i < s.data.toList.length := by rw [← size_list]; exact hlt
      have e3 : (s[i]'hlt).toNat = (s.data.toList[i]'hl2).toNat := by
        rw [← get_list s i hlt]
        simp [ByteArray.get!, getElem!_pos, hlt]
        rfl
      have i0 : (0 : Int) ≤ (i : Int) := by omega
      have i1 : (i : Int) < (s.size : Int) := by omega
      have i2 : (i : Int) ≤ (s.size : Int) := by omega
      have i3 : IntKind.i64.wrap ((i : Int) + 1) = ((i + 1 : Nat) : Int) := by simp only [IntKind.wrap_i64]; omega
      have i4 : ((i + 1 : Nat) : Int) ≤ (s.size : Int) := by omega
      have i5 : (0 : Int) ≤ ((i + 1 : Nat) : Int) := by omega
      by_cases hb : s.data.toList[i]'hl2 = 47
      · have HC : Hid (cutN s.data.toList = (s.data.toList.take i, s.data.toList.drop (i + 1), true)) := cutN_at hl2 HA.out hb
        have v47 : (s[i]'hlt).toNat = 47 := by rw [e3, hb]; rfl
        obtain ⟨A, hA⟩ : ∃ A, s.extract 0 i = A := ⟨_, rfl⟩
        obtain ⟨Z, hZ⟩ : ∃ A, s.extract (i + 1) s.size = A := ⟨_, rfl⟩
        have eA : A.data.toList = s.data.toList.take i := by rw [← hA, take_list]
        have eZ : Z.data.toList = s.data.toList.drop (i + 1) := by
          rw [← hZ, Lib.extract_data]
          exact List.take_of_length_le (by simp)
        have HAo : Hid (addrOk s.data.toList = (userN A.data.toList && userN Z.data.toList)) := by
          show _ = _
          unfold addrOk
          rw [HC.out, eA, eZ]
          simp
        have HRF : Hid (refAddr s = .returned (.tuple #[.string A, .string Z, .bool (userN A.data.toList && userN Z.data.toList)])) := by
          show _ = _
          unfold refAddr
          rw [HAo.out, HC.out]
          rw [← eA, ← eZ]
        have HU1 := fun W => refUser_any A (by rw [← hA]; simp; omega) W
        have HU2 := fun W => refUser_any Z (by rw [← hZ]; simp; omega) W
        have HRF2 : Hid (R = .returned (.tuple #[.string A, .string Z, .bool (userN A.data.toList && userN Z.data.toList)])) := by
          show _ = _
          rw [← HRR.out, HRF.out]
        obtain ⟨u1, hu1⟩ : ∃ b, userN A.data.toList = b := ⟨_, rfl⟩
        obtain ⟨u2, hu2⟩ : ∃ b, userN Z.data.toList = b := ⟨_, rfl⟩
        rw [hu1] at HU1 HRF2
        rw [hu2] at HU2 HRF2
        clear hb e3 HC HAo HRF eA eZ hu1 hu2 HRR
        cases u1 <;> cases u2 <;> (
          go_wp2_with fail
          go_quiet (first
            | (go_at_call_of 15 (Value.string A); refine Calls.quiet_of_same (HU1 _))
            | (go_at_call_of 15 (Value.string Z); refine Calls.quiet_of_same (HU2 _)))
          go_wp2_with fail
          go_ret3
          exact ⟨by rw [HRF2.out]; rfl, _, rfl⟩)
      · have hne : ¬ ((s[i]'hlt).toNat : Int) = 47 := by
          rw [e3]
          intro e
          apply hb
          apply UInt8.toNat.inj
          have e2 : (s.data.toList[i]'hl2).toNat = 47 := by omega
          rw [e2]
          rfl
        have hne2 : (((s[i]'hlt).toNat : Int) == 47) = false := by simpa using hne
        obtain ⟨v, hv⟩ : ∃ v, (s[i]'hlt).toNat = v := ⟨_, rfl⟩
        rw [hv] at hne hne2
        have hne3 : ¬ v = 47 := by omega
        have HS : Hid (∀ x ∈ s.data.toList.take (i + 1), (x == 47) = false) := by
          intro x hx
          rw [List.take_add_one, List.getElem?_eq_getElem hl2] at hx
          rcases List.mem_append.1 hx with h | h
          · exact HA.out x h
          · simp at h
            rw [h]
            simpa using hb
        clear hb e3 hl2
        go_wp2_with fail
        go_roundw
        case rel => exact ⟨i + 1, by go_num, trivial, by omega, HS.out⟩
        case measure => simp [intOf]; omega
    · have hall : ∀ x ∈ s.data.toList, (x == 47) = false := by
        have := HA.out
        rw [List.take_of_length_le (by rw [← size_list]; omega)] at this
        exact this
      have HRF2 : Hid (R = .returned (.tuple #[.string s, .string ⟨#[]⟩, .bool (userN s.data.toList)])) := by
        show _ = _
        rw [← HRR.out]
        unfold refAddr addrOk
        rw [cutN_none hall]
        have e : (⟨s.data.toList.toArray⟩ : ByteArray) = s := (mk_of_list rfl).symm
        rw [e]
        simp
      have HU1 := fun W => refUser_any s hs W
      obtain ⟨u1, hu1⟩ : ∃ b, userN s.data.toList = b := ⟨_, rfl⟩
      rw [hu1] at HU1 HRF2
      have j1 : ¬ (i : Int) < (s.size : Int) := by omega
      clear hall hu1 HRR
      go_wp2_with (go_at_call 15; refine (HU1 _).mono ?_; rintro e w1 ⟨rfl, rfl⟩)
      go_ret3
      exact ⟨by rw [HRF2.out]; rfl, 0, rfl⟩
end Go.Proofs.YtmmkfpeckfmjeaaDoor
