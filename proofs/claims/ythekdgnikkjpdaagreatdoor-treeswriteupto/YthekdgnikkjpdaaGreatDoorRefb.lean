/-
  The contract of the reference's Sign over this program: for every string.
-/
import Derived.Test.YthekdgnikkjpdaaGreatDoorRefa
namespace Go.Proofs.YthekdgnikkjpdaaGreatDoor
open Go.RowKit
theorem byte_at (s : ByteArray) (k : Nat) (h : k < s.size) : s.data.toList[k]? = some (s[k]'h) := by
  rw [List.getElem?_eq_getElem (by rw [← size_list]; exact h)]
  rfl
theorem byte_end (s : ByteArray) (k : Nat) (h : s.size ≤ k) : s.data.toList[k]? = none := List.getElem?_eq_none (by rw [← size_list]; exact h)
theorem cont_all (l : List UInt8) (n : Nat) (h : ∀ j d, 1 ≤ j → j < n → l[j]? = some d → cont d = true) : ((l.drop 1).take (n - 1)).all cont = true := by
  rw [List.all_eq_true]
  intro d hd
  obtain ⟨i, hi, rfl⟩ := List.mem_take_iff_getElem.1 hd
  rw [List.getElem_drop]
  refine h (1 + i) _ (by omega) (by omega) (List.getElem?_eq_getElem _)
theorem cont_any (l : List UInt8) (n j : Nat) (d : UInt8) (h1 : 1 ≤ j) (h2 : j < n) (h : l[j]? = some d) (hd : cont d = false) : ((l.drop 1).take (n - 1)).all cont = false := by
  rw [List.all_eq_false]
  refine ⟨d, ?_, by simp [hd]⟩
  obtain ⟨hj, rfl⟩ := List.getElem?_eq_some_iff.1 h
  rw [List.mem_take_iff_getElem]
  refine ⟨j - 1, by rw [List.length_drop]; omega, ?_⟩
  rw [List.getElem_drop]
  congr 1
  omega
theorem ret_ref {a b : Nat × Int} (h : a = b) : Ending.returned (.tuple #[.int .i64 (a.1 : Nat), .int .i64 a.2]) = .returned (.tuple #[.int .i64 (b.1 : Nat), .int .i64 b.2]) := by rw [h]
theorem val_int {a b : Int} (h : a = b) : Value.int .i64 a = .int .i64 b := by rw [h]
theorem not_empty (s : ByteArray) (h0 : 0 < s.size) : s.toList.isEmpty = false := by
  rw [Lib.toList_data]
  apply ne_isEmpty
  intro e
  have := congrArg List.length e
  rw [← size_list, List.length_nil] at this
  omega
set_option maxHeartbeats 4000000 in
set_option maxRecDepth 100000 in
theorem refSign_2 (s : ByteArray) (w : World) (h0 : 0 < s.size) (hs : s.size ≤ 2000000) (ha : (192 : Int) ≤ ((s[0]'h0).toNat : Int)) (ha' : ((s[0]'h0).toNat : Int) < 224) :
    Calls Tryz.prog 47 #[.string s] w fun e w' => e = .returned (.tuple #[.int .i64 ((refF 2 ((s[0]'h0).toNat - 192) 128 s.data.toList).1 : Nat), .int .i64 (refF 2 ((s[0]'h0).toNat - 192) 128 s.data.toList).2]) ∧ w' = w := by
  have he := not_empty s h0
  obtain ⟨v, hv⟩ : ∃ v : Nat, v = (s[0]'h0).toNat - 192 := ⟨_, rfl⟩
  have hv31 : v ≤ 31 := by omega
  have hvc : (((s[0]'h0).toNat : Int) - 192) = (v : Int) := by omega
  rw [← hv]
  have HVC : Hid _ := hvc
  clear hvc hv
  go_enter Tryz.func47, Tryz.ntmps47
  go_wp2
  go_loop [8, 9, 10] (fun lo hi i => ∃ m : Nat, m + 1 ≤ 2 ∧ i = .int .i64 ((m : Int) + 1) ∧ lo = .int .i64 (loF v s.data.toList m : Nat) ∧ hi = .int .i64 (hiF v s.data.toList m : Nat) ∧ ∀ j d, 1 ≤ j → j < m + 1 → s.data.toList[j]? = some d → cont d = true) (fun _ _ i => 2 - (intOf i).toNat)
  case atStart => exact ⟨0, by omega, rfl, val_int HVC.out, val_int HVC.out, by omega⟩
  case round =>
    obtain ⟨m, hm, rfl, rfl, rfl, hall⟩ := hrel
    have HALL : Hid _ := hall
    clear hall
    obtain ⟨hb1, hb2⟩ := lohi_bound v s.data.toList hv31 m (by omega)
    by_cases hlt : m + 1 < 2
    · by_cases hsz : s.size ≤ m + 1
      · have HL : Hid (loF v s.data.toList (m + 1) = 64 * loF v s.data.toList m) := by
          show _ = _
          rw [loF, byte_end s (m + 1) hsz]
          simp only [Nat.add_zero]
        have HH : Hid (hiF v s.data.toList (m + 1) = 64 * hiF v s.data.toList m + 63) := by
          show _ = _
          rw [hiF, byte_end s (m + 1) hsz]
        go_wp2
        go_round
        case rel =>
          refine ⟨m + 1, by omega, by go_num, val_int (by rw [HL.out]; omega), val_int (by rw [HH.out]; omega), ?_⟩
          intro j d q1 q2 q3
          by_cases hj : j = m + 1
          · subst hj
            rw [byte_end s (m + 1) hsz] at q3
            cases q3
          · exact HALL.out j d q1 (by omega) q3
        case measure => simp [intOf]; omega
      · have hk : m + 1 < s.size := by omega
        have hbt := byte_at s (m + 1) hk
        by_cases hc1 : ((s[m + 1]'hk).toNat : Int) < 128
        · have HF : Hid (refF 2 v 128 s.data.toList = (0, 0)) := refF_bad (cont_any _ 2 (m + 1) _ (by omega) hlt hbt (cont_mk_no (by omega)))
          clear hbt
          go_wp2
          go_ret2
          exact ⟨ret_ref (a := (0, 0)) HF.out.symm, rfl⟩
        by_cases hc2 : (192 : Int) ≤ ((s[m + 1]'hk).toNat : Int)
        · have HF : Hid (refF 2 v 128 s.data.toList = (0, 0)) := refF_bad (cont_any _ 2 (m + 1) _ (by omega) hlt hbt (cont_mk_no (by omega)))
          have hc1' : (128 : Int) ≤ ((s[m + 1]'hk).toNat : Int) := by omega
          have hc2' : ((s[m + 1]'hk).toNat : Int) < 256 := by have := (s[m + 1]'hk).toNat_lt; omega
          clear hbt hc1
          go_wp2
          go_ret2
          exact ⟨ret_ref (a := (0, 0)) HF.out.symm, rfl⟩
        · have hc1' : (128 : Int) ≤ ((s[m + 1]'hk).toNat : Int) := by omega
          have hc2' : ((s[m + 1]'hk).toNat : Int) < 192 := by omega
          have HL : Hid (loF v s.data.toList (m + 1) = 64 * loF v s.data.toList m + ((s[m + 1]'hk).toNat - 128)) := by
            show _ = _
            rw [loF, hbt]
            simp only
            omega
          have HH : Hid (hiF v s.data.toList (m + 1) = 64 * hiF v s.data.toList m + ((s[m + 1]'hk).toNat - 128)) := by
            show _ = _
            rw [hiF, hbt]
            simp only
            omega
          have HB : Hid _ := hbt
          have hw : wrap64 ((s[m + 1]'hk).toNat : Int) = ((s[m + 1]'hk).toNat : Int) := IntWalk.wrap64_in _ ⟨by omega, by omega⟩
          clear hbt hc1 hc2
          go_wp2
          go_round
          case rel =>
            refine ⟨m + 1, by omega, by go_num, val_int (by rw [HL.out]; omega), val_int (by rw [HH.out]; omega), ?_⟩
            intro j d q1 q2 q3
            by_cases hj : j = m + 1
            · subst hj
              rw [HB.out] at q3
              cases q3
              exact cont_mk (by omega) (by omega)
            · exact HALL.out j d q1 (by omega) q3
          case measure => simp [intOf]; omega
    · have hmn : m = 1 := by omega
      subst hmn
      have HF : Hid (refF 2 v 128 s.data.toList = finF 2 128 (loF v s.data.toList 1) (hiF v s.data.toList 1) s.size) := by
        show _ = _
        rw [refF_ok (cont_all _ 2 fun j d q1 q2 q3 => HALL.out j d q1 (by omega) q3), ← size_list]
      obtain ⟨x, hx⟩ : ∃ x : Nat, x = loF v s.data.toList 1 := ⟨_, rfl⟩
      obtain ⟨y, hy⟩ : ∃ y : Nat, y = hiF v s.data.toList 1 := ⟨_, rfl⟩
      rw [← hx, ← hy] at HF
      rw [← hx] at hb1
      rw [← hy] at hb2
      rw [← hx, ← hy]
      clear hx hy HALL hlt hm HVC
      by_cases hlen : 2 ≤ s.size
      · by_cases t1 : x < 128
        · have e : refF 2 v 128 s.data.toList = (0, 0) := by rw [HF.out, finF_okBad hlen (by omega)]
          have HE : Hid _ := e
          clear e HF
          go_wp2
          go_ret2
          exact ⟨ret_ref (a := (0, 0)) HE.out.symm, rfl⟩
        by_cases t2 : 1114111 < x
        · have e : refF 2 v 128 s.data.toList = (0, 0) := by rw [HF.out, finF_okBad hlen (by omega)]
          have HE : Hid _ := e
          clear e HF
          go_wp2
          go_ret2
          exact ⟨ret_ref (a := (0, 0)) HE.out.symm, rfl⟩
        by_cases t3 : x < 55296
        · have e : refF 2 v 128 s.data.toList = (x, (2 : Int)) := by rw [HF.out, finF_ok hlen (by omega) (by omega) (by omega)]; rfl
          have HE : Hid _ := e
          clear e HF
          go_wp2
          go_ret2
          exact ⟨ret_ref (a := (x, (2 : Int))) HE.out.symm, rfl⟩
        by_cases t4 : x ≤ 57343
        · have e : refF 2 v 128 s.data.toList = (0, 0) := by rw [HF.out, finF_okBad hlen (by omega)]
          have HE : Hid _ := e
          clear e HF
          go_wp2
          go_ret2
          exact ⟨ret_ref (a := (0, 0)) HE.out.symm, rfl⟩
        · have e : refF 2 v 128 s.data.toList = (x, (2 : Int)) := by rw [HF.out, finF_ok hlen (by omega) (by omega) (by omega)]; rfl
          have HE : Hid _ := e
          clear e HF
          go_wp2
          go_ret2
          exact ⟨ret_ref (a := (x, (2 : Int))) HE.out.symm, rfl⟩
      · by_cases t1 : y < 128
        · have e : refF 2 v 128 s.data.toList = (0, 0) := by rw [HF.out, finF_partBad (by omega) (by omega)]
          have HE : Hid _ := e
          clear e HF
          go_wp2
          go_ret2
          exact ⟨ret_ref (a := (0, 0)) HE.out.symm, rfl⟩
        by_cases t2 : 1114111 < x
        · have e : refF 2 v 128 s.data.toList = (0, 0) := by rw [HF.out, finF_partBad (by omega) (by omega)]
          have HE : Hid _ := e
          clear e HF
          go_wp2
          go_ret2
          exact ⟨ret_ref (a := (0, 0)) HE.out.symm, rfl⟩
        by_cases t3 : x < 55296
        · have e : refF 2 v 128 s.data.toList = (0, -1) := by rw [HF.out, finF_part (by omega) (by omega) (by omega) (by omega)]
          have HE : Hid _ := e
          clear e HF
          go_wp2
          go_ret2
          exact ⟨ret_ref (a := (0, -1)) HE.out.symm, rfl⟩
        by_cases t4 : y ≤ 57343
        · have e : refF 2 v 128 s.data.toList = (0, 0) := by rw [HF.out, finF_partBad (by omega) (by omega)]
          have HE : Hid _ := e
          clear e HF
          go_wp2
          go_ret2
          exact ⟨ret_ref (a := (0, 0)) HE.out.symm, rfl⟩
        · have e : refF 2 v 128 s.data.toList = (0, -1) := by rw [HF.out, finF_part (by omega) (by omega) (by omega) (by omega)]
          have HE : Hid _ := e
          clear e HF
          go_wp2
          go_ret2
          exact ⟨ret_ref (a := (0, -1)) HE.out.symm, rfl⟩
set_option maxHeartbeats 4000000 in
set_option maxRecDepth 100000 in
theorem refSign_3 (s : ByteArray) (w : World) (h0 : 0 < s.size) (hs : s.size ≤ 2000000) (ha : (224 : Int) ≤ ((s[0]'h0).toNat : Int)) (ha' : ((s[0]'h0).toNat : Int) < 240) :
    Calls Tryz.prog 47 #[.string s] w fun e w' => e = .returned (.tuple #[.int .i64 ((refF 3 ((s[0]'h0).toNat - 224) 2048 s.data.toList).1 : Nat), .int .i64 (refF 3 ((s[0]'h0).toNat - 224) 2048 s.data.toList).2]) ∧ w' = w := by
  have he := not_empty s h0
  obtain ⟨v, hv⟩ : ∃ v : Nat, v = (s[0]'h0).toNat - 224 := ⟨_, rfl⟩
  have hv31 : v ≤ 31 := by omega
  have hvc : (((s[0]'h0).toNat : Int) - 224) = (v : Int) := by omega
  rw [← hv]
  have HVC : Hid _ := hvc
  clear hvc hv
  go_enter Tryz.func47, Tryz.ntmps47
  go_wp2
  go_loop [8, 9, 10] (fun lo hi i => ∃ m : Nat, m + 1 ≤ 3 ∧ i = .int .i64 ((m : Int) + 1) ∧ lo = .int .i64 (loF v s.data.toList m : Nat) ∧ hi = .int .i64 (hiF v s.data.toList m : Nat) ∧ ∀ j d, 1 ≤ j → j < m + 1 → s.data.toList[j]? = some d → cont d = true) (fun _ _ i => 3 - (intOf i).toNat)
  case atStart => exact ⟨0, by omega, rfl, val_int HVC.out, val_int HVC.out, by omega⟩
  case round =>
    obtain ⟨m, hm, rfl, rfl, rfl, hall⟩ := hrel
    have HALL : Hid _ := hall
    clear hall
    obtain ⟨hb1, hb2⟩ := lohi_bound v s.data.toList hv31 m (by omega)
    by_cases hlt : m + 1 < 3
    · by_cases hsz : s.size ≤ m + 1
      · have HL : Hid (loF v s.data.toList (m + 1) = 64 * loF v s.data.toList m) := by
          show _ = _
          rw [loF, byte_end s (m + 1) hsz]
          simp only [Nat.add_zero]
        have HH : Hid (hiF v s.data.toList (m + 1) = 64 * hiF v s.data.toList m + 63) := by
          show _ = _
          rw [hiF, byte_end s (m + 1) hsz]
        go_wp2
        go_round
        case rel =>
          refine ⟨m + 1, by omega, by go_num, val_int (by rw [HL.out]; omega), val_int (by rw [HH.out]; omega), ?_⟩
          intro j d q1 q2 q3
          by_cases hj : j = m + 1
          · subst hj
            rw [byte_end s (m + 1) hsz] at q3
            cases q3
          · exact HALL.out j d q1 (by omega) q3
        case measure => simp [intOf]; omega
      · have hk : m + 1 < s.size := by omega
        have hbt := byte_at s (m + 1) hk
        by_cases hc1 : ((s[m + 1]'hk).toNat : Int) < 128
        · have HF : Hid (refF 3 v 2048 s.data.toList = (0, 0)) := refF_bad (cont_any _ 3 (m + 1) _ (by omega) hlt hbt (cont_mk_no (by omega)))
          clear hbt
          go_wp2
          go_ret2
          exact ⟨ret_ref (a := (0, 0)) HF.out.symm, rfl⟩
        by_cases hc2 : (192 : Int) ≤ ((s[m + 1]'hk).toNat : Int)
        · have HF : Hid (refF 3 v 2048 s.data.toList = (0, 0)) := refF_bad (cont_any _ 3 (m + 1) _ (by omega) hlt hbt (cont_mk_no (by omega)))
          have hc1' : (128 : Int) ≤ ((s[m + 1]'hk).toNat : Int) := by omega
          have hc2' : ((s[m + 1]'hk).toNat : Int) < 256 := by have := (s[m + 1]'hk).toNat_lt; omega
          clear hbt hc1
          go_wp2
          go_ret2
          exact ⟨ret_ref (a := (0, 0)) HF.out.symm, rfl⟩
        · have hc1' : (128 : Int) ≤ ((s[m + 1]'hk).toNat : Int) := by omega
          have hc2' : ((s[m + 1]'hk).toNat : Int) < 192 := by omega
          have HL : Hid (loF v s.data.toList (m + 1) = 64 * loF v s.data.toList m + ((s[m + 1]'hk).toNat - 128)) := by
            show _ = _
            rw [loF, hbt]
            simp only
            omega
          have HH : Hid (hiF v s.data.toList (m + 1) = 64 * hiF v s.data.toList m + ((s[m + 1]'hk).toNat - 128)) := by
            show _ = _
            rw [hiF, hbt]
            simp only
            omega
          have HB : Hid _ := hbt
          have hw : wrap64 ((s[m + 1]'hk).toNat : Int) = ((s[m + 1]'hk).toNat : Int) := IntWalk.wrap64_in _ ⟨by omega, by omega⟩
          clear hbt hc1 hc2
          go_wp2
          go_round
          case rel =>
            refine ⟨m + 1, by omega, by go_num, val_int (by rw [HL.out]; omega), val_int (by rw [HH.out]; omega), ?_⟩
            intro j d q1 q2 q3
            by_cases hj : j = m + 1
            · subst hj
              rw [HB.out] at q3
              cases q3
              exact cont_mk (by omega) (by omega)
            · exact HALL.out j d q1 (by omega) q3
          case measure => simp [intOf]; omega
    · have hmn : m = 2 := by omega
      subst hmn
      have HF : Hid (refF 3 v 2048 s.data.toList = finF 3 2048 (loF v s.data.toList 2) (hiF v s.data.toList 2) s.size) := by
        show _ = _
        rw [refF_ok (cont_all _ 3 fun j d q1 q2 q3 => HALL.out j d q1 (by omega) q3), ← size_list]
      obtain ⟨x, hx⟩ : ∃ x : Nat, x = loF v s.data.toList 2 := ⟨_, rfl⟩
      obtain ⟨y, hy⟩ : ∃ y : Nat, y = hiF v s.data.toList 2 := ⟨_, rfl⟩
      rw [← hx, ← hy] at HF
      rw [← hx] at hb1
      rw [← hy] at hb2
      rw [← hx, ← hy]
      clear hx hy HALL hlt hm HVC
      by_cases hlen : 3 ≤ s.size
      · by_cases t1 : x < 2048
        · have e : refF 3 v 2048 s.data.toList = (0, 0) := by rw [HF.out, finF_okBad hlen (by omega)]
          have HE : Hid _ := e
          clear e HF
          go_wp2
          go_ret2
          exact ⟨ret_ref (a := (0, 0)) HE.out.symm, rfl⟩
        by_cases t2 : 1114111 < x
        · have e : refF 3 v 2048 s.data.toList = (0, 0) := by rw [HF.out, finF_okBad hlen (by omega)]
          have HE : Hid _ := e
          clear e HF
          go_wp2
          go_ret2
          exact ⟨ret_ref (a := (0, 0)) HE.out.symm, rfl⟩
        by_cases t3 : x < 55296
        · have e : refF 3 v 2048 s.data.toList = (x, (3 : Int)) := by rw [HF.out, finF_ok hlen (by omega) (by omega) (by omega)]; rfl
          have HE : Hid _ := e
          clear e HF
          go_wp2
          go_ret2
          exact ⟨ret_ref (a := (x, (3 : Int))) HE.out.symm, rfl⟩
        by_cases t4 : x ≤ 57343
        · have e : refF 3 v 2048 s.data.toList = (0, 0) := by rw [HF.out, finF_okBad hlen (by omega)]
          have HE : Hid _ := e
          clear e HF
          go_wp2
          go_ret2
          exact ⟨ret_ref (a := (0, 0)) HE.out.symm, rfl⟩
        · have e : refF 3 v 2048 s.data.toList = (x, (3 : Int)) := by rw [HF.out, finF_ok hlen (by omega) (by omega) (by omega)]; rfl
          have HE : Hid _ := e
          clear e HF
          go_wp2
          go_ret2
          exact ⟨ret_ref (a := (x, (3 : Int))) HE.out.symm, rfl⟩
      · by_cases t1 : y < 2048
        · have e : refF 3 v 2048 s.data.toList = (0, 0) := by rw [HF.out, finF_partBad (by omega) (by omega)]
          have HE : Hid _ := e
          clear e HF
          go_wp2
          go_ret2
          exact ⟨ret_ref (a := (0, 0)) HE.out.symm, rfl⟩
        by_cases t2 : 1114111 < x
        · have e : refF 3 v 2048 s.data.toList = (0, 0) := by rw [HF.out, finF_partBad (by omega) (by omega)]
          have HE : Hid _ := e
          clear e HF
          go_wp2
          go_ret2
          exact ⟨ret_ref (a := (0, 0)) HE.out.symm, rfl⟩
        by_cases t3 : x < 55296
        · have e : refF 3 v 2048 s.data.toList = (0, -1) := by rw [HF.out, finF_part (by omega) (by omega) (by omega) (by omega)]
          have HE : Hid _ := e
          clear e HF
          go_wp2
          go_ret2
          exact ⟨ret_ref (a := (0, -1)) HE.out.symm, rfl⟩
        by_cases t4 : y ≤ 57343
        · have e : refF 3 v 2048 s.data.toList = (0, 0) := by rw [HF.out, finF_partBad (by omega) (by omega)]
          have HE : Hid _ := e
          clear e HF
          go_wp2
          go_ret2
          exact ⟨ret_ref (a := (0, 0)) HE.out.symm, rfl⟩
        · have e : refF 3 v 2048 s.data.toList = (0, -1) := by rw [HF.out, finF_part (by omega) (by omega) (by omega) (by omega)]
          have HE : Hid _ := e
          clear e HF
          go_wp2
          go_ret2
          exact ⟨ret_ref (a := (0, -1)) HE.out.symm, rfl⟩
set_option maxHeartbeats 4000000 in
set_option maxRecDepth 100000 in
theorem refSign_4 (s : ByteArray) (w : World) (h0 : 0 < s.size) (hs : s.size ≤ 2000000) (ha : (240 : Int) ≤ ((s[0]'h0).toNat : Int)) (ha' : ((s[0]'h0).toNat : Int) < 248) :
    Calls Tryz.prog 47 #[.string s] w fun e w' => e = .returned (.tuple #[.int .i64 ((refF 4 ((s[0]'h0).toNat - 240) 65536 s.data.toList).1 : Nat), .int .i64 (refF 4 ((s[0]'h0).toNat - 240) 65536 s.data.toList).2]) ∧ w' = w := by
  have he := not_empty s h0
  obtain ⟨v, hv⟩ : ∃ v : Nat, v = (s[0]'h0).toNat - 240 := ⟨_, rfl⟩
  have hv31 : v ≤ 31 := by omega
  have hvc : (((s[0]'h0).toNat : Int) - 240) = (v : Int) := by omega
  rw [← hv]
  have HVC : Hid _ := hvc
  clear hvc hv
  go_enter Tryz.func47, Tryz.ntmps47
  go_wp2
  go_loop [8, 9, 10] (fun lo hi i => ∃ m : Nat, m + 1 ≤ 4 ∧ i = .int .i64 ((m : Int) + 1) ∧ lo = .int .i64 (loF v s.data.toList m : Nat) ∧ hi = .int .i64 (hiF v s.data.toList m : Nat) ∧ ∀ j d, 1 ≤ j → j < m + 1 → s.data.toList[j]? = some d → cont d = true) (fun _ _ i => 4 - (intOf i).toNat)
  case atStart => exact ⟨0, by omega, rfl, val_int HVC.out, val_int HVC.out, by omega⟩
  case round =>
    obtain ⟨m, hm, rfl, rfl, rfl, hall⟩ := hrel
    have HALL : Hid _ := hall
    clear hall
    obtain ⟨hb1, hb2⟩ := lohi_bound v s.data.toList hv31 m (by omega)
    by_cases hlt : m + 1 < 4
    · by_cases hsz : s.size ≤ m + 1
      · have HL : Hid (loF v s.data.toList (m + 1) = 64 * loF v s.data.toList m) := by
          show _ = _
          rw [loF, byte_end s (m + 1) hsz]
          simp only [Nat.add_zero]
        have HH : Hid (hiF v s.data.toList (m + 1) = 64 * hiF v s.data.toList m + 63) := by
          show _ = _
          rw [hiF, byte_end s (m + 1) hsz]
        go_wp2
        go_round
        case rel =>
          refine ⟨m + 1, by omega, by go_num, val_int (by rw [HL.out]; omega), val_int (by rw [HH.out]; omega), ?_⟩
          intro j d q1 q2 q3
          by_cases hj : j = m + 1
          · subst hj
            rw [byte_end s (m + 1) hsz] at q3
            cases q3
          · exact HALL.out j d q1 (by omega) q3
        case measure => simp [intOf]; omega
      · have hk : m + 1 < s.size := by omega
        have hbt := byte_at s (m + 1) hk
        by_cases hc1 : ((s[m + 1]'hk).toNat : Int) < 128
        · have HF : Hid (refF 4 v 65536 s.data.toList = (0, 0)) := refF_bad (cont_any _ 4 (m + 1) _ (by omega) hlt hbt (cont_mk_no (by omega)))
          clear hbt
          go_wp2
          go_ret2
          exact ⟨ret_ref (a := (0, 0)) HF.out.symm, rfl⟩
        by_cases hc2 : (192 : Int) ≤ ((s[m + 1]'hk).toNat : Int)
        · have HF : Hid (refF 4 v 65536 s.data.toList = (0, 0)) := refF_bad (cont_any _ 4 (m + 1) _ (by omega) hlt hbt (cont_mk_no (by omega)))
          have hc1' : (128 : Int) ≤ ((s[m + 1]'hk).toNat : Int) := by omega
          have hc2' : ((s[m + 1]'hk).toNat : Int) < 256 := by have := (s[m + 1]'hk).toNat_lt; omega
          clear hbt hc1
          go_wp2
          go_ret2
          exact ⟨ret_ref (a := (0, 0)) HF.out.symm, rfl⟩
        · have hc1' : (128 : Int) ≤ ((s[m + 1]'hk).toNat : Int) := by omega
          have hc2' : ((s[m + 1]'hk).toNat : Int) < 192 := by omega
          have HL : Hid (loF v s.data.toList (m + 1) = 64 * loF v s.data.toList m + ((s[m + 1]'hk).toNat - 128)) := by
            show _ = _
            rw [loF, hbt]
            simp only
            omega
          have HH : Hid (hiF v s.data.toList (m + 1) = 64 * hiF v s.data.toList m + ((s[m + 1]'hk).toNat - 128)) := by
            show _ = _
            rw [hiF, hbt]
            simp only
            omega
          have HB : Hid _ := hbt
          have hw : wrap64 ((s[m + 1]'hk).toNat : Int) = ((s[m + 1]'hk).toNat : Int) := IntWalk.wrap64_in _ ⟨by omega, by omega⟩
          clear hbt hc1 hc2
          go_wp2
          go_round
          case rel =>
            refine ⟨m + 1, by omega, by go_num, val_int (by rw [HL.out]; omega), val_int (by rw [HH.out]; omega), ?_⟩
            intro j d q1 q2 q3
            by_cases hj : j = m + 1
            · subst hj
              rw [HB.out] at q3
              cases q3
              exact cont_mk (by omega) (by omega)
            · exact HALL.out j d q1 (by omega) q3
          case measure => simp [intOf]; omega
    · have hmn : m = 3 := by omega
      subst hmn
      have HF : Hid (refF 4 v 65536 s.data.toList = finF 4 65536 (loF v s.data.toList 3) (hiF v s.data.toList 3) s.size) := by
        show _ = _
        rw [refF_ok (cont_all _ 4 fun j d q1 q2 q3 => HALL.out j d q1 (by omega) q3), ← size_list]
      obtain ⟨x, hx⟩ : ∃ x : Nat, x = loF v s.data.toList 3 := ⟨_, rfl⟩
      obtain ⟨y, hy⟩ : ∃ y : Nat, y = hiF v s.data.toList 3 := ⟨_, rfl⟩
      rw [← hx, ← hy] at HF
      rw [← hx] at hb1
      rw [← hy] at hb2
      rw [← hx, ← hy]
      clear hx hy HALL hlt hm HVC
      by_cases hlen : 4 ≤ s.size
      · by_cases t1 : x < 65536
        · have e : refF 4 v 65536 s.data.toList = (0, 0) := by rw [HF.out, finF_okBad hlen (by omega)]
          have HE : Hid _ := e
          clear e HF
          go_wp2
          go_ret2
          exact ⟨ret_ref (a := (0, 0)) HE.out.symm, rfl⟩
        by_cases t2 : 1114111 < x
        · have e : refF 4 v 65536 s.data.toList = (0, 0) := by rw [HF.out, finF_okBad hlen (by omega)]
          have HE : Hid _ := e
          clear e HF
          go_wp2
          go_ret2
          exact ⟨ret_ref (a := (0, 0)) HE.out.symm, rfl⟩
        by_cases t3 : x < 55296
        · omega
        by_cases t4 : x ≤ 57343
        · omega
        · have e : refF 4 v 65536 s.data.toList = (x, (4 : Int)) := by rw [HF.out, finF_ok hlen (by omega) (by omega) (by omega)]; rfl
          have HE : Hid _ := e
          clear e HF
          go_wp2
          go_ret2
          exact ⟨ret_ref (a := (x, (4 : Int))) HE.out.symm, rfl⟩
      · by_cases t1 : y < 65536
        · have e : refF 4 v 65536 s.data.toList = (0, 0) := by rw [HF.out, finF_partBad (by omega) (by omega)]
          have HE : Hid _ := e
          clear e HF
          go_wp2
          go_ret2
          exact ⟨ret_ref (a := (0, 0)) HE.out.symm, rfl⟩
        by_cases t2 : 1114111 < x
        · have e : refF 4 v 65536 s.data.toList = (0, 0) := by rw [HF.out, finF_partBad (by omega) (by omega)]
          have HE : Hid _ := e
          clear e HF
          go_wp2
          go_ret2
          exact ⟨ret_ref (a := (0, 0)) HE.out.symm, rfl⟩
        by_cases t3 : x < 55296
        · have e : refF 4 v 65536 s.data.toList = (0, -1) := by rw [HF.out, finF_part (by omega) (by omega) (by omega) (by omega)]
          have HE : Hid _ := e
          clear e HF
          go_wp2
          go_ret2
          exact ⟨ret_ref (a := (0, -1)) HE.out.symm, rfl⟩
        by_cases t4 : y ≤ 57343
        · omega
        · have e : refF 4 v 65536 s.data.toList = (0, -1) := by rw [HF.out, finF_part (by omega) (by omega) (by omega) (by omega)]
          have HE : Hid _ := e
          clear e HF
          go_wp2
          go_ret2
          exact ⟨ret_ref (a := (0, -1)) HE.out.symm, rfl⟩
end Go.Proofs.YthekdgnikkjpdaaGreatDoor
