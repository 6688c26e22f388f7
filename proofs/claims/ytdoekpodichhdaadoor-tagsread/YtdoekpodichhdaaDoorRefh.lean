/-
  The contract of tidewaterref02.attr over this program: for every string of at most 100000 bytes.
-/
import Derived.Test.YtdoekpodichhdaaDoorRefg
namespace Go.Proofs.YtdoekpodichhdaaDoor
open Go.RowKit
def attrW (a : (List UInt8 × List UInt8) × Nat) : Value := .tuple #[.agg #[.string ⟨a.1.1.toArray⟩, .string ⟨a.1.2.toArray⟩], .int .i64 a.2]
theorem refName_at (s : ByteArray) (b : Bool) (h : name s.data.toList = b) (hs : s.size ≤ 100000) (w : World) : Calls Tryd.prog 26 #[.string s] w fun e w' => e = .returned (.bool b) ∧ w' = w := h ▸ refName_any s w hs
theorem refUnescape_un (s : ByteArray) (r : List UInt8) (c : Int) (h : un s.data.toList = (r, c)) (hs : s.size ≤ 100000) (w : World) :
    Calls Tryd.prog 18 #[.string s] w fun e w' => e = .returned (.tuple #[.string ⟨r.toArray⟩, .int .i64 c]) ∧ Below w.heap.size w w' := by
  have k := refUnescape_any s w hs
  rw [unescN_un, h] at k
  exact k
theorem nmN_le (l : List UInt8) : nmN l ≤ l.length := len_le isNm l
/-- The parts of a string at its run of a name's bytes. -/
theorem run_ext (s : ByteArray) : (s.extract 0 (nmN s.data.toList)).data.toList = runN s.data.toList := by rw [take_list, run_take]
theorem runZ_drop (l : List UInt8) : l.drop (nmN l) = runZ l := drop_while isNm l
theorem ext_size (s : ByteArray) (a b : Nat) : (s.extract a b).size ≤ s.size := by
  rw [ByteArray.size_extract]
  omega
theorem Below.alloc1 (w : World) (o : Obj) : Below w.heap.size w (w.alloc o) := (Below.refl _ _).alloc (Nat.le_refl _) _
set_option maxHeartbeats 2000000 in
theorem refAttr_name (s : ByteArray) (w : World) (hs : s.size ≤ 100000) (hn : name (runN s.data.toList) = false) :
    Calls Tryd.prog 28 #[.string s] w fun e w' => e = .returned (attrW (([], []), 0)) ∧ Below w.heap.size w w' := by
  have H1 := fun W => refRun_any s W hs
  have hle : nmN s.data.toList ≤ s.size := by rw [size_list]; exact nmN_le _
  have H2 := fun W => refName_at (s.extract 0 (nmN s.data.toList)) false (by rw [run_ext]; exact hn) (by have := ext_size s 0 (nmN s.data.toList); omega) W
  obtain ⟨n, hN⟩ : ∃ n, nmN s.data.toList = n := ⟨_, rfl⟩
  rw [hN] at hle
  simp only [hN] at H1 H2
  clear hn hN
  go_enter Tryd.func28, Tryd.ntmps28
  go_wp2_with (first | (go_at_call 25; refine (H1 _).mono ?_; rintro e w' ⟨rfl, hw⟩; rw [hw]) | (go_at_call 26; refine (H2 _).mono ?_; rintro e w' ⟨rfl, hw⟩; rw [hw]))
  exact bodyPost_ret (v := attrW (([], []), 0)) (by simp [results, Tryd.results28, go_sem, attrW]) rfl ⟨rfl, Below.alloc1 w _⟩
set_option maxHeartbeats 2000000 in
theorem refAttr_short (s : ByteArray) (w : World) (hs : s.size ≤ 100000) (hn : name (runN s.data.toList) = true) (h2 : s.size < nmN s.data.toList + 2) :
    Calls Tryd.prog 28 #[.string s] w fun e w' => e = .returned (attrW (([], []), 0)) ∧ Below w.heap.size w w' := by
  have H1 := fun W => refRun_any s W hs
  have hle : nmN s.data.toList ≤ s.size := by rw [size_list]; exact nmN_le _
  have H2 := fun W => refName_at (s.extract 0 (nmN s.data.toList)) true (by rw [run_ext]; exact hn) (by have := ext_size s 0 (nmN s.data.toList); omega) W
  obtain ⟨n, hN⟩ : ∃ n, nmN s.data.toList = n := ⟨_, rfl⟩
  rw [hN] at hle h2
  simp only [hN] at H1 H2
  clear hn hN
  go_enter Tryd.func28, Tryd.ntmps28
  go_wp2_with (first | (go_at_call 25; refine (H1 _).mono ?_; rintro e w' ⟨rfl, hw⟩; rw [hw]) | (go_at_call 26; refine (H2 _).mono ?_; rintro e w' ⟨rfl, hw⟩; rw [hw]))
  exact bodyPost_ret (v := attrW (([], []), 0)) (by simp [results, Tryd.results28, go_sem, attrW]) rfl ⟨rfl, Below.alloc1 w _⟩
theorem ne_u8 {c : UInt8} (k : UInt8) (h : c ≠ k) : ¬ (c.toNat : Int) = (k.toNat : Int) := fun e => h (UInt8.toNat_inj.1 (by exact_mod_cast e))
set_option maxHeartbeats 2000000 in
theorem refAttr_sign (s : ByteArray) (w : World) (hs : s.size ≤ 100000) (hn : name (runN s.data.toList) = true) (n : Nat) (hN : nmN s.data.toList = n) (h2 : n + 2 ≤ s.size) (hq : (s[n]'(by omega)) ≠ 61 ∨ ((s[n]'(by omega)) = 61 ∧ quo (s[n + 1]'(by omega)) = false)) :
    Calls Tryd.prog 28 #[.string s] w fun e w' => e = .returned (attrW (([], []), 0)) ∧ Below w.heap.size w w' := by
  have H1 := fun W => refRun_any s W hs
  have H2 := fun W => refName_at (s.extract 0 (nmN s.data.toList)) true (by rw [run_ext]; exact hn) (by have := ext_size s 0 (nmN s.data.toList); omega) W
  simp only [hN] at H1 H2
  clear hn hN
  have l0 : n < s.size := by omega
  have l1 : n + 1 < s.size := by omega
  rcases hq with hq | ⟨hq, hq2⟩
  · have e1 : (((s[n]'l0).toNat : Int) != 61) = true := by
      have := ne_u8 61 hq
      simpa using this
    clear hq
    go_enter Tryd.func28, Tryd.ntmps28
    go_wp2_with (first | (go_at_call 25; refine (H1 _).mono ?_; rintro e w' ⟨rfl, hw⟩; rw [hw]) | (go_at_call 26; refine (H2 _).mono ?_; rintro e w' ⟨rfl, hw⟩; rw [hw]))
    exact bodyPost_ret (v := attrW (([], []), 0)) (by simp [results, Tryd.results28, go_sem, attrW]) rfl ⟨rfl, Below.alloc1 w _⟩
  · have e1 : (((s[n]'l0).toNat : Int) != 61) = false := by rw [hq]; rfl
    obtain ⟨q1, q2, q3⟩ := quo_no hq2
    clear hq hq2
    go_enter Tryd.func28, Tryd.ntmps28
    go_wp2_with (first | (go_at_call 25; refine (H1 _).mono ?_; rintro e w' ⟨rfl, hw⟩; rw [hw]) | (go_at_call 26; refine (H2 _).mono ?_; rintro e w' ⟨rfl, hw⟩; rw [hw]))
    exact bodyPost_ret (v := attrW (([], []), 0)) (by simp [results, Tryd.results28, go_sem, attrW]) rfl ⟨rfl, Below.alloc1 w _⟩
theorem ret_attrW {a r : List UInt8} {m : Nat} {x : ByteArray} {y : Int} (h : (⟨a.toArray⟩ : ByteArray) = x) (h2 : (m : Int) = y) : Ending.returned (.tuple #[.agg #[.string x, .string ⟨r.toArray⟩], .int .i64 y]) = .returned (attrW ((a, r), m)) := by
  rw [← h, ← h2]
  rfl
theorem cutA_take (q : UInt8) (t : List UInt8) (j : Nat) (h : (cutA q t).length = j) : t.take j = cutA q t := by
  have e : cutA q t ++ t.dropWhile (· != q) = t := List.takeWhile_append_dropWhile
  conv => lhs; rw [← e]
  rw [← h, List.take_left]
theorem cutA_len (q : UInt8) (t : List UInt8) : (cutB q t = true ∧ (cutA q t).length < t.length ∧ t[(cutA q t).length]? = some q) ∨ (cutB q t = false ∧ (cutA q t).length = t.length) := by
  cases hc : cutB q t with
  | true =>
    have e := cut_app q t hc
    refine .inl ⟨rfl, ?_, ?_⟩
    · have := congrArg List.length e
      simp at this
      omega
    · conv => lhs; rw [e]
      have : (cutA q (cutA q t ++ q :: cutZ q t)).length = (cutA q t).length := by rw [← e]
      rw [this, List.getElem?_append_right (Nat.le_refl _)]
      simp
  | false => exact .inr ⟨rfl, by rw [(cut_not q t hc).1]⟩
set_option maxHeartbeats 4000000 in
set_option maxRecDepth 100000 in
theorem refAttr_no (s : ByteArray) (w : World) (hs : s.size ≤ 100000) (hn : name (runN s.data.toList) = true) (n : Nat) (hN : nmN s.data.toList = n) (h2 : n + 2 ≤ s.size) (hq1 : (s[n]'(by omega)) = 61) (q : UInt8) (hqq : (s[n + 1]'(by omega)) = q) (hq : quo q = true)
    (t : List UInt8) (ht : s.data.toList.drop (n + 2) = t) (hB : cutB q t = false) :
    Calls Tryd.prog 28 #[.string s] w fun e w' => e = .returned (attrW (([], []), 0)) ∧ Below w.heap.size w w' := by
  have H1 := fun W => refRun_any s W hs
  have hnm : (⟨(runN s.data.toList).toArray⟩ : ByteArray) = s.extract 0 n := by
    rw [← hN]
    exact (mk_of_list (run_ext s)).symm
  have H2 := fun W => refName_at (s.extract 0 (nmN s.data.toList)) true (by rw [run_ext]; exact hn) (by have := ext_size s 0 (nmN s.data.toList); omega) W
  simp only [hN] at H1 H2
  have l0 : n < s.size := by omega
  have l1 : n + 1 < s.size := by omega
  have e1 : (((s[n]'l0).toNat : Int) != 61) = false := by rw [hq1]; rfl
  have e3 : ((s[n + 1]'l1).toNat : Int) = 34 ∨ ((s[n + 1]'l1).toNat : Int) = 39 := by rw [hqq]; exact quo_yes hq
  have htl : t.length = s.size - (n + 2) := by rw [← ht, List.length_drop, ← size_list]
  have HT : Hid _ := ht
  have HQ : Hid _ := hqq
  have HNM : Hid _ := hnm
  have HBB : Hid _ := hB
  clear hn hN hq1 hq ht hqq hnm hB
  rcases e3 with e3 | e3
  all_goals
    go_enter Tryd.func28, Tryd.ntmps28
    go_wp2_with (first | (go_at_call 25; refine (H1 _).mono ?_; rintro e w' ⟨rfl, hw⟩; rw [hw]) | (go_at_call 26; refine (H2 _).mono ?_; rintro e w' ⟨rfl, hw⟩; rw [hw]))
    go_loopw [5] (fun i wr => ∃ k m : Nat, n + 2 ≤ k ∧ k ≤ s.size ∧ i = .int .i64 k ∧ (cutA q t).length + (n + 2) = k + ((s.data.toList.drop k).takeWhile (· != q)).length ∧ wr = (w.alloc (.cells #[.string ⟨#[]⟩, .string ⟨#[]⟩] 46)).drewN m) (fun i _ => s.size - (intOf i).toNat)
    case atStart => exact ⟨n + 2, 0, Nat.le_refl _, h2, by go_num, by rw [HT.out]; unfold cutA; omega, rfl⟩
    case round =>
      obtain ⟨k, m, hk0, hk, rfl, hlen, rfl⟩ := hrel
      have HL : Hid _ := hlen
      clear hlen
      have hwr : IntKind.i64.wrap ((n : Int) + 1) = ((n + 1 : Nat) : Int) := by simp [IntKind.wrap_i64]; omega
      by_cases hlt : k < s.size
      · have HD : Hid _ := drop_at s k hlt
        have hki : (k : Int) < (s.size : Int) := by omega
        by_cases hcq : s[k]'hlt = q
        · have ex : (((s[k]'hlt).toNat : Int) != ((s[n + 1]'l1).toNat : Int)) = false := by rw [hcq, HQ.out]; simp
          have hca : (cutA q t).length + (n + 2) = k := by
            rw [HL.out, len_stop (· != q) _ _ _ _ HD.out (by simp [hcq])]
            omega
          exfalso
          rcases cutA_len q t with ⟨e, _⟩ | ⟨_, e⟩
          · rw [HBB.out] at e
            simp at e
          · omega
        · have ex : (((s[k]'hlt).toNat : Int) != ((s[n + 1]'l1).toNat : Int)) = true := by
            rw [HQ.out]
            have := ne_u8 q hcq
            simpa using this
          have HC : Hid _ := hcq
          clear hcq
          go_wp2
          go_quiet (fail)
          go_wp2
          go_roundw
          case rel => exact ⟨k + 1, m + nq, by omega, by omega, by go_num, by rw [HL.out, len_while (· != q) _ _ _ _ HD.out (by simpa using HC.out)]; omega, rfl⟩
          case measure => simp [intOf]; omega
      · have hki : decide ((k : Int) < (s.size : Int)) = false := decide_eq_false (by omega)
        have hke : (k : Int) = (s.size : Int) := by omega
        go_wp2
        go_quiet (fail)
        go_wp2
        exact bodyPost_ret (v := attrW (([], []), 0)) (by simp [results, Tryd.results28, go_sem, attrW]) rfl ⟨rfl, ((Below.drewN (Below.alloc1 w _) _).setCell (p := ⟨w.heap.size, 0, none⟩) (Nat.le_refl _) _).setCell (p := ⟨w.heap.size, 1, none⟩) (Nat.le_refl _) _⟩
set_option maxHeartbeats 4000000 in
set_option maxRecDepth 100000 in
theorem refAttr_err (s : ByteArray) (w : World) (hs : s.size ≤ 100000) (hn : name (runN s.data.toList) = true) (n : Nat) (hN : nmN s.data.toList = n) (h2 : n + 2 ≤ s.size) (hq1 : (s[n]'(by omega)) = 61) (q : UInt8) (hqq : (s[n + 1]'(by omega)) = q) (hq : quo q = true)
    (t : List UInt8) (ht : s.data.toList.drop (n + 2) = t) (hB : cutB q t = true) (r : List UInt8) (c : Int) (hu : un (cutA q t) = (r, c)) (hc : (c == 0) = false) :
    Calls Tryd.prog 28 #[.string s] w fun e w' => e = .returned (attrW (([], []), 0)) ∧ Below w.heap.size w w' := by
  have H1 := fun W => refRun_any s W hs
  have hnm : (⟨(runN s.data.toList).toArray⟩ : ByteArray) = s.extract 0 n := by
    rw [← hN]
    exact (mk_of_list (run_ext s)).symm
  have H2 := fun W => refName_at (s.extract 0 (nmN s.data.toList)) true (by rw [run_ext]; exact hn) (by have := ext_size s 0 (nmN s.data.toList); omega) W
  simp only [hN] at H1 H2
  have l0 : n < s.size := by omega
  have l1 : n + 1 < s.size := by omega
  have e1 : (((s[n]'l0).toNat : Int) != 61) = false := by rw [hq1]; rfl
  have e3 : ((s[n + 1]'l1).toNat : Int) = 34 ∨ ((s[n + 1]'l1).toNat : Int) = 39 := by rw [hqq]; exact quo_yes hq
  have htl : t.length = s.size - (n + 2) := by rw [← ht, List.length_drop, ← size_list]
  have HT : Hid _ := ht
  have HQ : Hid _ := hqq
  have HNM : Hid _ := hnm
  have HBB : Hid _ := hB
  have HU : Hid _ := hu
  clear hn hN hq1 hq ht hqq hnm hB hu
  rcases e3 with e3 | e3
  all_goals
    go_enter Tryd.func28, Tryd.ntmps28
    go_wp2_with (first | (go_at_call 25; refine (H1 _).mono ?_; rintro e w' ⟨rfl, hw⟩; rw [hw]) | (go_at_call 26; refine (H2 _).mono ?_; rintro e w' ⟨rfl, hw⟩; rw [hw]))
    go_loopw [5] (fun i wr => ∃ k m : Nat, n + 2 ≤ k ∧ k ≤ s.size ∧ i = .int .i64 k ∧ (cutA q t).length + (n + 2) = k + ((s.data.toList.drop k).takeWhile (· != q)).length ∧ wr = (w.alloc (.cells #[.string ⟨#[]⟩, .string ⟨#[]⟩] 46)).drewN m) (fun i _ => s.size - (intOf i).toNat)
    case atStart => exact ⟨n + 2, 0, Nat.le_refl _, h2, by go_num, by rw [HT.out]; unfold cutA; omega, rfl⟩
    case round =>
      obtain ⟨k, m, hk0, hk, rfl, hlen, rfl⟩ := hrel
      have HL : Hid _ := hlen
      clear hlen
      have hwr : IntKind.i64.wrap ((n : Int) + 1) = ((n + 1 : Nat) : Int) := by simp [IntKind.wrap_i64]; omega
      by_cases hlt : k < s.size
      · have HD : Hid _ := drop_at s k hlt
        have hki : (k : Int) < (s.size : Int) := by omega
        by_cases hcq : s[k]'hlt = q
        · have ex : (((s[k]'hlt).toNat : Int) != ((s[n + 1]'l1).toNat : Int)) = false := by rw [hcq, HQ.out]; simp
          have hca : (cutA q t).length + (n + 2) = k := by
            rw [HL.out, len_stop (· != q) _ _ _ _ HD.out (by simp [hcq])]
            omega
          have hsub : (s.extract (n + 2) k).data.toList = cutA q t := by
            rw [Lib.extract_data, HT.out]
            exact cutA_take q t (k - (n + 2)) (by omega)
          have hke : ((k : Int) == (s.size : Int)) = false := beq_no (by omega)
          have H3 := fun W => refUnescape_un (s.extract (n + 2) k) r c (by rw [hsub]; exact HU.out) (by have := ext_size s (n + 2) k; omega) W
          have HCA : Hid _ := hca
          clear hca hsub hcq
          go_wp2
          go_quiet (fail)
          go_wp2_with (go_at_call 18; refine (H3 _).mono ?_; rintro e w3 ⟨rfl, hb3⟩; have hk3 := new_heap hb3; have c0 : w3.cell? ⟨w.heap.size, 0, none⟩ = some (.string ⟨#[]⟩) := (by rw [Lib.cell_of_heap hk3]; rfl); have c1 : w3.cell? ⟨w.heap.size, 1, none⟩ = some (.string ⟨#[]⟩) := (by rw [Lib.cell_of_heap hk3]; rfl); have fz := fun o => Lib.frozen_of_heap hk3 o; clear hk3)
          exact bodyPost_ret (v := attrW (([], []), 0)) (by simp [results, Tryd.results28, go_sem, c0, c1, attrW]) rfl ⟨rfl, (((below_new w _ _).trans (hb3.mono (by simp))).setCell (p := ⟨w.heap.size, 0, none⟩) (Nat.le_refl _) _).setCell (p := ⟨w.heap.size, 1, none⟩) (Nat.le_refl _) _⟩
        · have ex : (((s[k]'hlt).toNat : Int) != ((s[n + 1]'l1).toNat : Int)) = true := by
            rw [HQ.out]
            have := ne_u8 q hcq
            simpa using this
          have HC : Hid _ := hcq
          clear hcq
          go_wp2
          go_quiet (fail)
          go_wp2
          go_roundw
          case rel => exact ⟨k + 1, m + nq, by omega, by omega, by go_num, by rw [HL.out, len_while (· != q) _ _ _ _ HD.out (by simpa using HC.out)]; omega, rfl⟩
          case measure => simp [intOf]; omega
      · have hki : decide ((k : Int) < (s.size : Int)) = false := decide_eq_false (by omega)
        have hke : (k : Int) = (s.size : Int) := by omega
        exfalso
        have := HL.out
        rw [List.drop_eq_nil_of_le (by rw [← size_list]; omega)] at this
        simp at this
        rcases cutA_len q t with ⟨_, e, _⟩ | ⟨e, _⟩
        · omega
        · rw [HBB.out] at e
          simp at e
set_option maxHeartbeats 4000000 in
set_option maxRecDepth 100000 in
theorem refAttr_yes (s : ByteArray) (w : World) (hs : s.size ≤ 100000) (hn : name (runN s.data.toList) = true) (n : Nat) (hN : nmN s.data.toList = n) (h2 : n + 2 ≤ s.size) (hq1 : (s[n]'(by omega)) = 61) (q : UInt8) (hqq : (s[n + 1]'(by omega)) = q) (hq : quo q = true)
    (t : List UInt8) (ht : s.data.toList.drop (n + 2) = t) (hB : cutB q t = true) (r : List UInt8) (hu : un (cutA q t) = (r, 0)) :
    Calls Tryd.prog 28 #[.string s] w fun e w' => e = .returned (attrW ((runN s.data.toList, r), n + 2 + (cutA q t).length + 1)) ∧ Below w.heap.size w w' := by
  have H1 := fun W => refRun_any s W hs
  have hnm : (⟨(runN s.data.toList).toArray⟩ : ByteArray) = s.extract 0 n := by
    rw [← hN]
    exact (mk_of_list (run_ext s)).symm
  have H2 := fun W => refName_at (s.extract 0 (nmN s.data.toList)) true (by rw [run_ext]; exact hn) (by have := ext_size s 0 (nmN s.data.toList); omega) W
  simp only [hN] at H1 H2
  have l0 : n < s.size := by omega
  have l1 : n + 1 < s.size := by omega
  have e1 : (((s[n]'l0).toNat : Int) != 61) = false := by rw [hq1]; rfl
  have e3 : ((s[n + 1]'l1).toNat : Int) = 34 ∨ ((s[n + 1]'l1).toNat : Int) = 39 := by rw [hqq]; exact quo_yes hq
  have htl : t.length = s.size - (n + 2) := by rw [← ht, List.length_drop, ← size_list]
  have HT : Hid _ := ht
  have HQ : Hid _ := hqq
  have HNM : Hid _ := hnm
  have HBB : Hid _ := hB
  have HU : Hid _ := hu
  clear hn hN hq1 hq ht hqq hnm hB hu
  rcases e3 with e3 | e3
  all_goals
    go_enter Tryd.func28, Tryd.ntmps28
    go_wp2_with (first | (go_at_call 25; refine (H1 _).mono ?_; rintro e w' ⟨rfl, hw⟩; rw [hw]) | (go_at_call 26; refine (H2 _).mono ?_; rintro e w' ⟨rfl, hw⟩; rw [hw]))
    go_loopw [5] (fun i wr => ∃ k m : Nat, n + 2 ≤ k ∧ k ≤ s.size ∧ i = .int .i64 k ∧ (cutA q t).length + (n + 2) = k + ((s.data.toList.drop k).takeWhile (· != q)).length ∧ wr = (w.alloc (.cells #[.string ⟨#[]⟩, .string ⟨#[]⟩] 46)).drewN m) (fun i _ => s.size - (intOf i).toNat)
    case atStart => exact ⟨n + 2, 0, Nat.le_refl _, h2, by go_num, by rw [HT.out]; unfold cutA; omega, rfl⟩
    case round =>
      obtain ⟨k, m, hk0, hk, rfl, hlen, rfl⟩ := hrel
      have HL : Hid _ := hlen
      clear hlen
      have hwr : IntKind.i64.wrap ((n : Int) + 1) = ((n + 1 : Nat) : Int) := by simp [IntKind.wrap_i64]; omega
      by_cases hlt : k < s.size
      · have HD : Hid _ := drop_at s k hlt
        have hki : (k : Int) < (s.size : Int) := by omega
        by_cases hcq : s[k]'hlt = q
        · have ex : (((s[k]'hlt).toNat : Int) != ((s[n + 1]'l1).toNat : Int)) = false := by rw [hcq, HQ.out]; simp
          have hca : (cutA q t).length + (n + 2) = k := by
            rw [HL.out, len_stop (· != q) _ _ _ _ HD.out (by simp [hcq])]
            omega
          have hsub : (s.extract (n + 2) k).data.toList = cutA q t := by
            rw [Lib.extract_data, HT.out]
            exact cutA_take q t (k - (n + 2)) (by omega)
          have hke : ((k : Int) == (s.size : Int)) = false := beq_no (by omega)
          have H3 := fun W => refUnescape_un (s.extract (n + 2) k) r 0 (by rw [hsub]; exact HU.out) (by have := ext_size s (n + 2) k; omega) W
          have HCA : Hid _ := hca
          clear hca hsub hcq
          go_wp2
          go_quiet (fail)
          go_wp2_with (go_at_call 18; refine (H3 _).mono ?_; rintro e w3 ⟨rfl, hb3⟩; have hk3 := new_heap hb3; have c0 : w3.cell? ⟨w.heap.size, 0, none⟩ = some (.string ⟨#[]⟩) := (by rw [Lib.cell_of_heap hk3]; rfl); have c1 : w3.cell? ⟨w.heap.size, 1, none⟩ = some (.string ⟨#[]⟩) := (by rw [Lib.cell_of_heap hk3]; rfl); have fz := fun o => Lib.frozen_of_heap hk3 o; clear hk3)
          exact bodyPost_ret (v := .tuple #[.agg #[.string (s.extract 0 n), .string ⟨r.toArray⟩], .int .i64 ((k : Int) + 1)]) (by simp [results, Tryd.results28, go_sem, c0, c1]) rfl ⟨ret_attrW HNM.out (by have := HCA.out; omega), (((below_new w _ _).trans (hb3.mono (by simp))).setCell (p := ⟨w.heap.size, 0, none⟩) (Nat.le_refl _) _).setCell (p := ⟨w.heap.size, 1, none⟩) (Nat.le_refl _) _⟩
        · have ex : (((s[k]'hlt).toNat : Int) != ((s[n + 1]'l1).toNat : Int)) = true := by
            rw [HQ.out]
            have := ne_u8 q hcq
            simpa using this
          have HC : Hid _ := hcq
          clear hcq
          go_wp2
          go_quiet (fail)
          go_wp2
          go_roundw
          case rel => exact ⟨k + 1, m + nq, by omega, by omega, by go_num, by rw [HL.out, len_while (· != q) _ _ _ _ HD.out (by simpa using HC.out)]; omega, rfl⟩
          case measure => simp [intOf]; omega
      · have hki : decide ((k : Int) < (s.size : Int)) = false := decide_eq_false (by omega)
        have hke : (k : Int) = (s.size : Int) := by omega
        exfalso
        have := HL.out
        rw [List.drop_eq_nil_of_le (by rw [← size_list]; omega)] at this
        simp at this
        rcases cutA_len q t with ⟨_, e, _⟩ | ⟨e, _⟩
        · omega
        · rw [HBB.out] at e
          simp at e
theorem list_at (s : ByteArray) (k : Nat) (h : k < s.size) (c : UInt8) (t : List UInt8) (e : s.data.toList.drop k = c :: t) : s[k]'h = c ∧ s.data.toList.drop (k + 1) = t := by
  rw [drop_at s k h] at e
  cases e
  exact ⟨rfl, rfl⟩
theorem refAttr_any (s : ByteArray) (w : World) (hs : s.size ≤ 100000) :
    Calls Tryd.prog 28 #[.string s] w fun e w' => e = .returned (attrW (attrR s.data.toList)) ∧ Below w.heap.size w w' := by
  have hz := runZ_drop s.data.toList
  have hle : nmN s.data.toList ≤ s.size := by rw [size_list]; exact nmN_le _
  have hzl := congrArg List.length hz
  rw [List.length_drop, ← size_list] at hzl
  cases hn : name (runN s.data.toList) with
  | false =>
    rw [show attrR s.data.toList = (([], []), 0) by unfold attrR; rw [hn]; rfl]
    exact refAttr_name s w hs hn
  | true =>
    obtain ⟨n, hN⟩ : ∃ n, nmN s.data.toList = n := ⟨_, rfl⟩
    rw [hN] at hz hle hzl
    cases hr : runZ s.data.toList with
    | nil =>
      rw [show attrR s.data.toList = (([], []), 0) by unfold attrR; rw [hn, hr]; rfl]
      rw [hr] at hzl
      simp at hzl
      exact refAttr_short s w hs hn (by rw [hN]; omega)
    | cons e r1 =>
      cases hr1 : r1 with
      | nil =>
        rw [show attrR s.data.toList = (([], []), 0) by unfold attrR; rw [hn, hr, hr1]; rfl]
        rw [hr, hr1] at hzl
        simp at hzl
        exact refAttr_short s w hs hn (by rw [hN]; omega)
      | cons q t =>
        rw [hr1] at hr
        rw [hr] at hzl hz
        simp at hzl
        have h2 : n + 2 ≤ s.size := by omega
        obtain ⟨g1, g2⟩ := list_at s n (by omega) e (q :: t) hz
        obtain ⟨g3, g4⟩ := list_at s (n + 1) (by omega) q t g2
        have hA : attrR s.data.toList = if e == 61 && quo q && cutB q t && decide ((un (cutA q t)).2 = 0) then ((runN s.data.toList, (un (cutA q t)).1), n + 2 + (cutA q t).length + 1) else (([], []), 0) := by
          unfold attrR
          rw [hn, hr]
          simp only [if_true]
          rw [show (runN s.data.toList).length = n from hN]
        by_cases he : e = 61
        · cases hq : quo q with
          | false =>
            rw [hA, hq]
            simp only [Bool.and_false, Bool.false_and, Bool.false_eq_true, if_false]
            exact refAttr_sign s w hs hn n hN h2 (.inr ⟨by rw [g1]; exact he, by rw [g3]; exact hq⟩)
          | true =>
            cases hB : cutB q t with
            | false =>
              rw [hA, hB]
              simp only [Bool.and_false, Bool.false_and, Bool.false_eq_true, if_false]
              exact refAttr_no s w hs hn n hN h2 (by rw [g1]; exact he) q g3 hq t g4 hB
            | true =>
              obtain ⟨⟨r, c⟩, hu⟩ : ∃ p, un (cutA q t) = p := ⟨_, rfl⟩
              by_cases hc : c = 0
              · subst hc
                rw [hA, hu, hq, hB, he]
                exact refAttr_yes s w hs hn n hN h2 (by rw [g1]; exact he) q g3 hq t g4 hB r hu
              · rw [hA, hu]
                simp only [hc, decide_false, Bool.and_false, Bool.false_eq_true, if_false]
                exact refAttr_err s w hs hn n hN h2 (by rw [g1]; exact he) q g3 hq t g4 hB r c hu (by simpa using hc)
        · rw [hA]
          have : (e == 61) = false := by simpa using he
          rw [this]
          simp only [Bool.false_and, Bool.false_eq_true, if_false]
          exact refAttr_sign s w hs hn n hN h2 (.inl (by rw [g1]; exact he))
end Go.Proofs.YtdoekpodichhdaaDoor
