/-
  The contracts of the document's ring (Drop, Cut) over this program.
-/
import Derived.Test.YtdcocbichlmgfaaQa
namespace Go.Proofs.Ytdcocbichlmgfaa
open Go Go.RowKit
theorem RowS.drop {w : World} {g cap k : Nat} {l : List ByteArray} {dp : Option Addr} (h : RowS w (some ⟨g, 0, none⟩) l) (hc : l.length ≤ cap) (hd : (if cap = k then some (⟨g, 0, none⟩ : Addr) else some ⟨g, k, none⟩) = dp) : RowS w dp (l.drop k) := by
  intro i s hs
  rw [List.getElem?_drop] at hs
  have hi := (List.getElem?_eq_some_iff.1 hs).1
  rw [if_neg (by omega)] at hd
  obtain ⟨ad, h1, h2⟩ := h (k + i) s hs
  cases h1
  have e1 : (⟨g, 0, none⟩ : Addr).add (k + i) = ⟨g, k + i, none⟩ := by unfold Addr.add; split <;> simp_all
  have e2 : (⟨g, k, none⟩ : Addr).add i = ⟨g, k + i, none⟩ := by unfold Addr.add; split <;> simp_all
  exact ⟨_, hd.symm, by rw [e2, ← e1]; exact h2⟩
theorem refDrop_bad (B q most : Nat) (m : List ByteArray) (z : Int) (w : World) (h : QAt B q most m w) (hz : ¬ (0 ≤ z ∧ z ≤ m.length)) :
    Calls Try.prog 17 #[.pointer (some ⟨q, 0, none⟩), .int .i64 z] w fun e w' => e = .returned (.bool false) ∧ w' = w := by
  obtain ⟨ao, cap, h1, h2⟩ := h
  obtain ⟨c0, c1, f0⟩ := q_cells h1
  obtain ⟨c, hc⟩ : ∃ c, m.length = c := ⟨_, rfl⟩
  rw [hc] at hz c0
  clear h1 h2 hc
  by_cases k0 : z < 0
  · clear hz
    go_enter Try.func17, Try.ntmps17
    go_wp2_with fail
    go_ret
    exact ⟨rfl, rfl⟩
  · have k1 : (c : Int) < z := by omega
    clear hz
    go_enter Try.func17, Try.ntmps17
    go_wp2_with fail
    go_ret
    exact ⟨rfl, rfl⟩
theorem fz_store {q : Nat} {w w1 w5 : World} {row : Option Nat} (hg : w1.grownBy w5 row) (hr : row = none) (v : Value)
    (e1 : w1.os = w.os := by rfl) (e2 : w1.tape = w.tape := by rfl) (e3 : w1.output = w.output := by rfl) (e4 : w1.heap = w.heap := by rfl) : Fz q q w (w5.setCell ⟨q, 0, none⟩ v) := by
  subst hr
  have b : Below w.heap.size w w5 := ⟨hg.os.trans e1, hg.tape.trans e2, hg.output.trans e3, by rw [← e4]; exact hg.size, fun k hk => by rw [hg.block k (by rw [e4]; exact hk) (by intro e; cases e), e4]⟩
  exact (Fz.of_below b).setCell q 0 v (.inl rfl)
set_option maxHeartbeats 1000000 in
theorem refDrop_ok (B q most : Nat) (m : List ByteArray) (k : Nat) (w : World) (h : QAt B q most m w) (hm : m.length ≤ 64) (hB : B ≤ w.heap.size) (hk : k ≤ m.length) :
    Calls Try.prog 17 #[.pointer (some ⟨q, 0, none⟩), .int .i64 (k : Int)] w fun e w' => e = .returned (.bool true) ∧ QAt B q most (m.drop k) w' ∧ Fz q q w w' := by
  obtain ⟨i0, hi, hz0, hz1, hz2⟩ := info_parts info9
  obtain ⟨ao, cap, h1, h2⟩ := h
  obtain ⟨c0, c1, f0⟩ := q_cells h1
  have hcap := h2.cap_le
  have hql := lt_of_heap h1
  have HH : Hid _ := h1
  have HROW : Hid (RowS w ao m) := h2.row
  have HNL : Hid (ao = none → m.length = 0 ∧ cap = 0) := h2.nil0
  obtain ⟨c, hc⟩ : ∃ c, m.length = c := ⟨_, rfl⟩
  have EC : Hid _ := hc
  rw [hc] at hm hk c0 hcap
  have k0 : ¬ (k : Int) < 0 := by omega
  have k0' : (0 : Int) ≤ (k : Int) := by omega
  have k1 : ¬ (c : Int) < (k : Int) := by omega
  have k2 : (k : Int) ≤ (c : Int) := by omega
  have k3 : (k : Int) ≤ (cap : Int) := by omega
  have k4 : (c : Int) ≤ (cap : Int) := by omega
  have hg2 : ∃ g, ao = none ∨ ao = some ⟨g, 0, none⟩ := by
    rcases h2.2 with ⟨h1, _⟩ | ⟨g, cap', cur, h1, _⟩
    · exact ⟨0, .inl (Value.slice.inj h1).1⟩
    · exact ⟨g, .inr (Value.slice.inj h1).1⟩
  clear h1 h2 hc
  obtain ⟨g, rfl | rfl⟩ := hg2
  · obtain ⟨e1, e2⟩ := HNL.out rfl
    rw [EC.out] at e1
    subst e1 e2
    obtain rfl : k = 0 := by omega
    have HM : Hid (m = []) := List.length_eq_zero_iff.1 EC.out
    clear HNL
    go_enter Try.func17, Try.ntmps17
    go_wp2_with fail
    go_ret
    refine ⟨rfl, ?_, (Fz.refl q q w).setCell q 0 _ (.inl rfl)⟩
    rw [HM.out]
    exact q_store (m := []) HH.out (World.ownsRow_nil _ _ _ _)
  · obtain ⟨dp, hdp⟩ : ∃ dp, (if cap = k then some (⟨g, 0, none⟩ : Addr) else some ⟨g, k, none⟩) = dp := ⟨_, rfl⟩
    have HR : Hid (RowS w dp (m.drop k)) := RowS.drop HROW.out (by rw [EC.out]; exact hcap) hdp
    have HND : Hid (dp = none → c - k = 0 ∧ cap - k = 0) := fun e => by rw [e] at hdp; split at hdp <;> cases hdp
    obtain ⟨d, hd⟩ : ∃ d, c - k = d := ⟨_, rfl⟩
    have HD : Hid ((m.drop k).length = d) := by show _ = _; rw [List.length_drop, EC.out]; exact hd
    rw [hd] at HND
    clear HNL
    go_enter Try.func17, Try.ntmps17
    go_wp2_with (at_builtin; refine wpList_append_any rfl (.const (.slice none 0 0)) (.tmp 22) 35 rfl B 9 i0 _ 1 16 Try.underlying35 hi hz0 hz1 hz2 rfl (by decide) _ 0 [] rfl (World.ownsRow_nil _ _ _ _) dp d (cap - k) (strs (m.drop k)) rfl HND.out (by rw [strs_length, HD.out, Nat.mul_one]) (RowS.cells HR.out) (strs_one _) (by unfold maxLen; omega) (by omega) hB ?_
                 intro v5 w5 ho5 hb5 hg5
                 have hq5 : w5.heap[q]? = some (.cells #[.slice (some ⟨g, 0, none⟩) c cap, .int .i64 (most : Int)] 40 (0, 0)) := ((hg5.block q hql (fun e => by cases e)).trans (by have := HH.out; rw [EC.out] at this; exact this))
                 obtain ⟨d0, d1, d2⟩ := q_cells hq5
                 rw [List.nil_append] at ho5
                 obtain ⟨ao5, cap5, rfl, ht5⟩ := tx_of_owns ho5 (by rw [HD.out, Nat.zero_add])
                 have hqs := q_store hq5 ht5
                 rw [HD.out] at hqs ⊢
                 have HQ5 : Hid (QAt B q most (m.drop k) (w5.setCell ⟨q, 0, none⟩ (.slice ao5 d cap5))) := hqs
                 have HF5 : Hid (Fz q q w (w5.setCell ⟨q, 0, none⟩ (.slice ao5 d cap5))) := (fz_store hg5 rfl _)
                 clear ho5 hb5 hg5 hq5 hqs)
    go_ret
    exact ⟨rfl, HQ5.out, HF5.out⟩
set_option maxHeartbeats 1000000 in
theorem refCut_any (B q most : Nat) (m : List ByteArray) (z : Int) (w : World) (h : QAt B q most m w) (hm : m.length ≤ 64) (hB : B ≤ w.heap.size) :
    Calls Try.prog 20 #[.pointer (some ⟨q, 0, none⟩), .int .i64 z] w fun e w' => TxRes w.heap.size (m.drop z.toNat) e w' ∧ QAt B q most (m.take z.toNat) w' ∧ Fz q q w w' := by
  obtain ⟨i0, hi, hz0, hz1, hz2⟩ := info_parts info9
  obtain ⟨ao, cap, h1, h2⟩ := h
  obtain ⟨c0, c1, f0⟩ := q_cells h1
  have hcap := h2.cap_le
  have hql := lt_of_heap h1
  have HH : Hid _ := h1
  have HROW : Hid (RowS w ao m) := h2.row
  have HNL : Hid (ao = none → m.length = 0 ∧ cap = 0) := h2.nil0
  obtain ⟨c, hc⟩ : ∃ c, m.length = c := ⟨_, rfl⟩
  have EC : Hid _ := hc
  obtain ⟨k, hk'⟩ : ∃ k, min z.toNat c = k := ⟨_, rfl⟩
  have hk : k ≤ c := by omega
  have HT : Hid (m.take z.toNat = m.take k) := by
    show _ = _
    rw [← hk', ← hc, List.take_eq_take_min]
  have HDD : Hid (m.drop z.toNat = m.drop k) := by
    show _ = _
    by_cases hh : z.toNat ≤ c
    · rw [show k = z.toNat by omega]
    · rw [List.drop_eq_nil_of_le (by omega), List.drop_eq_nil_of_le (by omega)]
  obtain ⟨k0, hk0⟩ : ∃ k0, (if z < 0 then (0 : Int) else z) = k0 := ⟨_, rfl⟩
  have hmin : (if (c : Int) < k0 then (c : Int) else k0) = (k : Int) := by
    rw [← hk0]
    split <;> split <;> omega
  rw [hc] at hm c0 hcap
  have k0' : (0 : Int) ≤ (k : Int) := by omega
  have k2 : (k : Int) ≤ (c : Int) := by omega
  have k3 : (k : Int) ≤ (cap : Int) := by omega
  have k4 : (c : Int) ≤ (cap : Int) := by omega
  have hg2 : ∃ g, ao = none ∨ ao = some ⟨g, 0, none⟩ := by
    rcases h2.2 with ⟨h1, _⟩ | ⟨g, cap', cur, h1, _⟩
    · exact ⟨0, .inl (Value.slice.inj h1).1⟩
    · exact ⟨g, .inr (Value.slice.inj h1).1⟩
  rw [HT.out, HDD.out]
  clear h1 h2 hc hk'
  obtain ⟨g, rfl | rfl⟩ := hg2
  · obtain ⟨e1, e2⟩ := HNL.out rfl
    rw [EC.out] at e1
    subst e1 e2
    obtain rfl : k = 0 := by omega
    have HM : Hid (m = []) := List.length_eq_zero_iff.1 EC.out
    have hmin' : (if (0 : Int) < k0 then (0 : Int) else k0) = 0 := hmin
    clear HNL hmin
    go_enter Try.func20, Try.ntmps20
    go_wp2_with fail
    go_ret
    rw [HM.out]
    exact ⟨⟨none, 0, rfl, World.ownsRow_nil _ _ _ _⟩, q_store (m := []) HH.out (World.ownsRow_nil _ _ _ _), (Fz.refl q q w).setCell q 0 _ (.inl rfl)⟩
  · obtain ⟨dp, hdp⟩ : ∃ dp, (if cap = k then some (⟨g, 0, none⟩ : Addr) else some ⟨g, k, none⟩) = dp := ⟨_, rfl⟩
    have HR : Hid (RowS w dp (m.drop k)) := RowS.drop HROW.out (by rw [EC.out]; exact hcap) hdp
    have HND : Hid (dp = none → c - k = 0 ∧ cap - k = 0) := fun e => by rw [e] at hdp; split at hdp <;> cases hdp
    obtain ⟨d, hd⟩ : ∃ d, c - k = d := ⟨_, rfl⟩
    have HD : Hid ((m.drop k).length = d) := by show _ = _; rw [List.length_drop, EC.out]; exact hd
    have HE : Hid ((m.take k).length = k) := by show _ = _; rw [List.length_take, EC.out]; omega
    have HRT : Hid (RowS w (some ⟨g, 0, none⟩) (m.take k)) := RowS.take HROW.out k
    rw [hd] at HND
    clear HNL
    go_enter Try.func20, Try.ntmps20
    go_wp2_with (first
      | (at_builtin; refine wpList_append_any rfl (.const (.slice none 0 0)) (.tmp 19) 35 rfl w.heap.size 9 i0 _ 1 16 Try.underlying35 hi hz0 hz1 hz2 rfl (by decide) _ 0 [] rfl (World.ownsRow_nil _ _ _ _) dp d (cap - k) (strs (m.drop k)) rfl HND.out (by rw [strs_length, HD.out, Nat.mul_one]) (RowS.cells HR.out) (strs_one _) (by unfold maxLen; omega) (by omega) (Nat.le_refl _) ?_
         intro v5 w5 ho5 hb5 hg5
         have hq5 : w5.heap[q]? = some (.cells #[.slice (some ⟨g, 0, none⟩) c cap, .int .i64 (most : Int)] 40 (0, 0)) := ((hg5.block q hql (fun e => by cases e)).trans (by have := HH.out; rw [EC.out] at this; exact this))
         obtain ⟨d0, d1, d2⟩ := q_cells hq5
         rw [List.nil_append] at ho5
         obtain ⟨ao5, cap5, rfl, ht5⟩ := tx_of_owns ho5 (by rw [HD.out, Nat.zero_add])
         rw [HD.out]
         have s5 := hb5.size
         have HT5 : Hid (TxAt w.heap.size ao5 cap5 (m.drop k) w5) := ht5
         have HB5 : Hid (Below w.heap.size w w5) := hb5
         have HQ5 : Hid _ := hq5
         have HRU : Hid (RowS w5 (some ⟨g, 0, none⟩) (m.take k)) := (RowS.below HRT.out hb5)
         clear ho5 hb5 hg5 hq5 ht5)
      | (at_builtin; refine wpList_append_any rfl (.const (.slice none 0 0)) (.tmp 27) 35 rfl w5.heap.size 9 i0 _ 1 16 Try.underlying35 hi hz0 hz1 hz2 rfl (by decide) _ 0 [] rfl (World.ownsRow_nil _ _ _ _) (some ⟨g, 0, none⟩) k cap (strs (m.take k)) rfl (fun e => by cases e) (by rw [strs_length, HE.out, Nat.mul_one]) (RowS.cells HRU.out) (strs_one _) (by unfold maxLen; omega) (by omega) (Nat.le_refl _) ?_
         intro v6 w6 ho6 hb6 hg6
         have hq6 : w6.heap[q]? = some (.cells #[.slice (some ⟨g, 0, none⟩) c cap, .int .i64 (most : Int)] 40 (0, 0)) := ((hg6.block q (Nat.lt_of_lt_of_le hql s5) (fun e => by cases e)).trans HQ5.out)
         obtain ⟨d0, d1, d2⟩ := q_cells hq6
         rw [List.nil_append] at ho6
         obtain ⟨ao6, cap6, rfl, ht6⟩ := tx_of_owns ho6 (by rw [HE.out, Nat.zero_add])
         have hqs := q_store hq6 (ht6.base (Nat.le_trans hB s5))
         rw [HE.out] at hqs ⊢
         have HQ6 : Hid (QAt B q most (m.take k) (w6.setCell ⟨q, 0, none⟩ (.slice ao6 k cap6))) := hqs
         have HB6 : Hid (Below w5.heap.size w5 w6) := hb6
         clear ho6 hb6 hg6 hq6 hqs ht6))
    go_ret
    have hfz : Fz q q w5 (w6.setCell ⟨q, 0, none⟩ (.slice ao6 k cap6)) := (Fz.of_below HB6.out).setCell q 0 _ (.inl rfl)
    exact ⟨⟨ao5, cap5, by rw [HD.out]; rfl, TxAt.fz HT5.out hfz hql hql⟩, HQ6.out, (Fz.of_below HB5.out).trans hfz⟩
end Go.Proofs.Ytdcocbichlmgfaa
