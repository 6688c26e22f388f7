/-
  Over this program: the walk of TokenOrder.
-/
import Derived.Test.YtlpnbgpbahlodaaDoorPkk
namespace Go.Proofs.YtlpnbgpbahlodaaDoor
open Go Go.RowKit
theorem bless : ∀ (x y : List UInt8), Op.bytesLess x y = decide (x < y)
  | [], [] => by simp [Op.bytesLess]
  | _ :: _, [] => by simp [Op.bytesLess]
  | [], _ :: _ => by simp [Op.bytesLess]
  | a :: x, b :: y => by
    unfold Op.bytesLess
    rw [bless x y]
    apply Bool.eq_iff_iff.2
    simp [List.cons_lt_cons_iff]
theorem T_less {a b : Nat} (ha : U a) (hb : U b) : Op.bytesLess (T a).toList (T b).toList = decide (a < b) := by
  rw [bless, ByteArray.toList_eq, ByteArray.toList_eq]
  have h := tok_lt ha hb
  have e1 : (T a).data.toList = tokL 13 a := by simp [T]
  have e2 : (T b).data.toList = tokL 13 b := by simp [T]
  rw [e1, e2]
  exact decide_eq_decide.2 h
theorem RowU.drop {w : World} {b : Nat} {l : List Nat} (h : RowU w (some ⟨b, 0, none⟩) l) (k : Nat) : RowU w (some ⟨b, k, none⟩) (l.drop k) := by
  intro i v hv
  have e : us (l.drop k) = (us l).drop k := by unfold us; rw [List.map_drop]
  rw [e, List.getElem?_drop] at hv
  obtain ⟨ad, e2, hc⟩ := h (k + i) v hv
  cases e2
  refine ⟨_, rfl, ?_⟩
  have a1 : (⟨b, 0, none⟩ : Addr).add (k + i) = ⟨b, k + i, none⟩ := by unfold Addr.add; split <;> simp_all
  have a2 : (⟨b, k, none⟩ : Addr).add i = ⟨b, k + i, none⟩ := by unfold Addr.add; split <;> simp_all
  rw [a1] at hc
  rw [a2]
  exact hc
theorem RowU.at0 {w : World} {b : Nat} {l : List Nat} (h : RowU w (some ⟨b, 0, none⟩) l) {i z : Nat} (hi : l[i]? = some z) : w.cell? ⟨b, i, none⟩ = some (.int .u64 (z : Int)) := by
  obtain ⟨ad, e, hc⟩ := h.at hi
  cases e
  have a1 : (⟨b, 0, none⟩ : Addr).add i = ⟨b, i, none⟩ := by unfold Addr.add; split <;> simp_all
  rw [a1] at hc
  exact hc
theorem same_mix (b b2 m c1 c2 : Nat) (L : List Nat) (hm : L.length = m) (hm1 : m ≤ 100) (W : World) (h1 : RowU W (some ⟨b, m, none⟩) L) (h2 : RowU W (some ⟨b2, 0, none⟩) L) :
    Calls Tryd.prog 17 #[.slice (some ⟨b, m, none⟩) m c1, .slice (some ⟨b2, 0, none⟩) m c2] W fun e w' => e = .returned (.bool true) ∧ ∃ k, w' = W.drewN k := by
  have := sameU_any (some ⟨b, m, none⟩) (some ⟨b2, 0, none⟩) c1 c2 L L W h1 h2 (by omega) true (decide_eq_true rfl)
  rw [hm] at this
  exact this
theorem mix_drop (m x : Nat) : (mixL (m + m) x).drop m = mixL m (itN m x) := by
  apply List.ext_getElem?
  intro i
  rw [List.getElem?_drop]
  by_cases hi : i < m
  · rw [mixL_get hi, mixL_get (by omega), ← it_add]
    rfl
  · rw [List.getElem?_eq_none (by rw [mixL_length]; omega), List.getElem?_eq_none (by rw [mixL_length]; omega)]
set_option maxHeartbeats 1000000 in
set_option maxRecDepth 100000 in
theorem order_walk (u1 u2 : Nat) (h1 : U u1) (h2 : U u2) (z : Int) (w : World) (hE : Env w) :
    Calls Tryd.prog 7 #[.int .u64 (u1 : Int), .int .u64 (u2 : Int), .int .i64 z] w fun e w' => e = .returned (.bool true) ∧ Below w.heap.size w w' := by
  have HLV := lives_any w hE
  obtain ⟨X1, hX1⟩ : ∃ X1, T u1 = X1 := ⟨_, rfl⟩
  obtain ⟨X2, hX2⟩ : ∃ X2, T u2 = X2 := ⟨_, rfl⟩
  have HO1 : ∀ W, Calls Tryd.prog 11 #[.int .u64 (u1 : Int)] W fun e w' => e = .returned (.string X1) ∧ Below W.heap.size W w' := fun W => by rw [← hX1]; exact of_any u1 h1 W
  have HO2 : ∀ W, Calls Tryd.prog 11 #[.int .u64 (u2 : Int)] W fun e w' => e = .returned (.string X2) ∧ Below W.heap.size W w' := fun W => by rw [← hX2]; exact of_any u2 h2 W
  have hls := T_less h1 h2
  rw [hX1, hX2] at hls
  obtain ⟨t, ht⟩ : ∃ t, decide (u1 < u2) = t := ⟨_, rfl⟩
  have hls2 : decide ((u1 : Int) < (u2 : Int)) = t := by rw [← ht]; exact decide_eq_decide.2 (by omega)
  rw [ht] at hls
  obtain ⟨k, hk⟩ : ∃ k : Nat, (IntKind.u64.wrap z).tmod 100 = (k : Int) := ⟨((IntKind.u64.wrap z).tmod 100).toNat, by
    have h0 : 0 ≤ (IntKind.u64.wrap z).tmod 100 := by
      rw [IntKind.wrap_u64, Int.tmod_eq_emod_of_nonneg (by omega)]
      exact Int.emod_nonneg _ (by omega)
    omega⟩
  have hk9 : k < 100 := by
    rw [IntKind.wrap_u64, Int.tmod_eq_emod_of_nonneg (by omega)] at hk
    omega
  have hk2 : IntKind.i64.wrap (k : Int) = (k : Int) := by simp only [IntKind.wrap_i64]; omega
  obtain ⟨m, hm⟩ : ∃ m, k + 1 = m := ⟨_, rfl⟩
  have hm1 : 1 + (k : Int) = (m : Int) := by omega
  have hmw : IntKind.i64.wrap (1 + (k : Int)) = (m : Int) := by simp only [IntKind.wrap_i64]; omega
  have hmk : (m : Int) - 1 = (k : Int) := by omega
  obtain ⟨n, hn⟩ : ∃ n, m + m = n := ⟨_, rfl⟩
  have hn2 : 2 * (m : Int) = (n : Int) := by omega
  have hln : lenN (n : Int) = n := by unfold lenN; omega
  have hlm : lenN (m : Int) = m := by unfold lenN; omega
  have HM1 := fun W => mix_any u1 (n : Int) W
  rw [hln] at HM1
  obtain ⟨x1, hx1⟩ : ∃ x1, max u1 1 = x1 := ⟨_, rfl⟩
  rw [hx1] at HM1
  obtain ⟨y, hy⟩ : ∃ y, itN m x1 = y := ⟨_, rfl⟩
  have HM2 := fun W => mix_any y (m : Int) W
  rw [hlm] at HM2
  have HY : Hid ((mixL n x1)[k]? = some y) := by
    show _ = _
    rw [mixL_get (by omega), hm, hy]
  have HD : Hid ((mixL n x1).drop m = mixL m y) := by
    show _ = _
    rw [← hn, mix_drop, hy]
  have hnm : ¬ n = m := by omega
  have hmn : (m : Int) ≤ (n : Int) := by omega
  have hkn : (k : Int) < (n : Int) := by omega
  have hk0 : (0 : Int) ≤ (k : Int) := by omega
  have hnn : n - m = m := by omega
  have hm200 : m ≤ 100 := by omega
  clear hX1 hX2 hE h1 h2 hln hlm hx1 hy hm hn
  have hcase : ((y : Int) == 0) = true ∨ ((y : Int) == 0) = false := by cases h : ((y : Int) == 0) <;> simp
  rcases hcase with hy0 | hy0
  · go_enter Tryd.func7, Tryd.ntmps7
    go_wp2_with (first
      | (go_at_call 8; refine HLV.mono ?_; rintro e w1 ⟨rfl, hb1⟩)
      | (go_at_call_of 18 (#[Value.int .u64 (u1 : Int), Value.int .i64 (n : Int)] : Array Value); refine (HM1 _).mono ?_; rintro e w2 ⟨rfl, hr2, hb2, -⟩; obtain ⟨b, hb⟩ : ∃ b, w1.heap.size = b := ⟨_, rfl⟩; rw [hb] at hr2 ⊢; have HR2 : Hid (RowU w2 (some ⟨b, 0, none⟩) (mixL n x1)) := hr2; have c2 := hr2.at0 HY.out; replace hb2 := hb1.trans (hb2.mono hb1.size); clear hr2 hb)
      | (go_at_call_of 18 (#[Value.int .u64 (y : Int), Value.int .i64 (m : Int)] : Array Value); refine (HM2 _).mono ?_; rintro e w3 ⟨rfl, hr3, hb3, -⟩; have HR2' : Hid (RowU w3 (some ⟨b, 0, none⟩) (mixL n x1)) := HR2.out.below hb3; obtain ⟨b2, hb2'⟩ : ∃ b2, w2.heap.size = b2 := ⟨_, rfl⟩; rw [hb2'] at hr3 ⊢; have HR3 : Hid (RowU w3 (some ⟨b2, 0, none⟩) (mixL m (max y 1))) := hr3; replace hb3 := hb2.trans (hb3.mono hb2.size); clear hr3 hb2')
      | (go_at_call_of 11 (#[Value.int .u64 (u1 : Int)] : Array Value); refine (HO1 _).mono ?_; rintro e w4 ⟨rfl, hb4⟩; have HR2a : Hid (RowU w4 (some ⟨b, 0, none⟩) (mixL n x1)) := HR2'.out.below hb4; have HR3a : Hid (RowU w4 (some ⟨b2, 0, none⟩) (mixL m (max y 1))) := HR3.out.below hb4; replace hb4 := hb3.trans (hb4.mono hb3.size))
      | (go_at_call_of 11 (#[Value.int .u64 (u2 : Int)] : Array Value); refine (HO2 _).mono ?_; rintro e w5 ⟨rfl, hb5⟩; have HR2b : Hid (RowU w5 (some ⟨b, 0, none⟩) (mixL n x1)) := HR2a.out.below hb5; have HR3b : Hid (RowU w5 (some ⟨b2, 0, none⟩) (mixL m (max y 1))) := HR3a.out.below hb5; have c5 := HR2b.out.at0 HY.out; replace hb5 := hb4.trans (hb5.mono hb4.size)))
    go_ret
    exact ⟨by simp, hb5⟩
  · have HYM : Hid (max y 1 = y) := by
      show _ = _
      rw [beq_eq_false_iff_ne] at hy0
      omega
    go_enter Tryd.func7, Tryd.ntmps7
    go_wp2_with (first
      | (go_at_call 8; refine HLV.mono ?_; rintro e w1 ⟨rfl, hb1⟩)
      | (go_at_call_of 18 (#[Value.int .u64 (u1 : Int), Value.int .i64 (n : Int)] : Array Value); refine (HM1 _).mono ?_; rintro e w2 ⟨rfl, hr2, hb2, -⟩; obtain ⟨b, hb⟩ : ∃ b, w1.heap.size = b := ⟨_, rfl⟩; rw [hb] at hr2 ⊢; have HR2 : Hid (RowU w2 (some ⟨b, 0, none⟩) (mixL n x1)) := hr2; have c2 := hr2.at0 HY.out; replace hb2 := hb1.trans (hb2.mono hb1.size); clear hr2 hb)
      | (go_at_call_of 18 (#[Value.int .u64 (y : Int), Value.int .i64 (m : Int)] : Array Value); refine (HM2 _).mono ?_; rintro e w3 ⟨rfl, hr3, hb3, -⟩; have HR2' : Hid (RowU w3 (some ⟨b, 0, none⟩) (mixL n x1)) := HR2.out.below hb3; obtain ⟨b2, hb2'⟩ : ∃ b2, w2.heap.size = b2 := ⟨_, rfl⟩; rw [hb2'] at hr3 ⊢; have HR3 : Hid (RowU w3 (some ⟨b2, 0, none⟩) (mixL m (max y 1))) := hr3; replace hb3 := hb2.trans (hb3.mono hb2.size); clear hr3 hb2')
      | (go_at_call_of 11 (#[Value.int .u64 (u1 : Int)] : Array Value); refine (HO1 _).mono ?_; rintro e w4 ⟨rfl, hb4⟩; have HR2a : Hid (RowU w4 (some ⟨b, 0, none⟩) (mixL n x1)) := HR2'.out.below hb4; have HR3a : Hid (RowU w4 (some ⟨b2, 0, none⟩) (mixL m (max y 1))) := HR3.out.below hb4; replace hb4 := hb3.trans (hb4.mono hb3.size))
      | (go_at_call_of 11 (#[Value.int .u64 (u2 : Int)] : Array Value); refine (HO2 _).mono ?_; rintro e w5 ⟨rfl, hb5⟩; have HR2b : Hid (RowU w5 (some ⟨b, 0, none⟩) (mixL n x1)) := HR2a.out.below hb5; have HR3b : Hid (RowU w5 (some ⟨b2, 0, none⟩) (mixL m (max y 1))) := HR3a.out.below hb5; have c5 := HR2b.out.at0 HY.out; replace hb5 := hb4.trans (hb5.mono hb4.size))
      | (go_at_call 17; refine (same_mix b b2 m _ _ (mixL m y) (mixL_length _ _) hm200 _ ?_ ?_).mono ?_; (rw [← HD.out]; exact HR2b.out.drop m); (have h9 := HR3b.out; rw [HYM.out] at h9; exact h9); rintro e w6 ⟨rfl, hw6⟩; have hb6 := hb5.trans ((below_drew2 hw6).mono hb5.size); clear hw6))
    go_ret
    exact ⟨by simp, hb6⟩
end Go.Proofs.YtlpnbgpbahlodaaDoor
