/-
  The contract of tidewaterref03.Same over this program, at any two elements.
-/
import Derived.Test.YthekdgnikkjpdaaGreatDoorSamc
namespace Go.Proofs.YthekdgnikkjpdaaGreatDoor
open Go Go.RowKit
/-- Rows that are not longer than an int tells. -/
def lenE : Nat → El → Prop
  | 0, _ => True
  | n + 1, e => e.attrs.length ≤ 1000000000000 ∧ e.kids.length ≤ 1000000000000 ∧ ∀ k ∈ e.kids, lenE n k
def sameF (f : El → El → Bool) (a b : El) : Bool := (a.nm == b.nm) && ((a.text == b.text) && ((a.attrs == b.attrs) && sameK f a.kids b.kids))
theorem bytes_neq2 {a b : List UInt8} (h : (a == b) = false) : ((⟨a.toArray⟩ : ByteArray).toList == (⟨b.toArray⟩ : ByteArray).toList) = false ∧ ¬ (⟨a.toArray⟩ : ByteArray).toList = (⟨b.toArray⟩ : ByteArray).toList := by
  have h1 := (bytes_beq a b).trans h
  exact ⟨h1, beq_eq_false_iff_ne.1 h1⟩
theorem attrs_len {l m : List (List UInt8 × List UInt8)} (h : l.length ≠ m.length) : (l == m) = false := by
  rw [beq_eq_false_iff_ne]
  rintro rfl
  exact h rfl
set_option maxHeartbeats 2000000 in
set_option maxRecDepth 100000 in
theorem refSame_step {P Q : Nat → Prop} (f : El → El → Bool) (x y : El) (a b c d a' b' c' d' : Value) (w : World) (h1 : ElE P w x a b c d) (h2 : ElE Q w y a' b' c' d') (hl1 : x.attrs.length ≤ 1000000000000) (hl2 : x.kids.length ≤ 1000000000000) (r : Bool) (hr : sameF f x y = r)
    (IH : ∀ k ∈ x.kids, ∀ k' ∈ y.kids, ∀ (W : World) (a b c d a' b' c' d' : Value), Below w.heap.size w W → ElE P w k a b c d → ElE Q w k' a' b' c' d' → Calls Tryz.prog 12 #[.agg #[a, b, c, d], .agg #[a', b', c', d']] W fun e w' => e = .returned (.bool (f k k')) ∧ Below W.heap.size W w') :
    Calls Tryz.prog 12 #[.agg #[a, b, c, d], .agg #[a', b', c', d']] w fun e w' => e = .returned (.bool r) ∧ Below w.heap.size w w' := by
  obtain ⟨ao1, cap1, ao2, cap2, rfl, rfl⟩ := h1.shape
  obtain ⟨rfl, hr1, rfl, xs, hk1, hks1⟩ := h1.parts
  obtain ⟨bo1, bap1, bo2, bap2, rfl, rfl⟩ := h2.shape
  obtain ⟨rfl, hr2, rfl, ys, hk2, hks2⟩ := h2.parts
  have HALL : ∀ o1 o2 : Obj, Below w.heap.size w ((w.alloc o1).alloc o2) := fun o1 o2 => ((Below.refl _ w).alloc (Nat.le_refl _) o1).alloc (by simp) o2
  obtain ⟨s1, hs1⟩ : ∃ s1, (⟨x.nm.toArray⟩ : ByteArray) = s1 := ⟨_, rfl⟩
  obtain ⟨s2, hs2⟩ : ∃ s2, (⟨x.text.toArray⟩ : ByteArray) = s2 := ⟨_, rfl⟩
  obtain ⟨t1, ht1⟩ : ∃ t1, (⟨y.nm.toArray⟩ : ByteArray) = t1 := ⟨_, rfl⟩
  obtain ⟨t2, ht2⟩ : ∃ t2, (⟨y.text.toArray⟩ : ByteArray) = t2 := ⟨_, rfl⟩
  obtain ⟨n1, hn1⟩ : ∃ n1, x.attrs.length = n1 := ⟨_, rfl⟩
  obtain ⟨n2, hn2⟩ : ∃ n2, x.kids.length = n2 := ⟨_, rfl⟩
  obtain ⟨m1, hm1⟩ : ∃ m1, y.attrs.length = m1 := ⟨_, rfl⟩
  obtain ⟨m2, hm2⟩ : ∃ m2, y.kids.length = m2 := ⟨_, rfl⟩
  have HR : Hid (sameF f x y = r) := hr
  by_cases hnm : (x.nm == y.nm) = false
  · obtain ⟨e1, e2⟩ := bytes_neq2 hnm
    rw [hs1, ht1] at e1 e2
    obtain rfl : false = r := by rw [← hr]; unfold sameF; rw [hnm]; rfl
    rw [hs1, hs2, ht1, ht2, hn1, hn2, hm1, hm2]
    clear h1 h2 hr1 hr2 hk1 hk2 hks1 hks2 hs1 hs2 ht1 ht2 hn1 hn2 hm1 hm2 IH hnm hr HR
    go_enter Tryz.func12, Tryz.ntmps12
    go_wp2_with fail
    go_ret
    exact ⟨rfl, HALL _ _⟩
  have hnm' : x.nm = y.nm := by cases h : x.nm == y.nm with
    | true => exact eq_of_beq h
    | false => exact absurd h hnm
  obtain rfl : s1 = t1 := by rw [← hs1, ← ht1, hnm']
  by_cases htx : (x.text == y.text) = false
  · obtain ⟨e1, e2⟩ := bytes_neq2 htx
    rw [hs2, ht2] at e1 e2
    obtain rfl : false = r := by rw [← hr]; unfold sameF; rw [htx]; simp
    rw [hs1, hs2, ht1, ht2, hn1, hn2, hm1, hm2]
    clear h1 h2 hr1 hr2 hk1 hk2 hks1 hks2 hs1 hs2 ht1 ht2 hn1 hn2 hm1 hm2 IH hnm hnm' htx hr HR
    go_enter Tryz.func12, Tryz.ntmps12
    go_wp2_with fail
    go_ret
    exact ⟨rfl, HALL _ _⟩
  have htx' : x.text = y.text := by cases h : x.text == y.text with
    | true => exact eq_of_beq h
    | false => exact absurd h htx
  obtain rfl : s2 = t2 := by rw [← hs2, ← ht2, htx']
  by_cases hnl : n1 = m1
  case neg =>
    obtain rfl : false = r := by rw [← hr]; unfold sameF; rw [attrs_len (show x.attrs.length ≠ y.attrs.length by omega)]; simp
    have i1 : ¬ (n1 : Int) = (m1 : Int) := by omega
    have i2 : ((n1 : Int) == (m1 : Int)) = false := by rw [beq_eq_false_iff_ne]; exact i1
    rw [hs1, hs2, ht1, ht2, hn1, hn2, hm1, hm2]
    clear h1 h2 hr1 hr2 hk1 hk2 hks1 hks2 hs1 hs2 ht1 ht2 hn1 hn2 hm1 hm2 IH hnm hnm' htx htx' hr HR
    go_enter Tryz.func12, Tryz.ntmps12
    go_wp2_with fail
    go_ret
    exact ⟨rfl, HALL _ _⟩
  subst hnl
  by_cases hkl : n2 = m2
  case neg =>
    obtain rfl : false = r := by rw [← hr]; unfold sameF; rw [sameK_len f (show x.kids.length ≠ y.kids.length by omega)]; simp
    have i1 : ¬ (n2 : Int) = (m2 : Int) := by omega
    have i2 : ((n2 : Int) == (m2 : Int)) = false := by rw [beq_eq_false_iff_ne]; exact i1
    rw [hs1, hs2, ht1, ht2, hn1, hn2, hm1, hm2]
    clear h1 h2 hr1 hr2 hk1 hk2 hks1 hks2 hs1 hs2 ht1 ht2 hn1 hn2 hm1 hm2 IH hnm hnm' htx htx' hr HR
    go_enter Tryz.func12, Tryz.ntmps12
    go_wp2_with fail
    go_ret
    exact ⟨rfl, HALL _ _⟩
  subst hkl
  have HRR : Hid (((x.attrs == y.attrs) && sameK f x.kids y.kids) = r) := by
    show _ = _
    rw [← hr]
    unfold sameF
    rw [hnm', htx']
    simp
  rw [hn1] at hl1 hr1
  rw [hn2] at hl2 hk1
  rw [hm1] at hr2
  rw [hm2] at hk2
  rw [hs1, hs2, ht1, ht2, hn1, hn2, hm1, hm2]
  have R1 : Hid _ := hr1
  have R2 : Hid _ := hr2
  have K1 : Hid _ := hk1
  have K2 : Hid _ := hk2
  have S1 : Hid (KidsAt _ _ _) := hks1
  have S2 : Hid (KidsAt _ _ _) := hks2
  have HN1 : Hid _ := hn1
  have HN2 : Hid _ := hn2
  have HM1 : Hid _ := hm1
  have HM2 : Hid _ := hm2
  have HIH : Hid _ := IH
  clear h1 h2 hr1 hr2 hk1 hk2 hks1 hks2 hs1 hs2 ht1 ht2 hn1 hn2 hm1 hm2 IH hnm hnm' htx htx' hr HR HALL
  go_enter Tryz.func12, Tryz.ntmps12
  go_wp2_with fail
  obtain ⟨B, hB⟩ : ∃ B, w.heap.size = B := ⟨_, rfl⟩
  have HBz : Hid (w.heap.size = B) := hB
  obtain ⟨w0, hw0⟩ : ∃ w0, w0 = (w.alloc (.cells #[.string s1, .slice ao1 n1 cap1, .string s2, .slice ao2 n2 cap2] 25)).alloc (.cells #[.string s1, .slice bo1 n1 bap1, .string s2, .slice bo2 n2 bap2] 25) := ⟨_, rfl⟩
  have hA1 : At B #[.string s1, .slice ao1 n1 cap1, .string s2, .slice ao2 n2 cap2] 25 w0 := by
    rw [hw0, ← hB]; exact At.alloc (heap_alloc_new w _) _
  have hA2 : At (B + 1) #[.string s1, .slice bo1 n1 bap1, .string s2, .slice bo2 n2 bap2] 25 w0 := by
    rw [hw0, ← hB]
    have := heap_alloc_new (w.alloc (.cells #[.string s1, .slice ao1 n1 cap1, .string s2, .slice ao2 n2 cap2] 25)) (.cells #[.string s1, .slice bo1 n1 bap1, .string s2, .slice bo2 n2 bap2] 25)
    simp only [World.size_alloc] at this
    exact this
  have hb0 : Below B w w0 := by
    rw [hw0, ← hB]
    exact ((Below.refl _ w).alloc (Nat.le_refl _) _).alloc (by simp) _
  rw [← hw0, hB]
  have HA1 : Hid _ := hA1
  have HA2 : Hid _ := hA2
  have HB0 : Hid (Below B w w0) := hb0
  have z1 := lt_of_heap hA1
  have z2 := lt_of_heap hA2
  obtain ⟨p0, p1, p2, p3⟩ := el4 hA1
  obtain ⟨q0, q1, q2, q3⟩ := el4 hA2
  clear hA1 hA2 hb0 hw0 hB
  go_loopw [5] (fun i wr => ∃ j : Nat, j ≤ n1 ∧ i = .int .i64 (j : Int) ∧ Hid ((x.attrs.drop j == y.attrs.drop j) = (x.attrs == y.attrs)) ∧ ∃ m, wr = w0.drewN m) (fun i _ => n1 - (intOf i).toNat)
  case atStart => exact ⟨0, Nat.zero_le _, rfl, rfl, 0, rfl⟩
  case round =>
    obtain ⟨j, hj, rfl, HJ, m, rfl⟩ := hrel
    by_cases hlt : j < n1
    · obtain ⟨pr, hpr⟩ : ∃ pr, x.attrs[j]? = some pr := ⟨_, List.getElem?_eq_getElem (by rw [HN1.out]; exact hlt)⟩
      obtain ⟨qr, hqr⟩ : ∃ qr, y.attrs[j]? = some qr := ⟨_, List.getElem?_eq_getElem (by rw [HM1.out]; exact hlt)⟩
      obtain ⟨g0, g1⟩ := pair_get x.attrs j pr hpr
      obtain ⟨k0, k1⟩ := pair_get y.attrs j qr hqr
      obtain ⟨ga, oa, rfl, hga, hca⟩ := row_flat2 R1.out g0
      obtain ⟨gb, ob, rfl, hgb, hcb⟩ := row_flat2 R2.out k0
      have ca : ∀ i v, (pairCells x.attrs)[i]? = some v → w0.cell? ⟨ga, oa + i, none⟩ = some v := fun i v hv => (HB0.out.cell (p := ⟨ga, oa + i, none⟩) (by rw [← HBz.out]; exact hga)).trans (hca i v hv)
      have cb : ∀ i v, (pairCells y.attrs)[i]? = some v → w0.cell? ⟨gb, ob + i, none⟩ = some v := fun i v hv => (HB0.out.cell (p := ⟨gb, ob + i, none⟩) (by rw [← HBz.out]; exact hgb)).trans (hcb i v hv)
      have a0 := ca _ _ g0
      have a1 := ca _ _ g1
      have b0 := cb _ _ k0
      have b1 := cb _ _ k1
      rw [← Nat.add_assoc] at a1 b1
      have hj0 : (0 : Int) ≤ (j : Int) := by omega
      have hj1 : (j : Int) < (n1 : Int) := by omega
      have hed := eq_drop hpr hqr
      have hnp := fun W => neq_pair W pr qr
      cases hpq : pr != qr with
      | true =>
        have HE : Hid (false = r) := by
          show _ = _
          rw [← HRR.out, ← HJ.out, hed, hpq]
          rfl
        obtain rfl := HE.out
        rw [hpq] at hnp
        clear ca cb hca hcb g0 g1 k0 k1 hpr hqr hed hpq
        go_wp2_with fail
        go_quiet (fail)
        go_wp2_with fail
        go_ret
        refine ⟨rfl, ?_⟩
        rw [HBz.out]
        exact HB0.out.trans ⟨rfl, rfl, rfl, Nat.le_refl _, fun _ _ => rfl⟩
      | false =>
        have HJ' : Hid ((x.attrs.drop (j + 1) == y.attrs.drop (j + 1)) = (x.attrs == y.attrs)) := by
          show _ = _
          rw [← HJ.out, hed, hpq]
          rfl
        rw [hpq] at hnp
        clear ca cb hca hcb g0 g1 k0 k1 hpr hqr hed hpq
        go_wp2_with fail
        go_quiet (fail)
        go_wp2_with fail
        go_roundw
        case rel => exact ⟨j + 1, by omega, by go_num, HJ', _, rfl⟩
        case measure => simp [intOf]; omega
    · have hj1 : ¬ (j : Int) < (n1 : Int) := by omega
      have HAT : Hid ((x.attrs == y.attrs) = true) := by
        show _ = _
        rw [← HJ.out, List.drop_of_length_le (by rw [HN1.out]; omega), List.drop_of_length_le (by rw [HM1.out]; omega)]
        rfl
      have HRK : Hid (sameK f x.kids y.kids = r) := by
        have h9 := HRR.out
        rw [HAT.out, Bool.true_and] at h9
        exact h9
      go_wp2_with fail
      obtain ⟨Z, hZ⟩ : ∃ Z, w0.heap.size = Z := ⟨_, rfl⟩
      rw [hZ] at z1 z2
      have HZ : Hid _ := hZ
      clear hZ
      go_loopw [6] (fun i ws => ∃ t : Nat, t ≤ n2 ∧ i = .int .i64 (t : Int) ∧ Hid (sameK f (x.kids.drop t) (y.kids.drop t) = r) ∧ Below Z w0 ws) (fun i _ => n2 - (intOf i).toNat)
      case atStart => exact ⟨0, Nat.zero_le _, rfl, HRK.out, (Below.refl Z w0).trans ⟨rfl, rfl, rfl, Nat.le_refl _, fun _ _ => rfl⟩⟩
      case round =>
        obtain ⟨t, ht, rfl, HT, hbt⟩ := hrel
        have e1 := (hbt.cell (p := ⟨B, 3, none⟩) z1).trans p3
        have e2 := (hbt.cell (p := ⟨B + 1, 3, none⟩) z2).trans q3
        have HBT : Hid (Below Z w0 wr) := hbt
        have hzt := hbt.size
        have hBZ : w.heap.size ≤ Z := by have := HBz.out; omega
        have hZw : Z ≤ wr.heap.size := by rw [← HZ.out]; exact hzt
        by_cases hlt2 : t < n2
        · obtain ⟨kd, hkd⟩ : ∃ kd, x.kids[t]? = some kd := ⟨_, List.getElem?_eq_getElem (by rw [HN2.out]; exact hlt2)⟩
          obtain ⟨ke, hke⟩ : ∃ ke, y.kids[t]? = some ke := ⟨_, List.getElem?_eq_getElem (by rw [HM2.out]; exact hlt2)⟩
          obtain ⟨a1, b1, c1, d1, i0, i1, i2, i3, hE1⟩ := kids_get t S1.out hkd
          obtain ⟨a2, b2, c2, d2, j0, j1, j2, j3, hE2⟩ := kids_get t S2.out hke
          obtain ⟨ga, oa, rfl, hga, hca⟩ := row_flat2 K1.out i0
          obtain ⟨gb, ob, rfl, hgb, hcb⟩ := row_flat2 K2.out j0
          obtain ⟨ua, va, ub, vb, rfl, rfl⟩ := hE1.shape
          obtain ⟨rfl, _, rfl, _⟩ := hE1.parts
          obtain ⟨uc, vc, ud, vd, rfl, rfl⟩ := hE2.shape
          obtain ⟨rfl, _, rfl, _⟩ := hE2.parts
          have hbw : Below w.heap.size w wr := by rw [HBz.out]; exact HB0.out.trans (HBT.out.mono (by have := HBz.out; omega))
          have ca : ∀ i v, xs[i]? = some v → wr.cell? ⟨ga, oa + i, none⟩ = some v := fun i v hv => (hbw.cell (p := ⟨ga, oa + i, none⟩) hga).trans (hca i v hv)
          have cb : ∀ i v, ys[i]? = some v → wr.cell? ⟨gb, ob + i, none⟩ = some v := fun i v hv => (hbw.cell (p := ⟨gb, ob + i, none⟩) hgb).trans (hcb i v hv)
          have y0 := ca _ _ i0
          have y1 := ca _ _ i1
          have y2 := ca _ _ i2
          have y3 := ca _ _ i3
          have x0 := cb _ _ j0
          have x1 := cb _ _ j1
          have x2 := cb _ _ j2
          have x3 := cb _ _ j3
          rw [← Nat.add_assoc] at y1 y2 y3 x1 x2 x3
          have hsd := sameK_drop f hkd hke
          obtain ⟨v, hv⟩ : ∃ v, f kd ke = v := ⟨_, rfl⟩
          rw [hv] at hsd
          have HCL : ∀ W : World, W.heap = wr.heap → W.os = wr.os → W.tape = wr.tape → W.output = wr.output → Calls Tryz.prog 12 #[.agg #[.string ⟨kd.nm.toArray⟩, .slice ua kd.attrs.length va, .string ⟨kd.text.toArray⟩, .slice ub kd.kids.length vb], .agg #[.string ⟨ke.nm.toArray⟩, .slice uc ke.attrs.length vc, .string ⟨ke.text.toArray⟩, .slice ud ke.kids.length vd]] W fun e w' => e = .returned (.bool v) ∧ Below W.heap.size W w' :=
            fun W e1 e2 e3 e4 => by
              rw [← hv]
              exact HIH.out kd (List.mem_of_getElem? hkd) ke (List.mem_of_getElem? hke) W _ _ _ _ _ _ _ _ (hbw.trans ⟨e2, e3, e4, by rw [e1]; exact Nat.le_refl _, fun k _ => by rw [e1]⟩) hE1 hE2
          have t0 : (0 : Int) ≤ (t : Int) := by omega
          have t1 : (t : Int) < (n2 : Int) := by omega
          obtain ⟨kn, hkn⟩ : ∃ kn, (⟨kd.nm.toArray⟩ : ByteArray) = kn := ⟨_, rfl⟩
          obtain ⟨kt, hkt⟩ : ∃ kt, (⟨kd.text.toArray⟩ : ByteArray) = kt := ⟨_, rfl⟩
          obtain ⟨en, hen⟩ : ∃ en, (⟨ke.nm.toArray⟩ : ByteArray) = en := ⟨_, rfl⟩
          obtain ⟨et, het⟩ : ∃ et, (⟨ke.text.toArray⟩ : ByteArray) = et := ⟨_, rfl⟩
          obtain ⟨m1, hm1⟩ : ∃ m1, kd.attrs.length = m1 := ⟨_, rfl⟩
          obtain ⟨m2, hm2⟩ : ∃ m2, kd.kids.length = m2 := ⟨_, rfl⟩
          obtain ⟨m3, hm3⟩ : ∃ m3, ke.attrs.length = m3 := ⟨_, rfl⟩
          obtain ⟨m4, hm4⟩ : ∃ m4, ke.kids.length = m4 := ⟨_, rfl⟩
          simp only [hkn, hkt, hen, het, hm1, hm2, hm3, hm4] at HCL
          rw [hkn] at y0
          rw [hm1] at y1
          rw [hkt] at y2
          rw [hm2] at y3
          rw [hen] at x0
          rw [hm3] at x1
          rw [het] at x2
          rw [hm4] at x3
          have HSD : Hid (sameK f (x.kids.drop t) (y.kids.drop t) = (v && sameK f (x.kids.drop (t + 1)) (y.kids.drop (t + 1)))) := hsd
          clear ca cb hca hcb i0 i1 i2 i3 j0 j1 j2 j3 hE1 hE2 hkd hke hkn hkt hen het hm1 hm2 hm3 hm4 hbw hbt p0 p1 p2 p3 q0 q1 q2 q3 hsd hv
          cases v with
          | true =>
            have HT' : Hid (sameK f (x.kids.drop (t + 1)) (y.kids.drop (t + 1)) = r) := by
              have h9 := HT.out
              rw [HSD.out, Bool.true_and] at h9
              exact h9
            go_wp2_with fail
            go_region_with (go_at_call 12; refine (HCL _ ?_ ?_ ?_ ?_).mono ?_; exact rfl; exact rfl; exact rfl; exact rfl; rintro ee w3 ⟨rfl, hb3⟩)
            all_goals (
              go_wp2_with fail
              go_roundw
              case rel => exact ⟨t + 1, by omega, by go_num, HT', HBT.out.trans (((Below.refl _ wr).drew.trans hb3).mono hZw)⟩
              case measure => simp [intOf]; omega)
          | false =>
            have HE : Hid (false = r) := by
              have h9 := HT.out
              rw [HSD.out, Bool.false_and] at h9
              exact h9
            obtain rfl := HE.out
            go_wp2_with fail
            go_region_with (go_at_call 12; refine (HCL _ ?_ ?_ ?_ ?_).mono ?_; exact rfl; exact rfl; exact rfl; exact rfl; rintro ee w3 ⟨rfl, hb3⟩)
            all_goals (
              go_wp2_with fail
              go_ret
              refine ⟨rfl, ?_⟩
              rw [HBz.out]
              exact HB0.out.trans ((HBT.out.trans (((Below.refl _ wr).drew.trans hb3).mono hZw)).mono (by have := HBz.out; omega)))
        · have t1 : ¬ (t : Int) < (n2 : Int) := by omega
          have HE : Hid (true = r) := by
            have h9 := HT.out
            rw [List.drop_of_length_le (by rw [HN2.out]; omega), List.drop_of_length_le (by rw [HM2.out]; omega)] at h9
            exact h9
          obtain rfl := HE.out
          clear hbt
          go_wp2_with fail
          go_ret
          refine ⟨rfl, ?_⟩
          rw [HBz.out]
          exact HB0.out.trans (HBT.out.mono (by have := HBz.out; omega))
/-- Any two elements of so many levels: whether they are the same. -/
theorem refSame_any : ∀ (n : Nat) {P Q : Nat → Prop} (x y : El) (a b c d a' b' c' d' : Value) (w : World), deepN n x → lenE n x → lenE n y → ElE P w x a b c d → ElE Q w y a' b' c' d' →
    Calls Tryz.prog 12 #[.agg #[a, b, c, d], .agg #[a', b', c', d']] w fun e w' => e = .returned (.bool (sameE n x y)) ∧ Below w.heap.size w w'
  | 0, _, _, _, _, _, _, _, _, _, _, _, _, _, h, _, _, _, _ => h.elim
  | n + 1, _, _, x, y, a, b, c, d, a', b', c', d', w, hd, hl, hl', h1, h2 =>
    refSame_step (sameE n) x y a b c d a' b' c' d' w h1 h2 hl.1 hl.2.1 _ rfl fun k hk k' hk' W a b c d a' b' c' d' hb e1 e2 =>
      refSame_any n k k' a b c d a' b' c' d' W (hd k hk) (hl.2.2 k hk) (hl'.2.2 k' hk') (e1.step (row_below hb)) (e2.step (row_below hb))
end Go.Proofs.YthekdgnikkjpdaaGreatDoor
