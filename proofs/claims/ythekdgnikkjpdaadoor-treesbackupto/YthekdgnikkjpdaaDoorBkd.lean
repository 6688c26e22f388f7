/-
  The contracts of the statements' own tokens and short over this program.
-/
import Derived.Test.YthekdgnikkjpdaaDoorBke
import Derived.Test.YthekdgnikkjpdaaDoorSamc
namespace Go.Proofs.YthekdgnikkjpdaaDoor
open Go Go.RowKit
theorem sum_le {f : El → Nat} {m : Nat} : ∀ (l : List El), (∀ k ∈ l, f k ≤ m) → (l.map f).sum ≤ l.length * m
  | [], _ => by simp
  | k :: l, h => by
    have ih := sum_le l fun q hq => h q (by simp [hq])
    have h1 := h k (by simp)
    simp only [List.map_cons, List.sum_cons, List.length_cons, Nat.add_mul]
    omega
theorem toksC_le : ∀ (d : Nat) (e : El), rightE d e = true → toksC d e ≤ 3 * 17 ^ d
  | 0, _, h => by cases h
  | d + 1, e, h => by
    simp only [rightE, Bool.and_eq_true, decide_eq_true_eq] at h
    obtain ⟨hk, _, _, _, hkids⟩ := h
    have h1 := sum_le (f := toksC d) (m := 3 * 17 ^ d) e.kids fun k hk => toksC_le d k (List.all_eq_true.1 hkids k hk)
    have h2 : e.kids.length * (3 * 17 ^ d) ≤ 16 * (3 * 17 ^ d) := Nat.mul_le_mul_right _ hk
    have h3 : 1 ≤ 17 ^ d := Nat.one_le_pow _ _ (by decide)
    have h4 : 17 ^ (d + 1) = 17 * 17 ^ d := by rw [Nat.pow_succ, Nat.mul_comm]
    unfold toksC
    rw [h4]
    split <;> omega
theorem sum_take {f : El → Nat} {l : List El} {j : Nat} {k : El} (h : l[j]? = some k) : ((l.take (j + 1)).map f).sum = ((l.take j).map f).sum + f k := by
  rw [List.take_add_one, h]
  simp
set_option maxHeartbeats 2000000 in
set_option maxRecDepth 100000 in
theorem tokens_step {P : Nat → Prop} (d : Nat) (hd : d ≤ 4) (e : El) (a b c dd : Value) (w : World) (hr : rightE (d + 1) e = true) (hel : ElE P w e a b c dd)
    (IH : ∀ k ∈ e.kids, ∀ (W : World) (a b c dd : Value), ElE P W k a b c dd → Calls Tryd.prog 18 #[.agg #[a, b, c, dd]] W fun r w' => r = .returned (.int .i64 (toksC d k : Int)) ∧ Below W.heap.size W w') :
    Calls Tryd.prog 18 #[.agg #[a, b, c, dd]] w fun r w' => r = .returned (.int .i64 (toksC (d + 1) e : Int)) ∧ Below w.heap.size w w' := by
  have hr0 := hr
  simp only [rightE, Bool.and_eq_true, decide_eq_true_eq] at hr
  obtain ⟨hk16, _, _, _, hkids⟩ := hr
  obtain ⟨ao1, cap1, ao2, cap2, rfl, rfl⟩ := hel.shape
  obtain ⟨rfl, _, rfl, ys, hrow, hks⟩ := hel.parts
  have HSUM : Hid (∀ j, ((e.kids.take j).map (toksC d)).sum ≤ 16 * (3 * 17 ^ 4)) := fun j => by
    have h1 := sum_le (f := toksC d) (m := 3 * 17 ^ d) (e.kids.take j) fun k hk => toksC_le d k (List.all_eq_true.1 hkids k (List.mem_of_mem_take hk))
    have h2 : (e.kids.take j).length ≤ 16 := Nat.le_trans (List.length_take_le' _ _) hk16
    have h3 : (e.kids.take j).length * (3 * 17 ^ d) ≤ 16 * (3 * 17 ^ d) := Nat.mul_le_mul_right _ h2
    have h4 : 17 ^ d ≤ 17 ^ 4 := Nat.pow_le_pow_right (by decide) hd
    omega
  have HROW : Hid (Row _ _ _ _ _) := hrow
  have HKS : Hid (KidsAt _ _ _) := hks
  have HIH : Hid _ := IH
  obtain ⟨M, hM⟩ : ∃ M, e.kids.length = M := ⟨_, rfl⟩
  have EM : Hid _ := hM
  obtain ⟨base, hbase⟩ : ∃ base : Nat, 2 + (if e.text.isEmpty then 0 else 1) = base := ⟨_, rfl⟩
  have hb3 : base ≤ 3 := by rw [← hbase]; split <;> omega
  have HEND : Hid (toksC (d + 1) e = base + ((e.kids.take M).map (toksC d)).sum) := by
    show toksC (d + 1) e = _
    rw [← hM, List.take_length, ← hbase]
    rfl
  obtain ⟨R, hR⟩ : ∃ R, toksC (d + 1) e = R := ⟨_, rfl⟩
  rw [hR] at HEND ⊢
  rw [hM] at hk16 ⊢
  obtain ⟨tx, htx⟩ : ∃ tx, (⟨e.text.toArray⟩ : ByteArray) = tx := ⟨_, rfl⟩
  have htl : tx.toList = e.text := by rw [← htx]; exact mk_toList _
  obtain ⟨nb, hnb⟩ : ∃ nb, (⟨e.nm.toArray⟩ : ByteArray) = nb := ⟨_, rfl⟩
  obtain ⟨A, hA⟩ : ∃ A, e.attrs.length = A := ⟨_, rfl⟩
  rw [htx, hnb, hA]
  have bx : ∀ W, Below (w.alloc (.cells #[.string nb, .slice ao1 A cap1, .string tx, .slice ao2 M cap2] 32)).heap.size (w.alloc (.cells #[.string nb, .slice ao1 A cap1, .string tx, .slice ao2 M cap2] 32)) W → W.cell? ⟨w.heap.size, 3, none⟩ = some (.slice ao2 M cap2) ∧ Below w.heap.size w W := fun W hW => by
    refine ⟨?_, ((Below.refl _ w).alloc (Nat.le_refl _) _).trans (hW.mono (by simp))⟩
    have h := (hW.block w.heap.size (by simp)).trans (heap_alloc_new w _)
    simp [World.cell?, h]
  have HBX : Hid _ := bx
  clear hel hrow hks IH hr0 hkids hM hR htx hnb hA bx
  cases htt : e.text.isEmpty with
  | true =>
    have h2 : base = 2 := by rw [← hbase, htt]; rfl
    subst h2
    have t1 : tx.toList = [] := by rw [htl]; exact List.isEmpty_iff.1 htt
    have t2 : tx.toList.isEmpty = true := by rw [t1]; rfl
    clear hbase htt htl
    go_enter Tryd.func18, Tryd.ntmps18
    go_wp2_with fail
    go_loopw [3, 4] (fun v i wr => ∃ j : Nat, j ≤ M ∧ i = .int .i64 (j : Int) ∧ v = .int .i64 ((2 + ((e.kids.take j).map (toksC d)).sum : Nat) : Int) ∧ Below (w.alloc (.cells #[.string nb, .slice ao1 A cap1, .string tx, .slice ao2 M cap2] 32)).heap.size (w.alloc (.cells #[.string nb, .slice ao1 A cap1, .string tx, .slice ao2 M cap2] 32)) wr) (fun _ i _ => M - (intOf i).toNat)
    case atStart => exact ⟨0, Nat.zero_le _, rfl, rfl, Below.refl _ _⟩
    case round =>
      obtain ⟨j, hj, rfl, rfl, hbw⟩ := hrel
      obtain ⟨q3, hbe⟩ := HBX.out wr hbw
      have HBW : Hid (Below _ _ _) := hbw
      have HBE : Hid (Below w.heap.size w wr) := hbe
      have hsz := hbw.size
      clear hbw hbe
      by_cases hlt : j < M
      · obtain ⟨kd, hkd⟩ : ∃ kd, e.kids[j]? = some kd := ⟨_, List.getElem?_eq_getElem (by rw [EM.out]; exact hlt)⟩
        obtain ⟨ka, kb, kc, kdd, i0, i1, i2, i3, hE⟩ := kids_get j HKS.out hkd
        have hrw := HROW.out
        rw [EM.out] at hrw
        obtain ⟨g, off, rfl, hg, hcell⟩ := row_flat2 hrw i0
        obtain ⟨ua, va, ub, vb, rfl, rfl⟩ := hE.shape
        obtain ⟨rfl, _, rfl, _⟩ := hE.parts
        have ca : ∀ i v, ys[i]? = some v → wr.cell? ⟨g, off + i, none⟩ = some v := fun i v hv => (HBE.out.cell (p := ⟨g, off + i, none⟩) hg).trans (hcell i v hv)
        have y0 := ca _ _ i0
        have y1 := ca _ _ i1
        have y2 := ca _ _ i2
        have y3 := ca _ _ i3
        rw [← Nat.add_assoc] at y1 y2 y3
        have HC := HIH.out kd (List.mem_of_getElem? hkd) wr _ _ _ _ (hE.step fun k hk hl => ⟨hk, HBE.out.block k hl⟩)
        have hsum := sum_take (f := toksC d) hkd
        have hs1 := HSUM.out (j + 1)
        have hi0 : (0 : Int) ≤ (j : Int) := by omega
        have hi1 : (j : Int) < (M : Int) := by omega
        obtain ⟨s0, hs0⟩ : ∃ s0, ((e.kids.take j).map (toksC d)).sum = s0 := ⟨_, rfl⟩
        obtain ⟨c0, hc0⟩ : ∃ c0, toksC d kd = c0 := ⟨_, rfl⟩
        rw [hs0, hc0] at hsum
        rw [hsum] at hs1
        rw [hc0] at HC
        rw [hs0]
        have HS : Hid _ := hsum
        obtain ⟨b0, hb0⟩ : ∃ b0, 2 + s0 = b0 := ⟨_, rfl⟩
        have HB0 : Hid _ := hb0
        rw [hb0]
        have hcb : b0 + c0 ≤ 5000000 := by omega
        clear hsum hkd i0 i1 i2 i3 hE hcell ca hrw hs0 hc0 hs1 hb0
        go_wp2_with (go_at_call 18; refine HC.mono ?_; rintro r w5 ⟨rfl, hb5⟩)
        go_roundw
        case rel =>
          refine ⟨j + 1, by omega, by go_num, ?_, HBW.out.trans (hb5.mono (by have := HBW.out.size; omega))⟩
          rw [HS.out]
          have h := HB0.out
          congr 1
          push_cast
          omega
        case measure => simp [intOf]; omega
      · obtain rfl : j = M := by omega
        have hnl : ¬ (j : Int) < (j : Int) := by omega
        obtain ⟨s0, hs0⟩ : ∃ s0, 2 + ((e.kids.take j).map (toksC d)).sum = s0 := ⟨_, rfl⟩
        have HS0 : Hid _ := hs0
        rw [hs0]
        clear hs0
        go_wp2_with fail
        go_ret
        exact ⟨by rw [HEND.out, HS0.out]; rfl, HBE.out⟩
  | false =>
    have h2 : base = 3 := by rw [← hbase, htt]; rfl
    subst h2
    have t1 : ¬ tx.toList = [] := by rw [htl]; intro h; rw [h] at htt; cases htt
    have t2 : tx.toList.isEmpty = false := by rw [htl]; exact htt
    clear hbase htt htl
    go_enter Tryd.func18, Tryd.ntmps18
    go_wp2_with fail
    go_loopw [3, 4] (fun v i wr => ∃ j : Nat, j ≤ M ∧ i = .int .i64 (j : Int) ∧ v = .int .i64 ((3 + ((e.kids.take j).map (toksC d)).sum : Nat) : Int) ∧ Below (w.alloc (.cells #[.string nb, .slice ao1 A cap1, .string tx, .slice ao2 M cap2] 32)).heap.size (w.alloc (.cells #[.string nb, .slice ao1 A cap1, .string tx, .slice ao2 M cap2] 32)) wr) (fun _ i _ => M - (intOf i).toNat)
    case atStart => exact ⟨0, Nat.zero_le _, rfl, rfl, Below.refl _ _⟩
    case round =>
      obtain ⟨j, hj, rfl, rfl, hbw⟩ := hrel
      obtain ⟨q3, hbe⟩ := HBX.out wr hbw
      have HBW : Hid (Below _ _ _) := hbw
      have HBE : Hid (Below w.heap.size w wr) := hbe
      have hsz := hbw.size
      clear hbw hbe
      by_cases hlt : j < M
      · obtain ⟨kd, hkd⟩ : ∃ kd, e.kids[j]? = some kd := ⟨_, List.getElem?_eq_getElem (by rw [EM.out]; exact hlt)⟩
        obtain ⟨ka, kb, kc, kdd, i0, i1, i2, i3, hE⟩ := kids_get j HKS.out hkd
        have hrw := HROW.out
        rw [EM.out] at hrw
        obtain ⟨g, off, rfl, hg, hcell⟩ := row_flat2 hrw i0
        obtain ⟨ua, va, ub, vb, rfl, rfl⟩ := hE.shape
        obtain ⟨rfl, _, rfl, _⟩ := hE.parts
        have ca : ∀ i v, ys[i]? = some v → wr.cell? ⟨g, off + i, none⟩ = some v := fun i v hv => (HBE.out.cell (p := ⟨g, off + i, none⟩) hg).trans (hcell i v hv)
        have y0 := ca _ _ i0
        have y1 := ca _ _ i1
        have y2 := ca _ _ i2
        have y3 := ca _ _ i3
        rw [← Nat.add_assoc] at y1 y2 y3
        have HC := HIH.out kd (List.mem_of_getElem? hkd) wr _ _ _ _ (hE.step fun k hk hl => ⟨hk, HBE.out.block k hl⟩)
        have hsum := sum_take (f := toksC d) hkd
        have hs1 := HSUM.out (j + 1)
        have hi0 : (0 : Int) ≤ (j : Int) := by omega
        have hi1 : (j : Int) < (M : Int) := by omega
        obtain ⟨s0, hs0⟩ : ∃ s0, ((e.kids.take j).map (toksC d)).sum = s0 := ⟨_, rfl⟩
        obtain ⟨c0, hc0⟩ : ∃ c0, toksC d kd = c0 := ⟨_, rfl⟩
        rw [hs0, hc0] at hsum
        rw [hsum] at hs1
        rw [hc0] at HC
        rw [hs0]
        have HS : Hid _ := hsum
        obtain ⟨b0, hb0⟩ : ∃ b0, 3 + s0 = b0 := ⟨_, rfl⟩
        have HB0 : Hid _ := hb0
        rw [hb0]
        have hcb : b0 + c0 ≤ 5000000 := by omega
        clear hsum hkd i0 i1 i2 i3 hE hcell ca hrw hs0 hc0 hs1 hb0
        go_wp2_with (go_at_call 18; refine HC.mono ?_; rintro r w5 ⟨rfl, hb5⟩)
        go_roundw
        case rel =>
          refine ⟨j + 1, by omega, by go_num, ?_, HBW.out.trans (hb5.mono (by have := HBW.out.size; omega))⟩
          rw [HS.out]
          have h := HB0.out
          congr 1
          push_cast
          omega
        case measure => simp [intOf]; omega
      · obtain rfl : j = M := by omega
        have hnl : ¬ (j : Int) < (j : Int) := by omega
        obtain ⟨s0, hs0⟩ : ∃ s0, 3 + ((e.kids.take j).map (toksC d)).sum = s0 := ⟨_, rfl⟩
        have HS0 : Hid _ := hs0
        rw [hs0]
        clear hs0
        go_wp2_with fail
        go_ret
        exact ⟨by rw [HEND.out, HS0.out]; rfl, HBE.out⟩
theorem tokens_any : ∀ (d : Nat) {P : Nat → Prop} (e : El) (a b c dd : Value) (w : World), d ≤ 5 → rightE d e = true → ElE P w e a b c dd → Calls Tryd.prog 18 #[.agg #[a, b, c, dd]] w fun r w' => r = .returned (.int .i64 (toksC d e : Int)) ∧ Below w.heap.size w w'
  | 0, _, _, _, _, _, _, _, _, h, _ => by cases h
  | d + 1, _, e, a, b, c, dd, w, hd, hr, hel => by
    refine tokens_step d (by omega) e a b c dd w hr hel fun k hk W a b c dd h => tokens_any d k a b c dd W (by omega) ?_ h
    simp only [rightE, Bool.and_eq_true] at hr
    exact List.all_eq_true.1 hr.2.2.2.2 k hk
theorem attrsC_take {l : List (List UInt8 × List UInt8)} {j : Nat} {p : List UInt8 × List UInt8} (h : l[j]? = some p) : attrsC (l.take (j + 1)) = attrsC (l.take j) + (6 * p.2.length + 20) := by
  unfold attrsC
  rw [List.take_add_one, h]
  simp
theorem attrsC_le : ∀ (l : List (List UInt8 × List UInt8)), (∀ p ∈ l, p.2.length ≤ 2000000) → attrsC l ≤ l.length * 12000020
  | [], _ => by simp [attrsC]
  | p :: l, h => by
    have ih := attrsC_le l fun q hq => h q (by simp [hq])
    have h1 := h p (by simp)
    have e : attrsC (p :: l) = 6 * p.2.length + 20 + attrsC l := rfl
    rw [e, List.length_cons, Nat.add_mul]
    omega
set_option maxHeartbeats 4000000 in
set_option maxRecDepth 100000 in
theorem short_step {P : Nat → Prop} (d : Nat) (e : El) (a b c dd : Value) (w : World) (hr : rightE (d + 1) e = true) (hs : smallE (d + 1) e) (hel : ElE P w e a b c dd)
    (IH : ∀ k ∈ e.kids, ∀ (W : World) (a b c dd : Value), ElE P W k a b c dd → Calls Tryd.prog 17 #[.agg #[a, b, c, dd]] W fun r w' => r = .returned (.bool (shortB d k)) ∧ Below W.heap.size W w') :
    Calls Tryd.prog 17 #[.agg #[a, b, c, dd]] w fun r w' => r = .returned (.bool (shortB (d + 1) e)) ∧ Below w.heap.size w w' := by
  simp only [rightE, Bool.and_eq_true, decide_eq_true_eq] at hr
  obtain ⟨hk16, _, hra, _, _⟩ := hr
  obtain ⟨hs1, _, hs3, _, _⟩ := hs
  have ha6 : e.attrs.length ≤ 6 := by
    simp only [rightA, Bool.and_eq_true, decide_eq_true_eq] at hra
    exact hra.1
  have HSB : Hid (∀ p ∈ e.attrs, p.2.length ≤ 2000000) := fun p hp => (hs3 p hp).2
  have HCL : Hid (∀ j, attrsC (e.attrs.take j) ≤ 100000000) := fun j => by
    have h1 := attrsC_le (e.attrs.take j) fun p hp => (hs3 p (List.mem_of_mem_take hp)).2
    have h2 : (e.attrs.take j).length ≤ 6 := Nat.le_trans (List.length_take_le' _ _) ha6
    have h3 : (e.attrs.take j).length * 12000020 ≤ 6 * 12000020 := Nat.mul_le_mul_right _ h2
    omega
  obtain ⟨ao1, cap1, ao2, cap2, rfl, rfl⟩ := hel.shape
  obtain ⟨rfl, hrowA, rfl, ys, hrow, hks⟩ := hel.parts
  have HRA : Hid (Row _ _ _ _ _) := hrowA
  have HROW : Hid (Row _ _ _ _ _) := hrow
  have HKS : Hid (KidsAt _ _ _) := hks
  have HIH : Hid _ := IH
  obtain ⟨M, hM⟩ : ∃ M, e.kids.length = M := ⟨_, rfl⟩
  have EM : Hid _ := hM
  obtain ⟨R, hR⟩ : ∃ R, shortB (d + 1) e = R := ⟨_, rfl⟩
  have ER : Hid ((decide (attrsC e.attrs ≤ 400) && (decide (e.text.length ≤ 80) && e.kids.all (shortB d))) = R) := hR
  rw [hR]
  rw [hM] at hk16 ⊢
  obtain ⟨tx, htx⟩ : ∃ tx, (⟨e.text.toArray⟩ : ByteArray) = tx := ⟨_, rfl⟩
  have htl : tx.size = e.text.length := by rw [← htx]; show e.text.toArray.size = _; rw [List.size_toArray]
  obtain ⟨ts, hts⟩ : ∃ ts, e.text.length = ts := ⟨_, rfl⟩
  have ETS : Hid _ := hts
  rw [hts] at htl hs1
  obtain ⟨nb, hnb⟩ : ∃ nb, (⟨e.nm.toArray⟩ : ByteArray) = nb := ⟨_, rfl⟩
  obtain ⟨A, hA⟩ : ∃ A, e.attrs.length = A := ⟨_, rfl⟩
  have EA : Hid _ := hA
  rw [htx, hnb, hA]
  rw [hA] at ha6
  obtain ⟨W1, hW1⟩ : ∃ W1, w.alloc (.cells #[.string nb, .slice ao1 A cap1, .string tx, .slice ao2 M cap2] 32) = W1 := ⟨_, rfl⟩
  have hbW : Below w.heap.size w W1 := by rw [← hW1]; exact (Below.refl _ w).alloc (Nat.le_refl _) _
  have hat : At w.heap.size #[.string nb, .slice ao1 A cap1, .string tx, .slice ao2 M cap2] 32 W1 := by rw [← hW1]; exact heap_alloc_new w _
  have HBW1 : Hid (Below w.heap.size w W1) := hbW
  have HAT : Hid (At _ _ _ _) := hat
  have EW1 : Hid _ := hW1
  clear hel hrow hrowA hks IH hM hR htx hnb hA hs3 hra hts hbW hat hW1
  go_enter Tryd.func17, Tryd.ntmps17
  go_wp2_with fail
  rw [EW1.out]
  obtain ⟨q0, q1, q2, q3⟩ := (el4 HAT.out)
  go_loopw [3, 4] (fun v i wr => ∃ j : Nat, j ≤ A ∧ i = .int .i64 (j : Int) ∧ v = .int .i64 ((attrsC (e.attrs.take j) : Nat) : Int) ∧ wr = W1) (fun _ i _ => A - (intOf i).toNat)
  case atStart => exact ⟨0, Nat.zero_le _, rfl, rfl, rfl⟩
  case round =>
    obtain ⟨j, hj, rfl, rfl, hwr⟩ := hrel
    have hwr' := hwr.symm
    subst hwr'
    clear hwr
    by_cases hlt : j < A
    · obtain ⟨p, hp⟩ : ∃ p, e.attrs[j]? = some p := ⟨_, List.getElem?_eq_getElem (by rw [EA.out]; exact hlt)⟩
      obtain ⟨gx, hgx⟩ := pair_get e.attrs j p hp
      have hrw := HRA.out
      rw [EA.out] at hrw
      obtain ⟨g, off, rfl, hg, hcell⟩ := row_flat2 hrw gx
      obtain ⟨vl, hvl⟩ : ∃ vl : ByteArray, (⟨p.2.toArray⟩ : ByteArray) = vl := ⟨_, rfl⟩
      have k1 : W1.cell? ⟨g, off + j * 2 + 1, none⟩ = some (.string vl) := by rw [HBW1.out.cell (p := ⟨g, _, none⟩) hg, Nat.add_assoc, ← hvl]; exact hcell _ _ hgx
      have hvs : vl.size = p.2.length := by rw [← hvl]; show p.2.toArray.size = _; rw [List.size_toArray]
      have hpl := HSB.out p (List.mem_of_getElem? hp)
      have htk := attrsC_take hp
      have hc1 := HCL.out (j + 1)
      obtain ⟨n0, hn0⟩ : ∃ n0, attrsC (e.attrs.take j) = n0 := ⟨_, rfl⟩
      obtain ⟨sz, hszz⟩ : ∃ sz, p.2.length = sz := ⟨_, rfl⟩
      rw [hn0, hszz] at htk
      rw [hszz] at hvs hpl
      rw [htk] at hc1
      rw [hn0]
      have HTKK : Hid _ := htk
      have hi0 : (0 : Int) ≤ (j : Int) := by omega
      have hi1 : (j : Int) < (A : Int) := by omega
      have hb1 : (sz : Int) ≤ 2000000 := by omega
      have hb2 : (n0 : Int) ≤ 100000000 := by omega
      clear hp gx hgx hrw hcell hvl htk hn0 hszz
      go_wp2_with fail
      go_roundw
      case rel =>
        refine ⟨j + 1, by omega, by go_num, ?_, trivial⟩
        rw [HTKK.out]
        congr 1
        all_goals (first | omega | (push_cast; omega) | (simp only [IntKind.wrap_i64]; push_cast; omega))
      case measure => simp [intOf]; omega
    · obtain rfl : j = A := by omega
      have hnl : ¬ (j : Int) < (j : Int) := by omega
      have hfull : e.attrs.take j = e.attrs := List.take_of_length_le (by rw [EA.out]; exact Nat.le_refl _)
      rw [hfull]
      obtain ⟨n0, hn0⟩ : ∃ n0, attrsC e.attrs = n0 := ⟨_, rfl⟩
      have EN0 : Hid _ := hn0
      rw [hn0]
      clear hfull hn0
      by_cases h4 : 400 < n0
      · have h4' : (400 : Int) < (n0 : Int) := by omega
        have hRf : R = false := by rw [← ER.out, EN0.out, decide_eq_false (by omega)]; rfl
        subst hRf
        go_wp2_with fail
        go_ret
        exact ⟨rfl, HBW1.out⟩
      · have h4' : ¬ (400 : Int) < (n0 : Int) := by omega
        by_cases h8 : 80 < ts
        · have h8' : (80 : Int) < (ts : Int) := by omega
          have hRf : R = false := by rw [← ER.out, ETS.out, decide_eq_false (p := ts ≤ 80) (by omega)]; simp
          subst hRf
          go_wp2_with fail
          go_ret
          exact ⟨rfl, HBW1.out⟩
        · have h8' : ¬ (80 : Int) < (ts : Int) := by omega
          have hrk : e.kids.all (shortB d) = R := by
            have h := ER.out
            rw [EN0.out, ETS.out, decide_eq_true (p := n0 ≤ 400) (by omega), decide_eq_true (p := ts ≤ 80) (by omega)] at h
            simpa using h
          have HRK : Hid _ := hrk
          clear hrk
          go_wp2_with fail
          go_loopw [5] (fun i wr => ∃ j : Nat, j ≤ M ∧ i = .int .i64 (j : Int) ∧ (∀ k ∈ e.kids.take j, shortB d k = true) ∧ Below W1.heap.size W1 wr) (fun i _ => M - (intOf i).toNat)
          case atStart => exact ⟨0, Nat.zero_le _, rfl, fun k hk => by simp at hk, Below.refl _ _⟩
          case round =>
            obtain ⟨i, hi, rfl, hall, hbw⟩ := hrel
            have hat2 := At.below HAT.out hbw (lt_of_heap HAT.out)
            have q3' := (el4 hat2).2.2.2
            have hbe : Below w.heap.size w wr := HBW1.out.trans (hbw.mono HBW1.out.size)
            have HBE : Hid (Below w.heap.size w wr) := hbe
            have HBW2 : Hid (Below W1.heap.size W1 wr) := hbw
            have HALL : Hid _ := hall
            clear hat2 hbw hall hbe
            by_cases hlt2 : i < M
            · obtain ⟨kd, hkd⟩ : ∃ kd, e.kids[i]? = some kd := ⟨_, List.getElem?_eq_getElem (by rw [EM.out]; exact hlt2)⟩
              obtain ⟨ka, kb, kc, kdd, i0, i1, i2, i3, hE⟩ := kids_get i HKS.out hkd
              have hrw := HROW.out
              rw [EM.out] at hrw
              obtain ⟨g, off, rfl, hg, hcell⟩ := row_flat2 hrw i0
              obtain ⟨ua, va, ub, vb, rfl, rfl⟩ := hE.shape
              obtain ⟨rfl, _, rfl, _⟩ := hE.parts
              have ca : ∀ i v, ys[i]? = some v → wr.cell? ⟨g, off + i, none⟩ = some v := fun i v hv => (HBE.out.cell (p := ⟨g, off + i, none⟩) hg).trans (hcell i v hv)
              have y0 := ca _ _ i0
              have y1 := ca _ _ i1
              have y2 := ca _ _ i2
              have y3 := ca _ _ i3
              rw [← Nat.add_assoc] at y1 y2 y3
              have HC := HIH.out kd (List.mem_of_getElem? hkd) wr _ _ _ _ (hE.step fun k hk hl => ⟨hk, HBE.out.block k hl⟩)
              have hi0 : (0 : Int) ≤ (i : Int) := by omega
              have hi1 : (i : Int) < (M : Int) := by omega
              have HKD : Hid _ := hkd
              cases hb : shortB d kd with
              | true =>
                rw [hb] at HC
                have HB : Hid _ := hb
                clear hb hkd i0 i1 i2 i3 hE hcell ca hrw
                go_wp2_with (go_at_call 17; refine HC.mono ?_; rintro r w5 ⟨rfl, hb5⟩)
                go_roundw
                case rel =>
                  refine ⟨i + 1, by omega, by go_num, fun k hk => ?_, HBW2.out.trans (hb5.mono HBW2.out.size)⟩
                  rw [List.take_add_one, HKD.out] at hk
                  rcases List.mem_append.1 hk with hk | hk
                  · exact HALL.out k hk
                  · simp at hk
                    subst hk
                    exact HB.out
                case measure => simp [intOf]; omega
              | false =>
                rw [hb] at HC
                have hRf : R = false := by
                  rw [← HRK.out]
                  rw [List.all_eq_false]
                  exact ⟨kd, List.mem_of_getElem? hkd, by rw [hb]; simp⟩
                subst hRf
                clear hb hkd i0 i1 i2 i3 hE hcell ca hrw
                go_wp2_with (go_at_call 17; refine HC.mono ?_; rintro r w5 ⟨rfl, hb5⟩)
                go_ret
                exact ⟨rfl, HBE.out.trans (hb5.mono HBE.out.size)⟩
            · obtain rfl : i = M := by omega
              have hnl2 : ¬ (i : Int) < (i : Int) := by omega
              have hRt : R = true := by
                rw [← HRK.out, List.all_eq_true]
                intro k hk
                exact HALL.out k (by rw [List.take_of_length_le (by rw [EM.out]; exact Nat.le_refl _)]; exact hk)
              subst hRt
              go_wp2_with fail
              go_ret
              exact ⟨rfl, HBE.out⟩
theorem short_any : ∀ (d : Nat) {P : Nat → Prop} (e : El) (a b c dd : Value) (w : World), rightE d e = true → smallE d e → ElE P w e a b c dd → Calls Tryd.prog 17 #[.agg #[a, b, c, dd]] w fun r w' => r = .returned (.bool (shortB d e)) ∧ Below w.heap.size w w'
  | 0, _, _, _, _, _, _, _, h, _, _ => by cases h
  | d + 1, _, e, a, b, c, dd, w, hr, hs, hel => by
    refine short_step d e a b c dd w hr hs hel fun k hk W a b c dd h => short_any d k a b c dd W ?_ (hs.2.2.2.2 k hk) h
    simp only [rightE, Bool.and_eq_true] at hr
    exact List.all_eq_true.1 hr.2.2.2.2 k hk
end Go.Proofs.YthekdgnikkjpdaaDoor
