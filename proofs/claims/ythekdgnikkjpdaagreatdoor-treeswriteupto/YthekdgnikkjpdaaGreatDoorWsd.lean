/-
  The contract of trees.Attr over this program.
-/
import Derived.Test.YthekdgnikkjpdaaGreatDoorWsa
import Derived.Test.YthekdgnikkjpdaaGreatDoorRefe
import Derived.Test.YthekdgnikkjpdaaGreatDoorOpne
import Derived.Laws.Concat
namespace Go.Proofs.YthekdgnikkjpdaaGreatDoor
open Go Go.RowKit
/-- The value of the first attribute of this name. -/
def attrF (nm : List UInt8) : List (List UInt8 × List UInt8) → Option (List UInt8)
  | [] => none
  | p :: r => if p.1 == nm then some p.2 else attrF nm r
theorem attrF_drop {nm : List UInt8} {l : List (List UInt8 × List UInt8)} {j : Nat} {p : List UInt8 × List UInt8} (h : l[j]? = some p) : attrF nm (l.drop j) = if p.1 == nm then some p.2 else attrF nm (l.drop (j + 1)) := by
  obtain ⟨a, rfl⟩ := List.getElem?_eq_some_iff.1 h
  rw [List.drop_eq_getElem_cons a]
  rfl
def atV (o : Option (List UInt8)) : ByteArray := ⟨(o.getD []).toArray⟩
set_option maxHeartbeats 2000000 in
set_option maxRecDepth 100000 in
theorem attr_any {P : Nat → Prop} (x : El) (nm : List UInt8) (a b c d : Value) (w : World) (h1 : ElE P w x a b c d) (hl1 : x.attrs.length ≤ 1000000000000) (v : ByteArray) (ok : Bool) (hv : atV (attrF nm x.attrs) = v) (hok : (attrF nm x.attrs).isSome = ok) :
    Calls Tryz.prog 8 #[.agg #[a, b, c, d], .string ⟨nm.toArray⟩] w fun e w' => e = .returned (.tuple #[.string v, .bool ok]) ∧ Below w.heap.size w w' := by
  obtain ⟨ao1, cap1, ao2, cap2, rfl, rfl⟩ := h1.shape
  obtain ⟨rfl, hr1, rfl, xs, hk1, hks1⟩ := h1.parts
  obtain ⟨s1, hs1⟩ : ∃ s1, (⟨x.nm.toArray⟩ : ByteArray) = s1 := ⟨_, rfl⟩
  obtain ⟨s2, hs2⟩ : ∃ s2, (⟨x.text.toArray⟩ : ByteArray) = s2 := ⟨_, rfl⟩
  obtain ⟨n1, hn1⟩ : ∃ n1, x.attrs.length = n1 := ⟨_, rfl⟩
  obtain ⟨n2, hn2⟩ : ∃ n2, x.kids.length = n2 := ⟨_, rfl⟩
  obtain ⟨N, hN⟩ : ∃ N, (⟨nm.toArray⟩ : ByteArray) = N := ⟨_, rfl⟩
  rw [hn1] at hl1 hr1
  rw [hs1, hs2, hn1, hn2, hN]
  have R1 : Hid (Row _ _ _ _ _) := hr1
  have HN1 : Hid _ := hn1
  have HNN : Hid ((⟨nm.toArray⟩ : ByteArray) = N) := hN
  have HV : Hid (atV (attrF nm x.attrs) = v) := hv
  have HOK : Hid ((attrF nm x.attrs).isSome = ok) := hok
  obtain ⟨B, hB⟩ : ∃ B, w.heap.size = B := ⟨_, rfl⟩
  have HBz : Hid (w.heap.size = B) := hB
  clear h1 hr1 hk1 hks1 hs1 hs2 hn1 hn2 hN hv hok
  go_enter Tryz.func8, Tryz.ntmps8
  go_wp2_with fail
  clear hB
  go_loopw [4, 5, 7, 11] (fun _ _ _ i wr => ∃ j : Nat, j ≤ n1 ∧ i = .int .i64 (j : Int) ∧ Hid (attrF nm (x.attrs.drop j) = attrF nm x.attrs) ∧ Hid (Below w.heap.size w wr)) (fun _ _ _ i _ => n1 - (intOf i).toNat)
  case atStart => exact ⟨0, Nat.zero_le _, rfl, rfl, (Below.refl _ w).alloc (Nat.le_refl _) _⟩
  case round =>
    obtain ⟨j, hj, rfl, HJ, HBW⟩ := hrel
    by_cases hlt : j < n1
    · obtain ⟨pr, hpr⟩ : ∃ pr, x.attrs[j]? = some pr := ⟨_, List.getElem?_eq_getElem (by rw [HN1.out]; exact hlt)⟩
      obtain ⟨g0, g1⟩ := pair_get x.attrs j pr hpr
      obtain ⟨ga, oa, rfl, hga, hca⟩ := row_flat2 R1.out g0
      have ca : ∀ i v, (pairCells x.attrs)[i]? = some v → wr.cell? ⟨ga, oa + i, none⟩ = some v := fun i v hv => (HBW.out.cell (p := ⟨ga, oa + i, none⟩) hga).trans (hca i v hv)
      have a0 := ca _ _ g0
      have a1 := ca _ _ g1
      rw [← Nat.add_assoc] at a1
      have hj0 : (0 : Int) ≤ (j : Int) := by omega
      have hj1 : (j : Int) < (n1 : Int) := by omega
      have hst := attrF_drop (nm := nm) hpr
      cases hpq : pr.1 == nm with
      | true =>
        have hpn := eq_of_beq hpq
        rw [hpq, if_pos rfl] at hst
        have HE : Hid (some pr.2 = attrF nm x.attrs) := hst.symm.trans HJ.out
        have HV2 : Hid ((⟨pr.2.toArray⟩ : ByteArray) = v) := by
          show _ = _
          rw [← HV.out, ← HE.out]
          rfl
        obtain rfl : true = ok := by rw [← HOK.out, ← HE.out]; rfl
        rw [hpn, HNN.out] at a0
        rw [HV2.out] at a1
        clear ca hca g0 g1 hpr hst hpq hpn
        go_wp2_with fail
        go_ret2
        exact ⟨rfl, HBW.out.alloc HBW.out.size _⟩
      | false =>
        rw [hpq, if_neg (by decide)] at hst
        have HJ' : Hid (attrF nm (x.attrs.drop (j + 1)) = attrF nm x.attrs) := hst.symm.trans HJ.out
        obtain ⟨e1, e2⟩ := bytes_neq2 hpq
        rw [HNN.out] at e1 e2
        obtain ⟨q1, hq1⟩ : ∃ q1, (⟨pr.1.toArray⟩ : ByteArray) = q1 := ⟨_, rfl⟩
        obtain ⟨q2, hq2⟩ : ∃ q2, (⟨pr.2.toArray⟩ : ByteArray) = q2 := ⟨_, rfl⟩
        rw [hq1] at a0 e1 e2
        rw [hq2] at a1
        clear ca hca g0 g1 hpr hst hpq hq1 hq2
        go_wp2_with fail
        go_roundw
        case rel => exact ⟨j + 1, by omega, by go_num, HJ', HBW.out.alloc HBW.out.size _⟩
        case measure => simp [intOf]; omega
    · have hj1 : ¬ (j : Int) < (n1 : Int) := by omega
      have HE : Hid (none = attrF nm x.attrs) := by
        show _ = _
        rw [← HJ.out, List.drop_of_length_le (by rw [HN1.out]; omega)]
        rfl
      obtain rfl : false = ok := by rw [← HOK.out, ← HE.out]; rfl
      obtain rfl : (⟨#[]⟩ : ByteArray) = v := by rw [← HV.out, ← HE.out]; rfl
      go_wp2_with fail
      go_ret2
      exact ⟨rfl, HBW.out⟩
end Go.Proofs.YthekdgnikkjpdaaGreatDoor

/-
  The contract of tidewaterref03.Right over this program, at any element.
-/
namespace Go.Proofs.YthekdgnikkjpdaaGreatDoor
open Go Go.RowKit
/-- The names of the first so many attributes. -/
def nmsT (l : List (List UInt8 × List UInt8)) (k : Nat) (z : List UInt8) : Bool := (l.take k).any fun p => p.1 == z
theorem nmsT_succ {l : List (List UInt8 × List UInt8)} {k : Nat} {p : List UInt8 × List UInt8} (h : l[k]? = some p) (z : List UInt8) : nmsT l (k + 1) z = (nmsT l k z || p.1 == z) := by
  have e : l.take (k + 1) = l.take k ++ [p] := by rw [List.take_add_one, h]; rfl
  unfold nmsT
  rw [e, List.any_append]
  simp
/-- What is left of an element's attributes is right, the first ones being known. -/
def leftA (l : List (List UInt8 × List UInt8)) (k : Nat) (r : Bool) : Prop := ∃ kn : List (List UInt8), (∀ z, kn.contains z = nmsT l k z) ∧ attrsOk kn (l.drop k) = r
theorem leftA_zero (l : List (List UInt8 × List UInt8)) : leftA l 0 (attrsOk [] l) := ⟨[], fun _ => rfl, rfl⟩
theorem leftA_step {l : List (List UInt8 × List UInt8)} {k : Nat} {p : List UInt8 × List UInt8} {r : Bool} (h : l[k]? = some p) (hl : leftA l k r) :
    (name p.1 = false → r = false) ∧ (right p.2 = false → r = false) ∧ (nmsT l k p.1 = true → r = false) ∧ (name p.1 = true → right p.2 = true → nmsT l k p.1 = false → leftA l (k + 1) r) := by
  obtain ⟨kn, h1, h2⟩ := hl
  obtain ⟨hk, e⟩ := List.getElem?_eq_some_iff.1 h
  rw [List.drop_eq_getElem_cons hk, e] at h2
  unfold attrsOk at h2
  rw [h1] at h2
  refine ⟨fun a => ?_, fun a => ?_, fun a => ?_, fun a b c => ⟨p.1 :: kn, fun z => ?_, ?_⟩⟩
  · rw [← h2, a]; simp
  · rw [← h2, a]; simp
  · rw [← h2, a]; simp
  · rw [List.contains_cons, h1, nmsT_succ h, Bool.or_comm]
    congr 1
    cases hz : z == p.1 with
    | true => rw [eq_of_beq hz]; simp
    | false =>
      symm
      rw [beq_eq_false_iff_ne] at hz ⊢
      exact fun e => hz e.symm
  · rw [← h2, a, b, c]
    simp
theorem leftA_end {l : List (List UInt8 × List UInt8)} {k : Nat} {r : Bool} (h : leftA l k r) (hk : l.length ≤ k) : r = true := by
  obtain ⟨kn, _, h2⟩ := h
  rw [List.drop_of_length_le hk] at h2
  exact h2.symm
theorem nmsT_has {l : List (List UInt8 × List UInt8)} {q j : Nat} {p : List UInt8 × List UInt8} (h : l[q]? = some p) (hq : q < j) : nmsT l j p.1 = true := by
  unfold nmsT
  rw [List.any_eq_true]
  exact ⟨p, List.mem_iff_getElem?.2 ⟨q, by rw [List.getElem?_take, if_pos hq]; exact h⟩, by simp⟩
def rightG (f : El → Bool) (e : El) : Bool := decide (e.kids.length ≤ 16) && (name e.nm && (rightA e.attrs && (right e.text && e.kids.all f)))
theorem rightN_no {l : List UInt8} (h : right l = false) : rightN l = 2 := by unfold rightN; rw [h]; rfl
theorem rightN_yes {l : List UInt8} (h : right l = true) : rightN l = 0 := by unfold rightN; rw [h]; rfl
theorem refName_at (s : ByteArray) (l : List UInt8) (hl : (⟨l.toArray⟩ : ByteArray) = s) (b : Bool) (h : name l = b) (hs : l.length ≤ 2000000) (w : World) :
    Calls Tryz.prog 40 #[.string s] w fun e w' => e = .returned (.bool b) ∧ w' = w := by
  subst hl
  have := refName_any ⟨l.toArray⟩ w hs
  rw [show (⟨l.toArray⟩ : ByteArray).data.toList = l from rfl, h] at this
  exact this
theorem refRight_in (s : ByteArray) (l : List UInt8) (hl : (⟨l.toArray⟩ : ByteArray) = s) (c : Int) (h : rightN l = c) (hs : l.length ≤ 2000000) (w : World) :
    Calls Tryz.prog 35 #[.string s] w fun e w' => e = .returned (.int .i64 c) ∧ w' = w := by
  subst hl
  exact refRight_at ⟨l.toArray⟩ c h hs w
/-- All that is asked of an element ahead of its attributes. -/
def headG (e : El) : Bool := decide (e.kids.length ≤ 16) && (name e.nm && (decide (e.attrs.length ≤ 6) && right e.text))
theorem rightG_head {f : El → Bool} {e : El} (h : headG e = false) : rightG f e = false := by
  unfold rightG rightA
  unfold headG at h
  cases h1 : decide (e.kids.length ≤ 16) <;> cases h2 : name e.nm <;> cases h3 : decide (e.attrs.length ≤ 6) <;> cases h4 : right e.text <;> simp_all
theorem rightG_rest {f : El → Bool} {e : El} (h : headG e = true) : rightG f e = (attrsOk [] e.attrs && e.kids.all f) := by
  unfold rightG rightA
  unfold headG at h
  cases h1 : decide (e.kids.length ≤ 16) <;> cases h2 : name e.nm <;> cases h3 : decide (e.attrs.length ≤ 6) <;> cases h4 : right e.text <;> simp_all
set_option maxHeartbeats 4000000 in
set_option maxRecDepth 100000 in
theorem refRight_step {P : Nat → Prop} (f : El → Bool) (x : El) (dp : Nat) (hdp : dp ≤ 4) (a b c d : Value) (w : World) (h1 : ElE P w x a b c d) (hsm : x.nm.length ≤ 2000000 ∧ x.text.length ≤ 2000000 ∧ x.attrs.length ≤ 2000000 ∧ (∀ p ∈ x.attrs, p.1.length ≤ 2000000 ∧ p.2.length ≤ 2000000) ∧ x.kids.length ≤ 2000000) (r : Bool) (hr : rightG f x = r)
    (IH : ∀ k ∈ x.kids, ∀ (W : World) (a b c d : Value), Below w.heap.size w W → ElE P w k a b c d → Calls Tryz.prog 24 #[.agg #[a, b, c, d], .int .i64 ((dp : Int) + 1)] W fun e w' => e = .returned (.bool (f k)) ∧ Below W.heap.size W w') :
    Calls Tryz.prog 24 #[.agg #[a, b, c, d], .int .i64 (dp : Int)] w fun e w' => e = .returned (.bool r) ∧ Below w.heap.size w w' := by
  obtain ⟨ao1, cap1, ao2, cap2, rfl, rfl⟩ := h1.shape
  obtain ⟨rfl, hr1, rfl, xs, hk1, hks1⟩ := h1.parts
  obtain ⟨hm1, hm2, hm3, hm4, hm5⟩ := hsm
  obtain ⟨s1, hs1⟩ : ∃ s1, (⟨x.nm.toArray⟩ : ByteArray) = s1 := ⟨_, rfl⟩
  obtain ⟨s2, hs2⟩ : ∃ s2, (⟨x.text.toArray⟩ : ByteArray) = s2 := ⟨_, rfl⟩
  obtain ⟨n1, hn1⟩ : ∃ n1, x.attrs.length = n1 := ⟨_, rfl⟩
  obtain ⟨n2, hn2⟩ : ∃ n2, x.kids.length = n2 := ⟨_, rfl⟩
  obtain ⟨nb, hnb⟩ : ∃ nb, name x.nm = nb := ⟨_, rfl⟩
  obtain ⟨rb, hrb⟩ : ∃ rb, right x.text = rb := ⟨_, rfl⟩
  obtain ⟨rc, hrc⟩ : ∃ rc, rightN x.text = rc := ⟨_, rfl⟩
  have HNM := fun W => refName_at s1 x.nm hs1 nb hnb hm1 W
  have HRT := fun W => refRight_in s2 x.text hs2 rc hrc hm2 W
  have HALL : ∀ o1 : Obj, Below w.heap.size w (w.alloc o1) := fun o1 => (Below.refl _ w).alloc (Nat.le_refl _) o1
  have hd4 : ¬ (4 : Int) < (dp : Int) := by omega
  rw [hs1, hs2, hn1, hn2]
  have hhg : headG x = (decide (n2 ≤ 16) && (nb && (decide (n1 ≤ 6) && rb))) := by unfold headG; rw [hn1, hn2, hnb, hrb]
  have hw6 : (n1 ≤ 6 ∧ ¬ (6 : Int) < (n1 : Int)) ∨ (¬ n1 ≤ 6 ∧ (6 : Int) < (n1 : Int)) := by omega
  have hw16 : (n2 ≤ 16 ∧ ¬ (16 : Int) < (n2 : Int)) ∨ (¬ n2 ≤ 16 ∧ (16 : Int) < (n2 : Int)) := by omega
  cases nb with
  | false =>
    obtain rfl : false = r := by rw [← hr]; exact (rightG_head (by rw [hhg]; simp)).symm
    clear h1 hr1 hk1 hks1 hs1 hs2 hn1 hn2 hnb hrb hrc IH hr hhg hm1 hm2 hm3 hm4 hm5 hw6 hw16
    go_enter Tryz.func24, Tryz.ntmps24
    go_wp2_with (go_at_call 40; refine (HNM _).mono ?_; rintro e w1 ⟨rfl, rfl⟩)
    go_ret
    exact ⟨rfl, HALL _⟩
  | true =>
  rcases hw6 with ⟨g6, i6⟩ | ⟨g6, i6⟩
  case inr =>
    obtain rfl : false = r := by rw [← hr]; exact (rightG_head (by rw [hhg, decide_eq_false g6]; simp)).symm
    clear h1 hr1 hk1 hks1 hs1 hs2 hn1 hn2 hnb hrb hrc IH hr hhg hm1 hm2 hm3 hm4 hm5 hw16 g6
    go_enter Tryz.func24, Tryz.ntmps24
    go_wp2_with (go_at_call 40; refine (HNM _).mono ?_; rintro e w1 ⟨rfl, rfl⟩)
    go_ret
    exact ⟨rfl, HALL _⟩
  rcases hw16 with ⟨g16, i16⟩ | ⟨g16, i16⟩
  case inr =>
    obtain rfl : false = r := by rw [← hr]; exact (rightG_head (by rw [hhg, decide_eq_false g16]; simp)).symm
    clear h1 hr1 hk1 hks1 hs1 hs2 hn1 hn2 hnb hrb hrc IH hr hhg hm1 hm2 hm3 hm4 hm5 g6 g16
    go_enter Tryz.func24, Tryz.ntmps24
    go_wp2_with (go_at_call 40; refine (HNM _).mono ?_; rintro e w1 ⟨rfl, rfl⟩)
    go_ret
    exact ⟨rfl, HALL _⟩
  cases rb with
  | false =>
    obtain rfl : false = r := by rw [← hr]; exact (rightG_head (by rw [hhg]; simp)).symm
    obtain rfl : 2 = rc := by rw [← hrc]; exact (rightN_no hrb).symm
    clear h1 hr1 hk1 hks1 hs1 hs2 hn1 hn2 hnb hrb hrc IH hr hhg hm1 hm2 hm3 hm4 hm5 g6 g16
    go_enter Tryz.func24, Tryz.ntmps24
    go_wp2_with (first
      | (go_at_call 40; refine (HNM _).mono ?_; rintro e w1 ⟨rfl, rfl⟩)
      | (go_at_call 35; refine (HRT _).mono ?_; rintro e w1 ⟨rfl, rfl⟩))
    go_ret
    exact ⟨rfl, HALL _⟩
  | true =>
  obtain rfl : 0 = rc := by rw [← hrc]; exact (rightN_yes hrb).symm
  have HRR : Hid ((attrsOk [] x.attrs && x.kids.all f) = r) := by
    show _ = _
    rw [← hr]
    exact (rightG_rest (by rw [hhg, decide_eq_true g6, decide_eq_true g16]; rfl)).symm
  rw [hn1] at hr1 hm3
  rw [hn2] at hk1 hm5
  have R1 : Hid (Row _ _ _ _ _) := hr1
  have K1 : Hid (Row _ _ _ _ _) := hk1
  have S1 : Hid (KidsAt _ _ _) := hks1
  have HN1 : Hid _ := hn1
  have HN2 : Hid _ := hn2
  have HM4 : Hid _ := hm4
  have HIH : Hid _ := IH
  clear h1 hr1 hk1 hks1 hs1 hs2 hn1 hn2 hnb hrb hrc IH hr hhg hm1 hm2 hm4 HALL
  go_enter Tryz.func24, Tryz.ntmps24
  go_wp2_with (first
    | (go_at_call 40; refine (HNM _).mono ?_; rintro e w1 ⟨rfl, rfl⟩)
    | (go_at_call 35; refine (HRT _).mono ?_; rintro e w1 ⟨rfl, rfl⟩))
  obtain ⟨A, hA⟩ : ∃ A, attrsOk [] x.attrs = A := ⟨_, rfl⟩
  have HL0 : Hid (leftA x.attrs 0 A) := by rw [← hA]; exact leftA_zero _
  rw [hA] at HRR
  clear hA
  obtain ⟨B, hB⟩ : ∃ B, w.heap.size = B := ⟨_, rfl⟩
  have HBz : Hid (w.heap.size = B) := hB
  obtain ⟨w0, hw0⟩ : ∃ w0, w0 = w.alloc (.cells #[.string s1, .slice ao1 n1 cap1, .string s2, .slice ao2 n2 cap2] 25) := ⟨_, rfl⟩
  have hA1 : At B #[.string s1, .slice ao1 n1 cap1, .string s2, .slice ao2 n2 cap2] 25 w0 := by
    rw [hw0, ← hB]; exact heap_alloc_new w _
  have hb0 : Below B w w0 := by
    rw [hw0, ← hB]
    exact (Below.refl _ w).alloc (Nat.le_refl _) _
  rw [← hw0, hB]
  have HB0 : Hid (Below B w w0) := hb0
  have z1 := lt_of_heap hA1
  obtain ⟨p0, p1, p2, p3⟩ := el4 hA1
  clear hA1 hb0 hw0 hB
  go_loopw [5, 6] (fun i _ wr => ∃ j : Nat, j ≤ n1 ∧ i = .int .i64 (j : Int) ∧ Hid (leftA x.attrs j A) ∧ ∃ m, wr = w0.drewN m) (fun i _ _ => n1 - (intOf i).toNat)
  case atStart => exact ⟨0, Nat.zero_le _, rfl, HL0.out, 0, rfl⟩
  case round =>
    obtain ⟨j, hj, rfl, HJ, m, rfl⟩ := hrel
    by_cases hlt : j < n1
    · obtain ⟨pr, hpr⟩ : ∃ pr, x.attrs[j]? = some pr := ⟨_, List.getElem?_eq_getElem (by rw [HN1.out]; exact hlt)⟩
      obtain ⟨g0, g1⟩ := pair_get x.attrs j pr hpr
      obtain ⟨ga, oa, rfl, hga, hca⟩ := row_flat2 R1.out g0
      have ca : ∀ i v, (pairCells x.attrs)[i]? = some v → w0.cell? ⟨ga, oa + i, none⟩ = some v := fun i v hv => (HB0.out.cell (p := ⟨ga, oa + i, none⟩) (by rw [← HBz.out]; exact hga)).trans (hca i v hv)
      have HCA : Hid (∀ i v, (pairCells x.attrs)[i]? = some v → w0.cell? ⟨ga, oa + i, none⟩ = some v) := ca
      have a0 := ca _ _ g0
      have a1 := ca _ _ g1
      rw [← Nat.add_assoc] at a1
      obtain ⟨b1, b2⟩ := HM4.out pr (List.mem_of_getElem? hpr)
      obtain ⟨e1, e2, e3, e4⟩ := leftA_step hpr HJ.out
      have E3 : Hid (nmsT x.attrs j pr.1 = true → A = false) := e3
      obtain ⟨q1, hq1⟩ : ∃ q1, (⟨pr.1.toArray⟩ : ByteArray) = q1 := ⟨_, rfl⟩
      obtain ⟨q2, hq2⟩ : ∃ q2, (⟨pr.2.toArray⟩ : ByteArray) = q2 := ⟨_, rfl⟩
      have HQ1 : Hid ((⟨pr.1.toArray⟩ : ByteArray) = q1) := hq1
      rw [hq1] at a0
      rw [hq2] at a1
      have hj0 : (0 : Int) ≤ (j : Int) := by omega
      have hj1 : (j : Int) < (n1 : Int) := by omega
      obtain ⟨nb, hnb⟩ : ∃ nb, name pr.1 = nb := ⟨_, rfl⟩
      obtain ⟨rb, hrb⟩ : ∃ rb, right pr.2 = rb := ⟨_, rfl⟩
      obtain ⟨rc, hrc⟩ : ∃ rc, rightN pr.2 = rc := ⟨_, rfl⟩
      have HNA := fun W => refName_at q1 pr.1 hq1 nb hnb b1 W
      have HRA := fun W => refRight_in q2 pr.2 hq2 rc hrc b2 W
      cases nb with
      | false =>
        have HE : Hid (false = r) := by
          have h9 := HRR.out
          rw [e1 hnb] at h9
          exact h9
        obtain rfl := HE.out
        clear ca hca g0 g1 hpr e1 e2 e3 e4 hnb hrb hrc hq1 hq2 b1 b2
        go_wp2_with (first
          | (go_at_call 40; refine (HNA _).mono ?_; rintro e w1 ⟨rfl, rfl⟩)
          | (go_at_call 35; refine (HRA _).mono ?_; rintro e w1 ⟨rfl, rfl⟩))
        go_ret
        refine ⟨rfl, ?_⟩
        rw [HBz.out]
        exact HB0.out.trans ⟨rfl, rfl, rfl, Nat.le_refl _, fun _ _ => rfl⟩
      | true =>
      cases rb with
      | false =>
        have HE : Hid (false = r) := by
          have h9 := HRR.out
          rw [e2 hrb] at h9
          exact h9
        obtain rfl := HE.out
        obtain rfl : 2 = rc := by rw [← hrc]; exact (rightN_no hrb).symm
        clear ca hca g0 g1 hpr e1 e2 e3 e4 hnb hrb hrc hq1 hq2 b1 b2
        go_wp2_with (first
          | (go_at_call 40; refine (HNA _).mono ?_; rintro e w1 ⟨rfl, rfl⟩)
          | (go_at_call 35; refine (HRA _).mono ?_; rintro e w1 ⟨rfl, rfl⟩))
        go_ret
        refine ⟨rfl, ?_⟩
        rw [HBz.out]
        exact HB0.out.trans ⟨rfl, rfl, rfl, Nat.le_refl _, fun _ _ => rfl⟩
      | true =>
      obtain rfl : 0 = rc := by rw [← hrc]; exact (rightN_yes hrb).symm
      have E4 : Hid (nmsT x.attrs j pr.1 = false → leftA x.attrs (j + 1) A) := e4 hnb hrb
      clear ca hca g0 g1 hpr e1 e2 e3 e4 hnb hrb hrc hq1 hq2 b1 b2
      go_wp2_with (first
        | (go_at_call 40; refine (HNA _).mono ?_; rintro e w1 ⟨rfl, rfl⟩)
        | (go_at_call 35; refine (HRA _).mono ?_; rintro e w1 ⟨rfl, rfl⟩))
      go_loopw [6] (fun k ws => ∃ q : Nat, q ≤ j ∧ k = .int .i64 (q : Int) ∧ Hid (nmsT x.attrs q pr.1 = false) ∧ ∃ m, ws = w0.drewN m) (fun k _ => j - (intOf k).toNat)
      case atStart => exact ⟨0, Nat.zero_le _, rfl, rfl, m, rfl⟩
      case round =>
        obtain ⟨q, hq, rfl, HQ, m2, rfl⟩ := hrel
        by_cases hqj : q < j
        · obtain ⟨qr, hqr⟩ : ∃ qr, x.attrs[q]? = some qr := ⟨_, List.getElem?_eq_getElem (by rw [HN1.out]; omega)⟩
          have c0 := HCA.out _ _ (pair_get x.attrs q qr hqr).1
          have hq1 : (q : Int) < (j : Int) := by omega
          have hq2 : (q : Int) < (n1 : Int) := by omega
          have hq3 : (0 : Int) ≤ (q : Int) := by omega
          cases hpq : qr.1 == pr.1 with
          | true =>
            have hpn := eq_of_beq hpq
            have HE : Hid (false = r) := by
              have h9 := HRR.out
              have h8 := nmsT_has hqr hqj
              rw [hpn] at h8
              rw [E3.out h8] at h9
              exact h9
            obtain rfl := HE.out
            rw [hpn, HQ1.out] at c0
            clear hqr hpq hpn
            go_wp2_with fail
            go_quiet (fail)
            go_wp2_with fail
            go_ret
            refine ⟨rfl, ?_⟩
            rw [HBz.out]
            exact HB0.out.trans ⟨rfl, rfl, rfl, Nat.le_refl _, fun _ _ => rfl⟩
          | false =>
            have HQ' : Hid (nmsT x.attrs (q + 1) pr.1 = false) := by
              show _ = _
              rw [nmsT_succ hqr, HQ.out, hpq]
              rfl
            obtain ⟨f1, f2⟩ := bytes_neq2 hpq
            rw [HQ1.out] at f1 f2
            obtain ⟨u1, hu1⟩ : ∃ u1, (⟨qr.1.toArray⟩ : ByteArray) = u1 := ⟨_, rfl⟩
            rw [hu1] at c0 f1 f2
            clear hqr hpq hu1
            go_wp2_with fail
            go_quiet (fail)
            go_wp2_with fail
            go_roundw
            case rel => exact ⟨q + 1, by omega, by go_num, HQ', _, rfl⟩
            case measure => simp [intOf]; omega
        · obtain rfl : q = j := by omega
          have hq1 : ¬ (q : Int) < (q : Int) := by omega
          have HJ' : Hid (leftA x.attrs (q + 1) A) := E4.out HQ.out
          go_wp2_with fail
          go_roundw
          case rel => exact ⟨q + 1, by omega, by go_num, HJ', _, rfl⟩
          case measure => simp [intOf]; omega
    · have hj1 : ¬ (j : Int) < (n1 : Int) := by omega
      have HRK : Hid (x.kids.all f = r) := by
        have h9 := HRR.out
        rw [leftA_end HJ.out (by rw [HN1.out]; omega), Bool.true_and] at h9
        exact h9
      go_wp2_with fail
      obtain ⟨Z, hZ⟩ : ∃ Z, w0.heap.size = Z := ⟨_, rfl⟩
      rw [hZ] at z1
      have HZ : Hid _ := hZ
      clear hZ
      go_loopw [7] (fun i ws => ∃ t : Nat, t ≤ n2 ∧ i = .int .i64 (t : Int) ∧ Hid ((x.kids.drop t).all f = r) ∧ Below Z w0 ws) (fun i _ => n2 - (intOf i).toNat)
      case atStart => exact ⟨0, Nat.zero_le _, rfl, HRK.out, (Below.refl Z w0).trans ⟨rfl, rfl, rfl, Nat.le_refl _, fun _ _ => rfl⟩⟩
      case round =>
        obtain ⟨t, ht, rfl, HT, hbt⟩ := hrel
        have e1 := (hbt.cell (p := ⟨B, 3, none⟩) z1).trans p3
        have HBT : Hid (Below Z w0 wr) := hbt
        have hzt := hbt.size
        have hBZ : w.heap.size ≤ Z := by have := HBz.out; omega
        have hZw : Z ≤ wr.heap.size := by rw [← HZ.out]; exact hzt
        by_cases hlt2 : t < n2
        · obtain ⟨kd, hkd⟩ : ∃ kd, x.kids[t]? = some kd := ⟨_, List.getElem?_eq_getElem (by rw [HN2.out]; exact hlt2)⟩
          obtain ⟨a1, b1, c1, d1, i0, i1, i2, i3, hE1⟩ := kids_get t S1.out hkd
          obtain ⟨ga, oa, rfl, hga, hca⟩ := row_flat2 K1.out i0
          obtain ⟨ua, va, ub, vb, rfl, rfl⟩ := hE1.shape
          obtain ⟨rfl, _, rfl, _⟩ := hE1.parts
          have hbw : Below w.heap.size w wr := by rw [HBz.out]; exact HB0.out.trans (HBT.out.mono (by have := HBz.out; omega))
          have ca : ∀ i v, xs[i]? = some v → wr.cell? ⟨ga, oa + i, none⟩ = some v := fun i v hv => (hbw.cell (p := ⟨ga, oa + i, none⟩) hga).trans (hca i v hv)
          have y0 := ca _ _ i0
          have y1 := ca _ _ i1
          have y2 := ca _ _ i2
          have y3 := ca _ _ i3
          rw [← Nat.add_assoc] at y1 y2 y3
          have hsd := all_drop (p := f) hkd
          obtain ⟨v, hv⟩ : ∃ v, f kd = v := ⟨_, rfl⟩
          rw [hv] at hsd
          have HCL : Calls Tryz.prog 24 #[.agg #[.string ⟨kd.nm.toArray⟩, .slice ua kd.attrs.length va, .string ⟨kd.text.toArray⟩, .slice ub kd.kids.length vb], .int .i64 ((dp : Int) + 1)] wr fun e w' => e = .returned (.bool v) ∧ Below wr.heap.size wr w' := by
            rw [← hv]
            exact HIH.out kd (List.mem_of_getElem? hkd) wr _ _ _ _ hbw hE1
          have t0 : (0 : Int) ≤ (t : Int) := by omega
          have t1 : (t : Int) < (n2 : Int) := by omega
          obtain ⟨kn, hkn⟩ : ∃ kn, (⟨kd.nm.toArray⟩ : ByteArray) = kn := ⟨_, rfl⟩
          obtain ⟨kt, hkt⟩ : ∃ kt, (⟨kd.text.toArray⟩ : ByteArray) = kt := ⟨_, rfl⟩
          obtain ⟨m1, hm1⟩ : ∃ m1, kd.attrs.length = m1 := ⟨_, rfl⟩
          obtain ⟨m2, hm2⟩ : ∃ m2, kd.kids.length = m2 := ⟨_, rfl⟩
          rw [hkn, hkt, hm1, hm2] at HCL
          rw [hkn] at y0
          rw [hm1] at y1
          rw [hkt] at y2
          rw [hm2] at y3
          have HSD : Hid ((x.kids.drop t).all f = (v && (x.kids.drop (t + 1)).all f)) := hsd
          clear ca hca i0 i1 i2 i3 hE1 hkd hkn hkt hm1 hm2 hbw hbt p0 p1 p2 p3 hsd hv
          cases v with
          | true =>
            have HT' : Hid ((x.kids.drop (t + 1)).all f = r) := by
              have h9 := HT.out
              rw [HSD.out, Bool.true_and] at h9
              exact h9
            go_wp2_with (go_at_call 24; refine HCL.mono ?_; rintro ee w3 ⟨rfl, hb3⟩)
            go_roundw
            case rel => exact ⟨t + 1, by omega, by go_num, HT', HBT.out.trans (hb3.mono hZw)⟩
            case measure => simp [intOf]; omega
          | false =>
            have HE : Hid (false = r) := by
              have h9 := HT.out
              rw [HSD.out, Bool.false_and] at h9
              exact h9
            obtain rfl := HE.out
            go_wp2_with (go_at_call 24; refine HCL.mono ?_; rintro ee w3 ⟨rfl, hb3⟩)
            go_ret
            refine ⟨rfl, ?_⟩
            rw [HBz.out]
            exact HB0.out.trans ((HBT.out.trans (hb3.mono hZw)).mono (by have := HBz.out; omega))
        · have t1 : ¬ (t : Int) < (n2 : Int) := by omega
          have HE : Hid (true = r) := by
            have h9 := HT.out
            rw [List.drop_of_length_le (by rw [HN2.out]; omega)] at h9
            exact h9
          obtain rfl := HE.out
          clear hbt
          go_wp2_with fail
          go_ret
          refine ⟨rfl, ?_⟩
          rw [HBz.out]
          exact HB0.out.trans (HBT.out.mono (by have := HBz.out; omega))
theorem refRight_deep (x : El) (a b c d : Value) (w : World) (P : Nat → Prop) (h1 : ElE P w x a b c d) : Calls Tryz.prog 24 #[.agg #[a, b, c, d], .int .i64 5] w fun e w' => e = .returned (.bool false) ∧ Below w.heap.size w w' := by
  obtain ⟨ao1, cap1, ao2, cap2, rfl, rfl⟩ := h1.shape
  obtain ⟨rfl, _, rfl, _⟩ := h1.parts
  obtain ⟨s1, hs1⟩ : ∃ s1, (⟨x.nm.toArray⟩ : ByteArray) = s1 := ⟨_, rfl⟩
  obtain ⟨s2, hs2⟩ : ∃ s2, (⟨x.text.toArray⟩ : ByteArray) = s2 := ⟨_, rfl⟩
  obtain ⟨n1, hn1⟩ : ∃ n1, x.attrs.length = n1 := ⟨_, rfl⟩
  obtain ⟨n2, hn2⟩ : ∃ n2, x.kids.length = n2 := ⟨_, rfl⟩
  rw [hs1, hs2, hn1, hn2]
  clear h1 hs1 hs2 hn1 hn2
  go_enter Tryz.func24, Tryz.ntmps24
  go_wp2_with fail
  go_ret
  exact ⟨rfl, (Below.refl _ w).alloc (Nat.le_refl _) _⟩
/-- The document's own right, so many levels being left. -/
theorem refRightD_any {P : Nat → Prop} : ∀ (n dp : Nat) (x : El) (a b c d : Value) (w : World), n + dp = 5 → 1 ≤ dp → smallE n x → nmE n x → ElE P w x a b c d →
    Calls Tryz.prog 24 #[.agg #[a, b, c, d], .int .i64 (dp : Int)] w fun e w' => e = .returned (.bool (rightE n x)) ∧ Below w.heap.size w w'
  | 0, dp, x, a, b, c, d, w, h, _, _, _, h1 => by
    obtain rfl : dp = 5 := by omega
    exact refRight_deep x a b c d w P h1
  | n + 1, dp, x, a, b, c, d, w, h, h0, hs, hn, h1 =>
    refRight_step (rightE n) x dp (by omega) a b c d w h1 ⟨hn.1, hs.1, hs.2.1, hs.2.2.1, hs.2.2.2.1⟩ _ rfl fun k hk W a b c d hb e1 =>
      refRightD_any n (dp + 1) k a b c d W (by omega) (by omega) (hs.2.2.2.2 k hk) (hn.2 k hk) (e1.step (row_below hb))
set_option maxRecDepth 100000 in
theorem refRightT_any {P : Nat → Prop} (x : El) (a b c d : Value) (w : World) (hs : smallE 4 x) (hn : nmE 4 x) (h1 : ElE P w x a b c d) (r : Bool) (hr : rightE 4 x = r) :
    Calls Tryz.prog 10 #[.agg #[a, b, c, d]] w fun e w' => e = .returned (.bool r) ∧ Below w.heap.size w w' := by
  have hb0 : ∀ o, Below w.heap.size w (w.alloc o) := fun o => (Below.refl _ _).alloc (Nat.le_refl _) o
  have H1 := fun o => refRightD_any (P := P) 4 1 x a b c d (w.alloc o) rfl (Nat.le_refl _) hs hn (h1.step (row_below (hb0 o)))
  rw [hr] at H1
  obtain ⟨ao1, cap1, ao2, cap2, rfl, rfl⟩ := h1.shape
  obtain ⟨rfl, _, rfl, _⟩ := h1.parts
  obtain ⟨s1, hs1⟩ : ∃ s1, (⟨x.nm.toArray⟩ : ByteArray) = s1 := ⟨_, rfl⟩
  obtain ⟨s2, hs2⟩ : ∃ s2, (⟨x.text.toArray⟩ : ByteArray) = s2 := ⟨_, rfl⟩
  obtain ⟨n1, hn1⟩ : ∃ n1, x.attrs.length = n1 := ⟨_, rfl⟩
  obtain ⟨n2, hn2⟩ : ∃ n2, x.kids.length = n2 := ⟨_, rfl⟩
  rw [hs1, hs2, hn1, hn2] at H1 ⊢
  clear h1 hs hn hr hs1 hs2 hn1 hn2
  go_enter Tryz.func10, Tryz.ntmps10
  go_wp2_with (go_at_call 24; refine (H1 _).mono ?_; rintro e w1 ⟨rfl, hb1⟩)
  go_ret
  exact ⟨rfl, (hb0 _).trans (hb1.mono (by simp))⟩
theorem rightE_up : ∀ (n : Nat) (x : El), rightE n x = true → rightE (n + 1) x = true
  | 0, _, h => by cases h
  | n + 1, x, h => by
    unfold rightE at h ⊢
    simp only [Bool.and_eq_true] at h ⊢
    exact ⟨h.1, h.2.1, h.2.2.1, h.2.2.2.1, List.all_eq_true.2 fun k hk => rightE_up n k (List.all_eq_true.1 h.2.2.2.2 k hk)⟩
end Go.Proofs.YthekdgnikkjpdaaGreatDoor

/-
  The contract of tidewaterref03.Write over this program, at any element that may be.
-/
namespace Go.Proofs.YthekdgnikkjpdaaGreatDoor
open Go Go.RowKit
theorem add_at (l m n : List UInt8) (a b c : ByteArray) (ha : (⟨l.toArray⟩ : ByteArray) = a) (hb : (⟨m.toArray⟩ : ByteArray) = b) (hc : (⟨n.toArray⟩ : ByteArray) = c) (h : l ++ m = n) (hn : n.length ≤ 100000000000000) (W : World) :
    (Op.stringOp .add a b).run Tryz.prog W = .ok (.string c) W := by
  subst ha hb hc h
  rw [run_string_add_sum _ _ _ (by rw [List.length_append] at hn; show l.length + m.length ≤ _; omega)]
  rw [ByteArray.mk_append_mk]
theorem attrsT_take {l : List (List UInt8 × List UInt8)} {j : Nat} {p : List UInt8 × List UInt8} (h : l[j]? = some p) : attrsT (l.take (j + 1)) = attrsT (l.take j) ++ attrT p := by
  have e : l.take (j + 1) = l.take j ++ [p] := by rw [List.take_add_one, h]; rfl
  unfold attrsT
  rw [e, List.flatMap_append]
  simp
theorem attrsT_le (l : List (List UInt8 × List UInt8)) (j : Nat) : (attrsT (l.take j)).length ≤ (attrsT l).length := by
  have e : attrsT l = attrsT (l.take j) ++ attrsT (l.drop j) := by
    unfold attrsT
    rw [← List.flatMap_append, List.take_append_drop]
  rw [e, List.length_append]
  omega
theorem flat_take {f : El → List UInt8} {l : List El} {j : Nat} {p : El} (h : l[j]? = some p) : (l.take (j + 1)).flatMap f = (l.take j).flatMap f ++ f p := by
  have e : l.take (j + 1) = l.take j ++ [p] := by rw [List.take_add_one, h]; rfl
  rw [e, List.flatMap_append]
  simp
theorem flat_le {f : El → List UInt8} (l : List El) (j : Nat) : ((l.take j).flatMap f).length ≤ (l.flatMap f).length := by
  have e : l.flatMap f = (l.take j).flatMap f ++ (l.drop j).flatMap f := by
    rw [← List.flatMap_append, List.take_append_drop]
  rw [e, List.length_append]
  omega
theorem esc_at (s : ByteArray) (l : List UInt8) (hl : (⟨l.toArray⟩ : ByteArray) = s) (v : ByteArray) (hv : (⟨(esc l).toArray⟩ : ByteArray) = v) (h : right l = true) (hs : l.length ≤ 2000000) (w : World) :
    Calls Tryz.prog 19 #[.string s] w fun e w' => e = .returned (.tuple #[.string v, .int .i64 0]) ∧ Below w.heap.size w w' := by
  subst hl hv
  exact refEscape_yes ⟨l.toArray⟩ w hs h
def headT (x : El) (j : Nat) : List UInt8 := [60] ++ x.nm ++ attrsT (x.attrs.take j)
def bodyT (d : Nat) (x : El) (t : Nat) : List UInt8 := (headT x x.attrs.length ++ ([62] ++ esc x.text)) ++ (x.kids.take t).flatMap (textE d)
theorem headT_zero (x : El) : headT x 0 = [60] ++ x.nm := by simp [headT, attrsT]
theorem headT_all (x : El) : headT x x.attrs.length = [60] ++ x.nm ++ attrsT x.attrs := by unfold headT; rw [List.take_length]
theorem textE_brief {d : Nat} {x : El} (h : x.text = [] ∧ x.kids = []) : textE (d + 1) x = headT x x.attrs.length ++ [47, 62] := by
  rw [headT_all]
  unfold textE
  rw [h.1, h.2]
  rfl
theorem textE_long {d : Nat} {x : El} (h : ¬ (x.text = [] ∧ x.kids = [])) : textE (d + 1) x = bodyT d x x.kids.length ++ [60, 47] ++ x.nm ++ [62] := by
  unfold bodyT
  rw [headT_all, List.take_length]
  unfold textE
  have : (x.text.isEmpty && x.kids.isEmpty) = false := by
    cases ht : x.text <;> cases hk : x.kids <;> simp_all
  rw [this]
  simp [List.append_assoc]
set_option maxHeartbeats 4000000 in
set_option maxRecDepth 100000 in
theorem refWrite_step {P : Nat → Prop} (d : Nat) (x : El) (a b c d' : Value) (w : World) (h1 : ElE P w x a b c d') (hsm : smallE (d + 1) x) (hr : rightE (d + 1) x = true) (hT : (textE (d + 1) x).length ≤ 10000000000000)
    (HRI : ∀ W : World, Below w.heap.size w W → Calls Tryz.prog 10 #[.agg #[a, b, c, d']] W fun e w' => e = .returned (.bool true) ∧ Below W.heap.size W w')
    (IH : ∀ k ∈ x.kids, ∀ (W : World) (a b c d' : Value), Below w.heap.size w W → ElE P w k a b c d' → Calls Tryz.prog 7 #[.agg #[a, b, c, d']] W fun e w' => e = .returned (.tuple #[.string ⟨(textE d k).toArray⟩, .int .i64 0]) ∧ Below W.heap.size W w') :
    Calls Tryz.prog 7 #[.agg #[a, b, c, d']] w fun e w' => e = .returned (.tuple #[.string ⟨(textE (d + 1) x).toArray⟩, .int .i64 0]) ∧ Below w.heap.size w w' := by
  obtain ⟨ao1, cap1, ao2, cap2, rfl, rfl⟩ := h1.shape
  obtain ⟨rfl, hr1, rfl, xs, hk1, hks1⟩ := h1.parts
  obtain ⟨m1, m2, m3, m4, m5⟩ := hsm
  unfold rightE at hr
  simp only [Bool.and_eq_true, decide_eq_true_eq] at hr
  obtain ⟨r1, r2, r3, r4, r5⟩ := hr
  unfold rightA at r3
  simp only [Bool.and_eq_true, decide_eq_true_eq] at r3
  have hal := attrsOk_all _ _ r3.2
  obtain ⟨s1, hs1⟩ : ∃ s1, (⟨x.nm.toArray⟩ : ByteArray) = s1 := ⟨_, rfl⟩
  obtain ⟨s2, hs2⟩ : ∃ s2, (⟨x.text.toArray⟩ : ByteArray) = s2 := ⟨_, rfl⟩
  obtain ⟨n1, hn1⟩ : ∃ n1, x.attrs.length = n1 := ⟨_, rfl⟩
  obtain ⟨n2, hn2⟩ : ∃ n2, x.kids.length = n2 := ⟨_, rfl⟩
  obtain ⟨R, hR⟩ : ∃ R, (⟨(textE (d + 1) x).toArray⟩ : ByteArray) = R := ⟨_, rfl⟩
  obtain ⟨ES, hES⟩ : ∃ ES, (⟨(esc x.text).toArray⟩ : ByteArray) = ES := ⟨_, rfl⟩
  have HES := fun W => esc_at s2 x.text hs2 ES hES r4 m1 W
  have HRT : Hid ((⟨(textE (d + 1) x).toArray⟩ : ByteArray) = R) := hR
  have HEST : Hid ((⟨(esc x.text).toArray⟩ : ByteArray) = ES) := hES
  have hle : (bodyT d x x.kids.length).length ≤ 20000000000000 ∧ (headT x x.attrs.length).length ≤ 10000000000000 := by
    by_cases h : x.text = [] ∧ x.kids = []
    · rw [textE_brief h, List.length_append] at hT
      unfold bodyT
      rw [h.1, h.2]
      simp only [List.length_append, List.length_cons, List.length_nil, List.take_nil, List.flatMap_nil]
      have e0 : (esc ([] : List UInt8)).length = 0 := rfl
      rw [e0]
      omega
    · rw [textE_long h] at hT
      have hb : (headT x x.attrs.length).length ≤ (bodyT d x x.kids.length).length := by unfold bodyT; simp only [List.length_append]; omega
      simp only [List.length_append, List.length_cons, List.length_nil] at hT
      omega
  have hhead : ∀ j, (headT x j).length ≤ 10000000000000 := fun j => by
    have h9 := attrsT_le x.attrs j
    have h8 := hle.2
    rw [headT_all] at h8
    unfold headT
    simp only [List.length_append, List.length_cons, List.length_nil] at h8 ⊢
    omega
  have hbody : ∀ t, (bodyT d x t).length ≤ 20000000000000 := fun t => by
    have h9 := flat_le (f := textE d) x.kids t
    have h8 := hle.1
    unfold bodyT at h8 ⊢
    rw [List.take_length] at h8
    simp only [List.length_append, List.length_cons, List.length_nil] at h8 ⊢
    omega
  rw [hs1, hs2, hn1, hn2] at HRI
  rw [hs1, hs2, hn1, hn2, hR]
  rw [hn1] at hr1
  rw [hn2] at hk1
  have hnb1 : n1 ≤ 2000000 := by rw [← hn1]; exact m2
  have hnb2 : n2 ≤ 2000000 := by rw [← hn2]; exact m4
  have HN0 : Hid ((⟨x.nm.toArray⟩ : ByteArray) = s1) := hs1
  have HTX : Hid ((⟨x.text.toArray⟩ : ByteArray) = s2) := hs2
  have R1 : Hid (Row _ _ _ _ _) := hr1
  have K1 : Hid (Row _ _ _ _ _) := hk1
  have S1 : Hid (KidsAt _ _ _) := hks1
  have HN1 : Hid _ := hn1
  have HN2 : Hid _ := hn2
  have HM3 : Hid _ := m3
  have HAL : Hid _ := hal
  have HHD : Hid (∀ j, (headT x j).length ≤ 10000000000000) := hhead
  have HBD : Hid (∀ t, (bodyT d x t).length ≤ 20000000000000) := hbody
  have HTT : Hid ((textE (d + 1) x).length ≤ 10000000000000) := hT
  have HIH : Hid _ := IH
  have HRH : Hid _ := HRI
  obtain ⟨H0, hH0⟩ : ∃ H0, (⟨(headT x 0).toArray⟩ : ByteArray) = H0 := ⟨_, rfl⟩
  have HH0 : Hid ((⟨(headT x 0).toArray⟩ : ByteArray) = H0) := hH0
  have had0 := fun W => add_at [60] x.nm (headT x 0) ⟨#[60]⟩ s1 H0 rfl hs1 hH0 (headT_zero x).symm (by have := hhead 0; omega) W
  clear h1 hr1 hk1 hks1 hs1 hs2 hn1 hn2 hR hES m1 m2 m3 m4 m5 r1 r2 r3 r4 r5 hal hT hle hhead hbody IH HRI hH0
  obtain ⟨B, hB⟩ : ∃ B, w.heap.size = B := ⟨_, rfl⟩
  have HBz : Hid (w.heap.size = B) := hB
  have HRI2 : ∀ W : World, Below w.heap.size w W → _ := HRH.out
  go_enter Tryz.func7, Tryz.ntmps7
  go_wp2_with (first
    | (go_at_call 10; refine (HRI2 _ ((Below.refl _ w).alloc (Nat.le_refl _) _)).mono ?_; rintro e w0 ⟨rfl, hb0⟩; have hA1 : At B #[.string s1, .slice ao1 n1 cap1, .string s2, .slice ao2 n2 cap2] 25 w0 := (by rw [← hB]; exact At.below (heap_alloc_new w _) hb0 (by simp)); have hw0 : Below B w w0 := (by rw [← hB]; exact ((Below.refl _ w).alloc (Nat.le_refl _) _).trans (hb0.mono (by simp))); have z1 := lt_of_heap hA1; obtain ⟨p0, p1, p2, p3⟩ := el4 hA1))
  obtain ⟨Z, hZ⟩ : ∃ Z, w0.heap.size = Z := ⟨_, rfl⟩
  rw [hZ] at z1
  have HZ : Hid (w0.heap.size = Z) := hZ
  have HW0 : Hid (Below w.heap.size w w0) := by rw [HBz.out]; exact hw0
  clear hA1 hb0 hw0 hB hZ
  go_loopw [4, 5, 6, 7] (fun sv i _ _ wr => ∃ (j : Nat) (S : ByteArray), j ≤ n1 ∧ i = .int .i64 (j : Int) ∧ sv = .string S ∧ Hid ((⟨(headT x j).toArray⟩ : ByteArray) = S) ∧ Hid (Below Z w0 wr)) (fun _ i _ _ _ => n1 - (intOf i).toNat)
  case atStart => exact ⟨0, H0, Nat.zero_le _, rfl, rfl, HH0.out, Below.refl _ _⟩
  case round =>
    obtain ⟨j, S, hj, rfl, rfl, HS, HBT0⟩ := hrel
    have p0 := (HBT0.out.cell (p := ⟨B, 0, none⟩) z1).trans p0
    have p1 := (HBT0.out.cell (p := ⟨B, 1, none⟩) z1).trans p1
    have p2 := (HBT0.out.cell (p := ⟨B, 2, none⟩) z1).trans p2
    have p3 := (HBT0.out.cell (p := ⟨B, 3, none⟩) z1).trans p3
    have hZw : Z ≤ wr.heap.size := by have h9 := HBT0.out.size; have h8 := HZ.out; omega
    have zr : B < wr.heap.size := by omega
    have HBW : Hid (Below w.heap.size w wr) := HW0.out.trans (HBT0.out.mono (by have h9 := HW0.out.size; have h8 := HZ.out; omega))
    by_cases hlt : j < n1
    · obtain ⟨pr, hpr⟩ : ∃ pr, x.attrs[j]? = some pr := ⟨_, List.getElem?_eq_getElem (by rw [HN1.out]; exact hlt)⟩
      obtain ⟨g0, g1⟩ := pair_get x.attrs j pr hpr
      obtain ⟨ga, oa, rfl, hga, hca⟩ := row_flat2 R1.out g0
      have ca : ∀ i v, (pairCells x.attrs)[i]? = some v → wr.cell? ⟨ga, oa + i, none⟩ = some v := fun i v hv => (HBW.out.cell (p := ⟨ga, oa + i, none⟩) hga).trans (hca i v hv)
      have a0 := ca _ _ g0
      have a1 := ca _ _ g1
      rw [← Nat.add_assoc] at a1
      have hgw : ga < wr.heap.size := Nat.lt_of_lt_of_le hga HBW.out.size
      have hj0 : (0 : Int) ≤ (j : Int) := by omega
      have hj1 : (j : Int) < (n1 : Int) := by omega
      obtain ⟨f1, f2⟩ := HAL.out pr (List.mem_of_getElem? hpr)
      obtain ⟨k1, k2⟩ := HM3.out pr (List.mem_of_getElem? hpr)
      obtain ⟨q1, hq1⟩ : ∃ q1, (⟨pr.1.toArray⟩ : ByteArray) = q1 := ⟨_, rfl⟩
      obtain ⟨q2, hq2⟩ : ∃ q2, (⟨pr.2.toArray⟩ : ByteArray) = q2 := ⟨_, rfl⟩
      obtain ⟨V, hV⟩ : ∃ V, (⟨(esc pr.2).toArray⟩ : ByteArray) = V := ⟨_, rfl⟩
      have HEV := fun W => esc_at q2 pr.2 hq2 V hV f2 k2 W
      obtain ⟨X1, hX1⟩ : ∃ X1, (⟨([32] ++ pr.1).toArray⟩ : ByteArray) = X1 := ⟨_, rfl⟩
      obtain ⟨X2, hX2⟩ : ∃ X2, (⟨([32] ++ pr.1 ++ [61, 34]).toArray⟩ : ByteArray) = X2 := ⟨_, rfl⟩
      obtain ⟨X3, hX3⟩ : ∃ X3, (⟨([32] ++ pr.1 ++ [61, 34] ++ esc pr.2).toArray⟩ : ByteArray) = X3 := ⟨_, rfl⟩
      obtain ⟨X4, hX4⟩ : ∃ X4, (⟨(attrT pr).toArray⟩ : ByteArray) = X4 := ⟨_, rfl⟩
      obtain ⟨S', hS'⟩ : ∃ S', (⟨(headT x (j + 1)).toArray⟩ : ByteArray) = S' := ⟨_, rfl⟩
      have HS' : Hid ((⟨(headT x (j + 1)).toArray⟩ : ByteArray) = S') := hS'
      have hhj : headT x (j + 1) = headT x j ++ attrT pr := by unfold headT; rw [attrsT_take hpr]; simp [List.append_assoc]
      have hln := HHD.out (j + 1)
      have hln2 := hln
      rw [hhj, List.length_append] at hln2
      unfold attrT at hln2
      simp only [List.length_append, List.length_cons, List.length_nil] at hln2
      have ad1 := fun W => add_at [32] pr.1 _ ⟨#[32]⟩ q1 X1 rfl hq1 hX1 rfl (by simp only [List.length_append, List.length_cons, List.length_nil]; omega) W
      have ad2 := fun W => add_at ([32] ++ pr.1) [61, 34] _ X1 ⟨#[61, 34]⟩ X2 hX1 rfl hX2 rfl (by simp only [List.length_append, List.length_cons, List.length_nil]; omega) W
      have ad3 := fun W => add_at ([32] ++ pr.1 ++ [61, 34]) (esc pr.2) _ X2 V X3 hX2 hV hX3 rfl (by simp only [List.length_append, List.length_cons, List.length_nil]; omega) W
      have ad4 := fun W => add_at ([32] ++ pr.1 ++ [61, 34] ++ esc pr.2) [34] (attrT pr) X3 ⟨#[34]⟩ X4 hX3 rfl hX4 rfl (by unfold attrT; simp only [List.length_append, List.length_cons, List.length_nil]; omega) W
      have ad5 := fun W => add_at (headT x j) (attrT pr) (headT x (j + 1)) S X4 S' HS.out hX4 hS' hhj.symm (by omega) W
      rw [hq1] at a0
      rw [hq2] at a1
      clear ca hca g0 g1 hpr hq1 hq2 hV hX1 hX2 hX3 hX4 hS' hhj hln hln2 f1 f2 k1 k2
      go_wp2_with (go_at_call 19; refine (HEV _).mono ?_; rintro e w5 ⟨rfl, hb5⟩; have p1 := (hb5.cell (p := ⟨B, 1, none⟩) zr).trans p1; have a0 := (hb5.cell (p := ⟨ga, _, none⟩) hgw).trans a0)
      go_roundw
      case rel => exact ⟨j + 1, S', by omega, by go_num, rfl, HS'.out, HBT0.out.trans (hb5.mono hZw)⟩
      case measure => simp [intOf]; omega
    · obtain rfl : j = n1 := by omega
      have hj1 : ¬ (j : Int) < (j : Int) := by omega
      rw [← HN1.out] at HS
      by_cases hbr : x.text = [] ∧ x.kids = []
      · have hTB := textE_brief (d := d) hbr
        have ad1 := fun W => add_at (headT x x.attrs.length) [47, 62] (textE (d + 1) x) S ⟨#[47, 62]⟩ R HS.out rfl HRT.out hTB.symm (by have := HTT.out; omega) W
        obtain rfl : (⟨#[]⟩ : ByteArray) = s2 := by rw [← HTX.out, hbr.1]
        have hn20 : n2 = 0 := by rw [← HN2.out, hbr.2]; rfl
        have hn2i : (n2 : Int) = 0 := by omega
        have hn2b : ((n2 : Int) == 0) = true := by rw [beq_iff_eq]; exact hn2i
        subst hn20
        clear hTB hbr hlt
        go_wp2_with fail
        go_ret2
        exact ⟨rfl, HBW.out⟩
      · have HLONG : Hid (¬ (x.text = [] ∧ x.kids = [])) := hbr
        have hway : s2.toList.isEmpty = false ∨ (s2 = ⟨#[]⟩ ∧ ((n2 : Int) == 0) = false) := by
          rw [← HTX.out]
          cases ht : x.text with
          | nil =>
            right
            refine ⟨rfl, ?_⟩
            rw [beq_eq_false_iff_ne]
            have hk : x.kids ≠ [] := fun h => hbr ⟨ht, h⟩
            have h9 := HN2.out
            have h8 : x.kids.length ≠ 0 := fun h => hk (List.length_eq_zero_iff.1 h)
            omega
          | cons a b =>
            left
            rw [ByteArray.toList_eq]
            rfl
        obtain ⟨X1, hX1⟩ : ∃ X1, (⟨([62] ++ esc x.text).toArray⟩ : ByteArray) = X1 := ⟨_, rfl⟩
        obtain ⟨BT, hBT⟩ : ∃ BT, (⟨(bodyT d x 0).toArray⟩ : ByteArray) = BT := ⟨_, rfl⟩
        have HBT : Hid ((⟨(bodyT d x 0).toArray⟩ : ByteArray) = BT) := hBT
        have hl9 := HBD.out 0
        have hb0 : headT x x.attrs.length ++ ([62] ++ esc x.text) = bodyT d x 0 := by unfold bodyT; simp
        have hl8 := hl9
        rw [← hb0, List.length_append] at hl8
        have ad1 := fun W => add_at [62] (esc x.text) _ ⟨#[62]⟩ ES X1 rfl HEST.out hX1 rfl (by omega) W
        have ad2 := fun W => add_at (headT x x.attrs.length) ([62] ++ esc x.text) (bodyT d x 0) S X1 BT HS.out hX1 hBT hb0 (by omega) W
        clear hX1 hBT hl9 hb0 hl8 hbr hlt
        rcases hway with hway | ⟨hway, hway2⟩
        · have hne : ¬ s2.toList = [] := by intro e; rw [e] at hway; cases hway
          go_wp2_with (first
            | (go_at_call 19; refine (HES _).mono ?_; rintro e w5 ⟨rfl, hb5⟩; have p0 := (hb5.cell (p := ⟨B, 0, none⟩) zr).trans p0; have p3 := (hb5.cell (p := ⟨B, 3, none⟩) zr).trans p3; have z5 := hb5.size; have HB5 : Hid (Below w.heap.size w w5) := HBW.out.trans (hb5.mono HBW.out.size)))
          obtain ⟨Y, hY⟩ : ∃ Y, w5.heap.size = Y := ⟨_, rfl⟩
          have HYZ : Hid (w5.heap.size = Y) := hY
          have zB : B < Y := by omega
          clear hb5 z5 zr hY
          go_loopw [4, 10, 11, 12] (fun sv i _ _ ws => ∃ (t : Nat) (S : ByteArray), t ≤ n2 ∧ i = .int .i64 (t : Int) ∧ sv = .string S ∧ Hid ((⟨(bodyT d x t).toArray⟩ : ByteArray) = S) ∧ Hid (Below Y w5 ws)) (fun _ i _ _ _ => n2 - (intOf i).toNat)
          case atStart => exact ⟨0, BT, Nat.zero_le _, rfl, rfl, HBT.out, Below.refl _ _⟩
          case round =>
            obtain ⟨t, S, ht, rfl, rfl, HS, HBS⟩ := hrel
            have c0 := (HBS.out.cell (p := ⟨B, 0, none⟩) zB).trans p0
            have c3 := (HBS.out.cell (p := ⟨B, 3, none⟩) zB).trans p3
            have hYw : Y ≤ wr.heap.size := by have h9 := HBS.out.size; have h8 := HYZ.out; omega
            by_cases hlt2 : t < n2
            · obtain ⟨kd, hkd⟩ : ∃ kd, x.kids[t]? = some kd := ⟨_, List.getElem?_eq_getElem (by rw [HN2.out]; exact hlt2)⟩
              obtain ⟨a1, b1, c1, d1, i0, i1, i2, i3, hE1⟩ := kids_get t S1.out hkd
              obtain ⟨ga, oa, rfl, hga, hca⟩ := row_flat2 K1.out i0
              obtain ⟨ua, va, ub, vb, rfl, rfl⟩ := hE1.shape
              obtain ⟨rfl, _, rfl, _⟩ := hE1.parts
              have hbw : Below w.heap.size w wr := HB5.out.trans (HBS.out.mono (by have h9 := HB5.out.size; have h8 := HYZ.out; omega))
              have ca : ∀ i v, xs[i]? = some v → wr.cell? ⟨ga, oa + i, none⟩ = some v := fun i v hv => (hbw.cell (p := ⟨ga, oa + i, none⟩) hga).trans (hca i v hv)
              have y0 := ca _ _ i0
              have y1 := ca _ _ i1
              have y2 := ca _ _ i2
              have y3 := ca _ _ i3
              rw [← Nat.add_assoc] at y1 y2 y3
              have HCL := HIH.out kd (List.mem_of_getElem? hkd) wr _ _ _ _ hbw hE1
              have t0 : (0 : Int) ≤ (t : Int) := by omega
              have t1 : (t : Int) < (n2 : Int) := by omega
              obtain ⟨kn, hkn⟩ : ∃ kn, (⟨kd.nm.toArray⟩ : ByteArray) = kn := ⟨_, rfl⟩
              obtain ⟨kt, hkt⟩ : ∃ kt, (⟨kd.text.toArray⟩ : ByteArray) = kt := ⟨_, rfl⟩
              obtain ⟨m1, hm1⟩ : ∃ m1, kd.attrs.length = m1 := ⟨_, rfl⟩
              obtain ⟨m2, hm2⟩ : ∃ m2, kd.kids.length = m2 := ⟨_, rfl⟩
              obtain ⟨KE, hKE⟩ : ∃ KE, (⟨(textE d kd).toArray⟩ : ByteArray) = KE := ⟨_, rfl⟩
              obtain ⟨S', hS'⟩ : ∃ S', (⟨(bodyT d x (t + 1)).toArray⟩ : ByteArray) = S' := ⟨_, rfl⟩
              have HS' : Hid ((⟨(bodyT d x (t + 1)).toArray⟩ : ByteArray) = S') := hS'
              have hadd := fun W => add_at (bodyT d x t) (textE d kd) (bodyT d x (t + 1)) S KE S' HS.out hKE hS' (by unfold bodyT; rw [flat_take hkd]; simp [List.append_assoc]) (by have := HBD.out (t + 1); omega) W
              rw [hkn, hkt, hm1, hm2, hKE] at HCL
              rw [hkn] at y0
              rw [hm1] at y1
              rw [hkt] at y2
              rw [hm2] at y3
              clear ca hca i0 i1 i2 i3 hE1 hkd hkn hkt hm1 hm2 hbw hKE hS'
              go_wp2_with (go_at_call 7; refine HCL.mono ?_; rintro ee w6 ⟨rfl, hb6⟩)
              go_roundw
              case rel => exact ⟨t + 1, S', by omega, by go_num, rfl, HS'.out, HBS.out.trans (hb6.mono hYw)⟩
              case measure => simp [intOf]; omega
            · obtain rfl : t = n2 := by omega
              have t1 : ¬ (t : Int) < (t : Int) := by omega
              obtain ⟨X1, hX1⟩ : ∃ X1, (⟨(bodyT d x t ++ [60, 47]).toArray⟩ : ByteArray) = X1 := ⟨_, rfl⟩
              obtain ⟨X2, hX2⟩ : ∃ X2, (⟨(bodyT d x t ++ [60, 47] ++ x.nm).toArray⟩ : ByteArray) = X2 := ⟨_, rfl⟩
              have hTL := textE_long (d := d) HLONG.out
              rw [HN2.out] at hTL
              have hlen : (bodyT d x t ++ [60, 47] ++ x.nm ++ [62]).length ≤ 10000000000000 := by rw [← hTL]; exact HTT.out
              have hlen2 := hlen
              simp only [List.length_append, List.length_cons, List.length_nil] at hlen2
              have ad1 := fun W => add_at (bodyT d x t) [60, 47] _ S ⟨#[60, 47]⟩ X1 HS.out rfl hX1 rfl (by simp only [List.length_append, List.length_cons, List.length_nil]; omega) W
              have ad2 := fun W => add_at (bodyT d x t ++ [60, 47]) x.nm _ X1 s1 X2 hX1 HN0.out hX2 rfl (by simp only [List.length_append, List.length_cons, List.length_nil]; omega) W
              have ad3 := fun W => add_at (bodyT d x t ++ [60, 47] ++ x.nm) [62] (textE (d + 1) x) X2 ⟨#[62]⟩ R hX2 rfl HRT.out hTL.symm (by have := HTT.out; omega) W
              clear hX1 hX2 hTL hlen hlen2 hlt2
              go_wp2_with fail
              go_ret2
              exact ⟨rfl, HB5.out.trans (HBS.out.mono (by have h9 := HB5.out.size; have h8 := HYZ.out; omega))⟩
        · subst hway
          have hne2 : ¬ (n2 : Int) = 0 := by intro e; rw [e] at hway2; cases hway2
          go_wp2_with (first
            | (go_at_call 19; refine (HES _).mono ?_; rintro e w5 ⟨rfl, hb5⟩; have p0 := (hb5.cell (p := ⟨B, 0, none⟩) zr).trans p0; have p3 := (hb5.cell (p := ⟨B, 3, none⟩) zr).trans p3; have z5 := hb5.size; have HB5 : Hid (Below w.heap.size w w5) := HBW.out.trans (hb5.mono HBW.out.size)))
          obtain ⟨Y, hY⟩ : ∃ Y, w5.heap.size = Y := ⟨_, rfl⟩
          have HYZ : Hid (w5.heap.size = Y) := hY
          have zB : B < Y := by omega
          clear hb5 z5 zr hY
          go_loopw [4, 10, 11, 12] (fun sv i _ _ ws => ∃ (t : Nat) (S : ByteArray), t ≤ n2 ∧ i = .int .i64 (t : Int) ∧ sv = .string S ∧ Hid ((⟨(bodyT d x t).toArray⟩ : ByteArray) = S) ∧ Hid (Below Y w5 ws)) (fun _ i _ _ _ => n2 - (intOf i).toNat)
          case atStart => exact ⟨0, BT, Nat.zero_le _, rfl, rfl, HBT.out, Below.refl _ _⟩
          case round =>
            obtain ⟨t, S, ht, rfl, rfl, HS, HBS⟩ := hrel
            have c0 := (HBS.out.cell (p := ⟨B, 0, none⟩) zB).trans p0
            have c3 := (HBS.out.cell (p := ⟨B, 3, none⟩) zB).trans p3
            have hYw : Y ≤ wr.heap.size := by have h9 := HBS.out.size; have h8 := HYZ.out; omega
            by_cases hlt2 : t < n2
            · obtain ⟨kd, hkd⟩ : ∃ kd, x.kids[t]? = some kd := ⟨_, List.getElem?_eq_getElem (by rw [HN2.out]; exact hlt2)⟩
              obtain ⟨a1, b1, c1, d1, i0, i1, i2, i3, hE1⟩ := kids_get t S1.out hkd
              obtain ⟨ga, oa, rfl, hga, hca⟩ := row_flat2 K1.out i0
              obtain ⟨ua, va, ub, vb, rfl, rfl⟩ := hE1.shape
              obtain ⟨rfl, _, rfl, _⟩ := hE1.parts
              have hbw : Below w.heap.size w wr := HB5.out.trans (HBS.out.mono (by have h9 := HB5.out.size; have h8 := HYZ.out; omega))
              have ca : ∀ i v, xs[i]? = some v → wr.cell? ⟨ga, oa + i, none⟩ = some v := fun i v hv => (hbw.cell (p := ⟨ga, oa + i, none⟩) hga).trans (hca i v hv)
              have y0 := ca _ _ i0
              have y1 := ca _ _ i1
              have y2 := ca _ _ i2
              have y3 := ca _ _ i3
              rw [← Nat.add_assoc] at y1 y2 y3
              have HCL := HIH.out kd (List.mem_of_getElem? hkd) wr _ _ _ _ hbw hE1
              have t0 : (0 : Int) ≤ (t : Int) := by omega
              have t1 : (t : Int) < (n2 : Int) := by omega
              obtain ⟨kn, hkn⟩ : ∃ kn, (⟨kd.nm.toArray⟩ : ByteArray) = kn := ⟨_, rfl⟩
              obtain ⟨kt, hkt⟩ : ∃ kt, (⟨kd.text.toArray⟩ : ByteArray) = kt := ⟨_, rfl⟩
              obtain ⟨m1, hm1⟩ : ∃ m1, kd.attrs.length = m1 := ⟨_, rfl⟩
              obtain ⟨m2, hm2⟩ : ∃ m2, kd.kids.length = m2 := ⟨_, rfl⟩
              obtain ⟨KE, hKE⟩ : ∃ KE, (⟨(textE d kd).toArray⟩ : ByteArray) = KE := ⟨_, rfl⟩
              obtain ⟨S', hS'⟩ : ∃ S', (⟨(bodyT d x (t + 1)).toArray⟩ : ByteArray) = S' := ⟨_, rfl⟩
              have HS' : Hid ((⟨(bodyT d x (t + 1)).toArray⟩ : ByteArray) = S') := hS'
              have hadd := fun W => add_at (bodyT d x t) (textE d kd) (bodyT d x (t + 1)) S KE S' HS.out hKE hS' (by unfold bodyT; rw [flat_take hkd]; simp [List.append_assoc]) (by have := HBD.out (t + 1); omega) W
              rw [hkn, hkt, hm1, hm2, hKE] at HCL
              rw [hkn] at y0
              rw [hm1] at y1
              rw [hkt] at y2
              rw [hm2] at y3
              clear ca hca i0 i1 i2 i3 hE1 hkd hkn hkt hm1 hm2 hbw hKE hS'
              go_wp2_with (go_at_call 7; refine HCL.mono ?_; rintro ee w6 ⟨rfl, hb6⟩)
              go_roundw
              case rel => exact ⟨t + 1, S', by omega, by go_num, rfl, HS'.out, HBS.out.trans (hb6.mono hYw)⟩
              case measure => simp [intOf]; omega
            · obtain rfl : t = n2 := by omega
              have t1 : ¬ (t : Int) < (t : Int) := by omega
              obtain ⟨X1, hX1⟩ : ∃ X1, (⟨(bodyT d x t ++ [60, 47]).toArray⟩ : ByteArray) = X1 := ⟨_, rfl⟩
              obtain ⟨X2, hX2⟩ : ∃ X2, (⟨(bodyT d x t ++ [60, 47] ++ x.nm).toArray⟩ : ByteArray) = X2 := ⟨_, rfl⟩
              have hTL := textE_long (d := d) HLONG.out
              rw [HN2.out] at hTL
              have hlen : (bodyT d x t ++ [60, 47] ++ x.nm ++ [62]).length ≤ 10000000000000 := by rw [← hTL]; exact HTT.out
              have hlen2 := hlen
              simp only [List.length_append, List.length_cons, List.length_nil] at hlen2
              have ad1 := fun W => add_at (bodyT d x t) [60, 47] _ S ⟨#[60, 47]⟩ X1 HS.out rfl hX1 rfl (by simp only [List.length_append, List.length_cons, List.length_nil]; omega) W
              have ad2 := fun W => add_at (bodyT d x t ++ [60, 47]) x.nm _ X1 s1 X2 hX1 HN0.out hX2 rfl (by simp only [List.length_append, List.length_cons, List.length_nil]; omega) W
              have ad3 := fun W => add_at (bodyT d x t ++ [60, 47] ++ x.nm) [62] (textE (d + 1) x) X2 ⟨#[62]⟩ R hX2 rfl HRT.out hTL.symm (by have := HTT.out; omega) W
              clear hX1 hX2 hTL hlen hlen2 hlt2
              go_wp2_with fail
              go_ret2
              exact ⟨rfl, HB5.out.trans (HBS.out.mono (by have h9 := HB5.out.size; have h8 := HYZ.out; omega))⟩
theorem rightE_four : ∀ (n : Nat) (x : El), n ≤ 4 → rightE n x = true → rightE 4 x = true := by
  intro n x hn h
  match n, hn with
  | 0, _ => cases h
  | 1, _ => exact rightE_up 3 x (rightE_up 2 x (rightE_up 1 x h))
  | 2, _ => exact rightE_up 3 x (rightE_up 2 x h)
  | 3, _ => exact rightE_up 3 x h
  | 4, _ => exact h
theorem refWriteD_any {P : Nat → Prop} : ∀ (n : Nat) (x : El) (a b c d' : Value) (w : World), n ≤ 4 → rightE n x = true → (∀ m, smallE m x) → (∀ m, nmE m x) → ElE P w x a b c d' →
    Calls Tryz.prog 7 #[.agg #[a, b, c, d']] w fun e w' => e = .returned (.tuple #[.string ⟨(textE n x).toArray⟩, .int .i64 0]) ∧ Below w.heap.size w w'
  | 0, _, _, _, _, _, _, _, h, _, _, _ => by cases h
  | n + 1, x, a, b, c, d', w, hn, h, hs, hm, h1 => by
    have hlen := textE_len (n + 1) x h (hs _)
    have h17 : 17 ^ (n + 1) ≤ 17 ^ 4 := Nat.pow_le_pow_right (by omega) hn
    have h18 : (17 : Nat) ^ 4 = 83521 := by decide
    refine refWrite_step n x a b c d' w h1 (hs _) h (by omega) (fun W hW => refRightT_any x a b c d' W (hs 4) (hm 4) (h1.step (row_below hW)) true (rightE_four _ x hn h)) fun k hk W a b c d' hW e1 => ?_
    have hk' : rightE n k = true := by
      unfold rightE at h
      simp only [Bool.and_eq_true] at h
      exact List.all_eq_true.1 h.2.2.2.2 k hk
    exact refWriteD_any n k a b c d' W (by omega) hk' (fun m => (hs (m + 1)).2.2.2.2 k hk) (fun m => (hm (m + 1)).2 k hk) (e1.step (row_below hW))
set_option maxRecDepth 100000 in
theorem refWrite_any {P : Nat → Prop} (x : El) (a b c d' : Value) (w : World) (hs : ∀ m, smallE m x) (hm : ∀ m, nmE m x) (h1 : ElE P w x a b c d') :
    Calls Tryz.prog 7 #[.agg #[a, b, c, d']] w fun e w' => e = .returned (.tuple #[.string ⟨(writeN x).1.toArray⟩, .int .i64 (writeN x).2]) ∧ Below w.heap.size w w' := by
  cases hr : rightE 4 x with
  | true =>
    have ew : writeN x = (textE 4 x, 0) := by unfold writeN; rw [hr]; rfl
    rw [ew]
    exact refWriteD_any 4 x a b c d' w (Nat.le_refl _) hr hs hm h1
  | false =>
    have ew : writeN x = ([], 3) := by unfold writeN; rw [hr]; rfl
    rw [ew]
    have hb0 : ∀ o, Below w.heap.size w (w.alloc o) := fun o => (Below.refl _ _).alloc (Nat.le_refl _) o
    have H1 := fun o => refRightT_any (P := P) x a b c d' (w.alloc o) (hs 4) (hm 4) (h1.step (row_below (hb0 o))) false hr
    obtain ⟨ao1, cap1, ao2, cap2, rfl, rfl⟩ := h1.shape
    obtain ⟨rfl, _, rfl, _⟩ := h1.parts
    obtain ⟨s1, hs1⟩ : ∃ s1, (⟨x.nm.toArray⟩ : ByteArray) = s1 := ⟨_, rfl⟩
    obtain ⟨s2, hs2⟩ : ∃ s2, (⟨x.text.toArray⟩ : ByteArray) = s2 := ⟨_, rfl⟩
    obtain ⟨n1, hn1⟩ : ∃ n1, x.attrs.length = n1 := ⟨_, rfl⟩
    obtain ⟨n2, hn2⟩ : ∃ n2, x.kids.length = n2 := ⟨_, rfl⟩
    rw [hs1, hs2, hn1, hn2] at H1 ⊢
    clear h1 hs hm hr hs1 hs2 hn1 hn2 ew
    go_enter Tryz.func7, Tryz.ntmps7
    go_wp2_with (go_at_call 10; refine (H1 _).mono ?_; rintro e w1 ⟨rfl, hb1⟩)
    go_ret2
    exact ⟨rfl, (hb0 _).trans (hb1.mono (by simp))⟩
end Go.Proofs.YthekdgnikkjpdaaGreatDoor
