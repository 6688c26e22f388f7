/-
  Over this program: two rows of attributes compared (slices.Equal).
-/
import Derived.Test.YthekdgnikkjpdaaGreatDoorWrif
import Derived.Laws.EntriesVeiled
namespace Go.Proofs.YthekdgnikkjpdaaGreatDoor
open Go Go.RowKit
theorem bytes_beq (a b : List UInt8) : ((⟨a.toArray⟩ : ByteArray).toList == (⟨b.toArray⟩ : ByteArray).toList) = (a == b) := by
  rw [ByteArray.toList_eq, ByteArray.toList_eq]
theorem neq_pair (W : World) (p q : List UInt8 × List UInt8) : (binOp .neq 34 (.agg #[.string ⟨p.1.toArray⟩, .string ⟨p.2.toArray⟩]) (.agg #[.string ⟨q.1.toArray⟩, .string ⟨q.2.toArray⟩])).run Tryz.prog W = .ok (.bool (p != q)) W := by
  have e : (p != q) = !((⟨p.1.toArray⟩ : ByteArray).toList == (⟨q.1.toArray⟩ : ByteArray).toList && (⟨p.2.toArray⟩ : ByteArray).toList == (⟨q.2.toArray⟩ : ByteArray).toList) := by
    rw [bytes_beq, bytes_beq]
    obtain ⟨p1, p2⟩ := p
    obtain ⟨q1, q2⟩ := q
    rfl
  rw [e]
  generalize (⟨p.1.toArray⟩ : ByteArray) = a
  generalize (⟨p.2.toArray⟩ : ByteArray) = b
  generalize (⟨q.1.toArray⟩ : ByteArray) = c
  generalize (⟨q.2.toArray⟩ : ByteArray) = d
  have hf : Tryz.prog.fieldsOf 34 = #[{ name := "Name", type := 9, offset := 0, embedded := false, tag := "", pkgPath := "", byteOffset := 0 }, { name := "Value", type := 9, offset := 1, embedded := false, tag := "", pkgPath := "", byteOffset := 16 }] := by kernel_rfl
  rw [run_neq_struct, run_equalIn_struct W 9999 34 _ _ (by rw [hf]; exact Tryz.underlying34) (by kernel_rfl), hf]
  go_simp
  cases h1 : a.toList == c.toList <;> cases h2 : b.toList == d.toList <;> simp_all
theorem row_flat2 {P : Nat → Prop} {w : World} {ao : Option Addr} {n cap : Nat} {xs : List Value} {i : Nat} {y : Value} (h : Row P w (.slice ao n cap) n xs) (hy : xs[i]? = some y) : ∃ g off, ao = some ⟨g, off, none⟩ ∧ g < w.heap.size ∧ ∀ i y, xs[i]? = some y → w.cell? ⟨g, off + i, none⟩ = some y := by
  cases xs with
  | nil => simp at hy
  | cons a b => exact row_flat h
theorem eq_drop {l1 l2 : List (List UInt8 × List UInt8)} {j : Nat} {p q : List UInt8 × List UInt8} (h1 : l1[j]? = some p) (h2 : l2[j]? = some q) : (l1.drop j == l2.drop j) = (!(p != q) && (l1.drop (j + 1) == l2.drop (j + 1))) := by
  obtain ⟨a1, rfl⟩ := List.getElem?_eq_some_iff.1 h1
  obtain ⟨a2, rfl⟩ := List.getElem?_eq_some_iff.1 h2
  rw [List.drop_eq_getElem_cons a1, List.drop_eq_getElem_cons a2]
  rw [List.cons_beq_cons]
  simp only [bne, Bool.not_not]
theorem ret_b2 {b c : Bool} (h : b = c) : Ending.returned (.bool b) = Ending.returned (.bool c) := by rw [h]
set_option maxHeartbeats 1000000 in
set_option maxRecDepth 100000 in
theorem equalAttrs_any {P : Nat → Prop} (ao1 ao2 : Option Addr) (cap1 cap2 : Nat) (l1 l2 : List (List UInt8 × List UInt8)) (w : World) (h1 : Row P w (.slice ao1 l1.length cap1) l1.length (pairCells l1)) (h2 : Row P w (.slice ao2 l2.length cap2) l2.length (pairCells l2)) (hbig : l1.length ≤ 2000000) :
    Calls Tryz.prog 26 #[.slice ao1 l1.length cap1, .slice ao2 l2.length cap2] w fun e w' => e = .returned (.bool (l1 == l2)) ∧ Below w.heap.size w w' := by
  obtain ⟨r, hr⟩ : ∃ r, (l1 == l2) = r := ⟨_, rfl⟩
  rw [hr]
  have HR : Hid _ := hr
  obtain ⟨n, hn1⟩ : ∃ n, l1.length = n := ⟨_, rfl⟩
  obtain ⟨m, hm1⟩ : ∃ m, l2.length = m := ⟨_, rfl⟩
  rw [hn1] at h1 hbig ⊢
  rw [hm1] at h2 ⊢
  have HN : Hid _ := hn1
  have HM : Hid _ := hm1
  have H1 : Hid (Row _ _ _ _ _) := h1
  have H2 : Hid (Row _ _ _ _ _) := h2
  have hneq := neq_pair
  clear hr hn1 hm1 h1 h2
  by_cases hnm : n = m
  · subst hnm
    go_enter Tryz.func26, Tryz.ntmps26
    go_wp2_with fail
    go_loopw [13] (fun i wr => ∃ j : Nat, j ≤ n ∧ i = .int .i64 j ∧ Below w.heap.size w wr ∧ r = (l1.drop j == l2.drop j)) (fun i _ => n - (intOf i).toNat)
    case atStart => exact ⟨0, Nat.zero_le _, rfl, Below.refl _ _, by rw [← HR.out]; rfl⟩
    case round =>
      obtain ⟨j, hj, rfl, hbw, hres⟩ := hrel
      have HRES : Hid _ := hres
      clear hres
      by_cases hlt : j < n
      · obtain ⟨p, hp⟩ : ∃ p, l1[j]? = some p := ⟨_, List.getElem?_eq_getElem (by rw [HN.out]; exact hlt)⟩
        obtain ⟨q, hq⟩ : ∃ q, l2[j]? = some q := ⟨_, List.getElem?_eq_getElem (by rw [HM.out]; exact hlt)⟩
        obtain ⟨gx, hgx⟩ := pair_get l1 j p hp
        obtain ⟨gy, hgy⟩ := pair_get l2 j q hq
        obtain ⟨g1, off1, rfl, hg1, hc1⟩ := row_flat2 H1.out gx
        obtain ⟨g2, off2, rfl, hg2, hc2⟩ := row_flat2 H2.out gy
        have k0 : wr.cell? ⟨g1, off1 + j * 2, none⟩ = some (.string ⟨p.1.toArray⟩) := by rw [hbw.cell (p := ⟨g1, _, none⟩) hg1]; exact hc1 _ _ gx
        have k1 : wr.cell? ⟨g1, off1 + j * 2 + 1, none⟩ = some (.string ⟨p.2.toArray⟩) := by rw [Nat.add_assoc, hbw.cell (p := ⟨g1, _, none⟩) hg1]; exact hc1 _ _ hgx
        have k2 : wr.cell? ⟨g2, off2 + j * 2, none⟩ = some (.string ⟨q.1.toArray⟩) := by rw [hbw.cell (p := ⟨g2, _, none⟩) hg2]; exact hc2 _ _ gy
        have k3 : wr.cell? ⟨g2, off2 + j * 2 + 1, none⟩ = some (.string ⟨q.2.toArray⟩) := by rw [Nat.add_assoc, hbw.cell (p := ⟨g2, _, none⟩) hg2]; exact hc2 _ _ hgy
        have hed := eq_drop hp hq
        have hi0 : (0 : Int) ≤ (j : Int) := Int.natCast_nonneg _
        have hi1 : (j : Int) < (n : Int) := by omega
        have hnp := fun W => neq_pair W p q
        cases hpq : p != q with
        | true =>
          have HE : Hid (r = false) := by rw [HRES.out, hed, hpq]; rfl
          rw [hpq] at hnp
          clear hed hpq hc1 hc2 gx hgx gy hgy hp hq hneq
          go_wp2_with fail
          go_region
          go_wp2_with fail
          go_ret
          exact ⟨ret_b2 HE.out.symm, hbw.drew⟩
        | false =>
          have HE : Hid (r = (l1.drop (j + 1) == l2.drop (j + 1))) := by rw [HRES.out, hed, hpq]; rfl
          rw [hpq] at hnp
          clear hed hpq hc1 hc2 gx hgx gy hgy hp hq hneq
          go_wp2_with fail
          go_region
          go_wp2_with fail
          go_roundw
          case rel => exact ⟨j + 1, by omega, by go_num, hbw.drew, HE.out⟩
          case measure => simp [intOf]; omega
      · have HE : Hid (r = true) := by
          rw [HRES.out, List.drop_of_length_le (by rw [HN.out]; omega), List.drop_of_length_le (by rw [HM.out]; omega)]
          rfl
        have hnl : ¬ (j : Int) < (n : Int) := by omega
        go_wp2_with fail
        go_ret
        exact ⟨ret_b2 HE.out.symm, hbw⟩
  · have HE : Hid (r = false) := by
      rw [← HR.out]
      cases h : l1 == l2 with
      | false => rfl
      | true =>
        have e := eq_of_beq h
        rw [e, HM.out] at HN
        exact absurd HN.out.symm hnm
    have hnm' : ((n : Int) == (m : Int)) = false := by simp; omega
    have hnm2 : ((n : Int) != (m : Int)) = true := by simp; omega
    go_enter Tryz.func26, Tryz.ntmps26
    go_wp2_with fail
    go_ret
    exact ⟨ret_b2 HE.out.symm, Below.refl _ _⟩
end Go.Proofs.YthekdgnikkjpdaaGreatDoor
/-
  Over this program: two rows of kids compared (slices.EqualFunc at trees.Same's own function).
-/
namespace Go.Proofs.YthekdgnikkjpdaaGreatDoor
open Go Go.RowKit
def sameK (f : El → El → Bool) : List El → List El → Bool
  | [], [] => true
  | a :: l, b :: m => f a b && sameK f l m
  | [], _ :: _ => false
  | _ :: _, [] => false
def sameE : Nat → El → El → Bool
  | 0, _, _ => false
  | n + 1, a, b => (a.nm == b.nm) && ((a.text == b.text) && ((a.attrs == b.attrs) && sameK (sameE n) a.kids b.kids))
theorem sameK_len (f : El → El → Bool) : ∀ {l m : List El}, l.length ≠ m.length → sameK f l m = false
  | [], [], h => absurd rfl h
  | [], _ :: _, _ => rfl
  | _ :: _, [], _ => rfl
  | a :: l, b :: m, h => by
    unfold sameK
    rw [sameK_len f (by simpa using h), Bool.and_false]
theorem sameK_drop (f : El → El → Bool) {l1 l2 : List El} {j : Nat} {p q : El} (h1 : l1[j]? = some p) (h2 : l2[j]? = some q) : sameK f (l1.drop j) (l2.drop j) = (f p q && sameK f (l1.drop (j + 1)) (l2.drop (j + 1))) := by
  obtain ⟨a1, rfl⟩ := List.getElem?_eq_some_iff.1 h1
  obtain ⟨a2, rfl⟩ := List.getElem?_eq_some_iff.1 h2
  rw [List.drop_eq_getElem_cons a1, List.drop_eq_getElem_cons a2]
  rfl
theorem elAt_shape {P : Nat → Prop} {w : World} {n : Nat} {e : El} {a b c d : Value} (h : ElAt P w n e a b c d) : ∃ s1 ao cap s2 ao' cap', a = .string s1 ∧ b = .slice ao e.attrs.length cap ∧ c = .string s2 ∧ d = .slice ao' e.kids.length cap' := by
  cases n with
  | zero => exact h.elim
  | succ n =>
    obtain ⟨h1, ⟨ao, cap, h2, _⟩, h3, xs, ⟨ao', cap', h4, _⟩, _⟩ := h
    exact ⟨_, ao, cap, _, ao', cap', h1, h2, h3, h4⟩
set_option maxHeartbeats 1000000 in
set_option maxRecDepth 100000 in
theorem equalKids_any {P : Nat → Prop} (c k : Nat) (l1 l2 : List El) (ao1 ao2 : Option Addr) (cap1 cap2 : Nat) (xs1 xs2 : List Value) (w : World)
    (ih : ∀ e1 ∈ l1, ∀ e2 ∈ l2, ∀ (s1 s2 t1 t2 : ByteArray) (a1 a2 b1 b2 : Option Addr) (n1 n2 m1 m2 c1 c2 d1 d2 : Nat) (W : World), Below w.heap.size w W → ElAt P W k e1 (.string s1) (.slice a1 n1 c1) (.string s2) (.slice a2 n2 c2) → ElAt P W k e2 (.string t1) (.slice b1 m1 d1) (.string t2) (.slice b2 m2 d2) →
      Calls Tryz.prog 25 #[.agg #[.string s1, .slice a1 n1 c1, .string s2, .slice a2 n2 c2], .agg #[.string t1, .slice b1 m1 d1, .string t2, .slice b2 m2 d2], .pointer (some ⟨c, 0, none⟩)] W fun e w' => e = .returned (.bool (sameE k e1 e2)) ∧ Below W.heap.size W w')
    (h1 : Row P w (.slice ao1 l1.length cap1) l1.length xs1) (h2 : Row P w (.slice ao2 l2.length cap2) l2.length xs2) (k1 : KidsAt (ElAt P w k) l1 xs1) (k2 : KidsAt (ElAt P w k) l2 xs2) (hbig : l1.length ≤ 2000000) :
    Calls Tryz.prog 27 #[.slice ao1 l1.length cap1, .slice ao2 l2.length cap2, .func (.func 25) #[] #[.pointer (some ⟨c, 0, none⟩)]] w fun e w' => e = .returned (.bool (sameK (sameE k) l1 l2)) ∧ Below w.heap.size w w' := by
  obtain ⟨r, hr⟩ : ∃ r, sameK (sameE k) l1 l2 = r := ⟨_, rfl⟩
  rw [hr]
  have HR : Hid _ := hr
  obtain ⟨n, hn1⟩ : ∃ n, l1.length = n := ⟨_, rfl⟩
  obtain ⟨m, hm1⟩ : ∃ m, l2.length = m := ⟨_, rfl⟩
  rw [hn1] at h1 hbig ⊢
  rw [hm1] at h2 ⊢
  have HN : Hid _ := hn1
  have HM : Hid _ := hm1
  have H1 : Hid (Row _ _ _ _ _) := h1
  have H2 : Hid (Row _ _ _ _ _) := h2
  have K1 : Hid (KidsAt _ _ _) := k1
  have K2 : Hid (KidsAt _ _ _) := k2
  have IH : Hid _ := ih
  clear hr hn1 hm1 h1 h2 k1 k2 ih
  by_cases hnm : n = m
  · subst hnm
    go_enter Tryz.func27, Tryz.ntmps27
    go_wp2_with fail
    go_loopw [17] (fun i wr => ∃ j : Nat, j ≤ n ∧ i = .int .i64 j ∧ Below w.heap.size w wr ∧ r = sameK (sameE k) (l1.drop j) (l2.drop j)) (fun i _ => n - (intOf i).toNat)
    case atStart => exact ⟨0, Nat.zero_le _, rfl, Below.refl _ _, by rw [← HR.out]; rfl⟩
    case round =>
      obtain ⟨j, hj, rfl, hbw, hres⟩ := hrel
      have HRES : Hid _ := hres
      have hwz := hbw.size
      clear hres
      by_cases hlt : j < n
      · obtain ⟨p, hp⟩ : ∃ p, l1[j]? = some p := ⟨_, List.getElem?_eq_getElem (by rw [HN.out]; exact hlt)⟩
        obtain ⟨q, hq⟩ : ∃ q, l2[j]? = some q := ⟨_, List.getElem?_eq_getElem (by rw [HM.out]; exact hlt)⟩
        obtain ⟨a1, b1, c1, d1, x0, x1, x2, x3, hE1⟩ := kids_get j K1.out hp
        obtain ⟨a2, b2, c2, d2, y0, y1, y2, y3, hE2⟩ := kids_get j K2.out hq
        obtain ⟨g1, off1, rfl, hg1, hc1⟩ := row_flat2 H1.out x0
        obtain ⟨g2, off2, rfl, hg2, hc2⟩ := row_flat2 H2.out y0
        obtain ⟨s1, u1, v1, s2, u2, v2, rfl, rfl, rfl, rfl⟩ := elAt_shape hE1
        obtain ⟨t1, p1, q1, t2, p2, q2, rfl, rfl, rfl, rfl⟩ := elAt_shape hE2
        have hw1 : ∀ o, wr.cell? ⟨g1, o, none⟩ = w.cell? ⟨g1, o, none⟩ := fun o => hbw.cell (p := ⟨g1, o, none⟩) hg1
        have hw2 : ∀ o, wr.cell? ⟨g2, o, none⟩ = w.cell? ⟨g2, o, none⟩ := fun o => hbw.cell (p := ⟨g2, o, none⟩) hg2
        have f0 := (hw1 _).trans (hc1 _ _ x0)
        have f1 := (hw1 _).trans (hc1 _ _ x1)
        have f2 := (hw1 _).trans (hc1 _ _ x2)
        have f3 := (hw1 _).trans (hc1 _ _ x3)
        have r0 := (hw2 _).trans (hc2 _ _ y0)
        have r1 := (hw2 _).trans (hc2 _ _ y1)
        have r2 := (hw2 _).trans (hc2 _ _ y2)
        have r3 := (hw2 _).trans (hc2 _ _ y3)
        rw [← Nat.add_assoc] at f1 f2 f3 r1 r2 r3
        have hg1' : g1 < wr.heap.size := by omega
        have hg2' : g2 < wr.heap.size := by omega
        have HC := fun W (hb : Below w.heap.size w W) => IH.out p (List.mem_of_getElem? hp) q (List.mem_of_getElem? hq) _ _ _ _ _ _ _ _ _ _ _ _ _ _ _ _ W hb (hE1.step (row_below hb)) (hE2.step (row_below hb))
        have hal : ∀ o1 o2, Below w.heap.size w ((wr.alloc o1).alloc o2) := fun o1 o2 => (hbw.alloc hwz o1).alloc (by simp; omega) o2
        have hed := sameK_drop (sameE k) hp hq
        have hi0 : (0 : Int) ≤ (j : Int) := Int.natCast_nonneg _
        have hi1 : (j : Int) < (n : Int) := by omega
        cases hpq : sameE k p q with
        | false =>
          have HE : Hid (r = false) := by rw [HRES.out, hed, hpq]; rfl
          rw [hpq] at HC
          clear hed hpq hc1 hc2 x0 x1 x2 x3 y0 y1 y2 y3 hp hq hE1 hE2 hw1 hw2
          go_wp2_with (go_at_call 25; refine (HC _ (hal _ _)).mono ?_; rintro e w5 ⟨rfl, hb5⟩)
          go_ret
          exact ⟨ret_b2 HE.out.symm, (hal _ _).trans (hb5.mono (by simp; omega))⟩
        | true =>
          have HE : Hid (r = sameK (sameE k) (l1.drop (j + 1)) (l2.drop (j + 1))) := by rw [HRES.out, hed, hpq]; rfl
          rw [hpq] at HC
          clear hed hpq hc1 hc2 x0 x1 x2 x3 y0 y1 y2 y3 hp hq hE1 hE2 hw1 hw2
          go_wp2_with (go_at_call 25; refine (HC _ (hal _ _)).mono ?_; rintro e w5 ⟨rfl, hb5⟩)
          go_roundw
          case rel => exact ⟨j + 1, by omega, by go_num, (hal _ _).trans (hb5.mono (by simp; omega)), HE.out⟩
          case measure => simp [intOf]; omega
      · have HE : Hid (r = true) := by
          rw [HRES.out, List.drop_of_length_le (by rw [HN.out]; omega), List.drop_of_length_le (by rw [HM.out]; omega)]
          rfl
        have hnl : ¬ (j : Int) < (n : Int) := by omega
        go_wp2_with fail
        go_ret
        exact ⟨ret_b2 HE.out.symm, hbw⟩
  · have HE : Hid (r = false) := by
      rw [← HR.out]
      exact sameK_len _ (by rw [HN.out, HM.out]; exact hnm)
    have hnm' : ((n : Int) == (m : Int)) = false := by simp; omega
    have hnm2 : ((n : Int) != (m : Int)) = true := by simp; omega
    go_enter Tryz.func27, Tryz.ntmps27
    go_wp2_with fail
    go_ret
    exact ⟨ret_b2 HE.out.symm, Below.refl _ _⟩
end Go.Proofs.YthekdgnikkjpdaaGreatDoor
/-
  The contract of trees.Same over this program: whether two elements are the same, name, text, attributes and kids.
-/
namespace Go.Proofs.YthekdgnikkjpdaaGreatDoor
open Go Go.RowKit
theorem bytes_beq2 (a b : List UInt8) : ((⟨a.toArray⟩ : ByteArray) == (⟨b.toArray⟩ : ByteArray)) = (a == b) := by
  rw [beq_toListBytes, bytes_beq]
set_option maxHeartbeats 1000000 in
set_option maxRecDepth 100000 in
theorem sameC_any {P : Nat → Prop} (c : Nat) : ∀ (k : Nat) (e1 e2 : El) (s1 s2 t1 t2 : ByteArray) (a1 a2 b1 b2 : Option Addr) (n1 n2 m1 m2 c1 c2 d1 d2 : Nat) (w : World), w.cell? ⟨c, 0, none⟩ = some (.func (.func 25) #[] #[.pointer (some ⟨c, 0, none⟩)]) → smallE k e1 →
    ElAt P w k e1 (.string s1) (.slice a1 n1 c1) (.string s2) (.slice a2 n2 c2) → ElAt P w k e2 (.string t1) (.slice b1 m1 d1) (.string t2) (.slice b2 m2 d2) →
    Calls Tryz.prog 25 #[.agg #[.string s1, .slice a1 n1 c1, .string s2, .slice a2 n2 c2], .agg #[.string t1, .slice b1 m1 d1, .string t2, .slice b2 m2 d2], .pointer (some ⟨c, 0, none⟩)] w fun e w' => e = .returned (.bool (sameE k e1 e2)) ∧ Below w.heap.size w w' := by
  intro k
  induction k with
  | zero =>
    intro e1 e2 s1 s2 t1 t2 a1 a2 b1 b2 n1 n2 m1 m2 c1 c2 d1 d2 w _ _ h
    exact h.elim
  | succ k ih =>
    intro e1 e2 s1 s2 t1 t2 a1 a2 b1 b2 n1 n2 m1 m2 c1 c2 d1 d2 w hc hsm hE1 hE2
    obtain ⟨q1, q2, q3, xs, q4, q5⟩ := hE1
    obtain ⟨p1, p2, p3, ys, p4, p5⟩ := hE2
    obtain ⟨ao', cap', q2e, _⟩ := id q2
    obtain ⟨rfl, rfl, rfl⟩ := Value.slice.inj q2e
    obtain ⟨ao', cap', q4e, _⟩ := id q4
    obtain ⟨rfl, rfl, rfl⟩ := Value.slice.inj q4e
    obtain ⟨ao', cap', p2e, _⟩ := id p2
    obtain ⟨rfl, rfl, rfl⟩ := Value.slice.inj p2e
    obtain ⟨ao', cap', p4e, _⟩ := id p4
    obtain ⟨rfl, rfl, rfl⟩ := Value.slice.inj p4e
    obtain rfl := Value.string.inj q1
    obtain rfl := Value.string.inj q3
    obtain rfl := Value.string.inj p1
    obtain rfl := Value.string.inj p3
    obtain ⟨_, m2, _, m4, m5⟩ := hsm
    have hcl := lt_of_cell hc
    have hw0 : ∀ o1 o2, Below w.heap.size w ((w.alloc o1).alloc o2) := fun o1 o2 => ((Below.refl _ _).alloc (Nat.le_refl _) o1).alloc (by simp) o2
    have H37 := fun W (hb : Below w.heap.size w W) => equalAttrs_any (P := P) a1 b1 c1 d1 e1.attrs e2.attrs W (q2.step (row_below hb)) (p2.step (row_below hb)) m2
    have H38 := fun W (hb : Below w.heap.size w W) => equalKids_any (P := P) c k e1.kids e2.kids a2 b2 c2 d2 xs ys W
      (fun x hx y _ s1 s2 t1 t2 a1 a2 b1 b2 n1 n2 m1 m2 c1 c2 d1 d2 W' hb' hx' hy' => ih x y s1 s2 t1 t2 a1 a2 b1 b2 n1 n2 m1 m2 c1 c2 d1 d2 W' ((hb'.cell (p := ⟨c, 0, none⟩) (Nat.lt_of_lt_of_le hcl hb.size)).trans ((hb.cell (p := ⟨c, 0, none⟩) hcl).trans hc)) (m5 x hx) hx' hy')
      (q4.step (row_below hb)) (p4.step (row_below hb)) (q5.imp fun _ _ _ _ _ h => h.step (row_below hb)) (p5.imp fun _ _ _ _ _ h => h.step (row_below hb)) m4
    have e0 : sameE (k + 1) e1 e2 = ((e1.nm == e2.nm) && ((e1.text == e2.text) && ((e1.attrs == e2.attrs) && sameK (sameE k) e1.kids e2.kids))) := rfl
    rw [e0]
    clear q2 q4 q5 p2 p4 p5 e0 q2e q4e p2e p4e q1 q3 p1 p3 ih m5
    cases hn : e1.nm == e2.nm with
    | false =>
      clear H37 H38
      go_enter Tryz.func25, Tryz.ntmps25
      go_wp2_with fail
      go_ret
      exact ⟨rfl, hw0 _ _⟩
    | true =>
      have hn' : e1.nm = e2.nm := eq_of_beq hn
      cases ht : e1.text == e2.text with
      | false =>
        clear H37 H38 hn
        go_enter Tryz.func25, Tryz.ntmps25
        go_wp2_with fail
        go_ret
        exact ⟨rfl, hw0 _ _⟩
      | true =>
        have ht' : e1.text = e2.text := eq_of_beq ht
        cases ha : e1.attrs == e2.attrs with
        | false =>
          rw [ha] at H37
          clear H38 hn ht ha
          go_enter Tryz.func25, Tryz.ntmps25
          go_wp2_with (go_at_call 26; refine (H37 _ (hw0 _ _)).mono ?_; rintro e w2 ⟨rfl, hb2⟩)
          go_ret
          exact ⟨rfl, (hw0 _ _).trans (hb2.mono (by simp; omega))⟩
        | true =>
          rw [ha] at H37
          obtain ⟨r, hr⟩ : ∃ r, sameK (sameE k) e1.kids e2.kids = r := ⟨_, rfl⟩
          rw [hr] at H38 ⊢
          clear hn ht ha hr
          go_enter Tryz.func25, Tryz.ntmps25
          go_wp2_with (first | (go_at_call 26; refine (H37 _ (hw0 _ _)).mono ?_; rintro e w2 ⟨rfl, hb2⟩; obtain ⟨hc2, _⟩ := bcell hb2; have hz2 := hb2.size; simp at hz2; have b2 := (hw0 _ _).trans (hb2.mono (by simp; omega)); have hcc := (b2.cell (p := ⟨c, 0, none⟩) hcl).trans hc) | (go_at_call 27; refine (H38 _ b2).mono ?_; rintro e w3 ⟨rfl, hb3⟩))
          go_ret
          exact ⟨by cases r <;> rfl, b2.trans (hb3.mono b2.size)⟩
set_option maxHeartbeats 1000000 in
set_option maxRecDepth 100000 in
theorem same_any {P : Nat → Prop} (k : Nat) (e1 e2 : El) (s1 s2 t1 t2 : ByteArray) (a1 a2 b1 b2 : Option Addr) (n1 n2 m1 m2 c1 c2 d1 d2 : Nat) (w : World) (hsm : smallE k e1)
    (hE1 : ElAt P w k e1 (.string s1) (.slice a1 n1 c1) (.string s2) (.slice a2 n2 c2)) (hE2 : ElAt P w k e2 (.string t1) (.slice b1 m1 d1) (.string t2) (.slice b2 m2 d2)) :
    Calls Tryz.prog 11 #[.agg #[.string s1, .slice a1 n1 c1, .string s2, .slice a2 n2 c2], .agg #[.string t1, .slice b1 m1 d1, .string t2, .slice b2 m2 d2]] w fun e w' => e = .returned (.bool (sameE k e1 e2)) ∧ Below w.heap.size w w' := by
  have hb : ∀ o1 o2 o3, Below w.heap.size w (((w.alloc o1).alloc o2).alloc o3) := fun o1 o2 o3 => (((Below.refl _ _).alloc (Nat.le_refl _) o1).alloc (by simp) o2).alloc (by simp; omega) o3
  have hcell : ∀ o1 o2 : Obj, (((w.alloc o1).alloc o2).alloc (.cells #[.func (.func 25) #[] #[.pointer (some ⟨w.heap.size + 2, 0, none⟩)]] 36)).cell? ⟨w.heap.size + 2, 0, none⟩ = some (.func (.func 25) #[] #[.pointer (some ⟨w.heap.size + 2, 0, none⟩)]) := fun o1 o2 => by
    have h := heap_alloc_new ((w.alloc o1).alloc o2) (.cells #[.func (.func 25) #[] #[.pointer (some ⟨w.heap.size + 2, 0, none⟩)]] 36)
    have e : ((w.alloc o1).alloc o2).heap.size = w.heap.size + 2 := by simp
    rw [e] at h
    unfold World.cell?
    rw [h]
    rfl
  have H := fun o1 o2 => sameC_any (w.heap.size + 2) k e1 e2 s1 s2 t1 t2 a1 a2 b1 b2 n1 n2 m1 m2 c1 c2 d1 d2 (((w.alloc o1).alloc o2).alloc (.cells #[.func (.func 25) #[] #[.pointer (some ⟨w.heap.size + 2, 0, none⟩)]] 36)) (hcell o1 o2) hsm (hE1.step (row_below (hb _ _ _))) (hE2.step (row_below (hb _ _ _)))
  obtain ⟨r, hr⟩ : ∃ r, sameE k e1 e2 = r := ⟨_, rfl⟩
  rw [hr] at H ⊢
  clear hE1 hE2 hsm hr hcell
  have hmf : ∀ (fn : Fn) (first cap : Array Value) (w : World), (Instr.makeFunc fn first cap).run Tryz.prog w = .ok (.func fn first cap) w := fun _ _ _ _ => rfl
  go_enter Tryz.func11, Tryz.ntmps11
  go_wp2_with (go_at_call 25; refine (H _ _).mono ?_; rintro e w5 ⟨rfl, hb5⟩)
  go_ret
  exact ⟨rfl, (hb _ _ _).trans (hb5.mono (by simp; omega))⟩
theorem same_self : ∀ (k m : Nat) (P : Nat → Prop) (w : World) (e : El) (a b c d : Value), ElAt P w m e a b c d → m ≤ k → sameE k e e = true
  | _, 0, _, _, _, _, _, _, _, h, _ => h.elim
  | 0, _ + 1, _, _, _, _, _, _, _, _, hk => by omega
  | k + 1, m + 1, P, w, e, _, _, _, _, ⟨_, _, _, xs, _, q5⟩, hk => by
    have hall : ∀ {l : List El} {ys : List Value}, KidsAt (ElAt P w m) l ys → sameK (sameE k) l l = true := fun {l} => by
      induction l with
      | nil => intro _ _; rfl
      | cons x l ih =>
        intro ys hk'
        obtain ⟨a, b, c, d, zs, _, r1, r2⟩ := hk'
        unfold sameK
        rw [same_self k m P w x a b c d r1 (by omega), ih r2]
        rfl
    unfold sameE
    rw [hall q5]
    simp
end Go.Proofs.YthekdgnikkjpdaaGreatDoor
