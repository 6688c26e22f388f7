/-
  The contracts of trees.Attr, of the tests of texts, and of any test's call, over this program.
-/
import Derived.Test.YtmmkfpeckfmjeaaDoorTxa
import Derived.Test.YtmmkfpeckfmjeaaDoorShz
namespace Go.Proofs.YtmmkfpeckfmjeaaDoor
open Go Go.RowKit
theorem bytes_neq2 {a b : List UInt8} (h : (a == b) = false) : ((⟨a.toArray⟩ : ByteArray).toList == (⟨b.toArray⟩ : ByteArray).toList) = false ∧ ¬ (⟨a.toArray⟩ : ByteArray).toList = (⟨b.toArray⟩ : ByteArray).toList := by
  have h1 := (bytes_beq a b).trans h
  exact ⟨h1, beq_eq_false_iff_ne.1 h1⟩
theorem attrN_drop {nm : List UInt8} {l : List (List UInt8 × List UInt8)} {j : Nat} {p : List UInt8 × List UInt8} (h : l[j]? = some p) : attrN (l.drop j) nm = if p.1 == nm then some p.2 else attrN (l.drop (j + 1)) nm := by
  obtain ⟨a, rfl⟩ := List.getElem?_eq_some_iff.1 h
  rw [List.drop_eq_getElem_cons a]
  rfl
def atV (o : Option (List UInt8)) : ByteArray := ⟨(o.getD []).toArray⟩
set_option maxHeartbeats 2000000 in
set_option maxRecDepth 100000 in
theorem attr_any {P : Nat → Prop} (x : El) (nm : List UInt8) (a b c d : Value) (w : World) (h1 : ElE P w x a b c d) (hl1 : x.attrs.length ≤ 1000000000000) (v : ByteArray) (ok : Bool) (hv : atV (attrN x.attrs nm) = v) (hok : (attrN x.attrs nm).isSome = ok) :
    Calls Tryd.prog 61 #[.agg #[a, b, c, d], .string ⟨nm.toArray⟩] w fun e w' => e = .returned (.tuple #[.string v, .bool ok]) ∧ Below w.heap.size w w' := by
  obtain ⟨ao1, cap1, ao2, cap2, rfl, rfl⟩ := h1.shape
  obtain ⟨rfl, hr1, rfl, xs, hk1, hks1⟩ := h1.parts
  obtain ⟨s1, hs1⟩ : ∃ s1, (⟨x.nm.toArray⟩ : ByteArray) = s1 := ⟨_, rfl⟩
  obtain ⟨s2, hs2⟩ : ∃ s2, (⟨x.text.toArray⟩ : ByteArray) = s2 := ⟨_, rfl⟩
  obtain ⟨n1, hn1⟩ : ∃ n1, x.attrs.length = n1 := ⟨_, rfl⟩
  obtain ⟨n2, hn2⟩ : ∃ n2, x.kids.length = n2 := ⟨_, rfl⟩
  obtain ⟨N, hN⟩ : ∃ N, (⟨nm.toArray⟩ : ByteArray) = N := ⟨_, rfl⟩
  rw [hn1] at hl1 hr1
  rw [hs1, hs2, hn1, hn2, hN]
  have R1 : Hid (Row _ _ _ _ _) := hr1
  have HN1 : Hid _ := hn1
  have HNN : Hid ((⟨nm.toArray⟩ : ByteArray) = N) := hN
  have HV : Hid (atV (attrN x.attrs nm) = v) := hv
  have HOK : Hid ((attrN x.attrs nm).isSome = ok) := hok
  obtain ⟨B, hB⟩ : ∃ B, w.heap.size = B := ⟨_, rfl⟩
  have HBz : Hid (w.heap.size = B) := hB
  clear h1 hr1 hk1 hks1 hs1 hs2 hn1 hn2 hN hv hok
  go_enter Tryd.func61, Tryd.ntmps61
  go_wp2_with fail
  clear hB
  go_loopw [4, 5, 7, 11] (fun _ _ _ i wr => ∃ j : Nat, j ≤ n1 ∧ i = .int .i64 (j : Int) ∧ Hid (attrN (x.attrs.drop j) nm = attrN x.attrs nm) ∧ Hid (Below w.heap.size w wr)) (fun _ _ _ i _ => n1 - (intOf i).toNat)
  case atStart => exact ⟨0, Nat.zero_le _, rfl, rfl, (Below.refl _ w).alloc (Nat.le_refl _) _⟩
  case round =>
    obtain ⟨j, hj, rfl, HJ, HBW⟩ := hrel
    by_cases hlt : j < n1
    · obtain ⟨pr, hpr⟩ : ∃ pr, x.attrs[j]? = some pr := ⟨_, List.getElem?_eq_getElem (by rw [HN1.out]; exact hlt)⟩
      obtain ⟨g0, g1⟩ := pair_get x.attrs j pr hpr
      obtain ⟨ga, oa, rfl, hga, hca⟩ := row_flat2 R1.out g0
      have ca : ∀ i v, (pairCells x.attrs)[i]? = some v → wr.cell? ⟨ga, oa + i, none⟩ = some v := fun i v hv => (HBW.out.cell (p := ⟨ga, oa + i, none⟩) hga).trans (hca i v hv)
      have a0 := ca _ _ g0
      have a1 := ca _ _ g1
      rw [← Nat.add_assoc] at a1
      have hj0 : (0 : Int) ≤ (j : Int) := by omega
      have hj1 : (j : Int) < (n1 : Int) := by omega
      have hst := attrN_drop (nm := nm) hpr
      cases hpq : pr.1 == nm with
      | true =>
        have hpn := eq_of_beq hpq
        rw [hpq, if_pos rfl] at hst
        have HE : Hid (some pr.2 = attrN x.attrs nm) := hst.symm.trans HJ.out
        have HV2 : Hid ((⟨pr.2.toArray⟩ : ByteArray) = v) := by
          show _ = _
          rw [← HV.out, ← HE.out]
          rfl
        obtain rfl : true = ok := by rw [← HOK.out, ← HE.out]; rfl
        rw [hpn, HNN.out] at a0
        rw [HV2.out] at a1
        clear ca hca g0 g1 hpr hst hpq hpn
        go_wp2_with fail
        go_ret2
        exact ⟨rfl, HBW.out.alloc HBW.out.size _⟩
      | false =>
        rw [hpq, if_neg (by decide)] at hst
        have HJ' : Hid (attrN (x.attrs.drop (j + 1)) nm = attrN x.attrs nm) := hst.symm.trans HJ.out
        obtain ⟨e1, e2⟩ := bytes_neq2 hpq
        rw [HNN.out] at e1 e2
        obtain ⟨q1, hq1⟩ : ∃ q1, (⟨pr.1.toArray⟩ : ByteArray) = q1 := ⟨_, rfl⟩
        obtain ⟨q2, hq2⟩ : ∃ q2, (⟨pr.2.toArray⟩ : ByteArray) = q2 := ⟨_, rfl⟩
        rw [hq1] at a0 e1 e2
        rw [hq2] at a1
        clear ca hca g0 g1 hpr hst hpq hq1 hq2
        go_wp2_with fail
        go_roundw
        case rel => exact ⟨j + 1, by omega, by go_num, HJ', HBW.out.alloc HBW.out.size _⟩
        case measure => simp [intOf]; omega
    · have hj1 : ¬ (j : Int) < (n1 : Int) := by omega
      have HE : Hid (none = attrN x.attrs nm) := by
        show _ = _
        rw [← HJ.out, List.drop_of_length_le (by rw [HN1.out]; omega)]
        rfl
      obtain rfl : false = ok := by rw [← HOK.out, ← HE.out]; rfl
      obtain rfl : (⟨#[]⟩ : ByteArray) = v := by rw [← HV.out, ← HE.out]; rfl
      go_wp2_with fail
      go_ret2
      exact ⟨rfl, HBW.out⟩
/-- What the listed variables hold. -/
structure Va (w : World) : Prop where
  e : Env w
  t : Tabs w
theorem Va.below {w w' : World} (h : Va w) (hb : Below w.heap.size w w') : Va w' := ⟨h.e.below hb, h.t.below h.t.size hb⟩
set_option maxHeartbeats 1000000 in
set_option maxRecDepth 100000 in
theorem word_any (s : ByteArray) (hs : s.size ≤ 35184372088832) (w : World) (hV : Va w) : Calls Tryd.prog 36 #[.string s] w fun e w' => e = .returned (.bool (wordN s.data.toList)) ∧ Below w.heap.size w w' := by
  have hlen := size_list s
  have HR := right_any s w hV.t hs
  unfold wordN
  rw [← hlen]
  unfold rightN at HR
  obtain ⟨b, hb⟩ : ∃ b, right s.data.toList = b := ⟨_, rfl⟩
  rw [hb] at HR ⊢
  clear hlen hb hV hs
  by_cases h1 : 1 ≤ s.size
  · rw [decide_eq_true h1, Bool.true_and]
    have g1 : (1 : Int) ≤ (s.size : Int) := by omega
    by_cases h2 : s.size ≤ 40
    · rw [decide_eq_true h2, Bool.true_and]
      have g2 : (s.size : Int) ≤ 40 := by omega
      cases b <;> (
        simp only [if_true, Bool.false_eq_true, if_false] at HR
        go_enter Tryd.func36, Tryd.ntmps36
        go_wp2_with (go_at_call 58; refine HR.mono ?_; rintro e w1 ⟨rfl, hb1⟩)
        go_ret
        exact ⟨rfl, hb1⟩)
    · rw [decide_eq_false h2, Bool.false_and]
      have g2 : ¬ (s.size : Int) ≤ 40 := by omega
      clear HR
      go_enter Tryd.func36, Tryd.ntmps36
      go_wp2_with fail
      go_ret
      exact ⟨rfl, Below.refl _ _⟩
  · rw [decide_eq_false h1, Bool.false_and]
    have g1 : ¬ (1 : Int) ≤ (s.size : Int) := by omega
    clear HR
    go_enter Tryd.func36, Tryd.ntmps36
    go_wp2_with fail
    go_ret
    exact ⟨rfl, Below.refl _ _⟩
set_option maxHeartbeats 1000000 in
set_option maxRecDepth 100000 in
theorem num_any (s : ByteArray) (hs : s.size ≤ 35184372088832) (w : World) (hV : Va w) : Calls Tryd.prog 35 #[.string s] w fun e w' => e = .returned (.bool (numN s.data.toList)) ∧ Below w.heap.size w w' := by
  unfold numN
  cases hr : readN s.data.toList with
  | none =>
    have H := read_none s hr (by omega) w hV.e
    clear hr hV hs
    go_enter Tryd.func35, Tryd.ntmps35
    go_wp2_with (go_at_call 57; refine H.mono ?_; rintro e w1 ⟨rfl, hb1⟩)
    go_ret
    exact ⟨rfl, hb1⟩
  | some u =>
    have H := read_some s u hr (by omega) w hV.e
    clear hr hV hs
    go_enter Tryd.func35, Tryd.ntmps35
    go_wp2_with (go_at_call 57; refine H.mono ?_; rintro e w1 ⟨rfl, hb1⟩)
    go_ret
    exact ⟨rfl, hb1⟩
set_option maxHeartbeats 1000000 in
set_option maxRecDepth 100000 in
theorem ver_any (s : ByteArray) (hs : s.size ≤ 35184372088832) (w : World) (hV : Va w) : Calls Tryd.prog 33 #[.string s] w fun e w' => e = .returned (.bool (verN s.data.toList)) ∧ Below w.heap.size w w' := by
  unfold verN
  cases hr : readN s.data.toList with
  | none =>
    have H := read_none s hr (by omega) w hV.e
    clear hr hV hs
    go_enter Tryd.func33, Tryd.ntmps33
    go_wp2_with (go_at_call 57; refine H.mono ?_; rintro e w1 ⟨rfl, hb1⟩)
    go_ret
    exact ⟨rfl, hb1⟩
  | some u =>
    have H := read_some s u hr (by omega) w hV.e
    simp only
    clear hr hV hs
    by_cases h1 : 1 ≤ u
    · rw [decide_eq_true h1, Bool.true_and]
      have g1 : (1 : Int) ≤ (u : Int) := by omega
      by_cases h2 : u ≤ 1000000
      · rw [decide_eq_true h2]
        have g2 : (u : Int) ≤ 1000000 := by omega
        go_enter Tryd.func33, Tryd.ntmps33
        go_wp2_with (go_at_call 57; refine H.mono ?_; rintro e w1 ⟨rfl, hb1⟩)
        go_ret
        exact ⟨rfl, hb1⟩
      · rw [decide_eq_false h2]
        have G2 : Hid (decide ((u : Int) ≤ 1000000) = false) := decide_eq_false (by omega)
        go_enter Tryd.func33, Tryd.ntmps33
        go_wp2_with (go_at_call 57; refine H.mono ?_; rintro e w1 ⟨rfl, hb1⟩)
        go_ret
        exact ⟨by show Ending.returned (.bool (decide ((u : Int) ≤ 1000000))) = _; rw [G2.out], hb1⟩
    · rw [decide_eq_false h1, Bool.false_and]
      have g1 : ¬ (1 : Int) ≤ (u : Int) := by omega
      go_enter Tryd.func33, Tryd.ntmps33
      go_wp2_with (go_at_call 57; refine H.mono ?_; rintro e w1 ⟨rfl, hb1⟩)
      go_ret
      exact ⟨rfl, hb1⟩
set_option maxHeartbeats 1000000 in
set_option maxRecDepth 100000 in
theorem addr_any (s : ByteArray) (hs : s.size ≤ 35184372088832) (w : World) : Calls Tryd.prog 41 #[.string s] w fun e w' => e = .returned (.bool (addrOk s.data.toList)) ∧ Below w.heap.size w w' := by
  have H := address_any s (by omega) w
  unfold addrR at H
  cases hb : addrOk s.data.toList <;> (
    rw [hb] at H
    first
      | rw [if_pos rfl] at H
      | rw [if_neg (by decide)] at H
    clear hb hs
    go_enter Tryd.func41, Tryd.ntmps41
    go_wp2_with (go_at_call 12; refine H.mono ?_; rintro e w1 ⟨rfl, hb1⟩)
    go_ret
    exact ⟨rfl, hb1⟩)
/-- A test of texts, called. -/
theorem tst_call {P : Nat → Prop} {w : World} {F : Nat} {cap : Array Value} {p : List UInt8 → Bool} (h : TstAt P w (.func (.func F) #[] cap) p) (hV : Va w) (x : List UInt8) (hx : x.length ≤ 35184372088832) :
    (∀ args W, (callFunc F args).run Tryd.prog W = .ok (.enter F args) W) ∧ Calls Tryd.prog F (#[.string ⟨x.toArray⟩] ++ cap) w fun e w' => e = .returned (.bool (p x)) ∧ Below w.heap.size w w' := by
  have hs : (⟨x.toArray⟩ : ByteArray).size ≤ 35184372088832 := hx
  have hd : (⟨x.toArray⟩ : ByteArray).data.toList = x := rfl
  have ne : ∀ {fn : Func}, (fn.name == "runtime.NumGoroutine") = false → ¬ fn.name = "runtime.NumGoroutine" := fun h => by simpa using h
  have nb : ∀ {fn : Func}, fn.body.isSome = true → ¬ fn.body = none := fun h e => by rw [e] at h; cases h
  rcases h with ⟨e, rfl⟩ | ⟨e, rfl⟩ | ⟨e, rfl⟩ | ⟨e, rfl⟩ | ⟨e, rfl⟩ | ⟨c, l, e, rfl, ho⟩ <;> cases e
  · exact ⟨run_enter Tryd.func14 (ne (by kernel_rfl)) (nb (by kernel_rfl)), by have := user_any ⟨x.toArray⟩ w; rw [hd] at this; exact this⟩
  · exact ⟨run_enter Tryd.func33 (ne (by kernel_rfl)) (nb (by kernel_rfl)), by have := ver_any ⟨x.toArray⟩ hs w hV; rw [hd] at this; exact this⟩
  · exact ⟨run_enter Tryd.func35 (ne (by kernel_rfl)) (nb (by kernel_rfl)), by have := num_any ⟨x.toArray⟩ hs w hV; rw [hd] at this; exact this⟩
  · exact ⟨run_enter Tryd.func36 (ne (by kernel_rfl)) (nb (by kernel_rfl)), by have := word_any ⟨x.toArray⟩ hs w hV; rw [hd] at this; exact this⟩
  · exact ⟨run_enter Tryd.func41 (ne (by kernel_rfl)) (nb (by kernel_rfl)), by have := addr_any ⟨x.toArray⟩ hs w; rw [hd] at this; exact this⟩
  · exact ⟨run_enter Tryd.func59 (ne (by kernel_rfl)) (nb (by kernel_rfl)), one_any c l x w ho⟩
end Go.Proofs.YtmmkfpeckfmjeaaDoor
