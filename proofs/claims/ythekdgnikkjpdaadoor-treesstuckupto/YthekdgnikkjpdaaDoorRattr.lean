/-
  The contract of tags.readAttr over this program: for every string of at most 100000 bytes.
-/
import Derived.Test.YthekdgnikkjpdaaDoorRtxt
namespace Go.Proofs.YthekdgnikkjpdaaDoor
open Go.RowKit
theorem cutZ_length (c : UInt8) (l : List UInt8) : (cutZ c l).length ≤ l.length - 1 := by
  unfold cutZ
  rw [List.length_drop]
  have := (List.dropWhile_sublist (p := (· != c)) (l := l)).length_le
  omega
theorem cutA_length (c : UInt8) (l : List UInt8) : (cutA c l).length ≤ l.length := (List.takeWhile_sublist _).length_le
/-- What a call that answers an attribute answers. -/
def attrV (a : (List UInt8 × List UInt8) × List UInt8 × Int) : Value := .tuple #[.agg #[.string ⟨a.1.1.toArray⟩, .string ⟨a.1.2.toArray⟩], .string ⟨a.2.1.toArray⟩, .int .i64 a.2.2]
theorem attr_name_no {l : List UInt8} (h : name (cutA 61 l) = false) : attrN l = (([], []), [], 3) := by unfold attrN; rw [h]; rfl
theorem attr_empty {l : List UInt8} (h : name (cutA 61 l) = true) (hz : cutZ 61 l = []) : attrN l = (([], []), [], 3) := by unfold attrN; rw [h, hz]; rfl
theorem attr_quo {l t : List UInt8} {q : UInt8} (h : name (cutA 61 l) = true) (hz : cutZ 61 l = q :: t) (hq : quo q = false) : attrN l = (([], []), [], 3) := by unfold attrN; rw [h, hz, if_pos rfl]; simp only [hq]; rfl
theorem attr_open {l t : List UInt8} {q : UInt8} (h : name (cutA 61 l) = true) (hz : cutZ 61 l = q :: t) (hq : quo q = true) (hb : cutB q t = false) : attrN l = (([], []), [], 3) := by unfold attrN; rw [h, hz, if_pos rfl]; simp only [hq, hb]; rfl
theorem attr_un {l t : List UInt8} {q : UInt8} {c : Int} {r : List UInt8} (h : name (cutA 61 l) = true) (hz : cutZ 61 l = q :: t) (hq : quo q = true) (hb : cutB q t = true) (hu : un (cutA q t) = (r, c)) (hc : c ≠ 0) : attrN l = (([], []), [], c) := by
  unfold attrN; rw [h, hz, if_pos rfl]; simp only [hq, hb, hu, if_true]; rw [if_neg hc]
theorem attr_yes {l t : List UInt8} {q : UInt8} {r : List UInt8} (h : name (cutA 61 l) = true) (hz : cutZ 61 l = q :: t) (hq : quo q = true) (hb : cutB q t = true) (hu : un (cutA q t) = (r, 0)) : attrN l = ((cutA 61 l, r), cutZ q t, 0) := by
  unfold attrN; rw [h, hz, if_pos rfl]; simp only [hq, hb, hu, if_true]
theorem bcells {W w1 : World} (hb : Below W.heap.size W w1) : (∀ b o, b < W.heap.size → w1.cell? ⟨b, o, none⟩ = W.cell? ⟨b, o, none⟩) ∧ (∀ b o, b < W.heap.size → w1.frozen? ⟨b, o, none⟩ = W.frozen? ⟨b, o, none⟩) :=
  ⟨fun b o h => hb.cell (p := ⟨b, o, none⟩) h, fun b o h => hb.frozen (p := ⟨b, o, none⟩) h⟩
theorem below_new (w : World) (o : Obj) (n : Nat) : Below w.heap.size w ((w.alloc o).drewN n) := ⟨rfl, rfl, rfl, by simp, fun k hk => Below.heap_alloc _ _ _ hk⟩
set_option maxHeartbeats 2000000 in
theorem readAttr_name_no (s : ByteArray) (w : World) (hs : s.size ≤ 2000000) (hn : name (cutA 61 s.data.toList) = false) :
    Calls Tryd.prog 101 #[.string s] w fun e w' => e = .returned (attrV (([], []), [], 3)) ∧ Below w.heap.size w w' := by
  have hC := fun W => cut_any s 61 W hs
  have hN := fun W => name_at ⟨(cutA 61 s.data.toList).toArray⟩ false hn W
  clear hn
  go_enter Tryd.func101, Tryd.ntmps101
  go_wp2_with (go_at_call 103; refine (hC _).mono ?_)
  rintro e w1 ⟨rfl, n, rfl⟩
  go_wp2_with (go_at_call 46; refine (hN _).mono ?_)
  rintro e w2 ⟨rfl, hb2⟩
  obtain ⟨hc, hf⟩ := bcells hb2
  have hz : w.heap.size < w2.heap.size := by have := hb2.size; simp at this; omega
  have hB := (below_new w _ n).trans (hb2.mono (by simp))
  go_wp2
  exact bodyPost_ret (v := attrV (([], []), [], 3)) (by simp [results, Tryd.results101, go_sem, hc, attrV]) rfl ⟨rfl, (hB.setCell (p := ⟨w.heap.size, 0, none⟩) (Nat.le_refl _) _).setCell (p := ⟨w.heap.size, 1, none⟩) (Nat.le_refl _) _⟩
set_option maxHeartbeats 2000000 in
theorem readAttr_empty (s : ByteArray) (w : World) (hs : s.size ≤ 2000000) (hn : name (cutA 61 s.data.toList) = true) (hr : cutZ 61 s.data.toList = []) :
    Calls Tryd.prog 101 #[.string s] w fun e w' => e = .returned (attrV (([], []), [], 3)) ∧ Below w.heap.size w w' := by
  have hC := fun W => cut_any s 61 W hs
  have hN := fun W => name_at ⟨(cutA 61 s.data.toList).toArray⟩ true hn W
  rw [hr] at hC
  clear hn hr
  go_enter Tryd.func101, Tryd.ntmps101
  go_wp2_with (go_at_call 103; refine (hC _).mono ?_)
  rintro e w1 ⟨rfl, n, rfl⟩
  go_wp2_with (go_at_call 46; refine (hN _).mono ?_)
  rintro e w2 ⟨rfl, hb2⟩
  obtain ⟨hc, hf⟩ := bcells hb2
  have hz : w.heap.size < w2.heap.size := by have := hb2.size; simp at this; omega
  have hB := (below_new w _ n).trans (hb2.mono (by simp))
  go_wp2
  exact bodyPost_ret (v := attrV (([], []), [], 3)) (by simp [results, Tryd.results101, go_sem, hc, attrV]) rfl ⟨rfl, (hB.setCell (p := ⟨w.heap.size, 0, none⟩) (Nat.le_refl _) _).setCell (p := ⟨w.heap.size, 1, none⟩) (Nat.le_refl _) _⟩
/-- A text with a first byte: what the walk asks of it. -/
theorem rest_is (q : UInt8) (t : List UInt8) : ∃ R : ByteArray, (⟨(q :: t).toArray⟩ : ByteArray) = R ∧ R.toList.isEmpty = false ∧ ∃ h : 0 < R.size, R[0]'h = q ∧ R.extract 0 1 = ⟨#[q]⟩ ∧ R.extract 1 R.size = ⟨t.toArray⟩ := by
  refine ⟨_, rfl, ?_, by simp [ByteArray.size], rfl, ?_, ?_⟩
  · rw [Lib.toList_data]; rfl
  · exact mk_of_list (by rw [take_list]; rfl)
  · exact mk_of_list (by rw [Lib.extract_data]; exact List.take_of_length_le (by simp [ByteArray.size]))
theorem quo_yes {q : UInt8} (h : quo q = true) : ((q.toNat : Int) = 34 ∨ (q.toNat : Int) = 39) := by
  simp [quo] at h
  rcases h with rfl | rfl
  · exact .inl rfl
  · exact .inr rfl
theorem quo_no {q : UInt8} (h : quo q = false) : ¬ (q.toNat : Int) = 34 ∧ ((q.toNat : Int) != 34) = true ∧ ((q.toNat : Int) != 39) = true := by
  simp [quo, ← UInt8.toNat_inj] at h
  simp
  omega
set_option maxHeartbeats 2000000 in
theorem readAttr_quo (s : ByteArray) (w : World) (hs : s.size ≤ 2000000) (hn : name (cutA 61 s.data.toList) = true) (q : UInt8) (t : List UInt8) (hr : cutZ 61 s.data.toList = q :: t) (hq : quo q = false) :
    Calls Tryd.prog 101 #[.string s] w fun e w' => e = .returned (attrV (([], []), [], 3)) ∧ Below w.heap.size w w' := by
  have hC := fun W => cut_any s 61 W hs
  have hN := fun W => name_at ⟨(cutA 61 s.data.toList).toArray⟩ true hn W
  rw [hr] at hC
  obtain ⟨R, hR, he, h0, hR0, _⟩ := rest_is q t
  rw [hR] at hC
  obtain ⟨q1, q2, q3⟩ := quo_no hq
  clear hn hr hR hq
  go_enter Tryd.func101, Tryd.ntmps101
  go_wp2_with (go_at_call 103; refine (hC _).mono ?_)
  rintro e w1 ⟨rfl, n, rfl⟩
  go_wp2_with (go_at_call 46; refine (hN _).mono ?_)
  rintro e w2 ⟨rfl, hb2⟩
  obtain ⟨hc, hf⟩ := bcells hb2
  have hz : w.heap.size < w2.heap.size := by have := hb2.size; simp at this; omega
  have hB := (below_new w _ n).trans (hb2.mono (by simp))
  go_wp2
  exact bodyPost_ret (v := attrV (([], []), [], 3)) (by simp [results, Tryd.results101, go_sem, hc, attrV]) rfl ⟨rfl, (hB.setCell (p := ⟨w.heap.size, 0, none⟩) (Nat.le_refl _) _).setCell (p := ⟨w.heap.size, 1, none⟩) (Nat.le_refl _) _⟩
theorem new_heap {w w' : World} {cs : Array Value} {T : TypeId} {n : Nat} (hb : Below ((w.alloc (.cells cs T)).drewN n).heap.size ((w.alloc (.cells cs T)).drewN n) w') : w'.heap[w.heap.size]? = some (.cells cs T (0, 0)) :=
  (hb.block w.heap.size (by simp)).trans (heap_alloc_new w _)
theorem Below.drewN {B : Nat} {a w : World} (h : Below B a w) (n : Nat) : Below B a (w.drewN n) := ⟨h.os, h.tape, h.output, h.size, h.block⟩
set_option maxHeartbeats 2000000 in
theorem readAttr_open (s : ByteArray) (w : World) (hs : s.size ≤ 2000000) (hn : name (cutA 61 s.data.toList) = true) (q : UInt8) (t : List UInt8) (hr : cutZ 61 s.data.toList = q :: t) (hq : quo q = true) (hb : cutB q t = false) :
    Calls Tryd.prog 101 #[.string s] w fun e w' => e = .returned (attrV (([], []), [], 3)) ∧ Below w.heap.size w w' := by
  have hC := fun W => cut_any s 61 W hs
  have hN := fun W => name_at ⟨(cutA 61 s.data.toList).toArray⟩ true hn W
  have hlt : (⟨t.toArray⟩ : ByteArray).size ≤ 2000000 := by
    have h1 := cutZ_length 61 s.data.toList
    rw [hr, ← size_list] at h1
    have h2 : (⟨t.toArray⟩ : ByteArray).size = t.length := by rw [size_list]
    rw [h2]
    rw [List.length_cons] at h1
    omega
  have hD := fun W => cut_any ⟨t.toArray⟩ q W hlt
  rw [hr] at hC
  obtain ⟨R, hR, he, h0, hR0, hR1, hR2⟩ := rest_is q t
  rw [hR] at hC
  rw [show cutB q (⟨t.toArray⟩ : ByteArray).data.toList = _ from hb] at hD
  have hqq : q = 34 ∨ q = 39 := by simpa [quo] using hq
  clear hn hr hR hq hb
  rcases hqq with rfl | rfl
  all_goals
    go_enter Tryd.func101, Tryd.ntmps101
    go_wp2_with (first | (go_at_call 103; refine (hC _).mono ?_; rintro e w1 ⟨rfl, n, rfl⟩) | (go_at_call 46; refine (hN _).mono ?_; rintro e w2 ⟨rfl, hb2⟩; obtain ⟨hc, hf⟩ := bcells hb2; have hz : w.heap.size < w2.heap.size := (by have := hb2.size; simp at this; omega); have hB := (below_new w _ n).trans (hb2.mono (by simp))))
    go_quiet ((go_at_call 103; exact Calls.quiet_of (hD _)))
    go_wp2
    exact bodyPost_ret (v := attrV (([], []), [], 3)) (by simp [results, Tryd.results101, go_sem, hc, attrV]) rfl ⟨rfl, ((Below.drewN hB nq).setCell (p := ⟨w.heap.size, 0, none⟩) (Nat.le_refl _) _).setCell (p := ⟨w.heap.size, 1, none⟩) (Nat.le_refl _) _⟩
set_option maxHeartbeats 2000000 in
theorem readAttr_un (s : ByteArray) (w : World) (hT : Tabs w) (hs : s.size ≤ 2000000) (hn : name (cutA 61 s.data.toList) = true) (q : UInt8) (t : List UInt8) (hr : cutZ 61 s.data.toList = q :: t) (hq : quo q = true) (hb : cutB q t = true) (c : Int) (r : List UInt8) (hu : un (cutA q t) = (r, c)) (hc0 : (c == 0) = false) :
    Calls Tryd.prog 101 #[.string s] w fun e w' => e = .returned (attrV (([], []), [], c)) ∧ Below w.heap.size w w' := by
  have hC := fun W => cut_any s 61 W hs
  have hN := fun W => name_at ⟨(cutA 61 s.data.toList).toArray⟩ true hn W
  have hlt : (⟨t.toArray⟩ : ByteArray).size ≤ 2000000 := by
    have h1 := cutZ_length 61 s.data.toList
    rw [hr, ← size_list] at h1
    have h2 : (⟨t.toArray⟩ : ByteArray).size = t.length := by rw [size_list]
    rw [h2]
    rw [List.length_cons] at h1
    omega
  have hD := fun W => cut_any ⟨t.toArray⟩ q W hlt
  have hlu : (⟨(cutA q t).toArray⟩ : ByteArray).size ≤ 2000000 := by
    have h1 := cutA_length q t
    have h2 : (⟨(cutA q t).toArray⟩ : ByteArray).size = (cutA q t).length := by rw [size_list]
    have h3 : (⟨t.toArray⟩ : ByteArray).size = t.length := by rw [size_list]
    omega
  have hU := fun W hW => unescape_un ⟨(cutA q t).toArray⟩ r c hu W hW hlu
  have hT3 := hT.size
  rw [hr] at hC
  obtain ⟨R, hR, he, h0, hR0, hR1, hR2⟩ := rest_is q t
  rw [hR] at hC
  rw [show cutB q (⟨t.toArray⟩ : ByteArray).data.toList = _ from hb] at hD
  have hqq : q = 34 ∨ q = 39 := by simpa [quo] using hq
  clear hn hr hR hq hb
  rcases hqq with rfl | rfl
  all_goals
    go_enter Tryd.func101, Tryd.ntmps101
    go_wp2_with (first | (go_at_call 103; refine (hC _).mono ?_; rintro e w1 ⟨rfl, n, rfl⟩) | (go_at_call 46; refine (hN _).mono ?_; rintro e w2 ⟨rfl, hb2⟩; obtain ⟨hc, hf⟩ := bcells hb2; have hz : w.heap.size < w2.heap.size := (by have := hb2.size; simp at this; omega); have hB := (below_new w _ n).trans (hb2.mono (by simp))))
    go_quiet ((go_at_call 103; exact Calls.quiet_of (hD _)))
    have hB2 := Below.drewN hB nq
    have hT2 := hT.below hT3 hB2
    go_wp2_with (go_at_call 77; refine (hU _ hT2).mono ?_)
    rintro e w3 ⟨rfl, hb3⟩
    have hk2 := new_heap hb2
    have hk3 : w3.heap[w.heap.size]? = _ := (hb3.block w.heap.size hz).trans hk2
    have c0 : w3.cell? ⟨w.heap.size, 0, none⟩ = some (.string ⟨#[]⟩) := by rw [Lib.cell_of_heap hk3]; rfl
    have c1 : w3.cell? ⟨w.heap.size, 1, none⟩ = some (.string ⟨#[]⟩) := by rw [Lib.cell_of_heap hk3]; rfl
    have f0 : w3.frozen? ⟨w.heap.size, 0, none⟩ = false := Lib.frozen_of_heap hk3 0
    have f1 : w3.frozen? ⟨w.heap.size, 1, none⟩ = false := Lib.frozen_of_heap hk3 1
    clear hk3 hk2
    have hB3 := hB2.trans (hb3.mono (by simp; omega))
    have hz3 : w.heap.size < w3.heap.size := by have := hb3.size; simp at this; omega
    go_wp2
    exact bodyPost_ret (v := attrV (([], []), [], c)) (by simp [results, Tryd.results101, go_sem, c0, c1, attrV]) rfl ⟨rfl, (hB3.setCell (p := ⟨w.heap.size, 0, none⟩) (Nat.le_refl _) _).setCell (p := ⟨w.heap.size, 1, none⟩) (Nat.le_refl _) _⟩
set_option maxHeartbeats 2000000 in
theorem readAttr_yes (s : ByteArray) (w : World) (hT : Tabs w) (hs : s.size ≤ 2000000) (hn : name (cutA 61 s.data.toList) = true) (q : UInt8) (t : List UInt8) (hr : cutZ 61 s.data.toList = q :: t) (hq : quo q = true) (hb : cutB q t = true) (r : List UInt8) (hu : un (cutA q t) = (r, 0)) :
    Calls Tryd.prog 101 #[.string s] w fun e w' => e = .returned (attrV ((cutA 61 s.data.toList, r), cutZ q t, 0)) ∧ Below w.heap.size w w' := by
  have hC := fun W => cut_any s 61 W hs
  have hN := fun W => name_at ⟨(cutA 61 s.data.toList).toArray⟩ true hn W
  have hlt : (⟨t.toArray⟩ : ByteArray).size ≤ 2000000 := by
    have h1 := cutZ_length 61 s.data.toList
    rw [hr, ← size_list] at h1
    have h2 : (⟨t.toArray⟩ : ByteArray).size = t.length := by rw [size_list]
    rw [h2]
    rw [List.length_cons] at h1
    omega
  have hD := fun W => cut_any ⟨t.toArray⟩ q W hlt
  have hlu : (⟨(cutA q t).toArray⟩ : ByteArray).size ≤ 2000000 := by
    have h1 := cutA_length q t
    have h2 : (⟨(cutA q t).toArray⟩ : ByteArray).size = (cutA q t).length := by rw [size_list]
    have h3 : (⟨t.toArray⟩ : ByteArray).size = t.length := by rw [size_list]
    omega
  have hU := fun W hW => unescape_un ⟨(cutA q t).toArray⟩ r 0 hu W hW hlu
  have hT3 := hT.size
  rw [hr] at hC
  obtain ⟨R, hR, he, h0, hR0, hR1, hR2⟩ := rest_is q t
  rw [hR] at hC
  rw [show cutB q (⟨t.toArray⟩ : ByteArray).data.toList = _ from hb] at hD
  have hqq : q = 34 ∨ q = 39 := by simpa [quo] using hq
  clear hn hr hR hq hb
  rcases hqq with rfl | rfl
  all_goals
    go_enter Tryd.func101, Tryd.ntmps101
    go_wp2_with (first | (go_at_call 103; refine (hC _).mono ?_; rintro e w1 ⟨rfl, n, rfl⟩) | (go_at_call 46; refine (hN _).mono ?_; rintro e w2 ⟨rfl, hb2⟩; obtain ⟨hc, hf⟩ := bcells hb2; have hz : w.heap.size < w2.heap.size := (by have := hb2.size; simp at this; omega); have hB := (below_new w _ n).trans (hb2.mono (by simp))))
    go_quiet ((go_at_call 103; exact Calls.quiet_of (hD _)))
    have hB2 := Below.drewN hB nq
    have hT2 := hT.below hT3 hB2
    go_wp2_with (go_at_call 77; refine (hU _ hT2).mono ?_)
    rintro e w3 ⟨rfl, hb3⟩
    have hk2 := new_heap hb2
    have hk3 : w3.heap[w.heap.size]? = _ := (hb3.block w.heap.size hz).trans hk2
    have c0 : w3.cell? ⟨w.heap.size, 0, none⟩ = some (.string ⟨#[]⟩) := by rw [Lib.cell_of_heap hk3]; rfl
    have c1 : w3.cell? ⟨w.heap.size, 1, none⟩ = some (.string ⟨#[]⟩) := by rw [Lib.cell_of_heap hk3]; rfl
    have f0 : w3.frozen? ⟨w.heap.size, 0, none⟩ = false := Lib.frozen_of_heap hk3 0
    have f1 : w3.frozen? ⟨w.heap.size, 1, none⟩ = false := Lib.frozen_of_heap hk3 1
    clear hk3 hk2
    have hB3 := hB2.trans (hb3.mono (by simp; omega))
    have hz3 : w.heap.size < w3.heap.size := by have := hb3.size; simp at this; omega
    go_wp2
    exact bodyPost_ret (v := attrV ((cutA 61 s.data.toList, r), cutZ _ t, 0)) (by simp [results, Tryd.results101, go_sem, c0, c1, attrV]) rfl ⟨rfl, (hB3.setCell (p := ⟨w.heap.size, 0, none⟩) (Nat.le_refl _) _).setCell (p := ⟨w.heap.size, 1, none⟩) (Nat.le_refl _) _⟩
theorem readAttr_any (s : ByteArray) (w : World) (hT : Tabs w) (hs : s.size ≤ 2000000) :
    Calls Tryd.prog 101 #[.string s] w fun e w' => e = .returned (attrV (attrN s.data.toList)) ∧ Below w.heap.size w w' := by
  cases hn : name (cutA 61 s.data.toList) with
  | false =>
    rw [attr_name_no hn]
    exact readAttr_name_no s w hs hn
  | true =>
    cases hr : cutZ 61 s.data.toList with
    | nil =>
      rw [attr_empty hn hr]
      exact readAttr_empty s w hs hn hr
    | cons q t =>
      cases hq : quo q with
      | false =>
        rw [attr_quo hn hr hq]
        exact readAttr_quo s w hs hn q t hr hq
      | true =>
        cases hb : cutB q t with
        | false =>
          rw [attr_open hn hr hq hb]
          exact readAttr_open s w hs hn q t hr hq hb
        | true =>
          obtain ⟨⟨r, c⟩, hu⟩ : ∃ p, un (cutA q t) = p := ⟨_, rfl⟩
          by_cases hc : c = 0
          · subst hc
            rw [attr_yes hn hr hq hb hu]
            exact readAttr_yes s w hT hs hn q t hr hq hb r hu
          · rw [attr_un hn hr hq hb hu hc]
            exact readAttr_un s w hT hs hn q t hr hq hb c r hu (by simpa using hc)
end Go.Proofs.YthekdgnikkjpdaaDoor
