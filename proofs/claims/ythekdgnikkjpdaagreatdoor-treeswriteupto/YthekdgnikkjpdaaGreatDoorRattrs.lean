/-
  The contracts of tags.readText and tags.readEnd over this program: for every string of at most 100000 bytes.
-/
import Derived.Test.YthekdgnikkjpdaaGreatDoorMem
namespace Go.Proofs.YthekdgnikkjpdaaGreatDoor
open Go.RowKit
theorem unescN_un (l : List UInt8) : unescN l = (⟨(un l).1.toArray⟩, (un l).2) := by
  unfold unescN un
  split
  · cases unesc l <;> rfl
  · rfl
theorem unescape_un (s : ByteArray) (r : List UInt8) (c : Int) (h : un s.data.toList = (r, c)) (w : World) (hT : Tabs w) (hs : s.size ≤ 2000000) :
    Calls Tryz.prog 63 #[.string s] w fun e w' => e = .returned (.tuple #[.string ⟨r.toArray⟩, .int .i64 c]) ∧ Below w.heap.size w w' :=
  unescape_at s _ _ (by rw [unescN_un, h]) w hT hs
/-- What a call that answers tokens answers. -/
def TokRes (B : Nat) (l : List Tok) (c : Int) (e : Ending) (w : World) : Prop := ∃ ao n cap, e = .returned (.tuple #[.slice ao n cap, .int .i64 c]) ∧ ToksAt 73 B (.slice ao n cap) l w
theorem tokRes_nil (B : Nat) (c : Int) (w : World) : TokRes B [] c (.returned (.tuple #[.slice none 0 0, .int .i64 c])) w := ⟨none, 0, 0, rfl, ToksAt.nil _ _ _⟩
theorem attrs_nil (B : Nat) (w : World) : AttrsAt B (.slice none 0 0) [] w := World.ownsRow_nil _ _ _ _
theorem toks_one (w : World) (B : Nat) (k : Int) (n x : ByteArray) (v : Value) (t : Tok) (hB : B ≤ w.heap.size) (h1 : t.kind = k) (h2 : (⟨t.nm.toArray⟩ : ByteArray) = n) (h3 : (⟨t.text.toArray⟩ : ByteArray) = x) (h4 : AttrsAt B v t.attrs w) :
    ToksAt 73 B (.slice (some ⟨w.heap.size, 0, none⟩) 1 1) [t] (w.alloc (.cells #[.int .i64 k, .string n, v, .string x] 73)) := by
  subst h1 h2 h3
  exact ⟨_, owns_new w B 73 4 1 _ hB (by decide) rfl, v, [], rfl, h4.below ((Below.refl _ _).alloc (Nat.le_refl _) _), rfl⟩
set_option maxHeartbeats 1000000 in
theorem readText_any (s : ByteArray) (w : World) (hT : Tabs w) (hs : s.size ≤ 2000000) :
    Calls Tryz.prog 52 #[.string s] w fun e w' => TokRes w.heap.size (textN s.data.toList).1 (textN s.data.toList).2 e w' ∧ Below w.heap.size w w' := by
  by_cases h0 : s.toList = []
  · have e : s.toList.isEmpty = true := by rw [h0]; rfl
    have e2 : textN s.data.toList = ([], 0) := by
      have : s.data.toList = [] := by rw [← Lib.toList_data]; exact h0
      rw [this]; rfl
    rw [e2]
    clear e2
    go_enter Tryz.func52, Tryz.ntmps52
    go_wp2
    go_ret2
    exact ⟨tokRes_nil _ _ _, Below.refl _ _⟩
  · have e : s.toList.isEmpty = false := by simpa using h0
    have e1 : s.data.toList.isEmpty = false := by rw [← Lib.toList_data]; exact e
    obtain ⟨⟨r, c⟩, hu⟩ : ∃ p, un s.data.toList = p := ⟨_, rfl⟩
    have hU := unescape_un s r c hu w hT hs
    by_cases hc : c = 0
    · subst hc
      have e2 : textN s.data.toList = ([⟨3, [], [], r⟩], 0) := by
        unfold textN
        rw [e1, hu]
        rfl
      rw [e2]
      clear e2 e1 hu
      go_enter Tryz.func52, Tryz.ntmps52
      go_wp2_with (go_at_call 63; refine hU.mono ?_)
      rintro e w1 ⟨rfl, hb⟩
      have hs1 := hb.size
      go_wp2
      go_ret2
      exact ⟨⟨_, _, _, rfl, (toks_one w1 w.heap.size 3 _ _ _ ⟨3, [], [], r⟩ hs1 rfl rfl rfl (attrs_nil _ _))⟩, hb.alloc hs1 _⟩
    · have e2 : textN s.data.toList = ([], c) := by
        unfold textN
        rw [e1, hu]
        simp [hc]
      rw [e2]
      have hc' : (c == 0) = false := by simpa using hc
      clear e2 e1 hu
      go_enter Tryz.func52, Tryz.ntmps52
      go_wp2_with (go_at_call 63; refine hU.mono ?_)
      rintro e w1 ⟨rfl, hb⟩
      go_wp2
      go_ret2
      exact ⟨tokRes_nil _ _ _, hb⟩
set_option maxHeartbeats 1000000 in
theorem readEnd_any (s : ByteArray) (w : World) (hs : s.size ≤ 2000000) :
    Calls Tryz.prog 65 #[.string s] w fun e w' => TokRes w.heap.size (endN s.data.toList).1 (endN s.data.toList).2 e w' ∧ Below w.heap.size w w' := by
  have h1 := trimRight_any s w hs
  cases hn : name (trimR s.data.toList) with
  | true =>
    have e2 : endN s.data.toList = ([⟨2, trimR s.data.toList, [], []⟩], 0) := by unfold endN; rw [hn]; rfl
    have h2 := fun W => name_at ⟨(trimR s.data.toList).toArray⟩ true hn W
    rw [e2]
    clear e2 hn
    go_enter Tryz.func65, Tryz.ntmps65
    go_wp2_with (go_at_call 80; refine h1.mono ?_)
    rintro e w1 ⟨rfl, hb⟩
    have hs1 := hb.size
    go_wp2_with (go_at_call 21; refine (h2 _).mono ?_)
    rintro e w2 ⟨rfl, hb2⟩
    have hb3 := hb.trans (hb2.mono hs1)
    have hs2 := hb3.size
    go_wp2
    go_ret2
    exact ⟨⟨_, _, _, rfl, (toks_one w2 w.heap.size 2 _ _ _ ⟨2, _, [], []⟩ hs2 rfl rfl rfl (attrs_nil _ _))⟩, hb3.alloc hs2 _⟩
  | false =>
    have e2 : endN s.data.toList = ([], 3) := by unfold endN; rw [hn]; rfl
    have h2 := fun W => name_at ⟨(trimR s.data.toList).toArray⟩ false hn W
    rw [e2]
    clear e2 hn
    go_enter Tryz.func65, Tryz.ntmps65
    go_wp2_with (go_at_call 80; refine h1.mono ?_)
    rintro e w1 ⟨rfl, hb⟩
    have hs1 := hb.size
    go_wp2_with (go_at_call 21; refine (h2 _).mono ?_)
    rintro e w2 ⟨rfl, hb2⟩
    have hb3 := hb.trans (hb2.mono hs1)
    go_wp2
    go_ret2
    exact ⟨tokRes_nil _ _ _, hb3⟩
end Go.Proofs.YthekdgnikkjpdaaGreatDoor

/-
  The contract of tags.readAttr over this program: for every string of at most 100000 bytes.
-/
namespace Go.Proofs.YthekdgnikkjpdaaGreatDoor
open Go.RowKit
theorem cutZ_length (c : UInt8) (l : List UInt8) : (cutZ c l).length ≤ l.length - 1 := by
  unfold cutZ
  rw [List.length_drop]
  have := (List.dropWhile_sublist (p := (· != c)) (l := l)).length_le
  omega
theorem cutA_length (c : UInt8) (l : List UInt8) : (cutA c l).length ≤ l.length := (List.takeWhile_sublist _).length_le
/-- What a call that answers an attribute answers. -/
def attrV (a : (List UInt8 × List UInt8) × List UInt8 × Int) : Value := .tuple #[.agg #[.string ⟨a.1.1.toArray⟩, .string ⟨a.1.2.toArray⟩], .string ⟨a.2.1.toArray⟩, .int .i64 a.2.2]
theorem attr_name_no {l : List UInt8} (h : name (cutA 61 l) = false) : attrN l = (([], []), [], 3) := by unfold attrN; rw [h]; rfl
theorem attr_empty {l : List UInt8} (h : name (cutA 61 l) = true) (hz : cutZ 61 l = []) : attrN l = (([], []), [], 3) := by unfold attrN; rw [h, hz]; rfl
theorem attr_quo {l t : List UInt8} {q : UInt8} (h : name (cutA 61 l) = true) (hz : cutZ 61 l = q :: t) (hq : quo q = false) : attrN l = (([], []), [], 3) := by unfold attrN; rw [h, hz, if_pos rfl]; simp only [hq]; rfl
theorem attr_open {l t : List UInt8} {q : UInt8} (h : name (cutA 61 l) = true) (hz : cutZ 61 l = q :: t) (hq : quo q = true) (hb : cutB q t = false) : attrN l = (([], []), [], 3) := by unfold attrN; rw [h, hz, if_pos rfl]; simp only [hq, hb]; rfl
theorem attr_un {l t : List UInt8} {q : UInt8} {c : Int} {r : List UInt8} (h : name (cutA 61 l) = true) (hz : cutZ 61 l = q :: t) (hq : quo q = true) (hb : cutB q t = true) (hu : un (cutA q t) = (r, c)) (hc : c ≠ 0) : attrN l = (([], []), [], c) := by
  unfold attrN; rw [h, hz, if_pos rfl]; simp only [hq, hb, hu, if_true]; rw [if_neg hc]
theorem attr_yes {l t : List UInt8} {q : UInt8} {r : List UInt8} (h : name (cutA 61 l) = true) (hz : cutZ 61 l = q :: t) (hq : quo q = true) (hb : cutB q t = true) (hu : un (cutA q t) = (r, 0)) : attrN l = ((cutA 61 l, r), cutZ q t, 0) := by
  unfold attrN; rw [h, hz, if_pos rfl]; simp only [hq, hb, hu, if_true]
theorem bcells {W w1 : World} (hb : Below W.heap.size W w1) : (∀ b o, b < W.heap.size → w1.cell? ⟨b, o, none⟩ = W.cell? ⟨b, o, none⟩) ∧ (∀ b o, b < W.heap.size → w1.frozen? ⟨b, o, none⟩ = W.frozen? ⟨b, o, none⟩) :=
  ⟨fun b o h => hb.cell (p := ⟨b, o, none⟩) h, fun b o h => hb.frozen (p := ⟨b, o, none⟩) h⟩
theorem below_new (w : World) (o : Obj) (n : Nat) : Below w.heap.size w ((w.alloc o).drewN n) := ⟨rfl, rfl, rfl, by simp, fun k hk => Below.heap_alloc _ _ _ hk⟩
set_option maxHeartbeats 2000000 in
theorem readAttr_name_no (s : ByteArray) (w : World) (hs : s.size ≤ 2000000) (hn : name (cutA 61 s.data.toList) = false) :
    Calls Tryz.prog 92 #[.string s] w fun e w' => e = .returned (attrV (([], []), [], 3)) ∧ Below w.heap.size w w' := by
  have hC := fun W => cut_any s 61 W hs
  have hN := fun W => name_at ⟨(cutA 61 s.data.toList).toArray⟩ false hn W
  clear hn
  go_enter Tryz.func92, Tryz.ntmps92
  go_wp2_with (go_at_call 99; refine (hC _).mono ?_)
  rintro e w1 ⟨rfl, n, rfl⟩
  go_wp2_with (go_at_call 21; refine (hN _).mono ?_)
  rintro e w2 ⟨rfl, hb2⟩
  obtain ⟨hc, hf⟩ := bcells hb2
  have hz : w.heap.size < w2.heap.size := by have := hb2.size; simp at this; omega
  have hB := (below_new w _ n).trans (hb2.mono (by simp))
  go_wp2
  exact bodyPost_ret (v := attrV (([], []), [], 3)) (by simp [results, Tryz.results92, go_sem, hc, attrV]) rfl ⟨rfl, (hB.setCell (p := ⟨w.heap.size, 0, none⟩) (Nat.le_refl _) _).setCell (p := ⟨w.heap.size, 1, none⟩) (Nat.le_refl _) _⟩
set_option maxHeartbeats 2000000 in
theorem readAttr_empty (s : ByteArray) (w : World) (hs : s.size ≤ 2000000) (hn : name (cutA 61 s.data.toList) = true) (hr : cutZ 61 s.data.toList = []) :
    Calls Tryz.prog 92 #[.string s] w fun e w' => e = .returned (attrV (([], []), [], 3)) ∧ Below w.heap.size w w' := by
  have hC := fun W => cut_any s 61 W hs
  have hN := fun W => name_at ⟨(cutA 61 s.data.toList).toArray⟩ true hn W
  rw [hr] at hC
  clear hn hr
  go_enter Tryz.func92, Tryz.ntmps92
  go_wp2_with (go_at_call 99; refine (hC _).mono ?_)
  rintro e w1 ⟨rfl, n, rfl⟩
  go_wp2_with (go_at_call 21; refine (hN _).mono ?_)
  rintro e w2 ⟨rfl, hb2⟩
  obtain ⟨hc, hf⟩ := bcells hb2
  have hz : w.heap.size < w2.heap.size := by have := hb2.size; simp at this; omega
  have hB := (below_new w _ n).trans (hb2.mono (by simp))
  go_wp2
  exact bodyPost_ret (v := attrV (([], []), [], 3)) (by simp [results, Tryz.results92, go_sem, hc, attrV]) rfl ⟨rfl, (hB.setCell (p := ⟨w.heap.size, 0, none⟩) (Nat.le_refl _) _).setCell (p := ⟨w.heap.size, 1, none⟩) (Nat.le_refl _) _⟩
/-- A text with a first byte: what the walk asks of it. -/
theorem rest_is (q : UInt8) (t : List UInt8) : ∃ R : ByteArray, (⟨(q :: t).toArray⟩ : ByteArray) = R ∧ R.toList.isEmpty = false ∧ ∃ h : 0 < R.size, R[0]'h = q ∧ R.extract 0 1 = ⟨#[q]⟩ ∧ R.extract 1 R.size = ⟨t.toArray⟩ := by
  refine ⟨_, rfl, ?_, by simp [ByteArray.size], rfl, ?_, ?_⟩
  · rw [Lib.toList_data]; rfl
  · exact mk_of_list (by rw [take_list]; rfl)
  · exact mk_of_list (by rw [Lib.extract_data]; exact List.take_of_length_le (by simp [ByteArray.size]))
theorem quo_yes {q : UInt8} (h : quo q = true) : ((q.toNat : Int) = 34 ∨ (q.toNat : Int) = 39) := by
  simp [quo] at h
  rcases h with rfl | rfl
  · exact .inl rfl
  · exact .inr rfl
theorem quo_no {q : UInt8} (h : quo q = false) : ¬ (q.toNat : Int) = 34 ∧ ((q.toNat : Int) != 34) = true ∧ ((q.toNat : Int) != 39) = true := by
  simp [quo, ← UInt8.toNat_inj] at h
  simp
  omega
set_option maxHeartbeats 2000000 in
theorem readAttr_quo (s : ByteArray) (w : World) (hs : s.size ≤ 2000000) (hn : name (cutA 61 s.data.toList) = true) (q : UInt8) (t : List UInt8) (hr : cutZ 61 s.data.toList = q :: t) (hq : quo q = false) :
    Calls Tryz.prog 92 #[.string s] w fun e w' => e = .returned (attrV (([], []), [], 3)) ∧ Below w.heap.size w w' := by
  have hC := fun W => cut_any s 61 W hs
  have hN := fun W => name_at ⟨(cutA 61 s.data.toList).toArray⟩ true hn W
  rw [hr] at hC
  obtain ⟨R, hR, he, h0, hR0, _⟩ := rest_is q t
  rw [hR] at hC
  obtain ⟨q1, q2, q3⟩ := quo_no hq
  clear hn hr hR hq
  go_enter Tryz.func92, Tryz.ntmps92
  go_wp2_with (go_at_call 99; refine (hC _).mono ?_)
  rintro e w1 ⟨rfl, n, rfl⟩
  go_wp2_with (go_at_call 21; refine (hN _).mono ?_)
  rintro e w2 ⟨rfl, hb2⟩
  obtain ⟨hc, hf⟩ := bcells hb2
  have hz : w.heap.size < w2.heap.size := by have := hb2.size; simp at this; omega
  have hB := (below_new w _ n).trans (hb2.mono (by simp))
  go_wp2
  exact bodyPost_ret (v := attrV (([], []), [], 3)) (by simp [results, Tryz.results92, go_sem, hc, attrV]) rfl ⟨rfl, (hB.setCell (p := ⟨w.heap.size, 0, none⟩) (Nat.le_refl _) _).setCell (p := ⟨w.heap.size, 1, none⟩) (Nat.le_refl _) _⟩
theorem new_heap {w w' : World} {cs : Array Value} {T : TypeId} {n : Nat} (hb : Below ((w.alloc (.cells cs T)).drewN n).heap.size ((w.alloc (.cells cs T)).drewN n) w') : w'.heap[w.heap.size]? = some (.cells cs T (0, 0)) :=
  (hb.block w.heap.size (by simp)).trans (heap_alloc_new w _)
theorem Below.drewN {B : Nat} {a w : World} (h : Below B a w) (n : Nat) : Below B a (w.drewN n) := ⟨h.os, h.tape, h.output, h.size, h.block⟩
set_option maxHeartbeats 2000000 in
theorem readAttr_open (s : ByteArray) (w : World) (hs : s.size ≤ 2000000) (hn : name (cutA 61 s.data.toList) = true) (q : UInt8) (t : List UInt8) (hr : cutZ 61 s.data.toList = q :: t) (hq : quo q = true) (hb : cutB q t = false) :
    Calls Tryz.prog 92 #[.string s] w fun e w' => e = .returned (attrV (([], []), [], 3)) ∧ Below w.heap.size w w' := by
  have hC := fun W => cut_any s 61 W hs
  have hN := fun W => name_at ⟨(cutA 61 s.data.toList).toArray⟩ true hn W
  have hlt : (⟨t.toArray⟩ : ByteArray).size ≤ 2000000 := by
    have h1 := cutZ_length 61 s.data.toList
    rw [hr, ← size_list] at h1
    have h2 : (⟨t.toArray⟩ : ByteArray).size = t.length := by rw [size_list]
    rw [h2]
    rw [List.length_cons] at h1
    omega
  have hD := fun W => cut_any ⟨t.toArray⟩ q W hlt
  rw [hr] at hC
  obtain ⟨R, hR, he, h0, hR0, hR1, hR2⟩ := rest_is q t
  rw [hR] at hC
  rw [show cutB q (⟨t.toArray⟩ : ByteArray).data.toList = _ from hb] at hD
  have hqq : q = 34 ∨ q = 39 := by simpa [quo] using hq
  clear hn hr hR hq hb
  rcases hqq with rfl | rfl
  all_goals
    go_enter Tryz.func92, Tryz.ntmps92
    go_wp2_with (first | (go_at_call 99; refine (hC _).mono ?_; rintro e w1 ⟨rfl, n, rfl⟩) | (go_at_call 21; refine (hN _).mono ?_; rintro e w2 ⟨rfl, hb2⟩; obtain ⟨hc, hf⟩ := bcells hb2; have hz : w.heap.size < w2.heap.size := (by have := hb2.size; simp at this; omega); have hB := (below_new w _ n).trans (hb2.mono (by simp))))
    go_quiet ((go_at_call 99; exact Calls.quiet_of (hD _)))
    go_wp2
    exact bodyPost_ret (v := attrV (([], []), [], 3)) (by simp [results, Tryz.results92, go_sem, hc, attrV]) rfl ⟨rfl, ((Below.drewN hB nq).setCell (p := ⟨w.heap.size, 0, none⟩) (Nat.le_refl _) _).setCell (p := ⟨w.heap.size, 1, none⟩) (Nat.le_refl _) _⟩
set_option maxHeartbeats 2000000 in
theorem readAttr_un (s : ByteArray) (w : World) (hT : Tabs w) (hs : s.size ≤ 2000000) (hn : name (cutA 61 s.data.toList) = true) (q : UInt8) (t : List UInt8) (hr : cutZ 61 s.data.toList = q :: t) (hq : quo q = true) (hb : cutB q t = true) (c : Int) (r : List UInt8) (hu : un (cutA q t) = (r, c)) (hc0 : (c == 0) = false) :
    Calls Tryz.prog 92 #[.string s] w fun e w' => e = .returned (attrV (([], []), [], c)) ∧ Below w.heap.size w w' := by
  have hC := fun W => cut_any s 61 W hs
  have hN := fun W => name_at ⟨(cutA 61 s.data.toList).toArray⟩ true hn W
  have hlt : (⟨t.toArray⟩ : ByteArray).size ≤ 2000000 := by
    have h1 := cutZ_length 61 s.data.toList
    rw [hr, ← size_list] at h1
    have h2 : (⟨t.toArray⟩ : ByteArray).size = t.length := by rw [size_list]
    rw [h2]
    rw [List.length_cons] at h1
    omega
  have hD := fun W => cut_any ⟨t.toArray⟩ q W hlt
  have hlu : (⟨(cutA q t).toArray⟩ : ByteArray).size ≤ 2000000 := by
    have h1 := cutA_length q t
    have h2 : (⟨(cutA q t).toArray⟩ : ByteArray).size = (cutA q t).length := by rw [size_list]
    have h3 : (⟨t.toArray⟩ : ByteArray).size = t.length := by rw [size_list]
    omega
  have hU := fun W hW => unescape_un ⟨(cutA q t).toArray⟩ r c hu W hW hlu
  have hT3 := hT.size
  rw [hr] at hC
  obtain ⟨R, hR, he, h0, hR0, hR1, hR2⟩ := rest_is q t
  rw [hR] at hC
  rw [show cutB q (⟨t.toArray⟩ : ByteArray).data.toList = _ from hb] at hD
  have hqq : q = 34 ∨ q = 39 := by simpa [quo] using hq
  clear hn hr hR hq hb
  rcases hqq with rfl | rfl
  all_goals
    go_enter Tryz.func92, Tryz.ntmps92
    go_wp2_with (first | (go_at_call 99; refine (hC _).mono ?_; rintro e w1 ⟨rfl, n, rfl⟩) | (go_at_call 21; refine (hN _).mono ?_; rintro e w2 ⟨rfl, hb2⟩; obtain ⟨hc, hf⟩ := bcells hb2; have hz : w.heap.size < w2.heap.size := (by have := hb2.size; simp at this; omega); have hB := (below_new w _ n).trans (hb2.mono (by simp))))
    go_quiet ((go_at_call 99; exact Calls.quiet_of (hD _)))
    have hB2 := Below.drewN hB nq
    have hT2 := hT.below hT3 hB2
    go_wp2_with (go_at_call 63; refine (hU _ hT2).mono ?_)
    rintro e w3 ⟨rfl, hb3⟩
    have hk2 := new_heap hb2
    have hk3 : w3.heap[w.heap.size]? = _ := (hb3.block w.heap.size hz).trans hk2
    have c0 : w3.cell? ⟨w.heap.size, 0, none⟩ = some (.string ⟨#[]⟩) := by rw [Lib.cell_of_heap hk3]; rfl
    have c1 : w3.cell? ⟨w.heap.size, 1, none⟩ = some (.string ⟨#[]⟩) := by rw [Lib.cell_of_heap hk3]; rfl
    have f0 : w3.frozen? ⟨w.heap.size, 0, none⟩ = false := Lib.frozen_of_heap hk3 0
    have f1 : w3.frozen? ⟨w.heap.size, 1, none⟩ = false := Lib.frozen_of_heap hk3 1
    clear hk3 hk2
    have hB3 := hB2.trans (hb3.mono (by simp; omega))
    have hz3 : w.heap.size < w3.heap.size := by have := hb3.size; simp at this; omega
    go_wp2
    exact bodyPost_ret (v := attrV (([], []), [], c)) (by simp [results, Tryz.results92, go_sem, c0, c1, attrV]) rfl ⟨rfl, (hB3.setCell (p := ⟨w.heap.size, 0, none⟩) (Nat.le_refl _) _).setCell (p := ⟨w.heap.size, 1, none⟩) (Nat.le_refl _) _⟩
set_option maxHeartbeats 2000000 in
theorem readAttr_yes (s : ByteArray) (w : World) (hT : Tabs w) (hs : s.size ≤ 2000000) (hn : name (cutA 61 s.data.toList) = true) (q : UInt8) (t : List UInt8) (hr : cutZ 61 s.data.toList = q :: t) (hq : quo q = true) (hb : cutB q t = true) (r : List UInt8) (hu : un (cutA q t) = (r, 0)) :
    Calls Tryz.prog 92 #[.string s] w fun e w' => e = .returned (attrV ((cutA 61 s.data.toList, r), cutZ q t, 0)) ∧ Below w.heap.size w w' := by
  have hC := fun W => cut_any s 61 W hs
  have hN := fun W => name_at ⟨(cutA 61 s.data.toList).toArray⟩ true hn W
  have hlt : (⟨t.toArray⟩ : ByteArray).size ≤ 2000000 := by
    have h1 := cutZ_length 61 s.data.toList
    rw [hr, ← size_list] at h1
    have h2 : (⟨t.toArray⟩ : ByteArray).size = t.length := by rw [size_list]
    rw [h2]
    rw [List.length_cons] at h1
    omega
  have hD := fun W => cut_any ⟨t.toArray⟩ q W hlt
  have hlu : (⟨(cutA q t).toArray⟩ : ByteArray).size ≤ 2000000 := by
    have h1 := cutA_length q t
    have h2 : (⟨(cutA q t).toArray⟩ : ByteArray).size = (cutA q t).length := by rw [size_list]
    have h3 : (⟨t.toArray⟩ : ByteArray).size = t.length := by rw [size_list]
    omega
  have hU := fun W hW => unescape_un ⟨(cutA q t).toArray⟩ r 0 hu W hW hlu
  have hT3 := hT.size
  rw [hr] at hC
  obtain ⟨R, hR, he, h0, hR0, hR1, hR2⟩ := rest_is q t
  rw [hR] at hC
  rw [show cutB q (⟨t.toArray⟩ : ByteArray).data.toList = _ from hb] at hD
  have hqq : q = 34 ∨ q = 39 := by simpa [quo] using hq
  clear hn hr hR hq hb
  rcases hqq with rfl | rfl
  all_goals
    go_enter Tryz.func92, Tryz.ntmps92
    go_wp2_with (first | (go_at_call 99; refine (hC _).mono ?_; rintro e w1 ⟨rfl, n, rfl⟩) | (go_at_call 21; refine (hN _).mono ?_; rintro e w2 ⟨rfl, hb2⟩; obtain ⟨hc, hf⟩ := bcells hb2; have hz : w.heap.size < w2.heap.size := (by have := hb2.size; simp at this; omega); have hB := (below_new w _ n).trans (hb2.mono (by simp))))
    go_quiet ((go_at_call 99; exact Calls.quiet_of (hD _)))
    have hB2 := Below.drewN hB nq
    have hT2 := hT.below hT3 hB2
    go_wp2_with (go_at_call 63; refine (hU _ hT2).mono ?_)
    rintro e w3 ⟨rfl, hb3⟩
    have hk2 := new_heap hb2
    have hk3 : w3.heap[w.heap.size]? = _ := (hb3.block w.heap.size hz).trans hk2
    have c0 : w3.cell? ⟨w.heap.size, 0, none⟩ = some (.string ⟨#[]⟩) := by rw [Lib.cell_of_heap hk3]; rfl
    have c1 : w3.cell? ⟨w.heap.size, 1, none⟩ = some (.string ⟨#[]⟩) := by rw [Lib.cell_of_heap hk3]; rfl
    have f0 : w3.frozen? ⟨w.heap.size, 0, none⟩ = false := Lib.frozen_of_heap hk3 0
    have f1 : w3.frozen? ⟨w.heap.size, 1, none⟩ = false := Lib.frozen_of_heap hk3 1
    clear hk3 hk2
    have hB3 := hB2.trans (hb3.mono (by simp; omega))
    have hz3 : w.heap.size < w3.heap.size := by have := hb3.size; simp at this; omega
    go_wp2
    exact bodyPost_ret (v := attrV ((cutA 61 s.data.toList, r), cutZ _ t, 0)) (by simp [results, Tryz.results92, go_sem, c0, c1, attrV]) rfl ⟨rfl, (hB3.setCell (p := ⟨w.heap.size, 0, none⟩) (Nat.le_refl _) _).setCell (p := ⟨w.heap.size, 1, none⟩) (Nat.le_refl _) _⟩
theorem readAttr_any (s : ByteArray) (w : World) (hT : Tabs w) (hs : s.size ≤ 2000000) :
    Calls Tryz.prog 92 #[.string s] w fun e w' => e = .returned (attrV (attrN s.data.toList)) ∧ Below w.heap.size w w' := by
  cases hn : name (cutA 61 s.data.toList) with
  | false =>
    rw [attr_name_no hn]
    exact readAttr_name_no s w hs hn
  | true =>
    cases hr : cutZ 61 s.data.toList with
    | nil =>
      rw [attr_empty hn hr]
      exact readAttr_empty s w hs hn hr
    | cons q t =>
      cases hq : quo q with
      | false =>
        rw [attr_quo hn hr hq]
        exact readAttr_quo s w hs hn q t hr hq
      | true =>
        cases hb : cutB q t with
        | false =>
          rw [attr_open hn hr hq hb]
          exact readAttr_open s w hs hn q t hr hq hb
        | true =>
          obtain ⟨⟨r, c⟩, hu⟩ : ∃ p, un (cutA q t) = p := ⟨_, rfl⟩
          by_cases hc : c = 0
          · subst hc
            rw [attr_yes hn hr hq hb hu]
            exact readAttr_yes s w hT hs hn q t hr hq hb r hu
          · rw [attr_un hn hr hq hb hu hc]
            exact readAttr_un s w hT hs hn q t hr hq hb c r hu (by simpa using hc)
end Go.Proofs.YthekdgnikkjpdaaGreatDoor
/-
  The contract of tags.readAttrs over this program: for every string of at most 100000 bytes.
-/
namespace Go.Proofs.YthekdgnikkjpdaaGreatDoor
open Go.RowKit
theorem info46 : (Tryz.prog.info? 34).map (fun i => (i.zero, i.size, i.bytes)) = some (some (.agg #[.string ⟨#[]⟩, .string ⟨#[]⟩]), 2, 32) := by kernel_rfl
/-- What a call that answers attributes answers. -/
def AttrRes (B : Nat) (l : List (List UInt8 × List UInt8) × Int) (e : Ending) (w : World) : Prop := ∃ ao n cap, e = .returned (.tuple #[.slice ao n cap, .int .i64 l.2]) ∧ AttrsAt B (.slice ao n cap) l.1 w
theorem attrRes_nil (B : Nat) (c : Int) (w : World) : AttrRes B ([], c) (.returned (.tuple #[.slice none 0 0, .int .i64 c])) w := ⟨none, 0, 0, rfl, attrs_nil _ _⟩
theorem trimL_length (l : List UInt8) : (trimL l).length ≤ l.length := (List.dropWhile_sublist _).length_le
theorem size_mk (l : List UInt8) : (⟨l.toArray⟩ : ByteArray).size = l.length := by rw [size_list]
theorem attrN_len (l : List UInt8) (h : (attrN l).2.2 = 0) : (attrN l).2.1.length < l.length := by
  unfold attrN at h ⊢
  split at h
  · split at h
    · simp at h
    · rename_i q t hz
      have h1 := cutZ_length 61 l
      rw [hz, List.length_cons] at h1
      have h2 := cutZ_length q t
      split at h
      · split at h
        · split at h
          · simp only [*, if_true]
            omega
          · rename_i hne
            exact absurd h hne
        · simp at h
      · simp at h
  · simp at h
theorem pair_get : ∀ (acc : List (List UInt8 × List UInt8)) (j : Nat) (p : List UInt8 × List UInt8), acc[j]? = some p → (pairCells acc)[j * 2]? = some (.string ⟨p.1.toArray⟩) ∧ (pairCells acc)[j * 2 + 1]? = some (.string ⟨p.2.toArray⟩)
  | [], j, p, h => by simp at h
  | q :: r, 0, p, h => by
    simp at h
    subst h
    exact ⟨rfl, rfl⟩
  | q :: r, j + 1, p, h => by
    have := pair_get r j p (by simpa using h)
    rw [show (j + 1) * 2 = j * 2 + 2 by omega, show j * 2 + 2 + 1 = j * 2 + 1 + 2 by omega]
    exact this
/-- The element j of attributes that lie in memory. -/
theorem attr_cells {B : Nat} {ao : Option Addr} {n cap : Nat} {acc : List (List UInt8 × List UInt8)} {w : World} (h : AttrsAt B (.slice ao n cap) acc w) (hn : n = acc.length) (j : Nat) (hj : j < n) :
    ∃ g p, ao = some ⟨g, 0, none⟩ ∧ acc[j]? = some p ∧ w.cell? ⟨g, j * 2, none⟩ = some (.string ⟨p.1.toArray⟩) ∧ w.cell? ⟨g, j * 2 + 1, none⟩ = some (.string ⟨p.2.toArray⟩) := by
  subst hn
  have hp : acc[j]? = some acc[j] := List.getElem?_eq_getElem hj
  obtain ⟨k1, k2⟩ := pair_get acc j _ hp
  rcases h.2 with ⟨h1, h2⟩ | ⟨g, cap', cur, h1, _⟩
  · omega
  · obtain ⟨rfl, _, rfl⟩ := Value.slice.inj h1
    refine ⟨g, acc[j], rfl, hp, ?_, ?_⟩
    · rw [World.ownsRow.cellAt h _ (by omega), k1]
    · rw [World.ownsRow.cellAt h _ (by omega), k2]
theorem known_mem {nm : List UInt8} {acc : List (List UInt8 × List UInt8)} {j : Nat} {p : List UInt8 × List UInt8} (h : acc[j]? = some p) (hp : (p.1 == nm) = true) : known nm acc = true := by
  unfold known
  rw [List.any_eq_true]
  exact ⟨p, List.mem_of_getElem? h, hp⟩
theorem take_next {acc : List (List UInt8 × List UInt8)} {j : Nat} {p : List UInt8 × List UInt8} (h : acc[j]? = some p) : acc.take (j + 1) = acc.take j ++ [p] := by
  obtain ⟨hlt, rfl⟩ := List.getElem?_eq_some_iff.1 h
  exact List.take_succ_eq_append_getElem hlt
theorem known_snoc (nm : List UInt8) (a : List (List UInt8 × List UInt8)) (p : List UInt8 × List UInt8) : known nm (a ++ [p]) = (known nm a || (p.1 == nm)) := by simp [known]
theorem readAttr_at (s : ByteArray) (nm v bh : List UInt8) (c : Int) (h : attrN s.data.toList = ((nm, v), bh, c)) (w : World) (hT : Tabs w) (hs : s.size ≤ 2000000) :
    Calls Tryz.prog 92 #[.string s] w fun e w' => e = .returned (.tuple #[.agg #[.string ⟨nm.toArray⟩, .string ⟨v.toArray⟩], .string ⟨bh.toArray⟩, .int .i64 c]) ∧ Below w.heap.size w w' := by
  have k := readAttr_any s w hT hs
  rw [h] at k
  exact k
set_option maxHeartbeats 4000000 in
set_option maxRecDepth 100000 in
theorem readAttrs_any (s : ByteArray) (F : Nat) (w : World) (hT : Tabs w) (hs : s.size ≤ 2000000) (hF : s.size < F) :
    Calls Tryz.prog 83 #[.string s] w fun e w' => AttrRes w.heap.size (attrsN F [] s.data.toList) e w' ∧ Below w.heap.size w w' := by
  have hT3 := hT.size
  obtain ⟨i0, hi, hz0, hz1, hz2⟩ := info_parts info46
  go_enter Tryz.func83, Tryz.ntmps83
  go_wp2
  go_step3
  go_wp2
  go_step3
  go_wp2
  go_loopw [0, 4] (fun a v wr => ∃ (x : ByteArray) (f : Nat) (acc : List (List UInt8 × List UInt8)) (ao : Option Addr) (n cap : Nat), a = .string x ∧ v = .slice ao n cap ∧ x.size < f ∧ x.size ≤ 2000000 ∧ acc.length ≤ 6 ∧ n = acc.length ∧
      AttrsAt w.heap.size (.slice ao n cap) acc wr ∧ Below w.heap.size w wr ∧ attrsN f acc x.data.toList = attrsN F [] s.data.toList) (fun a _ _ => sizeS a)
  case atStart => exact ⟨s, F, [], none, 0, 0, rfl, rfl, hF, hs, by simp, rfl, attrs_nil _ _, Below.refl _ _, rfl⟩
  case round =>
    obtain ⟨x, f, acc, ao, n, cap, rfl, rfl, hxf, hx, hal, hn, hA, hbw, hres⟩ := hrel
    have hTr := hT.below hT3 hbw
    have hsz := hbw.size
    have H1 := trimLeft_any x wr
    have HRES : Hid _ := hres
    have HN : Hid _ := hn
    have hn6 : n ≤ 6 := by omega
    clear hres hn
    obtain ⟨f, rfl⟩ : ∃ g, f = g + 1 := ⟨f - 1, by omega⟩
    by_cases h0 : trimL x.data.toList = []
    · have e : attrsN (f + 1) acc x.data.toList = (acc, 0) := by simp [attrsN, h0]
      rw [h0] at H1
      have HE : Hid _ := e
      clear e h0
      go_wp2_with (go_at_call 91; refine H1.mono ?_; rintro e w1 ⟨rfl, hb1⟩)
      rw [Exit.noGoto_ret]
      go_ret2
      have hb2 := hbw.trans (hb1.mono hsz)
      refine ⟨?_, hb2⟩
      rw [← HRES.out, HE.out]
      exact ⟨ao, n, cap, rfl, hA.below hb1⟩
    · obtain ⟨A, hA1⟩ : ∃ A : ByteArray, (⟨(trimL x.data.toList).toArray⟩ : ByteArray) = A := ⟨_, rfl⟩
      have hAl : A.data.toList = trimL x.data.toList := by rw [← hA1]
      have hAe : A.toList.isEmpty = false := by
        rw [Lib.toList_data, hAl]
        cases hh : trimL x.data.toList with
        | nil => exact absurd hh h0
        | cons a b => rfl
      have hAs : A.size ≤ x.size := by rw [size_list, size_list, hAl]; exact trimL_length _
      have he0 : (trimL x.data.toList).isEmpty = false := by rw [← hAl, ← Lib.toList_data]; exact hAe
      rw [hA1] at H1
      by_cases h1 : A.size = x.size
      · have e : attrsN (f + 1) acc x.data.toList = ([], 3) := by
          have hl : (trimL x.data.toList).length = x.data.toList.length := by rw [← hAl, ← size_list, ← size_list]; exact h1
          simp only [attrsN, he0, hl, true_or, if_true]
          rfl
        have h1' : (A.size : Int) = (x.size : Int) := by omega
        have HE : Hid _ := e
        clear e h0 hA1 hAl he0 h1
        go_wp2_with (go_at_call 91; refine H1.mono ?_; rintro e w1 ⟨rfl, hb1⟩)
        rw [Exit.noGoto_ret]
        go_ret2
        have hb2 := hbw.trans (hb1.mono hsz)
        refine ⟨?_, hb2⟩
        rw [← HRES.out, HE.out]
        exact attrRes_nil _ _ _
      · by_cases h6 : n = 6
        · have e : attrsN (f + 1) acc x.data.toList = ([], 3) := by
            have := HN.out
            have hl : acc.length = 6 := by omega
            simp only [attrsN, he0, hl, or_true, if_true]
            rfl
          have h1' : ((A.size : Int) == (x.size : Int)) = false := by simp; omega
          have h6' : (n : Int) = 6 := by omega
          have HE : Hid _ := e
          clear e h0 hA1 hAl he0 h1 h6
          go_wp2_with (go_at_call 91; refine H1.mono ?_; rintro e w1 ⟨rfl, hb1⟩)
          rw [Exit.noGoto_ret]
          go_ret2
          have hb2 := hbw.trans (hb1.mono hsz)
          refine ⟨?_, hb2⟩
          rw [← HRES.out, HE.out]
          exact attrRes_nil _ _ _
        · have h1' : ((A.size : Int) == (x.size : Int)) = false := by simp; omega
          have h6' : ((n : Int) == 6) = false := by simp; omega
          have e1 : ¬ ((trimL x.data.toList).length = x.data.toList.length ∨ acc.length = 6) := by
            have := HN.out
            rw [← hAl, ← size_list, ← size_list]
            omega
          obtain ⟨⟨⟨nm, val⟩, bh, c⟩, hat⟩ : ∃ p, attrN (trimL x.data.toList) = p := ⟨_, rfl⟩
          have H2 := fun W hW => readAttr_at A nm val bh c (by rw [hAl]; exact hat) W hW (by omega)
          by_cases hc : c = 0
          · subst hc
            have e2 : attrsN (f + 1) acc x.data.toList = if known nm acc then ([], 3) else attrsN f (acc ++ [(nm, val)]) bh := by
              simp only [attrsN, he0, if_neg e1, hat]
              simp
            have hbl : bh.length < A.size := by
              have := attrN_len (trimL x.data.toList) (by rw [hat])
              rw [hat, ← hAl, ← size_list] at this
              exact this
            have HE : Hid _ := e2
            have H6 : Hid (n ≠ 6) := h6
            clear e2 h0 hA1 hAl he0 h1 h6 e1 hat
            go_wp2_with (first | (go_at_call 91; refine H1.mono ?_; rintro e w1 ⟨rfl, hb1⟩) | (go_at_call 92; refine (H2 _ (hT.below hT3 (hbw.trans (hb1.mono hsz)))).mono ?_; rintro e w2 ⟨rfl, hb2⟩))
            have hb3 := hbw.trans (hb1.mono hsz)
            have hb4 := (hb3.trans (hb2.mono hb3.size)).alloc (hb3.trans (hb2.mono hb3.size)).size (.cells #[.string ⟨nm.toArray⟩, .string ⟨val.toArray⟩] 34)
            have hA4 := ((hA.below hb1).below hb2).below ((Below.refl _ w2).alloc (Nat.le_refl _) (.cells #[.string ⟨nm.toArray⟩, .string ⟨val.toArray⟩] 34))
            have hk4 := heap_alloc_new w2 (.cells #[.string ⟨nm.toArray⟩, .string ⟨val.toArray⟩] 34)
            go_loopw [36] (fun i wi => ∃ j : Nat, j ≤ n ∧ i = .int .i64 j ∧ known nm (acc.take j) = false ∧ AttrsAt w.heap.size (.slice ao n cap) acc wi ∧ wi.heap[w2.heap.size]? = some (.cells #[.string ⟨nm.toArray⟩, .string ⟨val.toArray⟩] 34 (0, 0)) ∧ Below w.heap.size w wi) (fun i _ => n - (intOf i).toNat)
            case atStart => exact ⟨0, Nat.zero_le _, rfl, rfl, hA4, hk4, hb4⟩
            case round =>
              obtain ⟨j, hj, rfl, hkn, hAi, hki, hbi⟩ := hrel
              have HK : Hid _ := hkn
              clear hkn
              have c0 : wr.cell? ⟨w2.heap.size, 0, none⟩ = some (.string ⟨nm.toArray⟩) := by rw [Lib.cell_of_heap hki]; rfl
              have c0' : ∀ o, (wr.alloc o).cell? ⟨w2.heap.size, 0, none⟩ = some (.string ⟨nm.toArray⟩) := fun o => (((Below.refl wr.heap.size wr).alloc (Nat.le_refl _) o).cell (p := ⟨w2.heap.size, 0, none⟩) (lt_of_heap hki)).trans c0
              by_cases hlt : j < n
              · obtain ⟨g, p, rfl, hp, d0, d1⟩ := attr_cells hAi HN.out j hlt
                have HP : Hid _ := hp
                clear hp
                go_wp2
                · have hq : (p.1 == nm) = true := by assumption
                  rw [Exit.noGoto_ret]
                  go_ret2
                  refine ⟨?_, hbi.alloc hbi.size _⟩
                  rw [← HRES.out, HE.out, known_mem HP.out hq]
                  exact attrRes_nil _ _ _
                · have hq : (p.1 == nm) = false := by assumption
                  go_roundw
                  case rel =>
                    have hal := (Below.refl wr.heap.size wr).alloc (Nat.le_refl _) (.cells #[.string ⟨p.1.toArray⟩, .string ⟨p.2.toArray⟩] 34)
                    exact ⟨j + 1, by omega, by go_num, by rw [take_next HP.out, known_snoc, HK.out, hq]; rfl, hAi.below hal, (hal.block _ (lt_of_heap hki)).trans hki, hbi.alloc hbi.size _⟩
                  case measure => simp [intOf]; omega
              · have hjn : j = n := by omega
                have HJ : Hid _ := hjn
                clear hjn
                have c1 : wr.cell? ⟨w2.heap.size, 1, none⟩ = some (.string ⟨val.toArray⟩) := by rw [Lib.cell_of_heap hki]; rfl
                go_wp2_with (at_builtin; refine wpList_append_own _ rfl _ _ 22 rfl w.heap.size 34 i0 _ 2 32 Tryz.underlying22 hi hz0 hz1 hz2 rfl (by decide) _ _ _ rfl (hAi.below ((Below.refl wr.heap.size wr).alloc (Nat.le_refl _) _)) ⟨wr.heap.size, 0, none⟩ 1 1 [.string ⟨nm.toArray⟩, .string ⟨val.toArray⟩] rfl rfl ?c1 ?c2 ?c3 ?c4 ?c5 ?_)
                case c1 =>
                  intro j u hj
                  match j, hj with
                  | 0, hj => simp at hj; subst hj; simp [Addr.add]
                  | 1, hj => simp at hj; subst hj; simp [Addr.add]
                case c2 =>
                  intro u hu
                  simp at hu
                  rcases hu with rfl | rfl <;> rfl
                case c3 => unfold maxLen; omega
                case c4 => omega
                case c5 => have := hbi.size; simp; omega
                intro v' w' hown' hgrow _
                obtain ⟨ao', cap', rfl⟩ := owns_shape hown'
                have hbx := (hbi.alloc hbi.size (.cells #[.string ⟨nm.toArray⟩, .string ⟨val.toArray⟩] 34)).grown hgrow (by have := hbi.size; simp; omega) (owns_lt hAi)
                go_wp2
                go_roundw
                case rel =>
                  refine ⟨⟨bh.toArray⟩, f, acc ++ [(nm, val)], ao', acc.length + 1, cap', rfl, rfl, ?_, ?_, ?_, ?_, ?_, hbx, ?_⟩
                  · rw [size_mk]; omega
                  · rw [size_mk]; omega
                  · have := HN.out
                    have : n ≠ 6 := H6.out
                    simp
                    omega
                  · simp
                  · unfold AttrsAt
                    rw [pairCells_app, List.length_append]
                    exact hown'
                  · have hk := HK.out
                    rw [HJ.out, HN.out, List.take_length] at hk
                    rw [← HRES.out, HE.out, hk]
                    rfl
                case measure =>
                  simp only [sizeS]
                  rw [size_mk]
                  omega
          · have e : attrsN (f + 1) acc x.data.toList = ([], c) := by
              simp only [attrsN, he0, if_neg e1, hat]
              simp [hc]
            have hc' : (c == 0) = false := by simpa using hc
            have HE : Hid _ := e
            clear e h0 hA1 hAl he0 h1 h6 e1 hat hc
            go_wp2_with (first | (go_at_call 91; refine H1.mono ?_; rintro e w1 ⟨rfl, hb1⟩) | (go_at_call 92; refine (H2 _ (hT.below hT3 (hbw.trans (hb1.mono hsz)))).mono ?_; rintro e w2 ⟨rfl, hb2⟩))
            rw [Exit.noGoto_ret]
            go_ret2
            have hb3 := hbw.trans (hb1.mono hsz)
            have hb4 := hb3.trans (hb2.mono hb3.size)
            refine ⟨?_, hb4.alloc hb4.size _⟩
            rw [← HRES.out, HE.out]
            exact attrRes_nil _ _ _
end Go.Proofs.YthekdgnikkjpdaaGreatDoor
