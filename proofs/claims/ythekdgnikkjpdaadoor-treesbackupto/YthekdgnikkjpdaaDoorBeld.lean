/-
  The contract of (*trees.Builder).fault over this program, whole; what may have been written of a world.
-/
import Derived.Test.YthekdgnikkjpdaaDoorBelc
namespace Go.Proofs.YthekdgnikkjpdaaDoor
open Go.RowKit
/-- Of the blocks that were there those of L alone may have been written. -/
structure Wr (L : List Nat) (w w' : World) : Prop where
  os : w'.os = w.os
  tape : w'.tape = w.tape
  output : w'.output = w.output
  size : w.heap.size ≤ w'.heap.size
  block : ∀ k, k < w.heap.size → k ∉ L → w'.heap[k]? = w.heap[k]?
theorem Wr.refl (L : List Nat) (w : World) : Wr L w w := ⟨rfl, rfl, rfl, Nat.le_refl _, fun _ _ _ => rfl⟩
theorem Wr.of_below {L : List Nat} {a w : World} (h : Below a.heap.size a w) : Wr L a w := ⟨h.os, h.tape, h.output, h.size, fun k hk _ => h.block k hk⟩
theorem Wr.then_ {L : List Nat} {a w w' : World} (h : Wr L a w) (k : Below a.heap.size w w') : Wr L a w' :=
  ⟨k.os.trans h.os, k.tape.trans h.tape, k.output.trans h.output, Nat.le_trans h.size k.size, fun i hi hl => (k.block i hi).trans (h.block i hi hl)⟩
theorem Wr.alloc {L : List Nat} {a w : World} (h : Wr L a w) (o : Obj) : Wr L a (w.alloc o) := h.then_ ((Below.refl _ _).alloc h.size o)
theorem Wr.drew {L : List Nat} {a w : World} (h : Wr L a w) : Wr L a w.drew := ⟨h.os, h.tape, h.output, h.size, h.block⟩
theorem Wr.drewN {L : List Nat} {a w : World} (h : Wr L a w) (n : Nat) : Wr L a (w.drewN n) := ⟨h.os, h.tape, h.output, h.size, h.block⟩
theorem Wr.set {L : List Nat} {a w : World} (h : Wr L a w) (b o : Nat) (u : Value) (hb : b ∈ L ∨ a.heap.size ≤ b) : Wr L a (w.setCell ⟨b, o, none⟩ u) :=
  ⟨h.os, h.tape, h.output, by simpa [World.setCell] using h.size, fun k hk hl => (Below.heap_setCell w ⟨b, o, none⟩ u k (fun e => by
    have e' : k = b := e
    rcases hb with hb | hb
    · exact hl (e' ▸ hb)
    · omega)).trans (h.block k hk hl)⟩
theorem Wr.grown {L : List Nat} {a w w' : World} {row : Option Nat} (h : Wr L a w) (hg : w.grownBy w' row) (hr : ∀ k, row = some k → k ∈ L ∨ a.heap.size ≤ k) : Wr L a w' :=
  ⟨hg.os.trans h.os, hg.tape.trans h.tape, hg.output.trans h.output, Nat.le_trans h.size hg.size, fun k hk hl => (hg.block k (Nat.lt_of_lt_of_le hk h.size) (fun e => by
    rcases hr k e.symm with hb | hb
    · exact hl hb
    · omega)).trans (h.block k hk hl)⟩
theorem Wr.trans {L : List Nat} {a b c : World} (h : Wr L a b) (k : Wr L b c) : Wr L a c :=
  ⟨k.os.trans h.os, k.tape.trans h.tape, k.output.trans h.output, Nat.le_trans h.size k.size, fun i hi hl => (k.block i (Nat.lt_of_lt_of_le hi h.size) hl).trans (h.block i hi hl)⟩
theorem Wr.mono {L L' : List Nat} {a b : World} (h : Wr L a b) (hL : ∀ k ∈ L, k ∈ L' ∨ a.heap.size ≤ k) : Wr L' a b :=
  ⟨h.os, h.tape, h.output, h.size, fun k hk hl => h.block k hk fun e => by
    rcases hL k e with h | h
    · exact hl h
    · omega⟩
theorem Wr.below {L : List Nat} {a b : World} {B : Nat} (h : Wr L a b) (hB : B ≤ a.heap.size) (hL : ∀ k ∈ L, B ≤ k) : Below B a b :=
  ⟨h.os, h.tape, h.output, h.size, fun k hk => h.block k (Nat.lt_of_lt_of_le hk hB) fun e => by have := hL k e; omega⟩
theorem Wr.stp {F F' : List Nat} {a b : World} (h : Wr F a b) (hF : ∀ k ∈ F', k ∈ F ∨ a.heap.size ≤ k) : Stp F F' a b :=
  ⟨h.size, fun k hk hf => ⟨fun e => by
    rcases hF k e with h | h
    · exact hf h
    · omega, h.block k hk hf⟩⟩
theorem mk_toList (l : List UInt8) : (⟨l.toArray⟩ : ByteArray).toList = l := by rw [Lib.toList_data]
theorem owns_form {B : Nat} {e : TypeId} {sz : Nat} {v : Value} {n : Nat} {xs : List Value} {w : World} (h : w.ownsRow B e sz v n xs) (hn : 0 < n) : ∃ g cap, v = .slice (some ⟨g, 0, none⟩) n cap := by
  rcases h.2 with ⟨_, h2⟩ | ⟨g, cap, cur, h1, _⟩
  · omega
  · exact ⟨g, cap, h1⟩
/-- A builder within an item. -/
theorem bat_item {B b : Nat} {F : List Nat} {S : Bs} {w : World} {l : List El} {e : El} (k : BAt B b F S w) (ho : S.opn = l ++ [e]) :
    ∃ g cap ys bv ao' cap' zs bl, w.heap[b]? = some (.cells #[.int .i64 S.stage, .string ⟨S.stream.toArray⟩, .slice (some ⟨g, 0, none⟩) (l.length + 1) cap, .int .i64 S.taken, .int .i64 S.failed] 59 (0, 0)) ∧
      w.ownsRow B 32 4 (.slice (some ⟨g, 0, none⟩) (l.length + 1) cap) (l.length + 1) (ys ++ [.string ⟨e.nm.toArray⟩, bv, .string ⟨e.text.toArray⟩, .slice ao' e.kids.length cap']) ∧ ys.length = l.length * 4 ∧
      OpenAt B (Pf F w) w l ys bl ∧ Row (Pf F w) w bv e.attrs.length (pairCells e.attrs) ∧ w.ownsRow B 32 4 (.slice ao' e.kids.length cap') e.kids.length zs ∧ KidsAt (ElE (Pf F w) w) e.kids zs ∧
      F = b :: g :: (bl ++ (Value.slice ao' e.kids.length cap').ownBlock.toList) ∧ F.Nodup := by
  obtain ⟨v, xs, bl, h1, h2, h3, h4, h5⟩ := k.at_
  rw [ho] at h2 h3
  obtain ⟨ys, bv, d, zs, bl', k1, k2, k3, k4, k5, k6⟩ := h3.snoc
  obtain ⟨ao', cap', rfl⟩ := owns_shape k4
  subst k1
  obtain ⟨g, cap, rfl⟩ := owns_form h2 (by simp)
  rw [List.length_append] at h1 h2
  refine ⟨g, cap, ys, bv, ao', cap', zs, bl', h1, h2, k2.length, k2, k3, k4, k5, ?_, h5⟩
  rw [h4, k6]
  rfl
theorem get_at {ys zs : List Value} {n j : Nat} (h : ys.length = n * 4) : (ys ++ zs)[n * 4 + j]? = zs[j]? := by
  rw [List.getElem?_append_right (by omega)]
  congr 1
  omega
theorem inItem {B b : Nat} {F : List Nat} {S : Bs} {w : World} {l : List El} {e : El} (k : BAt B b F S w) (ho : S.opn = l ++ [e]) (hl : l.length < 100) (hs : S.stage = 1) : ∃ g cap, InItem b g l.length cap S e e.kids.length w := by
  obtain ⟨g, cap, ys, bv, ao', cap', zs, bl, h1, h2, h3, h4, h5, h6, h7, h8, h9⟩ := bat_item k ho
  refine ⟨g, cap, bldCells h1, hl, hs, ?_, ⟨ao', cap', ?_⟩, ?_, lt_of_heap h1⟩
  · rw [World.ownsRow.cellAt h2 _ (by omega)]
    exact get_at (j := 0) h3
  · rw [World.ownsRow.cellAt h2 _ (by omega)]
    exact get_at (j := 3) h3
  · exact (h2.lt g rfl).2
theorem fault_any {B b : Nat} {F : List Nat} {S : Bs} {w : World} (k : BAt B b F S w) (hO : BOk S) (t : Tok) (va : Value) (hx : t.text.length ≤ 2000000) :
    Calls Tryd.prog 21 #[.pointer (some ⟨b, 0, none⟩), .agg #[.int .i64 t.kind, .string ⟨t.nm.toArray⟩, va, .string ⟨t.text.toArray⟩]] w (FaultPost (faultN S t) w) := by
  have hxs : (⟨t.text.toArray⟩ : ByteArray).size ≤ 2000000 := by rw [size_list]; exact hx
  obtain ⟨v, xs, bs, h1, h2, _⟩ := k.at_
  obtain ⟨ao, cap, rfl⟩ := owns_shape h2
  have hb := lt_of_heap h1
  have hC := bldCells h1
  unfold faultN
  by_cases hA : (S.stage = 0 ∧ t.kind ≠ 1) ∨ S.stage = 2 ∨ t.kind < 1 ∨ 3 < t.kind
  · rw [if_pos hA]
    exact fault_a b S ao _ cap t.kind _ _ va w hC hb hA
  rw [if_neg hA]
  have hs2 : S.stage ≠ 2 := fun e => hA (.inr (.inl e))
  have hk1 : ¬ t.kind < 1 := fun e => hA (.inr (.inr (.inl e)))
  have hk3 : ¬ 3 < t.kind := fun e => hA (.inr (.inr (.inr e)))
  have hs1 : t.kind ≠ 1 → S.stage = 1 := fun e => by
    rcases hO.stage with h | h | h
    · exact absurd (.inl ⟨h, e⟩) hA
    · exact h
    · exact absurd h hs2
  have hkk : t.kind = 1 ∨ t.kind = 2 ∨ t.kind = 3 := by omega
  by_cases ho : S.opn = []
  · rw [ho] at hC
    have i0 : ¬ (S.opn ≠ [] ∧ S.taken = 64) := fun h => h.1 ho
    have i1 : innerN S = S.stream := by unfold innerN; rw [ho]; rfl
    rw [if_neg i0, i1]
    rcases hkk with e | e | e
    · have h := fault_b1 b S ao cap ⟨t.nm.toArray⟩ ⟨t.text.toArray⟩ va w hC hb hs2
      rw [e, if_neg (by omega), if_neg (by omega), if_neg (by rw [ho]; simp), if_neg (by rw [ho]; simp)]
      exact h
    · have h := fault_b2 b S ao cap ⟨t.nm.toArray⟩ ⟨t.text.toArray⟩ va w hC hb (hs1 (by omega)) _ rfl
      rw [mk_toList] at h
      rw [e]
      by_cases q : t.nm = S.stream
      · rw [if_neg (fun h => h.2 q), if_neg (by omega), if_neg (by omega), if_neg (by omega)]
        have : (t.nm == S.stream) = true := by simpa using q
        rw [this] at h
        exact h
      · rw [if_pos ⟨rfl, q⟩]
        have : (t.nm == S.stream) = false := by simpa using q
        rw [this] at h
        exact h
    · have h := fault_b3 b S ao cap ⟨t.nm.toArray⟩ ⟨t.text.toArray⟩ va w hC hb hxs (hs1 (by omega)) _ rfl
      rw [e, if_neg (by omega)]
      have hbl : (⟨t.text.toArray⟩ : ByteArray).data.toList.all bl = blankT t.text := rfl
      rw [hbl] at h
      cases q : blankT t.text
      · rw [q] at h
        rw [if_pos ⟨rfl, ho, rfl⟩]
        exact h
      · rw [q] at h
        rw [if_neg (by simp), if_neg (by omega), if_neg (by omega)]
        exact h
  · obtain ⟨l, e, hle⟩ : ∃ l e, S.opn = l ++ [e] := ⟨_, _, (List.dropLast_concat_getLast ho).symm⟩
    have hlen : l.length < 4 := by have := hO.opn; rw [hle] at this; simp at this; omega
    obtain ⟨g, cap', hI⟩ := inItem k hle (by omega) (hO.open1 ho)
    have hlast : lastE S.opn = e := by unfold lastE; rw [hle]; simp
    have i1 : innerN S = e.nm := by
      unfold innerN
      rw [hlast, hle]
      simp
    have hk16 : e.kids.length ≤ 16 := hO.kids e (by rw [hle]; simp)
    have hol : S.opn.length = 4 ↔ l.length = 3 := by rw [hle]; simp
    rw [i1, hlast]
    by_cases ht : S.taken = 64
    · rw [if_pos ⟨ho, ht⟩]
      exact fault_c0 b g l.length cap' S e _ t.kind _ _ va w hI hk1 hk3 ht
    · rw [if_neg (fun h => ht h.2)]
      rcases hkk with q | q | q
      · have h := fault_c1 b g l.length cap' S e _ ⟨t.nm.toArray⟩ ⟨t.text.toArray⟩ va w hI ht hk16
        rw [q, if_neg (by omega), if_neg (by omega)]
        by_cases h3 : l.length = 3
        · rw [if_pos ⟨rfl, hol.2 h3⟩]
          rw [if_pos h3] at h
          exact h
        · rw [if_neg (fun h => h3 (hol.1 h.2))]
          rw [if_neg h3] at h
          by_cases h16 : e.kids.length = 16
          · rw [if_pos ⟨rfl, ho, h16⟩]
            rw [if_pos h16] at h
            exact h
          · rw [if_neg (fun h => h16 h.2.2)]
            rw [if_neg h16] at h
            exact h
      · have h := fault_c2 b g l.length cap' S e _ ⟨t.nm.toArray⟩ ⟨t.text.toArray⟩ va w hI ht _ rfl
        rw [mk_toList] at h
        rw [q]
        by_cases hn : t.nm = e.nm
        · rw [if_neg (fun h => h.2 hn), if_neg (by omega), if_neg (by omega), if_neg (by omega)]
          have : (t.nm == e.nm) = true := by simpa using hn
          rw [this] at h
          exact h
        · rw [if_pos ⟨rfl, hn⟩]
          have : (t.nm == e.nm) = false := by simpa using hn
          rw [this] at h
          exact h
      · have h := fault_c3 b g l.length cap' S e _ ⟨t.nm.toArray⟩ ⟨t.text.toArray⟩ va w hI ht
        rw [q, if_neg (by omega), if_neg (fun h => ho h.2.1), if_neg (by omega), if_neg (by omega)]
        exact h
end Go.Proofs.YthekdgnikkjpdaaDoor
