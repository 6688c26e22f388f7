/-
  Two sets of connections that lie apart, with blocks beside them that stay; scripts that early made.
-/
import Derived.Test.YteejehbgmkanpaaPmk
namespace Go.Proofs.Yteejehbgmkanpaa
open Go Go.RowKit
/-- Nothing about connections is out of bounds. -/
def Good (c : Nat → Pp) (m : Nat) : Prop := ∀ i, i < 16 → Pok (c i) ∧ (c i).out.size ≤ m
theorem Good.mono {c : Nat → Pp} {m n : Nat} (h : Good c m) (hn : m ≤ n) : Good c n := fun i hi => ⟨(h i hi).1, Nat.le_trans (h i hi).2 hn⟩
theorem good_p0 : Good (fun _ => p0) 0 := fun _ _ => ⟨⟨by show N 0; unfold N; omega, fun e => by cases e⟩, Nat.le_refl _⟩
theorem pC_ok {p : Pp} {k : Nat} {n : Int} {s : ByteArray} (h : Pok p) (hn : N n) : Pok (pC p k n s) := by
  have h01 : N 0 := by unfold N; omega
  unfold pC
  split
  · split
    · exact h
    · exact ⟨h01, fun e => by cases e⟩
  · split
    · unfold Pp.wrote
      split
      · exact ⟨h.n, h.l⟩
      · split
        · refine ⟨?_, fun _ => by show (0 : Int) ≤ p.lf - (s.size : Int); omega⟩
          have := h.n
          unfold N at this
          show N (p.lf - (s.size : Int))
          unfold N
          omega
        · exact ⟨h01, fun _ => by show (0 : Int) ≤ 0; omega⟩
    · exact h
  · split
    · exact ⟨hn, fun e => of_decide_eq_true e⟩
    · exact h
  · exact ⟨h.n, h.l⟩
theorem pC_out {p : Pp} {k : Nat} {n : Int} {s : ByteArray} : (pC p k n s).out.size ≤ p.out.size + s.size := by
  unfold pC
  split
  · split
    · omega
    · show (⟨#[]⟩ : ByteArray).size ≤ _
      exact Nat.zero_le _
  · split
    · unfold Pp.wrote
      split
      · show (p.out ++ s).size ≤ _
        rw [ByteArray.size_append]
        omega
      · split
        · show (p.out ++ s).size ≤ _
          rw [ByteArray.size_append]
          omega
        · show (p.out ++ s.extract 0 p.lf.toNat).size ≤ _
          rw [ByteArray.size_append]
          simp
          omega
    · omega
  · split
    · show p.out.size ≤ _
      omega
    · omega
  · show p.out.size ≤ _
    omega
theorem Good.step {c : Nat → Pp} {m : Nat} {k : Nat} {id n : Int} {s : ByteArray} (h : Good c m) (hn : N n) (hs : s.size ≤ 40) : Good (stC c k id n s) (m + 40) := by
  intro i hi
  unfold stC
  split
  · by_cases e : i = id.toNat
    · subst e
      rw [upd_self]
      have := (h id.toNat hi).2
      have := pC_out (p := c id.toNat) (k := k) (n := n) (s := s)
      exact ⟨pC_ok (h _ hi).1 hn, by omega⟩
    · rw [upd_ne e]
      exact ⟨(h i hi).1, Nat.le_trans (h i hi).2 (Nat.le_add_right _ _)⟩
  · exact ⟨(h i hi).1, Nat.le_trans (h i hi).2 (Nat.le_add_right _ _)⟩
/-- Two sets of connections that lie apart, above a block number; blocks beside both. -/
structure Two (B ga gb : Nat) (T : List Nat) (c d : Nat → Pp) (w : World) : Prop where
  ex : ∃ Sa Sb, PsM ga Sa c w ∧ PsM gb Sb d w ∧ (∀ k ∈ Sa, k ∉ Sb) ∧ (∀ k ∈ Sa, B ≤ k ∧ k ∉ T) ∧ (∀ k ∈ Sb, B ≤ k ∧ k ∉ T)
  tl : ∀ k ∈ T, k < w.heap.size
/-- The blocks of a list stand. -/
def Stay (T : List Nat) (w w' : World) : Prop := ∀ k ∈ T, w'.heap[k]? = w.heap[k]?
theorem Two.swap {B ga gb : Nat} {T : List Nat} {c d : Nat → Pp} {w : World} (h : Two B ga gb T c d w) : Two B gb ga T d c w := by
  obtain ⟨Sa, Sb, h1, h2, h3, h4, h5⟩ := h.ex
  exact ⟨⟨Sb, Sa, h2, h1, fun k hk hk' => h3 k hk' hk, h5, h4⟩, h.tl⟩
theorem Two.below {B ga gb : Nat} {T : List Nat} {c d : Nat → Pp} {w w' : World} (h : Two B ga gb T c d w) (hb : Below w.heap.size w w') : Two B ga gb T c d w' := by
  obtain ⟨Sa, Sb, h1, h2, h3, h4, h5⟩ := h.ex
  exact ⟨⟨Sa, Sb, h1.below hb, h2.below hb, h3, h4, h5⟩, fun k hk => Nat.lt_of_lt_of_le (h.tl k hk) hb.size⟩
theorem Two.alike {B ga gb : Nat} {T : List Nat} {c d : Nat → Pp} {w w' : World} (h : Two B ga gb T c d w) (e : w'.heap = w.heap) : Two B ga gb T c d w' := by
  obtain ⟨Sa, Sb, h1, h2, h3, h4, h5⟩ := h.ex
  exact ⟨⟨Sa, Sb, h1.alike e, h2.alike e, h3, h4, h5⟩, fun k hk => by rw [e]; exact h.tl k hk⟩
theorem Two.less {B ga gb : Nat} {T T' : List Nat} {c d : Nat → Pp} {w : World} (h : Two B ga gb T c d w) (hT : ∀ k ∈ T', k ∈ T) : Two B ga gb T' c d w := by
  obtain ⟨Sa, Sb, h1, h2, h3, h4, h5⟩ := h.ex
  exact ⟨⟨Sa, Sb, h1, h2, h3, fun k hk => ⟨(h4 k hk).1, fun e => (h4 k hk).2 (hT k e)⟩, fun k hk => ⟨(h5 k hk).1, fun e => (h5 k hk).2 (hT k e)⟩⟩, fun k hk => h.tl k (hT k hk)⟩
/-- Blocks that came to be behind both are beside both. -/
theorem Two.more {B ga gb : Nat} {T U : List Nat} {c d : Nat → Pp} {w w' : World} (h : Two B ga gb T c d w) (hb : Below w.heap.size w w') (hU : ∀ k ∈ U, w.heap.size ≤ k ∧ k < w'.heap.size) : Two B ga gb (U ++ T) c d w' := by
  obtain ⟨Sa, Sb, h1, h2, h3, h4, h5⟩ := h.ex
  refine ⟨⟨Sa, Sb, h1.below hb, h2.below hb, h3, fun k hk => ⟨(h4 k hk).1, fun e => ?_⟩, fun k hk => ⟨(h5 k hk).1, fun e => ?_⟩⟩, fun k hk => ?_⟩
  · rcases List.mem_append.1 e with e | e
    · have := (hU k e).1
      have := h1.lt k hk
      omega
    · exact (h4 k hk).2 e
  · rcases List.mem_append.1 e with e | e
    · have := (hU k e).1
      have := h2.lt k hk
      omega
    · exact (h5 k hk).2 e
  · rcases List.mem_append.1 hk with e | e
    · exact (hU k e).2
    · exact Nat.lt_of_lt_of_le (h.tl k e) hb.size
theorem Two.obA {B ga gb : Nat} {T : List Nat} {c d : Nat → Pp} {w : World} (h : Two B ga gb T c d w) : Ob B ga c w := by
  obtain ⟨Sa, Sb, h1, h2, h3, h4, h5⟩ := h.ex
  exact ⟨Sa, h1, fun k hk => (h4 k hk).1⟩
theorem Two.obB {B ga gb : Nat} {T : List Nat} {c d : Nat → Pp} {w : World} (h : Two B ga gb T c d w) : Ob B gb d w := h.swap.obA
theorem two_new {B ga : Nat} {c : Nat → Pp} {w : World} (h : Ob B ga c w) (hB : B ≤ w.heap.size) : Two B ga w.heap.size [] c (fun _ => p0) (w.alloc (.cells z56 56 (0, 0))) := by
  obtain ⟨S, h1, h2⟩ := h
  refine ⟨⟨S, [w.heap.size], h1.below ((Below.refl _ _).alloc (Nat.le_refl _) _), PsM.made w, fun k hk e => ?_, fun k hk => ⟨h2 k hk, fun e => by cases e⟩, fun k hk => ⟨by rw [List.mem_singleton.1 hk]; exact hB, fun e => by cases e⟩⟩, fun k hk => by cases hk⟩
  have := h1.lt k hk
  rw [List.mem_singleton.1 e] at this
  omega
theorem Lv.two {B ga gb : Nat} {T : List Nat} {c c' d : Nat → Pp} {w w' : World} {Sa Sb : List Nat} (h : Lv ga Sa c' w w') (hT : ∀ k ∈ T, k < w.heap.size) (hB : B ≤ w.heap.size) (_h1 : PsM ga Sa c w) (h2 : PsM gb Sb d w) (h3 : ∀ k ∈ Sa, k ∉ Sb) (h4 : ∀ k ∈ Sa, B ≤ k ∧ k ∉ T) (h5 : ∀ k ∈ Sb, B ≤ k ∧ k ∉ T) :
    Two B ga gb T c' d w' ∧ Below B w w' ∧ Stay T w w' := by
  obtain ⟨S', k1, k2, k3⟩ := h.ex
  refine ⟨⟨⟨S', Sb, k1, h2.fr k3 fun k hk hk' => h3 k hk' hk, fun k hk hk' => ?_, fun k hk => ?_, h5⟩, fun k hk => Nat.lt_of_lt_of_le (hT k hk) k3.1.size⟩, k3.below hB fun k hk => (h4 k hk).1, fun k hk => k3.2 k (hT k hk) fun e => (h4 k e).2 hk⟩
  · rcases k2 k hk with e | e
    · exact h3 k e hk'
    · have := h2.lt k hk'
      omega
  · rcases k2 k hk with e | e
    · exact h4 k e
    · exact ⟨Nat.le_trans hB e, fun e' => by have := hT k e'; omega⟩
theorem two_does_a {B ga gb : Nat} {T : List Nat} {c d : Nat → Pp} {m : Nat} (k id n : Int) (s : ByteArray) (w : World) (h : Two B ga gb T c d w) (hB : B ≤ w.heap.size) (hg : Good c m) (hm : m ≤ 100000) (hs : s.size ≤ 40) :
    Calls Try.prog 11 #[.pointer (some ⟨ga, 0, none⟩), .agg #[.int .i64 k, .int .i64 id, .int .i64 n, .string s]] w fun e w' => e = .returned (.int .i64 (stE c (kd k) id s)) ∧ Two B ga gb T (stC c (kd k) id n s) d w' ∧ Below B w w' ∧ Stay T w w' := by
  obtain ⟨Sa, Sb, h1, h2, h3, h4, h5⟩ := h.ex
  exact (does_any ga Sa c k id n s w h1 (fun i hi => (hg i hi).1) (fun i hi => by have := (hg i hi).2; omega)).mono fun e w' ⟨he, hL⟩ => ⟨he, hL.two h.tl hB h1 h2 h3 h4 h5⟩
theorem two_does_b {B ga gb : Nat} {T : List Nat} {c d : Nat → Pp} {m : Nat} (k id n : Int) (s : ByteArray) (w : World) (h : Two B ga gb T c d w) (hB : B ≤ w.heap.size) (hg : Good d m) (hm : m ≤ 100000) (hs : s.size ≤ 40) :
    Calls Try.prog 11 #[.pointer (some ⟨gb, 0, none⟩), .agg #[.int .i64 k, .int .i64 id, .int .i64 n, .string s]] w fun e w' => e = .returned (.int .i64 (stE d (kd k) id s)) ∧ Two B ga gb T c (stC d (kd k) id n s) w' ∧ Below B w w' ∧ Stay T w w' :=
  (two_does_a k id n s w h.swap hB hg hm hs).mono fun _ _ ⟨h1, h2, h3⟩ => ⟨h1, h2.swap, h3⟩
theorem ArgOps.stay {T : List Nat} {w w' : World} {ao : Option Addr} {ts : List Sp} (h : ArgOps w ao ts) (hT : ∀ g off, ao = some ⟨g, off, none⟩ → g ∈ T) (hk : Stay T w w') (hs : w.heap.size ≤ w'.heap.size) : ArgOps w' ao ts := by
  intro i t ht
  obtain ⟨g, off, e, hg, k0, k1, k2, k3⟩ := h i t ht
  have hc : ∀ o, w'.cell? ⟨g, o, none⟩ = w.cell? ⟨g, o, none⟩ := fun o => World.cell?_of_block (hk g (hT g off e))
  exact ⟨g, off, e, Nat.lt_of_lt_of_le hg hs, by rw [hc]; exact k0, by rw [hc]; exact k1, by rw [hc]; exact k2, by rw [hc]; exact k3⟩
/-- What early made, as a script that lies in a block of its own. -/
theorem own_ops {B : Nat} {v : Value} {l : List Sp} {w : World} (h : w.ownsRow B 36 4 v l.length (steps l)) : ∃ ao cap, v = .slice ao l.length cap ∧ l.length ≤ cap ∧ ArgOps w ao l ∧ ∃ T : List Nat, (∀ k ∈ T, B ≤ k ∧ k < w.heap.size) ∧ ∀ g off, ao = some ⟨g, off, none⟩ → g ∈ T := by
  rcases h.2 with ⟨e1, e2⟩ | ⟨g, cap, cur, e1, h0, hgb, hnc, _, hcs, htk⟩
  · have e3 : l = [] := List.length_eq_zero_iff.1 e2
    subst e3
    exact ⟨none, 0, e1, Nat.le_refl _, fun i t ht => by simp at ht, [], fun k hk => (by cases hk), fun g off e => (by cases e)⟩
  · refine ⟨_, cap, e1, hnc, fun i t ht => ?_, [g], fun k hk => by rw [List.mem_singleton.1 hk]; exact ⟨h0, lt_of_heap hgb⟩, fun g' off e => by cases e; exact List.mem_singleton.2 rfl⟩
    have hi := (List.getElem?_eq_some_iff.1 ht).1
    have hc : ∀ j u, j < 4 → t.cells[j]? = some u → w.cell? ⟨g, 0 + i * 4 + j, none⟩ = some u := fun j u hj hu => by
      have e := steps_get l i j t ht hj
      rw [hu, ← htk, List.getElem?_take] at e
      split at e
      · have e' : cur[i * 4 + j]? = some u := by simpa using e
        rw [Nat.zero_add]
        simp only [World.cell?, hgb]
        simpa using e'
      · cases e
    exact ⟨g, 0, rfl, lt_of_heap hgb, hc 0 _ (by omega) rfl, hc 1 _ (by omega) rfl, hc 2 _ (by omega) rfl, hc 3 _ (by omega) rfl⟩
theorem earlyN_get {l : List Sp} {i : Nat} {t : Sp} (h : (earlyN l)[i]? = some t) : ∃ u, u ∈ l ∧ t = u.cut := by
  unfold earlyN at h
  rw [List.getElem?_map] at h
  obtain ⟨u, hu, rfl⟩ := Option.map_eq_some_iff.1 h
  exact ⟨u, List.mem_of_mem_take (List.mem_of_getElem? hu), rfl⟩
theorem cut_size (t : Sp) : t.cut.s.size ≤ 40 := cutB_size t.s
theorem earlyN_len (l : List Sp) : (earlyN l).length ≤ 100 := by
  unfold earlyN
  simp
  omega
/-- early, of a script. -/
theorem early_ops (ao : Option Addr) (cap : Nat) (l : List Sp) (w : World) (h : ArgOps w ao l) :
    Calls Try.prog 10 #[.slice ao l.length cap] w fun e w' => ∃ ao' cap', e = .returned (.slice ao' (earlyN l).length cap') ∧ (earlyN l).length ≤ cap' ∧ ArgOps w' ao' (earlyN l) ∧ (∃ T : List Nat, (∀ k ∈ T, w.heap.size ≤ k ∧ k < w'.heap.size) ∧ ∀ g off, ao' = some ⟨g, off, none⟩ → g ∈ T) ∧ Below w.heap.size w w' := by
  refine (early_any ao cap l w h).mono fun e w' ⟨v, he, ho, hb⟩ => ?_
  obtain ⟨ao', cap', rfl, k1, k2, k3⟩ := own_ops ho
  exact ⟨ao', cap', he, k1, k2, k3, hb⟩
end Go.Proofs.Yteejehbgmkanpaa
