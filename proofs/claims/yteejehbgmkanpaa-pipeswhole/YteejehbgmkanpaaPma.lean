/-
  How connections lie in memory, and what stays of them behind calls; a string appended to a row of bytes that a call owns.
-/
import Derived.Test.YteejehbgmkanpaaChecked
import Derived.Deep.QuietTactic
import Derived.BigQuiet
import Derived.WalkKit
import Derived.BigCall
import Derived.Below
import Derived.OwnWalk
import Derived.RegionTactic
import Derived.BigRegion
import Derived.Deep.RegionWith
import Derived.Deep.Draws
import Derived.Lib.SliceRun
import Derived.Lib.AppendStr
import Derived.Laws.BytesString
import Derived.Laws.IdiomStrings
import Derived.Laws.OwnMore
import Derived.Deep.RegionLaw
namespace Go.Proofs.Yteejehbgmkanpaa
open Go Go.RowKit
/-- A number of 64 bits. -/
def N (z : Int) : Prop := -9223372036854775808 ≤ z ∧ z ≤ 9223372036854775807
theorem lt_of_heap {w : World} {k : Nat} {o : Obj} (h : w.heap[k]? = some o) : k < w.heap.size := (Array.getElem?_eq_some_iff.1 h).1
theorem heap_set {w : World} {b : Nat} {cs : Array Value} {T : TypeId} {fr : Nat × Nat} (h : w.heap[b]? = some (.cells cs T fr)) (o : Nat) (v : Value) :
    (w.setCell ⟨b, o, none⟩ v).heap[b]? = some (.cells (cs.setIfInBounds o v) T fr) := by
  have hlt := lt_of_heap h
  have h' : w.heap[b] = .cells cs T fr := by simpa [Array.getElem?_eq_getElem hlt] using h
  show (w.heap.modify b _)[b]? = _
  rw [Array.getElem?_eq_getElem (by simpa using hlt), Array.getElem_modify_self, h']
  rfl
/-- A call that may have written the blocks of a list. -/
def Fr (S : List Nat) (w w' : World) : Prop := Below 0 w w' ∧ ∀ k, k < w.heap.size → k ∉ S → w'.heap[k]? = w.heap[k]?
theorem Fr.refl (S : List Nat) (w : World) : Fr S w w := ⟨Below.refl _ _, fun _ _ _ => rfl⟩
theorem Fr.trans {S : List Nat} {a b c : World} (h : Fr S a b) (k : Fr S b c) : Fr S a c :=
  ⟨h.1.trans k.1, fun i hi h1 => (k.2 i (Nat.lt_of_lt_of_le hi h.1.size) h1).trans (h.2 i hi h1)⟩
theorem Fr.of_below {S : List Nat} {w w' : World} (h : Below w.heap.size w w') : Fr S w w' := ⟨h.mono (Nat.zero_le _), fun k hk _ => h.block k hk⟩
theorem Fr.mono {S T : List Nat} {w w' : World} (h : Fr S w w') (hs : ∀ k ∈ S, k ∈ T ∨ w.heap.size ≤ k) : Fr T w w' :=
  ⟨h.1, fun k hk hT => h.2 k hk fun e => (hs k e).elim hT (fun h => by omega)⟩
theorem Fr.below {S : List Nat} {B : Nat} {w w' : World} (h : Fr S w w') (hB : B ≤ w.heap.size) (hs : ∀ k ∈ S, B ≤ k) : Below B w w' :=
  ⟨h.1.os, h.1.tape, h.1.output, h.1.size, fun k hk => h.2 k (Nat.lt_of_lt_of_le hk hB) (fun e => by have := hs k e; omega)⟩
theorem Fr.setCell {S : List Nat} {a w : World} (h : Fr S a w) {b : Nat} (o : Nat) (v : Value) (hb : b ∈ S) : Fr S a (w.setCell ⟨b, o, none⟩ v) :=
  ⟨h.1.setCell (p := ⟨b, o, none⟩) (Nat.zero_le _) v, fun k hk h1 => (Below.heap_setCell w ⟨b, o, none⟩ v k (by show k ≠ b; rintro rfl; exact h1 hb)).trans (h.2 k hk h1)⟩
theorem Fr.alike {S : List Nat} {a w w' : World} (h : Fr S a w) (e1 : w'.os = w.os) (e2 : w'.tape = w.tape) (e3 : w'.output = w.output) (e4 : w'.heap = w.heap) : Fr S a w' :=
  h.trans ⟨⟨e1, e2, e3, by rw [e4]; exact Nat.le_refl _, fun k _ => by rw [e4]⟩, fun k _ _ => by rw [e4]⟩
theorem Fr.grown {S : List Nat} {a w w' : World} {r : Option Nat} (h : Fr S a w) (hg : w.grownBy w' r) (hr : ∀ k, r = some k → k ∈ S) : Fr S a w' :=
  h.trans ⟨⟨hg.os, hg.tape, hg.output, hg.size, fun k hk => by omega⟩, fun k hk hS => hg.block k hk (fun e => hS (hr k e.symm))⟩
theorem Fr.alloc {S : List Nat} {a w : World} (h : Fr S a w) (o : Obj) : Fr S a (w.alloc o) := h.grown (World.grownBy_alloc w o none) (fun _ e => by cases e)
/-- A row stays owned where its own block stays. -/
theorem owns_keep {w w' : World} {B : Nat} {e : TypeId} {sz : Nat} {v : Value} {n : Nat} {xs : List Value} (h : w.ownsRow B e sz v n xs) (hk : ∀ g, v.ownBlock = some g → w'.heap[g]? = w.heap[g]?) : w'.ownsRow B e sz v n xs := by
  refine ⟨h.1, ?_⟩
  rcases h.2 with h' | ⟨g, cap, cur, h', h0, hg, r⟩
  · exact .inl h'
  · exact .inr ⟨g, cap, cur, h', h0, (hk g (by rw [h']; rfl)).trans hg, r⟩
theorem owns_base {w : World} {B C : Nat} {e : TypeId} {sz : Nat} {v : Value} {n : Nat} {xs : List Value} (h : w.ownsRow B e sz v n xs) (hk : ∀ g, v.ownBlock = some g → C ≤ g) : w.ownsRow C e sz v n xs := by
  refine ⟨h.1, ?_⟩
  rcases h.2 with h' | ⟨g, cap, cur, h', h0, hg, r⟩
  · exact .inl h'
  · exact .inr ⟨g, cap, cur, h', hk g (by rw [h']; rfl), hg, r⟩
/-- A connection, as the program keeps it: open, broken; does it break, behind how many; what came out. -/
structure Pp where
  op : Bool
  bk : Bool
  br : Bool
  lf : Int
  out : ByteArray
structure Pok (p : Pp) : Prop where
  n : N p.lf
  l : p.br = true → 0 ≤ p.lf
/-- The cells of a connection. -/
def Cn (cs : Array Value) (o : Nat) (p : Pp) (v : Value) : Prop :=
  cs[o]? = some (.bool p.op) ∧ cs[o + 1]? = some (.bool p.bk) ∧ cs[o + 2]? = some (.bool p.br) ∧ cs[o + 3]? = some (.int .i64 p.lf) ∧ cs[o + 4]? = some v
/-- Sixteen connections in memory, and the blocks that they have. -/
structure PsM (r : Nat) (S : List Nat) (c : Nat → Pp) (w : World) : Prop where
  rS : r ∈ S
  lt : ∀ k ∈ S, k < w.heap.size
  mem : ∃ (cs : Array Value) (vs : Nat → Value), w.heap[r]? = some (.cells cs 56 (0, 0)) ∧ (∀ i, i < 16 → Cn cs (i * 5) (c i) (vs i)) ∧
    (∀ i, i < 16 → w.ownsRow 0 5 1 (vs i) (c i).out.size (Lib.strCells (c i).out)) ∧
    (∀ i g, i < 16 → (vs i).ownBlock = some g → g ≠ r ∧ g ∈ S) ∧
    (∀ i j g, i < 16 → j < 16 → (vs i).ownBlock = some g → (vs j).ownBlock = some g → i = j)
theorem PsM.keep {r : Nat} {S : List Nat} {c : Nat → Pp} {w w' : World} (h : PsM r S c w) (e : ∀ k ∈ S, w'.heap[k]? = w.heap[k]?) (hs : w.heap.size ≤ w'.heap.size) : PsM r S c w' := by
  obtain ⟨cs, vs, h1, h2, h3, h4, h5⟩ := h.mem
  exact ⟨h.rS, fun k hk => Nat.lt_of_lt_of_le (h.lt k hk) hs, cs, vs, (e r h.rS).trans h1, h2, fun i hi => owns_keep (h3 i hi) fun g hg => e g (h4 i g hi hg).2, h4, h5⟩
theorem PsM.below {r : Nat} {S : List Nat} {c : Nat → Pp} {w w' : World} (h : PsM r S c w) (hb : Below w.heap.size w w') : PsM r S c w' := h.keep (fun k hk => hb.block k (h.lt k hk)) hb.size
theorem PsM.fr {r : Nat} {S T : List Nat} {c : Nat → Pp} {w w' : World} (h : PsM r S c w) (hb : Fr T w w') (hd : ∀ k ∈ S, k ∉ T) : PsM r S c w' := h.keep (fun k hk => hb.2 k (h.lt k hk) (hd k hk)) hb.1.size
theorem PsM.alike {r : Nat} {S : List Nat} {c : Nat → Pp} {w w' : World} (h : PsM r S c w) (e : w'.heap = w.heap) : PsM r S c w' := h.keep (fun k _ => by rw [e]) (by rw [e]; exact Nat.le_refl _)
/-- One connection put anew. -/
def upd {α : Type} (c : Nat → α) (i : Nat) (p : α) : Nat → α := fun j => if j = i then p else c j
theorem upd_self {α : Type} (c : Nat → α) (i : Nat) (p : α) : upd c i p i = p := if_pos rfl
theorem upd_ne {α : Type} {c : Nat → α} {i j : Nat} {p : α} (h : j ≠ i) : upd c i p j = c j := if_neg h
theorem upd_upd {α : Type} (c : Nat → α) (i : Nat) (p q : α) : upd (upd c i p) i q = upd c i q := by
  funext j
  unfold upd
  split <;> rfl
theorem upd_same {α : Type} (c : Nat → α) (i : Nat) : upd c i (c i) = c := by
  funext j
  unfold upd
  split
  · subst_vars; rfl
  · rfl
theorem Cn.other {cs : Array Value} {o k : Nat} {p : Pp} {v x : Value} (h : Cn cs o p v) (hk : k < o ∨ o + 5 ≤ k) : Cn (cs.setIfInBounds k x) o p v := by
  obtain ⟨h0, h1, h2, h3, h4⟩ := h
  unfold Cn
  simp only [Array.getElem?_setIfInBounds]
  rw [if_neg (by omega), if_neg (by omega), if_neg (by omega), if_neg (by omega), if_neg (by omega)]
  exact ⟨h0, h1, h2, h3, h4⟩
/-- A store to one of a connection's first four cells. -/
theorem PsM.set {r : Nat} {S : List Nat} {c : Nat → Pp} {w : World} (h : PsM r S c w) {i : Nat} (hi : i < 16) (k : Nat) (hk : k < 5) (x : Value) (p : Pp) (hp : p.out = (c i).out)
    (hx : ∀ cs v, Cn cs (i * 5) (c i) v → Cn (cs.setIfInBounds (i * 5 + k) x) (i * 5) p v) : PsM r S (upd c i p) (w.setCell ⟨r, i * 5 + k, none⟩ x) := by
  obtain ⟨cs, vs, h1, h2, h3, h4, h5⟩ := h.mem
  have hsz := ((Below.refl 0 w).setCell (p := ⟨r, i * 5 + k, none⟩) (Nat.zero_le _) x).size
  refine ⟨h.rS, fun k hk => Nat.lt_of_lt_of_le (h.lt k hk) hsz, _, vs, heap_set h1 _ _, fun j hj => ?_, fun j hj => ?_, h4, h5⟩
  · by_cases e : j = i
    · subst e
      rw [upd_self]
      exact hx cs _ (h2 j hj)
    · rw [upd_ne e]
      exact (h2 j hj).other (by omega)
  · have e1 : (upd c i p j).out = (c j).out := by
      by_cases e : j = i
      · subst e
        rw [upd_self, hp]
      · rw [upd_ne e]
    rw [e1]
    exact owns_keep (h3 j hj) fun g hg => Below.heap_setCell w ⟨r, i * 5 + k, none⟩ x g (h4 j g hj hg).1
theorem get_lt {cs : Array Value} {o : Nat} {v : Value} (h : cs[o]? = some v) : o < cs.size := (Array.getElem?_eq_some_iff.1 h).1
theorem Cn.op {cs : Array Value} {o : Nat} {p : Pp} {v : Value} (h : Cn cs o p v) (b : Bool) : Cn (cs.setIfInBounds (o + 0) (.bool b)) o { p with op := b } v := by
  obtain ⟨h0, h1, h2, h3, h4⟩ := h
  have hl := get_lt h0
  simp [Cn, h1, h2, h3, h4, hl]
theorem Cn.bk {cs : Array Value} {o : Nat} {p : Pp} {v : Value} (h : Cn cs o p v) (b : Bool) : Cn (cs.setIfInBounds (o + 1) (.bool b)) o { p with bk := b } v := by
  obtain ⟨h0, h1, h2, h3, h4⟩ := h
  have hl := get_lt h1
  simp [Cn, h0, h2, h3, h4, hl]
theorem Cn.br {cs : Array Value} {o : Nat} {p : Pp} {v : Value} (h : Cn cs o p v) (b : Bool) : Cn (cs.setIfInBounds (o + 2) (.bool b)) o { p with br := b } v := by
  obtain ⟨h0, h1, h2, h3, h4⟩ := h
  have hl := get_lt h2
  simp [Cn, h0, h1, h3, h4, hl]
theorem Cn.lf {cs : Array Value} {o : Nat} {p : Pp} {v : Value} (h : Cn cs o p v) (z : Int) : Cn (cs.setIfInBounds (o + 3) (.int .i64 z)) o { p with lf := z } v := by
  obtain ⟨h0, h1, h2, h3, h4⟩ := h
  have hl := get_lt h3
  simp [Cn, h0, h1, h2, h4, hl]
theorem Cn.out {cs : Array Value} {o : Nat} {p : Pp} {v : Value} (h : Cn cs o p v) (u : Value) (s : ByteArray) : Cn (cs.setIfInBounds (o + 4) u) o { p with out := s } u := by
  obtain ⟨h0, h1, h2, h3, h4⟩ := h
  have hl := get_lt h4
  simp [Cn, h0, h1, h2, h3, hl]
/-- A connection's cells, one by one. -/
theorem PsM.cells {r : Nat} {S : List Nat} {c : Nat → Pp} {w : World} (h : PsM r S c w) {i : Nat} (hi : i < 16) :
    w.cell? ⟨r, i * 5, none⟩ = some (.bool (c i).op) ∧ w.cell? ⟨r, i * 5 + 1, none⟩ = some (.bool (c i).bk) ∧ w.cell? ⟨r, i * 5 + 2, none⟩ = some (.bool (c i).br) ∧ w.cell? ⟨r, i * 5 + 3, none⟩ = some (.int .i64 (c i).lf) ∧
      ∃ v, w.cell? ⟨r, i * 5 + 4, none⟩ = some v ∧ w.ownsRow 0 5 1 v (c i).out.size (Lib.strCells (c i).out) := by
  obtain ⟨cs, vs, h1, h2, h3, h4, h5⟩ := h.mem
  obtain ⟨g0, g1, g2, g3, g4⟩ := h2 i hi
  have hc : ∀ (o : Nat) (v : Value), cs[o]? = some v → w.cell? ⟨r, o, none⟩ = some v := fun o v e => by simp [World.cell?, h1, e]
  exact ⟨hc _ _ g0, hc _ _ g1, hc _ _ g2, hc _ _ g3, _, hc _ _ g4, h3 i hi⟩
theorem PsM.fz {r : Nat} {S : List Nat} {c : Nat → Pp} {w : World} (h : PsM r S c w) (o : Nat) : w.frozen? ⟨r, o, none⟩ = false := by
  obtain ⟨cs, vs, h1, h2, h3, h4, h5⟩ := h.mem
  simp [World.frozen?, h1]
end Go.Proofs.Yteejehbgmkanpaa
