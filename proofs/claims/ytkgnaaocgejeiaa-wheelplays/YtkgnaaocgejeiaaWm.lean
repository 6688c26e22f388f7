/-
  How wheels, rows of numbers and maps of numbers lie in memory, and what stays of them behind calls.
-/
import Derived.Test.YtkgnaaocgejeiaaChecked
import Derived.Deep.QuietTactic
import Derived.BigQuiet
import Derived.WalkKit
import Derived.BigCall
import Derived.Below
import Derived.OwnWalk
import Derived.RegionTactic
import Derived.BigRegion
import Derived.Deep.RegionWith
import Derived.Deep.AppendLies
import Derived.Deep.Draws
import Derived.Lib.SliceRun
import Derived.Maps.OwnSet
import Derived.Maps.OwnOps
import Derived.Maps.AppendAt
import Derived.Laws.OwnMore
import Derived.OneCell
import Derived.WalkSmall
import Derived.Handy
import Derived.Deep.RegionLaw
namespace Go.Proofs.Ytkgnaaocgejeiaa
open Go Go.RowKit Go.Maps
/-- A number of 64 bits. -/
def N (z : Int) : Prop := -9223372036854775808 ≤ z ∧ z ≤ 9223372036854775807
theorem wfN {z : Int} (h : N z) : (Lit.int .i64 z).wf = true := by
  have e1 : IntKind.i64.min = -9223372036854775808 := rfl
  have e2 : IntKind.i64.max = 9223372036854775807 := rfl
  obtain ⟨h1, h2⟩ := h
  simp [Lit.wf, e1, e2]
  omega
theorem law3 : Keyed Try.prog 3 := int_keyed Try.underlying3
theorem zero3 (w : World) : (zeroValue 3).run Try.prog w = .ok (.int .i64 0) w := by kernel_rfl
theorem key3 {z : Int} (h : N z) : keyOf Try.prog 3 (.int .i64 z) = some (.int .i64 z) := keyOf_int_mk Try.underlying3 (wfN h)
theorem lt_of_heap {w : World} {k : Nat} {o : Obj} (h : w.heap[k]? = some o) : k < w.heap.size := (Array.getElem?_eq_some_iff.1 h).1
/-- A function of numbers, changed at one place. -/
def upd (t : Int → Option Int) (z : Int) (o : Option Int) : Int → Option Int := fun y => if y = z then o else t y
/-- A map of numbers in memory: its block, how many, what is at each. -/
def MpAt (b c : Nat) (t : Int → Option Int) (w : World) : Prop :=
  ∃ D : DataW Unit, w.ownsMap Try.prog 3 (plainElem Try.prog 3) b c D ∧ Maps.size D = c ∧ ∀ z, N z → Maps.has D (.int .i64 z) = (t z).isSome ∧ D.atKey (.int .i64 z) (.lit (.int .i64 0)) = .lit (.int .i64 ((t z).getD 0))
theorem tight {w : World} {b n : Nat} {D : DataW Unit} (h : w.ownsMap Try.prog 3 (plainElem Try.prog 3) b n D) : w.ownsMap Try.prog 3 (plainElem Try.prog 3) b (Maps.size D) D := by
  obtain ⟨es, clock, hb, F, hs, rfl⟩ := h
  refine ⟨es, clock, hb, F, ?_, rfl⟩
  simp [Maps.size, length_sorted]
theorem MpAt.lt {b c : Nat} {t : Int → Option Int} {w : World} (h : MpAt b c t w) : b < w.heap.size := by
  obtain ⟨D, h, _⟩ := h
  exact h.lt
theorem MpAt.isMap {b c : Nat} {t : Int → Option Int} {w : World} (h : MpAt b c t w) : ∃ es cl, w.heap[b]? = some (.map es cl) := by
  obtain ⟨D, ⟨es, cl, hb, _⟩, _⟩ := h
  exact ⟨es, cl, hb⟩
theorem MpAt.keep {b c : Nat} {t : Int → Option Int} {w w' : World} (h : MpAt b c t w) (e : w'.heap[b]? = w.heap[b]?) : MpAt b c t w' := by
  obtain ⟨D, ⟨es, cl, hb, h2⟩, h3⟩ := h
  exact ⟨D, ⟨es, cl, e.trans hb, h2⟩, h3⟩
theorem MpAt.made (w : World) : MpAt w.heap.size 0 (fun _ => none) (w.alloc (.map #[] 0)) :=
  ⟨.map [], World.ownsMap_made _ _ _ _, rfl, fun z hz => by constructor <;> rfl⟩
theorem MpAt.look {b c : Nat} {t : Int → Option Int} {w : World} (h : MpAt b c t w) {z : Int} (hz : N z) : (Instr.lookup 52 (.map (some b)) (.int .i64 z) false).run Try.prog w = .ok (.int .i64 ((t z).getD 0)) w := by
  obtain ⟨D, h1, _, h3⟩ := h
  obtain ⟨k, hr, hat, _⟩ := h1.lookup_int law3 Try.underlying52 Try.underlying3 (zero3 w) (key3 hz)
  rw [(h3 z hz).2] at hat
  simp at hat
  rw [hr, ← hat]
theorem MpAt.lookok {b c : Nat} {t : Int → Option Int} {w : World} (h : MpAt b c t w) {z : Int} (hz : N z) : (Instr.lookup 52 (.map (some b)) (.int .i64 z) true).run Try.prog w = .ok (.tuple #[.int .i64 ((t z).getD 0), .bool (t z).isSome]) w := by
  obtain ⟨D, h1, _, h3⟩ := h
  obtain ⟨v, ps, hr, hv⟩ := h1.look_ok law3 Try.underlying52 (zero3 w) (plainElem_int Try.underlying3 (by decide)) (key3 hz)
  obtain ⟨k, rfl, hk, _⟩ := plainElem_int_inv Try.underlying3 hv
  rw [(h3 z hz).2] at hk
  simp at hk
  rw [hr, ← hk.1, (h3 z hz).1]
theorem look_none {z : Int} (w : World) (hz : N z) : (Instr.lookup 52 (.map none) (.int .i64 z) true).run Try.prog w = .ok (.tuple #[.int .i64 0, .bool false]) w := by
  have := Maps.look_nil (w := w) true law3 Try.underlying52 (zero3 w) (key3 hz)
  simpa using this
theorem lit_ne {y z : Int} (h : y ≠ z) : (Lit.int .i64 y) ≠ .int .i64 z := fun e => h (by cases e; rfl)
theorem MpAt.put {b c : Nat} {t : Int → Option Int} {w w' : World} {D : DataW Unit} {z v : Int} (hz : N z) (ht : t z = none) (h1 : w.ownsMap Try.prog 3 (plainElem Try.prog 3) b c D) (h2 : Maps.size D = c)
    (h3 : ∀ z, N z → Maps.has D (.int .i64 z) = (t z).isSome ∧ D.atKey (.int .i64 z) (.lit (.int .i64 0)) = .lit (.int .i64 ((t z).getD 0)))
    (hw : w'.ownsMap Try.prog 3 (plainElem Try.prog 3) b (c + 1) (D.put (.int .i64 z) (.lit (.int .i64 v)))) : MpAt b (c + 1) (upd t z (some v)) w' := by
  have td := h1.tidy law3
  refine ⟨_, hw, ?_, fun y hy => ?_⟩
  · rw [Maps.size_put td, (h3 z hz).1, ht, h2]; rfl
  · unfold upd
    by_cases e : y = z
    · subst e
      rw [if_pos rfl]
      exact ⟨Maps.has_put_same td.isMap (by trivial) _, Maps.atKey_put_same td.isMap (by trivial) _ _⟩
    · rw [if_neg e, Maps.has_put_other (lit_ne e), Maps.atKey_put_other (lit_ne e)]
      exact h3 y hy
theorem MpAt.del {b c : Nat} {t : Int → Option Int} {w w' : World} {D : DataW Unit} {z : Int} (hz : N z) (ht : (t z).isSome = true) (h1 : w.ownsMap Try.prog 3 (plainElem Try.prog 3) b c D) (h2 : Maps.size D = c)
    (h3 : ∀ z, N z → Maps.has D (.int .i64 z) = (t z).isSome ∧ D.atKey (.int .i64 z) (.lit (.int .i64 0)) = .lit (.int .i64 ((t z).getD 0)))
    (hw : w'.ownsMap Try.prog 3 (plainElem Try.prog 3) b c (D.del (.int .i64 z))) : MpAt b (c - 1) (upd t z none) w' := by
  have td := h1.tidy law3
  have hs := Maps.size_del (k := .int .i64 z) td
  rw [(h3 z hz).1, ht, h2] at hs
  simp at hs
  have hs' : Maps.size (D.del (.int .i64 z)) = c - 1 := by omega
  refine ⟨_, ?_, hs', fun y hy => ?_⟩
  · have := tight hw
    rw [hs'] at this
    exact this
  · unfold upd
    by_cases e : y = z
    · subst e
      rw [if_pos rfl]
      exact ⟨Maps.has_del_same, Maps.atKey_del_same _⟩
    · rw [if_neg e, Maps.has_del_other (lit_ne e), Maps.atKey_del_other (lit_ne e)]
      exact h3 y hy
/-- The head of a wheel in memory. -/
def HdAt (g : Nat) (now : Int) (v m : Value) (w : World) : Prop := w.heap[g]? = some (.cells #[.int .i64 now, v, m] 56 (0, 0))
theorem HdAt.c0 {g : Nat} {now : Int} {v m : Value} {w : World} (h : HdAt g now v m w) : w.cell? ⟨g, 0, none⟩ = some (.int .i64 now) := by
  unfold HdAt at h
  simp [World.cell?, h]
theorem HdAt.c1 {g : Nat} {now : Int} {v m : Value} {w : World} (h : HdAt g now v m w) : w.cell? ⟨g, 1, none⟩ = some v := by
  unfold HdAt at h
  simp [World.cell?, h]
theorem HdAt.c2 {g : Nat} {now : Int} {v m : Value} {w : World} (h : HdAt g now v m w) : w.cell? ⟨g, 2, none⟩ = some m := by
  unfold HdAt at h
  simp [World.cell?, h]
theorem HdAt.fz {g : Nat} {now : Int} {v m : Value} {w : World} (h : HdAt g now v m w) (o : Nat) : w.frozen? ⟨g, o, none⟩ = false := by
  unfold HdAt at h
  simp [World.frozen?, h]
theorem heap_set {w : World} {b : Nat} {cs : Array Value} {T : TypeId} {fr : Nat × Nat} (h : w.heap[b]? = some (.cells cs T fr)) (o : Nat) (v : Value) :
    (w.setCell ⟨b, o, none⟩ v).heap[b]? = some (.cells (cs.setIfInBounds o v) T fr) := by
  have hlt := lt_of_heap h
  have h' : w.heap[b] = .cells cs T fr := by simpa [Array.getElem?_eq_getElem hlt] using h
  show (w.heap.modify b _)[b]? = _
  rw [Array.getElem?_eq_getElem (by simpa using hlt), Array.getElem_modify_self, h']
  rfl
theorem HdAt.set0 {g : Nat} {now : Int} {v m : Value} {w : World} (h : HdAt g now v m w) (z : Int) : HdAt g z v m (w.setCell ⟨g, 0, none⟩ (.int .i64 z)) := heap_set h 0 _
theorem HdAt.set1 {g : Nat} {now : Int} {v m : Value} {w : World} (h : HdAt g now v m w) (v' : Value) : HdAt g now v' m (w.setCell ⟨g, 1, none⟩ v') := heap_set h 1 _
theorem HdAt.set2 {g : Nat} {now : Int} {v m : Value} {w : World} (h : HdAt g now v m w) (m' : Value) : HdAt g now v m' (w.setCell ⟨g, 2, none⟩ m') := heap_set h 2 _
theorem HdAt.keep {g : Nat} {now : Int} {v m : Value} {w w' : World} (h : HdAt g now v m w) (e : w'.heap[g]? = w.heap[g]?) : HdAt g now v m w' := e.trans h
/-- The cells of numbers. -/
def ints (l : List Int) : List Value := l.map (Value.int .i64)
theorem ints_length (l : List Int) : (ints l).length = l.length := List.length_map _
theorem ints_get (l : List Int) (i : Nat) : (ints l)[i]? = l[i]?.map (Value.int .i64) := List.getElem?_map
theorem ints_one (l : List Int) : ∀ u ∈ ints l, u.oneCell' = true := by
  intro u hu
  obtain ⟨s, _, rfl⟩ := List.mem_map.1 hu
  rfl
/-- A row of numbers that has a block of its own. -/
def RwAt (p cap : Nat) (l : List Int) (w : World) : Prop := w.ownsRow 0 3 1 (.slice (some ⟨p, 0, none⟩) l.length cap) l.length (ints l)
theorem RwAt.block {p cap : Nat} {l : List Int} {w : World} (h : RwAt p cap l w) : ∃ cur, w.heap[p]? = some (.cells cur 3 (0, 0)) := by
  rcases h.2 with ⟨h', _⟩ | ⟨g', cap', cur, h', _, hg, _⟩
  · cases h'
  · cases h'
    exact ⟨cur, hg⟩
theorem RwAt.lt {p cap : Nat} {l : List Int} {w : World} (h : RwAt p cap l w) : p < w.heap.size := by
  obtain ⟨cur, h⟩ := h.block
  exact lt_of_heap h
theorem RwAt.keep {p cap : Nat} {l : List Int} {w w' : World} (h : RwAt p cap l w) (e : w'.heap[p]? = w.heap[p]?) : RwAt p cap l w' := by
  refine ⟨h.1, ?_⟩
  rcases h.2 with ⟨h', _⟩ | ⟨g', cap', cur, h', h0, hg, r⟩
  · cases h'
  · cases h'
    exact .inr ⟨_, _, cur, rfl, h0, e.trans hg, r⟩
theorem RwAt.cell {p cap : Nat} {l : List Int} {w : World} (h : RwAt p cap l w) {i : Nat} {z : Int} (hi : l[i]? = some z) : w.cell? ⟨p, i, none⟩ = some (.int .i64 z) := by
  have hl := (List.getElem?_eq_some_iff.1 hi).1
  rw [World.ownsRow.cellAt h i (by omega), ints_get, hi]
  rfl
theorem RwAt.fz {p cap : Nat} {l : List Int} {w : World} (h : RwAt p cap l w) (i : Nat) : w.frozen? ⟨p, i, none⟩ = false := World.ownsRow.frozenAt h i
theorem RwAt.set {p cap : Nat} {l : List Int} {w : World} (h : RwAt p cap l w) (i : Nat) (z : Int) : RwAt p cap (l.set i z) (w.setCell ⟨p, i, none⟩ (.int .i64 z)) := by
  have := (World.ownsRow.stored h i (.int .i64 z)).1
  unfold RwAt
  rw [List.length_set]
  have e : ints (l.set i z) = (ints l).set i (.int .i64 z) := List.map_set
  rw [e]
  exact this
theorem RwAt.pop {p cap : Nat} {l : List Int} {z : Int} {w : World} (h : RwAt p cap (l ++ [z]) w) : RwAt p cap l w := by
  unfold RwAt at h ⊢
  have e : ints (l ++ [z]) = ints l ++ ints [z] := List.map_append
  rw [e, List.length_append] at h
  exact ownsRow_pop (by rw [ints_length, Nat.mul_one]) h
theorem RwAt.cap {p cap : Nat} {l : List Int} {w : World} (h : RwAt p cap l w) : l.length ≤ cap ∧ cap ≤ maxLen := by
  rcases h.2 with ⟨h', _⟩ | ⟨g', cap', cur, h', _, _, h1, h2, _⟩
  · cases h'
  · cases h'
    exact ⟨h1, h2⟩
/-- A queue in memory, both its row and its map made. -/
structure QAt (g p cap b c : Nat) (now : Int) (l : List Int) (t : Int → Option Int) (w : World) : Prop where
  hd : HdAt g now (.slice (some ⟨p, 0, none⟩) l.length cap) (.map (some b)) w
  rw : RwAt p cap l w
  mp : MpAt b c t w
  nn : ∀ z ∈ l, N z
theorem QAt.ne {g p cap b c : Nat} {now : Int} {l : List Int} {t : Int → Option Int} {w : World} (h : QAt g p cap b c now l t w) : g ≠ p ∧ g ≠ b ∧ p ≠ b := by
  obtain ⟨cur, hp⟩ := h.rw.block
  obtain ⟨es, cl, hb⟩ := h.mp.isMap
  have hg := h.hd
  unfold HdAt at hg
  refine ⟨?_, ?_, ?_⟩
  · rintro rfl
    rw [hg] at hp
    have := (Obj.cells.inj (Option.some.inj hp)).2.1
    simp at this
  · rintro rfl
    rw [hg] at hb
    cases hb
  · rintro rfl
    rw [hp] at hb
    cases hb
theorem QAt.lt {g p cap b c : Nat} {now : Int} {l : List Int} {t : Int → Option Int} {w : World} (h : QAt g p cap b c now l t w) : g < w.heap.size ∧ p < w.heap.size ∧ b < w.heap.size := ⟨lt_of_heap h.hd, h.rw.lt, h.mp.lt⟩
theorem QAt.keep {g p cap b c : Nat} {now : Int} {l : List Int} {t : Int → Option Int} {w w' : World} (h : QAt g p cap b c now l t w) (e1 : w'.heap[g]? = w.heap[g]?) (e2 : w'.heap[p]? = w.heap[p]?) (e3 : w'.heap[b]? = w.heap[b]?) : QAt g p cap b c now l t w' :=
  ⟨h.hd.keep e1, h.rw.keep e2, h.mp.keep e3, h.nn⟩
theorem QAt.alike {g p cap b c : Nat} {now : Int} {l : List Int} {t : Int → Option Int} {w w' : World} (h : QAt g p cap b c now l t w) (e : w'.heap = w.heap) : QAt g p cap b c now l t w' := h.keep (by rw [e]) (by rw [e]) (by rw [e])
/-- A call that may have written the blocks of a list. -/
def Fr (S : List Nat) (w w' : World) : Prop := Below 0 w w' ∧ ∀ k, k < w.heap.size → k ∉ S → w'.heap[k]? = w.heap[k]?
theorem Fr.refl (S : List Nat) (w : World) : Fr S w w := ⟨Below.refl _ _, fun _ _ _ => rfl⟩
theorem Fr.trans {S : List Nat} {a b c : World} (h : Fr S a b) (k : Fr S b c) : Fr S a c :=
  ⟨h.1.trans k.1, fun i hi h1 => (k.2 i (Nat.lt_of_lt_of_le hi h.1.size) h1).trans (h.2 i hi h1)⟩
theorem Fr.of_below {S : List Nat} {w w' : World} (h : Below w.heap.size w w') : Fr S w w' := ⟨h.mono (Nat.zero_le _), fun k hk _ => h.block k hk⟩
theorem Fr.mono {S T : List Nat} {w w' : World} (h : Fr S w w') (hs : ∀ k ∈ S, k ∈ T ∨ w.heap.size ≤ k) : Fr T w w' :=
  ⟨h.1, fun k hk hT => h.2 k hk fun e => (hs k e).elim hT (fun h => by omega)⟩
theorem Fr.below {S : List Nat} {B : Nat} {w w' : World} (h : Fr S w w') (hB : B ≤ w.heap.size) (hs : ∀ k ∈ S, B ≤ k) : Below B w w' :=
  ⟨h.1.os, h.1.tape, h.1.output, h.1.size, fun k hk => h.2 k (Nat.lt_of_lt_of_le hk hB) (fun e => by have := hs k e; omega)⟩
theorem Fr.setCell {S : List Nat} {a w : World} (h : Fr S a w) {b : Nat} (o : Nat) (v : Value) (hb : b ∈ S) : Fr S a (w.setCell ⟨b, o, none⟩ v) :=
  ⟨h.1.setCell (p := ⟨b, o, none⟩) (Nat.zero_le _) v, fun k hk h1 => (Below.heap_setCell w ⟨b, o, none⟩ v k (by show k ≠ b; rintro rfl; exact h1 hb)).trans (h.2 k hk h1)⟩
theorem Fr.alike {S : List Nat} {a w w' : World} (h : Fr S a w) (e1 : w'.os = w.os) (e2 : w'.tape = w.tape) (e3 : w'.output = w.output) (e4 : w'.heap = w.heap) : Fr S a w' :=
  h.trans ⟨⟨e1, e2, e3, by rw [e4]; exact Nat.le_refl _, fun k _ => by rw [e4]⟩, fun k _ _ => by rw [e4]⟩
theorem Fr.grown {S : List Nat} {a w w' : World} {r : Option Nat} (h : Fr S a w) (hg : w.grownBy w' r) (hr : ∀ k, r = some k → k ∈ S) : Fr S a w' :=
  h.trans ⟨⟨hg.os, hg.tape, hg.output, hg.size, fun k hk => by omega⟩, fun k hk hS => hg.block k hk (fun e => hS (hr k e.symm))⟩
theorem Fr.alloc {S : List Nat} {a w : World} (h : Fr S a w) (o : Obj) : Fr S a (w.alloc o) := h.grown (World.grownBy_alloc w o none) (fun _ e => by cases e)
theorem below_drewN {B : Nat} {w w' : World} {k : Nat} (h : Below B w w') : Below B w (w'.drewN k) := h.trans ⟨rfl, rfl, rfl, Nat.le_refl _, fun _ _ => rfl⟩
/-- What is due first, of two numbers. -/
def ltT (t : Int → Option Int) (a b : Int) : Bool := if (t a).getD 0 = (t b).getD 0 then decide (a < b) else decide ((t a).getD 0 < (t b).getD 0)
end Go.Proofs.Ytkgnaaocgejeiaa
