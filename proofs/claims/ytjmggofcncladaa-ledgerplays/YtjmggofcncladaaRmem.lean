/-
  How rings and rows of texts lie in memory, and what stays of them behind calls; the places of a ring in plain numbers.
-/
import Derived.Test.YtjmggofcncladaaChecked
import Derived.Deep.QuietTactic
import Derived.BigQuiet
import Derived.WalkKit
import Derived.BigCall
import Derived.Below
import Derived.OwnWalk
import Derived.CellFam
import Derived.RegionTactic
import Derived.BigRegion
import Derived.Deep.RegionWith
import Derived.Deep.AppendLies
import Derived.Deep.Draws
import Derived.Lib.SliceRun
import Derived.Laws.AppendOwnNone
import Derived.Laws.CopyOwn
namespace Go.Proofs.Ytjmggofcncladaa
open Go Go.RowKit
theorem ret_bool {a b : Bool} (h : a = b) : Ending.returned (.bool a) = .returned (.bool b) := by rw [h]
/-- The cells of texts. -/
def strs (l : List ByteArray) : List Value := l.map .string
theorem strs_length (l : List ByteArray) : (strs l).length = l.length := List.length_map _
theorem strs_get (l : List ByteArray) (i : Nat) : (strs l)[i]? = l[i]?.map .string := List.getElem?_map
theorem strs_one (l : List ByteArray) : ∀ u ∈ strs l, u.oneCell' = true := by
  intro u hu
  obtain ⟨s, _, rfl⟩ := List.mem_map.1 hu
  rfl
theorem strs_app (a b : List ByteArray) : strs (a ++ b) = strs a ++ strs b := List.map_append
theorem strs_set (l : List ByteArray) (i : Nat) (s : ByteArray) : strs (l.set i s) = (strs l).set i (.string s) := List.map_set
/-- A row of texts, as it lies: read alone. -/
def RowS (w : World) (ao : Option Addr) (l : List ByteArray) : Prop := ∀ i s, l[i]? = some s → ∃ ad, ao = some ad ∧ w.cell? (ad.add i) = some (.string s)
theorem lt_of_heap {w : World} {k : Nat} {o : Obj} (h : w.heap[k]? = some o) : k < w.heap.size := (Array.getElem?_eq_some_iff.1 h).1
theorem mod_if (f i n : Nat) (hf : f < n) (hi : i ≤ n) : (f + i) % n = if f + i < n then f + i else f + i - n := by
  split
  · exact Nat.mod_eq_of_lt (by assumption)
  · rw [Nat.mod_eq_sub_mod (by omega)]
    exact Nat.mod_eq_of_lt (by omega)
theorem mod_ne {f i j n : Nat} (hf : f < n) (hi : i < j) (hj : j < n) : (f + i) % n ≠ (f + j) % n := by
  rw [mod_if f i n hf (by omega), mod_if f j n hf (by omega)]
  split <;> split <;> omega
theorem mod_mod (f i j n : Nat) : ((f + i) % n + j) % n = (f + (i + j)) % n := by
  rw [Nat.mod_add_mod, Nat.add_assoc]
/-- The head of a ring in memory: its block, its places' block, how many places, the first one, how many texts. -/
def HdAt (r p n f c : Nat) (w : World) : Prop := w.heap[r]? = some (.cells #[.slice (some ⟨p, 0, none⟩) n n, .int .i64 (f : Int), .int .i64 (c : Int)] 65 (0, 0))
/-- The places. -/
def PlAt (p n : Nat) (g : List ByteArray) (w : World) : Prop := g.length = n ∧ w.heap[p]? = some (.cells (strs g).toArray 9 (0, 0))
/-- A ring in memory, and its texts. -/
structure RgAt (r p n f : Nat) (l : List ByteArray) (w : World) : Prop where
  n0 : 0 < n
  n64 : n ≤ 64
  fn : f < n
  ln : l.length ≤ n
  hd : HdAt r p n f l.length w
  pl : ∃ g : List ByteArray, PlAt p n g w ∧ ∀ i, i < l.length → g[(f + i) % n]? = l[i]?
theorem ne_rp {r p n f c : Nat} {w : World} {g : List ByteArray} (h : HdAt r p n f c w) (k : PlAt p n g w) : r ≠ p := by
  rintro rfl
  have := k.2
  unfold HdAt at h
  rw [h] at this
  have := (Obj.cells.inj (Option.some.inj this)).2.1
  simp at this
/-- A call that may have written blocks r and p. -/
def Fz (r p : Nat) (w w' : World) : Prop := Below 0 w w' ∧ ∀ k, k < w.heap.size → k ≠ r → k ≠ p → w'.heap[k]? = w.heap[k]?
theorem Fz.refl (r p : Nat) (w : World) : Fz r p w w := ⟨Below.refl _ _, fun _ _ _ _ => rfl⟩
theorem Fz.trans {r p : Nat} {a b c : World} (h : Fz r p a b) (k : Fz r p b c) : Fz r p a c :=
  ⟨h.1.trans k.1, fun i hi h1 h2 => (k.2 i (Nat.lt_of_lt_of_le hi h.1.size) h1 h2).trans (h.2 i hi h1 h2)⟩
theorem Fz.of_below {r p : Nat} {w w' : World} (h : Below w.heap.size w w') : Fz r p w w' := ⟨h.mono (Nat.zero_le _), fun k hk _ _ => h.block k hk⟩
theorem Fz.below {r p B : Nat} {w w' : World} (h : Fz r p w w') (hB : B ≤ w.heap.size) (hr : B ≤ r) (hp : B ≤ p) : Below B w w' :=
  ⟨h.1.os, h.1.tape, h.1.output, h.1.size, fun k hk => h.2 k (Nat.lt_of_lt_of_le hk hB) (by omega) (by omega)⟩
theorem Fz.setCell {r p : Nat} {a w : World} (h : Fz r p a w) (b o : Nat) (v : Value) (hb : b = r ∨ b = p) : Fz r p a (w.setCell ⟨b, o, none⟩ v) :=
  ⟨h.1.setCell (p := ⟨b, o, none⟩) (Nat.zero_le _) v, fun k hk h1 h2 => (Below.heap_setCell w ⟨b, o, none⟩ v k (by show k ≠ b; omega)).trans (h.2 k hk h1 h2)⟩
theorem Fz.drewN {r p : Nat} {a w : World} (h : Fz r p a w) (m : Nat) : Fz r p a (w.drewN m) := h.trans ⟨⟨rfl, rfl, rfl, Nat.le_refl _, fun _ _ => rfl⟩, fun _ _ _ _ => rfl⟩
theorem Fz.drew {r p : Nat} {a w : World} (h : Fz r p a w) : Fz r p a w.drew := h.trans ⟨⟨rfl, rfl, rfl, Nat.le_refl _, fun _ _ => rfl⟩, fun _ _ _ _ => rfl⟩
theorem Fz.alike {r p : Nat} {a w w' : World} (h : Fz r p a w) (e1 : w'.os = w.os) (e2 : w'.tape = w.tape) (e3 : w'.output = w.output) (e4 : w'.heap = w.heap) : Fz r p a w' :=
  h.trans ⟨⟨e1, e2, e3, by rw [e4]; exact Nat.le_refl _, fun k _ => by rw [e4]⟩, fun k _ _ _ => by rw [e4]⟩
theorem below_alike {B : Nat} {a w w' : World} (h : Below B a w) (e1 : w'.os = w.os) (e2 : w'.tape = w.tape) (e3 : w'.output = w.output) (e4 : w'.heap = w.heap) : Below B a w' :=
  h.trans ⟨e1, e2, e3, by rw [e4]; exact Nat.le_refl _, fun k _ => by rw [e4]⟩
theorem below_drewN {B : Nat} {w w' : World} {k : Nat} (h : Below B w w') : Below B w (w'.drewN k) := h.trans ⟨rfl, rfl, rfl, Nat.le_refl _, fun _ _ => rfl⟩
/-- A ring stays behind a call that leaves its two blocks alone. -/
theorem RgAt.keep {r p n f : Nat} {l : List ByteArray} {w w' : World} (h : RgAt r p n f l w) (hr : w'.heap[r]? = w.heap[r]?) (hp : w'.heap[p]? = w.heap[p]?) : RgAt r p n f l w' := by
  obtain ⟨g, ⟨h1, h2⟩, h3⟩ := h.pl
  exact ⟨h.n0, h.n64, h.fn, h.ln, hr.trans h.hd, g, ⟨h1, hp.trans h2⟩, h3⟩
theorem RgAt.lt {r p n f : Nat} {l : List ByteArray} {w : World} (h : RgAt r p n f l w) : r < w.heap.size ∧ p < w.heap.size := by
  obtain ⟨g, ⟨_, h2⟩, _⟩ := h.pl
  exact ⟨lt_of_heap h.hd, lt_of_heap h2⟩
theorem RgAt.below {r p n f : Nat} {l : List ByteArray} {w w' : World} (h : RgAt r p n f l w) (hb : Below w.heap.size w w') : RgAt r p n f l w' :=
  h.keep (hb.block r h.lt.1) (hb.block p h.lt.2)
theorem RgAt.fz {r p n f r' p' : Nat} {l : List ByteArray} {w w' : World} (h : RgAt r p n f l w) (hb : Fz r' p' w w') (h1 : r ≠ r') (h2 : r ≠ p') (h3 : p ≠ r') (h4 : p ≠ p') : RgAt r p n f l w' :=
  h.keep (hb.2 r h.lt.1 h1 h2) (hb.2 p h.lt.2 h3 h4)
/-- A store to one cell of a block. -/
theorem heap_set {w : World} {b : Nat} {cs : Array Value} {T : TypeId} {fr : Nat × Nat} (h : w.heap[b]? = some (.cells cs T fr)) (o : Nat) (v : Value) :
    (w.setCell ⟨b, o, none⟩ v).heap[b]? = some (.cells (cs.setIfInBounds o v) T fr) := by
  have hlt := lt_of_heap h
  have h' : w.heap[b] = .cells cs T fr := by simpa [Array.getElem?_eq_getElem hlt] using h
  show (w.heap.modify b _)[b]? = _
  rw [Array.getElem?_eq_getElem (by simpa using hlt), Array.getElem_modify_self, h']
  rfl
theorem PlAt.set {p n : Nat} {g : List ByteArray} {w : World} (h : PlAt p n g w) (o : Nat) (s : ByteArray) : PlAt p n (g.set o s) (w.setCell ⟨p, o, none⟩ (.string s)) := by
  refine ⟨by rw [List.length_set]; exact h.1, ?_⟩
  rw [heap_set h.2, strs_set]
  simp
theorem PlAt.keep {p n : Nat} {g : List ByteArray} {w w' : World} (h : PlAt p n g w) (hp : w'.heap[p]? = w.heap[p]?) : PlAt p n g w' := ⟨h.1, hp.trans h.2⟩
theorem PlAt.cell {p n : Nat} {g : List ByteArray} {w : World} (h : PlAt p n g w) {o : Nat} {s : ByteArray} (hs : g[o]? = some s) : w.cell? ⟨p, o, none⟩ = some (.string s) := by
  simp [World.cell?, h.2, strs_get, hs]
theorem PlAt.get {p n : Nat} {g : List ByteArray} {w : World} (h : PlAt p n g w) {o : Nat} (ho : o < n) : ∃ s, g[o]? = some s := ⟨_, List.getElem?_eq_getElem (by rw [h.1]; exact ho)⟩
theorem PlAt.frozen {p n : Nat} {g : List ByteArray} {w : World} (h : PlAt p n g w) (o : Nat) : w.frozen? ⟨p, o, none⟩ = false := by
  simp [World.frozen?, h.2]
theorem HdAt.c0 {r p n f c : Nat} {w : World} (h : HdAt r p n f c w) : w.cell? ⟨r, 0, none⟩ = some (.slice (some ⟨p, 0, none⟩) n n) := by
  unfold HdAt at h
  simp [World.cell?, h]
theorem HdAt.c1 {r p n f c : Nat} {w : World} (h : HdAt r p n f c w) : w.cell? ⟨r, 1, none⟩ = some (.int .i64 (f : Int)) := by
  unfold HdAt at h
  simp [World.cell?, h]
theorem HdAt.c2 {r p n f c : Nat} {w : World} (h : HdAt r p n f c w) : w.cell? ⟨r, 2, none⟩ = some (.int .i64 (c : Int)) := by
  unfold HdAt at h
  simp [World.cell?, h]
theorem HdAt.fz {r p n f c : Nat} {w : World} (h : HdAt r p n f c w) (o : Nat) : w.frozen? ⟨r, o, none⟩ = false := by
  unfold HdAt at h
  simp [World.frozen?, h]
theorem HdAt.keep {r p n f c : Nat} {w w' : World} (h : HdAt r p n f c w) (hr : w'.heap[r]? = w.heap[r]?) : HdAt r p n f c w' := hr.trans h
theorem HdAt.set1 {r p n f c : Nat} {w : World} (h : HdAt r p n f c w) (f' : Nat) : HdAt r p n f' c (w.setCell ⟨r, 1, none⟩ (.int .i64 (f' : Int))) := heap_set h 1 _
theorem HdAt.set2 {r p n f c : Nat} {w : World} (h : HdAt r p n f c w) (c' : Nat) : HdAt r p n f c' (w.setCell ⟨r, 2, none⟩ (.int .i64 (c' : Int))) := heap_set h 2 _
end Go.Proofs.Ytjmggofcncladaa
