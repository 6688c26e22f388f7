/-
  How elements lie in memory, over no program but for the numbers of the types: rows that are read, and what stays of them.
-/
import Derived.Test.YtmmkfpeckfmjeaaDoorChecked
import Derived.Deep.QuietTactic
import Derived.BigQuiet
import Derived.WalkKit
import Derived.Deep.RegionLaw
import Derived.Deep.RegionHeld3
import Derived.Deep.RegionWith
import Derived.Maps.OwnSet
import Derived.Maps.AppendAt
import Derived.Laws.EntriesVeiled
import Derived.Lib.Hide
import Derived.Lib.SliceRun
import Derived.Lib.Strings
import Derived.Lib.Builder
namespace Go.Proofs.YtmmkfpeckfmjeaaDoor
open Go Go.RowKit
structure El where
  nm : List UInt8
  attrs : List (List UInt8 × List UInt8)
  text : List UInt8
  kids : List El
def el0 : El := ⟨[], [], [], []⟩
theorem owns_below {B : Nat} {e : TypeId} {sz : Nat} {v : Value} {n : Nat} {xs : List Value} {w w' : World} (h : w.ownsRow B e sz v n xs) (hb : Below w.heap.size w w') : w'.ownsRow B e sz v n xs := by
  refine ⟨h.1, ?_⟩
  rcases h.2 with h1 | ⟨g, cap, cur, h1, h2, h3, h4⟩
  · exact .inl h1
  · exact .inr ⟨g, cap, cur, h1, h2, by rw [hb.block g (Array.getElem?_eq_some_iff.1 h3).1]; exact h3, h4⟩
theorem owns_base {B B' : Nat} {e : TypeId} {sz : Nat} {v : Value} {n : Nat} {xs : List Value} {w : World} (h : w.ownsRow B e sz v n xs) (hb : B' ≤ B) : w.ownsRow B' e sz v n xs := by
  refine ⟨h.1, ?_⟩
  rcases h.2 with h1 | ⟨g, cap, cur, h1, h2, h3, h4⟩
  · exact .inl h1
  · exact .inr ⟨g, cap, cur, h1, by omega, h3, h4⟩
theorem owns_new (w : World) (B : Nat) (e : TypeId) (sz n : Nat) (cur : Array Value) (hB : B ≤ w.heap.size) (hn : n ≤ maxLen) (hs : cur.size = n * sz) :
    (w.alloc (.cells cur e)).ownsRow B e sz (.slice (some ⟨w.heap.size, 0, none⟩) n n) n cur.toList :=
  ⟨by simp [hs], .inr ⟨w.heap.size, n, cur, rfl, hB, heap_alloc_new w _, Nat.le_refl _, hn, hs, by rw [← hs]; exact List.take_of_length_le (by simp)⟩⟩
theorem lt_of_heap {w : World} {k : Nat} {o : Obj} (h : w.heap[k]? = some o) : k < w.heap.size := (Array.getElem?_eq_some_iff.1 h).1
def pairCells : List (List UInt8 × List UInt8) → List Value
  | [] => []
  | p :: r => .string ⟨p.1.toArray⟩ :: .string ⟨p.2.toArray⟩ :: pairCells r
theorem pairCells_app (a b : List (List UInt8 × List UInt8)) : pairCells (a ++ b) = pairCells a ++ pairCells b := by
  induction a with
  | nil => rfl
  | cons p a ih => simp [pairCells, ih]
theorem pairCells_length (a : List (List UInt8 × List UInt8)) : (pairCells a).length = a.length * 2 := by
  induction a with
  | nil => rfl
  | cons p a ih => simp [pairCells, ih]; omega
theorem owns_shape {B : Nat} {e : TypeId} {sz : Nat} {v : Value} {n : Nat} {xs : List Value} {w : World} (h : w.ownsRow B e sz v n xs) : ∃ ao cap, v = .slice ao n cap := by
  rcases h.2 with ⟨h1, h2⟩ | ⟨g, cap, cur, h1, _⟩
  · exact ⟨none, 0, by rw [h1, h2]⟩
  · exact ⟨_, _, h1⟩
theorem owns_lt {B : Nat} {e : TypeId} {sz : Nat} {v : Value} {n : Nat} {xs : List Value} {w : World} (h : w.ownsRow B e sz v n xs) : ∀ k, v.ownBlock = some k → B ≤ k := fun k hk => (h.lt k hk).1
/-- A row that is read: n elements, its cells xs, in blocks of P. -/
def Row (P : Nat → Prop) (w : World) (v : Value) (n : Nat) (xs : List Value) : Prop :=
  ∃ ao cap, v = .slice ao n cap ∧ ∀ i x, xs[i]? = some x → ∃ ad, ao = some ad ∧ P ad.block ∧ w.cell? (ad.add i) = some x
def KidsAt (R : El → Value → Value → Value → Value → Prop) : List El → List Value → Prop
  | [], xs => xs = []
  | e :: es, xs => ∃ a b c d ys, xs = a :: b :: c :: d :: ys ∧ R e a b c d ∧ KidsAt R es ys
/-- An element of at most n levels, as four cells. -/
def ElAt (P : Nat → Prop) (w : World) : Nat → El → Value → Value → Value → Value → Prop
  | 0, _, _, _, _, _ => False
  | n + 1, e, a, b, c, d => a = .string ⟨e.nm.toArray⟩ ∧ Row P w b e.attrs.length (pairCells e.attrs) ∧ c = .string ⟨e.text.toArray⟩ ∧
      ∃ xs, Row P w d e.kids.length xs ∧ KidsAt (ElAt P w n) e.kids xs
def ElE (P : Nat → Prop) (w : World) (e : El) (a b c d : Value) : Prop := ∃ n, ElAt P w n e a b c d
theorem block_add (ad : Addr) (i : Nat) : (ad.add i).block = ad.block := by unfold Addr.add; split <;> rfl
theorem lt_of_cell {w : World} {a : Addr} {v : Value} (h : w.cell? a = some v) : a.block < w.heap.size := by
  by_cases hn : a.block < w.heap.size
  · exact hn
  · simp [World.cell?, Array.getElem?_eq_none (Nat.le_of_not_lt hn)] at h
theorem Row.step {P P' : Nat → Prop} {w w' : World} {v : Value} {n : Nat} {xs : List Value} (h : Row P w v n xs)
    (hp : ∀ k, P k → k < w.heap.size → P' k ∧ w'.heap[k]? = w.heap[k]?) : Row P' w' v n xs := by
  obtain ⟨ao, cap, h1, h2⟩ := h
  refine ⟨ao, cap, h1, fun i x hx => ?_⟩
  obtain ⟨ad, k1, k2, k3⟩ := h2 i x hx
  have hlt : ad.block < w.heap.size := by
    have := lt_of_cell k3
    rwa [block_add] at this
  obtain ⟨q1, q2⟩ := hp _ k2 hlt
  exact ⟨ad, k1, q1, by rw [World.cell?_of_block (w := w) (by rw [block_add]; exact q2)]; exact k3⟩
theorem KidsAt.imp {R R' : El → Value → Value → Value → Value → Prop} (h : ∀ e a b c d, R e a b c d → R' e a b c d) : ∀ {l : List El} {xs : List Value}, KidsAt R l xs → KidsAt R' l xs
  | [], _, k => k
  | _ :: _, _, ⟨a, b, c, d, ys, e, k1, k2⟩ => ⟨a, b, c, d, ys, e, h _ _ _ _ _ k1, KidsAt.imp h k2⟩
theorem KidsAt.app {R : El → Value → Value → Value → Value → Prop} : ∀ {l m : List El} {xs ys : List Value}, KidsAt R l xs → KidsAt R m ys → KidsAt R (l ++ m) (xs ++ ys)
  | [], _, xs, _, h, k => by rw [show xs = [] from h]; exact k
  | _ :: _, _, _, _, ⟨a, b, c, d, zs, e, k1, k2⟩, k => ⟨a, b, c, d, _, by rw [e]; rfl, k1, KidsAt.app k2 k⟩
theorem KidsAt.length {R : El → Value → Value → Value → Value → Prop} : ∀ {l : List El} {xs : List Value}, KidsAt R l xs → xs.length = l.length * 4
  | [], xs, h => by rw [show xs = [] from h]; rfl
  | _ :: _, _, ⟨a, b, c, d, ys, e, _, k2⟩ => by
    have := KidsAt.length k2
    rw [e]
    simp
    omega
theorem ElAt.step {P P' : Nat → Prop} {w w' : World} (hp : ∀ k, P k → k < w.heap.size → P' k ∧ w'.heap[k]? = w.heap[k]?) : ∀ {n : Nat} {e : El} {a b c d : Value}, ElAt P w n e a b c d → ElAt P' w' n e a b c d
  | 0, _, _, _, _, _, h => h.elim
  | _ + 1, _, _, _, _, _, ⟨h1, h2, h3, xs, h4, h5⟩ => ⟨h1, h2.step hp, h3, xs, h4.step hp, h5.imp fun _ _ _ _ _ k => ElAt.step hp k⟩
theorem ElAt.mono {P : Nat → Prop} {w : World} : ∀ {n m : Nat} {e : El} {a b c d : Value}, n ≤ m → ElAt P w n e a b c d → ElAt P w m e a b c d
  | 0, _, _, _, _, _, _, _, h => h.elim
  | n + 1, 0, _, _, _, _, _, h, _ => by omega
  | _ + 1, _ + 1, _, _, _, _, _, hn, ⟨h1, h2, h3, xs, h4, h5⟩ => ⟨h1, h2, h3, xs, h4, h5.imp fun _ _ _ _ _ k => ElAt.mono (Nat.le_of_succ_le_succ hn) k⟩
theorem ElE.step {P P' : Nat → Prop} {w w' : World} (hp : ∀ k, P k → k < w.heap.size → P' k ∧ w'.heap[k]? = w.heap[k]?) {e : El} {a b c d : Value} (h : ElE P w e a b c d) : ElE P' w' e a b c d := h.imp fun _ k => k.step hp
/-- One bound for all kids. -/
theorem KidsAt.bound {P : Nat → Prop} {w : World} : ∀ {l : List El} {xs : List Value}, KidsAt (ElE P w) l xs → ∃ n, KidsAt (ElAt P w n) l xs
  | [], _, h => ⟨0, h⟩
  | _ :: _, _, ⟨a, b, c, d, ys, e, ⟨n, k1⟩, k2⟩ => by
    obtain ⟨m, k3⟩ := KidsAt.bound k2
    exact ⟨max n m, a, b, c, d, ys, e, k1.mono (by omega), k3.imp fun _ _ _ _ _ k => k.mono (by omega)⟩
theorem ElE.mk {P : Nat → Prop} {w : World} {e : El} {b d : Value} {xs : List Value} (h2 : Row P w b e.attrs.length (pairCells e.attrs)) (h4 : Row P w d e.kids.length xs) (h5 : KidsAt (ElE P w) e.kids xs) :
    ElE P w e (.string ⟨e.nm.toArray⟩) b (.string ⟨e.text.toArray⟩) d := by
  obtain ⟨n, k⟩ := h5.bound
  exact ⟨n + 1, rfl, h2, rfl, xs, h4, k⟩
theorem ElE.parts {P : Nat → Prop} {w : World} {e : El} {a b c d : Value} (h : ElE P w e a b c d) : a = .string ⟨e.nm.toArray⟩ ∧ Row P w b e.attrs.length (pairCells e.attrs) ∧ c = .string ⟨e.text.toArray⟩ ∧ ∃ xs, Row P w d e.kids.length xs ∧ KidsAt (ElE P w) e.kids xs := by
  obtain ⟨n, h⟩ := h
  cases n with
  | zero => exact h.elim
  | succ n =>
    obtain ⟨h1, h2, h3, xs, h4, h5⟩ := h
    exact ⟨h1, h2, h3, xs, h4, h5.imp fun _ _ _ _ _ k => ⟨n, k⟩⟩
theorem row_below {P : Nat → Prop} {w w' : World} (hb : Below w.heap.size w w') : ∀ k, P k → k < w.heap.size → P k ∧ w'.heap[k]? = w.heap[k]? := fun k hk hl => ⟨hk, hb.block k hl⟩
theorem row_nil (P : Nat → Prop) (w : World) (ao : Option Addr) (cap : Nat) : Row P w (.slice ao 0 cap) 0 [] := ⟨ao, cap, rfl, fun i x h => by simp at h⟩
/-- A row that is owned is read. -/
theorem row_owns {P : Nat → Prop} {B : Nat} {e : TypeId} {sz : Nat} {v : Value} {n : Nat} {xs : List Value} {w : World} (h : w.ownsRow B e sz v n xs) (hP : ∀ k, v.ownBlock = some k → P k) : Row P w v n xs := by
  obtain ⟨ao, cap, rfl⟩ := owns_shape h
  refine ⟨ao, cap, rfl, fun i x hx => ?_⟩
  rcases h.2 with ⟨h1, h2⟩ | ⟨g, cap', cur, h1, _⟩
  · have := h.1
    rw [h2] at this
    simp at this
    rw [this] at hx
    simp at hx
  · obtain ⟨rfl, _, rfl⟩ := Value.slice.inj h1
    exact ⟨_, rfl, hP g rfl, World.ownsRow.cells h rfl i x hx⟩
theorem ElE.shape {P : Nat → Prop} {w : World} {e : El} {a b c d : Value} (h : ElE P w e a b c d) : ∃ ao cap ao' cap', b = .slice ao e.attrs.length cap ∧ d = .slice ao' e.kids.length cap' := by
  obtain ⟨_, ⟨ao, cap, h2, _⟩, _, xs, ⟨ao', cap', h4, _⟩, _⟩ := h.parts
  exact ⟨ao, cap, ao', cap', h2, h4⟩
theorem kids_one {P : Nat → Prop} {w : World} : ∀ {l : List El} {xs : List Value}, KidsAt (ElE P w) l xs → ∀ u ∈ xs, u.oneCell' = true
  | [], xs, h => by rw [show xs = [] from h]; simp
  | _ :: _, _, ⟨a, b, c, d, ys, e, k1, k2⟩ => by
    intro u hu
    obtain ⟨ao, cap, ao', cap', rfl, rfl⟩ := k1.shape
    obtain ⟨rfl, _, rfl, _⟩ := k1.parts
    rw [e] at hu
    simp at hu
    rcases hu with rfl | rfl | rfl | rfl | hu
    · rfl
    · rfl
    · rfl
    · rfl
    · exact kids_one k2 u hu
/-- A block with these cells. -/
def At (b : Nat) (cs : Array Value) (T : TypeId) (w : World) : Prop := w.heap[b]? = some (.cells cs T (0, 0))
theorem At.alloc {b : Nat} {cs : Array Value} {T : TypeId} {w : World} (h : At b cs T w) (o : Obj) : At b cs T (w.alloc o) := (Below.heap_alloc w o b (lt_of_heap h)).trans h
theorem At.drew {b : Nat} {cs : Array Value} {T : TypeId} {w : World} (h : At b cs T w) : At b cs T w.drew := h
theorem At.drewN {b : Nat} {cs : Array Value} {T : TypeId} {w : World} (h : At b cs T w) (n : Nat) : At b cs T (w.drewN n) := h
theorem At.set {b : Nat} {cs : Array Value} {T : TypeId} {w : World} (h : At b cs T w) (o : Nat) (u : Value) : At b (cs.setIfInBounds o u) T (w.setCell ⟨b, o, none⟩ u) := heap_setCell_same w b o cs T u h
theorem At.other {b : Nat} {cs : Array Value} {T : TypeId} {w : World} (h : At b cs T w) (b' o : Nat) (u : Value) (hne : b ≠ b') : At b cs T (w.setCell ⟨b', o, none⟩ u) := (Below.heap_setCell w ⟨b', o, none⟩ u b hne).trans h
theorem At.below {b : Nat} {cs : Array Value} {T : TypeId} {w w' : World} (h : At b cs T w) {B : Nat} (hb : Below B w w') (hB : b < B) : At b cs T w' := (hb.block b hB).trans h
theorem At.grown {b : Nat} {cs : Array Value} {T : TypeId} {w w' : World} {row : Option Nat} (h : At b cs T w) (hg : w.grownBy w' row) (hne : some b ≠ row) : At b cs T w' := (hg.block b (lt_of_heap h) hne).trans h
/-- A row with something in it lies in cells one behind the other. -/
theorem row_flat {P : Nat → Prop} {w : World} {ao : Option Addr} {n cap : Nat} {x : Value} {xs : List Value} (h : Row P w (.slice ao n cap) n (x :: xs)) : ∃ g off, ao = some ⟨g, off, none⟩ ∧ g < w.heap.size ∧ ∀ i y, (x :: xs)[i]? = some y → w.cell? ⟨g, off + i, none⟩ = some y := by
  obtain ⟨ao', cap', h1, h2⟩ := h
  obtain ⟨rfl, _, rfl⟩ := Value.slice.inj h1
  obtain ⟨ad, k1, _, k3⟩ := h2 0 x rfl
  subst k1
  obtain ⟨g, off, sp⟩ := ad
  have hsp : sp = none := by
    cases sp with
    | none => rfl
    | some q =>
      exfalso
      simp only [Addr.add, if_true, World.cell?] at k3
      split at k3
      · simp at k3
      · cases k3
  subst hsp
  refine ⟨g, off, rfl, lt_of_cell (a := ⟨g, off, none⟩) k3, fun i y hy => ?_⟩
  obtain ⟨ad', e1, _, e3⟩ := h2 i y hy
  cases e1
  have hadd : (⟨g, off, none⟩ : Addr).add i = ⟨g, off + i, none⟩ := by unfold Addr.add; split <;> simp_all
  rwa [hadd] at e3
theorem pair_get : ∀ (acc : List (List UInt8 × List UInt8)) (j : Nat) (p : List UInt8 × List UInt8), acc[j]? = some p → (pairCells acc)[j * 2]? = some (.string ⟨p.1.toArray⟩) ∧ (pairCells acc)[j * 2 + 1]? = some (.string ⟨p.2.toArray⟩)
  | [], j, p, h => by simp at h
  | q :: r, 0, p, h => by
    simp at h
    subst h
    exact ⟨rfl, rfl⟩
  | q :: r, j + 1, p, h => by
    have := pair_get r j p (by simpa using h)
    rw [show (j + 1) * 2 = j * 2 + 2 by omega, show j * 2 + 2 + 1 = j * 2 + 1 + 2 by omega]
    exact this
theorem row_flat2 {P : Nat → Prop} {w : World} {ao : Option Addr} {n cap : Nat} {xs : List Value} {i : Nat} {y : Value} (h : Row P w (.slice ao n cap) n xs) (hy : xs[i]? = some y) : ∃ g off, ao = some ⟨g, off, none⟩ ∧ g < w.heap.size ∧ ∀ i y, xs[i]? = some y → w.cell? ⟨g, off + i, none⟩ = some y := by
  cases xs with
  | nil => simp at hy
  | cons a b => exact row_flat h
theorem bytes_beq (a b : List UInt8) : ((⟨a.toArray⟩ : ByteArray).toList == (⟨b.toArray⟩ : ByteArray).toList) = (a == b) := by
  rw [ByteArray.toList_eq, ByteArray.toList_eq]
theorem ret_b2 {b c : Bool} (h : b = c) : Ending.returned (.bool b) = Ending.returned (.bool c) := by rw [h]
theorem el4 {r : Nat} {a b c d : Value} {T : TypeId} {w : World} (h : At r #[a, b, c, d] T w) : w.cell? ⟨r, 0, none⟩ = some a ∧ w.cell? ⟨r, 1, none⟩ = some b ∧ w.cell? ⟨r, 2, none⟩ = some c ∧ w.cell? ⟨r, 3, none⟩ = some d :=
  ⟨by rw [Lib.cell_of_heap h]; rfl, by rw [Lib.cell_of_heap h]; rfl, by rw [Lib.cell_of_heap h]; rfl, by rw [Lib.cell_of_heap h]; rfl⟩
end Go.Proofs.YtmmkfpeckfmjeaaDoor
