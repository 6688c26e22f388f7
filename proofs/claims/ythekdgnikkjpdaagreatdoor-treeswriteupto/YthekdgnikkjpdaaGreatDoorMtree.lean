/-
  How elements lie in memory, over no program but for the numbers of the types: rows that are read, and what stays of them.
-/
import Derived.Test.YthekdgnikkjpdaaGreatDoorMem
import Derived.Test.YthekdgnikkjpdaaGreatDoorPtree
namespace Go.Proofs.YthekdgnikkjpdaaGreatDoor
open Go.RowKit
/-- A row that is read: n elements, its cells xs, in blocks of P. -/
def Row (P : Nat → Prop) (w : World) (v : Value) (n : Nat) (xs : List Value) : Prop :=
  ∃ ao cap, v = .slice ao n cap ∧ ∀ i x, xs[i]? = some x → ∃ ad, ao = some ad ∧ P ad.block ∧ w.cell? (ad.add i) = some x
def KidsAt (R : El → Value → Value → Value → Value → Prop) : List El → List Value → Prop
  | [], xs => xs = []
  | e :: es, xs => ∃ a b c d ys, xs = a :: b :: c :: d :: ys ∧ R e a b c d ∧ KidsAt R es ys
/-- An element of at most n levels, as four cells. -/
def ElAt (P : Nat → Prop) (w : World) : Nat → El → Value → Value → Value → Value → Prop
  | 0, _, _, _, _, _ => False
  | n + 1, e, a, b, c, d => a = .string ⟨e.nm.toArray⟩ ∧ Row P w b e.attrs.length (pairCells e.attrs) ∧ c = .string ⟨e.text.toArray⟩ ∧
      ∃ xs, Row P w d e.kids.length xs ∧ KidsAt (ElAt P w n) e.kids xs
def ElE (P : Nat → Prop) (w : World) (e : El) (a b c d : Value) : Prop := ∃ n, ElAt P w n e a b c d
theorem block_add (ad : Addr) (i : Nat) : (ad.add i).block = ad.block := by unfold Addr.add; split <;> rfl
theorem lt_of_cell {w : World} {a : Addr} {v : Value} (h : w.cell? a = some v) : a.block < w.heap.size := by
  by_cases hn : a.block < w.heap.size
  · exact hn
  · simp [World.cell?, Array.getElem?_eq_none (Nat.le_of_not_lt hn)] at h
theorem Row.step {P P' : Nat → Prop} {w w' : World} {v : Value} {n : Nat} {xs : List Value} (h : Row P w v n xs)
    (hp : ∀ k, P k → k < w.heap.size → P' k ∧ w'.heap[k]? = w.heap[k]?) : Row P' w' v n xs := by
  obtain ⟨ao, cap, h1, h2⟩ := h
  refine ⟨ao, cap, h1, fun i x hx => ?_⟩
  obtain ⟨ad, k1, k2, k3⟩ := h2 i x hx
  have hlt : ad.block < w.heap.size := by
    have := lt_of_cell k3
    rwa [block_add] at this
  obtain ⟨q1, q2⟩ := hp _ k2 hlt
  exact ⟨ad, k1, q1, by rw [World.cell?_of_block (w := w) (by rw [block_add]; exact q2)]; exact k3⟩
theorem KidsAt.imp {R R' : El → Value → Value → Value → Value → Prop} (h : ∀ e a b c d, R e a b c d → R' e a b c d) : ∀ {l : List El} {xs : List Value}, KidsAt R l xs → KidsAt R' l xs
  | [], _, k => k
  | _ :: _, _, ⟨a, b, c, d, ys, e, k1, k2⟩ => ⟨a, b, c, d, ys, e, h _ _ _ _ _ k1, KidsAt.imp h k2⟩
theorem KidsAt.app {R : El → Value → Value → Value → Value → Prop} : ∀ {l m : List El} {xs ys : List Value}, KidsAt R l xs → KidsAt R m ys → KidsAt R (l ++ m) (xs ++ ys)
  | [], _, xs, _, h, k => by rw [show xs = [] from h]; exact k
  | _ :: _, _, _, _, ⟨a, b, c, d, zs, e, k1, k2⟩, k => ⟨a, b, c, d, _, by rw [e]; rfl, k1, KidsAt.app k2 k⟩
theorem KidsAt.length {R : El → Value → Value → Value → Value → Prop} : ∀ {l : List El} {xs : List Value}, KidsAt R l xs → xs.length = l.length * 4
  | [], xs, h => by rw [show xs = [] from h]; rfl
  | _ :: _, _, ⟨a, b, c, d, ys, e, _, k2⟩ => by
    have := KidsAt.length k2
    rw [e]
    simp
    omega
theorem ElAt.step {P P' : Nat → Prop} {w w' : World} (hp : ∀ k, P k → k < w.heap.size → P' k ∧ w'.heap[k]? = w.heap[k]?) : ∀ {n : Nat} {e : El} {a b c d : Value}, ElAt P w n e a b c d → ElAt P' w' n e a b c d
  | 0, _, _, _, _, _, h => h.elim
  | _ + 1, _, _, _, _, _, ⟨h1, h2, h3, xs, h4, h5⟩ => ⟨h1, h2.step hp, h3, xs, h4.step hp, h5.imp fun _ _ _ _ _ k => ElAt.step hp k⟩
theorem ElAt.mono {P : Nat → Prop} {w : World} : ∀ {n m : Nat} {e : El} {a b c d : Value}, n ≤ m → ElAt P w n e a b c d → ElAt P w m e a b c d
  | 0, _, _, _, _, _, _, _, h => h.elim
  | n + 1, 0, _, _, _, _, _, h, _ => by omega
  | _ + 1, _ + 1, _, _, _, _, _, hn, ⟨h1, h2, h3, xs, h4, h5⟩ => ⟨h1, h2, h3, xs, h4, h5.imp fun _ _ _ _ _ k => ElAt.mono (Nat.le_of_succ_le_succ hn) k⟩
theorem ElE.step {P P' : Nat → Prop} {w w' : World} (hp : ∀ k, P k → k < w.heap.size → P' k ∧ w'.heap[k]? = w.heap[k]?) {e : El} {a b c d : Value} (h : ElE P w e a b c d) : ElE P' w' e a b c d := h.imp fun _ k => k.step hp
/-- One bound for all kids. -/
theorem KidsAt.bound {P : Nat → Prop} {w : World} : ∀ {l : List El} {xs : List Value}, KidsAt (ElE P w) l xs → ∃ n, KidsAt (ElAt P w n) l xs
  | [], _, h => ⟨0, h⟩
  | _ :: _, _, ⟨a, b, c, d, ys, e, ⟨n, k1⟩, k2⟩ => by
    obtain ⟨m, k3⟩ := KidsAt.bound k2
    exact ⟨max n m, a, b, c, d, ys, e, k1.mono (by omega), k3.imp fun _ _ _ _ _ k => k.mono (by omega)⟩
theorem ElE.mk {P : Nat → Prop} {w : World} {e : El} {b d : Value} {xs : List Value} (h2 : Row P w b e.attrs.length (pairCells e.attrs)) (h4 : Row P w d e.kids.length xs) (h5 : KidsAt (ElE P w) e.kids xs) :
    ElE P w e (.string ⟨e.nm.toArray⟩) b (.string ⟨e.text.toArray⟩) d := by
  obtain ⟨n, k⟩ := h5.bound
  exact ⟨n + 1, rfl, h2, rfl, xs, h4, k⟩
theorem ElE.parts {P : Nat → Prop} {w : World} {e : El} {a b c d : Value} (h : ElE P w e a b c d) : a = .string ⟨e.nm.toArray⟩ ∧ Row P w b e.attrs.length (pairCells e.attrs) ∧ c = .string ⟨e.text.toArray⟩ ∧ ∃ xs, Row P w d e.kids.length xs ∧ KidsAt (ElE P w) e.kids xs := by
  obtain ⟨n, h⟩ := h
  cases n with
  | zero => exact h.elim
  | succ n =>
    obtain ⟨h1, h2, h3, xs, h4, h5⟩ := h
    exact ⟨h1, h2, h3, xs, h4, h5.imp fun _ _ _ _ _ k => ⟨n, k⟩⟩
theorem row_below {P : Nat → Prop} {w w' : World} (hb : Below w.heap.size w w') : ∀ k, P k → k < w.heap.size → P k ∧ w'.heap[k]? = w.heap[k]? := fun k hk hl => ⟨hk, hb.block k hl⟩
theorem row_nil (P : Nat → Prop) (w : World) (ao : Option Addr) (cap : Nat) : Row P w (.slice ao 0 cap) 0 [] := ⟨ao, cap, rfl, fun i x h => by simp at h⟩
/-- A row that is owned is read. -/
theorem row_owns {P : Nat → Prop} {B : Nat} {e : TypeId} {sz : Nat} {v : Value} {n : Nat} {xs : List Value} {w : World} (h : w.ownsRow B e sz v n xs) (hP : ∀ k, v.ownBlock = some k → P k) : Row P w v n xs := by
  obtain ⟨ao, cap, rfl⟩ := owns_shape h
  refine ⟨ao, cap, rfl, fun i x hx => ?_⟩
  rcases h.2 with ⟨h1, h2⟩ | ⟨g, cap', cur, h1, _⟩
  · have := h.1
    rw [h2] at this
    simp at this
    rw [this] at hx
    simp at hx
  · obtain ⟨rfl, _, rfl⟩ := Value.slice.inj h1
    exact ⟨_, rfl, hP g rfl, World.ownsRow.cells h rfl i x hx⟩
theorem ElE.shape {P : Nat → Prop} {w : World} {e : El} {a b c d : Value} (h : ElE P w e a b c d) : ∃ ao cap ao' cap', b = .slice ao e.attrs.length cap ∧ d = .slice ao' e.kids.length cap' := by
  obtain ⟨_, ⟨ao, cap, h2, _⟩, _, xs, ⟨ao', cap', h4, _⟩, _⟩ := h.parts
  exact ⟨ao, cap, ao', cap', h2, h4⟩
theorem kids_one {P : Nat → Prop} {w : World} : ∀ {l : List El} {xs : List Value}, KidsAt (ElE P w) l xs → ∀ u ∈ xs, u.oneCell' = true
  | [], xs, h => by rw [show xs = [] from h]; simp
  | _ :: _, _, ⟨a, b, c, d, ys, e, k1, k2⟩ => by
    intro u hu
    obtain ⟨ao, cap, ao', cap', rfl, rfl⟩ := k1.shape
    obtain ⟨rfl, _, rfl, _⟩ := k1.parts
    rw [e] at hu
    simp at hu
    rcases hu with rfl | rfl | rfl | rfl | hu
    · rfl
    · rfl
    · rfl
    · rfl
    · exact kids_one k2 u hu
end Go.Proofs.YthekdgnikkjpdaaGreatDoor
