/-
  How tokens and readers lie in memory, over no program but for the numbers of the types: rows that a call owns, what stays of them behind other calls.
-/
import Derived.Test.YthekdgnikkjpdaaGreatDoorPtag
namespace Go.Proofs.YthekdgnikkjpdaaGreatDoor
open Go.RowKit
theorem owns_below {B : Nat} {e : TypeId} {sz : Nat} {v : Value} {n : Nat} {xs : List Value} {w w' : World} (h : w.ownsRow B e sz v n xs) (hb : Below w.heap.size w w') : w'.ownsRow B e sz v n xs := by
  refine ⟨h.1, ?_⟩
  rcases h.2 with h1 | ⟨g, cap, cur, h1, h2, h3, h4⟩
  · exact .inl h1
  · exact .inr ⟨g, cap, cur, h1, h2, by rw [hb.block g (Array.getElem?_eq_some_iff.1 h3).1]; exact h3, h4⟩
theorem owns_base {B B' : Nat} {e : TypeId} {sz : Nat} {v : Value} {n : Nat} {xs : List Value} {w : World} (h : w.ownsRow B e sz v n xs) (hb : B' ≤ B) : w.ownsRow B' e sz v n xs := by
  refine ⟨h.1, ?_⟩
  rcases h.2 with h1 | ⟨g, cap, cur, h1, h2, h3, h4⟩
  · exact .inl h1
  · exact .inr ⟨g, cap, cur, h1, by omega, h3, h4⟩
theorem owns_new (w : World) (B : Nat) (e : TypeId) (sz n : Nat) (cur : Array Value) (hB : B ≤ w.heap.size) (hn : n ≤ maxLen) (hs : cur.size = n * sz) :
    (w.alloc (.cells cur e)).ownsRow B e sz (.slice (some ⟨w.heap.size, 0, none⟩) n n) n cur.toList :=
  ⟨by simp [hs], .inr ⟨w.heap.size, n, cur, rfl, hB, heap_alloc_new w _, Nat.le_refl _, hn, hs, by rw [← hs]; exact List.take_of_length_le (by simp)⟩⟩
/-- A call that may have written reader r and rows of bytes: below B, and of all else, what was there is there. -/
def Fr (B r : Nat) (w w' : World) : Prop := Below B w w' ∧ ∀ k o, w.heap[k]? = some o → k ≠ r → (∀ c fz, o ≠ .cells c 5 fz) → w'.heap[k]? = some o
theorem Fr.refl (B r : Nat) (w : World) : Fr B r w w := ⟨Below.refl _ _, fun _ _ h _ _ => h⟩
theorem Fr.trans {B r : Nat} {a b c : World} (h : Fr B r a b) (k : Fr B r b c) : Fr B r a c :=
  ⟨h.1.trans k.1, fun i o h1 h2 h3 => k.2 i o (h.2 i o h1 h2 h3) h2 h3⟩
theorem Fr.base {B B' r : Nat} {w w' : World} (h : Fr B r w w') (hb : B' ≤ B) : Fr B' r w w' := ⟨h.1.mono hb, h.2⟩
theorem lt_of_heap {w : World} {k : Nat} {o : Obj} (h : w.heap[k]? = some o) : k < w.heap.size := (Array.getElem?_eq_some_iff.1 h).1
/-- Behind it something that leaves alone all that was there at its beginning. -/
theorem Fr.later {B r : Nat} {a b c : World} (h : Fr B r a b) (hB : B ≤ a.heap.size) (k : Below a.heap.size b c) : Fr B r a c :=
  ⟨h.1.trans (k.mono hB), fun i o h1 h2 h3 => by rw [k.block i (lt_of_heap h1)]; exact h.2 i o h1 h2 h3⟩
theorem Fr.of_below {B r : Nat} {w w' : World} (h : Below w.heap.size w w') (hB : B ≤ w.heap.size) : Fr B r w w' := (Fr.refl B r w).later hB h
def pairCells : List (List UInt8 × List UInt8) → List Value
  | [] => []
  | p :: r => .string ⟨p.1.toArray⟩ :: .string ⟨p.2.toArray⟩ :: pairCells r
theorem pairCells_app (a b : List (List UInt8 × List UInt8)) : pairCells (a ++ b) = pairCells a ++ pairCells b := by
  induction a with
  | nil => rfl
  | cons p a ih => simp [pairCells, ih]
theorem pairCells_length (a : List (List UInt8 × List UInt8)) : (pairCells a).length = a.length * 2 := by
  induction a with
  | nil => rfl
  | cons p a ih => simp [pairCells, ih]; omega
def AttrsAt (B : Nat) (v : Value) (l : List (List UInt8 × List UInt8)) (w : World) : Prop := w.ownsRow B 34 2 v l.length (pairCells l)
/-- The cells of tokens, elements of type E. -/
def TokCells (B : Nat) (w : World) : List Tok → List Value → Prop
  | [], xs => xs = []
  | t :: ts, xs => ∃ v ys, xs = .int .i64 t.kind :: .string ⟨t.nm.toArray⟩ :: v :: .string ⟨t.text.toArray⟩ :: ys ∧ AttrsAt B v t.attrs w ∧ TokCells B w ts ys
def ToksAt (E : TypeId) (B : Nat) (v : Value) (l : List Tok) (w : World) : Prop := ∃ xs, w.ownsRow B E 4 v l.length xs ∧ TokCells B w l xs
theorem TokCells.length {B : Nat} {w : World} : ∀ {l : List Tok} {xs : List Value}, TokCells B w l xs → xs.length = l.length * 4
  | [], xs, h => by rw [h]; rfl
  | t :: ts, xs, h => by
    obtain ⟨v, ys, rfl, _, k⟩ := h
    have := TokCells.length k
    simp
    omega
theorem TokCells.mono {B B' : Nat} {w w' : World} (hB : B' ≤ B) (hw : ∀ v l, AttrsAt B v l w → AttrsAt B v l w') : ∀ {l : List Tok} {xs : List Value}, TokCells B w l xs → TokCells B' w' l xs
  | [], _, h => h
  | _ :: _, _, ⟨v, ys, e, h1, h2⟩ => ⟨v, ys, e, owns_base (hw _ _ h1) hB, TokCells.mono hB hw h2⟩
theorem TokCells.app {B : Nat} {w : World} : ∀ {a b : List Tok} {xs ys : List Value}, TokCells B w a xs → TokCells B w b ys → TokCells B w (a ++ b) (xs ++ ys)
  | [], _, _, _, h, k => by rw [show _ = [] from h]; exact k
  | _ :: _, _, _, _, ⟨v, zs, e, h1, h2⟩, k => ⟨v, _, by rw [e]; rfl, h1, TokCells.app h2 k⟩
theorem ToksAt.nil (E : TypeId) (B : Nat) (w : World) : ToksAt E B (.slice none 0 0) [] w := ⟨[], World.ownsRow_nil _ _ _ _, rfl⟩
theorem AttrsAt.below {B : Nat} {v : Value} {l : List (List UInt8 × List UInt8)} {w w' : World} (h : AttrsAt B v l w) (hb : Below w.heap.size w w') : AttrsAt B v l w' := owns_below h hb
theorem ToksAt.below {E : TypeId} {B : Nat} {v : Value} {l : List Tok} {w w' : World} (h : ToksAt E B v l w) (hb : Below w.heap.size w w') : ToksAt E B v l w' := by
  obtain ⟨xs, h1, h2⟩ := h
  exact ⟨xs, owns_below h1 hb, h2.mono (Nat.le_refl _) fun _ _ k => owns_below k hb⟩
theorem ToksAt.base {E : TypeId} {B B' : Nat} {v : Value} {l : List Tok} {w : World} (h : ToksAt E B v l w) (hb : B' ≤ B) : ToksAt E B' v l w := by
  obtain ⟨xs, h1, h2⟩ := h
  exact ⟨xs, owns_base h1 hb, h2.mono hb fun _ _ k => k⟩
/-- Rows of no bytes, none of them reader r, stay owned. -/
theorem owns_fr {B B' r : Nat} {e : TypeId} {sz : Nat} {v : Value} {n : Nat} {xs : List Value} {w w' : World} (h : w.ownsRow B e sz v n xs) (he : e ≠ 5) (hf : Fr B' r w w') {cs : Array Value} {T : TypeId} {fz : Nat × Nat}
    (hr : w.heap[r]? = some (.cells cs T fz)) (hT : T ≠ e) : w'.ownsRow B e sz v n xs := by
  refine ⟨h.1, ?_⟩
  rcases h.2 with h1 | ⟨g, cap, cur, h1, h2, h3, h4⟩
  · exact .inl h1
  · refine .inr ⟨g, cap, cur, h1, h2, hf.2 g _ h3 ?_ ?_, h4⟩
    · intro eq
      rw [eq, hr] at h3
      exact hT (Obj.cells.inj (Option.some.inj h3)).2.1
    · intro c z eq
      exact he (Obj.cells.inj eq).2.1
theorem ToksAt.fr {E : TypeId} {B B' r : Nat} {v : Value} {l : List Tok} {w w' : World} (h : ToksAt E B v l w) (he : E ≠ 5) (hf : Fr B' r w w') {cs : Array Value} {T : TypeId} {fz : Nat × Nat}
    (hr : w.heap[r]? = some (.cells cs T fz)) (hT : T ≠ E) (hT2 : T ≠ 34) : ToksAt E B v l w' := by
  obtain ⟨xs, h1, h2⟩ := h
  exact ⟨xs, owns_fr h1 he hf hr hT, h2.mono (Nat.le_refl _) fun _ _ k => owns_fr k (by decide) hf hr hT2⟩
/-- A row grown: rows of other element types stay. -/
theorem owns_grown {B : Nat} {e e' : TypeId} {sz sz' : Nat} {v v' : Value} {n n' : Nat} {xs xs' : List Value} {w w' : World} {B' : Nat} (h : w.ownsRow B e sz v n xs) (hg : w.grownBy w' v'.ownBlock) (ho : w.ownsRow B' e' sz' v' n' xs') (he : e' ≠ e) : w'.ownsRow B e sz v n xs := by
  refine ⟨h.1, ?_⟩
  rcases h.2 with h1 | ⟨g, cap, cur, h1, h2, h3, h4⟩
  · exact .inl h1
  · refine .inr ⟨g, cap, cur, h1, h2, ?_, h4⟩
    rw [hg.block g (lt_of_heap h3) ?_]
    · exact h3
    · intro eq
      rcases ho.2 with ⟨k1, _⟩ | ⟨g', _, cur', k1, _, k3, _⟩
      · rw [k1] at eq
        simp [Value.ownBlock] at eq
      · rw [k1] at eq
        simp [Value.ownBlock] at eq
        subst eq
        rw [k3] at h3
        exact he (Obj.cells.inj (Option.some.inj h3)).2.1
theorem owns_shape {B : Nat} {e : TypeId} {sz : Nat} {v : Value} {n : Nat} {xs : List Value} {w : World} (h : w.ownsRow B e sz v n xs) : ∃ ao cap, v = .slice ao n cap := by
  rcases h.2 with ⟨h1, h2⟩ | ⟨g, cap, cur, h1, _⟩
  · exact ⟨none, 0, by rw [h1, h2]⟩
  · exact ⟨_, _, h1⟩
theorem owns_lt {B : Nat} {e : TypeId} {sz : Nat} {v : Value} {n : Nat} {xs : List Value} {w : World} (h : w.ownsRow B e sz v n xs) : ∀ k, v.ownBlock = some k → B ≤ k := fun k hk => (h.lt k hk).1
end Go.Proofs.YthekdgnikkjpdaaGreatDoor
