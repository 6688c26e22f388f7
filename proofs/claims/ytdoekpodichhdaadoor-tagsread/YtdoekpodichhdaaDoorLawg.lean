/-
  What the walk of the statement TagsPieces over this program uses: a row of tokens to which others are appended, and what is known behind so many pieces.
-/
import Derived.Test.YtdoekpodichhdaaDoorLawf
namespace Go.Proofs.YtdoekpodichhdaaDoor
open Go.RowKit
theorem two_new (w : World) : Fresh w.heap.size ((w.alloc (.cells #[.slice none 0 0, .bool false, .int .i64 0] 49)).alloc (.cells #[.slice none 0 0, .bool false, .int .i64 0] 49)) ∧
    Fresh (w.heap.size + 1) ((w.alloc (.cells #[.slice none 0 0, .bool false, .int .i64 0] 49)).alloc (.cells #[.slice none 0 0, .bool false, .int .i64 0] 49)) := by
  have a1 := Fresh.new w
  have a2 := Fresh.new (w.alloc (.cells #[.slice none 0 0, .bool false, .int .i64 0] 49))
  have s1 : (w.alloc (.cells #[.slice none 0 0, .bool false, .int .i64 0] 49)).heap.size = w.heap.size + 1 := by simp
  rw [s1] at a2
  exact ⟨a1.below ((Below.refl _ _).alloc (Nat.le_refl _) _), a2⟩
theorem HeldIs.grown {r n m : Nat} {B : Nat} {v : Value} {xs : List Value} {w w' : World} (h : HeldIs r n w) (ho : w.ownsRow B 44 4 v m xs) (hg : w.grownBy w' v.ownBlock) : HeldIs r n w' := by
  obtain ⟨ao, cap, t, e, k⟩ := h
  refine ⟨ao, cap, t, e, ?_⟩
  rw [hg.block r (lt_of_heap k) ?_]
  · exact k
  · intro eq
    rcases ho.2 with ⟨q1, _⟩ | ⟨g, _, cur, q1, _, q3, _⟩
    · rw [q1] at eq
      simp [Value.ownBlock] at eq
    · rw [q1] at eq
      simp [Value.ownBlock] at eq
      subst eq
      rw [k] at q3
      have := (Obj.cells.inj (Option.some.inj q3)).2.1
      simp at this
/-- Tokens stay while a row of tokens grows that was made behind them. -/
theorem toks_keep {B B' N n' : Nat} {v v' : Value} {l : List Tok} {xs' : List Value} {w w' : World} (h : ToksAt 44 B v l w) (hg : w.grownBy w' v'.ownBlock) (hlt : ∀ k, v.ownBlock = some k → k < N) (ho : w.ownsRow B' 44 4 v' n' xs') (hN : N ≤ B') : ToksAt 44 B v l w' := by
  obtain ⟨xs, h1, h2⟩ := h
  exact ⟨xs, owns_keep h1 hg hlt ho hN, h2.mono (Nat.le_refl _) fun _ _ q => owns_grown q hg ho (by decide)⟩
/-- What is known behind so many pieces: the pieces so far, and what is left. -/
structure Mid (w w2 : World) (r1 r2 : Nat) (va : Value) (u : ByteArray) (pre : List UInt8) (x : ByteArray) (vb : Value) (wr : World) : Prop where
  cut : u.data.toList = pre ++ x.data.toList
  toks : ToksAt 44 w2.heap.size vb (feedN st0 pre).2 wr
  rdr : RdrAt w.heap.size r2 (feedN st0 pre).1.held (feedN st0 pre).1.tag (feedN st0 pre).1.err wr
  one : ToksAt 44 w.heap.size va (feedN st0 u.data.toList).2 wr
  held : HeldIs r1 (feedN st0 u.data.toList).1.held.length wr
  below : Below w.heap.size w wr
  size : w2.heap.size ≤ wr.heap.size
theorem mod_cut (c : Int) (n : Nat) (hn : n ≤ 100000) : ∃ q : Nat, q ≤ n ∧ wrap64 ((IntKind.u64.wrap c).tmod ((n : Int) + 1)) = (q : Int) := by
  have h : IntKind.u64.wrap c = c % 18446744073709551616 := rfl
  rw [h, Int.tmod_eq_emod_of_nonneg (by omega)]
  have h3 : 0 ≤ c % 18446744073709551616 % ((n : Int) + 1) := Int.emod_nonneg _ (by omega)
  have h4 : c % 18446744073709551616 % ((n : Int) + 1) < (n : Int) + 1 := Int.emod_lt_of_pos _ (by omega)
  refine ⟨(c % 18446744073709551616 % ((n : Int) + 1)).toNat, by omega, ?_⟩
  unfold wrap64
  omega
def RowIs (R : Nat) (E : TypeId) (v : Value) (n : Nat) (w : World) : Prop := ∃ xs, w.ownsRow R E 4 v n xs
theorem grown_same (w : World) (row : Option Nat) : w.grownBy w row := ⟨rfl, rfl, rfl, Nat.le_refl _, fun _ _ _ => rfl⟩
section
variable {P : Program} {w : World}
/-- Tokens appended to tokens, nil or not: one law. -/
theorem wpList_append_toks {ops : Array Oper} {rest : List Oper} {o : Oper} {a : Act} {Q : Exit → Act → World → Prop} (hw : Region.wanted o (yielded ops a.tmps) = true) (s x : Operand) (t : TypeId)
    (ho : o.op = .call { callee := .builtin .append, args := #[s, x], argTypes := #[t, t] })
    (E : TypeId) (hE : E ≠ 46) (i : TypeInfo) (z : Value) (ht : P.underlying t = some (.slice E)) (hi : P.info? E = some i) (hz : i.zero = some z)
    (hsize : i.size = 4) (hby : i.bytes = 64) (hzs : z.cells.size = 4)
    (R : Nat) (v : Value) (l : List Tok) (hs : a.eval s = v) (hd : ToksAt E R v l w) (vx : Value) (m : List Tok) (hx : a.eval x = vx) (hm : ToksAt E R vx m w)
    (h64 : (l.length + m.length) * 64 ≤ 140737488355328) (hbase : R ≤ w.heap.size)
    (h : ∀ v' w', ToksAt E R v' (l ++ m) w' → RowIs R E v l.length w → w.grownBy w' v.ownBlock → wpList P ops Q rest (a.put o.dst v') w') : wpList P ops Q (o :: rest) a w := by
  obtain ⟨xs, ho1, hc1⟩ := hd
  obtain ⟨ys, ho2, hc2⟩ := hm
  rcases ho2.2 with ⟨q1, q2⟩ | ⟨g, cap, cur, q1, _⟩
  · subst q1
    obtain rfl := List.eq_nil_of_length_eq_zero q2
    refine wpList_append_none_want hw s x t ho R E i 4 ht hi v l.length xs hs ho1 hx ?_
    exact h v w ⟨xs, by rw [List.append_nil]; exact ho1, by rw [List.append_nil]; exact hc1⟩ ⟨xs, ho1⟩ (grown_same w _)
  · subst q1
    refine wpList_append_own_want hw s x t ho R E i z 4 64 ht hi hz hsize hby hzs (by decide) v l.length xs hs ho1 ⟨g, 0, none⟩ m.length cap ys hx hc2.length (fun j y hy => World.ownsRow.cells ho2 rfl j y hy) (tok_one hc2) ?_ h64 hbase ?_
    · unfold maxLen; omega
    · intro v' w' h1 h2 _
      exact h v' w' ⟨xs ++ ys, by rw [List.length_append]; exact h1, (hc1.mono (Nat.le_refl _) fun _ _ q => owns_grown q h2 ho1 hE).app (hc2.mono (Nat.le_refl _) fun _ _ q => owns_grown q h2 ho1 hE)⟩ ⟨xs, ho1⟩ h2
end
end Go.Proofs.YtdoekpodichhdaaDoor
