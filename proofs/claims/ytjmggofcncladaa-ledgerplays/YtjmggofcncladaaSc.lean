/-
  A push in either case; texts appended to a row that a call made.
-/
import Derived.Test.YtjmggofcncladaaSb
namespace Go.Proofs.Ytjmggofcncladaa
open Go Go.RowKit
/-- The texts behind a push. -/
def pushN (n : Nat) (l : List ByteArray) (s : ByteArray) : List ByteArray := if l.length < n then l ++ [s] else l
theorem push_any (r p n f : Nat) (l : List ByteArray) (s : ByteArray) (w : World) (h : RgAt r p n f l w) :
    Calls Try.prog 32 #[.pointer (some ⟨r, 0, none⟩), .string s] w fun e w' => e = .returned (.bool (decide (l.length < n))) ∧ RgAt r p n f (pushN n l s) w' ∧ Fz r p w w' := by
  unfold pushN
  by_cases hl : l.length < n
  · rw [if_pos hl, decide_eq_true hl]
    exact push_ok r p n f l s w h hl
  · rw [if_neg hl, decide_eq_false hl]
    have := h.ln
    refine (push_full r p n f l s w h (by omega)).mono fun e w' ⟨he, hw⟩ => ?_
    subst he hw
    exact ⟨rfl, h, Fz.refl _ _ _⟩
theorem wpList_append_any {P : Program} {w : World} {ops : Array Oper} {rest : List Oper} {o : Oper} {a : Act} {Q : Exit → Act → World → Prop} (hgd : o.guard = none) (s x : Operand) (t : TypeId)
    (ho : o.op = .call { callee := .builtin .append, args := #[s, x], argTypes := #[t, t] })
    (base : Nat) (e : TypeId) (i : TypeInfo) (z : Value) (size bytes : Nat) (ht : P.underlying t = some (.slice e)) (hi : P.info? e = some i) (hz : i.zero = some z)
    (hsize : i.size = size) (hby : i.bytes = bytes) (hzs : z.cells.size = size) (hsz : 0 < size) (v : Value) (n : Nat) (xs : List Value) (hs : a.eval s = v) (hown : w.ownsRow base e size v n xs)
    (ao : Option Addr) (m c : Nat) (news : List Value) (hx : a.eval x = .slice ao m c) (hnil : ao = none → m = 0 ∧ c = 0) (hl : news.length = m * size)
    (hrow : ∀ (j : Nat) (u : Value), news[j]? = some u → ∃ ad, ao = some ad ∧ w.cell? (ad.add j) = some u) (h1 : ∀ u ∈ news, u.oneCell' = true)
    (h63 : n + m ≤ maxLen) (hbytes : (n + m) * bytes ≤ 140737488355328) (hbase : base ≤ w.heap.size)
    (h : ∀ v' w', w'.ownsRow base e size v' (n + m) (xs ++ news) → Below base w w' → w.grownBy w' v.ownBlock → wpList P ops Q rest (a.put o.dst v') w') : wpList P ops Q (o :: rest) a w := by
  cases ao with
  | none =>
    obtain ⟨rfl, rfl⟩ := hnil rfl
    obtain rfl : news = [] := List.length_eq_zero_iff.1 (by rw [hl, Nat.zero_mul])
    refine wpList_append_own_none hgd s x t ho base e i size ht hi v n xs hs hown hx (h _ _ ?_ (Below.refl _ _) ⟨rfl, rfl, rfl, Nat.le_refl _, fun _ _ _ => rfl⟩)
    rw [List.append_nil, Nat.add_zero]
    exact hown
  | some ad =>
    refine wpList_append_own w hgd s x t ho base e i z size bytes ht hi hz hsize hby hzs hsz v n xs hs hown ad m c news hx hl (fun j u hu => ?_) h1 h63 hbytes hbase fun v' w' h2 h3 _ => ?_
    · obtain ⟨ad', h3, h4⟩ := hrow j u hu
      cases h3
      exact h4
    · exact h v' w' h2 ((Below.refl _ w).grown h3 hbase (fun k hk => (World.ownsRow.lt hown k hk).1)) h3
theorem TxAt.nil0 {B : Nat} {ao : Option Addr} {cap : Nat} {l : List ByteArray} {w : World} (h : TxAt B ao cap l w) : ao = none → l.length = 0 ∧ cap = 0 := by
  intro e
  rcases h.2 with ⟨h1, h2⟩ | ⟨g, cap', cur, h1, _⟩
  · exact ⟨h2, (Value.slice.inj h1).2.2⟩
  · rw [e] at h1
    cases (Value.slice.inj h1).1
theorem RowS.cells {w : World} {ao : Option Addr} {l : List ByteArray} (h : RowS w ao l) : ∀ (j : Nat) (u : Value), (strs l)[j]? = some u → ∃ ad, ao = some ad ∧ w.cell? (ad.add j) = some u := by
  intro j u hu
  rw [strs_get] at hu
  obtain ⟨s, hs, rfl⟩ := Option.map_eq_some_iff.1 hu
  exact h j s hs
theorem tx_of_owns {B : Nat} {v : Value} {n : Nat} {l : List ByteArray} {w : World} (h : w.ownsRow B 9 1 v n (strs l)) (hn : n = l.length) : ∃ ao cap, v = .slice ao l.length cap ∧ TxAt B ao cap l w := by
  subst hn
  rcases h.2 with ⟨h1, h2⟩ | ⟨g, cap, cur, h1, _⟩
  · refine ⟨none, 0, by rw [h1, h2], ?_⟩
    unfold TxAt
    rw [h1, ← h2] at h
    rw [h2] at h ⊢
    exact h
  · subst h1
    exact ⟨_, cap, rfl, h⟩
end Go.Proofs.Ytjmggofcncladaa
