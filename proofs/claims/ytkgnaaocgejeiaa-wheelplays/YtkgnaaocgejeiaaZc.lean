/-
  Numbers appended to a row that a call made; two wheels that lie apart.
-/
import Derived.Test.YtkgnaaocgejeiaaBase
import Derived.Laws.AppendOwnNone
namespace Go.Proofs.Ytkgnaaocgejeiaa
open Go Go.RowKit Go.Maps
theorem wpList_want {P : Program} {ops : Array Oper} {rest : List Oper} {o : Oper} {a : Act} {w : World} {Q : Exit → Act → World → Prop} (hw : Region.wanted o (yielded ops a.tmps) = true)
    (h : ∀ K : Act → World → Prop, (∀ a w, wpList P ops Q rest a w → K a w) → o.wp P a w K Q) : wpList P ops Q (o :: rest) a w :=
  wpList_step fun K hK => by rw [if_pos hw]; exact h K hK
theorem RowZ.cells {w : World} {ao : Option Addr} {l : List Int} (h : RowZ w ao l) : ∀ (j : Nat) (u : Value), (ints l)[j]? = some u → ∃ ad, ao = some ad ∧ w.cell? (ad.add j) = some u := by
  intro j u hu
  rw [ints_get] at hu
  obtain ⟨s, hs, rfl⟩ := Option.map_eq_some_iff.1 hu
  exact h j s hs
theorem wpList_append_z {w : World} {ops : Array Oper} {rest : List Oper} {o : Oper} {a : Act} {Q : Exit → Act → World → Prop} (hw : Region.wanted o (yielded ops a.tmps) = true) (s x : Operand)
    (ho : o.op = .call { callee := .builtin .append, args := #[s, x], argTypes := #[38, 38] })
    (base : Nat) (v : Value) (n : Nat) (xs : List Value) (hs : a.eval s = v) (hown : w.ownsRow base 3 1 v n xs)
    (ao : Option Addr) (m c : Nat) (l : List Int) (hx : a.eval x = .slice ao m c) (hnil : ao = none → m = 0 ∧ c = 0) (hl : l.length = m) (hrow : RowZ w ao l) (hb : n + m ≤ 1000) (hbase : base ≤ w.heap.size)
    (h : ∀ v' w', w'.ownsRow base 3 1 v' (n + m) (xs ++ ints l) → w.grownBy w' v.ownBlock → (v'.ownBlock = v.ownBlock ∨ v'.ownBlock = some w.heap.size) → wpList Try.prog ops Q rest (a.put o.dst v') w') : wpList Try.prog ops Q (o :: rest) a w := by
  obtain ⟨i0, hi, hz0, hz1, hz2⟩ := info_parts info3
  cases ao with
  | none =>
    obtain ⟨rfl, rfl⟩ := hnil rfl
    obtain rfl : l = [] := List.length_eq_zero_iff.1 hl
    refine wpList_want hw fun K hK => ?_
    have hrun := run_append_owned_none (P := Try.prog) (w := w) base 38 o.type 3 i0 1 Try.underlying38 hi v n xs hown
    unfold Oper.wp
    simp [execOp, ho, resolve, invoke, builtin, hs, hx, hrun, Result.andThen]
    refine hK _ _ (h _ _ ?_ ⟨rfl, rfl, rfl, Nat.le_refl _, fun _ _ _ => rfl⟩ (.inl rfl))
    rw [show ints [] = [] from rfl, List.append_nil, Nat.add_zero]
    exact hown
  | some ad =>
    refine wpList_want hw fun K hK => ?_
    obtain ⟨v', w', hr, h2, h3, h4, h5⟩ := run_append_own_at (P := Try.prog) w base 38 o.type 3 i0 (.int .i64 0) 1 8 Try.underlying38 hi hz0 hz1 hz2 rfl (by decide) v n xs hown ad m c (ints l) (by rw [ints_length, Nat.mul_one, hl])
      (fun j u hu => by obtain ⟨ad', e, k⟩ := hrow.cells j u hu; cases e; exact k) (ints_one l) (by unfold maxLen; omega) (by omega) hbase
    unfold Oper.wp
    simp [execOp, ho, resolve, invoke, builtin, hs, hx, hr, Result.andThen]
    exact hK _ _ (h _ _ h2 h3 h5)
theorem own_three {B n : Nat} {v : Value} {l : List Int} {w : World} (h : w.ownsRow B 3 1 v n (ints l)) (e : l.length = n) : ∃ ao cap, v = .slice ao n cap ∧ RowZ w ao l ∧ (∀ ad, ao = some ad → B ≤ ad.block) ∧ (ao = none → n = 0 ∧ cap = 0) := by
  subst e
  obtain ⟨ao, cap, h1, h2, h3⟩ := own_row h
  refine ⟨ao, cap, h1, h2, h3, fun e => ?_⟩
  rcases h.2 with ⟨k1, k2⟩ | ⟨g, cap', cur, k1, _⟩
  · rw [h1] at k1
    exact ⟨k2, (Value.slice.inj k1).2.2⟩
  · rw [h1, e] at k1
    cases (Value.slice.inj k1).1
/-- Two wheels that lie apart, above a block number. -/
structure Two (B ga gb : Nat) (La Lb : List (Int × Int)) (w : World) : Prop where
  ex : ∃ Sa Sb, WAt ga Sa 0 La w ∧ WAt gb Sb 0 Lb w ∧ (∀ k ∈ Sa, k ∉ Sb) ∧ (∀ k ∈ Sa, B ≤ k) ∧ (∀ k ∈ Sb, B ≤ k)
theorem Two.swap {B ga gb : Nat} {La Lb : List (Int × Int)} {w : World} (h : Two B ga gb La Lb w) : Two B gb ga Lb La w := by
  obtain ⟨Sa, Sb, h1, h2, h3, h4, h5⟩ := h.ex
  exact ⟨Sb, Sa, h2, h1, fun k hk hk' => h3 k hk' hk, h5, h4⟩
theorem Two.below {B ga gb : Nat} {La Lb : List (Int × Int)} {w w' : World} (h : Two B ga gb La Lb w) (hb : Below w.heap.size w w') : Two B ga gb La Lb w' := by
  obtain ⟨Sa, Sb, h1, h2, h3, h4, h5⟩ := h.ex
  exact ⟨Sa, Sb, h1.below hb, h2.below hb, h3, h4, h5⟩
theorem Two.alike {B ga gb : Nat} {La Lb : List (Int × Int)} {w w' : World} (h : Two B ga gb La Lb w) (e : w'.heap = w.heap) : Two B ga gb La Lb w' := by
  obtain ⟨Sa, Sb, h1, h2, h3, h4, h5⟩ := h.ex
  exact ⟨Sa, Sb, h1.alike e, h2.alike e, h3, h4, h5⟩
theorem two_a (B ga gb : Nat) (La Lb : List (Int × Int)) (z v : Int) (w : World) (h : Two B ga gb La Lb w) (hB : B ≤ w.heap.size) (hz : N z) (hv : N v) :
    Calls Try.prog 13 #[.pointer (some ⟨ga, 0, none⟩), .int .i64 z, .int .i64 v] w fun e w' => e = .returned (.int .i64 (setE 0 La z v)) ∧ Two B ga gb (setL 0 La z v) Lb w' ∧ Below B w w' := by
  obtain ⟨Sa, Sb, h1, h2, h3, h4, h5⟩ := h.ex
  refine (wset_any ga Sa 0 La z v w h1 hz hv).mono fun e w' ⟨he, S', k1, k2, k3⟩ => ⟨he, ⟨S', Sb, k1, h2.fr k3 fun k hk hk' => h3 k hk' hk, fun k hk hk' => ?_, fun k hk => ?_, h5⟩, k3.below hB h4⟩
  · rcases k2 k hk with h | h
    · exact h3 k h hk'
    · have := h2.lt k hk'
      omega
  · rcases k2 k hk with h | h
    · exact h4 k h
    · omega
theorem two_b (B ga gb : Nat) (La Lb : List (Int × Int)) (z v : Int) (w : World) (h : Two B ga gb La Lb w) (hB : B ≤ w.heap.size) (hz : N z) (hv : N v) :
    Calls Try.prog 13 #[.pointer (some ⟨gb, 0, none⟩), .int .i64 z, .int .i64 v] w fun e w' => e = .returned (.int .i64 (setE 0 Lb z v)) ∧ Two B ga gb La (setL 0 Lb z v) w' ∧ Below B w w' :=
  (two_a B gb ga Lb La z v w h.swap hB hz hv).mono fun _ _ ⟨h1, h2, h3⟩ => ⟨h1, h2.swap, h3⟩
theorem out_more {E : Int} {A R : List (Int × Int)} (hA : ∀ q ∈ A, q.2 ≤ E) : outN E (A ++ R) = A ++ outN E R ∧ restN E (A ++ R) = restN E R := by
  have h : ∀ q ∈ A, decide (q.2 ≤ E) = true := fun q hq => by simpa using hA q hq
  constructor
  · exact List.takeWhile_append_of_pos h
  · exact List.dropWhile_append_of_pos h
theorem outN_le {at_ E : Int} (h : at_ ≤ E) (R : List (Int × Int)) : ∀ q ∈ outN at_ R, q.2 ≤ E := by
  induction R with
  | nil => intro q hq; cases hq
  | cons r R ih =>
    intro q hq
    unfold outN at hq ih
    rw [List.takeWhile_cons] at hq
    split at hq
    · rename_i hr
      simp at hr
      rcases List.mem_cons.1 hq with rfl | hq
      · omega
      · exact ih q hq
    · cases hq
end Go.Proofs.Ytkgnaaocgejeiaa
