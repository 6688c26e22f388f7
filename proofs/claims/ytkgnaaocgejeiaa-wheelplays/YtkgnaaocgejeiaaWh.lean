/-
  Heaps in plain mathematics: what stays of a heap while a number is moved up or down, and that the first one is the least.
-/
import Derived.Test.YtkgnaaocgejeiaaWm
namespace Go.Proofs.Ytkgnaaocgejeiaa
theorem ltT_asym {t : Int → Option Int} {a b : Int} (h : ltT t a b = true) : ltT t b a = false := by
  unfold ltT at h ⊢
  split at h <;> split <;> simp_all <;> omega
theorem ltT_trans {t : Int → Option Int} {a b c : Int} (h : ltT t b a = false) (k : ltT t c b = false) : ltT t c a = false := by
  unfold ltT at h k ⊢
  split at h <;> split at k <;> split <;> simp_all <;> omega
theorem ltT_total {t : Int → Option Int} {a b : Int} (h : ltT t a b = false) (k : ltT t b a = false) : a = b := by
  unfold ltT at h k
  split at h <;> split at k <;> simp_all <;> omega
theorem ltT_irr (t : Int → Option Int) (a : Int) : ltT t a a = false := by unfold ltT; simp
/-- Not behind. -/
def le (t : Int → Option Int) (a b : Int) : Prop := ltT t b a = false
theorem le.trans {t : Int → Option Int} {a b c : Int} (h : le t a b) (k : le t b c) : le t a c := ltT_trans h k
theorem le_of_lt {t : Int → Option Int} {a b : Int} (h : ltT t a b = true) : le t a b := ltT_asym h
theorem le.rfl {t : Int → Option Int} {a : Int} : le t a a := ltT_irr t a
/-- The place above. -/
def par (k : Nat) : Nat := (k - 1) / 2
theorem par_lt {k : Nat} (h : 0 < k) : par k < k := by unfold par; omega
/-- The first n numbers are a heap. -/
def Heap (t : Int → Option Int) (n : Nat) (f : Nat → Int) : Prop := ∀ k, 0 < k → k < n → le t (f (par k)) (f k)
/-- .. but for that at j against the one above it. -/
def UpI (t : Int → Option Int) (n : Nat) (f : Nat → Int) (j : Nat) : Prop :=
  (∀ k, 0 < k → k < n → k ≠ j → le t (f (par k)) (f k)) ∧ (∀ k, 0 < k → k < n → par k = j → 0 < j → le t (f (par j)) (f k))
/-- .. but for that at i against those below it (and, if none has moved, against the one above it). -/
def DnI (t : Int → Option Int) (n : Nat) (f : Nat → Int) (i i0 : Nat) : Prop :=
  (∀ k, 0 < k → k < n → par k ≠ i → (k = i0 → i ≠ i0) → le t (f (par k)) (f k)) ∧ (∀ k, 0 < k → k < n → par k = i → 0 < i → le t (f (par i)) (f k))
/-- Two places exchanged. -/
def exch (f : Nat → Int) (i j : Nat) : Nat → Int := fun k => if k = j then f i else if k = i then f j else f k
theorem exch_i {f : Nat → Int} {i j : Nat} (h : i ≠ j) : exch f i j i = f j := by unfold exch; rw [if_neg h, if_pos rfl]
theorem exch_j {f : Nat → Int} {i j : Nat} : exch f i j j = f i := by unfold exch; rw [if_pos rfl]
theorem exch_k {f : Nat → Int} {i j k : Nat} (h1 : k ≠ i) (h2 : k ≠ j) : exch f i j k = f k := by unfold exch; rw [if_neg h2, if_neg h1]
theorem up_step {t : Int → Option Int} {n : Nat} {f : Nat → Int} {j : Nat} (h : UpI t n f j) (hj : 0 < j) (hn : j < n) (hl : ltT t (f j) (f (par j)) = true) : UpI t n (exch f (par j) j) (par j) := by
  have hp := par_lt hj
  have hne : par j ≠ j := by omega
  refine ⟨fun k k0 kn hk => ?_, fun k k0 kn hk hi => ?_⟩
  · by_cases e1 : k = j
    · subst e1
      rw [exch_i hne, exch_j]
      exact le_of_lt hl
    · by_cases e2 : par k = par j
      · rw [e2, exch_i hne, exch_k hk e1]
        have := h.1 k k0 kn e1
        rw [e2] at this
        exact (le_of_lt hl).trans this
      · by_cases e3 : par k = j
        · rw [e3, exch_j, exch_k hk e1]
          exact h.2 k k0 kn e3 hj
        · rw [exch_k e2 e3, exch_k hk e1]
          exact h.1 k k0 kn e1
  · have hpp := par_lt hi
    rw [exch_k (by omega) (by omega)]
    have hpi := h.1 (par j) hi (by omega) hne
    by_cases e1 : k = j
    · subst e1
      rw [exch_j]
      exact hpi
    · have hki : k ≠ par j := by have := par_lt k0; omega
      rw [exch_k hki e1]
      have := h.1 k k0 kn e1
      rw [hk] at this
      exact hpi.trans this
theorem up_end0 {t : Int → Option Int} {n : Nat} {f : Nat → Int} (h : UpI t n f 0) : Heap t n f := fun k k0 kn => h.1 k k0 kn (by omega)
theorem up_end {t : Int → Option Int} {n : Nat} {f : Nat → Int} {j : Nat} (h : UpI t n f j) (hl : ltT t (f j) (f (par j)) = false) : Heap t n f := fun k k0 kn => by
  by_cases e : k = j
  · subst e; exact hl
  · exact h.1 k k0 kn e
theorem dn_step {t : Int → Option Int} {n : Nat} {f : Nat → Int} {i i0 j : Nat} (h : DnI t n f i i0) (h0 : i0 ≤ i) (hj0 : 0 < j) (hji : par j = i) (hn : j < n) (hm : ∀ k, 0 < k → k < n → par k = i → le t (f j) (f k)) (hl : ltT t (f j) (f i) = true) :
    DnI t n (exch f i j) j i0 := by
  have hp := par_lt hj0
  have hne : i ≠ j := by omega
  refine ⟨fun k k0 kn hk _ => ?_, fun k k0 kn hk hi => ?_⟩
  · by_cases e1 : k = i
    · subst e1
      have := par_lt k0
      rw [exch_i hne, exch_k (by omega) (by omega)]
      exact h.2 j hj0 hn hji k0
    · by_cases e2 : par k = i
      · rw [e2, exch_i hne]
        by_cases e3 : k = j
        · subst e3
          rw [exch_j]
          exact le_of_lt hl
        · rw [exch_k e1 e3]
          exact hm k k0 kn e2
      · have e3 : k ≠ j := by rintro rfl; exact e2 hji
        rw [exch_k e2 hk, exch_k e1 e3]
        exact h.1 k k0 kn e2 (fun e e' => e1 (e.trans e'.symm))
  · have := par_lt k0
    rw [hji, exch_i hne, exch_k (by omega) (by omega)]
    have := h.1 k k0 kn (by omega) (fun e => by omega)
    rw [hk] at this
    exact this
theorem dn_end {t : Int → Option Int} {n : Nat} {f : Nat → Int} {i i0 : Nat} (h : DnI t n f i i0) (hm : ∀ k, 0 < k → k < n → par k = i → le t (f i) (f k)) (hi : i ≠ i0) : Heap t n f := fun k k0 kn => by
  by_cases e : par k = i
  · rw [e]; exact hm k k0 kn e
  · exact h.1 k k0 kn e (fun _ => hi)
theorem dn_stay {t : Int → Option Int} {n : Nat} {f : Nat → Int} {i : Nat} (h : DnI t n f i i) (hm : ∀ k, 0 < k → k < n → par k = i → le t (f i) (f k)) : UpI t n f i := by
  refine ⟨fun k k0 kn hk => ?_, h.2⟩
  by_cases e : par k = i
  · rw [e]; exact hm k k0 kn e
  · exact h.1 k k0 kn e (fun e => absurd e hk)
theorem dn_start {t : Int → Option Int} {n : Nat} {f : Nat → Int} {i : Nat} (h : Heap t (n + 1) f) (hi : i < n) : DnI t n (exch f i n) i i := by
  refine ⟨fun k k0 kn h1 h2 => ?_, fun k k0 kn h1 h2 => ?_⟩
  · have hk : k ≠ i := fun e => h2 e rfl
    have := par_lt k0
    rw [exch_k h1 (by omega), exch_k hk (by omega)]
    exact h k k0 (by omega)
  · have := par_lt h2
    have := par_lt k0
    rw [exch_k (by omega) (by omega), exch_k (by omega) (by omega)]
    have e := h k k0 (by omega)
    rw [h1] at e
    exact (h i h2 (by omega)).trans e
/-- The first one is the least. -/
theorem heap_min {t : Int → Option Int} {n : Nat} {f : Nat → Int} (h : Heap t n f) : ∀ k, k < n → le t (f 0) (f k) := by
  intro k
  induction k using Nat.strongRecOn with
  | ind k ih =>
    intro hk
    by_cases e : k = 0
    · subst e; exact le.rfl
    · have := par_lt (k := k) (by omega)
      exact (ih (par k) this (by omega)).trans (h k (by omega) hk)
/-- The children of a place. -/
theorem par_child {k i : Nat} (h : 0 < k) : par k = i ↔ k = 2 * i + 1 ∨ k = 2 * i + 2 := by unfold par; omega
/-- A list as a function of places. -/
def at0 (l : List Int) (k : Nat) : Int := l.getD k 0
theorem at0_get {l : List Int} {k : Nat} {x : Int} (h : l[k]? = some x) : at0 l k = x := by unfold at0; rw [List.getD_eq_getElem?_getD, h]; rfl
theorem at0_lt {l : List Int} {k : Nat} (h : k < l.length) : l[k]? = some (at0 l k) := by unfold at0; rw [List.getD_eq_getElem?_getD, List.getElem?_eq_getElem h]; rfl
theorem at0_swp {l : List Int} {i j : Nat} (hi : i < l.length) (hj : j < l.length) : at0 ((l.set i (at0 l j)).set j (at0 l i)) = exch (at0 l) i j := by
  funext k
  unfold exch
  by_cases e1 : k = j
  · subst e1
    rw [if_pos rfl]
    exact at0_get (List.getElem?_set_self (by simpa using hj))
  · rw [if_neg e1]
    by_cases e2 : k = i
    · subst e2
      rw [if_pos rfl]
      refine at0_get ?_
      rw [List.getElem?_set_ne (Ne.symm e1), List.getElem?_set_self hi]
    · rw [if_neg e2]
      unfold at0
      simp only [List.getD_eq_getElem?_getD]
      rw [List.getElem?_set_ne (Ne.symm e1), List.getElem?_set_ne (Ne.symm e2)]
theorem perm_swp {l : List Int} {i j : Nat} (hi : i < l.length) (hj : j < l.length) : ((l.set i (at0 l j)).set j (at0 l i)).Perm l := by
  have h := Array.swap_perm (xs := l.toArray) (i := i) (j := j) (by simpa using hi) (by simpa using hj)
  have h' := h.toList
  have e1 : at0 l i = l[i] := at0_get (List.getElem?_eq_getElem hi)
  have e2 : at0 l j = l[j] := at0_get (List.getElem?_eq_getElem hj)
  rw [e1, e2]
  simpa [Array.swap] using h'
end Go.Proofs.Ytkgnaaocgejeiaa
