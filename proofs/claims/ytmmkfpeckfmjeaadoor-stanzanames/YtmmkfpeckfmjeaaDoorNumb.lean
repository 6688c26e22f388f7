/-
  Plain mathematics, no program: decimal digits there and back (what the program's reading takes is what the document's takes).
-/
import Derived.Lib.ItoaNum
import Derived.Lib.ParseIntBCases
namespace Go.Proofs.YtmmkfpeckfmjeaaDoor
open Go Go.Lib
def digB (c : UInt8) : Bool := decide (48 ≤ c.toNat) && decide (c.toNat ≤ 57)
def valL : Nat → List UInt8 → Nat
  | acc, [] => acc
  | acc, c :: r => valL (acc * 10 + (c.toNat - 48)) r
theorem valL_ge : ∀ (l : List UInt8) (acc : Nat), acc ≤ valL acc l
  | [], _ => Nat.le_refl _
  | c :: r, acc => Nat.le_trans (by omega) (valL_ge r (acc * 10 + (c.toNat - 48)))
theorem valL_mono : ∀ (l : List UInt8) (a b : Nat), a ≤ b → valL a l ≤ valL b l
  | [], _, _, h => h
  | c :: r, a, b, h => valL_mono r _ _ (by omega)
theorem valL_append : ∀ (l r : List UInt8) (acc : Nat), valL acc (l ++ r) = valL (valL acc l) r
  | [], _, _ => rfl
  | _ :: l, r, _ => valL_append l r _
theorem parse_ok : ∀ (l : List UInt8) (acc : Nat), l.all digB = true → valL acc l ≤ 4294967295 → parseUintM 4294967295 acc l = .ok (valL acc l)
  | [], _, _, _ => rfl
  | c :: r, acc, hd, hv => by
    simp only [List.all_cons, Bool.and_eq_true, digB, decide_eq_true_eq] at hd
    have h1 := valL_ge r (acc * 10 + (c.toNat - 48))
    have h2 : valL (acc * 10 + (c.toNat - 48)) r ≤ 4294967295 := hv
    rw [parseUintM, if_pos hd.1, if_neg (by omega), if_neg (by omega)]
    exact parse_ok r _ (by simpa [digB] using hd.2) hv
theorem parse_inv : ∀ (l : List UInt8) (acc u : Nat), parseUintM 4294967295 acc l = .ok u → l.all digB = true ∧ u = valL acc l
  | [], acc, u, h => by simp [parseUintM] at h; exact ⟨rfl, h.symm⟩
  | c :: r, acc, u, h => by
    rw [parseUintM] at h
    split at h
    · rename_i hc
      split at h
      · cases h
      · split at h
        · cases h
        · obtain ⟨h1, h2⟩ := parse_inv r _ u h
          exact ⟨by rw [List.all_cons, h1]; simp [digB, hc], h2⟩
    · cases h
theorem dec_all (u : Nat) : (decDigits u).all digB = true := by
  induction u using Nat.strongRecOn with
  | _ u ih =>
    rw [decDigits]
    split
    · rename_i h
      simp [digB, UInt8.toNat_ofNat']
      omega
    · rename_i h
      rw [List.all_append, ih (u / 10) (by omega)]
      simp [digB, UInt8.toNat_ofNat']
      omega
theorem dec_val (u : Nat) : valL 0 (decDigits u) = u := by
  induction u using Nat.strongRecOn with
  | _ u ih =>
    by_cases h : u < 10
    · have e : (UInt8.ofNat (48 + u)).toNat = 48 + u := by rw [UInt8.toNat_ofNat', Nat.mod_eq_of_lt (by omega)]
      rw [decDigits_one h]
      show 0 * 10 + ((UInt8.ofNat (48 + u)).toNat - 48) = u
      rw [e]
      omega
    · have e : (UInt8.ofNat (48 + u % 10)).toNat = 48 + u % 10 := by rw [UInt8.toNat_ofNat', Nat.mod_eq_of_lt (by omega)]
      have hs : decDigits u = decDigits (u / 10) ++ [UInt8.ofNat (48 + u % 10)] := by rw [decDigits, dif_neg h]
      rw [hs, valL_append, ih (u / 10) (by omega)]
      show u / 10 * 10 + ((UInt8.ofNat (48 + u % 10)).toNat - 48) = u
      rw [e]
      omega
theorem dec_ne (u : Nat) : decDigits u ≠ [] := by
  rw [decDigits]
  split <;> simp
theorem dec_back : ∀ (n : Nat) (l : List UInt8), l.length ≤ n → l ≠ [] → l.all digB = true → (∀ r, l = 48 :: r → r = []) → decDigits (valL 0 l) = l := by
  intro n
  induction n with
  | zero => intro l hl hn; cases l; exact absurd rfl hn; simp at hl
  | succ n ih =>
    intro l hl hn hd h0
    rcases List.eq_nil_or_concat l with rfl | ⟨l', c, rfl⟩
    · exact absurd rfl hn
    rw [List.concat_eq_append] at *
    rw [List.all_append, Bool.and_eq_true] at hd
    have hc : 48 ≤ c.toNat ∧ c.toNat ≤ 57 := by simpa [digB] using hd.2
    have e1 : UInt8.ofNat (48 + (c.toNat - 48)) = c := by
      rw [show 48 + (c.toNat - 48) = c.toNat by omega]; simp
    rw [valL_append]
    cases hl' : l' with
    | nil =>
      show decDigits (0 * 10 + (c.toNat - 48)) = [c]
      rw [Nat.zero_mul, Nat.zero_add, decDigits_one (i := c.toNat - 48) (by omega), e1]
    | cons a r =>
      have ha : 48 ≤ a.toNat ∧ a.toNat ≤ 57 := by
        have := hd.1
        rw [hl'] at this
        simp only [List.all_cons, Bool.and_eq_true, digB, decide_eq_true_eq] at this
        exact this.1
      have hne : a ≠ 48 := by
        rintro rfl
        have := h0 (r ++ [c]) (by rw [hl']; rfl)
        simp at this
      have ha1 : 1 ≤ a.toNat - 48 := by
        have : a.toNat ≠ 48 := fun h => hne (UInt8.toNat_inj.1 h)
        omega
      have hv : 1 ≤ valL 0 (a :: r) := Nat.le_trans (by simpa using ha1) (valL_ge r (0 * 10 + (a.toNat - 48)))
      have hk := ih l' (by simp at hl; omega) (by rw [hl']; simp) hd.1 (by
        intro q hq
        rw [hl'] at hq
        injection hq with h1 h2
        exact absurd h1 hne)
      rw [hl'] at hk
      generalize valL 0 (a :: r) = v at hk hv ⊢
      show decDigits (v * 10 + (c.toNat - 48)) = (a :: r) ++ [c]
      have e2 : (v * 10 + (c.toNat - 48)) / 10 = v := by omega
      have e3 : (v * 10 + (c.toNat - 48)) % 10 = c.toNat - 48 := by omega
      rw [decDigits, dif_neg (by omega), e2, e3, hk, e1]
theorem dec_head (u : Nat) (hu : 1 ≤ u) (r : List UInt8) : decDigits u ≠ 48 :: r := by
  induction u using Nat.strongRecOn generalizing r with
  | _ u ih =>
    rw [decDigits]
    split
    · rename_i h
      intro he
      injection he with h1 _
      have := congrArg UInt8.toNat h1
      simp [UInt8.toNat_ofNat'] at this
      omega
    · rename_i h
      have hi := ih (u / 10) (by omega) (by omega)
      cases hd : decDigits (u / 10) with
      | nil => exact absurd hd (dec_ne _)
      | cons a q =>
        intro he
        simp only [List.cons_append] at he
        injection he with h1 _
        subst h1
        exact hi q hd
theorem dec_zero (u : Nat) (r : List UInt8) (h : decDigits u = 48 :: r) : r = [] := by
  rcases Nat.eq_zero_or_pos u with rfl | hu
  · rw [decDigits_one (i := 0) (by omega)] at h
    injection h with _ h2
    exact h2.symm
  · exact absurd h (dec_head u hu r)
theorem dec_len : ∀ (k u : Nat), u < 10 ^ (k + 1) → (decDigits u).length ≤ k + 1
  | 0, u, h => by rw [decDigits_one (by simpa using h)]; simp
  | k + 1, u, h => by
    rw [decDigits]
    split
    · simp
    · have := dec_len k (u / 10) (by rw [Nat.pow_succ] at h; omega)
      simp
      omega
/-- The number that the program reads. -/
def readN (l : List UInt8) : Option Nat :=
  match parseUintB 32 l with
  | .ok u => if decDigits u = l then some u else none
  | _ => none
/-- The number that the document reads. -/
def refN (l : List UInt8) : Option Nat :=
  if l = [] ∨ 10 < l.length ∨ (l.head? = some 48 ∧ 1 < l.length) then none
  else if l.all digB = true then (if valL 0 l < 4294967296 then some (valL 0 l) else none) else none
theorem parseB_eq (l : List UInt8) (h : l ≠ []) : parseUintB 32 l = parseUintM 4294967295 0 l := by
  unfold parseUintB
  rw [if_neg h]
theorem readN_dec (a : Nat) (h : a < 4294967296) : readN (decDigits a) = some a := by
  unfold readN
  rw [parseB_eq _ (dec_ne a), parse_ok _ _ (dec_all a) (by rw [dec_val]; omega), dec_val]
  simp
theorem readN_inv {l : List UInt8} {u : Nat} (h : readN l = some u) : parseUintB 32 l = .ok u ∧ decDigits u = l ∧ u < 4294967296 := by
  unfold readN at h
  split at h
  · rename_i v hv
    split at h
    · rename_i hd
      cases h
      have := parseUintB_le hv
      exact ⟨hv, hd, by omega⟩
    · cases h
  · cases h
theorem head_one {l : List UInt8} (h : ¬ (l.head? = some 48 ∧ 1 < l.length)) (r : List UInt8) (hr : l = 48 :: r) : r = [] := by
  subst hr
  simp at h
  exact h
theorem readN_eq (l : List UInt8) : readN l = refN l := by
  unfold readN refN
  by_cases hn : l = []
  · subst hn
    simp [parseUintB]
  rw [parseB_eq l hn]
  cases hp : parseUintM 4294967295 0 l with
  | ok u =>
    obtain ⟨h1, h2⟩ := parse_inv l 0 u hp
    have hu : u ≤ 4294967295 := parseUintM_le _ l 0 u (by omega) hp
    subst h2
    simp only
    by_cases hd : decDigits (valL 0 l) = l
    · rw [if_pos hd, if_neg, if_pos h1, if_pos (by omega)]
      rintro (h | h | ⟨h, h'⟩)
      · exact hn h
      · have := dec_len 9 (valL 0 l) (by omega)
        rw [hd] at this
        omega
      · cases l with
        | nil => simp at h
        | cons a r =>
          simp at h
          subst h
          have := dec_zero _ r hd
          subst this
          simp at h'
    · rw [if_neg hd, if_pos]
      by_cases h0 : l.head? = some 48 ∧ 1 < l.length
      · exact Or.inr (Or.inr h0)
      · exact absurd (dec_back l.length l (Nat.le_refl _) hn h1 (head_one h0)) hd
  | _ =>
    simp only
    split
    · rfl
    · split
      · rename_i ha
        split
        · rename_i hv
          rw [parse_ok l 0 ha (by omega)] at hp
          cases hp
        · rfl
      · rfl
end Go.Proofs.YtmmkfpeckfmjeaaDoor
