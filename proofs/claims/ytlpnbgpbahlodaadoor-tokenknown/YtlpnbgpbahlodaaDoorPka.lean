/-
  Plain: the digits of a number in the base 32, there and back; what the library's reading at base 32 makes of bytes; two readings of a token are one.
-/
import Derived.Lib.AtoiAll
import Derived.WalkKit
namespace Go.Proofs.YtlpnbgpbahlodaaDoor
open Go
def sgL : List UInt8 := [48, 49, 50, 51, 52, 53, 54, 55, 56, 57, 97, 98, 99, 100, 101, 102, 103, 104, 105, 106, 107, 108, 109, 110, 111, 112, 113, 114, 115, 116, 117, 118]
def digC (d : Nat) : UInt8 := sgL.getD d 0
def dval (c : UInt8) : Nat := if 48 ≤ c.toNat ∧ c.toNat ≤ 57 then c.toNat - 48 else if 97 ≤ c.toNat ∧ c.toNat ≤ 118 then c.toNat - 87 else 32
theorem dval_dig : ∀ d, d < 32 → dval (digC d) = d := by decide
theorem dval_le (c : UInt8) : dval c ≤ 32 := by unfold dval; split <;> (try split) <;> omega
theorem dig_nat : ∀ d, d < 32 → (digC d).toNat = if d < 10 then 48 + d else 87 + d := by decide
theorem dig_dval {c : UInt8} (h : dval c < 32) : digC (dval c) = c := by
  apply UInt8.toNat_inj.1
  rw [dig_nat _ h]
  unfold dval at h ⊢
  split
  · rw [if_pos (by omega)]; omega
  · rename_i h1
    rw [if_neg h1] at h
    split
    · rw [if_neg (by omega)]; omega
    · rename_i h2
      rw [if_neg h2] at h
      omega
theorem dval_lt {a b : UInt8} (ha : dval a < 32) (hb : dval b < 32) : a.toNat < b.toNat ↔ dval a < dval b := by
  have e1 := dig_nat _ ha
  have e2 := dig_nat _ hb
  rw [dig_dval ha] at e1
  rw [dig_dval hb] at e2
  rw [e1, e2]
  split <;> split <;> omega
def tokL : Nat → Nat → List UInt8
  | 0, _ => []
  | k + 1, n => tokL k (n / 32) ++ [digC (n % 32)]
theorem tokL_length : ∀ (k n : Nat), (tokL k n).length = k
  | 0, _ => rfl
  | k + 1, n => by unfold tokL; rw [List.length_append, tokL_length k]; rfl
theorem tokL_head : ∀ (k n : Nat), tokL (k + 1) n = digC (n / 32 ^ k % 32) :: tokL k n
  | 0, n => by simp [tokL]
  | k + 1, n => by
    have h := tokL_head k (n / 32)
    show tokL (k + 1) (n / 32) ++ [digC (n % 32)] = _
    rw [h, Nat.div_div_eq_div_mul, ← Nat.pow_succ']
    rfl
def okD (c : UInt8) : Bool := decide (dval c < 32)
theorem tokL_ok : ∀ (k n : Nat), (tokL k n).all okD = true
  | 0, _ => rfl
  | k + 1, n => by
    unfold tokL
    rw [List.all_append, tokL_ok k]
    simp [okD, dval_dig (n % 32) (by omega)]
    omega
def val : Nat → List UInt8 → Nat
  | acc, [] => acc
  | acc, c :: r => val (acc * 32 + dval c) r
theorem val_app : ∀ (acc : Nat) (l m : List UInt8), val acc (l ++ m) = val (val acc l) m
  | _, [], _ => rfl
  | acc, c :: r, m => val_app (acc * 32 + dval c) r m
theorem val_tok : ∀ (k acc n : Nat), val acc (tokL k n) = acc * 32 ^ k + n % 32 ^ k
  | 0, acc, n => by simp [tokL, val]; omega
  | k + 1, acc, n => by
    unfold tokL
    rw [val_app, val_tok k, Nat.pow_succ', Nat.mod_mul]
    show (acc * 32 ^ k + n / 32 % 32 ^ k) * 32 + dval (digC (n % 32)) = _
    rw [dval_dig _ (by omega), Nat.add_mul, Nat.mul_assoc, Nat.mul_comm (32 ^ k) 32]
    omega
theorem val_lin : ∀ (l : List UInt8) (acc : Nat), val acc l = acc * 32 ^ l.length + val 0 l
  | [], acc => by simp [val]
  | c :: r, acc => by
    have e : (acc * 32 + dval c) * 32 ^ r.length = acc * 32 ^ (r.length + 1) + dval c * 32 ^ r.length := by rw [Nat.pow_succ', Nat.add_mul, ← Nat.mul_assoc]
    have h1 := val_lin r (acc * 32 + dval c)
    have h2 := val_lin r (0 * 32 + dval c)
    rw [e] at h1
    rw [Nat.zero_mul, Nat.zero_add] at h2
    show val (acc * 32 + dval c) r = acc * 32 ^ (r.length + 1) + val (0 * 32 + dval c) r
    rw [Nat.zero_mul, Nat.zero_add, h1, h2]
    omega
theorem val_lt : ∀ (l : List UInt8) (acc : Nat), l.all okD = true → val acc l < (acc + 1) * 32 ^ l.length
  | [], acc, _ => by simp [val]
  | c :: r, acc, h => by
    rw [List.all_cons, Bool.and_eq_true] at h
    have hc : dval c < 32 := by simpa [okD] using h.1
    have h1 := val_lt r (acc * 32 + dval c) h.2
    have h2 : (acc * 32 + dval c + 1) * 32 ^ r.length ≤ ((acc + 1) * 32) * 32 ^ r.length := Nat.mul_le_mul_right _ (by omega)
    show val (acc * 32 + dval c) r < _
    rw [List.length_cons, Nat.pow_succ', ← Nat.mul_assoc]
    omega
theorem tok_val : ∀ (l : List UInt8) (acc : Nat), l.all okD = true → tokL l.length (val acc l) = l
  | [], _, _ => rfl
  | c :: r, acc, h => by
    rw [List.all_cons, Bool.and_eq_true] at h
    have hc : dval c < 32 := by simpa [okD] using h.1
    have h1 := val_lin r (acc * 32 + dval c)
    have h2 := val_lt r 0 h.2
    have hp : 0 < 32 ^ r.length := Nat.pow_pos (by omega)
    rw [List.length_cons, tokL_head]
    show digC (val (acc * 32 + dval c) r / 32 ^ r.length % 32) :: tokL r.length (val (acc * 32 + dval c) r) = _
    rw [tok_val r _ h.2, h1, Nat.mul_comm, Nat.mul_add_div hp, Nat.div_eq_of_lt (by omega), show (acc * 32 + dval c + 0) % 32 = dval c by omega, dig_dval hc]
/-- Which number a token stands for, as the document reads it. -/
def refT (s : List UInt8) : Option Nat := if s.all okD = true ∧ s.length = 13 ∧ dval (s.headD 0) ≤ 15 then some (val 0 s) else none
theorem refT_some {s : List UInt8} {n : Nat} (h : refT s = some n) : tokL 13 n = s ∧ n < 18446744073709551616 := by
  unfold refT at h
  split at h
  · rename_i hh
    obtain ⟨h1, h2, h3⟩ := hh
    cases h
    refine ⟨by have := tok_val s 0 h1; rw [h2] at this; exact this, ?_⟩
    cases s with
    | nil => simp at h2
    | cons c r =>
      rw [List.all_cons, Bool.and_eq_true] at h1
      have h4 := val_lt r (0 * 32 + dval c) h1.2
      have h5 : r.length = 12 := by simpa using h2
      rw [h5] at h4
      have h6 : dval c ≤ 15 := h3
      show val (0 * 32 + dval c) r < _
      omega
  · cases h
theorem refT_tok {u : Nat} (h : u < 18446744073709551616) : refT (tokL 13 u) = some u := by
  have hv : val 0 (tokL 13 u) = u := by
    rw [val_tok]
    omega
  unfold refT
  rw [if_pos, hv]
  refine ⟨tokL_ok _ _, tokL_length _ _, ?_⟩
  rw [tokL_head 12 u] at hv ⊢
  show dval (digC (u / 32 ^ 12 % 32)) ≤ 15
  rw [dval_dig _ (by omega)]
  omega
/-- What the library takes a byte for. -/
def dlow (c : UInt8) : Nat := if 48 ≤ c.toNat ∧ c.toNat ≤ 57 then c.toNat - 48 else if 97 ≤ bits .or .u8 (c.toNat : Int) 32 ∧ bits .or .u8 (c.toNat : Int) 32 ≤ 122 then (bits .or .u8 (c.toNat : Int) 32).toNat - 87 else 99
theorem low_same : ∀ k : Nat, k < 22 → bits .or .u8 ((97 + k : Nat) : Int) 32 = ((97 + k : Nat) : Int) := by decide
theorem dlow_eq {c : UInt8} (h : dval c < 32) : dlow c = dval c := by
  unfold dval at h ⊢
  unfold dlow
  split
  · rfl
  · rename_i h1
    rw [if_neg h1] at h
    split at h
    · rename_i h2
      obtain ⟨k, hk⟩ : ∃ k, c.toNat = 97 + k := ⟨c.toNat - 97, by omega⟩
      have h3 := low_same k (by omega)
      rw [← hk] at h3
      rw [h3, if_pos (by omega), if_pos h2]
      omega
    · omega
/-- The library's reading at base 32 and 64 bits. -/
def pu32 : Nat → List UInt8 → Lib.NumEnd Nat
  | acc, [] => .ok acc
  | acc, c :: r => if dlow c < 32 then (if 576460752303423488 ≤ acc then .range else pu32 (acc * 32 + dlow c) r) else .syntax
theorem pu32_ok : ∀ (l : List UInt8) (acc : Nat), l.all okD = true → val acc l < 18446744073709551616 → pu32 acc l = .ok (val acc l)
  | [], _, _, _ => rfl
  | c :: r, acc, h, hv => by
    rw [List.all_cons, Bool.and_eq_true] at h
    have hc : dval c < 32 := by simpa [okD] using h.1
    have h1 := val_lin r (acc * 32 + dval c)
    have h2 : (acc * 32 + dval c) * 1 ≤ (acc * 32 + dval c) * 32 ^ r.length := Nat.mul_le_mul_left _ (Nat.pow_pos (by omega))
    have h3 : val acc (c :: r) = val (acc * 32 + dval c) r := rfl
    rw [h3] at hv ⊢
    unfold pu32
    rw [dlow_eq hc, if_pos hc, if_neg (by omega)]
    exact pu32_ok r _ h.2 hv
theorem pu32_lt : ∀ (l : List UInt8) (acc u : Nat), acc < 18446744073709551616 → pu32 acc l = .ok u → u < 18446744073709551616
  | [], acc, u, ha, h => by
    simp only [pu32] at h
    injection h with h
    omega
  | c :: r, acc, u, ha, h => by
    unfold pu32 at h
    split at h
    · split at h
      · cases h
      · exact pu32_lt r _ u (by omega) h
    · cases h
def puT (s : List UInt8) : Lib.NumEnd Nat := if s = [] then .syntax else pu32 0 s
/-- Which number a token stands for, as the program reads it. -/
def readT (s : List UInt8) : Option Nat := match puT s with
  | .ok u => if tokL 13 u = s then some u else none
  | _ => none
theorem puT_tok {u : Nat} (h : u < 18446744073709551616) : puT (tokL 13 u) = .ok u := by
  have hv : val 0 (tokL 13 u) = u := by
    rw [val_tok]
    omega
  unfold puT
  rw [if_neg (fun e => by have := congrArg List.length e; rw [tokL_length] at this; cases this), pu32_ok _ 0 (tokL_ok _ _) (by rw [hv]; exact h), hv]
theorem puT_lt {s : List UInt8} {u : Nat} (h : puT s = .ok u) : u < 18446744073709551616 := by
  unfold puT at h
  split at h
  · cases h
  · exact pu32_lt _ 0 u (by omega) h
theorem readT_tok {u : Nat} (h : u < 18446744073709551616) : readT (tokL 13 u) = some u := by
  unfold readT
  rw [puT_tok h]
  exact if_pos rfl
theorem readT_some {s : List UInt8} {u : Nat} (h : readT s = some u) : tokL 13 u = s ∧ u < 18446744073709551616 := by
  unfold readT at h
  cases hp : puT s with
  | ok v =>
    rw [hp] at h
    simp only at h
    split at h
    · rename_i he
      cases h
      exact ⟨he, puT_lt hp⟩
    · cases h
  | «syntax» => rw [hp] at h; cases h
  | range => rw [hp] at h; cases h
theorem readT_eq (s : List UInt8) : readT s = refT s := by
  cases h : readT s with
  | some u =>
    obtain ⟨h1, h2⟩ := readT_some h
    rw [← h1, refT_tok h2]
  | none =>
    cases h' : refT s with
    | none => rfl
    | some n =>
      obtain ⟨h1, h2⟩ := refT_some h'
      rw [← h1, readT_tok h2] at h
      cases h
theorem tok_inj {a b : Nat} (ha : a < 18446744073709551616) (hb : b < 18446744073709551616) : tokL 13 a = tokL 13 b ↔ a = b := by
  constructor
  · intro h
    have h1 := readT_tok ha
    rw [h, readT_tok hb] at h1
    exact (Option.some.inj h1).symm
  · rintro rfl; rfl
theorem lex_val : ∀ (l m : List UInt8) (acc : Nat), l.length = m.length → l.all okD = true → m.all okD = true → (l < m ↔ val acc l < val acc m)
  | [], [], acc, _, _, _ => by simp
  | [], _ :: _, _, h, _, _ => by simp at h
  | _ :: _, [], _, h, _, _ => by simp at h
  | a :: l, b :: m, acc, h, hl, hm => by
    rw [List.all_cons, Bool.and_eq_true] at hl hm
    have ha : dval a < 32 := by simpa [okD] using hl.1
    have hb : dval b < 32 := by simpa [okD] using hm.1
    have hlen : l.length = m.length := by simpa using h
    show _ ↔ val (acc * 32 + dval a) l < val (acc * 32 + dval b) m
    rw [List.cons_lt_cons_iff]
    by_cases he : a = b
    · subst he
      rw [← lex_val l m (acc * 32 + dval a) hlen hl.2 hm.2]
      constructor
      · rintro (h1 | ⟨_, h1⟩)
        · exact absurd h1 (UInt8.lt_irrefl _)
        · exact h1
      · intro h1; exact Or.inr ⟨rfl, h1⟩
    · have hd : dval a ≠ dval b := fun e => he (by rw [← dig_dval ha, ← dig_dval hb, e])
      have h1 := val_lt l (acc * 32 + dval a) hl.2
      have h2 := val_lt m (acc * 32 + dval b) hm.2
      have h3 := val_lin l (acc * 32 + dval a)
      have h4 := val_lin m (acc * 32 + dval b)
      rw [hlen] at h1 h3
      have hlt : a < b ↔ dval a < dval b := by rw [UInt8.lt_iff_toNat_lt]; exact dval_lt ha hb
      constructor
      · rintro (h5 | ⟨h5, _⟩)
        · have h6 := hlt.1 h5
          have h7 : (acc * 32 + dval a + 1) * 32 ^ m.length ≤ (acc * 32 + dval b) * 32 ^ m.length := Nat.mul_le_mul_right _ (by omega)
          omega
        · exact absurd h5 he
      · intro h5
        refine Or.inl (hlt.2 ?_)
        apply Classical.byContradiction
        intro h6
        have h7 : (acc * 32 + dval b + 1) * 32 ^ m.length ≤ (acc * 32 + dval a) * 32 ^ m.length := Nat.mul_le_mul_right _ (by omega)
        omega
theorem tok_lt {a b : Nat} (ha : a < 18446744073709551616) (hb : b < 18446744073709551616) : tokL 13 a < tokL 13 b ↔ a < b := by
  rw [lex_val _ _ 0 (by rw [tokL_length, tokL_length]) (tokL_ok _ _) (tokL_ok _ _), val_tok, val_tok]
  omega
end Go.Proofs.YtlpnbgpbahlodaaDoor
