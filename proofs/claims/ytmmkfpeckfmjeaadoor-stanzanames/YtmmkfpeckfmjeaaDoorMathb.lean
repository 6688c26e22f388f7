/-
  Plain Lean, no program in it: how many bytes of a list are whole signs that may be, what stands for the five signs and back, which lists are names, and the laws on them.
-/
import Derived.Test.YtmmkfpeckfmjeaaDoorMath
namespace Go.Proofs.YtmmkfpeckfmjeaaDoor

theorem u8_of_nat (x : Int) (a : UInt8) (h : x.toNat = a.toNat) : x.toNat.toUInt8 = a := by rw [h]; simp
/-- A sign's bytes are its UTF-8 form. -/
theorem SgWay.enc {l : List UInt8} {r : Nat × Int} (h : SgWay l r) (hr : 1 ≤ r.2) : Lib.encodeRune (r.1 : Int) = l.take r.2.toNat := by
  have hlt : ∀ x : UInt8, x.toNat < 256 := fun x => x.toNat_lt
  revert hr
  refine h (fun l r => 1 ≤ r.2 → Lib.encodeRune (r.1 : Int) = l.take r.2.toNat) ?nil ?one ?bad0 ?part2 ?two ?bad2 ?part3a ?part3b ?bad3b ?three ?bad3c ?part4a ?part4b ?bad4b ?part4c ?bad4c ?four ?bad4d
  case one =>
    intro a t h hr
    unfold Lib.encodeRune
    rw [Lib.encodeRuneZ_one (by omega) (by simp only; omega)]
    simp
  case two =>
    intro a b t h h' hb hb' hr
    unfold Lib.encodeRune
    rw [Lib.encodeRuneZ_two (by simp only; omega) (by simp only; omega)]
    simp only [List.map_cons, List.map_nil]
    rw [u8_of_nat _ a (by omega), u8_of_nat _ b (by omega)]
    rfl
  case three =>
    intro a b c t h h' hb hc hc' hr
    unfold Lib.encodeRune
    rw [ok3_iff] at hb
    rw [Lib.encodeRuneZ_three (by simp only; omega)]
    simp only [List.map_cons, List.map_nil]
    rw [u8_of_nat _ a (by omega), u8_of_nat _ b (by omega), u8_of_nat _ c (by omega)]
    rfl
  case four =>
    intro a b c d t h h' hb hc hc' hd hd' hr
    unfold Lib.encodeRune
    rw [ok4_iff] at hb
    rw [Lib.encodeRuneZ_four (by simp only; omega) (by simp only; omega)]
    simp only [List.map_cons, List.map_nil]
    rw [u8_of_nat _ a (by omega), u8_of_nat _ b (by omega), u8_of_nat _ c (by omega), u8_of_nat _ d (by omega)]
    rfl
  all_goals
    intros
    rename_i hr
    simp at hr
theorem sg_enc (l : List UInt8) (h : 1 ≤ (sg l).2) : Lib.encodeRune ((sg l).1 : Int) = l.take (sg l).2.toNat := (sgWay l).enc h

/-- A sign of more than one byte: none of its bytes is below 128; nor is it. -/
theorem SgWay.high {l : List UInt8} {r : Nat × Int} (h : SgWay l r) (hr : 2 ≤ r.2) : 128 ≤ r.1 ∧ ∀ b ∈ l.take r.2.toNat, 128 ≤ b.toNat := by
  revert hr
  refine h (fun l r => 2 ≤ r.2 → 128 ≤ r.1 ∧ ∀ b ∈ l.take r.2.toNat, 128 ≤ b.toNat) ?nil ?one ?bad0 ?part2 ?two ?bad2 ?part3a ?part3b ?bad3b ?three ?bad3c ?part4a ?part4b ?bad4b ?part4c ?bad4c ?four ?bad4d
  case two =>
    intro a b t h h' hb hb' hr
    refine ⟨by simp only; omega, ?_⟩
    intro x hx
    simp at hx
    rcases hx with rfl | rfl <;> omega
  case three =>
    intro a b c t h h' hb hc hc' hr
    rw [ok3_iff] at hb
    refine ⟨by simp only; omega, ?_⟩
    intro x hx
    simp at hx
    rcases hx with rfl | rfl | rfl <;> omega
  case four =>
    intro a b c d t h h' hb hc hc' hd hd' hr
    rw [ok4_iff] at hb
    refine ⟨by simp only; omega, ?_⟩
    intro x hx
    simp at hx
    rcases hx with rfl | rfl | rfl | rfl <;> omega
  all_goals
    intros
    rename_i hr
    simp at hr
theorem SgWay.low {l : List UInt8} {r : Nat × Int} (h : SgWay l r) (hr : r.2 = 1) : ∃ a t, l = a :: t ∧ a.toNat < 128 ∧ r.1 = a.toNat := by
  revert hr
  refine h (fun l r => r.2 = 1 → ∃ a t, l = a :: t ∧ a.toNat < 128 ∧ r.1 = a.toNat) ?nil ?one ?bad0 ?part2 ?two ?bad2 ?part3a ?part3b ?bad3b ?three ?bad3c ?part4a ?part4b ?bad4b ?part4c ?bad4c ?four ?bad4d
  case one =>
    intro a t h hr
    exact ⟨a, t, rfl, h, rfl⟩
  all_goals
    intros
    rename_i hr
    simp at hr
theorem SgWay.bound {l : List UInt8} {r : Nat × Int} (h : SgWay l r) : r.1 ≤ 1114111 := by
  refine h (fun _ r => r.1 ≤ 1114111) ?nil ?one ?bad0 ?part2 ?two ?bad2 ?part3a ?part3b ?bad3b ?three ?bad3c ?part4a ?part4b ?bad4b ?part4c ?bad4c ?four ?bad4d
  all_goals
    intros
    simp only [ok3_iff, ok4_iff] at *
    omega

/-- The language's own answer for what is no sign is a sign, too: which it is, its three bytes tell. -/
theorem SgWay.err {l : List UInt8} {r : Nat × Int} (h : SgWay l r) (hl : l ≠ []) : (decide ((decL l).1 = 65533) && !Lib.hasPrefix l [239, 191, 189]) = decide (r.2 < 1) := by
  rw [decL_way h hl]
  cases hp : Lib.hasPrefix l [239, 191, 189] with
  | true =>
    unfold Lib.hasPrefix at hp
    obtain ⟨t, rfl⟩ := List.isPrefixOf_iff_prefix.1 hp
    have e : sg ([239, 191, 189] ++ t) = (65533, 3) := (SgWay.three 239 191 189 t (by decide) (by decide) (by decide) (by decide) (by decide)).eq
    rw [h.eq] at e
    subst e
    simp
  | false =>
    by_cases h1 : 1 ≤ r.2
    · rw [if_pos h1]
      have : r.1 ≠ 65533 := by
        intro e
        have := h.enc h1
        rw [e] at this
        have e2 : Lib.encodeRune ((65533 : Nat) : Int) = [239, 191, 189] := by decide
        rw [e2] at this
        have h3 : [239, 191, 189] <+: l := by rw [this]; exact List.take_prefix _ _
        unfold Lib.hasPrefix at hp
        rw [List.isPrefixOf_iff_prefix.2 h3] at hp
        cases hp
      simp [this]
      omega
    · rw [if_neg h1]
      simp
      omega

/-! ### which signs may be; how many bytes are whole -/
def may (v : Nat) : Bool := v == 9 || v == 10 || v == 13 || (decide (32 ≤ v) && v != 65534 && v != 65535)
/-- How many bytes at the beginning are whole signs that may be; none: other bytes follow. -/
def wholeF : Nat → List UInt8 → Option Nat
  | 0, _ => some 0
  | f + 1, l => if l.isEmpty then some 0 else if (sg l).2 < 0 then some 0 else if (sg l).2 = 0 then none else if may (sg l).1 then (wholeF f (l.drop (sg l).2.toNat)).map (· + (sg l).2.toNat) else none
def whole (l : List UInt8) : Option Nat := wholeF l.length l

theorem wholeF_enough : ∀ (f g : Nat) (l : List UInt8), l.length ≤ f → l.length ≤ g → wholeF f l = wholeF g l
  | 0, 0, _, _, _ => rfl
  | 0, g + 1, l, hf, _ => by
    have : l = [] := List.length_eq_zero_iff.1 (by omega)
    subst this
    simp [wholeF]
  | f + 1, 0, l, _, hg => by
    have : l = [] := List.length_eq_zero_iff.1 (by omega)
    subst this
    simp [wholeF]
  | f + 1, g + 1, l, hf, hg => by
    unfold wholeF
    by_cases h0 : l.isEmpty = true
    · rw [if_pos h0, if_pos h0]
    rw [if_neg h0, if_neg h0]
    by_cases h1 : (sg l).2 < 0
    · rw [if_pos h1, if_pos h1]
    rw [if_neg h1, if_neg h1]
    by_cases h2 : (sg l).2 = 0
    · rw [if_pos h2, if_pos h2]
    rw [if_neg h2, if_neg h2]
    rw [wholeF_enough f g (l.drop (sg l).2.toNat) (by rw [List.length_drop]; omega) (by rw [List.length_drop]; omega)]
theorem wholeF_eq (f : Nat) (l : List UInt8) (h : l.length ≤ f) : wholeF f l = whole l := wholeF_enough f l.length l h (Nat.le_refl _)

theorem whole_nil : whole [] = some 0 := rfl
theorem ne_isEmpty {l : List UInt8} (h : l ≠ []) : l.isEmpty = false := by cases l with
  | nil => exact absurd rfl h
  | cons => rfl
theorem succ_length {l : List UInt8} (h : l ≠ []) : ∃ f, l.length = f + 1 := by cases l with
  | nil => exact absurd rfl h
  | cons a t => exact ⟨t.length, rfl⟩
theorem whole_part {l : List UInt8} (h : (sg l).2 < 0) : whole l = some 0 := by
  by_cases hl : l = []
  · subst hl; rfl
  obtain ⟨f, hf⟩ := succ_length hl
  unfold whole
  rw [hf]
  unfold wholeF
  rw [ne_isEmpty hl, if_neg (by decide), if_pos h]
theorem whole_bad {l : List UInt8} (h : (sg l).2 = 0) : whole l = none := by
  have hl : l ≠ [] := by rintro rfl; simp [sg] at h
  obtain ⟨f, hf⟩ := succ_length hl
  unfold whole
  rw [hf]
  unfold wholeF
  rw [ne_isEmpty hl, if_neg (by decide), if_neg (by omega), if_pos h]
theorem whole_no {l : List UInt8} (h : 1 ≤ (sg l).2) (hm : may (sg l).1 = false) : whole l = none := by
  have hl : l ≠ [] := by rintro rfl; simp [sg] at h
  obtain ⟨f, hf⟩ := succ_length hl
  unfold whole
  rw [hf]
  unfold wholeF
  rw [ne_isEmpty hl, if_neg (by decide), if_neg (by omega), if_neg (by omega), hm, if_neg (by decide)]
theorem whole_ok {l : List UInt8} (h : 1 ≤ (sg l).2) (hm : may (sg l).1 = true) : whole l = (whole (l.drop (sg l).2.toNat)).map (· + (sg l).2.toNat) := by
  have hl : l ≠ [] := by rintro rfl; simp [sg] at h
  obtain ⟨f, hf⟩ := succ_length hl
  have e : whole l = wholeF (f + 1) l := by unfold whole; rw [hf]
  rw [e]
  unfold wholeF
  rw [ne_isEmpty hl, if_neg (by decide), if_neg (by omega), if_neg (by omega), if_pos hm, wholeF_eq f _ (by rw [List.length_drop]; omega)]

/-- One step of the count, as one of four. -/
theorem whole_cases (l : List UInt8) : ((sg l).2 < 0 ∧ l.length ≤ 3 ∧ whole l = some 0) ∨ ((sg l).2 = 0 ∧ whole l = none) ∨ (1 ≤ (sg l).2 ∧ may (sg l).1 = false ∧ whole l = none) ∨
    (∃ n : Nat, 1 ≤ n ∧ n ≤ l.length ∧ (sg l).2 = n ∧ may (sg l).1 = true ∧ whole l = (whole (l.drop n)).map (· + n)) := by
  rcases sg_range l with ⟨h, hl⟩ | ⟨h, _⟩ | ⟨n, h, h1, _, h3⟩
  · exact .inl ⟨by omega, hl, whole_part (by omega)⟩
  · exact .inr (.inl ⟨h, whole_bad h⟩)
  · cases hm : may (sg l).1 with
    | false => exact .inr (.inr (.inl ⟨by omega, rfl, whole_no (by omega) hm⟩))
    | true =>
      refine .inr (.inr (.inr ⟨n, h1, h3, h, rfl, ?_⟩))
      have := whole_ok (l := l) (by omega) hm
      rw [h] at this
      simpa using this

/-- Right: all of it is whole. -/
def right (l : List UInt8) : Bool := whole l == some l.length

theorem whole_app_noneF (b : List UInt8) : ∀ (f : Nat) (a : List UInt8), a.length ≤ f → whole a = none → whole (a ++ b) = none := by
  intro f
  induction f with
  | zero =>
    intro a hf h
    have : a = [] := List.length_eq_zero_iff.1 (by omega)
    subst this
    cases h
  | succ f ih =>
    intro a hf h
    rcases whole_cases a with ⟨h1, _, h2⟩ | ⟨h1, _⟩ | ⟨h1, h2, _⟩ | ⟨n, h1, h2, h3, h4, h5⟩
    · rw [h2] at h; cases h
    · exact whole_bad (by rw [sg_appBad a b h1])
    · exact whole_no (by rw [sg_app a b h1]; exact h1) (by rw [sg_app a b h1]; exact h2)
    · rw [h5] at h
      have h6 : whole (a.drop n) = none := by simpa using h
      have h7 := ih (a.drop n) (by rw [List.length_drop]; omega) h6
      have e := sg_app a b (by omega)
      rw [whole_ok (by rw [e]; omega) (by rw [e]; exact h4), e, h3]
      have : (a ++ b).drop ((n : Int)).toNat = a.drop n ++ b := by simp [List.drop_append, Nat.sub_eq_zero_of_le h2]
      rw [this, h7]
      rfl
theorem whole_app_none (a b : List UInt8) (h : whole a = none) : whole (a ++ b) = none := whole_app_noneF b a.length a (Nat.le_refl _) h

theorem whole_leF : ∀ (f : Nat) (a : List UInt8), a.length ≤ f → ∀ n : Nat, whole a = some n → n ≤ a.length ∧ a.length ≤ n + 3 := by
  intro f
  induction f with
  | zero =>
    intro a hf n h
    have : a = [] := List.length_eq_zero_iff.1 (by omega)
    subst this
    rw [whole_nil] at h
    cases h
    simp
  | succ f ih =>
    intro a hf n h
    rcases whole_cases a with ⟨h1, h1', h2⟩ | ⟨h1, h2⟩ | ⟨h1, h1', h2⟩ | ⟨k, h1, h2, h3, h4, h5⟩
    · rw [h2] at h; cases h; omega
    · rw [h2] at h; cases h
    · rw [h2] at h; cases h
    · rw [h5] at h
      simp only [Option.map_eq_some_iff] at h
      obtain ⟨m, hm, rfl⟩ := h
      have := ih (a.drop k) (by rw [List.length_drop]; omega) m hm
      rw [List.length_drop] at this
      omega
theorem whole_le (a : List UInt8) (n : Nat) (h : whole a = some n) : n ≤ a.length ∧ a.length ≤ n + 3 := whole_leF a.length a (Nat.le_refl _) n h

/-- In pieces: what is whole of the first, and the rest of it with the second. -/
theorem whole_appF (b : List UInt8) : ∀ (f : Nat) (a : List UInt8), a.length ≤ f → ∀ n : Nat, whole a = some n → whole (a ++ b) = (whole (a.drop n ++ b)).map (· + n) ∧ whole (a.take n) = some n := by
  intro f
  induction f with
  | zero =>
    intro a hf n h
    have : a = [] := List.length_eq_zero_iff.1 (by omega)
    subst this
    rw [whole_nil] at h
    cases h
    simp [whole_nil]
  | succ f ih =>
    intro a hf n h
    rcases whole_cases a with ⟨h1, h1', h2⟩ | ⟨h1, h2⟩ | ⟨h1, h1', h2⟩ | ⟨k, h1, h2, h3, h4, h5⟩
    · rw [h2] at h; cases h; simp [whole_nil]
    · rw [h2] at h; cases h
    · rw [h2] at h; cases h
    · rw [h5] at h
      simp only [Option.map_eq_some_iff] at h
      obtain ⟨m, hm, rfl⟩ := h
      obtain ⟨i1, i2⟩ := ih (a.drop k) (by rw [List.length_drop]; omega) m hm
      have hle := (whole_le _ _ hm).1
      rw [List.length_drop] at hle
      constructor
      · have e := sg_app a b (by omega)
        rw [whole_ok (by rw [e]; omega) (by rw [e]; exact h4), e, h3]
        have : (a ++ b).drop ((k : Int)).toNat = a.drop k ++ b := by simp [List.drop_append, Nat.sub_eq_zero_of_le h2]
        rw [this, i1]
        simp only [List.drop_drop, Nat.add_comm k m]
        cases whole (a.drop (m + k) ++ b) with
        | none => rfl
        | some x => simp [Nat.add_assoc]
      · have e : sg (a.take (m + k)) = sg a := by
          have e1 := sg_take a (by omega)
          rw [h3] at e1
          have e2 : a.take (m + k) = a.take k ++ (a.take (m + k)).drop k := by
            have := List.take_append_drop k (a.take (m + k))
            rw [List.take_take, Nat.min_eq_left (by omega)] at this
            exact this.symm
          rw [e2, sg_app]
          · simpa using e1
          · simp at e1; rw [e1]; omega
        rw [whole_ok (by rw [e]; omega) (by rw [e]; exact h4), e, h3]
        have : (a.take (m + k)).drop ((k : Int)).toNat = (a.drop k).take m := by
          simp [List.drop_take]
        rw [this, i2]
        simp
theorem whole_app (a b : List UInt8) (n : Nat) (h : whole a = some n) : whole (a ++ b) = (whole (a.drop n ++ b)).map (· + n) ∧ whole (a.take n) = some n := whole_appF b a.length a (Nat.le_refl _) n h
end Go.Proofs.YtmmkfpeckfmjeaaDoor
