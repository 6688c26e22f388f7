/-
  Plain Lean, no program in it: what stands for the five signs and back, which lists are names, and the laws on them.
-/
import Derived.Test.YtdoekpodichhdaaDoorMathb
namespace Go.Proofs.YtdoekpodichhdaaDoor

theorem right_iff (l : List UInt8) : right l = true ↔ whole l = some l.length := by unfold right; simp
theorem right_nil : right [] = true := rfl
/-- A right list begins with a sign that may be; what is behind it is right. -/
theorem right_step {l : List UInt8} (h : right l = true) (hl : l ≠ []) : ∃ n : Nat, 1 ≤ n ∧ n ≤ l.length ∧ (sg l).2 = n ∧ may (sg l).1 = true ∧ right (l.drop n) = true := by
  rw [right_iff] at h
  rcases whole_cases l with ⟨h1, h1', h2⟩ | ⟨h1, h2⟩ | ⟨h1, h1', h2⟩ | ⟨k, h1, h2, h3, h4, h5⟩
  · rw [h2] at h
    have : l.length = 0 := by simpa using h.symm
    exact absurd (List.length_eq_zero_iff.1 this) hl
  · rw [h2] at h; cases h
  · rw [h2] at h; cases h
  · refine ⟨k, h1, h2, h3, h4, ?_⟩
    rw [h5] at h
    simp only [Option.map_eq_some_iff] at h
    obtain ⟨m, hm, he⟩ := h
    rw [right_iff, hm, List.length_drop]
    congr 1
    omega
theorem right_mk {l : List UInt8} {n : Nat} (h1 : 1 ≤ n) (h2 : n ≤ l.length) (h3 : (sg l).2 = n) (h4 : may (sg l).1 = true) (h5 : right (l.drop n) = true) : right l = true := by
  rw [right_iff] at *
  rw [whole_ok (by omega) h4, h3]
  simp only [Int.toNat_natCast, h5, Option.map_some, List.length_drop]
  congr 1
  omega
/-- Signs below 128 that may be, ahead of what is right. -/
theorem right_low (p t : List UInt8) (hp : ∀ b ∈ p, b.toNat < 128 ∧ may b.toNat = true) (h : right t = true) : right (p ++ t) = true := by
  induction p with
  | nil => exact h
  | cons a p ih =>
    have ha := hp a (by simp)
    have e : sg (a :: p ++ t) = (a.toNat, 1) := sg_lo a _ ha.1
    exact right_mk (n := 1) (by omega) (by simp) (by rw [e]; rfl) (by rw [e]; exact ha.2) (ih fun b hb => hp b (by simp [hb]))

/-! ### what stands for a sign -/
def esc1 (b : UInt8) : List UInt8 :=
  if b = 38 then [38, 97, 109, 112, 59] else if b = 60 then [38, 108, 116, 59] else if b = 62 then [38, 103, 116, 59]
  else if b = 34 then [38, 113, 117, 111, 116, 59] else if b = 39 then [38, 97, 112, 111, 115, 59] else [b]
def esc : List UInt8 → List UInt8
  | [] => []
  | b :: t => esc1 b ++ esc t
theorem esc_app (a b : List UInt8) : esc (a ++ b) = esc a ++ esc b := by
  induction a with
  | nil => rfl
  | cons x t ih => simp [esc, ih]
def five (b : UInt8) : Bool := b == 38 || b == 60 || b == 62 || b == 34 || b == 39
theorem esc1_no {b : UInt8} (h : five b = false) : esc1 b = [b] := by
  simp [five] at h
  simp [esc1, h]
theorem esc_no (l : List UInt8) (h : ∀ b ∈ l, five b = false) : esc l = l := by
  induction l with
  | nil => rfl
  | cons a t ih => simp [esc, esc1_no (h a (by simp)), ih fun b hb => h b (by simp [hb])]
theorem five_high {b : UInt8} (h : 128 ≤ b.toNat) : five b = false := by
  unfold five
  simp only [Bool.or_eq_false_iff, beq_eq_false_iff_ne, ne_eq]
  refine ⟨⟨⟨⟨?_, ?_⟩, ?_⟩, ?_⟩, ?_⟩ <;> (rintro rfl; revert h; decide)
theorem esc1_length (b : UInt8) : 1 ≤ (esc1 b).length ∧ (esc1 b).length ≤ 6 := by
  unfold esc1
  repeat' split
  all_goals simp
theorem esc_length (l : List UInt8) : l.length ≤ (esc l).length ∧ (esc l).length ≤ 6 * l.length := by
  induction l with
  | nil => simp [esc]
  | cons a t ih =>
    have := esc1_length a
    simp only [esc, List.length_append, List.length_cons]
    omega
theorem esc1_mem (b x : UInt8) (h : x ∈ esc1 b) : x ≠ 60 ∧ x ≠ 62 ∧ x ≠ 34 ∧ x ≠ 39 := by
  by_cases hf : five b = true
  · simp [five] at hf
    rcases hf with (((rfl | rfl) | rfl) | rfl) | rfl
    all_goals
      have key := (by decide : ∀ y ∈ esc1 38 ++ esc1 60 ++ esc1 62 ++ esc1 34 ++ esc1 39, y ≠ 60 ∧ y ≠ 62 ∧ y ≠ 34 ∧ y ≠ 39)
      exact key x (by simp only [List.mem_append]; simp [h])
  · have hf' : five b = false := by simpa using hf
    rw [esc1_no hf'] at h
    simp at h
    subst h
    simp [five] at hf
    exact ⟨hf.1.1.1.2, hf.1.1.2, hf.1.2, hf.2⟩
theorem esc_mem (l : List UInt8) (x : UInt8) (h : x ∈ esc l) : x ≠ 60 ∧ x ≠ 62 ∧ x ≠ 34 ∧ x ≠ 39 := by
  induction l with
  | nil => simp [esc] at h
  | cons a t ih =>
    simp only [esc, List.mem_append] at h
    rcases h with h | h
    · exact esc1_mem a x h
    · exact ih h
theorem esc1_low (b : UInt8) (h : b.toNat < 128) (hm : may b.toNat = true) : ∀ x ∈ esc1 b, x.toNat < 128 ∧ may x.toNat = true := by
  intro x hx
  by_cases hf : five b = true
  · simp [five] at hf
    rcases hf with (((rfl | rfl) | rfl) | rfl) | rfl
    all_goals
      have key := (by decide : ∀ y ∈ esc1 38 ++ esc1 60 ++ esc1 62 ++ esc1 34 ++ esc1 39, y.toNat < 128 ∧ may y.toNat = true)
      exact key x (by simp only [List.mem_append]; simp [hx])
  · have hf' : five b = false := by simpa using hf
    rw [esc1_no hf'] at hx
    simp at hx
    subst hx
    exact ⟨h, hm⟩
/-- What is escaped is right. -/
theorem right_escF : ∀ (f : Nat) (l : List UInt8), l.length ≤ f → right l = true → right (esc l) = true := by
  intro f
  induction f with
  | zero =>
    intro l hf h
    have : l = [] := List.length_eq_zero_iff.1 (by omega)
    subst this
    rfl
  | succ f ihf =>
    intro l hf h
    by_cases hl : l = []
    · subst hl; rfl
    obtain ⟨n, h1, h2, h3, h4, h5⟩ := right_step h hl
    have ih := ihf (l.drop n) (by rw [List.length_drop]; omega) h5
    by_cases hn : n = 1
    · subst hn
      obtain ⟨a, t, rfl, ha, hv⟩ := (sgWay l).low (by rw [h3]; rfl)
      simp only [esc]
      exact right_low _ _ (esc1_low a ha (by rw [← hv]; exact h4)) (by simpa using ih)
    · have hh := ((sgWay l).high (by rw [h3]; omega)).2
      rw [h3] at hh
      simp only [Int.toNat_natCast] at hh
      have e1 : esc l = l.take n ++ esc (l.drop n) := by
        conv => lhs; rw [← List.take_append_drop n l]
        rw [esc_app, esc_no (l.take n) fun b hb => five_high (hh b hb)]
      have e2 : sg (l.take n ++ esc (l.drop n)) = sg l := by
        have e3 := sg_take l (by rw [h3]; omega)
        rw [h3] at e3
        simp only [Int.toNat_natCast] at e3
        rw [sg_app _ _ (by rw [e3, h3]; omega), e3]
      rw [e1]
      refine right_mk (n := n) h1 ?_ (by rw [e2]; exact h3) (by rw [e2]; exact h4) ?_
      · simp; omega
      · rw [List.drop_append_of_le_length (by simp; omega), List.drop_take]
        simpa using ih
theorem right_esc (l : List UInt8) (h : right l = true) : right (esc l) = true := right_escF l.length l (Nat.le_refl _) h

/-! ### back -/
/-- The sign for which what begins here stands, and its bytes. -/
def entAt (l : List UInt8) : Option (UInt8 × Nat) :=
  if Lib.hasPrefix l [38, 97, 109, 112, 59] then some (38, 5) else if Lib.hasPrefix l [38, 108, 116, 59] then some (60, 4) else if Lib.hasPrefix l [38, 103, 116, 59] then some (62, 4)
  else if Lib.hasPrefix l [38, 113, 117, 111, 116, 59] then some (34, 6) else if Lib.hasPrefix l [38, 97, 112, 111, 115, 59] then some (39, 6) else none
def unescF : Nat → List UInt8 → Option (List UInt8)
  | 0, _ => some []
  | _ + 1, [] => some []
  | f + 1, b :: t =>
    if b = 60 then none
    else if b = 38 then (match entAt (b :: t) with | none => none | some (c, n) => (unescF f ((b :: t).drop n)).map (c :: ·))
    else (unescF f t).map (b :: ·)
def unesc (l : List UInt8) : Option (List UInt8) := unescF l.length l
theorem entAt_n {l : List UInt8} {c : UInt8} {n : Nat} (h : entAt l = some (c, n)) : 4 ≤ n ∧ n ≤ 6 ∧ n ≤ l.length ∧ (∀ b ∈ l.take n, b.toNat < 128) ∧ c.toNat < 128 := by
  unfold entAt at h
  have key : ∀ p : List UInt8, Lib.hasPrefix l p = true → l.take p.length = p ∧ p.length ≤ l.length := by
    intro p hp
    unfold Lib.hasPrefix at hp
    obtain ⟨t, rfl⟩ := List.isPrefixOf_iff_prefix.1 hp
    simp
  repeat' split at h
  all_goals first
    | (simp only [Option.some.injEq, Prod.mk.injEq] at h
       obtain ⟨rfl, rfl⟩ := h
       rename_i hp
       obtain ⟨k1, k2⟩ := key _ hp
       simp only [List.length_cons, List.length_nil, Nat.zero_add, Nat.reduceAdd] at k1 k2
       rw [k1]
       exact ⟨by omega, by omega, k2, by decide, by decide⟩)
    | (cases h)
theorem unescF_enough : ∀ (f g : Nat) (l : List UInt8), l.length ≤ f → l.length ≤ g → unescF f l = unescF g l
  | 0, 0, _, _, _ => rfl
  | 0, g + 1, l, hf, _ => by
    have : l = [] := List.length_eq_zero_iff.1 (by omega)
    subst this
    rfl
  | f + 1, 0, l, _, hg => by
    have : l = [] := List.length_eq_zero_iff.1 (by omega)
    subst this
    rfl
  | f + 1, g + 1, [], _, _ => rfl
  | f + 1, g + 1, b :: t, hf, hg => by
    simp only [List.length_cons] at hf hg
    simp only [unescF]
    rw [unescF_enough f g t (by omega) (by omega)]
    cases he : entAt (b :: t) with
    | none => rfl
    | some cn =>
      obtain ⟨c, n⟩ := cn
      have := entAt_n he
      simp only
      rw [unescF_enough f g ((b :: t).drop n) (by simp; omega) (by simp; omega)]
theorem unesc_nil : unesc [] = some [] := rfl
theorem unesc_lt (t : List UInt8) : unesc (60 :: t) = none := by simp [unesc, unescF]
theorem unesc_amp_no (t : List UInt8) (h : entAt (38 :: t) = none) : unesc (38 :: t) = none := by simp [unesc, unescF, h]
theorem unesc_amp (t : List UInt8) (c : UInt8) (n : Nat) (h : entAt (38 :: t) = some (c, n)) : unesc (38 :: t) = (unesc ((38 :: t).drop n)).map (c :: ·) := by
  have hn := entAt_n h
  have e : unesc (38 :: t) = (unescF t.length ((38 :: t).drop n)).map (c :: ·) := by simp [unesc, unescF, h]
  rw [e, unescF_enough t.length ((38 :: t).drop n).length _ (by simp; omega) (Nat.le_refl _)]
  rfl
theorem unesc_other (b : UInt8) (t : List UInt8) (h1 : b ≠ 60) (h2 : b ≠ 38) : unesc (b :: t) = (unesc t).map (b :: ·) := by simp [unesc, unescF, h1, h2]
theorem unesc_others (p t : List UInt8) (h : ∀ b ∈ p, b ≠ 60 ∧ b ≠ 38) : unesc (p ++ t) = (unesc t).map (p ++ ·) := by
  induction p with
  | nil => simp
  | cons a p ih =>
    rw [List.cons_append, unesc_other a _ (h a (by simp)).1 (h a (by simp)).2, ih fun b hb => h b (by simp [hb])]
    cases unesc t with
    | none => rfl
    | some x => simp
/-- What is escaped comes back. -/
theorem unesc_esc1 (b : UInt8) (t : List UInt8) : unesc (esc1 b ++ t) = (unesc t).map (b :: ·) := by
  by_cases hf : five b = true
  · simp [five] at hf
    rcases hf with (((rfl | rfl) | rfl) | rfl) | rfl
    · exact unesc_amp _ 38 5 (by simp [entAt, Lib.hasPrefix])
    · exact unesc_amp _ 60 4 (by simp [entAt, Lib.hasPrefix])
    · exact unesc_amp _ 62 4 (by simp [entAt, Lib.hasPrefix])
    · exact unesc_amp _ 34 6 (by simp [entAt, Lib.hasPrefix])
    · exact unesc_amp _ 39 6 (by simp [entAt, Lib.hasPrefix])
  · have hf' : five b = false := by simpa using hf
    rw [esc1_no hf']
    simp [five] at hf
    exact unesc_other b t hf.1.1.1.2 hf.1.1.1.1
theorem unesc_esc (l : List UInt8) : unesc (esc l) = some l := by
  induction l with
  | nil => rfl
  | cons a t ih => simp [esc, unesc_esc1, ih]
/-! ### names -/
def isLet (b : UInt8) : Bool := decide (97 ≤ b.toNat ∧ b.toNat ≤ 122)
def isLat (b : UInt8) : Bool := decide (48 ≤ b.toNat ∧ b.toNat ≤ 57) || b == 45 || b == 58
def nameAll (first : Bool) : List UInt8 → Bool
  | [] => true
  | a :: t => (isLet a || (!first && isLat a)) && nameAll false t
def name (l : List UInt8) : Bool := decide (1 ≤ l.length ∧ l.length ≤ 16) && nameAll true l
theorem nameAll_app (a b : List UInt8) (ha : a ≠ []) (first : Bool) : nameAll first (a ++ b) = (nameAll first a && nameAll false b) := by
  induction a generalizing first with
  | nil => exact absurd rfl ha
  | cons x t ih =>
    cases t with
    | nil => simp [nameAll]
    | cons y u =>
      have e := ih (by simp) false
      show ((isLet x || !first && isLat x) && nameAll false (y :: u ++ b)) = (((isLet x || !first && isLat x) && nameAll false (y :: u)) && nameAll false b)
      rw [e, Bool.and_assoc]
theorem name_mem {l : List UInt8} {first : Bool} (h : nameAll first l = true) : ∀ b ∈ l, isLet b = true ∨ isLat b = true := by
  induction l generalizing first with
  | nil => simp
  | cons a t ih =>
    simp [nameAll] at h
    intro b hb
    rcases List.mem_cons.1 hb with rfl | hb
    · rcases h.1 with h | h
      · exact .inl h
      · exact .inr h.2
    · exact ih h.2 b hb
set_option maxRecDepth 100000 in
theorem let_low {b : UInt8} (h : isLet b = true ∨ isLat b = true) : b.toNat < 128 ∧ may b.toNat = true ∧ five b = false := by
  have : ∀ n : Fin 256, (isLet (UInt8.ofNat n.val) = true ∨ isLat (UInt8.ofNat n.val) = true) → (UInt8.ofNat n.val).toNat < 128 ∧ may (UInt8.ofNat n.val).toNat = true ∧ five (UInt8.ofNat n.val) = false := by decide
  have h2 := this ⟨b.toNat, b.toNat_lt⟩
  simp only [UInt8.ofNat_toNat] at h2
  exact h2 h
theorem name_right (l : List UInt8) (h : name l = true) : right l = true ∧ esc l = l := by
  simp [name] at h
  have hm := name_mem h.2
  refine ⟨?_, esc_no l fun b hb => (let_low (hm b hb)).2.2⟩
  have := right_low l [] (fun b hb => ⟨(let_low (hm b hb)).1, (let_low (hm b hb)).2.1⟩) right_nil
  simpa using this
theorem name_take (l : List UInt8) (h : name l = true) (k : Nat) (h1 : 1 ≤ k) : name (l.take k) = true := by
  simp only [name, Bool.and_eq_true, decide_eq_true_eq] at *
  refine ⟨by simp; omega, ?_⟩
  have e := nameAll_app (l.take k) (l.drop k) (by
    intro e
    have e1 := congrArg List.length e
    rw [List.length_take, List.length_nil] at e1
    omega) true
  rw [List.take_append_drop, h.2] at e
  have e2 := e.symm
  rw [Bool.and_eq_true] at e2
  exact e2.1
theorem name_snoc (l : List UInt8) (h : name l = true) (b : UInt8) : name (l ++ [b]) = (decide (l.length < 16) && (isLet b || isLat b)) := by
  simp only [name, Bool.and_eq_true, decide_eq_true_eq] at h
  have hl : l ≠ [] := by rintro rfl; simp at h
  unfold name
  rw [nameAll_app l [b] hl, h.2]
  simp [nameAll]
  have : decide (l.length ≤ 15) = decide (l.length < 16) := by simp; omega
  rw [this]
theorem name_zero (l : List UInt8) : name (48 :: l) = false := by
  have : isLet 48 = false := by decide
  simp [name, nameAll, this]
theorem name_one (b : UInt8) : name [b] = isLet b := by simp [name, nameAll]
end Go.Proofs.YtdoekpodichhdaaDoor
