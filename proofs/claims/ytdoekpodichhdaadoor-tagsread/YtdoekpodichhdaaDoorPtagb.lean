/-
  Plain mathematics, of no program: the document's own reading of an attribute and of a tag, and that it is the same as the program's where the bytes are signs that may be.
-/
import Derived.Test.YtdoekpodichhdaaDoorPtag
namespace Go.Proofs.YtdoekpodichhdaaDoor
theorem right_cutF (c : UInt8) (hc : c.toNat < 128) (t : List UInt8) : ∀ (f : Nat) (p : List UInt8), p.length ≤ f → right (p ++ c :: t) = true → right p = true ∧ right t = true := by
  have base : right (c :: t) = true → right t = true := fun h => by
    obtain ⟨n, h1, _, h3, _, h5⟩ := right_step h (by simp)
    rw [sg_lo c t hc] at h3
    have : n = 1 := by omega
    subst this
    exact h5
  intro f
  induction f with
  | zero =>
    intro p hp h
    obtain rfl := List.eq_nil_of_length_eq_zero (Nat.le_zero.1 hp)
    exact ⟨right_nil, base h⟩
  | succ f ih =>
    intro p hp h
    by_cases hn0 : p = []
    · subst hn0
      exact ⟨right_nil, base h⟩
    · obtain ⟨n, h1, h2, h3, h4, h5⟩ := right_step h (by simp)
      have hpl : 1 ≤ p.length := by
        cases p with
        | nil => exact absurd rfl hn0
        | cons a b => simp
      have hle : n ≤ p.length := by
        rcases Nat.lt_or_ge p.length n with hlt | hge
        · exfalso
          have hh := ((sgWay (p ++ c :: t)).high (by omega)).2 c (by
            rw [h3]
            refine List.mem_of_getElem? (i := p.length) ?_
            rw [List.getElem?_take, if_pos (by simp; omega), List.getElem?_append_right (Nat.le_refl _)]
            simp)
          omega
        · exact hge
      have hd : (p ++ c :: t).drop n = p.drop n ++ c :: t := List.drop_append_of_le_length hle
      rw [hd] at h5
      obtain ⟨k1, k2⟩ := ih (p.drop n) (by rw [List.length_drop]; omega) h5
      have hs : sg p = sg (p ++ c :: t) := by
        have e1 := sg_take (p ++ c :: t) (by omega)
        rw [h3] at e1
        have e2 : (p ++ c :: t).take (n : Int).toNat = p.take n := by simp [List.take_append_of_le_length hle]
        rw [e2] at e1
        have e3 := sg_app (p.take n) (p.drop n) (by rw [e1]; omega)
        rw [List.take_append_drop] at e3
        rw [e3, e1]
      exact ⟨right_mk h1 hle (by rw [hs]; exact h3) (by rw [hs]; exact h4) k1, k2⟩
theorem right_cut (c : UInt8) (hc : c.toNat < 128) (p t : List UInt8) (h : right (p ++ c :: t) = true) : right p = true ∧ right t = true := right_cutF c hc t p.length p (Nat.le_refl _) h
def isNm (c : UInt8) : Bool := isLet c || isLat c
def runN (l : List UInt8) : List UInt8 := l.takeWhile isNm
def runZ (l : List UInt8) : List UInt8 := l.dropWhile isNm
theorem run_app (l : List UInt8) : runN l ++ runZ l = l := List.takeWhile_append_dropWhile
theorem cut_app (c : UInt8) (l : List UInt8) (h : cutB c l = true) : l = cutA c l ++ c :: cutZ c l := by
  unfold cutA cutZ
  unfold cutB at h
  induction l with
  | nil => simp at h
  | cons b l ih =>
    by_cases hb : b = c
    · subst hb
      simp
    · have h3 : (b != c) = true := by simpa using hb
      have h2 : (c == b) = false := by simpa using fun e => hb (Eq.symm e)
      rw [List.contains_cons, h2, Bool.false_or] at h
      rw [List.takeWhile_cons, List.dropWhile_cons, h3]
      simp only [if_true, List.cons_append]
      rw [← ih h]
theorem un_right (l : List UInt8) (h : right l = true) : (un l).2 = 0 ∨ (un l).2 = 3 := by
  unfold un
  rw [h]
  cases unesc l <;> simp
/-- The document's reading of an attribute: its name and value, and how many bytes it has; 0: there is none. -/
def attrR (l : List UInt8) : (List UInt8 × List UInt8) × Nat :=
  if name (runN l) then
    match runZ l with
    | e :: q :: t => if e == 61 && quo q && cutB q t && decide ((un (cutA q t)).2 = 0) then ((runN l, (un (cutA q t)).1), (runN l).length + 2 + (cutA q t).length + 1) else (([], []), 0)
    | _ => (([], []), 0)
  else (([], []), 0)
theorem nm_of {l : List UInt8} (h : name l = true) : ∀ b ∈ l, isNm b = true := by
  intro b hb
  unfold name at h
  simp only [Bool.and_eq_true] at h
  have := name_mem h.2 b hb
  unfold isNm
  rcases this with e | e <;> simp [e]
theorem isNm_no (c : UInt8) (h : c = 61 ∨ c = 47 ∨ bl c = true) : isNm c = false := by
  rcases h with rfl | rfl | h
  · decide
  · decide
  · simp [bl] at h
    rcases h with rfl | rfl | rfl | rfl <;> decide
theorem run_of (p : List UInt8) (c : UInt8) (t : List UInt8) (hp : ∀ b ∈ p, isNm b = true) (hc : isNm c = false) : runN (p ++ c :: t) = p ∧ runZ (p ++ c :: t) = c :: t := by
  unfold runN runZ
  rw [List.takeWhile_append_of_pos hp, List.dropWhile_append_of_pos hp, List.takeWhile_cons, List.dropWhile_cons, hc]
  simp
theorem run_all (p : List UInt8) (hp : ∀ b ∈ p, isNm b = true) : runN p = p ∧ runZ p = [] := by
  unfold runN runZ
  induction p with
  | nil => exact ⟨rfl, rfl⟩
  | cons a p ih =>
    have h1 := hp a (.head _)
    obtain ⟨i1, i2⟩ := ih fun b hb => hp b (.tail _ hb)
    rw [List.takeWhile_cons, List.dropWhile_cons, h1]
    simp [i1, i2]
theorem cut_of (c : UInt8) (p t : List UInt8) (hp : ∀ b ∈ p, b ≠ c) : cutA c (p ++ c :: t) = p ∧ cutZ c (p ++ c :: t) = t := by
  have h : ∀ b ∈ p, (b != c) = true := fun b hb => by simpa using hp b hb
  unfold cutA cutZ
  rw [List.takeWhile_append_of_pos h, List.dropWhile_append_of_pos h]
  simp
theorem cut_not (c : UInt8) (l : List UInt8) (h : cutB c l = false) : cutA c l = l ∧ cutZ c l = [] := by
  rcases cut_way c l with ⟨_, k2, k3, _⟩ | ⟨i, _, _, _, _, k5⟩
  · exact ⟨k2, k3⟩
  · rw [h] at k5
    simp at k5
theorem drop_cut (c : UInt8) (l : List UInt8) (h : cutB c l = true) : l.drop ((cutA c l).length + 1) = cutZ c l := by
  rcases cut_way c l with ⟨_, _, _, k4⟩ | ⟨i, _, k2, k3, k4, _⟩
  · rw [h] at k4
    simp at k4
  · rw [k3, k4, List.length_take, Nat.min_eq_left (by omega)]
theorem cutB_of (c : UInt8) (p t : List UInt8) : cutB c (p ++ c :: t) = true := by simp [cutB]
/-- A list at its run of a name's bytes, where that is followed by =. -/
theorem attrR_of (p : List UInt8) (r : List UInt8) (hp : name p = true) : attrR (p ++ 61 :: r) = match r with | q :: t => if quo q && cutB q t && decide ((un (cutA q t)).2 = 0) then ((p, (un (cutA q t)).1), p.length + 2 + (cutA q t).length + 1) else (([], []), 0) | [] => (([], []), 0) := by
  obtain ⟨h1, h2⟩ := run_of p 61 r (nm_of hp) (isNm_no 61 (.inl rfl))
  unfold attrR
  rw [h1, h2, hp]
  cases r <;> simp
theorem attrR_no (l : List UInt8) (h : ∀ p r, l = p ++ 61 :: r → name p = false) : attrR l = (([], []), 0) := by
  unfold attrR
  split
  · rename_i hnm
    split
    · rename_i e q t hz
      split
      · rename_i hc
        exfalso
        simp only [Bool.and_eq_true] at hc
        have he : e = 61 := by simpa using hc.1.1.1
        subst he
        have hl := run_app l
        rw [hz] at hl
        rw [h _ _ hl.symm] at hnm
        simp at hnm
      · rfl
    · rfl
  · rfl
theorem name_ne {p : List UInt8} (h : name p = true) : ∀ b ∈ p, b ≠ 61 := by
  rintro b hb rfl
  have := nm_of h 61 hb
  rw [isNm_no 61 (.inl rfl)] at this
  simp at this
theorem attr_eq (l : List UInt8) (hr : right l = true) :
    ((attrR l).2 = 0 ∧ (attrN l).2.2 = 3) ∨ ∃ a m, attrR l = (a, m) ∧ m ≠ 0 ∧ m ≤ l.length ∧ attrN l = (a, l.drop m, 0) ∧ right (l.drop m) = true := by
  have no : name (cutA 61 l) = false → ((attrR l).2 = 0 ∧ (attrN l).2.2 = 3) := fun hn => by
    refine ⟨?_, by simp [attrN, hn]⟩
    rw [attrR_no l]
    intro p r e
    cases hp : name p with
    | false => rfl
    | true =>
      rw [e, (cut_of 61 p r (name_ne hp)).1, hp] at hn
      simp at hn
  cases hn : name (cutA 61 l) with
  | false => exact .inl (no hn)
  | true =>
    cases hb : cutB 61 l with
    | false =>
      obtain ⟨h1, h2⟩ := cut_not 61 l hb
      refine .inl ⟨?_, by simp [attrN, hn, h2]⟩
      rw [attrR_no l]
      intro p r e
      rw [e, cutB_of] at hb
      simp at hb
    | true =>
      have hl := cut_app 61 l hb
      obtain ⟨p, hp⟩ : ∃ p, cutA 61 l = p := ⟨_, rfl⟩
      obtain ⟨r, hz⟩ : ∃ r, cutZ 61 l = r := ⟨_, rfl⟩
      rw [hp, hz] at hl
      rw [hp] at hn
      have hR := attrR_of p r hn
      rw [← hl] at hR
      rw [hl] at hr
      have hr2 := (right_cut 61 (by decide) p r hr).2
      unfold attrN
      rw [hp, hz, hn, hR]
      simp only [if_true]
      cases r with
      | nil => exact .inl ⟨rfl, rfl⟩
      | cons q t =>
        cases hq : quo q with
        | false => exact .inl ⟨by simp [hq], by simp [hq]⟩
        | true =>
          cases hc : cutB q t with
          | false => exact .inl ⟨by simp [hc], by simp [hq, hc]⟩
          | true =>
            have ht := cut_app q t hc
            have hq1 : q.toNat < 128 := by
              simp [quo] at hq
              rcases hq with rfl | rfl <;> decide
            have hr3 : right t = true := (right_cut q hq1 [] t hr2).2
            rw [ht] at hr3
            have hr4 := (right_cut q hq1 _ _ hr3).1
            rcases un_right _ hr4 with hu | hu
            · refine .inr ⟨(p, (un (cutA q t)).1), p.length + 2 + (cutA q t).length + 1, by simp [hq, hc, hu], by omega, ?_, ?_⟩
              · rw [hl]
                have := congrArg List.length ht
                simp at this ⊢
                omega
              · simp only [hq, hc, hu, if_true]
                have e : l.drop (p.length + 2 + (cutA q t).length + 1) = cutZ q t := by
                  rw [hl, show p.length + 2 + (cutA q t).length + 1 = p.length + (1 + (1 + ((cutA q t).length + 1))) by omega, ← List.drop_drop, List.drop_left, Nat.add_comm 1, List.drop_succ_cons, Nat.add_comm 1, List.drop_succ_cons]
                  exact drop_cut q t hc
                rw [e]
                exact ⟨rfl, (right_cut q hq1 _ _ hr3).2⟩
            · exact .inl ⟨by simp [hu], by simp [hq, hc, hu]⟩
/-- What the document's loop over a tag's attributes makes: the attributes, whether / stands at the end, and the error. -/
def loopR : Nat → List (List UInt8 × List UInt8) → List UInt8 → List (List UInt8 × List UInt8) × Bool × Int
  | 0, _, _ => ([], false, 3)
  | f + 1, acc, s =>
    if (trimL s).isEmpty then (acc, false, 0)
    else if trimL s = [47] then (acc, true, 0)
    else if (trimL s).length = s.length ∨ (attrR (trimL s)).2 = 0 ∨ 6 ≤ acc.length then ([], false, 3)
    else if known (attrR (trimL s)).1.1 acc then ([], false, 3)
    else loopR f (acc ++ [(attrR (trimL s)).1]) ((trimL s).drop (attrR (trimL s)).2)
theorem all_take (f : UInt8 → Bool) : ∀ (l : List UInt8), ∀ b ∈ l.takeWhile f, f b = true
  | [], b, h => by simp at h
  | a :: l, b, h => by
    rw [List.takeWhile_cons] at h
    split at h
    · rename_i ha
      simp at h
      rcases h with rfl | h
      · exact ha
      · exact all_take f l b h
    · simp at h
theorem trimL_split (l : List UInt8) : ∃ p, l = p ++ trimL l ∧ ∀ b ∈ p, bl b = true := by
  refine ⟨l.takeWhile bl, (List.takeWhile_append_dropWhile).symm, fun b hb => ?_⟩
  exact all_take bl l b hb
theorem right_blanks : ∀ (p t : List UInt8), (∀ b ∈ p, bl b = true) → right (p ++ t) = true → right t = true
  | [], _, _, h => h
  | b :: p, t, hp, h => by
    have hb := hp b (.head _)
    have hlt : b.toNat < 128 := by
      rcases Nat.lt_or_ge b.toNat 128 with q | q
      · exact q
      · rw [bl_high q] at hb
        simp at hb
    exact right_blanks p t (fun x hx => hp x (.tail _ hx)) (right_cut b hlt [] (p ++ t) h).2
theorem right_trim (l : List UInt8) (h : right l = true) : right (trimL l) = true := by
  obtain ⟨p, e, hp⟩ := trimL_split l
  rw [e] at h
  exact right_blanks p _ hp h
theorem trimL_snoc (s : List UInt8) (c : UInt8) (hc : bl c = false) : trimL (s ++ [c]) = trimL s ++ [c] := by
  unfold trimL
  induction s with
  | nil => simp [hc]
  | cons a s ih =>
    cases ha : bl a with
    | true => simp [ha, ih]
    | false => simp [ha]
theorem right_low_tail (l : List UInt8) (h : right l = true) : right (l ++ [47]) = true := by
  have := right_low [47] [] (by decide) right_nil
  have key : ∀ (f : Nat) (l : List UInt8), l.length ≤ f → right l = true → right (l ++ [47]) = true := by
    intro f
    induction f with
    | zero =>
      intro l hl _
      obtain rfl := List.eq_nil_of_length_eq_zero (Nat.le_zero.1 hl)
      exact this
    | succ f ih =>
      intro l hl hr
      by_cases h0 : l = []
      · subst h0
        exact this
      · obtain ⟨n, h1, h2, h3, h4, h5⟩ := right_step hr h0
        have hs : sg (l ++ [47]) = sg l := sg_app l [47] (by omega)
        refine right_mk h1 (by simp; omega) (by rw [hs]; exact h3) (by rw [hs]; exact h4) ?_
        rw [List.drop_append_of_le_length h2]
        exact ih _ (by rw [List.length_drop]; omega) h5
  exact key l.length l (Nat.le_refl _) h
theorem run_snoc (l : List UInt8) : runN (l ++ [47]) = runN l ∧ runZ (l ++ [47]) = runZ l ++ [47] := by
  have h47 : isNm 47 = false := isNm_no 47 (.inr (.inl rfl))
  unfold runN runZ
  induction l with
  | nil => simp [h47]
  | cons a l ih =>
    cases ha : isNm a with
    | true => simp [ha, ih.1, ih.2]
    | false => simp [ha]
theorem cut_snoc (q : UInt8) (hq : q ≠ 47) (t : List UInt8) : cutB q (t ++ [47]) = cutB q t ∧ (cutB q t = true → cutA q (t ++ [47]) = cutA q t) := by
  have e : (q == 47) = false := by simpa using hq
  refine ⟨by simp [cutB, hq], fun h => ?_⟩
  have ht := cut_app q t h
  have hno : ∀ b ∈ cutA q t, b ≠ q := fun b hb => by
    have := all_take (· != q) t b hb
    simpa using this
  have := (cut_of q (cutA q t) (cutZ q t ++ [47]) hno).1
  rw [← this]
  congr 1
  conv => lhs; rw [ht]
  simp
theorem attrR_snoc (l : List UInt8) : attrR (l ++ [47]) = attrR l := by
  unfold attrR
  rw [(run_snoc l).1, (run_snoc l).2]
  cases hn : name (runN l) with
  | false => rfl
  | true =>
    simp only [if_true]
    cases hz : runZ l with
    | nil => rfl
    | cons e r =>
      cases r with
      | nil => simp [quo]
      | cons q t =>
        simp only [List.cons_append]
        cases hq : quo q with
        | false => simp
        | true =>
          have h47 : q ≠ 47 := by
            rintro rfl
            simp [quo] at hq
          rw [(cut_snoc q h47 t).1]
          cases hc : cutB q t with
          | false => simp
          | true => rw [(cut_snoc q h47 t).2 hc]
def endR (p : List (List UInt8 × List UInt8) × Int) (b : Bool) : List (List UInt8 × List UInt8) × Bool × Int := if p.2 = 0 then (p.1, b, 0) else ([], false, 3)
theorem loop_bare : ∀ (f : Nat) (acc : List (List UInt8 × List UInt8)) (s : List UInt8), acc.length ≤ 6 → right s = true → (∀ r, s ≠ r ++ [47]) → loopR f acc s = endR (attrsN f acc s) false
  | 0, _, _, _, _, _ => rfl
  | f + 1, acc, s, ha, hr, h47 => by
    obtain ⟨p, hp, _⟩ := trimL_split s
    have hT := right_trim s hr
    have hno : ∀ r, trimL s ≠ r ++ [47] := fun r e => h47 (p ++ r) (by rw [hp, e, List.append_assoc])
    unfold loopR attrsN
    by_cases h0 : (trimL s).isEmpty = true
    · rw [if_pos h0, if_pos h0]
      rfl
    · rw [if_neg h0, if_neg h0, if_neg (show ¬ trimL s = [47] from fun e => hno [] (by rw [e]; rfl))]
      by_cases h1 : (trimL s).length = s.length ∨ acc.length = 6
      · rw [if_pos h1, if_pos (by omega)]
        rfl
      · rw [if_neg h1]
        rcases attr_eq (trimL s) hT with ⟨k1, k2⟩ | ⟨a, m, k1, k2, k3, k4, k5⟩
        · rw [if_pos (by omega), k2]
          rfl
        · rw [k1, k4]
          simp only [if_true]
          rw [if_neg (by omega)]
          cases hk : known a.1 acc with
          | true => rfl
          | false =>
            simp only [Bool.false_eq_true, if_false]
            refine loop_bare f _ _ (by simp; omega) k5 fun r e => ?_
            refine hno ((trimL s).take m ++ r) ?_
            rw [List.append_assoc, ← e, List.take_append_drop]
theorem loop_both : ∀ (f : Nat) (acc : List (List UInt8 × List UInt8)) (s : List UInt8), acc.length ≤ 6 → right (s ++ [47]) = true → loopR f acc (s ++ [47]) = endR (attrsN f acc s) true
  | 0, _, _, _, _ => rfl
  | f + 1, acc, s, ha, hr => by
    have hrs := (right_cut 47 (by decide) s [] hr).1
    have hT := right_trim s hrs
    unfold loopR attrsN
    rw [trimL_snoc s 47 (by decide)]
    rw [if_neg (by simp)]
    by_cases h0 : (trimL s).isEmpty = true
    · have e : trimL s = [] := by simpa using h0
      rw [if_pos h0, if_pos (by rw [e]; rfl)]
      rfl
    · have hne : trimL s ≠ [] := by simpa using h0
      rw [if_neg h0, if_neg (by
        intro e
        have := congrArg List.length e
        simp at this
        exact hne this)]
      rw [attrR_snoc]
      by_cases h1 : (trimL s).length = s.length ∨ acc.length = 6
      · rw [if_pos h1, if_pos (by simp; omega)]
        rfl
      · rw [if_neg h1]
        rcases attr_eq (trimL s) hT with ⟨k1, k2⟩ | ⟨a, m, k1, k2, k3, k4, k5⟩
        · rw [if_pos (by omega), k2]
          rfl
        · rw [k1, k4]
          simp only [if_true]
          rw [if_neg (by simp; omega)]
          cases hk : known a.1 acc with
          | true => rfl
          | false =>
            simp only [Bool.false_eq_true, if_false]
            rw [List.drop_append_of_le_length k3]
            refine loop_both f _ _ (by simp; omega) ?_
            exact right_low_tail _ k5
theorem trimR_app (p q : List UInt8) (hq : ∀ b ∈ q, bl b = true) (hp : p = [] ∨ ∃ r c, p = r ++ [c] ∧ bl c = false) : trimR (p ++ q) = p := by
  have key : ∀ (q : List UInt8), (∀ b ∈ q, bl b = true) → trimR (p ++ q.reverse) = trimR p := by
    intro q
    induction q with
    | nil => intro _; simp
    | cons a q ih =>
      intro h
      rw [List.reverse_cons, ← List.append_assoc, trimR_snoc_yes _ (h a (.head _))]
      exact ih fun b hb => h b (.tail _ hb)
  have := key q.reverse (fun b hb => hq b (by simpa using hb))
  rw [List.reverse_reverse] at this
  rw [this]
  rcases hp with rfl | ⟨r, c, rfl, hc⟩
  · rfl
  · exact trimR_snoc_no r hc
theorem trimR_split (l : List UInt8) : ∃ q, l = trimR l ++ q ∧ ∀ b ∈ q, bl b = true := by
  refine ⟨(l.reverse.takeWhile bl).reverse, ?_, fun b hb => all_take bl l.reverse b (by simpa using hb)⟩
  unfold trimR
  rw [← List.reverse_append, List.takeWhile_append_dropWhile, List.reverse_reverse]
theorem nm_bl {c : UInt8} (h : isNm c = true) : bl c = false := by
  cases hb : bl c with
  | false => rfl
  | true =>
    rw [isNm_no c (.inr (.inr hb))] at h
    simp at h
theorem end_eq (r : List UInt8) : endN r = if name (runN r) && (runZ r).all bl then ([⟨2, runN r, [], []⟩], 0) else ([], 3) := by
  unfold endN
  cases hn : name (trimR r) with
  | true =>
    obtain ⟨q, hq, hb⟩ := trimR_split r
    have hrun : runN r = trimR r ∧ runZ r = q := by
      cases q with
      | nil =>
        have e : r = trimR r := by simpa using hq
        have := run_all (trimR r) (nm_of hn)
        rw [← e] at this
        exact ⟨by rw [this.1]; exact e, this.2⟩
      | cons c q =>
        have := run_of (trimR r) c q (nm_of hn) (isNm_no c (.inr (.inr (hb c (.head _)))))
        rw [← hq] at this
        exact this
    have hall : q.all bl = true := by rw [List.all_eq_true]; exact hb
    rw [hrun.1, hrun.2, hn, hall]
    rfl
  | false =>
    have : (name (runN r) && (runZ r).all bl) = false := by
      cases h1 : name (runN r) with
      | false => rfl
      | true =>
        cases h2 : (runZ r).all bl with
        | false => rfl
        | true =>
          exfalso
          rw [List.all_eq_true] at h2
          have hne : runN r ≠ [] := by
            intro e
            rw [e] at h1
            simp [name] at h1
          have e := trimR_app (runN r) (runZ r) h2 (.inr ⟨(runN r).dropLast, (runN r).getLast hne, (List.dropLast_concat_getLast hne).symm, nm_bl (nm_of h1 _ (List.getLast_mem hne))⟩)
          rw [run_app] at e
          rw [e, h1] at hn
          simp at hn
    rw [this]
    rfl
theorem noBl_run (l : List UInt8) : (noBl l = runN l ∧ ∀ c t, runZ l = c :: t → bl c = true) ∨ (name (noBl l) = false ∧ ∃ c t, runZ l = c :: t ∧ bl c = false) := by
  have hl := run_app l
  have hnb : ∀ b ∈ runN l, (!bl b) = true := fun b hb => by rw [nm_bl (all_take isNm l b hb)]; rfl
  cases hz : runZ l with
  | nil =>
    refine .inl ⟨?_, by simp⟩
    rw [hz, List.append_nil] at hl
    unfold noBl
    conv => lhs; rw [← hl]
    have := List.takeWhile_append_of_pos (l₂ := []) hnb
    simpa using this
  | cons c t =>
    have hc : isNm c = false := by
      have : ∀ (l : List UInt8), l.dropWhile isNm = c :: t → isNm c = false := by
        intro l
        induction l with
        | nil => intro h; simp at h
        | cons a l ih =>
          intro h
          rw [List.dropWhile_cons] at h
          split at h
          · exact ih h
          · rename_i ha
            cases h
            simpa using ha
      exact this l hz
    rw [hz] at hl
    cases hb : bl c with
    | true =>
      refine .inl ⟨?_, fun c' t' e => by cases e; exact hb⟩
      unfold noBl
      conv => lhs; rw [← hl]
      rw [List.takeWhile_append_of_pos hnb, List.takeWhile_cons, hb]
      simp
    | false =>
      refine .inr ⟨?_, c, t, rfl, hb⟩
      cases hn : name (noBl l) with
      | false => rfl
      | true =>
        exfalso
        have hm : c ∈ noBl l := by
          unfold noBl
          rw [← hl, List.takeWhile_append_of_pos hnb, List.takeWhile_cons, hb]
          simp
        have := nm_of hn c hm
        rw [hc] at this
        simp at this
end Go.Proofs.YtdoekpodichhdaaDoor
