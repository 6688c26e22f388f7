/-
  Plain mathematics, of no program: the document's reading of a tag is the program's, for all bytes.
-/
import Derived.Test.YtdoekpodichhdaaDoorPtagb
namespace Go.Proofs.YtdoekpodichhdaaDoor
theorem right_lows : ∀ (p t : List UInt8), (∀ b ∈ p, b.toNat < 128) → right (p ++ t) = true → right t = true
  | [], _, _, h => h
  | b :: p, t, hp, h => right_lows p t (fun x hx => hp x (.tail _ hx)) (right_cut b (hp b (.head _)) [] (p ++ t) h).2
theorem nm_low {b : UInt8} (h : isNm b = true) : b.toNat < 128 := by
  unfold isNm at h
  simp only [Bool.or_eq_true] at h
  exact (let_low h).1
theorem right_runZ (l : List UInt8) (h : right l = true) : right (runZ l) = true := by
  rw [← run_app l] at h
  exact right_lows (runN l) (runZ l) (fun b hb => nm_low (all_take isNm l b hb)) h
def tagL (l : List UInt8) : List Tok × Int :=
  if name (runN l) then
    match loopR (l.length + 1) [] (runZ l) with
    | (a, b, e) => if e = 0 then (if b then [⟨1, runN l, a, []⟩, ⟨2, runN l, [], []⟩] else [⟨1, runN l, a, []⟩], 0) else ([], 3)
  else ([], 3)
theorem attrN_lt (l : List UInt8) (h : (attrN l).2.2 = 0) : (attrN l).2.1.length < l.length := by
  have hzl : ∀ (c : UInt8) (l : List UInt8), (cutZ c l).length ≤ l.length - 1 := fun c l => by
    unfold cutZ
    rw [List.length_drop]
    have := (List.dropWhile_sublist (p := (· != c)) (l := l)).length_le
    omega
  unfold attrN at h ⊢
  split at h
  · split at h
    · simp at h
    · rename_i q t hz
      have h1 := hzl 61 l
      rw [hz, List.length_cons] at h1
      have h2 := hzl q t
      split at h
      · split at h
        · split at h
          · simp only [*, if_true]
            omega
          · rename_i hne
            exact absurd h hne
        · simp at h
      · simp at h
  · simp at h
theorem attrsN_3 : ∀ (f : Nat) (acc : List (List UInt8 × List UInt8)) (s : List UInt8), right s = true → (attrsN f acc s).2 = 0 ∨ (attrsN f acc s).2 = 3
  | 0, _, _, _ => .inr rfl
  | f + 1, acc, s, hr => by
    unfold attrsN
    split
    · exact .inl rfl
    · split
      · exact .inr rfl
      · rcases attr_eq (trimL s) (right_trim s hr) with ⟨_, k2⟩ | ⟨a, m, _, _, _, k4, k5⟩
        · rw [k2]
          exact .inr rfl
        · rw [k4]
          simp only [if_true]
          split
          · exact .inr rfl
          · exact attrsN_3 f _ _ k5
theorem attrs_fuel : ∀ (f g : Nat) (acc : List (List UInt8 × List UInt8)) (s : List UInt8), s.length < f → s.length < g → attrsN f acc s = attrsN g acc s
  | 0, _, _, _, h, _ => absurd h (Nat.not_lt_zero _)
  | _ + 1, 0, _, _, _, h => absurd h (Nat.not_lt_zero _)
  | f + 1, g + 1, acc, s, hf, hg => by
    unfold attrsN
    split
    · rfl
    · split
      · rfl
      · split
        · rename_i h0
          split
          · rfl
          · have h1 : (attrN (trimL s)).2.1.length < (trimL s).length := attrN_lt _ h0
            have h2 : (trimL s).length ≤ s.length := (List.dropWhile_sublist _).length_le
            exact attrs_fuel f g _ _ (by omega) (by omega)
        · rfl
theorem drop_run (l : List UInt8) : l.drop (runN l).length = runZ l := by
  conv => lhs; rw [← run_app l]
  have : (runN (runN l ++ runZ l)).length = (runN l).length := by rw [run_app]
  rw [this, List.drop_left]
theorem trimL_first {c : UInt8} (t : List UInt8) (h : bl c = false) : trimL (c :: t) = c :: t := trimL_cons_no t h
theorem bare_eq (l : List UInt8) (hr : right l = true) (h47 : ∀ r, l ≠ r ++ [47]) : bareN l = tagL l := by
  unfold bareN tagL beginN
  rcases noBl_run l with ⟨h1, _⟩ | ⟨h1, c, t, hz, hc⟩
  · rw [h1, drop_run]
    cases hn : name (runN l) with
    | false => rfl
    | true =>
      have hb := loop_bare (l.length + 1) [] (runZ l) (by simp) (right_runZ l hr) (fun r e => h47 (runN l ++ r) (by rw [List.append_assoc, ← e, run_app]))
      rw [hb]
      unfold endR
      simp only [if_true]
      rcases attrsN_3 (l.length + 1) [] (runZ l) (right_runZ l hr) with e | e
      · simp [e]
      · simp [e]
  · rw [h1]
    simp only [Bool.false_eq_true, if_false]
    have hl : loopR (l.length + 1) [] (runZ l) = ([], false, 3) := by
      rw [hz]
      unfold loopR
      rw [trimL_first t hc, if_neg (by simp), if_neg, if_pos (.inl rfl)]
      intro e
      cases e
      exact h47 (runN l) (by rw [← hz, run_app])
    rw [hl]
    cases name (runN l) <;> rfl
theorem both_eq (s : List UInt8) (hr : right (s ++ [47]) = true) : bothN s = tagL (s ++ [47]) := by
  have hrs := (right_cut 47 (by decide) s [] hr).1
  unfold bothN tagL beginN
  rw [(run_snoc s).1, (run_snoc s).2]
  rcases noBl_run s with ⟨h1, _⟩ | ⟨h1, c, t, hz, hc⟩
  · rw [h1, drop_run]
    cases hn : name (runN s) with
    | false => rfl
    | true =>
      have hrz := right_runZ (s ++ [47]) hr
      rw [(run_snoc s).2] at hrz
      have hb := loop_both ((s ++ [47]).length + 1) [] (runZ s) (by simp) hrz
      rw [hb]
      have hf : attrsN ((s ++ [47]).length + 1) [] (runZ s) = attrsN (s.length + 1) [] (runZ s) := attrs_fuel _ _ _ _ (by have := congrArg List.length (run_app s); simp at this ⊢; omega) (by have := congrArg List.length (run_app s); simp at this ⊢; omega)
      rw [hf]
      unfold endR
      simp only [if_true]
      rcases attrsN_3 (s.length + 1) [] (runZ s) (right_runZ s hrs) with e | e
      · simp [e]
      · simp [e]
  · rw [h1]
    simp only [Bool.false_eq_true, if_false]
    have hl : loopR ((s ++ [47]).length + 1) [] (runZ s ++ [47]) = ([], false, 3) := by
      rw [hz]
      unfold loopR
      rw [List.cons_append, trimL_first _ hc, if_neg (by simp), if_neg (by simp), if_pos (.inl rfl)]
    rw [hl]
    cases name (runN s) <;> rfl
def tagS (r : List UInt8) : List Tok × Int := if name (runN r) && (runZ r).all bl then ([⟨2, runN r, [], []⟩], 0) else ([], 3)
/-- The document's reading of a tag. -/
def tagR (l : List UInt8) : List Tok × Int := if right l then (if Lib.hasPrefix l [47] then tagS (Lib.trimPrefix l [47]) else tagL l) else ([], 2)
theorem pre_iff (l : List UInt8) : Lib.hasPrefix l [47] = true ↔ ∃ r, l = 47 :: r := by
  unfold Lib.hasPrefix
  cases l with
  | nil => simp
  | cons a l =>
    simp [List.isPrefixOf]
    exact eq_comm
theorem suf_iff (l : List UInt8) : Lib.hasSuffix l [47] = true ↔ ∃ r, l = r ++ [47] := by
  unfold Lib.hasSuffix
  rw [List.isSuffixOf_iff_suffix]
  constructor
  · rintro ⟨r, rfl⟩
    exact ⟨r, rfl⟩
  · rintro ⟨r, rfl⟩
    exact ⟨r, rfl⟩
/-- The document's reading of a tag is the program's. -/
theorem tag_eq (l : List UInt8) : tagN l = tagR l := by
  cases hr : right l with
  | false => unfold tagN tagR; rw [hr]; rfl
  | true =>
    unfold tagN tagR
    rw [hr]
    simp only [if_true]
    by_cases hp : Lib.hasPrefix l [47] = true
    · rw [if_pos hp, if_pos hp, end_eq]
      rfl
    · rw [if_neg hp, if_neg hp]
      by_cases hs : ∃ r, l = r ++ [47]
      · rw [if_pos ((suf_iff l).2 hs)]
        obtain ⟨r, rfl⟩ := hs
        have : Lib.trimSuffix (r ++ [47]) [47] = r := by
          unfold Lib.trimSuffix
          rw [if_pos ((suf_iff _).2 ⟨r, rfl⟩)]
          simp
        rw [this, both_eq r hr]
      · rw [if_neg (fun e => hs ((suf_iff l).1 e))]
        have : Lib.trimSuffix l [47] = l := by
          unfold Lib.trimSuffix
          rw [if_neg (fun e => hs ((suf_iff l).1 e))]
        rw [this, bare_eq l hr (fun r e => hs ⟨r, e⟩)]
end Go.Proofs.YtdoekpodichhdaaDoor
