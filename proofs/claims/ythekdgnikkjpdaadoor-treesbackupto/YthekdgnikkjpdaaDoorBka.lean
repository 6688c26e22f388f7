/-
  Plain mathematics, of no program: what is written is read: bytes, tags and texts.
-/
import Derived.Test.YthekdgnikkjpdaaDoorWrif
import Derived.Test.YthekdgnikkjpdaaDoorReaa
namespace Go.Proofs.YthekdgnikkjpdaaDoor
open Go Go.RowKit
theorem feed_text : ∀ (l h : List UInt8), (∀ c ∈ l, c ≠ 60) → h.length + l.length ≤ 512 → feedN ⟨h, false, 0⟩ l = (⟨h ++ l, false, 0⟩, [])
  | [], h, _, _ => by simp [feedN]
  | c :: l, h, hc, hl => by
    have h1 : c ≠ 60 := hc c (by simp)
    have h2 : ¬ h.length = 512 := by simp at hl; omega
    have hs : stepN ⟨h, false, 0⟩ c = (⟨h ++ [c], false, 0⟩, []) := by simp [stepN, readN, h1, h2]
    have ih := feed_text l (h ++ [c]) (fun x hx => hc x (by simp [hx])) (by simp at hl ⊢; omega)
    simp [feedN, hs, ih]
theorem feed_tag : ∀ (l h : List UInt8), (∀ c ∈ l, c ≠ 60 ∧ c ≠ 62) → h.length + l.length ≤ 512 → feedN ⟨h, true, 0⟩ l = (⟨h ++ l, true, 0⟩, [])
  | [], h, _, _ => by simp [feedN]
  | c :: l, h, hc, hl => by
    have h1 := hc c (by simp)
    have h2 : ¬ h.length = 512 := by simp at hl; omega
    have hs : stepN ⟨h, true, 0⟩ c = (⟨h ++ [c], true, 0⟩, []) := by simp [stepN, readN, h1.1, h1.2, h2]
    have ih := feed_tag l (h ++ [c]) (fun x hx => hc x (by simp [hx])) (by simp at hl ⊢; omega)
    simp [feedN, hs, ih]
/-- A whole tag, behind a text that is held. -/
theorem feed_whole (h l : List UInt8) (ts tg : List Tok) (hh : textN h = (ts, 0)) (ht : tagN l = (tg, 0)) (hc : ∀ c ∈ l, c ≠ 60 ∧ c ≠ 62) (hl : l.length ≤ 512) :
    feedN ⟨h, false, 0⟩ ([60] ++ l ++ [62]) = (⟨[], false, 0⟩, ts ++ tg) := by
  have h1 : stepN ⟨h, false, 0⟩ 60 = (⟨[], true, 0⟩, ts) := by simp [stepN, readN, hh]
  have h2 := feed_tag l [] hc (by simpa using hl)
  have h3 : stepN ⟨l, true, 0⟩ 62 = (⟨[], false, 0⟩, tg) := by simp [stepN, readN, ht]
  rw [List.append_assoc, feedN_app]
  simp only [feedN, h1, List.append_nil]
  rw [feedN_app, h2]
  simp [feedN, h3]
/-- What a name's bytes are not. -/
def plainB (c : UInt8) : Prop := c ≠ 60 ∧ c ≠ 62 ∧ c ≠ 61 ∧ c ≠ 34 ∧ c ≠ 39 ∧ c ≠ 47 ∧ bl c = false
set_option maxRecDepth 100000 in
theorem let_plain {b : UInt8} (h : isLet b = true ∨ isLat b = true) : plainB b := by
  have : ∀ n : Fin 256, (isLet (UInt8.ofNat n.val) = true ∨ isLat (UInt8.ofNat n.val) = true) → (UInt8.ofNat n.val ≠ 60 ∧ UInt8.ofNat n.val ≠ 62 ∧ UInt8.ofNat n.val ≠ 61 ∧ UInt8.ofNat n.val ≠ 34 ∧ UInt8.ofNat n.val ≠ 39 ∧ UInt8.ofNat n.val ≠ 47 ∧ bl (UInt8.ofNat n.val) = false) := by decide
  have h2 := this ⟨b.toNat, b.toNat_lt⟩
  simp only [UInt8.ofNat_toNat] at h2
  exact h2 h
theorem name_plain {l : List UInt8} (h : name l = true) : ∀ c ∈ l, plainB c := by
  simp [name] at h
  exact fun c hc => let_plain (name_mem h.2 c hc)
theorem name_ne {l : List UInt8} (h : name l = true) : l ≠ [] := by
  simp [name] at h
  intro e
  rw [e] at h
  simp at h
theorem nameB_len {l : List UInt8} (h : name l = true) : l.length ≤ 16 := by
  simp [name] at h
  omega
theorem un_esc (t : List UInt8) (h : right t = true) : un (esc t) = (t, 0) := by
  unfold un
  rw [if_pos (right_esc t h), unesc_esc]
theorem esc_nil {t : List UInt8} : (esc t).isEmpty = t.isEmpty := by
  cases t with
  | nil => rfl
  | cons a t =>
    have h := (esc_length (a :: t)).1
    cases hx : esc (a :: t) with
    | nil => rw [hx] at h; simp at h
    | cons b r => rfl
theorem text_esc (t : List UInt8) (h : right t = true) : textN (esc t) = (if t.isEmpty then [] else [⟨3, [], [], t⟩], 0) := by
  unfold textN
  rw [esc_nil, un_esc t h]
  cases t.isEmpty <;> simp
theorem takeWhile_all {p : UInt8 → Bool} : ∀ (a b : List UInt8), (∀ c ∈ a, p c = true) → (a ++ b).takeWhile p = a ++ b.takeWhile p
  | [], b, _ => rfl
  | c :: a, b, h => by
    have h1 := h c (by simp)
    have ih := takeWhile_all a b fun x hx => h x (by simp [hx])
    simp [h1, ih]
theorem dropWhile_all {p : UInt8 → Bool} : ∀ (a b : List UInt8), (∀ c ∈ a, p c = true) → (a ++ b).dropWhile p = b.dropWhile p
  | [], b, _ => rfl
  | c :: a, b, h => by
    have h1 := h c (by simp)
    have ih := dropWhile_all a b fun x hx => h x (by simp [hx])
    simp [h1, ih]
/-- An attribute as it is written is read. -/
theorem attr_one (p : List UInt8 × List UInt8) (r : List UInt8) (hn : name p.1 = true) (hv : right p.2 = true) : attrN (p.1 ++ [61, 34] ++ esc p.2 ++ [34] ++ r) = (p, r, 0) := by
  have e1 : p.1 ++ [61, 34] ++ esc p.2 ++ [34] ++ r = p.1 ++ (61 :: 34 :: (esc p.2 ++ (34 :: r))) := by simp
  have n1 : ∀ c ∈ p.1, (c != 61) = true := fun c hc => by simpa using (name_plain hn c hc).2.2.1
  have n2 : ∀ c ∈ esc p.2, (c != 34) = true := fun c hc => by simpa using (esc_mem p.2 c hc).2.2.1
  have a1 : cutA 61 (p.1 ++ (61 :: 34 :: (esc p.2 ++ (34 :: r)))) = p.1 := by
    unfold cutA
    rw [takeWhile_all _ _ n1]
    simp
  have a2 : cutZ 61 (p.1 ++ (61 :: 34 :: (esc p.2 ++ (34 :: r)))) = 34 :: (esc p.2 ++ (34 :: r)) := by
    unfold cutZ
    rw [dropWhile_all _ _ n1]
    simp
  have a3 : cutA 34 (esc p.2 ++ (34 :: r)) = esc p.2 := by
    unfold cutA
    rw [takeWhile_all _ _ n2]
    simp
  have a4 : cutZ 34 (esc p.2 ++ (34 :: r)) = r := by
    unfold cutZ
    rw [dropWhile_all _ _ n2]
    simp
  have a5 : cutB 34 (esc p.2 ++ (34 :: r)) = true := by simp [cutB]
  rw [e1]
  unfold attrN
  rw [a1, a2, if_pos hn]
  simp only [show quo 34 = true from rfl, if_true, a5, a3, a4, un_esc p.2 hv]
theorem attrT_eq (p : List UInt8 × List UInt8) (r : List UInt8) : attrT p ++ r = 32 :: (p.1 ++ [61, 34] ++ esc p.2 ++ [34] ++ r) := by simp [attrT]
/-- Attributes as they are written are read. -/
theorem attrs_all : ∀ (l acc : List (List UInt8 × List UInt8)) (kn : List (List UInt8)) (f : Nat), attrsOk kn l = true → (∀ n, acc.any (fun p => p.1 == n) = kn.contains n) → acc.length + l.length ≤ 6 → l.length < f → attrsN f acc (attrsT l) = (acc ++ l, 0)
  | [], acc, kn, 0, _, _, _, hf => by simp at hf
  | [], acc, kn, f + 1, _, _, _, _ => by simp [attrsN, attrsT, trimL]
  | p :: l, acc, kn, 0, _, _, _, hf => by simp at hf
  | p :: l, acc, kn, f + 1, hok, hkn, hlen, hf => by
    simp only [attrsOk, Bool.and_eq_true, Bool.not_eq_true'] at hok
    obtain ⟨⟨⟨h1, h2⟩, h3⟩, h4⟩ := hok
    have e : attrsT (p :: l) = 32 :: (p.1 ++ [61, 34] ++ esc p.2 ++ [34] ++ attrsT l) := by
      show attrT p ++ attrsT l = _
      exact attrT_eq p _
    obtain ⟨a, b, hab⟩ : ∃ a b, p.1 = a :: b := by
      cases hx : p.1 with
      | nil => exact absurd hx (name_ne h2)
      | cons a b => exact ⟨a, b, rfl⟩
    have hbl : bl a = false := (name_plain h2 a (by rw [hab]; simp)).2.2.2.2.2.2
    have ht : trimL (attrsT (p :: l)) = p.1 ++ [61, 34] ++ esc p.2 ++ [34] ++ attrsT l := by
      rw [e, trimL_cons_yes _ (by rfl)]
      have e2 : p.1 ++ [61, 34] ++ esc p.2 ++ [34] ++ attrsT l = a :: (b ++ [61, 34] ++ esc p.2 ++ [34] ++ attrsT l) := by rw [hab]; rfl
      rw [e2, trimL_cons_no _ hbl]
    have hne : ¬ (trimL (attrsT (p :: l))).length = (attrsT (p :: l)).length := by rw [ht, e]; simp
    have h6 : ¬ acc.length = 6 := by simp at hlen; omega
    have hem : (trimL (attrsT (p :: l))).isEmpty = false := by rw [ht, hab]; rfl
    have hk : known p.1 acc = false := by unfold known; rw [hkn]; exact h1
    have ih := attrs_all l (acc ++ [p]) (p.1 :: kn) f h4 (fun n => by
      rw [List.any_append, hkn n]
      simp only [List.any_cons, List.any_nil, Bool.or_false, List.contains_cons]
      rw [Bool.or_comm]
      congr 1
      exact Bool.beq_comm) (by simp at hlen ⊢; omega) (by simp at hf; omega)
    rw [attrsN, hem]
    simp only [Bool.false_eq_true, if_false]
    rw [if_neg (by rintro (h | h); exact hne h; exact h6 h), ht, attr_one p (attrsT l) h2 h3]
    simp only [if_true]
    rw [hk]
    simp only [Bool.false_eq_true, if_false]
    rw [ih]
    simp
theorem right_app {a b : List UInt8} (ha : right a = true) (hb : right b = true) : right (a ++ b) = true := by
  rw [right_iff] at *
  have h := (whole_app a b _ ha).1
  rw [List.drop_length, List.nil_append, hb] at h
  rw [h, List.length_append]
  simp
  omega
theorem right_attr (p : List UInt8 × List UInt8) (hn : name p.1 = true) (hv : right p.2 = true) : right (attrT p) = true := by
  unfold attrT
  exact right_app (right_app (right_app (right_app (by decide) (name_right p.1 hn).1) (by decide)) (right_esc p.2 hv)) (by decide)
theorem right_attrs : ∀ (l : List (List UInt8 × List UInt8)), (∀ p ∈ l, name p.1 = true ∧ right p.2 = true) → right (attrsT l) = true
  | [], _ => right_nil
  | p :: l, h => right_app (right_attr p (h p (by simp)).1 (h p (by simp)).2) (right_attrs l fun q hq => h q (by simp [hq]))
theorem noBl_name {nm : List UInt8} (h : name nm = true) (l : List (List UInt8 × List UInt8)) : noBl (nm ++ attrsT l) = nm := by
  unfold noBl
  rw [takeWhile_all _ _ fun c hc => by have := (name_plain h c hc).2.2.2.2.2.2; simp [this]]
  cases l with
  | nil => simp [attrsT]
  | cons p l =>
    have e : attrsT (p :: l) = 32 :: (p.1 ++ [61, 34] ++ esc p.2 ++ [34] ++ attrsT l) := attrT_eq p _
    rw [e]
    simp [show bl 32 = true from rfl]
theorem begin_ok {nm : List UInt8} {l : List (List UInt8 × List UInt8)} (h : name nm = true) (ha : rightA l = true) : beginN (nm ++ attrsT l) = (⟨1, nm, l, []⟩, 0) := by
  simp only [rightA, Bool.and_eq_true, decide_eq_true_eq] at ha
  have hd : (nm ++ attrsT l).drop nm.length = attrsT l := by simp
  have hlen : ∀ (l : List (List UInt8 × List UInt8)), l.length ≤ (attrsT l).length := by
    intro l
    induction l with
    | nil => simp
    | cons p l ih =>
      have e : attrsT (p :: l) = 32 :: (p.1 ++ [61, 34] ++ esc p.2 ++ [34] ++ attrsT l) := attrT_eq p _
      rw [e]
      simp
      omega
  have hA := attrs_all l [] [] ((nm ++ attrsT l).length + 1) ha.2 (fun n => by simp) (by simpa using ha.1) (by have := hlen l; simp; omega)
  unfold beginN
  rw [noBl_name h, if_pos h, hd, hA]
  simp
theorem last_plain (nm : List UInt8) (h : name nm = true) : nm.getLast? ≠ some 47 := fun e => by
  have hm := List.mem_of_getLast? e
  exact (name_plain h 47 hm).2.2.2.2.2.1 rfl
theorem attrs_last : ∀ (l : List (List UInt8 × List UInt8)) (nm : List UInt8), name nm = true → (nm ++ attrsT l).getLast? ≠ some 47
  | [], nm, h => by simpa [attrsT] using last_plain nm h
  | p :: l, nm, h => by
    have hx : ∀ (l : List (List UInt8 × List UInt8)), l ≠ [] → (attrsT l).getLast? = some 34 := by
      intro l
      induction l with
      | nil => intro e; exact absurd rfl e
      | cons q r ih =>
        intro _
        cases r with
        | nil =>
          have e : attrsT [q] = ([32] ++ q.1 ++ [61, 34] ++ esc q.2) ++ [34] := by simp [attrsT, attrT]
          rw [e, List.getLast?_append]
          rfl
        | cons q2 r2 =>
          have := ih (by simp)
          show (attrT q ++ attrsT (q2 :: r2)).getLast? = _
          rw [List.getLast?_append, this]
          rfl
    rw [List.getLast?_append, hx (p :: l) (by simp)]
    simp
theorem noSuffix {l : List UInt8} (h : l.getLast? ≠ some 47) : Lib.hasSuffix l [47] = false := by
  cases hs : Lib.hasSuffix l [47] with
  | false => rfl
  | true =>
    unfold Lib.hasSuffix at hs
    obtain ⟨t, rfl⟩ := List.isSuffixOf_iff_suffix.1 hs
    exact absurd (by rw [List.getLast?_append]; rfl) h
theorem noPrefix {nm r : List UInt8} (h : name nm = true) : Lib.hasPrefix (nm ++ r) [47] = false := by
  obtain ⟨a, b, hab⟩ : ∃ a b, nm = a :: b := by
    cases hx : nm with
    | nil => exact absurd hx (name_ne h)
    | cons a b => exact ⟨a, b, rfl⟩
  have ha : a ≠ 47 := (name_plain h a (by rw [hab]; simp)).2.2.2.2.2.1
  subst hab
  unfold Lib.hasPrefix
  have hb : ((47 : UInt8) == a) = false := by simpa using Ne.symm ha
  show ((47 : UInt8) == a && List.isPrefixOf [] (b ++ r)) = false
  rw [hb]
  rfl
theorem rightA_all {l : List (List UInt8 × List UInt8)} (h : rightA l = true) : ∀ p ∈ l, name p.1 = true ∧ right p.2 = true := by
  simp only [rightA, Bool.and_eq_true] at h
  exact attrsOk_all l [] h.2
theorem tag_begin {nm : List UInt8} {l : List (List UInt8 × List UInt8)} (h : name nm = true) (ha : rightA l = true) : tagN (nm ++ attrsT l) = ([⟨1, nm, l, []⟩], 0) := by
  unfold tagN
  rw [if_pos (right_app (name_right nm h).1 (right_attrs l (rightA_all ha))), noPrefix h, noSuffix (attrs_last l nm h)]
  simp only [Bool.false_eq_true, if_false]
  unfold Lib.trimSuffix bareN
  rw [noSuffix (attrs_last l nm h)]
  simp only [Bool.false_eq_true, if_false]
  rw [begin_ok h ha]
  simp
theorem tag_both {nm : List UInt8} {l : List (List UInt8 × List UInt8)} (h : name nm = true) (ha : rightA l = true) : tagN (nm ++ attrsT l ++ [47]) = ([⟨1, nm, l, []⟩, ⟨2, nm, [], []⟩], 0) := by
  have hs : Lib.hasSuffix (nm ++ attrsT l ++ [47]) [47] = true := by
    unfold Lib.hasSuffix
    exact List.isSuffixOf_iff_suffix.2 ⟨_, rfl⟩
  unfold tagN
  rw [if_pos (right_app (right_app (name_right nm h).1 (right_attrs l (rightA_all ha))) (by decide)), hs, List.append_assoc, noPrefix h, ← List.append_assoc]
  simp only [Bool.false_eq_true, if_false, if_true]
  unfold Lib.trimSuffix bothN
  rw [hs]
  simp only [if_true]
  have e : (nm ++ attrsT l ++ [47]).take ((nm ++ attrsT l ++ [47]).length - ([47] : List UInt8).length) = nm ++ attrsT l := by
    rw [List.length_append, Nat.add_sub_cancel]
    exact List.take_left
  rw [e, begin_ok h ha]
  simp
theorem trimR_name {nm : List UInt8} (h : name nm = true) : trimR nm = nm := by
  obtain ⟨a, b, hab⟩ : ∃ a b, nm = a ++ [b] := ⟨_, _, (List.dropLast_concat_getLast (name_ne h)).symm⟩
  rw [hab]
  exact trimR_snoc_no a (name_plain h b (by rw [hab]; simp)).2.2.2.2.2.2
theorem tag_end {nm : List UInt8} (h : name nm = true) : tagN ([47] ++ nm) = ([⟨2, nm, [], []⟩], 0) := by
  have hp : Lib.hasPrefix ([47] ++ nm) [47] = true := by
    unfold Lib.hasPrefix
    simp
  unfold tagN
  rw [if_pos (right_app (by decide) (name_right nm h).1), hp]
  simp only [if_true]
  unfold Lib.trimPrefix endN
  rw [hp]
  simp only [if_true]
  have e : ([47] ++ nm).drop ([47] : List UInt8).length = nm := rfl
  rw [e, trimR_name h, if_pos h]
theorem attrs_bytes {l : List (List UInt8 × List UInt8)} (h : ∀ p ∈ l, name p.1 = true) : ∀ c ∈ attrsT l, c ≠ 60 ∧ c ≠ 62 := by
  intro c hc
  obtain ⟨p, hp, hc⟩ := List.mem_flatMap.1 hc
  unfold attrT at hc
  simp only [List.mem_append, List.mem_cons, List.not_mem_nil, or_false] at hc
  rcases hc with (((rfl | hc) | rfl | rfl) | hc) | rfl
  · decide
  · exact ⟨(name_plain (h p hp) c hc).1, (name_plain (h p hp) c hc).2.1⟩
  · decide
  · decide
  · exact ⟨(esc_mem p.2 c hc).1, (esc_mem p.2 c hc).2.1⟩
  · decide
/-- The tokens of an element. -/
def toksE : Nat → El → List Tok
  | 0, _ => []
  | d + 1, e => ⟨1, e.nm, e.attrs, []⟩ :: ((if e.text.isEmpty then [] else [⟨3, [], [], e.text⟩]) ++ e.kids.flatMap (toksE d) ++ [⟨2, e.nm, [], []⟩])
/-- Its tags and texts are short, so deep. -/
def shortE : Nat → El → Prop
  | 0, _ => True
  | d + 1, e => e.nm.length + (attrsT e.attrs).length + 1 ≤ 512 ∧ (esc e.text).length ≤ 512 ∧ ∀ k ∈ e.kids, shortE d k
theorem textN_nil : textN [] = ([], 0) := rfl
theorem feed_kids {d : Nat} (ih : ∀ (e : El) (h : List UInt8) (ts : List Tok), rightE d e = true → shortE d e → textN h = (ts, 0) → feedN ⟨h, false, 0⟩ (textE d e) = (⟨[], false, 0⟩, ts ++ toksE d e)) :
    ∀ (l : List El) (h : List UInt8) (ts : List Tok) (nm : List UInt8), (∀ k ∈ l, rightE d k = true) → (∀ k ∈ l, shortE d k) → name nm = true → textN h = (ts, 0) → feedN ⟨h, false, 0⟩ (l.flatMap (textE d) ++ ([60, 47] ++ nm ++ [62])) = (⟨[], false, 0⟩, ts ++ l.flatMap (toksE d) ++ [⟨2, nm, [], []⟩])
  | [], h, ts, nm, _, _, hn, hh => by
    have e : ([60, 47] ++ nm ++ [62] : List UInt8) = [60] ++ ([47] ++ nm) ++ [62] := rfl
    rw [List.flatMap_nil, List.nil_append, e, feed_whole h ([47] ++ nm) ts [⟨2, nm, [], []⟩] hh (tag_end hn) (fun c hc => by
      rcases List.mem_append.1 hc with hc | hc
      · simp at hc; subst hc; decide
      · exact ⟨(name_plain hn c hc).1, (name_plain hn c hc).2.1⟩) (by have := nameB_len hn; simp; omega)]
    simp
  | k :: l, h, ts, nm, hr, hs, hn, hh => by
    have h1 := ih k h ts (hr k (by simp)) (hs k (by simp)) hh
    have h2 := feed_kids ih l [] [] nm (fun q hq => hr q (by simp [hq])) (fun q hq => hs q (by simp [hq])) hn textN_nil
    rw [List.flatMap_cons, List.append_assoc, feedN_app, h1, h2]
    simp
/-- What is written of an element is read as its tokens. -/
theorem feed_elem : ∀ (d : Nat) (e : El) (h : List UInt8) (ts : List Tok), rightE d e = true → shortE d e → textN h = (ts, 0) → feedN ⟨h, false, 0⟩ (textE d e) = (⟨[], false, 0⟩, ts ++ toksE d e)
  | 0, _, _, _, hr, _, _ => by cases hr
  | d + 1, e, h, ts, hr, hs, hh => by
    simp only [rightE, Bool.and_eq_true, decide_eq_true_eq] at hr
    obtain ⟨hk, hn, ha, ht, hkids⟩ := hr
    obtain ⟨s1, s2, s3⟩ := hs
    have hb : ∀ c ∈ e.nm ++ attrsT e.attrs, c ≠ 60 ∧ c ≠ 62 := fun c hc => by
      rcases List.mem_append.1 hc with hc | hc
      · exact ⟨(name_plain hn c hc).1, (name_plain hn c hc).2.1⟩
      · exact attrs_bytes (fun p hp => (rightA_all ha p hp).1) c hc
    unfold textE
    by_cases hem : (e.text.isEmpty && e.kids.isEmpty) = true
    · rw [if_pos hem]
      simp only [Bool.and_eq_true, List.isEmpty_iff] at hem
      have e1 : ([60] ++ e.nm ++ attrsT e.attrs) ++ [47, 62] = [60] ++ (e.nm ++ attrsT e.attrs ++ [47]) ++ [62] := by simp
      rw [e1, feed_whole h _ ts _ hh (tag_both hn ha) (fun c hc => by
        rcases List.mem_append.1 hc with hc | hc
        · exact hb c hc
        · simp at hc; subst hc; decide) (by simp; omega)]
      simp [toksE, hem.1, hem.2]
    · rw [if_neg hem]
      have e1 : ([60] ++ e.nm ++ attrsT e.attrs) ++ (([62] ++ esc e.text) ++ (e.kids.flatMap (textE d) ++ ([60, 47] ++ e.nm ++ [62]))) = ([60] ++ (e.nm ++ attrsT e.attrs) ++ [62]) ++ (esc e.text ++ (e.kids.flatMap (textE d) ++ ([60, 47] ++ e.nm ++ [62]))) := by simp
      rw [e1, feedN_app, feed_whole h _ ts _ hh (tag_begin hn ha) hb (by simp; omega), feedN_app, feed_text (esc e.text) [] (fun c hc => (esc_mem e.text c hc).1) (by simpa using s2)]
      have hk2 := feed_kids (feed_elem d) e.kids (esc e.text) _ e.nm (fun k hk => List.all_eq_true.1 hkids k hk) s3 hn (text_esc e.text ht)
      simp only [List.nil_append]
      rw [hk2]
      simp [toksE]
end Go.Proofs.YthekdgnikkjpdaaDoor
