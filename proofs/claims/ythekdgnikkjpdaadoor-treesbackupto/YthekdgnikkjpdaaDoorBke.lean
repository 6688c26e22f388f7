/-
  Plain mathematics, of no program: what is written is read: bytes, tags and texts.
-/
import Derived.Test.YthekdgnikkjpdaaDoorWrif
import Derived.Test.YthekdgnikkjpdaaDoorReaa
namespace Go.Proofs.YthekdgnikkjpdaaDoor
open Go Go.RowKit
theorem feed_text : ∀ (l h : List UInt8), (∀ c ∈ l, c ≠ 60) → h.length + l.length ≤ 512 → feedN ⟨h, false, 0⟩ l = (⟨h ++ l, false, 0⟩, [])
  | [], h, _, _ => by simp [feedN]
  | c :: l, h, hc, hl => by
    have h1 : c ≠ 60 := hc c (by simp)
    have h2 : ¬ h.length = 512 := by simp at hl; omega
    have hs : stepN ⟨h, false, 0⟩ c = (⟨h ++ [c], false, 0⟩, []) := by simp [stepN, readN, h1, h2]
    have ih := feed_text l (h ++ [c]) (fun x hx => hc x (by simp [hx])) (by simp at hl ⊢; omega)
    simp [feedN, hs, ih]
theorem feed_tag : ∀ (l h : List UInt8), (∀ c ∈ l, c ≠ 60 ∧ c ≠ 62) → h.length + l.length ≤ 512 → feedN ⟨h, true, 0⟩ l = (⟨h ++ l, true, 0⟩, [])
  | [], h, _, _ => by simp [feedN]
  | c :: l, h, hc, hl => by
    have h1 := hc c (by simp)
    have h2 : ¬ h.length = 512 := by simp at hl; omega
    have hs : stepN ⟨h, true, 0⟩ c = (⟨h ++ [c], true, 0⟩, []) := by simp [stepN, readN, h1.1, h1.2, h2]
    have ih := feed_tag l (h ++ [c]) (fun x hx => hc x (by simp [hx])) (by simp at hl ⊢; omega)
    simp [feedN, hs, ih]
/-- A whole tag, behind a text that is held. -/
theorem feed_whole (h l : List UInt8) (ts tg : List Tok) (hh : textN h = (ts, 0)) (ht : tagN l = (tg, 0)) (hc : ∀ c ∈ l, c ≠ 60 ∧ c ≠ 62) (hl : l.length ≤ 512) :
    feedN ⟨h, false, 0⟩ ([60] ++ l ++ [62]) = (⟨[], false, 0⟩, ts ++ tg) := by
  have h1 : stepN ⟨h, false, 0⟩ 60 = (⟨[], true, 0⟩, ts) := by simp [stepN, readN, hh]
  have h2 := feed_tag l [] hc (by simpa using hl)
  have h3 : stepN ⟨l, true, 0⟩ 62 = (⟨[], false, 0⟩, tg) := by simp [stepN, readN, ht]
  rw [List.append_assoc, feedN_app]
  simp only [feedN, h1, List.append_nil]
  rw [feedN_app, h2]
  simp [feedN, h3]
/-- What a name's bytes are not. -/
def plainB (c : UInt8) : Prop := c ≠ 60 ∧ c ≠ 62 ∧ c ≠ 61 ∧ c ≠ 34 ∧ c ≠ 39 ∧ c ≠ 47 ∧ bl c = false
set_option maxRecDepth 100000 in
theorem let_plain {b : UInt8} (h : isLet b = true ∨ isLat b = true) : plainB b := by
  have : ∀ n : Fin 256, (isLet (UInt8.ofNat n.val) = true ∨ isLat (UInt8.ofNat n.val) = true) → (UInt8.ofNat n.val ≠ 60 ∧ UInt8.ofNat n.val ≠ 62 ∧ UInt8.ofNat n.val ≠ 61 ∧ UInt8.ofNat n.val ≠ 34 ∧ UInt8.ofNat n.val ≠ 39 ∧ UInt8.ofNat n.val ≠ 47 ∧ bl (UInt8.ofNat n.val) = false) := by decide
  have h2 := this ⟨b.toNat, b.toNat_lt⟩
  simp only [UInt8.ofNat_toNat] at h2
  exact h2 h
theorem name_plain {l : List UInt8} (h : name l = true) : ∀ c ∈ l, plainB c := by
  simp [name] at h
  exact fun c hc => let_plain (name_mem h.2 c hc)
theorem name_ne {l : List UInt8} (h : name l = true) : l ≠ [] := by
  simp [name] at h
  intro e
  rw [e] at h
  simp at h
theorem nameB_len {l : List UInt8} (h : name l = true) : l.length ≤ 16 := by
  simp [name] at h
  omega
theorem un_esc (t : List UInt8) (h : right t = true) : un (esc t) = (t, 0) := by
  unfold un
  rw [if_pos (right_esc t h), unesc_esc]
theorem esc_nil {t : List UInt8} : (esc t).isEmpty = t.isEmpty := by
  cases t with
  | nil => rfl
  | cons a t =>
    have h := (esc_length (a :: t)).1
    cases hx : esc (a :: t) with
    | nil => rw [hx] at h; simp at h
    | cons b r => rfl
theorem text_esc (t : List UInt8) (h : right t = true) : textN (esc t) = (if t.isEmpty then [] else [⟨3, [], [], t⟩], 0) := by
  unfold textN
  rw [esc_nil, un_esc t h]
  cases t.isEmpty <;> simp
theorem takeWhile_all {p : UInt8 → Bool} : ∀ (a b : List UInt8), (∀ c ∈ a, p c = true) → (a ++ b).takeWhile p = a ++ b.takeWhile p
  | [], b, _ => rfl
  | c :: a, b, h => by
    have h1 := h c (by simp)
    have ih := takeWhile_all a b fun x hx => h x (by simp [hx])
    simp [h1, ih]
theorem dropWhile_all {p : UInt8 → Bool} : ∀ (a b : List UInt8), (∀ c ∈ a, p c = true) → (a ++ b).dropWhile p = b.dropWhile p
  | [], b, _ => rfl
  | c :: a, b, h => by
    have h1 := h c (by simp)
    have ih := dropWhile_all a b fun x hx => h x (by simp [hx])
    simp [h1, ih]
/-- An attribute as it is written is read. -/
theorem attr_one (p : List UInt8 × List UInt8) (r : List UInt8) (hn : name p.1 = true) (hv : right p.2 = true) : attrN (p.1 ++ [61, 34] ++ esc p.2 ++ [34] ++ r) = (p, r, 0) := by
  have e1 : p.1 ++ [61, 34] ++ esc p.2 ++ [34] ++ r = p.1 ++ (61 :: 34 :: (esc p.2 ++ (34 :: r))) := by simp
  have n1 : ∀ c ∈ p.1, (c != 61) = true := fun c hc => by simpa using (name_plain hn c hc).2.2.1
  have n2 : ∀ c ∈ esc p.2, (c != 34) = true := fun c hc => by simpa using (esc_mem p.2 c hc).2.2.1
  have a1 : cutA 61 (p.1 ++ (61 :: 34 :: (esc p.2 ++ (34 :: r)))) = p.1 := by
    unfold cutA
    rw [takeWhile_all _ _ n1]
    simp
  have a2 : cutZ 61 (p.1 ++ (61 :: 34 :: (esc p.2 ++ (34 :: r)))) = 34 :: (esc p.2 ++ (34 :: r)) := by
    unfold cutZ
    rw [dropWhile_all _ _ n1]
    simp
  have a3 : cutA 34 (esc p.2 ++ (34 :: r)) = esc p.2 := by
    unfold cutA
    rw [takeWhile_all _ _ n2]
    simp
  have a4 : cutZ 34 (esc p.2 ++ (34 :: r)) = r := by
    unfold cutZ
    rw [dropWhile_all _ _ n2]
    simp
  have a5 : cutB 34 (esc p.2 ++ (34 :: r)) = true := by simp [cutB]
  rw [e1]
  unfold attrN
  rw [a1, a2, if_pos hn]
  simp only [show quo 34 = true from rfl, if_true, a5, a3, a4, un_esc p.2 hv]
theorem attrT_eq (p : List UInt8 × List UInt8) (r : List UInt8) : attrT p ++ r = 32 :: (p.1 ++ [61, 34] ++ esc p.2 ++ [34] ++ r) := by simp [attrT]
/-- Attributes as they are written are read. -/
theorem attrs_all : ∀ (l acc : List (List UInt8 × List UInt8)) (kn : List (List UInt8)) (f : Nat), attrsOk kn l = true → (∀ n, acc.any (fun p => p.1 == n) = kn.contains n) → acc.length + l.length ≤ 6 → l.length < f → attrsN f acc (attrsT l) = (acc ++ l, 0)
  | [], acc, kn, 0, _, _, _, hf => by simp at hf
  | [], acc, kn, f + 1, _, _, _, _ => by simp [attrsN, attrsT, trimL]
  | p :: l, acc, kn, 0, _, _, _, hf => by simp at hf
  | p :: l, acc, kn, f + 1, hok, hkn, hlen, hf => by
    simp only [attrsOk, Bool.and_eq_true, Bool.not_eq_true'] at hok
    obtain ⟨⟨⟨h1, h2⟩, h3⟩, h4⟩ := hok
    have e : attrsT (p :: l) = 32 :: (p.1 ++ [61, 34] ++ esc p.2 ++ [34] ++ attrsT l) := by
      show attrT p ++ attrsT l = _
      exact attrT_eq p _
    obtain ⟨a, b, hab⟩ : ∃ a b, p.1 = a :: b := by
      cases hx : p.1 with
      | nil => exact absurd hx (name_ne h2)
      | cons a b => exact ⟨a, b, rfl⟩
    have hbl : bl a = false := (name_plain h2 a (by rw [hab]; simp)).2.2.2.2.2.2
    have ht : trimL (attrsT (p :: l)) = p.1 ++ [61, 34] ++ esc p.2 ++ [34] ++ attrsT l := by
      rw [e, trimL_cons_yes _ (by rfl)]
      have e2 : p.1 ++ [61, 34] ++ esc p.2 ++ [34] ++ attrsT l = a :: (b ++ [61, 34] ++ esc p.2 ++ [34] ++ attrsT l) := by rw [hab]; rfl
      rw [e2, trimL_cons_no _ hbl]
    have hne : ¬ (trimL (attrsT (p :: l))).length = (attrsT (p :: l)).length := by rw [ht, e]; simp
    have h6 : ¬ acc.length = 6 := by simp at hlen; omega
    have hem : (trimL (attrsT (p :: l))).isEmpty = false := by rw [ht, hab]; rfl
    have hk : known p.1 acc = false := by unfold known; rw [hkn]; exact h1
    have ih := attrs_all l (acc ++ [p]) (p.1 :: kn) f h4 (fun n => by
      rw [List.any_append, hkn n]
      simp only [List.any_cons, List.any_nil, Bool.or_false, List.contains_cons]
      rw [Bool.or_comm]
      congr 1
      exact Bool.beq_comm) (by simp at hlen ⊢; omega) (by simp at hf; omega)
    rw [attrsN, hem]
    simp only [Bool.false_eq_true, if_false]
    rw [if_neg (by rintro (h | h); exact hne h; exact h6 h), ht, attr_one p (attrsT l) h2 h3]
    simp only [if_true]
    rw [hk]
    simp only [Bool.false_eq_true, if_false]
    rw [ih]
    simp
theorem right_app {a b : List UInt8} (ha : right a = true) (hb : right b = true) : right (a ++ b) = true := by
  rw [right_iff] at *
  have h := (whole_app a b _ ha).1
  rw [List.drop_length, List.nil_append, hb] at h
  rw [h, List.length_append]
  simp
  omega
theorem right_attr (p : List UInt8 × List UInt8) (hn : name p.1 = true) (hv : right p.2 = true) : right (attrT p) = true := by
  unfold attrT
  exact right_app (right_app (right_app (right_app (by decide) (name_right p.1 hn).1) (by decide)) (right_esc p.2 hv)) (by decide)
theorem right_attrs : ∀ (l : List (List UInt8 × List UInt8)), (∀ p ∈ l, name p.1 = true ∧ right p.2 = true) → right (attrsT l) = true
  | [], _ => right_nil
  | p :: l, h => right_app (right_attr p (h p (by simp)).1 (h p (by simp)).2) (right_attrs l fun q hq => h q (by simp [hq]))
theorem noBl_name {nm : List UInt8} (h : name nm = true) (l : List (List UInt8 × List UInt8)) : noBl (nm ++ attrsT l) = nm := by
  unfold noBl
  rw [takeWhile_all _ _ fun c hc => by have := (name_plain h c hc).2.2.2.2.2.2; simp [this]]
  cases l with
  | nil => simp [attrsT]
  | cons p l =>
    have e : attrsT (p :: l) = 32 :: (p.1 ++ [61, 34] ++ esc p.2 ++ [34] ++ attrsT l) := attrT_eq p _
    rw [e]
    simp [show bl 32 = true from rfl]
theorem begin_ok {nm : List UInt8} {l : List (List UInt8 × List UInt8)} (h : name nm = true) (ha : rightA l = true) : beginN (nm ++ attrsT l) = (⟨1, nm, l, []⟩, 0) := by
  simp only [rightA, Bool.and_eq_true, decide_eq_true_eq] at ha
  have hd : (nm ++ attrsT l).drop nm.length = attrsT l := by simp
  have hlen : ∀ (l : List (List UInt8 × List UInt8)), l.length ≤ (attrsT l).length := by
    intro l
    induction l with
    | nil => simp
    | cons p l ih =>
      have e : attrsT (p :: l) = 32 :: (p.1 ++ [61, 34] ++ esc p.2 ++ [34] ++ attrsT l) := attrT_eq p _
      rw [e]
      simp
      omega
  have hA := attrs_all l [] [] ((nm ++ attrsT l).length + 1) ha.2 (fun n => by simp) (by simpa using ha.1) (by have := hlen l; simp; omega)
  unfold beginN
  rw [noBl_name h, if_pos h, hd, hA]
  simp
theorem last_plain (nm : List UInt8) (h : name nm = true) : nm.getLast? ≠ some 47 := fun e => by
  have hm := List.mem_of_getLast? e
  exact (name_plain h 47 hm).2.2.2.2.2.1 rfl
theorem attrs_last : ∀ (l : List (List UInt8 × List UInt8)) (nm : List UInt8), name nm = true → (nm ++ attrsT l).getLast? ≠ some 47
  | [], nm, h => by simpa [attrsT] using last_plain nm h
  | p :: l, nm, h => by
    have hx : ∀ (l : List (List UInt8 × List UInt8)), l ≠ [] → (attrsT l).getLast? = some 34 := by
      intro l
      induction l with
      | nil => intro e; exact absurd rfl e
      | cons q r ih =>
        intro _
        cases r with
        | nil =>
          have e : attrsT [q] = ([32] ++ q.1 ++ [61, 34] ++ esc q.2) ++ [34] := by simp [attrsT, attrT]
          rw [e, List.getLast?_append]
          rfl
        | cons q2 r2 =>
          have := ih (by simp)
          show (attrT q ++ attrsT (q2 :: r2)).getLast? = _
          rw [List.getLast?_append, this]
          rfl
    rw [List.getLast?_append, hx (p :: l) (by simp)]
    simp
theorem noSuffix {l : List UInt8} (h : l.getLast? ≠ some 47) : Lib.hasSuffix l [47] = false := by
  cases hs : Lib.hasSuffix l [47] with
  | false => rfl
  | true =>
    unfold Lib.hasSuffix at hs
    obtain ⟨t, rfl⟩ := List.isSuffixOf_iff_suffix.1 hs
    exact absurd (by rw [List.getLast?_append]; rfl) h
theorem noPrefix {nm r : List UInt8} (h : name nm = true) : Lib.hasPrefix (nm ++ r) [47] = false := by
  obtain ⟨a, b, hab⟩ : ∃ a b, nm = a :: b := by
    cases hx : nm with
    | nil => exact absurd hx (name_ne h)
    | cons a b => exact ⟨a, b, rfl⟩
  have ha : a ≠ 47 := (name_plain h a (by rw [hab]; simp)).2.2.2.2.2.1
  subst hab
  unfold Lib.hasPrefix
  have hb : ((47 : UInt8) == a) = false := by simpa using Ne.symm ha
  show ((47 : UInt8) == a && List.isPrefixOf [] (b ++ r)) = false
  rw [hb]
  rfl
theorem rightA_all {l : List (List UInt8 × List UInt8)} (h : rightA l = true) : ∀ p ∈ l, name p.1 = true ∧ right p.2 = true := by
  simp only [rightA, Bool.and_eq_true] at h
  exact attrsOk_all l [] h.2
theorem tag_begin {nm : List UInt8} {l : List (List UInt8 × List UInt8)} (h : name nm = true) (ha : rightA l = true) : tagN (nm ++ attrsT l) = ([⟨1, nm, l, []⟩], 0) := by
  unfold tagN
  rw [if_pos (right_app (name_right nm h).1 (right_attrs l (rightA_all ha))), noPrefix h, noSuffix (attrs_last l nm h)]
  simp only [Bool.false_eq_true, if_false]
  unfold Lib.trimSuffix bareN
  rw [noSuffix (attrs_last l nm h)]
  simp only [Bool.false_eq_true, if_false]
  rw [begin_ok h ha]
  simp
theorem tag_both {nm : List UInt8} {l : List (List UInt8 × List UInt8)} (h : name nm = true) (ha : rightA l = true) : tagN (nm ++ attrsT l ++ [47]) = ([⟨1, nm, l, []⟩, ⟨2, nm, [], []⟩], 0) := by
  have hs : Lib.hasSuffix (nm ++ attrsT l ++ [47]) [47] = true := by
    unfold Lib.hasSuffix
    exact List.isSuffixOf_iff_suffix.2 ⟨_, rfl⟩
  unfold tagN
  rw [if_pos (right_app (right_app (name_right nm h).1 (right_attrs l (rightA_all ha))) (by decide)), hs, List.append_assoc, noPrefix h, ← List.append_assoc]
  simp only [Bool.false_eq_true, if_false, if_true]
  unfold Lib.trimSuffix bothN
  rw [hs]
  simp only [if_true]
  have e : (nm ++ attrsT l ++ [47]).take ((nm ++ attrsT l ++ [47]).length - ([47] : List UInt8).length) = nm ++ attrsT l := by
    rw [List.length_append, Nat.add_sub_cancel]
    exact List.take_left
  rw [e, begin_ok h ha]
  simp
theorem trimR_name {nm : List UInt8} (h : name nm = true) : trimR nm = nm := by
  obtain ⟨a, b, hab⟩ : ∃ a b, nm = a ++ [b] := ⟨_, _, (List.dropLast_concat_getLast (name_ne h)).symm⟩
  rw [hab]
  exact trimR_snoc_no a (name_plain h b (by rw [hab]; simp)).2.2.2.2.2.2
theorem tag_end {nm : List UInt8} (h : name nm = true) : tagN ([47] ++ nm) = ([⟨2, nm, [], []⟩], 0) := by
  have hp : Lib.hasPrefix ([47] ++ nm) [47] = true := by
    unfold Lib.hasPrefix
    simp
  unfold tagN
  rw [if_pos (right_app (by decide) (name_right nm h).1), hp]
  simp only [if_true]
  unfold Lib.trimPrefix endN
  rw [hp]
  simp only [if_true]
  have e : ([47] ++ nm).drop ([47] : List UInt8).length = nm := rfl
  rw [e, trimR_name h, if_pos h]
theorem attrs_bytes {l : List (List UInt8 × List UInt8)} (h : ∀ p ∈ l, name p.1 = true) : ∀ c ∈ attrsT l, c ≠ 60 ∧ c ≠ 62 := by
  intro c hc
  obtain ⟨p, hp, hc⟩ := List.mem_flatMap.1 hc
  unfold attrT at hc
  simp only [List.mem_append, List.mem_cons, List.not_mem_nil, or_false] at hc
  rcases hc with (((rfl | hc) | rfl | rfl) | hc) | rfl
  · decide
  · exact ⟨(name_plain (h p hp) c hc).1, (name_plain (h p hp) c hc).2.1⟩
  · decide
  · decide
  · exact ⟨(esc_mem p.2 c hc).1, (esc_mem p.2 c hc).2.1⟩
  · decide
/-- The tokens of an element. -/
def toksE : Nat → El → List Tok
  | 0, _ => []
  | d + 1, e => ⟨1, e.nm, e.attrs, []⟩ :: ((if e.text.isEmpty then [] else [⟨3, [], [], e.text⟩]) ++ e.kids.flatMap (toksE d) ++ [⟨2, e.nm, [], []⟩])
/-- Its tags and texts are short, so deep. -/
def shortE : Nat → El → Prop
  | 0, _ => True
  | d + 1, e => e.nm.length + (attrsT e.attrs).length + 1 ≤ 512 ∧ (esc e.text).length ≤ 512 ∧ ∀ k ∈ e.kids, shortE d k
theorem textN_nil : textN [] = ([], 0) := rfl
theorem feed_kids {d : Nat} (ih : ∀ (e : El) (h : List UInt8) (ts : List Tok), rightE d e = true → shortE d e → textN h = (ts, 0) → feedN ⟨h, false, 0⟩ (textE d e) = (⟨[], false, 0⟩, ts ++ toksE d e)) :
    ∀ (l : List El) (h : List UInt8) (ts : List Tok) (nm : List UInt8), (∀ k ∈ l, rightE d k = true) → (∀ k ∈ l, shortE d k) → name nm = true → textN h = (ts, 0) → feedN ⟨h, false, 0⟩ (l.flatMap (textE d) ++ ([60, 47] ++ nm ++ [62])) = (⟨[], false, 0⟩, ts ++ l.flatMap (toksE d) ++ [⟨2, nm, [], []⟩])
  | [], h, ts, nm, _, _, hn, hh => by
    have e : ([60, 47] ++ nm ++ [62] : List UInt8) = [60] ++ ([47] ++ nm) ++ [62] := rfl
    rw [List.flatMap_nil, List.nil_append, e, feed_whole h ([47] ++ nm) ts [⟨2, nm, [], []⟩] hh (tag_end hn) (fun c hc => by
      rcases List.mem_append.1 hc with hc | hc
      · simp at hc; subst hc; decide
      · exact ⟨(name_plain hn c hc).1, (name_plain hn c hc).2.1⟩) (by have := nameB_len hn; simp; omega)]
    simp
  | k :: l, h, ts, nm, hr, hs, hn, hh => by
    have h1 := ih k h ts (hr k (by simp)) (hs k (by simp)) hh
    have h2 := feed_kids ih l [] [] nm (fun q hq => hr q (by simp [hq])) (fun q hq => hs q (by simp [hq])) hn textN_nil
    rw [List.flatMap_cons, List.append_assoc, feedN_app, h1, h2]
    simp
/-- What is written of an element is read as its tokens. -/
theorem feed_elem : ∀ (d : Nat) (e : El) (h : List UInt8) (ts : List Tok), rightE d e = true → shortE d e → textN h = (ts, 0) → feedN ⟨h, false, 0⟩ (textE d e) = (⟨[], false, 0⟩, ts ++ toksE d e)
  | 0, _, _, _, hr, _, _ => by cases hr
  | d + 1, e, h, ts, hr, hs, hh => by
    simp only [rightE, Bool.and_eq_true, decide_eq_true_eq] at hr
    obtain ⟨hk, hn, ha, ht, hkids⟩ := hr
    obtain ⟨s1, s2, s3⟩ := hs
    have hb : ∀ c ∈ e.nm ++ attrsT e.attrs, c ≠ 60 ∧ c ≠ 62 := fun c hc => by
      rcases List.mem_append.1 hc with hc | hc
      · exact ⟨(name_plain hn c hc).1, (name_plain hn c hc).2.1⟩
      · exact attrs_bytes (fun p hp => (rightA_all ha p hp).1) c hc
    unfold textE
    by_cases hem : (e.text.isEmpty && e.kids.isEmpty) = true
    · rw [if_pos hem]
      simp only [Bool.and_eq_true, List.isEmpty_iff] at hem
      have e1 : ([60] ++ e.nm ++ attrsT e.attrs) ++ [47, 62] = [60] ++ (e.nm ++ attrsT e.attrs ++ [47]) ++ [62] := by simp
      rw [e1, feed_whole h _ ts _ hh (tag_both hn ha) (fun c hc => by
        rcases List.mem_append.1 hc with hc | hc
        · exact hb c hc
        · simp at hc; subst hc; decide) (by simp; omega)]
      simp [toksE, hem.1, hem.2]
    · rw [if_neg hem]
      have e1 : ([60] ++ e.nm ++ attrsT e.attrs) ++ (([62] ++ esc e.text) ++ (e.kids.flatMap (textE d) ++ ([60, 47] ++ e.nm ++ [62]))) = ([60] ++ (e.nm ++ attrsT e.attrs) ++ [62]) ++ (esc e.text ++ (e.kids.flatMap (textE d) ++ ([60, 47] ++ e.nm ++ [62]))) := by simp
      rw [e1, feedN_app, feed_whole h _ ts _ hh (tag_begin hn ha) hb (by simp; omega), feedN_app, feed_text (esc e.text) [] (fun c hc => (esc_mem e.text c hc).1) (by simpa using s2)]
      have hk2 := feed_kids (feed_elem d) e.kids (esc e.text) _ e.nm (fun k hk => List.all_eq_true.1 hkids k hk) s3 hn (text_esc e.text ht)
      simp only [List.nil_append]
      rw [hk2]
      simp [toksE]
end Go.Proofs.YthekdgnikkjpdaaDoor
/-
  Plain mathematics, of no program: a builder that takes an element's tokens makes that element.
-/
namespace Go.Proofs.YthekdgnikkjpdaaDoor
open Go Go.RowKit
theorem runB_app : ∀ (a b : List Tok) (S S' : Bs) (evs : List (Int × El)), runB S a = (S', evs, 0) → runB S (a ++ b) = ((runB S' b).1, evs ++ (runB S' b).2.1, (runB S' b).2.2)
  | [], b, S, S', evs, h => by
    simp only [runB, Prod.mk.injEq] at h
    obtain ⟨rfl, rfl, _⟩ := h
    simp
  | t :: a, b, S, S', evs, h => by
    unfold runB at h
    by_cases h0 : (takeN S t).2.2 = 0
    · rw [if_pos h0] at h
      simp only [Prod.mk.injEq] at h
      obtain ⟨h1, h2, h3⟩ := h
      have ih := runB_app a b (takeN S t).1 S' (runB (takeN S t).1 a).2.1 (by rw [← h1, ← h3])
      rw [List.cons_append]
      conv => lhs; unfold runB
      rw [if_pos h0, ih, ← h2]
      simp
    · rw [if_neg h0] at h
      simp only [Prod.mk.injEq] at h
      exact absurd h.2.2 h0
theorem runB_one (S S' : Bs) (t : Tok) (ev : Option (Int × El)) (h : takeN S t = (S', ev, 0)) : runB S [t] = (S', ev.toList, 0) := by simp [runB, h]
theorem take_begin {st : List UInt8} {l : List El} {k : Int} {t : Tok} (hk : t.kind = 1) (hl : l ≠ []) (h64 : k ≠ 64) (h4 : l.length ≠ 4) (h16 : (lastE l).kids.length ≠ 16) : takeN ⟨1, st, l, k, 0⟩ t = (⟨1, st, l ++ [elOf t], k + 1, 0⟩, none, 0) := by
  have he : l.isEmpty = false := by cases l with | nil => exact absurd rfl hl | cons a b => rfl
  simp [takeN, faultN, addN, hk, hl, h64, h4, h16, he]
theorem take_item {st : List UInt8} {k : Int} {t : Tok} (hk : t.kind = 1) : takeN ⟨1, st, [], k, 0⟩ t = (⟨1, st, [elOf t], 1, 0⟩, none, 0) := by
  simp [takeN, faultN, addN, hk]
theorem take_text {st : List UInt8} {l : List El} {k : Int} {t : Tok} (hk : t.kind = 3) (hl : l ≠ []) (h64 : k ≠ 64) : takeN ⟨1, st, l, k, 0⟩ t = (⟨1, st, l.dropLast ++ [(lastE l).say t.text], k + 1, 0⟩, none, 0) := by
  have he : l.isEmpty = false := by cases l with | nil => exact absurd rfl hl | cons a b => rfl
  simp [takeN, faultN, addN, hk, hl, h64, he]
theorem take_end {st : List UInt8} {l : List El} {k : Int} {t : Tok} (hk : t.kind = 2) (hl : l ≠ []) (h64 : k ≠ 64) (hn : t.nm = (lastE l).nm) : takeN ⟨1, st, l, k, 0⟩ t = (⟨1, st, (shutN l).1, k + 1, 0⟩, (shutN l).2.map fun e => (2, e), 0) := by
  have he : l.isEmpty = false := by cases l with | nil => exact absurd rfl hl | cons a b => rfl
  simp [takeN, faultN, addN, innerN, hk, hl, h64, he, hn]
theorem el_eta (e : El) : (⟨e.nm, e.attrs, e.text, e.kids⟩ : El) = e := by cases e; rfl
theorem last_snoc (l : List El) (e : El) : lastE (l ++ [e]) = e := by simp [lastE]
theorem toks_pos (d : Nat) (e : El) (h : rightE d e = true) : 2 ≤ (toksE d e).length := by
  cases d with
  | zero => cases h
  | succ d =>
    simp only [toksE, List.length_cons, List.length_append, List.length_nil]
    omega
theorem kids_run {d : Nat} {st : List UInt8} (ih : ∀ (e : El) (l : List El) (k : Int), rightE d e = true → l ≠ [] → l.length + d ≤ 4 → (lastE l).kids.length < 16 → 0 ≤ k → k + (toksE d e).length ≤ 64 → runB ⟨1, st, l, k, 0⟩ (toksE d e) = (⟨1, st, l.dropLast ++ [(lastE l).put e], k + (toksE d e).length, 0⟩, [], 0)) :
    ∀ (ks : List El) (l : List El) (x : El) (k : Int), (∀ e ∈ ks, rightE d e = true) → l.length + 1 + d ≤ 4 → x.kids.length + ks.length ≤ 16 → 0 ≤ k → k + (ks.flatMap (toksE d)).length ≤ 64 → runB ⟨1, st, l ++ [x], k, 0⟩ (ks.flatMap (toksE d)) = (⟨1, st, l ++ [⟨x.nm, x.attrs, x.text, x.kids ++ ks⟩], k + (ks.flatMap (toksE d)).length, 0⟩, [], 0)
  | [], l, x, k, _, _, _, _, _ => by
    simp only [List.flatMap_nil, runB, List.append_nil, List.length_nil, Prod.mk.injEq, and_true, Bs.mk.injEq, true_and]
    exact ⟨by rw [el_eta], (Int.add_zero k).symm⟩
  | e :: ks, l, x, k, hr, hd, h16, hk, h64 => by
    simp only [List.flatMap_cons, List.length_append, List.length_cons] at h64 h16 ⊢
    have h1 := ih e (l ++ [x]) k (hr e (by simp)) (by simp) (by simp; omega) (by rw [last_snoc]; omega) hk (by omega)
    rw [last_snoc, List.dropLast_concat] at h1
    have h2 := kids_run ih ks l (x.put e) (k + (toksE d e).length) (fun q hq => hr q (by simp [hq])) hd (by show (x.kids ++ [e]).length + ks.length ≤ 16; simp; omega) (by omega) (by omega)
    rw [runB_app _ _ _ _ _ h1, h2]
    simp only [El.put, List.append_assoc, List.singleton_append, List.nil_append, Prod.mk.injEq, and_true, Bs.mk.injEq, true_and]
    push_cast
    omega
/-- Behind the begin of an element: its text and its kids. -/
theorem body_run {d : Nat} {st : List UInt8} (ih : ∀ (e : El) (l : List El) (k : Int), rightE d e = true → l ≠ [] → l.length + d ≤ 4 → (lastE l).kids.length < 16 → 0 ≤ k → k + (toksE d e).length ≤ 64 → runB ⟨1, st, l, k, 0⟩ (toksE d e) = (⟨1, st, l.dropLast ++ [(lastE l).put e], k + (toksE d e).length, 0⟩, [], 0))
    (e : El) (l : List El) (k : Int) (hr : rightE (d + 1) e = true) (hd : l.length + 1 + d ≤ 4) (hk : 0 ≤ k) (h64 : k + ((if e.text.isEmpty then [] else [(⟨3, [], [], e.text⟩ : Tok)]) ++ e.kids.flatMap (toksE d)).length ≤ 64) :
    runB ⟨1, st, l ++ [⟨e.nm, e.attrs, [], []⟩], k, 0⟩ ((if e.text.isEmpty then [] else [(⟨3, [], [], e.text⟩ : Tok)]) ++ e.kids.flatMap (toksE d)) = (⟨1, st, l ++ [e], k + ((if e.text.isEmpty then [] else [(⟨3, [], [], e.text⟩ : Tok)]) ++ e.kids.flatMap (toksE d)).length, 0⟩, [], 0) := by
  simp only [rightE, Bool.and_eq_true, decide_eq_true_eq] at hr
  obtain ⟨hkl, _, _, _, hkids⟩ := hr
  have hka : ∀ q ∈ e.kids, rightE d q = true := fun q hq => List.all_eq_true.1 hkids q hq
  cases ht : e.text with
  | nil =>
    simp only [ht, List.isEmpty_nil, if_true, List.nil_append] at h64 ⊢
    have h := kids_run (st := st) ih e.kids l ⟨e.nm, e.attrs, [], []⟩ k hka hd (by simpa using hkl) hk h64
    rw [h]
    simp only [List.nil_append]
    rw [← ht, el_eta]
  | cons a r =>
    simp only [ht, List.isEmpty_cons, Bool.false_eq_true, if_false, List.length_append, List.length_cons, List.length_nil] at h64 ⊢
    have h1 : takeN ⟨1, st, l ++ [⟨e.nm, e.attrs, [], []⟩], k, 0⟩ ⟨3, [], [], a :: r⟩ = (⟨1, st, l ++ [⟨e.nm, e.attrs, a :: r, []⟩], k + 1, 0⟩, none, 0) := by
      rw [take_text rfl (by simp) (by omega), last_snoc, List.dropLast_concat]
      rfl
    have h := kids_run (st := st) ih e.kids l ⟨e.nm, e.attrs, a :: r, []⟩ (k + 1) hka hd (by simpa using hkl) (by omega) (by omega)
    rw [runB_app _ _ _ _ _ (runB_one _ _ _ _ h1), h]
    simp only [List.nil_append, Option.toList_none, Prod.mk.injEq, and_true, Bs.mk.injEq, true_and]
    refine ⟨by rw [← ht, el_eta], ?_⟩
    push_cast
    omega
theorem elem_run {st : List UInt8} : ∀ (d : Nat) (e : El) (l : List El) (k : Int), rightE d e = true → l ≠ [] → l.length + d ≤ 4 → (lastE l).kids.length < 16 → 0 ≤ k → k + (toksE d e).length ≤ 64 → runB ⟨1, st, l, k, 0⟩ (toksE d e) = (⟨1, st, l.dropLast ++ [(lastE l).put e], k + (toksE d e).length, 0⟩, [], 0)
  | 0, _, _, _, h, _, _, _, _, _ => by cases h
  | d + 1, e, l, k, hr, hl, hd, h16, hk, h64 => by
    have hb := take_begin (st := st) (l := l) (k := k) (t := ⟨1, e.nm, e.attrs, []⟩) rfl hl (by have := toks_pos (d + 1) e hr; omega) (by omega) (by omega)
    simp only [toksE, List.length_cons, List.length_append, List.length_nil] at h64 ⊢
    have hm := body_run (st := st) (elem_run d) e l (k + 1) hr (by omega) (by omega) (by simp only [List.length_append]; omega)
    have hlen : 2 ≤ (l ++ [e]).length := by have := List.length_pos_iff.2 hl; simp; omega
    have hs : shutN (l ++ [e]) = (l.dropLast ++ [(lastE l).put e], none) := by
      unfold shutN
      rw [if_neg (by omega), List.dropLast_concat, last_snoc]
    have he := take_end (st := st) (l := l ++ [e]) (k := k + 1 + ((if e.text.isEmpty then [] else [(⟨3, [], [], e.text⟩ : Tok)]) ++ e.kids.flatMap (toksE d)).length) (t := ⟨2, e.nm, [], []⟩) rfl (by simp) (by simp only [List.length_append]; omega) (by rw [last_snoc])
    rw [hs] at he
    have e1 : (⟨1, e.nm, e.attrs, []⟩ : Tok) :: ((if e.text.isEmpty then [] else [⟨3, [], [], e.text⟩]) ++ e.kids.flatMap (toksE d) ++ [⟨2, e.nm, [], []⟩]) = [⟨1, e.nm, e.attrs, []⟩] ++ (((if e.text.isEmpty then [] else [⟨3, [], [], e.text⟩]) ++ e.kids.flatMap (toksE d)) ++ [⟨2, e.nm, [], []⟩]) := rfl
    rw [e1, runB_app _ _ _ _ _ (runB_one _ _ _ _ hb)]
    have hm' : runB ⟨1, st, l ++ [elOf ⟨1, e.nm, e.attrs, []⟩], k + 1, 0⟩ _ = _ := hm
    rw [runB_app _ _ _ _ _ hm', runB_one _ _ _ _ he]
    simp only [Option.toList_none, List.append_nil, Option.map_none, Prod.mk.injEq, and_true, Bs.mk.injEq, true_and, List.length_append]
    push_cast
    omega
/-- An item, whole. -/
theorem item_run {st : List UInt8} (e : El) (k : Int) (hr : rightE 4 e = true) (h64 : (toksE 4 e).length ≤ 64) : ∃ k', runB ⟨1, st, [], k, 0⟩ (toksE 4 e) = (⟨1, st, [], k', 0⟩, [(2, e)], 0) := by
  have hb := take_item (st := st) (k := k) (t := ⟨1, e.nm, e.attrs, []⟩) rfl
  have e1 : toksE 4 e = [⟨1, e.nm, e.attrs, []⟩] ++ (((if e.text.isEmpty then [] else [⟨3, [], [], e.text⟩]) ++ e.kids.flatMap (toksE 3)) ++ [⟨2, e.nm, [], []⟩]) := rfl
  rw [e1, List.length_append, List.length_append] at h64
  simp only [List.length_cons, List.length_nil] at h64
  have hm := body_run (d := 3) (st := st) (elem_run 3) e [] 1 hr (by simp) (by omega) (by omega)
  rw [List.nil_append, List.nil_append] at hm
  have he := take_end (st := st) (l := [e]) (k := 1 + ((if e.text.isEmpty then [] else [(⟨3, [], [], e.text⟩ : Tok)]) ++ e.kids.flatMap (toksE 3)).length) (t := ⟨2, e.nm, [], []⟩) rfl (by simp) (by omega) rfl
  refine ⟨1 + ((if e.text.isEmpty then [] else [(⟨3, [], [], e.text⟩ : Tok)]) ++ e.kids.flatMap (toksE 3)).length + 1, ?_⟩
  rw [e1, runB_app _ _ _ _ _ (runB_one _ _ _ _ hb)]
  have hm' : runB ⟨1, st, [elOf ⟨1, e.nm, e.attrs, []⟩], 1, 0⟩ _ = _ := hm
  rw [runB_app _ _ _ _ _ hm', runB_one _ _ _ _ he]
  rfl
end Go.Proofs.YthekdgnikkjpdaaDoor
/-
  Plain mathematics, of no program: a stream of items, as it is written, is read; and what is short.
-/
namespace Go.Proofs.YthekdgnikkjpdaaDoor
open Go Go.RowKit
/-- Items, each with two blanks behind it. -/
def itemsT (es : List El) : List UInt8 := es.flatMap fun e => textE 4 e ++ [32, 10]
def itemsK : List El → List Tok
  | [] => []
  | e :: es => toksE 4 e ++ (⟨3, [], [], [32, 10]⟩ :: itemsK es)
theorem name_s : name [115] = true := by decide
theorem text_bl : textN [32, 10] = ([⟨3, [], [], [32, 10]⟩], 0) := by
  have h := text_esc [32, 10] (by decide)
  rw [show esc [32, 10] = [32, 10] from by decide] at h
  exact h
theorem feed_items : ∀ (es : List El) (h : List UInt8) (ts : List Tok), textN h = (ts, 0) → (∀ e ∈ es, rightE 4 e = true ∧ shortE 4 e) → feedN ⟨h, false, 0⟩ (itemsT es ++ [60, 47, 115, 62]) = (⟨[], false, 0⟩, ts ++ itemsK es ++ [⟨2, [115], [], []⟩])
  | [], h, ts, hh, _ => by
    have e : ([60, 47, 115, 62] : List UInt8) = [60] ++ ([47] ++ [115]) ++ [62] := rfl
    rw [show itemsT [] = [] from rfl, List.nil_append, e, feed_whole h ([47] ++ [115]) ts [⟨2, [115], [], []⟩] hh (tag_end name_s) (by decide) (by decide)]
    simp [itemsK]
  | e :: es, h, ts, hh, hr => by
    have h1 := feed_elem 4 e h ts (hr e (by simp)).1 (hr e (by simp)).2 hh
    have h2 := feed_text [32, 10] [] (by decide) (by decide)
    have h3 := feed_items es [32, 10] _ text_bl fun q hq => hr q (by simp [hq])
    have e1 : itemsT (e :: es) ++ [60, 47, 115, 62] = textE 4 e ++ ([32, 10] ++ (itemsT es ++ [60, 47, 115, 62])) := by
      show (textE 4 e ++ [32, 10] ++ itemsT es) ++ [60, 47, 115, 62] = _
      simp
    rw [e1, feedN_app, h1, feedN_app, h2]
    simp only [List.nil_append]
    rw [h3]
    simp [itemsK]
/-- The whole stream. -/
def streamT (es : List El) : List UInt8 := [60, 115, 62] ++ itemsT es ++ [60, 47, 115, 62]
def streamK (es : List El) : List Tok := ⟨1, [115], [], []⟩ :: (itemsK es ++ [⟨2, [115], [], []⟩])
theorem feed_stream (es : List El) (hr : ∀ e ∈ es, rightE 4 e = true ∧ shortE 4 e) : feedN st0 (streamT es) = (⟨[], false, 0⟩, streamK es) := by
  have h1 : feedN ⟨[], false, 0⟩ ([60] ++ [115] ++ [62]) = (⟨[], false, 0⟩, [⟨1, [115], [], []⟩]) := by
    have := feed_whole [] [115] [] [⟨1, [115], [], []⟩] textN_nil (by have := tag_begin (nm := [115]) (l := []) name_s (by decide); simpa [attrsT] using this) (by decide) (by decide)
    simpa using this
  have e1 : streamT es = ([60] ++ [115] ++ [62]) ++ (itemsT es ++ [60, 47, 115, 62]) := by simp [streamT]
  show feedN ⟨[], false, 0⟩ (streamT es) = _
  rw [e1, feedN_app, h1, feed_items es [] [] textN_nil hr]
  simp [streamK]
theorem run_items {st : List UInt8} : ∀ (es : List El) (k : Int), (∀ e ∈ es, rightE 4 e = true ∧ (toksE 4 e).length ≤ 64) → ∃ k', runB ⟨1, st, [], k, 0⟩ (itemsK es) = (⟨1, st, [], k', 0⟩, es.map fun e => (2, e), 0)
  | [], k, _ => ⟨k, rfl⟩
  | e :: es, k, h => by
    obtain ⟨k1, h1⟩ := item_run (st := st) e k (h e (by simp)).1 (h e (by simp)).2
    obtain ⟨k2, h2⟩ := run_items (st := st) es k1 fun q hq => h q (by simp [hq])
    have hb : takeN ⟨1, st, [], k1, 0⟩ ⟨3, [], [], [32, 10]⟩ = (⟨1, st, [], k1, 0⟩, none, 0) := by
      simp [takeN, faultN, addN, show blankT [32, 10] = true from by decide]
    refine ⟨k2, ?_⟩
    show runB _ (toksE 4 e ++ ([⟨3, [], [], [32, 10]⟩] ++ itemsK es)) = _
    rw [runB_app _ _ _ _ _ h1, runB_app _ _ _ _ _ (runB_one _ _ _ _ hb), h2]
    simp
theorem run_stream (es : List El) (h : ∀ e ∈ es, rightE 4 e = true ∧ (toksE 4 e).length ≤ 64) : ∃ S, runB bs0 (streamK es) = (S, (1, ⟨[115], [], [], []⟩) :: (es.map (fun e => (2, e)) ++ [(3, el0)]), 0) ∧ depthN S = 0 := by
  have hb : takeN bs0 ⟨1, [115], [], []⟩ = (⟨1, [115], [], 0, 0⟩, some (1, ⟨[115], [], [], []⟩), 0) := by
    simp [takeN, faultN, addN, bs0, elOf]
  obtain ⟨k2, h2⟩ := run_items (st := [115]) es 0 h
  have he : takeN ⟨1, [115], [], k2, 0⟩ ⟨2, [115], [], []⟩ = (⟨2, [], [], k2, 0⟩, some (3, el0), 0) := by
    simp [takeN, faultN, addN, innerN]
  refine ⟨⟨2, [], [], k2, 0⟩, ?_, by simp [depthN]⟩
  show runB bs0 ([⟨1, [115], [], []⟩] ++ (itemsK es ++ [⟨2, [115], [], []⟩])) = _
  rw [runB_app _ _ _ _ _ (runB_one _ _ _ _ hb), runB_app _ _ _ _ _ h2, runB_one _ _ _ _ he]
  simp
/-- How the statements count what is short: attributes, and texts. -/
def attrsC (l : List (List UInt8 × List UInt8)) : Nat := (l.map fun p => 6 * p.2.length + 20).sum
def shortB : Nat → El → Bool
  | 0, _ => true
  | d + 1, e => decide (attrsC e.attrs ≤ 400) && (decide (e.text.length ≤ 80) && e.kids.all (shortB d))
theorem attrs_cnt : ∀ (l : List (List UInt8 × List UInt8)), (∀ p ∈ l, name p.1 = true) → (attrsT l).length ≤ attrsC l
  | [], _ => by simp [attrsT, attrsC]
  | p :: l, h => by
    have ih := attrs_cnt l fun q hq => h q (by simp [hq])
    have h1 := nameB_len (h p (by simp))
    have h2 := (esc_length p.2).2
    show (attrT p ++ attrsT l).length ≤ 6 * p.2.length + 20 + attrsC l
    rw [List.length_append]
    have : (attrT p).length = 1 + p.1.length + 2 + (esc p.2).length + 1 := by simp [attrT]; omega
    omega
theorem short_of : ∀ (d : Nat) (e : El), rightE d e = true → shortB d e = true → shortE d e
  | 0, _, _, _ => trivial
  | d + 1, e, hr, hs => by
    simp only [rightE, Bool.and_eq_true, decide_eq_true_eq] at hr
    obtain ⟨_, hn, ha, _, hkids⟩ := hr
    simp only [shortB, Bool.and_eq_true, decide_eq_true_eq] at hs
    obtain ⟨s1, s2, s3⟩ := hs
    have h1 := attrs_cnt e.attrs fun p hp => (rightA_all ha p hp).1
    have h2 := nameB_len hn
    have h3 := (esc_length e.text).2
    exact ⟨by omega, by omega, fun k hk => short_of d k (List.all_eq_true.1 hkids k hk) (List.all_eq_true.1 s3 k hk)⟩
/-- How many tokens. -/
def toksC : Nat → El → Nat
  | 0, _ => 0
  | d + 1, e => 2 + (if e.text.isEmpty then 0 else 1) + (e.kids.map (toksC d)).sum
theorem toks_cnt : ∀ (d : Nat) (e : El), (toksE d e).length = toksC d e
  | 0, _ => rfl
  | d + 1, e => by
    have : ∀ l : List El, (l.flatMap (toksE d)).length = (l.map (toksC d)).sum := by
      intro l
      induction l with
      | nil => rfl
      | cons k l ih => rw [List.flatMap_cons, List.length_append, toks_cnt d k, ih]; rfl
    simp only [toksE, toksC, List.length_cons, List.length_append, List.length_nil, this]
    cases e.text.isEmpty <;> simp <;> omega
end Go.Proofs.YthekdgnikkjpdaaDoor
/-
  Plain mathematics, of no program: how long a stream of short items is, and what its tokens hold.
-/
namespace Go.Proofs.YthekdgnikkjpdaaDoor
open Go Go.RowKit
theorem flat_short {d : Nat} : ∀ (l : List El), (∀ k ∈ l, (textE d k).length ≤ 1200 * toksC d k) → (l.flatMap (textE d)).length ≤ 1200 * (l.map (toksC d)).sum
  | [], _ => by simp
  | k :: l, h => by
    have ih := flat_short l fun q hq => h q (by simp [hq])
    have h1 := h k (by simp)
    rw [List.flatMap_cons, List.length_append, List.map_cons, List.sum_cons, Nat.mul_add]
    omega
theorem textE_short : ∀ (d : Nat) (e : El), rightE d e = true → shortE d e → (textE d e).length ≤ 1200 * toksC d e
  | 0, _, h, _ => by cases h
  | d + 1, e, hr, hs => by
    simp only [rightE, Bool.and_eq_true, decide_eq_true_eq] at hr
    obtain ⟨_, hn, _, _, hkids⟩ := hr
    obtain ⟨s1, s2, s3⟩ := hs
    have h2 := nameB_len hn
    have h3 := flat_short (d := d) e.kids fun k hk => textE_short d k (List.all_eq_true.1 hkids k hk) (s3 k hk)
    unfold textE toksC
    rw [List.length_append]
    have h4 : ([60] ++ e.nm ++ attrsT e.attrs).length = 1 + e.nm.length + (attrsT e.attrs).length := by simp; omega
    rw [h4, Nat.mul_add, Nat.mul_add]
    split
    · simp only [List.length_cons, List.length_nil]
      omega
    · rw [List.length_append, List.length_append, List.length_append]
      have h5 : ([60, 47] ++ e.nm ++ [62] : List UInt8).length = 3 + e.nm.length := by simp; omega
      rw [h5]
      simp only [List.length_cons, List.length_nil]
      omega
theorem toks_small : ∀ (d : Nat) (e : El), rightE d e = true → shortB d e = true → ∀ t ∈ toksE d e, t.attrs.length ≤ 1000 ∧ t.text.length ≤ 2000000
  | 0, _, h, _ => by cases h
  | d + 1, e, hr, hs => by
    simp only [rightE, Bool.and_eq_true, decide_eq_true_eq] at hr
    obtain ⟨_, _, ha, _, hkids⟩ := hr
    simp only [rightA, Bool.and_eq_true, decide_eq_true_eq] at ha
    simp only [shortB, Bool.and_eq_true, decide_eq_true_eq] at hs
    obtain ⟨_, s2, s3⟩ := hs
    intro t ht
    simp only [toksE, List.mem_cons, List.mem_append, List.mem_flatMap, List.not_mem_nil, or_false] at ht
    rcases ht with rfl | (ht | ⟨k, hk, ht⟩) | rfl
    · exact ⟨by have := ha.1; show e.attrs.length ≤ 1000; omega, by simp⟩
    · split at ht
      · simp at ht
      · rw [List.mem_singleton] at ht
        subst ht
        exact ⟨by simp, by show e.text.length ≤ _; omega⟩
    · exact toks_small d k (List.all_eq_true.1 hkids k hk) (List.all_eq_true.1 s3 k hk) t ht
    · exact ⟨by simp, by simp⟩
theorem items_small : ∀ (es : List El), (∀ e ∈ es, rightE 4 e = true ∧ shortB 4 e = true ∧ toksC 4 e ≤ 64) → (∀ t ∈ itemsK es, t.attrs.length ≤ 1000 ∧ t.text.length ≤ 2000000) ∧ (itemsK es).length ≤ es.length * 65 ∧ (itemsT es).length ≤ es.length * 76802
  | [], _ => ⟨fun t ht => by simp [itemsK] at ht, by simp [itemsK], by simp [itemsT]⟩
  | e :: es, h => by
    obtain ⟨i1, i2, i3⟩ := items_small es fun q hq => h q (by simp [hq])
    obtain ⟨h1, h2, h3⟩ := h e (by simp)
    have h4 := textE_short 4 e h1 (short_of 4 e h1 h2)
    refine ⟨fun t ht => ?_, ?_, ?_⟩
    · simp only [itemsK, List.mem_append, List.mem_cons] at ht
      rcases ht with ht | rfl | ht
      · exact toks_small 4 e h1 h2 t ht
      · exact ⟨by simp, by simp⟩
      · exact i1 t ht
    · show (toksE 4 e ++ (_ :: itemsK es)).length ≤ _
      rw [List.length_append, List.length_cons, List.length_cons, toks_cnt, Nat.add_mul]
      omega
    · have e1 : itemsT (e :: es) = textE 4 e ++ [32, 10] ++ itemsT es := rfl
      rw [e1, List.length_append, List.length_append]
      simp only [List.length_cons, List.length_nil, Nat.add_mul]
      omega
end Go.Proofs.YthekdgnikkjpdaaDoor
