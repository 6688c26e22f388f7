/-
  Plain Lean, no program in it: the sign at the head of a list of bytes, how many bytes of a list are whole signs, what stands for the five signs and back, which lists are names; and the laws on them that stage 1's statements say.
-/
import GoSem.Core.Utf8
import Derived.Lib.RuneBytes
import Derived.Lib.Strings
namespace Go.Proofs.YthekdgnikkjpdaaGreatDoor

/-- A byte that goes on with a sign. -/
def cont (b : UInt8) : Bool := decide (128 ≤ b.toNat ∧ b.toNat < 192)
def ok3 (a : Nat) (b : UInt8) : Bool := decide (128 ≤ b.toNat ∧ b.toNat < 192 ∧ (a = 0 → 160 ≤ b.toNat) ∧ (a = 13 → b.toNat < 160))
def ok4 (a : Nat) (b : UInt8) : Bool := decide (128 ≤ b.toNat ∧ b.toNat < 192 ∧ (a = 0 → 144 ≤ b.toNat) ∧ (a = 4 → b.toNat < 144))
def sg2 (a : Nat) : List UInt8 → Nat × Int
  | [] => (0, -1)
  | b :: _ => if cont b then (a * 64 + (b.toNat - 128), 2) else (0, 0)
def sg3b (x : Nat) : List UInt8 → Nat × Int
  | [] => (0, -1)
  | c :: _ => if cont c then (x * 64 + (c.toNat - 128), 3) else (0, 0)
def sg3 (a : Nat) : List UInt8 → Nat × Int
  | [] => (0, -1)
  | b :: t => if ok3 a b then sg3b (a * 64 + (b.toNat - 128)) t else (0, 0)
def sg4c (x : Nat) : List UInt8 → Nat × Int
  | [] => (0, -1)
  | d :: _ => if cont d then (x * 64 + (d.toNat - 128), 4) else (0, 0)
def sg4b (x : Nat) : List UInt8 → Nat × Int
  | [] => (0, -1)
  | c :: t => if cont c then sg4c (x * 64 + (c.toNat - 128)) t else (0, 0)
def sg4 (a : Nat) : List UInt8 → Nat × Int
  | [] => (0, -1)
  | b :: t => if ok4 a b then sg4b (a * 64 + (b.toNat - 128)) t else (0, 0)
/-- The sign at the head, and how many bytes it has; 0: they are none's; -1: they may be the beginning of one. -/
def sg : List UInt8 → Nat × Int
  | [] => (0, -1)
  | a :: t =>
    if a.toNat < 128 then (a.toNat, 1)
    else if 194 ≤ a.toNat ∧ a.toNat < 224 then sg2 (a.toNat - 192) t
    else if 224 ≤ a.toNat ∧ a.toNat < 240 then sg3 (a.toNat - 224) t
    else if 240 ≤ a.toNat ∧ a.toNat < 245 then sg4 (a.toNat - 240) t
    else (0, 0)

/-- The ways that a sign can be read: what each says of the bytes; read as: whatever holds of all these ways holds of this one. -/
def SgWay (l : List UInt8) (r : Nat × Int) : Prop :=
  ∀ P : List UInt8 → Nat × Int → Prop,
    (P [] (0, -1)) →
    (∀ (a : UInt8) (t : List UInt8), a.toNat < 128 → P (a :: t) (a.toNat, 1)) →
    (∀ (a : UInt8) (t : List UInt8), 128 ≤ a.toNat → (a.toNat < 194 ∨ 245 ≤ a.toNat) → P (a :: t) (0, 0)) →
    (∀ (a : UInt8), 194 ≤ a.toNat → a.toNat < 224 → P [a] (0, -1)) →
    (∀ (a b : UInt8) (t : List UInt8), 194 ≤ a.toNat → a.toNat < 224 → 128 ≤ b.toNat → b.toNat < 192 → P (a :: b :: t) ((a.toNat - 192) * 64 + (b.toNat - 128), 2)) →
    (∀ (a b : UInt8) (t : List UInt8), 194 ≤ a.toNat → a.toNat < 224 → (b.toNat < 128 ∨ 192 ≤ b.toNat) → P (a :: b :: t) (0, 0)) →
    (∀ (a : UInt8), 224 ≤ a.toNat → a.toNat < 240 → P [a] (0, -1)) →
    (∀ (a b : UInt8), 224 ≤ a.toNat → a.toNat < 240 → ok3 (a.toNat - 224) b = true → P [a, b] (0, -1)) →
    (∀ (a b : UInt8) (t : List UInt8), 224 ≤ a.toNat → a.toNat < 240 → ok3 (a.toNat - 224) b = false → P (a :: b :: t) (0, 0)) →
    (∀ (a b c : UInt8) (t : List UInt8), 224 ≤ a.toNat → a.toNat < 240 → ok3 (a.toNat - 224) b = true → 128 ≤ c.toNat → c.toNat < 192 → P (a :: b :: c :: t) (((a.toNat - 224) * 64 + (b.toNat - 128)) * 64 + (c.toNat - 128), 3)) →
    (∀ (a b c : UInt8) (t : List UInt8), 224 ≤ a.toNat → a.toNat < 240 → ok3 (a.toNat - 224) b = true → (c.toNat < 128 ∨ 192 ≤ c.toNat) → P (a :: b :: c :: t) (0, 0)) →
    (∀ (a : UInt8), 240 ≤ a.toNat → a.toNat < 245 → P [a] (0, -1)) →
    (∀ (a b : UInt8), 240 ≤ a.toNat → a.toNat < 245 → ok4 (a.toNat - 240) b = true → P [a, b] (0, -1)) →
    (∀ (a b : UInt8) (t : List UInt8), 240 ≤ a.toNat → a.toNat < 245 → ok4 (a.toNat - 240) b = false → P (a :: b :: t) (0, 0)) →
    (∀ (a b c : UInt8), 240 ≤ a.toNat → a.toNat < 245 → ok4 (a.toNat - 240) b = true → 128 ≤ c.toNat → c.toNat < 192 → P [a, b, c] (0, -1)) →
    (∀ (a b c : UInt8) (t : List UInt8), 240 ≤ a.toNat → a.toNat < 245 → ok4 (a.toNat - 240) b = true → (c.toNat < 128 ∨ 192 ≤ c.toNat) → P (a :: b :: c :: t) (0, 0)) →
    (∀ (a b c d : UInt8) (t : List UInt8), 240 ≤ a.toNat → a.toNat < 245 → ok4 (a.toNat - 240) b = true → 128 ≤ c.toNat → c.toNat < 192 → 128 ≤ d.toNat → d.toNat < 192 → P (a :: b :: c :: d :: t) ((((a.toNat - 240) * 64 + (b.toNat - 128)) * 64 + (c.toNat - 128)) * 64 + (d.toNat - 128), 4)) →
    (∀ (a b c d : UInt8) (t : List UInt8), 240 ≤ a.toNat → a.toNat < 245 → ok4 (a.toNat - 240) b = true → 128 ≤ c.toNat → c.toNat < 192 → (d.toNat < 128 ∨ 192 ≤ d.toNat) → P (a :: b :: c :: d :: t) (0, 0)) →
    P l r
theorem SgWay.nil : SgWay [] (0, -1) := fun _ f _ _ _ _ _ _ _ _ _ _ _ _ _ _ _ _ _ => f 
theorem SgWay.one (a : UInt8) (t : List UInt8) (h : a.toNat < 128) : SgWay (a :: t) (a.toNat, 1) := fun _ _ f _ _ _ _ _ _ _ _ _ _ _ _ _ _ _ _ => f a t h
theorem SgWay.bad0 (a : UInt8) (t : List UInt8) (h : 128 ≤ a.toNat) (h' : a.toNat < 194 ∨ 245 ≤ a.toNat) : SgWay (a :: t) (0, 0) := fun _ _ _ f _ _ _ _ _ _ _ _ _ _ _ _ _ _ _ => f a t h h'
theorem SgWay.part2 (a : UInt8) (h : 194 ≤ a.toNat) (h' : a.toNat < 224) : SgWay [a] (0, -1) := fun _ _ _ _ f _ _ _ _ _ _ _ _ _ _ _ _ _ _ => f a h h'
theorem SgWay.two (a b : UInt8) (t : List UInt8) (h : 194 ≤ a.toNat) (h' : a.toNat < 224) (hb : 128 ≤ b.toNat) (hb' : b.toNat < 192) : SgWay (a :: b :: t) ((a.toNat - 192) * 64 + (b.toNat - 128), 2) := fun _ _ _ _ _ f _ _ _ _ _ _ _ _ _ _ _ _ _ => f a b t h h' hb hb'
theorem SgWay.bad2 (a b : UInt8) (t : List UInt8) (h : 194 ≤ a.toNat) (h' : a.toNat < 224) (hb : b.toNat < 128 ∨ 192 ≤ b.toNat) : SgWay (a :: b :: t) (0, 0) := fun _ _ _ _ _ _ f _ _ _ _ _ _ _ _ _ _ _ _ => f a b t h h' hb
theorem SgWay.part3a (a : UInt8) (h : 224 ≤ a.toNat) (h' : a.toNat < 240) : SgWay [a] (0, -1) := fun _ _ _ _ _ _ _ f _ _ _ _ _ _ _ _ _ _ _ => f a h h'
theorem SgWay.part3b (a b : UInt8) (h : 224 ≤ a.toNat) (h' : a.toNat < 240) (hb : ok3 (a.toNat - 224) b = true) : SgWay [a, b] (0, -1) := fun _ _ _ _ _ _ _ _ f _ _ _ _ _ _ _ _ _ _ => f a b h h' hb
theorem SgWay.bad3b (a b : UInt8) (t : List UInt8) (h : 224 ≤ a.toNat) (h' : a.toNat < 240) (hb : ok3 (a.toNat - 224) b = false) : SgWay (a :: b :: t) (0, 0) := fun _ _ _ _ _ _ _ _ _ f _ _ _ _ _ _ _ _ _ => f a b t h h' hb
theorem SgWay.three (a b c : UInt8) (t : List UInt8) (h : 224 ≤ a.toNat) (h' : a.toNat < 240) (hb : ok3 (a.toNat - 224) b = true) (hc : 128 ≤ c.toNat) (hc' : c.toNat < 192) : SgWay (a :: b :: c :: t) (((a.toNat - 224) * 64 + (b.toNat - 128)) * 64 + (c.toNat - 128), 3) := fun _ _ _ _ _ _ _ _ _ _ f _ _ _ _ _ _ _ _ => f a b c t h h' hb hc hc'
theorem SgWay.bad3c (a b c : UInt8) (t : List UInt8) (h : 224 ≤ a.toNat) (h' : a.toNat < 240) (hb : ok3 (a.toNat - 224) b = true) (hc : c.toNat < 128 ∨ 192 ≤ c.toNat) : SgWay (a :: b :: c :: t) (0, 0) := fun _ _ _ _ _ _ _ _ _ _ _ f _ _ _ _ _ _ _ => f a b c t h h' hb hc
theorem SgWay.part4a (a : UInt8) (h : 240 ≤ a.toNat) (h' : a.toNat < 245) : SgWay [a] (0, -1) := fun _ _ _ _ _ _ _ _ _ _ _ _ f _ _ _ _ _ _ => f a h h'
theorem SgWay.part4b (a b : UInt8) (h : 240 ≤ a.toNat) (h' : a.toNat < 245) (hb : ok4 (a.toNat - 240) b = true) : SgWay [a, b] (0, -1) := fun _ _ _ _ _ _ _ _ _ _ _ _ _ f _ _ _ _ _ => f a b h h' hb
theorem SgWay.bad4b (a b : UInt8) (t : List UInt8) (h : 240 ≤ a.toNat) (h' : a.toNat < 245) (hb : ok4 (a.toNat - 240) b = false) : SgWay (a :: b :: t) (0, 0) := fun _ _ _ _ _ _ _ _ _ _ _ _ _ _ f _ _ _ _ => f a b t h h' hb
theorem SgWay.part4c (a b c : UInt8) (h : 240 ≤ a.toNat) (h' : a.toNat < 245) (hb : ok4 (a.toNat - 240) b = true) (hc : 128 ≤ c.toNat) (hc' : c.toNat < 192) : SgWay [a, b, c] (0, -1) := fun _ _ _ _ _ _ _ _ _ _ _ _ _ _ _ f _ _ _ => f a b c h h' hb hc hc'
theorem SgWay.bad4c (a b c : UInt8) (t : List UInt8) (h : 240 ≤ a.toNat) (h' : a.toNat < 245) (hb : ok4 (a.toNat - 240) b = true) (hc : c.toNat < 128 ∨ 192 ≤ c.toNat) : SgWay (a :: b :: c :: t) (0, 0) := fun _ _ _ _ _ _ _ _ _ _ _ _ _ _ _ _ f _ _ => f a b c t h h' hb hc
theorem SgWay.four (a b c d : UInt8) (t : List UInt8) (h : 240 ≤ a.toNat) (h' : a.toNat < 245) (hb : ok4 (a.toNat - 240) b = true) (hc : 128 ≤ c.toNat) (hc' : c.toNat < 192) (hd : 128 ≤ d.toNat) (hd' : d.toNat < 192) : SgWay (a :: b :: c :: d :: t) ((((a.toNat - 240) * 64 + (b.toNat - 128)) * 64 + (c.toNat - 128)) * 64 + (d.toNat - 128), 4) := fun _ _ _ _ _ _ _ _ _ _ _ _ _ _ _ _ _ f _ => f a b c d t h h' hb hc hc' hd hd'
theorem SgWay.bad4d (a b c d : UInt8) (t : List UInt8) (h : 240 ≤ a.toNat) (h' : a.toNat < 245) (hb : ok4 (a.toNat - 240) b = true) (hc : 128 ≤ c.toNat) (hc' : c.toNat < 192) (hd : d.toNat < 128 ∨ 192 ≤ d.toNat) : SgWay (a :: b :: c :: d :: t) (0, 0) := fun _ _ _ _ _ _ _ _ _ _ _ _ _ _ _ _ _ _ f => f a b c d t h h' hb hc hc' hd

theorem cont_no {b : UInt8} (h : ¬ cont b = true) : b.toNat < 128 ∨ 192 ≤ b.toNat := by simp [cont] at h; omega
theorem cont_yes {b : UInt8} (h : cont b = true) : 128 ≤ b.toNat ∧ b.toNat < 192 := by simpa [cont] using h
theorem cont_mk {b : UInt8} (h : 128 ≤ b.toNat) (h' : b.toNat < 192) : cont b = true := by simp [cont, h, h']
theorem cont_mk_no {b : UInt8} (h : b.toNat < 128 ∨ 192 ≤ b.toNat) : cont b = false := by simp [cont]; omega

theorem sg_lo (a : UInt8) (t : List UInt8) (h : a.toNat < 128) : sg (a :: t) = (a.toNat, 1) := by simp only [sg, if_pos h]
theorem sg_is2 (a : UInt8) (t : List UInt8) (h : 194 ≤ a.toNat) (h' : a.toNat < 224) : sg (a :: t) = sg2 (a.toNat - 192) t := by
  have h1 : ¬ a.toNat < 128 := by omega
  simp only [sg, if_neg h1, if_pos (And.intro h h')]
theorem sg_is3 (a : UInt8) (t : List UInt8) (h : 224 ≤ a.toNat) (h' : a.toNat < 240) : sg (a :: t) = sg3 (a.toNat - 224) t := by
  have h1 : ¬ a.toNat < 128 := by omega
  have h2 : ¬ (194 ≤ a.toNat ∧ a.toNat < 224) := by omega
  simp only [sg, if_neg h1, if_neg h2, if_pos (And.intro h h')]
theorem sg_is4 (a : UInt8) (t : List UInt8) (h : 240 ≤ a.toNat) (h' : a.toNat < 245) : sg (a :: t) = sg4 (a.toNat - 240) t := by
  have h1 : ¬ a.toNat < 128 := by omega
  have h2 : ¬ (194 ≤ a.toNat ∧ a.toNat < 224) := by omega
  have h3 : ¬ (224 ≤ a.toNat ∧ a.toNat < 240) := by omega
  simp only [sg, if_neg h1, if_neg h2, if_neg h3, if_pos (And.intro h h')]
theorem sg_isBad (a : UInt8) (t : List UInt8) (h : 128 ≤ a.toNat) (h' : a.toNat < 194 ∨ 245 ≤ a.toNat) : sg (a :: t) = (0, 0) := by
  have h1 : ¬ a.toNat < 128 := by omega
  have h2 : ¬ (194 ≤ a.toNat ∧ a.toNat < 224) := by omega
  have h3 : ¬ (224 ≤ a.toNat ∧ a.toNat < 240) := by omega
  have h4 : ¬ (240 ≤ a.toNat ∧ a.toNat < 245) := by omega
  simp only [sg, if_neg h1, if_neg h2, if_neg h3, if_neg h4]

theorem SgWay.eq {l : List UInt8} {r : Nat × Int} (h : SgWay l r) : sg l = r := by
  refine h (fun l r => sg l = r) ?nil ?one ?bad0 ?part2 ?two ?bad2 ?part3a ?part3b ?bad3b ?three ?bad3c ?part4a ?part4b ?bad4b ?part4c ?bad4c ?four ?bad4d
  case nil =>
    rfl
  case one =>
    intro a t h
    exact sg_lo a t h
  case bad0 =>
    intro a t h h'
    exact sg_isBad a t h h'
  case part2 =>
    intro a h h'
    rw [sg_is2 a _ h h']; rfl
  case two =>
    intro a b t h h' hb hb'
    rw [sg_is2 a _ h h']; simp [sg2, cont_mk hb hb']
  case bad2 =>
    intro a b t h h' hb
    rw [sg_is2 a _ h h']; simp [sg2, cont_mk_no hb]
  case part3a =>
    intro a h h'
    rw [sg_is3 a _ h h']; rfl
  case part3b =>
    intro a b h h' hb
    rw [sg_is3 a _ h h']; simp [sg3, hb, sg3b]
  case bad3b =>
    intro a b t h h' hb
    rw [sg_is3 a _ h h']; simp [sg3, hb]
  case three =>
    intro a b c t h h' hb hc hc'
    rw [sg_is3 a _ h h']; simp [sg3, hb, sg3b, cont_mk hc hc']
  case bad3c =>
    intro a b c t h h' hb hc
    rw [sg_is3 a _ h h']; simp [sg3, hb, sg3b, cont_mk_no hc]
  case part4a =>
    intro a h h'
    rw [sg_is4 a _ h h']; rfl
  case part4b =>
    intro a b h h' hb
    rw [sg_is4 a _ h h']; simp [sg4, hb, sg4b]
  case bad4b =>
    intro a b t h h' hb
    rw [sg_is4 a _ h h']; simp [sg4, hb]
  case part4c =>
    intro a b c h h' hb hc hc'
    rw [sg_is4 a _ h h']; simp [sg4, hb, sg4b, cont_mk hc hc', sg4c]
  case bad4c =>
    intro a b c t h h' hb hc
    rw [sg_is4 a _ h h']; simp [sg4, hb, sg4b, cont_mk_no hc]
  case four =>
    intro a b c d t h h' hb hc hc' hd hd'
    rw [sg_is4 a _ h h']; simp [sg4, hb, sg4b, cont_mk hc hc', sg4c, cont_mk hd hd']
  case bad4d =>
    intro a b c d t h h' hb hc hc' hd
    rw [sg_is4 a _ h h']; simp [sg4, hb, sg4b, cont_mk hc hc', sg4c, cont_mk_no hd]

theorem sgWay_ex : ∀ l : List UInt8, ∃ r, SgWay l r
  | [] => ⟨_, .nil⟩
  | a :: t => by
    by_cases h1 : a.toNat < 128
    · exact ⟨_, .one a t h1⟩
    by_cases h2 : a.toNat < 194 ∨ 245 ≤ a.toNat
    · exact ⟨_, .bad0 a t (by omega) h2⟩
    by_cases h3 : a.toNat < 224
    · match t with
      | [] => exact ⟨_, .part2 a (by omega) h3⟩
      | b :: t =>
        by_cases hb : 128 ≤ b.toNat ∧ b.toNat < 192
        · exact ⟨_, .two a b t (by omega) h3 hb.1 hb.2⟩
        · exact ⟨_, .bad2 a b t (by omega) h3 (by omega)⟩
    by_cases h4 : a.toNat < 240
    · match t with
      | [] => exact ⟨_, .part3a a (by omega) h4⟩
      | b :: t =>
        by_cases hb : ok3 (a.toNat - 224) b = true
        · match t with
          | [] => exact ⟨_, .part3b a b (by omega) h4 hb⟩
          | c :: t =>
            by_cases hc : 128 ≤ c.toNat ∧ c.toNat < 192
            · exact ⟨_, .three a b c t (by omega) h4 hb hc.1 hc.2⟩
            · exact ⟨_, .bad3c a b c t (by omega) h4 hb (by omega)⟩
        · exact ⟨_, .bad3b a b t (by omega) h4 (by simpa using hb)⟩
    · match t with
      | [] => exact ⟨_, .part4a a (by omega) (by omega)⟩
      | b :: t =>
        by_cases hb : ok4 (a.toNat - 240) b = true
        · match t with
          | [] => exact ⟨_, .part4b a b (by omega) (by omega) hb⟩
          | c :: t =>
            by_cases hc : 128 ≤ c.toNat ∧ c.toNat < 192
            · match t with
              | [] => exact ⟨_, .part4c a b c (by omega) (by omega) hb hc.1 hc.2⟩
              | d :: t =>
                by_cases hd : 128 ≤ d.toNat ∧ d.toNat < 192
                · exact ⟨_, .four a b c d t (by omega) (by omega) hb hc.1 hc.2 hd.1 hd.2⟩
                · exact ⟨_, .bad4d a b c d t (by omega) (by omega) hb hc.1 hc.2 (by omega)⟩
            · exact ⟨_, .bad4c a b c t (by omega) (by omega) hb (by omega)⟩
        · exact ⟨_, .bad4b a b t (by omega) (by omega) (by simpa using hb)⟩
theorem sgWay (l : List UInt8) : SgWay l (sg l) := by
  obtain ⟨r, h⟩ := sgWay_ex l
  rw [h.eq]
  exact h

theorem SgWay.range {l : List UInt8} {r : Nat × Int} (h : SgWay l r) : (r.2 = -1 ∧ l.length ≤ 3) ∨ (r.2 = 0 ∧ l ≠ []) ∨ ∃ n : Nat, r.2 = n ∧ 1 ≤ n ∧ n ≤ 4 ∧ n ≤ l.length := by
  refine h (fun l r => (r.2 = -1 ∧ l.length ≤ 3) ∨ (r.2 = 0 ∧ l ≠ []) ∨ ∃ n : Nat, r.2 = n ∧ 1 ≤ n ∧ n ≤ 4 ∧ n ≤ l.length) ?nil ?one ?bad0 ?part2 ?two ?bad2 ?part3a ?part3b ?bad3b ?three ?bad3c ?part4a ?part4b ?bad4b ?part4c ?bad4c ?four ?bad4d
  case nil => exact .inl ⟨rfl, by simp⟩
  case one => intros; exact .inr (.inr ⟨1, rfl, by omega, by omega, by simp⟩)
  case two => intros; exact .inr (.inr ⟨2, rfl, by omega, by omega, by simp⟩)
  case three => intros; exact .inr (.inr ⟨3, rfl, by omega, by omega, by simp⟩)
  case four => intros; exact .inr (.inr ⟨4, rfl, by omega, by omega, by simp⟩)
  all_goals
    intros
    first
      | exact .inl ⟨rfl, by simp⟩
      | exact .inr (.inl ⟨rfl, by simp⟩)
theorem sg_range (l : List UInt8) : ((sg l).2 = -1 ∧ l.length ≤ 3) ∨ ((sg l).2 = 0 ∧ l ≠ []) ∨ ∃ n : Nat, (sg l).2 = n ∧ 1 ≤ n ∧ n ≤ 4 ∧ n ≤ l.length := (sgWay l).range

/-- A sign stands by its own bytes: what follows them turns nothing. -/
theorem SgWay.app {l : List UInt8} {r : Nat × Int} (h : SgWay l r) (hr : 1 ≤ r.2) (t' : List UInt8) : SgWay (l ++ t') r := by
  revert hr
  refine h (fun l r => 1 ≤ r.2 → SgWay (l ++ t') r) ?nil ?one ?bad0 ?part2 ?two ?bad2 ?part3a ?part3b ?bad3b ?three ?bad3c ?part4a ?part4b ?bad4b ?part4c ?bad4c ?four ?bad4d
  case one =>
    intro a t h hr
    exact SgWay.one a _ h
  case two =>
    intro a b t h h' hb hb' hr
    exact SgWay.two a b _ h h' hb hb'
  case three =>
    intro a b c t h h' hb hc hc' hr
    exact SgWay.three a b c _ h h' hb hc hc'
  case four =>
    intro a b c d t h h' hb hc hc' hd hd' hr
    exact SgWay.four a b c d _ h h' hb hc hc' hd hd'
  all_goals
    intros
    rename_i hr
    simp at hr
theorem SgWay.take {l : List UInt8} {r : Nat × Int} (h : SgWay l r) (hr : 1 ≤ r.2) : SgWay (l.take r.2.toNat) r := by
  revert hr
  refine h (fun l r => 1 ≤ r.2 → SgWay (l.take r.2.toNat) r) ?nil ?one ?bad0 ?part2 ?two ?bad2 ?part3a ?part3b ?bad3b ?three ?bad3c ?part4a ?part4b ?bad4b ?part4c ?bad4c ?four ?bad4d
  case one =>
    intro a t h hr
    exact SgWay.one a _ h
  case two =>
    intro a b t h h' hb hb' hr
    exact SgWay.two a b _ h h' hb hb'
  case three =>
    intro a b c t h h' hb hc hc' hr
    exact SgWay.three a b c _ h h' hb hc hc'
  case four =>
    intro a b c d t h h' hb hc hc' hd hd' hr
    exact SgWay.four a b c d _ h h' hb hc hc' hd hd'
  all_goals
    intros
    rename_i hr
    simp at hr
theorem SgWay.appBad {l : List UInt8} {r : Nat × Int} (h : SgWay l r) (hr : r.2 = 0) (t' : List UInt8) : SgWay (l ++ t') (0, 0) := by
  revert hr
  refine h (fun l r => r.2 = 0 → SgWay (l ++ t') (0, 0)) ?nil ?one ?bad0 ?part2 ?two ?bad2 ?part3a ?part3b ?bad3b ?three ?bad3c ?part4a ?part4b ?bad4b ?part4c ?bad4c ?four ?bad4d
  case bad0 =>
    intro a t h h' hr
    exact SgWay.bad0 a _ h h'
  case bad2 =>
    intro a b t h h' hb hr
    exact SgWay.bad2 a b _ h h' hb
  case bad3b =>
    intro a b t h h' hb hr
    exact SgWay.bad3b a b _ h h' hb
  case bad3c =>
    intro a b c t h h' hb hc hr
    exact SgWay.bad3c a b c _ h h' hb hc
  case bad4b =>
    intro a b t h h' hb hr
    exact SgWay.bad4b a b _ h h' hb
  case bad4c =>
    intro a b c t h h' hb hc hr
    exact SgWay.bad4c a b c _ h h' hb hc
  case bad4d =>
    intro a b c d t h h' hb hc hc' hd hr
    exact SgWay.bad4d a b c d _ h h' hb hc hc' hd
  all_goals
    intros
    rename_i hr
    simp at hr
theorem sg_app (l t : List UInt8) (h : 1 ≤ (sg l).2) : sg (l ++ t) = sg l := ((sgWay l).app h t).eq
theorem sg_take (l : List UInt8) (h : 1 ≤ (sg l).2) : sg (l.take (sg l).2.toNat) = sg l := ((sgWay l).take h).eq
theorem sg_appBad (l t : List UInt8) (h : (sg l).2 = 0) : sg (l ++ t) = (0, 0) := ((sgWay l).appBad h t).eq

/-! ### what the model's decoder reads -/
def decL (l : List UInt8) : Nat × Nat :=
  if (l.getD 0 0).toNat < 128 then ((l.getD 0 0).toNat, 1)
  else if (l.getD 0 0).toNat / 32 = 6 ∧ 1 < l.length ∧ (l.getD 1 0).toNat / 64 = 2 then
    if 128 ≤ (l.getD 0 0).toNat % 32 * 64 + (l.getD 1 0).toNat % 64 then ((l.getD 0 0).toNat % 32 * 64 + (l.getD 1 0).toNat % 64, 2) else (65533, 1)
  else if (l.getD 0 0).toNat / 16 = 14 ∧ (1 < l.length ∧ (l.getD 1 0).toNat / 64 = 2) ∧ 2 < l.length ∧ (l.getD 2 0).toNat / 64 = 2 then
    if 2048 ≤ (l.getD 0 0).toNat % 16 * 4096 + (l.getD 1 0).toNat % 64 * 64 + (l.getD 2 0).toNat % 64 ∧ Utf8.valid (((l.getD 0 0).toNat % 16 * 4096 + (l.getD 1 0).toNat % 64 * 64 + (l.getD 2 0).toNat % 64 : Nat) : Int) = true
      then ((l.getD 0 0).toNat % 16 * 4096 + (l.getD 1 0).toNat % 64 * 64 + (l.getD 2 0).toNat % 64, 3) else (65533, 1)
  else if (l.getD 0 0).toNat / 8 = 30 ∧ (1 < l.length ∧ (l.getD 1 0).toNat / 64 = 2) ∧ (2 < l.length ∧ (l.getD 2 0).toNat / 64 = 2) ∧ 3 < l.length ∧ (l.getD 3 0).toNat / 64 = 2 then
    if 65536 ≤ (l.getD 0 0).toNat % 8 * 262144 + (l.getD 1 0).toNat % 64 * 4096 + (l.getD 2 0).toNat % 64 * 64 + (l.getD 3 0).toNat % 64 ∧ Utf8.valid (((l.getD 0 0).toNat % 8 * 262144 + (l.getD 1 0).toNat % 64 * 4096 + (l.getD 2 0).toNat % 64 * 64 + (l.getD 3 0).toNat % 64 : Nat) : Int) = true
      then ((l.getD 0 0).toNat % 8 * 262144 + (l.getD 1 0).toNat % 64 * 4096 + (l.getD 2 0).toNat % 64 * 64 + (l.getD 3 0).toNat % 64, 4) else (65533, 1)
  else (65533, 1)

theorem get_drop (s : ByteArray) (i k : Nat) : s.get! (i + k) = (s.data.toList.drop i).getD k 0 := by
  simp [ByteArray.get!, List.getD, Array.getElem!_eq_getD, Array.getD_eq_getD_getElem?]
  rfl
theorem decode_decL (s : ByteArray) (i : Nat) : Utf8.decode s i = decL (s.data.toList.drop i) := by
  have h1 : ∀ k, s.get! (i + k) = (s.data.toList.drop i).getD k 0 := get_drop s i
  have h2 : ∀ k, (i + k < s.size) = (k < (s.data.toList.drop i).length) := by
    intro k
    have : s.size = s.data.toList.length := Array.length_toList.symm
    rw [this, List.length_drop, eq_iff_iff]
    omega
  unfold Utf8.decode decL
  simp only [h1, h2, Utf8.runeError, ge_iff_le, Bool.and_eq_true, decide_eq_true_eq, beq_iff_eq, and_assoc]

theorem valid_iff (r : Nat) : Utf8.valid (r : Int) = true ↔ (r < 55296 ∨ (57344 ≤ r ∧ r ≤ 1114111)) := by
  unfold Utf8.valid
  simp
  omega
theorem ok3_iff (a : Nat) (b : UInt8) : ok3 a b = true ↔ (128 ≤ b.toNat ∧ b.toNat < 192 ∧ (a = 0 → 160 ≤ b.toNat) ∧ (a = 13 → b.toNat < 160)) := by unfold ok3; exact decide_eq_true_iff
theorem ok4_iff (a : Nat) (b : UInt8) : ok4 a b = true ↔ (128 ≤ b.toNat ∧ b.toNat < 192 ∧ (a = 0 → 144 ≤ b.toNat) ∧ (a = 4 → b.toNat < 144)) := by unfold ok4; exact decide_eq_true_iff
theorem ok3_no (a : Nat) (b : UInt8) : ok3 a b = false ↔ ¬ (128 ≤ b.toNat ∧ b.toNat < 192 ∧ (a = 0 → 160 ≤ b.toNat) ∧ (a = 13 → b.toNat < 160)) := by rw [← ok3_iff]; simp
theorem ok4_no (a : Nat) (b : UInt8) : ok4 a b = false ↔ ¬ (128 ≤ b.toNat ∧ b.toNat < 192 ∧ (a = 0 → 144 ≤ b.toNat) ∧ (a = 4 → b.toNat < 144)) := by rw [← ok4_iff]; simp

theorem decL_way {l : List UInt8} {r : Nat × Int} (h : SgWay l r) (hl : l ≠ []) : decL l = if 1 ≤ r.2 then (r.1, r.2.toNat) else (65533, 1) := by
  have hlt : ∀ x : UInt8, x.toNat < 256 := fun x => x.toNat_lt
  revert hl
  refine h (fun l r => l ≠ [] → decL l = if 1 ≤ r.2 then (r.1, r.2.toNat) else (65533, 1)) ?nil ?one ?bad0 ?part2 ?two ?bad2 ?part3a ?part3b ?bad3b ?three ?bad3c ?part4a ?part4b ?bad4b ?part4c ?bad4c ?four ?bad4d
  case nil => intro hl; exact absurd rfl hl
  case one => intro a t h _; simp [decL, h]
  all_goals
    intros
    simp only [decL, List.getD_cons_zero, List.getD_cons_succ, List.length_cons, List.length_nil, valid_iff, List.getD_nil, ok3_iff, ok4_iff, ok3_no, ok4_no] at *
    repeat' split
    all_goals first
      | (exfalso; omega)
      | (simp only [Prod.mk.injEq]; try omega)
end Go.Proofs.YthekdgnikkjpdaaGreatDoor
/-
  Plain Lean, no program in it: how many bytes of a list are whole signs that may be, what stands for the five signs and back, which lists are names, and the laws on them.
-/
namespace Go.Proofs.YthekdgnikkjpdaaGreatDoor

theorem u8_of_nat (x : Int) (a : UInt8) (h : x.toNat = a.toNat) : x.toNat.toUInt8 = a := by rw [h]; simp
/-- A sign's bytes are its UTF-8 form. -/
theorem SgWay.enc {l : List UInt8} {r : Nat × Int} (h : SgWay l r) (hr : 1 ≤ r.2) : Lib.encodeRune (r.1 : Int) = l.take r.2.toNat := by
  have hlt : ∀ x : UInt8, x.toNat < 256 := fun x => x.toNat_lt
  revert hr
  refine h (fun l r => 1 ≤ r.2 → Lib.encodeRune (r.1 : Int) = l.take r.2.toNat) ?nil ?one ?bad0 ?part2 ?two ?bad2 ?part3a ?part3b ?bad3b ?three ?bad3c ?part4a ?part4b ?bad4b ?part4c ?bad4c ?four ?bad4d
  case one =>
    intro a t h hr
    unfold Lib.encodeRune
    rw [Lib.encodeRuneZ_one (by omega) (by simp only; omega)]
    simp
  case two =>
    intro a b t h h' hb hb' hr
    unfold Lib.encodeRune
    rw [Lib.encodeRuneZ_two (by simp only; omega) (by simp only; omega)]
    simp only [List.map_cons, List.map_nil]
    rw [u8_of_nat _ a (by omega), u8_of_nat _ b (by omega)]
    rfl
  case three =>
    intro a b c t h h' hb hc hc' hr
    unfold Lib.encodeRune
    rw [ok3_iff] at hb
    rw [Lib.encodeRuneZ_three (by simp only; omega)]
    simp only [List.map_cons, List.map_nil]
    rw [u8_of_nat _ a (by omega), u8_of_nat _ b (by omega), u8_of_nat _ c (by omega)]
    rfl
  case four =>
    intro a b c d t h h' hb hc hc' hd hd' hr
    unfold Lib.encodeRune
    rw [ok4_iff] at hb
    rw [Lib.encodeRuneZ_four (by simp only; omega) (by simp only; omega)]
    simp only [List.map_cons, List.map_nil]
    rw [u8_of_nat _ a (by omega), u8_of_nat _ b (by omega), u8_of_nat _ c (by omega), u8_of_nat _ d (by omega)]
    rfl
  all_goals
    intros
    rename_i hr
    simp at hr
theorem sg_enc (l : List UInt8) (h : 1 ≤ (sg l).2) : Lib.encodeRune ((sg l).1 : Int) = l.take (sg l).2.toNat := (sgWay l).enc h

/-- A sign of more than one byte: none of its bytes is below 128; nor is it. -/
theorem SgWay.high {l : List UInt8} {r : Nat × Int} (h : SgWay l r) (hr : 2 ≤ r.2) : 128 ≤ r.1 ∧ ∀ b ∈ l.take r.2.toNat, 128 ≤ b.toNat := by
  revert hr
  refine h (fun l r => 2 ≤ r.2 → 128 ≤ r.1 ∧ ∀ b ∈ l.take r.2.toNat, 128 ≤ b.toNat) ?nil ?one ?bad0 ?part2 ?two ?bad2 ?part3a ?part3b ?bad3b ?three ?bad3c ?part4a ?part4b ?bad4b ?part4c ?bad4c ?four ?bad4d
  case two =>
    intro a b t h h' hb hb' hr
    refine ⟨by simp only; omega, ?_⟩
    intro x hx
    simp at hx
    rcases hx with rfl | rfl <;> omega
  case three =>
    intro a b c t h h' hb hc hc' hr
    rw [ok3_iff] at hb
    refine ⟨by simp only; omega, ?_⟩
    intro x hx
    simp at hx
    rcases hx with rfl | rfl | rfl <;> omega
  case four =>
    intro a b c d t h h' hb hc hc' hd hd' hr
    rw [ok4_iff] at hb
    refine ⟨by simp only; omega, ?_⟩
    intro x hx
    simp at hx
    rcases hx with rfl | rfl | rfl | rfl <;> omega
  all_goals
    intros
    rename_i hr
    simp at hr
theorem SgWay.low {l : List UInt8} {r : Nat × Int} (h : SgWay l r) (hr : r.2 = 1) : ∃ a t, l = a :: t ∧ a.toNat < 128 ∧ r.1 = a.toNat := by
  revert hr
  refine h (fun l r => r.2 = 1 → ∃ a t, l = a :: t ∧ a.toNat < 128 ∧ r.1 = a.toNat) ?nil ?one ?bad0 ?part2 ?two ?bad2 ?part3a ?part3b ?bad3b ?three ?bad3c ?part4a ?part4b ?bad4b ?part4c ?bad4c ?four ?bad4d
  case one =>
    intro a t h hr
    exact ⟨a, t, rfl, h, rfl⟩
  all_goals
    intros
    rename_i hr
    simp at hr
theorem SgWay.bound {l : List UInt8} {r : Nat × Int} (h : SgWay l r) : r.1 ≤ 1114111 := by
  refine h (fun _ r => r.1 ≤ 1114111) ?nil ?one ?bad0 ?part2 ?two ?bad2 ?part3a ?part3b ?bad3b ?three ?bad3c ?part4a ?part4b ?bad4b ?part4c ?bad4c ?four ?bad4d
  all_goals
    intros
    simp only [ok3_iff, ok4_iff] at *
    omega

/-- The language's own answer for what is no sign is a sign, too: which it is, its three bytes tell. -/
theorem SgWay.err {l : List UInt8} {r : Nat × Int} (h : SgWay l r) (hl : l ≠ []) : (decide ((decL l).1 = 65533) && !Lib.hasPrefix l [239, 191, 189]) = decide (r.2 < 1) := by
  rw [decL_way h hl]
  cases hp : Lib.hasPrefix l [239, 191, 189] with
  | true =>
    unfold Lib.hasPrefix at hp
    obtain ⟨t, rfl⟩ := List.isPrefixOf_iff_prefix.1 hp
    have e : sg ([239, 191, 189] ++ t) = (65533, 3) := (SgWay.three 239 191 189 t (by decide) (by decide) (by decide) (by decide) (by decide)).eq
    rw [h.eq] at e
    subst e
    simp
  | false =>
    by_cases h1 : 1 ≤ r.2
    · rw [if_pos h1]
      have : r.1 ≠ 65533 := by
        intro e
        have := h.enc h1
        rw [e] at this
        have e2 : Lib.encodeRune ((65533 : Nat) : Int) = [239, 191, 189] := by decide
        rw [e2] at this
        have h3 : [239, 191, 189] <+: l := by rw [this]; exact List.take_prefix _ _
        unfold Lib.hasPrefix at hp
        rw [List.isPrefixOf_iff_prefix.2 h3] at hp
        cases hp
      simp [this]
      omega
    · rw [if_neg h1]
      simp
      omega

/-! ### which signs may be; how many bytes are whole -/
def may (v : Nat) : Bool := v == 9 || v == 10 || v == 13 || (decide (32 ≤ v) && v != 65534 && v != 65535)
/-- How many bytes at the beginning are whole signs that may be; none: other bytes follow. -/
def wholeF : Nat → List UInt8 → Option Nat
  | 0, _ => some 0
  | f + 1, l => if l.isEmpty then some 0 else if (sg l).2 < 0 then some 0 else if (sg l).2 = 0 then none else if may (sg l).1 then (wholeF f (l.drop (sg l).2.toNat)).map (· + (sg l).2.toNat) else none
def whole (l : List UInt8) : Option Nat := wholeF l.length l

theorem wholeF_enough : ∀ (f g : Nat) (l : List UInt8), l.length ≤ f → l.length ≤ g → wholeF f l = wholeF g l
  | 0, 0, _, _, _ => rfl
  | 0, g + 1, l, hf, _ => by
    have : l = [] := List.length_eq_zero_iff.1 (by omega)
    subst this
    simp [wholeF]
  | f + 1, 0, l, _, hg => by
    have : l = [] := List.length_eq_zero_iff.1 (by omega)
    subst this
    simp [wholeF]
  | f + 1, g + 1, l, hf, hg => by
    unfold wholeF
    by_cases h0 : l.isEmpty = true
    · rw [if_pos h0, if_pos h0]
    rw [if_neg h0, if_neg h0]
    by_cases h1 : (sg l).2 < 0
    · rw [if_pos h1, if_pos h1]
    rw [if_neg h1, if_neg h1]
    by_cases h2 : (sg l).2 = 0
    · rw [if_pos h2, if_pos h2]
    rw [if_neg h2, if_neg h2]
    rw [wholeF_enough f g (l.drop (sg l).2.toNat) (by rw [List.length_drop]; omega) (by rw [List.length_drop]; omega)]
theorem wholeF_eq (f : Nat) (l : List UInt8) (h : l.length ≤ f) : wholeF f l = whole l := wholeF_enough f l.length l h (Nat.le_refl _)

theorem whole_nil : whole [] = some 0 := rfl
theorem ne_isEmpty {l : List UInt8} (h : l ≠ []) : l.isEmpty = false := by cases l with
  | nil => exact absurd rfl h
  | cons => rfl
theorem succ_length {l : List UInt8} (h : l ≠ []) : ∃ f, l.length = f + 1 := by cases l with
  | nil => exact absurd rfl h
  | cons a t => exact ⟨t.length, rfl⟩
theorem whole_part {l : List UInt8} (h : (sg l).2 < 0) : whole l = some 0 := by
  by_cases hl : l = []
  · subst hl; rfl
  obtain ⟨f, hf⟩ := succ_length hl
  unfold whole
  rw [hf]
  unfold wholeF
  rw [ne_isEmpty hl, if_neg (by decide), if_pos h]
theorem whole_bad {l : List UInt8} (h : (sg l).2 = 0) : whole l = none := by
  have hl : l ≠ [] := by rintro rfl; simp [sg] at h
  obtain ⟨f, hf⟩ := succ_length hl
  unfold whole
  rw [hf]
  unfold wholeF
  rw [ne_isEmpty hl, if_neg (by decide), if_neg (by omega), if_pos h]
theorem whole_no {l : List UInt8} (h : 1 ≤ (sg l).2) (hm : may (sg l).1 = false) : whole l = none := by
  have hl : l ≠ [] := by rintro rfl; simp [sg] at h
  obtain ⟨f, hf⟩ := succ_length hl
  unfold whole
  rw [hf]
  unfold wholeF
  rw [ne_isEmpty hl, if_neg (by decide), if_neg (by omega), if_neg (by omega), hm, if_neg (by decide)]
theorem whole_ok {l : List UInt8} (h : 1 ≤ (sg l).2) (hm : may (sg l).1 = true) : whole l = (whole (l.drop (sg l).2.toNat)).map (· + (sg l).2.toNat) := by
  have hl : l ≠ [] := by rintro rfl; simp [sg] at h
  obtain ⟨f, hf⟩ := succ_length hl
  have e : whole l = wholeF (f + 1) l := by unfold whole; rw [hf]
  rw [e]
  unfold wholeF
  rw [ne_isEmpty hl, if_neg (by decide), if_neg (by omega), if_neg (by omega), if_pos hm, wholeF_eq f _ (by rw [List.length_drop]; omega)]

/-- One step of the count, as one of four. -/
theorem whole_cases (l : List UInt8) : ((sg l).2 < 0 ∧ l.length ≤ 3 ∧ whole l = some 0) ∨ ((sg l).2 = 0 ∧ whole l = none) ∨ (1 ≤ (sg l).2 ∧ may (sg l).1 = false ∧ whole l = none) ∨
    (∃ n : Nat, 1 ≤ n ∧ n ≤ l.length ∧ (sg l).2 = n ∧ may (sg l).1 = true ∧ whole l = (whole (l.drop n)).map (· + n)) := by
  rcases sg_range l with ⟨h, hl⟩ | ⟨h, _⟩ | ⟨n, h, h1, _, h3⟩
  · exact .inl ⟨by omega, hl, whole_part (by omega)⟩
  · exact .inr (.inl ⟨h, whole_bad h⟩)
  · cases hm : may (sg l).1 with
    | false => exact .inr (.inr (.inl ⟨by omega, rfl, whole_no (by omega) hm⟩))
    | true =>
      refine .inr (.inr (.inr ⟨n, h1, h3, h, rfl, ?_⟩))
      have := whole_ok (l := l) (by omega) hm
      rw [h] at this
      simpa using this

/-- Right: all of it is whole. -/
def right (l : List UInt8) : Bool := whole l == some l.length

theorem whole_app_noneF (b : List UInt8) : ∀ (f : Nat) (a : List UInt8), a.length ≤ f → whole a = none → whole (a ++ b) = none := by
  intro f
  induction f with
  | zero =>
    intro a hf h
    have : a = [] := List.length_eq_zero_iff.1 (by omega)
    subst this
    cases h
  | succ f ih =>
    intro a hf h
    rcases whole_cases a with ⟨h1, _, h2⟩ | ⟨h1, _⟩ | ⟨h1, h2, _⟩ | ⟨n, h1, h2, h3, h4, h5⟩
    · rw [h2] at h; cases h
    · exact whole_bad (by rw [sg_appBad a b h1])
    · exact whole_no (by rw [sg_app a b h1]; exact h1) (by rw [sg_app a b h1]; exact h2)
    · rw [h5] at h
      have h6 : whole (a.drop n) = none := by simpa using h
      have h7 := ih (a.drop n) (by rw [List.length_drop]; omega) h6
      have e := sg_app a b (by omega)
      rw [whole_ok (by rw [e]; omega) (by rw [e]; exact h4), e, h3]
      have : (a ++ b).drop ((n : Int)).toNat = a.drop n ++ b := by simp [List.drop_append, Nat.sub_eq_zero_of_le h2]
      rw [this, h7]
      rfl
theorem whole_app_none (a b : List UInt8) (h : whole a = none) : whole (a ++ b) = none := whole_app_noneF b a.length a (Nat.le_refl _) h

theorem whole_leF : ∀ (f : Nat) (a : List UInt8), a.length ≤ f → ∀ n : Nat, whole a = some n → n ≤ a.length ∧ a.length ≤ n + 3 := by
  intro f
  induction f with
  | zero =>
    intro a hf n h
    have : a = [] := List.length_eq_zero_iff.1 (by omega)
    subst this
    rw [whole_nil] at h
    cases h
    simp
  | succ f ih =>
    intro a hf n h
    rcases whole_cases a with ⟨h1, h1', h2⟩ | ⟨h1, h2⟩ | ⟨h1, h1', h2⟩ | ⟨k, h1, h2, h3, h4, h5⟩
    · rw [h2] at h; cases h; omega
    · rw [h2] at h; cases h
    · rw [h2] at h; cases h
    · rw [h5] at h
      simp only [Option.map_eq_some_iff] at h
      obtain ⟨m, hm, rfl⟩ := h
      have := ih (a.drop k) (by rw [List.length_drop]; omega) m hm
      rw [List.length_drop] at this
      omega
theorem whole_le (a : List UInt8) (n : Nat) (h : whole a = some n) : n ≤ a.length ∧ a.length ≤ n + 3 := whole_leF a.length a (Nat.le_refl _) n h

/-- In pieces: what is whole of the first, and the rest of it with the second. -/
theorem whole_appF (b : List UInt8) : ∀ (f : Nat) (a : List UInt8), a.length ≤ f → ∀ n : Nat, whole a = some n → whole (a ++ b) = (whole (a.drop n ++ b)).map (· + n) ∧ whole (a.take n) = some n := by
  intro f
  induction f with
  | zero =>
    intro a hf n h
    have : a = [] := List.length_eq_zero_iff.1 (by omega)
    subst this
    rw [whole_nil] at h
    cases h
    simp [whole_nil]
  | succ f ih =>
    intro a hf n h
    rcases whole_cases a with ⟨h1, h1', h2⟩ | ⟨h1, h2⟩ | ⟨h1, h1', h2⟩ | ⟨k, h1, h2, h3, h4, h5⟩
    · rw [h2] at h; cases h; simp [whole_nil]
    · rw [h2] at h; cases h
    · rw [h2] at h; cases h
    · rw [h5] at h
      simp only [Option.map_eq_some_iff] at h
      obtain ⟨m, hm, rfl⟩ := h
      obtain ⟨i1, i2⟩ := ih (a.drop k) (by rw [List.length_drop]; omega) m hm
      have hle := (whole_le _ _ hm).1
      rw [List.length_drop] at hle
      constructor
      · have e := sg_app a b (by omega)
        rw [whole_ok (by rw [e]; omega) (by rw [e]; exact h4), e, h3]
        have : (a ++ b).drop ((k : Int)).toNat = a.drop k ++ b := by simp [List.drop_append, Nat.sub_eq_zero_of_le h2]
        rw [this, i1]
        simp only [List.drop_drop, Nat.add_comm k m]
        cases whole (a.drop (m + k) ++ b) with
        | none => rfl
        | some x => simp [Nat.add_assoc]
      · have e : sg (a.take (m + k)) = sg a := by
          have e1 := sg_take a (by omega)
          rw [h3] at e1
          have e2 : a.take (m + k) = a.take k ++ (a.take (m + k)).drop k := by
            have := List.take_append_drop k (a.take (m + k))
            rw [List.take_take, Nat.min_eq_left (by omega)] at this
            exact this.symm
          rw [e2, sg_app]
          · simpa using e1
          · simp at e1; rw [e1]; omega
        rw [whole_ok (by rw [e]; omega) (by rw [e]; exact h4), e, h3]
        have : (a.take (m + k)).drop ((k : Int)).toNat = (a.drop k).take m := by
          simp [List.drop_take]
        rw [this, i2]
        simp
theorem whole_app (a b : List UInt8) (n : Nat) (h : whole a = some n) : whole (a ++ b) = (whole (a.drop n ++ b)).map (· + n) ∧ whole (a.take n) = some n := whole_appF b a.length a (Nat.le_refl _) n h
end Go.Proofs.YthekdgnikkjpdaaGreatDoor
/-
  Plain Lean, no program in it: what stands for the five signs and back, which lists are names, and the laws on them.
-/
namespace Go.Proofs.YthekdgnikkjpdaaGreatDoor

theorem right_iff (l : List UInt8) : right l = true ↔ whole l = some l.length := by unfold right; simp
theorem right_nil : right [] = true := rfl
/-- A right list begins with a sign that may be; what is behind it is right. -/
theorem right_step {l : List UInt8} (h : right l = true) (hl : l ≠ []) : ∃ n : Nat, 1 ≤ n ∧ n ≤ l.length ∧ (sg l).2 = n ∧ may (sg l).1 = true ∧ right (l.drop n) = true := by
  rw [right_iff] at h
  rcases whole_cases l with ⟨h1, h1', h2⟩ | ⟨h1, h2⟩ | ⟨h1, h1', h2⟩ | ⟨k, h1, h2, h3, h4, h5⟩
  · rw [h2] at h
    have : l.length = 0 := by simpa using h.symm
    exact absurd (List.length_eq_zero_iff.1 this) hl
  · rw [h2] at h; cases h
  · rw [h2] at h; cases h
  · refine ⟨k, h1, h2, h3, h4, ?_⟩
    rw [h5] at h
    simp only [Option.map_eq_some_iff] at h
    obtain ⟨m, hm, he⟩ := h
    rw [right_iff, hm, List.length_drop]
    congr 1
    omega
theorem right_mk {l : List UInt8} {n : Nat} (h1 : 1 ≤ n) (h2 : n ≤ l.length) (h3 : (sg l).2 = n) (h4 : may (sg l).1 = true) (h5 : right (l.drop n) = true) : right l = true := by
  rw [right_iff] at *
  rw [whole_ok (by omega) h4, h3]
  simp only [Int.toNat_natCast, h5, Option.map_some, List.length_drop]
  congr 1
  omega
/-- Signs below 128 that may be, ahead of what is right. -/
theorem right_low (p t : List UInt8) (hp : ∀ b ∈ p, b.toNat < 128 ∧ may b.toNat = true) (h : right t = true) : right (p ++ t) = true := by
  induction p with
  | nil => exact h
  | cons a p ih =>
    have ha := hp a (by simp)
    have e : sg (a :: p ++ t) = (a.toNat, 1) := sg_lo a _ ha.1
    exact right_mk (n := 1) (by omega) (by simp) (by rw [e]; rfl) (by rw [e]; exact ha.2) (ih fun b hb => hp b (by simp [hb]))

/-! ### what stands for a sign -/
def esc1 (b : UInt8) : List UInt8 :=
  if b = 38 then [38, 97, 109, 112, 59] else if b = 60 then [38, 108, 116, 59] else if b = 62 then [38, 103, 116, 59]
  else if b = 34 then [38, 113, 117, 111, 116, 59] else if b = 39 then [38, 97, 112, 111, 115, 59] else [b]
def esc : List UInt8 → List UInt8
  | [] => []
  | b :: t => esc1 b ++ esc t
theorem esc_app (a b : List UInt8) : esc (a ++ b) = esc a ++ esc b := by
  induction a with
  | nil => rfl
  | cons x t ih => simp [esc, ih]
def five (b : UInt8) : Bool := b == 38 || b == 60 || b == 62 || b == 34 || b == 39
theorem esc1_no {b : UInt8} (h : five b = false) : esc1 b = [b] := by
  simp [five] at h
  simp [esc1, h]
theorem esc_no (l : List UInt8) (h : ∀ b ∈ l, five b = false) : esc l = l := by
  induction l with
  | nil => rfl
  | cons a t ih => simp [esc, esc1_no (h a (by simp)), ih fun b hb => h b (by simp [hb])]
theorem five_high {b : UInt8} (h : 128 ≤ b.toNat) : five b = false := by
  unfold five
  simp only [Bool.or_eq_false_iff, beq_eq_false_iff_ne, ne_eq]
  refine ⟨⟨⟨⟨?_, ?_⟩, ?_⟩, ?_⟩, ?_⟩ <;> (rintro rfl; revert h; decide)
theorem esc1_length (b : UInt8) : 1 ≤ (esc1 b).length ∧ (esc1 b).length ≤ 6 := by
  unfold esc1
  repeat' split
  all_goals simp
theorem esc_length (l : List UInt8) : l.length ≤ (esc l).length ∧ (esc l).length ≤ 6 * l.length := by
  induction l with
  | nil => simp [esc]
  | cons a t ih =>
    have := esc1_length a
    simp only [esc, List.length_append, List.length_cons]
    omega
theorem esc1_mem (b x : UInt8) (h : x ∈ esc1 b) : x ≠ 60 ∧ x ≠ 62 ∧ x ≠ 34 ∧ x ≠ 39 := by
  by_cases hf : five b = true
  · simp [five] at hf
    rcases hf with (((rfl | rfl) | rfl) | rfl) | rfl
    all_goals
      have key := (by decide : ∀ y ∈ esc1 38 ++ esc1 60 ++ esc1 62 ++ esc1 34 ++ esc1 39, y ≠ 60 ∧ y ≠ 62 ∧ y ≠ 34 ∧ y ≠ 39)
      exact key x (by simp only [List.mem_append]; simp [h])
  · have hf' : five b = false := by simpa using hf
    rw [esc1_no hf'] at h
    simp at h
    subst h
    simp [five] at hf
    exact ⟨hf.1.1.1.2, hf.1.1.2, hf.1.2, hf.2⟩
theorem esc_mem (l : List UInt8) (x : UInt8) (h : x ∈ esc l) : x ≠ 60 ∧ x ≠ 62 ∧ x ≠ 34 ∧ x ≠ 39 := by
  induction l with
  | nil => simp [esc] at h
  | cons a t ih =>
    simp only [esc, List.mem_append] at h
    rcases h with h | h
    · exact esc1_mem a x h
    · exact ih h
theorem esc1_low (b : UInt8) (h : b.toNat < 128) (hm : may b.toNat = true) : ∀ x ∈ esc1 b, x.toNat < 128 ∧ may x.toNat = true := by
  intro x hx
  by_cases hf : five b = true
  · simp [five] at hf
    rcases hf with (((rfl | rfl) | rfl) | rfl) | rfl
    all_goals
      have key := (by decide : ∀ y ∈ esc1 38 ++ esc1 60 ++ esc1 62 ++ esc1 34 ++ esc1 39, y.toNat < 128 ∧ may y.toNat = true)
      exact key x (by simp only [List.mem_append]; simp [hx])
  · have hf' : five b = false := by simpa using hf
    rw [esc1_no hf'] at hx
    simp at hx
    subst hx
    exact ⟨h, hm⟩
/-- What is escaped is right. -/
theorem right_escF : ∀ (f : Nat) (l : List UInt8), l.length ≤ f → right l = true → right (esc l) = true := by
  intro f
  induction f with
  | zero =>
    intro l hf h
    have : l = [] := List.length_eq_zero_iff.1 (by omega)
    subst this
    rfl
  | succ f ihf =>
    intro l hf h
    by_cases hl : l = []
    · subst hl; rfl
    obtain ⟨n, h1, h2, h3, h4, h5⟩ := right_step h hl
    have ih := ihf (l.drop n) (by rw [List.length_drop]; omega) h5
    by_cases hn : n = 1
    · subst hn
      obtain ⟨a, t, rfl, ha, hv⟩ := (sgWay l).low (by rw [h3]; rfl)
      simp only [esc]
      exact right_low _ _ (esc1_low a ha (by rw [← hv]; exact h4)) (by simpa using ih)
    · have hh := ((sgWay l).high (by rw [h3]; omega)).2
      rw [h3] at hh
      simp only [Int.toNat_natCast] at hh
      have e1 : esc l = l.take n ++ esc (l.drop n) := by
        conv => lhs; rw [← List.take_append_drop n l]
        rw [esc_app, esc_no (l.take n) fun b hb => five_high (hh b hb)]
      have e2 : sg (l.take n ++ esc (l.drop n)) = sg l := by
        have e3 := sg_take l (by rw [h3]; omega)
        rw [h3] at e3
        simp only [Int.toNat_natCast] at e3
        rw [sg_app _ _ (by rw [e3, h3]; omega), e3]
      rw [e1]
      refine right_mk (n := n) h1 ?_ (by rw [e2]; exact h3) (by rw [e2]; exact h4) ?_
      · simp; omega
      · rw [List.drop_append_of_le_length (by simp; omega), List.drop_take]
        simpa using ih
theorem right_esc (l : List UInt8) (h : right l = true) : right (esc l) = true := right_escF l.length l (Nat.le_refl _) h

/-! ### back -/
/-- The sign for which what begins here stands, and its bytes. -/
def entAt (l : List UInt8) : Option (UInt8 × Nat) :=
  if Lib.hasPrefix l [38, 97, 109, 112, 59] then some (38, 5) else if Lib.hasPrefix l [38, 108, 116, 59] then some (60, 4) else if Lib.hasPrefix l [38, 103, 116, 59] then some (62, 4)
  else if Lib.hasPrefix l [38, 113, 117, 111, 116, 59] then some (34, 6) else if Lib.hasPrefix l [38, 97, 112, 111, 115, 59] then some (39, 6) else none
def unescF : Nat → List UInt8 → Option (List UInt8)
  | 0, _ => some []
  | _ + 1, [] => some []
  | f + 1, b :: t =>
    if b = 60 then none
    else if b = 38 then (match entAt (b :: t) with | none => none | some (c, n) => (unescF f ((b :: t).drop n)).map (c :: ·))
    else (unescF f t).map (b :: ·)
def unesc (l : List UInt8) : Option (List UInt8) := unescF l.length l
theorem entAt_n {l : List UInt8} {c : UInt8} {n : Nat} (h : entAt l = some (c, n)) : 4 ≤ n ∧ n ≤ 6 ∧ n ≤ l.length ∧ (∀ b ∈ l.take n, b.toNat < 128) ∧ c.toNat < 128 := by
  unfold entAt at h
  have key : ∀ p : List UInt8, Lib.hasPrefix l p = true → l.take p.length = p ∧ p.length ≤ l.length := by
    intro p hp
    unfold Lib.hasPrefix at hp
    obtain ⟨t, rfl⟩ := List.isPrefixOf_iff_prefix.1 hp
    simp
  repeat' split at h
  all_goals first
    | (simp only [Option.some.injEq, Prod.mk.injEq] at h
       obtain ⟨rfl, rfl⟩ := h
       rename_i hp
       obtain ⟨k1, k2⟩ := key _ hp
       simp only [List.length_cons, List.length_nil, Nat.zero_add, Nat.reduceAdd] at k1 k2
       rw [k1]
       exact ⟨by omega, by omega, k2, by decide, by decide⟩)
    | (cases h)
theorem unescF_enough : ∀ (f g : Nat) (l : List UInt8), l.length ≤ f → l.length ≤ g → unescF f l = unescF g l
  | 0, 0, _, _, _ => rfl
  | 0, g + 1, l, hf, _ => by
    have : l = [] := List.length_eq_zero_iff.1 (by omega)
    subst this
    rfl
  | f + 1, 0, l, _, hg => by
    have : l = [] := List.length_eq_zero_iff.1 (by omega)
    subst this
    rfl
  | f + 1, g + 1, [], _, _ => rfl
  | f + 1, g + 1, b :: t, hf, hg => by
    simp only [List.length_cons] at hf hg
    simp only [unescF]
    rw [unescF_enough f g t (by omega) (by omega)]
    cases he : entAt (b :: t) with
    | none => rfl
    | some cn =>
      obtain ⟨c, n⟩ := cn
      have := entAt_n he
      simp only
      rw [unescF_enough f g ((b :: t).drop n) (by simp; omega) (by simp; omega)]
theorem unesc_nil : unesc [] = some [] := rfl
theorem unesc_lt (t : List UInt8) : unesc (60 :: t) = none := by simp [unesc, unescF]
theorem unesc_amp_no (t : List UInt8) (h : entAt (38 :: t) = none) : unesc (38 :: t) = none := by simp [unesc, unescF, h]
theorem unesc_amp (t : List UInt8) (c : UInt8) (n : Nat) (h : entAt (38 :: t) = some (c, n)) : unesc (38 :: t) = (unesc ((38 :: t).drop n)).map (c :: ·) := by
  have hn := entAt_n h
  have e : unesc (38 :: t) = (unescF t.length ((38 :: t).drop n)).map (c :: ·) := by simp [unesc, unescF, h]
  rw [e, unescF_enough t.length ((38 :: t).drop n).length _ (by simp; omega) (Nat.le_refl _)]
  rfl
theorem unesc_other (b : UInt8) (t : List UInt8) (h1 : b ≠ 60) (h2 : b ≠ 38) : unesc (b :: t) = (unesc t).map (b :: ·) := by simp [unesc, unescF, h1, h2]
theorem unesc_others (p t : List UInt8) (h : ∀ b ∈ p, b ≠ 60 ∧ b ≠ 38) : unesc (p ++ t) = (unesc t).map (p ++ ·) := by
  induction p with
  | nil => simp
  | cons a p ih =>
    rw [List.cons_append, unesc_other a _ (h a (by simp)).1 (h a (by simp)).2, ih fun b hb => h b (by simp [hb])]
    cases unesc t with
    | none => rfl
    | some x => simp
/-- What is escaped comes back. -/
theorem unesc_esc1 (b : UInt8) (t : List UInt8) : unesc (esc1 b ++ t) = (unesc t).map (b :: ·) := by
  by_cases hf : five b = true
  · simp [five] at hf
    rcases hf with (((rfl | rfl) | rfl) | rfl) | rfl
    · exact unesc_amp _ 38 5 (by simp [entAt, Lib.hasPrefix])
    · exact unesc_amp _ 60 4 (by simp [entAt, Lib.hasPrefix])
    · exact unesc_amp _ 62 4 (by simp [entAt, Lib.hasPrefix])
    · exact unesc_amp _ 34 6 (by simp [entAt, Lib.hasPrefix])
    · exact unesc_amp _ 39 6 (by simp [entAt, Lib.hasPrefix])
  · have hf' : five b = false := by simpa using hf
    rw [esc1_no hf']
    simp [five] at hf
    exact unesc_other b t hf.1.1.1.2 hf.1.1.1.1
theorem unesc_esc (l : List UInt8) : unesc (esc l) = some l := by
  induction l with
  | nil => rfl
  | cons a t ih => simp [esc, unesc_esc1, ih]
/-! ### names -/
def isLet (b : UInt8) : Bool := decide (97 ≤ b.toNat ∧ b.toNat ≤ 122)
def isLat (b : UInt8) : Bool := decide (48 ≤ b.toNat ∧ b.toNat ≤ 57) || b == 45 || b == 58
def nameAll (first : Bool) : List UInt8 → Bool
  | [] => true
  | a :: t => (isLet a || (!first && isLat a)) && nameAll false t
def name (l : List UInt8) : Bool := decide (1 ≤ l.length ∧ l.length ≤ 16) && nameAll true l
theorem nameAll_app (a b : List UInt8) (ha : a ≠ []) (first : Bool) : nameAll first (a ++ b) = (nameAll first a && nameAll false b) := by
  induction a generalizing first with
  | nil => exact absurd rfl ha
  | cons x t ih =>
    cases t with
    | nil => simp [nameAll]
    | cons y u =>
      have e := ih (by simp) false
      show ((isLet x || !first && isLat x) && nameAll false (y :: u ++ b)) = (((isLet x || !first && isLat x) && nameAll false (y :: u)) && nameAll false b)
      rw [e, Bool.and_assoc]
theorem name_mem {l : List UInt8} {first : Bool} (h : nameAll first l = true) : ∀ b ∈ l, isLet b = true ∨ isLat b = true := by
  induction l generalizing first with
  | nil => simp
  | cons a t ih =>
    simp [nameAll] at h
    intro b hb
    rcases List.mem_cons.1 hb with rfl | hb
    · rcases h.1 with h | h
      · exact .inl h
      · exact .inr h.2
    · exact ih h.2 b hb
set_option maxRecDepth 100000 in
theorem let_low {b : UInt8} (h : isLet b = true ∨ isLat b = true) : b.toNat < 128 ∧ may b.toNat = true ∧ five b = false := by
  have : ∀ n : Fin 256, (isLet (UInt8.ofNat n.val) = true ∨ isLat (UInt8.ofNat n.val) = true) → (UInt8.ofNat n.val).toNat < 128 ∧ may (UInt8.ofNat n.val).toNat = true ∧ five (UInt8.ofNat n.val) = false := by decide
  have h2 := this ⟨b.toNat, b.toNat_lt⟩
  simp only [UInt8.ofNat_toNat] at h2
  exact h2 h
theorem name_right (l : List UInt8) (h : name l = true) : right l = true ∧ esc l = l := by
  simp [name] at h
  have hm := name_mem h.2
  refine ⟨?_, esc_no l fun b hb => (let_low (hm b hb)).2.2⟩
  have := right_low l [] (fun b hb => ⟨(let_low (hm b hb)).1, (let_low (hm b hb)).2.1⟩) right_nil
  simpa using this
theorem name_take (l : List UInt8) (h : name l = true) (k : Nat) (h1 : 1 ≤ k) : name (l.take k) = true := by
  simp only [name, Bool.and_eq_true, decide_eq_true_eq] at *
  refine ⟨by simp; omega, ?_⟩
  have e := nameAll_app (l.take k) (l.drop k) (by
    intro e
    have e1 := congrArg List.length e
    rw [List.length_take, List.length_nil] at e1
    omega) true
  rw [List.take_append_drop, h.2] at e
  have e2 := e.symm
  rw [Bool.and_eq_true] at e2
  exact e2.1
theorem name_snoc (l : List UInt8) (h : name l = true) (b : UInt8) : name (l ++ [b]) = (decide (l.length < 16) && (isLet b || isLat b)) := by
  simp only [name, Bool.and_eq_true, decide_eq_true_eq] at h
  have hl : l ≠ [] := by rintro rfl; simp at h
  unfold name
  rw [nameAll_app l [b] hl, h.2]
  simp [nameAll]
  have : decide (l.length ≤ 15) = decide (l.length < 16) := by simp; omega
  rw [this]
theorem name_zero (l : List UInt8) : name (48 :: l) = false := by
  have : isLet 48 = false := by decide
  simp [name, nameAll, this]
theorem name_one (b : UInt8) : name [b] = isLet b := by simp [name, nameAll]
end Go.Proofs.YthekdgnikkjpdaaGreatDoor
