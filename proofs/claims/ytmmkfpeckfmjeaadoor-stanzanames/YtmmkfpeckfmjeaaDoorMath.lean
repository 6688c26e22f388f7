/-
  Plain Lean, no program in it: the sign at the head of a list of bytes, how many bytes of a list are whole signs, what stands for the five signs and back, which lists are names; and the laws on them that stage 1's statements say.
-/
import GoSem.Core.Utf8
import Derived.Lib.RuneBytes
import Derived.Lib.Strings
namespace Go.Proofs.YtmmkfpeckfmjeaaDoor

/-- A byte that goes on with a sign. -/
def cont (b : UInt8) : Bool := decide (128 ≤ b.toNat ∧ b.toNat < 192)
def ok3 (a : Nat) (b : UInt8) : Bool := decide (128 ≤ b.toNat ∧ b.toNat < 192 ∧ (a = 0 → 160 ≤ b.toNat) ∧ (a = 13 → b.toNat < 160))
def ok4 (a : Nat) (b : UInt8) : Bool := decide (128 ≤ b.toNat ∧ b.toNat < 192 ∧ (a = 0 → 144 ≤ b.toNat) ∧ (a = 4 → b.toNat < 144))
def sg2 (a : Nat) : List UInt8 → Nat × Int
  | [] => (0, -1)
  | b :: _ => if cont b then (a * 64 + (b.toNat - 128), 2) else (0, 0)
def sg3b (x : Nat) : List UInt8 → Nat × Int
  | [] => (0, -1)
  | c :: _ => if cont c then (x * 64 + (c.toNat - 128), 3) else (0, 0)
def sg3 (a : Nat) : List UInt8 → Nat × Int
  | [] => (0, -1)
  | b :: t => if ok3 a b then sg3b (a * 64 + (b.toNat - 128)) t else (0, 0)
def sg4c (x : Nat) : List UInt8 → Nat × Int
  | [] => (0, -1)
  | d :: _ => if cont d then (x * 64 + (d.toNat - 128), 4) else (0, 0)
def sg4b (x : Nat) : List UInt8 → Nat × Int
  | [] => (0, -1)
  | c :: t => if cont c then sg4c (x * 64 + (c.toNat - 128)) t else (0, 0)
def sg4 (a : Nat) : List UInt8 → Nat × Int
  | [] => (0, -1)
  | b :: t => if ok4 a b then sg4b (a * 64 + (b.toNat - 128)) t else (0, 0)
/-- The sign at the head, and how many bytes it has; 0: they are none's; -1: they may be the beginning of one. -/
def sg : List UInt8 → Nat × Int
  | [] => (0, -1)
  | a :: t =>
    if a.toNat < 128 then (a.toNat, 1)
    else if 194 ≤ a.toNat ∧ a.toNat < 224 then sg2 (a.toNat - 192) t
    else if 224 ≤ a.toNat ∧ a.toNat < 240 then sg3 (a.toNat - 224) t
    else if 240 ≤ a.toNat ∧ a.toNat < 245 then sg4 (a.toNat - 240) t
    else (0, 0)

/-- The ways that a sign can be read: what each says of the bytes; read as: whatever holds of all these ways holds of this one. -/
def SgWay (l : List UInt8) (r : Nat × Int) : Prop :=
  ∀ P : List UInt8 → Nat × Int → Prop,
    (P [] (0, -1)) →
    (∀ (a : UInt8) (t : List UInt8), a.toNat < 128 → P (a :: t) (a.toNat, 1)) →
    (∀ (a : UInt8) (t : List UInt8), 128 ≤ a.toNat → (a.toNat < 194 ∨ 245 ≤ a.toNat) → P (a :: t) (0, 0)) →
    (∀ (a : UInt8), 194 ≤ a.toNat → a.toNat < 224 → P [a] (0, -1)) →
    (∀ (a b : UInt8) (t : List UInt8), 194 ≤ a.toNat → a.toNat < 224 → 128 ≤ b.toNat → b.toNat < 192 → P (a :: b :: t) ((a.toNat - 192) * 64 + (b.toNat - 128), 2)) →
    (∀ (a b : UInt8) (t : List UInt8), 194 ≤ a.toNat → a.toNat < 224 → (b.toNat < 128 ∨ 192 ≤ b.toNat) → P (a :: b :: t) (0, 0)) →
    (∀ (a : UInt8), 224 ≤ a.toNat → a.toNat < 240 → P [a] (0, -1)) →
    (∀ (a b : UInt8), 224 ≤ a.toNat → a.toNat < 240 → ok3 (a.toNat - 224) b = true → P [a, b] (0, -1)) →
    (∀ (a b : UInt8) (t : List UInt8), 224 ≤ a.toNat → a.toNat < 240 → ok3 (a.toNat - 224) b = false → P (a :: b :: t) (0, 0)) →
    (∀ (a b c : UInt8) (t : List UInt8), 224 ≤ a.toNat → a.toNat < 240 → ok3 (a.toNat - 224) b = true → 128 ≤ c.toNat → c.toNat < 192 → P (a :: b :: c :: t) (((a.toNat - 224) * 64 + (b.toNat - 128)) * 64 + (c.toNat - 128), 3)) →
    (∀ (a b c : UInt8) (t : List UInt8), 224 ≤ a.toNat → a.toNat < 240 → ok3 (a.toNat - 224) b = true → (c.toNat < 128 ∨ 192 ≤ c.toNat) → P (a :: b :: c :: t) (0, 0)) →
    (∀ (a : UInt8), 240 ≤ a.toNat → a.toNat < 245 → P [a] (0, -1)) →
    (∀ (a b : UInt8), 240 ≤ a.toNat → a.toNat < 245 → ok4 (a.toNat - 240) b = true → P [a, b] (0, -1)) →
    (∀ (a b : UInt8) (t : List UInt8), 240 ≤ a.toNat → a.toNat < 245 → ok4 (a.toNat - 240) b = false → P (a :: b :: t) (0, 0)) →
    (∀ (a b c : UInt8), 240 ≤ a.toNat → a.toNat < 245 → ok4 (a.toNat - 240) b = true → 128 ≤ c.toNat → c.toNat < 192 → P [a, b, c] (0, -1)) →
    (∀ (a b c : UInt8) (t : List UInt8), 240 ≤ a.toNat → a.toNat < 245 → ok4 (a.toNat - 240) b = true → (c.toNat < 128 ∨ 192 ≤ c.toNat) → P (a :: b :: c :: t) (0, 0)) →
    (∀ (a b c d : UInt8) (t : List UInt8), 240 ≤ a.toNat → a.toNat < 245 → ok4 (a.toNat - 240) b = true → 128 ≤ c.toNat → c.toNat < 192 → 128 ≤ d.toNat → d.toNat < 192 → P (a :: b :: c :: d :: t) ((((a.toNat - 240) * 64 + (b.toNat - 128)) * 64 + (c.toNat - 128)) * 64 + (d.toNat - 128), 4)) →
    (∀ (a b c d : UInt8) (t : List UInt8), 240 ≤ a.toNat → a.toNat < 245 → ok4 (a.toNat - 240) b = true → 128 ≤ c.toNat → c.toNat < 192 → (d.toNat < 128 ∨ 192 ≤ d.toNat) → P (a :: b :: c :: d :: t) (0, 0)) →
    P l r
theorem SgWay.nil : SgWay [] (0, -1) := fun _ f _ _ _ _ _ _ _ _ _ _ _ _ _ _ _ _ _ => f 
theorem SgWay.one (a : UInt8) (t : List UInt8) (h : a.toNat < 128) : SgWay (a :: t) (a.toNat, 1) := fun _ _ f _ _ _ _ _ _ _ _ _ _ _ _ _ _ _ _ => f a t h
theorem SgWay.bad0 (a : UInt8) (t : List UInt8) (h : 128 ≤ a.toNat) (h' : a.toNat < 194 ∨ 245 ≤ a.toNat) : SgWay (a :: t) (0, 0) := fun _ _ _ f _ _ _ _ _ _ _ _ _ _ _ _ _ _ _ => f a t h h'
theorem SgWay.part2 (a : UInt8) (h : 194 ≤ a.toNat) (h' : a.toNat < 224) : SgWay [a] (0, -1) := fun _ _ _ _ f _ _ _ _ _ _ _ _ _ _ _ _ _ _ => f a h h'
theorem SgWay.two (a b : UInt8) (t : List UInt8) (h : 194 ≤ a.toNat) (h' : a.toNat < 224) (hb : 128 ≤ b.toNat) (hb' : b.toNat < 192) : SgWay (a :: b :: t) ((a.toNat - 192) * 64 + (b.toNat - 128), 2) := fun _ _ _ _ _ f _ _ _ _ _ _ _ _ _ _ _ _ _ => f a b t h h' hb hb'
theorem SgWay.bad2 (a b : UInt8) (t : List UInt8) (h : 194 ≤ a.toNat) (h' : a.toNat < 224) (hb : b.toNat < 128 ∨ 192 ≤ b.toNat) : SgWay (a :: b :: t) (0, 0) := fun _ _ _ _ _ _ f _ _ _ _ _ _ _ _ _ _ _ _ => f a b t h h' hb
theorem SgWay.part3a (a : UInt8) (h : 224 ≤ a.toNat) (h' : a.toNat < 240) : SgWay [a] (0, -1) := fun _ _ _ _ _ _ _ f _ _ _ _ _ _ _ _ _ _ _ => f a h h'
theorem SgWay.part3b (a b : UInt8) (h : 224 ≤ a.toNat) (h' : a.toNat < 240) (hb : ok3 (a.toNat - 224) b = true) : SgWay [a, b] (0, -1) := fun _ _ _ _ _ _ _ _ f _ _ _ _ _ _ _ _ _ _ => f a b h h' hb
theorem SgWay.bad3b (a b : UInt8) (t : List UInt8) (h : 224 ≤ a.toNat) (h' : a.toNat < 240) (hb : ok3 (a.toNat - 224) b = false) : SgWay (a :: b :: t) (0, 0) := fun _ _ _ _ _ _ _ _ _ f _ _ _ _ _ _ _ _ _ => f a b t h h' hb
theorem SgWay.three (a b c : UInt8) (t : List UInt8) (h : 224 ≤ a.toNat) (h' : a.toNat < 240) (hb : ok3 (a.toNat - 224) b = true) (hc : 128 ≤ c.toNat) (hc' : c.toNat < 192) : SgWay (a :: b :: c :: t) (((a.toNat - 224) * 64 + (b.toNat - 128)) * 64 + (c.toNat - 128), 3) := fun _ _ _ _ _ _ _ _ _ _ f _ _ _ _ _ _ _ _ => f a b c t h h' hb hc hc'
theorem SgWay.bad3c (a b c : UInt8) (t : List UInt8) (h : 224 ≤ a.toNat) (h' : a.toNat < 240) (hb : ok3 (a.toNat - 224) b = true) (hc : c.toNat < 128 ∨ 192 ≤ c.toNat) : SgWay (a :: b :: c :: t) (0, 0) := fun _ _ _ _ _ _ _ _ _ _ _ f _ _ _ _ _ _ _ => f a b c t h h' hb hc
theorem SgWay.part4a (a : UInt8) (h : 240 ≤ a.toNat) (h' : a.toNat < 245) : SgWay [a] (0, -1) := fun _ _ _ _ _ _ _ _ _ _ _ _ f _ _ _ _ _ _ => f a h h'
theorem SgWay.part4b (a b : UInt8) (h : 240 ≤ a.toNat) (h' : a.toNat < 245) (hb : ok4 (a.toNat - 240) b = true) : SgWay [a, b] (0, -1) := fun _ _ _ _ _ _ _ _ _ _ _ _ _ f _ _ _ _ _ => f a b h h' hb
theorem SgWay.bad4b (a b : UInt8) (t : List UInt8) (h : 240 ≤ a.toNat) (h' : a.toNat < 245) (hb : ok4 (a.toNat - 240) b = false) : SgWay (a :: b :: t) (0, 0) := fun _ _ _ _ _ _ _ _ _ _ _ _ _ _ f _ _ _ _ => f a b t h h' hb
theorem SgWay.part4c (a b c : UInt8) (h : 240 ≤ a.toNat) (h' : a.toNat < 245) (hb : ok4 (a.toNat - 240) b = true) (hc : 128 ≤ c.toNat) (hc' : c.toNat < 192) : SgWay [a, b, c] (0, -1) := fun _ _ _ _ _ _ _ _ _ _ _ _ _ _ _ f _ _ _ => f a b c h h' hb hc hc'
theorem SgWay.bad4c (a b c : UInt8) (t : List UInt8) (h : 240 ≤ a.toNat) (h' : a.toNat < 245) (hb : ok4 (a.toNat - 240) b = true) (hc : c.toNat < 128 ∨ 192 ≤ c.toNat) : SgWay (a :: b :: c :: t) (0, 0) := fun _ _ _ _ _ _ _ _ _ _ _ _ _ _ _ _ f _ _ => f a b c t h h' hb hc
theorem SgWay.four (a b c d : UInt8) (t : List UInt8) (h : 240 ≤ a.toNat) (h' : a.toNat < 245) (hb : ok4 (a.toNat - 240) b = true) (hc : 128 ≤ c.toNat) (hc' : c.toNat < 192) (hd : 128 ≤ d.toNat) (hd' : d.toNat < 192) : SgWay (a :: b :: c :: d :: t) ((((a.toNat - 240) * 64 + (b.toNat - 128)) * 64 + (c.toNat - 128)) * 64 + (d.toNat - 128), 4) := fun _ _ _ _ _ _ _ _ _ _ _ _ _ _ _ _ _ f _ => f a b c d t h h' hb hc hc' hd hd'
theorem SgWay.bad4d (a b c d : UInt8) (t : List UInt8) (h : 240 ≤ a.toNat) (h' : a.toNat < 245) (hb : ok4 (a.toNat - 240) b = true) (hc : 128 ≤ c.toNat) (hc' : c.toNat < 192) (hd : d.toNat < 128 ∨ 192 ≤ d.toNat) : SgWay (a :: b :: c :: d :: t) (0, 0) := fun _ _ _ _ _ _ _ _ _ _ _ _ _ _ _ _ _ _ f => f a b c d t h h' hb hc hc' hd

theorem cont_no {b : UInt8} (h : ¬ cont b = true) : b.toNat < 128 ∨ 192 ≤ b.toNat := by simp [cont] at h; omega
theorem cont_yes {b : UInt8} (h : cont b = true) : 128 ≤ b.toNat ∧ b.toNat < 192 := by simpa [cont] using h
theorem cont_mk {b : UInt8} (h : 128 ≤ b.toNat) (h' : b.toNat < 192) : cont b = true := by simp [cont, h, h']
theorem cont_mk_no {b : UInt8} (h : b.toNat < 128 ∨ 192 ≤ b.toNat) : cont b = false := by simp [cont]; omega

theorem sg_lo (a : UInt8) (t : List UInt8) (h : a.toNat < 128) : sg (a :: t) = (a.toNat, 1) := by simp only [sg, if_pos h]
theorem sg_is2 (a : UInt8) (t : List UInt8) (h : 194 ≤ a.toNat) (h' : a.toNat < 224) : sg (a :: t) = sg2 (a.toNat - 192) t := by
  have h1 : ¬ a.toNat < 128 := by omega
  simp only [sg, if_neg h1, if_pos (And.intro h h')]
theorem sg_is3 (a : UInt8) (t : List UInt8) (h : 224 ≤ a.toNat) (h' : a.toNat < 240) : sg (a :: t) = sg3 (a.toNat - 224) t := by
  have h1 : ¬ a.toNat < 128 := by omega
  have h2 : ¬ (194 ≤ a.toNat ∧ a.toNat < 224) := by omega
  simp only [sg, if_neg h1, if_neg h2, if_pos (And.intro h h')]
theorem sg_is4 (a : UInt8) (t : List UInt8) (h : 240 ≤ a.toNat) (h' : a.toNat < 245) : sg (a :: t) = sg4 (a.toNat - 240) t := by
  have h1 : ¬ a.toNat < 128 := by omega
  have h2 : ¬ (194 ≤ a.toNat ∧ a.toNat < 224) := by omega
  have h3 : ¬ (224 ≤ a.toNat ∧ a.toNat < 240) := by omega
  simp only [sg, if_neg h1, if_neg h2, if_neg h3, if_pos (And.intro h h')]
theorem sg_isBad (a : UInt8) (t : List UInt8) (h : 128 ≤ a.toNat) (h' : a.toNat < 194 ∨ 245 ≤ a.toNat) : sg (a :: t) = (0, 0) := by
  have h1 : ¬ a.toNat < 128 := by omega
  have h2 : ¬ (194 ≤ a.toNat ∧ a.toNat < 224) := by omega
  have h3 : ¬ (224 ≤ a.toNat ∧ a.toNat < 240) := by omega
  have h4 : ¬ (240 ≤ a.toNat ∧ a.toNat < 245) := by omega
  simp only [sg, if_neg h1, if_neg h2, if_neg h3, if_neg h4]

theorem SgWay.eq {l : List UInt8} {r : Nat × Int} (h : SgWay l r) : sg l = r := by
  refine h (fun l r => sg l = r) ?nil ?one ?bad0 ?part2 ?two ?bad2 ?part3a ?part3b ?bad3b ?three ?bad3c ?part4a ?part4b ?bad4b ?part4c ?bad4c ?four ?bad4d
  case nil =>
    rfl
  case one =>
    intro a t h
    exact sg_lo a t h
  case bad0 =>
    intro a t h h'
    exact sg_isBad a t h h'
  case part2 =>
    intro a h h'
    rw [sg_is2 a _ h h']; rfl
  case two =>
    intro a b t h h' hb hb'
    rw [sg_is2 a _ h h']; simp [sg2, cont_mk hb hb']
  case bad2 =>
    intro a b t h h' hb
    rw [sg_is2 a _ h h']; simp [sg2, cont_mk_no hb]
  case part3a =>
    intro a h h'
    rw [sg_is3 a _ h h']; rfl
  case part3b =>
    intro a b h h' hb
    rw [sg_is3 a _ h h']; simp [sg3, hb, sg3b]
  case bad3b =>
    intro a b t h h' hb
    rw [sg_is3 a _ h h']; simp [sg3, hb]
  case three =>
    intro a b c t h h' hb hc hc'
    rw [sg_is3 a _ h h']; simp [sg3, hb, sg3b, cont_mk hc hc']
  case bad3c =>
    intro a b c t h h' hb hc
    rw [sg_is3 a _ h h']; simp [sg3, hb, sg3b, cont_mk_no hc]
  case part4a =>
    intro a h h'
    rw [sg_is4 a _ h h']; rfl
  case part4b =>
    intro a b h h' hb
    rw [sg_is4 a _ h h']; simp [sg4, hb, sg4b]
  case bad4b =>
    intro a b t h h' hb
    rw [sg_is4 a _ h h']; simp [sg4, hb]
  case part4c =>
    intro a b c h h' hb hc hc'
    rw [sg_is4 a _ h h']; simp [sg4, hb, sg4b, cont_mk hc hc', sg4c]
  case bad4c =>
    intro a b c t h h' hb hc
    rw [sg_is4 a _ h h']; simp [sg4, hb, sg4b, cont_mk_no hc]
  case four =>
    intro a b c d t h h' hb hc hc' hd hd'
    rw [sg_is4 a _ h h']; simp [sg4, hb, sg4b, cont_mk hc hc', sg4c, cont_mk hd hd']
  case bad4d =>
    intro a b c d t h h' hb hc hc' hd
    rw [sg_is4 a _ h h']; simp [sg4, hb, sg4b, cont_mk hc hc', sg4c, cont_mk_no hd]

theorem sgWay_ex : ∀ l : List UInt8, ∃ r, SgWay l r
  | [] => ⟨_, .nil⟩
  | a :: t => by
    by_cases h1 : a.toNat < 128
    · exact ⟨_, .one a t h1⟩
    by_cases h2 : a.toNat < 194 ∨ 245 ≤ a.toNat
    · exact ⟨_, .bad0 a t (by omega) h2⟩
    by_cases h3 : a.toNat < 224
    · match t with
      | [] => exact ⟨_, .part2 a (by omega) h3⟩
      | b :: t =>
        by_cases hb : 128 ≤ b.toNat ∧ b.toNat < 192
        · exact ⟨_, .two a b t (by omega) h3 hb.1 hb.2⟩
        · exact ⟨_, .bad2 a b t (by omega) h3 (by omega)⟩
    by_cases h4 : a.toNat < 240
    · match t with
      | [] => exact ⟨_, .part3a a (by omega) h4⟩
      | b :: t =>
        by_cases hb : ok3 (a.toNat - 224) b = true
        · match t with
          | [] => exact ⟨_, .part3b a b (by omega) h4 hb⟩
          | c :: t =>
            by_cases hc : 128 ≤ c.toNat ∧ c.toNat < 192
            · exact ⟨_, .three a b c t (by omega) h4 hb hc.1 hc.2⟩
            · exact ⟨_, .bad3c a b c t (by omega) h4 hb (by omega)⟩
        · exact ⟨_, .bad3b a b t (by omega) h4 (by simpa using hb)⟩
    · match t with
      | [] => exact ⟨_, .part4a a (by omega) (by omega)⟩
      | b :: t =>
        by_cases hb : ok4 (a.toNat - 240) b = true
        · match t with
          | [] => exact ⟨_, .part4b a b (by omega) (by omega) hb⟩
          | c :: t =>
            by_cases hc : 128 ≤ c.toNat ∧ c.toNat < 192
            · match t with
              | [] => exact ⟨_, .part4c a b c (by omega) (by omega) hb hc.1 hc.2⟩
              | d :: t =>
                by_cases hd : 128 ≤ d.toNat ∧ d.toNat < 192
                · exact ⟨_, .four a b c d t (by omega) (by omega) hb hc.1 hc.2 hd.1 hd.2⟩
                · exact ⟨_, .bad4d a b c d t (by omega) (by omega) hb hc.1 hc.2 (by omega)⟩
            · exact ⟨_, .bad4c a b c t (by omega) (by omega) hb (by omega)⟩
        · exact ⟨_, .bad4b a b t (by omega) (by omega) (by simpa using hb)⟩
theorem sgWay (l : List UInt8) : SgWay l (sg l) := by
  obtain ⟨r, h⟩ := sgWay_ex l
  rw [h.eq]
  exact h

theorem SgWay.range {l : List UInt8} {r : Nat × Int} (h : SgWay l r) : (r.2 = -1 ∧ l.length ≤ 3) ∨ (r.2 = 0 ∧ l ≠ []) ∨ ∃ n : Nat, r.2 = n ∧ 1 ≤ n ∧ n ≤ 4 ∧ n ≤ l.length := by
  refine h (fun l r => (r.2 = -1 ∧ l.length ≤ 3) ∨ (r.2 = 0 ∧ l ≠ []) ∨ ∃ n : Nat, r.2 = n ∧ 1 ≤ n ∧ n ≤ 4 ∧ n ≤ l.length) ?nil ?one ?bad0 ?part2 ?two ?bad2 ?part3a ?part3b ?bad3b ?three ?bad3c ?part4a ?part4b ?bad4b ?part4c ?bad4c ?four ?bad4d
  case nil => exact .inl ⟨rfl, by simp⟩
  case one => intros; exact .inr (.inr ⟨1, rfl, by omega, by omega, by simp⟩)
  case two => intros; exact .inr (.inr ⟨2, rfl, by omega, by omega, by simp⟩)
  case three => intros; exact .inr (.inr ⟨3, rfl, by omega, by omega, by simp⟩)
  case four => intros; exact .inr (.inr ⟨4, rfl, by omega, by omega, by simp⟩)
  all_goals
    intros
    first
      | exact .inl ⟨rfl, by simp⟩
      | exact .inr (.inl ⟨rfl, by simp⟩)
theorem sg_range (l : List UInt8) : ((sg l).2 = -1 ∧ l.length ≤ 3) ∨ ((sg l).2 = 0 ∧ l ≠ []) ∨ ∃ n : Nat, (sg l).2 = n ∧ 1 ≤ n ∧ n ≤ 4 ∧ n ≤ l.length := (sgWay l).range

/-- A sign stands by its own bytes: what follows them turns nothing. -/
theorem SgWay.app {l : List UInt8} {r : Nat × Int} (h : SgWay l r) (hr : 1 ≤ r.2) (t' : List UInt8) : SgWay (l ++ t') r := by
  revert hr
  refine h (fun l r => 1 ≤ r.2 → SgWay (l ++ t') r) ?nil ?one ?bad0 ?part2 ?two ?bad2 ?part3a ?part3b ?bad3b ?three ?bad3c ?part4a ?part4b ?bad4b ?part4c ?bad4c ?four ?bad4d
  case one =>
    intro a t h hr
    exact SgWay.one a _ h
  case two =>
    intro a b t h h' hb hb' hr
    exact SgWay.two a b _ h h' hb hb'
  case three =>
    intro a b c t h h' hb hc hc' hr
    exact SgWay.three a b c _ h h' hb hc hc'
  case four =>
    intro a b c d t h h' hb hc hc' hd hd' hr
    exact SgWay.four a b c d _ h h' hb hc hc' hd hd'
  all_goals
    intros
    rename_i hr
    simp at hr
theorem SgWay.take {l : List UInt8} {r : Nat × Int} (h : SgWay l r) (hr : 1 ≤ r.2) : SgWay (l.take r.2.toNat) r := by
  revert hr
  refine h (fun l r => 1 ≤ r.2 → SgWay (l.take r.2.toNat) r) ?nil ?one ?bad0 ?part2 ?two ?bad2 ?part3a ?part3b ?bad3b ?three ?bad3c ?part4a ?part4b ?bad4b ?part4c ?bad4c ?four ?bad4d
  case one =>
    intro a t h hr
    exact SgWay.one a _ h
  case two =>
    intro a b t h h' hb hb' hr
    exact SgWay.two a b _ h h' hb hb'
  case three =>
    intro a b c t h h' hb hc hc' hr
    exact SgWay.three a b c _ h h' hb hc hc'
  case four =>
    intro a b c d t h h' hb hc hc' hd hd' hr
    exact SgWay.four a b c d _ h h' hb hc hc' hd hd'
  all_goals
    intros
    rename_i hr
    simp at hr
theorem SgWay.appBad {l : List UInt8} {r : Nat × Int} (h : SgWay l r) (hr : r.2 = 0) (t' : List UInt8) : SgWay (l ++ t') (0, 0) := by
  revert hr
  refine h (fun l r => r.2 = 0 → SgWay (l ++ t') (0, 0)) ?nil ?one ?bad0 ?part2 ?two ?bad2 ?part3a ?part3b ?bad3b ?three ?bad3c ?part4a ?part4b ?bad4b ?part4c ?bad4c ?four ?bad4d
  case bad0 =>
    intro a t h h' hr
    exact SgWay.bad0 a _ h h'
  case bad2 =>
    intro a b t h h' hb hr
    exact SgWay.bad2 a b _ h h' hb
  case bad3b =>
    intro a b t h h' hb hr
    exact SgWay.bad3b a b _ h h' hb
  case bad3c =>
    intro a b c t h h' hb hc hr
    exact SgWay.bad3c a b c _ h h' hb hc
  case bad4b =>
    intro a b t h h' hb hr
    exact SgWay.bad4b a b _ h h' hb
  case bad4c =>
    intro a b c t h h' hb hc hr
    exact SgWay.bad4c a b c _ h h' hb hc
  case bad4d =>
    intro a b c d t h h' hb hc hc' hd hr
    exact SgWay.bad4d a b c d _ h h' hb hc hc' hd
  all_goals
    intros
    rename_i hr
    simp at hr
theorem sg_app (l t : List UInt8) (h : 1 ≤ (sg l).2) : sg (l ++ t) = sg l := ((sgWay l).app h t).eq
theorem sg_take (l : List UInt8) (h : 1 ≤ (sg l).2) : sg (l.take (sg l).2.toNat) = sg l := ((sgWay l).take h).eq
theorem sg_appBad (l t : List UInt8) (h : (sg l).2 = 0) : sg (l ++ t) = (0, 0) := ((sgWay l).appBad h t).eq

/-! ### what the model's decoder reads -/
def decL (l : List UInt8) : Nat × Nat :=
  if (l.getD 0 0).toNat < 128 then ((l.getD 0 0).toNat, 1)
  else if (l.getD 0 0).toNat / 32 = 6 ∧ 1 < l.length ∧ (l.getD 1 0).toNat / 64 = 2 then
    if 128 ≤ (l.getD 0 0).toNat % 32 * 64 + (l.getD 1 0).toNat % 64 then ((l.getD 0 0).toNat % 32 * 64 + (l.getD 1 0).toNat % 64, 2) else (65533, 1)
  else if (l.getD 0 0).toNat / 16 = 14 ∧ (1 < l.length ∧ (l.getD 1 0).toNat / 64 = 2) ∧ 2 < l.length ∧ (l.getD 2 0).toNat / 64 = 2 then
    if 2048 ≤ (l.getD 0 0).toNat % 16 * 4096 + (l.getD 1 0).toNat % 64 * 64 + (l.getD 2 0).toNat % 64 ∧ Utf8.valid (((l.getD 0 0).toNat % 16 * 4096 + (l.getD 1 0).toNat % 64 * 64 + (l.getD 2 0).toNat % 64 : Nat) : Int) = true
      then ((l.getD 0 0).toNat % 16 * 4096 + (l.getD 1 0).toNat % 64 * 64 + (l.getD 2 0).toNat % 64, 3) else (65533, 1)
  else if (l.getD 0 0).toNat / 8 = 30 ∧ (1 < l.length ∧ (l.getD 1 0).toNat / 64 = 2) ∧ (2 < l.length ∧ (l.getD 2 0).toNat / 64 = 2) ∧ 3 < l.length ∧ (l.getD 3 0).toNat / 64 = 2 then
    if 65536 ≤ (l.getD 0 0).toNat % 8 * 262144 + (l.getD 1 0).toNat % 64 * 4096 + (l.getD 2 0).toNat % 64 * 64 + (l.getD 3 0).toNat % 64 ∧ Utf8.valid (((l.getD 0 0).toNat % 8 * 262144 + (l.getD 1 0).toNat % 64 * 4096 + (l.getD 2 0).toNat % 64 * 64 + (l.getD 3 0).toNat % 64 : Nat) : Int) = true
      then ((l.getD 0 0).toNat % 8 * 262144 + (l.getD 1 0).toNat % 64 * 4096 + (l.getD 2 0).toNat % 64 * 64 + (l.getD 3 0).toNat % 64, 4) else (65533, 1)
  else (65533, 1)

theorem get_drop (s : ByteArray) (i k : Nat) : s.get! (i + k) = (s.data.toList.drop i).getD k 0 := by
  simp [ByteArray.get!, List.getD, Array.getElem!_eq_getD, Array.getD_eq_getD_getElem?]
  rfl
theorem decode_decL (s : ByteArray) (i : Nat) : Utf8.decode s i = decL (s.data.toList.drop i) := by
  have h1 : ∀ k, s.get! (i + k) = (s.data.toList.drop i).getD k 0 := get_drop s i
  have h2 : ∀ k, (i + k < s.size) = (k < (s.data.toList.drop i).length) := by
    intro k
    have : s.size = s.data.toList.length := Array.length_toList.symm
    rw [this, List.length_drop, eq_iff_iff]
    omega
  unfold Utf8.decode decL
  simp only [h1, h2, Utf8.runeError, ge_iff_le, Bool.and_eq_true, decide_eq_true_eq, beq_iff_eq, and_assoc]

theorem valid_iff (r : Nat) : Utf8.valid (r : Int) = true ↔ (r < 55296 ∨ (57344 ≤ r ∧ r ≤ 1114111)) := by
  unfold Utf8.valid
  simp
  omega
theorem ok3_iff (a : Nat) (b : UInt8) : ok3 a b = true ↔ (128 ≤ b.toNat ∧ b.toNat < 192 ∧ (a = 0 → 160 ≤ b.toNat) ∧ (a = 13 → b.toNat < 160)) := by unfold ok3; exact decide_eq_true_iff
theorem ok4_iff (a : Nat) (b : UInt8) : ok4 a b = true ↔ (128 ≤ b.toNat ∧ b.toNat < 192 ∧ (a = 0 → 144 ≤ b.toNat) ∧ (a = 4 → b.toNat < 144)) := by unfold ok4; exact decide_eq_true_iff
theorem ok3_no (a : Nat) (b : UInt8) : ok3 a b = false ↔ ¬ (128 ≤ b.toNat ∧ b.toNat < 192 ∧ (a = 0 → 160 ≤ b.toNat) ∧ (a = 13 → b.toNat < 160)) := by rw [← ok3_iff]; simp
theorem ok4_no (a : Nat) (b : UInt8) : ok4 a b = false ↔ ¬ (128 ≤ b.toNat ∧ b.toNat < 192 ∧ (a = 0 → 144 ≤ b.toNat) ∧ (a = 4 → b.toNat < 144)) := by rw [← ok4_iff]; simp

theorem decL_way {l : List UInt8} {r : Nat × Int} (h : SgWay l r) (hl : l ≠ []) : decL l = if 1 ≤ r.2 then (r.1, r.2.toNat) else (65533, 1) := by
  have hlt : ∀ x : UInt8, x.toNat < 256 := fun x => x.toNat_lt
  revert hl
  refine h (fun l r => l ≠ [] → decL l = if 1 ≤ r.2 then (r.1, r.2.toNat) else (65533, 1)) ?nil ?one ?bad0 ?part2 ?two ?bad2 ?part3a ?part3b ?bad3b ?three ?bad3c ?part4a ?part4b ?bad4b ?part4c ?bad4c ?four ?bad4d
  case nil => intro hl; exact absurd rfl hl
  case one => intro a t h _; simp [decL, h]
  all_goals
    intros
    simp only [decL, List.getD_cons_zero, List.getD_cons_succ, List.length_cons, List.length_nil, valid_iff, List.getD_nil, ok3_iff, ok4_iff, ok3_no, ok4_no] at *
    repeat' split
    all_goals first
      | (exfalso; omega)
      | (simp only [Prod.mk.injEq]; try omega)
end Go.Proofs.YtmmkfpeckfmjeaaDoor
