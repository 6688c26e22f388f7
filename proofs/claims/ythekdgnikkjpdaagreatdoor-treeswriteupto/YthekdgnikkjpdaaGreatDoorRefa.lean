/-
  The document's own answer for signs (the reference's Sign and May) over this program: for every string.
-/
import Derived.Test.YthekdgnikkjpdaaGreatDoorWalkk
namespace Go.Proofs.YthekdgnikkjpdaaGreatDoor
open Go.RowKit
set_option maxHeartbeats 400000 in
theorem refMay_any (v : Nat) (w : World) : Calls Tryz.prog 48 #[.int .i64 (v : Nat)] w fun e w' => e = .returned (.bool (may v)) ∧ w' = w := by
  have hm : may v = (decide (v = 9) || (decide (v = 10) || (decide (v = 13) || (decide (32 ≤ v) && (decide (v ≠ 65534) && decide (v ≠ 65535)))))) := by
    unfold may
    rw [Bool.eq_iff_iff]
    simp
    omega
  rw [hm]
  clear hm
  by_cases h1 : v = 9
  · subst h1; go_enter Tryz.func48, Tryz.ntmps48; go_wp2; go_ret; exact ⟨rfl, rfl⟩
  by_cases h2 : v = 10
  · subst h2; go_enter Tryz.func48, Tryz.ntmps48; go_wp2; go_ret; exact ⟨rfl, rfl⟩
  by_cases h3 : v = 13
  · subst h3; go_enter Tryz.func48, Tryz.ntmps48; go_wp2; go_ret; exact ⟨rfl, rfl⟩
  have e1 : ((v : Int) == 9) = false := by simp; omega
  have e2 : ((v : Int) == 10) = false := by simp; omega
  have e3 : ((v : Int) == 13) = false := by simp; omega
  by_cases h4 : 32 ≤ v
  · by_cases h5 : v = 65534
    · subst h5; go_enter Tryz.func48, Tryz.ntmps48; go_wp2; go_ret; exact ⟨rfl, rfl⟩
    by_cases h6 : v = 65535
    · subst h6; go_enter Tryz.func48, Tryz.ntmps48; go_wp2; go_ret; exact ⟨rfl, rfl⟩
    have e5 : ((v : Int) != 65534) = true := by simp; omega
    have e6 : ((v : Int) != 65535) = true := by simp; omega
    go_enter Tryz.func48, Tryz.ntmps48
    go_wp2
    go_ret
    exact ⟨ret_bool (by simp [h1, h2, h3, h4, h5, h6]), rfl⟩
  · have e4 : decide ((32 : Int) ≤ (v : Int)) = false := by simp; omega
    go_enter Tryz.func48, Tryz.ntmps48
    go_wp2
    go_ret
    exact ⟨ret_bool (by simp [h1, h2, h3, h4]), rfl⟩

def loF (v : Nat) (l : List UInt8) : Nat → Nat
  | 0 => v
  | k + 1 => 64 * loF v l k + (match l[k + 1]? with | some d => d.toNat % 64 | none => 0)
def hiF (v : Nat) (l : List UInt8) : Nat → Nat
  | 0 => v
  | k + 1 => 64 * hiF v l k + (match l[k + 1]? with | some d => d.toNat % 64 | none => 63)
def finF (n least x y len : Nat) : Nat × Int :=
  if n ≤ len then (if x < least ∨ 1114111 < x ∨ (55296 ≤ x ∧ x ≤ 57343) then (0, 0) else (x, n))
  else (if y < least ∨ 1114111 < x ∨ (55296 ≤ x ∧ y ≤ 57343) then (0, 0) else (0, -1))
def refF (n v least : Nat) (l : List UInt8) : Nat × Int :=
  if ((l.drop 1).take (n - 1)).all cont then finF n least (loF v l (n - 1)) (hiF v l (n - 1)) l.length else (0, 0)
theorem lohi_bound (v : Nat) (l : List UInt8) (hv : v ≤ 31) : ∀ k, k ≤ 3 → loF v l k ≤ 8388607 ∧ hiF v l k ≤ 8388607 := by
  have s1 : ∀ k, loF v l (k + 1) ≤ 64 * loF v l k + 63 ∧ hiF v l (k + 1) ≤ 64 * hiF v l k + 63 := by
    intro k
    simp only [loF, hiF]
    cases l[k + 1]? with
    | none => simp
    | some d => simp only; omega
  have a0 : loF v l 0 = v ∧ hiF v l 0 = v := ⟨rfl, rfl⟩
  have a1 : loF v l 1 ≤ 64 * loF v l 0 + 63 ∧ hiF v l 1 ≤ 64 * hiF v l 0 + 63 := s1 0
  have a2 : loF v l 2 ≤ 64 * loF v l 1 + 63 ∧ hiF v l 2 ≤ 64 * hiF v l 1 + 63 := s1 1
  have a3 : loF v l 3 ≤ 64 * loF v l 2 + 63 ∧ hiF v l 3 ≤ 64 * hiF v l 2 + 63 := s1 2
  intro k hk
  match k, hk with
  | 0, _ => omega
  | 1, _ => omega
  | 2, _ => omega
  | 3, _ => omega
  | k + 4, h => omega

theorem refF_bad {n v least : Nat} {l : List UInt8} (h : ((l.drop 1).take (n - 1)).all cont = false) : refF n v least l = (0, 0) := by unfold refF; rw [h]; rfl
theorem refF_ok {n v least : Nat} {l : List UInt8} (h : ((l.drop 1).take (n - 1)).all cont = true) : refF n v least l = finF n least (loF v l (n - 1)) (hiF v l (n - 1)) l.length := by unfold refF; rw [h]; rfl
theorem finF_part {n least x y len : Nat} (h : len < n) (h1 : least ≤ y) (h2 : x ≤ 1114111) (h3 : x < 55296 ∨ 57343 < y) : finF n least x y len = (0, -1) := by
  unfold finF; rw [if_neg (by omega), if_neg (by omega)]
theorem finF_partBad {n least x y len : Nat} (h : len < n) (h1 : y < least ∨ 1114111 < x ∨ (55296 ≤ x ∧ y ≤ 57343)) : finF n least x y len = (0, 0) := by
  unfold finF; rw [if_neg (by omega), if_pos h1]
theorem finF_ok {n least x y len : Nat} (h : n ≤ len) (h1 : least ≤ x) (h2 : x ≤ 1114111) (h3 : x < 55296 ∨ 57343 < x) : finF n least x y len = (x, (n : Int)) := by
  unfold finF; rw [if_pos h, if_neg (by omega)]
theorem finF_okBad {n least x y len : Nat} (h : n ≤ len) (h1 : x < least ∨ 1114111 < x ∨ (55296 ≤ x ∧ x ≤ 57343)) : finF n least x y len = (0, 0) := by
  unfold finF; rw [if_pos h, if_pos h1]
theorem cont_false {b : UInt8} (h : ¬ (128 ≤ b.toNat ∧ b.toNat < 192)) : cont b = false := cont_mk_no (by omega)

/-- The reference's way by classes is the sign: two bytes. -/
theorem ref_sg2 (a : UInt8) (t : List UInt8) (h : 192 ≤ a.toNat) (h' : a.toNat < 224) : sg (a :: t) = refF 2 (a.toNat - 192) 128 (a :: t) := by
  match t with
  | [] =>
    rw [refF_ok rfl]
    have e1 : loF (a.toNat - 192) [a] (2 - 1) = 64 * (a.toNat - 192) + 0 := rfl
    have e2 : hiF (a.toNat - 192) [a] (2 - 1) = 64 * (a.toNat - 192) + 63 := rfl
    rw [e1, e2]
    by_cases hl : a.toNat < 194
    · rw [sg_isBad a _ (by omega) (.inl hl), finF_partBad (by simp) (by omega)]
    · rw [(SgWay.part2 a (by omega) h').eq, finF_part (by simp) (by omega) (by omega) (by omega)]
  | b :: t =>
    by_cases hb : 128 ≤ b.toNat ∧ b.toNat < 192
    · rw [refF_ok (by simp [cont_mk hb.1 hb.2])]
      have e1 : loF (a.toNat - 192) (a :: b :: t) (2 - 1) = 64 * (a.toNat - 192) + b.toNat % 64 := rfl
      rw [e1]
      by_cases hl : a.toNat < 194
      · rw [sg_isBad a _ (by omega) (.inl hl), finF_okBad (by simp) (by omega)]
      · rw [(SgWay.two a b t (by omega) h' hb.1 hb.2).eq, finF_ok (by simp) (by omega) (by omega) (by omega)]
        simp only [Prod.mk.injEq]
        exact ⟨by omega, rfl⟩
    · rw [refF_bad (by simp [cont_false hb])]
      by_cases hl : a.toNat < 194
      · rw [sg_isBad a _ (by omega) (.inl hl)]
      · rw [(SgWay.bad2 a b t (by omega) h' (by omega)).eq]

/-- Three bytes. -/
theorem ref_sg3 (a : UInt8) (t : List UInt8) (h : 224 ≤ a.toNat) (h' : a.toNat < 240) : sg (a :: t) = refF 3 (a.toNat - 224) 2048 (a :: t) := by
  match t with
  | [] =>
    rw [refF_ok rfl]
    have e1 : loF (a.toNat - 224) [a] (3 - 1) = 64 * (64 * (a.toNat - 224) + 0) + 0 := rfl
    have e2 : hiF (a.toNat - 224) [a] (3 - 1) = 64 * (64 * (a.toNat - 224) + 63) + 63 := rfl
    rw [e1, e2, (SgWay.part3a a h h').eq, finF_part (by simp) (by omega) (by omega) (by omega)]
  | [b] =>
    by_cases hb : 128 ≤ b.toNat ∧ b.toNat < 192
    · rw [refF_ok (by simp [cont_mk hb.1 hb.2])]
      have e1 : loF (a.toNat - 224) [a, b] (3 - 1) = 64 * (64 * (a.toNat - 224) + b.toNat % 64) + 0 := rfl
      have e2 : hiF (a.toNat - 224) [a, b] (3 - 1) = 64 * (64 * (a.toNat - 224) + b.toNat % 64) + 63 := rfl
      rw [e1, e2]
      cases ho : ok3 (a.toNat - 224) b with
      | true =>
        rw [(SgWay.part3b a b h h' ho).eq]
        rw [ok3_iff] at ho
        rw [finF_part (by simp) (by omega) (by omega) (by omega)]
      | false =>
        rw [(SgWay.bad3b a b [] h h' ho).eq]
        rw [ok3_no] at ho
        rw [finF_partBad (by simp) (by omega)]
    · rw [refF_bad (by simp [cont_false hb])]
      have ho : ok3 (a.toNat - 224) b = false := by rw [ok3_no]; omega
      rw [(SgWay.bad3b a b [] h h' ho).eq]
  | b :: c :: t =>
    by_cases hb : 128 ≤ b.toNat ∧ b.toNat < 192
    · by_cases hc : 128 ≤ c.toNat ∧ c.toNat < 192
      · rw [refF_ok (by simp [cont_mk hb.1 hb.2, cont_mk hc.1 hc.2])]
        have e1 : loF (a.toNat - 224) (a :: b :: c :: t) (3 - 1) = 64 * (64 * (a.toNat - 224) + b.toNat % 64) + c.toNat % 64 := rfl
        rw [e1]
        cases ho : ok3 (a.toNat - 224) b with
        | true =>
          rw [(SgWay.three a b c t h h' ho hc.1 hc.2).eq]
          rw [ok3_iff] at ho
          rw [finF_ok (by simp) (by omega) (by omega) (by omega)]
          simp only [Prod.mk.injEq]
          exact ⟨by omega, rfl⟩
        | false =>
          rw [(SgWay.bad3b a b _ h h' ho).eq]
          rw [ok3_no] at ho
          rw [finF_okBad (by simp) (by omega)]
      · rw [refF_bad (by simp [cont_false hc])]
        cases ho : ok3 (a.toNat - 224) b with
        | true => rw [(SgWay.bad3c a b c t h h' ho (by omega)).eq]
        | false => rw [(SgWay.bad3b a b _ h h' ho).eq]
    · rw [refF_bad (by simp [cont_false hb])]
      have ho : ok3 (a.toNat - 224) b = false := by rw [ok3_no]; omega
      rw [(SgWay.bad3b a b _ h h' ho).eq]

/-- Four bytes. -/
theorem ref_sg4 (a : UInt8) (t : List UInt8) (h : 240 ≤ a.toNat) (h' : a.toNat < 248) : sg (a :: t) = refF 4 (a.toNat - 240) 65536 (a :: t) := by
  match t with
  | [] =>
    rw [refF_ok rfl]
    have e1 : loF (a.toNat - 240) [a] (4 - 1) = 64 * (64 * (64 * (a.toNat - 240) + 0) + 0) + 0 := rfl
    have e2 : hiF (a.toNat - 240) [a] (4 - 1) = 64 * (64 * (64 * (a.toNat - 240) + 63) + 63) + 63 := rfl
    rw [e1, e2]
    by_cases hl : a.toNat < 245
    · rw [(SgWay.part4a a h hl).eq, finF_part (by simp) (by omega) (by omega) (by omega)]
    · rw [sg_isBad a _ (by omega) (.inr (by omega)), finF_partBad (by simp) (by omega)]
  | [b] =>
    by_cases hb : 128 ≤ b.toNat ∧ b.toNat < 192
    · rw [refF_ok (by simp [cont_mk hb.1 hb.2])]
      have e1 : loF (a.toNat - 240) [a, b] (4 - 1) = 64 * (64 * (64 * (a.toNat - 240) + b.toNat % 64) + 0) + 0 := rfl
      have e2 : hiF (a.toNat - 240) [a, b] (4 - 1) = 64 * (64 * (64 * (a.toNat - 240) + b.toNat % 64) + 63) + 63 := rfl
      rw [e1, e2]
      by_cases hl : a.toNat < 245
      · cases ho : ok4 (a.toNat - 240) b with
        | true =>
          rw [(SgWay.part4b a b h hl ho).eq]
          rw [ok4_iff] at ho
          rw [finF_part (by simp) (by omega) (by omega) (by omega)]
        | false =>
          rw [(SgWay.bad4b a b [] h hl ho).eq]
          rw [ok4_no] at ho
          rw [finF_partBad (by simp) (by omega)]
      · rw [sg_isBad a _ (by omega) (.inr (by omega)), finF_partBad (by simp) (by omega)]
    · rw [refF_bad (by simp [cont_false hb])]
      by_cases hl : a.toNat < 245
      · have ho : ok4 (a.toNat - 240) b = false := by rw [ok4_no]; omega
        rw [(SgWay.bad4b a b [] h hl ho).eq]
      · rw [sg_isBad a _ (by omega) (.inr (by omega))]
  | [b, c] =>
    by_cases hb : 128 ≤ b.toNat ∧ b.toNat < 192
    · by_cases hc : 128 ≤ c.toNat ∧ c.toNat < 192
      · rw [refF_ok (by simp [cont_mk hb.1 hb.2, cont_mk hc.1 hc.2])]
        have e1 : loF (a.toNat - 240) [a, b, c] (4 - 1) = 64 * (64 * (64 * (a.toNat - 240) + b.toNat % 64) + c.toNat % 64) + 0 := rfl
        have e2 : hiF (a.toNat - 240) [a, b, c] (4 - 1) = 64 * (64 * (64 * (a.toNat - 240) + b.toNat % 64) + c.toNat % 64) + 63 := rfl
        rw [e1, e2]
        by_cases hl : a.toNat < 245
        · cases ho : ok4 (a.toNat - 240) b with
          | true =>
            rw [(SgWay.part4c a b c h hl ho hc.1 hc.2).eq]
            rw [ok4_iff] at ho
            rw [finF_part (by simp) (by omega) (by omega) (by omega)]
          | false =>
            rw [(SgWay.bad4b a b _ h hl ho).eq]
            rw [ok4_no] at ho
            rw [finF_partBad (by simp) (by omega)]
        · rw [sg_isBad a _ (by omega) (.inr (by omega)), finF_partBad (by simp) (by omega)]
      · rw [refF_bad (by simp [cont_false hc])]
        by_cases hl : a.toNat < 245
        · cases ho : ok4 (a.toNat - 240) b with
          | true => rw [(SgWay.bad4c a b c [] h hl ho (by omega)).eq]
          | false => rw [(SgWay.bad4b a b _ h hl ho).eq]
        · rw [sg_isBad a _ (by omega) (.inr (by omega))]
    · rw [refF_bad (by simp [cont_false hb])]
      by_cases hl : a.toNat < 245
      · have ho : ok4 (a.toNat - 240) b = false := by rw [ok4_no]; omega
        rw [(SgWay.bad4b a b _ h hl ho).eq]
      · rw [sg_isBad a _ (by omega) (.inr (by omega))]
  | b :: c :: d :: t =>
    by_cases hb : 128 ≤ b.toNat ∧ b.toNat < 192
    · by_cases hc : 128 ≤ c.toNat ∧ c.toNat < 192
      · by_cases hd : 128 ≤ d.toNat ∧ d.toNat < 192
        · rw [refF_ok (by simp [cont_mk hb.1 hb.2, cont_mk hc.1 hc.2, cont_mk hd.1 hd.2])]
          have e1 : loF (a.toNat - 240) (a :: b :: c :: d :: t) (4 - 1) = 64 * (64 * (64 * (a.toNat - 240) + b.toNat % 64) + c.toNat % 64) + d.toNat % 64 := rfl
          rw [e1]
          by_cases hl : a.toNat < 245
          · cases ho : ok4 (a.toNat - 240) b with
            | true =>
              rw [(SgWay.four a b c d t h hl ho hc.1 hc.2 hd.1 hd.2).eq]
              rw [ok4_iff] at ho
              rw [finF_ok (by simp) (by omega) (by omega) (by omega)]
              simp only [Prod.mk.injEq]
              exact ⟨by omega, rfl⟩
            | false =>
              rw [(SgWay.bad4b a b _ h hl ho).eq]
              rw [ok4_no] at ho
              rw [finF_okBad (by simp) (by omega)]
          · rw [sg_isBad a _ (by omega) (.inr (by omega)), finF_okBad (by simp) (by omega)]
        · rw [refF_bad (by simp [cont_false hd])]
          by_cases hl : a.toNat < 245
          · cases ho : ok4 (a.toNat - 240) b with
            | true => rw [(SgWay.bad4d a b c d t h hl ho hc.1 hc.2 (by omega)).eq]
            | false => rw [(SgWay.bad4b a b _ h hl ho).eq]
          · rw [sg_isBad a _ (by omega) (.inr (by omega))]
      · rw [refF_bad (by simp [cont_false hc])]
        by_cases hl : a.toNat < 245
        · cases ho : ok4 (a.toNat - 240) b with
          | true => rw [(SgWay.bad4c a b c _ h hl ho (by omega)).eq]
          | false => rw [(SgWay.bad4b a b _ h hl ho).eq]
        · rw [sg_isBad a _ (by omega) (.inr (by omega))]
    · rw [refF_bad (by simp [cont_false hb])]
      by_cases hl : a.toNat < 245
      · have ho : ok4 (a.toNat - 240) b = false := by rw [ok4_no]; omega
        rw [(SgWay.bad4b a b _ h hl ho).eq]
      · rw [sg_isBad a _ (by omega) (.inr (by omega))]
end Go.Proofs.YthekdgnikkjpdaaGreatDoor
