/-
  The contracts of container/heap's up and down over this program, at a wheel's queue.
-/
import Derived.Test.YtkgnaaocgejeiaaWq
import Derived.Test.YtkgnaaocgejeiaaWh
namespace Go.Proofs.Ytkgnaaocgejeiaa
open Go Go.RowKit Go.Maps
/-- A row that is moved about within its first n places. -/
structure MvAt (g p cap b c : Nat) (now : Int) (t : Int → Option Int) (n : Nat) (l : List Int) (w : World) (l' : List Int) (w' : World) : Prop where
  q : QAt g p cap b c now l' t w'
  pm : l'.Perm l
  tl : ∀ k, n ≤ k → l'[k]? = l[k]?
  fr : Fr [p] w w'
theorem MvAt.refl {g p cap b c n : Nat} {now : Int} {l : List Int} {t : Int → Option Int} {w : World} (h : QAt g p cap b c now l t w) : MvAt g p cap b c now t n l w l w := ⟨h, List.Perm.refl _, fun _ _ => rfl, Fr.refl _ _⟩
theorem MvAt.alike {g p cap b c n : Nat} {now : Int} {l l' : List Int} {t : Int → Option Int} {w w' w'' : World} (h : MvAt g p cap b c now t n l w l' w') (e1 : w''.os = w'.os) (e2 : w''.tape = w'.tape) (e3 : w''.output = w'.output) (e4 : w''.heap = w'.heap) : MvAt g p cap b c now t n l w l' w'' :=
  ⟨h.q.alike e4, h.pm, h.tl, h.fr.alike e1 e2 e3 e4⟩
theorem MvAt.swp {g p cap b c n i j : Nat} {now : Int} {l l' : List Int} {t : Int → Option Int} {w w' w'' : World} (h : MvAt g p cap b c now t n l w l' w') (hi : i < n) (hj : j < n) (hn : n ≤ l.length)
    (q : QAt g p cap b c now (swp l' i j (at0 l' i) (at0 l' j)) t w'') (f : Fr [p] w' w'') : MvAt g p cap b c now t n l w (swp l' i j (at0 l' i) (at0 l' j)) w'' := by
  have hl := h.pm.length_eq
  refine ⟨q, (perm_swp (by omega) (by omega)).trans h.pm, fun k hk => ?_, h.fr.trans f⟩
  unfold Ytkgnaaocgejeiaa.swp
  rw [List.getElem?_set_ne (by omega), List.getElem?_set_ne (by omega)]
  exact h.tl k hk
theorem qless_at (g p cap b c : Nat) (now : Int) (l : List Int) (t : Int → Option Int) (i j : Nat) (w : World) (h : QAt g p cap b c now l t w) (hi : i < l.length) (hj : j < l.length) :
    Calls Try.prog 49 #[.pointer (some ⟨g, 1, none⟩), .int .i64 (i : Int), .int .i64 (j : Int)] w fun e w' => e = .returned (.bool (ltT t (at0 l i) (at0 l j))) ∧ ∃ m, w' = w.drewN m :=
  qless_any g p cap b c now l t i j _ _ w h (at0_lt hi) (at0_lt hj)
theorem qswap_at0 (g p cap b c : Nat) (now : Int) (l : List Int) (t : Int → Option Int) (i j : Nat) (w : World) (h : QAt g p cap b c now l t w) (hi : i < l.length) (hj : j < l.length) (hij : i ≠ j) :
    Calls Try.prog 52 #[.pointer (some ⟨g, 1, none⟩), .int .i64 (i : Int), .int .i64 (j : Int)] w fun e w' => e = .returned (.tuple #[]) ∧ QAt g p cap b c now (swp l i j (at0 l i) (at0 l j)) t w' ∧ Fr [p] w w' :=
  qswap_any g p cap b c now l t i j _ _ w h (at0_lt hi) (at0_lt hj) hij
/-- What up leaves. -/
def UpRes (g p cap b c : Nat) (now : Int) (t : Int → Option Int) (n : Nat) (l : List Int) (w w' : World) : Prop := ∃ l', MvAt g p cap b c now t n l w l' w' ∧ Heap t n (at0 l')
/-- .. and on its way. -/
def UpWay (g p cap b c : Nat) (now : Int) (t : Int → Option Int) (n : Nat) (l : List Int) (w : World) (j : Nat) (w' : World) : Prop := ∃ l', MvAt g p cap b c now t n l w l' w' ∧ UpI t n (at0 l') j
set_option maxHeartbeats 1000000 in
theorem up_any (g p cap b c n : Nat) (now : Int) (l : List Int) (t : Int → Option Int) (j : Nat) (w : World) (h : QAt g p cap b c now l t w) (hn : n ≤ l.length) (hl : l.length ≤ 1000) (hj : j < n) (hu : UpI t n (at0 l) j) :
    Calls Try.prog 31 #[.iface 59 (.pointer (some ⟨g, 1, none⟩)), .int .i64 (j : Int)] w fun e w' => e = .returned (.tuple #[]) ∧ UpRes g p cap b c now t n l w w' := by
  have H0 : Hid (UpWay g p cap b c now t n l w j w) := ⟨l, MvAt.refl h, hu⟩
  clear h hu
  go_enter Try.func31, Try.ntmps31
  go_wp2_with fail
  go_loopw [1] (fun jv wr => ∃ j : Nat, j < n ∧ jv = .int .i64 (j : Int) ∧ UpWay g p cap b c now t n l w j wr) (fun jv _ => (intOf jv).toNat)
  case atStart => exact ⟨j, hj, rfl, H0.out⟩
  case round =>
    obtain ⟨j, hj, rfl, l', hm, hu⟩ := hrel
    have hl' := hm.pm.length_eq
    obtain ⟨z, hz⟩ : ∃ z : Int, (j : Int) - 1 = z := ⟨_, rfl⟩
    have hw1 : IntKind.i64.wrap ((j : Int) - 1) = z := by simp only [IntKind.wrap_i64]; omega
    obtain ⟨i, hi⟩ : ∃ i, par j = i := ⟨_, rfl⟩
    have hq : z.tdiv 2 = (i : Int) := by
      rw [← hz, ← hi]
      unfold par
      by_cases e : j = 0
      · subst e; rfl
      · rw [Int.tdiv_eq_ediv_of_nonneg (by omega)]; omega
    have hw2 : IntKind.i64.wrap (i : Int) = (i : Int) := by simp only [IntKind.wrap_i64]; unfold par at hi; omega
    by_cases e : j = 0
    · subst e
      have hi0 : i = 0 := by rw [← hi]; rfl
      subst hi0
      have HR : Hid (UpRes g p cap b c now t n l w wr) := ⟨l', hm, up_end0 hu⟩
      clear hu hm hl' hz hi
      go_wp2_with fail
      go_returns
      exact ⟨rfl, HR.out⟩
    · have e1 : ((i : Int) == (j : Int)) = false := by
        have := par_lt (k := j) (by omega)
        simp; omega
      have hij : i < j := by rw [← hi]; exact par_lt (by omega)
      have HL := fun W hq => qless_at g p cap b c now l' t j i W hq (by omega) (by omega)
      have HS := fun W hq => qswap_at0 g p cap b c now l' t i j W hq (by omega) (by omega) (by omega)
      have HM : Hid (MvAt g p cap b c now t n l w l' wr) := hm
      cases hd : ltT t (at0 l' j) (at0 l' i) with
      | false =>
        rw [hd] at HL
        have HR : Hid (Heap t n (at0 l')) := up_end hu (by rw [hi]; exact hd)
        clear hu hm hl' hz hi hd HS
        go_wp2_with (go_at_call 49; refine (HL _ HM.out.q).mono ?_; rintro e w1 ⟨rfl, m1, rfl⟩)
        go_returns
        exact ⟨rfl, l', HM.out.alike rfl rfl rfl rfl, HR.out⟩
      | true =>
        rw [hd] at HL
        have HU : Hid (UpI t n (at0 (swp l' i j (at0 l' i) (at0 l' j))) i) := by
          have := up_step hu (by omega) hj (by rw [hi]; exact hd)
          unfold swp
          rw [hi] at this
          rw [at0_swp (by omega) (by omega)]
          exact this
        have hin : i < n := by omega
        clear hu hm hl' hz hi hd
        go_wp2_with (first
          | (go_at_call 49; refine (HL _ HM.out.q).mono ?_; rintro e w1 ⟨rfl, m1, rfl⟩)
          | (go_at_call 52; refine (HS (wr.drewN m1) (HM.out.q.alike rfl)).mono ?_; rintro e w2 ⟨rfl, hq2, hf2⟩))
        go_roundw
        case rel => exact ⟨i, hin, rfl, _, (HM.out.alike (w'' := wr.drewN m1) rfl rfl rfl rfl).swp hin hj hn hq2 hf2, HU.out⟩
        case measure => simp [intOf]; omega
/-- What down leaves. -/
def DnRes (g p cap b c : Nat) (now : Int) (t : Int → Option Int) (n i0 : Nat) (l : List Int) (w : World) (r : Bool) (w' : World) : Prop := ∃ l', MvAt g p cap b c now t n l w l' w' ∧ (r = true → Heap t n (at0 l')) ∧ (r = false → UpI t n (at0 l') i0)
/-- .. and on its way. -/
def DnWay (g p cap b c : Nat) (now : Int) (t : Int → Option Int) (n i0 : Nat) (l : List Int) (w : World) (i : Nat) (w' : World) : Prop := ∃ l', MvAt g p cap b c now t n l w l' w' ∧ DnI t n (at0 l') i i0
theorem dn_res {g p cap b c n i0 i : Nat} {now : Int} {t : Int → Option Int} {l l' : List Int} {w w' : World} (hm : MvAt g p cap b c now t n l w l' w') (h : DnI t n (at0 l') i i0) (h0 : i0 ≤ i) (hc : ∀ k, 0 < k → k < n → par k = i → le t (at0 l' i) (at0 l' k)) : DnRes g p cap b c now t n i0 l w (decide (i0 < i)) w' := by
  refine ⟨l', hm, fun e => dn_end h hc (by simp at e; omega), fun e => ?_⟩
  obtain rfl : i = i0 := by simp at e; omega
  exact dn_stay h hc
/-- The end of a call of down, whichever way it came there. -/
def DnPost (g p cap b c : Nat) (now : Int) (t : Int → Option Int) (n i0 : Nat) (l : List Int) (w : World) (e : Ending) (w' : World) : Prop := ∃ r : Bool, e = .returned (.bool r) ∧ DnRes g p cap b c now t n i0 l w r w'
set_option maxHeartbeats 2000000 in
theorem down_any (g p cap b c n : Nat) (now : Int) (l : List Int) (t : Int → Option Int) (i0 : Nat) (w : World) (h : QAt g p cap b c now l t w) (hn : n ≤ l.length) (hl : l.length ≤ 1000) (hi0 : i0 < n) (hu : DnI t n (at0 l) i0 i0) :
    Calls Try.prog 32 #[.iface 59 (.pointer (some ⟨g, 1, none⟩)), .int .i64 (i0 : Int), .int .i64 (n : Int)] w fun e w' => DnPost g p cap b c now t n i0 l w e w' := by
  have H0 : Hid (DnWay g p cap b c now t n i0 l w i0 w) := ⟨l, MvAt.refl h, hu⟩
  clear h hu
  go_enter Try.func32, Try.ntmps32
  go_wp2_with fail
  go_loopw [7] (fun iv wr => ∃ i : Nat, i0 ≤ i ∧ i < n ∧ iv = .int .i64 (i : Int) ∧ DnWay g p cap b c now t n i0 l w i wr) (fun iv _ => n - (intOf iv).toNat)
  case atStart => exact ⟨i0, Nat.le_refl _, hi0, rfl, H0.out⟩
  case round =>
    obtain ⟨i, h0i, hin, rfl, l', hm, hu⟩ := hrel
    have hl' := hm.pm.length_eq
    obtain ⟨j1, hj1⟩ : ∃ j1, 2 * i + 1 = j1 := ⟨_, rfl⟩
    have hw1 : IntKind.i64.wrap (2 * (i : Int)) = ((2 * i : Nat) : Int) := by simp only [IntKind.wrap_i64]; omega
    have hw2 : IntKind.i64.wrap (((2 * i : Nat) : Int) + 1) = (j1 : Int) := by simp only [IntKind.wrap_i64]; omega
    obtain ⟨i2, hi2⟩ : ∃ i2, 2 * i = i2 := ⟨_, rfl⟩
    rw [hi2] at hw1 hw2
    obtain ⟨j2, hj2⟩ : ∃ j2, j1 + 1 = j2 := ⟨_, rfl⟩
    have hw3 : IntKind.i64.wrap ((j1 : Int) + 1) = (j2 : Int) := by simp only [IntKind.wrap_i64]; omega
    have HM : Hid (MvAt g p cap b c now t n l w l' wr) := hm
    have HD : Hid (DnI t n (at0 l') i i0) := hu
    have hch : ∀ k, 0 < k → par k = i → k = j1 ∨ k = j2 := fun k k0 e => by have := (par_child k0).1 e; omega
    have pj1 : par j1 = i := (par_child (by omega)).2 (by omega)
    have pj2 : par j2 = i := (par_child (by omega)).2 (by omega)
    by_cases hA : j1 < n
    · have nj1 : ¬ (n : Int) ≤ (j1 : Int) := by omega
      have nj0 : ¬ (j1 : Int) < 0 := by omega
      have HL21 := fun (k : j2 < n) W hq => qless_at g p cap b c now l' t j2 j1 W hq (by omega) (by omega)
      have HL1 := fun W hq => qless_at g p cap b c now l' t j1 i W hq (by omega) (by omega)
      have HL2 := fun (k : j2 < n) W hq => qless_at g p cap b c now l' t j2 i W hq (by omega) (by omega)
      have HS1 := fun W hq => qswap_at0 g p cap b c now l' t i j1 W hq (by omega) (by omega) (by omega)
      have HS2 := fun (k : j2 < n) W hq => qswap_at0 g p cap b c now l' t i j2 W hq (by omega) (by omega) (by omega)
      have hii : i < l'.length := by omega
      have hjj : j1 < l'.length := by omega
      have hji : i < j1 := by omega
      have hji2 : i < j2 := by omega
      have hn' : n ≤ l'.length := by omega
      have HPJ1 : Hid (par j1 = i) := pj1
      have HPJ2 : Hid (par j2 = i) := pj2
      have HCH : Hid (∀ k, 0 < k → par k = i → k = j1 ∨ k = j2) := hch
      clear hu hm hl' hj1 hj2 hi2 pj1 pj2 hch
      by_cases hB : j2 < n
      · have bj2 : (j2 : Int) < (n : Int) := by omega
        cases hx : ltT t (at0 l' j2) (at0 l' j1) with
        | false =>
          have HLX := HL21 hB
          rw [hx] at HLX
          have HMIN : Hid (∀ k, 0 < k → k < n → par k = i → le t (at0 l' j1) (at0 l' k)) := fun k k0 kn e => by
            rcases HCH.out k k0 e with rfl | rfl
            · exact le.rfl
            · exact hx
          cases hd : ltT t (at0 l' j1) (at0 l' i) with
          | false =>
            have HLY := HL1
            rw [hd] at HLY
            have HC : Hid (∀ k, 0 < k → k < n → par k = i → le t (at0 l' i) (at0 l' k)) := fun k k0 kn e => le.trans hd (HMIN.out k k0 kn e)
            clear hd HL21 HL1 HL2 HS1 HS2
            go_wp2_with (first
                | (go_at_call_of 49 (#[Value.pointer (some ⟨g, 1, none⟩), Value.int .i64 (j2 : Int), Value.int .i64 (j1 : Int)] : Array Value); refine (HLX _ HM.out.q).mono ?_; rintro e w1 ⟨rfl, m1, rfl⟩)
                | (go_at_call_of 49 (#[Value.pointer (some ⟨g, 1, none⟩), Value.int .i64 (j1 : Int), Value.int .i64 (i : Int)] : Array Value); refine (HLY (wr.drewN m1) (HM.out.q.alike (w' := wr.drewN m1) rfl)).mono ?_; rintro e w2 ⟨rfl, m2, rfl⟩))
            go_ret
            exact ⟨_, rfl, dn_res (HM.out.alike rfl rfl rfl rfl) HD.out h0i HC.out⟩
          | true =>
            have HLY := HL1
            rw [hd] at HLY
            have HSY := HS1
            have HU : Hid (DnI t n (at0 (swp l' i j1 (at0 l' i) (at0 l' j1))) j1 i0) := by
              have := dn_step HD.out h0i (by omega) HPJ1.out (by omega) HMIN.out hd
              unfold swp
              rw [at0_swp (by omega) (by omega)]
              exact this
            clear hd HL21 HL1 HL2 HS1 HS2
            go_wp2_with (first
                | (go_at_call_of 49 (#[Value.pointer (some ⟨g, 1, none⟩), Value.int .i64 (j2 : Int), Value.int .i64 (j1 : Int)] : Array Value); refine (HLX _ HM.out.q).mono ?_; rintro e w1 ⟨rfl, m1, rfl⟩)
                | (go_at_call_of 49 (#[Value.pointer (some ⟨g, 1, none⟩), Value.int .i64 (j1 : Int), Value.int .i64 (i : Int)] : Array Value); refine (HLY (wr.drewN m1) (HM.out.q.alike (w' := wr.drewN m1) rfl)).mono ?_; rintro e w2 ⟨rfl, m2, rfl⟩)
                | (go_at_call 52; refine (HSY _ ?_).mono ?_; exact HM.out.q.alike rfl; rintro e w3 ⟨rfl, hq3, hf3⟩))
            go_roundw
            case rel => exact ⟨j1, by omega, by omega, rfl, _, MvAt.swp (w' := wr.drewN (m1 + m2)) (HM.out.alike rfl rfl rfl rfl) hin (by omega) hn hq3 hf3, HU.out⟩
            case measure => simp [intOf]; omega
        | true =>
          have HLX := HL21 hB
          rw [hx] at HLX
          have HMIN : Hid (∀ k, 0 < k → k < n → par k = i → le t (at0 l' j2) (at0 l' k)) := fun k k0 kn e => by
            rcases HCH.out k k0 e with rfl | rfl
            · exact le_of_lt hx
            · exact le.rfl
          cases hd : ltT t (at0 l' j2) (at0 l' i) with
          | false =>
            have HLY := HL2 hB
            rw [hd] at HLY
            have HC : Hid (∀ k, 0 < k → k < n → par k = i → le t (at0 l' i) (at0 l' k)) := fun k k0 kn e => le.trans hd (HMIN.out k k0 kn e)
            clear hd HL21 HL1 HL2 HS1 HS2
            go_wp2_with (first
                | (go_at_call_of 49 (#[Value.pointer (some ⟨g, 1, none⟩), Value.int .i64 (j2 : Int), Value.int .i64 (j1 : Int)] : Array Value); refine (HLX _ HM.out.q).mono ?_; rintro e w1 ⟨rfl, m1, rfl⟩)
                | (go_at_call_of 49 (#[Value.pointer (some ⟨g, 1, none⟩), Value.int .i64 (j2 : Int), Value.int .i64 (i : Int)] : Array Value); refine (HLY (wr.drewN m1) (HM.out.q.alike (w' := wr.drewN m1) rfl)).mono ?_; rintro e w2 ⟨rfl, m2, rfl⟩))
            go_ret
            exact ⟨_, rfl, dn_res (HM.out.alike rfl rfl rfl rfl) HD.out h0i HC.out⟩
          | true =>
            have HLY := HL2 hB
            rw [hd] at HLY
            have HSY := HS2 hB
            have HU : Hid (DnI t n (at0 (swp l' i j2 (at0 l' i) (at0 l' j2))) j2 i0) := by
              have := dn_step HD.out h0i (by omega) HPJ2.out (by omega) HMIN.out hd
              unfold swp
              rw [at0_swp (by omega) (by omega)]
              exact this
            clear hd HL21 HL1 HL2 HS1 HS2
            go_wp2_with (first
                | (go_at_call_of 49 (#[Value.pointer (some ⟨g, 1, none⟩), Value.int .i64 (j2 : Int), Value.int .i64 (j1 : Int)] : Array Value); refine (HLX _ HM.out.q).mono ?_; rintro e w1 ⟨rfl, m1, rfl⟩)
                | (go_at_call_of 49 (#[Value.pointer (some ⟨g, 1, none⟩), Value.int .i64 (j2 : Int), Value.int .i64 (i : Int)] : Array Value); refine (HLY (wr.drewN m1) (HM.out.q.alike (w' := wr.drewN m1) rfl)).mono ?_; rintro e w2 ⟨rfl, m2, rfl⟩)
                | (go_at_call 52; refine (HSY _ ?_).mono ?_; exact HM.out.q.alike rfl; rintro e w3 ⟨rfl, hq3, hf3⟩))
            go_roundw
            case rel => exact ⟨j2, by omega, by omega, rfl, _, MvAt.swp (w' := wr.drewN (m1 + m2)) (HM.out.alike rfl rfl rfl rfl) hin (by omega) hn hq3 hf3, HU.out⟩
            case measure => simp [intOf]; omega
      · have bj2 : ¬ (j2 : Int) < (n : Int) := by omega
        have HMIN : Hid (∀ k, 0 < k → k < n → par k = i → le t (at0 l' j1) (at0 l' k)) := fun k k0 kn e => by
          rcases HCH.out k k0 e with rfl | rfl
          · exact le.rfl
          · omega
        cases hd : ltT t (at0 l' j1) (at0 l' i) with
        | false =>
          have HLY := HL1
          rw [hd] at HLY
          have HC : Hid (∀ k, 0 < k → k < n → par k = i → le t (at0 l' i) (at0 l' k)) := fun k k0 kn e => le.trans hd (HMIN.out k k0 kn e)
          clear hd HL21 HL1 HL2 HS1 HS2
          go_wp2_with (first
              | (go_at_call_of 49 (#[Value.pointer (some ⟨g, 1, none⟩), Value.int .i64 (j1 : Int), Value.int .i64 (i : Int)] : Array Value); refine (HLY (wr) HM.out.q).mono ?_; rintro e w2 ⟨rfl, m2, rfl⟩))
          go_ret
          exact ⟨_, rfl, dn_res (HM.out.alike rfl rfl rfl rfl) HD.out h0i HC.out⟩
        | true =>
          have HLY := HL1
          rw [hd] at HLY
          have HSY := HS1
          have HU : Hid (DnI t n (at0 (swp l' i j1 (at0 l' i) (at0 l' j1))) j1 i0) := by
            have := dn_step HD.out h0i (by omega) HPJ1.out (by omega) HMIN.out hd
            unfold swp
            rw [at0_swp (by omega) (by omega)]
            exact this
          clear hd HL21 HL1 HL2 HS1 HS2
          go_wp2_with (first
              | (go_at_call_of 49 (#[Value.pointer (some ⟨g, 1, none⟩), Value.int .i64 (j1 : Int), Value.int .i64 (i : Int)] : Array Value); refine (HLY (wr) HM.out.q).mono ?_; rintro e w2 ⟨rfl, m2, rfl⟩)
              | (go_at_call 52; refine (HSY _ ?_).mono ?_; exact HM.out.q.alike rfl; rintro e w3 ⟨rfl, hq3, hf3⟩))
          go_roundw
          case rel => exact ⟨j1, by omega, by omega, rfl, _, MvAt.swp (w' := wr.drewN m2) (HM.out.alike rfl rfl rfl rfl) hin (by omega) hn hq3 hf3, HU.out⟩
          case measure => simp [intOf]; omega
    · have nj1 : (n : Int) ≤ (j1 : Int) := by omega
      have HR : Hid (DnRes g p cap b c now t n i0 l w (decide (i0 < i)) wr) := dn_res hm hu h0i (fun k k0 kn e => by rcases hch k k0 e with rfl | rfl <;> omega)
      clear hu hm hl' hj1 hj2 hi2 pj1 pj2 hch
      go_wp2_with fail
      go_ret
      exact ⟨_, rfl, HR.out⟩
end Go.Proofs.Ytkgnaaocgejeiaa
