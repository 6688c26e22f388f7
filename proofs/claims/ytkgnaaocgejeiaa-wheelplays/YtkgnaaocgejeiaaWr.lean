/-
  The contracts of container/heap's Push and Remove, of the queue's add and take, and of slices.Index over this program.
-/
import Derived.Test.YtkgnaaocgejeiaaWu
namespace Go.Proofs.Ytkgnaaocgejeiaa
open Go Go.RowKit Go.Maps
theorem fr_p {p : Nat} {S : List Nat} {w0 w w' : World} (h : Fr [p] w w') (hp : p ∈ S ∨ w0.heap.size ≤ p) (h0 : Fr S w0 w) : Fr S w0 w' := by
  refine ⟨h0.1.trans h.1, fun k hk hS => ?_⟩
  refine (h.2 k (Nat.lt_of_lt_of_le hk h0.1.size) (fun e => ?_)).trans (h0.2 k hk hS)
  obtain rfl := List.mem_singleton.1 e
  rcases hp with hp | hp
  · exact hS hp
  · omega
/-- A heap of numbers behind one more. -/
def PuRes (g : Nat) (v : Value) (b c : Nat) (now : Int) (l : List Int) (t : Int → Option Int) (w w' : World) : Prop :=
  ∃ p cap l', QAt g p cap b c now l' t w' ∧ l'.Perm l ∧ Heap t l'.length (at0 l') ∧ (v.ownBlock = some p ∨ w.heap.size ≤ p) ∧ Fr (g :: v.ownBlock.toList) w w'
theorem up_start {t : Int → Option Int} {l : List Int} {x : Int} (h : Heap t l.length (at0 l)) : UpI t (l ++ [x]).length (at0 (l ++ [x])) l.length := by
  have e : ∀ k, k < l.length → at0 (l ++ [x]) k = at0 l k := fun k hk => at0_get (by rw [List.getElem?_append_left hk]; exact at0_lt hk)
  refine ⟨fun k k0 kn hk => ?_, fun k k0 kn hk _ => ?_⟩
  · have := par_lt k0
    simp at kn
    rw [e k (by omega), e _ (by omega)]
    exact h k k0 (by omega)
  · have := par_lt k0
    simp at kn
    omega
set_option maxHeartbeats 1000000 in
theorem hpush_any (g b c : Nat) (v : Value) (now : Int) (l : List Int) (t : Int → Option Int) (x : Int) (w : World) (h : QVt g v b c now l t w) (hx : N x) (hl : l.length ≤ 900) (hh : Heap t l.length (at0 l)) :
    Calls Try.prog 29 #[.iface 59 (.pointer (some ⟨g, 1, none⟩)), .iface 3 (.int .i64 x)] w fun e w' => e = .returned (.tuple #[]) ∧ PuRes g v b c now (l ++ [x]) t w w' := by
  have HP := qpush_any g b c v now l t x w h hx (by omega)
  have HU : Hid (UpI t (l ++ [x]).length (at0 (l ++ [x])) l.length) := up_start hh
  have hlen : (l ++ [x]).length = l.length + 1 := by simp
  obtain ⟨n, hn⟩ : ∃ n, l.length = n := ⟨_, rfl⟩
  have EN : Hid _ := hn
  rw [hlen, hn] at HU
  have el : (l ++ [x]).length = n + 1 := by rw [hlen, hn]
  have EL : Hid _ := el
  have hw1 : IntKind.i64.wrap (((n + 1 : Nat) : Int) - 1) = (n : Int) := by simp only [IntKind.wrap_i64]; omega
  have HX := fun p cap W hq => up_any g p cap b c (n + 1) now (l ++ [x]) t n W hq (by rw [hlen, hn]; exact Nat.le_refl _) (by rw [hlen]; omega) (by omega) HU.out
  have HLEN : ∀ p cap W, QAt g p cap b c now (l ++ [x]) t W → Calls Try.prog 28 #[.pointer (some ⟨g, 1, none⟩)] W fun e w' => e = .returned (.int .i64 ((n + 1 : Nat) : Int)) ∧ w' = W := fun p cap W hq => by
    have := qlen_any g now _ _ _ _ W hq.hd
    rw [hlen, hn] at this
    exact this
  obtain ⟨n1, hn1⟩ : ∃ n1, n + 1 = n1 := ⟨_, rfl⟩
  rw [hn1] at HLEN hw1 HX EL
  clear h hx hl hh hlen hn hn1 HU el
  go_enter Try.func29, Try.ntmps29
  go_wp2_with (first
    | (go_at_call 51; refine HP.mono ?_; rintro e w1 ⟨rfl, p1, cap1, hq1, hp1, hf1⟩; have HQ1 : Hid _ := hq1; have HP1 : Hid _ := hp1; have HF1 : Hid _ := hf1; clear hq1 hp1 hf1)
    | (go_at_call 28; refine (HLEN _ _ _ HQ1.out).mono ?_; rintro e w1 ⟨rfl, rfl⟩)
    | (go_at_call 31; refine (HX _ _ _ HQ1.out).mono ?_; rintro e w2 ⟨rfl, l2, hm2, hh2⟩))
  go_returns
  refine ⟨rfl, p1, cap1, l2, hm2.q, hm2.pm, ?_, HP1.out, fr_p hm2.fr ?_ HF1.out⟩
  · rw [hm2.pm.length_eq, EL.out]; exact hh2
  · rcases HP1.out with e | e
    · exact .inl (List.mem_cons_of_mem _ (by simp [e]))
    · exact .inr e
/-- A heap of numbers behind one fewer. -/
def RmRes (g p cap b c : Nat) (now : Int) (l : List Int) (t : Int → Option Int) (x : Int) (w w' : World) : Prop :=
  ∃ l', QAt g p cap b c now l' t w' ∧ (x :: l').Perm l ∧ Heap t l'.length (at0 l') ∧ Fr [g, p] w w'
theorem split_last {l : List Int} {n : Nat} {x : Int} (h : l.length = n + 1) (hx : l[n]? = some x) : l = l.take n ++ [x] := by
  have h1 := List.take_append_drop n l
  have h2 : l.drop n = [x] := by
    rw [List.drop_eq_getElem_cons (by omega), List.drop_eq_nil_of_le (by omega)]
    rw [List.getElem?_eq_getElem (by omega)] at hx
    cases hx
    rfl
  rw [h2] at h1
  exact h1.symm
theorem heap_take {t : Int → Option Int} {l : List Int} {n : Nat} (h : Heap t n (at0 l)) (hn : n ≤ l.length) : Heap t (l.take n).length (at0 (l.take n)) := by
  have e0 : (l.take n).length = n := by simp; omega
  rw [e0]
  have e : ∀ k, k < n → at0 (l.take n) k = at0 l k := fun k hk => at0_get (by rw [List.getElem?_take_of_lt hk]; exact at0_lt (by omega))
  intro k k0 kn
  have := par_lt k0
  rw [e k kn, e _ (by omega)]
  exact h k k0 kn
/-- .. ahead of Pop. -/
structure RmAt (g p cap b c : Nat) (now : Int) (l : List Int) (t : Int → Option Int) (n : Nat) (x : Int) (w : World) (l2 : List Int) (w2 : World) : Prop where
  q : QAt g p cap b c now (l2 ++ [x]) t w2
  pm : (x :: l2).Perm l
  hp : Heap t l2.length (at0 l2)
  ln : l2.length = n
  fr : Fr [g, p] w w2
theorem rm_at {g p cap b c n : Nat} {now x : Int} {l l1 l2 : List Int} {t : Int → Option Int} {w w1 w2 : World} (hl : l.length = n + 1) (h1 : l1.Perm l) (hx : l1[n]? = some x) (hf : Fr [p] w w1) (hm : MvAt g p cap b c now t n l1 w1 l2 w2) (hh : Heap t n (at0 l2)) :
    RmAt g p cap b c now l t n x w (l2.take n) w2 := by
  have e1 := h1.length_eq
  have e2 := hm.pm.length_eq
  have es := split_last (l := l2) (n := n) (x := x) (by omega) (by rw [hm.tl n (Nat.le_refl _)]; exact hx)
  have hq := hm.q
  rw [es] at hq
  refine ⟨hq, ?_, heap_take hh (by omega), by simp; omega, ?_⟩
  · have h3 := hm.pm.trans h1
    rw [es] at h3
    exact (List.perm_append_singleton x (l2.take n)).symm.trans h3
  · exact (hf.mono (fun k hk => .inl (by simp at hk; simp [hk]))).trans (hm.fr.mono (fun k hk => .inl (by simp at hk; simp [hk])))
theorem swp_perm {l : List Int} {i j : Nat} (hi : i < l.length) (hj : j < l.length) : (swp l i j (at0 l i) (at0 l j)).Perm l := perm_swp hi hj
theorem swp_last {l : List Int} {i j : Nat} (x y : Int) (hj : j < l.length) : (swp l i j x y)[j]? = some x := by
  unfold swp
  exact List.getElem?_set_self (by simpa using hj)
theorem dn_swp {t : Int → Option Int} {l : List Int} {n i : Nat} (hl : l.length = n + 1) (h : Heap t l.length (at0 l)) (hi : i < n) : DnI t n (at0 (swp l i n (at0 l i) (at0 l n))) i i := by
  unfold swp
  rw [at0_swp (by omega) (by omega)]
  exact dn_start (by rw [← hl]; exact h) hi
set_option maxHeartbeats 2000000 in
theorem hrem_any (g p cap b c : Nat) (now : Int) (l : List Int) (t : Int → Option Int) (i : Nat) (w : World) (h : QAt g p cap b c now l t w) (hi : i < l.length) (hl : l.length ≤ 1000) (hh : Heap t l.length (at0 l)) :
    Calls Try.prog 30 #[.iface 59 (.pointer (some ⟨g, 1, none⟩)), .int .i64 (i : Int)] w fun e w' => e = .returned (.iface 3 (.int .i64 (at0 l i))) ∧ RmRes g p cap b c now l t (at0 l i) w w' := by
  obtain ⟨n, hn⟩ : ∃ n, l.length = n + 1 := ⟨l.length - 1, by omega⟩
  have EN : Hid _ := hn
  have hw1 : IntKind.i64.wrap (((n + 1 : Nat) : Int) - 1) = (n : Int) := by simp only [IntKind.wrap_i64]; omega
  have HLEN := qlen_any g now _ _ _ _ w h.hd
  rw [hn] at HLEN
  have HPOP := fun l2 W (k : RmAt g p cap b c now l t n (at0 l i) w l2 W) => qpop_any g p cap b c now l2 t (at0 l i) W k.q (by rw [k.ln]; omega)
  have HEND : Hid (∀ l2 W w', RmAt g p cap b c now l t n (at0 l i) w l2 W → QAt g p cap b c now l2 t w' → Fr [g] W w' → RmRes g p cap b c now l t (at0 l i) w w') := fun l2 W w' k hq hf =>
    ⟨l2, hq, k.pm, k.hp, k.fr.trans (hf.mono (fun k hk => .inl (by simp at hk; simp [hk])))⟩
  by_cases e : i = n
  · have HRM : Hid (RmAt g p cap b c now l t n (at0 l i) w (l.take n) w) := rm_at hn (List.Perm.refl _) (by subst e; exact at0_lt hi) (Fr.refl _ _) (MvAt.refl h) (fun k k0 kn => hh k k0 (by omega))
    have hne : ((n : Int) == (i : Int)) = true := by simp; omega
    obtain ⟨x, hx⟩ : ∃ x, at0 l i = x := ⟨_, rfl⟩
    rw [hx] at HPOP HEND HRM ⊢
    obtain ⟨n1, hn1⟩ : ∃ n1, n + 1 = n1 := ⟨_, rfl⟩
    rw [hn1] at HLEN hw1
    clear h hi hl hh hn hn1 hx e
    go_enter Try.func30, Try.ntmps30
    go_wp2_with (first
      | (go_at_call 28; refine HLEN.mono ?_; rintro e w1 ⟨rfl, rfl⟩)
      | (go_at_call 50; refine (HPOP _ _ HRM.out).mono ?_; rintro e w2 ⟨rfl, hq2, hf2⟩))
    go_ret
    exact ⟨rfl, HEND.out _ _ _ HRM.out hq2 hf2⟩
  · have hin : i < n := by omega
    have hne : ((n : Int) == (i : Int)) = false := by simp; omega
    have HS := qswap_at0 g p cap b c now l t i n w h hi (by omega) e
    have ep := swp_perm (l := l) (i := i) (j := n) hi (by omega)
    have HD := fun W hq => down_any g p cap b c n now (swp l i n (at0 l i) (at0 l n)) t i W hq (by rw [ep.length_eq]; omega) (by rw [ep.length_eq]; omega) hin (dn_swp hn hh hin)
    have HU := fun (l2 : List Int) W (k : l2.Perm l) hq hu => up_any g p cap b c n now l2 t i W hq (by rw [k.length_eq]; omega) (by rw [k.length_eq]; omega) hin hu
    have HRM : Hid (∀ w1 l2 w2, Fr [p] w w1 → MvAt g p cap b c now t n (swp l i n (at0 l i) (at0 l n)) w1 l2 w2 → Heap t n (at0 l2) → RmAt g p cap b c now l t n (at0 l i) w (l2.take n) w2) := fun w1 l2 w2 hf hm hk => rm_at hn ep (swp_last _ _ (by omega)) hf hm hk
    have HRM2 : Hid (∀ w1 l2 w2 l3 w3, Fr [p] w w1 → MvAt g p cap b c now t n (swp l i n (at0 l i) (at0 l n)) w1 l2 w2 → MvAt g p cap b c now t n l2 w2 l3 w3 → Heap t n (at0 l3) → RmAt g p cap b c now l t n (at0 l i) w (l3.take n) w3) := fun w1 l2 w2 l3 w3 hf hm hm3 hk =>
      rm_at hn ep (swp_last _ _ (by omega)) hf ⟨hm3.q, hm3.pm.trans hm.pm, fun k hk => (hm3.tl k hk).trans (hm.tl k hk), hm.fr.trans hm3.fr⟩ hk
    have EP : Hid _ := ep
    obtain ⟨x, hx⟩ : ∃ x, at0 l i = x := ⟨_, rfl⟩
    rw [hx] at HPOP HEND HS HD HRM HRM2 EP ⊢
    obtain ⟨y, hy⟩ : ∃ y, at0 l n = y := ⟨_, rfl⟩
    rw [hy] at HS HD HRM HRM2 EP
    obtain ⟨n1, hn1⟩ : ∃ n1, n + 1 = n1 := ⟨_, rfl⟩
    rw [hn1] at HLEN hw1
    clear h hi hl hh hn hn1 hx hy e ep
    go_enter Try.func30, Try.ntmps30
    go_wp2_with (first
      | (go_at_call 28; refine HLEN.mono ?_; rintro e w1 ⟨rfl, rfl⟩)
      | (go_at_call 52; refine HS.mono ?_; rintro e w1 ⟨rfl, hq1, hf1⟩; have HF1 : Hid _ := hf1; clear hf1)
      | (go_at_call 32; refine (HD _ hq1).mono ?_; rintro e w2 ⟨r, rfl, l2, hm2, ht2, hu2⟩; have HM2 : Hid _ := hm2; have HT2 : Hid _ := ht2; have HU2 : Hid _ := hu2; clear hm2 ht2 hu2; cases r)
      | (go_at_call 31; refine (HU _ _ (HM2.out.pm.trans EP.out) HM2.out.q (HU2.out (by trivial))).mono ?_; rintro e w3 ⟨rfl, l3, hm3, hh3⟩)
      | (go_at_call 50; refine (HPOP _ _ (HRM2.out _ _ _ _ _ HF1.out HM2.out hm3 hh3)).mono ?_; rintro e w4 ⟨rfl, hq4, hf4⟩)
      | (go_at_call 50; refine (HPOP _ _ (HRM.out _ _ _ HF1.out HM2.out (HT2.out (by trivial)))).mono ?_; rintro e w4 ⟨rfl, hq4, hf4⟩))
    · go_ret
      exact ⟨rfl, HEND.out _ _ _ (HRM2.out _ _ _ _ _ HF1.out HM2.out hm3 hh3) hq4 hf4⟩
    · go_ret
      exact ⟨rfl, HEND.out _ _ _ (HRM.out _ _ _ HF1.out HM2.out (HT2.out (by trivial))) hq4 hf4⟩
end Go.Proofs.Ytkgnaaocgejeiaa
