/-
  The contract of fitsWhole over this program.
-/
import Derived.Test.YtmmkfpeckfmjeaaDoorTxe
namespace Go.Proofs.YtmmkfpeckfmjeaaDoor
open Go Go.RowKit Go.Maps Go.Sort
/-- A block's cells. -/
def Blk (B : Nat) (cs : Array Value) (w : World) : Prop := B < w.heap.size ∧ ∀ i v, cs[i]? = some v → w.cell? ⟨B, i, none⟩ = some v
theorem Blk.below {B : Nat} {cs : Array Value} {w w' : World} (h : Blk B cs w) (hb : RowKit.Below w.heap.size w w') : Blk B cs w' :=
  ⟨Nat.lt_of_lt_of_le h.1 hb.size, fun i v hv => (hb.cell (p := ⟨B, i, none⟩) h.1).trans (h.2 i v hv)⟩
theorem Blk.mk (w : World) (cs : Array Value) (T : Nat) : Blk w.heap.size cs (w.alloc (.cells cs T)) := ⟨by simp, fun i v hv => cell_new w cs T i v hv⟩
theorem nk_get {R : Nst → Value → Value → Value → Value → Value → Value → Prop} : ∀ {l : List Nst} {xs : List Value} {j : Nat} {k : Nst}, NKids R l xs → l[j]? = some k → ∃ a b c d e f, xs[j * 6]? = some a ∧ xs[j * 6 + 1]? = some b ∧ xs[j * 6 + 2]? = some c ∧ xs[j * 6 + 3]? = some d ∧ xs[j * 6 + 4]? = some e ∧ xs[j * 6 + 5]? = some f ∧ R k a b c d e f
  | [], _, _, _, _, h => by simp at h
  | g :: r, _, 0, k, ⟨a, b, c, d, e, f, ys, q, h1, _⟩, h => by
    simp at h
    subst h q
    exact ⟨a, b, c, d, e, f, rfl, rfl, rfl, rfl, rfl, rfl, h1⟩
  | g :: r, _, j + 1, k, ⟨a, b, c, d, e, f, ys, q, _, h2⟩, h => by
    subst q
    have := nk_get h2 (by simpa using h)
    have e : (j + 1) * 6 = j * 6 + 6 := by omega
    rw [e]
    exact this
theorem kd_get {R : El → Value → Value → Value → Value → Prop} : ∀ {l : List El} {xs : List Value} {j : Nat} {k : El}, KidsAt R l xs → l[j]? = some k → ∃ a b c d, xs[j * 4]? = some a ∧ xs[j * 4 + 1]? = some b ∧ xs[j * 4 + 2]? = some c ∧ xs[j * 4 + 3]? = some d ∧ R k a b c d
  | [], _, _, _, _, h => by simp at h
  | g :: r, _, 0, k, ⟨a, b, c, d, ys, q, h1, _⟩, h => by
    simp at h
    subst h q
    exact ⟨a, b, c, d, rfl, rfl, rfl, rfl, h1⟩
  | g :: r, _, j + 1, k, ⟨a, b, c, d, ys, q, _, h2⟩, h => by
    subst q
    have := kd_get h2 (by simpa using h)
    have e : (j + 1) * 4 = j * 4 + 4 := by omega
    rw [e]
    exact this
theorem all_drop2 {A : Type} {p : A → Bool} {l : List A} {j : Nat} {f : A} (h : l[j]? = some f) : (l.drop j).all p = (p f && (l.drop (j + 1)).all p) := by
  obtain ⟨a, rfl⟩ := List.getElem?_eq_some_iff.1 h
  rw [List.drop_eq_getElem_cons a]
  rfl
theorem NstAt.shape {P : Nat → Prop} {w : World} {m : Nat} {s : Nst} {a b c d e f : Value} (h : NstAt P w m s a b c d e f) : ∃ q ao n cp F cap, ∃ d' e' : Int, ∃ ao' n' cp', a = .string q ∧ b = .slice ao n cp ∧ c = .func (.func F) #[] cap ∧ d = .int .i64 d' ∧ e = .int .i64 e' ∧ f = .slice ao' n' cp' := by
  cases m with
  | zero => exact h.elim
  | succ m =>
    obtain ⟨rfl, ⟨_, ⟨ao, cap, e1, _⟩, _⟩, hT, rfl, rfl, ns, ⟨ao', cap', e2, _⟩, _⟩ := h
    obtain ⟨G, gap, rfl⟩ := hT.shape
    exact ⟨_, _, _, _, _, _, _, _, _, _, _, rfl, e1, rfl, rfl, rfl, e2⟩
theorem ElE.shape4 {P : Nat → Prop} {w : World} {e : El} {a b c d : Value} (h : ElE P w e a b c d) : ∃ q ao n cp q' ao' n' cp', a = .string q ∧ b = .slice ao n cp ∧ c = .string q' ∧ d = .slice ao' n' cp' := by
  obtain ⟨ao1, cap1, ao2, cap2, rfl, rfl⟩ := h.shape
  obtain ⟨rfl, _, rfl, _⟩ := h.parts
  exact ⟨_, _, _, _, _, _, _, _, rfl, rfl, rfl, rfl⟩
def smallS : Nat → Nst → Prop
  | 0, _ => True
  | n + 1, s => s.fds.length ≤ 100 ∧ s.kids.length ≤ 100 ∧ ∀ k ∈ s.kids, smallS n k
theorem szE.one {n : Nat} {e : El} (h : szE (n + 1) e) : szE 1 e := ⟨h.1, h.2.1, h.2.2.1, h.2.2.2.1, fun _ _ => trivial⟩
set_option maxHeartbeats 4000000 in
set_option maxRecDepth 100000 in
theorem fitsWhole_any {P P' : Nat → Prop} : ∀ (m : Nat) (s : Nst) (x : El) (a b c d e f a' b' c' d' : Value) (w : World), NstAt P' w m s a b c d e f → smallS m s → ElE P w x a' b' c' d' → szE m x → Va w →
    Calls Tryd.prog 21 #[.agg #[a, b, c, d, e, f], .agg #[a', b', c', d']] w fun e w' => e = .returned (.bool (fitsW m s x)) ∧ Below w.heap.size w w'
  | 0, _, _, _, _, _, _, _, _, _, _, _, _, _, h, _, _, _, _ => h.elim
  | m + 1, s, x, a, b, c, d, e, f, a', b', c', d', w, hN, hS, h1, hz, hV => by
    have IH := fitsWhole_any (P := P) (P' := P') m
    obtain ⟨rfl, hF, hT, rfl, rfl, ns, hKR, hKN⟩ := hN
    obtain ⟨G, gap, rfl⟩ := hT.shape
    obtain ⟨xo, xn, xc, rfl⟩ : ∃ ao n cp, b = .slice ao n cp := by
      obtain ⟨_, ⟨ao, cap, e, _⟩, _⟩ := hF
      exact ⟨_, _, _, e⟩
    obtain ⟨yo, yc, rfl⟩ : ∃ ao cp, f = .slice ao s.kids.length cp := by
      obtain ⟨ao, cap, e, _⟩ := hKR
      exact ⟨_, _, e⟩
    have HFT : Hid (∀ W, Below w.heap.size w W → Calls Tryd.prog 45 #[.agg #[.string ⟨s.nm.toArray⟩, .slice xo xn xc, .func (.func G) #[] gap], .agg #[a', b', c', d']] W fun e w' => e = .returned (.bool (fitsN s x)) ∧ Below W.heap.size W w') := fun W hb =>
      fits_any s xo xn xc G gap x a' b' c' d' W (hF.step (Stp.below hb)) (hT.step (Stp.below hb)) (h1.below hb) hz.one (hV.below hb) hS.1
    obtain ⟨ao1, cap1, ao2, cap2, rfl, rfl⟩ := h1.shape
    obtain ⟨rfl, _, rfl, es, hER, hEK⟩ := h1.parts
    have HNK : Hid (∀ W, Below w.heap.size w W → ∀ (j : Nat) (k : Nst), s.kids[j]? = some k → ∃ g off a b c d e f, yo = some ⟨g, off, none⟩ ∧ W.cell? ⟨g, off + j * 6, none⟩ = some a ∧ W.cell? ⟨g, off + (j * 6 + 1), none⟩ = some b ∧ W.cell? ⟨g, off + (j * 6 + 2), none⟩ = some c ∧ W.cell? ⟨g, off + (j * 6 + 3), none⟩ = some d ∧ W.cell? ⟨g, off + (j * 6 + 4), none⟩ = some e ∧ W.cell? ⟨g, off + (j * 6 + 5), none⟩ = some f ∧ NstAt P' w m k a b c d e f ∧ smallS m k) := fun W hb j k hk => by
      obtain ⟨a, b, c, d, e, f, k0, k1, k2, k3, k4, k5, hR⟩ := nk_get hKN hk
      obtain ⟨g, off, rfl, hg, hcs⟩ := row_flat2 hKR k0
      exact ⟨g, off, a, b, c, d, e, f, rfl, (hb.cell (p := ⟨g, off + j * 6, none⟩) hg).trans (hcs _ _ k0), (hb.cell (p := ⟨g, off + (j * 6 + 1), none⟩) hg).trans (hcs _ _ k1), (hb.cell (p := ⟨g, off + (j * 6 + 2), none⟩) hg).trans (hcs _ _ k2), (hb.cell (p := ⟨g, off + (j * 6 + 3), none⟩) hg).trans (hcs _ _ k3), (hb.cell (p := ⟨g, off + (j * 6 + 4), none⟩) hg).trans (hcs _ _ k4), (hb.cell (p := ⟨g, off + (j * 6 + 5), none⟩) hg).trans (hcs _ _ k5), hR, hS.2.2 k (List.mem_of_getElem? hk)⟩
    have HEK : Hid (∀ W, Below w.heap.size w W → ∀ (j : Nat) (k : El), x.kids[j]? = some k → ∃ g off a b c d, ao2 = some ⟨g, off, none⟩ ∧ W.cell? ⟨g, off + j * 4, none⟩ = some a ∧ W.cell? ⟨g, off + (j * 4 + 1), none⟩ = some b ∧ W.cell? ⟨g, off + (j * 4 + 2), none⟩ = some c ∧ W.cell? ⟨g, off + (j * 4 + 3), none⟩ = some d ∧ ElE P w k a b c d ∧ szE m k) := fun W hb j k hk => by
      obtain ⟨a, b, c, d, k0, k1, k2, k3, hR⟩ := kd_get hEK hk
      obtain ⟨g, off, rfl, hg, hcs⟩ := row_flat2 hER k0
      exact ⟨g, off, a, b, c, d, rfl, (hb.cell (p := ⟨g, off + j * 4, none⟩) hg).trans (hcs _ _ k0), (hb.cell (p := ⟨g, off + (j * 4 + 1), none⟩) hg).trans (hcs _ _ k1), (hb.cell (p := ⟨g, off + (j * 4 + 2), none⟩) hg).trans (hcs _ _ k2), (hb.cell (p := ⟨g, off + (j * 4 + 3), none⟩) hg).trans (hcs _ _ k3), hR, hz.2.2.2.2 k (List.mem_of_getElem? hk)⟩
    have HIH : Hid (∀ W, Below w.heap.size w W → ∀ (k : Nst) (y : El) a b c d e f a' b' c' d', NstAt P' w m k a b c d e f → smallS m k → ElE P w y a' b' c' d' → szE m y → Calls Tryd.prog 21 #[.agg #[a, b, c, d, e, f], .agg #[a', b', c', d']] W fun e w' => e = .returned (.bool (fitsW m k y)) ∧ Below W.heap.size W w') := fun W hb k y a b c d e f a' b' c' d' q1 q2 q3 q4 =>
      IH k y a b c d e f a' b' c' d' W (q1.step (Stp.below hb)) q2 (q3.below hb) q4 (hV.below hb)
    obtain ⟨s1, hs1⟩ : ∃ s1, (⟨x.nm.toArray⟩ : ByteArray) = s1 := ⟨_, rfl⟩
    obtain ⟨s2, hs2⟩ : ∃ s2, (⟨x.text.toArray⟩ : ByteArray) = s2 := ⟨_, rfl⟩
    obtain ⟨s0, hs0⟩ : ∃ s1, (⟨s.nm.toArray⟩ : ByteArray) = s1 := ⟨_, rfl⟩
    obtain ⟨n1, hn1⟩ : ∃ n1, x.attrs.length = n1 := ⟨_, rfl⟩
    obtain ⟨n2, hn2⟩ : ∃ n2, x.kids.length = n2 := ⟨_, rfl⟩
    obtain ⟨n3, hn3⟩ : ∃ n3, s.kids.length = n3 := ⟨_, rfl⟩
    obtain ⟨lo, hlo⟩ : ∃ lo, s.least = lo := ⟨_, rfl⟩
    obtain ⟨hi, hhi⟩ : ∃ hi, s.most = hi := ⟨_, rfl⟩
    have hn2b : n2 ≤ 1000000000000 := by rw [← hn2]; exact hz.2.2.2.1
    have hn3b : n3 ≤ 100 := by rw [← hn3]; exact hS.2.1
    have HN2 : Hid (x.kids.length = n2) := hn2
    have HN3 : Hid (s.kids.length = n3) := hn3
    unfold fitsW
    have h2b : Hid (∀ o1 o2, Below w.heap.size w ((w.alloc o1).alloc o2)) := fun o1 o2 => (bw0 w o1).alloc (by simp) o2
    have hbk := fun cs cs' T T' => (Blk.mk w cs T).below (bw0 (w.alloc (.cells cs T)) (.cells cs' T'))
    have hbl : ∀ cs cs' T T', Blk (w.heap.size + 1) cs' ((w.alloc (.cells cs T)).alloc (.cells cs' T')) := fun cs cs' T T' => by
      have e : (w.alloc (.cells cs T)).heap.size = w.heap.size + 1 := by simp
      have := Blk.mk (w.alloc (.cells cs T)) cs' T'
      rw [e] at this
      exact this
    have hbk := Lib.hid hbk
    have hbl := Lib.hid hbl
    cases hft : fitsN s x with
    | false =>
      rw [Bool.false_and]
      rw [hft] at HFT
      simp only [hs1, hs2, hn1, hn2, hn3, hs0, hlo, hhi] at HFT ⊢
      clear h1 hS hs1 hs0 hs2 hn1 hn2 hn3 hz hV IH hKR hKN hER hEK hlo hhi hft hF hT HNK HEK HIH
      go_enter Tryd.func21, Tryd.ntmps21
      go_wp2_with fail
      go_at_call 45
      refine (HFT.out _ ?_).mono ?_
      exact h2b.out _ _
      rintro e w2 ⟨rfl, hb2⟩
      have HB2 : Hid (Below w.heap.size w w2) := (h2b.out _ _).trans (hb2.mono (h2b.out _ _).size)
      have HN6 : Hid (Blk w.heap.size #[.string s0, .slice xo xn xc, .func (.func G) #[] gap, .int .i64 (lo : Int), .int .i64 (hi : Int), .slice yo n3 yc] w2) := (hbk.out _ _ _ _).below hb2
      have HE4 : Hid (Blk (w.heap.size + 1) #[.string s1, .slice ao1 n1 cap1, .string s2, .slice ao2 n2 cap2] w2) := (hbl.out _ _ _ _).below hb2
      clear hb2
      have r0 := HN6.out.2 0 _ rfl
      have r1 := HN6.out.2 1 _ rfl
      have r2 := HN6.out.2 2 _ rfl
      have r3 := HN6.out.2 3 _ rfl
      have r4 := HN6.out.2 4 _ rfl
      have r5 := HN6.out.2 5 _ rfl
      have q0 := HE4.out.2 0 _ rfl
      have q1 := HE4.out.2 1 _ rfl
      have q2 := HE4.out.2 2 _ rfl
      have q3 := HE4.out.2 3 _ rfl
      go_wp2_with fail
      go_ret
      exact ⟨rfl, HB2.out⟩
    | true =>
      rw [Bool.true_and]
      rw [hft] at HFT
      by_cases hlow : lo ≤ n2
      · rw [hlo, hn2, decide_eq_true hlow, Bool.true_and]
        have hl1 : ¬ (n2 : Int) < (lo : Int) := by omega
        by_cases hhigh : n2 ≤ hi
        · rw [hhi, decide_eq_true hhigh, Bool.true_and]
          have hl2 : ¬ (hi : Int) < (n2 : Int) := by omega
          have hl3 : decide (n2 < lo) = false := by simp; omega
          have hl4 : decide (hi < n2) = false := by simp; omega
          obtain ⟨E, hEE⟩ : ∃ E, (s.kids.all fun k => x.kids.all (fitsW m k)) = E := ⟨_, rfl⟩
          rw [hEE]
          have HEE : Hid _ := hEE
          simp only [hs1, hs2, hn1, hn2, hn3, hs0] at HFT ⊢
          clear h1 hS hs1 hs0 hs2 hn1 hn2 hn3 hz hV IH hKR hKN hER hEK hlo hhi hft hF hT hEE
          go_enter Tryd.func21, Tryd.ntmps21
          go_wp2_with fail
          go_at_call 45
          refine (HFT.out _ ?_).mono ?_
          exact h2b.out _ _
          rintro e w2 ⟨rfl, hb2⟩
          have HB2 : Hid (Below w.heap.size w w2) := (h2b.out _ _).trans (hb2.mono (h2b.out _ _).size)
          have HN6 : Hid (Blk w.heap.size #[.string s0, .slice xo xn xc, .func (.func G) #[] gap, .int .i64 (lo : Int), .int .i64 (hi : Int), .slice yo n3 yc] w2) := (hbk.out _ _ _ _).below hb2
          have HE4 : Hid (Blk (w.heap.size + 1) #[.string s1, .slice ao1 n1 cap1, .string s2, .slice ao2 n2 cap2] w2) := (hbl.out _ _ _ _).below hb2
          clear hb2
          have r0 := HN6.out.2 0 _ rfl
          have r1 := HN6.out.2 1 _ rfl
          have r2 := HN6.out.2 2 _ rfl
          have r3 := HN6.out.2 3 _ rfl
          have r4 := HN6.out.2 4 _ rfl
          have r5 := HN6.out.2 5 _ rfl
          have q0 := HE4.out.2 0 _ rfl
          have q1 := HE4.out.2 1 _ rfl
          have q2 := HE4.out.2 2 _ rfl
          have q3 := HE4.out.2 3 _ rfl
          go_wp2_with fail
          clear r0 r1 r2 r3 r4 r5 q0 q1 q2 q3
          go_loopw [33] (fun i wr => ∃ j : Nat, j ≤ n3 ∧ i = .int .i64 (j : Int) ∧ Hid (((s.kids.drop j).all fun k => x.kids.all (fitsW m k)) = E) ∧ Hid (Below w.heap.size w wr) ∧ Hid (Blk w.heap.size #[.string s0, .slice xo xn xc, .func (.func G) #[] gap, .int .i64 (lo : Int), .int .i64 (hi : Int), .slice yo n3 yc] wr) ∧ Hid (Blk (w.heap.size + 1) #[.string s1, .slice ao1 n1 cap1, .string s2, .slice ao2 n2 cap2] wr)) (fun i _ => n3 - (intOf i).toNat)
          case atStart => exact ⟨0, Nat.zero_le _, rfl, HEE, HB2, HN6, HE4⟩
          case round =>
            obtain ⟨j, hj, rfl, HJ, HBW, HNW, HEW⟩ := hrel
            by_cases hlt : j < n3
            · have hj0 : (0 : Int) ≤ (j : Int) := by omega
              have hj1 : (j : Int) < (n3 : Int) := by omega
              obtain ⟨k, hk⟩ : ∃ k, s.kids[j]? = some k := ⟨_, List.getElem?_eq_getElem (by rw [HN3.out]; exact hlt)⟩
              obtain ⟨g, off, ka, kb, kc, kd, ke, kf, rfl, a0, a1, a2, a3, a4, a5, hNk, hSk⟩ := HNK.out _ HBW.out j k hk
              rw [← Nat.add_assoc] at a1 a2 a3 a4 a5
              obtain ⟨t1, t2, t3, t4, t5, t6, t7, t8, t9, t10, t11, rfl, rfl, rfl, rfl, rfl, rfl⟩ := hNk.shape
              have had := all_drop2 (p := fun k => x.kids.all (fitsW m k)) hk
              have HAD : Hid _ := had
              have hIH := fun W hb y a' b' c' d' q3 q4 => HIH.out W hb k y (.string t1) (.slice t2 t3 t4) (.func (.func t5) #[] t6) (.int .i64 t7) (.int .i64 t8) (.slice t9 t10 t11) a' b' c' d' hNk hSk q3 q4
              have HIK : Hid (∀ (W : World), Below w.heap.size w W → ∀ (y : El) (a' b' c' d' : Value), ElE P w y a' b' c' d' → szE m y → Calls Tryd.prog 21 #[.agg #[.string t1, .slice t2 t3 t4, .func (.func t5) #[] t6, .int .i64 t7, .int .i64 t8, .slice t9 t10 t11], .agg #[a', b', c', d']] W fun e w' => e = .returned (.bool (fitsW m k y)) ∧ Below W.heap.size W w') := hIH
              have HBO : Hid (∀ o, Below w.heap.size w (wr.alloc o)) := fun o => HBW.out.alloc HBW.out.size _
              have HNO : Hid (∀ o, Blk w.heap.size #[.string s0, .slice xo xn xc, .func (.func G) #[] gap, .int .i64 (lo : Int), .int .i64 (hi : Int), .slice (some ⟨g, off, none⟩) n3 yc] (wr.alloc o)) := fun o => HNW.out.below (bw0 wr _)
              have HEO : Hid (∀ o, Blk (w.heap.size + 1) #[.string s1, .slice ao1 n1 cap1, .string s2, .slice ao2 n2 cap2] (wr.alloc o)) := fun o => HEW.out.below (bw0 wr _)
              have HKO : Hid (∀ T, Blk wr.heap.size #[.string t1, .slice t2 t3 t4, .func (.func t5) #[] t6, .int .i64 t7, .int .i64 t8, .slice t9 t10 t11] (wr.alloc (.cells #[.string t1, .slice t2 t3 t4, .func (.func t5) #[] t6, .int .i64 t7, .int .i64 t8, .slice t9 t10 t11] T))) := fun T => Blk.mk wr _ T
              have r3 := HNW.out.2 3 _ rfl
              have q0 := fun o => (HEO.out o).2 0 _ rfl
              have q1 := fun o => (HEO.out o).2 1 _ rfl
              have q2 := fun o => (HEO.out o).2 2 _ rfl
              have q3 := fun o => (HEO.out o).2 3 _ rfl
              clear had hIH hNk hSk hk
              go_wp2_with fail
              have HB1 := Lib.hid (HBO.out (.cells #[.string t1, .slice t2 t3 t4, .func (.func t5) #[] t6, .int .i64 t7, .int .i64 t8, .slice t9 t10 t11] 59))
              have HN1 := Lib.hid (HNO.out (.cells #[.string t1, .slice t2 t3 t4, .func (.func t5) #[] t6, .int .i64 t7, .int .i64 t8, .slice t9 t10 t11] 59))
              have HE1 := Lib.hid (HEO.out (.cells #[.string t1, .slice t2 t3 t4, .func (.func t5) #[] t6, .int .i64 t7, .int .i64 t8, .slice t9 t10 t11] 59))
              have HK1 := Lib.hid (HKO.out 59)
              obtain ⟨W1, hW1⟩ : ∃ W1, wr.alloc (.cells #[.string t1, .slice t2 t3 t4, .func (.func t5) #[] t6, .int .i64 t7, .int .i64 t8, .slice t9 t10 t11] 59) = W1 := ⟨_, rfl⟩
              rw [hW1] at HB1 HN1 HE1 HK1 ⊢
              obtain ⟨Bk, hBk⟩ : ∃ Bk, wr.heap.size = Bk := ⟨_, rfl⟩
              simp only [hBk] at HK1 ⊢
              clear HBO HNO HEO HKO q0 q1 q2 q3 r3 hW1 hBk a0 a1 a2 a3 a4 a5
              go_loopw [40] (fun i wi => ∃ i' : Nat, i' ≤ n2 ∧ i = .int .i64 (i' : Int) ∧ Hid ((x.kids.drop i').all (fitsW m k) = x.kids.all (fitsW m k)) ∧ Hid (Below w.heap.size w wi) ∧ Hid (Blk w.heap.size #[.string s0, .slice xo xn xc, .func (.func G) #[] gap, .int .i64 (lo : Int), .int .i64 (hi : Int), .slice (some ⟨g, off, none⟩) n3 yc] wi) ∧ Hid (Blk (w.heap.size + 1) #[.string s1, .slice ao1 n1 cap1, .string s2, .slice ao2 n2 cap2] wi) ∧ Hid (Blk Bk #[.string t1, .slice t2 t3 t4, .func (.func t5) #[] t6, .int .i64 t7, .int .i64 t8, .slice t9 t10 t11] wi)) (fun i _ => n2 - (intOf i).toNat)
              case atStart => exact ⟨0, Nat.zero_le _, rfl, rfl, HB1, HN1, HE1, HK1⟩
              case round =>
                obtain ⟨i', hi', rfl, HJI, HBi, HNi, HEi, HKi⟩ := hrel
                by_cases hlt2 : i' < n2
                · have hi0 : (0 : Int) ≤ (i' : Int) := by omega
                  have hi1 : (i' : Int) < (n2 : Int) := by omega
                  obtain ⟨y, hy⟩ : ∃ y, x.kids[i']? = some y := ⟨_, List.getElem?_eq_getElem (by rw [HN2.out]; exact hlt2)⟩
                  obtain ⟨gy, oy, ya, yb, yc', yd, rfl, b0, b1, b2, b3, hEy, hSy⟩ := HEK.out _ HBi.out i' y hy
                  rw [← Nat.add_assoc] at b1 b2 b3
                  have had := all_drop2 (p := fitsW m k) hy
                  obtain ⟨z1, z2, z3, z4, z5, z6, z7, z8, rfl, rfl, rfl, rfl⟩ := hEy.shape4
                  have HBo : Hid (Below w.heap.size w (wr.alloc (.cells #[.string z1, .slice z2 z3 z4, .string z5, .slice z6 z7 z8] 29))) := HBi.out.alloc HBi.out.size _
                  have HNo := Lib.hid (HNi.out.below (bw0 wr (.cells #[.string z1, .slice z2 z3 z4, .string z5, .slice z6 z7 z8] 29)))
                  have HEo := Lib.hid (HEi.out.below (bw0 wr (.cells #[.string z1, .slice z2 z3 z4, .string z5, .slice z6 z7 z8] 29)))
                  have HKo := Lib.hid (HKi.out.below (bw0 wr (.cells #[.string z1, .slice z2 z3 z4, .string z5, .slice z6 z7 z8] 29)))
                  have hyo := Blk.mk wr #[.string z1, .slice z2 z3 z4, .string z5, .slice z6 z7 z8] 29
                  have p0 := HKo.out.2 0 _ rfl
                  have p1 := HKo.out.2 1 _ rfl
                  have p2 := HKo.out.2 2 _ rfl
                  have p3 := HKo.out.2 3 _ rfl
                  have p4 := HKo.out.2 4 _ rfl
                  have p5 := HKo.out.2 5 _ rfl
                  have z0 := hyo.2 0 _ rfl
                  have y1 := hyo.2 1 _ rfl
                  have y2 := hyo.2 2 _ rfl
                  have y3 := hyo.2 3 _ rfl
                  clear hyo
                  cases hfy : fitsW m k y with
                  | true =>
                    rw [hfy, Bool.true_and] at had
                    have HJ2 : Hid ((x.kids.drop (i' + 1)).all (fitsW m k) = x.kids.all (fitsW m k)) := had.symm.trans HJI.out
                    have HFY := Lib.hid hfy
                    clear had hfy hy
                    go_wp2_with fail
                    go_at_call 21
                    refine (HIK.out _ ?_ y _ _ _ _ hEy hSy).mono ?_
                    exact HBo.out
                    rintro e w5 ⟨rfl, hb5⟩
                    rw [HFY.out]
                    have HB5 : Hid (Below w.heap.size w w5) := HBo.out.trans (hb5.mono HBo.out.size)
                    have HN5 : Hid (Blk w.heap.size #[.string s0, .slice xo xn xc, .func (.func G) #[] gap, .int .i64 (lo : Int), .int .i64 (hi : Int), .slice (some ⟨g, off, none⟩) n3 yc] w5) := HNo.out.below hb5
                    have HE5 : Hid (Blk (w.heap.size + 1) #[.string s1, .slice ao1 n1 cap1, .string s2, .slice (some ⟨gy, oy, none⟩) n2 cap2] w5) := HEo.out.below hb5
                    have HK5 : Hid (Blk Bk #[.string t1, .slice t2 t3 t4, .func (.func t5) #[] t6, .int .i64 t7, .int .i64 t8, .slice t9 t10 t11] w5) := HKo.out.below hb5
                    clear hb5 p0 p1 p2 p3 p4 p5 z0 y1 y2 y3
                    go_wp2_with fail
                    go_roundw
                    case rel => exact ⟨i' + 1, by omega, by go_num, HJ2, HB5, HN5, HE5, HK5⟩
                    case measure => simp [intOf]; omega
                  | false =>
                    rw [hfy, Bool.false_and] at had
                    have HJ2 : Hid (false = E) := by
                      show _ = _
                      rw [← HJ.out, HAD.out, ← HJI.out, had]
                      rfl
                    obtain rfl : false = E := HJ2.out
                    have HFY := Lib.hid hfy
                    clear had hfy hy
                    go_wp2_with fail
                    go_at_call 21
                    refine (HIK.out _ ?_ y _ _ _ _ hEy hSy).mono ?_
                    exact HBo.out
                    rintro e w5 ⟨rfl, hb5⟩
                    rw [HFY.out]
                    have HB5 : Hid (Below w.heap.size w w5) := HBo.out.trans (hb5.mono HBo.out.size)
                    have HN5 : Hid (Blk w.heap.size #[.string s0, .slice xo xn xc, .func (.func G) #[] gap, .int .i64 (lo : Int), .int .i64 (hi : Int), .slice (some ⟨g, off, none⟩) n3 yc] w5) := HNo.out.below hb5
                    have HE5 : Hid (Blk (w.heap.size + 1) #[.string s1, .slice ao1 n1 cap1, .string s2, .slice (some ⟨gy, oy, none⟩) n2 cap2] w5) := HEo.out.below hb5
                    have HK5 : Hid (Blk Bk #[.string t1, .slice t2 t3 t4, .func (.func t5) #[] t6, .int .i64 t7, .int .i64 t8, .slice t9 t10 t11] w5) := HKo.out.below hb5
                    clear hb5 p0 p1 p2 p3 p4 p5 z0 y1 y2 y3
                    go_wp2_with fail
                    go_ret
                    exact ⟨rfl, HB5.out⟩
                · have hi1 : ¬ (i' : Int) < (n2 : Int) := by omega
                  have hdr : x.kids.drop i' = [] := List.drop_of_length_le (by rw [HN2.out]; omega)
                  have HJ2 : Hid (((s.kids.drop (j + 1)).all fun k => x.kids.all (fitsW m k)) = E) := by
                    show _ = _
                    rw [← HJ.out, HAD.out, ← HJI.out, hdr]
                    rfl
                  clear hdr
                  go_wp2_with fail
                  go_roundw
                  case rel => exact ⟨j + 1, by omega, by go_num, HJ2, HBi, HNi, HEi⟩
                  case measure => simp [intOf]; omega
            · have hj1 : ¬ (j : Int) < (n3 : Int) := by omega
              have hdr : s.kids.drop j = [] := List.drop_of_length_le (by rw [HN3.out]; omega)
              have HJ2 : Hid (true = E) := by
                show _ = _
                rw [← HJ.out, hdr]
                rfl
              obtain rfl : true = E := HJ2.out
              clear hdr
              go_wp2_with fail
              go_ret
              exact ⟨rfl, HBW.out⟩
        · rw [hhi, decide_eq_false hhigh, Bool.false_and]
          have hl2 : (hi : Int) < (n2 : Int) := by omega
          simp only [hs1, hs2, hn1, hn2, hn3, hs0] at HFT ⊢
          clear h1 hS hs1 hs0 hs2 hn1 hn2 hn3 hz hV IH hKR hKN hER hEK hlo hhi hft hF hT HNK HEK HIH
          go_enter Tryd.func21, Tryd.ntmps21
          go_wp2_with fail
          go_at_call 45
          refine (HFT.out _ ?_).mono ?_
          exact h2b.out _ _
          rintro e w2 ⟨rfl, hb2⟩
          have HB2 : Hid (Below w.heap.size w w2) := (h2b.out _ _).trans (hb2.mono (h2b.out _ _).size)
          have HN6 : Hid (Blk w.heap.size #[.string s0, .slice xo xn xc, .func (.func G) #[] gap, .int .i64 (lo : Int), .int .i64 (hi : Int), .slice yo n3 yc] w2) := (hbk.out _ _ _ _).below hb2
          have HE4 : Hid (Blk (w.heap.size + 1) #[.string s1, .slice ao1 n1 cap1, .string s2, .slice ao2 n2 cap2] w2) := (hbl.out _ _ _ _).below hb2
          clear hb2
          have r0 := HN6.out.2 0 _ rfl
          have r1 := HN6.out.2 1 _ rfl
          have r2 := HN6.out.2 2 _ rfl
          have r3 := HN6.out.2 3 _ rfl
          have r4 := HN6.out.2 4 _ rfl
          have r5 := HN6.out.2 5 _ rfl
          have q0 := HE4.out.2 0 _ rfl
          have q1 := HE4.out.2 1 _ rfl
          have q2 := HE4.out.2 2 _ rfl
          have q3 := HE4.out.2 3 _ rfl
          go_wp2_with fail
          go_ret
          exact ⟨rfl, HB2.out⟩
      · rw [hlo, hn2, decide_eq_false hlow, Bool.false_and]
        have hl1 : (n2 : Int) < (lo : Int) := by omega
        simp only [hs1, hs2, hn1, hn2, hn3, hs0, hhi] at HFT ⊢
        clear h1 hS hs1 hs0 hs2 hn1 hn2 hn3 hz hV IH hKR hKN hER hEK hlo hhi hft hF hT HNK HEK HIH
        go_enter Tryd.func21, Tryd.ntmps21
        go_wp2_with fail
        go_at_call 45
        refine (HFT.out _ ?_).mono ?_
        exact h2b.out _ _
        rintro e w2 ⟨rfl, hb2⟩
        have HB2 : Hid (Below w.heap.size w w2) := (h2b.out _ _).trans (hb2.mono (h2b.out _ _).size)
        have HN6 : Hid (Blk w.heap.size #[.string s0, .slice xo xn xc, .func (.func G) #[] gap, .int .i64 (lo : Int), .int .i64 (hi : Int), .slice yo n3 yc] w2) := (hbk.out _ _ _ _).below hb2
        have HE4 : Hid (Blk (w.heap.size + 1) #[.string s1, .slice ao1 n1 cap1, .string s2, .slice ao2 n2 cap2] w2) := (hbl.out _ _ _ _).below hb2
        clear hb2
        have r0 := HN6.out.2 0 _ rfl
        have r1 := HN6.out.2 1 _ rfl
        have r2 := HN6.out.2 2 _ rfl
        have r3 := HN6.out.2 3 _ rfl
        have r4 := HN6.out.2 4 _ rfl
        have r5 := HN6.out.2 5 _ rfl
        have q0 := HE4.out.2 0 _ rfl
        have q1 := HE4.out.2 1 _ rfl
        have q2 := HE4.out.2 2 _ rfl
        have q3 := HE4.out.2 3 _ rfl
        go_wp2_with fail
        go_ret
        exact ⟨rfl, HB2.out⟩
end Go.Proofs.YtmmkfpeckfmjeaaDoor
