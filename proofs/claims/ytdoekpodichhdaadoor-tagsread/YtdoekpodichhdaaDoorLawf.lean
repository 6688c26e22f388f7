/-
  The walk of the statement TagsJoin over this program: for every two strings it returns true.
-/
import Derived.Test.YtdoekpodichhdaaDoorLawe
namespace Go.Proofs.YtdoekpodichhdaaDoor
open Go.RowKit
theorem read_gt (h : List UInt8) (t : Bool) : readN h t 62 = if t = true then ([], false, tagN h) else if h.length = 512 then (h, t, [], 4) else (h ++ [62], t, [], 0) := by
  unfold readN
  rw [if_neg (show ¬ (62 : UInt8) = 60 by decide)]
  cases t <;> simp
theorem join_plain (u : List UInt8) (h0 : (feedN st0 u).1.err = 0) (h1 : (feedN st0 u).1.held = []) (h2 : u = [] ∨ ∃ v, u = v ++ [62]) : (feedN st0 u).1 = st0 := by
  rcases h2 with rfl | ⟨v, rfl⟩
  · rfl
  · rw [feedN_snoc] at h0 h1 ⊢
    simp only at h0 h1 ⊢
    obtain ⟨⟨h, t, e⟩, hS⟩ : ∃ S, (feedN st0 v).1 = S := ⟨_, rfl⟩
    rw [hS] at h0 h1 ⊢
    by_cases he : e = 0
    · subst he
      unfold stepN at h0 h1 ⊢
      simp only [if_true, read_gt] at h0 h1 ⊢
      cases t with
      | true =>
        simp only [if_true] at h0 h1 ⊢
        rw [h0]
        rfl
      | false =>
        simp only [Bool.false_eq_true, if_false] at h0 h1
        by_cases h5 : h.length = 512
        · rw [if_pos h5] at h0
          simp at h0
        · rw [if_neg h5] at h1
          simp at h1
    · rw [stepN_err ⟨h, t, e⟩ 62 he] at h0
      exact absurd h0 he
theorem three_new (w : World) : Fresh w.heap.size (((w.alloc (.cells #[.slice none 0 0, .bool false, .int .i64 0] 49)).alloc (.cells #[.slice none 0 0, .bool false, .int .i64 0] 49)).alloc (.cells #[.slice none 0 0, .bool false, .int .i64 0] 49)) ∧
    Fresh (w.heap.size + 1) (((w.alloc (.cells #[.slice none 0 0, .bool false, .int .i64 0] 49)).alloc (.cells #[.slice none 0 0, .bool false, .int .i64 0] 49)).alloc (.cells #[.slice none 0 0, .bool false, .int .i64 0] 49)) ∧
    Fresh (w.heap.size + 2) (((w.alloc (.cells #[.slice none 0 0, .bool false, .int .i64 0] 49)).alloc (.cells #[.slice none 0 0, .bool false, .int .i64 0] 49)).alloc (.cells #[.slice none 0 0, .bool false, .int .i64 0] 49)) := by
  have a1 := Fresh.new w
  have a2 := Fresh.new (w.alloc (.cells #[.slice none 0 0, .bool false, .int .i64 0] 49))
  have a3 := Fresh.new ((w.alloc (.cells #[.slice none 0 0, .bool false, .int .i64 0] 49)).alloc (.cells #[.slice none 0 0, .bool false, .int .i64 0] 49))
  have s1 : (w.alloc (.cells #[.slice none 0 0, .bool false, .int .i64 0] 49)).heap.size = w.heap.size + 1 := by simp
  have s2 : ((w.alloc (.cells #[.slice none 0 0, .bool false, .int .i64 0] 49)).alloc (.cells #[.slice none 0 0, .bool false, .int .i64 0] 49)).heap.size = w.heap.size + 2 := by simp
  rw [s1] at a2
  rw [s2] at a3
  exact ⟨(a1.below ((Below.refl _ _).alloc (Nat.le_refl _) _)).below ((Below.refl _ _).alloc (Nat.le_refl _) _), a2.below ((Below.refl _ _).alloc (Nat.le_refl _) _), a3⟩
/-- A row stays while another row of its kind grows, that was made behind it. -/
theorem owns_keep {B B' N : Nat} {sz sz' : Nat} {e e' : TypeId} {v v' : Value} {n n' : Nat} {xs xs' : List Value} {w w' : World} (h : w.ownsRow B e sz v n xs) (hg : w.grownBy w' v'.ownBlock) (hlt : ∀ k, v.ownBlock = some k → k < N) (ho : w.ownsRow B' e' sz' v' n' xs') (hN : N ≤ B' := by exact Nat.le_refl _) : w'.ownsRow B e sz v n xs := by
  refine World.ownsRow.kept h hg ?_
  cases hv : v.ownBlock with
  | none => exact .inl rfl
  | some k =>
    refine .inr fun e => ?_
    have h1 := hlt k hv
    have h2 := owns_lt ho k e.symm
    omega
theorem last_is (u : ByteArray) (h : 0 < u.size) (hl : u[u.size - 1]'(by omega) = 62) : ∃ v, u.data.toList = v ++ [62] := ⟨_, by rw [list_last u h, hl]⟩
set_option maxHeartbeats 4000000 in
set_option maxRecDepth 100000 in
theorem join_walk (s t : ByteArray) (w : World) (hT : Tabs w) (hs : s.size ≤ maxLen) (ht : t.size ≤ maxLen) : Calls Tryd.prog 7 #[.string s, .string t] w fun e w' => e = .returned (.bool true) ∧ Below w.heap.size w w' := by
  have hT3 := hT.size
  obtain ⟨u, hu, E1⟩ := early_at s hs
  obtain ⟨v, hv, E2⟩ := early_at t ht
  have H0 := lives_any w hT
  obtain ⟨i0, hi, hz0, hz1, hz2⟩ := info_parts info53
  obtain ⟨⟨⟨h, tg, er⟩, l⟩, hF⟩ : ∃ p, feedN st0 u.data.toList = p := ⟨_, rfl⟩
  have HF : Hid _ := hF
  clear hs ht
  go_enter Tryd.func7, Tryd.ntmps7
  go_wp2_with (first | (go_at_call 9; refine H0.mono ?_; rintro e w1 ⟨rfl, hb1⟩) | (go_at_call 10; refine (E1 _).mono ?_; rintro e w' ⟨rfl, hw⟩; rw [hw]) | (go_at_call 10; refine (E2 _).mono ?_; rintro e w' ⟨rfl, hw⟩; rw [hw]) | (go_at_call 11; refine (new_any _).mono ?_; rintro e w' ⟨rfl, hw⟩; rw [hw]))
  obtain ⟨x1, x2, x3⟩ := three_new w1
  have hs1 := hb1.size
  have hb3 := ((hb1.alloc hs1 (.cells #[.slice none 0 0, .bool false, .int .i64 0] 49)).alloc (by simp; omega) (.cells #[.slice none 0 0, .bool false, .int .i64 0] 49)).alloc (by simp; omega) (.cells #[.slice none 0 0, .bool false, .int .i64 0] 49)
  refine (feed_at w.heap.size w1.heap.size st0 _ _ u HF.out _ (x1.rdr hs1) ok_st0 (hT.below hT3 hb3) hT3 (by omega)).mono ?_
  rintro e w2 ⟨⟨ao2, n2, cap2, rfl, t2⟩, r2, f2⟩
  have y2 := x2.fr f2 (by omega)
  have y3 := x3.fr f2 (by omega)
  have hb4 := hb3.trans f2.1
  have K2 := r2.heldIs
  have HH := held_is _ _ _ K2
  clear H0 E1 E2 x1 x2 x3 r2 f2 hb3
  by_cases he : er = 0
  · subst he
    by_cases hh : h = []
    · subst hh
      by_cases hz : 0 < u.size
      · have hwr : ((u.size : Int) - 1) = ((u.size - 1 : Nat) : Int) := by omega
        have hlz : u.size - 1 < u.size := by omega
        by_cases hl : u[u.size - 1]'hlz = 62
        · have hl' : (((u[u.size - 1]'hlz).toNat : Int) != 62) = false := by rw [hl]; rfl
          have hor : u.data.toList = [] ∨ ∃ v, u.data.toList = v ++ [62] := .inr (last_is u hz hl)
          clear hl
          have hst : feedN st0 (u ++ v).data.toList = ((feedN st0 v.data.toList).1, l ++ (feedN st0 v.data.toList).2) := by
            have j := join_plain u.data.toList (by rw [HF.out]) (by rw [HF.out]) hor
            rw [app_list, feedN_app, j, HF.out]
          obtain ⟨⟨⟨h2, tg2, e2⟩, m⟩, hG⟩ : ∃ p, feedN st0 v.data.toList = p := ⟨_, rfl⟩
          rw [hG] at hst
          have hll : l.length ≤ 6000 := by
            have := feedN_len u.data.toList st0
            rw [HF.out, ← size_list] at this
            simp only at this
            omega
          have hml : m.length ≤ 6000 := by
            have := feedN_len v.data.toList st0
            rw [hG, ← size_list] at this
            simp only at this
            omega
          have hsix : ∀ q ∈ l ++ m, q.attrs.length ≤ 1000000 := fun q hq => by
            have := feedN_six (u ++ v).data.toList st0 q (by rw [hst]; exact hq)
            omega
          have t2' : ToksAt 44 w.heap.size (.slice ao2 n2 cap2) l w2 := t2.base (by simp; omega)
          have HST : Hid _ := hst
          have HG : Hid _ := hG
          have HSIX : Hid _ := hsix
          have HOR : Hid _ := hor
          clear hst hG hsix hor t2
          go_wp2_with (first | (go_at_call 16; refine HH.mono ?_; rintro e w' ⟨rfl, hw⟩; rw [hw]) | (go_at_call 12; refine (feed_at w.heap.size (w1.heap.size + 1) st0 _ _ v HG.out _ (y2.rdr (by omega)) ok_st0 (hT.below hT3 hb4) hT3 (by omega)).mono ?_))
          rintro e w3 ⟨⟨ao3, n3, cap3, rfl, t3⟩, r3, f3⟩
          have z3 := y3.fr f3 (by omega)
          have hb5 := hb4.trans f3.1
          have t23 := t2'.fr (by decide) f3 y2 (by decide) (by decide)
          have t33 : ToksAt 44 w.heap.size (.slice ao3 n3 cap3) m w3 := t3.base hb4.size
          have k3 := r3.heldIs
          clear HH K2 y2 y3 t2' t3 r3 f3
          have huv : (u ++ v).size ≤ 100000 := by rw [app_size]; omega
          have hsum : (u.size : Int) + (v.size : Int) ≤ 9223372036854775807 := by omega
          go_wp2_with (go_at_call 12; refine (feed_at w.heap.size (w1.heap.size + 2) st0 _ _ (u ++ v) HST.out _ (z3.rdr (by omega)) ok_st0 (hT.below hT3 hb5) hT3 huv).mono ?_)
          rintro e w4 ⟨⟨ao4, n4, cap4, rfl, t4⟩, r4, f4⟩
          have hb6 := hb5.trans f4.1
          have t24 := t23.fr (by decide) f4 z3 (by decide) (by decide)
          have t34 := t33.fr (by decide) f4 z3 (by decide) (by decide)
          have t44 : ToksAt 44 w.heap.size (.slice ao4 n4 cap4) (l ++ m) w4 := t4.base hb5.size
          have k4 := held_is _ _ _ r4.heldIs
          have k34 := held_is _ _ _ (k3.fr f4 (by omega))
          have A1 := as_any w.heap.size ao4 n4 cap4 (l ++ m) w4 t44 (by simp; omega)
          clear k3 z3 t23 t33 t4 r4 f4
          go_wp2_with (first | (go_at_call 16; refine k4.mono ?_; rintro e w' ⟨rfl, hw⟩; rw [hw]) | (go_at_call 16; refine k34.mono ?_; rintro e w' ⟨rfl, hw⟩; rw [hw]) | (go_at_call 15; refine A1.mono ?_))
          rintro e w5 ⟨⟨ao5, n5, cap5, xs5, rfl, o5, c5⟩, b5⟩
          have A2 := as_any w.heap.size ao2 n2 cap2 l w5 (t24.below b5) (by omega)
          go_wp2_with (go_at_call 15; refine A2.mono ?_)
          rintro e w6 ⟨⟨ao6, n6, cap6, xs6, rfl, o6, c6⟩, b6⟩
          have A3 := as_any w.heap.size ao3 n3 cap3 m w6 ((t34.below b5).below b6) (by omega)
          go_wp2_with (go_at_call 15; refine A3.mono ?_)
          rintro e w7 ⟨⟨ao7, n7, cap7, xs7, rfl, o7, c7⟩, b7⟩
          have s5 := b5.size
          have s6 := b6.size
          have s7 := b7.size
          have hz6 := hb6.size
          have o57 := owns_below (owns_below o5 b6) b7
          have o67 := owns_below o6 b7
          have c57 := (c5.mono (Nat.le_refl _) fun _ _ q => owns_below q b6).mono (Nat.le_refl _) fun _ _ q => owns_below q b7
          have c67 := c6.mono (Nat.le_refl _) fun _ _ q => owns_below q b7
          have hb7 := ((hb6.trans (b5.mono hz6)).trans (b6.mono (by omega))).trans (b7.mono (by omega))
          have hlt5 : ∀ k, (Value.slice ao5 n5 cap5).ownBlock = some k → k < w5.heap.size := fun k hk => (o5.lt k hk).2
          have hsame : ∀ W v', ToksAt 53 w.heap.size v' (l ++ m) W → ToksAt 53 w.heap.size (.slice ao5 n5 cap5) (l ++ m) W → ∀ a b c, v' = .slice a b c → Calls Tryd.prog 14 #[.slice ao5 n5 cap5, .slice a b c] W fun e w' => e = .returned (.bool true) ∧ Below W.heap.size W w' := fun W v' q1 q2 a b c hv => same_any _ _ _ _ _ _ _ _ (l ++ m) W q2 (hv ▸ q1) (by simp; omega) HSIX.out
          have hn6 : n6 = l.length := owns_n o6
          have hn7 : n7 = m.length := owns_n o7
          subst hn6
          subst hn7
          clear A1 A2 A3 t24 t34 t44 k4 k34 o5 o6 c5 c6
          rcases o7.2 with ⟨q1, q2⟩ | ⟨g7, cap7', cur7, q1, _⟩
          · obtain ⟨rfl, q3, rfl⟩ := Value.slice.inj q1
            obtain rfl := List.eq_nil_of_length_eq_zero q2
            have SM := hsame w7 _ ⟨xs6, by rw [List.append_nil]; exact owns_base o67 (by omega), by rw [List.append_nil]; exact c67⟩ ⟨xs5, owns_base o57 (by omega), c57⟩ _ _ _ rfl
            have O67 : Hid _ := o67
            clear o67 o57 c57 c67 o7 c7 q1 q2 q3 hsame
            go_wp2_with (first | (at_builtin; refine wpList_append_none_want (by rfl) (.tmp 77) (.tmp 79) 30 rfl w5.heap.size 53 i0 4 Tryd.underlying30 hi _ _ _ rfl O67.out rfl ?_) | (go_at_call 14; refine SM.mono ?_; rintro e w9 ⟨rfl, b9⟩))
            go_ret
            exact ⟨rfl, hb7.trans (b9.mono (by have := hb7.size; omega))⟩
          · obtain ⟨rfl, _, rfl⟩ := Value.slice.inj q1
            have hnews : ∀ i y, xs7[i]? = some y → w7.cell? ((⟨g7, 0, none⟩ : Addr).add i) = some y := fun i y hy => World.ownsRow.cells o7 rfl i y hy
            have O67 : Hid _ := o67
            have O57 : Hid _ := o57
            have C57 : Hid _ := c57
            have C67 : Hid _ := c67
            have C7 : Hid _ := c7
            have HNW : Hid _ := hnews
            have HL7 : Hid (xs7.length = m.length * 4) := c7.length
            have HS : Hid _ := hsame
            clear o67 o57 c57 c67 c7 o7 q1 hnews hsame
            go_wp2_with (at_builtin; refine wpList_append_own_want (by rfl) (.tmp 77) (.tmp 79) 30 rfl w5.heap.size 53 i0 _ 4 64 Tryd.underlying30 hi hz0 hz1 hz2 rfl (by decide) _ _ _ rfl O67.out ⟨g7, 0, none⟩ m.length cap7 xs7 rfl HL7.out HNW.out (tok_one C7.out) ?a3 ?a4 ?a5 ?_)
            case a3 => unfold maxLen; omega
            case a4 => omega
            case a5 => omega
            intro v8 w8 hown' hgrow _
            obtain ⟨ao8, cap8, rfl⟩ := owns_shape hown'
            have hb8 := hb7.grown hgrow hb7.size (fun k hk => by have := owns_lt O67.out k hk; omega)
            have keep := owns_keep O57.out hgrow hlt5 O67.out
            have q8 : ToksAt 53 w.heap.size (.slice ao8 (l.length + m.length) cap8) (l ++ m) w8 := ⟨xs6 ++ xs7, by rw [List.length_append]; exact owns_base hown' (by omega), (C67.out.mono (Nat.le_refl _) fun _ _ q => owns_grown q hgrow O67.out (by decide)).app (C7.out.mono (Nat.le_refl _) fun _ _ q => owns_grown q hgrow O67.out (by decide))⟩
            have q5 : ToksAt 53 w.heap.size (.slice ao5 n5 cap5) (l ++ m) w8 := ⟨xs5, owns_base keep (by omega), C57.out.mono (Nat.le_refl _) fun _ _ q => owns_grown q hgrow O67.out (by decide)⟩
            have SM := HS.out w8 _ q8 q5 _ _ _ rfl
            clear hown' hgrow keep q8 q5
            go_wp2_with (go_at_call 14; refine SM.mono ?_; rintro e w9 ⟨rfl, b9⟩)
            go_ret
            exact ⟨rfl, hb8.trans (b9.mono hb8.size)⟩
        · have hl' : (((u[u.size - 1]'hlz).toNat : Int) != 62) = true := by
            simp
            intro e
            exact hl (UInt8.toNat_inj.1 (show (u[u.size - 1]'hlz).toNat = 62 by omega))
          go_wp2_with (go_at_call 16; refine HH.mono ?_; rintro e w' ⟨rfl, hw⟩; rw [hw])
          go_ret
          exact ⟨rfl, hb4⟩
      · have hor : u.data.toList = [] ∨ ∃ v, u.data.toList = v ++ [62] := .inl (List.eq_nil_of_length_eq_zero (by rw [← size_list]; omega))
        have hst : feedN st0 (u ++ v).data.toList = ((feedN st0 v.data.toList).1, l ++ (feedN st0 v.data.toList).2) := by
          have j := join_plain u.data.toList (by rw [HF.out]) (by rw [HF.out]) hor
          rw [app_list, feedN_app, j, HF.out]
        obtain ⟨⟨⟨h2, tg2, e2⟩, m⟩, hG⟩ : ∃ p, feedN st0 v.data.toList = p := ⟨_, rfl⟩
        rw [hG] at hst
        have hll : l.length ≤ 6000 := by
          have := feedN_len u.data.toList st0
          rw [HF.out, ← size_list] at this
          simp only at this
          omega
        have hml : m.length ≤ 6000 := by
          have := feedN_len v.data.toList st0
          rw [hG, ← size_list] at this
          simp only at this
          omega
        have hsix : ∀ q ∈ l ++ m, q.attrs.length ≤ 1000000 := fun q hq => by
          have := feedN_six (u ++ v).data.toList st0 q (by rw [hst]; exact hq)
          omega
        have t2' : ToksAt 44 w.heap.size (.slice ao2 n2 cap2) l w2 := t2.base (by simp; omega)
        have HST : Hid _ := hst
        have HG : Hid _ := hG
        have HSIX : Hid _ := hsix
        have HOR : Hid _ := hor
        clear hst hG hsix hor t2
        go_wp2_with (first | (go_at_call 16; refine HH.mono ?_; rintro e w' ⟨rfl, hw⟩; rw [hw]) | (go_at_call 12; refine (feed_at w.heap.size (w1.heap.size + 1) st0 _ _ v HG.out _ (y2.rdr (by omega)) ok_st0 (hT.below hT3 hb4) hT3 (by omega)).mono ?_))
        rintro e w3 ⟨⟨ao3, n3, cap3, rfl, t3⟩, r3, f3⟩
        have z3 := y3.fr f3 (by omega)
        have hb5 := hb4.trans f3.1
        have t23 := t2'.fr (by decide) f3 y2 (by decide) (by decide)
        have t33 : ToksAt 44 w.heap.size (.slice ao3 n3 cap3) m w3 := t3.base hb4.size
        have k3 := r3.heldIs
        clear HH K2 y2 y3 t2' t3 r3 f3
        have huv : (u ++ v).size ≤ 100000 := by rw [app_size]; omega
        have hsum : (u.size : Int) + (v.size : Int) ≤ 9223372036854775807 := by omega
        go_wp2_with (go_at_call 12; refine (feed_at w.heap.size (w1.heap.size + 2) st0 _ _ (u ++ v) HST.out _ (z3.rdr (by omega)) ok_st0 (hT.below hT3 hb5) hT3 huv).mono ?_)
        rintro e w4 ⟨⟨ao4, n4, cap4, rfl, t4⟩, r4, f4⟩
        have hb6 := hb5.trans f4.1
        have t24 := t23.fr (by decide) f4 z3 (by decide) (by decide)
        have t34 := t33.fr (by decide) f4 z3 (by decide) (by decide)
        have t44 : ToksAt 44 w.heap.size (.slice ao4 n4 cap4) (l ++ m) w4 := t4.base hb5.size
        have k4 := held_is _ _ _ r4.heldIs
        have k34 := held_is _ _ _ (k3.fr f4 (by omega))
        have A1 := as_any w.heap.size ao4 n4 cap4 (l ++ m) w4 t44 (by simp; omega)
        clear k3 z3 t23 t33 t4 r4 f4
        go_wp2_with (first | (go_at_call 16; refine k4.mono ?_; rintro e w' ⟨rfl, hw⟩; rw [hw]) | (go_at_call 16; refine k34.mono ?_; rintro e w' ⟨rfl, hw⟩; rw [hw]) | (go_at_call 15; refine A1.mono ?_))
        rintro e w5 ⟨⟨ao5, n5, cap5, xs5, rfl, o5, c5⟩, b5⟩
        have A2 := as_any w.heap.size ao2 n2 cap2 l w5 (t24.below b5) (by omega)
        go_wp2_with (go_at_call 15; refine A2.mono ?_)
        rintro e w6 ⟨⟨ao6, n6, cap6, xs6, rfl, o6, c6⟩, b6⟩
        have A3 := as_any w.heap.size ao3 n3 cap3 m w6 ((t34.below b5).below b6) (by omega)
        go_wp2_with (go_at_call 15; refine A3.mono ?_)
        rintro e w7 ⟨⟨ao7, n7, cap7, xs7, rfl, o7, c7⟩, b7⟩
        have s5 := b5.size
        have s6 := b6.size
        have s7 := b7.size
        have hz6 := hb6.size
        have o57 := owns_below (owns_below o5 b6) b7
        have o67 := owns_below o6 b7
        have c57 := (c5.mono (Nat.le_refl _) fun _ _ q => owns_below q b6).mono (Nat.le_refl _) fun _ _ q => owns_below q b7
        have c67 := c6.mono (Nat.le_refl _) fun _ _ q => owns_below q b7
        have hb7 := ((hb6.trans (b5.mono hz6)).trans (b6.mono (by omega))).trans (b7.mono (by omega))
        have hlt5 : ∀ k, (Value.slice ao5 n5 cap5).ownBlock = some k → k < w5.heap.size := fun k hk => (o5.lt k hk).2
        have hsame : ∀ W v', ToksAt 53 w.heap.size v' (l ++ m) W → ToksAt 53 w.heap.size (.slice ao5 n5 cap5) (l ++ m) W → ∀ a b c, v' = .slice a b c → Calls Tryd.prog 14 #[.slice ao5 n5 cap5, .slice a b c] W fun e w' => e = .returned (.bool true) ∧ Below W.heap.size W w' := fun W v' q1 q2 a b c hv => same_any _ _ _ _ _ _ _ _ (l ++ m) W q2 (hv ▸ q1) (by simp; omega) HSIX.out
        have hn6 : n6 = l.length := owns_n o6
        have hn7 : n7 = m.length := owns_n o7
        subst hn6
        subst hn7
        clear A1 A2 A3 t24 t34 t44 k4 k34 o5 o6 c5 c6
        rcases o7.2 with ⟨q1, q2⟩ | ⟨g7, cap7', cur7, q1, _⟩
        · obtain ⟨rfl, q3, rfl⟩ := Value.slice.inj q1
          obtain rfl := List.eq_nil_of_length_eq_zero q2
          have SM := hsame w7 _ ⟨xs6, by rw [List.append_nil]; exact owns_base o67 (by omega), by rw [List.append_nil]; exact c67⟩ ⟨xs5, owns_base o57 (by omega), c57⟩ _ _ _ rfl
          have O67 : Hid _ := o67
          clear o67 o57 c57 c67 o7 c7 q1 q2 q3 hsame
          go_wp2_with (first | (at_builtin; refine wpList_append_none_want (by rfl) (.tmp 77) (.tmp 79) 30 rfl w5.heap.size 53 i0 4 Tryd.underlying30 hi _ _ _ rfl O67.out rfl ?_) | (go_at_call 14; refine SM.mono ?_; rintro e w9 ⟨rfl, b9⟩))
          go_ret
          exact ⟨rfl, hb7.trans (b9.mono (by have := hb7.size; omega))⟩
        · obtain ⟨rfl, _, rfl⟩ := Value.slice.inj q1
          have hnews : ∀ i y, xs7[i]? = some y → w7.cell? ((⟨g7, 0, none⟩ : Addr).add i) = some y := fun i y hy => World.ownsRow.cells o7 rfl i y hy
          have O67 : Hid _ := o67
          have O57 : Hid _ := o57
          have C57 : Hid _ := c57
          have C67 : Hid _ := c67
          have C7 : Hid _ := c7
          have HNW : Hid _ := hnews
          have HL7 : Hid (xs7.length = m.length * 4) := c7.length
          have HS : Hid _ := hsame
          clear o67 o57 c57 c67 c7 o7 q1 hnews hsame
          go_wp2_with (at_builtin; refine wpList_append_own_want (by rfl) (.tmp 77) (.tmp 79) 30 rfl w5.heap.size 53 i0 _ 4 64 Tryd.underlying30 hi hz0 hz1 hz2 rfl (by decide) _ _ _ rfl O67.out ⟨g7, 0, none⟩ m.length cap7 xs7 rfl HL7.out HNW.out (tok_one C7.out) ?b3 ?b4 ?b5 ?_)
          case b3 => unfold maxLen; omega
          case b4 => omega
          case b5 => omega
          intro v8 w8 hown' hgrow _
          obtain ⟨ao8, cap8, rfl⟩ := owns_shape hown'
          have hb8 := hb7.grown hgrow hb7.size (fun k hk => by have := owns_lt O67.out k hk; omega)
          have keep := owns_keep O57.out hgrow hlt5 O67.out
          have q8 : ToksAt 53 w.heap.size (.slice ao8 (l.length + m.length) cap8) (l ++ m) w8 := ⟨xs6 ++ xs7, by rw [List.length_append]; exact owns_base hown' (by omega), (C67.out.mono (Nat.le_refl _) fun _ _ q => owns_grown q hgrow O67.out (by decide)).app (C7.out.mono (Nat.le_refl _) fun _ _ q => owns_grown q hgrow O67.out (by decide))⟩
          have q5 : ToksAt 53 w.heap.size (.slice ao5 n5 cap5) (l ++ m) w8 := ⟨xs5, owns_base keep (by omega), C57.out.mono (Nat.le_refl _) fun _ _ q => owns_grown q hgrow O67.out (by decide)⟩
          have SM := HS.out w8 _ q8 q5 _ _ _ rfl
          clear hown' hgrow keep q8 q5
          go_wp2_with (go_at_call 14; refine SM.mono ?_; rintro e w9 ⟨rfl, b9⟩)
          go_ret
          exact ⟨rfl, hb8.trans (b9.mono hb8.size)⟩
    · have hpos : (0 : Int) < (h.length : Int) := by
        cases h with
        | nil => exact absurd rfl hh
        | cons a b => simp
      go_wp2_with (go_at_call 16; refine HH.mono ?_; rintro e w' ⟨rfl, hw⟩; rw [hw])
      go_ret
      exact ⟨rfl, hb4⟩
  · have he' : (er == 0) = false := by simpa using he
    go_wp2
    go_ret
    exact ⟨rfl, hb4⟩
end Go.Proofs.YtdoekpodichhdaaDoor
