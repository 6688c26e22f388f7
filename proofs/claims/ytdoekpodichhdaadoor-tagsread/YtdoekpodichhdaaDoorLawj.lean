/-
  The walk of the statement TagsRead over this program: for every string it returns true.
-/
import Derived.Test.YtdoekpodichhdaaDoorRefk
namespace Go.Proofs.YtdoekpodichhdaaDoor
open Go.RowKit
set_option maxHeartbeats 4000000 in
set_option maxRecDepth 100000 in
theorem read_walk (s : ByteArray) (w : World) (hT : Tabs w) (hs : s.size ≤ maxLen) : Calls Tryd.prog 3 #[.string s] w fun e w' => e = .returned (.bool true) ∧ Below w.heap.size w w' := by
  have hT3 := hT.size
  obtain ⟨u, hu, E1⟩ := early_at s hs
  have H0 := lives_any w hT
  obtain ⟨⟨⟨h, tg, er⟩, l⟩, hF⟩ : ∃ p, feedN st0 u.data.toList = p := ⟨_, rfl⟩
  have hO := ok_feed u.data.toList st0 ok_st0
  have hll : l.length ≤ 6000 := by
    have := feedN_len u.data.toList st0
    rw [hF, ← size_list] at this
    simp only at this
    omega
  have HSIX : Hid (∀ q ∈ l, q.attrs.length ≤ 1000000) := fun q hq => by
    have := feedN_six u.data.toList st0 q (by rw [hF]; exact hq)
    omega
  rw [hF] at hO
  have HF : Hid _ := hF
  clear hs hF
  go_enter Tryd.func3, Tryd.ntmps3
  go_wp2_with (first | (go_at_call 9; refine H0.mono ?_; rintro e w1 ⟨rfl, hb1⟩) | (go_at_call 10; refine (E1 _).mono ?_; rintro e w' ⟨rfl, hw⟩; rw [hw]) | (go_at_call 11; refine (new_any _).mono ?_; rintro e w' ⟨rfl, hw⟩; rw [hw]) | (go_at_call 12; refine (feed_at w.heap.size w1.heap.size st0 _ _ u HF.out _ (made hb1 hb1.size).1 ok_st0 (hT.below hT3 (made hb1 hb1.size).2) hT3 (by omega)).mono ?_))
  rintro e w2 ⟨⟨ao2, n2, cap2, rfl, t2⟩, r2, f2⟩
  have hb2 := (made hb1 hb1.size).2.trans f2.1
  have hs1 := hb1.size
  have t2' : ToksAt 44 w.heap.size (.slice ao2 n2 cap2) l w2 := t2.base (by simp; omega)
  have H1 := refRead_any u w2 (by omega)
  rw [HF.out] at H1
  clear E1 H0 t2 f2
  go_wp2_with (go_at_call 13; refine H1.mono ?_)
  rintro e w3 ⟨⟨ao3, n3, cap3, rfl, t3⟩, b3⟩
  have hb3 := hb2.trans (b3.mono hb2.size)
  have t33 : ToksAt 53 w.heap.size (.slice ao3 n3 cap3) l w3 := t3.base hb2.size
  have t23 := t2'.below b3
  have r3 := r2.below b3
  obtain ⟨cs3, kr3⟩ := r3.block
  have H2 := feed_at w.heap.size w1.heap.size ⟨h, tg, er⟩ ⟨h, tg, er⟩ [] ⟨#[]⟩ rfl w3 r3 hO (hT.below hT3 hb3) hT3 (by decide)
  clear H1 t3 t2' r2
  go_wp2_with (go_at_call 12; refine H2.mono ?_)
  rintro e w4 ⟨⟨ao4, n4, cap4, rfl, t4⟩, r4, f4⟩
  have hn4 : n4 = 0 := owns_n t4.choose_spec.1
  subst hn4
  have hb4 := hb3.trans f4.1
  have t24 := t23.fr (by decide) f4 kr3 (by decide) (by decide)
  have t34 := t33.fr (by decide) f4 kr3 (by decide) (by decide)
  have k4 := r4.heldIs
  have A1 := as_any w.heap.size ao2 n2 cap2 l w4 t24 (by omega)
  clear H2 t23 t33 t4 r3 r4 f4
  go_wp2_with (go_at_call 15; refine A1.mono ?_)
  rintro e w5 ⟨⟨ao5, n5, cap5, xs5, rfl, o5, c5⟩, b5⟩
  have hb5 := hb4.trans (b5.mono hb4.size)
  have SM := same_any w.heap.size w.heap.size _ _ _ _ _ _ l w5 ⟨xs5, owns_base o5 hb4.size, c5⟩ (t34.below b5) (by omega) HSIX.out
  clear A1 o5 c5 t24 t34
  go_wp2_with (go_at_call 14; refine SM.mono ?_)
  rintro e w6 ⟨rfl, b6⟩
  have K := held_is _ _ _ ((k4.below b5).below b6)
  have hb6 := hb5.trans (b6.mono hb5.size)
  clear SM k4
  go_wp2_with (go_at_call 16; refine K.mono ?_; rintro e w' ⟨rfl, hw⟩; rw [hw])
  go_ret
  exact ⟨rfl, hb6⟩
end Go.Proofs.YtdoekpodichhdaaDoor
