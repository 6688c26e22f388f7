/-
  The walks of the statements TagsNil and TagsStuck over this program: for every input they return true.
-/
import Derived.Test.YtdoekpodichhdaaDoorLive
namespace Go.Proofs.YtdoekpodichhdaaDoor
open Go.RowKit
set_option maxHeartbeats 1000000 in
theorem nil_walk (s : ByteArray) (w : World) (hT : Tabs w) (_hs : s.size ≤ maxLen) : Calls Tryd.prog 6 #[.string s] w fun e w' => e = .returned (.bool true) ∧ Below w.heap.size w w' := by
  have H0 := lives_any w hT
  have H1 := fun W => feed_nil s W
  have H2 := held_nil
  go_enter Tryd.func6, Tryd.ntmps6
  go_wp2_with (first | (go_at_call 9; refine H0.mono ?_; rintro e w1 ⟨rfl, hb1⟩) | (go_at_call 12; refine (H1 _).mono ?_; rintro e w' ⟨rfl, hw⟩; rw [hw]) | (go_at_call 16; refine (H2 _).mono ?_; rintro e w' ⟨rfl, hw⟩; rw [hw]))
  go_ret
  exact ⟨rfl, hb1⟩
/-- A reader that has just been made, in a world where the tables lie. -/
theorem made {B : Nat} {w0 w : World} (hb : Below B w0 w) (hB : B ≤ w.heap.size) : RdrAt B w.heap.size [] false 0 (w.alloc (.cells #[.slice none 0 0, .bool false, .int .i64 0] 49)) ∧ Below B w0 (w.alloc (.cells #[.slice none 0 0, .bool false, .int .i64 0] 49)) :=
  ⟨rdr_new w B hB, hb.alloc hB _⟩
set_option maxHeartbeats 2000000 in
theorem stuck_walk (s t : ByteArray) (w : World) (hT : Tabs w) (hs : s.size ≤ maxLen) (ht : t.size ≤ maxLen) : Calls Tryd.prog 5 #[.string s, .string t] w fun e w' => e = .returned (.bool true) ∧ Below w.heap.size w w' := by
  have hT3 := hT.size
  obtain ⟨u, hu, E1⟩ := early_at s hs
  obtain ⟨v, hv, E2⟩ := early_at t ht
  have H0 := lives_any w hT
  obtain ⟨⟨⟨h, tg, er⟩, l⟩, hF⟩ : ∃ p, feedN st0 u.data.toList = p := ⟨_, rfl⟩
  have hO := ok_feed u.data.toList st0 ok_st0
  rw [hF] at hO
  clear hs ht
  go_enter Tryd.func5, Tryd.ntmps5
  go_wp2_with (first | (go_at_call 9; refine H0.mono ?_; rintro e w1 ⟨rfl, hb1⟩) | (go_at_call 11; refine (new_any _).mono ?_; rintro e w' ⟨rfl, hw⟩; rw [hw]) | (go_at_call 10; refine (E1 _).mono ?_; rintro e w' ⟨rfl, hw⟩; rw [hw]) | (go_at_call 12; refine (feed_at w.heap.size w1.heap.size st0 _ _ u hF _ (made hb1 hb1.size).1 ok_st0 (hT.below hT3 (made hb1 hb1.size).2) hT3 (by omega)).mono ?_))
  rintro e w2 ⟨⟨ao2, n2, cap2, rfl, t2⟩, r2, f2⟩
  have hb2 := (made hb1 hb1.size).2.trans f2.1
  clear E1 H0 t2 hu
  by_cases he : er = 0
  · subst he
    go_wp2
    go_ret
    exact ⟨rfl, hb2⟩
  · have he' : (er == 0) = false := by simpa using he
    have hh : h = [] := hO.none he
    subst hh
    have hF2 : feedN ⟨[], tg, er⟩ v.data.toList = (⟨[], tg, er⟩, []) := feedN_err _ _ he
    have hT2 := hT.below hT3 hb2
    go_wp2_with (first | (go_at_call 10; refine (E2 _).mono ?_; rintro e w' ⟨rfl, hw⟩; rw [hw]) | (go_at_call 12; refine (feed_at w.heap.size w1.heap.size ⟨[], tg, er⟩ _ _ v hF2 _ r2 hO hT2 hT3 (by omega)).mono ?_))
    rintro e w3 ⟨⟨ao3, n3, cap3, rfl, t3⟩, r3, f3⟩
    obtain ⟨xs3, ho3, _⟩ := t3
    have hn3 : n3 = 0 := owns_n ho3
    subst hn3
    have hb3 := hb2.trans f3.1
    have H3 := held_any w.heap.size w1.heap.size [] tg er w3 r3
    have hE := hO.err
    have herr : er = 2 ∨ er = 3 ∨ er = 4 := by rcases hE with e | e | e | e <;> simp_all
    clear hE hO r2 r3 ho3 hF2 he E2
    rcases herr with rfl | rfl | rfl
    all_goals
      go_wp2_with (go_at_call 16; refine H3.mono ?_; rintro e w' ⟨rfl, hw⟩; rw [hw])
      go_ret
      exact ⟨rfl, hb3⟩
end Go.Proofs.YtdoekpodichhdaaDoor
