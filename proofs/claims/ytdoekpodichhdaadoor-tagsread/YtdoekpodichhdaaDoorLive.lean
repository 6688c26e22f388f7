/-
  The contracts of the statements' own helpers, early and lives, and of Feed at a reader that isn't there, over this program.
-/
import Derived.Test.YtdoekpodichhdaaDoorFeed
namespace Go.Proofs.YtdoekpodichhdaaDoor
open Go.RowKit
def cutS (s : ByteArray) : ByteArray := s.extract 0 (min (s.size : Int) 3000).toNat
theorem cutS_size (s : ByteArray) : (cutS s).size ≤ 3000 := by
  unfold cutS
  simp [ByteArray.size_extract]
  omega
set_option maxHeartbeats 400000 in
set_option maxRecDepth 100000 in
theorem early_any (s : ByteArray) (w : World) (hs : s.size ≤ maxLen) : Calls Tryd.prog 10 #[.string s] w fun e w' => e = .returned (.string (cutS s)) ∧ w' = w := by
  unfold maxLen at hs
  go_enter Tryd.func10, Tryd.ntmps10
  go_wp2
  go_ret
  exact ⟨rfl, rfl⟩
theorem early_at (s : ByteArray) (hs : s.size ≤ maxLen) : ∃ u : ByteArray, u.size ≤ 3000 ∧ ∀ w, Calls Tryd.prog 10 #[.string s] w fun e w' => e = .returned (.string u) ∧ w' = w :=
  ⟨cutS s, cutS_size s, fun w => early_any s w hs⟩
set_option maxHeartbeats 400000 in
theorem feed_nil (s : ByteArray) (w : World) : Calls Tryd.prog 12 #[.pointer none, .string s] w fun e w' => e = .returned (.tuple #[.slice none 0 0, .int .i64 1]) ∧ w' = w := by
  go_enter Tryd.func12, Tryd.ntmps12
  go_wp2
  go_ret2
  exact ⟨rfl, rfl⟩
/-- Feed at a literal answer. -/
theorem feed_at (B r : Nat) (S S' : St) (l : List Tok) (s : ByteArray) (hS : feedN S s.data.toList = (S', l)) (w : World) (k : RdrAt B r S.held S.tag S.err w) (hO : Ok S) (hT : Tabs w) (hB3 : 3 ≤ B) (hs : s.size ≤ 100000) :
    Calls Tryd.prog 12 #[.pointer (some ⟨r, 0, none⟩), .string s] w fun e w' => FeedRes B r w (S', l) e w' := by
  have h := feed_any B r S s w k hO hT hB3 hs
  rw [hS] at h
  exact h
theorem live1 : feedN st0 [60, 97, 32, 98, 61] = (⟨[97, 32, 98, 61], true, 0⟩, []) := by kernel_rfl
theorem live2 : feedN ⟨[97, 32, 98, 61], true, 0⟩ [39, 49, 39, 47, 62] = (⟨[], false, 0⟩, [⟨1, [97], [([98], [49])], []⟩, ⟨2, [97], [], []⟩]) := by kernel_rfl
set_option maxHeartbeats 1000000 in
theorem lives_any (w : World) (hT : Tabs w) : Calls Tryd.prog 9 #[] w fun e w' => e = .returned (.bool true) ∧ Below w.heap.size w w' := by
  have hT3 := hT.size
  have hR := rdr_new w w.heap.size (Nat.le_refl _)
  have hB0 : Below w.heap.size w (w.alloc (.cells #[.slice none 0 0, .bool false, .int .i64 0] 49)) := (Below.refl _ _).alloc (Nat.le_refl _) _
  have H0 := new_any w
  have H1 := feed_at w.heap.size w.heap.size st0 _ _ ⟨#[60, 97, 32, 98, 61]⟩ live1 _ hR ok_st0 (hT.below hT3 hB0) hT3 (by decide)
  go_enter Tryd.func9, Tryd.ntmps9
  go_wp2_with (first | (go_at_call 11; refine H0.mono ?_; rintro e w' ⟨rfl, hw⟩; rw [hw]) | (go_at_call 12; refine H1.mono ?_))
  rintro e w1 ⟨⟨ao1, n1, cap1, rfl, t1⟩, r1, f1⟩
  have hO1 : Ok ⟨[97, 32, 98, 61], true, 0⟩ := ⟨by simp, .inl rfl, fun h => absurd rfl h⟩
  have hB1 := hB0.trans f1.1
  have H2 := feed_at w.heap.size w.heap.size ⟨[97, 32, 98, 61], true, 0⟩ _ _ ⟨#[39, 49, 39, 47, 62]⟩ live2 w1 r1 hO1 (hT.below hT3 hB1) hT3 (by decide)
  obtain ⟨xs1, ho1, _⟩ := t1
  have hn1 : n1 = 0 := owns_n ho1
  subst hn1
  clear H0 H1 ho1
  go_wp2_with (go_at_call 12; refine H2.mono ?_)
  rintro e w2 ⟨⟨ao2, n2, cap2, rfl, t2⟩, r2, f2⟩
  have hB2 := hB1.trans f2.1
  have H3 := held_any w.heap.size w.heap.size [] false 0 w2 r2
  obtain ⟨xs2, ho2, v1, ys1, rfl, ha1, v2, ys2, rfl, ha2, rfl⟩ := t2
  have hn2 : n2 = 2 := owns_n ho2
  subst hn2
  rcases ho2.2 with ⟨q1, _⟩ | ⟨g, cap', cur, q1, _⟩
  · simp at q1
  obtain ⟨rfl, _, rfl⟩ := Value.slice.inj q1
  have d0 : w2.cell? ⟨g, 0, none⟩ = some (.int .i64 1) := by rw [World.ownsRow.cellAt ho2 0 (by decide)]; rfl
  have d2 : w2.cell? ⟨g, 2, none⟩ = some v1 := by rw [World.ownsRow.cellAt ho2 2 (by decide)]; rfl
  have d4 : w2.cell? ⟨g, 4, none⟩ = some (.int .i64 2) := by rw [World.ownsRow.cellAt ho2 4 (by decide)]; rfl
  obtain ⟨aoa, capa, rfl⟩ := owns_shape ha1
  rcases ha1.2 with ⟨q1, q2⟩ | ⟨ga, cap'', cura, q1, _⟩
  · simp at q2
  obtain ⟨rfl, _, rfl⟩ := Value.slice.inj q1
  have a1 : w2.cell? ⟨ga, 1, none⟩ = some (.string ⟨#[49]⟩) := by rw [World.ownsRow.cellAt ha1 1 (by decide)]; rfl
  clear ho2 ha1 ha2 H2 r1 r2
  go_wp2_with (go_at_call 16; refine H3.mono ?_; rintro e w' ⟨rfl, hw⟩; rw [hw])
  go_ret
  exact ⟨rfl, hB2⟩
end Go.Proofs.YtdoekpodichhdaaDoor
