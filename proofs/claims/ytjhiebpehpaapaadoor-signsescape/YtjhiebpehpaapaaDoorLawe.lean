/-
  The statement SignsEscape, walked: for every two strings the call returns true, and nothing that was there has turned.
-/
import Derived.Test.YtjhiebpehpaapaaDoorReff
namespace Go.Proofs.YtjhiebpehpaapaaDoor
open Go.RowKit
theorem refEscape_at (s : ByteArray) (tx : ByteArray) (c : Int) (h : escN s.data.toList = (tx, c)) (w : World) (hs : s.size ≤ 100000) :
    Calls Tryd.prog 18 #[.string s] w fun e w' => e = .returned (.tuple #[.string tx, .int .i64 c]) ∧ Below w.heap.size w w' := by
  have k := refEscape_any s w hs
  rw [h] at k
  exact k
theorem refUnescape_at (s : ByteArray) (tx : ByteArray) (c : Int) (h : unescN s.data.toList = (tx, c)) (w : World) (hs : s.size ≤ 100000) :
    Calls Tryd.prog 20 #[.string s] w fun e w' => e = .returned (.tuple #[.string tx, .int .i64 c]) ∧ Below w.heap.size w w' := by
  have k := refUnescape_any s w hs
  rw [h] at k
  exact k
set_option maxHeartbeats 2000000 in
set_option maxRecDepth 100000 in
theorem escape_walk (s t : ByteArray) (w : World) (hT : Tabs w) (hs : s.size ≤ maxLen) (ht : t.size ≤ maxLen) :
    Calls Tryd.prog 4 #[.string s, .string t] w fun e w' => e = .returned (.bool true) ∧ Below w.heap.size w w' := by
  obtain ⟨u, hu, hE⟩ := early_at s hs
  obtain ⟨v, hv, hF⟩ := early_at t ht
  have hT3 := hT.size
  obtain ⟨a, c, hac⟩ : ∃ a c, escN u.data.toList = (a, c) := ⟨_, _, rfl⟩
  obtain ⟨b, d, hbd⟩ : ∃ b d, unescN v.data.toList = (b, d) := ⟨_, _, rfl⟩
  have k1 := escape_at u a c hac
  have k2 := refEscape_at u a c hac
  have k3 := unescape_at v b d hbd
  have k4 := refUnescape_at v b d hbd
  clear hac hbd hs ht
  go_enter Tryd.func4, Tryd.ntmps4
  go_wp2_with (go_at_call 9; refine (lives_any _ hT).mono ?_)
  rintro e w1 ⟨rfl, b1⟩
  have hT1 := hT.below hT3 b1
  have hs1 := b1.size
  go_wp2_with (first | (go_at_call 10; refine (hE _).mono ?_; rintro e w' ⟨rfl, rfl⟩) | (go_at_call 10; refine (hF _).mono ?_; rintro e w' ⟨rfl, rfl⟩))
  go_wp2_with (go_at_call 17; refine (k1 _ hT1 (by omega)).mono ?_)
  rintro e w2 ⟨rfl, b2⟩
  have b2' := b1.trans (b2.mono hs1)
  have hs2 := b2'.size
  go_wp2_with (go_at_call 18; refine (k2 _ (by omega)).mono ?_)
  rintro e w3 ⟨rfl, b3⟩
  have b3' := b2'.trans (b3.mono hs2)
  have hT4 := hT.below hT3 b3'
  have hs3 := b3'.size
  go_wp2_with (go_at_call 19; refine (k3 _ hT4 (by omega)).mono ?_)
  rintro e w4 ⟨rfl, b4⟩
  have b4' := b3'.trans (b4.mono hs3)
  have hs4 := b4'.size
  go_wp2_with (go_at_call 20; refine (k4 _ (by omega)).mono ?_)
  rintro e w5 ⟨rfl, b5⟩
  have b5' := b4'.trans (b5.mono hs4)
  go_wp2
  go_ret
  refine ⟨ret_bool ?_, b5'⟩
  simp
end Go.Proofs.YtjhiebpehpaapaaDoor
