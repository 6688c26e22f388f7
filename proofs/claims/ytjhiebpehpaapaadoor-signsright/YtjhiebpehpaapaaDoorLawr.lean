/-
  The statement SignsRight, walked: for every string the call returns true, and nothing that was there has turned.
-/
import Derived.Test.YtjhiebpehpaapaaDoorRefd
namespace Go.Proofs.YtjhiebpehpaapaaDoor
open Go.RowKit
set_option maxHeartbeats 2000000 in
set_option maxRecDepth 100000 in
theorem right_walk (s : ByteArray) (w : World) (hT : Tabs w) (hs : s.size ≤ maxLen) :
    Calls Tryd.prog 3 #[.string s] w fun e w' => e = .returned (.bool true) ∧ Below w.heap.size w w' := by
  obtain ⟨u, hu, hE⟩ := early_at s hs
  have hT3 := hT.size
  obtain ⟨n, c, hnc⟩ : ∃ n c, wholeN u.data.toList = (n, c) := ⟨_, _, rfl⟩
  obtain ⟨r, hr⟩ : ∃ r, rightN u.data.toList = r := ⟨_, rfl⟩
  obtain ⟨b, hb⟩ : ∃ b, name u.data.toList = b := ⟨_, rfl⟩
  have k1 := whole_at u n c hnc
  have k2 : ∀ w, Calls Tryd.prog 12 #[.string u] w fun e w' => e = .returned (.tuple #[.int .i64 n, .int .i64 c]) ∧ w' = w := by
    intro w
    have k := refWhole_any u w (by omega)
    rw [hnc] at k
    exact k
  have k3 := right_at u r hr
  have k4 : ∀ w, Calls Tryd.prog 14 #[.string u] w fun e w' => e = .returned (.int .i64 r) ∧ w' = w := by
    intro w
    have k := refRight_any u w (by omega)
    rw [hr] at k
    exact k
  have k5 := name_at u b hb
  have k6 : ∀ w, Calls Tryd.prog 16 #[.string u] w fun e w' => e = .returned (.bool b) ∧ w' = w := by
    intro w
    have k := refName_any u w (by omega)
    rw [hb] at k
    exact k
  clear hnc hr hb hs
  go_enter Tryd.func3, Tryd.ntmps3
  go_wp2_with (go_at_call 9; refine (lives_any _ hT).mono ?_)
  rintro e w1 ⟨rfl, b1⟩
  have hT1 := hT.below hT3 b1
  have hs1 := b1.size
  go_wp2_with (go_at_call 10; refine (hE _).mono ?_; rintro e w' ⟨rfl, rfl⟩)
  go_wp2_with (go_at_call 11; refine (k1 _ hT1 (by omega)).mono ?_)
  rintro e w2 ⟨rfl, b2⟩
  have b2' := b1.trans (b2.mono hs1)
  have hT2 := hT.below hT3 b2'
  have hs2 := b2'.size
  go_wp2_with (go_at_call 12; refine (k2 _).mono ?_; rintro e w' ⟨rfl, rfl⟩)
  go_wp2_with (go_at_call 13; refine (k3 _ hT2 (by omega)).mono ?_)
  rintro e w3 ⟨rfl, b3⟩
  have b3' := b2'.trans (b3.mono hs2)
  have hs3 := b3'.size
  go_wp2_with (go_at_call 14; refine (k4 _).mono ?_; rintro e w' ⟨rfl, rfl⟩)
  go_wp2_with (go_at_call 15; refine (k5 _).mono ?_)
  rintro e w4 ⟨rfl, b4⟩
  have b4' := b3'.trans (b4.mono hs3)
  go_wp2_with (go_at_call 16; refine (k6 _).mono ?_; rintro e w' ⟨rfl, rfl⟩)
  go_ret
  refine ⟨ret_bool ?_, b4'⟩
  simp
end Go.Proofs.YtjhiebpehpaapaaDoor
