/-
  The contracts of the statements' own helpers, early and lives, over this program.
-/
import Derived.Test.YtjhiebpehpaapaaDoorWalkj
namespace Go.Proofs.YtjhiebpehpaapaaDoor
open Go.RowKit
def cutS (s : ByteArray) : ByteArray := s.extract 0 (min (s.size : Int) 300).toNat
theorem cutS_size (s : ByteArray) : (cutS s).size ≤ 300 := by
  unfold cutS
  simp [ByteArray.size_extract]
  omega
theorem ret_string {a b : ByteArray} (h : a = b) : Ending.returned (.string a) = .returned (.string b) := by rw [h]
set_option maxHeartbeats 400000 in
theorem early_any (s : ByteArray) (w : World) (hs : s.size ≤ maxLen) : Calls Tryd.prog 10 #[.string s] w fun e w' => e = .returned (.string (cutS s)) ∧ w' = w := by
  unfold maxLen at hs
  go_enter Tryd.func10, Tryd.ntmps10
  go_wp2
  go_ret
  exact ⟨rfl, rfl⟩
theorem escape_at (s : ByteArray) (tx : ByteArray) (c : Int) (h : escN s.data.toList = (tx, c)) (w : World) (hT : Tabs w) (hs : s.size ≤ 100000) :
    Calls Tryd.prog 17 #[.string s] w fun e w' => e = .returned (.tuple #[.string tx, .int .i64 c]) ∧ Below w.heap.size w w' := by
  have k := escape_any s w hT hs
  rw [h] at k
  exact k
theorem unescape_at (s : ByteArray) (tx : ByteArray) (c : Int) (h : unescN s.data.toList = (tx, c)) (w : World) (hT : Tabs w) (hs : s.size ≤ 100000) :
    Calls Tryd.prog 19 #[.string s] w fun e w' => e = .returned (.tuple #[.string tx, .int .i64 c]) ∧ Below w.heap.size w w' := by
  have k := unescape_any s w hT hs
  rw [h] at k
  exact k
theorem whole_at (s : ByteArray) (n c : Int) (h : wholeN s.data.toList = (n, c)) (w : World) (hT : Tabs w) (hs : s.size ≤ 100000) :
    Calls Tryd.prog 11 #[.string s] w fun e w' => e = .returned (.tuple #[.int .i64 n, .int .i64 c]) ∧ Below w.heap.size w w' := by
  have k := whole_any s w hT (by omega)
  rw [h] at k
  exact k
theorem name_at (s : ByteArray) (b : Bool) (h : name s.data.toList = b) (w : World) :
    Calls Tryd.prog 15 #[.string s] w fun e w' => e = .returned (.bool b) ∧ Below w.heap.size w w' := by
  have k := name_any s w
  rw [h] at k
  exact k
set_option maxHeartbeats 1000000 in
theorem lives_any (w : World) (hT : Tabs w) : Calls Tryd.prog 9 #[] w fun e w' => e = .returned (.bool true) ∧ Below w.heap.size w w' := by
  have hT3 := hT.size
  have k1 := escape_at ⟨#[97, 60, 98]⟩ ⟨#[97, 38, 108, 116, 59, 98]⟩ 0 (by kernel_rfl)
  have k2 := unescape_at ⟨#[97, 38, 108, 116, 59, 98]⟩ ⟨#[97, 60, 98]⟩ 0 (by kernel_rfl)
  have k3 := whole_at ⟨#[97, 195]⟩ 1 0 (by kernel_rfl)
  have k4 := name_at ⟨#[97, 45, 49]⟩ true (by kernel_rfl)
  have k5 := right_at ⟨#[0]⟩ 2 (by kernel_rfl)
  go_enter Tryd.func9, Tryd.ntmps9
  go_wp2_with (go_at_call 17; refine (k1 _ hT (by decide)).mono ?_)
  rintro e w1 ⟨rfl, b1⟩
  have hT1 := hT.below hT3 b1
  have hs1 := b1.size
  go_wp2_with (go_at_call 19; refine (k2 _ hT1 (by decide)).mono ?_)
  rintro e w2 ⟨rfl, b2⟩
  have b2' := b1.trans (b2.mono hs1)
  have hT2 := hT.below hT3 b2'
  have hs2 := b2'.size
  go_wp2_with (go_at_call 11; refine (k3 _ hT2 (by decide)).mono ?_)
  rintro e w3 ⟨rfl, b3⟩
  have b3' := b2'.trans (b3.mono hs2)
  have hT4 := hT.below hT3 b3'
  have hs3 := b3'.size
  go_wp2_with (go_at_call 15; refine (k4 _).mono ?_)
  rintro e w4 ⟨rfl, b4⟩
  have b4' := b3'.trans (b4.mono hs3)
  have hT5 := hT.below hT3 b4'
  have hs4 := b4'.size
  go_wp2_with (go_at_call 13; refine (k5 _ hT5 (by decide)).mono ?_)
  rintro e w5 ⟨rfl, b5⟩
  have b5' := b4'.trans (b5.mono hs4)
  go_wp2
  go_ret
  exact ⟨rfl, b5'⟩
theorem mk_list (u : ByteArray) : (⟨u.data.toList.toArray⟩ : ByteArray) = u := rfl
theorem early_at (s : ByteArray) (hs : s.size ≤ maxLen) : ∃ u : ByteArray, u.size ≤ 300 ∧ ∀ w, Calls Tryd.prog 10 #[.string s] w fun e w' => e = .returned (.string u) ∧ w' = w :=
  ⟨cutS s, cutS_size s, fun w => early_any s w hs⟩
theorem app_list (u v : ByteArray) : (u ++ v).data.toList = u.data.toList ++ v.data.toList := by simp
theorem app_size (u v : ByteArray) : (u ++ v).size = u.size + v.size := by simp
theorem take_list (u : ByteArray) (n : Nat) : (u.extract 0 n).data.toList = u.data.toList.take n := by
  rw [Lib.extract_data]
  simp
end Go.Proofs.YtjhiebpehpaapaaDoor
