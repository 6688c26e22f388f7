/-
  The contract of the reference's pairs over this program, and of its Escape.
-/
import Derived.Test.YtdoekpodichhdaaDoorRefd
namespace Go.Proofs.YtdoekpodichhdaaDoor
open Go.RowKit
def refPairs : Array Value := #[.string ⟨#[38]⟩, .string ⟨#[38, 97, 109, 112, 59]⟩, .string ⟨#[60]⟩, .string ⟨#[38, 108, 116, 59]⟩, .string ⟨#[62]⟩, .string ⟨#[38, 103, 116, 59]⟩, .string ⟨#[34]⟩, .string ⟨#[38, 113, 117, 111, 116, 59]⟩, .string ⟨#[39]⟩, .string ⟨#[38, 97, 112, 111, 115, 59]⟩]
set_option maxHeartbeats 1000000 in
set_option maxRecDepth 100000 in
theorem pairs_any (w : World) : Calls Tryd.prog 24 #[] w fun e w' => e = .returned (.agg refPairs) ∧ Below w.heap.size w w' := by
  go_enter Tryd.func24, Tryd.ntmps24
  go_wp2
  refine bodyPost_ret (v := .agg refPairs) (by simp [results, Tryd.results24, go_sem, refPairs]) rfl ⟨rfl, ?_⟩
  exact (Below.refl _ _).alloc (Nat.le_refl _) _
theorem refRight_at (s : ByteArray) (c : Int) (hc : rightN s.data.toList = c) (hs : s.size ≤ 100000) (w : World) :
    Calls Tryd.prog 23 #[.string s] w fun e w' => e = .returned (.int .i64 c) ∧ w' = w := by
  have h := refRight_any s w hs
  rw [hc] at h
  exact h
def tK (a : UInt8) (k : Nat) : List UInt8 :=
  if 1 ≤ k ∧ a = 38 then [38, 97, 109, 112, 59] else if 2 ≤ k ∧ a = 60 then [38, 108, 116, 59] else if 3 ≤ k ∧ a = 62 then [38, 103, 116, 59]
  else if 4 ≤ k ∧ a = 34 then [38, 113, 117, 111, 116, 59] else if 5 ≤ k ∧ a = 39 then [38, 97, 112, 111, 115, 59] else [a]
theorem tK_0 (a : UInt8) : tK a 0 = [a] := by simp [tK]
theorem tK_5 (a : UInt8) : tK a 5 = esc1 a := by simp [tK, esc1]
theorem one_list (s : ByteArray) (k : Nat) (hk : k < s.size) : (s.extract k (k + 1)).data.toList = [s[k]'hk] := by
  rw [Lib.extract_data, drop_cons s k hk, getD_byte s k hk]
  simp
theorem one_eq (s : ByteArray) (k : Nat) (hk : k < s.size) (c : UInt8) : ((s.extract k (k + 1)).toList == [c]) = decide ((s[k]'hk) = c) := by
  rw [Lib.toList_data, one_list s k hk, Bool.eq_iff_iff]
  simp
theorem take_esc (s : ByteArray) (k : Nat) (hk : k < s.size) : esc (s.data.toList.take (k + 1)) = esc (s.data.toList.take k) ++ esc1 (s[k]'hk) := by
  have h : k < s.data.toList.length := by rw [← size_list]; exact hk
  rw [List.take_succ_eq_append_getElem h, esc_app]
  simp [esc]
  rfl
theorem array_of {a : ByteArray} {l : List UInt8} (h : a.data.toList = l) : a = ⟨l.toArray⟩ := by rw [← h]
theorem tK_hit0 : tK 38 1 = [38, 97, 109, 112, 59] := by decide
theorem tK_miss0 (a : UInt8) (h : a ≠ 38) : tK a 1 = tK a 0 := by simp [tK, h]
theorem tK_hit1 : tK 60 2 = [38, 108, 116, 59] := by decide
theorem tK_miss1 (a : UInt8) (h : a ≠ 60) : tK a 2 = tK a 1 := by simp [tK, h]
theorem tK_hit2 : tK 62 3 = [38, 103, 116, 59] := by decide
theorem tK_miss2 (a : UInt8) (h : a ≠ 62) : tK a 3 = tK a 2 := by simp [tK, h]
theorem tK_hit3 : tK 34 4 = [38, 113, 117, 111, 116, 59] := by decide
theorem tK_miss3 (a : UInt8) (h : a ≠ 34) : tK a 4 = tK a 3 := by simp [tK, h]
theorem tK_hit4 : tK 39 5 = [38, 97, 112, 111, 115, 59] := by decide
theorem tK_miss4 (a : UInt8) (h : a ≠ 39) : tK a 5 = tK a 4 := by simp [tK, h]
end Go.Proofs.YtdoekpodichhdaaDoor
