/-
  The contracts of the statements' own helpers, early and lives, over this program.
-/
import Derived.Test.YtdoekpodichhdaaDoorWalkj
namespace Go.Proofs.YtdoekpodichhdaaDoor
open Go.RowKit
theorem ret_string {a b : ByteArray} (h : a = b) : Ending.returned (.string a) = .returned (.string b) := by rw [h]
theorem unescape_at (s : ByteArray) (tx : ByteArray) (c : Int) (h : unescN s.data.toList = (tx, c)) (w : World) (hT : Tabs w) (hs : s.size ≤ 100000) :
    Calls Tryd.prog 29 #[.string s] w fun e w' => e = .returned (.tuple #[.string tx, .int .i64 c]) ∧ Below w.heap.size w w' := by
  have k := unescape_any s w hT hs
  rw [h] at k
  exact k
theorem whole_at (s : ByteArray) (n c : Int) (h : wholeN s.data.toList = (n, c)) (w : World) (hT : Tabs w) (hs : s.size ≤ 100000) :
    Calls Tryd.prog 41 #[.string s] w fun e w' => e = .returned (.tuple #[.int .i64 n, .int .i64 c]) ∧ Below w.heap.size w w' := by
  have k := whole_any s w hT (by omega)
  rw [h] at k
  exact k
theorem name_at (s : ByteArray) (b : Bool) (h : name s.data.toList = b) (w : World) :
    Calls Tryd.prog 44 #[.string s] w fun e w' => e = .returned (.bool b) ∧ Below w.heap.size w w' := by
  have k := name_any s w
  rw [h] at k
  exact k
theorem mk_list (u : ByteArray) : (⟨u.data.toList.toArray⟩ : ByteArray) = u := rfl
theorem app_list (u v : ByteArray) : (u ++ v).data.toList = u.data.toList ++ v.data.toList := by simp
theorem app_size (u v : ByteArray) : (u ++ v).size = u.size + v.size := by simp
theorem take_list (u : ByteArray) (n : Nat) : (u.extract 0 n).data.toList = u.data.toList.take n := by
  rw [Lib.extract_data]
  simp
end Go.Proofs.YtdoekpodichhdaaDoor
