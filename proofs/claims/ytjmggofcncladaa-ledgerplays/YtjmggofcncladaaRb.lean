/-
  The contract of ring.New over this program.
-/
import Derived.Test.YtjmggofcncladaaRa
import Derived.Deep.OwnRows
namespace Go.Proofs.Ytjmggofcncladaa
open Go Go.RowKit
/-- How many places a ring has. -/
def nz (z : Int) : Nat := (min (max z 1) 64).toNat
theorem nz_b (z : Int) : 0 < nz z ∧ nz z ≤ 64 := by unfold nz; omega
theorem info9 : (Try.prog.info? 9).map (fun i => (i.zero, i.size, i.bytes)) = some (some (.string ⟨#[]⟩), 1, 16) := by kernel_rfl
theorem made_strs (n : Nat) : madeCells #[Value.string ⟨#[]⟩] n = (strs (List.replicate n ⟨#[]⟩)).toArray := by
  apply Array.toList_inj.1
  rw [toList_madeCells_one]
  simp [strs]
set_option maxHeartbeats 400000 in
theorem new_any (z : Int) (w : World) : Calls Try.prog 31 #[.int .i64 z] w fun e w' => e = .returned (.pointer (some ⟨w.heap.size + 1, 0, none⟩)) ∧ RgAt (w.heap.size + 1) w.heap.size (nz z) 0 [] w' ∧ Below w.heap.size w w' := by
  have hn := nz_b z
  obtain ⟨m1, hm1⟩ : ∃ m1, (if z < 1 then (1 : Int) else z) = m1 := ⟨_, rfl⟩
  have hm2 : (if 64 < m1 then (64 : Int) else m1) = (nz z : Int) := by
    rw [← hm1]; unfold nz
    split <;> split <;> omega
  obtain ⟨n, hn'⟩ : ∃ n, nz z = n := ⟨_, rfl⟩
  rw [hn'] at hn hm2 ⊢
  have hmk := run_make_row' (P := Try.prog) 39 9 (.string ⟨#[]⟩) 16 Try.underlying39 info9 rfl .i64 .i64 n (by omega) (by omega)
  have HN : Hid (0 < n ∧ n ≤ 64) := hn
  clear hn' hn
  go_enter Try.func31, Try.ntmps31
  go_wp2_with fail
  go_ret
  obtain ⟨h0, h6⟩ := HN.out
  refine ⟨rfl, ⟨h0, h6, h0, Nat.zero_le _, ?_, List.replicate n ⟨#[]⟩, ⟨List.length_replicate, ?_⟩, fun i hi => by simp at hi⟩, ?_⟩
  · show _ = _
    have := heap_alloc_new (w.alloc (.cells (madeCells #[Value.string ⟨#[]⟩] n) 9)) (.cells #[.slice (some ⟨w.heap.size, 0, none⟩) n n, .int .i64 0, .int .i64 0] 65)
    simpa using this
  · rw [Below.heap_alloc _ _ _ (by simp), heap_alloc_new, made_strs]
  · exact ((Below.refl _ w).alloc (Nat.le_refl _) _).alloc (by simp) _
end Go.Proofs.Ytjmggofcncladaa
