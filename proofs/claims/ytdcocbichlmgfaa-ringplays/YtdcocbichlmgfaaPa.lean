/-
  The statement RingPlays' own small calls over this program: the first steps of a script, a step's kind.
-/
import Derived.Test.YtdcocbichlmgfaaQb
namespace Go.Proofs.Ytdcocbichlmgfaa
open Go Go.RowKit
theorem QAt.parts {B q most : Nat} {m : List ByteArray} {w : World} (h : QAt B q most m w) : ∃ ao cap, w.heap[q]? = some (.cells #[.slice ao m.length cap, .int .i64 (most : Int)] 40 (0, 0)) ∧ TxAt B ao cap m w := h
/-- A script, as it lies. -/
def ArgOps (w : World) (ao : Option Addr) (ts : List (Int × Int × ByteArray)) : Prop :=
  ∀ i t, ts[i]? = some t → ∃ g off, ao = some ⟨g, off, none⟩ ∧ g < w.heap.size ∧ w.cell? ⟨g, off + i * 3, none⟩ = some (.int .i64 t.1) ∧ w.cell? ⟨g, off + i * 3 + 1, none⟩ = some (.int .i64 t.2.1) ∧ w.cell? ⟨g, off + i * 3 + 2, none⟩ = some (.string t.2.2)
theorem early_any (ao : Option Addr) (n cap : Nat) (hcap : n ≤ cap) (w : World) : Calls Try.prog 12 #[.slice ao n cap] w fun e w' => e = .returned (.slice ao (min n 200) cap) ∧ w' = w := by
  obtain ⟨k, hk⟩ : ∃ k, min n 200 = k := ⟨_, rfl⟩
  have hm : (if (200 : Int) < (n : Int) then (200 : Int) else (n : Int)) = (k : Int) := by split <;> omega
  have k0 : (0 : Int) ≤ (k : Int) := by omega
  have k1 : (k : Int) ≤ (cap : Int) := by omega
  rw [hk]
  clear hk
  go_enter Try.func12, Try.ntmps12
  go_wp2_with fail
  go_ret
  exact ⟨rfl, rfl⟩
/-- A step's kind. -/
def kd (k : Int) : Nat := ((IntKind.u64.wrap k).tmod 4).toNat
theorem kd_eq (k : Int) : (IntKind.u64.wrap k).tmod 4 = (kd k : Int) := by
  unfold kd
  rw [IntKind.wrap_u64, Int.tmod_eq_emod_of_nonneg (by omega)]
  omega
theorem kd_lt (k : Int) : kd k < 4 := by
  have := kd_eq k
  rw [IntKind.wrap_u64, Int.tmod_eq_emod_of_nonneg (by omega)] at this
  omega
theorem kind_any (k n : Int) (s : ByteArray) (w : World) : Calls Try.prog 13 #[.agg #[.int .i64 k, .int .i64 n, .string s]] w fun e w' => e = .returned (.int .i64 (kd k : Int)) ∧ Below w.heap.size w w' := by
  have h1 := kd_eq k
  have h2 := kd_lt k
  obtain ⟨K, hK⟩ : ∃ K, kd k = K := ⟨_, rfl⟩
  rw [hK] at h1 h2 ⊢
  have h3 : IntKind.i64.wrap (K : Int) = (K : Int) := by simp only [IntKind.wrap_i64]; omega
  clear hK
  go_enter Try.func13, Try.ntmps13
  go_wp2_with fail
  go_ret
  exact ⟨rfl, (Below.refl _ w).alloc (Nat.le_refl _) _⟩
end Go.Proofs.Ytdcocbichlmgfaa
