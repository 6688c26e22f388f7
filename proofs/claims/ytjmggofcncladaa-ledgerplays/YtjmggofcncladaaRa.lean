/-
  The contracts of ring.New, Len, Places, place and At over this program.
-/
import Derived.Test.YtjmggofcncladaaRmem
namespace Go.Proofs.Ytjmggofcncladaa
open Go Go.RowKit
set_option maxHeartbeats 400000 in
theorem len_any (r p n f c : Nat) (w : World) (h : HdAt r p n f c w) : Calls Try.prog 37 #[.pointer (some ⟨r, 0, none⟩)] w fun e w' => e = .returned (.int .i64 (c : Int)) ∧ w' = w := by
  have c2 := h.c2
  clear h
  go_enter Try.func37, Try.ntmps37
  go_wp2
  go_ret
  exact ⟨rfl, rfl⟩
set_option maxHeartbeats 400000 in
theorem len_nil (w : World) : Calls Try.prog 37 #[.pointer none] w fun e w' => e = .returned (.int .i64 0) ∧ w' = w := by
  go_enter Try.func37, Try.ntmps37
  go_wp2
  go_ret
  exact ⟨rfl, rfl⟩
set_option maxHeartbeats 400000 in
theorem places_any (r p n f c : Nat) (w : World) (h : HdAt r p n f c w) : Calls Try.prog 40 #[.pointer (some ⟨r, 0, none⟩)] w fun e w' => e = .returned (.int .i64 (n : Int)) ∧ w' = w := by
  have c0 := h.c0
  clear h
  go_enter Try.func40, Try.ntmps40
  go_wp2
  go_ret
  exact ⟨rfl, rfl⟩
set_option maxHeartbeats 400000 in
theorem places_nil (w : World) : Calls Try.prog 40 #[.pointer none] w fun e w' => e = .returned (.int .i64 0) ∧ w' = w := by
  go_enter Try.func40, Try.ntmps40
  go_wp2
  go_ret
  exact ⟨rfl, rfl⟩
set_option maxHeartbeats 400000 in
theorem place_any (r p n f c k : Nat) (w : World) (h : HdAt r p n f c w) (h0 : 0 < n) (h1 : n ≤ 64) (h2 : f < n) (hk : k ≤ 64) :
    Calls Try.prog 41 #[.pointer (some ⟨r, 0, none⟩), .int .i64 (k : Int)] w fun e w' => e = .returned (.int .i64 (((f + k) % n : Nat) : Int)) ∧ ∃ m, w' = w.drewN m := by
  have c0 := h.c0
  have c1 := h.c1
  have hw : IntKind.i64.wrap ((f : Int) + (k : Int)) = ((f + k : Nat) : Int) := by simp only [IntKind.wrap_i64]; omega
  have hne : ((n : Int) == 0) = false := by simp; omega
  have hm : ((f + k : Nat) : Int).tmod (n : Int) = (((f + k) % n : Nat) : Int) := by
    rw [Int.tmod_eq_emod_of_nonneg (by omega)]; exact (Int.natCast_emod _ _).symm
  obtain ⟨x, hx⟩ : ∃ x, f + k = x := ⟨_, rfl⟩
  rw [hx] at hw hm ⊢
  obtain ⟨y, hy⟩ : ∃ y, x % n = y := ⟨_, rfl⟩
  have hy6 : y < 64 := by have := Nat.mod_lt x h0; omega
  rw [hy] at hm ⊢
  have hw2 : IntKind.i64.wrap (y : Int) = (y : Int) := by simp only [IntKind.wrap_i64]; omega
  clear h hx hy
  go_enter Try.func41, Try.ntmps41
  go_wp2_with fail
  go_quiet (fail)
  go_wp2_with fail
  go_ret
  exact ⟨rfl, _, rfl⟩
end Go.Proofs.Ytjmggofcncladaa
