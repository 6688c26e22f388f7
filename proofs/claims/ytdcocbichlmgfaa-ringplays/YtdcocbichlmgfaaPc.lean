/-
  Drop of both rings, in either case.
-/
import Derived.Test.YtdcocbichlmgfaaPa
namespace Go.Proofs.Ytdcocbichlmgfaa
open Go Go.RowKit
/-- The texts behind a drop. -/
def dropN (m : List ByteArray) (z : Int) : List ByteArray := if 0 ≤ z ∧ z ≤ m.length then m.drop z.toNat else m
theorem drop_all (r p n f : Nat) (l : List ByteArray) (k : Int) (w : World) (h : RgAt r p n f l w) :
    Calls Try.prog 16 #[.pointer (some ⟨r, 0, none⟩), .int .i64 k] w fun e w' => e = .returned (.bool (decide (0 ≤ k ∧ k ≤ l.length))) ∧ (∃ f', RgAt r p n f' (dropN l k) w') ∧ Fz r p w w' := by
  unfold dropN
  by_cases hk : 0 ≤ k ∧ k ≤ l.length
  · rw [if_pos hk, decide_eq_true hk]
    obtain ⟨j, rfl⟩ : ∃ j : Nat, k = (j : Int) := ⟨k.toNat, by omega⟩
    exact (drop_ok r p n f l j w h (by omega)).mono fun e w' ⟨h1, h2, h3⟩ => ⟨h1, ⟨_, h2⟩, h3⟩
  · rw [if_neg hk, decide_eq_false hk]
    refine (drop_bad r p n f l k w h hk).mono fun e w' ⟨h1, h2⟩ => ?_
    subst h2
    exact ⟨h1, ⟨_, h⟩, Fz.refl _ _ _⟩
theorem refDrop_any (B q most : Nat) (m : List ByteArray) (k : Int) (w : World) (h : QAt B q most m w) (hm : m.length ≤ 64) (hB : B ≤ w.heap.size) :
    Calls Try.prog 17 #[.pointer (some ⟨q, 0, none⟩), .int .i64 k] w fun e w' => e = .returned (.bool (decide (0 ≤ k ∧ k ≤ m.length))) ∧ QAt B q most (dropN m k) w' ∧ Fz q q w w' := by
  unfold dropN
  by_cases hk : 0 ≤ k ∧ k ≤ m.length
  · rw [if_pos hk, decide_eq_true hk]
    obtain ⟨j, rfl⟩ : ∃ j : Nat, k = (j : Int) := ⟨k.toNat, by omega⟩
    exact refDrop_ok B q most m j w h hm hB (by omega)
  · rw [if_neg hk, decide_eq_false hk]
    refine (refDrop_bad B q most m k w h hk).mono fun e w' ⟨h1, h2⟩ => ?_
    subst h2
    exact ⟨h1, h, Fz.refl _ _ _⟩
end Go.Proofs.Ytdcocbichlmgfaa
