/-
  The contract of the statements' own lives over this program; read at a literal answer.
-/
import Derived.Test.YthekdgnikkjpdaaGreatDoorReab
import Derived.Test.YthekdgnikkjpdaaGreatDoorWrif
namespace Go.Proofs.YthekdgnikkjpdaaGreatDoor
open Go.RowKit
theorem feedL : feedN st0 [60, 115, 62, 60, 97, 62, 120, 38, 108, 116, 59, 60, 47, 97, 62] = (⟨[], false, 0⟩, [⟨1, [115], [], []⟩, ⟨1, [97], [], []⟩, ⟨3, [], [], [120, 60]⟩, ⟨2, [97], [], []⟩]) := by kernel_rfl
theorem runL : runB bs0 [⟨1, [115], [], []⟩, ⟨1, [97], [], []⟩, ⟨3, [], [], [120, 60]⟩, ⟨2, [97], [], []⟩] = (⟨1, [115], [], 3, 0⟩, [(1, ⟨[115], [], [], []⟩), (2, ⟨[97], [], [120, 60], []⟩)], 0) := by kernel_rfl
theorem writeL : writeN ⟨[97], [], [120, 60], []⟩ = ([60, 97, 62, 120, 38, 108, 116, 59, 60, 47, 97, 62], 0) := by kernel_rfl
set_option maxHeartbeats 1000000 in
set_option maxRecDepth 100000 in
theorem livesT_any (w : World) (hT : Tabs w) : Calls Tryz.prog 4 #[] w fun e w' => e = .returned (.bool true) ∧ Below w.heap.size w w' := by
  have hT3 := hT.size
  have H1 := read_walk ⟨#[60, 115, 62, 60, 97, 62, 120, 38, 108, 116, 59, 60, 47, 97, 62]⟩ w hT (by decide) _ _ _ _ feedL (by intro t ht; simp at ht; rcases ht with rfl | rfl | rfl | rfl <;> simp) (by simp) _ _ _ runL 0 rfl
  go_enter Tryz.func4, Tryz.ntmps4
  go_wp2_with (go_at_call 13; refine H1.mono ?_)
  rintro e w1 ⟨ao, n, cap, xs, rfl, ho, hev, hb1⟩
  obtain rfl := owns_n ho
  have H2 := write_any (P := fun _ => True) 1 ⟨[97], [], [120, 60], []⟩ ⟨#[97]⟩ ⟨#[120, 60]⟩ none none 0 0 0 0 w1 (hT.below hT3 hb1) (by simp [smallE]) ⟨rfl, row_nil _ _ _ _, rfl, [], row_nil _ _ _ _, rfl⟩
  rw [writeL] at H2
  obtain ⟨g, cp, hv⟩ := owns_form ho (by simp)
  obtain ⟨rfl, _, rfl⟩ := Value.slice.inj hv
  obtain ⟨a1, b1, c1, d1, ys1, rfl, _, a2, b2, c2, d2, ys2, rfl, hE2, rfl⟩ := hev
  obtain ⟨_, _, rfl, _⟩ := hE2.parts
  have k5 : w1.cell? ⟨g, 5, none⟩ = some (.int .i64 2) := by rw [World.ownsRow.cellAt ho 5 (by simp)]; rfl
  have k8 : w1.cell? ⟨g, 8, none⟩ = some (.string ⟨#[120, 60]⟩) := by rw [World.ownsRow.cellAt ho 8 (by simp)]; rfl
  have hg := (ho.lt g rfl).2
  have hdp : depthN ⟨1, [115], [], 3, 0⟩ = 1 := by kernel_rfl
  rw [hdp]
  clear H1 ho hE2 hv hdp
  go_wp2_with (go_at_call 6; refine H2.mono ?_; rintro e w2 ⟨rfl, hb2⟩; have j5 : w2.cell? ⟨g, 5, none⟩ = some (.int .i64 2) := ((hb2.cell (p := ⟨g, 5, none⟩) hg).trans k5); have j8 : w2.cell? ⟨g, 8, none⟩ = some (.string ⟨#[120, 60]⟩) := ((hb2.cell (p := ⟨g, 8, none⟩) hg).trans k8))
  go_ret
  exact ⟨rfl, hb1.trans (hb2.mono hb1.size)⟩
end Go.Proofs.YthekdgnikkjpdaaGreatDoor
/-
  The walk of the statement TreesDeep over this program: for every int it returns true.
-/
namespace Go.Proofs.YthekdgnikkjpdaaGreatDoor
open Go.RowKit
def sN : Nat → List UInt8
  | 0 => [60, 115, 62]
  | i + 1 => sN i ++ [60, 97, 62]
def bN : Nat → List UInt8
  | 0 => []
  | i + 1 => bN i ++ [60, 47, 97, 62]
theorem sN_len : ∀ i, (sN i).length = 3 + 3 * i
  | 0 => rfl
  | i + 1 => by simp [sN, sN_len i]; omega
theorem bN_len : ∀ i, (bN i).length = 4 * i
  | 0 => rfl
  | i + 1 => by simp [bN, bN_len i]; omega
def deepToks (i : Nat) : List Tok := (feedN st0 (sN i ++ bN i)).2
theorem deepFeed : ∀ i, i < 9 → feedN st0 (sN i ++ bN i) = (⟨[], false, 0⟩, deepToks i)
  | 0, _ => by kernel_rfl
  | 1, _ => by kernel_rfl
  | 2, _ => by kernel_rfl
  | 3, _ => by kernel_rfl
  | 4, _ => by kernel_rfl
  | 5, _ => by kernel_rfl
  | 6, _ => by kernel_rfl
  | 7, _ => by kernel_rfl
  | 8, _ => by kernel_rfl
  | i + 9, h => by omega
def toksSmall (l : List Tok) : Bool := l.all fun t => decide (t.attrs.length ≤ 1000) && decide (t.text.length ≤ 2000000)
theorem deepSmall : ∀ i, i < 9 → (toksSmall (deepToks i) && decide ((deepToks i).length ≤ 4000000)) = true
  | 0, _ => by kernel_rfl
  | 1, _ => by kernel_rfl
  | 2, _ => by kernel_rfl
  | 3, _ => by kernel_rfl
  | 4, _ => by kernel_rfl
  | 5, _ => by kernel_rfl
  | 6, _ => by kernel_rfl
  | 7, _ => by kernel_rfl
  | 8, _ => by kernel_rfl
  | i + 9, h => by omega
/-- How many events, the error, how deep. -/
def deepAns (i : Nat) : Nat × Int × Int := ((runB bs0 (deepToks i)).2.1.length, (runB bs0 (deepToks i)).2.2, depthN (runB bs0 (deepToks i)).1)
theorem deep_ans : ∀ i, i < 9 → deepAns i = if 4 < i then (1, 5, 0) else if 0 < i then (2, 0, 1) else (1, 0, 1)
  | 0, _ => by kernel_rfl
  | 1, _ => by kernel_rfl
  | 2, _ => by kernel_rfl
  | 3, _ => by kernel_rfl
  | 4, _ => by kernel_rfl
  | 5, _ => by kernel_rfl
  | 6, _ => by kernel_rfl
  | 7, _ => by kernel_rfl
  | 8, _ => by kernel_rfl
  | i + 9, h => by omega
theorem deep_read (i : Nat) (hi : i < 9) (c d : Int) (m : Nat) (ha : deepAns i = (m, c, d)) (s : ByteArray) (hs : s.data.toList = sN i ++ bN i) (w : World) (hT : Tabs w) :
    Calls Tryz.prog 13 #[.string s] w fun e w' => (∃ ao cap, e = .returned (.tuple #[.slice ao m cap, .int .i64 c, .int .i64 d])) ∧ Below w.heap.size w w' := by
  have h1 := deepSmall i hi
  simp only [Bool.and_eq_true, decide_eq_true_eq, toksSmall, List.all_eq_true] at h1
  unfold deepAns at ha
  simp only [Prod.mk.injEq] at ha
  obtain ⟨a1, a2, a3⟩ := ha
  have hsz : s.size ≤ 2000000 := by rw [size_list, hs, List.length_append, sN_len, bN_len]; omega
  have h := read_walk s w hT hsz _ _ _ _ (by rw [hs]; exact deepFeed i hi) (fun t ht => h1.1 t ht) h1.2 _ _ _ (rfl : runB bs0 (deepToks i) = (_, _, _)) c (by rw [← a2]; split <;> simp_all)
  rw [a3] at h
  refine h.mono fun e w' ⟨ao, n, cap, xs, he, ho, _, hb⟩ => ⟨⟨ao, cap, ?_⟩, hb⟩
  rw [he, ← a1, owns_n ho]
end Go.Proofs.YthekdgnikkjpdaaGreatDoor
