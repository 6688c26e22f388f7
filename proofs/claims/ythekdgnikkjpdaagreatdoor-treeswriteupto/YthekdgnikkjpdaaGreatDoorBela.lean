/-
  The contracts of slices.Clone at attributes and of trees.begunBy over this program.
-/
import Derived.Test.YthekdgnikkjpdaaGreatDoorMtree
import Derived.Test.YthekdgnikkjpdaaGreatDoorLive
import Derived.Deep.RegionHeld3
import Derived.Deep.AppendLies
import Derived.Deep.QuietTactic
import Derived.BigQuiet
import Derived.Maps.AppendAt
import Derived.Lib.SliceRun
namespace Go.Proofs.YthekdgnikkjpdaaGreatDoor
open Go.RowKit
theorem info55 : (Tryz.prog.info? 34).map (fun i => (i.zero, i.size, i.bytes)) = some (some (.agg #[.string ⟨#[]⟩, .string ⟨#[]⟩]), 2, 32) := by kernel_rfl
theorem info32 : (Tryz.prog.info? 25).map (fun i => (i.zero, i.size, i.bytes)) = some (some (.agg #[.string ⟨#[]⟩, .slice none 0 0, .string ⟨#[]⟩, .slice none 0 0]), 4, 80) := by kernel_rfl
def AttrsRes (B : Nat) (l : List (List UInt8 × List UInt8)) (e : Ending) (w : World) : Prop := ∃ ao cap, e = .returned (.slice ao l.length cap) ∧ AttrsAt B (.slice ao l.length cap) l w
theorem pair_one : ∀ (l : List (List UInt8 × List UInt8)), ∀ u ∈ pairCells l, u.oneCell' = true
  | [] => by simp [pairCells]
  | p :: l => by
    intro u hu
    simp only [pairCells, List.mem_cons] at hu
    rcases hu with rfl | rfl | hu
    · rfl
    · rfl
    · exact pair_one l u hu
set_option maxHeartbeats 1000000 in
set_option maxRecDepth 100000 in
theorem clone_any {P : Nat → Prop} (ao : Option Addr) (cap : Nat) (l : List (List UInt8 × List UInt8)) (w : World) (h : Row P w (.slice ao l.length cap) l.length (pairCells l)) (hbig : l.length * 32 ≤ 140737488355328) :
    Calls Tryz.prog 75 #[.slice ao l.length cap] w fun e w' => AttrsRes w.heap.size l e w' ∧ Below w.heap.size w w' := by
  obtain ⟨ao', cap', he, hc⟩ := h
  have q29 : ∀ (w : World) (a : Option Addr) (n c n' c' : Nat), (binOp .eql 22 (.slice a n c) (.slice none n' c')).run Tryz.prog w = .ok (.bool a.isNone) w := fun w a n c n' c' => Lib.run_eql_slice_nil w _ _ a n c n' c' Tryz.underlying22
  obtain ⟨rfl, _, rfl⟩ := Value.slice.inj he
  cases ao with
  | none =>
    have hl : l = [] := by
      cases l with
      | nil => rfl
      | cons p l => obtain ⟨ad, h, _⟩ := hc 0 _ rfl; cases h
    subst hl
    clear hc
    go_enter Tryz.func75, Tryz.ntmps75
    go_wp2
    go_ret
    exact ⟨⟨none, 0, rfl, attrs_nil _ _⟩, Below.refl _ _⟩
  | some ad =>
    have HC : Hid _ := hc
    clear hc he
    obtain ⟨i0, hi, hz0, hz1, hz2⟩ := info_parts info55
    go_enter Tryz.func75, Tryz.ntmps75
    go_wp2_with (at_builtin; refine wpList_append_own _ rfl _ _ 22 rfl w.heap.size 34 i0 _ 2 32 Tryz.underlying22 hi hz0 hz1 hz2 rfl (by decide) _ _ _ rfl (World.ownsRow_made w #[] 0 (Nat.le_refl _) (Nat.zero_le _) rfl) ad l.length cap (pairCells l) rfl ?c0 ?c1 ?c2 ?c3 ?c4 ?c5 ?_)
    case c0 => exact pairCells_length l
    case c1 =>
      intro j u hj
      obtain ⟨ad', h1, _, h3⟩ := HC.out j u hj
      cases h1
      exact Lib.cell?_alloc_some _ h3
    case c2 => exact pair_one l
    case c3 => unfold maxLen; omega
    intro v' w' hown' hgrow _
    obtain ⟨ao', cap', rfl⟩ := owns_shape hown'
    have hbx := ((Below.refl w.heap.size w).alloc (Nat.le_refl _) (.cells #[] 34)).grown hgrow (by simp) (fun k hk => by cases hk; exact Nat.le_refl _)
    have HO : Hid (AttrsAt w.heap.size (.slice ao' l.length cap') l w') := hown'
    clear hown' hgrow
    go_wp2
    go_ret
    exact ⟨⟨ao', cap', rfl, HO.out⟩, hbx⟩
theorem bcell {W w1 : World} (hb : Below W.heap.size W w1) : (∀ b o, b < W.heap.size → w1.cell? ⟨b, o, none⟩ = W.cell? ⟨b, o, none⟩) ∧ (∀ b o, b < W.heap.size → w1.frozen? ⟨b, o, none⟩ = W.frozen? ⟨b, o, none⟩) :=
  ⟨fun b o h => hb.cell (p := ⟨b, o, none⟩) h, fun b o h => hb.frozen (p := ⟨b, o, none⟩) h⟩
/-- What begunBy answers: an element with the token's name, its attributes anew, and nothing more. -/
def ElRes0 (B : Nat) (n : ByteArray) (l : List (List UInt8 × List UInt8)) (e : Ending) (w : World) : Prop :=
  ∃ ao cap, e = .returned (.agg #[.string n, .slice ao l.length cap, .string ⟨#[]⟩, .slice none 0 0]) ∧ AttrsAt B (.slice ao l.length cap) l w
set_option maxHeartbeats 1000000 in
set_option maxRecDepth 100000 in
theorem begunBy_any {P : Nat → Prop} (k : Int) (n x : ByteArray) (ao : Option Addr) (cap : Nat) (l : List (List UInt8 × List UInt8)) (w : World) (h : Row P w (.slice ao l.length cap) l.length (pairCells l)) (hbig : l.length * 32 ≤ 140737488355328) :
    Calls Tryz.prog 59 #[.agg #[.int .i64 k, .string n, .slice ao l.length cap, .string x]] w fun e w' => ElRes0 w.heap.size n l e w' ∧ Below w.heap.size w w' := by
  have HR : Hid _ := h
  clear h
  have H1 : ∀ W, Below w.heap.size w W → Calls Tryz.prog 75 #[.slice ao l.length cap] W fun e w' => AttrsRes W.heap.size l e w' ∧ Below W.heap.size W w' := fun W hb => clone_any ao cap l W (Row.step HR.out (row_below hb)) hbig
  go_enter Tryz.func59, Tryz.ntmps59
  go_wp2_with fail
  go_region_held3 (fun W => W.cell? ⟨w.heap.size, 1, none⟩ = some (.string n) ∧ W.cell? ⟨w.heap.size, 2, none⟩ = some (.slice ao l.length cap))
    (first
      | go_keep
      | (go_split_ands
         refine ⟨?_, ?_⟩
         · (rw [hc1 _ _ (by simp; omega)]; first | assumption | simp)
         · (rw [hc1 _ _ (by simp; omega)]; first | assumption | simp)))
    (first | (go_at_call 75; refine (H1 _ ?_).mono ?_; (exact (((Below.refl _ _).alloc (Nat.le_refl _) _).alloc (by simp) _).drew); rintro e w1 ⟨⟨ao1, cap1, rfl, ha⟩, hb1⟩; obtain ⟨hc1, hf1⟩ := bcell hb1; have hz1 := hb1.size; simp at hz1))
  go_wp2
  have hb2 : Below w.heap.size w w1 := ((((Below.refl w.heap.size w).alloc (Nat.le_refl _) _).alloc (by simp) _).drew).trans (hb1.mono (by simp; omega))
  refine bodyPost_ret (v := .agg #[.string n, .slice ao1 l.length cap1, .string ⟨#[]⟩, .slice none 0 0]) (by simp [results, Tryz.results59, go_sem, hc1]) rfl ⟨⟨ao1, cap1, rfl, ?_⟩, ?_⟩
  · have hlt : w.heap.size + 1 < (((w.alloc (.cells #[.int .i64 k, .string n, .slice ao l.length cap, .string x] 73)).alloc (.cells #[.string ⟨#[]⟩, .slice none 0 0, .string ⟨#[]⟩, .slice none 0 0] 25)).drew).heap.size := by simp
    exact owns_base (ownsRow_setCell_below (ownsRow_setCell_below (ownsRow_setCell_below (ownsRow_setCell_below ha (a := ⟨_, _, none⟩) hlt _) (a := ⟨_, _, none⟩) hlt _) (a := ⟨_, _, none⟩) hlt _) (a := ⟨_, _, none⟩) hlt _) (by simp; omega)
  · exact (((hb2.setCell (p := ⟨_, _, none⟩) (by simp) _).setCell (p := ⟨_, _, none⟩) (by simp) _).setCell (p := ⟨_, _, none⟩) (by simp) _).setCell (p := ⟨_, _, none⟩) (by simp) _
end Go.Proofs.YthekdgnikkjpdaaGreatDoor
