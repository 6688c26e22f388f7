/-
  The contract of strings.Trim over this program, at the cutset of the four blanks: for every string of at most 2000000 bytes.
-/
import Derived.Test.YthekdgnikkjpdaaGreatDoorTrim
namespace Go.Proofs.YthekdgnikkjpdaaGreatDoor
open Go.RowKit
set_option maxHeartbeats 1000000 in
set_option maxRecDepth 100000 in
theorem trim_any (s : ByteArray) (w : World) (hs : s.size ≤ 2000000) : Calls Tryz.prog 56 #[.string s, .string blanks] w fun e w' => e = .returned (.string ⟨(trimL (trimR s.data.toList)).toArray⟩) ∧ Below w.heap.size w w' := by
  have hM := set_any w
  have hsc := set_store w
  have hT := trimRightASCII_any s (w.heap.size + 1) _ hs (set_cell w)
  have hU := trimLeftASCII_any ⟨(trimR s.data.toList).toArray⟩ (w.heap.size + 1) _ (set_cell w)
  have hbe : blanks.toList.isEmpty = false := by kernel_rfl
  have hb1 : ((blanks.size : Int) == 1) = false := by kernel_rfl
  have hsz : setB.size = 256 := Lib.setCells_size _
  by_cases h0 : s.toList = []
  · have e : s.toList.isEmpty = true := by rw [h0]; rfl
    have HN : Hid (s = ⟨(trimL (trimR s.data.toList)).toArray⟩) := by
      have e : s.data.toList = [] := by rw [← Lib.toList_data]; exact h0
      show s = _
      rw [e]
      exact mk_of_list e
    clear h0 hM hsc hT hU
    go_enter Tryz.func56, Tryz.ntmps56
    go_wp2
    go_ret
    exact ⟨ret_str HN.out, Below.refl _ _⟩
  · have e : s.toList.isEmpty = false := by simpa using h0
    clear h0
    go_enter Tryz.func56, Tryz.ntmps56
    go_wp2_with (first | (go_at_call 70; refine hM.mono ?_; rintro e w' ⟨rfl, hw⟩; rw [hw]) | (go_at_call 72; refine hT.mono ?_; rintro e w' ⟨rfl, hw⟩; rw [hw]) | (go_at_call 71; refine hU.mono ?_; rintro e w' ⟨rfl, hw⟩; rw [hw]))
    go_ret
    exact ⟨rfl, ((Below.refl _ _).alloc (Nat.le_refl _) _).alloc (by simp) _⟩
theorem drop_nil (p : UInt8 → Bool) : ∀ l : List UInt8, (l.dropWhile p = []) ↔ l.all p = true
  | [] => by simp
  | c :: l => by
    cases h : p c
    · simp [h]
    · simp [h, drop_nil p l]
/-- All blanks just if nothing is left. -/
theorem trim_blank (l : List UInt8) : (trimL (trimR l)).isEmpty = l.all bl := by
  have h1 : (trimL (trimR l) = []) ↔ (trimR l).all bl = true := drop_nil bl _
  have h2 : (trimR l).all bl = true ↔ l.all bl = true := by
    constructor
    · intro h
      by_cases hn : trimR l = []
      · have : l.reverse.dropWhile bl = [] := by simpa [trimR] using hn
        rw [drop_nil] at this
        simpa using this
      · exfalso
        have hd : l.reverse.dropWhile bl ≠ [] := fun e => hn (by simp [trimR, e])
        have hh := List.head_dropWhile_not bl hd
        have hm : (l.reverse.dropWhile bl).head hd ∈ trimR l := by
          unfold trimR
          rw [List.mem_reverse]
          exact List.head_mem hd
        rw [List.all_eq_true] at h
        rw [h _ hm] at hh
        cases hh
    · intro h
      rw [List.all_eq_true] at h ⊢
      intro x hx
      apply h
      unfold trimR at hx
      rw [List.mem_reverse] at hx
      exact List.mem_reverse.1 ((List.dropWhile_suffix bl).subset hx)
  rw [Bool.eq_iff_iff, List.isEmpty_iff]
  exact h1.trans h2
end Go.Proofs.YthekdgnikkjpdaaGreatDoor
