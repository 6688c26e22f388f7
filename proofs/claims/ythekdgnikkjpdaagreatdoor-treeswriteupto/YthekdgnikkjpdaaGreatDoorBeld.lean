/-
  The contracts of (*trees.Builder).innermost and fault over this program.
-/
import Derived.Test.YthekdgnikkjpdaaGreatDoorBelb
import Derived.Test.YthekdgnikkjpdaaGreatDoorTrimt
namespace Go.Proofs.YthekdgnikkjpdaaGreatDoor
open Go.RowKit
set_option maxHeartbeats 400000 in
set_option maxRecDepth 100000 in
theorem inner_empty (b cap : Nat) (ao : Option Addr) (s : ByteArray) (w : World) (c1 : w.cell? ⟨b, 1, none⟩ = some (.string s)) (c2 : w.cell? ⟨b, 2, none⟩ = some (.slice ao 0 cap)) : Calls Tryz.prog 55 #[.pointer (some ⟨b, 0, none⟩)] w fun e w' => e = .returned (.string s) ∧ ∃ q, w' = w.drewN q := by
  go_enter Tryz.func55, Tryz.ntmps55
  go_wp2
  go_ret
  exact ⟨rfl, 0, rfl⟩
set_option maxHeartbeats 400000 in
set_option maxRecDepth 100000 in
theorem inner_last (b g m cap : Nat) (s : ByteArray) (w : World) (c2 : w.cell? ⟨b, 2, none⟩ = some (.slice (some ⟨g, 0, none⟩) (m + 1) cap)) (hm : m < 100) (d0 : w.cell? ⟨g, m * 4, none⟩ = some (.string s)) : Calls Tryz.prog 55 #[.pointer (some ⟨b, 0, none⟩)] w fun e w' => e = .returned (.string s) ∧ ∃ q, w' = w.drewN q := by
  have H := last_any b g m cap w c2 hm
  go_enter Tryz.func55, Tryz.ntmps55
  go_wp2_with (go_at_call 57; refine H.mono ?_; rintro e w1 ⟨rfl, q, rfl⟩)
  go_ret
  exact ⟨rfl, q, rfl⟩
def tokV (k : Int) (n : ByteArray) (v : Value) (x : ByteArray) : Value := .agg #[.int .i64 k, .string n, v, .string x]
def FaultPost (c : Int) (w : World) (e : Ending) (w' : World) : Prop := e = .returned (.int .i64 c) ∧ Below w.heap.size w w'
theorem fp_mk {c : Int} {w w' : World} (h : Below w.heap.size w w') : FaultPost c w (.returned (.int .i64 c)) w' := ⟨rfl, h⟩
set_option maxHeartbeats 1000000 in
set_option maxRecDepth 100000 in
theorem fault_a (b : Nat) (S : Bs) (ao : Option Addr) (n cap : Nat) (k : Int) (nm x : ByteArray) (va : Value) (w : World) (hC : BCells b S ao n cap w) (hb : b < w.heap.size)
    (h : (S.stage = 0 ∧ k ≠ 1) ∨ S.stage = 2 ∨ k < 1 ∨ 3 < k) : Calls Tryz.prog 42 #[.pointer (some ⟨b, 0, none⟩), .agg #[.int .i64 k, .string nm, va, .string x]] w (FaultPost 3 w) := by
  obtain ⟨c0, c1, c2, c3, c4, _⟩ := hC
  have hw : ∀ v : Value, Below w.heap.size w (w.alloc (.cells #[.int .i64 k, .string nm, v, .string x] 73)) := fun v => (Below.refl _ _).alloc (Nat.le_refl _) _
  by_cases h1 : S.stage = 0 ∧ k ≠ 1
  · obtain ⟨h0, hk⟩ := h1
    rw [h0] at c0
    have hk' : (k != 1) = true := by simpa using hk
    clear h h0
    go_enter Tryz.func42, Tryz.ntmps42
    go_wp2
    all_goals go_ret
    all_goals exact fp_mk (hw _)
  · by_cases h2 : S.stage = 2
    · rw [h2] at c0
      clear h h1 h2
      go_enter Tryz.func42, Tryz.ntmps42
      go_wp2
      all_goals go_ret
      all_goals exact fp_mk (hw _)
    · have hs0 : S.stage ≠ 0 := by
        intro e
        exact h1 ⟨e, by rcases h with h | h | h | h <;> omega⟩
      have e0 : (S.stage == 0) = false := by simpa using hs0
      have e2 : (S.stage == 2) = false := by simpa using h2
      by_cases h3 : k < 1
      · clear h h1 h2 hs0
        go_enter Tryz.func42, Tryz.ntmps42
        go_wp2
        all_goals go_ret
        all_goals exact fp_mk (hw _)
      · have h4 : 3 < k := by rcases h with h | h | h | h <;> omega
        clear h h1 h2 hs0
        go_enter Tryz.func42, Tryz.ntmps42
        go_wp2
        all_goals go_ret
        all_goals exact fp_mk (hw _)
set_option maxHeartbeats 1000000 in
set_option maxRecDepth 100000 in
theorem fault_b1 (b : Nat) (S : Bs) (ao : Option Addr) (cap : Nat) (nm x : ByteArray) (va : Value) (w : World) (hC : BCells b S ao 0 cap w) (hb : b < w.heap.size)
    (h2 : S.stage ≠ 2) : Calls Tryz.prog 42 #[.pointer (some ⟨b, 0, none⟩), .agg #[.int .i64 1, .string nm, va, .string x]] w (FaultPost 0 w) := by
  obtain ⟨c0, c1, c2, c3, c4, _⟩ := hC
  have hw : ∀ v : Value, Below w.heap.size w (w.alloc (.cells #[.int .i64 1, .string nm, v, .string x] 73)) := fun v => (Below.refl _ _).alloc (Nat.le_refl _) _
  have e2 : (S.stage == 2) = false := by simpa using h2
  clear h2
  by_cases h0 : S.stage = 0
  · rw [h0] at c0
    clear h0 e2
    go_enter Tryz.func42, Tryz.ntmps42
    go_wp2_with fail
    go_quiet (fail)
    go_wp2_with fail
    all_goals go_ret
    all_goals exact fp_mk (Below.drewN (hw _) _)
  · have e0 : (S.stage == 0) = false := by simpa using h0
    clear h0
    go_enter Tryz.func42, Tryz.ntmps42
    go_wp2_with fail
    go_quiet (fail)
    go_wp2_with fail
    all_goals go_ret
    all_goals exact fp_mk (Below.drewN (hw _) _)
set_option maxHeartbeats 1000000 in
set_option maxRecDepth 100000 in
theorem fault_b2 (b : Nat) (S : Bs) (ao : Option Addr) (cap : Nat) (nm x : ByteArray) (va : Value) (w : World) (hC : BCells b S ao 0 cap w) (hb : b < w.heap.size)
    (h1 : S.stage = 1) (q : Bool) (hq : (nm.toList == S.stream) = q) : Calls Tryz.prog 42 #[.pointer (some ⟨b, 0, none⟩), .agg #[.int .i64 2, .string nm, va, .string x]] w (FaultPost (if q then 0 else 3) w) := by
  obtain ⟨c0, c1, c2, c3, c4, _⟩ := hC
  rw [h1] at c0
  have hw : ∀ v : Value, Below w.heap.size w (w.alloc (.cells #[.int .i64 2, .string nm, v, .string x] 73)) := fun v => (Below.refl _ _).alloc (Nat.le_refl _) _
  have H : ∀ W, W.cell? ⟨b, 1, none⟩ = some (.string ⟨S.stream.toArray⟩) → W.cell? ⟨b, 2, none⟩ = some (.slice ao 0 cap) → Calls Tryz.prog 55 #[.pointer (some ⟨b, 0, none⟩)] W fun e w' => e = .returned (.string ⟨S.stream.toArray⟩) ∧ ∃ q, w' = W.drewN q := fun W k1 k2 => inner_empty b cap ao _ W k1 k2
  clear h1
  cases q with
  | true =>
    rw [if_pos rfl]
    go_enter Tryz.func42, Tryz.ntmps42
    go_wp2_with fail
    go_quiet ((go_at_call 55; exact Calls.quiet_of (H _ (Lib.cell?_alloc_some _ c1) (Lib.cell?_alloc_some _ c2))))
    go_wp2_with fail
    go_ret
    exact fp_mk (Below.drewN (hw _) _)
  | false =>
    rw [if_neg (by simp)]
    go_enter Tryz.func42, Tryz.ntmps42
    go_wp2_with fail
    go_quiet ((go_at_call 55; exact Calls.quiet_of (H _ (Lib.cell?_alloc_some _ c1) (Lib.cell?_alloc_some _ c2))))
    go_wp2_with fail
    go_ret
    exact fp_mk (Below.drewN (hw _) _)
set_option maxHeartbeats 1000000 in
set_option maxRecDepth 100000 in
theorem fault_b3 (b : Nat) (S : Bs) (ao : Option Addr) (cap : Nat) (nm x : ByteArray) (va : Value) (w : World) (hC : BCells b S ao 0 cap w) (hb : b < w.heap.size) (hx : x.size ≤ 2000000)
    (h1 : S.stage = 1) (q : Bool) (hq : x.data.toList.all bl = q) : Calls Tryz.prog 42 #[.pointer (some ⟨b, 0, none⟩), .agg #[.int .i64 3, .string nm, va, .string x]] w (FaultPost (if q then 0 else 3) w) := by
  obtain ⟨c0, c1, c2, c3, c4, _⟩ := hC
  rw [h1] at c0
  have hw : ∀ v : Value, Below w.heap.size w (w.alloc (.cells #[.int .i64 3, .string nm, v, .string x] 73)) := fun v => (Below.refl _ _).alloc (Nat.le_refl _) _
  have hq2 : (trimL (trimR x.data.toList)).isEmpty = q := by rw [trim_blank]; exact hq
  obtain ⟨y, hy⟩ : ∃ y, trimL (trimR x.data.toList) = y := ⟨_, rfl⟩
  have H := fun W => trim_any x W hx
  rw [hy] at hq2 H
  clear h1 hq hy
  cases q with
  | true =>
    rw [if_pos rfl]
    go_enter Tryz.func42, Tryz.ntmps42
    go_wp2_with fail
    go_quiet (fail)
    go_wp2_with (go_at_call 56; refine (H _).mono ?_; rintro e w1 ⟨rfl, hb1⟩; obtain ⟨hc1, _⟩ := bcell hb1)
    go_ret
    exact fp_mk ((Below.drewN (hw _) _).trans (hb1.mono (by simp)))
  | false =>
    rw [if_neg (by simp)]
    go_enter Tryz.func42, Tryz.ntmps42
    go_wp2_with fail
    go_quiet (fail)
    go_wp2_with (go_at_call 56; refine (H _).mono ?_; rintro e w1 ⟨rfl, hb1⟩; obtain ⟨hc1, _⟩ := bcell hb1)
    go_ret
    exact fp_mk ((Below.drewN (hw _) _).trans (hb1.mono (by simp)))
/-- Within an item. -/
structure InItem (b g m cap : Nat) (S : Bs) (e : El) (nk : Nat) (w : World) : Prop where
  cs : BCells b S (some ⟨g, 0, none⟩) (m + 1) cap w
  hm : m < 100
  st : S.stage = 1
  d0 : w.cell? ⟨g, m * 4, none⟩ = some (.string ⟨e.nm.toArray⟩)
  d3 : ∃ ao' cap', w.cell? ⟨g, m * 4 + 3, none⟩ = some (.slice ao' nk cap')
  hg : g < w.heap.size
  hb : b < w.heap.size
set_option maxHeartbeats 1000000 in
set_option maxRecDepth 100000 in
theorem fault_c0 (b g m cap : Nat) (S : Bs) (e : El) (nk : Nat) (k : Int) (nm x : ByteArray) (va : Value) (w : World) (hI : InItem b g m cap S e nk w) (hk1 : ¬ k < 1) (hk2 : ¬ 3 < k) (ht : S.taken = 64) :
    Calls Tryz.prog 42 #[.pointer (some ⟨b, 0, none⟩), .agg #[.int .i64 k, .string nm, va, .string x]] w (FaultPost 4 w) := by
  obtain ⟨⟨c0, c1, c2, c3, c4, _⟩, hm, h1, d0, ⟨ao', cap', d3⟩, hg, hb⟩ := hI
  rw [h1] at c0
  rw [ht] at c3
  have hw : ∀ v : Value, Below w.heap.size w (w.alloc (.cells #[.int .i64 k, .string nm, v, .string x] 73)) := fun v => (Below.refl _ _).alloc (Nat.le_refl _) _
  clear h1 ht
  go_enter Tryz.func42, Tryz.ntmps42
  go_wp2_with fail
  go_ret
  exact fp_mk (hw _)
set_option maxHeartbeats 1000000 in
set_option maxRecDepth 100000 in
theorem fault_c1 (b g m cap : Nat) (S : Bs) (e : El) (nk : Nat) (nm x : ByteArray) (va : Value) (w : World) (hI : InItem b g m cap S e nk w) (ht : S.taken ≠ 64) (hn : nk ≤ 16) :
    Calls Tryz.prog 42 #[.pointer (some ⟨b, 0, none⟩), .agg #[.int .i64 1, .string nm, va, .string x]] w (FaultPost (if m = 3 then 5 else if nk = 16 then 4 else 0) w) := by
  obtain ⟨⟨c0, c1, c2, c3, c4, _⟩, hm, h1, d0, ⟨ao', cap', d3⟩, hg, hb⟩ := hI
  rw [h1] at c0
  have ht' : (S.taken == 64) = false := by simpa using ht
  have hw : ∀ v : Value, Below w.heap.size w (w.alloc (.cells #[.int .i64 1, .string nm, v, .string x] 73)) := fun v => (Below.refl _ _).alloc (Nat.le_refl _) _
  have H : ∀ W, W.cell? ⟨b, 2, none⟩ = some (.slice (some ⟨g, 0, none⟩) (m + 1) cap) → Calls Tryz.prog 57 #[.pointer (some ⟨b, 0, none⟩)] W fun e w' => e = .returned (.pointer (some ⟨g, m * 4, none⟩)) ∧ ∃ q, w' = W.drewN q := fun W k2 => last_any b g m cap W k2 hm
  clear h1 ht
  by_cases h3 : m = 3
  · subst h3
    rw [if_pos rfl]
    go_enter Tryz.func42, Tryz.ntmps42
    go_wp2_with fail
    go_quiet (fail)
    go_wp2_with fail
    go_ret
    exact fp_mk (Below.drewN (hw _) _)
  · rw [if_neg h3]
    have h3' : ((m : Int) + 1 == 4) = false := by simp; omega
    by_cases h16 : nk = 16
    · subst h16
      rw [if_pos rfl]
      go_enter Tryz.func42, Tryz.ntmps42
      go_wp2_with fail
      go_quiet (fail)
      go_wp2_with (go_at_call 57; refine (H _ ?_).mono ?_; (exact Lib.cell?_alloc_some (W := w) _ c2); rintro e w1 ⟨rfl, q, rfl⟩)
      go_ret
      exact fp_mk (Below.drewN (hw _) _)
    · rw [if_neg h16]
      have h16' : ((nk : Int) == 16) = false := by simp; omega
      clear h16
      go_enter Tryz.func42, Tryz.ntmps42
      go_wp2_with fail
      go_quiet (fail)
      go_wp2_with (go_at_call 57; refine (H _ ?_).mono ?_; (exact Lib.cell?_alloc_some (W := w) _ c2); rintro e w1 ⟨rfl, q, rfl⟩)
      go_ret
      exact fp_mk (Below.drewN (hw _) _)
set_option maxHeartbeats 1000000 in
set_option maxRecDepth 100000 in
theorem fault_c2 (b g m cap : Nat) (S : Bs) (e : El) (nk : Nat) (nm x : ByteArray) (va : Value) (w : World) (hI : InItem b g m cap S e nk w) (ht : S.taken ≠ 64) (q : Bool) (hq : (nm.toList == e.nm) = q) :
    Calls Tryz.prog 42 #[.pointer (some ⟨b, 0, none⟩), .agg #[.int .i64 2, .string nm, va, .string x]] w (FaultPost (if q then 0 else 3) w) := by
  obtain ⟨⟨c0, c1, c2, c3, c4, _⟩, hm, h1, d0, ⟨ao', cap', d3⟩, hg, hb⟩ := hI
  rw [h1] at c0
  have ht' : (S.taken == 64) = false := by simpa using ht
  have hw : ∀ v : Value, Below w.heap.size w (w.alloc (.cells #[.int .i64 2, .string nm, v, .string x] 73)) := fun v => (Below.refl _ _).alloc (Nat.le_refl _) _
  have H : ∀ W, W.cell? ⟨b, 2, none⟩ = some (.slice (some ⟨g, 0, none⟩) (m + 1) cap) → W.cell? ⟨g, m * 4, none⟩ = some (.string ⟨e.nm.toArray⟩) → Calls Tryz.prog 55 #[.pointer (some ⟨b, 0, none⟩)] W fun e' w' => e' = .returned (.string ⟨e.nm.toArray⟩) ∧ ∃ q, w' = W.drewN q := fun W k2 k3 => inner_last b g m cap _ W k2 hm k3
  clear h1 ht
  cases q with
  | true =>
    rw [if_pos rfl]
    go_enter Tryz.func42, Tryz.ntmps42
    go_wp2_with fail
    go_quiet ((go_at_call 55; exact Calls.quiet_of (H _ (Lib.cell?_alloc_some _ c2) (Lib.cell?_alloc_some _ d0))))
    go_wp2_with fail
    go_ret
    exact fp_mk (Below.drewN (hw _) _)
  | false =>
    rw [if_neg (by simp)]
    go_enter Tryz.func42, Tryz.ntmps42
    go_wp2_with fail
    go_quiet ((go_at_call 55; exact Calls.quiet_of (H _ (Lib.cell?_alloc_some _ c2) (Lib.cell?_alloc_some _ d0))))
    go_wp2_with fail
    go_ret
    exact fp_mk (Below.drewN (hw _) _)
set_option maxHeartbeats 1000000 in
set_option maxRecDepth 100000 in
theorem fault_c3 (b g m cap : Nat) (S : Bs) (e : El) (nk : Nat) (nm x : ByteArray) (va : Value) (w : World) (hI : InItem b g m cap S e nk w) (ht : S.taken ≠ 64) :
    Calls Tryz.prog 42 #[.pointer (some ⟨b, 0, none⟩), .agg #[.int .i64 3, .string nm, va, .string x]] w (FaultPost 0 w) := by
  obtain ⟨⟨c0, c1, c2, c3, c4, _⟩, hm, h1, d0, ⟨ao', cap', d3⟩, hg, hb⟩ := hI
  rw [h1] at c0
  have ht' : (S.taken == 64) = false := by simpa using ht
  have hw : ∀ v : Value, Below w.heap.size w (w.alloc (.cells #[.int .i64 3, .string nm, v, .string x] 73)) := fun v => (Below.refl _ _).alloc (Nat.le_refl _) _
  clear h1 ht
  go_enter Tryz.func42, Tryz.ntmps42
  go_wp2_with fail
  go_quiet (fail)
  go_wp2_with fail
  go_ret
  exact fp_mk (Below.drewN (hw _) _)
end Go.Proofs.YthekdgnikkjpdaaGreatDoor

/-
  The contract of (*trees.Builder).fault over this program, whole; what may have been written of a world.
-/
namespace Go.Proofs.YthekdgnikkjpdaaGreatDoor
open Go.RowKit
/-- Of the blocks that were there those of L alone may have been written. -/
structure Wr (L : List Nat) (w w' : World) : Prop where
  os : w'.os = w.os
  tape : w'.tape = w.tape
  output : w'.output = w.output
  size : w.heap.size ≤ w'.heap.size
  block : ∀ k, k < w.heap.size → k ∉ L → w'.heap[k]? = w.heap[k]?
theorem Wr.refl (L : List Nat) (w : World) : Wr L w w := ⟨rfl, rfl, rfl, Nat.le_refl _, fun _ _ _ => rfl⟩
theorem Wr.of_below {L : List Nat} {a w : World} (h : Below a.heap.size a w) : Wr L a w := ⟨h.os, h.tape, h.output, h.size, fun k hk _ => h.block k hk⟩
theorem Wr.then_ {L : List Nat} {a w w' : World} (h : Wr L a w) (k : Below a.heap.size w w') : Wr L a w' :=
  ⟨k.os.trans h.os, k.tape.trans h.tape, k.output.trans h.output, Nat.le_trans h.size k.size, fun i hi hl => (k.block i hi).trans (h.block i hi hl)⟩
theorem Wr.alloc {L : List Nat} {a w : World} (h : Wr L a w) (o : Obj) : Wr L a (w.alloc o) := h.then_ ((Below.refl _ _).alloc h.size o)
theorem Wr.drew {L : List Nat} {a w : World} (h : Wr L a w) : Wr L a w.drew := ⟨h.os, h.tape, h.output, h.size, h.block⟩
theorem Wr.drewN {L : List Nat} {a w : World} (h : Wr L a w) (n : Nat) : Wr L a (w.drewN n) := ⟨h.os, h.tape, h.output, h.size, h.block⟩
theorem Wr.set {L : List Nat} {a w : World} (h : Wr L a w) (b o : Nat) (u : Value) (hb : b ∈ L ∨ a.heap.size ≤ b) : Wr L a (w.setCell ⟨b, o, none⟩ u) :=
  ⟨h.os, h.tape, h.output, by simpa [World.setCell] using h.size, fun k hk hl => (Below.heap_setCell w ⟨b, o, none⟩ u k (fun e => by
    have e' : k = b := e
    rcases hb with hb | hb
    · exact hl (e' ▸ hb)
    · omega)).trans (h.block k hk hl)⟩
theorem Wr.grown {L : List Nat} {a w w' : World} {row : Option Nat} (h : Wr L a w) (hg : w.grownBy w' row) (hr : ∀ k, row = some k → k ∈ L ∨ a.heap.size ≤ k) : Wr L a w' :=
  ⟨hg.os.trans h.os, hg.tape.trans h.tape, hg.output.trans h.output, Nat.le_trans h.size hg.size, fun k hk hl => (hg.block k (Nat.lt_of_lt_of_le hk h.size) (fun e => by
    rcases hr k e.symm with hb | hb
    · exact hl hb
    · omega)).trans (h.block k hk hl)⟩
theorem Wr.trans {L : List Nat} {a b c : World} (h : Wr L a b) (k : Wr L b c) : Wr L a c :=
  ⟨k.os.trans h.os, k.tape.trans h.tape, k.output.trans h.output, Nat.le_trans h.size k.size, fun i hi hl => (k.block i (Nat.lt_of_lt_of_le hi h.size) hl).trans (h.block i hi hl)⟩
theorem Wr.mono {L L' : List Nat} {a b : World} (h : Wr L a b) (hL : ∀ k ∈ L, k ∈ L' ∨ a.heap.size ≤ k) : Wr L' a b :=
  ⟨h.os, h.tape, h.output, h.size, fun k hk hl => h.block k hk fun e => by
    rcases hL k e with h | h
    · exact hl h
    · omega⟩
theorem Wr.below {L : List Nat} {a b : World} {B : Nat} (h : Wr L a b) (hB : B ≤ a.heap.size) (hL : ∀ k ∈ L, B ≤ k) : Below B a b :=
  ⟨h.os, h.tape, h.output, h.size, fun k hk => h.block k (Nat.lt_of_lt_of_le hk hB) fun e => by have := hL k e; omega⟩
theorem Wr.stp {F F' : List Nat} {a b : World} (h : Wr F a b) (hF : ∀ k ∈ F', k ∈ F ∨ a.heap.size ≤ k) : Stp F F' a b :=
  ⟨h.size, fun k hk hf => ⟨fun e => by
    rcases hF k e with h | h
    · exact hf h
    · omega, h.block k hk hf⟩⟩
theorem mk_toList (l : List UInt8) : (⟨l.toArray⟩ : ByteArray).toList = l := by rw [Lib.toList_data]
theorem owns_form {B : Nat} {e : TypeId} {sz : Nat} {v : Value} {n : Nat} {xs : List Value} {w : World} (h : w.ownsRow B e sz v n xs) (hn : 0 < n) : ∃ g cap, v = .slice (some ⟨g, 0, none⟩) n cap := by
  rcases h.2 with ⟨_, h2⟩ | ⟨g, cap, cur, h1, _⟩
  · omega
  · exact ⟨g, cap, h1⟩
/-- A builder within an item. -/
theorem bat_item {B b : Nat} {F : List Nat} {S : Bs} {w : World} {l : List El} {e : El} (k : BAt B b F S w) (ho : S.opn = l ++ [e]) :
    ∃ g cap ys bv ao' cap' zs bl, w.heap[b]? = some (.cells #[.int .i64 S.stage, .string ⟨S.stream.toArray⟩, .slice (some ⟨g, 0, none⟩) (l.length + 1) cap, .int .i64 S.taken, .int .i64 S.failed] 86 (0, 0)) ∧
      w.ownsRow B 25 4 (.slice (some ⟨g, 0, none⟩) (l.length + 1) cap) (l.length + 1) (ys ++ [.string ⟨e.nm.toArray⟩, bv, .string ⟨e.text.toArray⟩, .slice ao' e.kids.length cap']) ∧ ys.length = l.length * 4 ∧
      OpenAt B (Pf F w) w l ys bl ∧ Row (Pf F w) w bv e.attrs.length (pairCells e.attrs) ∧ w.ownsRow B 25 4 (.slice ao' e.kids.length cap') e.kids.length zs ∧ KidsAt (ElE (Pf F w) w) e.kids zs ∧
      F = b :: g :: (bl ++ (Value.slice ao' e.kids.length cap').ownBlock.toList) ∧ F.Nodup := by
  obtain ⟨v, xs, bl, h1, h2, h3, h4, h5⟩ := k.at_
  rw [ho] at h2 h3
  obtain ⟨ys, bv, d, zs, bl', k1, k2, k3, k4, k5, k6⟩ := h3.snoc
  obtain ⟨ao', cap', rfl⟩ := owns_shape k4
  subst k1
  obtain ⟨g, cap, rfl⟩ := owns_form h2 (by simp)
  rw [List.length_append] at h1 h2
  refine ⟨g, cap, ys, bv, ao', cap', zs, bl', h1, h2, k2.length, k2, k3, k4, k5, ?_, h5⟩
  rw [h4, k6]
  rfl
theorem get_at {ys zs : List Value} {n j : Nat} (h : ys.length = n * 4) : (ys ++ zs)[n * 4 + j]? = zs[j]? := by
  rw [List.getElem?_append_right (by omega)]
  congr 1
  omega
theorem inItem {B b : Nat} {F : List Nat} {S : Bs} {w : World} {l : List El} {e : El} (k : BAt B b F S w) (ho : S.opn = l ++ [e]) (hl : l.length < 100) (hs : S.stage = 1) : ∃ g cap, InItem b g l.length cap S e e.kids.length w := by
  obtain ⟨g, cap, ys, bv, ao', cap', zs, bl, h1, h2, h3, h4, h5, h6, h7, h8, h9⟩ := bat_item k ho
  refine ⟨g, cap, bldCells h1, hl, hs, ?_, ⟨ao', cap', ?_⟩, ?_, lt_of_heap h1⟩
  · rw [World.ownsRow.cellAt h2 _ (by omega)]
    exact get_at (j := 0) h3
  · rw [World.ownsRow.cellAt h2 _ (by omega)]
    exact get_at (j := 3) h3
  · exact (h2.lt g rfl).2
theorem fault_any {B b : Nat} {F : List Nat} {S : Bs} {w : World} (k : BAt B b F S w) (hO : BOk S) (t : Tok) (va : Value) (hx : t.text.length ≤ 2000000) :
    Calls Tryz.prog 42 #[.pointer (some ⟨b, 0, none⟩), .agg #[.int .i64 t.kind, .string ⟨t.nm.toArray⟩, va, .string ⟨t.text.toArray⟩]] w (FaultPost (faultN S t) w) := by
  have hxs : (⟨t.text.toArray⟩ : ByteArray).size ≤ 2000000 := by rw [size_list]; exact hx
  obtain ⟨v, xs, bs, h1, h2, _⟩ := k.at_
  obtain ⟨ao, cap, rfl⟩ := owns_shape h2
  have hb := lt_of_heap h1
  have hC := bldCells h1
  unfold faultN
  by_cases hA : (S.stage = 0 ∧ t.kind ≠ 1) ∨ S.stage = 2 ∨ t.kind < 1 ∨ 3 < t.kind
  · rw [if_pos hA]
    exact fault_a b S ao _ cap t.kind _ _ va w hC hb hA
  rw [if_neg hA]
  have hs2 : S.stage ≠ 2 := fun e => hA (.inr (.inl e))
  have hk1 : ¬ t.kind < 1 := fun e => hA (.inr (.inr (.inl e)))
  have hk3 : ¬ 3 < t.kind := fun e => hA (.inr (.inr (.inr e)))
  have hs1 : t.kind ≠ 1 → S.stage = 1 := fun e => by
    rcases hO.stage with h | h | h
    · exact absurd (.inl ⟨h, e⟩) hA
    · exact h
    · exact absurd h hs2
  have hkk : t.kind = 1 ∨ t.kind = 2 ∨ t.kind = 3 := by omega
  by_cases ho : S.opn = []
  · rw [ho] at hC
    have i0 : ¬ (S.opn ≠ [] ∧ S.taken = 64) := fun h => h.1 ho
    have i1 : innerN S = S.stream := by unfold innerN; rw [ho]; rfl
    rw [if_neg i0, i1]
    rcases hkk with e | e | e
    · have h := fault_b1 b S ao cap ⟨t.nm.toArray⟩ ⟨t.text.toArray⟩ va w hC hb hs2
      rw [e, if_neg (by omega), if_neg (by omega), if_neg (by rw [ho]; simp), if_neg (by rw [ho]; simp)]
      exact h
    · have h := fault_b2 b S ao cap ⟨t.nm.toArray⟩ ⟨t.text.toArray⟩ va w hC hb (hs1 (by omega)) _ rfl
      rw [mk_toList] at h
      rw [e]
      by_cases q : t.nm = S.stream
      · rw [if_neg (fun h => h.2 q), if_neg (by omega), if_neg (by omega), if_neg (by omega)]
        have : (t.nm == S.stream) = true := by simpa using q
        rw [this] at h
        exact h
      · rw [if_pos ⟨rfl, q⟩]
        have : (t.nm == S.stream) = false := by simpa using q
        rw [this] at h
        exact h
    · have h := fault_b3 b S ao cap ⟨t.nm.toArray⟩ ⟨t.text.toArray⟩ va w hC hb hxs (hs1 (by omega)) _ rfl
      rw [e, if_neg (by omega)]
      have hbl : (⟨t.text.toArray⟩ : ByteArray).data.toList.all bl = blankT t.text := rfl
      rw [hbl] at h
      cases q : blankT t.text
      · rw [q] at h
        rw [if_pos ⟨rfl, ho, rfl⟩]
        exact h
      · rw [q] at h
        rw [if_neg (by simp), if_neg (by omega), if_neg (by omega)]
        exact h
  · obtain ⟨l, e, hle⟩ : ∃ l e, S.opn = l ++ [e] := ⟨_, _, (List.dropLast_concat_getLast ho).symm⟩
    have hlen : l.length < 4 := by have := hO.opn; rw [hle] at this; simp at this; omega
    obtain ⟨g, cap', hI⟩ := inItem k hle (by omega) (hO.open1 ho)
    have hlast : lastE S.opn = e := by unfold lastE; rw [hle]; simp
    have i1 : innerN S = e.nm := by
      unfold innerN
      rw [hlast, hle]
      simp
    have hk16 : e.kids.length ≤ 16 := hO.kids e (by rw [hle]; simp)
    have hol : S.opn.length = 4 ↔ l.length = 3 := by rw [hle]; simp
    rw [i1, hlast]
    by_cases ht : S.taken = 64
    · rw [if_pos ⟨ho, ht⟩]
      exact fault_c0 b g l.length cap' S e _ t.kind _ _ va w hI hk1 hk3 ht
    · rw [if_neg (fun h => ht h.2)]
      rcases hkk with q | q | q
      · have h := fault_c1 b g l.length cap' S e _ ⟨t.nm.toArray⟩ ⟨t.text.toArray⟩ va w hI ht hk16
        rw [q, if_neg (by omega), if_neg (by omega)]
        by_cases h3 : l.length = 3
        · rw [if_pos ⟨rfl, hol.2 h3⟩]
          rw [if_pos h3] at h
          exact h
        · rw [if_neg (fun h => h3 (hol.1 h.2))]
          rw [if_neg h3] at h
          by_cases h16 : e.kids.length = 16
          · rw [if_pos ⟨rfl, ho, h16⟩]
            rw [if_pos h16] at h
            exact h
          · rw [if_neg (fun h => h16 h.2.2)]
            rw [if_neg h16] at h
            exact h
      · have h := fault_c2 b g l.length cap' S e _ ⟨t.nm.toArray⟩ ⟨t.text.toArray⟩ va w hI ht _ rfl
        rw [mk_toList] at h
        rw [q]
        by_cases hn : t.nm = e.nm
        · rw [if_neg (fun h => h.2 hn), if_neg (by omega), if_neg (by omega), if_neg (by omega)]
          have : (t.nm == e.nm) = true := by simpa using hn
          rw [this] at h
          exact h
        · rw [if_pos ⟨rfl, hn⟩]
          have : (t.nm == e.nm) = false := by simpa using hn
          rw [this] at h
          exact h
      · have h := fault_c3 b g l.length cap' S e _ ⟨t.nm.toArray⟩ ⟨t.text.toArray⟩ va w hI ht
        rw [q, if_neg (by omega), if_neg (fun h => ho h.2.1), if_neg (by omega), if_neg (by omega)]
        exact h
end Go.Proofs.YthekdgnikkjpdaaGreatDoor
