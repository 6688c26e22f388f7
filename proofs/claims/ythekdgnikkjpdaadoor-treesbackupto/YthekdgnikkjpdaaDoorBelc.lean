/-
  The contracts of (*trees.Builder).innermost and fault over this program.
-/
import Derived.Test.YthekdgnikkjpdaaDoorBelb
import Derived.Test.YthekdgnikkjpdaaDoorTrimt
namespace Go.Proofs.YthekdgnikkjpdaaDoor
open Go.RowKit
set_option maxHeartbeats 400000 in
set_option maxRecDepth 100000 in
theorem inner_empty (b cap : Nat) (ao : Option Addr) (s : ByteArray) (w : World) (c1 : w.cell? ⟨b, 1, none⟩ = some (.string s)) (c2 : w.cell? ⟨b, 2, none⟩ = some (.slice ao 0 cap)) : Calls Tryd.prog 39 #[.pointer (some ⟨b, 0, none⟩)] w fun e w' => e = .returned (.string s) ∧ ∃ q, w' = w.drewN q := by
  go_enter Tryd.func39, Tryd.ntmps39
  go_wp2
  go_ret
  exact ⟨rfl, 0, rfl⟩
set_option maxHeartbeats 400000 in
set_option maxRecDepth 100000 in
theorem inner_last (b g m cap : Nat) (s : ByteArray) (w : World) (c2 : w.cell? ⟨b, 2, none⟩ = some (.slice (some ⟨g, 0, none⟩) (m + 1) cap)) (hm : m < 100) (d0 : w.cell? ⟨g, m * 4, none⟩ = some (.string s)) : Calls Tryd.prog 39 #[.pointer (some ⟨b, 0, none⟩)] w fun e w' => e = .returned (.string s) ∧ ∃ q, w' = w.drewN q := by
  have H := last_any b g m cap w c2 hm
  go_enter Tryd.func39, Tryd.ntmps39
  go_wp2_with (go_at_call 41; refine H.mono ?_; rintro e w1 ⟨rfl, q, rfl⟩)
  go_ret
  exact ⟨rfl, q, rfl⟩
def tokV (k : Int) (n : ByteArray) (v : Value) (x : ByteArray) : Value := .agg #[.int .i64 k, .string n, v, .string x]
def FaultPost (c : Int) (w : World) (e : Ending) (w' : World) : Prop := e = .returned (.int .i64 c) ∧ Below w.heap.size w w'
theorem fp_mk {c : Int} {w w' : World} (h : Below w.heap.size w w') : FaultPost c w (.returned (.int .i64 c)) w' := ⟨rfl, h⟩
set_option maxHeartbeats 1000000 in
set_option maxRecDepth 100000 in
theorem fault_a (b : Nat) (S : Bs) (ao : Option Addr) (n cap : Nat) (k : Int) (nm x : ByteArray) (va : Value) (w : World) (hC : BCells b S ao n cap w) (hb : b < w.heap.size)
    (h : (S.stage = 0 ∧ k ≠ 1) ∨ S.stage = 2 ∨ k < 1 ∨ 3 < k) : Calls Tryd.prog 21 #[.pointer (some ⟨b, 0, none⟩), .agg #[.int .i64 k, .string nm, va, .string x]] w (FaultPost 3 w) := by
  obtain ⟨c0, c1, c2, c3, c4, _⟩ := hC
  have hw : ∀ v : Value, Below w.heap.size w (w.alloc (.cells #[.int .i64 k, .string nm, v, .string x] 39)) := fun v => (Below.refl _ _).alloc (Nat.le_refl _) _
  by_cases h1 : S.stage = 0 ∧ k ≠ 1
  · obtain ⟨h0, hk⟩ := h1
    rw [h0] at c0
    have hk' : (k != 1) = true := by simpa using hk
    clear h h0
    go_enter Tryd.func21, Tryd.ntmps21
    go_wp2
    all_goals go_ret
    all_goals exact fp_mk (hw _)
  · by_cases h2 : S.stage = 2
    · rw [h2] at c0
      clear h h1 h2
      go_enter Tryd.func21, Tryd.ntmps21
      go_wp2
      all_goals go_ret
      all_goals exact fp_mk (hw _)
    · have hs0 : S.stage ≠ 0 := by
        intro e
        exact h1 ⟨e, by rcases h with h | h | h | h <;> omega⟩
      have e0 : (S.stage == 0) = false := by simpa using hs0
      have e2 : (S.stage == 2) = false := by simpa using h2
      by_cases h3 : k < 1
      · clear h h1 h2 hs0
        go_enter Tryd.func21, Tryd.ntmps21
        go_wp2
        all_goals go_ret
        all_goals exact fp_mk (hw _)
      · have h4 : 3 < k := by rcases h with h | h | h | h <;> omega
        clear h h1 h2 hs0
        go_enter Tryd.func21, Tryd.ntmps21
        go_wp2
        all_goals go_ret
        all_goals exact fp_mk (hw _)
set_option maxHeartbeats 1000000 in
set_option maxRecDepth 100000 in
theorem fault_b1 (b : Nat) (S : Bs) (ao : Option Addr) (cap : Nat) (nm x : ByteArray) (va : Value) (w : World) (hC : BCells b S ao 0 cap w) (hb : b < w.heap.size)
    (h2 : S.stage ≠ 2) : Calls Tryd.prog 21 #[.pointer (some ⟨b, 0, none⟩), .agg #[.int .i64 1, .string nm, va, .string x]] w (FaultPost 0 w) := by
  obtain ⟨c0, c1, c2, c3, c4, _⟩ := hC
  have hw : ∀ v : Value, Below w.heap.size w (w.alloc (.cells #[.int .i64 1, .string nm, v, .string x] 39)) := fun v => (Below.refl _ _).alloc (Nat.le_refl _) _
  have e2 : (S.stage == 2) = false := by simpa using h2
  clear h2
  by_cases h0 : S.stage = 0
  · rw [h0] at c0
    clear h0 e2
    go_enter Tryd.func21, Tryd.ntmps21
    go_wp2_with fail
    go_quiet (fail)
    go_wp2_with fail
    all_goals go_ret
    all_goals exact fp_mk (Below.drewN (hw _) _)
  · have e0 : (S.stage == 0) = false := by simpa using h0
    clear h0
    go_enter Tryd.func21, Tryd.ntmps21
    go_wp2_with fail
    go_quiet (fail)
    go_wp2_with fail
    all_goals go_ret
    all_goals exact fp_mk (Below.drewN (hw _) _)
set_option maxHeartbeats 1000000 in
set_option maxRecDepth 100000 in
theorem fault_b2 (b : Nat) (S : Bs) (ao : Option Addr) (cap : Nat) (nm x : ByteArray) (va : Value) (w : World) (hC : BCells b S ao 0 cap w) (hb : b < w.heap.size)
    (h1 : S.stage = 1) (q : Bool) (hq : (nm.toList == S.stream) = q) : Calls Tryd.prog 21 #[.pointer (some ⟨b, 0, none⟩), .agg #[.int .i64 2, .string nm, va, .string x]] w (FaultPost (if q then 0 else 3) w) := by
  obtain ⟨c0, c1, c2, c3, c4, _⟩ := hC
  rw [h1] at c0
  have hw : ∀ v : Value, Below w.heap.size w (w.alloc (.cells #[.int .i64 2, .string nm, v, .string x] 39)) := fun v => (Below.refl _ _).alloc (Nat.le_refl _) _
  have H : ∀ W, W.cell? ⟨b, 1, none⟩ = some (.string ⟨S.stream.toArray⟩) → W.cell? ⟨b, 2, none⟩ = some (.slice ao 0 cap) → Calls Tryd.prog 39 #[.pointer (some ⟨b, 0, none⟩)] W fun e w' => e = .returned (.string ⟨S.stream.toArray⟩) ∧ ∃ q, w' = W.drewN q := fun W k1 k2 => inner_empty b cap ao _ W k1 k2
  clear h1
  cases q with
  | true =>
    rw [if_pos rfl]
    go_enter Tryd.func21, Tryd.ntmps21
    go_wp2_with fail
    go_quiet ((go_at_call 39; exact Calls.quiet_of (H _ (Lib.cell?_alloc_some _ c1) (Lib.cell?_alloc_some _ c2))))
    go_wp2_with fail
    go_ret
    exact fp_mk (Below.drewN (hw _) _)
  | false =>
    rw [if_neg (by simp)]
    go_enter Tryd.func21, Tryd.ntmps21
    go_wp2_with fail
    go_quiet ((go_at_call 39; exact Calls.quiet_of (H _ (Lib.cell?_alloc_some _ c1) (Lib.cell?_alloc_some _ c2))))
    go_wp2_with fail
    go_ret
    exact fp_mk (Below.drewN (hw _) _)
set_option maxHeartbeats 1000000 in
set_option maxRecDepth 100000 in
theorem fault_b3 (b : Nat) (S : Bs) (ao : Option Addr) (cap : Nat) (nm x : ByteArray) (va : Value) (w : World) (hC : BCells b S ao 0 cap w) (hb : b < w.heap.size) (hx : x.size ≤ 2000000)
    (h1 : S.stage = 1) (q : Bool) (hq : x.data.toList.all bl = q) : Calls Tryd.prog 21 #[.pointer (some ⟨b, 0, none⟩), .agg #[.int .i64 3, .string nm, va, .string x]] w (FaultPost (if q then 0 else 3) w) := by
  obtain ⟨c0, c1, c2, c3, c4, _⟩ := hC
  rw [h1] at c0
  have hw : ∀ v : Value, Below w.heap.size w (w.alloc (.cells #[.int .i64 3, .string nm, v, .string x] 39)) := fun v => (Below.refl _ _).alloc (Nat.le_refl _) _
  have hq2 : (trimL (trimR x.data.toList)).isEmpty = q := by rw [trim_blank]; exact hq
  obtain ⟨y, hy⟩ : ∃ y, trimL (trimR x.data.toList) = y := ⟨_, rfl⟩
  have H := fun W => trim_any x W hx
  rw [hy] at hq2 H
  clear h1 hq hy
  cases q with
  | true =>
    rw [if_pos rfl]
    go_enter Tryd.func21, Tryd.ntmps21
    go_wp2_with fail
    go_quiet (fail)
    go_wp2_with (go_at_call 40; refine (H _).mono ?_; rintro e w1 ⟨rfl, hb1⟩; obtain ⟨hc1, _⟩ := bcell hb1)
    go_ret
    exact fp_mk ((Below.drewN (hw _) _).trans (hb1.mono (by simp)))
  | false =>
    rw [if_neg (by simp)]
    go_enter Tryd.func21, Tryd.ntmps21
    go_wp2_with fail
    go_quiet (fail)
    go_wp2_with (go_at_call 40; refine (H _).mono ?_; rintro e w1 ⟨rfl, hb1⟩; obtain ⟨hc1, _⟩ := bcell hb1)
    go_ret
    exact fp_mk ((Below.drewN (hw _) _).trans (hb1.mono (by simp)))
/-- Within an item. -/
structure InItem (b g m cap : Nat) (S : Bs) (e : El) (nk : Nat) (w : World) : Prop where
  cs : BCells b S (some ⟨g, 0, none⟩) (m + 1) cap w
  hm : m < 100
  st : S.stage = 1
  d0 : w.cell? ⟨g, m * 4, none⟩ = some (.string ⟨e.nm.toArray⟩)
  d3 : ∃ ao' cap', w.cell? ⟨g, m * 4 + 3, none⟩ = some (.slice ao' nk cap')
  hg : g < w.heap.size
  hb : b < w.heap.size
set_option maxHeartbeats 1000000 in
set_option maxRecDepth 100000 in
theorem fault_c0 (b g m cap : Nat) (S : Bs) (e : El) (nk : Nat) (k : Int) (nm x : ByteArray) (va : Value) (w : World) (hI : InItem b g m cap S e nk w) (hk1 : ¬ k < 1) (hk2 : ¬ 3 < k) (ht : S.taken = 64) :
    Calls Tryd.prog 21 #[.pointer (some ⟨b, 0, none⟩), .agg #[.int .i64 k, .string nm, va, .string x]] w (FaultPost 4 w) := by
  obtain ⟨⟨c0, c1, c2, c3, c4, _⟩, hm, h1, d0, ⟨ao', cap', d3⟩, hg, hb⟩ := hI
  rw [h1] at c0
  rw [ht] at c3
  have hw : ∀ v : Value, Below w.heap.size w (w.alloc (.cells #[.int .i64 k, .string nm, v, .string x] 39)) := fun v => (Below.refl _ _).alloc (Nat.le_refl _) _
  clear h1 ht
  go_enter Tryd.func21, Tryd.ntmps21
  go_wp2_with fail
  go_ret
  exact fp_mk (hw _)
set_option maxHeartbeats 1000000 in
set_option maxRecDepth 100000 in
theorem fault_c1 (b g m cap : Nat) (S : Bs) (e : El) (nk : Nat) (nm x : ByteArray) (va : Value) (w : World) (hI : InItem b g m cap S e nk w) (ht : S.taken ≠ 64) (hn : nk ≤ 16) :
    Calls Tryd.prog 21 #[.pointer (some ⟨b, 0, none⟩), .agg #[.int .i64 1, .string nm, va, .string x]] w (FaultPost (if m = 3 then 5 else if nk = 16 then 4 else 0) w) := by
  obtain ⟨⟨c0, c1, c2, c3, c4, _⟩, hm, h1, d0, ⟨ao', cap', d3⟩, hg, hb⟩ := hI
  rw [h1] at c0
  have ht' : (S.taken == 64) = false := by simpa using ht
  have hw : ∀ v : Value, Below w.heap.size w (w.alloc (.cells #[.int .i64 1, .string nm, v, .string x] 39)) := fun v => (Below.refl _ _).alloc (Nat.le_refl _) _
  have H : ∀ W, W.cell? ⟨b, 2, none⟩ = some (.slice (some ⟨g, 0, none⟩) (m + 1) cap) → Calls Tryd.prog 41 #[.pointer (some ⟨b, 0, none⟩)] W fun e w' => e = .returned (.pointer (some ⟨g, m * 4, none⟩)) ∧ ∃ q, w' = W.drewN q := fun W k2 => last_any b g m cap W k2 hm
  clear h1 ht
  by_cases h3 : m = 3
  · subst h3
    rw [if_pos rfl]
    go_enter Tryd.func21, Tryd.ntmps21
    go_wp2_with fail
    go_quiet (fail)
    go_wp2_with fail
    go_ret
    exact fp_mk (Below.drewN (hw _) _)
  · rw [if_neg h3]
    have h3' : ((m : Int) + 1 == 4) = false := by simp; omega
    by_cases h16 : nk = 16
    · subst h16
      rw [if_pos rfl]
      go_enter Tryd.func21, Tryd.ntmps21
      go_wp2_with fail
      go_quiet (fail)
      go_wp2_with (go_at_call 41; refine (H _ ?_).mono ?_; (exact Lib.cell?_alloc_some (W := w) _ c2); rintro e w1 ⟨rfl, q, rfl⟩)
      go_ret
      exact fp_mk (Below.drewN (hw _) _)
    · rw [if_neg h16]
      have h16' : ((nk : Int) == 16) = false := by simp; omega
      clear h16
      go_enter Tryd.func21, Tryd.ntmps21
      go_wp2_with fail
      go_quiet (fail)
      go_wp2_with (go_at_call 41; refine (H _ ?_).mono ?_; (exact Lib.cell?_alloc_some (W := w) _ c2); rintro e w1 ⟨rfl, q, rfl⟩)
      go_ret
      exact fp_mk (Below.drewN (hw _) _)
set_option maxHeartbeats 1000000 in
set_option maxRecDepth 100000 in
theorem fault_c2 (b g m cap : Nat) (S : Bs) (e : El) (nk : Nat) (nm x : ByteArray) (va : Value) (w : World) (hI : InItem b g m cap S e nk w) (ht : S.taken ≠ 64) (q : Bool) (hq : (nm.toList == e.nm) = q) :
    Calls Tryd.prog 21 #[.pointer (some ⟨b, 0, none⟩), .agg #[.int .i64 2, .string nm, va, .string x]] w (FaultPost (if q then 0 else 3) w) := by
  obtain ⟨⟨c0, c1, c2, c3, c4, _⟩, hm, h1, d0, ⟨ao', cap', d3⟩, hg, hb⟩ := hI
  rw [h1] at c0
  have ht' : (S.taken == 64) = false := by simpa using ht
  have hw : ∀ v : Value, Below w.heap.size w (w.alloc (.cells #[.int .i64 2, .string nm, v, .string x] 39)) := fun v => (Below.refl _ _).alloc (Nat.le_refl _) _
  have H : ∀ W, W.cell? ⟨b, 2, none⟩ = some (.slice (some ⟨g, 0, none⟩) (m + 1) cap) → W.cell? ⟨g, m * 4, none⟩ = some (.string ⟨e.nm.toArray⟩) → Calls Tryd.prog 39 #[.pointer (some ⟨b, 0, none⟩)] W fun e' w' => e' = .returned (.string ⟨e.nm.toArray⟩) ∧ ∃ q, w' = W.drewN q := fun W k2 k3 => inner_last b g m cap _ W k2 hm k3
  clear h1 ht
  cases q with
  | true =>
    rw [if_pos rfl]
    go_enter Tryd.func21, Tryd.ntmps21
    go_wp2_with fail
    go_quiet ((go_at_call 39; exact Calls.quiet_of (H _ (Lib.cell?_alloc_some _ c2) (Lib.cell?_alloc_some _ d0))))
    go_wp2_with fail
    go_ret
    exact fp_mk (Below.drewN (hw _) _)
  | false =>
    rw [if_neg (by simp)]
    go_enter Tryd.func21, Tryd.ntmps21
    go_wp2_with fail
    go_quiet ((go_at_call 39; exact Calls.quiet_of (H _ (Lib.cell?_alloc_some _ c2) (Lib.cell?_alloc_some _ d0))))
    go_wp2_with fail
    go_ret
    exact fp_mk (Below.drewN (hw _) _)
set_option maxHeartbeats 1000000 in
set_option maxRecDepth 100000 in
theorem fault_c3 (b g m cap : Nat) (S : Bs) (e : El) (nk : Nat) (nm x : ByteArray) (va : Value) (w : World) (hI : InItem b g m cap S e nk w) (ht : S.taken ≠ 64) :
    Calls Tryd.prog 21 #[.pointer (some ⟨b, 0, none⟩), .agg #[.int .i64 3, .string nm, va, .string x]] w (FaultPost 0 w) := by
  obtain ⟨⟨c0, c1, c2, c3, c4, _⟩, hm, h1, d0, ⟨ao', cap', d3⟩, hg, hb⟩ := hI
  rw [h1] at c0
  have ht' : (S.taken == 64) = false := by simpa using ht
  have hw : ∀ v : Value, Below w.heap.size w (w.alloc (.cells #[.int .i64 3, .string nm, v, .string x] 39)) := fun v => (Below.refl _ _).alloc (Nat.le_refl _) _
  clear h1 ht
  go_enter Tryd.func21, Tryd.ntmps21
  go_wp2_with fail
  go_quiet (fail)
  go_wp2_with fail
  go_ret
  exact fp_mk (Below.drewN (hw _) _)
end Go.Proofs.YthekdgnikkjpdaaDoor
