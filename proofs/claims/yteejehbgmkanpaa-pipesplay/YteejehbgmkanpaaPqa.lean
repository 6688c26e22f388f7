/-
  The document's connections: how they lie in memory; the contracts of its there, Open, Break and Close.
-/
import Derived.Test.YteejehbgmkanpaaPml
namespace Go.Proofs.Yteejehbgmkanpaa
open Go Go.RowKit
/-- A connection, as the document keeps it. -/
structure Qp where
  op : Bool
  bk : Bool
  lf : Int
  out : ByteArray
def Cq (cs : Array Value) (o : Nat) (p : Qp) : Prop := cs[o]? = some (.bool p.op) ∧ cs[o + 1]? = some (.bool p.bk) ∧ cs[o + 2]? = some (.int .i64 p.lf) ∧ cs[o + 3]? = some (.string p.out)
/-- The document's connections in memory. -/
structure PqAt (q : Nat) (d : Nat → Qp) (w : World) : Prop where
  mem : ∃ cs : Array Value, w.heap[q]? = some (.cells cs 31 (0, 0)) ∧ ∀ i, i < 16 → Cq cs (i * 4) (d i)
theorem PqAt.lt {q : Nat} {d : Nat → Qp} {w : World} (h : PqAt q d w) : q < w.heap.size := by
  obtain ⟨cs, h1, _⟩ := h.mem
  exact lt_of_heap h1
theorem PqAt.keep {q : Nat} {d : Nat → Qp} {w w' : World} (h : PqAt q d w) (e : w'.heap[q]? = w.heap[q]?) : PqAt q d w' := by
  obtain ⟨cs, h1, h2⟩ := h.mem
  exact ⟨cs, e.trans h1, h2⟩
theorem PqAt.below {q : Nat} {d : Nat → Qp} {w w' : World} (h : PqAt q d w) (hb : Below w.heap.size w w') : PqAt q d w' := h.keep (hb.block q h.lt)
theorem PqAt.alike {q : Nat} {d : Nat → Qp} {w w' : World} (h : PqAt q d w) (e : w'.heap = w.heap) : PqAt q d w' := h.keep (by rw [e])
theorem Cq.other {cs : Array Value} {o k : Nat} {p : Qp} {x : Value} (h : Cq cs o p) (hk : k < o ∨ o + 4 ≤ k) : Cq (cs.setIfInBounds k x) o p := by
  obtain ⟨h0, h1, h2, h3⟩ := h
  unfold Cq
  simp only [Array.getElem?_setIfInBounds]
  rw [if_neg (by omega), if_neg (by omega), if_neg (by omega), if_neg (by omega)]
  exact ⟨h0, h1, h2, h3⟩
theorem PqAt.set {q : Nat} {d : Nat → Qp} {w : World} (h : PqAt q d w) {i : Nat} (hi : i < 16) (k : Nat) (hk : k < 4) (x : Value) (p : Qp)
    (hx : ∀ cs, Cq cs (i * 4) (d i) → Cq (cs.setIfInBounds (i * 4 + k) x) (i * 4) p) : PqAt q (upd d i p) (w.setCell ⟨q, i * 4 + k, none⟩ x) := by
  obtain ⟨cs, h1, h2⟩ := h.mem
  refine ⟨_, heap_set h1 _ _, fun j hj => ?_⟩
  by_cases e : j = i
  · subst e
    rw [upd_self]
    exact hx cs (h2 j hj)
  · rw [upd_ne e]
    exact (h2 j hj).other (by omega)
theorem Cq.op {cs : Array Value} {o : Nat} {p : Qp} (h : Cq cs o p) (b : Bool) : Cq (cs.setIfInBounds (o + 0) (.bool b)) o { p with op := b } := by
  obtain ⟨h0, h1, h2, h3⟩ := h
  have hl := get_lt h0
  simp [Cq, h1, h2, h3, hl]
theorem Cq.bk {cs : Array Value} {o : Nat} {p : Qp} (h : Cq cs o p) (b : Bool) : Cq (cs.setIfInBounds (o + 1) (.bool b)) o { p with bk := b } := by
  obtain ⟨h0, h1, h2, h3⟩ := h
  have hl := get_lt h1
  simp [Cq, h0, h2, h3, hl]
theorem Cq.lf {cs : Array Value} {o : Nat} {p : Qp} (h : Cq cs o p) (z : Int) : Cq (cs.setIfInBounds (o + 2) (.int .i64 z)) o { p with lf := z } := by
  obtain ⟨h0, h1, h2, h3⟩ := h
  have hl := get_lt h2
  simp [Cq, h0, h1, h3, hl]
theorem Cq.out {cs : Array Value} {o : Nat} {p : Qp} (h : Cq cs o p) (s : ByteArray) : Cq (cs.setIfInBounds (o + 3) (.string s)) o { p with out := s } := by
  obtain ⟨h0, h1, h2, h3⟩ := h
  have hl := get_lt h3
  simp [Cq, h0, h1, h2, hl]
theorem PqAt.cells {q : Nat} {d : Nat → Qp} {w : World} (h : PqAt q d w) {i : Nat} (hi : i < 16) :
    w.cell? ⟨q, i * 4, none⟩ = some (.bool (d i).op) ∧ w.cell? ⟨q, i * 4 + 1, none⟩ = some (.bool (d i).bk) ∧ w.cell? ⟨q, i * 4 + 2, none⟩ = some (.int .i64 (d i).lf) ∧ w.cell? ⟨q, i * 4 + 3, none⟩ = some (.string (d i).out) := by
  obtain ⟨cs, h1, h2⟩ := h.mem
  obtain ⟨g0, g1, g2, g3⟩ := h2 i hi
  have hc : ∀ (o : Nat) (v : Value), cs[o]? = some v → w.cell? ⟨q, o, none⟩ = some v := fun o v e => by simp [World.cell?, h1, e]
  exact ⟨hc _ _ g0, hc _ _ g1, hc _ _ g2, hc _ _ g3⟩
theorem PqAt.fz {q : Nat} {d : Nat → Qp} {w : World} (h : PqAt q d w) (o : Nat) : w.frozen? ⟨q, o, none⟩ = false := by
  obtain ⟨cs, h1, _⟩ := h.mem
  simp [World.frozen?, h1]
def z31 : Array Value := ((List.replicate 16 [Value.bool false, Value.bool false, Value.int .i64 0, Value.string ⟨#[]⟩]).flatten).toArray
theorem zero31 (w : World) : (zeroValue 31).run Try.prog w = .ok (.agg z31) w := by kernel_rfl
def q0 : Qp := ⟨false, false, 0, ⟨#[]⟩⟩
def q1 : Qp := ⟨true, false, -1, ⟨#[]⟩⟩
theorem z31_cq (i : Nat) (hi : i < 16) : Cq z31 (i * 4) q0 := by
  have H : ∀ i, i < 16 → z31[i * 4]? = some (.bool false) ∧ z31[i * 4 + 1]? = some (.bool false) ∧ z31[i * 4 + 2]? = some (.int .i64 0) ∧ z31[i * 4 + 3]? = some (.string ⟨#[]⟩) := by
    intro i hi
    match i, hi with
    | 0, _ | 1, _ | 2, _ | 3, _ | 4, _ | 5, _ | 6, _ | 7, _ | 8, _ | 9, _ | 10, _ | 11, _ | 12, _ | 13, _ | 14, _ | 15, _ => exact ⟨rfl, rfl, rfl, rfl⟩
    | n + 16, h => omega
  exact H i hi
theorem PqAt.made (w : World) : PqAt w.heap.size (fun _ => q0) (w.alloc (.cells z31 31 (0, 0))) := ⟨z31, heap_alloc_new w _, z31_cq⟩
theorem there_in (id : Int) (w : World) (h : inR id) : Calls Try.prog 30 #[.int .i64 id] w fun e w' => e = .returned (.bool true) ∧ w' = w := by
  have h0 := h.1
  have h1 := h.2
  clear h
  go_enter Try.func30, Try.ntmps30
  go_wp2_with fail
  go_ret
  exact ⟨rfl, rfl⟩
theorem there_out (id : Int) (w : World) (h : ¬ inR id) : Calls Try.prog 30 #[.int .i64 id] w fun e w' => e = .returned (.bool false) ∧ w' = w := by
  by_cases h0 : 0 ≤ id
  · have h1 : ¬ id < 16 := fun e => h ⟨h0, e⟩
    clear h
    go_enter Try.func30, Try.ntmps30
    go_wp2_with fail
    go_ret
    exact ⟨rfl, rfl⟩
  · clear h
    go_enter Try.func30, Try.ntmps30
    go_wp2_with fail
    go_ret
    exact ⟨rfl, rfl⟩
/-- What a call of the document's leaves. -/
def Lq (q : Nat) (d : Nat → Qp) (w w' : World) : Prop := PqAt q d w' ∧ Fr [q] w w'
theorem Lq.trans {q : Nat} {d d' : Nat → Qp} {a b c : World} (h : Lq q d a b) (k : Lq q d' b c) : Lq q d' a c := ⟨k.1, h.2.trans k.2⟩
theorem PqAt.lset {q : Nat} {d : Nat → Qp} {w : World} (h : PqAt q d w) {i : Nat} (hi : i < 16) (k : Nat) (hk : k < 4) (x : Value) (p : Qp)
    (hx : ∀ cs, Cq cs (i * 4) (d i) → Cq (cs.setIfInBounds (i * 4 + k) x) (i * 4) p) : Lq q (upd d i p) w (w.setCell ⟨q, i * 4 + k, none⟩ x) :=
  ⟨h.set hi k hk x p hx, (Fr.refl [q] w).setCell _ _ (List.mem_singleton.2 rfl)⟩
theorem qopen_lies {q : Nat} {d : Nat → Qp} {w : World} (h : PqAt q d w) {i : Nat} (hi : i < 16) :
    Lq q (upd d i q1) w ((((w.setCell ⟨q, i * 4, none⟩ (.bool true)).setCell ⟨q, i * 4 + 1, none⟩ (.bool false)).setCell ⟨q, i * 4 + 2, none⟩ (.int .i64 (-1))).setCell ⟨q, i * 4 + 3, none⟩ (.string ⟨#[]⟩)) := by
  have a1 := h.lset hi 0 (by omega) (.bool true) { d i with op := true } fun cs h => h.op true
  refine a1.trans ?_
  have a2 := a1.1.lset hi 1 (by omega) (.bool false) { d i with op := true, bk := false } fun cs h => by rw [upd_self] at h; exact h.bk false
  rw [upd_upd] at a2
  refine a2.trans ?_
  have a3 := a2.1.lset hi 2 (by omega) (.int .i64 (-1)) { d i with op := true, bk := false, lf := -1 } fun cs h => by rw [upd_self] at h; exact h.lf (-1)
  rw [upd_upd] at a3
  refine a3.trans ?_
  have a4 := a3.1.lset hi 3 (by omega) (.string ⟨#[]⟩) q1 fun cs h => by rw [upd_self] at h; exact h.out ⟨#[]⟩
  rw [upd_upd] at a4
  exact a4
set_option maxHeartbeats 1000000 in
theorem qopen_there (q i : Nat) (d : Nat → Qp) (w : World) (h : PqAt q d w) (hi : i < 16) (h1 : (d i).op = true) :
    Calls Try.prog 23 #[.pointer (some ⟨q, 0, none⟩), .int .i64 (i : Int)] w fun e w' => e = .returned (.int .i64 8) ∧ w' = w := by
  have H := fun W => there_in (i : Int) W ⟨by omega, by omega⟩
  obtain ⟨k0, _⟩ := h.cells hi
  rw [h1] at k0
  have i0 : (0 : Int) ≤ (i : Int) := by omega
  have i1 : (i : Int) < 16 := by omega
  clear h h1
  go_enter Try.func23, Try.ntmps23
  go_wp2_with (go_at_call 30; refine (H w).mono ?_; rintro e w1 ⟨rfl, rfl⟩)
  go_ret
  exact ⟨rfl, rfl⟩
set_option maxHeartbeats 1000000 in
theorem qopen_ok (q i : Nat) (d : Nat → Qp) (w : World) (h : PqAt q d w) (hi : i < 16) (h1 : (d i).op = false) :
    Calls Try.prog 23 #[.pointer (some ⟨q, 0, none⟩), .int .i64 (i : Int)] w fun e w' => e = .returned (.int .i64 0) ∧ Lq q (upd d i q1) w w' := by
  have HL : Hid (Lq q (upd d i q1) w _) := qopen_lies h hi
  have H := fun W => there_in (i : Int) W ⟨by omega, by omega⟩
  obtain ⟨k0, k1, k2, k3⟩ := h.cells hi
  rw [h1] at k0
  have fz := h.fz
  have i0 : (0 : Int) ≤ (i : Int) := by omega
  have i1 : (i : Int) < 16 := by omega
  clear h h1
  go_enter Try.func23, Try.ntmps23
  go_wp2_with (go_at_call 30; refine (H w).mono ?_; rintro e w1 ⟨rfl, rfl⟩)
  go_ret
  exact ⟨rfl, HL.out⟩
theorem qopen_bad (q : Nat) (id : Int) (w : World) (h : ¬ inR id) : Calls Try.prog 23 #[.pointer (some ⟨q, 0, none⟩), .int .i64 id] w fun e w' => e = .returned (.int .i64 1) ∧ w' = w := by
  have H := fun W => there_out id W h
  clear h
  go_enter Try.func23, Try.ntmps23
  go_wp2_with (go_at_call 30; refine (H w).mono ?_; rintro e w1 ⟨rfl, rfl⟩)
  go_ret
  exact ⟨rfl, rfl⟩
theorem qbreak_bad (q : Nat) (id n : Int) (w : World) (h : ¬ inR id) : Calls Try.prog 25 #[.pointer (some ⟨q, 0, none⟩), .int .i64 id, .int .i64 n] w fun e w' => e = .returned (.int .i64 1) ∧ w' = w := by
  have H := fun W => there_out id W h
  clear h
  go_enter Try.func25, Try.ntmps25
  go_wp2_with (go_at_call 30; refine (H w).mono ?_; rintro e w1 ⟨rfl, rfl⟩)
  go_ret
  exact ⟨rfl, rfl⟩
set_option maxHeartbeats 1000000 in
theorem qbreak_gone (q i : Nat) (n : Int) (d : Nat → Qp) (w : World) (h : PqAt q d w) (hi : i < 16) (h1 : (d i).op = false ∨ (d i).bk = true) :
    Calls Try.prog 25 #[.pointer (some ⟨q, 0, none⟩), .int .i64 (i : Int), .int .i64 n] w fun e w' => e = .returned (.int .i64 12) ∧ w' = w := by
  have H := fun W => there_in (i : Int) W ⟨by omega, by omega⟩
  obtain ⟨k0, k1, _⟩ := h.cells hi
  have i0 : (0 : Int) ≤ (i : Int) := by omega
  have i1 : (i : Int) < 16 := by omega
  clear h
  by_cases h2 : (d i).op = false
  · rw [h2] at k0
    clear h1 h2 k1
    go_enter Try.func25, Try.ntmps25
    go_wp2_with (go_at_call 30; refine (H w).mono ?_; rintro e w1 ⟨rfl, rfl⟩)
    go_ret
    exact ⟨rfl, rfl⟩
  · rw [eq_true_of_ne_false h2] at k0
    rw [h1.resolve_left h2] at k1
    clear h1 h2
    go_enter Try.func25, Try.ntmps25
    go_wp2_with (go_at_call 30; refine (H w).mono ?_; rintro e w1 ⟨rfl, rfl⟩)
    go_ret
    exact ⟨rfl, rfl⟩
set_option maxHeartbeats 1000000 in
theorem qbreak_ok (q i : Nat) (n m : Int) (hm : max n (-1) = m) (d : Nat → Qp) (w : World) (h : PqAt q d w) (hi : i < 16) (h1 : (d i).op = true) (h2 : (d i).bk = false) :
    Calls Try.prog 25 #[.pointer (some ⟨q, 0, none⟩), .int .i64 (i : Int), .int .i64 n] w fun e w' => e = .returned (.int .i64 0) ∧ Lq q (upd d i { d i with lf := m }) w w' := by
  have HL : Hid (Lq q (upd d i { d i with lf := m }) w _) := h.lset hi 2 (by omega) (.int .i64 m) { d i with lf := m } fun cs h => h.lf m
  have H := fun W => there_in (i : Int) W ⟨by omega, by omega⟩
  obtain ⟨k0, k1, k2, k3⟩ := h.cells hi
  rw [h1] at k0
  rw [h2] at k1
  have fz := h.fz
  have i0 : (0 : Int) ≤ (i : Int) := by omega
  have i1 : (i : Int) < 16 := by omega
  clear h h1 h2
  by_cases hn : n < -1
  · obtain rfl : m = -1 := by omega
    clear hm
    go_enter Try.func25, Try.ntmps25
    go_wp2_with (go_at_call 30; refine (H w).mono ?_; rintro e w1 ⟨rfl, rfl⟩)
    go_ret
    exact ⟨rfl, HL.out⟩
  · obtain rfl : m = n := by omega
    clear hm
    go_enter Try.func25, Try.ntmps25
    go_wp2_with (go_at_call 30; refine (H w).mono ?_; rintro e w1 ⟨rfl, rfl⟩)
    go_ret
    exact ⟨rfl, HL.out⟩
theorem qclose_bad (q : Nat) (id : Int) (w : World) (h : ¬ inR id) : Calls Try.prog 26 #[.pointer (some ⟨q, 0, none⟩), .int .i64 id] w fun e w' => e = .returned (.int .i64 1) ∧ w' = w := by
  have H := fun W => there_out id W h
  clear h
  go_enter Try.func26, Try.ntmps26
  go_wp2_with (go_at_call 30; refine (H w).mono ?_; rintro e w1 ⟨rfl, rfl⟩)
  go_ret
  exact ⟨rfl, rfl⟩
set_option maxHeartbeats 1000000 in
theorem qclose_gone (q i : Nat) (d : Nat → Qp) (w : World) (h : PqAt q d w) (hi : i < 16) (h1 : (d i).op = false) :
    Calls Try.prog 26 #[.pointer (some ⟨q, 0, none⟩), .int .i64 (i : Int)] w fun e w' => e = .returned (.int .i64 12) ∧ w' = w := by
  have H := fun W => there_in (i : Int) W ⟨by omega, by omega⟩
  obtain ⟨k0, _⟩ := h.cells hi
  rw [h1] at k0
  have i0 : (0 : Int) ≤ (i : Int) := by omega
  have i1 : (i : Int) < 16 := by omega
  clear h h1
  go_enter Try.func26, Try.ntmps26
  go_wp2_with (go_at_call 30; refine (H w).mono ?_; rintro e w1 ⟨rfl, rfl⟩)
  go_ret
  exact ⟨rfl, rfl⟩
set_option maxHeartbeats 1000000 in
theorem qclose_ok (q i : Nat) (d : Nat → Qp) (w : World) (h : PqAt q d w) (hi : i < 16) (h1 : (d i).op = true) :
    Calls Try.prog 26 #[.pointer (some ⟨q, 0, none⟩), .int .i64 (i : Int)] w fun e w' => e = .returned (.int .i64 0) ∧ Lq q (upd d i { d i with op := false }) w w' := by
  have HL : Hid (Lq q (upd d i { d i with op := false }) w _) := h.lset hi 0 (by omega) (.bool false) { d i with op := false } fun cs h => h.op false
  have H := fun W => there_in (i : Int) W ⟨by omega, by omega⟩
  obtain ⟨k0, k1, k2, k3⟩ := h.cells hi
  rw [h1] at k0
  have fz := h.fz
  have i0 : (0 : Int) ≤ (i : Int) := by omega
  have i1 : (i : Int) < 16 := by omega
  clear h h1
  go_enter Try.func26, Try.ntmps26
  go_wp2_with (go_at_call 30; refine (H w).mono ?_; rintro e w1 ⟨rfl, rfl⟩)
  go_ret
  exact ⟨rfl, HL.out⟩
end Go.Proofs.Yteejehbgmkanpaa
