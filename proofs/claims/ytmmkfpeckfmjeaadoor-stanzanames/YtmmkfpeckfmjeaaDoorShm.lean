/-
  Over this program: the map of shapes, by kinds: what it holds, how it is filled, how it is looked up.
-/
import Derived.Test.YtmmkfpeckfmjeaaDoorShs
namespace Go.Proofs.YtmmkfpeckfmjeaaDoor
open Go Go.RowKit Go.Maps
/-- An element of the map, whatever it is. -/
def heldR (v : Value) : Option (DataW Value × List MemPlace) := some (.held v, [])
theorem keyLaw : Keyed Tryd.prog 3 := int_keyed Tryd.underlying3
theorem zero59_run (w : World) : (zeroValue 59).run Tryd.prog w = .ok (.agg zero59) w := by kernel_rfl
/-- Block m is a map that holds the shapes of the kinds 1 to n. -/
def MI (m n : Nat) (w : World) : Prop := ∃ D : DataW Value, w.ownsMap Tryd.prog 3 heldR m n D ∧ ∀ i : Nat, 1 ≤ i → i ≤ n → ∃ v, D.atKey (.int .i64 i) (.held (.agg zero59)) = .held v ∧ NRes (fun k => k ≠ m) 3 (shapeN i) w v
theorem MI.made (w : World) : MI w.heap.size 0 (w.alloc (.map #[] 0)) := ⟨.map [], World.ownsMap_made _ _ _ _, fun i h1 h2 => by omega⟩
theorem MI.below {m n : Nat} {w w' : World} (h : MI m n w) (hb : Below w.heap.size w w') : MI m n w' := by
  obtain ⟨D, ⟨es, clock, h1, h2⟩, h3⟩ := h
  refine ⟨D, ⟨es, clock, (hb.block m (lt_of_heap h1)).trans h1, h2⟩, fun i q1 q2 => ?_⟩
  obtain ⟨v, r1, r2⟩ := h3 i q1 q2
  exact ⟨v, r1, r2.step (.below hb)⟩
theorem MI.lt {m n : Nat} {w : World} (h : MI m n w) : m < w.heap.size := by
  obtain ⟨D, ⟨es, clock, h1, h2⟩, h3⟩ := h
  exact lt_of_heap h1
theorem key_wf (i : Nat) (h : i ≤ 100) : (Lit.int .i64 (i : Int)).wf = true := by
  have e1 : IntKind.i64.min = -9223372036854775808 := rfl
  have e2 : IntKind.i64.max = 9223372036854775807 := rfl
  simp [Lit.wf, e1, e2]
  omega
theorem MI.put {m n : Nat} {w : World} {v : Value} (h : MI m n w) (hn : n < 50) (hv : NRes (fun k => k ≠ m) 3 (shapeN (n + 1)) w v) :
    ∃ w', (Instr.mapUpdate 50 (.map (some m)) (.int .i64 ((n + 1 : Nat) : Int)) v).run Tryd.prog w = .ok () w' ∧ MI m (n + 1) w' ∧ w.grownBy w' (some m) := by
  obtain ⟨D, h1, h3⟩ := h
  have hm := h1.isMap
  have hkey : keyOf Tryd.prog 3 (.int .i64 ((n + 1 : Nat) : Int)) = some (.int .i64 ((n + 1 : Nat) : Int)) := keyOf_int_mk Tryd.underlying3 (key_wf _ (by omega))
  obtain ⟨w', r1, r2, r3⟩ := h1.update keyLaw Tryd.underlying50 (by unfold maxLen; omega) hkey (show heldR v = some (.held v, []) from rfl)
  have hst : Stp (fun k => k ≠ m) (fun k => k ≠ m) w w' := fun k hk hl => ⟨hk, r3.block k hl (fun e => hk (Option.some.inj e))⟩
  refine ⟨w', r1, ⟨_, r2, fun i q1 q2 => ?_⟩, r3⟩
  by_cases e : i = n + 1
  · subst e
    exact ⟨v, by rw [atKey_put_same hm (by simp [WideAt.IsKeyLit])], hv.step hst⟩
  · obtain ⟨u, u1, u2⟩ := h3 i q1 (by omega)
    refine ⟨u, ?_, u2.step hst⟩
    rw [atKey_put_other (fun h => e (by simp at h; omega)), u1]
theorem MI.look {m n i : Nat} {w : World} (h : MI m n w) (h1 : 1 ≤ i) (h2 : i ≤ n) (hn : n < 50) :
    ∃ v, (Instr.lookup 50 (.map (some m)) (.int .i64 (i : Int)) false).run Tryd.prog w = .ok v w ∧ NRes (fun k => k ≠ m) 3 (shapeN i) w v := by
  obtain ⟨D, q1, q2⟩ := h
  obtain ⟨v, r1, r2⟩ := q2 i h1 h2
  obtain ⟨u, ps, hrun, hu⟩ := q1.lookup keyLaw Tryd.underlying50 (zero59_run w) (show heldR (.agg zero59) = some (.held (.agg zero59), []) from rfl) (keyOf_int_mk Tryd.underlying3 (key_wf i (by omega)))
  rw [r1] at hu
  have e : u = v := by
    unfold heldR at hu
    have := Option.some.inj hu
    exact DataW.held.inj (Prod.mk.inj this).1
  rw [e] at hrun
  exact ⟨v, hrun, r2⟩
end Go.Proofs.YtmmkfpeckfmjeaaDoor
