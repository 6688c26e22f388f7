/-
  The map of shapes is filled in whatever order: single operations of a region that draws, what each slot of it holds, and the relation that every order keeps.
-/
import Derived.Test.YtmmkfpeckfmjeaaDoorInv
import Derived.Test.YtmmkfpeckfmjeaaDoorShv
namespace Go.Proofs.YtmmkfpeckfmjeaaDoor
open Go Go.RowKit Go.Maps
theorem op_val {P : Program} {ops : Array Oper} {Q : Exit → Act → World → Prop} {K : Act → World → Prop} {i : Nat} {a : Act} {w : World} {o : Oper} (ho : ops[i]? = some o) (hg : o.guard = none) {v : Value} {w' : World}
    (hr : (execOp a.eval o).run P w = .ok (.value v) w') (h : K (a.put o.dst v) w') : wpOp P ops Q i K a w := by
  unfold wpOp
  rw [ho]
  simp only
  rw [if_pos (by simp [Region.wanted, hg])]
  left
  unfold Oper.wp
  rw [hr]
  exact h
theorem op_skip {P : Program} {ops : Array Oper} {Q : Exit → Act → World → Prop} {K : Act → World → Prop} {i : Nat} {a : Act} {w : World} {o : Oper} (ho : ops[i]? = some o) (hg : o.guard = none) {w' : World}
    (hr : (execOp a.eval o).run P w = .ok .skip w') (h : K (a.put o.dst undef) w') : wpOp P ops Q i K a w := by
  unfold wpOp
  rw [ho]
  simp only
  rw [if_pos (by simp [Region.wanted, hg])]
  left
  unfold Oper.wp
  rw [hr]
  exact h
theorem run_enter {F : FuncId} {fn : Func} (hf : Tryd.prog.funcs[F]? = some fn) (hn : ¬ fn.name = "runtime.NumGoroutine") (hb : ¬ fn.body = none) (args : Array Value) (w : World) : (callFunc F args).run Tryd.prog w = .ok (.enter F args) w := by
  simp [callFunc, hf, hn, hb]
theorem op_call {ops : Array Oper} {Q : Exit → Act → World → Prop} {K : Act → World → Prop} {i : Nat} {a : Act} {w : World} {o : Oper} (ho : ops[i]? = some o) (hg : o.guard = none) {F : FuncId} {xs : Array Operand} {ts : Array TypeId} (hop : o.op = .call { callee := .value (.func F), args := xs, argTypes := ts })
    {fn : Func} (hf : Tryd.prog.funcs[F]? = some fn) (hn : ¬ fn.name = "runtime.NumGoroutine") (hb : ¬ fn.body = none) {args : Array Value} (hargs : xs.map a.eval = args)
    (h : Calls Tryd.prog F args w fun e w' => ∃ v, e = .returned v ∧ K (a.put o.dst v) w') : wpOp Tryd.prog ops Q i K a w := by
  unfold wpOp
  rw [ho]
  simp only
  rw [if_pos (by simp [Region.wanted, hg])]
  left
  have hr : (execOp a.eval o).run Tryd.prog w = .ok (.enter F args) w := by
    have e0 : a.eval (.func F) = .func (.func F) #[] #[] := rfl
    simp [execOp, hop, resolve, invoke, Deferred.ofValue, e0, hargs, run_enter hf hn hb]
  unfold Oper.wp
  rw [hr, Oper.upon_enter]
  exact h.mono fun e w' ⟨v, he, hk⟩ => by subst he; exact hk
theorem run_load6 {b : Nat} {x0 x1 x2 x3 x4 x5 : Value} {w : World} (h : At b #[x0, x1, x2, x3, x4, x5] 59 w) : (Instr.loadAt 59 (.pointer (some ⟨b, 0, none⟩))).run Tryd.prog w = .ok (.agg #[x0, x1, x2, x3, x4, x5]) w := by
  obtain ⟨c0, c1, c2, c3, c4, c5, _⟩ := z6 h
  go_simp
theorem run_load3 {b : Nat} {x0 x1 x2 : Value} {w : World} (h : At b #[x0, x1, x2] 70 w) : (Instr.loadAt 70 (.pointer (some ⟨b, 0, none⟩))).run Tryd.prog w = .ok (.agg #[x0, x1, x2]) w := by
  have c0 : w.cell? ⟨b, 0, none⟩ = some x0 := by rw [Lib.cell_of_heap h]; rfl
  have c1 : w.cell? ⟨b, 1, none⟩ = some x1 := by rw [Lib.cell_of_heap h]; rfl
  have c2 : w.cell? ⟨b, 2, none⟩ = some x2 := by rw [Lib.cell_of_heap h]; rfl
  go_simp
theorem run_map (w : World) : (Instr.makeMap 50 none).run Tryd.prog w = .ok (.map (some w.heap.size)) (w.alloc (.map #[] 0)) := rfl
theorem run_sl1 (x0 x1 x2 : Value) (w : World) : (Instr.buildSlice 53 1 #[(0, .agg #[x0, x1, x2])]).run Tryd.prog w = .ok (.slice (some ⟨w.heap.size, 0, none⟩) 1 1) (w.alloc (.cells #[x0, x1, x2] 70)) := by
  go_simp
theorem run_sl2 (x0 x1 x2 y0 y1 y2 : Value) (w : World) : (Instr.buildSlice 53 2 #[(0, .agg #[x0, x1, x2]), (1, .agg #[y0, y1, y2])]).run Tryd.prog w = .ok (.slice (some ⟨w.heap.size, 0, none⟩) 2 2) (w.alloc (.cells #[x0, x1, x2, y0, y1, y2] 70)) := by
  go_simp
theorem run_sl3 (x0 x1 x2 y0 y1 y2 z0 z1 z2 : Value) (w : World) : (Instr.buildSlice 53 3 #[(0, .agg #[x0, x1, x2]), (1, .agg #[y0, y1, y2]), (2, .agg #[z0, z1, z2])]).run Tryd.prog w = .ok (.slice (some ⟨w.heap.size, 0, none⟩) 3 3) (w.alloc (.cells #[x0, x1, x2, y0, y1, y2, z0, z1, z2] 70)) := by
  go_simp
/-- What a slot may hold: a predicate that goes on with its blocks. -/
structure Sh where
  rel : (Nat → Prop) → World → Value → Prop
  goes : ∀ {P P' : Nat → Prop} {w w' : World} {v : Value}, Stp P P' w w' → rel P w v → rel P' w' v
def Sh.ts (p : List UInt8 → Bool) : Sh := ⟨fun P w v => TstAt P w v p, fun hp h => TstAt.step h hp⟩
def Sh.fd (f : Fd) : Sh := ⟨fun P w v => FRes P f w v, fun hp h => FRes.step h hp⟩
def Sh.sl (l : List Fd) : Sh := ⟨fun P w v => (∃ ao n c, v = .slice ao n c) ∧ FRow P w v l, fun hp h => ⟨h.1, h.2.step hp⟩⟩
def Sh.ns (n : Nat) (s : Nst) : Sh := ⟨fun P w v => NRes P n s w v, fun hp h => NRes.step h hp⟩
def Sh.R (P : Nat → Prop) (w : World) (v : Value) (sh : Sh) : Prop := sh.rel P w v
theorem Sh.step {P P' : Nat → Prop} {w w' : World} {v : Value} (hp : Stp P P' w w') {sh : Sh} (h : sh.R P w v) : sh.R P' w' v := sh.goes hp h
def typeF : Fd := ⟨[116, 121, 112, 101], oneN typeL, false⟩
def fromF : Fd := ⟨[102, 114, 111, 109], addrOk, false⟩
def toF : Fd := ⟨[116, 111], addrOk, false⟩
def idF : Fd := ⟨[105, 100], wordN, true⟩
/-- The table: where each operation's value lies, and what it is. -/
def slL : List Nat := [22, 23, 24, 25, 26, 27, 28, 29, 30, 209, 31, 32, 33, 34, 35, 215, 36, 37, 38, 39, 40, 41, 42, 223, 43, 44, 45, 46, 47, 48, 49, 231, 50, 51, 52, 235, 53, 237, 54, 55, 56, 241, 57, 243, 58, 59, 60, 247, 61, 62, 63, 64, 252, 65, 66, 67, 68, 257, 69, 259, 70, 261, 71, 263, 72, 0]
def slT (i : Nat) : Nat := slL.getD i 0
def shT : Nat → Option Sh
  | 1 => some (.ts (oneN typeL))
  | 2 => some (.fd typeF)
  | 3 => some (.fd fromF)
  | 4 => some (.fd toF)
  | 5 => some (.sl [typeF, fromF, toF])
  | 6 => some (.ns 1 (bareS [112, 114, 101, 115, 101, 110, 99, 101] [typeF, fromF, toF]))
  | 7 => some (.ns 1 (sayS [115, 104, 111, 119] (oneN showL)))
  | 8 => some (.ns 2 (shapeN 1))
  | 10 => some (.ns 1 (iqS [103, 101, 116]))
  | 11 => some (.fd maybeVerF)
  | 12 => some (.sl [maybeVerF])
  | 13 => some (.ns 1 (bareS queryNm [maybeVerF]))
  | 14 => some (.ns 2 (shapeN 2))
  | 16 => some (.ns 1 (iqS [115, 101, 116]))
  | 17 => some (.fd maybeVerF)
  | 18 => some (.sl [maybeVerF])
  | 19 => some (.ns 1 (bareS queryNm [maybeVerF]))
  | 20 => some (.ns 1 (itemS setL))
  | 21 => some (.ns 2 ((bareS queryNm [maybeVerF]).around 1 1 (itemS setL)))
  | 22 => some (.ns 3 (shapeN 3))
  | 24 => some (.ns 1 (iqS [114, 101, 115, 117, 108, 116]))
  | 25 => some (.fd verF)
  | 26 => some (.sl [verF])
  | 27 => some (.ns 1 (bareS queryNm [verF]))
  | 28 => some (.ns 1 (itemS subL))
  | 29 => some (.ns 2 ((bareS queryNm [verF]).around 0 16 (itemS subL)))
  | 30 => some (.ns 3 (shapeN 4))
  | 32 => some (.ns 1 (iqS [101, 114, 114, 111, 114]))
  | 33 => some (.ns 1 (sayS [101, 114, 114, 111, 114] wordN))
  | 34 => some (.ns 2 (shapeN 5))
  | 36 => some (.ns 1 (shapeN 6))
  | 38 => some (.fd idF)
  | 39 => some (.sl [idF])
  | 40 => some (.ns 1 (shapeN 7))
  | 42 => some (.ns 1 (shapeN 8))
  | 44 => some (.fd hF)
  | 45 => some (.sl [hF])
  | 46 => some (.ns 1 (shapeN 9))
  | 48 => some (.fd hF)
  | 49 => some (.fd prevF)
  | 50 => some (.sl [hF, prevF])
  | 51 => some (.ns 1 (shapeN 10))
  | 53 => some (.fd hF)
  | 54 => some (.fd prevF)
  | 55 => some (.sl [hF, prevF])
  | 56 => some (.ns 1 (shapeN 11))
  | 58 => some (.ns 1 (shapeN 12))
  | 60 => some (.ns 1 (shapeN 13))
  | 62 => some (.ns 1 (shapeN 14))
  | _ => none
def inT : Nat → Option Nat
  | 9 => some 1
  | 15 => some 2
  | 23 => some 3
  | 31 => some 4
  | 35 => some 5
  | 37 => some 6
  | 41 => some 7
  | 43 => some 8
  | 47 => some 9
  | 52 => some 10
  | 57 => some 11
  | 59 => some 12
  | 61 => some 13
  | 63 => some 14
  | _ => none
theorem sl_inj {i j : Nat} (hi : i < 66) (hj : j < 66) (h : i ≠ j) : slT i ≠ slT j := by
  have H : ((List.range 66).all fun i => (List.range 66).all fun j => i == j || !(slL.getD i 0 == slL.getD j 0)) = true := by decide +kernel
  have h1 := List.all_eq_true.1 (List.all_eq_true.1 H i (List.mem_range.2 hi)) j (List.mem_range.2 hj)
  simp [h] at h1
  exact h1
theorem sl_low {i : Nat} (hi : i < 66) (h : i ≠ 65) : 22 ≤ slT i ∧ (shT i ≠ none → slT i < 73) ∧ (i ≠ 0 → slT i ≠ 22) := by
  have H : ((List.range 66).all fun i => i == 65 || (decide (22 ≤ slL.getD i 0) && (((shT i).isNone || decide (slL.getD i 0 < 73)) && (i == 0 || !(slL.getD i 0 == 22))))) = true := by decide +kernel
  have h1 := List.all_eq_true.1 H i (List.mem_range.2 hi)
  simp [h] at h1
  refine ⟨h1.1, fun e => ?_, fun e => ?_⟩
  · rcases h1.2.1 with k | k
    · exact (e k).elim
    · exact k
  · rcases h1.2.2 with k | k
    · exact (e k).elim
    · exact k
theorem put_self {a : Act} {s : Nat} {v : Value} (h : s < a.tmps.size) : (a.put (some s) v).tmps.getD s undef = v := by
  simp [Act.put, h]
theorem put_other {a : Act} {s t : Nat} {v : Value} (h : s ≠ t) : (a.put (some s) v).tmps.getD t undef = a.tmps.getD t undef := by
  simp [Act.put, Array.getD_eq_getD_getElem?, h]
theorem put_size {a : Act} {s : Nat} {v : Value} : (a.put (some s) v).tmps.size = a.tmps.size := by
  simp [Act.put]
def regionOf (k : Nat) : Code → Option Code
  | .region n ops d => if n == k then some (.region n ops d) else none
  | .seq a b => match regionOf k a with
    | some c => some c
    | none => regionOf k b
  | .block _ c => regionOf k c
  | .scope c => regionOf k c
  | .loop c => regionOf k c
  | .cond _ a b => match regionOf k a with
    | some c => some c
    | none => regionOf k b
  | _ => none
def opsOf : Option Code → Array Oper
  | some (.region _ ops _) => ops
  | _ => #[]
theorem ops6_size : (opsOf (Tryd.f19.body.bind (regionOf 6))).size = 66 := by kernel_rfl
end Go.Proofs.YtmmkfpeckfmjeaaDoor
