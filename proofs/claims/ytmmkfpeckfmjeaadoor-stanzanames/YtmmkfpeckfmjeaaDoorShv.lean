/-
  Over this program: what the variables of shapes hold while the map is filled.
-/
import Derived.Test.YtmmkfpeckfmjeaaDoorShm
namespace Go.Proofs.YtmmkfpeckfmjeaaDoor
open Go Go.RowKit
def Tr (_ : Nat) : Prop := True
theorem tr_all {P : Nat → Prop} {w : World} : Stp P Tr w w := Stp.imp fun _ _ => trivial
/-- oneOf of a row of texts that has just been laid. -/
theorem oneOf_tr (w : World) (l : List (List UInt8)) (hbig : l.length ≤ 2000000) (k : Nat) (hk : l.length = k) (cs : Array Value) (hcs : cs.toList = strCells l) :
    Calls Tryd.prog 37 #[.slice (some ⟨w.heap.size, 0, none⟩) k k] (w.alloc (.cells cs 9)) fun e w' => e = .returned (.func (.func 59) #[] #[.pointer (some ⟨w.heap.size + 1, 0, none⟩)]) ∧ TstAt Tr w' (.func (.func 59) #[] #[.pointer (some ⟨w.heap.size + 1, 0, none⟩)]) (oneN l) ∧ Below w.heap.size w w' := by
  subst hk
  have e1 : (w.alloc (.cells cs 9)).heap.size = w.heap.size + 1 := by simp
  have h := oneOf_any (P := Tr) (some ⟨w.heap.size, 0, none⟩) l.length l (w.alloc (.cells cs 9)) (by rw [← hcs]; exact row_block w trivial 9 cs l.length) hbig
  rw [e1] at h
  exact h.mono fun e w' ⟨h1, h2, h3⟩ => ⟨h1, tst_one (h2.step tr_all), (bw0 w _).trans (h3.mono (by omega))⟩
theorem item_tr (w : World) (l : List (List UInt8)) (hbig : l.length ≤ 2000000) (k : Nat) (hk : l.length = k) (cs : Array Value) (hcs : cs.toList = strCells l) :
    Calls Tryd.prog 39 #[.slice (some ⟨w.heap.size, 0, none⟩) k k] (w.alloc (.cells cs 9)) fun e w' => NOut Tr 1 (itemS l) e w' ∧ Below w.heap.size w w' := by
  subst hk
  have e1 : (w.alloc (.cells cs 9)).heap.size = w.heap.size + 1 := by simp
  have h := item_any (P := Tr) l (some ⟨w.heap.size, 0, none⟩) l.length l.length (w.alloc (.cells cs 9)) rfl (by rw [← hcs]; exact row_block w trivial 9 cs l.length) hbig
  rw [e1] at h
  exact h.mono fun e w' ⟨⟨v, h1, h2⟩, h3⟩ => ⟨⟨v, h1, h2.step tr_all⟩, (bw0 w _).trans (h3.mono (by omega))⟩
theorem at_second (w : World) (o : Obj) (cs : Array Value) (T : TypeId) : At (w.heap.size + 1) cs T ((w.alloc o).alloc (.cells cs T)) := by
  have h := heap_alloc_new (w.alloc o) (.cells cs T)
  rw [show (w.alloc o).heap.size = w.heap.size + 1 by simp] at h
  exact h
/-- A field that lies in a variable's block. -/
def F70 (P : Nat → Prop) (b : Nat) (f : Fd) (w : World) : Prop := P b ∧ ∃ F c, At b #[.string ⟨f.nm.toArray⟩, .func (.func F) #[] c, .bool f.must] 70 w ∧ TstAt P w (.func (.func F) #[] c) f.p
theorem F70.step {P P' : Nat → Prop} {b : Nat} {f : Fd} {w w' : World} (h : F70 P b f w) (hp : Stp P P' w w') : F70 P' b f w' := by
  obtain ⟨h0, F, c, h1, h2⟩ := h
  obtain ⟨q1, q2⟩ := hp b h0 (lt_of_heap h1)
  exact ⟨q1, F, c, q2.trans h1, h2.step hp⟩
/-- A shape of one level that lies in a variable's block. -/
def N59 (P : Nat → Prop) (b : Nat) (s : Nst) (w : World) : Prop := P b ∧ ∃ ao1 n1 c1 F cap ao k kc, At b #[.string ⟨s.nm.toArray⟩, .slice ao1 n1 c1, .func (.func F) #[] cap, .int .i64 s.least, .int .i64 s.most, .slice ao k kc] 59 w ∧
  NstAt P w 1 s (.string ⟨s.nm.toArray⟩) (.slice ao1 n1 c1) (.func (.func F) #[] cap) (.int .i64 s.least) (.int .i64 s.most) (.slice ao k kc)
theorem N59.step {P P' : Nat → Prop} {b : Nat} {s : Nst} {w w' : World} (h : N59 P b s w) (hp : Stp P P' w w') : N59 P' b s w' := by
  obtain ⟨h0, ao1, n1, c1, F, cap, ao, k, kc, h1, h2⟩ := h
  obtain ⟨q1, q2⟩ := hp b h0 (lt_of_heap h1)
  exact ⟨q1, ao1, n1, c1, F, cap, ao, k, kc, q2.trans h1, h2.step hp⟩
theorem F70.made {P : Nat → Prop} {f : Fd} {w w' : World} {F : Nat} {c : Array Value} (h : TstAt P w (.func (.func F) #[] c) f.p) (hP : P w.heap.size) {b : Nat} (hA : At w.heap.size #[.string ⟨f.nm.toArray⟩, .func (.func F) #[] c, .bool f.must] 70 w') (hb : Below w.heap.size w w') (e : w.heap.size = b) : F70 P b f w' := by
  subst e
  exact ⟨hP, F, c, hA, h.step (.below hb)⟩
/-- What the variables of shapes hold while the map, block m, is filled. -/
def VB (m b1 b3 b6 b7 b8 : Nat) (v5 : Value) (w : World) : Prop :=
  F70 (fun k => k ≠ m) b1 maybeVerF w ∧ F70 (fun k => k ≠ m) (b1 + 1) verF w ∧ F70 (fun k => k ≠ m) b3 hF w ∧ F70 (fun k => k ≠ m) (b3 + 1) prevF w ∧ TstAt (fun k => k ≠ m) w v5 (oneN typeL) ∧
    N59 (fun k => k ≠ m) b6 (sayS [115, 104, 111, 119] (oneN showL)) w ∧ N59 (fun k => k ≠ m) b7 (itemS setL) w ∧ N59 (fun k => k ≠ m) b8 (itemS subL) w
theorem VB.step {m b1 b3 b6 b7 b8 : Nat} {v5 : Value} {w w' : World} (h : VB m b1 b3 b6 b7 b8 v5 w) (hp : Stp (fun k => k ≠ m) (fun k => k ≠ m) w w') : VB m b1 b3 b6 b7 b8 v5 w' :=
  ⟨h.1.step hp, h.2.1.step hp, h.2.2.1.step hp, h.2.2.2.1.step hp, h.2.2.2.2.1.step hp, h.2.2.2.2.2.1.step hp, h.2.2.2.2.2.2.1.step hp, h.2.2.2.2.2.2.2.step hp⟩
end Go.Proofs.YtmmkfpeckfmjeaaDoor
