/-
  The contract of kidText, and what a stanza is in memory.
-/
import Derived.Test.YtmmkfpeckfmjeaaDoorTxf
namespace Go.Proofs.YtmmkfpeckfmjeaaDoor
open Go Go.RowKit Go.Maps Go.Sort
/-- The text of the first kid. -/
def kidT (x : El) : List UInt8 := match x.kids with
  | [] => []
  | k :: _ => k.text
set_option maxHeartbeats 1000000 in
set_option maxRecDepth 100000 in
theorem kidText_any {P : Nat → Prop} (x : El) (a b c d : Value) (w : World) (h1 : ElE P w x a b c d) :
    Calls Tryd.prog 47 #[.agg #[a, b, c, d]] w fun e w' => e = .returned (.string ⟨(kidT x).toArray⟩) ∧ Below w.heap.size w w' := by
  obtain ⟨ao1, cap1, ao2, cap2, rfl, rfl⟩ := h1.shape
  obtain ⟨rfl, _, rfl, es, hER, hEK⟩ := h1.parts
  obtain ⟨s1, hs1⟩ : ∃ s1, (⟨x.nm.toArray⟩ : ByteArray) = s1 := ⟨_, rfl⟩
  obtain ⟨s2, hs2⟩ : ∃ s2, (⟨x.text.toArray⟩ : ByteArray) = s2 := ⟨_, rfl⟩
  obtain ⟨n1, hn1⟩ : ∃ n1, x.attrs.length = n1 := ⟨_, rfl⟩
  unfold kidT
  cases hk : x.kids with
  | nil =>
    simp only [hs1, hs2, hn1, List.length_nil]
    clear h1 hs1 hs2 hn1 hER hEK hk
    go_enter Tryd.func47, Tryd.ntmps47
    go_wp2_with fail
    go_ret
    exact ⟨rfl, bw0 w _⟩
  | cons k r =>
    rw [hk] at hER hEK
    obtain ⟨q0, q1, q2, q3, ys, rfl, hE, _⟩ := hEK
    obtain ⟨q, o1, m1, p1, q', o2, m2, p2, rfl, rfl, e3, rfl⟩ := hE.shape4
    obtain ⟨_, _, rfl, _⟩ := hE.parts
    obtain ⟨g, off, rfl, hg, hcs⟩ := row_flat hER
    have k2 := hcs 2 _ rfl
    obtain ⟨s3, hs3⟩ : ∃ s2, (⟨k.text.toArray⟩ : ByteArray) = s2 := ⟨_, rfl⟩
    obtain ⟨n2, hn2⟩ : ∃ n2, (k :: r).length = n2 := ⟨_, rfl⟩
    simp only [hs1, hs2, hn1, hn2, hs3] at k2 ⊢
    have hz : ¬ (n2 : Int) = 0 := by rw [← hn2]; simp; omega
    have hz2 : ((n2 : Int) == 0) = false := beq_eq_false_iff_ne.2 hz
    have hz1 : (0 : Int) < (n2 : Int) := by omega
    have K2 := fun o => cell_old (w := w) o k2
    clear h1 hs1 hs2 hn1 hER hk hs3 hn2 hcs hE e3
    go_enter Tryd.func47, Tryd.ntmps47
    go_wp2_with fail
    go_ret
    exact ⟨rfl, bw0 w _⟩
/-- A stanza's cells. -/
def staC (k : Int) (ty id fr to sh tk re : ByteArray) (h ver : Int) (rm : Bool) (ao : Option Addr) (n c : Nat) : Array Value := #[.int .i64 k, .string ty, .string id, .string fr, .string to, .string sh, .string tk, .string re, .int .u32 h, .int .i64 ver, .bool rm, .slice ao n c]
theorem z12 {r : Nat} {x0 x1 x2 x3 x4 x5 x6 x7 x8 x9 x10 x11 : Value} {T : TypeId} {w : World} (h : At r #[x0, x1, x2, x3, x4, x5, x6, x7, x8, x9, x10, x11] T w) : w.cell? ⟨r, 0, none⟩ = some x0 ∧ w.cell? ⟨r, 1, none⟩ = some x1 ∧ w.cell? ⟨r, 2, none⟩ = some x2 ∧ w.cell? ⟨r, 3, none⟩ = some x3 ∧ w.cell? ⟨r, 4, none⟩ = some x4 ∧ w.cell? ⟨r, 5, none⟩ = some x5 ∧ w.cell? ⟨r, 6, none⟩ = some x6 ∧ w.cell? ⟨r, 7, none⟩ = some x7 ∧ w.cell? ⟨r, 8, none⟩ = some x8 ∧ w.cell? ⟨r, 9, none⟩ = some x9 ∧ w.cell? ⟨r, 10, none⟩ = some x10 ∧ w.cell? ⟨r, 11, none⟩ = some x11 ∧ ∀ o, w.frozen? ⟨r, o, none⟩ = false :=
  ⟨by rw [Lib.cell_of_heap h]; rfl, by rw [Lib.cell_of_heap h]; rfl, by rw [Lib.cell_of_heap h]; rfl, by rw [Lib.cell_of_heap h]; rfl, by rw [Lib.cell_of_heap h]; rfl, by rw [Lib.cell_of_heap h]; rfl, by rw [Lib.cell_of_heap h]; rfl, by rw [Lib.cell_of_heap h]; rfl, by rw [Lib.cell_of_heap h]; rfl, by rw [Lib.cell_of_heap h]; rfl, by rw [Lib.cell_of_heap h]; rfl, by rw [Lib.cell_of_heap h]; rfl, Lib.frozen_of_heap h⟩
/-- Twelve cells stored into a block. -/
theorem store12 {r : Nat} {w2 : World} {x0 x1 x2 x3 x4 x5 x6 x7 x8 x9 x10 x11 : Value} {T : TypeId} (y0 y1 y2 y3 y4 y5 y6 y7 y8 y9 y10 y11 : Value) (hA : At r #[x0, x1, x2, x3, x4, x5, x6, x7, x8, x9, x10, x11] T w2) :
    ∃ w3, ((((((((((((w2.setCell ⟨r, 0, none⟩ y0).setCell ⟨r, 1, none⟩ y1).setCell ⟨r, 2, none⟩ y2).setCell ⟨r, 3, none⟩ y3).setCell ⟨r, 4, none⟩ y4).setCell ⟨r, 5, none⟩ y5).setCell ⟨r, 6, none⟩ y6).setCell ⟨r, 7, none⟩ y7).setCell ⟨r, 8, none⟩ y8).setCell ⟨r, 9, none⟩ y9).setCell ⟨r, 10, none⟩ y10).setCell ⟨r, 11, none⟩ y11) = w3 ∧ At r #[y0, y1, y2, y3, y4, y5, y6, y7, y8, y9, y10, y11] T w3 ∧ (∀ n w, n ≤ r → RowKit.Below n w w2 → RowKit.Below n w w3) ∧ ∀ k, k ≠ r → w3.heap[k]? = w2.heap[k]? := by
  have h0 : At r #[y0, x1, x2, x3, x4, x5, x6, x7, x8, x9, x10, x11] T _ := At.set hA 0 y0
  have h1 : At r #[y0, y1, x2, x3, x4, x5, x6, x7, x8, x9, x10, x11] T _ := At.set h0 1 y1
  have h2 : At r #[y0, y1, y2, x3, x4, x5, x6, x7, x8, x9, x10, x11] T _ := At.set h1 2 y2
  have h3 : At r #[y0, y1, y2, y3, x4, x5, x6, x7, x8, x9, x10, x11] T _ := At.set h2 3 y3
  have h4 : At r #[y0, y1, y2, y3, y4, x5, x6, x7, x8, x9, x10, x11] T _ := At.set h3 4 y4
  have h5 : At r #[y0, y1, y2, y3, y4, y5, x6, x7, x8, x9, x10, x11] T _ := At.set h4 5 y5
  have h6 : At r #[y0, y1, y2, y3, y4, y5, y6, x7, x8, x9, x10, x11] T _ := At.set h5 6 y6
  have h7 : At r #[y0, y1, y2, y3, y4, y5, y6, y7, x8, x9, x10, x11] T _ := At.set h6 7 y7
  have h8 : At r #[y0, y1, y2, y3, y4, y5, y6, y7, y8, x9, x10, x11] T _ := At.set h7 8 y8
  have h9 : At r #[y0, y1, y2, y3, y4, y5, y6, y7, y8, y9, x10, x11] T _ := At.set h8 9 y9
  have h10 : At r #[y0, y1, y2, y3, y4, y5, y6, y7, y8, y9, y10, x11] T _ := At.set h9 10 y10
  have h11 : At r #[y0, y1, y2, y3, y4, y5, y6, y7, y8, y9, y10, y11] T _ := At.set h10 11 y11
  refine ⟨_, rfl, h11, fun n w hn hb => ((((((((((((hb.setCell hn _).setCell hn _).setCell hn _).setCell hn _).setCell hn _).setCell hn _).setCell hn _).setCell hn _).setCell hn _).setCell hn _).setCell hn _).setCell hn _), fun k hne => ?_⟩
  rw [Below.heap_setCell _ _ _ k hne, Below.heap_setCell _ _ _ k hne, Below.heap_setCell _ _ _ k hne, Below.heap_setCell _ _ _ k hne, Below.heap_setCell _ _ _ k hne, Below.heap_setCell _ _ _ k hne, Below.heap_setCell _ _ _ k hne, Below.heap_setCell _ _ _ k hne, Below.heap_setCell _ _ _ k hne, Below.heap_setCell _ _ _ k hne, Below.heap_setCell _ _ _ k hne, Below.heap_setCell _ _ _ k hne]
end Go.Proofs.YtmmkfpeckfmjeaaDoor
