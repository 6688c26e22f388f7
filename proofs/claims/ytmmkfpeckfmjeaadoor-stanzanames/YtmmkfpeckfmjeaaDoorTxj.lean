/-
  The contract of Read over this program, at a kind whose stanza told tells.
-/
import Derived.Test.YtmmkfpeckfmjeaaDoorTxh
namespace Go.Proofs.YtmmkfpeckfmjeaaDoor
open Go Go.RowKit Go.Maps Go.Sort
theorem small_shapes (i : Nat) : smallS 3 (shapeN i) := by
  have h : ∀ s : Nst, (s = shapeN i) → smallS 3 s := by
    intro s hs
    subst hs
    unfold shapeN
    split <;> simp [smallS, Nst.around, iqS, bareS, itemS, sayS]
  exact h _ rfl
/-- Two blocks of Read: the element and the answer. -/
def MR (w : World) (E Z : Array Value) (W : World) : Prop := RowKit.Below w.heap.size w W ∧ At w.heap.size E 29 W ∧ At (w.heap.size + 1) Z 25 W
theorem MR.go {w : World} {E Z : Array Value} {W W' : World} (h : MR w E Z W) (hb : RowKit.Below W.heap.size W W') : MR w E Z W' :=
  ⟨h.1.trans (hb.mono h.1.size), h.2.1.below hb (lt_of_heap h.2.1), h.2.2.below hb (lt_of_heap h.2.2)⟩
theorem MR.start (w : World) (E Z : Array Value) : MR w E Z ((w.alloc (.cells E 29)).alloc (.cells Z 25)) := by
  have e1 : (w.alloc (.cells E 29)).heap.size = w.heap.size + 1 := by simp
  refine ⟨(bw0 w _).alloc (by rw [e1]; omega) _, At.alloc (heap_alloc_new w _) _, ?_⟩
  have : At _ Z 25 _ := heap_alloc_new (w.alloc (.cells E 29)) (.cells Z 25)
  rw [e1] at this
  exact this
theorem MR.e {w : World} {Z : Array Value} {W : World} {a b c d : Value} (h : MR w #[a, b, c, d] Z W) : W.cell? ⟨w.heap.size, 0, none⟩ = some a ∧ W.cell? ⟨w.heap.size, 1, none⟩ = some b ∧ W.cell? ⟨w.heap.size, 2, none⟩ = some c ∧ W.cell? ⟨w.heap.size, 3, none⟩ = some d :=
  ⟨by rw [Lib.cell_of_heap h.2.1]; rfl, by rw [Lib.cell_of_heap h.2.1]; rfl, by rw [Lib.cell_of_heap h.2.1]; rfl, by rw [Lib.cell_of_heap h.2.1]; rfl⟩
set_option maxHeartbeats 4000000 in
set_option maxRecDepth 100000 in
theorem read_ok {P : Nat → Prop} (x : El) (k : Nat) (a b c d : Value) (w : World) (h1 : ElE P w x a b c d) (hz : szE 3 x) (hV : Va w) (hk : kindN x = k) (hk0 : 1 ≤ k) (hk1 : k ≤ 14) (hf : fitsW 3 (shapeN k) x = true)
    (ty id fr to sh tk re : ByteArray) (h ver : Int) (rm : Bool) (ao : Option Addr) (n cp : Nat)
    (HT : ∀ W, Below w.heap.size w W → Calls Tryd.prog 22 #[.int .i64 (k : Int), .agg #[a, b, c, d]] W fun e w' => e = .returned (.agg (staC k ty id fr to sh tk re h ver rm ao n cp)) ∧ Below W.heap.size W w')
    (hts : ty = ⟨#[]⟩) :
    Calls Tryd.prog 8 #[.agg #[a, b, c, d]] w fun e w' => e = .returned (.tuple #[.agg (staC k ty id fr to sh tk re h ver rm ao n cp), .int .i64 0]) ∧ Below w.heap.size w w' := by
  have HS := shapes_any
  have HK : Hid (∀ W m, Below w.heap.size w W → MJ m W → Calls Tryd.prog 20 #[.agg #[a, b, c, d], .map (some m)] W fun e w' => e = .returned (.int .i64 (k : Int)) ∧ Below W.heap.size W w') := fun W m hb hm => by
    have := kindOf_any x m a b c d W (h1.below hb) hz.one (hV.below hb) hm
    rw [hk] at this
    exact this
  have HL : Hid (∀ W m, Below w.heap.size w W → MJ m W → ∃ s ao1 n1 c1 F cap, ∃ l1 l2 : Int, ∃ ao k' kc, (Instr.lookup 50 (.map (some m)) (.int .i64 (k : Int)) false).run Tryd.prog W = .ok (.agg #[.string s, .slice ao1 n1 c1, .func (.func F) #[] cap, .int .i64 l1, .int .i64 l2, .slice ao k' kc]) W ∧
      Calls Tryd.prog 21 #[.agg #[.string s, .slice ao1 n1 c1, .func (.func F) #[] cap, .int .i64 l1, .int .i64 l2, .slice ao k' kc], .agg #[a, b, c, d]] W fun e w' => e = .returned (.bool true) ∧ Below W.heap.size W w') := fun W m hb hm => by
    obtain ⟨v, r1, ao1, n1, c1, F, cap, ao, k', kc, rfl, hn⟩ := hm.look hk0 hk1
    have := fitsWhole_any 3 (shapeN k) x _ _ _ _ _ _ a b c d W hn (small_shapes k) (h1.below hb) hz (hV.below hb)
    rw [hf] at this
    exact ⟨_, ao1, n1, c1, F, cap, _, _, ao, k', kc, r1, this⟩
  have HT := Lib.hid HT
  obtain ⟨q1, o1, m1, p1, q2, o2, m2, p2, rfl, rfl, rfl, rfl⟩ := h1.shape4
  have hk00 : ((k : Int) == 0) = false := beq_eq_false_iff_ne.2 (by omega)
  have hkn : ¬ (k : Int) = 0 := by omega
  subst hts
  have HM0 := Lib.hid (MR.start w #[.string q1, .slice o1 m1 p1, .string q2, .slice o2 m2 p2] Z25)
  clear h1 hz hV hk hf
  unfold staC at HT ⊢
  unfold Z25 at HM0
  go_enter Tryd.func8, Tryd.ntmps8
  go_wp2_with fail
  generalize ((w.alloc (.cells #[.string q1, .slice o1 m1 p1, .string q2, .slice o2 m2 p2] 29)).alloc (.cells #[.int .i64 0, .string ⟨#[]⟩, .string ⟨#[]⟩, .string ⟨#[]⟩, .string ⟨#[]⟩, .string ⟨#[]⟩, .string ⟨#[]⟩, .string ⟨#[]⟩, .int .u32 0, .int .i64 0, .bool false, .slice none 0 0] 25)) = W0 at HM0 ⊢
  go_at_call 19
  refine (HS W0).mono ?_
  rintro e w1 ⟨⟨m, rfl, hm1, _⟩, hb1⟩
  have HM1 := Lib.hid (HM0.out.go hb1)
  obtain ⟨a0, a1, a2, a3⟩ := HM1.out.e
  have HJ1 := Lib.hid hm1
  clear hb1 hm1 HM0 HS
  go_wp2_with fail
  go_at_call 20
  refine (HK.out _ m HM1.out.1 HJ1.out).mono ?_
  rintro e w2 ⟨rfl, hb2⟩
  have HM2 := Lib.hid (HM1.out.go hb2)
  obtain ⟨b0, b1, b2, b3⟩ := HM2.out.e
  have HJ2 := Lib.hid (HJ1.out.below hb2)
  obtain ⟨s, xo1, xn1, xc1, F, cap, l1, l2, xo, k', kc, hL, hC⟩ := HL.out _ m HM2.out.1 HJ2.out
  have HC := Lib.hid hC
  clear hb2 HM1 HJ1 a0 a1 a2 a3 hC HL HK
  go_wp2_with fail
  go_at_call 21
  refine HC.out.mono ?_
  rintro e w3 ⟨rfl, hb3⟩
  have HM3 := Lib.hid (HM2.out.go hb3)
  obtain ⟨c0, c1, c2, c3⟩ := HM3.out.e
  clear hb3 HM2 HJ2 b0 b1 b2 b3 HC hL
  go_wp2_with fail
  go_at_call 22
  refine (HT.out _ HM3.out.1).mono ?_
  rintro e w4 ⟨rfl, hb4⟩
  have HM4 := Lib.hid (HM3.out.go hb4)
  clear hb4 HM3 c0 c1 c2 c3 HT
  have HM5 := Lib.hid (HM4.out.go (bw0 w4 (.cells #[.int .i64 (k : Int), .string ⟨#[]⟩, .string id, .string fr, .string to, .string sh, .string tk, .string re, .int .u32 h, .int .i64 ver, .bool rm, .slice ao n cp] 25)))
  have HS5 : Hid (At w4.heap.size #[.int .i64 (k : Int), .string ⟨#[]⟩, .string id, .string fr, .string to, .string sh, .string tk, .string re, .int .u32 h, .int .i64 ver, .bool rm, .slice ao n cp] 25 (w4.alloc (.cells #[.int .i64 (k : Int), .string ⟨#[]⟩, .string id, .string fr, .string to, .string sh, .string tk, .string re, .int .u32 h, .int .i64 ver, .bool rm, .slice ao n cp] 25))) := heap_alloc_new w4 _
  obtain ⟨f0, f1, f2, f3, f4, f5, f6, f7, f8, f9, f10, f11, _⟩ := z12 HS5.out
  obtain ⟨z0, z1, z2, z3, z4, z5, z6, z7, z8, z9, z10, z11, zf⟩ := z12 HM5.out.2.2
  obtain ⟨w5, hw5, hA5, hb5, _⟩ := store12 (.int .i64 (k : Int)) (.string ⟨#[]⟩) (.string id) (.string fr) (.string to) (.string sh) (.string tk) (.string re) (.int .u32 h) (.int .i64 ver) (.bool rm) (.slice ao n cp) HM5.out.2.2
  obtain ⟨d0, d1, d2, d3, d4, d5, d6, d7, d8, d9, d10, d11, _⟩ := z12 hA5
  have HB5 := Lib.hid (hb5 _ w (show w.heap.size ≤ w.heap.size + 1 by omega) HM5.out.1)
  clear hA5 hb5 HM4 HM5 HS5
  go_wp2_with fail
  refine bodyPost_ret (v := .tuple #[.agg #[.int .i64 (k : Int), .string ⟨#[]⟩, .string id, .string fr, .string to, .string sh, .string tk, .string re, .int .u32 h, .int .i64 ver, .bool rm, .slice ao n cp], .int .i64 0]) (by simp [results, Tryd.results8, go_sem, d0, d1, d2, d3, d4, d5, d6, d7, d8, d9, d10, d11]) rfl ⟨rfl, HB5.out⟩
end Go.Proofs.YtmmkfpeckfmjeaaDoor
