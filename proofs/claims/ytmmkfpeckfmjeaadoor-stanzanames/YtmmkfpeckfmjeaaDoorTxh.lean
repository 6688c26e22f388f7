/-
  The contract of told over this program, at the kinds of numbers.
-/
import Derived.Test.YtmmkfpeckfmjeaaDoorTxg
namespace Go.Proofs.YtmmkfpeckfmjeaaDoor
open Go Go.RowKit Go.Maps Go.Sort
def Z25 : Array Value := #[.int .i64 0, .string ⟨#[]⟩, .string ⟨#[]⟩, .string ⟨#[]⟩, .string ⟨#[]⟩, .string ⟨#[]⟩, .string ⟨#[]⟩, .string ⟨#[]⟩, .int .u32 0, .int .i64 0, .bool false, .slice none 0 0]
/-- Three blocks of told: the element, the answer, the stanza. -/
def MT (w : World) (E Z S : Array Value) (W : World) : Prop := RowKit.Below w.heap.size w W ∧ At w.heap.size E 29 W ∧ At (w.heap.size + 1) Z 25 W ∧ At (w.heap.size + 2) S 25 W
theorem MT.go {w : World} {E Z S : Array Value} {W W' : World} (h : MT w E Z S W) (hb : RowKit.Below W.heap.size W W') : MT w E Z S W' :=
  ⟨h.1.trans (hb.mono h.1.size), h.2.1.below hb (lt_of_heap h.2.1), h.2.2.1.below hb (lt_of_heap h.2.2.1), h.2.2.2.below hb (lt_of_heap h.2.2.2)⟩
theorem MT.drew {w : World} {E Z S : Array Value} {W : World} (h : MT w E Z S W) : MT w E Z S W.drew := ⟨h.1.drew, h.2.1, h.2.2.1, h.2.2.2⟩
theorem MT.start (w : World) (E Z S : Array Value) : MT w E Z S (((w.alloc (.cells E 29)).alloc (.cells Z 25)).alloc (.cells S 25)) := by
  have e1 : (w.alloc (.cells E 29)).heap.size = w.heap.size + 1 := by simp
  have e2 : ((w.alloc (.cells E 29)).alloc (.cells Z 25)).heap.size = w.heap.size + 2 := by simp
  refine ⟨((bw0 w _).alloc (by rw [e1]; omega) _).alloc (by rw [e2]; omega) _, ((At.alloc (heap_alloc_new w _) _)).alloc _, ?_, ?_⟩
  · have := At.alloc (T := 25) (heap_alloc_new (w.alloc (.cells E 29)) (.cells Z 25)) (.cells S 25)
    rw [e1] at this
    exact this
  · have : At _ S 25 _ := heap_alloc_new ((w.alloc (.cells E 29)).alloc (.cells Z 25)) (.cells S 25)
    rw [e2] at this
    exact this
theorem MT.set {w : World} {E Z S : Array Value} {W : World} (h : MT w E Z S W) (i : Nat) (v : Value) : MT w E Z (S.setIfInBounds i v) (W.setCell ⟨w.heap.size + 2, i, none⟩ v) :=
  ⟨h.1.setCell (show w.heap.size ≤ w.heap.size + 2 by omega) _, h.2.1.other _ _ _ (by omega), h.2.2.1.other _ _ _ (by omega), h.2.2.2.set _ _⟩
theorem MT.e {w : World} {S Z : Array Value} {W : World} {a b c d : Value} (h : MT w #[a, b, c, d] Z S W) : W.cell? ⟨w.heap.size, 0, none⟩ = some a ∧ W.cell? ⟨w.heap.size, 1, none⟩ = some b ∧ W.cell? ⟨w.heap.size, 2, none⟩ = some c ∧ W.cell? ⟨w.heap.size, 3, none⟩ = some d :=
  ⟨by rw [Lib.cell_of_heap h.2.1]; rfl, by rw [Lib.cell_of_heap h.2.1]; rfl, by rw [Lib.cell_of_heap h.2.1]; rfl, by rw [Lib.cell_of_heap h.2.1]; rfl⟩
theorem MT.s {w : World} {E Z S : Array Value} {W : World} (h : MT w E Z S W) (i : Nat) (v : Value) (hv : S[i]? = some v) : W.cell? ⟨w.heap.size + 2, i, none⟩ = some v := by rw [Lib.cell_of_heap h.2.2.2]; exact hv
theorem MT.f {w : World} {E Z S : Array Value} {W : World} (h : MT w E Z S W) (i : Nat) : W.frozen? ⟨w.heap.size + 2, i, none⟩ = false := Lib.frozen_of_heap h.2.2.2 i
set_option maxHeartbeats 4000000 in
set_option maxRecDepth 100000 in
theorem told9_any {P : Nat → Prop} (x : El) (a b c d : Value) (w : World) (h1 : ElE P w x a b c d) (hz : szE 1 x) (hV : Va w) :
    Calls Tryd.prog 22 #[.int .i64 9, .agg #[a, b, c, d]] w fun e w' => e = .returned (.agg (staC 9 ⟨#[]⟩ ⟨#[]⟩ ⟨#[]⟩ ⟨#[]⟩ ⟨#[]⟩ ⟨(valN x.attrs [112, 114, 101, 118, 105, 100]).toArray⟩ ⟨#[]⟩ (numV x.attrs [104] : Int) 0 false none 0 0)) ∧ Below w.heap.size w w' := by
  have HA := fun W (hb : Below w.heap.size w W) => value_any x [112, 114, 101, 118, 105, 100] a b c d W (h1.below hb) hz.1
  have HN := fun W (hb : Below w.heap.size w W) => number_any x [104] a b c d W (h1.below hb) hz (hV.below hb)
  obtain ⟨ao1, cap1, ao2, cap2, rfl, rfl⟩ := h1.shape
  obtain ⟨rfl, _, rfl, _⟩ := h1.parts
  obtain ⟨s1, hs1⟩ : ∃ s1, (⟨x.nm.toArray⟩ : ByteArray) = s1 := ⟨_, rfl⟩
  obtain ⟨s2, hs2⟩ : ∃ s2, (⟨x.text.toArray⟩ : ByteArray) = s2 := ⟨_, rfl⟩
  obtain ⟨n1, hn1⟩ : ∃ n1, x.attrs.length = n1 := ⟨_, rfl⟩
  obtain ⟨n2, hn2⟩ : ∃ n2, x.kids.length = n2 := ⟨_, rfl⟩
  obtain ⟨V, hVV⟩ : ∃ V, (⟨(valN x.attrs [112, 114, 101, 118, 105, 100]).toArray⟩ : ByteArray) = V := ⟨_, rfl⟩
  obtain ⟨N, hNN⟩ : ∃ N, numV x.attrs [104] = N := ⟨_, rfl⟩
  simp only [hs1, hs2, hn1, hn2, hVV, hNN] at HA HN ⊢
  have HA := Lib.hid HA
  have HN := Lib.hid HN
  clear h1 hs1 hs2 hn1 hn2 hz hV hVV hNN
  go_enter Tryd.func22, Tryd.ntmps22
  go_wp2_with fail
  have HM0 := Lib.hid (MT.start w #[.string s1, .slice ao1 n1 cap1, .string s2, .slice ao2 n2 cap2] Z25 (staC 9 ⟨#[]⟩ ⟨#[]⟩ ⟨#[]⟩ ⟨#[]⟩ ⟨#[]⟩ ⟨#[]⟩ ⟨#[]⟩ 0 0 false none 0 0))
  unfold Z25 staC at HM0
  have eB : w.heap.size + 1 + 1 = w.heap.size + 2 := rfl
  simp only [eB]
  generalize ((w.alloc (.cells #[.string s1, .slice ao1 n1 cap1, .string s2, .slice ao2 n2 cap2] 29)).alloc (.cells #[.int .i64 0, .string ⟨#[]⟩, .string ⟨#[]⟩, .string ⟨#[]⟩, .string ⟨#[]⟩, .string ⟨#[]⟩, .string ⟨#[]⟩, .string ⟨#[]⟩, .int .u32 0, .int .i64 0, .bool false, .slice none 0 0] 25)).alloc (.cells #[.int .i64 9, .string ⟨#[]⟩, .string ⟨#[]⟩, .string ⟨#[]⟩, .string ⟨#[]⟩, .string ⟨#[]⟩, .string ⟨#[]⟩, .string ⟨#[]⟩, .int .u32 0, .int .i64 0, .bool false, .slice none 0 0] 25) = W0 at HM0 ⊢
  obtain ⟨m0, m1, m2, m3⟩ := HM0.out.e
  have m6 := HM0.out.s 6 _ rfl
  have m8 := HM0.out.s 8 _ rfl
  have mz := HM0.out.f
  go_region_with (first
    | (go_at_call 48; refine (HN.out _ ?_).mono ?_; (first | exact HMn.out.1 | exact HMa.out.1 | exact HM0.out.drew.1 | exact HM0.out.1); rintro e w8 ⟨rfl, hb8⟩; have HMn := Lib.hid (MT.go (by first | exact HMn.out | exact HMa.out | exact HM0.out.drew | exact HM0.out) hb8); clear hb8; have nf0 := (HMn.out).e; obtain ⟨n0, n1, n2, n3⟩ := nf0; have n6 := HMn.out.s 6 _ rfl; have n8 := HMn.out.s 8 _ rfl; have nz := HMn.out.f)
    | (go_at_call 46; refine (HA.out _ ?_).mono ?_; (first | exact HMn.out.1 | exact HMa.out.1 | exact HM0.out.drew.1 | exact HM0.out.1); rintro e w6 ⟨rfl, hb6⟩; have HMa := Lib.hid (MT.go (by first | exact HMn.out | exact HMa.out | exact HM0.out.drew | exact HM0.out) hb6); clear hb6; have uf0 := (HMa.out).e; obtain ⟨u0, u1, u2, u3⟩ := uf0; have u6 := HMa.out.s 6 _ rfl; have u8 := HMa.out.s 8 _ rfl; have uz := HMa.out.f))
  all_goals (
    have HF : Hid (MT w _ Z25 (staC 9 ⟨#[]⟩ ⟨#[]⟩ ⟨#[]⟩ ⟨#[]⟩ ⟨#[]⟩ V ⟨#[]⟩ (N : Int) 0 false none 0 0) ((w6.setCell ⟨w.heap.size + 2, 8, none⟩ (.int .u32 (N : Int))).setCell ⟨w.heap.size + 2, 6, none⟩ (.string V))) := (HMa.out.set 8 _).set 6 _
    generalize (w6.setCell ⟨w.heap.size + 2, 8, none⟩ (.int .u32 (N : Int))).setCell ⟨w.heap.size + 2, 6, none⟩ (.string V) = W9 at HF ⊢
    unfold staC at HF
    unfold Z25 at HF
    clear HMn HMa HM0 HA HN
    obtain ⟨z0, z1, z2, z3, z4, z5, z6, z7, z8, z9, z10, z11, zf⟩ := z12 HF.out.2.2.1
    obtain ⟨f0, f1, f2, f3, f4, f5, f6, f7, f8, f9, f10, f11, ff⟩ := z12 HF.out.2.2.2
    obtain ⟨w3, hw3, hA3, hb3, hs3⟩ := store12 (.int .i64 9) (.string ⟨#[]⟩) (.string ⟨#[]⟩) (.string ⟨#[]⟩) (.string ⟨#[]⟩) (.string ⟨#[]⟩) (.string V) (.string ⟨#[]⟩) (.int .u32 (N : Int)) (.int .i64 0) (.bool false) (.slice none 0 0) HF.out.2.2.1
    obtain ⟨d0, d1, d2, d3, d4, d5, d6, d7, d8, d9, d10, d11, _⟩ := z12 hA3
    have HB3 := Lib.hid (hb3 _ w (show w.heap.size ≤ w.heap.size + 1 by omega) HF.out.1)
    clear hA3 hb3 hs3
    go_wp2_with fail
    refine bodyPost_ret (v := .agg (staC 9 ⟨#[]⟩ ⟨#[]⟩ ⟨#[]⟩ ⟨#[]⟩ ⟨#[]⟩ V ⟨#[]⟩ (N : Int) 0 false none 0 0)) (by simp [results, Tryd.results22, go_sem, staC, d0, d1, d2, d3, d4, d5, d6, d7, d8, d9, d10, d11]) rfl ⟨rfl, HB3.out⟩)
end Go.Proofs.YtmmkfpeckfmjeaaDoor
