/-
  The contract of tidewaterref03.said over this program: the last kid of a copied row is put anew.
-/
import Derived.Test.YthekdgnikkjpdaaDoorRfb
import Derived.Deep.AppendLies
import Derived.Deep.RegionLaw
namespace Go.Proofs.YthekdgnikkjpdaaDoor
open Go Go.RowKit
theorem kids_init {R : El → Value → Value → Value → Value → Prop} : ∀ {l : List El} {xs : List Value} {M : Nat}, KidsAt R l xs → l.length = M + 1 → KidsAt R l.dropLast (xs.take (M * 4))
  | [], _, _, _, h => by simp at h
  | [e], _, M, k, h => by
    simp at h
    subst h
    rfl
  | e :: x :: r, _, 0, _, h => by simp at h
  | e :: x :: r, _, M + 1, ⟨a, b, c, d, ys, e0, k1, k2⟩, h => by
    subst e0
    have := kids_init (M := M) k2 (by simpa using h)
    rw [show (M + 1) * 4 = M * 4 + 4 by omega]
    exact ⟨a, b, c, d, ys.take (M * 4), rfl, k1, this⟩
theorem ne_off {g i j : Nat} (h : i ≠ j) : (⟨g, i, none⟩ : Addr) ≠ ⟨g, j, none⟩ := fun e => h (congrArg Addr.off e)
theorem some_set {w : World} {p q : Addr} {v : Value} (h : (w.cell? q).isSome = true) : ((w.setCell p v).cell? q).isSome = true := by
  by_cases e : p = q
  · subst e
    rw [World.cell?_setCell_same' _ _ _ h]
    rfl
  · rw [World.cell?_setCell_other _ _ _ _ e]
    exact h
/-- The world behind four stores. -/
def set4W (w : World) (g o : Nat) (a b c d : Value) : World := (((w.setCell ⟨g, o, none⟩ a).setCell ⟨g, o + 1, none⟩ b).setCell ⟨g, o + 2, none⟩ c).setCell ⟨g, o + 3, none⟩ d
theorem row_last {P : Nat → Prop} {w : World} {g M cap : Nat} {xs : List Value} {a b c d : Value} (h : ∀ i x, xs[i]? = some x → w.cell? ⟨g, i, none⟩ = some x) (hx : xs.length = (M + 1) * 4) (hP : P g) :
    Row P (set4W w g (M * 4) a b c d) (.slice (some ⟨g, 0, none⟩) (M + 1) cap) (M + 1) (xs.take (M * 4) ++ [a, b, c, d]) := by
  have hs : ∀ i, i < xs.length → (w.cell? ⟨g, i, none⟩).isSome = true := fun i hi => by rw [h i _ (List.getElem?_eq_getElem hi)]; rfl
  refine ⟨_, cap, rfl, fun i x hi => ⟨_, rfl, hP, ?_⟩⟩
  have hadd : (⟨g, 0, none⟩ : Addr).add i = ⟨g, i, none⟩ := by unfold Addr.add; split <;> simp_all
  rw [hadd]
  have hl : (xs.take (M * 4)).length = M * 4 := by rw [List.length_take]; omega
  have hil : i < M * 4 + 4 := by have := (List.getElem?_eq_some_iff.1 hi).1; rw [List.length_append, hl] at this; simpa using this
  unfold set4W
  by_cases h1 : i < M * 4
  · rw [List.getElem?_append_left (by omega), List.getElem?_take_of_lt h1] at hi
    rw [World.cell?_setCell_other _ _ _ _ (ne_off (by omega)), World.cell?_setCell_other _ _ _ _ (ne_off (by omega)), World.cell?_setCell_other _ _ _ _ (ne_off (by omega)), World.cell?_setCell_other _ _ _ _ (ne_off (by omega))]
    exact h i x hi
  · rw [List.getElem?_append_right (by omega), hl] at hi
    have o : ∀ {W : World} {p q : Addr} {v : Value}, p ≠ q → (W.setCell p v).cell? q = W.cell? q := fun h => World.cell?_setCell_other _ _ _ _ h
    have t4 : i = M * 4 ∨ i = M * 4 + 1 ∨ i = M * 4 + 2 ∨ i = M * 4 + 3 := by omega
    rcases t4 with rfl | rfl | rfl | rfl
    · rw [show M * 4 - M * 4 = 0 by omega] at hi
      cases hi
      rw [o (ne_off (by omega)), o (ne_off (by omega)), o (ne_off (by omega))]
      exact World.cell?_setCell_same' _ _ _ (hs _ (by omega))
    · rw [show M * 4 + 1 - M * 4 = 1 by omega] at hi
      cases hi
      rw [o (ne_off (by omega)), o (ne_off (by omega))]
      exact World.cell?_setCell_same' _ _ _ (some_set (hs _ (by omega)))
    · rw [show M * 4 + 2 - M * 4 = 2 by omega] at hi
      cases hi
      rw [o (ne_off (by omega))]
      exact World.cell?_setCell_same' _ _ _ (some_set (some_set (hs _ (by omega))))
    · rw [show M * 4 + 3 - M * 4 = 3 by omega] at hi
      cases hi
      exact World.cell?_setCell_same' _ _ _ (some_set (some_set (some_set (hs _ (by omega)))))
theorem set4_block {w : World} {g o k : Nat} {a b c d : Value} (h : k ≠ g) : (set4W w g o a b c d).heap[k]? = w.heap[k]? := by
  unfold set4W
  rw [Below.heap_setCell _ _ _ _ h, Below.heap_setCell _ _ _ _ h, Below.heap_setCell _ _ _ _ h, Below.heap_setCell _ _ _ _ h]
theorem set4_below {B g o : Nat} {w0 w : World} {a b c d : Value} (h : Below B w0 w) (hg : B ≤ g) : Below B w0 (set4W w g o a b c d) :=
  (((h.setCell (p := ⟨g, o, none⟩) hg _).setCell (p := ⟨g, o + 1, none⟩) hg _).setCell (p := ⟨g, o + 2, none⟩) hg _).setCell (p := ⟨g, o + 3, none⟩) hg _
/-- An element whose last kid was put anew, in a row of its own. -/
theorem last_el {P : Nat → Prop} {w w3 : World} {e y : El} {ao1 : Option Addr} {cap1 g1 cp1 M B R S2 : Nat} {dd a b c d r0 r1 r2 r3 : Value} {xs : List Value}
    (hel : ElE P w e (.string ⟨e.nm.toArray⟩) (.slice ao1 e.attrs.length cap1) (.string ⟨e.text.toArray⟩) dd) (hks : KidsAt (ElE P w) e.kids xs) (hM : e.kids.length = M + 1)
    (hP : ∀ k, P k → k < w.heap.size) (hB : w.heap.size = B) (hR : B ≤ R) (hg : R < g1) (hg2 : g1 < S2) (hb : Below B w w3) (hy : ElE (fun k => P k ∨ S2 ≤ k) w3 y a b c d) (hc : ∀ i v, xs[i]? = some v → w3.cell? ⟨g1, i, none⟩ = some v) :
    ElE (fun k => P k ∨ w.heap.size ≤ k) (set4W (set4W w3 g1 (M * 4) a b c d) R 0 r0 r1 r2 r3) ⟨e.nm, e.attrs, e.text, e.kids.dropLast ++ [y]⟩ (.string ⟨e.nm.toArray⟩) (.slice ao1 e.attrs.length cap1) (.string ⟨e.text.toArray⟩) (.slice (some ⟨g1, 0, none⟩) (M + 1) cp1) ∧
      Below w.heap.size w (set4W (set4W w3 g1 (M * 4) a b c d) R 0 r0 r1 r2 r3) := by
  have hxl := hks.length
  rw [hM] at hxl
  have hfin : Below w.heap.size w (set4W (set4W w3 g1 (M * 4) a b c d) R 0 r0 r1 r2 r3) := by
    rw [hB]
    exact set4_below (set4_below hb (by omega)) hR
  have hoth : ∀ k, k ≠ g1 → k ≠ R → (set4W (set4W w3 g1 (M * 4) a b c d) R 0 r0 r1 r2 r3).heap[k]? = w3.heap[k]? := fun k h1 h2 => (set4_block h2).trans (set4_block h1)
  obtain ⟨_, hat, _, _⟩ := hel.parts
  refine ⟨ElE.mk (e := ⟨e.nm, e.attrs, e.text, e.kids.dropLast ++ [y]⟩) (hat.step fun k hk hl => ⟨.inl hk, hfin.block k hl⟩) (xs := xs.take (M * 4) ++ [a, b, c, d]) ?_ ?_, hfin⟩
  · have hlen : (e.kids.dropLast ++ [y]).length = M + 1 := by simp; omega
    show Row _ _ _ (e.kids.dropLast ++ [y]).length _
    rw [hlen]
    exact (row_last (P := fun k => k = g1) hc hxl rfl).step fun k hk _ => ⟨.inr (by omega), by subst hk; exact set4_block (by omega)⟩
  · refine KidsAt.app ((kids_init hks hM).imp fun _ _ _ _ _ k => k.step fun j hj hl => ⟨.inl hj, hfin.block j hl⟩) ⟨a, b, c, d, [], rfl, hy.step fun k hk _ => ?_, rfl⟩
    rcases hk with hk | hk
    · have := hP k hk
      exact ⟨.inl hk, hoth k (by omega) (by omega)⟩
    · exact ⟨.inr (by omega), hoth k (by omega) (by omega)⟩
end Go.Proofs.YthekdgnikkjpdaaDoor
/-
  The contract of tidewaterref03.said over this program.
-/
namespace Go.Proofs.YthekdgnikkjpdaaDoor
open Go Go.RowKit
/-- An element that a call answers, with what it made. -/
def ElNew (P : Nat → Prop) (w : World) (e : El) (r : Ending) (w' : World) : Prop := ∃ a b c d, r = .returned (.agg #[a, b, c, d]) ∧ ElE (fun k => P k ∨ w.heap.size ≤ k) w' e a b c d
theorem el_old {P : Nat → Prop} {w w' : World} {e : El} {a b c d : Value} (h : ElE P w e a b c d) (hb : Below w.heap.size w w') : ElE (fun k => P k ∨ w.heap.size ≤ k) w' e a b c d :=
  h.step fun k hk hl => ⟨.inl hk, hb.block k hl⟩
theorem say_el {P : Nat → Prop} {w : World} {e : El} {a b c d : Value} (h : ElE P w e a b c d) (s : List UInt8) : ElE P w (e.say s) a b (.string ⟨(e.text ++ s).toArray⟩) d := by
  obtain ⟨rfl, h2, _, xs, h4, h5⟩ := h.parts
  exact ElE.mk (e := e.say s) h2 h4 h5
theorem info32R : (Tryd.prog.info? 32).map (fun i => (i.zero, i.size, i.bytes)) = some (some (.agg #[.string ⟨#[]⟩, .slice none 0 0, .string ⟨#[]⟩, .slice none 0 0]), 4, 80) := by kernel_rfl
set_option maxHeartbeats 1000000 in
set_option maxRecDepth 100000 in
theorem said_one {P : Nat → Prop} (e : El) (s : List UInt8) (a b c dd : Value) (w : World) (hsz : e.text.length + s.length ≤ 1099511627776) (hel : ElE P w e a b c dd) :
    Calls Tryd.prog 24 #[.agg #[a, b, c, dd], .int .i64 1, .string ⟨s.toArray⟩] w fun r w' => ElNew P w (e.say s) r w' ∧ Below w.heap.size w w' := by
  have hsy := say_el hel s
  obtain ⟨ao1, cap1, ao2, cap2, rfl, rfl⟩ := hel.shape
  obtain ⟨rfl, _, rfl, _⟩ := hel.parts
  have HSY : Hid (ElE P w _ _ _ _ _) := hsy
  have hsum : ∀ W, (Op.stringOp .add (⟨e.text.toArray⟩ : ByteArray) ⟨s.toArray⟩).run Tryd.prog W = .ok (.string ⟨(e.text ++ s).toArray⟩) W := fun W => by
    refine (run_string_add_sum W _ _ (by show e.text.toArray.size + s.toArray.size ≤ _; rw [List.size_toArray, List.size_toArray]; omega)).trans ?_
    congr 2
  obtain ⟨n1, hn1⟩ : ∃ n1, e.attrs.length = n1 := ⟨_, rfl⟩
  obtain ⟨n2, hn2⟩ : ∃ n2, e.kids.length = n2 := ⟨_, rfl⟩
  obtain ⟨s1, hs1⟩ : ∃ s1, (⟨e.nm.toArray⟩ : ByteArray) = s1 := ⟨_, rfl⟩
  obtain ⟨s2, hs2⟩ : ∃ s2, (⟨e.text.toArray⟩ : ByteArray) = s2 := ⟨_, rfl⟩
  obtain ⟨s3, hs3⟩ : ∃ s3, (⟨(e.text ++ s).toArray⟩ : ByteArray) = s3 := ⟨_, rfl⟩
  obtain ⟨s4, hs4⟩ : ∃ s4, (⟨s.toArray⟩ : ByteArray) = s4 := ⟨_, rfl⟩
  rw [hn1, hn2, hs1, hs3] at HSY
  simp only [hs2, hs3, hs4] at hsum
  rw [hn1, hn2, hs1, hs2, hs4]
  clear hel hsy hn1 hn2 hs1 hs2 hs3 hs4 hsz
  go_enter Tryd.func24, Tryd.ntmps24
  go_wp2_with fail
  refine bodyPost_ret (v := .agg #[.string s1, .slice ao1 n1 cap1, .string s3, .slice ao2 n2 cap2]) (by simp [results, Tryd.results24, go_sem]) rfl ?_
  have hb : ∀ o1 o2, Below w.heap.size w ((w.alloc o1).alloc o2) := fun o1 o2 => ((Below.refl _ w).alloc (Nat.le_refl _) o1).alloc (by simp) o2
  exact ⟨⟨_, _, _, _, rfl, el_old HSY.out (hb _ _)⟩, hb _ _⟩
set_option maxHeartbeats 2000000 in
set_option maxRecDepth 100000 in
theorem said_more {P : Nat → Prop} (d : Nat) (hd : d ≤ 90) (e : El) (s : List UInt8) (a b c dd : Value) (w : World) (hne : e.kids ≠ []) (hle : e.kids.length ≤ 1000) (hP : ∀ k, P k → k < w.heap.size) (hel : ElE P w e a b c dd)
    (IH : ∀ (W : World) (a b c dd : Value), (∀ k, P k → k < W.heap.size) → ElE P W (lastE e.kids) a b c dd → Calls Tryd.prog 24 #[.agg #[a, b, c, dd], .int .i64 ((d + 1 : Nat) : Int), .string ⟨s.toArray⟩] W fun r w' => ElNew P W (saidD (lastE e.kids) (d + 1) s) r w' ∧ Below W.heap.size W w') :
    Calls Tryd.prog 24 #[.agg #[a, b, c, dd], .int .i64 ((d + 2 : Nat) : Int), .string ⟨s.toArray⟩] w fun r w' => ElNew P w (saidD e (d + 2) s) r w' ∧ Below w.heap.size w w' := by
  obtain ⟨i0, hi, hz0, hz1, hz2⟩ := info_parts info32R
  obtain ⟨ao1, cap1, ao2, cap2, rfl, rfl⟩ := hel.shape
  obtain ⟨rfl, _, rfl, xs, hrow, hks⟩ := hel.parts
  obtain ⟨M, hM⟩ : ∃ M, e.kids.length = M + 1 := ⟨e.kids.length - 1, by have := List.length_pos_iff.2 hne; omega⟩
  have hget := last_get e.kids hne
  rw [hM, Nat.add_sub_cancel] at hget
  obtain ⟨a1, b1, c1, d1, i0', i1, i2, i3, hE⟩ := kids_get M hks hget
  obtain ⟨g, off, rfl, hg, hcell⟩ := row_flat2 hrow i0'
  obtain ⟨pa, qa, pb, qb, rfl, rfl⟩ := hE.shape
  obtain ⟨rfl, _, rfl, _⟩ := hE.parts
  have hxl := hks.length
  rw [hM] at hxl
  have HEL0 : Hid (ElE P w e _ _ _ _) := hel
  have HKS : Hid (KidsAt _ _ _) := hks
  have HE : Hid (ElE P w (lastE e.kids) _ _ _ _) := hE
  have HCELL : Hid (∀ i y, xs[i]? = some y → w.cell? ⟨g, off + i, none⟩ = some y) := hcell
  have HXL : Hid _ := hxl
  have HI0 : Hid _ := i0'
  have HI1 : Hid _ := i1
  have HI2 : Hid _ := i2
  have HI3 : Hid _ := i3
  have HONE : Hid (∀ u ∈ xs, u.oneCell' = true) := kids_one hks
  have HM : Hid _ := hM
  rw [hM] at hle ⊢
  obtain ⟨x, hx⟩ : ∃ x, saidD e (d + 2) s = x := ⟨_, rfl⟩
  have HX : Hid _ := hx
  rw [hx]
  obtain ⟨n1, hn1⟩ : ∃ n1, e.attrs.length = n1 := ⟨_, rfl⟩
  have HN1 : Hid _ := hn1
  obtain ⟨s1, hs1⟩ : ∃ s1, (⟨e.nm.toArray⟩ : ByteArray) = s1 := ⟨_, rfl⟩
  obtain ⟨s2, hs2⟩ : ∃ s2, (⟨e.text.toArray⟩ : ByteArray) = s2 := ⟨_, rfl⟩
  have HS1 : Hid _ := hs1
  have HS2 : Hid _ := hs2
  obtain ⟨s4, hs4⟩ : ∃ s4, (⟨s.toArray⟩ : ByteArray) = s4 := ⟨_, rfl⟩
  obtain ⟨t1, ht1⟩ : ∃ t1, (⟨(lastE e.kids).nm.toArray⟩ : ByteArray) = t1 := ⟨_, rfl⟩
  obtain ⟨t2, ht2⟩ : ∃ t2, (⟨(lastE e.kids).text.toArray⟩ : ByteArray) = t2 := ⟨_, rfl⟩
  obtain ⟨m1, hm1⟩ : ∃ m1, (lastE e.kids).attrs.length = m1 := ⟨_, rfl⟩
  obtain ⟨m2, hm2⟩ : ∃ m2, (lastE e.kids).kids.length = m2 := ⟨_, rfl⟩
  rw [ht1, hm1, ht2, hm2] at HE
  rw [ht1] at HI0
  rw [hm1] at HI1
  rw [ht2] at HI2
  rw [hm2] at HI3
  simp only [hs4] at IH
  rw [hn1, hs1, hs2, hs4]
  have hM0 : (0 : Int) ≤ (M : Int) := by omega
  have hM1 : (M : Int) < ((M + 1 : Nat) : Int) := by omega
  have hwM : IntKind.i64.wrap (((M + 1 : Nat) : Int) - 1) = (M : Int) := by simp only [IntKind.wrap_i64]; omega
  have hd1 : (((d + 2 : Nat) : Int) == 1) = false := by simp; omega
  have hwd : IntKind.i64.wrap (((d + 2 : Nat) : Int) - 1) = ((d + 1 : Nat) : Int) := by simp only [IntKind.wrap_i64]; omega
  obtain ⟨N, hN⟩ : ∃ N, M + 1 = N := ⟨_, rfl⟩
  rw [hN] at hM1 hwM HXL hle ⊢
  obtain ⟨D2, hD2⟩ : ∃ D2, d + 2 = D2 := ⟨_, rfl⟩
  obtain ⟨D1, hD1⟩ : ∃ D1, d + 1 = D1 := ⟨_, rfl⟩
  rw [hD2] at hd1 hwd ⊢
  rw [hD1] at hwd
  simp only [hD1] at IH
  have HN : Hid _ := hN
  have HD1 : Hid _ := hD1
  have HD2 : Hid _ := hD2
  clear hel hrow hks hget i0' i1 i2 i3 hE hcell hxl hM hx hn1 hs1 hs2 hs4 ht1 ht2 hm1 hm2 hN hD1 hD2 hne
  go_enter Tryd.func24, Tryd.ntmps24
  go_wp2_with (at_builtin; refine wpList_append_own _ rfl (.const (.slice none 0 0)) (.tmp 21) 30 rfl (w.heap.size + 2) 32 i0 _ 4 80 Tryd.underlying30 hi hz0 hz1 hz2 rfl (by decide) _ _ _ rfl (World.ownsRow_nil _ _ _ _) ⟨g, off, none⟩ N cap2 xs rfl (by rw [HXL.out]) ?c1 HONE.out ?c2 ?c3 ?c4 ?_)
  case c1 =>
    intro j u hu
    have hadd : (⟨g, off, none⟩ : Addr).add j = ⟨g, off + j, none⟩ := by unfold Addr.add; split <;> simp_all
    rw [hadd, World.cell?_of_block (w := w) (a := ⟨g, off + j, none⟩) ((Below.heap_alloc _ _ g (by simp; omega)).trans (Below.heap_alloc w _ g hg))]
    exact HCELL.out j u hu
  case c2 => unfold maxLen; omega
  case c3 => omega
  case c4 => simp
  intro v1 w1 hown hgrow _
  obtain ⟨g1, cp1, hv1, hg1B, hcur⟩ : ∃ g1 cp1, v1 = .slice (some ⟨g1, 0, none⟩) N cp1 ∧ w.heap.size + 2 ≤ g1 ∧ g1 < w1.heap.size := by
    rcases hown.2 with ⟨_, h0⟩ | ⟨g1, cp, cur, h1, h2, h3, _⟩
    · have := HN.out; omega
    · exact ⟨g1, cp, h1, h2, lt_of_heap h3⟩
  subst hv1
  obtain ⟨B, hB⟩ : ∃ B, w.heap.size = B := ⟨_, rfl⟩
  have HBz : Hid (w.heap.size = B) := hB
  have hA1 : At B #[.string s1, .slice ao1 n1 cap1, .string s2, .slice (some ⟨g, off, none⟩) N cap2] 32 w1 := by
    rw [← hB]
    refine At.grown (At.alloc (heap_alloc_new w _) _) hgrow (fun e => by cases e)
  have hA2 : At (B + 1) #[.string ⟨#[]⟩, .slice none 0 0, .string ⟨#[]⟩, .slice none 0 0] 32 w1 := by
    rw [← hB]
    have := heap_alloc_new (w.alloc (.cells #[.string s1, .slice ao1 n1 cap1, .string s2, .slice (some ⟨g, off, none⟩) N cap2] 32)) (.cells #[.string ⟨#[]⟩, .slice none 0 0, .string ⟨#[]⟩, .slice none 0 0] 32)
    simp only [World.size_alloc] at this
    exact At.grown this hgrow (fun e => by cases e)
  have hb1 : Below B w w1 := by
    rw [← hB]
    exact (((Below.refl _ w).alloc (Nat.le_refl _) _).alloc (by simp) _).grown hgrow (by simp; omega) (fun k hk => by cases hk)
  have hc1 : ∀ i v, xs[i]? = some v → w1.cell? ⟨g1, i, none⟩ = some v := fun i v hv => by
    have := World.ownsRow.cells hown rfl i v hv
    have hadd : (⟨g1, 0, none⟩ : Addr).add i = ⟨g1, i, none⟩ := by unfold Addr.add; split <;> simp_all
    rwa [hadd] at this
  have hf1 : ∀ o, w1.frozen? ⟨g1, o, none⟩ = false := fun o => World.ownsRow.frozenAt hown o
  rw [hB] at hg1B ⊢
  have HA1 : Hid _ := hA1
  have HA2 : Hid _ := hA2
  have HB1 : Hid (Below B w w1) := hb1
  have HC1 : Hid _ := hc1
  obtain ⟨u0, u1, u2, u3⟩ := el4 hA1
  have ff : ∀ o, w1.frozen? ⟨B, o, none⟩ = false := Lib.frozen_of_heap hA1
  have z1 : B < w1.heap.size := lt_of_heap hA1
  have z2 : B + 1 < w1.heap.size := lt_of_heap hA2
  clear hown hgrow hA1 hA2 hb1 hc1 hB
  go_wp2_with fail
  have kA1 : At B #[.string s1, .slice ao1 n1 cap1, .string s2, .slice (some ⟨g1, 0, none⟩) N cp1] 32 (w1.setCell ⟨B, 3, none⟩ (.slice (some ⟨g1, 0, none⟩) N cp1)) := At.set HA1.out 3 _
  have kA2 := At.other HA2.out B 3 (.slice (some ⟨g1, 0, none⟩) N cp1) (by omega)
  have kB := HB1.out.setCell (p := ⟨B, 3, none⟩) (Nat.le_refl _) (.slice (some ⟨g1, 0, none⟩) N cp1)
  have kC : ∀ i v, xs[i]? = some v → (w1.setCell ⟨B, 3, none⟩ (.slice (some ⟨g1, 0, none⟩) N cp1)).cell? ⟨g1, i, none⟩ = some v := fun i v hv => (World.cell?_setCell_other _ _ _ _ (fun e => by have := congrArg Addr.block e; simp at this; omega)).trans (HC1.out i v hv)
  have kF : ∀ o, (w1.setCell ⟨B, 3, none⟩ (.slice (some ⟨g1, 0, none⟩) N cp1)).frozen? ⟨g1, o, none⟩ = false := fun o => by rw [World.frozen?_setCell]; exact hf1 o
  have kz : (w1.setCell ⟨B, 3, none⟩ (.slice (some ⟨g1, 0, none⟩) N cp1)).heap.size = w1.heap.size := by simp [World.setCell]
  rw [← kz] at hcur z1 z2
  generalize w1.setCell ⟨B, 3, none⟩ (.slice (some ⟨g1, 0, none⟩) N cp1) = w2 at *
  have KA1 : Hid _ := kA1
  have KA2 : Hid _ := kA2
  have KB : Hid (Below B w w2) := kB
  have KC : Hid _ := kC
  obtain ⟨v0, v1, v2, v3⟩ := el4 kA1
  have r0 := kC _ _ HI0.out
  have r1 := kC _ _ HI1.out
  have r2 := kC _ _ HI2.out
  have r3 := kC _ _ HI3.out
  have HCALLD : ∀ W : World, W.heap = w2.heap → Calls Tryd.prog 24 #[.agg #[.string t1, .slice pa m1 qa, .string t2, .slice pb m2 qb], .int .i64 (D1 : Int), .string s4] W fun r w' => ElNew P W (saidD (lastE e.kids) D1 s) r w' ∧ Below W.heap.size W w' := fun W hW => IH W (.string t1) (.slice pa m1 qa) (.string t2) (.slice pb m2 qb) (fun k hk => by rw [hW]; have := hP k hk; have := HBz.out; omega) (HE.out.step fun k hk hl => ⟨hk, by rw [hW]; exact KB.out.block k (by have := HBz.out; omega)⟩)
  clear kA1 kA2 kB kC HA1 HA2 HB1 HC1 u0 u1 u2 u3 ff hf1 kz w1
  obtain ⟨y, hy⟩ : ∃ y, saidD (lastE e.kids) D1 s = y := ⟨_, rfl⟩
  simp only [hy] at HCALLD
  have HY : Hid _ := hy
  clear hy IH
  have hg1ne : ¬ g1 = B := by omega
  have hg1ne' : ¬ B = g1 := by omega
  have hg1n2 : ¬ g1 = B + 1 := by omega
  have hg1n2' : ¬ B + 1 = g1 := by omega
  go_region_with (go_at_call 24; refine (HCALLD _ ?_).mono ?_; exact rfl; rintro ee w3 ⟨⟨a', b', c', d', rfl, hN'⟩, hb3'⟩; obtain ⟨pa', qa', pb', qb', rfl, rfl⟩ := hN'.shape; obtain ⟨rfl, _, rfl, _⟩ := hN'.parts; have hb3 : Below w2.heap.size w2 w3 := (Below.refl _ w2).drew.trans hb3'; have y0 := (hb3.cell (p := ⟨g1, M * 4, none⟩) hcur).trans r0; have y1 := (hb3.cell (p := ⟨g1, M * 4 + 1, none⟩) hcur).trans r1; have y2 := (hb3.cell (p := ⟨g1, M * 4 + 2, none⟩) hcur).trans r2; have y3 := (hb3.cell (p := ⟨g1, M * 4 + 3, none⟩) hcur).trans r3; have yf : ∀ o, w3.frozen? ⟨g1, o, none⟩ = false := (fun o => (hb3.frozen (p := ⟨g1, o, none⟩) hcur).trans (kF o)); have x3 := (hb3.cell (p := ⟨B, 3, none⟩) z1).trans v3)
  all_goals (
    have kAB : At B #[.string s1, .slice ao1 n1 cap1, .string s2, .slice (some ⟨g1, 0, none⟩) N cp1] 32 w3 := At.below KA1.out hb3 z1
    have kAC : At (B + 1) #[.string ⟨#[]⟩, .slice none 0 0, .string ⟨#[]⟩, .slice none 0 0] 32 w3 := At.below KA2.out hb3 z2
    obtain ⟨x0, x1, x2, _⟩ := el4 kAB
    obtain ⟨c0, c1, c2, c3⟩ := el4 kAC
    have ffC : ∀ o, w3.frozen? ⟨B + 1, o, none⟩ = false := Lib.frozen_of_heap kAC
    have HN' : Hid (ElE _ w3 y _ _ _ _) := hN'
    have HB3 : Hid (Below w2.heap.size w2 w3) := hb3
    clear hN' hb3 hb3' kAB kAC r0 r1 r2 r3 v0 v1 v2 v3
    go_wp2_with fail
    refine bodyPost_ret (v := .agg #[.string s1, .slice ao1 n1 cap1, .string s2, .slice (some ⟨g1, 0, none⟩) N cp1]) (by simp [results, Tryd.results24, go_sem, c0, c1, c2, c3]) rfl ?_
    have hfx := last_el (r0 := .string s1) (r1 := .slice ao1 n1 cap1) (r2 := .string s2) (r3 := .slice (some ⟨g1, 0, none⟩) N cp1) (cp1 := cp1) HEL0.out HKS.out HM.out hP HBz.out (Nat.le_succ _) (by omega) hcur (KB.out.trans (HB3.out.mono (Nat.le_of_lt z1))) HN'.out (fun i v hv => (HB3.out.cell (p := ⟨g1, i, none⟩) hcur).trans (KC.out i v hv))
    rw [HN1.out, HS1.out, HS2.out, HN.out] at hfx
    have hxe : x = ⟨e.nm, e.attrs, e.text, e.kids.dropLast ++ [y]⟩ := by
      rw [← HX.out, ← HY.out, ← HD1.out]
      rfl
    subst hxe
    exact ⟨⟨_, _, _, _, rfl, hfx.1⟩, hfx.2⟩)
/-- A text put behind that of the open element so deep. -/
theorem said_any : ∀ (d : Nat) {P : Nat → Prop} (e : El) (s : List UInt8) (a b c dd : Value) (w : World), okD e (d + 1) → d ≤ 90 → (∀ k, P k → k < w.heap.size) → (openD e (d + 1)).text.length + s.length ≤ 1099511627776 → ElE P w e a b c dd →
    Calls Tryd.prog 24 #[.agg #[a, b, c, dd], .int .i64 ((d + 1 : Nat) : Int), .string ⟨s.toArray⟩] w fun r w' => ElNew P w (saidD e (d + 1) s) r w' ∧ Below w.heap.size w w'
  | 0, _, e, s, a, b, c, dd, w, _, _, _, hsz, hel => said_one e s a b c dd w hsz hel
  | d + 1, _, e, s, a, b, c, dd, w, hok, hd, hP, hsz, hel =>
    said_more d (by omega) e s a b c dd w hok.1 hok.2.1 hP hel fun W a b c dd hPW hE => said_any d (lastE e.kids) s a b c dd W hok.2.2 (by omega) hPW hsz hE
end Go.Proofs.YthekdgnikkjpdaaDoor
/-
  The contract of tidewaterref03.put over this program, where it goes deeper.
-/
namespace Go.Proofs.YthekdgnikkjpdaaDoor
open Go Go.RowKit
set_option maxHeartbeats 2000000 in
set_option maxRecDepth 100000 in
theorem put_more {P : Nat → Prop} (d : Nat) (hd : d ≤ 90) (e k : El) (a b c dd ka kb kc kd : Value) (w : World) (hne : e.kids ≠ []) (hle : e.kids.length ≤ 1000) (hP : ∀ k, P k → k < w.heap.size) (hel : ElE P w e a b c dd) (hkel : ElE P w k ka kb kc kd)
    (IH : ∀ (W : World) (a b c dd : Value), (∀ k, P k → k < W.heap.size) → ElE P W (lastE e.kids) a b c dd → ElE P W k ka kb kc kd → Calls Tryd.prog 26 #[.agg #[a, b, c, dd], .int .i64 ((d + 1 : Nat) : Int), .agg #[ka, kb, kc, kd]] W fun r w' => ElNew P W (putD (lastE e.kids) (d + 1) k) r w' ∧ Below W.heap.size W w') :
    Calls Tryd.prog 26 #[.agg #[a, b, c, dd], .int .i64 ((d + 2 : Nat) : Int), .agg #[ka, kb, kc, kd]] w fun r w' => ElNew P w (putD e (d + 2) k) r w' ∧ Below w.heap.size w w' := by
  obtain ⟨i0, hi, hz0, hz1, hz2⟩ := info_parts info32R
  obtain ⟨ao1, cap1, ao2, cap2, rfl, rfl⟩ := hel.shape
  obtain ⟨rfl, _, rfl, xs, hrow, hks⟩ := hel.parts
  obtain ⟨ko1, kp1, ko2, kp2, rfl, rfl⟩ := hkel.shape
  obtain ⟨rfl, _, rfl, _⟩ := hkel.parts
  have HKE : Hid (ElE P w k _ _ _ _) := hkel
  obtain ⟨M, hM⟩ : ∃ M, e.kids.length = M + 1 := ⟨e.kids.length - 1, by have := List.length_pos_iff.2 hne; omega⟩
  have hget := last_get e.kids hne
  rw [hM, Nat.add_sub_cancel] at hget
  obtain ⟨a1, b1, c1, d1, i0', i1, i2, i3, hE⟩ := kids_get M hks hget
  obtain ⟨g, off, rfl, hg, hcell⟩ := row_flat2 hrow i0'
  obtain ⟨pa, qa, pb, qb, rfl, rfl⟩ := hE.shape
  obtain ⟨rfl, _, rfl, _⟩ := hE.parts
  have hxl := hks.length
  rw [hM] at hxl
  have HEL0 : Hid (ElE P w e _ _ _ _) := hel
  have HKS : Hid (KidsAt _ _ _) := hks
  have HE : Hid (ElE P w (lastE e.kids) _ _ _ _) := hE
  have HCELL : Hid (∀ i y, xs[i]? = some y → w.cell? ⟨g, off + i, none⟩ = some y) := hcell
  have HXL : Hid _ := hxl
  have HI0 : Hid _ := i0'
  have HI1 : Hid _ := i1
  have HI2 : Hid _ := i2
  have HI3 : Hid _ := i3
  have HONE : Hid (∀ u ∈ xs, u.oneCell' = true) := kids_one hks
  have HM : Hid _ := hM
  rw [hM] at hle ⊢
  obtain ⟨x, hx⟩ : ∃ x, putD e (d + 2) k = x := ⟨_, rfl⟩
  have HX : Hid _ := hx
  rw [hx]
  obtain ⟨n1, hn1⟩ : ∃ n1, e.attrs.length = n1 := ⟨_, rfl⟩
  have HN1 : Hid _ := hn1
  obtain ⟨s1, hs1⟩ : ∃ s1, (⟨e.nm.toArray⟩ : ByteArray) = s1 := ⟨_, rfl⟩
  obtain ⟨s2, hs2⟩ : ∃ s2, (⟨e.text.toArray⟩ : ByteArray) = s2 := ⟨_, rfl⟩
  have HS1 : Hid _ := hs1
  have HS2 : Hid _ := hs2
  obtain ⟨k1, hk1⟩ : ∃ k1, (⟨k.nm.toArray⟩ : ByteArray) = k1 := ⟨_, rfl⟩
  obtain ⟨k2, hk2⟩ : ∃ k2, (⟨k.text.toArray⟩ : ByteArray) = k2 := ⟨_, rfl⟩
  obtain ⟨kn1, hkn1⟩ : ∃ kn1, k.attrs.length = kn1 := ⟨_, rfl⟩
  obtain ⟨kn2, hkn2⟩ : ∃ kn2, k.kids.length = kn2 := ⟨_, rfl⟩
  rw [hk1, hk2, hkn1, hkn2] at HKE
  obtain ⟨t1, ht1⟩ : ∃ t1, (⟨(lastE e.kids).nm.toArray⟩ : ByteArray) = t1 := ⟨_, rfl⟩
  obtain ⟨t2, ht2⟩ : ∃ t2, (⟨(lastE e.kids).text.toArray⟩ : ByteArray) = t2 := ⟨_, rfl⟩
  obtain ⟨m1, hm1⟩ : ∃ m1, (lastE e.kids).attrs.length = m1 := ⟨_, rfl⟩
  obtain ⟨m2, hm2⟩ : ∃ m2, (lastE e.kids).kids.length = m2 := ⟨_, rfl⟩
  rw [ht1, hm1, ht2, hm2] at HE
  rw [ht1] at HI0
  rw [hm1] at HI1
  rw [ht2] at HI2
  rw [hm2] at HI3
  simp only [hk1, hk2, hkn1, hkn2] at IH
  rw [hn1, hs1, hs2, hk1, hk2, hkn1, hkn2]
  have hM0 : (0 : Int) ≤ (M : Int) := by omega
  have hM1 : (M : Int) < ((M + 1 : Nat) : Int) := by omega
  have hwM : IntKind.i64.wrap (((M + 1 : Nat) : Int) - 1) = (M : Int) := by simp only [IntKind.wrap_i64]; omega
  have hd1 : (((d + 2 : Nat) : Int) == 1) = false := by simp; omega
  have hwd : IntKind.i64.wrap (((d + 2 : Nat) : Int) - 1) = ((d + 1 : Nat) : Int) := by simp only [IntKind.wrap_i64]; omega
  obtain ⟨N, hN⟩ : ∃ N, M + 1 = N := ⟨_, rfl⟩
  rw [hN] at hM1 hwM HXL hle ⊢
  obtain ⟨D2, hD2⟩ : ∃ D2, d + 2 = D2 := ⟨_, rfl⟩
  obtain ⟨D1, hD1⟩ : ∃ D1, d + 1 = D1 := ⟨_, rfl⟩
  rw [hD2] at hd1 hwd ⊢
  rw [hD1] at hwd
  simp only [hD1] at IH
  have HN : Hid _ := hN
  have HD1 : Hid _ := hD1
  have HD2 : Hid _ := hD2
  clear hkel hk1 hk2 hkn1 hkn2 hel hrow hks hget i0' i1 i2 i3 hE hcell hxl hM hx hn1 hs1 hs2 ht1 ht2 hm1 hm2 hN hD1 hD2 hne
  go_enter Tryd.func26, Tryd.ntmps26
  go_wp2_with (at_builtin; refine wpList_append_own _ rfl (.const (.slice none 0 0)) (.tmp 23) 30 rfl (w.heap.size + 3) 32 i0 _ 4 80 Tryd.underlying30 hi hz0 hz1 hz2 rfl (by decide) _ _ _ rfl (World.ownsRow_nil _ _ _ _) ⟨g, off, none⟩ N cap2 xs rfl (by rw [HXL.out]) ?c1 HONE.out ?c2 ?c3 ?c4 ?_)
  case c1 =>
    intro j u hu
    have hadd : (⟨g, off, none⟩ : Addr).add j = ⟨g, off + j, none⟩ := by unfold Addr.add; split <;> simp_all
    rw [hadd, World.cell?_of_block (w := w) (a := ⟨g, off + j, none⟩) ((Below.heap_alloc _ _ g (by simp; omega)).trans ((Below.heap_alloc _ _ g (by simp; omega)).trans (Below.heap_alloc w _ g hg)))]
    exact HCELL.out j u hu
  case c2 => unfold maxLen; omega
  case c3 => omega
  case c4 => simp
  intro v1 w1 hown hgrow _
  obtain ⟨g1, cp1, hv1, hg1B, hcur⟩ : ∃ g1 cp1, v1 = .slice (some ⟨g1, 0, none⟩) N cp1 ∧ w.heap.size + 3 ≤ g1 ∧ g1 < w1.heap.size := by
    rcases hown.2 with ⟨_, h0⟩ | ⟨g1, cp, cur, h1, h2, h3, _⟩
    · have := HN.out; omega
    · exact ⟨g1, cp, h1, h2, lt_of_heap h3⟩
  subst hv1
  obtain ⟨B, hB⟩ : ∃ B, w.heap.size = B := ⟨_, rfl⟩
  have HBz : Hid (w.heap.size = B) := hB
  have hA1 : At B #[.string s1, .slice ao1 n1 cap1, .string s2, .slice (some ⟨g, off, none⟩) N cap2] 32 w1 := by
    rw [← hB]
    refine At.grown (At.alloc (At.alloc (heap_alloc_new w _) _) _) hgrow (fun e => by cases e)
  have hA3 : At (B + 1) #[.string k1, .slice ko1 kn1 kp1, .string k2, .slice ko2 kn2 kp2] 32 w1 := by
    rw [← hB]
    have := heap_alloc_new (w.alloc (.cells #[.string s1, .slice ao1 n1 cap1, .string s2, .slice (some ⟨g, off, none⟩) N cap2] 32)) (.cells #[.string k1, .slice ko1 kn1 kp1, .string k2, .slice ko2 kn2 kp2] 32)
    simp only [World.size_alloc] at this
    exact At.grown (At.alloc this _) hgrow (fun e => by cases e)
  have hA2 : At (B + 2) #[.string ⟨#[]⟩, .slice none 0 0, .string ⟨#[]⟩, .slice none 0 0] 32 w1 := by
    rw [← hB]
    have := heap_alloc_new ((w.alloc (.cells #[.string s1, .slice ao1 n1 cap1, .string s2, .slice (some ⟨g, off, none⟩) N cap2] 32)).alloc (.cells #[.string k1, .slice ko1 kn1 kp1, .string k2, .slice ko2 kn2 kp2] 32)) (.cells #[.string ⟨#[]⟩, .slice none 0 0, .string ⟨#[]⟩, .slice none 0 0] 32)
    simp only [World.size_alloc] at this
    exact At.grown this hgrow (fun e => by cases e)
  have hb1 : Below B w w1 := by
    rw [← hB]
    exact ((((Below.refl _ w).alloc (Nat.le_refl _) _).alloc (by simp) _).alloc (by simp; omega) _).grown hgrow (by simp; omega) (fun k hk => by cases hk)
  have hc1 : ∀ i v, xs[i]? = some v → w1.cell? ⟨g1, i, none⟩ = some v := fun i v hv => by
    have := World.ownsRow.cells hown rfl i v hv
    have hadd : (⟨g1, 0, none⟩ : Addr).add i = ⟨g1, i, none⟩ := by unfold Addr.add; split <;> simp_all
    rwa [hadd] at this
  have hf1 : ∀ o, w1.frozen? ⟨g1, o, none⟩ = false := fun o => World.ownsRow.frozenAt hown o
  rw [hB] at hg1B ⊢
  have HA1 : Hid _ := hA1
  have HA2 : Hid _ := hA2
  have HA3 : Hid _ := hA3
  have HB1 : Hid (Below B w w1) := hb1
  have HC1 : Hid _ := hc1
  obtain ⟨u0, u1, u2, u3⟩ := el4 hA1
  have ff : ∀ o, w1.frozen? ⟨B, o, none⟩ = false := Lib.frozen_of_heap hA1
  have z1 : B < w1.heap.size := lt_of_heap hA1
  have z2 : B + 2 < w1.heap.size := lt_of_heap hA2
  have z3 : B + 1 < w1.heap.size := lt_of_heap hA3
  clear hown hgrow hA1 hA2 hA3 hb1 hc1 hB
  go_wp2_with fail
  have kA1 : At B #[.string s1, .slice ao1 n1 cap1, .string s2, .slice (some ⟨g1, 0, none⟩) N cp1] 32 (w1.setCell ⟨B, 3, none⟩ (.slice (some ⟨g1, 0, none⟩) N cp1)) := At.set HA1.out 3 _
  have kA2 := At.other HA2.out B 3 (.slice (some ⟨g1, 0, none⟩) N cp1) (by omega)
  have kA3 := At.other HA3.out B 3 (.slice (some ⟨g1, 0, none⟩) N cp1) (by omega)
  have kB := HB1.out.setCell (p := ⟨B, 3, none⟩) (Nat.le_refl _) (.slice (some ⟨g1, 0, none⟩) N cp1)
  have kC : ∀ i v, xs[i]? = some v → (w1.setCell ⟨B, 3, none⟩ (.slice (some ⟨g1, 0, none⟩) N cp1)).cell? ⟨g1, i, none⟩ = some v := fun i v hv => (World.cell?_setCell_other _ _ _ _ (fun e => by have := congrArg Addr.block e; simp at this; omega)).trans (HC1.out i v hv)
  have kF : ∀ o, (w1.setCell ⟨B, 3, none⟩ (.slice (some ⟨g1, 0, none⟩) N cp1)).frozen? ⟨g1, o, none⟩ = false := fun o => by rw [World.frozen?_setCell]; exact hf1 o
  have kz : (w1.setCell ⟨B, 3, none⟩ (.slice (some ⟨g1, 0, none⟩) N cp1)).heap.size = w1.heap.size := by simp [World.setCell]
  rw [← kz] at hcur z1 z2 z3
  generalize w1.setCell ⟨B, 3, none⟩ (.slice (some ⟨g1, 0, none⟩) N cp1) = w2 at *
  have KA1 : Hid _ := kA1
  have KA2 : Hid _ := kA2
  have KA3 : Hid _ := kA3
  obtain ⟨l0, l1, l2, l3⟩ := el4 kA3
  have KB : Hid (Below B w w2) := kB
  have KC : Hid _ := kC
  obtain ⟨v0, v1, v2, v3⟩ := el4 kA1
  have r0 := kC _ _ HI0.out
  have r1 := kC _ _ HI1.out
  have r2 := kC _ _ HI2.out
  have r3 := kC _ _ HI3.out
  have HCALLD : ∀ W : World, W.heap = w2.heap → Calls Tryd.prog 26 #[.agg #[.string t1, .slice pa m1 qa, .string t2, .slice pb m2 qb], .int .i64 (D1 : Int), .agg #[.string k1, .slice ko1 kn1 kp1, .string k2, .slice ko2 kn2 kp2]] W fun r w' => ElNew P W (putD (lastE e.kids) D1 k) r w' ∧ Below W.heap.size W w' := fun W hW => IH W (.string t1) (.slice pa m1 qa) (.string t2) (.slice pb m2 qb) (fun k hk => by rw [hW]; have := hP k hk; have := HBz.out; omega) (HE.out.step fun k hk hl => ⟨hk, by rw [hW]; exact KB.out.block k (by have := HBz.out; omega)⟩) (HKE.out.step fun k hk hl => ⟨hk, by rw [hW]; exact KB.out.block k (by have := HBz.out; omega)⟩)
  clear kA1 kA2 kA3 kB kC HA1 HA2 HA3 HB1 HC1 u0 u1 u2 u3 ff hf1 kz w1
  obtain ⟨y, hy⟩ : ∃ y, putD (lastE e.kids) D1 k = y := ⟨_, rfl⟩
  simp only [hy] at HCALLD
  have HY : Hid _ := hy
  clear hy IH
  have hg1ne : ¬ g1 = B := by omega
  have hg1ne' : ¬ B = g1 := by omega
  have hg1n2 : ¬ g1 = B + 2 := by omega
  have hg1n2' : ¬ B + 2 = g1 := by omega
  go_region_with (go_at_call 26; refine (HCALLD _ ?_).mono ?_; exact rfl; rintro ee w3 ⟨⟨a', b', c', d', rfl, hN'⟩, hb3'⟩; obtain ⟨pa', qa', pb', qb', rfl, rfl⟩ := hN'.shape; obtain ⟨rfl, _, rfl, _⟩ := hN'.parts; have hb3 : Below w2.heap.size w2 w3 := (Below.refl _ w2).drew.trans hb3'; have y0 := (hb3.cell (p := ⟨g1, M * 4, none⟩) hcur).trans r0; have y1 := (hb3.cell (p := ⟨g1, M * 4 + 1, none⟩) hcur).trans r1; have y2 := (hb3.cell (p := ⟨g1, M * 4 + 2, none⟩) hcur).trans r2; have y3 := (hb3.cell (p := ⟨g1, M * 4 + 3, none⟩) hcur).trans r3; have yf : ∀ o, w3.frozen? ⟨g1, o, none⟩ = false := (fun o => (hb3.frozen (p := ⟨g1, o, none⟩) hcur).trans (kF o)); have x3 := (hb3.cell (p := ⟨B, 3, none⟩) z1).trans v3; have j0 := (hb3.cell (p := ⟨B + 1, 0, none⟩) z3).trans l0; have j1 := (hb3.cell (p := ⟨B + 1, 1, none⟩) z3).trans l1; have j2 := (hb3.cell (p := ⟨B + 1, 2, none⟩) z3).trans l2; have j3 := (hb3.cell (p := ⟨B + 1, 3, none⟩) z3).trans l3)
  all_goals (
    have kAB : At B #[.string s1, .slice ao1 n1 cap1, .string s2, .slice (some ⟨g1, 0, none⟩) N cp1] 32 w3 := At.below KA1.out hb3 z1
    have kAC : At (B + 2) #[.string ⟨#[]⟩, .slice none 0 0, .string ⟨#[]⟩, .slice none 0 0] 32 w3 := At.below KA2.out hb3 z2
    obtain ⟨x0, x1, x2, _⟩ := el4 kAB
    obtain ⟨c0, c1, c2, c3⟩ := el4 kAC
    have ffC : ∀ o, w3.frozen? ⟨B + 2, o, none⟩ = false := Lib.frozen_of_heap kAC
    have HN' : Hid (ElE _ w3 y _ _ _ _) := hN'
    have HB3 : Hid (Below w2.heap.size w2 w3) := hb3
    clear hN' hb3 hb3' kAB kAC r0 r1 r2 r3 v0 v1 v2 v3
    go_wp2_with fail
    refine bodyPost_ret (v := .agg #[.string s1, .slice ao1 n1 cap1, .string s2, .slice (some ⟨g1, 0, none⟩) N cp1]) (by simp [results, Tryd.results26, go_sem, c0, c1, c2, c3]) rfl ?_
    have hfx := last_el (r0 := .string s1) (r1 := .slice ao1 n1 cap1) (r2 := .string s2) (r3 := .slice (some ⟨g1, 0, none⟩) N cp1) (cp1 := cp1) HEL0.out HKS.out HM.out hP HBz.out (Nat.le_add_right _ 2) (by omega) hcur (KB.out.trans (HB3.out.mono (Nat.le_of_lt z1))) HN'.out (fun i v hv => (HB3.out.cell (p := ⟨g1, i, none⟩) hcur).trans (KC.out i v hv))
    rw [HN1.out, HS1.out, HS2.out, HN.out] at hfx
    have hxe : x = ⟨e.nm, e.attrs, e.text, e.kids.dropLast ++ [y]⟩ := by
      rw [← HX.out, ← HY.out, ← HD1.out]
      rfl
    subst hxe
    exact ⟨⟨_, _, _, _, rfl, hfx.1⟩, hfx.2⟩)
end Go.Proofs.YthekdgnikkjpdaaDoor
/-
  The contract of tidewaterref03.put over this program, at the outermost element.
-/
namespace Go.Proofs.YthekdgnikkjpdaaDoor
open Go Go.RowKit
/-- What a put leaves: the kids in a row that was made. -/
theorem put_fin {P : Nat → Prop} {w w2 W : World} {e k : El} {ao1 : Option Addr} {cap1 g2 cp2 N B : Nat} {dd ka kb kc kd v r0 r1 r2 r3 : Value} {xs : List Value}
    (hel : ElE P w e (.string ⟨e.nm.toArray⟩) (.slice ao1 e.attrs.length cap1) (.string ⟨e.text.toArray⟩) dd) (hks : KidsAt (ElE P w) e.kids xs) (hN : e.kids.length = N) (hk : ElE P w k ka kb kc kd) (hB : w.heap.size = B)
    (ho : w2.ownsRow (B + 3) 32 4 (.slice (some ⟨g2, 0, none⟩) (N + 1) cp2) (N + 1) (xs ++ [ka, kb, kc, kd])) (hb : Below B w w2)
    (hW : W = set4W (w2.setCell ⟨B, 3, none⟩ v) (B + 1 + 1) 0 r0 r1 r2 r3) :
    ElNew P w (e.put k) (.returned (.agg #[.string ⟨e.nm.toArray⟩, .slice ao1 e.attrs.length cap1, .string ⟨e.text.toArray⟩, .slice (some ⟨g2, 0, none⟩) (N + 1) cp2])) W ∧ Below w.heap.size w W := by
  subst hW
  have hfin : Below w.heap.size w (set4W (w2.setCell ⟨B, 3, none⟩ v) (B + 1 + 1) 0 r0 r1 r2 r3) := by
    rw [hB]
    exact set4_below (hb.setCell (p := ⟨B, 3, none⟩) (Nat.le_refl _) v) (by omega)
  obtain ⟨_, hat, _, _⟩ := hel.parts
  have hg2 := (ho.lt g2 rfl).1
  refine ⟨⟨_, _, _, _, rfl, ElE.mk (e := e.put k) (hat.step fun k hk hl => ⟨.inl hk, hfin.block k hl⟩) (xs := xs ++ [ka, kb, kc, kd]) ?_ ?_⟩, hfin⟩
  · have hlen : (e.put k).kids.length = N + 1 := by simp [El.put, hN]
    rw [hlen]
    refine (row_owns (P := fun j => j = g2) ho (fun j hj => (Option.some.inj hj).symm)).step fun j hj _ => ⟨.inr (by omega), ?_⟩
    subst hj
    rw [set4_block (by omega), Below.heap_setCell _ _ _ _ (by show j ≠ B; omega)]
  · exact KidsAt.app (hks.imp fun _ _ _ _ _ q => q.step fun j hj hl => ⟨.inl hj, hfin.block j hl⟩) ⟨ka, kb, kc, kd, [], rfl, hk.step fun j hj hl => ⟨.inl hj, hfin.block j hl⟩, rfl⟩
set_option maxHeartbeats 2000000 in
set_option maxRecDepth 100000 in
theorem put_one {P : Nat → Prop} (e k : El) (a b c dd ka kb kc kd : Value) (w : World) (hne : e.kids ≠ []) (hle : e.kids.length ≤ 1000) (hel : ElE P w e a b c dd) (hkel : ElE P w k ka kb kc kd) :
    Calls Tryd.prog 26 #[.agg #[a, b, c, dd], .int .i64 1, .agg #[ka, kb, kc, kd]] w fun r w' => ElNew P w (e.put k) r w' ∧ Below w.heap.size w w' := by
  obtain ⟨i0, hi, hz0, hz1, hz2⟩ := info_parts info32R
  have HEL0 : Hid (ElE P w e _ _ _ _) := hel
  have HKE : Hid (ElE P w k _ _ _ _) := hkel
  obtain ⟨ao1, cap1, ao2, cap2, rfl, rfl⟩ := hel.shape
  obtain ⟨rfl, _, rfl, xs, hrow, hks⟩ := hel.parts
  obtain ⟨ko1, kp1, ko2, kp2, rfl, rfl⟩ := hkel.shape
  obtain ⟨rfl, _, rfl, _⟩ := hkel.parts
  obtain ⟨N, hN⟩ : ∃ N, e.kids.length = N := ⟨_, rfl⟩
  have hN0 : 0 < N := by rw [← hN]; exact List.length_pos_iff.2 hne
  have hxl := hks.length
  rw [hN] at hxl hle
  obtain ⟨x0, hx0⟩ : ∃ x0, xs[0]? = some x0 := ⟨_, List.getElem?_eq_getElem (by omega)⟩
  obtain ⟨g, off, rfl, hg, hcell⟩ := row_flat2 hrow hx0
  have HKS : Hid (KidsAt _ _ _) := hks
  have HXL : Hid _ := hxl
  have HN : Hid _ := hN
  have HONE : Hid (∀ u ∈ xs, u.oneCell' = true) := kids_one hks
  obtain ⟨n1, hn1⟩ : ∃ n1, e.attrs.length = n1 := ⟨_, rfl⟩
  obtain ⟨s1, hs1⟩ : ∃ s1, (⟨e.nm.toArray⟩ : ByteArray) = s1 := ⟨_, rfl⟩
  obtain ⟨s2, hs2⟩ : ∃ s2, (⟨e.text.toArray⟩ : ByteArray) = s2 := ⟨_, rfl⟩
  obtain ⟨k1, hk1⟩ : ∃ k1, (⟨k.nm.toArray⟩ : ByteArray) = k1 := ⟨_, rfl⟩
  obtain ⟨k2, hk2⟩ : ∃ k2, (⟨k.text.toArray⟩ : ByteArray) = k2 := ⟨_, rfl⟩
  obtain ⟨kn1, hkn1⟩ : ∃ kn1, k.attrs.length = kn1 := ⟨_, rfl⟩
  obtain ⟨kn2, hkn2⟩ : ∃ kn2, k.kids.length = kn2 := ⟨_, rfl⟩
  have HN1 : Hid _ := hn1
  have HS1 : Hid _ := hs1
  have HS2 : Hid _ := hs2
  rw [hk1, hk2, hkn1, hkn2] at HKE
  rw [hN, hn1, hs1, hs2, hk1, hk2, hkn1, hkn2]
  have HC : Hid (∀ i y, xs[i]? = some y → w.cell? ⟨g, off + i, none⟩ = some y) := hcell
  clear hel hkel hrow hks hxl hx0 hcell hN hn1 hs1 hs2 hk1 hk2 hkn1 hkn2 hne
  go_enter Tryd.func26, Tryd.ntmps26
  go_wp2_with fail
  obtain ⟨B, hB⟩ : ∃ B, w.heap.size = B := ⟨_, rfl⟩
  have HBz : Hid (w.heap.size = B) := hB
  obtain ⟨w0, hw0⟩ : ∃ w0, w0 = ((w.alloc (.cells #[.string s1, .slice ao1 n1 cap1, .string s2, .slice (some ⟨g, off, none⟩) N cap2] 32)).alloc (.cells #[.string k1, .slice ko1 kn1 kp1, .string k2, .slice ko2 kn2 kp2] 32)).alloc (.cells #[.string ⟨#[]⟩, .slice none 0 0, .string ⟨#[]⟩, .slice none 0 0] 32) := ⟨_, rfl⟩
  have hA1 : At B #[.string s1, .slice ao1 n1 cap1, .string s2, .slice (some ⟨g, off, none⟩) N cap2] 32 w0 := by
    rw [hw0, ← hB]; exact At.alloc (At.alloc (heap_alloc_new w _) _) _
  have hA3 : At (B + 1) #[.string k1, .slice ko1 kn1 kp1, .string k2, .slice ko2 kn2 kp2] 32 w0 := by
    rw [hw0, ← hB]
    have := heap_alloc_new (w.alloc (.cells #[.string s1, .slice ao1 n1 cap1, .string s2, .slice (some ⟨g, off, none⟩) N cap2] 32)) (.cells #[.string k1, .slice ko1 kn1 kp1, .string k2, .slice ko2 kn2 kp2] 32)
    simp only [World.size_alloc] at this
    exact At.alloc this _
  have hA2 : At (B + 2) #[.string ⟨#[]⟩, .slice none 0 0, .string ⟨#[]⟩, .slice none 0 0] 32 w0 := by
    rw [hw0, ← hB]
    have := heap_alloc_new ((w.alloc (.cells #[.string s1, .slice ao1 n1 cap1, .string s2, .slice (some ⟨g, off, none⟩) N cap2] 32)).alloc (.cells #[.string k1, .slice ko1 kn1 kp1, .string k2, .slice ko2 kn2 kp2] 32)) (.cells #[.string ⟨#[]⟩, .slice none 0 0, .string ⟨#[]⟩, .slice none 0 0] 32)
    simp only [World.size_alloc] at this
    exact this
  have hs0 : w0.heap.size = B + 3 := by rw [hw0, ← hB]; simp
  have hb0 : Below B w w0 := by
    rw [hw0, ← hB]
    exact (((Below.refl _ w).alloc (Nat.le_refl _) _).alloc (by simp) _).alloc (by simp; omega) _
  rw [← hw0, hB]
  have HC0 : Hid (∀ i y, xs[i]? = some y → w0.cell? ((⟨g, off, none⟩ : Addr).add i) = some y) := fun i y hy => by
    have hadd : (⟨g, off, none⟩ : Addr).add i = ⟨g, off + i, none⟩ := by unfold Addr.add; split <;> simp_all
    rw [hadd, hb0.cell (p := ⟨g, off + i, none⟩) (by rw [← hB]; exact hg)]
    exact HC.out i y hy
  obtain ⟨u0, u1, u2, u3⟩ := el4 hA1
  obtain ⟨l0, l1, l2, l3⟩ := el4 hA3
  have ff : ∀ o, w0.frozen? ⟨B, o, none⟩ = false := Lib.frozen_of_heap hA1
  have HA1 : Hid _ := hA1
  have HA2 : Hid _ := hA2
  have HB0 : Hid (Below B w w0) := hb0
  have hgl : g < w0.heap.size := by omega
  clear hA1 hA2 hA3 hb0 hw0 hB HC hg
  have HCA : Hid (∀ ob i y, xs[i]? = some y → (w0.alloc ob).cell? ((⟨g, off, none⟩ : Addr).add i) = some y) := fun ob i y hy =>
    (World.cell?_of_block (w := w0) (Below.heap_alloc w0 ob _ (by rw [block_add]; exact hgl))).trans (HC0.out i y hy)
  go_region_law (first
    | (refine step_append_lies _ (by rfl) (.const (.slice none 0 0)) (.tmp 11) 30 (by rfl) (B + 3) 32 i0 _ 4 80 Tryd.underlying30 hi hz0 hz1 hz2 rfl (by omega) _ 0 [] (by rfl) (World.ownsRow_nil _ _ _ _) ⟨g, off, none⟩ N cap2 xs (by rfl) (by rw [HXL.out]) (by first | exact HC0.out | exact HCA.out _) HONE.out hN0 (by unfold maxLen; omega) (by omega) (by simp; omega) _ rfl ?_
       intro gg cp1 w1 hown1 hgrow1 hat1 hlt1
       rw [Nat.zero_add, List.nil_append] at hown1
       rw [Nat.zero_add]
       have hb1 : Below (B + 3) w0 w1 := (by first | exact ((Below.refl (B + 3) w0).drew).grown hgrow1 (by simp; omega) (fun k hk => by cases hk) | exact (((Below.refl (B + 3) w0).drew).alloc (by simp; omega) _).grown hgrow1 (by simp; omega) (fun k hk => by cases hk))
       have hs1' := hb1.size
       have p0 := (hb1.cell (p := ⟨B, 0, none⟩) (by show B < B + 3; omega)).trans u0
       have p1 := (hb1.cell (p := ⟨B, 1, none⟩) (by show B < B + 3; omega)).trans u1
       have p2 := (hb1.cell (p := ⟨B, 2, none⟩) (by show B < B + 3; omega)).trans u2
       have p3 := (hb1.cell (p := ⟨B, 3, none⟩) (by show B < B + 3; omega)).trans u3
       have pf : ∀ o, w1.frozen? ⟨B, o, none⟩ = false := (fun o => (hb1.frozen (p := ⟨B, o, none⟩) (by show B < B + 3; omega)).trans (ff o))
       have t0 := (hb1.cell (p := ⟨B + 1, 0, none⟩) (by show B + 1 < B + 3; omega)).trans l0
       have t1 := (hb1.cell (p := ⟨B + 1, 1, none⟩) (by show B + 1 < B + 3; omega)).trans l1
       have t2 := (hb1.cell (p := ⟨B + 1, 2, none⟩) (by show B + 1 < B + 3; omega)).trans l2
       have t3 := (hb1.cell (p := ⟨B + 1, 3, none⟩) (by show B + 1 < B + 3; omega)).trans l3)
    | (refine step_append_lies _ (by rfl) (.tmp 12) (.tmp 14) 30 (by rfl) (B + 3) 32 i0 _ 4 80 Tryd.underlying30 hi hz0 hz1 hz2 rfl (by omega) _ N xs (by rfl) (World.ownsRow.alloc hown1 _) ⟨w1.heap.size, 0, none⟩ 1 1 [.string k1, .slice ko1 kn1 kp1, .string k2, .slice ko2 kn2 kp2] (by rfl) (by rfl) (World.news_of_block (cs := #[.string k1, .slice ko1 kn1 kp1, .string k2, .slice ko2 kn2 kp2]) (t := 32) (fr := (0, 0)) (heap_alloc_new w1 _)) (by simp [Value.oneCell']) (by omega) (by unfold maxLen; omega) (by omega) (by have := hb1.size; simp; omega) _ rfl ?_
       intro g2 cp2 w2 hown2 hgrow2 hat2 hlt2
       have hg2l : ∀ r, (Value.slice (some ⟨gg, 0, none⟩) N cp1).ownBlock = some r → B + 3 ≤ r := (fun r hr => (World.ownsRow.lt hown1 r hr).1)
       have hb2 : Below (B + 3) w1 w2 := (by first | exact (((Below.refl (B + 3) w1).alloc (by have := hb1.size; omega) _).grown hgrow2 (by have := hb1.size; simp; omega) hg2l) | exact ((Below.refl (B + 3) w1).grown hgrow2 (by have := hb1.size; omega) hg2l))
       have m0 := (hb2.cell (p := ⟨B, 0, none⟩) (by show B < B + 3; omega)).trans p0
       have m1 := (hb2.cell (p := ⟨B, 1, none⟩) (by show B < B + 3; omega)).trans p1
       have m2 := (hb2.cell (p := ⟨B, 2, none⟩) (by show B < B + 3; omega)).trans p2
       have m3 := (hb2.cell (p := ⟨B, 3, none⟩) (by show B < B + 3; omega)).trans p3
       have mf : ∀ o, w2.frozen? ⟨B, o, none⟩ = false := (fun o => (hb2.frozen (p := ⟨B, o, none⟩) (by show B < B + 3; omega)).trans (pf o)))
    | (refine step_append_lies _ (by rfl) (.tmp 12) (.tmp 14) 30 (by rfl) (B + 3) 32 i0 _ 4 80 Tryd.underlying30 hi hz0 hz1 hz2 rfl (by omega) _ N xs (by rfl) hown1 ⟨B + 3, 0, none⟩ 1 1 [.string k1, .slice ko1 kn1 kp1, .string k2, .slice ko2 kn2 kp2] (by rfl) (by rfl) (World.news_of_block (cs := #[.string k1, .slice ko1 kn1 kp1, .string k2, .slice ko2 kn2 kp2]) (t := 32) (fr := (0, 0)) ((hgrow1.block (B + 3) (by simp; omega) (fun e => by cases e)).trans (by rw [← hs0]; exact heap_alloc_new w0 _))) (by simp [Value.oneCell']) (by omega) (by unfold maxLen; omega) (by omega) (by have := hb1.size; omega) _ rfl ?_
       intro g2 cp2 w2 hown2 hgrow2 hat2 hlt2
       have hg2l : ∀ r, (Value.slice (some ⟨gg, 0, none⟩) N cp1).ownBlock = some r → B + 3 ≤ r := (fun r hr => (World.ownsRow.lt hown1 r hr).1)
       have hb2 : Below (B + 3) w1 w2 := (by first | exact (((Below.refl (B + 3) w1).alloc (by have := hb1.size; omega) _).grown hgrow2 (by have := hb1.size; simp; omega) hg2l) | exact ((Below.refl (B + 3) w1).grown hgrow2 (by have := hb1.size; omega) hg2l))
       have m0 := (hb2.cell (p := ⟨B, 0, none⟩) (by show B < B + 3; omega)).trans p0
       have m1 := (hb2.cell (p := ⟨B, 1, none⟩) (by show B < B + 3; omega)).trans p1
       have m2 := (hb2.cell (p := ⟨B, 2, none⟩) (by show B < B + 3; omega)).trans p2
       have m3 := (hb2.cell (p := ⟨B, 3, none⟩) (by show B < B + 3; omega)).trans p3
       have mf : ∀ o, w2.frozen? ⟨B, o, none⟩ = false := (fun o => (hb2.frozen (p := ⟨B, o, none⟩) (by show B < B + 3; omega)).trans (pf o))))
  all_goals (
    have hb02 : Below (B + 3) w0 w2 := hb1.trans hb2
    have kA2 : At (B + 1 + 1) #[.string ⟨#[]⟩, .slice none 0 0, .string ⟨#[]⟩, .slice none 0 0] 32 w2 := At.below HA2.out hb02 (by omega)
    obtain ⟨r0, r1, r2, r3⟩ := el4 kA2
    have rf : ∀ o, w2.frozen? ⟨B + 1 + 1, o, none⟩ = false := Lib.frozen_of_heap kA2
    have HO2 : Hid (World.ownsRow _ _ _ _ _ _ _) := hown2
    have HB2 : Hid (Below B w w2) := HB0.out.trans (hb02.mono (by omega))
    have nB : ¬ B = B + 1 + 1 := by omega
    have nB' : ¬ B + 1 + 1 = B := by omega
    clear hown1 hown2 hgrow1 hgrow2 hat1 hat2 hb1 hb2 hb02 kA2 p0 p1 p2 p3 pf t0 t1 t2 t3 hg2l
    go_wp2_with fail
    refine bodyPost_ret (v := .agg #[.string s1, .slice ao1 n1 cap1, .string s2, .slice (some ⟨g2, 0, none⟩) (N + 1) cp2]) (by simp [results, Tryd.results26, go_sem, r0, r1, r2, r3]) rfl ?_
    rw [← HS1.out, ← HS2.out, ← HN1.out]
    exact put_fin HEL0.out HKS.out HN.out HKE.out HBz.out HO2.out HB2.out rfl)
end Go.Proofs.YthekdgnikkjpdaaDoor
/-
  The contract of tidewaterref03.put over this program, at an element without kids.
-/
namespace Go.Proofs.YthekdgnikkjpdaaDoor
open Go Go.RowKit
set_option maxHeartbeats 2000000 in
set_option maxRecDepth 100000 in
theorem put_none {P : Nat → Prop} (e k : El) (a b c dd ka kb kc kd : Value) (w : World) (hne : e.kids = []) (hel : ElE P w e a b c dd) (hkel : ElE P w k ka kb kc kd) :
    Calls Tryd.prog 26 #[.agg #[a, b, c, dd], .int .i64 1, .agg #[ka, kb, kc, kd]] w fun r w' => ElNew P w (e.put k) r w' ∧ Below w.heap.size w w' := by
  obtain ⟨i0, hi, hz0, hz1, hz2⟩ := info_parts info32R
  have HEL0 : Hid (ElE P w e _ _ _ _) := hel
  have HKE : Hid (ElE P w k _ _ _ _) := hkel
  obtain ⟨ao1, cap1, ao2, cap2, rfl, rfl⟩ := hel.shape
  obtain ⟨rfl, _, rfl, xs, hrow, hks⟩ := hel.parts
  obtain ⟨ko1, kp1, ko2, kp2, rfl, rfl⟩ := hkel.shape
  obtain ⟨rfl, _, rfl, _⟩ := hkel.parts
  have hN : e.kids.length = 0 := by rw [hne]; rfl
  obtain rfl : xs = [] := List.length_eq_zero_iff.1 (by rw [hks.length, hN])
  have HKS : Hid (KidsAt _ _ _) := hks
  have HN : Hid _ := hN
  obtain ⟨n1, hn1⟩ : ∃ n1, e.attrs.length = n1 := ⟨_, rfl⟩
  obtain ⟨s1, hs1⟩ : ∃ s1, (⟨e.nm.toArray⟩ : ByteArray) = s1 := ⟨_, rfl⟩
  obtain ⟨s2, hs2⟩ : ∃ s2, (⟨e.text.toArray⟩ : ByteArray) = s2 := ⟨_, rfl⟩
  obtain ⟨k1, hk1⟩ : ∃ k1, (⟨k.nm.toArray⟩ : ByteArray) = k1 := ⟨_, rfl⟩
  obtain ⟨k2, hk2⟩ : ∃ k2, (⟨k.text.toArray⟩ : ByteArray) = k2 := ⟨_, rfl⟩
  obtain ⟨kn1, hkn1⟩ : ∃ kn1, k.attrs.length = kn1 := ⟨_, rfl⟩
  obtain ⟨kn2, hkn2⟩ : ∃ kn2, k.kids.length = kn2 := ⟨_, rfl⟩
  have HN1 : Hid _ := hn1
  have HS1 : Hid _ := hs1
  have HS2 : Hid _ := hs2
  rw [hk1, hk2, hkn1, hkn2] at HKE
  rw [hN, hn1, hs1, hs2, hk1, hk2, hkn1, hkn2]
  clear hel hkel hrow hks hN hn1 hs1 hs2 hk1 hk2 hkn1 hkn2 hne
  go_enter Tryd.func26, Tryd.ntmps26
  go_wp2_with fail
  obtain ⟨B, hB⟩ : ∃ B, w.heap.size = B := ⟨_, rfl⟩
  have HBz : Hid (w.heap.size = B) := hB
  obtain ⟨w0, hw0⟩ : ∃ w0, w0 = ((w.alloc (.cells #[.string s1, .slice ao1 n1 cap1, .string s2, .slice ao2 0 cap2] 32)).alloc (.cells #[.string k1, .slice ko1 kn1 kp1, .string k2, .slice ko2 kn2 kp2] 32)).alloc (.cells #[.string ⟨#[]⟩, .slice none 0 0, .string ⟨#[]⟩, .slice none 0 0] 32) := ⟨_, rfl⟩
  have hA1 : At B #[.string s1, .slice ao1 n1 cap1, .string s2, .slice ao2 0 cap2] 32 w0 := by
    rw [hw0, ← hB]; exact At.alloc (At.alloc (heap_alloc_new w _) _) _
  have hA3 : At (B + 1) #[.string k1, .slice ko1 kn1 kp1, .string k2, .slice ko2 kn2 kp2] 32 w0 := by
    rw [hw0, ← hB]
    have := heap_alloc_new (w.alloc (.cells #[.string s1, .slice ao1 n1 cap1, .string s2, .slice ao2 0 cap2] 32)) (.cells #[.string k1, .slice ko1 kn1 kp1, .string k2, .slice ko2 kn2 kp2] 32)
    simp only [World.size_alloc] at this
    exact At.alloc this _
  have hA2 : At (B + 2) #[.string ⟨#[]⟩, .slice none 0 0, .string ⟨#[]⟩, .slice none 0 0] 32 w0 := by
    rw [hw0, ← hB]
    have := heap_alloc_new ((w.alloc (.cells #[.string s1, .slice ao1 n1 cap1, .string s2, .slice ao2 0 cap2] 32)).alloc (.cells #[.string k1, .slice ko1 kn1 kp1, .string k2, .slice ko2 kn2 kp2] 32)) (.cells #[.string ⟨#[]⟩, .slice none 0 0, .string ⟨#[]⟩, .slice none 0 0] 32)
    simp only [World.size_alloc] at this
    exact this
  have hs0 : w0.heap.size = B + 3 := by rw [hw0, ← hB]; simp
  have hb0 : Below B w w0 := by
    rw [hw0, ← hB]
    exact (((Below.refl _ w).alloc (Nat.le_refl _) _).alloc (by simp) _).alloc (by simp; omega) _
  rw [← hw0, hB]
  obtain ⟨u0, u1, u2, u3⟩ := el4 hA1
  obtain ⟨l0, l1, l2, l3⟩ := el4 hA3
  have ff : ∀ o, w0.frozen? ⟨B, o, none⟩ = false := Lib.frozen_of_heap hA1
  have HA1 : Hid _ := hA1
  have HA2 : Hid _ := hA2
  have HB0 : Hid (Below B w w0) := hb0
  clear hA1 hA2 hA3 hb0 hw0 hB
  cases ao2
  all_goals
    go_region_law (first
      | (refine step_append_lies _ (by rfl) (.tmp 12) (.tmp 14) 30 (by rfl) (B + 3) 32 i0 _ 4 80 Tryd.underlying30 hi hz0 hz1 hz2 rfl (by omega) _ 0 [] (by rfl) (World.ownsRow_nil _ _ _ _) ⟨B + 3, 0, none⟩ 1 1 [.string k1, .slice ko1 kn1 kp1, .string k2, .slice ko2 kn2 kp2] (by rfl) (by rfl) (World.news_of_block (cs := #[.string k1, .slice ko1 kn1 kp1, .string k2, .slice ko2 kn2 kp2]) (t := 32) (fr := (0, 0)) (by rw [← hs0]; exact heap_alloc_new w0 _)) (by simp [Value.oneCell']) (by omega) (by unfold maxLen; omega) (by omega) (by simp; omega) _ rfl ?_
         intro g2 cp2 w2 hown2 hgrow2 hat2 hlt2
         rw [Nat.zero_add] at hown2 ⊢
         have hb2 : Below (B + 3) w0 w2 := (by first | exact (((Below.refl (B + 3) w0).drew).alloc (by simp; omega) _).grown hgrow2 (by simp; omega) (fun k hk => by cases hk) | exact (((Below.refl (B + 3) w0).alloc (by omega) _).drew).grown hgrow2 (by simp; omega) (fun k hk => by cases hk))
         have m0 := (hb2.cell (p := ⟨B, 0, none⟩) (by show B < B + 3; omega)).trans u0
         have m1 := (hb2.cell (p := ⟨B, 1, none⟩) (by show B < B + 3; omega)).trans u1
         have m2 := (hb2.cell (p := ⟨B, 2, none⟩) (by show B < B + 3; omega)).trans u2
         have m3 := (hb2.cell (p := ⟨B, 3, none⟩) (by show B < B + 3; omega)).trans u3
         have mf : ∀ o, w2.frozen? ⟨B, o, none⟩ = false := (fun o => (hb2.frozen (p := ⟨B, o, none⟩) (by show B < B + 3; omega)).trans (ff o)))
      | fail)
    all_goals (
      have hb02 : Below (B + 3) w0 w2 := hb2
      have kA2 : At (B + 1 + 1) #[.string ⟨#[]⟩, .slice none 0 0, .string ⟨#[]⟩, .slice none 0 0] 32 w2 := At.below HA2.out hb02 (by omega)
      obtain ⟨r0, r1, r2, r3⟩ := el4 kA2
      have rf : ∀ o, w2.frozen? ⟨B + 1 + 1, o, none⟩ = false := Lib.frozen_of_heap kA2
      have HO2 : Hid (World.ownsRow _ _ _ _ _ _ _) := hown2
      have HB2 : Hid (Below B w w2) := HB0.out.trans (hb02.mono (by omega))
      have nB : ¬ B = B + 1 + 1 := by omega
      have nB' : ¬ B + 1 + 1 = B := by omega
      clear hown2 hgrow2 hat2 hb2 hb02 kA2
      go_wp2_with fail
      refine bodyPost_ret (v := .agg #[.string s1, .slice ao1 n1 cap1, .string s2, .slice (some ⟨g2, 0, none⟩) (0 + 1) cp2]) (by simp [results, Tryd.results26, go_sem, r0, r1, r2, r3]) rfl ?_
      rw [← HS1.out, ← HS2.out, ← HN1.out]
      exact put_fin HEL0.out HKS.out HN.out HKE.out HBz.out HO2.out HB2.out rfl)
end Go.Proofs.YthekdgnikkjpdaaDoor
/-
  The contract of tidewaterref03.put over this program, all of it.
-/
namespace Go.Proofs.YthekdgnikkjpdaaDoor
open Go Go.RowKit
/-- An element put behind the kids of the open one so deep. -/
theorem put_any : ∀ (d : Nat) {P : Nat → Prop} (e k : El) (a b c dd ka kb kc kd : Value) (w : World), okD e (d + 1) → d ≤ 90 → (∀ k, P k → k < w.heap.size) → (openD e (d + 1)).kids.length ≤ 1000 → ElE P w e a b c dd → ElE P w k ka kb kc kd →
    Calls Tryd.prog 26 #[.agg #[a, b, c, dd], .int .i64 ((d + 1 : Nat) : Int), .agg #[ka, kb, kc, kd]] w fun r w' => ElNew P w (putD e (d + 1) k) r w' ∧ Below w.heap.size w w'
  | 0, _, e, k, a, b, c, dd, ka, kb, kc, kd, w, _, _, _, hsz, hel, hk => by
    by_cases hne : e.kids = []
    · exact put_none e k a b c dd ka kb kc kd w hne hel hk
    · exact put_one e k a b c dd ka kb kc kd w hne hsz hel hk
  | d + 1, _, e, k, a, b, c, dd, ka, kb, kc, kd, w, hok, hd, hP, hsz, hel, hk =>
    put_more d (by omega) e k a b c dd ka kb kc kd w hok.1 hok.2.1 hP hel hk fun W a b c dd hPW hE hkW => put_any d (lastE e.kids) k a b c dd ka kb kc kd W hok.2.2 (by omega) hPW hsz hE hkW
end Go.Proofs.YthekdgnikkjpdaaDoor
