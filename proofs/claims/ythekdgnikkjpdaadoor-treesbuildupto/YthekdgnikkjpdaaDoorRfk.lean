/-
  The contract of tidewaterref03.Same over this program, at like elements.
-/
import Derived.Test.YthekdgnikkjpdaaDoorRfb
import Derived.Test.YthekdgnikkjpdaaDoorReaa
import Derived.Test.YthekdgnikkjpdaaDoorRefq
import Derived.Test.YthekdgnikkjpdaaDoorRfh
namespace Go.Proofs.YthekdgnikkjpdaaDoor
open Go Go.RowKit
/-- Rows that are not longer than an int tells. -/
def lenE : Nat → El → Prop
  | 0, _ => True
  | n + 1, e => e.attrs.length ≤ 1000000000000 ∧ e.kids.length ≤ 1000000000000 ∧ ∀ k ∈ e.kids, lenE n k
set_option maxHeartbeats 2000000 in
set_option maxRecDepth 100000 in
theorem refSame_step {P Q : Nat → Prop} (x : El) (a b c d a' b' c' d' : Value) (w : World) (h1 : ElE P w x a b c d) (h2 : ElE Q w x a' b' c' d') (hl1 : x.attrs.length ≤ 1000000000000) (hl2 : x.kids.length ≤ 1000000000000)
    (IH : ∀ k ∈ x.kids, ∀ (W : World) (a b c d a' b' c' d' : Value), Below w.heap.size w W → ElE P w k a b c d → ElE Q w k a' b' c' d' → Calls Tryd.prog 27 #[.agg #[a, b, c, d], .agg #[a', b', c', d']] W fun e w' => e = .returned (.bool true) ∧ Below W.heap.size W w') :
    Calls Tryd.prog 27 #[.agg #[a, b, c, d], .agg #[a', b', c', d']] w fun e w' => e = .returned (.bool true) ∧ Below w.heap.size w w' := by
  obtain ⟨ao1, cap1, ao2, cap2, rfl, rfl⟩ := h1.shape
  obtain ⟨rfl, hr1, rfl, xs, hk1, hks1⟩ := h1.parts
  obtain ⟨bo1, bap1, bo2, bap2, rfl, rfl⟩ := h2.shape
  obtain ⟨rfl, hr2, rfl, ys, hk2, hks2⟩ := h2.parts
  obtain ⟨s1, hs1⟩ : ∃ s1, (⟨x.nm.toArray⟩ : ByteArray) = s1 := ⟨_, rfl⟩
  obtain ⟨s2, hs2⟩ : ∃ s2, (⟨x.text.toArray⟩ : ByteArray) = s2 := ⟨_, rfl⟩
  obtain ⟨n1, hn1⟩ : ∃ n1, x.attrs.length = n1 := ⟨_, rfl⟩
  obtain ⟨n2, hn2⟩ : ∃ n2, x.kids.length = n2 := ⟨_, rfl⟩
  rw [hn1] at hl1 hr1 hr2
  rw [hn2] at hl2 hk1 hk2
  rw [hs1, hs2, hn1, hn2]
  have R1 : Hid _ := hr1
  have R2 : Hid _ := hr2
  have K1 : Hid _ := hk1
  have K2 : Hid _ := hk2
  have S1 : Hid (KidsAt _ _ _) := hks1
  have S2 : Hid (KidsAt _ _ _) := hks2
  have HN1 : Hid _ := hn1
  have HN2 : Hid _ := hn2
  have HIH : Hid _ := IH
  clear h1 h2 hr1 hr2 hk1 hk2 hks1 hks2 hs1 hs2 hn1 hn2 IH
  go_enter Tryd.func27, Tryd.ntmps27
  go_wp2_with fail
  obtain ⟨B, hB⟩ : ∃ B, w.heap.size = B := ⟨_, rfl⟩
  have HBz : Hid (w.heap.size = B) := hB
  obtain ⟨w0, hw0⟩ : ∃ w0, w0 = (w.alloc (.cells #[.string s1, .slice ao1 n1 cap1, .string s2, .slice ao2 n2 cap2] 32)).alloc (.cells #[.string s1, .slice bo1 n1 bap1, .string s2, .slice bo2 n2 bap2] 32) := ⟨_, rfl⟩
  have hA1 : At B #[.string s1, .slice ao1 n1 cap1, .string s2, .slice ao2 n2 cap2] 32 w0 := by
    rw [hw0, ← hB]; exact At.alloc (heap_alloc_new w _) _
  have hA2 : At (B + 1) #[.string s1, .slice bo1 n1 bap1, .string s2, .slice bo2 n2 bap2] 32 w0 := by
    rw [hw0, ← hB]
    have := heap_alloc_new (w.alloc (.cells #[.string s1, .slice ao1 n1 cap1, .string s2, .slice ao2 n2 cap2] 32)) (.cells #[.string s1, .slice bo1 n1 bap1, .string s2, .slice bo2 n2 bap2] 32)
    simp only [World.size_alloc] at this
    exact this
  have hb0 : Below B w w0 := by
    rw [hw0, ← hB]
    exact ((Below.refl _ w).alloc (Nat.le_refl _) _).alloc (by simp) _
  rw [← hw0, hB]
  have HA1 : Hid _ := hA1
  have HA2 : Hid _ := hA2
  have HB0 : Hid (Below B w w0) := hb0
  have z1 := lt_of_heap hA1
  have z2 := lt_of_heap hA2
  obtain ⟨p0, p1, p2, p3⟩ := el4 hA1
  obtain ⟨q0, q1, q2, q3⟩ := el4 hA2
  clear hA1 hA2 hb0 hw0 hB
  go_loopw [5] (fun i wr => ∃ j : Nat, j ≤ n1 ∧ i = .int .i64 (j : Int) ∧ ∃ m, wr = w0.drewN m) (fun i _ => n1 - (intOf i).toNat)
  case atStart => exact ⟨0, Nat.zero_le _, rfl, 0, rfl⟩
  case round =>
    obtain ⟨j, hj, rfl, m, rfl⟩ := hrel
    by_cases hlt : j < n1
    · obtain ⟨pr, hpr⟩ : ∃ pr, x.attrs[j]? = some pr := ⟨_, List.getElem?_eq_getElem (by rw [HN1.out]; exact hlt)⟩
      obtain ⟨g0, g1⟩ := pair_get x.attrs j pr hpr
      obtain ⟨ga, oa, rfl, hga, hca⟩ := row_flat2 R1.out g0
      obtain ⟨gb, ob, rfl, hgb, hcb⟩ := row_flat2 R2.out g0
      have ca : ∀ i v, (pairCells x.attrs)[i]? = some v → w0.cell? ⟨ga, oa + i, none⟩ = some v := fun i v hv => (HB0.out.cell (p := ⟨ga, oa + i, none⟩) (by rw [← HBz.out]; exact hga)).trans (hca i v hv)
      have cb : ∀ i v, (pairCells x.attrs)[i]? = some v → w0.cell? ⟨gb, ob + i, none⟩ = some v := fun i v hv => (HB0.out.cell (p := ⟨gb, ob + i, none⟩) (by rw [← HBz.out]; exact hgb)).trans (hcb i v hv)
      have a0 := ca _ _ g0
      have a1 := ca _ _ g1
      have b0 := cb _ _ g0
      have b1 := cb _ _ g1
      rw [← Nat.add_assoc] at a1 b1
      have hj0 : (0 : Int) ≤ (j : Int) := by omega
      have hj1 : (j : Int) < (n1 : Int) := by omega
      clear ca cb hca hcb g0 g1 hpr
      go_wp2_with fail
      go_quiet (fail)
      go_wp2_with fail
      go_roundw
      case rel => exact ⟨j + 1, by omega, by go_num, _, rfl⟩
      case measure => simp [intOf]; omega
    · have hj1 : ¬ (j : Int) < (n1 : Int) := by omega
      go_wp2_with fail
      obtain ⟨Z, hZ⟩ : ∃ Z, w0.heap.size = Z := ⟨_, rfl⟩
      rw [hZ] at z1 z2
      have HZ : Hid _ := hZ
      clear hZ
      go_loopw [6] (fun i ws => ∃ t : Nat, t ≤ n2 ∧ i = .int .i64 (t : Int) ∧ Below Z w0 ws) (fun i _ => n2 - (intOf i).toNat)
      case atStart => exact ⟨0, Nat.zero_le _, rfl, (Below.refl Z w0).trans ⟨rfl, rfl, rfl, Nat.le_refl _, fun _ _ => rfl⟩⟩
      case round =>
        obtain ⟨t, ht, rfl, hbt⟩ := hrel
        have e1 := (hbt.cell (p := ⟨B, 3, none⟩) z1).trans p3
        have e2 := (hbt.cell (p := ⟨B + 1, 3, none⟩) z2).trans q3
        have HBT : Hid (Below Z w0 wr) := hbt
        have hzt := hbt.size
        have hBZ : w.heap.size ≤ Z := by have := HBz.out; omega
        have hZw : Z ≤ wr.heap.size := by rw [← HZ.out]; exact hzt
        by_cases hlt2 : t < n2
        · obtain ⟨kd, hkd⟩ : ∃ kd, x.kids[t]? = some kd := ⟨_, List.getElem?_eq_getElem (by rw [HN2.out]; exact hlt2)⟩
          obtain ⟨a1, b1, c1, d1, i0, i1, i2, i3, hE1⟩ := kids_get t S1.out hkd
          obtain ⟨a2, b2, c2, d2, j0, j1, j2, j3, hE2⟩ := kids_get t S2.out hkd
          obtain ⟨ga, oa, rfl, hga, hca⟩ := row_flat2 K1.out i0
          obtain ⟨gb, ob, rfl, hgb, hcb⟩ := row_flat2 K2.out j0
          obtain ⟨ua, va, ub, vb, rfl, rfl⟩ := hE1.shape
          obtain ⟨rfl, _, rfl, _⟩ := hE1.parts
          obtain ⟨uc, vc, ud, vd, rfl, rfl⟩ := hE2.shape
          obtain ⟨rfl, _, rfl, _⟩ := hE2.parts
          have hbw : Below w.heap.size w wr := by rw [HBz.out]; exact HB0.out.trans (HBT.out.mono (by have := HBz.out; omega))
          have ca : ∀ i v, xs[i]? = some v → wr.cell? ⟨ga, oa + i, none⟩ = some v := fun i v hv => (hbw.cell (p := ⟨ga, oa + i, none⟩) hga).trans (hca i v hv)
          have cb : ∀ i v, ys[i]? = some v → wr.cell? ⟨gb, ob + i, none⟩ = some v := fun i v hv => (hbw.cell (p := ⟨gb, ob + i, none⟩) hgb).trans (hcb i v hv)
          have y0 := ca _ _ i0
          have y1 := ca _ _ i1
          have y2 := ca _ _ i2
          have y3 := ca _ _ i3
          have x0 := cb _ _ j0
          have x1 := cb _ _ j1
          have x2 := cb _ _ j2
          have x3 := cb _ _ j3
          rw [← Nat.add_assoc] at y1 y2 y3 x1 x2 x3
          have HCL : ∀ W : World, W.heap = wr.heap → W.os = wr.os → W.tape = wr.tape → W.output = wr.output → Calls Tryd.prog 27 #[.agg #[.string ⟨kd.nm.toArray⟩, .slice ua kd.attrs.length va, .string ⟨kd.text.toArray⟩, .slice ub kd.kids.length vb], .agg #[.string ⟨kd.nm.toArray⟩, .slice uc kd.attrs.length vc, .string ⟨kd.text.toArray⟩, .slice ud kd.kids.length vd]] W fun e w' => e = .returned (.bool true) ∧ Below W.heap.size W w' :=
            fun W e1 e2 e3 e4 => HIH.out kd (List.mem_of_getElem? hkd) W _ _ _ _ _ _ _ _ (hbw.trans ⟨e2, e3, e4, by rw [e1]; exact Nat.le_refl _, fun k _ => by rw [e1]⟩) hE1 hE2
          have t0 : (0 : Int) ≤ (t : Int) := by omega
          have t1 : (t : Int) < (n2 : Int) := by omega
          obtain ⟨kn, hkn⟩ : ∃ kn, (⟨kd.nm.toArray⟩ : ByteArray) = kn := ⟨_, rfl⟩
          obtain ⟨kt, hkt⟩ : ∃ kt, (⟨kd.text.toArray⟩ : ByteArray) = kt := ⟨_, rfl⟩
          obtain ⟨m1, hm1⟩ : ∃ m1, kd.attrs.length = m1 := ⟨_, rfl⟩
          obtain ⟨m2, hm2⟩ : ∃ m2, kd.kids.length = m2 := ⟨_, rfl⟩
          simp only [hkn, hkt, hm1, hm2] at HCL
          rw [hkn] at y0 x0
          rw [hm1] at y1 x1
          rw [hkt] at y2 x2
          rw [hm2] at y3 x3
          clear ca cb hca hcb i0 i1 i2 i3 j0 j1 j2 j3 hE1 hE2 hkd hkn hkt hm1 hm2 hbw hbt p0 p1 p2 p3 q0 q1 q2 q3
          go_wp2_with fail
          go_region_with (go_at_call 27; refine (HCL _ ?_ ?_ ?_ ?_).mono ?_; exact rfl; exact rfl; exact rfl; exact rfl; rintro ee w3 ⟨rfl, hb3⟩)
          all_goals (
            go_wp2_with fail
            go_roundw
            case rel => exact ⟨t + 1, by omega, by go_num, HBT.out.trans (((Below.refl _ wr).drew.trans hb3).mono hZw)⟩
            case measure => simp [intOf]; omega)
        · have t1 : ¬ (t : Int) < (n2 : Int) := by omega
          clear hbt
          go_wp2_with fail
          go_ret
          refine ⟨rfl, ?_⟩
          rw [HBz.out]
          exact HB0.out.trans (HBT.out.mono (by have := HBz.out; omega))
/-- Like elements are the same, wherever they lie. -/
theorem refSame_eq : ∀ (n : Nat) {P Q : Nat → Prop} (x : El) (a b c d a' b' c' d' : Value) (w : World), deepN n x → lenE n x → ElE P w x a b c d → ElE Q w x a' b' c' d' →
    Calls Tryd.prog 27 #[.agg #[a, b, c, d], .agg #[a', b', c', d']] w fun e w' => e = .returned (.bool true) ∧ Below w.heap.size w w'
  | 0, _, _, _, _, _, _, _, _, _, _, _, _, h, _, _, _ => h.elim
  | n + 1, _, _, x, a, b, c, d, a', b', c', d', w, hd, hl, h1, h2 =>
    refSame_step x a b c d a' b' c' d' w h1 h2 hl.1 hl.2.1 fun k hk W a b c d a' b' c' d' hb e1 e2 =>
      refSame_eq n k a b c d a' b' c' d' W (hd k hk) (hl.2.2 k hk) (e1.step (row_below hb)) (e2.step (row_below hb))
end Go.Proofs.YthekdgnikkjpdaaDoor
/-
  The contract of tidewaterref03.SameEvents over this program, at like events.
-/
namespace Go.Proofs.YthekdgnikkjpdaaDoor
open Go Go.RowKit
theorem ev_get {P : Nat → Prop} {w : World} : ∀ {l : List (Int × El)} {xs : List Value} (j : Nat) {p : Int × El}, EvCells P w l xs → l[j]? = some p → ∃ a b c d, xs[j * 5]? = some (.int .i64 p.1) ∧ xs[j * 5 + 1]? = some a ∧ xs[j * 5 + 2]? = some b ∧ xs[j * 5 + 3]? = some c ∧ xs[j * 5 + 4]? = some d ∧ ElE P w p.2 a b c d
  | [], _, j, p, _, h => by simp at h
  | q :: r, _, 0, p, ⟨a, b, c, d, ys, h1, h2, h3⟩, h => by
    simp at h
    subst h
    subst h1
    exact ⟨a, b, c, d, rfl, rfl, rfl, rfl, rfl, h2⟩
  | q :: r, _, j + 1, p, ⟨a, b, c, d, ys, h1, h2, h3⟩, h => by
    obtain ⟨a', b', c', d', k0, k1, k2, k3, k4, k5⟩ := ev_get j h3 (by simpa using h)
    subst h1
    rw [show (j + 1) * 5 = j * 5 + 5 by omega]
    exact ⟨a', b', c', d', k0, k1, k2, k3, k4, k5⟩
def regionOf3 (k : Nat) : Code → Option Code
  | .region n ops d => if n == k then some (.region n ops d) else none
  | .seq a b => match regionOf3 k a with
    | some c => some c
    | none => regionOf3 k b
  | .block _ c => regionOf3 k c
  | .scope c => regionOf3 k c
  | .loop c => regionOf3 k c
  | .cond _ a b => match regionOf3 k a with
    | some c => some c
    | none => regionOf3 k b
  | _ => none
set_option maxHeartbeats 8000000 in
set_option maxRecDepth 100000 in
theorem reg3s (ga oa gb ob N c1 c2 j : Nat) (kk : Int) (a1 a2 a3 a4 b1 b2 b3 b4 : Value) (wr : World) (v2 v3 v4 v6 v7 v8 v9 v10 v11 v12 v13 v14 v15 v16 v17 v18 v19 v20 v21 v22 v23 v24 v25 v26 v27 v28 v29 v30 v31 v32 v33 v34 v35 v36 v37 v38 v39 v40 v41 : Value) (t0 : (0 : Int) ≤ (j : Int)) (t1 : (j : Int) < (N : Int))
    (y0 : wr.cell? ⟨ga, oa + j * 5, none⟩ = some (.int .i64 kk)) (y1 : wr.cell? ⟨ga, oa + j * 5 + 1, none⟩ = some a1) (y2 : wr.cell? ⟨ga, oa + j * 5 + 2, none⟩ = some a2) (y3 : wr.cell? ⟨ga, oa + j * 5 + 3, none⟩ = some a3) (y4 : wr.cell? ⟨ga, oa + j * 5 + 4, none⟩ = some a4)
    (x0 : wr.cell? ⟨gb, ob + j * 5, none⟩ = some (.int .i64 kk)) (x1 : wr.cell? ⟨gb, ob + j * 5 + 1, none⟩ = some b1) (x2 : wr.cell? ⟨gb, ob + j * 5 + 2, none⟩ = some b2) (x3 : wr.cell? ⟨gb, ob + j * 5 + 3, none⟩ = some b3) (x4 : wr.cell? ⟨gb, ob + j * 5 + 4, none⟩ = some b4)
    (HCL : ∀ W : World, W.heap = wr.heap → Calls Tryd.prog 27 #[.agg #[a1, a2, a3, a4], .agg #[b1, b2, b3, b4]] W fun e w' => e = .returned (.bool true) ∧ Below W.heap.size W w')
    (K : Act → World → Prop) (Q0 : Exit → Act → World → Prop) (hQ : ∀ c d v a w, Q0 (.panic c) (Act.put a d v) w → Q0 (.panic c) a w)
    (hK : ∀ (u17 u18 u19 u20 u21 u22 u23 u24 u25 u26 u27 u28 u29 u30 u31 u32 u33 u34 u35 u36 u37 u38 u39 u40 : Value) (w' : World), Below wr.heap.size wr w' → K ⟨#[.slice (some ⟨ga, oa, none⟩) N c1, .slice (some ⟨gb, ob, none⟩) N c2, v2, v3, v4, .int .i64 (j : Int), v6, v7, v8, v9, v10, v11, v12, v13, v14, v15, v16, u17, u18, u19, u20, u21, u22, u23, u24, u25, u26, u27, u28, u29, u30, u31, u32, u33, u34, u35, u36, u37, u38, u39, u40, .bool false], []⟩ w') :
    Code.wp Tryd.prog ((Tryd.f13.body.bind (regionOf3 6)).getD .skip) (Exit.then K Q0) ⟨#[.slice (some ⟨ga, oa, none⟩) N c1, .slice (some ⟨gb, ob, none⟩) N c2, v2, v3, v4, .int .i64 (j : Int), v6, v7, v8, v9, v10, v11, v12, v13, v14, v15, v16, v17, v18, v19, v20, v21, v22, v23, v24, v25, v26, v27, v28, v29, v30, v31, v32, v33, v34, v35, v36, v37, v38, v39, v40, v41], []⟩ wr := by
  conv => arg 2; whnf
  have HKK : Hid _ := hK
  clear hK
  refine wp_region_any (by kernel_rfl) ?_
  change wpAny _ _ _ _ _ _ _ (World.drew _)
  refine wpAny_take (i := 0) (v := ?_) rfl (by kernel_rfl) (by kernel_rfl) (by kernel_rfl) (fun _ _ _ h => hQ _ _ _ _ _ h) (Or.inl ⟨by kernel_rfl, ?_⟩) ?_; rotate_left; (· (intro w; go_simp; first | done | with_reducible rfl))
  refine wpAny_take (i := 1) (v := ?_) rfl (by kernel_rfl) (by kernel_rfl) (by kernel_rfl) (fun _ _ _ h => hQ _ _ _ _ _ h) (Or.inl ⟨by kernel_rfl, ?_⟩) ?_; rotate_left; (· (intro w; go_simp; first | done | with_reducible rfl))
  refine wpAny_take (i := 2) (v := ?_) rfl (by kernel_rfl) (by kernel_rfl) (by kernel_rfl) (fun _ _ _ h => hQ _ _ _ _ _ h) (Or.inl ⟨by kernel_rfl, ?_⟩) ?_; rotate_left; (· (intro w; go_simp; first | done | with_reducible rfl))
  refine wpAny_take (i := 3) (v := ?_) rfl (by kernel_rfl) (by kernel_rfl) (by kernel_rfl) (fun _ _ _ h => hQ _ _ _ _ _ h) (Or.inl ⟨by kernel_rfl, ?_⟩) ?_; rotate_left; (· (intro w; go_simp; first | done | with_reducible rfl))
  refine wpAny_take (i := 5) (v := ?_) rfl (by kernel_rfl) (by kernel_rfl) (by kernel_rfl) (fun _ _ _ h => hQ _ _ _ _ _ h) (Or.inl ⟨by kernel_rfl, ?_⟩) ?_; rotate_left; (· (intro w; go_simp; first | done | with_reducible rfl))
  refine wpAny_take (i := 6) (v := ?_) rfl (by kernel_rfl) (by kernel_rfl) (by kernel_rfl) (fun _ _ _ h => hQ _ _ _ _ _ h) (Or.inl ⟨by kernel_rfl, ?_⟩) ?_; rotate_left; (· (intro w; go_simp; first | done | with_reducible rfl))
  refine wpAny_take (i := 7) (v := ?_) rfl (by kernel_rfl) (by kernel_rfl) (by kernel_rfl) (fun _ _ _ h => hQ _ _ _ _ _ h) (Or.inl ⟨by kernel_rfl, ?_⟩) ?_; rotate_left; (· (intro w; go_simp; first | done | with_reducible rfl))
  refine wpAny_take (i := 8) (v := ?_) rfl (by kernel_rfl) (by kernel_rfl) (by kernel_rfl) (fun _ _ _ h => hQ _ _ _ _ _ h) (Or.inl ⟨by kernel_rfl, ?_⟩) ?_; rotate_left; (· (intro w; go_simp; first | done | with_reducible rfl))
  refine wpAny_ready (rs := [4, 9]) (by kernel_rfl) (by simp) ?_
  refine AllReady.cons rfl (fun K hK => ?_) (AllReady.cons rfl (fun K hK => ?_) AllReady.nil)
  (go_simp; refine hK _ _ ?_; clear hK K; refine wpAny_ready (rs := [9]) (by kernel_rfl) (by simp) ?_; refine AllReady.cons rfl (fun K hK => ?_) AllReady.nil; go_simp; refine hK _ _ ?_; clear hK K)
  rotate_left
  (go_simp; refine hK _ _ ?_; clear hK K; refine wpAny_ready (rs := [4]) (by kernel_rfl) (by simp) ?_; refine AllReady.cons rfl (fun K hK => ?_) AllReady.nil; go_simp; refine hK _ _ ?_; clear hK K)
  all_goals (
    refine wpAny_take (i := 10) (v := ?_) rfl (by kernel_rfl) (by kernel_rfl) (by kernel_rfl) (fun _ _ _ h => hQ _ _ _ _ _ h) (Or.inl ⟨by kernel_rfl, ?_⟩) ?_; rotate_left; (· (intro w; go_simp; first | done | with_reducible rfl))
    refine wpAny_take (i := 11) (v := ?_) rfl (by kernel_rfl) (by kernel_rfl) (by kernel_rfl) (fun _ _ _ h => hQ _ _ _ _ _ h) (Or.inl ⟨by kernel_rfl, ?_⟩) ?_; rotate_left; (· (intro w; go_simp; first | done | with_reducible rfl))
    refine wpAny_take (i := 12) (v := ?_) rfl (by kernel_rfl) (by kernel_rfl) (by kernel_rfl) (fun _ _ _ h => hQ _ _ _ _ _ h) (Or.inl ⟨by kernel_rfl, ?_⟩) ?_; rotate_left; (· (intro w; go_simp; first | done | with_reducible rfl))
    refine wpAny_take (i := 13) (v := ?_) rfl (by kernel_rfl) (by kernel_rfl) (by kernel_rfl) (fun _ _ _ h => hQ _ _ _ _ _ h) (Or.inl ⟨by kernel_rfl, ?_⟩) ?_; rotate_left; (· (intro w; go_simp; first | done | with_reducible rfl))
    refine wpAny_take (i := 14) (v := ?_) rfl (by kernel_rfl) (by kernel_rfl) (by kernel_rfl) (fun _ _ _ h => hQ _ _ _ _ _ h) (Or.inl ⟨by kernel_rfl, ?_⟩) ?_; rotate_left; (· (intro w; go_simp; first | done | with_reducible rfl))
    refine wpAny_take (i := 15) (v := ?_) rfl (by kernel_rfl) (by kernel_rfl) (by kernel_rfl) (fun _ _ _ h => hQ _ _ _ _ _ h) (Or.inl ⟨by kernel_rfl, ?_⟩) ?_; rotate_left; (· (intro w; go_simp; first | done | with_reducible rfl))
    refine wpAny_take (i := 17) (v := ?_) rfl (by kernel_rfl) (by kernel_rfl) (by kernel_rfl) (fun _ _ _ h => hQ _ _ _ _ _ h) (Or.inl ⟨by kernel_rfl, ?_⟩) ?_; rotate_left; (· (intro w; go_simp; first | done | with_reducible rfl))
    refine wpAny_take (i := 18) (v := ?_) rfl (by kernel_rfl) (by kernel_rfl) (by kernel_rfl) (fun _ _ _ h => hQ _ _ _ _ _ h) (Or.inl ⟨by kernel_rfl, ?_⟩) ?_; rotate_left; (· (intro w; go_simp; first | done | with_reducible rfl))
    refine wpAny_take (i := 19) (v := ?_) rfl (by kernel_rfl) (by kernel_rfl) (by kernel_rfl) (fun _ _ _ h => hQ _ _ _ _ _ h) (Or.inl ⟨by kernel_rfl, ?_⟩) ?_; rotate_left; (· (intro w; go_simp; first | done | with_reducible rfl))
    refine wpAny_take (i := 20) (v := ?_) rfl (by kernel_rfl) (by kernel_rfl) (by kernel_rfl) (fun _ _ _ h => hQ _ _ _ _ _ h) (Or.inl ⟨by kernel_rfl, ?_⟩) ?_; rotate_left; (· (intro w; go_simp; first | done | with_reducible rfl))
    refine wpAny_ready (rs := [16, 21]) (by kernel_rfl) (by simp) ?_
    refine AllReady.cons rfl (fun K hK => ?_) (AllReady.cons rfl (fun K hK => ?_) AllReady.nil)
    (go_simp; refine hK _ _ ?_; clear hK K; refine wpAny_ready (rs := [21]) (by kernel_rfl) (by simp) ?_; refine AllReady.cons rfl (fun K hK => ?_) AllReady.nil; go_simp; refine hK _ _ ?_; clear hK K)
    rotate_left
    (go_simp; refine hK _ _ ?_; clear hK K; refine wpAny_ready (rs := [16]) (by kernel_rfl) (by simp) ?_; refine AllReady.cons rfl (fun K hK => ?_) AllReady.nil; go_simp; refine hK _ _ ?_; clear hK K)
    all_goals (
      refine wpAny_ready (rs := [22]) (by kernel_rfl) (by simp) ?_; refine AllReady.cons rfl (fun K hK => ?_) AllReady.nil; go_simp
      refine (HCL _ ?_).mono ?_; exact rfl; rintro ee w7 ⟨rfl, hb7'⟩; have hb7 : Below wr.heap.size wr w7 := (Below.refl _ wr).drew.trans hb7'; go_simp; refine hK _ _ ?_; clear hK K
      refine wpAny_take (i := 23) (v := ?_) rfl (by kernel_rfl) (by kernel_rfl) (by kernel_rfl) (fun _ _ _ h => hQ _ _ _ _ _ h) (Or.inl ⟨by kernel_rfl, ?_⟩) ?_; rotate_left; (· (intro w; go_simp; first | done | with_reducible rfl))
      refine wpAny_take (i := 24) (v := ?_) rfl (by kernel_rfl) (by kernel_rfl) (by kernel_rfl) (fun _ _ _ h => hQ _ _ _ _ _ h) (Or.inl ⟨by kernel_rfl, ?_⟩) ?_; rotate_left; (· (intro w; go_simp; first | done | with_reducible rfl))
      refine wpAny_done (by kernel_rfl) ?_ _
      (go_simp; exact HKK.out _ _ _ _ _ _ _ _ _ _ _ _ _ _ _ _ _ _ _ _ _ _ _ _ _ hb7)))
set_option maxHeartbeats 2000000 in
set_option maxRecDepth 100000 in
theorem sameEvs_eq {P Q P' Q' : Nat → Prop} (evs : List (Int × El)) (n : Nat) (ao bo : Option Addr) (c1 c2 : Nat) (xs ys : List Value) (w : World) (hd : ∀ p ∈ evs, deepN n p.2 ∧ lenE n p.2) (hl : evs.length ≤ 1000000000000)
    (h1 : Row P' w (.slice ao evs.length c1) evs.length xs) (h2 : Row Q' w (.slice bo evs.length c2) evs.length ys) (h3 : EvCells P w evs xs) (h4 : EvCells Q w evs ys) :
    Calls Tryd.prog 13 #[.slice ao evs.length c1, .slice bo evs.length c2] w fun e w' => e = .returned (.bool true) ∧ Below w.heap.size w w' := by
  obtain ⟨N, hN⟩ : ∃ N, evs.length = N := ⟨_, rfl⟩
  rw [hN] at hl h1 h2 ⊢
  have HN : Hid _ := hN
  have HD : Hid _ := hd
  have H1 : Hid _ := h1
  have H2 : Hid _ := h2
  have H3 : Hid (EvCells _ _ _ _) := h3
  have H4 : Hid (EvCells _ _ _ _) := h4
  clear hd h1 h2 h3 h4 hN
  go_enter Tryd.func13, Tryd.ntmps13
  go_wp2_with fail
  go_loopw [5] (fun i wr => ∃ j : Nat, j ≤ N ∧ i = .int .i64 (j : Int) ∧ Below w.heap.size w wr) (fun i _ => N - (intOf i).toNat)
  case atStart => exact ⟨0, Nat.zero_le _, rfl, Below.refl _ _⟩
  case round =>
    obtain ⟨j, hj, rfl, hbw⟩ := hrel
    have HBW : Hid (Below w.heap.size w wr) := hbw
    have hsz := hbw.size
    by_cases hlt : j < N
    · obtain ⟨⟨kk, el⟩, hp⟩ : ∃ p, evs[j]? = some p := ⟨_, List.getElem?_eq_getElem (by rw [HN.out]; exact hlt)⟩
      obtain ⟨a1, b1, c1', d1, i0, i1, i2, i3, i4, hE1⟩ := ev_get j H3.out hp
      obtain ⟨a2, b2, c2', d2, j0, j1, j2, j3, j4, hE2⟩ := ev_get j H4.out hp
      obtain ⟨ga, oa, rfl, hga, hca⟩ := row_flat2 H1.out i0
      obtain ⟨gb, ob, rfl, hgb, hcb⟩ := row_flat2 H2.out j0
      obtain ⟨ua, va, ub, vb, rfl, rfl⟩ := hE1.shape
      obtain ⟨rfl, _, rfl, _⟩ := hE1.parts
      obtain ⟨uc, vc, ud, vd, rfl, rfl⟩ := hE2.shape
      obtain ⟨rfl, _, rfl, _⟩ := hE2.parts
      obtain ⟨hdp, hln⟩ := HD.out _ (List.mem_of_getElem? hp)
      have ca : ∀ i v, xs[i]? = some v → wr.cell? ⟨ga, oa + i, none⟩ = some v := fun i v hv => (hbw.cell (p := ⟨ga, oa + i, none⟩) hga).trans (hca i v hv)
      have cb : ∀ i v, ys[i]? = some v → wr.cell? ⟨gb, ob + i, none⟩ = some v := fun i v hv => (hbw.cell (p := ⟨gb, ob + i, none⟩) hgb).trans (hcb i v hv)
      have y0 := ca _ _ i0
      have y1 := ca _ _ i1
      have y2 := ca _ _ i2
      have y3 := ca _ _ i3
      have y4 := ca _ _ i4
      have x0 := cb _ _ j0
      have x1 := cb _ _ j1
      have x2 := cb _ _ j2
      have x3 := cb _ _ j3
      have x4 := cb _ _ j4
      rw [← Nat.add_assoc] at y1 y2 y3 y4 x1 x2 x3 x4
      have HCL : ∀ W : World, W.heap = wr.heap → Calls Tryd.prog 27 #[.agg #[.string ⟨el.nm.toArray⟩, .slice ua el.attrs.length va, .string ⟨el.text.toArray⟩, .slice ub el.kids.length vb], .agg #[.string ⟨el.nm.toArray⟩, .slice uc el.attrs.length vc, .string ⟨el.text.toArray⟩, .slice ud el.kids.length vd]] W fun e w' => e = .returned (.bool true) ∧ Below W.heap.size W w' :=
        fun W e1 => refSame_eq n el _ _ _ _ _ _ _ _ W hdp hln (hE1.step fun k hk hl => ⟨hk, by rw [e1]; exact HBW.out.block k hl⟩) (hE2.step fun k hk hl => ⟨hk, by rw [e1]; exact HBW.out.block k hl⟩)
      have t0 : (0 : Int) ≤ (j : Int) := by omega
      have t1 : (j : Int) < (N : Int) := by omega
      obtain ⟨kn, hkn⟩ : ∃ kn, (⟨el.nm.toArray⟩ : ByteArray) = kn := ⟨_, rfl⟩
      obtain ⟨kt, hkt⟩ : ∃ kt, (⟨el.text.toArray⟩ : ByteArray) = kt := ⟨_, rfl⟩
      obtain ⟨m1, hm1⟩ : ∃ m1, el.attrs.length = m1 := ⟨_, rfl⟩
      obtain ⟨m2, hm2⟩ : ∃ m2, el.kids.length = m2 := ⟨_, rfl⟩
      simp only [hkn, hkt, hm1, hm2] at HCL
      rw [hkn] at y1 x1
      rw [hm1] at y2 x2
      rw [hkt] at y3 x3
      rw [hm2] at y4 x4
      clear ca cb hca hcb i0 i1 i2 i3 i4 j0 j1 j2 j3 j4 hE1 hE2 hp hkn hkt hm1 hm2 hbw hdp hln
      go_wp2_with fail
      refine reg3s ga oa gb ob N c1 c2 j kk _ _ _ _ _ _ _ _ wr _ _ _ _ _ _ _ _ _ _ _ _ _ _ _ _ _ _ _ _ _ _ _ _ _ _ _ _ _ _ _ _ _ _ _ _ _ _ _ t0 t1 y0 y1 y2 y3 y4 x0 x1 x2 x3 x4 HCL _ _ (fun _ d _ _ _ h => by cases d <;> exact h) (fun u17 u18 u19 u20 u21 u22 u23 u24 u25 u26 u27 u28 u29 u30 u31 u32 u33 u34 u35 u36 u37 u38 u39 u40 w7 hb7 => ?_)
      go_wp2_with fail
      go_roundw
      case rel => exact ⟨j + 1, by omega, by go_num, HBW.out.trans (hb7.mono hsz)⟩
      case measure => simp [intOf]; omega
    · have t1 : ¬ (j : Int) < (N : Int) := by omega
      clear hbw
      go_wp2_with fail
      go_ret
      exact ⟨rfl, HBW.out⟩
end Go.Proofs.YthekdgnikkjpdaaDoor
/-
  The document's reading in memory: its item, its events, and what stays of them; plain: where the open element is.
-/
namespace Go.Proofs.YthekdgnikkjpdaaDoor
open Go Go.RowKit
/-- The document's reading of the first tokens. -/
def soFarD (ts : List Tok) (j : Nat) (R : Rs) (evs : List (Int × El)) : Prop :=
  runD rs0 ts = (evs ++ (runD R (ts.drop j)).1, (runD R (ts.drop j)).2.1, (runD R (ts.drop j)).2.2)
theorem soFarD0 (ts : List Tok) : soFarD ts 0 rs0 [] := by simp [soFarD]
theorem soFarD_step {ts : List Tok} {j : Nat} {R R' : Rs} {evs : List (Int × El)} {ev : Option (Int × El)} {t : Tok} (h : soFarD ts j R evs) (ht : ts[j]? = some t) (h0 : stepD R t = .inr (R', ev)) : soFarD ts (j + 1) R' (evs ++ ev.toList) := by
  obtain ⟨hj, e⟩ := List.getElem?_eq_some_iff.1 ht
  unfold soFarD at h ⊢
  rw [h, List.drop_eq_getElem_cons hj, e]
  simp only [runD, h0, List.append_assoc]
theorem soFarD_err {ts : List Tok} {j : Nat} {R : Rs} {evs : List (Int × El)} {t : Tok} {c : Int} (h : soFarD ts j R evs) (ht : ts[j]? = some t) (h0 : stepD R t = .inl c) : runD rs0 ts = (evs, c, 0) := by
  obtain ⟨hj, e⟩ := List.getElem?_eq_some_iff.1 ht
  unfold soFarD at h
  rw [h, List.drop_eq_getElem_cons hj, e]
  simp only [runD, h0, List.append_nil]
theorem soFarD_end {ts : List Tok} {R : Rs} {evs : List (Int × El)} (h : soFarD ts ts.length R evs) : runD rs0 ts = (evs, 0, if R.head ≠ [] ∧ R.foot = false then 1 + (R.deep : Int) else 0) := by
  unfold soFarD at h
  rw [h, List.drop_length]
  simp [runD]
/-- There is an open element. -/
theorem okD_nest : ∀ (l : List El), (∀ e ∈ l, e.kids.length ≤ 16) → okD (nestN l) l.length
  | [], _ => trivial
  | [_], _ => trivial
  | e :: x :: r, h => by
    have h1 := okD_nest (x :: r) fun y hy => h y (List.mem_cons_of_mem _ hy)
    have h2 : (e.put (nestN (x :: r))).kids = e.kids ++ [nestN (x :: r)] := rfl
    show (e.put (nestN (x :: r))).kids ≠ [] ∧ (e.put (nestN (x :: r))).kids.length ≤ 1000 ∧ okD (lastE (e.put (nestN (x :: r))).kids) ((x :: r).length)
    rw [h2, lastE_app]
    exact ⟨by simp, by have := h e (List.mem_cons_self ..); simp; omega, h1⟩
/-- Blocks that neither the item nor the events' row is. -/
def Pz (it : Nat) (v : Value) (k : Nat) : Prop := k ≠ it ∧ v.ownBlock ≠ some k
/-- The document's reading in memory. -/
def RdAt (B it : Nat) (item : El) (evs : List (Int × El)) (v : Value) (w : World) : Prop :=
  ∃ xs a b c d, w.ownsRow B 40 5 v evs.length xs ∧ EvCells (Pz it v) w evs xs ∧ At it #[a, b, c, d] 32 w ∧ ElE (Pz it v) w item a b c d
theorem RdAt.below {B it : Nat} {item : El} {evs : List (Int × El)} {v : Value} {w w' : World} (h : RdAt B it item evs v w) (hb : Below w.heap.size w w') : RdAt B it item evs v w' := by
  obtain ⟨xs, a, b, c, d, h1, h2, h3, h4⟩ := h
  exact ⟨xs, a, b, c, d, owns_below h1 hb, h2.step fun k hk hl => ⟨hk, hb.block k hl⟩, h3.below hb (lt_of_heap h3), h4.step fun k hk hl => ⟨hk, hb.block k hl⟩⟩
theorem RdAt.lt {B it : Nat} {item : El} {evs : List (Int × El)} {v : Value} {w : World} (h : RdAt B it item evs v w) : it < w.heap.size := by
  obtain ⟨xs, a, b, c, d, h1, h2, h3, h4⟩ := h
  exact lt_of_heap h3
theorem RdAt.cells {B it : Nat} {item : El} {evs : List (Int × El)} {v : Value} {w : World} (h : RdAt B it item evs v w) : ∃ ao1 c1 ao2 c2, At it #[.string ⟨item.nm.toArray⟩, .slice ao1 item.attrs.length c1, .string ⟨item.text.toArray⟩, .slice ao2 item.kids.length c2] 32 w ∧ ElE (Pz it v) w item (.string ⟨item.nm.toArray⟩) (.slice ao1 item.attrs.length c1) (.string ⟨item.text.toArray⟩) (.slice ao2 item.kids.length c2) := by
  obtain ⟨xs, a, b, c, d, h1, h2, h3, h4⟩ := h
  obtain ⟨ao1, c1, ao2, c2, rfl, rfl⟩ := h4.shape
  obtain ⟨rfl, _, rfl, _⟩ := h4.parts
  exact ⟨_, _, _, _, h3, h4⟩
theorem At.c4 {it : Nat} {a b c d : Value} {w : World} (h : At it #[a, b, c, d] 32 w) : w.cell? ⟨it, 0, none⟩ = some a ∧ w.cell? ⟨it, 1, none⟩ = some b ∧ w.cell? ⟨it, 2, none⟩ = some c ∧ w.cell? ⟨it, 3, none⟩ = some d := by
  unfold At at h
  refine ⟨?_, ?_, ?_, ?_⟩ <;> simp [World.cell?, h]
theorem At.f4 {it : Nat} {a b c d : Value} {w : World} (h : At it #[a, b, c, d] 32 w) (o : Nat) : w.frozen? ⟨it, o, none⟩ = false := by
  unfold At at h
  simp [World.frozen?, h]
/-- The item is put anew. -/
theorem RdAt.put {B it : Nat} {item item' : El} {evs : List (Int × El)} {v a b c d : Value} {P : Nat → Prop} {w w' : World} (h : RdAt B it item evs v w) (hB : it < B) (hel : ElE P w item' a b c d) (hP : ∀ k, P k → k < w.heap.size → Pz it v k)
    (hw : w'.heap = ((((w.setCell ⟨it, 0, none⟩ a).setCell ⟨it, 1, none⟩ b).setCell ⟨it, 2, none⟩ c).setCell ⟨it, 3, none⟩ d).heap) : RdAt B it item' evs v w' := by
  obtain ⟨xs, a0, b0, c0, d0, h1, h2, h3, h4⟩ := h
  have sm : ∀ k, k ≠ it → w'.heap[k]? = w.heap[k]? := fun k hk => by
    rw [hw, Below.heap_setCell _ _ _ _ hk, Below.heap_setCell _ _ _ _ hk, Below.heap_setCell _ _ _ _ hk, Below.heap_setCell _ _ _ _ hk]
  refine ⟨xs, a, b, c, d, owns_same h1 fun k hk => sm k ?_, h2.step fun k hk _ => ⟨hk, sm k hk.1⟩, ?_, hel.step fun k hk hl => ⟨hP k hk hl, sm k (hP k hk hl).1⟩⟩
  · have := (h1.lt k hk).1
    omega
  · have := ((((h3.set 0 a).set 1 b).set 2 c).set 3 d)
    show _ = _
    rw [hw]
    exact this
/-- One more event. -/
theorem RdAt.app {B it : Nat} {item el : El} {evs : List (Int × El)} {v v1 a b c d i0 i1 i2 i3 : Value} {kk : Int} {xs : List Value} {Z w4 : World} (hB : it < B) (ho : Z.ownsRow B 40 5 v evs.length xs) (hev : EvCells (Pz it v) Z evs xs) (hat : At it #[i0, i1, i2, i3] 32 Z) (hit : ElE (Pz it v) Z item i0 i1 i2 i3) (hel : ElE (Pz it v) Z el a b c d)
    (ho4 : w4.ownsRow B 40 5 v1 (evs.length + 1) (xs ++ [.int .i64 kk, a, b, c, d])) (hg : Z.grownBy w4 v.ownBlock) (hloc : v1.ownBlock = v.ownBlock ∨ v1.ownBlock = some Z.heap.size) : RdAt B it item (evs ++ [(kk, el)]) v1 w4 := by
  have hs : ∀ k, Pz it v k → k < Z.heap.size → Pz it v1 k ∧ w4.heap[k]? = Z.heap[k]? := fun k hk hl => by
    refine ⟨⟨hk.1, ?_⟩, hg.block k hl fun e => hk.2 e.symm⟩
    rcases hloc with h | h
    · rw [h]; exact hk.2
    · rw [h]
      intro e
      have := Option.some.inj e
      omega
  refine ⟨_, i0, i1, i2, i3, by rw [List.length_append]; exact ho4, (hev.step hs).app ⟨a, b, c, d, [], rfl, hel.step hs, rfl⟩, hat.grown hg fun e => ?_, hit.step hs⟩
  have := (ho.lt it e.symm).1
  omega
end Go.Proofs.YthekdgnikkjpdaaDoor
