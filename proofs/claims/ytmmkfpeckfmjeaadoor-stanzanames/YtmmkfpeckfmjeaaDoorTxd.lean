/-
  The contract of kindOf over this program.
-/
import Derived.Test.YtmmkfpeckfmjeaaDoorTxc
namespace Go.Proofs.YtmmkfpeckfmjeaaDoor
open Go Go.RowKit Go.Maps
theorem MJ.below {m : Nat} {w w' : World} (h : MJ m w) (hb : RowKit.Below w.heap.size w w') : MJ m w' := by
  obtain ⟨n, D, ⟨es, clock, h1, h2⟩, h3⟩ := h
  refine ⟨n, D, ⟨es, clock, (hb.block m (lt_of_heap h1)).trans h1, h2⟩, fun i q1 q2 => ?_⟩
  obtain ⟨v, r1, r2⟩ := h3 i q1 q2
  exact ⟨v, r1, r2.step (.below hb)⟩
theorem MJ.look {m i : Nat} {w : World} (h : MJ m w) (h1 : 1 ≤ i) (h2 : i ≤ 14) :
    ∃ v, (Instr.lookup 50 (.map (some m)) (.int .i64 (i : Int)) false).run Tryd.prog w = .ok v w ∧ NRes (fun k => k ≠ m) 3 (shapeN i) w v := by
  obtain ⟨n, D, q1, q2⟩ := h
  obtain ⟨v, r1, r2⟩ := q2 i h1 h2
  obtain ⟨u, ps, hrun, hu⟩ := q1.lookup keyLaw Tryd.underlying50 (zero59_run w) (show heldR (.agg zero59) = some (.held (.agg zero59), []) from rfl) (keyOf_int_mk Tryd.underlying3 (key_wf i (by omega)))
  rw [r1] at hu
  have e : u = v := by
    unfold heldR at hu
    have := Option.some.inj hu
    exact DataW.held.inj (Prod.mk.inj this).1
  rw [e] at hrun
  exact ⟨v, hrun, r2⟩
theorem field59 (a b c d e f : Value) (W : World) : (Instr.field 59 (.agg #[a, b, c, d, e, f]) 0).run Tryd.prog W = .ok (.agg #[a, b, c]) W := by kernel_rfl
def kindU (e : El) : Nat → Nat → Nat
  | 0, _ => 0
  | n + 1, i => if meantN (shapeN i) e then i else kindU e n (i + 1)
/-- The least kind of which an element is meant to be, or 0. -/
def kindN (e : El) : Nat := kindU e 14 1
theorem iq_fds (i : Nat) : (shapeN i).nm = [105, 113] → (shapeN i).fds ≠ [] := by
  unfold shapeN
  split <;> (intro h; first | exact List.cons_ne_nil _ _ | exact absurd h (by decide))
theorem kindU_le (e : El) : ∀ n i, kindU e n i ≤ n + i
  | 0, _ => Nat.zero_le _
  | n + 1, i => by
    unfold kindU
    split
    · omega
    · have := kindU_le e n (i + 1); omega
set_option maxHeartbeats 2000000 in
set_option maxRecDepth 100000 in
theorem kindOf_any {P : Nat → Prop} (x : El) (m : Nat) (a b c d : Value) (w : World) (h1 : ElE P w x a b c d) (hz : szE 1 x) (hV : Va w) (hM : MJ m w) :
    Calls Tryd.prog 20 #[.agg #[a, b, c, d], .map (some m)] w fun e w' => e = .returned (.int .i64 (kindN x : Int)) ∧ Below w.heap.size w w' := by
  have HK : Hid (∀ W, Below w.heap.size w W → ∀ j : Nat, 1 ≤ j → j ≤ 14 → ∃ s ao1 n1 c1 F cap ao k kc, (Instr.lookup 50 (.map (some m)) (.int .i64 (j : Int)) false).run Tryd.prog W = .ok (.agg #[.string s, .slice ao1 n1 c1, .func (.func F) #[] cap, .int .i64 ((shapeN j).least : Int), .int .i64 ((shapeN j).most : Int), .slice ao k kc]) W ∧
      Calls Tryd.prog 44 #[.agg #[.string s, .slice ao1 n1 c1, .func (.func F) #[] cap], .agg #[a, b, c, d]] W fun e w' => e = .returned (.bool (meantN (shapeN j) x)) ∧ Below W.heap.size W w') := fun W hb j j1 j2 => by
    obtain ⟨v, r1, ao1, n1, c1, F, cap, ao, k, kc, rfl, hn⟩ := (hM.below hb).look j1 j2
    obtain ⟨_, hF, _⟩ := hn
    exact ⟨_, ao1, n1, c1, F, cap, ao, k, kc, r1, meant_any (shapeN j) ao1 n1 c1 F cap x a b c d W hF (h1.below hb) hz (hV.below hb) (iq_fds j)⟩
  obtain ⟨ao1, cap1, ao2, cap2, rfl, rfl⟩ := h1.shape
  obtain ⟨rfl, _, rfl, _⟩ := h1.parts
  obtain ⟨s1, hs1⟩ : ∃ s1, (⟨x.nm.toArray⟩ : ByteArray) = s1 := ⟨_, rfl⟩
  obtain ⟨s2, hs2⟩ : ∃ s2, (⟨x.text.toArray⟩ : ByteArray) = s2 := ⟨_, rfl⟩
  obtain ⟨n1, hn1⟩ : ∃ n1, x.attrs.length = n1 := ⟨_, rfl⟩
  obtain ⟨n2, hn2⟩ : ∃ n2, x.kids.length = n2 := ⟨_, rfl⟩
  obtain ⟨KN, hKN⟩ : ∃ k, kindN x = k := ⟨_, rfl⟩
  simp only [hs1, hs2, hn1, hn2, hKN] at HK ⊢
  have HN : Hid (kindU x 14 1 = KN) := hKN
  clear h1 hs1 hs2 hn1 hn2 hKN hz hV hM
  go_enter Tryd.func20, Tryd.ntmps20
  go_wp2_with fail
  go_loopw [4, 5, 6, 7] (fun _ i _ _ wr => ∃ j : Nat, 1 ≤ j ∧ j ≤ 15 ∧ i = .int .i64 (j : Int) ∧ Hid (kindU x (15 - j) j = KN) ∧ Hid (Below w.heap.size w wr) ∧ Hid (wr.cell? ⟨w.heap.size, 0, none⟩ = some (.string s1) ∧ wr.cell? ⟨w.heap.size, 1, none⟩ = some (.slice ao1 n1 cap1) ∧ wr.cell? ⟨w.heap.size, 2, none⟩ = some (.string s2) ∧ wr.cell? ⟨w.heap.size, 3, none⟩ = some (.slice ao2 n2 cap2) ∧ w.heap.size < wr.heap.size)) (fun _ i _ _ _ => 15 - (intOf i).toNat)
  case atStart => exact ⟨1, Nat.le_refl _, by omega, rfl, HN, bw0 w _, cell_new w _ _ 0 _ rfl, cell_new w _ _ 1 _ rfl, cell_new w _ _ 2 _ rfl, cell_new w _ _ 3 _ rfl, by simp⟩
  case round =>
    obtain ⟨j, j1, j2, rfl, HJ, HBW, HCC⟩ := hrel
    obtain ⟨c0, c1, c2, c3, hws⟩ := HCC.out
    by_cases hlt : j ≤ 14
    · obtain ⟨s, xo1, m1, q1, F, cap, xo, k, kc, hL, hC⟩ := HK.out _ HBW.out j j1 hlt
      have hj1 : (j : Int) ≤ 14 := by omega
      have hfd := field59
      have hst : kindU x (15 - j) j = if meantN (shapeN j) x then j else kindU x (15 - (j + 1)) (j + 1) := by
        have : 15 - j = (15 - (j + 1)) + 1 := by omega
        rw [this]
        rfl
      obtain ⟨l1, hl1⟩ : ∃ l1, ((shapeN j).least : Int) = l1 := ⟨_, rfl⟩
      obtain ⟨l2, hl2⟩ : ∃ l2, ((shapeN j).most : Int) = l2 := ⟨_, rfl⟩
      rw [hl1, hl2] at hL
      cases hm : meantN (shapeN j) x with
      | true =>
        rw [hm] at hC
        have HJ2 : Hid (j = KN) := by
          show _ = _
          rw [← HJ.out, hst, hm, if_pos rfl]
        clear hst hm hl1 hl2 HCC
        go_wp2_with (go_at_call 44; refine hC.mono ?_; rintro e w2 ⟨rfl, hb2⟩; have HB2 : Hid (Below w.heap.size w w2) := HBW.out.trans (hb2.mono HBW.out.size); clear hb2)
        go_ret
        exact ⟨by rw [HJ2.out]; rfl, HB2.out⟩
      | false =>
        rw [hm] at hC
        have HJ2 : Hid (kindU x (15 - (j + 1)) (j + 1) = KN) := by
          show _ = _
          rw [← HJ.out, hst, hm, if_neg (by decide)]
        clear hst hm hl1 hl2 HCC
        go_wp2_with (go_at_call 44; refine hC.mono ?_; rintro e w2 ⟨rfl, hb2⟩; have HB2 : Hid (Below w.heap.size w w2) := HBW.out.trans (hb2.mono HBW.out.size); have HC2 : Hid (w2.cell? ⟨w.heap.size, 0, none⟩ = some (.string s1) ∧ w2.cell? ⟨w.heap.size, 1, none⟩ = some (.slice ao1 n1 cap1) ∧ w2.cell? ⟨w.heap.size, 2, none⟩ = some (.string s2) ∧ w2.cell? ⟨w.heap.size, 3, none⟩ = some (.slice ao2 n2 cap2) ∧ w.heap.size < w2.heap.size) := ⟨(hb2.cell hws).trans c0, (hb2.cell hws).trans c1, (hb2.cell hws).trans c2, (hb2.cell hws).trans c3, Nat.lt_of_lt_of_le hws hb2.size⟩; clear hb2)
        go_roundw
        case rel => exact ⟨j + 1, by omega, by omega, by go_num, HJ2, HB2, HC2⟩
        case measure => simp [intOf]; omega
    · have hj1 : ¬ (j : Int) ≤ 14 := by omega
      have HJ2 : Hid (0 = KN) := by
        show _ = _
        rw [← HJ.out, show 15 - j = 0 by omega]
        rfl
      clear HCC
      go_wp2_with fail
      go_ret
      exact ⟨by rw [← HJ2.out]; rfl, HBW.out⟩
end Go.Proofs.YtmmkfpeckfmjeaaDoor
