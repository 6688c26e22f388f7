/-
  The walk of the statement TreesSame over this program.
-/
import Derived.Test.YthekdgnikkjpdaaDoorCutc
import Derived.Test.YthekdgnikkjpdaaDoorSamf
import Derived.Test.YthekdgnikkjpdaaDoorDeepw
import Derived.Laws.AppendOwnNone
import Derived.Lib.Hide
import Derived.Deep.DeepCutAuto
import Derived.Test.YthekdgnikkjpdaaDoorRegF
namespace Go.Proofs.YthekdgnikkjpdaaDoor
open Go Go.RowKit
theorem wpList_append_copy {P : Program} {w : World} {ops : Array Oper} {rest : List Oper} {o : Oper} {a : Act} {Q : Exit → Act → World → Prop} (hgd : o.guard = none) (s x : Operand) (t : TypeId)
    (ho : o.op = .call { callee := .builtin .append, args := #[s, x], argTypes := #[t, t] })
    (base : Nat) (e : TypeId) (i : TypeInfo) (z : Value) (size bytes : Nat) (ht : P.underlying t = some (.slice e)) (hi : P.info? e = some i) (hz : i.zero = some z)
    (hsize : i.size = size) (hby : i.bytes = bytes) (hzs : z.cells.size = size) (hsz : 0 < size) (hs : a.eval s = .slice none 0 0)
    (ao : Option Addr) (m c : Nat) (news : List Value) (hx : a.eval x = .slice ao m c) (hnil : ao = none → c = 0) (hl : news.length = m * size)
    (hrow : ∀ (j : Nat) (u : Value), news[j]? = some u → ∃ ad, ao = some ad ∧ w.cell? (ad.add j) = some u) (h1 : ∀ u ∈ news, u.oneCell' = true)
    (h63 : m ≤ maxLen) (hbytes : m * bytes ≤ 140737488355328) (hbase : base ≤ w.heap.size)
    (h : ∀ v' w', w'.ownsRow base e size v' m news → w.grownBy w' none → wpList P ops Q rest (a.put o.dst v') w') : wpList P ops Q (o :: rest) a w := by
  cases ao with
  | none =>
    obtain rfl := hnil rfl
    have hm : m = 0 := by
      rcases Nat.eq_zero_or_pos m with h0 | h0
      · exact h0
      · have h2 : 0 < news.length := by rw [hl]; exact Nat.mul_pos h0 hsz
        obtain ⟨ad, h3, _⟩ := hrow 0 _ (List.getElem?_eq_getElem h2)
        cases h3
    subst hm
    obtain rfl : news = [] := List.length_eq_zero_iff.1 (by rw [hl, Nat.zero_mul])
    exact wpList_append_own_none hgd s x t ho base e i size ht hi _ _ _ hs (World.ownsRow_nil w base e size) hx (h _ _ (World.ownsRow_nil w base e size) ⟨rfl, rfl, rfl, Nat.le_refl _, fun _ _ _ => rfl⟩)
  | some ad =>
    refine wpList_append_own w hgd s x t ho base e i z size bytes ht hi hz hsize hby hzs hsz _ _ _ hs (World.ownsRow_nil w base e size) ad m c news hx hl (fun j u hu => ?_) h1 (by omega) (by rw [Nat.zero_add]; exact hbytes) hbase fun v' w' h2 h3 _ => ?_
    · obtain ⟨ad', h3, h4⟩ := hrow j u hu
      cases h3
      exact h4
    · rw [Nat.zero_add, List.nil_append] at h2
      exact h v' w' h2 h3
theorem small_cut : ∀ (r : Nat) (top : Bool) (n : Nat) (e : El), (∀ n, smallE n e) → smallE n (cutE r top e)
  | _, _, 0, _, _ => trivial
  | 0, _, n + 1, e, h => by
    obtain ⟨h1, h2, h3, _, _⟩ := h (n + 1)
    refine ⟨?_, ?_, fun p hp => h3 p (List.mem_of_mem_take hp), Nat.zero_le _, fun k hk => by cases hk⟩
    · show (e.text.take 40).length ≤ _
      rw [List.length_take]; omega
    · show (e.attrs.take 8).length ≤ _
      rw [List.length_take]; omega
  | r + 1, top, n + 1, e, h => by
    obtain ⟨h1, h2, h3, h4, h5⟩ := h (n + 1)
    refine ⟨?_, ?_, fun p hp => h3 p (List.mem_of_mem_take hp), ?_, fun k hk => ?_⟩
    · show (e.text.take 40).length ≤ _
      rw [List.length_take]; omega
    · show (e.attrs.take 8).length ≤ _
      rw [List.length_take]; omega
    · show ((e.kids.take (if top then 18 else 3)).map (cutE r false)).length ≤ _
      rw [List.length_map, List.length_take]; omega
    · obtain ⟨q, hq, rfl⟩ := List.mem_map.1 hk
      exact small_cut r false n q fun j => (h (j + 1)).2.2.2.2 q (List.mem_of_mem_take hq)
theorem small_chg (e : El) (h : ∀ n, smallE n e) (ht : e.text.length ≤ 40) (ha : e.attrs.length ≤ 8) (hk : e.kids.length ≤ 18) (j : Nat) (hj : j < 4) : smallE 4 (chg e j) := by
  obtain ⟨h1, h2, h3, h4, h5⟩ := h 4
  match j, hj with
  | 0, _ => exact ⟨h1, h2, h3, h4, h5⟩
  | 1, _ =>
    refine ⟨?_, h2, h3, h4, h5⟩
    show (e.text ++ [122]).length ≤ _
    rw [List.length_append, List.length_singleton]; omega
  | 2, _ =>
    refine ⟨h1, ?_, fun p hp => ?_, h4, h5⟩
    · show (e.attrs ++ [([122, 122], [])]).length ≤ _
      rw [List.length_append, List.length_singleton]; omega
    · rcases List.mem_append.1 hp with q | q
      · exact h3 p q
      · rw [List.mem_singleton.1 q]; decide
  | 3, _ =>
    refine ⟨h1, h2, h3, ?_, fun k hk' => ?_⟩
    · show (e.kids ++ [zzE]).length ≤ _
      rw [List.length_append, List.length_singleton]; omega
    · rcases List.mem_append.1 hk' with q | q
      · exact h5 k q
      · rw [List.mem_singleton.1 q]
        exact ⟨(by decide), (by decide), (fun p hp => by cases hp), (by decide), (fun k hk => by cases hk)⟩
theorem cut_few (e : El) : (cutE 5 true e).text.length ≤ 40 ∧ (cutE 5 true e).attrs.length ≤ 8 ∧ (cutE 5 true e).kids.length ≤ 18 := by
  refine ⟨?_, ?_, ?_⟩
  · show (e.text.take 40).length ≤ 40
    rw [List.length_take]; omega
  · show (e.attrs.take 8).length ≤ 8
    rw [List.length_take]; omega
  · show ((e.kids.take 18).map (cutE 4 false)).length ≤ 18
    rw [List.length_map, List.length_take]; omega
theorem store4 {w w2 : World} {H : Nat} {e : El} {x0 x1 x2 x3 a b c d : Value} (hA : At w.heap.size #[x0, x1, x2, x3] 32 w2) (hH : w.heap.size < H) (hE : ElE (fun k => k < w.heap.size ∨ H ≤ k) w2 e a b c d) (hb : Below w.heap.size w w2) :
    ∃ w3, ((((w2.setCell ⟨w.heap.size, 0, none⟩ a).setCell ⟨w.heap.size, 1, none⟩ b).setCell ⟨w.heap.size, 2, none⟩ c).setCell ⟨w.heap.size, 3, none⟩ d) = w3 ∧ At w.heap.size #[a, b, c, d] 32 w3 ∧ ElE (fun k => k ≠ w.heap.size) w3 e a b c d ∧ Below w.heap.size w w3 := by
  refine ⟨_, rfl, (((hA.set 0 _).set 1 _).set 2 _).set 3 _, hE.step fun j hj _ => ?_, (((hb.setCell (Nat.le_refl _) _).setCell (Nat.le_refl _) _).setCell (Nat.le_refl _) _).setCell (Nat.le_refl _) _⟩
  have hne : j ≠ w.heap.size := by rcases hj with h | h <;> omega
  refine ⟨hne, ?_⟩
  rw [Below.heap_setCell _ _ _ j hne, Below.heap_setCell _ _ _ j hne, Below.heap_setCell _ _ _ j hne, Below.heap_setCell _ _ _ j hne]
theorem ba1 (w : World) (o : Obj) : Below w.heap.size w (w.alloc o) := (Below.refl _ _).alloc (Nat.le_refl _) o
set_option maxHeartbeats 2000000 in
set_option maxRecDepth 100000 in
theorem same_walk (m : Nat) (e0 : El) (ao1 ao2 : Option Addr) (n1 n2 cap1 cap2 : Nat) (w : World) (hT : Tabs w) (hsm : ∀ n, smallE n e0)
    (hE : ElAt (fun k => k < w.heap.size) w m e0 (.string ⟨e0.nm.toArray⟩) (.slice ao1 n1 cap1) (.string ⟨e0.text.toArray⟩) (.slice ao2 n2 cap2)) (hcap : CapE w 6 (.slice ao1 n1 cap1) (.slice ao2 n2 cap2)) :
    Calls Tryd.prog 6 #[.agg #[.string ⟨e0.nm.toArray⟩, .slice ao1 n1 cap1, .string ⟨e0.text.toArray⟩, .slice ao2 n2 cap2]] w fun e w' => e = .returned (.bool true) ∧ Below w.heap.size w w' := by
  have hT3 := hT.size
  have HT : Hid (Tabs w) := hT
  have HLV := fun W (hb : Below w.heap.size w W) => livesT_any W (HT.out.below hT3 hb)
  have HC := fun W (hb : Below w.heap.size w W) => cutEl_any w.heap.size 5 true 1 m e0 ao1 ao2 n1 n2 cap1 cap2 W rfl (Nat.le_refl _) rfl hb.size (hE.step (row_below hb)) (hcap.below hb)
  obtain ⟨e, he⟩ : ∃ e, cutE 5 true e0 = e := ⟨_, rfl⟩
  rw [he] at HC
  have HEE : Hid _ := he
  obtain ⟨s1, hs1⟩ : ∃ t : ByteArray, (⟨e0.nm.toArray⟩ : ByteArray) = t := ⟨_, rfl⟩
  obtain ⟨s2, hs2⟩ : ∃ t : ByteArray, (⟨e0.text.toArray⟩ : ByteArray) = t := ⟨_, rfl⟩
  rw [hs1, hs2] at HC ⊢
  clear hT he hs1 hs2 hE hcap
  go_enter Tryd.func6, Tryd.ntmps6
  go_wp2_with (first
    | (go_at_call 8; refine (HLV _ (ba1 w _)).mono ?_; rintro ee w1 ⟨rfl, hb1⟩
       have hA0 : At w.heap.size #[.string s1, .slice ao1 n1 cap1, .string s2, .slice ao2 n2 cap2] 32 w1 := (At.below (heap_alloc_new w _) hb1 (by simp))
       have hbw1 : Below w.heap.size w w1 := ((ba1 w _).trans (hb1.mono (ba1 w _).size))
       obtain ⟨c0, c1, c2, c3⟩ := el4 hA0
       have fz : ∀ o, w1.frozen? ⟨w.heap.size, o, none⟩ = false := (Lib.frozen_of_heap hA0))
    | (go_at_call 15; refine (HC _ hbw1).mono ?_; rintro ee w2 ⟨⟨b1, k1, d1, b2, k2, d2, rfl, hres, hnil1, hnil2⟩, hb2⟩; refine Hid.out ?_))
  refine Lib.hid ?_
  have HRES : Hid _ := hres
  have hbw2 := hbw1.trans (hb2.mono hbw1.size)
  have hA2 := hA0.below hb2 (lt_of_heap hA0)
  obtain ⟨w3, hw3, hA3, hE3, hbw3⟩ := store4 hA2 (lt_of_heap hA0) HRES.out hbw2
  obtain ⟨p0, p1, p2, p3⟩ := el4 hA2
  have fz2 : ∀ o, w2.frozen? ⟨w.heap.size, o, none⟩ = false := Lib.frozen_of_heap hA2
  obtain ⟨q0, q1, q2, q3⟩ := el4 hA3
  obtain ⟨mm, hEm⟩ := id hE3
  have hsm4 : smallE 4 e := by rw [← HEE.out]; exact small_cut 5 true 4 e0 hsm
  obtain ⟨ws, wf, hws⟩ : ∃ ws wf, writeN e = (ws, wf) := ⟨_, _, rfl⟩
  have HW := write_any mm e _ _ _ _ _ _ _ _ w3 (HT.out.below hT3 hbw3) hsm4 hEm
  rw [hws] at HW
  obtain ⟨nm, hnm⟩ : ∃ t : ByteArray, (⟨e.nm.toArray⟩ : ByteArray) = t := ⟨_, rfl⟩
  obtain ⟨tx, htx⟩ : ∃ t : ByteArray, (⟨e.text.toArray⟩ : ByteArray) = t := ⟨_, rfl⟩
  rw [hnm] at hw3 q0 HW ⊢
  rw [htx] at hw3 q2 HW ⊢
  have HE3 : Hid _ := hE3
  have HA3 : Hid _ := hA3
  have HWS : Hid _ := hws
  have HNM : Hid _ := hnm
  have HTX : Hid _ := htx
  have HHS : Hid _ := hsm
  clear hA0 hA2 hA3 hE3 hEm hws hnm htx hb1 hb2 hbw1 hbw2 c0 c1 c2 c3 fz hres HC HLV hsm hsm4
  go_wp2_with (first
    | (go_at_call 16; refine HW.mono ?_; rintro ee w4 ⟨rfl, hb4⟩; refine Hid.out ?_))
  refine Lib.hid ?_
  have hA4 := At.below HA3.out hb4 (lt_of_heap HA3.out)
  have hbw4 : Below w.heap.size w w4 := hbw3.trans (hb4.mono hbw3.size)
  have HE4 : Hid (ElE (fun k => k ≠ w.heap.size) w4 e (.string ⟨e.nm.toArray⟩) (.slice b1 k1 d1) (.string ⟨e.text.toArray⟩) (.slice b2 k2 d2)) := ElE.step (row_below hb4) HE3.out
  obtain ⟨u0, u1, u2, u3⟩ := el4 hA4
  rw [HNM.out] at u0
  rw [HTX.out] at u2
  have HA4 : Hid _ := hA4
  clear hA4 hw3 q0 q1 q2 q3 p0 p1 p2 p3 fz2 HA3 HE3 HW
  cases hr : rightE 4 e with
  | false =>
    have hw := HWS.out
    unfold writeN at hw
    rw [hr, if_neg (by decide)] at hw
    obtain ⟨rfl, rfl⟩ := Prod.mk.inj hw
    clear hw
    go_wp2_with fail
    go_ret
    exact ⟨rfl, hbw4⟩
  | true =>
    have hw := HWS.out
    unfold writeN at hw
    rw [hr, if_pos rfl] at hw
    obtain ⟨rfl, rfl⟩ := Prod.mk.inj hw
    clear hw
    obtain ⟨ws, hws⟩ : ∃ t : ByteArray, (⟨(textE 4 e).toArray⟩ : ByteArray) = t := ⟨_, rfl⟩
    obtain ⟨tz, htz⟩ : ∃ t : ByteArray, (⟨(e.text ++ [122]).toArray⟩ : ByteArray) = t := ⟨_, rfl⟩
    have g1 : ∀ W, (Op.stringOp .add tx ⟨#[122]⟩).run Tryd.prog W = .ok (.string tz) W := fun W => by
      have hl : e.text.length ≤ 2000000 := by rw [← HEE.out]; exact (small_cut 5 true 1 e0 HHS.out).1
      rw [← HTX.out, ← htz]
      refine (run_string_add_sum W _ _ (by show e.text.toArray.size + 1 ≤ _; rw [List.size_toArray]; omega)).trans ?_
      congr 2
    rw [hws]
    have z4 : w.heap.size < w4.heap.size := lt_of_heap HA4.out
    have ua : ∀ o i, (w4.alloc o).cell? ⟨w.heap.size, i, none⟩ = w4.cell? ⟨w.heap.size, i, none⟩ := fun o i => World.cell?_of_block (w := w4) (Below.heap_alloc w4 _ w.heap.size z4)
    have HWW : Hid _ := hws
    have HTZ : Hid _ := htz
    have HR : Hid _ := hr
    clear hws htz hr
    obtain ⟨_, hRA, _, xs, hRK, hKK⟩ := HE4.out.parts
    have ek1 : k1 = e.attrs.length := by obtain ⟨_, _, q, _⟩ := id hRA; exact (Value.slice.inj q).2.1
    have ek2 : k2 = e.kids.length := by obtain ⟨_, _, q, _⟩ := id hRK; exact (Value.slice.inj q).2.1
    have hRA' : ∀ (j : Nat) (u : Value), (pairCells e.attrs)[j]? = some u → ∃ ad, b1 = some ad ∧ ad.block < w4.heap.size ∧ w4.cell? (ad.add j) = some u := fun j u hu => by
      obtain ⟨ao', cap', q, q2⟩ := id hRA
      obtain ⟨rfl, _, rfl⟩ := Value.slice.inj q
      obtain ⟨ad, r1, _, r3⟩ := q2 j u hu
      exact ⟨ad, r1, by have := lt_of_cell r3; rwa [block_add] at this, r3⟩
    have hRK' : ∀ (j : Nat) (u : Value), xs[j]? = some u → ∃ ad, b2 = some ad ∧ ad.block < w4.heap.size ∧ w4.cell? (ad.add j) = some u := fun j u hu => by
      obtain ⟨ao', cap', q, q2⟩ := id hRK
      obtain ⟨rfl, _, rfl⟩ := Value.slice.inj q
      obtain ⟨ad, r1, _, r3⟩ := q2 j u hu
      exact ⟨ad, r1, by have := lt_of_cell r3; rwa [block_add] at this, r3⟩
    have RA : Hid _ := hRA'
    have RK : Hid _ := hRK'
    have KK : Hid (KidsAt _ _ _) := hKK
    have E1 : Hid (k1 = e.attrs.length) := ek1
    have E2 : Hid (k2 = e.kids.length) := ek2
    have NL1 : Hid _ := hnil1
    have NL2 : Hid _ := hnil2
    obtain ⟨hb1k, hb2k⟩ : k1 ≤ 2000000 ∧ k2 ≤ 2000000 := by
      have := small_cut 5 true 1 e0 HHS.out
      rw [HEE.out] at this
      exact ⟨by rw [ek1]; exact this.2.1, by rw [ek2]; exact this.2.2.2.1⟩
    obtain ⟨i1, hi1, hy0, hy1, hy2⟩ := info_parts info55
    obtain ⟨i0, hi, hz0, hz1, hz2⟩ := info_parts info32
    clear hRA hRK hKK ek1 ek2 hRA' hRK' hnil1 hnil2
    go_wp2_with (first
      | (at_builtin; refine wpList_append_copy rfl (.const (.slice none 0 0)) (.tmp 38) 29 rfl (w4.heap.size + 1) 55 i1 _ 2 32 Tryd.underlying29 hi1 hy0 hy1 hy2 rfl (by decide) rfl b1 k1 d1 (pairCells e.attrs) rfl NL1.out (by rw [pairCells_length, E1.out]) (fun j u hu => ?_) (pair_one e.attrs) (by unfold maxLen; omega) (by omega) (by simp) ?_
         · (obtain ⟨ad, r1, r2, r3⟩ := RA.out j u hu
            exact ⟨ad, r1, (World.cell?_of_block (w := w4) (Below.heap_alloc w4 _ _ (by rw [block_add]; exact r2))).trans r3⟩)
         intro v1 w5 hown1 hgrow1)
      | (at_builtin; refine wpList_append_own _ rfl (.tmp 39) (.tmp 41) 29 rfl (w4.heap.size + 1) 55 i1 _ 2 32 Tryd.underlying29 hi1 hy0 hy1 hy2 rfl (by decide) _ _ _ rfl (World.ownsRow.alloc hown1 _) ⟨w5.heap.size, 0, none⟩ 1 1 [.string ⟨#[122, 122]⟩, .string ⟨#[]⟩] rfl rfl (World.news_of_block (cs := #[.string ⟨#[122, 122]⟩, .string ⟨#[]⟩]) (t := 55) (fr := (0, 0)) (heap_alloc_new w5 _)) (by simp [Value.oneCell']) (by unfold maxLen; omega) (by omega) (by have := hgrow1.size; simp at this ⊢; omega) ?_
         intro v2 w6 hown2 hgrow2 _; refine Hid.out ?_))
    refine Lib.hid ?_
    have l1 : ∀ g, v1.ownBlock = some g → w4.heap.size + 1 ≤ g := fun g hg => (World.ownsRow.lt hown1 g hg).1
    have hs5 : w4.heap.size + 1 ≤ w5.heap.size := by have := hgrow1.size; simp at this; exact this
    have hs6 : w5.heap.size + 1 ≤ w6.heap.size := by have := hgrow2.size; simp at this; exact this
    have aC5 := At.grown (heap_alloc_new w4 _) hgrow1 (fun e => by cases e)
    have aC6 := (At.alloc aC5 (.cells #[.string ⟨#[122, 122]⟩, .string ⟨#[]⟩] 55)).grown hgrow2 (fun e => by have := l1 _ e.symm; omega)
    have hb5 : Below w4.heap.size w4 w5 := (ba1 w4 _).grown hgrow1 (by simp) (fun g hg => by cases hg)
    have hb6 : Below w4.heap.size w4 w6 := (hb5.alloc hb5.size _).grown hgrow2 (by simp; omega) (fun g hg => by have := l1 g hg; omega)
    have hsh2 : ∃ g2 cp2, v2 = .slice (some ⟨g2, 0, none⟩) (k1 + 1) cp2 ∧ w4.heap.size + 1 ≤ g2 ∧ g2 < w6.heap.size := by
      obtain ⟨_, h0 | ⟨g, cp, cur, hv, hg, hh, _⟩⟩ := hown2
      · omega
      · exact ⟨g, cp, hv, hg, lt_of_heap hh⟩
    obtain ⟨g2, cp2, rfl, hg2, hg2'⟩ := hsh2
    have k9 : w6.cell? ⟨w4.heap.size, 9, none⟩ = some (.slice b1 k1 d1) := by rw [Lib.cell_of_heap aC6]; rfl
    have f6 : ∀ o, w6.frozen? ⟨w4.heap.size, o, none⟩ = false := Lib.frozen_of_heap aC6
    have u6 : w6.cell? ⟨w.heap.size, 3, none⟩ = some (.slice b2 k2 d2) := (hb6.cell (p := ⟨w.heap.size, 3, none⟩) z4).trans u3
    have ne4 : ¬ w.heap.size = w4.heap.size := by omega
    have ne4' : ¬ w4.heap.size = w.heap.size := by omega
    have aC7 := At.set aC6 9 (.slice (some ⟨g2, 0, none⟩) (k1 + 1) cp2)
    have hb7 : Below w4.heap.size w4 (w6.setCell ⟨w4.heap.size, 9, none⟩ (.slice (some ⟨g2, 0, none⟩) (k1 + 1) cp2)) := hb6.setCell (Nat.le_refl _) _
    have ho7 := owns_other hown2 w4.heap.size 9 (.slice (some ⟨g2, 0, none⟩) (k1 + 1) cp2) (fun e => by have : g2 = w4.heap.size := Option.some.inj e; omega)
    have hs7 : (w6.setCell ⟨w4.heap.size, 9, none⟩ (.slice (some ⟨g2, 0, none⟩) (k1 + 1) cp2)).heap.size = w6.heap.size := by simp [World.setCell]
    have AC7 : Hid _ := aC7
    have HB7 : Hid (Below _ _ _) := hb7
    have HO7 : Hid _ := ho7
    clear aC5 aC6 aC7 hb7 ho7 hown1 hown2 hgrow1 hgrow2 hb5 l1
    go_wp2_with (first
      | (at_builtin; refine wpList_append_copy rfl (.const (.slice none 0 0)) (.tmp 47) 30 rfl w6.heap.size 32 i0 _ 4 80 Tryd.underlying30 hi hz0 hz1 hz2 rfl (by decide) rfl b2 k2 d2 xs rfl NL2.out (by rw [KidsAt.length KK.out, E2.out]) (fun j u hu => ?_) (kids_one KK.out) (by unfold maxLen; omega) (by omega) (by rw [hs7]; exact Nat.le_refl _) ?_
         · (obtain ⟨ad, r1, r2, r3⟩ := RK.out j u hu
            exact ⟨ad, r1, (HB7.out.cell (p := ad.add j) (by rw [block_add]; exact r2)).trans r3⟩)
         intro v3 w8 hown3 hgrow3)
      | (at_builtin; refine wpList_append_own _ rfl (.tmp 48) (.tmp 50) 30 rfl w6.heap.size 32 i0 _ 4 80 Tryd.underlying30 hi hz0 hz1 hz2 rfl (by decide) _ _ _ rfl (World.ownsRow.alloc hown3 _) ⟨w8.heap.size, 0, none⟩ 1 1 [.string ⟨#[122, 122]⟩, .slice none 0 0, .string ⟨#[]⟩, .slice none 0 0] rfl rfl (World.news_of_block (cs := #[.string ⟨#[122, 122]⟩, .slice none 0 0, .string ⟨#[]⟩, .slice none 0 0]) (t := 32) (fr := (0, 0)) (heap_alloc_new w8 _)) (by simp [Value.oneCell']) (by unfold maxLen; omega) (by omega) (by have := hgrow3.size; rw [hs7] at this; simp; omega) ?_
         intro v4 w9 hown4 hgrow4 _; refine Hid.out ?_))
    refine Lib.hid ?_
    have l3 : ∀ g, v3.ownBlock = some g → w6.heap.size ≤ g := fun g hg => (World.ownsRow.lt hown3 g hg).1
    have hs8 : w6.heap.size ≤ w8.heap.size := by have := hgrow3.size; rw [hs7] at this; exact this
    have hs9 : w8.heap.size + 1 ≤ w9.heap.size := by have := hgrow4.size; simp at this; exact this
    have aC9 := (At.alloc (At.grown AC7.out hgrow3 (fun e => by cases e)) (.cells #[.string ⟨#[122, 122]⟩, .slice none 0 0, .string ⟨#[]⟩, .slice none 0 0] 32)).grown hgrow4 (fun e => by have := l3 _ e.symm; omega)
    have hb8 : Below w4.heap.size w4 w8 := HB7.out.grown hgrow3 HB7.out.size (fun g hg => by cases hg)
    have hb9 : Below w4.heap.size w4 w9 := (hb8.alloc hb8.size _).grown hgrow4 (by simp; omega) (fun g hg => by have := l3 g hg; omega)
    have ho9 := ((World.ownsRow.kept HO7.out hgrow3 (.inr (fun e => by cases e))).alloc (.cells #[.string ⟨#[122, 122]⟩, .slice none 0 0, .string ⟨#[]⟩, .slice none 0 0] 32)).kept hgrow4 (.inr (fun e => by have := l3 g2 e.symm; omega))
    have hsh4 : ∃ g4 cp4, v4 = .slice (some ⟨g4, 0, none⟩) (k2 + 1) cp4 ∧ w6.heap.size ≤ g4 := by
      obtain ⟨_, h0 | ⟨g, cp, cur, hv, hg, hh, _⟩⟩ := hown4
      · omega
      · exact ⟨g, cp, hv, hg⟩
    obtain ⟨g4, cp4, rfl, hg4⟩ := hsh4
    have k15 : w9.cell? ⟨w4.heap.size, 15, none⟩ = some (.slice b2 k2 d2) := by rw [Lib.cell_of_heap aC9]; rfl
    have f9 : ∀ o, w9.frozen? ⟨w4.heap.size, o, none⟩ = false := Lib.frozen_of_heap aC9
    obtain ⟨W, hW⟩ : ∃ W, w9.setCell ⟨w4.heap.size, 15, none⟩ (.slice (some ⟨g4, 0, none⟩) (k2 + 1) cp4) = W := ⟨_, rfl⟩
    have aCW : At w4.heap.size #[.string ⟨#[122, 122]⟩, .slice b1 k1 d1, .string tx, .slice b2 k2 d2, .string nm, .slice b1 k1 d1, .string tz, .slice b2 k2 d2, .string nm, .slice (some ⟨g2, 0, none⟩) (k1 + 1) cp2, .string tx, .slice b2 k2 d2, .string nm, .slice b1 k1 d1, .string tx, .slice (some ⟨g4, 0, none⟩) (k2 + 1) cp4] 32 W := by
      rw [← hW]; exact At.set aC9 15 _
    have hbW : Below w4.heap.size w4 W := by rw [← hW]; exact hb9.setCell (Nat.le_refl _) _
    have o1 := owns_other ho9 w4.heap.size 15 (.slice (some ⟨g4, 0, none⟩) (k2 + 1) cp4) (fun e => by have : g2 = w4.heap.size := Option.some.inj e; omega)
    have o2 := owns_other hown4 w4.heap.size 15 (.slice (some ⟨g4, 0, none⟩) (k2 + 1) cp4) (fun e => by have : g4 = w4.heap.size := Option.some.inj e; omega)
    rw [hW] at o1 o2
    rw [E1.out] at o1
    rw [E2.out] at o2
    have HCH := fun j hj => chg_lies HE4.out KK.out HNM.out HTX.out HTZ.out hbW (by rw [E1.out, E2.out] at aCW; rw [E1.out, E2.out]; exact aCW) o1 o2 j hj
    have hEW : ElE (fun _ => True) W e (.string ⟨e.nm.toArray⟩) (.slice b1 k1 d1) (.string ⟨e.text.toArray⟩) (.slice b2 k2 d2) := ElE.step (P' := fun _ => True) (fun k _ hk => ⟨trivial, hbW.block k hk⟩) HE4.out
    have hbwW : Below w.heap.size w W := hbw4.trans (hbW.mono hbw4.size)
    have y0 : W.cell? ⟨w.heap.size, 0, none⟩ = some (.string nm) := (hbW.cell (p := ⟨w.heap.size, 0, none⟩) z4).trans u0
    have y1 : W.cell? ⟨w.heap.size, 1, none⟩ = some (.slice b1 k1 d1) := (hbW.cell (p := ⟨w.heap.size, 1, none⟩) z4).trans u1
    have y2 : W.cell? ⟨w.heap.size, 2, none⟩ = some (.string tx) := (hbW.cell (p := ⟨w.heap.size, 2, none⟩) z4).trans u2
    have y3 : W.cell? ⟨w.heap.size, 3, none⟩ = some (.slice b2 k2 d2) := (hbW.cell (p := ⟨w.heap.size, 3, none⟩) z4).trans u3
    have zW : w4.heap.size < W.heap.size := lt_of_heap aCW
    have CH : Hid _ := HCH
    have EW : Hid _ := hEW
    clear aC9 hb8 hb9 ho9 aCW o1 o2 hown3 hown4 hgrow3 hgrow4 l3 HCH hEW u0 u1 u2 u3 ua k9 f6 u6 AC7 HB7 HO7 hbW
    go_wp2_with fail
    clear hW
    go_loopw [6] (fun i wr => ∃ j : Nat, j ≤ 4 ∧ i = .int .i64 j ∧ Below W.heap.size W wr) (fun i _ => 4 - (intOf i).toNat)
    case atStart => exact ⟨0, Nat.zero_le _, rfl, Below.refl _ _⟩
    case round =>
      obtain ⟨j, hj, rfl, hbr⟩ := hrel
      have ij0 : (0 : Int) ≤ (j : Int) := Int.natCast_nonneg _
      have hsr := hbr.size
      have r0 : wr.cell? ⟨w.heap.size, 0, none⟩ = some (.string nm) := (hbr.cell (p := ⟨w.heap.size, 0, none⟩) (Nat.lt_trans z4 zW)).trans y0
      have r1 : wr.cell? ⟨w.heap.size, 1, none⟩ = some (.slice b1 k1 d1) := (hbr.cell (p := ⟨w.heap.size, 1, none⟩) (Nat.lt_trans z4 zW)).trans y1
      have r2 : wr.cell? ⟨w.heap.size, 2, none⟩ = some (.string tx) := (hbr.cell (p := ⟨w.heap.size, 2, none⟩) (Nat.lt_trans z4 zW)).trans y2
      have r3 : wr.cell? ⟨w.heap.size, 3, none⟩ = some (.slice b2 k2 d2) := (hbr.cell (p := ⟨w.heap.size, 3, none⟩) (Nat.lt_trans z4 zW)).trans y3
      have hsmall : ∀ n, smallE n e := fun n => by rw [← HEE.out]; exact small_cut 5 true n e0 HHS.out
      have hbwr : Below w.heap.size w wr := hbwW.trans (hbr.mono hbwW.size)
      obtain ⟨ne, hEn⟩ := ElE.step (row_below hbr) EW.out
      by_cases hlt : j < 4
      · have ij : (j : Int) < 4 := by omega
        obtain ⟨x, y, aa, bb, na, nb, ca, cb, q0, q1, q2, q3, hEj⟩ := CH.out j hlt
        obtain ⟨nj, hEj'⟩ := ElE.step (row_below hbr) hEj
        have t0 := (hbr.cell (p := ⟨w4.heap.size, j * 4, none⟩) zW).trans q0
        have t1 := (hbr.cell (p := ⟨w4.heap.size, j * 4 + 1, none⟩) zW).trans q1
        have t2 := (hbr.cell (p := ⟨w4.heap.size, j * 4 + 2, none⟩) zW).trans q2
        have t3 := (hbr.cell (p := ⟨w4.heap.size, j * 4 + 3, none⟩) zW).trans q3
        have HW := write_any nj (chg e j) x y aa bb na nb ca cb wr (HT.out.below hT3 hbwr) (by
          have hf := cut_few e0
          rw [HEE.out] at hf
          exact small_chg e hsmall hf.1 hf.2.1 hf.2.2 j hlt) hEj'
        have hEn1 := ElAt.mono (show ne ≤ (ne + nj) + 1 by omega) hEn
        have hEj1 := ElAt.mono (show nj ≤ (ne + nj) + 1 by omega) hEj'
        have HS := fun W' (hb : Below wr.heap.size wr W') => same_any ((ne + nj) + 1) e (chg e j) _ _ _ _ _ _ _ _ _ _ _ _ _ _ _ _ W' (hsmall _) (hEn1.step (row_below hb)) (hEj1.step (row_below hb))
        rw [same_chg (ne + nj) e (same_self _ ne _ _ e _ _ _ _ hEn (by omega)) j hlt, HNM.out, HTX.out] at HS
        have hfl : (textE 4 (chg e j) == textE 4 e) = flagE e j := text_chg e j hlt HR.out
        obtain ⟨vs, vf, hvs⟩ : ∃ vs vf, writeN (chg e j) = (vs, vf) := ⟨_, _, rfl⟩
        rw [hvs] at HW
        have HVS : Hid _ := hvs
        have HFL : Hid _ := hfl
        clear q0 q1 q2 q3 hEj hEj' hEn hEn1 hEj1 hsmall hvs hfl y0 y1 y2 y3
        go_wp2_with (first
          | (go_at_call 16; refine HW.mono ?_; rintro ee w5' ⟨rfl, hb5⟩; refine Hid.out ?_))
        refine Lib.hid ?_
        have hbW5 : Below W.heap.size W w5' := hbr.trans (hb5.mono hbr.size)
        have zr : w.heap.size < wr.heap.size := by omega
        have zr4 : w4.heap.size < wr.heap.size := by omega
        have a0 := (hb5.cell (p := ⟨w.heap.size, 0, none⟩) zr).trans r0
        have a1 := (hb5.cell (p := ⟨w.heap.size, 1, none⟩) zr).trans r1
        have a2 := (hb5.cell (p := ⟨w.heap.size, 2, none⟩) zr).trans r2
        have a3 := (hb5.cell (p := ⟨w.heap.size, 3, none⟩) zr).trans r3
        have e0' := (hb5.cell (p := ⟨w4.heap.size, j * 4, none⟩) zr4).trans t0
        have e1' := (hb5.cell (p := ⟨w4.heap.size, j * 4 + 1, none⟩) zr4).trans t1
        have e2' := (hb5.cell (p := ⟨w4.heap.size, j * 4 + 2, none⟩) zr4).trans t2
        have e3' := (hb5.cell (p := ⟨w4.heap.size, j * 4 + 3, none⟩) zr4).trans t3
        clear r0 r1 r2 r3 t0 t1 t2 t3 HW
        have hwe := HWW.out
        subst hwe
        have hne := HNM.out
        subst hne
        have hright : (vf = 0 ∧ (vs == textE 4 e) = flagE e j) ∨ (vf == 0) = false := by
          have h := HVS.out
          unfold writeN at h
          cases hq : rightE 4 (chg e j) with
          | true =>
            rw [hq, if_pos rfl] at h
            obtain ⟨rfl, rfl⟩ := Prod.mk.inj h
            exact .inl ⟨rfl, HFL.out⟩
          | false =>
            rw [hq, if_neg (by decide)] at h
            obtain ⟨rfl, rfl⟩ := Prod.mk.inj h
            exact .inr rfl
        generalize hlw : textE 4 e = lw at hright ⊢
        have HLW : Hid (textE 4 e = lw) := hlw
        clear hlw
        go_upto_region 16 with fail
        go_cut [96] (fun b wc => b = .bool false ∧ Below W.heap.size W wc)
        case first =>
          by_cases hj0 : j = 0
          · subst hj0
            have hf : flagE e 0 = (e.nm == [122, 122]) := rfl
            rw [hf] at HS hright
            cases hb : e.nm == [122, 122] with
            | true =>
              rw [hb] at HS hright
              rcases hright with ⟨rfl, hcmp⟩ | hvf
              · skip
                refine reg16_ct w.heap.size w4.heap.size e.nm lw vs tx x y b1 b2 aa bb k1 d1 k2 d2 na nb ca cb w5' hcmp hb _ _ _ _ _ _ _ _ _ _ _ _ _ _ _ _ _ _ _ _ _ _ _ _ _ _ _ _ _ _ _ _ _ _ _ _ _ _ _ _ _ _ _ _ _ _ _ _ _ _ _ _ _ _ _ _ _ _ _ _ _ _ _ _ _ _ _ _ _ _ _ _ _ _ _ _ _ _ _ _ _ _ _ _ _ _ _ _ _ _ _ _ _ _ a0 a1 a2 a3 e0' e1' e2' e3' (Nat.lt_of_lt_of_le zr hb5.size) (fun W' hb => HS W' (hb5.trans (hb.mono hb5.size))) _ _ (fun _ d _ _ _ h => by cases d <;> exact h) (fun u66 u67 u68 u69 u70 u71 u72 u73 u74 u75 u76 u77 u78 u79 u80 u81 u82 u83 u84 u85 u86 u87 u88 u89 u90 u91 u92 u93 u94 u95 w7 hb7 => ?_)
                go_wp2_with fail
                go_meet
                case rel => exact ⟨rfl, hbW5.trans (hb7.mono hbW5.size)⟩
              · skip
                refine reg16_dt w.heap.size w4.heap.size e.nm lw vs tx x y b1 b2 aa bb k1 d1 k2 d2 na nb ca cb w5' vf hvf hb _ _ _ _ _ _ _ _ _ _ _ _ _ _ _ _ _ _ _ _ _ _ _ _ _ _ _ _ _ _ _ _ _ _ _ _ _ _ _ _ _ _ _ _ _ _ _ _ _ _ _ _ _ _ _ _ _ _ _ _ _ _ _ _ _ _ _ _ _ _ _ _ _ _ _ _ _ _ _ _ _ _ _ _ _ _ _ _ _ _ _ _ _ _ a0 a1 a2 a3 e0' e1' e2' e3' (Nat.lt_of_lt_of_le zr hb5.size) (fun W' hb => HS W' (hb5.trans (hb.mono hb5.size))) _ _ (fun _ d _ _ _ h => by cases d <;> exact h) (fun u66 u67 u68 u69 u70 u71 u72 u73 u74 u75 u76 u77 u78 u79 u80 u81 u82 u83 u84 u85 u86 u87 u88 u89 u90 u91 u92 u93 u94 u95 w7 hb7 => ?_)
                go_wp2_with fail
                go_meet
                case rel => exact ⟨rfl, hbW5.trans (hb7.mono hbW5.size)⟩
            | false =>
              rw [hb] at HS hright
              rcases hright with ⟨rfl, hcmp⟩ | hvf
              · skip
                refine reg16_cf w.heap.size w4.heap.size e.nm lw vs tx x y b1 b2 aa bb k1 d1 k2 d2 na nb ca cb w5' hcmp hb _ _ _ _ _ _ _ _ _ _ _ _ _ _ _ _ _ _ _ _ _ _ _ _ _ _ _ _ _ _ _ _ _ _ _ _ _ _ _ _ _ _ _ _ _ _ _ _ _ _ _ _ _ _ _ _ _ _ _ _ _ _ _ _ _ _ _ _ _ _ _ _ _ _ _ _ _ _ _ _ _ _ _ _ _ _ _ _ _ _ _ _ _ _ a0 a1 a2 a3 e0' e1' e2' e3' (Nat.lt_of_lt_of_le zr hb5.size) (fun W' hb => HS W' (hb5.trans (hb.mono hb5.size))) _ _ (fun _ d _ _ _ h => by cases d <;> exact h) (fun u66 u67 u68 u69 u70 u71 u72 u73 u74 u75 u76 u77 u78 u79 u80 u81 u82 u83 u84 u85 u86 u87 u88 u89 u90 u91 u92 u93 u94 u95 w7 hb7 => ?_)
                go_wp2_with fail
                go_meet
                case rel => exact ⟨rfl, hbW5.trans (hb7.mono hbW5.size)⟩
              · skip
                refine reg16_df w.heap.size w4.heap.size e.nm lw vs tx x y b1 b2 aa bb k1 d1 k2 d2 na nb ca cb w5' vf hvf hb _ _ _ _ _ _ _ _ _ _ _ _ _ _ _ _ _ _ _ _ _ _ _ _ _ _ _ _ _ _ _ _ _ _ _ _ _ _ _ _ _ _ _ _ _ _ _ _ _ _ _ _ _ _ _ _ _ _ _ _ _ _ _ _ _ _ _ _ _ _ _ _ _ _ _ _ _ _ _ _ _ _ _ _ _ _ _ _ _ _ _ _ _ _ a0 a1 a2 a3 e0' e1' e2' e3' (Nat.lt_of_lt_of_le zr hb5.size) (fun W' hb => HS W' (hb5.trans (hb.mono hb5.size))) _ _ (fun _ d _ _ _ h => by cases d <;> exact h) (fun u66 u67 u68 u69 u70 u71 u72 u73 u74 u75 u76 u77 u78 u79 u80 u81 u82 u83 u84 u85 u86 u87 u88 u89 u90 u91 u92 u93 u94 u95 w7 hb7 => ?_)
                go_wp2_with fail
                go_meet
                case rel => exact ⟨rfl, hbW5.trans (hb7.mono hbW5.size)⟩
          · have hf : flagE e j = false := by unfold flagE; rw [show (j == 0) = false by rw [beq_eq_false_iff_ne]; exact hj0, Bool.false_and]
            rw [hf] at HS hright
            have ijz : ((j : Int) == 0) = false := by rw [beq_eq_false_iff_ne]; omega
            rcases hright with ⟨rfl, hcmp⟩ | hvf
            · skip
              refine reg16_a w.heap.size w4.heap.size e.nm lw vs tx x y b1 b2 aa bb k1 d1 k2 d2 na nb ca cb w5' j ij0 ij ijz hcmp _ _ _ _ _ _ _ _ _ _ _ _ _ _ _ _ _ _ _ _ _ _ _ _ _ _ _ _ _ _ _ _ _ _ _ _ _ _ _ _ _ _ _ _ _ _ _ _ _ _ _ _ _ _ _ _ _ _ _ _ _ _ _ _ _ _ _ _ _ _ _ _ _ _ _ _ _ _ _ _ _ _ _ _ _ _ _ _ _ _ _ _ _ _ a0 a1 a2 a3 e0' e1' e2' e3' (Nat.lt_of_lt_of_le zr hb5.size) (fun W' hb => HS W' (hb5.trans (hb.mono hb5.size))) _ _ (fun _ d _ _ _ h => by cases d <;> exact h) (fun u66 u67 u68 u69 u70 u71 u72 u73 u74 u75 u76 u77 u78 u79 u80 u81 u82 u83 u84 u85 u86 u87 u88 u89 u90 u91 u92 u93 u94 u95 w7 hb7 => ?_)
              go_wp2_with fail
              go_meet
              case rel => exact ⟨rfl, hbW5.trans (hb7.mono hbW5.size)⟩
            · skip
              refine reg16_b w.heap.size w4.heap.size e.nm lw vs tx x y b1 b2 aa bb k1 d1 k2 d2 na nb ca cb w5' j ij0 ij ijz vf hvf _ _ _ _ _ _ _ _ _ _ _ _ _ _ _ _ _ _ _ _ _ _ _ _ _ _ _ _ _ _ _ _ _ _ _ _ _ _ _ _ _ _ _ _ _ _ _ _ _ _ _ _ _ _ _ _ _ _ _ _ _ _ _ _ _ _ _ _ _ _ _ _ _ _ _ _ _ _ _ _ _ _ _ _ _ _ _ _ _ _ _ _ _ _ a0 a1 a2 a3 e0' e1' e2' e3' (Nat.lt_of_lt_of_le zr hb5.size) (fun W' hb => HS W' (hb5.trans (hb.mono hb5.size))) _ _ (fun _ d _ _ _ h => by cases d <;> exact h) (fun u66 u67 u68 u69 u70 u71 u72 u73 u74 u75 u76 u77 u78 u79 u80 u81 u82 u83 u84 u85 u86 u87 u88 u89 u90 u91 u92 u93 u94 u95 w7 hb7 => ?_)
              go_wp2_with fail
              go_meet
              case rel => exact ⟨rfl, hbW5.trans (hb7.mono hbW5.size)⟩
        case rest =>
          obtain ⟨rfl, hbc⟩ := hcut
          have hlw := HLW.out
          subst hlw
          go_wp2_with fail
          go_roundw
          case rel => exact ⟨j + 1, by omega, by go_num, hbc⟩
          case measure => simp [intOf]; omega
      · have ij : ¬ (j : Int) < 4 := by omega
        have HSE := same_any ne e e _ _ _ _ _ _ _ _ _ _ _ _ _ _ _ _ wr (hsmall _) hEn hEn
        rw [same_self _ ne _ _ e _ _ _ _ hEn (Nat.le_refl _), HNM.out, HTX.out] at HSE
        go_wp2_with (go_at_call 20; refine HSE.mono ?_; rintro ee w6' ⟨rfl, hb6⟩)
        go_ret
        exact ⟨rfl, hbwr.trans (hb6.mono hbwr.size)⟩
end Go.Proofs.YthekdgnikkjpdaaDoor
