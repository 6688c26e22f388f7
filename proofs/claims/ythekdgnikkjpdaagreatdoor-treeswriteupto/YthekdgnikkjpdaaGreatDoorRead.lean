/-
  The contract of (*tags.Reader).read over this program: for every reader that was made and fed, and every byte.
-/
import Derived.Test.YthekdgnikkjpdaaGreatDoorRdr
namespace Go.Proofs.YthekdgnikkjpdaaGreatDoor
open Go.RowKit
theorem info5 : (Tryz.prog.info? 5).map (fun i => (i.zero, i.size, i.bytes)) = some (some (.int .u8 0), 1, 1) := by kernel_rfl
theorem rdr_put1 {r : Nat} {w : World} {v : Value} {t : Bool} {e : Int} (u : Bool) (k1 : w.heap[r]? = some (.cells #[v, .bool t, .int .i64 e] 84 (0, 0))) :
    (w.setCell ⟨r, 1, none⟩ (.bool u)).heap[r]? = some (.cells #[v, .bool u, .int .i64 e] 84 (0, 0)) := by
  have hlt := lt_of_heap k1
  have h' : w.heap[r] = .cells #[v, .bool t, .int .i64 e] 84 (0, 0) := by simpa [Array.getElem?_eq_getElem hlt] using k1
  show (w.heap.modify r _)[r]? = _
  rw [Array.getElem?_eq_getElem (by simpa using hlt), Array.getElem_modify_self, h']
  rfl
theorem rdr_put2 {r : Nat} {w : World} {v : Value} {t : Bool} {e : Int} (u : Int) (k1 : w.heap[r]? = some (.cells #[v, .bool t, .int .i64 e] 84 (0, 0))) :
    (w.setCell ⟨r, 2, none⟩ (.int .i64 u)).heap[r]? = some (.cells #[v, .bool t, .int .i64 u] 84 (0, 0)) := by
  have hlt := lt_of_heap k1
  have h' : w.heap[r] = .cells #[v, .bool t, .int .i64 e] 84 (0, 0) := by simpa [Array.getElem?_eq_getElem hlt] using k1
  show (w.heap.modify r _)[r]? = _
  rw [Array.getElem?_eq_getElem (by simpa using hlt), Array.getElem_modify_self, h']
  rfl
theorem RdrAt.mark {B r : Nat} {h : List UInt8} {t : Bool} {e : Int} {w : World} (k : RdrAt B r h t e w) (u : Bool) : RdrAt B r h u e (w.setCell ⟨r, 1, none⟩ (.bool u)) := by
  obtain ⟨ao, n, cap, k1, k2⟩ := k.at_
  exact ⟨k.base, ao, n, cap, rdr_put1 u k1, ownsRow_setCell_other k2 (bytes_ne k2 k1) _⟩
/-- The reader and its frame, behind a call that makes memory alone. -/
theorem rdr_cells {B r : Nat} {h : List UInt8} {t : Bool} {e : Int} {w : World} (k : RdrAt B r h t e w) :
    ∃ ao cap, w.cell? ⟨r, 0, none⟩ = some (.slice ao h.length cap) ∧ w.cell? ⟨r, 1, none⟩ = some (.bool t) ∧ w.cell? ⟨r, 2, none⟩ = some (.int .i64 e) ∧ (∀ o, w.frozen? ⟨r, o, none⟩ = false) ∧
      w.heap[r]? = some (.cells #[.slice ao h.length cap, .bool t, .int .i64 e] 84 (0, 0)) ∧ w.ownsRow B 5 1 (.slice ao h.length cap) h.length (Lib.byteCells h) := by
  obtain ⟨ao, n, cap, k1, k2⟩ := k.at_
  obtain rfl := owns_n k2
  exact ⟨ao, cap, by rw [Lib.cell_of_heap k1]; rfl, by rw [Lib.cell_of_heap k1]; rfl, by rw [Lib.cell_of_heap k1]; rfl, fun o => Lib.frozen_of_heap k1 o, k1, k2⟩
/-- What 'read' leaves. -/
def ReadRes (B r : Nat) (w : World) (q : List UInt8 × Bool × List Tok × Int) (e0 : Int) (e : Ending) (w' : World) : Prop :=
  TokRes w.heap.size q.2.2.1 q.2.2.2 e w' ∧ RdrAt B r q.1 q.2.1 e0 w' ∧ Fr B r w w'
theorem grow_block {B r : Nat} {h : List UInt8} {w w' : World} {v : Value} {cs : Array Value} {o : Obj} (k1 : w.heap[r]? = some (.cells cs 84 (0, 0))) (k2 : w.ownsRow B 5 1 v h.length (Lib.byteCells h)) (hg : (w.alloc o).grownBy w' v.ownBlock) : w'.heap[r]? = some (.cells cs 84 (0, 0)) := by
  have hlt := lt_of_heap k1
  rw [hg.block r (by simp; omega) (fun e => bytes_ne k2 k1 e.symm), Below.heap_alloc w o r hlt]
  exact k1
theorem grow_fr {B r : Nat} {h : List UInt8} {w w' : World} {v : Value} {o : Obj} (hB : B ≤ w.heap.size) (k2 : w.ownsRow B 5 1 v h.length (Lib.byteCells h)) (hg : (w.alloc o).grownBy w' v.ownBlock) : Fr B r w w' := by
  refine ⟨((Below.refl B w).alloc hB o).grown hg (by simp; omega) (owns_lt k2), fun k x h1 _ h3 => ?_⟩
  have hlt := lt_of_heap h1
  rw [hg.block k (by simp; omega) ?_, Below.heap_alloc w o k hlt]
  · exact h1
  · intro e
    rcases k2.2 with ⟨q1, _⟩ | ⟨g, cap, cur, q1, _, q3, _⟩
    · rw [q1] at e
      simp [Value.ownBlock] at e
    · rw [q1] at e
      simp [Value.ownBlock] at e
      subst e
      rw [h1] at q3
      exact h3 _ _ (Option.some.inj q3)
theorem grow_rdr {B r : Nat} {h : List UInt8} {c : UInt8} {w' : World} {ao ao' : Option Addr} {n cap n' cap' : Nat} {t : Bool} {e : Int} (hBr : B ≤ r) (k1 : w'.heap[r]? = some (.cells #[.slice ao n cap, .bool t, .int .i64 e] 84 (0, 0)))
    (hown : w'.ownsRow B 5 1 (.slice ao' n' cap') (h.length + 1) (Lib.byteCells h ++ [.int .u8 c.toNat])) : RdrAt B r (h ++ [c]) t e (w'.setCell ⟨r, 0, none⟩ (.slice ao' n' cap')) := by
  refine ⟨hBr, ao', n', cap', rdr_put _ k1, ?_⟩
  rw [Lib.byteCells_append, List.length_append]
  exact ownsRow_setCell_other hown (bytes_ne hown k1) _
theorem beq_no {a b : Int} (h : a ≠ b) : (a == b) = false := by simpa using h
set_option maxHeartbeats 2000000 in
set_option maxRecDepth 100000 in
theorem read_any (B r : Nat) (h : List UInt8) (t : Bool) (e0 : Int) (c : UInt8) (w : World) (k : RdrAt B r h t e0 w) (hT : Tabs w) (hB3 : 3 ≤ B) (hl : h.length ≤ 512) :
    Calls Tryz.prog 41 #[.pointer (some ⟨r, 0, none⟩), .int .u8 c.toNat] w fun e w' => ReadRes B r w (readN h t c) e0 e w' := by
  obtain ⟨ao, cap, c0, c1, c2, fz, k1, k2⟩ := rdr_cells k
  have hBr := k.base
  have hrl := lt_of_heap k1
  have hBw : B ≤ w.heap.size := by omega
  by_cases h60 : c = 60
  · subst h60
    cases t with
    | true =>
      rw [show readN h true 60 = (h, true, [], 3) by rfl]
      have K : Hid _ := k
      clear k k1 k2
      go_enter Tryz.func41, Tryz.ntmps41
      go_wp2
      go_ret2
      exact ⟨tokRes_nil _ _ _, K.out, Fr.refl _ _ _⟩
    | false =>
      rw [show readN h false 60 = ([], true, textN h) by rfl]
      have km := k.mark true
      have H1 := take_any B r h true e0 _ km
      have hsz : (⟨h.toArray⟩ : ByteArray).size ≤ 2000000 := by rw [size_mk]; omega
      have H2 := fun W hW => readText_any ⟨h.toArray⟩ W hW hsz
      have F1 := fr_set B r w 1 (.bool true) hBr
      clear k k1 k2
      go_enter Tryz.func41, Tryz.ntmps41
      go_wp2_with (first | (go_at_call 53; refine H1.mono ?_; rintro e w1 ⟨rfl, kr, fr⟩) | (go_at_call 52; refine (H2 _ (hT.below hB3 (F1.trans fr).1)).mono ?_; rintro e w2 ⟨⟨ao2, n2, cap2, rfl, htk⟩, hb2⟩))
      go_ret2
      have F2 := F1.trans fr
      have hz := F2.1.size
      exact ⟨⟨ao2, n2, cap2, rfl, htk.base hz⟩, kr.below hb2, F2.later hBw (hb2.mono hz)⟩
  · have q60 : ((c.toNat : Int) == 60) = false := beq_no (fun e => h60 (UInt8.toNat_inj.1 (show c.toNat = 60 by omega)))
    by_cases h62 : c = 62 ∧ t = true
    · obtain ⟨rfl, rfl⟩ := h62
      rw [show readN h true 62 = ([], false, tagN h) by rfl]
      have km := k.mark false
      have H1 := take_any B r h false e0 _ km
      have hsz : (⟨h.toArray⟩ : ByteArray).size ≤ 2000000 := by rw [size_mk]; omega
      have H2 := fun W hW => readTag_any ⟨h.toArray⟩ W hW hsz
      have F1 := fr_set B r w 1 (.bool false) hBr
      clear k k1 k2
      go_enter Tryz.func41, Tryz.ntmps41
      go_wp2_with (first | (go_at_call 53; refine H1.mono ?_; rintro e w1 ⟨rfl, kr, fr⟩) | (go_at_call 54; refine (H2 _ (hT.below hB3 (F1.trans fr).1)).mono ?_; rintro e w2 ⟨⟨ao2, n2, cap2, rfl, htk⟩, hb2⟩))
      go_ret2
      have F2 := F1.trans fr
      have hz := F2.1.size
      exact ⟨⟨ao2, n2, cap2, rfl, htk.base hz⟩, kr.below hb2, F2.later hBw (hb2.mono hz)⟩
    · have q62 : ((c.toNat : Int) == 62) = false ∨ ((c.toNat : Int) == 62) = true ∧ t = false := by
        by_cases hc : c = 62
        · refine .inr ⟨by rw [hc]; rfl, ?_⟩
          cases t with
          | false => rfl
          | true => exact absurd ⟨hc, rfl⟩ h62
        · exact .inl (beq_no fun e => hc (UInt8.toNat_inj.1 (show c.toNat = 62 by omega)))
      by_cases h512 : h.length = 512
      · rw [show readN h t c = (h, t, [], 4) by unfold readN; rw [if_neg h60, if_neg h62, if_pos h512]]
        have h5 : (h.length : Int) = 512 := by omega
        have K : Hid _ := k
        clear k k1 k2 h62 h60
        rcases q62 with q62 | ⟨q62, rfl⟩
        all_goals
          go_enter Tryz.func41, Tryz.ntmps41
          go_wp2
        all_goals
          go_ret2
          exact ⟨tokRes_nil _ _ _, K.out, Fr.refl _ _ _⟩
      · rw [show readN h t c = (h ++ [c], t, [], 0) by unfold readN; rw [if_neg h60, if_neg h62, if_neg h512]]
        have h5 : ((h.length : Int) == 512) = false := beq_no (by omega)
        have K : Hid _ := k
        have K1 : Hid _ := k1
        have K2 : Hid _ := k2
        clear k k1 k2 h62 h60 h512
        obtain ⟨i0, hi, hz0, hz1, hz2⟩ := info_parts info5
        rcases q62 with q62 | ⟨q62, rfl⟩
        · go_enter Tryz.func41, Tryz.ntmps41
          go_wp2_with (at_builtin; refine wpList_append_own _ rfl (.tmp 54) (.tmp 56) 44 rfl B 5 i0 _ 1 1 Tryz.underlying44 hi hz0 hz1 hz2 rfl (by decide) _ _ _ rfl (World.ownsRow.alloc K2.out _) ⟨w.heap.size, 0, none⟩ 1 1 [.int .u8 c.toNat] rfl rfl ?c1 ?c2 ?c3 ?c4 ?c5 ?_)
          case c1 =>
            intro j u hj
            match j, hj with
            | 0, hj => simp at hj; subst hj; simp [Addr.add]
          case c2 => intro u hu; simp at hu; subst hu; rfl
          case c3 => unfold maxLen; omega
          case c4 => omega
          case c5 => simp; omega
          intro v' w1 hown' hgrow _
          obtain ⟨ao', cap', rfl⟩ := owns_shape hown'
          have hk1 := grow_block K1.out K2.out hgrow
          have g0 : w1.cell? ⟨r, 0, none⟩ = some (.slice ao h.length cap) := by rw [Lib.cell_of_heap hk1]; rfl
          have gz : ∀ o, w1.frozen? ⟨r, o, none⟩ = false := fun o => Lib.frozen_of_heap hk1 o
          have HK : Hid _ := hk1
          have HO : Hid _ := hown'
          have HG : Hid _ := hgrow
          clear hk1 hown' hgrow
          go_wp2
          go_ret2
          exact ⟨tokRes_nil _ _ _, grow_rdr hBr HK.out HO.out, (grow_fr hBw K2.out HG.out).trans (fr_set B r w1 0 _ hBr)⟩
        · go_enter Tryz.func41, Tryz.ntmps41
          go_wp2_with (at_builtin; refine wpList_append_own _ rfl (.tmp 54) (.tmp 56) 44 rfl B 5 i0 _ 1 1 Tryz.underlying44 hi hz0 hz1 hz2 rfl (by decide) _ _ _ rfl (World.ownsRow.alloc K2.out _) ⟨w.heap.size, 0, none⟩ 1 1 [.int .u8 c.toNat] rfl rfl ?d1 ?d2 ?d3 ?d4 ?d5 ?_)
          case d1 =>
            intro j u hj
            match j, hj with
            | 0, hj => simp at hj; subst hj; simp [Addr.add]
          case d2 => intro u hu; simp at hu; subst hu; rfl
          case d3 => unfold maxLen; omega
          case d4 => omega
          case d5 => simp; omega
          intro v' w1 hown' hgrow _
          obtain ⟨ao', cap', rfl⟩ := owns_shape hown'
          have hk1 := grow_block K1.out K2.out hgrow
          have g0 : w1.cell? ⟨r, 0, none⟩ = some (.slice ao h.length cap) := by rw [Lib.cell_of_heap hk1]; rfl
          have gz : ∀ o, w1.frozen? ⟨r, o, none⟩ = false := fun o => Lib.frozen_of_heap hk1 o
          have HK : Hid _ := hk1
          have HO : Hid _ := hown'
          have HG : Hid _ := hgrow
          clear hk1 hown' hgrow
          go_wp2
          go_ret2
          exact ⟨tokRes_nil _ _ _, grow_rdr hBr HK.out HO.out, (grow_fr hBw K2.out HG.out).trans (fr_set B r w1 0 _ hBr)⟩
end Go.Proofs.YthekdgnikkjpdaaGreatDoor
