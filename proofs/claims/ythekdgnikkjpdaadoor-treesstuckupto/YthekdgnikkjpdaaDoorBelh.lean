/-
  The contract of (*trees.Builder).add over this program, at a beginning and at a text within an item.
-/
import Derived.Test.YthekdgnikkjpdaaDoorBelg
import Derived.Deep.RegionLaw
import Derived.Deep.RegionWith
namespace Go.Proofs.YthekdgnikkjpdaaDoor
open Go.RowKit
theorem last_cells' {B g n cap : Nat} {w : World} {ys : List Value} {a b c d : Value} (h : w.ownsRow B 32 4 (.slice (some ⟨g, 0, none⟩) (n + 1) cap) (n + 1) (ys ++ [a, b, c, d])) (hy : ys.length = n * 4) :
    w.cell? ⟨g, n * 4, none⟩ = some a ∧ w.cell? ⟨g, n * 4 + 1, none⟩ = some b ∧ w.cell? ⟨g, n * 4 + 2, none⟩ = some c ∧ w.cell? ⟨g, n * 4 + 3, none⟩ = some d :=
  ⟨by rw [World.ownsRow.cellAt h _ (by omega)]; exact get_at (j := 0) hy, by rw [World.ownsRow.cellAt h _ (by omega)]; exact get_at (j := 1) hy, by rw [World.ownsRow.cellAt h _ (by omega)]; exact get_at (j := 2) hy, by rw [World.ownsRow.cellAt h _ (by omega)]; exact get_at (j := 3) hy⟩
theorem set2 {ys : List Value} {a b c d u : Value} (n : Nat) (h : ys.length = n) : (ys ++ [a, b, c, d]).set (n + 2) u = ys ++ [a, b, u, d] := by
  rw [List.set_append_right _ _ (by omega)]
  congr 1
  rw [show n + 2 - ys.length = 2 by omega]
  rfl
/-- The world in which add begins its work: one token more is taken, the token and the result lie in new blocks. -/
theorem add_world {b g cap m : Nat} {S : Bs} {w : World} {vt : Array Value} (A : At b #[.int .i64 S.stage, .string ⟨S.stream.toArray⟩, .slice (some ⟨g, 0, none⟩) m cap, .int .i64 S.taken, .int .i64 S.failed] 59 w) (hg : g < w.heap.size) (hgb : g ≠ b) (hfg : ∀ o, w.frozen? ⟨g, o, none⟩ = false) :
    ∃ Y, Y = (((w.setCell ⟨b, 3, none⟩ (.int .i64 (S.taken + 1))).alloc (.cells vt 39)).alloc (.cells #[.int .i64 0, .string ⟨#[]⟩, .slice none 0 0, .string ⟨#[]⟩, .slice none 0 0] 34)) ∧ Wr [b] w Y ∧
      At b #[.int .i64 S.stage, .string ⟨S.stream.toArray⟩, .slice (some ⟨g, 0, none⟩) m cap, .int .i64 (S.taken + 1), .int .i64 S.failed] 59 Y ∧ At w.heap.size vt 39 Y ∧ At (w.heap.size + 1) #[.int .i64 0, .string ⟨#[]⟩, .slice none 0 0, .string ⟨#[]⟩, .slice none 0 0] 34 Y ∧
      Y.heap.size = w.heap.size + 2 ∧ (∀ o, Y.cell? ⟨g, o, none⟩ = w.cell? ⟨g, o, none⟩) ∧ (∀ o, Y.frozen? ⟨g, o, none⟩ = false) := by
  have y1 : Wr [b] w (((w.setCell ⟨b, 3, none⟩ (.int .i64 (S.taken + 1))).alloc (.cells vt 39)).alloc (.cells #[.int .i64 0, .string ⟨#[]⟩, .slice none 0 0, .string ⟨#[]⟩, .slice none 0 0] 34)) := ((((Wr.refl [b] w).set b 3 _ (.inl (by simp))).alloc _).alloc _)
  have hb := lt_of_heap A
  refine ⟨_, rfl, y1, ((A.set 3 _).alloc _).alloc _, ?_, ?_, by simp, fun o => World.cell?_of_block (w := w) (y1.block g hg (by simpa using hgb)), fun o => (World.frozen?_of_block (w := w) (y1.block g hg (by simpa using hgb))).trans (hfg o)⟩
  · have := heap_alloc_new (w.setCell ⟨b, 3, none⟩ (.int .i64 (S.taken + 1))) (.cells vt 39)
    have es : (w.setCell ⟨b, 3, none⟩ (.int .i64 (S.taken + 1))).heap.size = w.heap.size := by simp
    rw [es] at this
    exact At.alloc this _
  · have := heap_alloc_new ((w.setCell ⟨b, 3, none⟩ (.int .i64 (S.taken + 1))).alloc (.cells vt 39)) (.cells #[.int .i64 0, .string ⟨#[]⟩, .slice none 0 0, .string ⟨#[]⟩, .slice none 0 0] 34)
    have es : ((w.setCell ⟨b, 3, none⟩ (.int .i64 (S.taken + 1))).alloc (.cells vt 39)).heap.size = w.heap.size + 1 := by simp
    rw [es] at this
    exact this
theorem text_close {B b g cap nd : Nat} {F bl : List Nat} {S : Bs} {w Y : World} {l : List El} {e : El} {ys zs : List Value} {x : List UInt8} {aob ao' : Option Addr} {capb cap' : Nat}
    (hbB : B ≤ b) (hb : b < w.heap.size)
    (h2 : w.ownsRow B 32 4 (.slice (some ⟨g, 0, none⟩) (l.length + 1) cap) (l.length + 1) (ys ++ [.string ⟨e.nm.toArray⟩, .slice aob e.attrs.length capb, .string ⟨e.text.toArray⟩, .slice ao' e.kids.length cap'])) (h3 : ys.length = l.length * 4)
    (h4 : OpenAt B (Pf F w) w l ys bl) (h5 : Row (Pf F w) w (.slice aob e.attrs.length capb) e.attrs.length (pairCells e.attrs)) (h6 : w.ownsRow B 32 4 (.slice ao' e.kids.length cap') e.kids.length zs) (h7 : KidsAt (ElE (Pf F w) w) e.kids zs)
    (h8 : F = b :: g :: (bl ++ (Value.slice ao' e.kids.length cap').ownBlock.toList)) (h9 : F.Nodup)
    (yW : Wr [b] w Y) (y2 : At b #[.int .i64 S.stage, .string ⟨S.stream.toArray⟩, .slice (some ⟨g, 0, none⟩) (l.length + 1) cap, .int .i64 (S.taken + 1), .int .i64 S.failed] 59 Y) :
    AddRes B b F (⟨S.stage, S.stream, l ++ [e.say x], S.taken + 1, S.failed⟩, none) w (.returned (.tuple #[.agg #[.int .i64 0, .string ⟨#[]⟩, .slice none 0 0, .string ⟨#[]⟩, .slice none 0 0], .bool false]))
      (((((((Y.drewN nd).setCell ⟨g, l.length * 4 + 2, none⟩ (.string ⟨(e.text ++ x).toArray⟩)).setCell ⟨w.heap.size + 1, 0, none⟩ (.int .i64 0)).setCell ⟨w.heap.size + 1, 1, none⟩ (.string ⟨#[]⟩)).setCell ⟨w.heap.size + 1, 2, none⟩ (.slice none 0 0)).setCell ⟨w.heap.size + 1, 3, none⟩ (.string ⟨#[]⟩)).setCell ⟨w.heap.size + 1, 4, none⟩ (.slice none 0 0)) := by
  obtain ⟨oe, hoe⟩ : ∃ oe, (Value.slice ao' e.kids.length cap').ownBlock = oe := ⟨_, rfl⟩
  rw [hoe] at h8
  have hg := (h2.lt g rfl)
  have hF := h9
  rw [h8] at hF
  have n1 := List.nodup_cons.1 hF
  have n2 := List.nodup_cons.1 n1.2
  have gb : g ≠ b := fun e => n1.1 (by simp [e])
  have eb : ∀ k, oe = some k → k ≠ b ∧ k ≠ g := fun k hk => ⟨fun e => n1.1 (by simp [hk, e]), fun e => n2.1 (by simp [hk, e])⟩
  have lb : ∀ k ∈ bl, k ≠ b ∧ k ≠ g := fun k hk => ⟨fun e => n1.1 (by simp [← e, hk]), fun e => n2.1 (by simp [← e, hk])⟩
  have v2 := (((yW.mono (L' := [b, g]) (by simp)).drewN nd).set g (l.length * 4 + 2) (.string ⟨(e.text ++ x).toArray⟩) (.inl (by simp))).set5 (r := w.heap.size + 1) (.inr (by omega)) (.int .i64 0) (.string ⟨#[]⟩) (.slice none 0 0) (.string ⟨#[]⟩) (.slice none 0 0)
  have vF := v2.mono (L' := F) (by rw [h8]; simp)
  have st := vF.stp (F' := F) (fun _ h => .inl h)
  refine ⟨F, 0, _, _, _, _, _, _, _, _, _, rfl, evOk_none _ _, ⟨hbB, .slice (some ⟨g, 0, none⟩) (l.length + 1) cap, _, _, ?_, ?_, OpenAt.snoc_mk (e := e.say x) (b := .slice aob e.attrs.length capb) (d := .slice ao' e.kids.length cap') (zs := zs) (h5.step st.rows) ?_ (h7.imp fun _ _ _ _ _ h => h.step st.rows) (h4.step st.rows ?_), ?_, h9⟩, vF, fun _ h => .inl h⟩
  · exact ((y2.drewN nd).other g _ _ (Ne.symm gb)).other5 (by omega) _ _ _ _ _
  · have o2 : (Y.drewN nd).ownsRow B 32 4 _ _ _ := owns_same h2 fun k hk => by
      cases hk
      exact yW.block g hg.2 (by simpa using gb)
    have o4 := (World.ownsRow.stored o2 (l.length * 4 + 2) (.string ⟨(e.text ++ x).toArray⟩)).1
    rw [set2 _ h3] at o4
    have o5 := owns_other5 o4 (b := w.heap.size + 1) (fun e => by have : g = w.heap.size + 1 := Option.some.inj e; omega) (.int .i64 0) (.string ⟨#[]⟩) (.slice none 0 0) (.string ⟨#[]⟩) (.slice none 0 0)
    have el : (l ++ [e.say x]).length = l.length + 1 := by simp
    rw [el]
    exact o5
  · refine owns_same h6 fun k hk => v2.block k (h6.lt k hk).2 ?_
    have := eb k (hoe.symm.trans hk)
    simp [this]
  · intro k hk
    refine v2.block k (h4.lt k hk).2 ?_
    have := lb k hk
    simp [this]
  · rw [h8]
    show _ = b :: ([g] ++ (bl ++ (Value.slice ao' e.kids.length cap').ownBlock.toList))
    rw [hoe]
    rfl
set_option maxHeartbeats 2000000 in
set_option maxRecDepth 100000 in
theorem add_text {B b : Nat} {F : List Nat} {S : Bs} {w : World} {l : List El} {e : El} (k : BAt B b F S w) (ho : S.opn = l ++ [e]) (hl : l.length < 10) (ht : 0 ≤ S.taken ∧ S.taken ≤ 64) (nm : ByteArray) (x : List UInt8) (ao : Option Addr) (n cp : Nat) (hx : e.text.length + x.length ≤ 4611686018427387904) :
    Calls Tryd.prog 22 #[.pointer (some ⟨b, 0, none⟩), .agg #[.int .i64 3, .string nm, .slice ao n cp, .string ⟨x.toArray⟩]] w (AddRes B b F (⟨S.stage, S.stream, l ++ [e.say x], S.taken + 1, S.failed⟩, none) w) := by
  have K : Hid (BAt B b F S w) := k
  have hbB := k.base
  obtain ⟨g, cap, ys, bv, ao', cap', zs, bl, h1, h2, h3, h4, h5, h6, h7, h8, h9⟩ := bat_item k ho
  obtain ⟨aob, capb, rfl⟩ : ∃ ao cap, bv = .slice ao e.attrs.length cap := by obtain ⟨ao, cap, h, _⟩ := h5; exact ⟨ao, cap, h⟩
  obtain ⟨d0, d1, d2, d3⟩ := last_cells' (n := l.length) h2 h3
  obtain ⟨c0, c1, c2, c3, c4, fz⟩ := bldCells h1
  have hb := lt_of_heap h1
  have hg := (h2.lt g rfl).2
  have hfg : ∀ o, w.frozen? ⟨g, o, none⟩ = false := fun o => World.ownsRow.frozenAt h2 o
  have hgb : ¬ b = g := by
    intro e
    rw [h8, e] at h9
    exact (List.nodup_cons.1 h9).1 (by simp)
  have hgb' : ¬ g = b := fun e => hgb e.symm
  have hbn : ¬ b = w.heap.size := by omega
  have hbn' : ¬ w.heap.size = b := by omega
  have hgn : ¬ g = w.heap.size := by omega
  have hgn' : ¬ w.heap.size = g := by omega
  have hgn1 : ¬ g = w.heap.size + 1 := by omega
  have hgn2 : ¬ w.heap.size + 1 = g := by omega
  have hL : ∀ W, W.cell? ⟨b, 2, none⟩ = some (.slice (some ⟨g, 0, none⟩) (l.length + 1) cap) → Calls Tryd.prog 41 #[.pointer (some ⟨b, 0, none⟩)] W fun e w' => e = .returned (.pointer (some ⟨g, l.length * 4, none⟩)) ∧ ∃ q, w' = W.drewN q := fun W h => last_any b g l.length cap W h (by omega)
  have hs1 : (⟨e.text.toArray⟩ : ByteArray).size = e.text.length := by rw [size_list]
  have hs2 : (⟨x.toArray⟩ : ByteArray).size = x.length := by rw [size_list]
  have hsum : ((⟨e.text.toArray⟩ : ByteArray).size : Int) + ((⟨x.toArray⟩ : ByteArray).size : Int) ≤ 9223372036854775807 := by rw [hs1, hs2]; omega
  have hst : (⟨e.text.toArray⟩ : ByteArray) ++ ⟨x.toArray⟩ = ⟨(e.text ++ x).toArray⟩ := mk_of_list (by rw [app_list])
  have A : Hid (At b _ 59 w) := h1
  have H2 : Hid (World.ownsRow _ _ _ _ _ _ _) := h2
  have H3 : Hid _ := h3
  have H4 : Hid (OpenAt _ _ _ _ _ _) := h4
  have H5 : Hid (Row _ _ _ _ _) := h5
  have H6 : Hid (World.ownsRow _ _ _ _ _ _ _) := h6
  have H7 : Hid (KidsAt _ _ _) := h7
  have H8 : Hid (F = _) := h8
  have H9 : Hid (F.Nodup) := h9
  have HS : Hid _ := hst
  have hsum2 : (e.text.length : Int) + (x.length : Int) ≤ 9223372036854775807 := by omega
  clear h1 h2 h3 h4 h5 h6 h7 h8 h9 k ho hs1 hs2 hst hx
  go_enter Tryd.func22, Tryd.ntmps22
  go_wp2_with fail
  obtain ⟨Y, hY, y1, y2, y3, y4, y5, yG, yF⟩ := add_world (vt := #[.int .i64 3, .string nm, .slice ao n cp, .string ⟨x.toArray⟩]) A.out hg hgb' hfg
  rw [← hY]
  have t2 : Y.cell? ⟨g, l.length * 4 + 2, none⟩ = some (.string ⟨e.text.toArray⟩) := (yG _).trans d2
  have t3 : Y.cell? ⟨w.heap.size, 3, none⟩ = some (.string ⟨x.toArray⟩) := by rw [Lib.cell_of_heap y3]; rfl
  have tb : Y.cell? ⟨b, 2, none⟩ = some (.slice (some ⟨g, 0, none⟩) (l.length + 1) cap) := by rw [Lib.cell_of_heap y2]; rfl
  obtain ⟨r0, r1, r2, r3, r4⟩ := ev_cells y4
  have yRf : ∀ o, Y.frozen? ⟨w.heap.size + 1, o, none⟩ = false := fun o => Lib.frozen_of_heap y4 o
  have Y1 : Hid (Wr [b] w Y) := y1
  have Y2 : Hid (At b _ 59 Y) := y2
  have YG : Hid (∀ o, Y.cell? ⟨g, o, none⟩ = w.cell? ⟨g, o, none⟩) := yG
  clear hY y1 y2 y3 y4 y5 yG c0 c1 c2 c3 c4 d0 d1 d2 d3 fz hfg
  go_region_with
    (first | (go_at_call 41; refine (hL _ ?_).mono ?_; (exact tb); rintro e w1 ⟨rfl, q, rfl⟩))
  all_goals
    go_wp2_with fail
    refine bodyPost_ret (v := .tuple #[.agg #[.int .i64 0, .string ⟨#[]⟩, .slice none 0 0, .string ⟨#[]⟩, .slice none 0 0], .bool false]) (by simp [results, Tryd.results22, go_sem, r0, r1, r2, r3, r4]) rfl ?_
    rw [HS.out]
    exact text_close hbB hb H2.out H3.out H4.out H5.out H6.out H7.out H8.out H9.out Y1.out Y2.out
end Go.Proofs.YthekdgnikkjpdaaDoor
