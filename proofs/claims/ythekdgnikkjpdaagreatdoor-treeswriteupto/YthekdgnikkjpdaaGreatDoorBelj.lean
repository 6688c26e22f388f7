/-
  The contract of (*trees.Builder).add over this program, at a beginning and at a text within an item.
-/
import Derived.Test.YthekdgnikkjpdaaGreatDoorBelg
import Derived.Deep.RegionLaw
import Derived.Deep.RegionWith
namespace Go.Proofs.YthekdgnikkjpdaaGreatDoor
open Go.RowKit
theorem last_cells' {B g n cap : Nat} {w : World} {ys : List Value} {a b c d : Value} (h : w.ownsRow B 25 4 (.slice (some ⟨g, 0, none⟩) (n + 1) cap) (n + 1) (ys ++ [a, b, c, d])) (hy : ys.length = n * 4) :
    w.cell? ⟨g, n * 4, none⟩ = some a ∧ w.cell? ⟨g, n * 4 + 1, none⟩ = some b ∧ w.cell? ⟨g, n * 4 + 2, none⟩ = some c ∧ w.cell? ⟨g, n * 4 + 3, none⟩ = some d :=
  ⟨by rw [World.ownsRow.cellAt h _ (by omega)]; exact get_at (j := 0) hy, by rw [World.ownsRow.cellAt h _ (by omega)]; exact get_at (j := 1) hy, by rw [World.ownsRow.cellAt h _ (by omega)]; exact get_at (j := 2) hy, by rw [World.ownsRow.cellAt h _ (by omega)]; exact get_at (j := 3) hy⟩
theorem set2 {ys : List Value} {a b c d u : Value} (n : Nat) (h : ys.length = n) : (ys ++ [a, b, c, d]).set (n + 2) u = ys ++ [a, b, u, d] := by
  rw [List.set_append_right _ _ (by omega)]
  congr 1
  rw [show n + 2 - ys.length = 2 by omega]
  rfl
/-- The world in which add begins its work: one token more is taken, the token and the result lie in new blocks. -/
theorem add_world {b g cap m : Nat} {S : Bs} {w : World} {vt : Array Value} (A : At b #[.int .i64 S.stage, .string ⟨S.stream.toArray⟩, .slice (some ⟨g, 0, none⟩) m cap, .int .i64 S.taken, .int .i64 S.failed] 86 w) (hg : g < w.heap.size) (hgb : g ≠ b) (hfg : ∀ o, w.frozen? ⟨g, o, none⟩ = false) :
    ∃ Y, Y = (((w.setCell ⟨b, 3, none⟩ (.int .i64 (S.taken + 1))).alloc (.cells vt 73)).alloc (.cells #[.int .i64 0, .string ⟨#[]⟩, .slice none 0 0, .string ⟨#[]⟩, .slice none 0 0] 69)) ∧ Wr [b] w Y ∧
      At b #[.int .i64 S.stage, .string ⟨S.stream.toArray⟩, .slice (some ⟨g, 0, none⟩) m cap, .int .i64 (S.taken + 1), .int .i64 S.failed] 86 Y ∧ At w.heap.size vt 73 Y ∧ At (w.heap.size + 1) #[.int .i64 0, .string ⟨#[]⟩, .slice none 0 0, .string ⟨#[]⟩, .slice none 0 0] 69 Y ∧
      Y.heap.size = w.heap.size + 2 ∧ (∀ o, Y.cell? ⟨g, o, none⟩ = w.cell? ⟨g, o, none⟩) ∧ (∀ o, Y.frozen? ⟨g, o, none⟩ = false) := by
  have y1 : Wr [b] w (((w.setCell ⟨b, 3, none⟩ (.int .i64 (S.taken + 1))).alloc (.cells vt 73)).alloc (.cells #[.int .i64 0, .string ⟨#[]⟩, .slice none 0 0, .string ⟨#[]⟩, .slice none 0 0] 69)) := ((((Wr.refl [b] w).set b 3 _ (.inl (by simp))).alloc _).alloc _)
  have hb := lt_of_heap A
  refine ⟨_, rfl, y1, ((A.set 3 _).alloc _).alloc _, ?_, ?_, by simp, fun o => World.cell?_of_block (w := w) (y1.block g hg (by simpa using hgb)), fun o => (World.frozen?_of_block (w := w) (y1.block g hg (by simpa using hgb))).trans (hfg o)⟩
  · have := heap_alloc_new (w.setCell ⟨b, 3, none⟩ (.int .i64 (S.taken + 1))) (.cells vt 73)
    have es : (w.setCell ⟨b, 3, none⟩ (.int .i64 (S.taken + 1))).heap.size = w.heap.size := by simp
    rw [es] at this
    exact At.alloc this _
  · have := heap_alloc_new ((w.setCell ⟨b, 3, none⟩ (.int .i64 (S.taken + 1))).alloc (.cells vt 73)) (.cells #[.int .i64 0, .string ⟨#[]⟩, .slice none 0 0, .string ⟨#[]⟩, .slice none 0 0] 69)
    have es : ((w.setCell ⟨b, 3, none⟩ (.int .i64 (S.taken + 1))).alloc (.cells vt 73)).heap.size = w.heap.size + 1 := by simp
    rw [es] at this
    exact this
theorem text_close {B b g cap nd : Nat} {F bl : List Nat} {S : Bs} {w Y : World} {l : List El} {e : El} {ys zs : List Value} {x : List UInt8} {aob ao' : Option Addr} {capb cap' : Nat}
    (hbB : B ≤ b) (hb : b < w.heap.size)
    (h2 : w.ownsRow B 25 4 (.slice (some ⟨g, 0, none⟩) (l.length + 1) cap) (l.length + 1) (ys ++ [.string ⟨e.nm.toArray⟩, .slice aob e.attrs.length capb, .string ⟨e.text.toArray⟩, .slice ao' e.kids.length cap'])) (h3 : ys.length = l.length * 4)
    (h4 : OpenAt B (Pf F w) w l ys bl) (h5 : Row (Pf F w) w (.slice aob e.attrs.length capb) e.attrs.length (pairCells e.attrs)) (h6 : w.ownsRow B 25 4 (.slice ao' e.kids.length cap') e.kids.length zs) (h7 : KidsAt (ElE (Pf F w) w) e.kids zs)
    (h8 : F = b :: g :: (bl ++ (Value.slice ao' e.kids.length cap').ownBlock.toList)) (h9 : F.Nodup)
    (yW : Wr [b] w Y) (y2 : At b #[.int .i64 S.stage, .string ⟨S.stream.toArray⟩, .slice (some ⟨g, 0, none⟩) (l.length + 1) cap, .int .i64 (S.taken + 1), .int .i64 S.failed] 86 Y) :
    AddRes B b F (⟨S.stage, S.stream, l ++ [e.say x], S.taken + 1, S.failed⟩, none) w (.returned (.tuple #[.agg #[.int .i64 0, .string ⟨#[]⟩, .slice none 0 0, .string ⟨#[]⟩, .slice none 0 0], .bool false]))
      (((((((Y.drewN nd).setCell ⟨g, l.length * 4 + 2, none⟩ (.string ⟨(e.text ++ x).toArray⟩)).setCell ⟨w.heap.size + 1, 0, none⟩ (.int .i64 0)).setCell ⟨w.heap.size + 1, 1, none⟩ (.string ⟨#[]⟩)).setCell ⟨w.heap.size + 1, 2, none⟩ (.slice none 0 0)).setCell ⟨w.heap.size + 1, 3, none⟩ (.string ⟨#[]⟩)).setCell ⟨w.heap.size + 1, 4, none⟩ (.slice none 0 0)) := by
  obtain ⟨oe, hoe⟩ : ∃ oe, (Value.slice ao' e.kids.length cap').ownBlock = oe := ⟨_, rfl⟩
  rw [hoe] at h8
  have hg := (h2.lt g rfl)
  have hF := h9
  rw [h8] at hF
  have n1 := List.nodup_cons.1 hF
  have n2 := List.nodup_cons.1 n1.2
  have gb : g ≠ b := fun e => n1.1 (by simp [e])
  have eb : ∀ k, oe = some k → k ≠ b ∧ k ≠ g := fun k hk => ⟨fun e => n1.1 (by simp [hk, e]), fun e => n2.1 (by simp [hk, e])⟩
  have lb : ∀ k ∈ bl, k ≠ b ∧ k ≠ g := fun k hk => ⟨fun e => n1.1 (by simp [← e, hk]), fun e => n2.1 (by simp [← e, hk])⟩
  have v2 := (((yW.mono (L' := [b, g]) (by simp)).drewN nd).set g (l.length * 4 + 2) (.string ⟨(e.text ++ x).toArray⟩) (.inl (by simp))).set5 (r := w.heap.size + 1) (.inr (by omega)) (.int .i64 0) (.string ⟨#[]⟩) (.slice none 0 0) (.string ⟨#[]⟩) (.slice none 0 0)
  have vF := v2.mono (L' := F) (by rw [h8]; simp)
  have st := vF.stp (F' := F) (fun _ h => .inl h)
  refine ⟨F, 0, _, _, _, _, _, _, _, _, _, rfl, evOk_none _ _, ⟨hbB, .slice (some ⟨g, 0, none⟩) (l.length + 1) cap, _, _, ?_, ?_, OpenAt.snoc_mk (e := e.say x) (b := .slice aob e.attrs.length capb) (d := .slice ao' e.kids.length cap') (zs := zs) (h5.step st.rows) ?_ (h7.imp fun _ _ _ _ _ h => h.step st.rows) (h4.step st.rows ?_), ?_, h9⟩, vF, fun _ h => .inl h⟩
  · exact ((y2.drewN nd).other g _ _ (Ne.symm gb)).other5 (by omega) _ _ _ _ _
  · have o2 : (Y.drewN nd).ownsRow B 25 4 _ _ _ := owns_same h2 fun k hk => by
      cases hk
      exact yW.block g hg.2 (by simpa using gb)
    have o4 := (World.ownsRow.stored o2 (l.length * 4 + 2) (.string ⟨(e.text ++ x).toArray⟩)).1
    rw [set2 _ h3] at o4
    have o5 := owns_other5 o4 (b := w.heap.size + 1) (fun e => by have : g = w.heap.size + 1 := Option.some.inj e; omega) (.int .i64 0) (.string ⟨#[]⟩) (.slice none 0 0) (.string ⟨#[]⟩) (.slice none 0 0)
    have el : (l ++ [e.say x]).length = l.length + 1 := by simp
    rw [el]
    exact o5
  · refine owns_same h6 fun k hk => v2.block k (h6.lt k hk).2 ?_
    have := eb k (hoe.symm.trans hk)
    simp [this]
  · intro k hk
    refine v2.block k (h4.lt k hk).2 ?_
    have := lb k hk
    simp [this]
  · rw [h8]
    show _ = b :: ([g] ++ (bl ++ (Value.slice ao' e.kids.length cap').ownBlock.toList))
    rw [hoe]
    rfl
set_option maxHeartbeats 2000000 in
set_option maxRecDepth 100000 in
theorem add_text {B b : Nat} {F : List Nat} {S : Bs} {w : World} {l : List El} {e : El} (k : BAt B b F S w) (ho : S.opn = l ++ [e]) (hl : l.length < 10) (ht : 0 ≤ S.taken ∧ S.taken ≤ 64) (nm : ByteArray) (x : List UInt8) (ao : Option Addr) (n cp : Nat) (hx : e.text.length + x.length ≤ 4611686018427387904) :
    Calls Tryz.prog 43 #[.pointer (some ⟨b, 0, none⟩), .agg #[.int .i64 3, .string nm, .slice ao n cp, .string ⟨x.toArray⟩]] w (AddRes B b F (⟨S.stage, S.stream, l ++ [e.say x], S.taken + 1, S.failed⟩, none) w) := by
  have K : Hid (BAt B b F S w) := k
  have hbB := k.base
  obtain ⟨g, cap, ys, bv, ao', cap', zs, bl, h1, h2, h3, h4, h5, h6, h7, h8, h9⟩ := bat_item k ho
  obtain ⟨aob, capb, rfl⟩ : ∃ ao cap, bv = .slice ao e.attrs.length cap := by obtain ⟨ao, cap, h, _⟩ := h5; exact ⟨ao, cap, h⟩
  obtain ⟨d0, d1, d2, d3⟩ := last_cells' (n := l.length) h2 h3
  obtain ⟨c0, c1, c2, c3, c4, fz⟩ := bldCells h1
  have hb := lt_of_heap h1
  have hg := (h2.lt g rfl).2
  have hfg : ∀ o, w.frozen? ⟨g, o, none⟩ = false := fun o => World.ownsRow.frozenAt h2 o
  have hgb : ¬ b = g := by
    intro e
    rw [h8, e] at h9
    exact (List.nodup_cons.1 h9).1 (by simp)
  have hgb' : ¬ g = b := fun e => hgb e.symm
  have hbn : ¬ b = w.heap.size := by omega
  have hbn' : ¬ w.heap.size = b := by omega
  have hgn : ¬ g = w.heap.size := by omega
  have hgn' : ¬ w.heap.size = g := by omega
  have hgn1 : ¬ g = w.heap.size + 1 := by omega
  have hgn2 : ¬ w.heap.size + 1 = g := by omega
  have hL : ∀ W, W.cell? ⟨b, 2, none⟩ = some (.slice (some ⟨g, 0, none⟩) (l.length + 1) cap) → Calls Tryz.prog 57 #[.pointer (some ⟨b, 0, none⟩)] W fun e w' => e = .returned (.pointer (some ⟨g, l.length * 4, none⟩)) ∧ ∃ q, w' = W.drewN q := fun W h => last_any b g l.length cap W h (by omega)
  have hs1 : (⟨e.text.toArray⟩ : ByteArray).size = e.text.length := by rw [size_list]
  have hs2 : (⟨x.toArray⟩ : ByteArray).size = x.length := by rw [size_list]
  have hsum : ((⟨e.text.toArray⟩ : ByteArray).size : Int) + ((⟨x.toArray⟩ : ByteArray).size : Int) ≤ 9223372036854775807 := by rw [hs1, hs2]; omega
  have hst : (⟨e.text.toArray⟩ : ByteArray) ++ ⟨x.toArray⟩ = ⟨(e.text ++ x).toArray⟩ := mk_of_list (by rw [app_list])
  have A : Hid (At b _ 86 w) := h1
  have H2 : Hid (World.ownsRow _ _ _ _ _ _ _) := h2
  have H3 : Hid _ := h3
  have H4 : Hid (OpenAt _ _ _ _ _ _) := h4
  have H5 : Hid (Row _ _ _ _ _) := h5
  have H6 : Hid (World.ownsRow _ _ _ _ _ _ _) := h6
  have H7 : Hid (KidsAt _ _ _) := h7
  have H8 : Hid (F = _) := h8
  have H9 : Hid (F.Nodup) := h9
  have HS : Hid _ := hst
  have hsum2 : (e.text.length : Int) + (x.length : Int) ≤ 9223372036854775807 := by omega
  clear h1 h2 h3 h4 h5 h6 h7 h8 h9 k ho hs1 hs2 hst hx
  go_enter Tryz.func43, Tryz.ntmps43
  go_wp2_with fail
  obtain ⟨Y, hY, y1, y2, y3, y4, y5, yG, yF⟩ := add_world (vt := #[.int .i64 3, .string nm, .slice ao n cp, .string ⟨x.toArray⟩]) A.out hg hgb' hfg
  rw [← hY]
  have t2 : Y.cell? ⟨g, l.length * 4 + 2, none⟩ = some (.string ⟨e.text.toArray⟩) := (yG _).trans d2
  have t3 : Y.cell? ⟨w.heap.size, 3, none⟩ = some (.string ⟨x.toArray⟩) := by rw [Lib.cell_of_heap y3]; rfl
  have tb : Y.cell? ⟨b, 2, none⟩ = some (.slice (some ⟨g, 0, none⟩) (l.length + 1) cap) := by rw [Lib.cell_of_heap y2]; rfl
  obtain ⟨r0, r1, r2, r3, r4⟩ := ev_cells y4
  have yRf : ∀ o, Y.frozen? ⟨w.heap.size + 1, o, none⟩ = false := fun o => Lib.frozen_of_heap y4 o
  have Y1 : Hid (Wr [b] w Y) := y1
  have Y2 : Hid (At b _ 86 Y) := y2
  have YG : Hid (∀ o, Y.cell? ⟨g, o, none⟩ = w.cell? ⟨g, o, none⟩) := yG
  clear hY y1 y2 y3 y4 y5 yG c0 c1 c2 c3 c4 d0 d1 d2 d3 fz hfg
  go_region_with
    (first | (go_at_call 57; refine (hL _ ?_).mono ?_; (exact tb); rintro e w1 ⟨rfl, q, rfl⟩))
  all_goals
    go_wp2_with fail
    refine bodyPost_ret (v := .tuple #[.agg #[.int .i64 0, .string ⟨#[]⟩, .slice none 0 0, .string ⟨#[]⟩, .slice none 0 0], .bool false]) (by simp [results, Tryz.results43, go_sem, r0, r1, r2, r3, r4]) rfl ?_
    rw [HS.out]
    exact text_close hbB hb H2.out H3.out H4.out H5.out H6.out H7.out H8.out H9.out Y1.out Y2.out
end Go.Proofs.YthekdgnikkjpdaaGreatDoor
/-
  The contract of (*trees.Builder).add over this program, at a beginning within an item.
-/
namespace Go.Proofs.YthekdgnikkjpdaaGreatDoor
open Go.RowKit
theorem owns_heap' {B : Nat} {t : TypeId} {sz : Nat} {v : Value} {n : Nat} {xs : List Value} {w w' : World} (h : w.ownsRow B t sz v n xs) (e : w'.heap = w.heap) : w'.ownsRow B t sz v n xs := by
  exact owns_same h fun k _ => by rw [e]
theorem new_cells' {B g n cap : Nat} {w : World} {zs : List Value} {a b c d : Value} (h : w.ownsRow B 25 4 (.slice (some ⟨g, 0, none⟩) (n + 1) cap) (n + 1) (zs ++ [a, b, c, d])) :
    w.cell? ⟨g, n * 4, none⟩ = some a ∧ w.cell? ⟨g, n * 4 + 1, none⟩ = some b ∧ w.cell? ⟨g, n * 4 + 2, none⟩ = some c ∧ w.cell? ⟨g, n * 4 + 3, none⟩ = some d :=
  last_cells' h (by have := h.1; simp at this; omega)
theorem begin_close {B b g cap : Nat} {F bl : List Nat} {S : Bs} {w Z w2 : World} {l : List El} {t : Tok} {xs : List Value} {ao1 : Option Addr} {cap1 gg cap3 B1 : Nat}
    (hbB : B ≤ b) (hb : b < w.heap.size)
    (h2 : w.ownsRow B 25 4 (.slice (some ⟨g, 0, none⟩) l.length cap) l.length xs)
    (h4 : OpenAt B (Pf F w) w l xs bl) (h8 : F = b :: g :: bl) (h9 : F.Nodup)
    (yW : Wr [b] w Z) (y2 : At b #[.int .i64 S.stage, .string ⟨S.stream.toArray⟩, .slice (some ⟨g, 0, none⟩) l.length cap, .int .i64 (S.taken + 1), .int .i64 S.failed] 86 Z) (hB1 : w.heap.size + 2 ≤ B1) (ha : AttrsAt B1 (.slice ao1 t.attrs.length cap1) t.attrs Z)
    (hown1 : w2.ownsRow B 25 4 (.slice (some ⟨gg, 0, none⟩) (l.length + 1) cap3) (l.length + 1) (xs ++ [.string ⟨#[]⟩, .slice none 0 0, .string ⟨#[]⟩, .slice none 0 0]))
    (hgrow : Z.grownBy w2 (some g)) (hat : g = gg ∨ gg = Z.heap.size) (hZ : w.heap.size + 2 ≤ Z.heap.size) :
    AddRes B b F (⟨S.stage, S.stream, l ++ [elOf t], S.taken + 1, S.failed⟩, none) w (.returned (.tuple #[.agg #[.int .i64 0, .string ⟨#[]⟩, .slice none 0 0, .string ⟨#[]⟩, .slice none 0 0], .bool false]))
      ((((((((((w2.setCell ⟨gg, l.length * 4, none⟩ (.string ⟨t.nm.toArray⟩)).setCell ⟨gg, l.length * 4 + 1, none⟩ (.slice ao1 t.attrs.length cap1)).setCell ⟨gg, l.length * 4 + 2, none⟩ (.string ⟨#[]⟩)).setCell ⟨gg, l.length * 4 + 3, none⟩ (.slice none 0 0)).setCell
        ⟨b, 2, none⟩ (.slice (some ⟨gg, 0, none⟩) (l.length + 1) cap3)).setCell ⟨w.heap.size + 1, 0, none⟩ (.int .i64 0)).setCell ⟨w.heap.size + 1, 1, none⟩ (.string ⟨#[]⟩)).setCell ⟨w.heap.size + 1, 2, none⟩ (.slice none 0 0)).setCell ⟨w.heap.size + 1, 3, none⟩ (.string ⟨#[]⟩)).setCell ⟨w.heap.size + 1, 4, none⟩ (.slice none 0 0)) := by
  have hzl : xs.length = l.length * 4 := h4.length
  have hg := (h2.lt g rfl)
  have hF := h9
  rw [h8] at hF
  have n1 := List.nodup_cons.1 hF
  have n2 := List.nodup_cons.1 n1.2
  have gb : g ≠ b := fun e => n1.1 (by simp [e])
  have lb : ∀ k ∈ bl, k ≠ b ∧ k ≠ g := fun k hk => ⟨fun e => n1.1 (by simp [← e, hk]), fun e => n2.1 (by simp [← e, hk])⟩
  have hgg : gg ≠ b ∧ gg ≠ w.heap.size + 1 ∧ B ≤ gg ∧ (∀ k ∈ bl, k ≠ gg) ∧ (gg ∈ F ∨ w.heap.size ≤ gg) := by
    rcases hat with rfl | hat
    · exact ⟨gb, by omega, hg.1, fun k hk => (lb k hk).2, .inl (by rw [h8]; simp)⟩
    · refine ⟨by omega, by omega, by omega, fun k hk e => ?_, .inr (by omega)⟩
      have := h4.lt k hk
      omega
  obtain ⟨q1, q3, q4, q6, q7⟩ := hgg
  have v1 : Wr [b, g, gg, w.heap.size + 1] w w2 := (yW.mono (L' := [b, g, gg, w.heap.size + 1]) (by simp)).grown hgrow (fun k hk => .inl (by cases hk; simp))
  have v2 := (((v1.set4 (r := gg) (j := l.length * 4) (.inl (by simp)) (.string ⟨t.nm.toArray⟩) (.slice ao1 t.attrs.length cap1) (.string ⟨#[]⟩) (.slice none 0 0)).set b 2 (.slice (some ⟨gg, 0, none⟩) (l.length + 1) cap3) (.inl (by simp))).set5 (r := w.heap.size + 1) (.inl (by simp)) (.int .i64 0) (.string ⟨#[]⟩) (.slice none 0 0) (.string ⟨#[]⟩) (.slice none 0 0))
  have bF : b ∈ F := by rw [h8]; simp
  have gF : g ∈ F := by rw [h8]; simp
  have vF := v2.mono (L' := F) (by
    intro k hk
    simp at hk
    rcases hk with rfl | rfl | rfl | rfl
    · exact .inl bF
    · exact .inl gF
    · exact q7
    · exact .inr (by omega))
  have sF' : ∀ k ∈ b :: gg :: bl, k ∈ F ∨ w.heap.size ≤ k := by
    intro k hk
    simp at hk
    rcases hk with rfl | rfl | hk
    · exact .inl bF
    · exact q7
    · exact .inl (by rw [h8]; simp [hk])
  have st := vF.stp sF'
  have e0 : bl = bl ++ (Value.slice none 0 0).ownBlock.toList := by simp [Value.ownBlock]
  have hab : ∀ k, (Value.slice ao1 t.attrs.length cap1).ownBlock = some k → w.heap.size + 2 ≤ k ∧ k < Z.heap.size := fun k hk => by have := ha.lt k hk; omega
  refine ⟨b :: gg :: bl, 0, _, _, _, _, _, _, _, _, _, rfl, evOk_none _ _, ⟨hbB, .slice (some ⟨gg, 0, none⟩) (l.length + 1) cap3, _, _, ?_, ?_, OpenAt.snoc_mk (e := elOf t) (b := .slice ao1 t.attrs.length cap1) (d := .slice none 0 0) (zs := []) ?_ (World.ownsRow_nil _ _ _ _) rfl (h4.step st.rows ?_), by rw [← e0]; rfl, ?_⟩, vF, sF'⟩
  · have a2 := y2.grown hgrow (fun e => gb (Option.some.inj e).symm)
    exact (((a2.other4 (Ne.symm q1) _ _ _ _).set 2 _).other5 (by omega) _ _ _ _ _)
  · have o1 := owns_setFour (a' := .string ⟨t.nm.toArray⟩) (b' := .slice ao1 t.attrs.length cap1) (c' := .string ⟨#[]⟩) (d' := .slice none 0 0) hown1 hzl
    have o2 := owns_other5 (owns_other o1 b 2 (.slice (some ⟨gg, 0, none⟩) (l.length + 1) cap3) (fun e => q1 (Option.some.inj e))) (b := w.heap.size + 1) (fun e => q3 (Option.some.inj e)) (.int .i64 0) (.string ⟨#[]⟩) (.slice none 0 0) (.string ⟨#[]⟩) (.slice none 0 0)
    have el : (l ++ [elOf t]).length = l.length + 1 := by simp
    rw [el]
    exact o2
  · have u1 : Wr [g, gg, b, w.heap.size + 1] Z w2 := (Wr.refl _ Z).grown hgrow (fun k hk => .inl (by cases hk; simp))
    have u2 := (((u1.set4 (r := gg) (j := l.length * 4) (.inl (by simp)) (.string ⟨t.nm.toArray⟩) (.slice ao1 t.attrs.length cap1) (.string ⟨#[]⟩) (.slice none 0 0)).set b 2 (.slice (some ⟨gg, 0, none⟩) (l.length + 1) cap3) (.inl (by simp))).set5 (r := w.heap.size + 1) (.inl (by simp)) (.int .i64 0) (.string ⟨#[]⟩) (.slice none 0 0) (.string ⟨#[]⟩) (.slice none 0 0))
    have hgk : ∀ k, (Value.slice ao1 t.attrs.length cap1).ownBlock = some k → k ≠ gg := fun k hk e => by
      have := hab k hk
      rcases hat with rfl | hat <;> omega
    refine row_pf (owns_same ha fun k hk => u2.block k (hab k hk).2 ?_) (by decide) fun k hk => ?_
    · have := hab k hk
      have := hgk k hk
      simp
      omega
    · have := hab k hk
      have := hgk k hk
      simp
      refine ⟨by omega, by omega, fun hm => ?_⟩
      have := h4.lt k hm
      omega
  · intro k hk
    have x := lb k hk
    have y := h4.lt k hk
    refine v2.block k y.2 ?_
    have z := q6 k hk
    simp
    exact ⟨x.1, x.2, z, by omega⟩
  · refine List.nodup_cons.2 ⟨?_, List.nodup_cons.2 ⟨fun h => q6 gg h rfl, n2.2⟩⟩
    simp
    exact ⟨Ne.symm q1, fun h => (lb b h).1 rfl⟩
end Go.Proofs.YthekdgnikkjpdaaGreatDoor
/-
  The contract of (*trees.Builder).add over this program, at a beginning within an item: the walk.
-/
namespace Go.Proofs.YthekdgnikkjpdaaGreatDoor
open Go.RowKit
set_option maxHeartbeats 8000000 in
set_option maxRecDepth 100000 in
theorem add_begin {B b : Nat} {F : List Nat} {S : Bs} {w : World} {l : List El} (k : BAt B b F S w) (ho : S.opn = l) (hl0 : 0 < l.length) (hl : l.length < 10) (ht : 0 ≤ S.taken ∧ S.taken ≤ 64) (t : Tok) (x : ByteArray) (ao : Option Addr) (cp : Nat) (hr : Row (fun k => k ∉ F) w (.slice ao t.attrs.length cp) t.attrs.length (pairCells t.attrs)) (hbig : t.attrs.length * 32 ≤ 140737488355328) :
    Calls Tryz.prog 43 #[.pointer (some ⟨b, 0, none⟩), .agg #[.int .i64 1, .string ⟨t.nm.toArray⟩, .slice ao t.attrs.length cp, .string x]] w (AddRes B b F (⟨S.stage, S.stream, l ++ [elOf t], S.taken + 1, S.failed⟩, none) w) := by
  have hbF := F_head k
  have hbB := k.base
  obtain ⟨v, xs, bl, h1, h2, h4, h8, h9⟩ := k.at_
  rw [ho] at h2 h4
  obtain ⟨g, cap, rfl⟩ := owns_form h2 hl0
  replace h8 : F = b :: g :: bl := h8
  obtain ⟨c0, c1, c2, c3, c4, fz⟩ := bldCells h1
  have hb := lt_of_heap h1
  have hg := (h2.lt g rfl).2
  have hfg : ∀ o, w.frozen? ⟨g, o, none⟩ = false := fun o => World.ownsRow.frozenAt h2 o
  have hgb : ¬ b = g := by
    intro e
    rw [h8, e] at h9
    exact (List.nodup_cons.1 h9).1 (by simp)
  have hgb' : ¬ g = b := fun e => hgb e.symm
  have H1 : ∀ W, Wr [b] w W → Calls Tryz.prog 59 #[.agg #[.int .i64 1, .string ⟨t.nm.toArray⟩, .slice ao t.attrs.length cp, .string x]] W fun e w' => ElRes0 W.heap.size ⟨t.nm.toArray⟩ t.attrs e w' ∧ Below W.heap.size W w' := fun W hb => begunBy_any (P := fun k => k ∉ F) 1 _ x ao cp t.attrs W (hr.step fun k h1 h2 => ⟨h1, hb.block k h2 (by intro e; rw [List.mem_singleton] at e; exact h1 (e ▸ hbF))⟩) hbig
  have hle : ((l.length : Int) == 0) = false := by rw [beq_eq_false_iff_ne]; omega
  have A : Hid (At b _ 86 w) := h1
  have H2 : Hid (World.ownsRow _ _ _ _ _ _ _) := h2
  have H4 : Hid (OpenAt _ _ _ _ _ _) := h4
  have H8 : Hid (F = _) := h8
  have H9 : Hid (F.Nodup) := h9
  clear h1 h2 h4 h8 h9 k ho hr
  go_enter Tryz.func43, Tryz.ntmps43
  go_wp2_with fail
  obtain ⟨Y, hY, y1, y2, y3, y4, y5, yG, yF⟩ := add_world (vt := #[.int .i64 1, .string ⟨t.nm.toArray⟩, .slice ao t.attrs.length cp, .string x]) A.out hg hgb' hfg
  rw [← hY]
  have tb : Y.cell? ⟨b, 2, none⟩ = some (.slice (some ⟨g, 0, none⟩) l.length cap) := by rw [Lib.cell_of_heap y2]; rfl
  have t0 : Y.cell? ⟨w.heap.size, 0, none⟩ = some (.int .i64 1) := by rw [Lib.cell_of_heap y3]; rfl
  have t1 : Y.cell? ⟨w.heap.size, 1, none⟩ = some (.string ⟨t.nm.toArray⟩) := by rw [Lib.cell_of_heap y3]; rfl
  have t2 : Y.cell? ⟨w.heap.size, 2, none⟩ = some (.slice ao t.attrs.length cp) := by rw [Lib.cell_of_heap y3]; rfl
  have t3 : Y.cell? ⟨w.heap.size, 3, none⟩ = some (.string x) := by rw [Lib.cell_of_heap y3]; rfl
  have hYs : w.heap.size + 1 < Y.heap.size := by omega
  have YK : Hid (Y.ownsRow B 25 4 (.slice (some ⟨g, 0, none⟩) l.length cap) l.length xs) := owns_same H2.out fun k hk => by cases hk; exact y1.block g hg (by simpa using hgb')
  have Y1 : Hid (Wr [b] w Y) := y1
  have Y2 : Hid (At b _ 86 Y) := y2
  have Y4 : Hid (At _ _ 69 Y) := y4
  have Y5 : Hid (Y.heap.size = w.heap.size + 2) := y5
  have hbY : b < Y.heap.size := by omega
  have hwY : w.heap.size < Y.heap.size := by omega
  have hYA0 : ∀ n ob o, ((Y.drewN n).alloc ob).cell? ⟨w.heap.size, o, none⟩ = Y.cell? ⟨w.heap.size, o, none⟩ := fun n ob o => World.cell?_of_block (w := Y) (Below.heap_alloc Y ob _ hwY)
  have hYA2 : ∀ n ob o, ((Y.drewN n).alloc ob).cell? ⟨b, o, none⟩ = Y.cell? ⟨b, o, none⟩ := fun n ob o => World.cell?_of_block (w := Y) (Below.heap_alloc Y ob _ hbY)
  have hYA0' : ∀ ob o, (Y.drew.alloc ob).cell? ⟨w.heap.size, o, none⟩ = Y.cell? ⟨w.heap.size, o, none⟩ := fun ob o => World.cell?_of_block (w := Y) (Below.heap_alloc Y ob _ hwY)
  have hYA2' : ∀ ob o, (Y.drew.alloc ob).cell? ⟨b, o, none⟩ = Y.cell? ⟨b, o, none⟩ := fun ob o => World.cell?_of_block (w := Y) (Below.heap_alloc Y ob _ hbY)
  clear hY y1 y2 y3 y4 y5 yG yF c0 c1 c2 c3 c4 fz hfg
  obtain ⟨i0, hi, hz0, hz1, hz2⟩ := info_parts info32
  have hfb : some b ≠ (Value.slice (some ⟨g, 0, none⟩) l.length cap).ownBlock := fun e => hgb (Option.some.inj e)
  have hfr : some (w.heap.size + 1) ≠ (Value.slice (some ⟨g, 0, none⟩) l.length cap).ownBlock := fun e => by have : w.heap.size + 1 = g := Option.some.inj e; omega
  obtain ⟨r0, r1, r2, r3, r4⟩ := ev_cells Y4.out
  have hk0 : (0 : Int) ≤ (l.length : Int) := Int.natCast_nonneg _
  have hk1 : (l.length : Int) < (l.length : Int) + 1 := by omega
  go_region_law
    (first
      | (refine step_append_lies _ (by rfl) _ _ _ (by rfl) B 25 i0 _ 4 80 Tryz.underlying23 hi hz0 hz1 hz2 rfl (by omega) _ l.length xs (by rfl) (World.ownsRow.alloc (owns_below (owns_heap' YK.out (by rfl)) hb1) (.cells #[.string ⟨#[]⟩, .slice none 0 0, .string ⟨#[]⟩, .slice none 0 0] 25))
           ⟨w1.heap.size, 0, none⟩ 1 1 [.string ⟨#[]⟩, .slice none 0 0, .string ⟨#[]⟩, .slice none 0 0] (by rfl) (by rfl) (World.news_of_block (cs := #[.string ⟨#[]⟩, .slice none 0 0, .string ⟨#[]⟩, .slice none 0 0]) (t := 25) (fr := (0, 0)) (heap_alloc_new w1 _)) (by simp [Value.oneCell'])
           (by omega) (by unfold maxLen; omega) (by omega) (by simp; omega) (w1.heap.size + 1) (by simp) ?_
         intro gg cap3 w2 hown1 hgrow hat hlt1
         obtain ⟨e0, e1, e2, e3⟩ := new_cells' hown1
         have ef : ∀ o, w2.frozen? ⟨gg, o, none⟩ = false := (fun o => World.ownsRow.frozenAt hown1 o)
         have qb : ∀ o, w2.cell? ⟨b, o, none⟩ = Y.cell? ⟨b, o, none⟩ := (fun o => (hgrow.cell_far ⟨b, o, none⟩ (by simp; omega) hfb).trans ((World.cell?_of_block (w := w1) (Below.heap_alloc w1 _ b (by omega))).trans ((bcell wb).1 b o hbY)))
         have qbf : ∀ o, w2.frozen? ⟨b, o, none⟩ = false := (fun o => (hgrow.frozen_far ⟨b, o, none⟩ (by simp; omega) hfb).trans ((World.frozen?_of_block (w := w1) (a := ⟨b, o, none⟩) (Below.heap_alloc w1 _ b (by omega))).trans (((bcell wb).2 b o hbY).trans (Lib.frozen_of_heap Y2.out o))))
         have qr : ∀ o, w2.cell? ⟨w.heap.size + 1, o, none⟩ = Y.cell? ⟨w.heap.size + 1, o, none⟩ := (fun o => (hgrow.cell_far ⟨w.heap.size + 1, o, none⟩ (by simp; omega) hfr).trans ((World.cell?_of_block (w := w1) (Below.heap_alloc w1 _ (w.heap.size + 1) (by omega))).trans ((bcell wb).1 _ o hYs)))
         have qrf : ∀ o, w2.frozen? ⟨w.heap.size + 1, o, none⟩ = false := (fun o => (hgrow.frozen_far ⟨w.heap.size + 1, o, none⟩ (by simp; omega) hfr).trans ((World.frozen?_of_block (w := w1) (a := ⟨w.heap.size + 1, o, none⟩) (Below.heap_alloc w1 _ (w.heap.size + 1) (by omega))).trans (((bcell wb).2 _ o hYs).trans (Lib.frozen_of_heap Y4.out o))))
         have hgg : gg ≠ b ∧ gg ≠ w.heap.size + 1 := (by rcases hat with hat | hat; (have : g = gg := Option.some.inj hat; subst this; exact ⟨hgb', by omega⟩); (subst hat; exact ⟨by omega, by omega⟩))
         obtain ⟨n1, n4⟩ := hgg
         have n1' : ¬ b = gg := (fun e => n1 e.symm)
         have n4' : ¬ w.heap.size + 1 = gg := (fun e => n4 e.symm))
      | (refine step_append_lies _ (by rfl) _ _ _ (by rfl) B 25 i0 _ 4 80 Tryz.underlying23 hi hz0 hz1 hz2 rfl (by omega) _ l.length xs (by rfl) (owns_below (owns_heap' (World.ownsRow.alloc YK.out (.cells #[.string ⟨#[]⟩, .slice none 0 0, .string ⟨#[]⟩, .slice none 0 0] 25)) (by rfl)) hb1)
           ⟨Y.heap.size, 0, none⟩ 1 1 [.string ⟨#[]⟩, .slice none 0 0, .string ⟨#[]⟩, .slice none 0 0] (by rfl) (by rfl) (World.news_of_block (cs := #[.string ⟨#[]⟩, .slice none 0 0, .string ⟨#[]⟩, .slice none 0 0]) (t := 25) (fr := (0, 0)) ((hb1.block Y.heap.size (by simp)).trans (heap_alloc_new Y _))) (by simp [Value.oneCell'])
           (by omega) (by unfold maxLen; omega) (by omega) (by omega) (w1.heap.size) (by rfl) ?_
         intro gg cap3 w2 hown1 hgrow hat hlt1
         obtain ⟨e0, e1, e2, e3⟩ := new_cells' hown1
         have ef : ∀ o, w2.frozen? ⟨gg, o, none⟩ = false := (fun o => World.ownsRow.frozenAt hown1 o)
         have qb : ∀ o, w2.cell? ⟨b, o, none⟩ = Y.cell? ⟨b, o, none⟩ := (fun o => (hgrow.cell_far ⟨b, o, none⟩ (by simp; omega) hfb).trans ((bcell wb).1 b o hbY))
         have qbf : ∀ o, w2.frozen? ⟨b, o, none⟩ = false := (fun o => (hgrow.frozen_far ⟨b, o, none⟩ (by simp; omega) hfb).trans (((bcell wb).2 b o hbY).trans (Lib.frozen_of_heap Y2.out o)))
         have qr : ∀ o, w2.cell? ⟨w.heap.size + 1, o, none⟩ = Y.cell? ⟨w.heap.size + 1, o, none⟩ := (fun o => (hgrow.cell_far ⟨w.heap.size + 1, o, none⟩ (by simp; omega) hfr).trans ((bcell wb).1 _ o hYs))
         have qrf : ∀ o, w2.frozen? ⟨w.heap.size + 1, o, none⟩ = false := (fun o => (hgrow.frozen_far ⟨w.heap.size + 1, o, none⟩ (by simp; omega) hfr).trans (((bcell wb).2 _ o hYs).trans (Lib.frozen_of_heap Y4.out o)))
         have hgg : gg ≠ b ∧ gg ≠ w.heap.size + 1 := (by rcases hat with hat | hat; (have : g = gg := Option.some.inj hat; subst this; exact ⟨hgb', by omega⟩); (subst hat; exact ⟨by omega, by omega⟩))
         obtain ⟨n1, n4⟩ := hgg
         have n1' : ¬ b = gg := (fun e => n1 e.symm)
         have n4' : ¬ w.heap.size + 1 = gg := (fun e => n4 e.symm))
      | (go_simp
         go_at_call 59
         refine (H1 _ ?_).mono ?_
         · (first | exact Y1.out.drew | exact Y1.out.drew.alloc _ | exact (Y1.out.alloc _).drew | exact Y1.out.drewN _ | exact (Y1.out.drewN _).alloc _ | exact (Y1.out.alloc _).drewN _)
         rintro e w1 ⟨⟨ao1, cap1, rfl, ha⟩, hb1⟩
         have wb : Below Y.heap.size Y w1 := (by first | exact ((Below.refl _ Y).drew).trans (hb1.mono (Nat.le_refl _)) | exact (((Below.refl _ Y).drew).alloc (Nat.le_refl _) _).trans (hb1.mono (by simp)))
         have hw1 := wb.size
         have wbc : ∀ o, w1.cell? ⟨b, o, none⟩ = Y.cell? ⟨b, o, none⟩ := (fun o => (bcell wb).1 b o hbY)
         have wbca : ∀ ob o, (w1.alloc ob).cell? ⟨b, o, none⟩ = Y.cell? ⟨b, o, none⟩ := (fun ob o => (World.cell?_of_block (w := w1) (Below.heap_alloc w1 ob b (by omega))).trans ((bcell wb).1 b o hbY))))
  all_goals
    go_wp2_with fail
    refine bodyPost_ret (v := .tuple #[.agg #[.int .i64 0, .string ⟨#[]⟩, .slice none 0 0, .string ⟨#[]⟩, .slice none 0 0], .bool false]) (by simp [results, Tryz.results43, go_sem, qr, r0, r1, r2, r3, r4]) rfl ?_
    try rw [set4_comm n1']
    have hY5 := Y5.out
    have zW := Y1.out.then_ (wb.mono (Nat.le_of_lt (Nat.lt_trans (Nat.lt_succ_self _) hYs)))
    have zA := At.below Y2.out wb hbY
    have hB1 := hb1.size
    first
      | exact begin_close hbB hb H2.out H4.out H8.out H9.out (zW.alloc _) (zA.alloc _) (by simp; omega) (World.ownsRow.alloc ha _) hown1 hgrow (hat.imp (fun h => Option.some.inj h) (fun h => h.trans (by simp))) (by simp; omega)
      | exact begin_close hbB hb H2.out H4.out H8.out H9.out zW zA (by simp; omega) ha hown1 hgrow (hat.imp Option.some.inj id) (by omega)
end Go.Proofs.YthekdgnikkjpdaaGreatDoor
