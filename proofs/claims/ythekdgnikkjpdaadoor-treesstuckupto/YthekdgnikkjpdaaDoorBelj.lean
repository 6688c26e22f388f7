/-
  The contract of (*trees.Builder).add over this program, at a beginning within an item: the walk.
-/
import Derived.Test.YthekdgnikkjpdaaDoorBeli
namespace Go.Proofs.YthekdgnikkjpdaaDoor
open Go.RowKit
set_option maxHeartbeats 8000000 in
set_option maxRecDepth 100000 in
theorem add_begin {B b : Nat} {F : List Nat} {S : Bs} {w : World} {l : List El} (k : BAt B b F S w) (ho : S.opn = l) (hl0 : 0 < l.length) (hl : l.length < 10) (ht : 0 ≤ S.taken ∧ S.taken ≤ 64) (t : Tok) (x : ByteArray) (ao : Option Addr) (cp : Nat) (hr : Row (fun k => k ∉ F) w (.slice ao t.attrs.length cp) t.attrs.length (pairCells t.attrs)) (hbig : t.attrs.length * 32 ≤ 140737488355328) :
    Calls Tryd.prog 22 #[.pointer (some ⟨b, 0, none⟩), .agg #[.int .i64 1, .string ⟨t.nm.toArray⟩, .slice ao t.attrs.length cp, .string x]] w (AddRes B b F (⟨S.stage, S.stream, l ++ [elOf t], S.taken + 1, S.failed⟩, none) w) := by
  have hbF := F_head k
  have hbB := k.base
  obtain ⟨v, xs, bl, h1, h2, h4, h8, h9⟩ := k.at_
  rw [ho] at h2 h4
  obtain ⟨g, cap, rfl⟩ := owns_form h2 hl0
  replace h8 : F = b :: g :: bl := h8
  obtain ⟨c0, c1, c2, c3, c4, fz⟩ := bldCells h1
  have hb := lt_of_heap h1
  have hg := (h2.lt g rfl).2
  have hfg : ∀ o, w.frozen? ⟨g, o, none⟩ = false := fun o => World.ownsRow.frozenAt h2 o
  have hgb : ¬ b = g := by
    intro e
    rw [h8, e] at h9
    exact (List.nodup_cons.1 h9).1 (by simp)
  have hgb' : ¬ g = b := fun e => hgb e.symm
  have H1 : ∀ W, Wr [b] w W → Calls Tryd.prog 43 #[.agg #[.int .i64 1, .string ⟨t.nm.toArray⟩, .slice ao t.attrs.length cp, .string x]] W fun e w' => ElRes0 W.heap.size ⟨t.nm.toArray⟩ t.attrs e w' ∧ Below W.heap.size W w' := fun W hb => begunBy_any (P := fun k => k ∉ F) 1 _ x ao cp t.attrs W (hr.step fun k h1 h2 => ⟨h1, hb.block k h2 (by intro e; rw [List.mem_singleton] at e; exact h1 (e ▸ hbF))⟩) hbig
  have hle : ((l.length : Int) == 0) = false := by rw [beq_eq_false_iff_ne]; omega
  have A : Hid (At b _ 59 w) := h1
  have H2 : Hid (World.ownsRow _ _ _ _ _ _ _) := h2
  have H4 : Hid (OpenAt _ _ _ _ _ _) := h4
  have H8 : Hid (F = _) := h8
  have H9 : Hid (F.Nodup) := h9
  clear h1 h2 h4 h8 h9 k ho hr
  go_enter Tryd.func22, Tryd.ntmps22
  go_wp2_with fail
  obtain ⟨Y, hY, y1, y2, y3, y4, y5, yG, yF⟩ := add_world (vt := #[.int .i64 1, .string ⟨t.nm.toArray⟩, .slice ao t.attrs.length cp, .string x]) A.out hg hgb' hfg
  rw [← hY]
  have tb : Y.cell? ⟨b, 2, none⟩ = some (.slice (some ⟨g, 0, none⟩) l.length cap) := by rw [Lib.cell_of_heap y2]; rfl
  have t0 : Y.cell? ⟨w.heap.size, 0, none⟩ = some (.int .i64 1) := by rw [Lib.cell_of_heap y3]; rfl
  have t1 : Y.cell? ⟨w.heap.size, 1, none⟩ = some (.string ⟨t.nm.toArray⟩) := by rw [Lib.cell_of_heap y3]; rfl
  have t2 : Y.cell? ⟨w.heap.size, 2, none⟩ = some (.slice ao t.attrs.length cp) := by rw [Lib.cell_of_heap y3]; rfl
  have t3 : Y.cell? ⟨w.heap.size, 3, none⟩ = some (.string x) := by rw [Lib.cell_of_heap y3]; rfl
  have hYs : w.heap.size + 1 < Y.heap.size := by omega
  have YK : Hid (Y.ownsRow B 32 4 (.slice (some ⟨g, 0, none⟩) l.length cap) l.length xs) := owns_same H2.out fun k hk => by cases hk; exact y1.block g hg (by simpa using hgb')
  have Y1 : Hid (Wr [b] w Y) := y1
  have Y2 : Hid (At b _ 59 Y) := y2
  have Y4 : Hid (At _ _ 34 Y) := y4
  have Y5 : Hid (Y.heap.size = w.heap.size + 2) := y5
  have hbY : b < Y.heap.size := by omega
  have hwY : w.heap.size < Y.heap.size := by omega
  have hYA0 : ∀ n ob o, ((Y.drewN n).alloc ob).cell? ⟨w.heap.size, o, none⟩ = Y.cell? ⟨w.heap.size, o, none⟩ := fun n ob o => World.cell?_of_block (w := Y) (Below.heap_alloc Y ob _ hwY)
  have hYA2 : ∀ n ob o, ((Y.drewN n).alloc ob).cell? ⟨b, o, none⟩ = Y.cell? ⟨b, o, none⟩ := fun n ob o => World.cell?_of_block (w := Y) (Below.heap_alloc Y ob _ hbY)
  have hYA0' : ∀ ob o, (Y.drew.alloc ob).cell? ⟨w.heap.size, o, none⟩ = Y.cell? ⟨w.heap.size, o, none⟩ := fun ob o => World.cell?_of_block (w := Y) (Below.heap_alloc Y ob _ hwY)
  have hYA2' : ∀ ob o, (Y.drew.alloc ob).cell? ⟨b, o, none⟩ = Y.cell? ⟨b, o, none⟩ := fun ob o => World.cell?_of_block (w := Y) (Below.heap_alloc Y ob _ hbY)
  clear hY y1 y2 y3 y4 y5 yG yF c0 c1 c2 c3 c4 fz hfg
  obtain ⟨i0, hi, hz0, hz1, hz2⟩ := info_parts info32
  have hfb : some b ≠ (Value.slice (some ⟨g, 0, none⟩) l.length cap).ownBlock := fun e => hgb (Option.some.inj e)
  have hfr : some (w.heap.size + 1) ≠ (Value.slice (some ⟨g, 0, none⟩) l.length cap).ownBlock := fun e => by have : w.heap.size + 1 = g := Option.some.inj e; omega
  obtain ⟨r0, r1, r2, r3, r4⟩ := ev_cells Y4.out
  have hk0 : (0 : Int) ≤ (l.length : Int) := Int.natCast_nonneg _
  have hk1 : (l.length : Int) < (l.length : Int) + 1 := by omega
  go_region_law
    (first
      | (refine step_append_lies _ (by rfl) _ _ _ (by rfl) B 32 i0 _ 4 80 Tryd.underlying30 hi hz0 hz1 hz2 rfl (by omega) _ l.length xs (by rfl) (World.ownsRow.alloc (owns_below (owns_heap' YK.out (by rfl)) hb1) (.cells #[.string ⟨#[]⟩, .slice none 0 0, .string ⟨#[]⟩, .slice none 0 0] 32))
           ⟨w1.heap.size, 0, none⟩ 1 1 [.string ⟨#[]⟩, .slice none 0 0, .string ⟨#[]⟩, .slice none 0 0] (by rfl) (by rfl) (World.news_of_block (cs := #[.string ⟨#[]⟩, .slice none 0 0, .string ⟨#[]⟩, .slice none 0 0]) (t := 32) (fr := (0, 0)) (heap_alloc_new w1 _)) (by simp [Value.oneCell'])
           (by omega) (by unfold maxLen; omega) (by omega) (by simp; omega) (w1.heap.size + 1) (by simp) ?_
         intro gg cap3 w2 hown1 hgrow hat hlt1
         obtain ⟨e0, e1, e2, e3⟩ := new_cells' hown1
         have ef : ∀ o, w2.frozen? ⟨gg, o, none⟩ = false := (fun o => World.ownsRow.frozenAt hown1 o)
         have qb : ∀ o, w2.cell? ⟨b, o, none⟩ = Y.cell? ⟨b, o, none⟩ := (fun o => (hgrow.cell_far ⟨b, o, none⟩ (by simp; omega) hfb).trans ((World.cell?_of_block (w := w1) (Below.heap_alloc w1 _ b (by omega))).trans ((bcell wb).1 b o hbY)))
         have qbf : ∀ o, w2.frozen? ⟨b, o, none⟩ = false := (fun o => (hgrow.frozen_far ⟨b, o, none⟩ (by simp; omega) hfb).trans ((World.frozen?_of_block (w := w1) (a := ⟨b, o, none⟩) (Below.heap_alloc w1 _ b (by omega))).trans (((bcell wb).2 b o hbY).trans (Lib.frozen_of_heap Y2.out o))))
         have qr : ∀ o, w2.cell? ⟨w.heap.size + 1, o, none⟩ = Y.cell? ⟨w.heap.size + 1, o, none⟩ := (fun o => (hgrow.cell_far ⟨w.heap.size + 1, o, none⟩ (by simp; omega) hfr).trans ((World.cell?_of_block (w := w1) (Below.heap_alloc w1 _ (w.heap.size + 1) (by omega))).trans ((bcell wb).1 _ o hYs)))
         have qrf : ∀ o, w2.frozen? ⟨w.heap.size + 1, o, none⟩ = false := (fun o => (hgrow.frozen_far ⟨w.heap.size + 1, o, none⟩ (by simp; omega) hfr).trans ((World.frozen?_of_block (w := w1) (a := ⟨w.heap.size + 1, o, none⟩) (Below.heap_alloc w1 _ (w.heap.size + 1) (by omega))).trans (((bcell wb).2 _ o hYs).trans (Lib.frozen_of_heap Y4.out o))))
         have hgg : gg ≠ b ∧ gg ≠ w.heap.size + 1 := (by rcases hat with hat | hat; (have : g = gg := Option.some.inj hat; subst this; exact ⟨hgb', by omega⟩); (subst hat; exact ⟨by omega, by omega⟩))
         obtain ⟨n1, n4⟩ := hgg
         have n1' : ¬ b = gg := (fun e => n1 e.symm)
         have n4' : ¬ w.heap.size + 1 = gg := (fun e => n4 e.symm))
      | (refine step_append_lies _ (by rfl) _ _ _ (by rfl) B 32 i0 _ 4 80 Tryd.underlying30 hi hz0 hz1 hz2 rfl (by omega) _ l.length xs (by rfl) (owns_below (owns_heap' (World.ownsRow.alloc YK.out (.cells #[.string ⟨#[]⟩, .slice none 0 0, .string ⟨#[]⟩, .slice none 0 0] 32)) (by rfl)) hb1)
           ⟨Y.heap.size, 0, none⟩ 1 1 [.string ⟨#[]⟩, .slice none 0 0, .string ⟨#[]⟩, .slice none 0 0] (by rfl) (by rfl) (World.news_of_block (cs := #[.string ⟨#[]⟩, .slice none 0 0, .string ⟨#[]⟩, .slice none 0 0]) (t := 32) (fr := (0, 0)) ((hb1.block Y.heap.size (by simp)).trans (heap_alloc_new Y _))) (by simp [Value.oneCell'])
           (by omega) (by unfold maxLen; omega) (by omega) (by omega) (w1.heap.size) (by rfl) ?_
         intro gg cap3 w2 hown1 hgrow hat hlt1
         obtain ⟨e0, e1, e2, e3⟩ := new_cells' hown1
         have ef : ∀ o, w2.frozen? ⟨gg, o, none⟩ = false := (fun o => World.ownsRow.frozenAt hown1 o)
         have qb : ∀ o, w2.cell? ⟨b, o, none⟩ = Y.cell? ⟨b, o, none⟩ := (fun o => (hgrow.cell_far ⟨b, o, none⟩ (by simp; omega) hfb).trans ((bcell wb).1 b o hbY))
         have qbf : ∀ o, w2.frozen? ⟨b, o, none⟩ = false := (fun o => (hgrow.frozen_far ⟨b, o, none⟩ (by simp; omega) hfb).trans (((bcell wb).2 b o hbY).trans (Lib.frozen_of_heap Y2.out o)))
         have qr : ∀ o, w2.cell? ⟨w.heap.size + 1, o, none⟩ = Y.cell? ⟨w.heap.size + 1, o, none⟩ := (fun o => (hgrow.cell_far ⟨w.heap.size + 1, o, none⟩ (by simp; omega) hfr).trans ((bcell wb).1 _ o hYs))
         have qrf : ∀ o, w2.frozen? ⟨w.heap.size + 1, o, none⟩ = false := (fun o => (hgrow.frozen_far ⟨w.heap.size + 1, o, none⟩ (by simp; omega) hfr).trans (((bcell wb).2 _ o hYs).trans (Lib.frozen_of_heap Y4.out o)))
         have hgg : gg ≠ b ∧ gg ≠ w.heap.size + 1 := (by rcases hat with hat | hat; (have : g = gg := Option.some.inj hat; subst this; exact ⟨hgb', by omega⟩); (subst hat; exact ⟨by omega, by omega⟩))
         obtain ⟨n1, n4⟩ := hgg
         have n1' : ¬ b = gg := (fun e => n1 e.symm)
         have n4' : ¬ w.heap.size + 1 = gg := (fun e => n4 e.symm))
      | (go_simp
         go_at_call 43
         refine (H1 _ ?_).mono ?_
         · (first | exact Y1.out.drew | exact Y1.out.drew.alloc _ | exact (Y1.out.alloc _).drew | exact Y1.out.drewN _ | exact (Y1.out.drewN _).alloc _ | exact (Y1.out.alloc _).drewN _)
         rintro e w1 ⟨⟨ao1, cap1, rfl, ha⟩, hb1⟩
         have wb : Below Y.heap.size Y w1 := (by first | exact ((Below.refl _ Y).drew).trans (hb1.mono (Nat.le_refl _)) | exact (((Below.refl _ Y).drew).alloc (Nat.le_refl _) _).trans (hb1.mono (by simp)))
         have hw1 := wb.size
         have wbc : ∀ o, w1.cell? ⟨b, o, none⟩ = Y.cell? ⟨b, o, none⟩ := (fun o => (bcell wb).1 b o hbY)
         have wbca : ∀ ob o, (w1.alloc ob).cell? ⟨b, o, none⟩ = Y.cell? ⟨b, o, none⟩ := (fun ob o => (World.cell?_of_block (w := w1) (Below.heap_alloc w1 ob b (by omega))).trans ((bcell wb).1 b o hbY))))
  all_goals
    go_wp2_with fail
    refine bodyPost_ret (v := .tuple #[.agg #[.int .i64 0, .string ⟨#[]⟩, .slice none 0 0, .string ⟨#[]⟩, .slice none 0 0], .bool false]) (by simp [results, Tryd.results22, go_sem, qr, r0, r1, r2, r3, r4]) rfl ?_
    try rw [set4_comm n1']
    have hY5 := Y5.out
    have zW := Y1.out.then_ (wb.mono (Nat.le_of_lt (Nat.lt_trans (Nat.lt_succ_self _) hYs)))
    have zA := At.below Y2.out wb hbY
    have hB1 := hb1.size
    first
      | exact begin_close hbB hb H2.out H4.out H8.out H9.out (zW.alloc _) (zA.alloc _) (by simp; omega) (World.ownsRow.alloc ha _) hown1 hgrow (hat.imp (fun h => Option.some.inj h) (fun h => h.trans (by simp))) (by simp; omega)
      | exact begin_close hbB hb H2.out H4.out H8.out H9.out zW zA (by simp; omega) ha hown1 hgrow (hat.imp Option.some.inj id) (by omega)
end Go.Proofs.YthekdgnikkjpdaaDoor
