/-
  The contract of (*trees.Builder).shut over this program.
-/
import Derived.Test.YthekdgnikkjpdaaGreatDoorBelg
import Derived.Deep.RegionLaw
namespace Go.Proofs.YthekdgnikkjpdaaGreatDoor
open Go.RowKit
/-- The cells of the innermost element. -/
theorem last_cells {B g n cap : Nat} {w : World} {ys : List Value} {a b c d : Value} (h : w.ownsRow B 25 4 (.slice (some ⟨g, 0, none⟩) (n + 1) cap) (n + 1) (ys ++ [a, b, c, d])) (hy : ys.length = n * 4) :
    w.cell? ⟨g, n * 4, none⟩ = some a ∧ w.cell? ⟨g, n * 4 + 1, none⟩ = some b ∧ w.cell? ⟨g, n * 4 + 2, none⟩ = some c ∧ w.cell? ⟨g, n * 4 + 3, none⟩ = some d :=
  ⟨by rw [World.ownsRow.cellAt h _ (by omega)]; exact get_at (j := 0) hy, by rw [World.ownsRow.cellAt h _ (by omega)]; exact get_at (j := 1) hy, by rw [World.ownsRow.cellAt h _ (by omega)]; exact get_at (j := 2) hy, by rw [World.ownsRow.cellAt h _ (by omega)]; exact get_at (j := 3) hy⟩
set_option maxHeartbeats 1000000 in
set_option maxRecDepth 100000 in
theorem shut_item {B b : Nat} {F : List Nat} {S : Bs} {w : World} {e : El} (k : BAt B b F S w) (ho : S.opn = [e]) :
    Calls Tryz.prog 60 #[.pointer (some ⟨b, 0, none⟩)] w (AddRes B b F (⟨S.stage, S.stream, [], S.taken, S.failed⟩, some (2, e)) w) := by
  have K : Hid (BAt B b F S w) := k
  have hbB := k.base
  obtain ⟨g, cap, ys, bv, ao', cap', zs, bl, h1, h2, h3, h4, h5, h6, h7, h8, h9⟩ := bat_item (l := []) k ho
  obtain ⟨aob, capb, rfl⟩ : ∃ ao cap, bv = .slice ao e.attrs.length cap := by obtain ⟨ao, cap, h, _⟩ := h5; exact ⟨ao, cap, h⟩
  obtain ⟨d0, d1, d2, d3⟩ := last_cells (n := 0) h2 h3
  obtain ⟨c0, c1, c2, c3, c4, fz⟩ := bldCells h1
  have hb := lt_of_heap h1
  have hg := (h2.lt g rfl).2
  have hL : ∀ W, W.cell? ⟨b, 2, none⟩ = some (.slice (some ⟨g, 0, none⟩) (0 + 1) cap) → Calls Tryz.prog 57 #[.pointer (some ⟨b, 0, none⟩)] W fun e w' => e = .returned (.pointer (some ⟨g, 0 * 4, none⟩)) ∧ ∃ q, w' = W.drewN q := fun W h => last_any b g 0 cap W h (by omega)
  have A : Hid (At b _ 86 w) := h1
  have H5 : Hid (Row _ _ _ _ _) := h5
  have H6 : Hid (World.ownsRow _ _ _ _ _ _ _) := h6
  have H7 : Hid (KidsAt _ _ _) := h7
  have H8 : Hid (F = _) := h8
  clear h1 h2 h3 h4 h5 h6 h7 h8 k
  simp at c2 d0 d1 d2 d3 hL
  have hbn : ¬ b = w.heap.size := by omega
  have hgn : ¬ g = w.heap.size := by omega
  go_enter Tryz.func60, Tryz.ntmps60
  go_wp2_with (go_at_call 57; refine (hL _ ?_).mono ?_; (exact Lib.cell?_alloc_some (W := w) _ c2); rintro e w1 ⟨rfl, q, rfl⟩)
  go_region
  go_wp2_with fail
  have hN : Hid _ := h9
  clear h9
  have hW : ∀ o1 u1 u2 o2 v0 v1 v2 v3 v4, Wr [b] w ((((((((((w.alloc o1).drewN q).setCell ⟨b, 2, none⟩ u1).setCell ⟨b, 2, none⟩ u2).setCell ⟨w.heap.size, 0, none⟩ v0).setCell ⟨w.heap.size, 1, none⟩ v1).setCell ⟨w.heap.size, 2, none⟩ v2).setCell ⟨w.heap.size, 3, none⟩ v3).setCell ⟨w.heap.size, 4, none⟩ v4).alloc o2).drew :=
    fun o1 u1 u2 o2 v0 v1 v2 v3 v4 => ((((((((Wr.refl [b] w).alloc o1).drewN q).set b 2 u1 (.inl (by simp))).set b 2 u2 (.inl (by simp))).set5 (.inr (Nat.le_refl _)) v0 v1 v2 v3 v4).alloc o2).drew)
  have hA : ∀ o1 u1 o2 v0 v1 v2 v3 v4, At b #[.int .i64 S.stage, .string ⟨S.stream.toArray⟩, .slice none 0 0, .int .i64 S.taken, .int .i64 S.failed] 86 ((((((((((w.alloc o1).drewN q).setCell ⟨b, 2, none⟩ u1).setCell ⟨b, 2, none⟩ (.slice none 0 0)).setCell ⟨w.heap.size, 0, none⟩ v0).setCell ⟨w.heap.size, 1, none⟩ v1).setCell ⟨w.heap.size, 2, none⟩ v2).setCell ⟨w.heap.size, 3, none⟩ v3).setCell ⟨w.heap.size, 4, none⟩ v4).alloc o2).drew :=
    fun o1 u1 o2 v0 v1 v2 v3 v4 => ((((((At.alloc A.out o1).drewN q).set 2 u1).set 2 _).other5 (by omega) v0 v1 v2 v3 v4).alloc o2).drew
  have hbF := F_head K.out
  refine bodyPost_ret (v := .tuple #[.agg #[.int .i64 2, .string ⟨e.nm.toArray⟩, .slice aob e.attrs.length capb, .string ⟨e.text.toArray⟩, .slice ao' e.kids.length cap'], .bool true]) (by simp [results, Tryz.results60, go_sem]) rfl
    ⟨[b], 2, _, _, _, _, _, _, _, _, _, rfl, ⟨rfl, ?_, rfl⟩, bat_none hbB rfl (hA _ _ _ _ _ _ _ _), (hW _ _ _ _ _ _ _ _ _).mono (by simp [hbF]), by simp [hbF]⟩
  have W2 := hW (.cells #[.int .i64 0, .string ⟨#[]⟩, .slice none 0 0, .string ⟨#[]⟩, .slice none 0 0] 69) (.slice (some ⟨g, 0, none⟩) 0 cap) (.slice none 0 0) (.cells #[.string ⟨e.nm.toArray⟩, .slice aob e.attrs.length capb, .string ⟨e.text.toArray⟩, .slice ao' e.kids.length cap'] 25) (.int .i64 2) (.string ⟨e.nm.toArray⟩) (.slice aob e.attrs.length capb) (.string ⟨e.text.toArray⟩) (.slice ao' e.kids.length cap')
  have st := (W2.mono (L' := F) (by simp [hbF])).stp (F' := [b]) (by simp [hbF])
  have nb : ∀ k, (Value.slice ao' e.kids.length cap').ownBlock = some k → k ∉ [b] := fun k hk he => by
    rw [List.mem_singleton] at he
    subst he
    have hn := hN.out
    rw [H8.out, hk] at hn
    exact (List.nodup_cons.1 hn).1 (by simp)
  exact ElE.mk (Row.step H5.out st.rows) (row_pf (owns_same H6.out fun k hk => W2.block k (World.ownsRow.lt H6.out k hk).2 (nb k hk)) (by decide) nb) (KidsAt.imp (fun _ _ _ _ _ h => h.step st.rows) H7.out)
theorem owns_cap {B : Nat} {e : TypeId} {sz g n cap : Nat} {xs : List Value} {w : World} (h : w.ownsRow B e sz (.slice (some ⟨g, 0, none⟩) n cap) n xs) : n ≤ cap := by
  rcases h.2 with ⟨h1, _⟩ | ⟨g', cap', cur, h1, _, _, h4, _⟩
  · simp at h1
  · obtain ⟨_, _, rfl⟩ := Value.slice.inj h1
    exact h4
theorem owns_heap {B : Nat} {t : TypeId} {sz : Nat} {v : Value} {n : Nat} {xs : List Value} {w w' : World} (h : w.ownsRow B t sz v n xs) (e : w'.heap = w.heap) : w'.ownsRow B t sz v n xs := by
  exact owns_same h fun k _ => by rw [e]
theorem new_cells {B g n cap : Nat} {w : World} {zs : List Value} {a b c d : Value} (h : w.ownsRow B 25 4 (.slice (some ⟨g, 0, none⟩) (n + 1) cap) (n + 1) (zs ++ [a, b, c, d])) :
    w.cell? ⟨g, n * 4, none⟩ = some a ∧ w.cell? ⟨g, n * 4 + 1, none⟩ = some b ∧ w.cell? ⟨g, n * 4 + 2, none⟩ = some c ∧ w.cell? ⟨g, n * 4 + 3, none⟩ = some d :=
  last_cells h (by have := h.1; simp at this; omega)
set_option maxHeartbeats 4000000 in
set_option maxRecDepth 100000 in
theorem shut_kid {B b : Nat} {F : List Nat} {S : Bs} {w : World} {l : List El} {p e : El} (k : BAt B b F S w) (ho : S.opn = l ++ [p] ++ [e]) (hl : l.length < 10) (hp : p.kids.length ≤ 16) :
    Calls Tryz.prog 60 #[.pointer (some ⟨b, 0, none⟩)] w (AddRes B b F (⟨S.stage, S.stream, l ++ [p.put e], S.taken, S.failed⟩, none) w) := by
  have K : Hid (BAt B b F S w) := k
  have hbB := k.base
  obtain ⟨g, cap, ys, bv, ao', cap', zs, bl, h1, h2, h3, h4, h5, h6, h7, h8, h9⟩ := bat_item (l := l ++ [p]) k ho
  obtain ⟨aob, capb, rfl⟩ : ∃ ao cap, bv = .slice ao e.attrs.length cap := by obtain ⟨ao, cap, h, _⟩ := h5; exact ⟨ao, cap, h⟩
  have hll : (l ++ [p]).length = l.length + 1 := by simp
  rw [hll] at h1 h2 h3
  obtain ⟨d0, d1, d2, d3⟩ := last_cells (n := l.length + 1) h2 h3
  obtain ⟨us, pv, pd, zsp, bl', k1, k2, k3, k4, k5, k6⟩ := OpenAt.snoc h4
  obtain ⟨aop, capp, rfl⟩ : ∃ ao cap, pv = .slice ao p.attrs.length cap := by obtain ⟨ao, cap, h, _⟩ := k3; exact ⟨ao, cap, h⟩
  obtain ⟨aok, capk, rfl⟩ := owns_shape k4
  have hul : us.length = l.length * 4 := k2.length
  have p3 : w.cell? ⟨g, l.length * 4 + 3, none⟩ = some (.slice aok p.kids.length capk) := by
    rw [World.ownsRow.cellAt h2 _ (by omega), k1, List.append_assoc]
    exact get_at (j := 3) hul
  obtain ⟨c0, c1, c2, c3, c4, fz⟩ := bldCells h1
  have hb := lt_of_heap h1
  have hg := (h2.lt g rfl).2
  have hfg : ∀ o, w.frozen? ⟨g, o, none⟩ = false := fun o => World.ownsRow.frozenAt h2 o
  have hgb : ¬ b = g := by
    intro e
    rw [h8, e] at h9
    exact (List.nodup_cons.1 h9).1 (by simp)
  have hgb' : ¬ g = b := fun e => hgb e.symm
  have hL : ∀ W m, m < 100 → W.cell? ⟨b, 2, none⟩ = some (.slice (some ⟨g, 0, none⟩) (m + 1) cap) → Calls Tryz.prog 57 #[.pointer (some ⟨b, 0, none⟩)] W fun e w' => e = .returned (.pointer (some ⟨g, m * 4, none⟩)) ∧ ∃ q, w' = W.drewN q := fun W m hm h => last_any b g m cap W h hm
  have A : Hid (At b _ 86 w) := h1
  have H2 : Hid (World.ownsRow _ _ _ _ _ _ _) := h2
  have H5 : Hid (Row _ _ _ _ _) := h5
  have H6 : Hid (World.ownsRow _ _ _ _ _ _ _) := h6
  have H7 : Hid (KidsAt _ _ _) := h7
  have H8 : Hid (F = _) := h8
  have H9 : Hid (F.Nodup) := h9
  have K1 : Hid (ys = _) := k1
  have K2 : Hid (OpenAt _ _ _ _ _ _) := k2
  have K3 : Hid (Row _ _ _ _ _) := k3
  have K4 : Hid (World.ownsRow _ _ _ _ _ _ _) := k4
  have K5 : Hid (KidsAt _ _ _) := k5
  have K6 : Hid (bl = _) := k6
  have H3 : Hid _ := h3
  have HU : Hid _ := hul
  clear h1 h2 h3 h4 h5 h6 h7 h8 h9 k1 k2 k3 k4 k5 k6 k hul hll ho
  have hbn : ¬ b = w.heap.size := by omega
  have hgn : ¬ g = w.heap.size := by omega
  have hcap := owns_cap H2.out
  have hcap' : (l.length : Int) + 1 ≤ (cap : Int) := by omega
  go_enter Tryz.func60, Tryz.ntmps60
  go_wp2_with (go_at_call 57; refine (hL _ (l.length + 1) (by omega) ?_).mono ?_; (exact Lib.cell?_alloc_some (W := w) _ c2); rintro e w1 ⟨rfl, q, rfl⟩)
  go_region
  go_wp2_with fail
  obtain ⟨Y, hY⟩ : ∃ Y, Y = (((((w.alloc (.cells #[.int .i64 0, .string ⟨#[]⟩, .slice none 0 0, .string ⟨#[]⟩, .slice none 0 0] 69)).drewN q).setCell ⟨b, 2, none⟩ (.slice (some ⟨g, 0, none⟩) (l.length + 1) cap)).alloc (.cells #[.string ⟨e.nm.toArray⟩, .slice aob e.attrs.length capb, .string ⟨e.text.toArray⟩, .slice ao' e.kids.length cap'] 25)).drew) := ⟨_, rfl⟩
  have y1 : Wr [b] w Y := by rw [hY]; exact (((((Wr.refl [b] w).alloc _).drewN q).set b 2 _ (.inl (by simp))).alloc _).drew
  have y2 : At b #[.int .i64 S.stage, .string ⟨S.stream.toArray⟩, .slice (some ⟨g, 0, none⟩) (l.length + 1) cap, .int .i64 S.taken, .int .i64 S.failed] 86 Y := by rw [hY]; exact ((((At.alloc A.out _).drewN q).set 2 _).alloc _).drew
  have y3 : At w.heap.size #[.int .i64 0, .string ⟨#[]⟩, .slice none 0 0, .string ⟨#[]⟩, .slice none 0 0] 69 Y := by rw [hY]; exact (((show At w.heap.size _ 69 ((w.alloc _).drewN q) from heap_alloc_new w _).other b 2 _ (by omega)).alloc _).drew
  have y4 : At (w.heap.size + 1) #[.string ⟨e.nm.toArray⟩, .slice aob e.attrs.length capb, .string ⟨e.text.toArray⟩, .slice ao' e.kids.length cap'] 25 Y := by
    have := heap_alloc_new (((w.alloc (.cells #[.int .i64 0, .string ⟨#[]⟩, .slice none 0 0, .string ⟨#[]⟩, .slice none 0 0] 69)).drewN q).setCell ⟨b, 2, none⟩ (.slice (some ⟨g, 0, none⟩) (l.length + 1) cap)) (.cells #[.string ⟨e.nm.toArray⟩, .slice aob e.attrs.length capb, .string ⟨e.text.toArray⟩, .slice ao' e.kids.length cap'] 25)
    have es : (((w.alloc (.cells #[.int .i64 0, .string ⟨#[]⟩, .slice none 0 0, .string ⟨#[]⟩, .slice none 0 0] 69)).drewN q).setCell ⟨b, 2, none⟩ (.slice (some ⟨g, 0, none⟩) (l.length + 1) cap)).heap.size = w.heap.size + 1 := by simp
    rw [es] at this
    rw [hY]
    exact this
  have y5 : Y.heap.size = w.heap.size + 2 := by rw [hY]; simp
  have yG : ∀ o, Y.cell? ⟨g, o, none⟩ = w.cell? ⟨g, o, none⟩ := fun o => World.cell?_of_block (w := w) (y1.block g hg (by simpa using hgb'))
  have yF : ∀ o, Y.frozen? ⟨g, o, none⟩ = false := fun o => (World.frozen?_of_block (w := w) (y1.block g hg (by simpa using hgb'))).trans (hfg o)
  have yK : Y.ownsRow B 25 4 (.slice aok p.kids.length capk) p.kids.length zsp := owns_same K4.out fun k hk => y1.block k (World.ownsRow.lt K4.out k hk).2 (by
    intro he
    rw [List.mem_singleton] at he
    subst he
    have hn := H9.out
    rw [H8.out, K6.out, hk] at hn
    exact (List.nodup_cons.1 hn).1 (by simp))
  have y6 : Y.cell? ⟨b, 2, none⟩ = some (.slice (some ⟨g, 0, none⟩) (l.length + 1) cap) := by rw [Lib.cell_of_heap y2]; rfl
  rw [← hY]
  have t3 : Y.cell? ⟨g, l.length * 4 + 3, none⟩ = some (.slice aok p.kids.length capk) := by rw [yG]; exact p3
  have x0 : Y.cell? ⟨w.heap.size + 1, 0, none⟩ = some (.string ⟨e.nm.toArray⟩) := by rw [Lib.cell_of_heap y4]; rfl
  have x1 : Y.cell? ⟨w.heap.size + 1, 1, none⟩ = some (.slice aob e.attrs.length capb) := by rw [Lib.cell_of_heap y4]; rfl
  have x2 : Y.cell? ⟨w.heap.size + 1, 2, none⟩ = some (.string ⟨e.text.toArray⟩) := by rw [Lib.cell_of_heap y4]; rfl
  have x3 : Y.cell? ⟨w.heap.size + 1, 3, none⟩ = some (.slice ao' e.kids.length cap') := by rw [Lib.cell_of_heap y4]; rfl
  obtain ⟨r0, r1, r2, r3, r4⟩ := ev_cells y3
  have yRf : ∀ o, Y.frozen? ⟨w.heap.size, o, none⟩ = false := fun o => Lib.frozen_of_heap y3 o
  have Y2 : Hid (At b _ 86 Y) := y2
  have Y3 : Hid (At _ _ 69 Y) := y3
  have Y4 : Hid (At _ _ 25 Y) := y4
  have YW : Hid (Wr [b] w Y) := y1
  have YK : Hid (World.ownsRow _ _ _ _ _ _ _) := yK
  have hYs : w.heap.size + 1 < Y.heap.size := by omega
  have hgY : g < Y.heap.size := by omega
  have hgY1 : ¬ g = Y.heap.size := by omega
  have hgY2 : ¬ Y.heap.size = g := by omega
  have hbY : b < Y.heap.size := by omega
  have Y5 : Hid (Y.heap.size = w.heap.size + 2) := y5
  clear y5 hY y1 y2 y3 y4 yG yK c0 c1 c2 c3 c4 d0 d1 d2 d3 p3 hfg fz
  obtain ⟨i0, hi, hz0, hz1, hz2⟩ := info_parts info32
  have hne : ∀ gg, (Value.slice aok p.kids.length capk).ownBlock = some gg → gg ≠ b ∧ gg ≠ g ∧ gg < w.heap.size := fun gg hk => by
    have hn := H9.out
    rw [H8.out, K6.out, hk] at hn
    have h1 := List.nodup_cons.1 hn
    have h2 := List.nodup_cons.1 h1.2
    refine ⟨fun e => h1.1 (by simp [e]), fun e => h2.1 (by simp [e]), (World.ownsRow.lt K4.out gg hk).2⟩
  have hYA1 : ∀ n ob o, ((Y.drewN n).alloc ob).cell? ⟨w.heap.size + 1, o, none⟩ = Y.cell? ⟨w.heap.size + 1, o, none⟩ := fun n ob o => World.cell?_of_block (w := Y) (Below.heap_alloc Y ob _ hYs)
  have hYA2 : ∀ n ob o, ((Y.drewN n).alloc ob).cell? ⟨g, o, none⟩ = Y.cell? ⟨g, o, none⟩ := fun n ob o => World.cell?_of_block (w := Y) (Below.heap_alloc Y ob _ hgY)
  refine (hL Y l.length (by omega) y6).mono ?_
  rintro e w1 ⟨rfl, q2, rfl⟩
  go_wp2_with fail
  have hpk : (p.kids.length : Int) ≤ 16 := by omega
  have hk0 : (0 : Int) ≤ (p.kids.length : Int) := Int.natCast_nonneg _
  have hk1 : (p.kids.length : Int) < (p.kids.length : Int) + 1 := by omega
  go_region_law
    ((refine step_append_lies _ (by rfl) _ _ _ (by rfl) B 25 i0 _ 4 80 Tryz.underlying23 hi hz0 hz1 hz2 rfl (by omega) _ p.kids.length _ (by rfl) (owns_heap (World.ownsRow.alloc YK.out (.cells #[.string ⟨#[]⟩, .slice none 0 0, .string ⟨#[]⟩, .slice none 0 0] 25)) (by rfl))
        ⟨Y.heap.size, 0, none⟩ 1 1 [.string ⟨#[]⟩, .slice none 0 0, .string ⟨#[]⟩, .slice none 0 0] (by rfl) (by rfl) (World.news_of_block (cs := #[.string ⟨#[]⟩, .slice none 0 0, .string ⟨#[]⟩, .slice none 0 0]) (t := 25) (fr := (0, 0)) (heap_alloc_new Y _)) (by simp [Value.oneCell'])
        (by omega) (by unfold maxLen; omega) (by omega) (by simp; omega) (Y.heap.size + 1) (by simp) ?_; intro gg cap3 w1 hown1 hgrow hat hlt1
      have hfar : some (w.heap.size + 1) ≠ (Value.slice aok p.kids.length capk).ownBlock := (fun e => by have := (hne _ e.symm).2.2; omega)
      have hfarg : some g ≠ (Value.slice aok p.kids.length capk).ownBlock := (fun e => (hne _ e.symm).2.1 rfl)
      obtain ⟨e0, e1, e2, e3⟩ := new_cells (zs := zsp) hown1
      have ef : ∀ o, w1.frozen? ⟨gg, o, none⟩ = false := (fun o => World.ownsRow.frozenAt hown1 o)
      have eg : w1.cell? ⟨g, l.length * 4 + 3, none⟩ = some (.slice aok p.kids.length capk) := ((hgrow.cell_far ⟨g, l.length * 4 + 3, none⟩ (by simp; omega) hfarg).trans (Lib.cell?_alloc_some (W := Y) _ t3))
      have efg : w1.frozen? ⟨g, l.length * 4 + 3, none⟩ = false := ((hgrow.frozen_far ⟨g, l.length * 4 + 3, none⟩ (by simp; omega) hfarg).trans ((World.frozen?_of_block (w := Y) (a := ⟨g, l.length * 4 + 3, none⟩) (Below.heap_alloc Y _ g hgY)).trans (yF _)))
      have hgg : gg ≠ b ∧ gg ≠ g ∧ gg ≠ w.heap.size ∧ gg ≠ w.heap.size + 1 := (by rcases hat with hat | hat; (have := hne _ hat; exact ⟨this.1, this.2.1, by omega, by omega⟩); (subst hat; refine ⟨by omega, by omega, by omega, by omega⟩))
      obtain ⟨n1, n2, n3, n4⟩ := hgg
      have n2' : ¬ g = gg := (fun e => n2 e.symm)
      have n4' : ¬ w.heap.size + 1 = gg := (fun e => n4 e.symm)
      have n3' : ¬ w.heap.size = gg := (fun e => n3 e.symm)
      have n6 : ¬ g = w.heap.size := (by omega)
      have n6' : ¬ w.heap.size = g := (by omega)
      have hfarr : some w.heap.size ≠ (Value.slice aok p.kids.length capk).ownBlock := (fun e => by have := (hne _ e.symm).2.2; omega)
      have er : ∀ o, w1.cell? ⟨w.heap.size, o, none⟩ = Y.cell? ⟨w.heap.size, o, none⟩ := (fun o => (hgrow.cell_far ⟨w.heap.size, o, none⟩ (by simp; omega) hfarr).trans (World.cell?_of_block (w := Y) (Below.heap_alloc Y _ w.heap.size (Nat.lt_of_succ_lt hYs))))
      have erf : ∀ o, w1.frozen? ⟨w.heap.size, o, none⟩ = false := (fun o => (hgrow.frozen_far ⟨w.heap.size, o, none⟩ (by simp; omega) hfarr).trans ((World.frozen?_of_block (w := Y) (a := ⟨w.heap.size, o, none⟩) (Below.heap_alloc Y _ _ (by simp; omega))).trans (yRf o)))
      have n5' : ¬ w.heap.size + 1 = g := (by omega)
      have n5 : ¬ g = w.heap.size + 1 := (by omega)))
  all_goals
    go_wp2_with fail
    refine bodyPost_ret (v := .tuple #[.agg #[.int .i64 0, .string ⟨#[]⟩, .slice none 0 0, .string ⟨#[]⟩, .slice none 0 0], .bool false]) (by simp [results, Tryz.results60, go_sem, er, r0, r1, r2, r3, r4]) rfl ?_
    try rw [set4_comm n2']
    exact shut_close hbB hb H2.out K1.out HU.out K2.out K3.out K5.out H5.out H6.out H7.out (H8.out.trans (by rw [K6.out])) H9.out YW.out Y2.out Y5.out (World.ownsRow.lt K4.out) hown1 hgrow hat
end Go.Proofs.YthekdgnikkjpdaaGreatDoor
