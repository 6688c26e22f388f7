/-
  The contract of (*trees.Builder).add over this program, at a beginning within an item.
-/
import Derived.Test.YthekdgnikkjpdaaDoorBelh
namespace Go.Proofs.YthekdgnikkjpdaaDoor
open Go.RowKit
theorem owns_heap' {B : Nat} {t : TypeId} {sz : Nat} {v : Value} {n : Nat} {xs : List Value} {w w' : World} (h : w.ownsRow B t sz v n xs) (e : w'.heap = w.heap) : w'.ownsRow B t sz v n xs := by
  exact owns_same h fun k _ => by rw [e]
theorem new_cells' {B g n cap : Nat} {w : World} {zs : List Value} {a b c d : Value} (h : w.ownsRow B 32 4 (.slice (some ⟨g, 0, none⟩) (n + 1) cap) (n + 1) (zs ++ [a, b, c, d])) :
    w.cell? ⟨g, n * 4, none⟩ = some a ∧ w.cell? ⟨g, n * 4 + 1, none⟩ = some b ∧ w.cell? ⟨g, n * 4 + 2, none⟩ = some c ∧ w.cell? ⟨g, n * 4 + 3, none⟩ = some d :=
  last_cells' h (by have := h.1; simp at this; omega)
theorem begin_close {B b g cap : Nat} {F bl : List Nat} {S : Bs} {w Z w2 : World} {l : List El} {t : Tok} {xs : List Value} {ao1 : Option Addr} {cap1 gg cap3 B1 : Nat}
    (hbB : B ≤ b) (hb : b < w.heap.size)
    (h2 : w.ownsRow B 32 4 (.slice (some ⟨g, 0, none⟩) l.length cap) l.length xs)
    (h4 : OpenAt B (Pf F w) w l xs bl) (h8 : F = b :: g :: bl) (h9 : F.Nodup)
    (yW : Wr [b] w Z) (y2 : At b #[.int .i64 S.stage, .string ⟨S.stream.toArray⟩, .slice (some ⟨g, 0, none⟩) l.length cap, .int .i64 (S.taken + 1), .int .i64 S.failed] 59 Z) (hB1 : w.heap.size + 2 ≤ B1) (ha : AttrsAt B1 (.slice ao1 t.attrs.length cap1) t.attrs Z)
    (hown1 : w2.ownsRow B 32 4 (.slice (some ⟨gg, 0, none⟩) (l.length + 1) cap3) (l.length + 1) (xs ++ [.string ⟨#[]⟩, .slice none 0 0, .string ⟨#[]⟩, .slice none 0 0]))
    (hgrow : Z.grownBy w2 (some g)) (hat : g = gg ∨ gg = Z.heap.size) (hZ : w.heap.size + 2 ≤ Z.heap.size) :
    AddRes B b F (⟨S.stage, S.stream, l ++ [elOf t], S.taken + 1, S.failed⟩, none) w (.returned (.tuple #[.agg #[.int .i64 0, .string ⟨#[]⟩, .slice none 0 0, .string ⟨#[]⟩, .slice none 0 0], .bool false]))
      ((((((((((w2.setCell ⟨gg, l.length * 4, none⟩ (.string ⟨t.nm.toArray⟩)).setCell ⟨gg, l.length * 4 + 1, none⟩ (.slice ao1 t.attrs.length cap1)).setCell ⟨gg, l.length * 4 + 2, none⟩ (.string ⟨#[]⟩)).setCell ⟨gg, l.length * 4 + 3, none⟩ (.slice none 0 0)).setCell
        ⟨b, 2, none⟩ (.slice (some ⟨gg, 0, none⟩) (l.length + 1) cap3)).setCell ⟨w.heap.size + 1, 0, none⟩ (.int .i64 0)).setCell ⟨w.heap.size + 1, 1, none⟩ (.string ⟨#[]⟩)).setCell ⟨w.heap.size + 1, 2, none⟩ (.slice none 0 0)).setCell ⟨w.heap.size + 1, 3, none⟩ (.string ⟨#[]⟩)).setCell ⟨w.heap.size + 1, 4, none⟩ (.slice none 0 0)) := by
  have hzl : xs.length = l.length * 4 := h4.length
  have hg := (h2.lt g rfl)
  have hF := h9
  rw [h8] at hF
  have n1 := List.nodup_cons.1 hF
  have n2 := List.nodup_cons.1 n1.2
  have gb : g ≠ b := fun e => n1.1 (by simp [e])
  have lb : ∀ k ∈ bl, k ≠ b ∧ k ≠ g := fun k hk => ⟨fun e => n1.1 (by simp [← e, hk]), fun e => n2.1 (by simp [← e, hk])⟩
  have hgg : gg ≠ b ∧ gg ≠ w.heap.size + 1 ∧ B ≤ gg ∧ (∀ k ∈ bl, k ≠ gg) ∧ (gg ∈ F ∨ w.heap.size ≤ gg) := by
    rcases hat with rfl | hat
    · exact ⟨gb, by omega, hg.1, fun k hk => (lb k hk).2, .inl (by rw [h8]; simp)⟩
    · refine ⟨by omega, by omega, by omega, fun k hk e => ?_, .inr (by omega)⟩
      have := h4.lt k hk
      omega
  obtain ⟨q1, q3, q4, q6, q7⟩ := hgg
  have v1 : Wr [b, g, gg, w.heap.size + 1] w w2 := (yW.mono (L' := [b, g, gg, w.heap.size + 1]) (by simp)).grown hgrow (fun k hk => .inl (by cases hk; simp))
  have v2 := (((v1.set4 (r := gg) (j := l.length * 4) (.inl (by simp)) (.string ⟨t.nm.toArray⟩) (.slice ao1 t.attrs.length cap1) (.string ⟨#[]⟩) (.slice none 0 0)).set b 2 (.slice (some ⟨gg, 0, none⟩) (l.length + 1) cap3) (.inl (by simp))).set5 (r := w.heap.size + 1) (.inl (by simp)) (.int .i64 0) (.string ⟨#[]⟩) (.slice none 0 0) (.string ⟨#[]⟩) (.slice none 0 0))
  have bF : b ∈ F := by rw [h8]; simp
  have gF : g ∈ F := by rw [h8]; simp
  have vF := v2.mono (L' := F) (by
    intro k hk
    simp at hk
    rcases hk with rfl | rfl | rfl | rfl
    · exact .inl bF
    · exact .inl gF
    · exact q7
    · exact .inr (by omega))
  have sF' : ∀ k ∈ b :: gg :: bl, k ∈ F ∨ w.heap.size ≤ k := by
    intro k hk
    simp at hk
    rcases hk with rfl | rfl | hk
    · exact .inl bF
    · exact q7
    · exact .inl (by rw [h8]; simp [hk])
  have st := vF.stp sF'
  have e0 : bl = bl ++ (Value.slice none 0 0).ownBlock.toList := by simp [Value.ownBlock]
  have hab : ∀ k, (Value.slice ao1 t.attrs.length cap1).ownBlock = some k → w.heap.size + 2 ≤ k ∧ k < Z.heap.size := fun k hk => by have := ha.lt k hk; omega
  refine ⟨b :: gg :: bl, 0, _, _, _, _, _, _, _, _, _, rfl, evOk_none _ _, ⟨hbB, .slice (some ⟨gg, 0, none⟩) (l.length + 1) cap3, _, _, ?_, ?_, OpenAt.snoc_mk (e := elOf t) (b := .slice ao1 t.attrs.length cap1) (d := .slice none 0 0) (zs := []) ?_ (World.ownsRow_nil _ _ _ _) rfl (h4.step st.rows ?_), by rw [← e0]; rfl, ?_⟩, vF, sF'⟩
  · have a2 := y2.grown hgrow (fun e => gb (Option.some.inj e).symm)
    exact (((a2.other4 (Ne.symm q1) _ _ _ _).set 2 _).other5 (by omega) _ _ _ _ _)
  · have o1 := owns_setFour (a' := .string ⟨t.nm.toArray⟩) (b' := .slice ao1 t.attrs.length cap1) (c' := .string ⟨#[]⟩) (d' := .slice none 0 0) hown1 hzl
    have o2 := owns_other5 (owns_other o1 b 2 (.slice (some ⟨gg, 0, none⟩) (l.length + 1) cap3) (fun e => q1 (Option.some.inj e))) (b := w.heap.size + 1) (fun e => q3 (Option.some.inj e)) (.int .i64 0) (.string ⟨#[]⟩) (.slice none 0 0) (.string ⟨#[]⟩) (.slice none 0 0)
    have el : (l ++ [elOf t]).length = l.length + 1 := by simp
    rw [el]
    exact o2
  · have u1 : Wr [g, gg, b, w.heap.size + 1] Z w2 := (Wr.refl _ Z).grown hgrow (fun k hk => .inl (by cases hk; simp))
    have u2 := (((u1.set4 (r := gg) (j := l.length * 4) (.inl (by simp)) (.string ⟨t.nm.toArray⟩) (.slice ao1 t.attrs.length cap1) (.string ⟨#[]⟩) (.slice none 0 0)).set b 2 (.slice (some ⟨gg, 0, none⟩) (l.length + 1) cap3) (.inl (by simp))).set5 (r := w.heap.size + 1) (.inl (by simp)) (.int .i64 0) (.string ⟨#[]⟩) (.slice none 0 0) (.string ⟨#[]⟩) (.slice none 0 0))
    have hgk : ∀ k, (Value.slice ao1 t.attrs.length cap1).ownBlock = some k → k ≠ gg := fun k hk e => by
      have := hab k hk
      rcases hat with rfl | hat <;> omega
    refine row_pf (owns_same ha fun k hk => u2.block k (hab k hk).2 ?_) (by decide) fun k hk => ?_
    · have := hab k hk
      have := hgk k hk
      simp
      omega
    · have := hab k hk
      have := hgk k hk
      simp
      refine ⟨by omega, by omega, fun hm => ?_⟩
      have := h4.lt k hm
      omega
  · intro k hk
    have x := lb k hk
    have y := h4.lt k hk
    refine v2.block k y.2 ?_
    have z := q6 k hk
    simp
    exact ⟨x.1, x.2, z, by omega⟩
  · refine List.nodup_cons.2 ⟨?_, List.nodup_cons.2 ⟨fun h => q6 gg h rfl, n2.2⟩⟩
    simp
    exact ⟨Ne.symm q1, fun h => (lb b h).1 rfl⟩
end Go.Proofs.YthekdgnikkjpdaaDoor
