/-
  What a builder is behind the end of an element within another one.
-/
import Derived.Test.YthekdgnikkjpdaaGreatDoorBele
namespace Go.Proofs.YthekdgnikkjpdaaGreatDoor
open Go.RowKit
theorem set4 {ys : List Value} {a b c d u : Value} (n : Nat) (h : ys.length = n) : (ys ++ [a, b, c, d]).set (n + 3) u = ys ++ [a, b, c, u] := by
  rw [List.set_append_right _ _ (by omega)]
  congr 1
  rw [show n + 3 - ys.length = 3 by omega]
  rfl
theorem set4s {ys : List Value} {a b c d a' b' c' d' : Value} (n : Nat) (h : ys.length = n) : ((((ys ++ [a, b, c, d]).set n a').set (n + 1) b').set (n + 2) c').set (n + 3) d' = ys ++ [a', b', c', d'] := by
  rw [List.set_append_right _ _ (by omega), List.set_append_right _ _ (by omega), List.set_append_right _ _ (by omega), List.set_append_right _ _ (by omega)]
  congr 1
  rw [show n - ys.length = 0 by omega, show n + 1 - ys.length = 1 by omega, show n + 2 - ys.length = 2 by omega, show n + 3 - ys.length = 3 by omega]
  rfl
theorem owns_pop {B g n cap : Nat} {w : World} {ys zs : List Value} (h : w.ownsRow B 25 4 (.slice (some ⟨g, 0, none⟩) (n + 1) cap) (n + 1) (ys ++ zs)) (hy : ys.length = n * 4) : w.ownsRow B 25 4 (.slice (some ⟨g, 0, none⟩) n cap) n ys := by
  refine ⟨hy, ?_⟩
  rcases h.2 with ⟨h1, _⟩ | ⟨g', cap', cur, h1, h2, h3, h4, h5, h6, h7⟩
  · simp at h1
  · obtain ⟨e1, _, rfl⟩ := Value.slice.inj h1
    cases e1
    refine .inr ⟨_, _, cur, rfl, h2, h3, by omega, h5, h6, ?_⟩
    have : (cur.toList.take ((n + 1) * 4)).take (n * 4) = (ys ++ zs).take (n * 4) := by rw [h7]
    rw [List.take_take, show min (n * 4) ((n + 1) * 4) = n * 4 by omega, ← hy, List.take_left] at this
    rw [← hy]
    exact this
theorem owns_setFour {B g n cap j : Nat} {w : World} {ys : List Value} {a b c d a' b' c' d' : Value} (h : w.ownsRow B 25 4 (.slice (some ⟨g, 0, none⟩) n cap) n (ys ++ [a, b, c, d])) (hy : ys.length = j) :
    ((((w.setCell ⟨g, j, none⟩ a').setCell ⟨g, j + 1, none⟩ b').setCell ⟨g, j + 2, none⟩ c').setCell ⟨g, j + 3, none⟩ d').ownsRow B 25 4 (.slice (some ⟨g, 0, none⟩) n cap) n (ys ++ [a', b', c', d']) := by
  have h1 := (World.ownsRow.stored h j a').1
  have h2 := (World.ownsRow.stored h1 (j + 1) b').1
  have h3 := (World.ownsRow.stored h2 (j + 2) c').1
  have h4 := (World.ownsRow.stored h3 (j + 3) d').1
  rw [set4s j hy] at h4
  exact h4
theorem owns_other {B : Nat} {T : TypeId} {sz : Nat} {v : Value} {n : Nat} {xs : List Value} {w : World} (h : w.ownsRow B T sz v n xs) (b o : Nat) (u : Value) (hne : v.ownBlock ≠ some b) : (w.setCell ⟨b, o, none⟩ u).ownsRow B T sz v n xs := ownsRow_setCell_other h (a := ⟨b, o, none⟩) hne u
theorem owns_other5 {B : Nat} {T : TypeId} {sz : Nat} {v : Value} {n : Nat} {xs : List Value} {w : World} (h : w.ownsRow B T sz v n xs) {b : Nat} (hne : v.ownBlock ≠ some b) (u0 u1 u2 u3 u4 : Value) :
    (((((w.setCell ⟨b, 0, none⟩ u0).setCell ⟨b, 1, none⟩ u1).setCell ⟨b, 2, none⟩ u2).setCell ⟨b, 3, none⟩ u3).setCell ⟨b, 4, none⟩ u4).ownsRow B T sz v n xs :=
  owns_other (owns_other (owns_other (owns_other (owns_other h b 0 u0 hne) b 1 u1 hne) b 2 u2 hne) b 3 u3 hne) b 4 u4 hne
theorem owns_other4 {B : Nat} {T : TypeId} {sz : Nat} {v : Value} {n : Nat} {xs : List Value} {w : World} (h : w.ownsRow B T sz v n xs) {b j : Nat} (hne : v.ownBlock ≠ some b) (u0 u1 u2 u3 : Value) :
    ((((w.setCell ⟨b, j, none⟩ u0).setCell ⟨b, j + 1, none⟩ u1).setCell ⟨b, j + 2, none⟩ u2).setCell ⟨b, j + 3, none⟩ u3).ownsRow B T sz v n xs :=
  owns_other (owns_other (owns_other (owns_other h b j u0 hne) b (j + 1) u1 hne) b (j + 2) u2 hne) b (j + 3) u3 hne
theorem Wr.set4 {L : List Nat} {a w : World} (h : Wr L a w) {r j : Nat} (hr : r ∈ L ∨ a.heap.size ≤ r) (u0 u1 u2 u3 : Value) :
    Wr L a ((((w.setCell ⟨r, j, none⟩ u0).setCell ⟨r, j + 1, none⟩ u1).setCell ⟨r, j + 2, none⟩ u2).setCell ⟨r, j + 3, none⟩ u3) :=
  (((h.set r j u0 hr).set r (j + 1) u1 hr).set r (j + 2) u2 hr).set r (j + 3) u3 hr
theorem At.other4 {b : Nat} {cs : Array Value} {T : TypeId} {w : World} (h : At b cs T w) {r j : Nat} (hne : b ≠ r) (u0 u1 u2 u3 : Value) :
    At b cs T ((((w.setCell ⟨r, j, none⟩ u0).setCell ⟨r, j + 1, none⟩ u1).setCell ⟨r, j + 2, none⟩ u2).setCell ⟨r, j + 3, none⟩ u3) :=
  (((h.other r j u0 hne).other r (j + 1) u1 hne).other r (j + 2) u2 hne).other r (j + 3) u3 hne
theorem set_comm {b g : Nat} (hne : b ≠ g) (w : World) (o j : Nat) (u v : Value) : (w.setCell ⟨b, o, none⟩ u).setCell ⟨g, j, none⟩ v = (w.setCell ⟨g, j, none⟩ v).setCell ⟨b, o, none⟩ u := by
  unfold World.setCell
  congr 1
  apply Array.ext
  · simp
  · intro i h1 h2
    simp only [Array.getElem_modify]
    by_cases e1 : b = i
    · subst e1
      simp [Ne.symm hne]
    · simp [e1]
theorem set4_comm {b g : Nat} (hne : b ≠ g) (w : World) (o j : Nat) (u v0 v1 v2 v3 : Value) : ((((w.setCell ⟨b, o, none⟩ u).setCell ⟨g, j, none⟩ v0).setCell ⟨g, j + 1, none⟩ v1).setCell ⟨g, j + 2, none⟩ v2).setCell ⟨g, j + 3, none⟩ v3 =
    ((((w.setCell ⟨g, j, none⟩ v0).setCell ⟨g, j + 1, none⟩ v1).setCell ⟨g, j + 2, none⟩ v2).setCell ⟨g, j + 3, none⟩ v3).setCell ⟨b, o, none⟩ u := by
  rw [set_comm hne, set_comm hne, set_comm hne, set_comm hne]
theorem shut_close {B b g cap nd : Nat} {F bl' : List Nat} {S : Bs} {w Y w1 : World} {l : List El} {p e : El} {us ys zsp zs : List Value} {aop aok aob ao' : Option Addr} {capp capk capb cap' gg cap3 : Nat} {ob : Obj}
    (hbB : B ≤ b) (hb : b < w.heap.size)
    (h2 : w.ownsRow B 25 4 (.slice (some ⟨g, 0, none⟩) (l.length + 1 + 1) cap) (l.length + 1 + 1) (ys ++ [.string ⟨e.nm.toArray⟩, .slice aob e.attrs.length capb, .string ⟨e.text.toArray⟩, .slice ao' e.kids.length cap']))
    (k1 : ys = us ++ [.string ⟨p.nm.toArray⟩, .slice aop p.attrs.length capp, .string ⟨p.text.toArray⟩, .slice aok p.kids.length capk]) (hul : us.length = l.length * 4)
    (k2 : OpenAt B (Pf F w) w l us bl') (k3 : Row (Pf F w) w (.slice aop p.attrs.length capp) p.attrs.length (pairCells p.attrs)) (k5 : KidsAt (ElE (Pf F w) w) p.kids zsp)
    (h5 : Row (Pf F w) w (.slice aob e.attrs.length capb) e.attrs.length (pairCells e.attrs)) (h6 : w.ownsRow B 25 4 (.slice ao' e.kids.length cap') e.kids.length zs) (h7 : KidsAt (ElE (Pf F w) w) e.kids zs)
    (h8 : F = b :: g :: ((bl' ++ (Value.slice aok p.kids.length capk).ownBlock.toList) ++ (Value.slice ao' e.kids.length cap').ownBlock.toList)) (h9 : F.Nodup)
    (yW : Wr [b] w Y) (y2 : At b #[.int .i64 S.stage, .string ⟨S.stream.toArray⟩, .slice (some ⟨g, 0, none⟩) (l.length + 1) cap, .int .i64 S.taken, .int .i64 S.failed] 86 Y) (y5 : Y.heap.size = w.heap.size + 2)
    (hkl : ∀ gk, (Value.slice aok p.kids.length capk).ownBlock = some gk → B ≤ gk ∧ gk < w.heap.size)
    (hown1 : w1.ownsRow B 25 4 (.slice (some ⟨gg, 0, none⟩) (p.kids.length + 1) cap3) (p.kids.length + 1) (zsp ++ [.string ⟨#[]⟩, .slice none 0 0, .string ⟨#[]⟩, .slice none 0 0]))
    (hgrow : ((Y.drewN nd).alloc ob).grownBy w1 (Value.slice aok p.kids.length capk).ownBlock) (hat : (Value.slice aok p.kids.length capk).ownBlock = some gg ∨ gg = Y.heap.size + 1) :
    AddRes B b F (⟨S.stage, S.stream, l ++ [p.put e], S.taken, S.failed⟩, none) w (.returned (.tuple #[.agg #[.int .i64 0, .string ⟨#[]⟩, .slice none 0 0, .string ⟨#[]⟩, .slice none 0 0], .bool false]))
      ((((((((((w1.setCell ⟨gg, p.kids.length * 4, none⟩ (.string ⟨e.nm.toArray⟩)).setCell ⟨gg, p.kids.length * 4 + 1, none⟩ (.slice aob e.attrs.length capb)).setCell ⟨gg, p.kids.length * 4 + 2, none⟩ (.string ⟨e.text.toArray⟩)).setCell ⟨gg, p.kids.length * 4 + 3, none⟩ (.slice ao' e.kids.length cap')).setCell
        ⟨g, l.length * 4 + 3, none⟩ (.slice (some ⟨gg, 0, none⟩) (p.kids.length + 1) cap3)).setCell ⟨w.heap.size, 0, none⟩ (.int .i64 0)).setCell ⟨w.heap.size, 1, none⟩ (.string ⟨#[]⟩)).setCell ⟨w.heap.size, 2, none⟩ (.slice none 0 0)).setCell ⟨w.heap.size, 3, none⟩ (.string ⟨#[]⟩)).setCell ⟨w.heap.size, 4, none⟩ (.slice none 0 0)) := by
  obtain ⟨ok, hok⟩ : ∃ ok, (Value.slice aok p.kids.length capk).ownBlock = ok := ⟨_, rfl⟩
  obtain ⟨oe, hoe⟩ : ∃ oe, (Value.slice ao' e.kids.length cap').ownBlock = oe := ⟨_, rfl⟩
  rw [hok] at h8 hgrow hat hkl
  rw [hoe] at h8
  have hzl : zsp.length = p.kids.length * 4 := k5.length
  have hg := (h2.lt g rfl)
  have hF := h9
  rw [h8] at hF
  have n1 := List.nodup_cons.1 hF
  have n2 := List.nodup_cons.1 n1.2
  have n3 := List.nodup_append.1 n2.2
  have n4 := List.nodup_append.1 n3.1
  have gb : g ≠ b := fun e => n1.1 (by simp [e])
  have kb : ∀ k, ok = some k → k ≠ b ∧ k ≠ g := fun k hk => ⟨fun e => n1.1 (by simp [hk, e]), fun e => n2.1 (by simp [hk, e])⟩
  have eb : ∀ k, oe = some k → k ≠ b ∧ k ≠ g ∧ ok ≠ some k := fun k hk => ⟨fun e => n1.1 (by simp [hk, e]), fun e => n2.1 (by simp [hk, e]), fun e => n3.2.2 k (by simp [e]) k (by simp [hk]) rfl⟩
  have lb : ∀ k ∈ bl', k ≠ b ∧ k ≠ g ∧ ok ≠ some k := fun k hk => ⟨fun e => n1.1 (by simp [← e, hk]), fun e => n2.1 (by simp [← e, hk]), fun e => n4.2.2 k hk k (by simp [e]) rfl⟩
  have hgg : gg ≠ b ∧ gg ≠ g ∧ gg ≠ w.heap.size ∧ B ≤ gg ∧ (∀ k, oe = some k → k ≠ gg) ∧ (∀ k ∈ bl', k ≠ gg) ∧ (gg ∈ F ∨ w.heap.size ≤ gg) := by
    rcases hat with hat | hat
    · have q := kb gg hat
      have r := hkl gg hat
      refine ⟨q.1, q.2, by omega, r.1, fun k hk e => (eb k hk).2.2 (e ▸ hat), fun k hk e => (lb k hk).2.2 (e ▸ hat), .inl ?_⟩
      rw [h8, hat]
      simp
    · refine ⟨by omega, by omega, by omega, by omega, fun k hk e => ?_, fun k hk e => ?_, .inr (by omega)⟩
      · have := h6.lt k (hoe.trans hk)
        omega
      · have := k2.lt k hk
        omega
  obtain ⟨q1, q2, q3, q4, q5, q6, q7⟩ := hgg
  have v1 : Wr ([b, g, gg, w.heap.size] ++ ok.toList) w w1 := ((((yW.mono (L' := [b, g, gg, w.heap.size] ++ ok.toList) (by simp)).drewN nd).alloc ob)).grown hgrow (fun k hk => .inl (by simp [hk]))
  have v2 := (((v1.set4 (r := gg) (j := p.kids.length * 4) (.inl (by simp)) (.string ⟨e.nm.toArray⟩) (.slice aob e.attrs.length capb) (.string ⟨e.text.toArray⟩) (.slice ao' e.kids.length cap')).set g (l.length * 4 + 3) (.slice (some ⟨gg, 0, none⟩) (p.kids.length + 1) cap3) (.inl (by simp))).set5 (r := w.heap.size) (.inl (by simp)) (.int .i64 0) (.string ⟨#[]⟩) (.slice none 0 0) (.string ⟨#[]⟩) (.slice none 0 0))
  have bF : b ∈ F := by rw [h8]; simp
  have gF : g ∈ F := by rw [h8]; simp
  have okF : ∀ k, ok = some k → k ∈ F := fun k hk => by rw [h8, hk]; simp
  have vF := v2.mono (L' := F) (by
    intro k hk
    simp at hk
    rcases hk with rfl | rfl | rfl | rfl | hk
    · exact .inl bF
    · exact .inl gF
    · exact q7
    · exact .inr (Nat.le_refl _)
    · exact .inl (okF k hk))
  have sF' : ∀ k ∈ b :: g :: (bl' ++ [gg]), k ∈ F ∨ w.heap.size ≤ k := by
    intro k hk
    simp at hk
    rcases hk with rfl | rfl | hk | rfl
    · exact .inl bF
    · exact .inl gF
    · exact .inl (by rw [h8]; simp [hk])
    · exact q7
  have st := vF.stp sF'
  refine ⟨b :: g :: (bl' ++ [gg]), 0, _, _, _, _, _, _, _, _, _, rfl, evOk_none _ _, ⟨hbB, .slice (some ⟨g, 0, none⟩) (l.length + 1) cap, _, _, ?_, ?_, OpenAt.snoc_mk (e := p.put e) (b := .slice aop p.attrs.length capp) (d := .slice (some ⟨gg, 0, none⟩) (p.kids.length + 1) cap3) (zs := zsp ++ [.string ⟨e.nm.toArray⟩, .slice aob e.attrs.length capb, .string ⟨e.text.toArray⟩, .slice ao' e.kids.length cap']) (k3.step st.rows) ?_ ?_ (k2.step st.rows ?_), rfl, ?_⟩, vF, sF'⟩
  · have a1 := (y2.drewN nd).alloc ob
    have a2 := a1.grown hgrow (fun e => (kb b e.symm).1 rfl)
    exact ((a2.other4 (Ne.symm q1) _ _ _ _).other g _ _ (Ne.symm gb)).other5 (by omega) _ _ _ _ _
  · have o1 := owns_pop h2 (by rw [k1]; simp [hul]; omega)
    have o2 : w1.ownsRow B 25 4 (.slice (some ⟨g, 0, none⟩) (l.length + 1) cap) (l.length + 1) ys := owns_same o1 fun k hk => by
      cases hk
      exact (hgrow.block g (by simp; omega) (fun e => (kb g e.symm).2 rfl)).trans ((Below.heap_alloc Y ob g (by omega)).trans (yW.block g hg.2 (by simpa using gb)))
    have o3 := owns_other4 (j := p.kids.length * 4) o2 (b := gg) (fun e => q2 (Option.some.inj e).symm) (.string ⟨e.nm.toArray⟩) (.slice aob e.attrs.length capb) (.string ⟨e.text.toArray⟩) (.slice ao' e.kids.length cap')
    have o4 := (World.ownsRow.stored o3 (l.length * 4 + 3) (.slice (some ⟨gg, 0, none⟩) (p.kids.length + 1) cap3)).1
    rw [k1, set4 _ hul] at o4
    have o5 := owns_other5 o4 (b := w.heap.size) (fun e => by have : g = w.heap.size := Option.some.inj e; omega) (.int .i64 0) (.string ⟨#[]⟩) (.slice none 0 0) (.string ⟨#[]⟩) (.slice none 0 0)
    have el : (l ++ [p.put e]).length = l.length + 1 := by simp
    rw [el]
    exact o5
  · have o1 := owns_setFour (a' := .string ⟨e.nm.toArray⟩) (b' := .slice aob e.attrs.length capb) (c' := .string ⟨e.text.toArray⟩) (d' := .slice ao' e.kids.length cap') hown1 hzl
    have o2 := owns_other5 (owns_other o1 g (l.length * 4 + 3) (.slice (some ⟨gg, 0, none⟩) (p.kids.length + 1) cap3) (fun e => q2 (Option.some.inj e))) (b := w.heap.size) (fun e => q3 (Option.some.inj e)) (.int .i64 0) (.string ⟨#[]⟩) (.slice none 0 0) (.string ⟨#[]⟩) (.slice none 0 0)
    have el : (p.put e).kids.length = p.kids.length + 1 := by simp [El.put]
    rw [el]
    exact o2
  · refine (k5.imp fun _ _ _ _ _ h => h.step st.rows).app ⟨_, _, _, _, [], rfl, ElE.mk (h5.step st.rows) (row_pf (owns_same h6 fun k hk => ?_) (by decide) fun k hk => ?_) (h7.imp fun _ _ _ _ _ h => h.step st.rows), rfl⟩
    · have hk' : oe = some k := hoe.symm.trans hk
      have x := eb k hk'
      have y := h6.lt k hk
      refine v2.block k y.2 ?_
      have z := q5 k hk'
      simp
      exact ⟨x.1, x.2.1, z, by omega, fun e => x.2.2 e⟩
    · have hk' : oe = some k := hoe.symm.trans hk
      have x := eb k hk'
      have z := q5 k hk'
      simp
      exact ⟨x.1, x.2.1, fun hm => n3.2.2 k (by simp [hm]) k (by simp [hk']) rfl, z⟩
  · intro k hk
    have x := lb k hk
    have y := k2.lt k hk
    refine v2.block k y.2 ?_
    have z := q6 k hk
    simp
    exact ⟨x.1, x.2.1, z, by omega, fun e => x.2.2 e⟩
  · refine List.nodup_cons.2 ⟨?_, List.nodup_cons.2 ⟨?_, ?_⟩⟩
    · simp
      exact ⟨Ne.symm gb, fun h => (lb b h).1 rfl, Ne.symm q1⟩
    · simp
      exact ⟨fun h => (lb g h).2.1 rfl, Ne.symm q2⟩
    · refine List.nodup_append.2 ⟨n4.1, by simp, fun a ha c hc => ?_⟩
      simp at hc
      subst hc
      exact q6 a ha
end Go.Proofs.YthekdgnikkjpdaaGreatDoor
