/-
  The contract of tags.readAttrs over this program: for every string of at most 100000 bytes.
-/
import Derived.Test.YthekdgnikkjpdaaDoorRattr
namespace Go.Proofs.YthekdgnikkjpdaaDoor
open Go.RowKit
theorem info46 : (Tryd.prog.info? 55).map (fun i => (i.zero, i.size, i.bytes)) = some (some (.agg #[.string ⟨#[]⟩, .string ⟨#[]⟩]), 2, 32) := by kernel_rfl
/-- What a call that answers attributes answers. -/
def AttrRes (B : Nat) (l : List (List UInt8 × List UInt8) × Int) (e : Ending) (w : World) : Prop := ∃ ao n cap, e = .returned (.tuple #[.slice ao n cap, .int .i64 l.2]) ∧ AttrsAt B (.slice ao n cap) l.1 w
theorem attrRes_nil (B : Nat) (c : Int) (w : World) : AttrRes B ([], c) (.returned (.tuple #[.slice none 0 0, .int .i64 c])) w := ⟨none, 0, 0, rfl, attrs_nil _ _⟩
theorem trimL_length (l : List UInt8) : (trimL l).length ≤ l.length := (List.dropWhile_sublist _).length_le
theorem size_mk (l : List UInt8) : (⟨l.toArray⟩ : ByteArray).size = l.length := by rw [size_list]
theorem attrN_len (l : List UInt8) (h : (attrN l).2.2 = 0) : (attrN l).2.1.length < l.length := by
  unfold attrN at h ⊢
  split at h
  · split at h
    · simp at h
    · rename_i q t hz
      have h1 := cutZ_length 61 l
      rw [hz, List.length_cons] at h1
      have h2 := cutZ_length q t
      split at h
      · split at h
        · split at h
          · simp only [*, if_true]
            omega
          · rename_i hne
            exact absurd h hne
        · simp at h
      · simp at h
  · simp at h
theorem pair_get : ∀ (acc : List (List UInt8 × List UInt8)) (j : Nat) (p : List UInt8 × List UInt8), acc[j]? = some p → (pairCells acc)[j * 2]? = some (.string ⟨p.1.toArray⟩) ∧ (pairCells acc)[j * 2 + 1]? = some (.string ⟨p.2.toArray⟩)
  | [], j, p, h => by simp at h
  | q :: r, 0, p, h => by
    simp at h
    subst h
    exact ⟨rfl, rfl⟩
  | q :: r, j + 1, p, h => by
    have := pair_get r j p (by simpa using h)
    rw [show (j + 1) * 2 = j * 2 + 2 by omega, show j * 2 + 2 + 1 = j * 2 + 1 + 2 by omega]
    exact this
/-- The element j of attributes that lie in memory. -/
theorem attr_cells {B : Nat} {ao : Option Addr} {n cap : Nat} {acc : List (List UInt8 × List UInt8)} {w : World} (h : AttrsAt B (.slice ao n cap) acc w) (hn : n = acc.length) (j : Nat) (hj : j < n) :
    ∃ g p, ao = some ⟨g, 0, none⟩ ∧ acc[j]? = some p ∧ w.cell? ⟨g, j * 2, none⟩ = some (.string ⟨p.1.toArray⟩) ∧ w.cell? ⟨g, j * 2 + 1, none⟩ = some (.string ⟨p.2.toArray⟩) := by
  subst hn
  have hp : acc[j]? = some acc[j] := List.getElem?_eq_getElem hj
  obtain ⟨k1, k2⟩ := pair_get acc j _ hp
  rcases h.2 with ⟨h1, h2⟩ | ⟨g, cap', cur, h1, _⟩
  · omega
  · obtain ⟨rfl, _, rfl⟩ := Value.slice.inj h1
    refine ⟨g, acc[j], rfl, hp, ?_, ?_⟩
    · rw [World.ownsRow.cellAt h _ (by omega), k1]
    · rw [World.ownsRow.cellAt h _ (by omega), k2]
theorem known_mem {nm : List UInt8} {acc : List (List UInt8 × List UInt8)} {j : Nat} {p : List UInt8 × List UInt8} (h : acc[j]? = some p) (hp : (p.1 == nm) = true) : known nm acc = true := by
  unfold known
  rw [List.any_eq_true]
  exact ⟨p, List.mem_of_getElem? h, hp⟩
theorem take_next {acc : List (List UInt8 × List UInt8)} {j : Nat} {p : List UInt8 × List UInt8} (h : acc[j]? = some p) : acc.take (j + 1) = acc.take j ++ [p] := by
  obtain ⟨hlt, rfl⟩ := List.getElem?_eq_some_iff.1 h
  exact List.take_succ_eq_append_getElem hlt
theorem known_snoc (nm : List UInt8) (a : List (List UInt8 × List UInt8)) (p : List UInt8 × List UInt8) : known nm (a ++ [p]) = (known nm a || (p.1 == nm)) := by simp [known]
theorem readAttr_at (s : ByteArray) (nm v bh : List UInt8) (c : Int) (h : attrN s.data.toList = ((nm, v), bh, c)) (w : World) (hT : Tabs w) (hs : s.size ≤ 2000000) :
    Calls Tryd.prog 101 #[.string s] w fun e w' => e = .returned (.tuple #[.agg #[.string ⟨nm.toArray⟩, .string ⟨v.toArray⟩], .string ⟨bh.toArray⟩, .int .i64 c]) ∧ Below w.heap.size w w' := by
  have k := readAttr_any s w hT hs
  rw [h] at k
  exact k
set_option maxHeartbeats 4000000 in
set_option maxRecDepth 100000 in
theorem readAttrs_any (s : ByteArray) (F : Nat) (w : World) (hT : Tabs w) (hs : s.size ≤ 2000000) (hF : s.size < F) :
    Calls Tryd.prog 92 #[.string s] w fun e w' => AttrRes w.heap.size (attrsN F [] s.data.toList) e w' ∧ Below w.heap.size w w' := by
  have hT3 := hT.size
  obtain ⟨i0, hi, hz0, hz1, hz2⟩ := info_parts info46
  go_enter Tryd.func92, Tryd.ntmps92
  go_wp2
  go_step3
  go_wp2
  go_step3
  go_wp2
  go_loopw [0, 4] (fun a v wr => ∃ (x : ByteArray) (f : Nat) (acc : List (List UInt8 × List UInt8)) (ao : Option Addr) (n cap : Nat), a = .string x ∧ v = .slice ao n cap ∧ x.size < f ∧ x.size ≤ 2000000 ∧ acc.length ≤ 6 ∧ n = acc.length ∧
      AttrsAt w.heap.size (.slice ao n cap) acc wr ∧ Below w.heap.size w wr ∧ attrsN f acc x.data.toList = attrsN F [] s.data.toList) (fun a _ _ => sizeS a)
  case atStart => exact ⟨s, F, [], none, 0, 0, rfl, rfl, hF, hs, by simp, rfl, attrs_nil _ _, Below.refl _ _, rfl⟩
  case round =>
    obtain ⟨x, f, acc, ao, n, cap, rfl, rfl, hxf, hx, hal, hn, hA, hbw, hres⟩ := hrel
    have hTr := hT.below hT3 hbw
    have hsz := hbw.size
    have H1 := trimLeft_any x wr
    have HRES : Hid _ := hres
    have HN : Hid _ := hn
    have hn6 : n ≤ 6 := by omega
    clear hres hn
    obtain ⟨f, rfl⟩ : ∃ g, f = g + 1 := ⟨f - 1, by omega⟩
    by_cases h0 : trimL x.data.toList = []
    · have e : attrsN (f + 1) acc x.data.toList = (acc, 0) := by simp [attrsN, h0]
      rw [h0] at H1
      have HE : Hid _ := e
      clear e h0
      go_wp2_with (go_at_call 100; refine H1.mono ?_; rintro e w1 ⟨rfl, hb1⟩)
      rw [Exit.noGoto_ret]
      go_ret2
      have hb2 := hbw.trans (hb1.mono hsz)
      refine ⟨?_, hb2⟩
      rw [← HRES.out, HE.out]
      exact ⟨ao, n, cap, rfl, hA.below hb1⟩
    · obtain ⟨A, hA1⟩ : ∃ A : ByteArray, (⟨(trimL x.data.toList).toArray⟩ : ByteArray) = A := ⟨_, rfl⟩
      have hAl : A.data.toList = trimL x.data.toList := by rw [← hA1]
      have hAe : A.toList.isEmpty = false := by
        rw [Lib.toList_data, hAl]
        cases hh : trimL x.data.toList with
        | nil => exact absurd hh h0
        | cons a b => rfl
      have hAs : A.size ≤ x.size := by rw [size_list, size_list, hAl]; exact trimL_length _
      have he0 : (trimL x.data.toList).isEmpty = false := by rw [← hAl, ← Lib.toList_data]; exact hAe
      rw [hA1] at H1
      by_cases h1 : A.size = x.size
      · have e : attrsN (f + 1) acc x.data.toList = ([], 3) := by
          have hl : (trimL x.data.toList).length = x.data.toList.length := by rw [← hAl, ← size_list, ← size_list]; exact h1
          simp only [attrsN, he0, hl, true_or, if_true]
          rfl
        have h1' : (A.size : Int) = (x.size : Int) := by omega
        have HE : Hid _ := e
        clear e h0 hA1 hAl he0 h1
        go_wp2_with (go_at_call 100; refine H1.mono ?_; rintro e w1 ⟨rfl, hb1⟩)
        rw [Exit.noGoto_ret]
        go_ret2
        have hb2 := hbw.trans (hb1.mono hsz)
        refine ⟨?_, hb2⟩
        rw [← HRES.out, HE.out]
        exact attrRes_nil _ _ _
      · by_cases h6 : n = 6
        · have e : attrsN (f + 1) acc x.data.toList = ([], 3) := by
            have := HN.out
            have hl : acc.length = 6 := by omega
            simp only [attrsN, he0, hl, or_true, if_true]
            rfl
          have h1' : ((A.size : Int) == (x.size : Int)) = false := by simp; omega
          have h6' : (n : Int) = 6 := by omega
          have HE : Hid _ := e
          clear e h0 hA1 hAl he0 h1 h6
          go_wp2_with (go_at_call 100; refine H1.mono ?_; rintro e w1 ⟨rfl, hb1⟩)
          rw [Exit.noGoto_ret]
          go_ret2
          have hb2 := hbw.trans (hb1.mono hsz)
          refine ⟨?_, hb2⟩
          rw [← HRES.out, HE.out]
          exact attrRes_nil _ _ _
        · have h1' : ((A.size : Int) == (x.size : Int)) = false := by simp; omega
          have h6' : ((n : Int) == 6) = false := by simp; omega
          have e1 : ¬ ((trimL x.data.toList).length = x.data.toList.length ∨ acc.length = 6) := by
            have := HN.out
            rw [← hAl, ← size_list, ← size_list]
            omega
          obtain ⟨⟨⟨nm, val⟩, bh, c⟩, hat⟩ : ∃ p, attrN (trimL x.data.toList) = p := ⟨_, rfl⟩
          have H2 := fun W hW => readAttr_at A nm val bh c (by rw [hAl]; exact hat) W hW (by omega)
          by_cases hc : c = 0
          · subst hc
            have e2 : attrsN (f + 1) acc x.data.toList = if known nm acc then ([], 3) else attrsN f (acc ++ [(nm, val)]) bh := by
              simp only [attrsN, he0, if_neg e1, hat]
              simp
            have hbl : bh.length < A.size := by
              have := attrN_len (trimL x.data.toList) (by rw [hat])
              rw [hat, ← hAl, ← size_list] at this
              exact this
            have HE : Hid _ := e2
            have H6 : Hid (n ≠ 6) := h6
            clear e2 h0 hA1 hAl he0 h1 h6 e1 hat
            go_wp2_with (first | (go_at_call 100; refine H1.mono ?_; rintro e w1 ⟨rfl, hb1⟩) | (go_at_call 101; refine (H2 _ (hT.below hT3 (hbw.trans (hb1.mono hsz)))).mono ?_; rintro e w2 ⟨rfl, hb2⟩))
            have hb3 := hbw.trans (hb1.mono hsz)
            have hb4 := (hb3.trans (hb2.mono hb3.size)).alloc (hb3.trans (hb2.mono hb3.size)).size (.cells #[.string ⟨nm.toArray⟩, .string ⟨val.toArray⟩] 55)
            have hA4 := ((hA.below hb1).below hb2).below ((Below.refl _ w2).alloc (Nat.le_refl _) (.cells #[.string ⟨nm.toArray⟩, .string ⟨val.toArray⟩] 55))
            have hk4 := heap_alloc_new w2 (.cells #[.string ⟨nm.toArray⟩, .string ⟨val.toArray⟩] 55)
            go_loopw [36] (fun i wi => ∃ j : Nat, j ≤ n ∧ i = .int .i64 j ∧ known nm (acc.take j) = false ∧ AttrsAt w.heap.size (.slice ao n cap) acc wi ∧ wi.heap[w2.heap.size]? = some (.cells #[.string ⟨nm.toArray⟩, .string ⟨val.toArray⟩] 55 (0, 0)) ∧ Below w.heap.size w wi) (fun i _ => n - (intOf i).toNat)
            case atStart => exact ⟨0, Nat.zero_le _, rfl, rfl, hA4, hk4, hb4⟩
            case round =>
              obtain ⟨j, hj, rfl, hkn, hAi, hki, hbi⟩ := hrel
              have HK : Hid _ := hkn
              clear hkn
              have c0 : wr.cell? ⟨w2.heap.size, 0, none⟩ = some (.string ⟨nm.toArray⟩) := by rw [Lib.cell_of_heap hki]; rfl
              have c0' : ∀ o, (wr.alloc o).cell? ⟨w2.heap.size, 0, none⟩ = some (.string ⟨nm.toArray⟩) := fun o => (((Below.refl wr.heap.size wr).alloc (Nat.le_refl _) o).cell (p := ⟨w2.heap.size, 0, none⟩) (lt_of_heap hki)).trans c0
              by_cases hlt : j < n
              · obtain ⟨g, p, rfl, hp, d0, d1⟩ := attr_cells hAi HN.out j hlt
                have HP : Hid _ := hp
                clear hp
                go_wp2
                · have hq : (p.1 == nm) = true := by assumption
                  rw [Exit.noGoto_ret]
                  go_ret2
                  refine ⟨?_, hbi.alloc hbi.size _⟩
                  rw [← HRES.out, HE.out, known_mem HP.out hq]
                  exact attrRes_nil _ _ _
                · have hq : (p.1 == nm) = false := by assumption
                  go_roundw
                  case rel =>
                    have hal := (Below.refl wr.heap.size wr).alloc (Nat.le_refl _) (.cells #[.string ⟨p.1.toArray⟩, .string ⟨p.2.toArray⟩] 55)
                    exact ⟨j + 1, by omega, by go_num, by rw [take_next HP.out, known_snoc, HK.out, hq]; rfl, hAi.below hal, (hal.block _ (lt_of_heap hki)).trans hki, hbi.alloc hbi.size _⟩
                  case measure => simp [intOf]; omega
              · have hjn : j = n := by omega
                have HJ : Hid _ := hjn
                clear hjn
                have c1 : wr.cell? ⟨w2.heap.size, 1, none⟩ = some (.string ⟨val.toArray⟩) := by rw [Lib.cell_of_heap hki]; rfl
                go_wp2_with (at_builtin; refine wpList_append_own _ rfl _ _ 29 rfl w.heap.size 55 i0 _ 2 32 Tryd.underlying29 hi hz0 hz1 hz2 rfl (by decide) _ _ _ rfl (hAi.below ((Below.refl wr.heap.size wr).alloc (Nat.le_refl _) _)) ⟨wr.heap.size, 0, none⟩ 1 1 [.string ⟨nm.toArray⟩, .string ⟨val.toArray⟩] rfl rfl ?c1 ?c2 ?c3 ?c4 ?c5 ?_)
                case c1 =>
                  intro j u hj
                  match j, hj with
                  | 0, hj => simp at hj; subst hj; simp [Addr.add]
                  | 1, hj => simp at hj; subst hj; simp [Addr.add]
                case c2 =>
                  intro u hu
                  simp at hu
                  rcases hu with rfl | rfl <;> rfl
                case c3 => unfold maxLen; omega
                case c4 => omega
                case c5 => have := hbi.size; simp; omega
                intro v' w' hown' hgrow _
                obtain ⟨ao', cap', rfl⟩ := owns_shape hown'
                have hbx := (hbi.alloc hbi.size (.cells #[.string ⟨nm.toArray⟩, .string ⟨val.toArray⟩] 55)).grown hgrow (by have := hbi.size; simp; omega) (owns_lt hAi)
                go_wp2
                go_roundw
                case rel =>
                  refine ⟨⟨bh.toArray⟩, f, acc ++ [(nm, val)], ao', acc.length + 1, cap', rfl, rfl, ?_, ?_, ?_, ?_, ?_, hbx, ?_⟩
                  · rw [size_mk]; omega
                  · rw [size_mk]; omega
                  · have := HN.out
                    have : n ≠ 6 := H6.out
                    simp
                    omega
                  · simp
                  · unfold AttrsAt
                    rw [pairCells_app, List.length_append]
                    exact hown'
                  · have hk := HK.out
                    rw [HJ.out, HN.out, List.take_length] at hk
                    rw [← HRES.out, HE.out, hk]
                    rfl
                case measure =>
                  simp only [sizeS]
                  rw [size_mk]
                  omega
          · have e : attrsN (f + 1) acc x.data.toList = ([], c) := by
              simp only [attrsN, he0, if_neg e1, hat]
              simp [hc]
            have hc' : (c == 0) = false := by simpa using hc
            have HE : Hid _ := e
            clear e h0 hA1 hAl he0 h1 h6 e1 hat hc
            go_wp2_with (first | (go_at_call 100; refine H1.mono ?_; rintro e w1 ⟨rfl, hb1⟩) | (go_at_call 101; refine (H2 _ (hT.below hT3 (hbw.trans (hb1.mono hsz)))).mono ?_; rintro e w2 ⟨rfl, hb2⟩))
            rw [Exit.noGoto_ret]
            go_ret2
            have hb3 := hbw.trans (hb1.mono hsz)
            have hb4 := hb3.trans (hb2.mono hb3.size)
            refine ⟨?_, hb4.alloc hb4.size _⟩
            rw [← HRES.out, HE.out]
            exact attrRes_nil _ _ _
end Go.Proofs.YthekdgnikkjpdaaDoor
