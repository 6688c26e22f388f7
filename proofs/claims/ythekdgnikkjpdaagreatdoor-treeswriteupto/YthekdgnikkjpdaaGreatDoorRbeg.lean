/-
  The contract of tags.readBegin over this program: for every string of at most 100000 bytes.
-/
import Derived.Test.YthekdgnikkjpdaaGreatDoorRattrs
namespace Go.Proofs.YthekdgnikkjpdaaGreatDoor
open Go.RowKit
theorem any_way : ∀ l : List UInt8, (anyN l = -1 ∧ noBl l = l) ∨ ∃ i : Nat, anyN l = i ∧ i < l.length ∧ noBl l = l.take i
  | [] => .inl ⟨rfl, rfl⟩
  | b :: l => by
    cases hb : bl b with
    | true => exact .inr ⟨0, by unfold anyN Lib.indexAny; rw [show ([32, 9, 10, 13] : List UInt8).contains b = true from hb]; rfl, by simp, by simp [noBl, hb]⟩
    | false =>
      have h1 : ([32, 9, 10, 13] : List UInt8).contains b = false := hb
      rcases any_way l with ⟨k1, k2⟩ | ⟨i, k1, k2, k3⟩
      · unfold anyN at k1 ⊢
        unfold noBl at k2 ⊢
        refine .inl ⟨?_, ?_⟩
        · unfold Lib.indexAny; rw [h1, k1]; rfl
        · rw [List.takeWhile_cons, hb, k2]; rfl
      · unfold anyN at k1 ⊢
        unfold noBl at k3 ⊢
        refine .inr ⟨i + 1, ?_, by simp; omega, ?_⟩
        · have : ((i : Int) == -1) = false := by simp
          unfold Lib.indexAny; rw [h1, k1, this]; simp
        · rw [List.takeWhile_cons, hb, k3]; rfl
/-- What a call that answers a beginning answers. -/
def BegRes (B : Nat) (t : Tok × Int) (e : Ending) (w : World) : Prop := ∃ ao n cap, e = .returned (.tuple #[.agg #[.int .i64 t.1.kind, .string ⟨t.1.nm.toArray⟩, .slice ao n cap, .string ⟨t.1.text.toArray⟩], .int .i64 t.2]) ∧ AttrsAt B (.slice ao n cap) t.1.attrs w
theorem begRes_no (B : Nat) (c : Int) (w : World) : BegRes B (⟨0, [], [], []⟩, c) (.returned (.tuple #[.agg #[.int .i64 0, .string ⟨#[]⟩, .slice none 0 0, .string ⟨#[]⟩], .int .i64 c])) w := ⟨none, 0, 0, rfl, attrs_nil _ _⟩
theorem new_heap0 {w w' : World} {o : Obj} (hb : Below (w.alloc o).heap.size (w.alloc o) w') : w'.heap[w.heap.size]? = some o :=
  (hb.block w.heap.size (by simp)).trans (heap_alloc_new w _)
/-- Attributes stay while the cells of a token are written. -/
theorem owns_set {B : Nat} {v : Value} {l : List (List UInt8 × List UInt8)} {w : World} (h : AttrsAt B v l w) {b : Nat} {cs : Array Value} {T : TypeId} {fr : Nat × Nat} (hk : w.heap[b]? = some (.cells cs T fr)) (hT : T ≠ 34) (o : Nat) (u : Value) : AttrsAt B v l (w.setCell ⟨b, o, none⟩ u) := by
  refine ownsRow_setCell_other h (fun e => ?_) u
  rcases h.2 with ⟨h1, _⟩ | ⟨g, cap, cur, h1, _, h3, _⟩
  · rw [h1] at e
    simp [Value.ownBlock] at e
  · rw [h1] at e
    simp [Value.ownBlock] at e
    subst e
    rw [hk] at h3
    exact hT (Obj.cells.inj (Option.some.inj h3)).2.1
theorem heap_set {w : World} {b : Nat} {cs : Array Value} {T : TypeId} {fr : Nat × Nat} (hk : w.heap[b]? = some (.cells cs T fr)) (o : Nat) (u : Value) : ∃ cs', (w.setCell ⟨b, o, none⟩ u).heap[b]? = some (.cells cs' T fr) := by
  have hlt := lt_of_heap hk
  have h' : w.heap[b] = .cells cs T fr := by simpa [Array.getElem?_eq_getElem hlt] using hk
  refine ⟨cs.setIfInBounds o u, ?_⟩
  show (w.heap.modify b _)[b]? = _
  rw [Array.getElem?_eq_getElem (by simpa using hlt), Array.getElem_modify_self, h']
  rfl
theorem owns_set4 {B : Nat} {v : Value} {l : List (List UInt8 × List UInt8)} {w : World} (h : AttrsAt B v l w) {b : Nat} {cs : Array Value} {fr : Nat × Nat} (hk : w.heap[b]? = some (.cells cs 73 fr)) (u0 u1 u2 u3 : Value) :
    AttrsAt B v l ((((w.setCell ⟨b, 0, none⟩ u0).setCell ⟨b, 1, none⟩ u1).setCell ⟨b, 2, none⟩ u2).setCell ⟨b, 3, none⟩ u3) := by
  obtain ⟨c1, k1⟩ := heap_set hk 0 u0
  obtain ⟨c2, k2⟩ := heap_set k1 1 u1
  obtain ⟨c3, k3⟩ := heap_set k2 2 u2
  exact owns_set (owns_set (owns_set (owns_set h hk (by decide) 0 u0) k1 (by decide) 1 u1) k2 (by decide) 2 u2) k3 (by decide) 3 u3
set_option maxHeartbeats 2000000 in
theorem readBegin_name (s : ByteArray) (w : World) (hs : s.size ≤ 2000000) (hn : name (noBl s.data.toList) = false) :
    Calls Tryz.prog 67 #[.string s] w fun e w' => BegRes w.heap.size (⟨0, [], [], []⟩, 3) e w' ∧ Below w.heap.size w w' := by
  have hI := fun W => indexAny_any s W hs
  obtain ⟨M, hM⟩ : ∃ M : ByteArray, (⟨(noBl s.data.toList).toArray⟩ : ByteArray) = M := ⟨_, rfl⟩
  have hN := fun W => name_at ⟨(noBl s.data.toList).toArray⟩ false hn W
  rw [hM] at hN
  rcases any_way s.data.toList with ⟨k1, k2⟩ | ⟨i, k1, k2, k3⟩
  · rw [k1] at hI
    have hMs' : M = s := by rw [← hM, k2]
    subst hMs'
    have HM : Hid _ := hM
    clear k1 k2 hn hM
    go_enter Tryz.func67, Tryz.ntmps67
    go_wp2_with (go_at_call 82; refine (hI _).mono ?_)
    rintro e w1 ⟨rfl, hb1⟩
    go_wp2_with (go_at_call 21; refine (hN _).mono ?_)
    rintro e w2 ⟨rfl, hb2⟩
    have hb3 := hb1.trans (hb2.mono hb1.size)
    have hk := new_heap0 hb3
    have c0 : w2.cell? ⟨w.heap.size, 0, none⟩ = some (.int .i64 0) := by rw [Lib.cell_of_heap hk]; rfl
    have c1 : w2.cell? ⟨w.heap.size, 1, none⟩ = some (.string ⟨#[]⟩) := by rw [Lib.cell_of_heap hk]; rfl
    have c2 : w2.cell? ⟨w.heap.size, 2, none⟩ = some (.slice none 0 0) := by rw [Lib.cell_of_heap hk]; rfl
    have c3 : w2.cell? ⟨w.heap.size, 3, none⟩ = some (.string ⟨#[]⟩) := by rw [Lib.cell_of_heap hk]; rfl
    have fz : ∀ o, w2.frozen? ⟨w.heap.size, o, none⟩ = false := fun o => Lib.frozen_of_heap hk o
    have hB : Below w.heap.size w w2 := ((Below.refl _ w).alloc (Nat.le_refl _) _).trans (hb3.mono (by simp))
    clear hk
    go_wp2
    exact bodyPost_ret (v := .tuple #[.agg #[.int .i64 0, .string ⟨#[]⟩, .slice none 0 0, .string ⟨#[]⟩], .int .i64 3]) (by simp [results, Tryz.results67, go_sem, c0, c1, c2, c3]) rfl ⟨begRes_no _ _ _, (((hB.setCell (p := ⟨w.heap.size, 0, none⟩) (Nat.le_refl _) _).setCell (p := ⟨w.heap.size, 1, none⟩) (Nat.le_refl _) _).setCell (p := ⟨w.heap.size, 2, none⟩) (Nat.le_refl _) _).setCell (p := ⟨w.heap.size, 3, none⟩) (Nat.le_refl _) _⟩
  · rw [k1] at hI
    have hi : i ≤ s.size := by rw [size_list]; omega
    have hMi : s.extract 0 i = M := by rw [← hM, k3]; exact mk_of_list (take_list s i)
    have HM : Hid _ := hM
    clear k1 k2 k3 hn hM
    go_enter Tryz.func67, Tryz.ntmps67
    go_wp2_with (go_at_call 82; refine (hI _).mono ?_)
    rintro e w1 ⟨rfl, hb1⟩
    go_wp2_with (go_at_call 21; refine (hN _).mono ?_)
    rintro e w2 ⟨rfl, hb2⟩
    have hb3 := hb1.trans (hb2.mono hb1.size)
    have hk := new_heap0 hb3
    have c0 : w2.cell? ⟨w.heap.size, 0, none⟩ = some (.int .i64 0) := by rw [Lib.cell_of_heap hk]; rfl
    have c1 : w2.cell? ⟨w.heap.size, 1, none⟩ = some (.string ⟨#[]⟩) := by rw [Lib.cell_of_heap hk]; rfl
    have c2 : w2.cell? ⟨w.heap.size, 2, none⟩ = some (.slice none 0 0) := by rw [Lib.cell_of_heap hk]; rfl
    have c3 : w2.cell? ⟨w.heap.size, 3, none⟩ = some (.string ⟨#[]⟩) := by rw [Lib.cell_of_heap hk]; rfl
    have fz : ∀ o, w2.frozen? ⟨w.heap.size, o, none⟩ = false := fun o => Lib.frozen_of_heap hk o
    have hB : Below w.heap.size w w2 := ((Below.refl _ w).alloc (Nat.le_refl _) _).trans (hb3.mono (by simp))
    clear hk
    go_wp2
    exact bodyPost_ret (v := .tuple #[.agg #[.int .i64 0, .string ⟨#[]⟩, .slice none 0 0, .string ⟨#[]⟩], .int .i64 3]) (by simp [results, Tryz.results67, go_sem, c0, c1, c2, c3]) rfl ⟨begRes_no _ _ _, (((hB.setCell (p := ⟨w.heap.size, 0, none⟩) (Nat.le_refl _) _).setCell (p := ⟨w.heap.size, 1, none⟩) (Nat.le_refl _) _).setCell (p := ⟨w.heap.size, 2, none⟩) (Nat.le_refl _) _).setCell (p := ⟨w.heap.size, 3, none⟩) (Nat.le_refl _) _⟩
set_option maxHeartbeats 2000000 in
theorem readBegin_err (s : ByteArray) (w : World) (hs : s.size ≤ 2000000) (hn : name (noBl s.data.toList) = true) (hT : Tabs w) (c : Int) (l : List (List UInt8 × List UInt8)) (ha : attrsN (s.data.toList.length + 1) [] (s.data.toList.drop (noBl s.data.toList).length) = (l, c)) (hc : (c == 0) = false) :
    Calls Tryz.prog 67 #[.string s] w fun e w' => BegRes w.heap.size (⟨0, [], [], []⟩, c) e w' ∧ Below w.heap.size w w' := by
  have hI := fun W => indexAny_any s W hs
  obtain ⟨M, hM⟩ : ∃ M : ByteArray, (⟨(noBl s.data.toList).toArray⟩ : ByteArray) = M := ⟨_, rfl⟩
  have hN := fun W => name_at ⟨(noBl s.data.toList).toArray⟩ true hn W
  rw [hM] at hN
  have hT3 := hT.size
  obtain ⟨D, hD⟩ : ∃ D : ByteArray, (⟨(s.data.toList.drop (noBl s.data.toList).length).toArray⟩ : ByteArray) = D := ⟨_, rfl⟩
  have hDl : D.data.toList = s.data.toList.drop (noBl s.data.toList).length := by rw [← hD]
  have hMs : M.size = (noBl s.data.toList).length := by rw [← hM, size_mk]
  have hMl : M.size ≤ s.size := by
    rw [hMs, size_list]
    exact (List.takeWhile_sublist _).length_le
  have hex : s.extract M.size s.size = D := by
    rw [← hD]
    refine mk_of_list ?_
    rw [Lib.extract_data, hMs]
    exact List.take_of_length_le (by simp)
  have hDs : D.size ≤ s.size := by rw [size_list, size_list, hDl, List.length_drop]; omega
  have hA := fun W hW => readAttrs_any D (s.data.toList.length + 1) W hW (by omega) (by rw [size_list, hDl, List.length_drop]; omega)
  rw [hDl, ha] at hA
  clear hD hDl hMs
  rcases any_way s.data.toList with ⟨k1, k2⟩ | ⟨i, k1, k2, k3⟩
  · rw [k1] at hI
    have hMs' : M = s := by rw [← hM, k2]
    subst hMs'
    have hDe : D = ByteArray.empty := by
      rw [← hex]
      refine mk_of_list ?_
      rw [Lib.extract_data]
      simp
    subst hDe
    have HM : Hid _ := hM
    clear k1 k2 hn hM ha hex
    go_enter Tryz.func67, Tryz.ntmps67
    go_wp2_with (go_at_call 82; refine (hI _).mono ?_)
    rintro e w1 ⟨rfl, hb1⟩
    go_wp2_with (go_at_call 21; refine (hN _).mono ?_)
    rintro e w2 ⟨rfl, hb2⟩
    have hb3 := hb1.trans (hb2.mono hb1.size)
    have hB2 : Below w.heap.size w w2 := ((Below.refl _ w).alloc (Nat.le_refl _) _).trans (hb3.mono (by simp))
    go_wp2_with (go_at_call 83; refine (hA _ (hT.below hT3 hB2)).mono ?_)
    rintro e w3 ⟨⟨ao, n, cap, rfl, hat⟩, hb4⟩
    have hk := new_heap0 (hb3.trans (hb4.mono hb3.size))
    have c0 : w3.cell? ⟨w.heap.size, 0, none⟩ = some (.int .i64 0) := by rw [Lib.cell_of_heap hk]; rfl
    have c1 : w3.cell? ⟨w.heap.size, 1, none⟩ = some (.string ⟨#[]⟩) := by rw [Lib.cell_of_heap hk]; rfl
    have c2 : w3.cell? ⟨w.heap.size, 2, none⟩ = some (.slice none 0 0) := by rw [Lib.cell_of_heap hk]; rfl
    have c3 : w3.cell? ⟨w.heap.size, 3, none⟩ = some (.string ⟨#[]⟩) := by rw [Lib.cell_of_heap hk]; rfl
    have fz : ∀ o, w3.frozen? ⟨w.heap.size, o, none⟩ = false := fun o => Lib.frozen_of_heap hk o
    have hB := hB2.trans (hb4.mono hB2.size)
    have hT4 := owns_base hat (show w.heap.size ≤ w2.heap.size from hB2.size)
    have HAT : Hid _ := hat
    clear hat
    clear hk
    go_wp2
    exact bodyPost_ret (v := .tuple #[.agg #[.int .i64 0, .string ⟨#[]⟩, .slice none 0 0, .string ⟨#[]⟩], .int .i64 c]) (by simp [results, Tryz.results67, go_sem, c0, c1, c2, c3]) rfl ⟨begRes_no _ _ _, (((hB.setCell (p := ⟨w.heap.size, 0, none⟩) (Nat.le_refl _) _).setCell (p := ⟨w.heap.size, 1, none⟩) (Nat.le_refl _) _).setCell (p := ⟨w.heap.size, 2, none⟩) (Nat.le_refl _) _).setCell (p := ⟨w.heap.size, 3, none⟩) (Nat.le_refl _) _⟩
  · rw [k1] at hI
    have hi : i ≤ s.size := by rw [size_list]; omega
    have hMi : s.extract 0 i = M := by rw [← hM, k3]; exact mk_of_list (take_list s i)
    have HM : Hid _ := hM
    clear k1 k2 k3 hn hM ha
    go_enter Tryz.func67, Tryz.ntmps67
    go_wp2_with (go_at_call 82; refine (hI _).mono ?_)
    rintro e w1 ⟨rfl, hb1⟩
    go_wp2_with (go_at_call 21; refine (hN _).mono ?_)
    rintro e w2 ⟨rfl, hb2⟩
    have hb3 := hb1.trans (hb2.mono hb1.size)
    have hB2 : Below w.heap.size w w2 := ((Below.refl _ w).alloc (Nat.le_refl _) _).trans (hb3.mono (by simp))
    go_wp2_with (go_at_call 83; refine (hA _ (hT.below hT3 hB2)).mono ?_)
    rintro e w3 ⟨⟨ao, n, cap, rfl, hat⟩, hb4⟩
    have hk := new_heap0 (hb3.trans (hb4.mono hb3.size))
    have c0 : w3.cell? ⟨w.heap.size, 0, none⟩ = some (.int .i64 0) := by rw [Lib.cell_of_heap hk]; rfl
    have c1 : w3.cell? ⟨w.heap.size, 1, none⟩ = some (.string ⟨#[]⟩) := by rw [Lib.cell_of_heap hk]; rfl
    have c2 : w3.cell? ⟨w.heap.size, 2, none⟩ = some (.slice none 0 0) := by rw [Lib.cell_of_heap hk]; rfl
    have c3 : w3.cell? ⟨w.heap.size, 3, none⟩ = some (.string ⟨#[]⟩) := by rw [Lib.cell_of_heap hk]; rfl
    have fz : ∀ o, w3.frozen? ⟨w.heap.size, o, none⟩ = false := fun o => Lib.frozen_of_heap hk o
    have hB := hB2.trans (hb4.mono hB2.size)
    have hT4 := owns_base hat (show w.heap.size ≤ w2.heap.size from hB2.size)
    have HAT : Hid _ := hat
    clear hat
    clear hk
    go_wp2
    exact bodyPost_ret (v := .tuple #[.agg #[.int .i64 0, .string ⟨#[]⟩, .slice none 0 0, .string ⟨#[]⟩], .int .i64 c]) (by simp [results, Tryz.results67, go_sem, c0, c1, c2, c3]) rfl ⟨begRes_no _ _ _, (((hB.setCell (p := ⟨w.heap.size, 0, none⟩) (Nat.le_refl _) _).setCell (p := ⟨w.heap.size, 1, none⟩) (Nat.le_refl _) _).setCell (p := ⟨w.heap.size, 2, none⟩) (Nat.le_refl _) _).setCell (p := ⟨w.heap.size, 3, none⟩) (Nat.le_refl _) _⟩
set_option maxHeartbeats 2000000 in
theorem readBegin_yes (s : ByteArray) (w : World) (hs : s.size ≤ 2000000) (hn : name (noBl s.data.toList) = true) (hT : Tabs w) (l : List (List UInt8 × List UInt8)) (ha : attrsN (s.data.toList.length + 1) [] (s.data.toList.drop (noBl s.data.toList).length) = (l, 0)) :
    Calls Tryz.prog 67 #[.string s] w fun e w' => BegRes w.heap.size (⟨1, noBl s.data.toList, l, []⟩, 0) e w' ∧ Below w.heap.size w w' := by
  have hI := fun W => indexAny_any s W hs
  obtain ⟨M, hM⟩ : ∃ M : ByteArray, (⟨(noBl s.data.toList).toArray⟩ : ByteArray) = M := ⟨_, rfl⟩
  have hN := fun W => name_at ⟨(noBl s.data.toList).toArray⟩ true hn W
  rw [hM] at hN
  have hT3 := hT.size
  obtain ⟨D, hD⟩ : ∃ D : ByteArray, (⟨(s.data.toList.drop (noBl s.data.toList).length).toArray⟩ : ByteArray) = D := ⟨_, rfl⟩
  have hDl : D.data.toList = s.data.toList.drop (noBl s.data.toList).length := by rw [← hD]
  have hMs : M.size = (noBl s.data.toList).length := by rw [← hM, size_mk]
  have hMl : M.size ≤ s.size := by
    rw [hMs, size_list]
    exact (List.takeWhile_sublist _).length_le
  have hex : s.extract M.size s.size = D := by
    rw [← hD]
    refine mk_of_list ?_
    rw [Lib.extract_data, hMs]
    exact List.take_of_length_le (by simp)
  have hDs : D.size ≤ s.size := by rw [size_list, size_list, hDl, List.length_drop]; omega
  have hA := fun W hW => readAttrs_any D (s.data.toList.length + 1) W hW (by omega) (by rw [size_list, hDl, List.length_drop]; omega)
  rw [hDl, ha] at hA
  clear hD hDl hMs
  rcases any_way s.data.toList with ⟨k1, k2⟩ | ⟨i, k1, k2, k3⟩
  · rw [k1] at hI
    have hMs' : M = s := by rw [← hM, k2]
    subst hMs'
    have hDe : D = ByteArray.empty := by
      rw [← hex]
      refine mk_of_list ?_
      rw [Lib.extract_data]
      simp
    subst hDe
    have HM : Hid _ := hM
    clear k1 k2 hn hM ha hex
    go_enter Tryz.func67, Tryz.ntmps67
    go_wp2_with (go_at_call 82; refine (hI _).mono ?_)
    rintro e w1 ⟨rfl, hb1⟩
    go_wp2_with (go_at_call 21; refine (hN _).mono ?_)
    rintro e w2 ⟨rfl, hb2⟩
    have hb3 := hb1.trans (hb2.mono hb1.size)
    have hB2 : Below w.heap.size w w2 := ((Below.refl _ w).alloc (Nat.le_refl _) _).trans (hb3.mono (by simp))
    go_wp2_with (go_at_call 83; refine (hA _ (hT.below hT3 hB2)).mono ?_)
    rintro e w3 ⟨⟨ao, n, cap, rfl, hat⟩, hb4⟩
    have hk := new_heap0 (hb3.trans (hb4.mono hb3.size))
    have c0 : w3.cell? ⟨w.heap.size, 0, none⟩ = some (.int .i64 0) := by rw [Lib.cell_of_heap hk]; rfl
    have c1 : w3.cell? ⟨w.heap.size, 1, none⟩ = some (.string ⟨#[]⟩) := by rw [Lib.cell_of_heap hk]; rfl
    have c2 : w3.cell? ⟨w.heap.size, 2, none⟩ = some (.slice none 0 0) := by rw [Lib.cell_of_heap hk]; rfl
    have c3 : w3.cell? ⟨w.heap.size, 3, none⟩ = some (.string ⟨#[]⟩) := by rw [Lib.cell_of_heap hk]; rfl
    have fz : ∀ o, w3.frozen? ⟨w.heap.size, o, none⟩ = false := fun o => Lib.frozen_of_heap hk o
    have hB := hB2.trans (hb4.mono hB2.size)
    have hT4 := owns_base hat (show w.heap.size ≤ w2.heap.size from hB2.size)
    have HAT : Hid _ := hat
    clear hat
    have HT4 : Hid _ := hT4
    have hbk : w.heap.size < w3.heap.size := lt_of_heap hk
    have HK : Hid _ := hk
    clear hk hT4
    go_wp2
    refine bodyPost_ret (v := .tuple #[.agg #[.int .i64 1, .string M, .slice ao n cap, .string ⟨#[]⟩], .int .i64 0]) (by simp [results, Tryz.results67, go_sem, c0, c1, c2, c3]) rfl ⟨⟨ao, n, cap, congrArg (fun X => Ending.returned (.tuple #[.agg #[.int .i64 1, .string X, .slice ao n cap, .string ⟨#[]⟩], .int .i64 0])) HM.out.symm, ?_⟩, (((hB.setCell (p := ⟨w.heap.size, 0, none⟩) (Nat.le_refl _) _).setCell (p := ⟨w.heap.size, 1, none⟩) (Nat.le_refl _) _).setCell (p := ⟨w.heap.size, 2, none⟩) (Nat.le_refl _) _).setCell (p := ⟨w.heap.size, 3, none⟩) (Nat.le_refl _) _⟩
    exact owns_set4 HT4.out HK.out _ _ _ _
  · rw [k1] at hI
    have hi : i ≤ s.size := by rw [size_list]; omega
    have hMi : s.extract 0 i = M := by rw [← hM, k3]; exact mk_of_list (take_list s i)
    have HM : Hid _ := hM
    clear k1 k2 k3 hn hM ha
    go_enter Tryz.func67, Tryz.ntmps67
    go_wp2_with (go_at_call 82; refine (hI _).mono ?_)
    rintro e w1 ⟨rfl, hb1⟩
    go_wp2_with (go_at_call 21; refine (hN _).mono ?_)
    rintro e w2 ⟨rfl, hb2⟩
    have hb3 := hb1.trans (hb2.mono hb1.size)
    have hB2 : Below w.heap.size w w2 := ((Below.refl _ w).alloc (Nat.le_refl _) _).trans (hb3.mono (by simp))
    go_wp2_with (go_at_call 83; refine (hA _ (hT.below hT3 hB2)).mono ?_)
    rintro e w3 ⟨⟨ao, n, cap, rfl, hat⟩, hb4⟩
    have hk := new_heap0 (hb3.trans (hb4.mono hb3.size))
    have c0 : w3.cell? ⟨w.heap.size, 0, none⟩ = some (.int .i64 0) := by rw [Lib.cell_of_heap hk]; rfl
    have c1 : w3.cell? ⟨w.heap.size, 1, none⟩ = some (.string ⟨#[]⟩) := by rw [Lib.cell_of_heap hk]; rfl
    have c2 : w3.cell? ⟨w.heap.size, 2, none⟩ = some (.slice none 0 0) := by rw [Lib.cell_of_heap hk]; rfl
    have c3 : w3.cell? ⟨w.heap.size, 3, none⟩ = some (.string ⟨#[]⟩) := by rw [Lib.cell_of_heap hk]; rfl
    have fz : ∀ o, w3.frozen? ⟨w.heap.size, o, none⟩ = false := fun o => Lib.frozen_of_heap hk o
    have hB := hB2.trans (hb4.mono hB2.size)
    have hT4 := owns_base hat (show w.heap.size ≤ w2.heap.size from hB2.size)
    have HAT : Hid _ := hat
    clear hat
    have HT4 : Hid _ := hT4
    have hbk : w.heap.size < w3.heap.size := lt_of_heap hk
    have HK : Hid _ := hk
    clear hk hT4
    go_wp2
    refine bodyPost_ret (v := .tuple #[.agg #[.int .i64 1, .string M, .slice ao n cap, .string ⟨#[]⟩], .int .i64 0]) (by simp [results, Tryz.results67, go_sem, c0, c1, c2, c3]) rfl ⟨⟨ao, n, cap, congrArg (fun X => Ending.returned (.tuple #[.agg #[.int .i64 1, .string X, .slice ao n cap, .string ⟨#[]⟩], .int .i64 0])) HM.out.symm, ?_⟩, (((hB.setCell (p := ⟨w.heap.size, 0, none⟩) (Nat.le_refl _) _).setCell (p := ⟨w.heap.size, 1, none⟩) (Nat.le_refl _) _).setCell (p := ⟨w.heap.size, 2, none⟩) (Nat.le_refl _) _).setCell (p := ⟨w.heap.size, 3, none⟩) (Nat.le_refl _) _⟩
    exact owns_set4 HT4.out HK.out _ _ _ _
theorem readBegin_any (s : ByteArray) (w : World) (hT : Tabs w) (hs : s.size ≤ 2000000) :
    Calls Tryz.prog 67 #[.string s] w fun e w' => BegRes w.heap.size (beginN s.data.toList) e w' ∧ Below w.heap.size w w' := by
  cases hn : name (noBl s.data.toList) with
  | false =>
    rw [show beginN s.data.toList = (⟨0, [], [], []⟩, 3) by unfold beginN; rw [hn]; rfl]
    exact readBegin_name s w hs hn
  | true =>
    obtain ⟨⟨l, c⟩, ha⟩ : ∃ p, attrsN (s.data.toList.length + 1) [] (s.data.toList.drop (noBl s.data.toList).length) = p := ⟨_, rfl⟩
    by_cases hc : c = 0
    · subst hc
      rw [show beginN s.data.toList = (⟨1, noBl s.data.toList, l, []⟩, 0) by unfold beginN; rw [hn, ha]; rfl]
      exact readBegin_yes s w hs hn hT l ha
    · rw [show beginN s.data.toList = (⟨0, [], [], []⟩, c) by unfold beginN; rw [hn, ha]; simp [hc]]
      exact readBegin_err s w hs hn hT c l ha (by simpa using hc)
end Go.Proofs.YthekdgnikkjpdaaGreatDoor
