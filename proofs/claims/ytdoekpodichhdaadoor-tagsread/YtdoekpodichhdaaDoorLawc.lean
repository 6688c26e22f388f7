/-
  The contract of the statements' own helper, as, over this program: for all tokens that lie in memory.
-/
import Derived.Test.YtdoekpodichhdaaDoorLawa
import Derived.Deep.RegionHeld3
import Derived.Deep.AppendLies
namespace Go.Proofs.YtdoekpodichhdaaDoor
open Go.RowKit
theorem info53 : (Tryd.prog.info? 53).map (fun i => (i.zero, i.size, i.bytes)) = some (some (.agg #[.int .i64 0, .string ⟨#[]⟩, .slice none 0 0, .string ⟨#[]⟩]), 4, 64) := by kernel_rfl
theorem tok_get {B : Nat} {w : World} : ∀ {l : List Tok} {xs : List Value} (j : Nat) (t : Tok), TokCells B w l xs → l[j]? = some t →
    ∃ v, xs[j * 4]? = some (.int .i64 t.kind) ∧ xs[j * 4 + 1]? = some (.string ⟨t.nm.toArray⟩) ∧ xs[j * 4 + 2]? = some v ∧ xs[j * 4 + 3]? = some (.string ⟨t.text.toArray⟩) ∧ AttrsAt B v t.attrs w
  | [], _, _, _, _, h => by simp at h
  | t :: ts, xs, 0, u, ⟨v, ys, e, h1, _⟩, h => by
    simp at h
    subst h e
    exact ⟨v, rfl, rfl, rfl, rfl, h1⟩
  | t :: ts, xs, j + 1, u, ⟨v, ys, e, _, h2⟩, h => by
    obtain ⟨v2, a, b, c, d, f⟩ := tok_get j u h2 (by simpa using h)
    subst e
    refine ⟨v2, ?_, ?_, ?_, ?_, f⟩
    · rw [show (j + 1) * 4 = j * 4 + 4 by omega]; exact a
    · rw [show (j + 1) * 4 + 1 = j * 4 + 1 + 4 by omega]; exact b
    · rw [show (j + 1) * 4 + 2 = j * 4 + 2 + 4 by omega]; exact c
    · rw [show (j + 1) * 4 + 3 = j * 4 + 3 + 4 by omega]; exact d
theorem take_four {xs : List Value} {j : Nat} {a b c d : Value} (ha : xs[j * 4]? = some a) (hb : xs[j * 4 + 1]? = some b) (hc : xs[j * 4 + 2]? = some c) (hd : xs[j * 4 + 3]? = some d) :
    xs.take ((j + 1) * 4) = xs.take (j * 4) ++ [a, b, c, d] := by
  obtain ⟨l0, e0⟩ := List.getElem?_eq_some_iff.1 ha
  obtain ⟨l1, e1⟩ := List.getElem?_eq_some_iff.1 hb
  obtain ⟨l2, e2⟩ := List.getElem?_eq_some_iff.1 hc
  obtain ⟨l3, e3⟩ := List.getElem?_eq_some_iff.1 hd
  rw [show (j + 1) * 4 = j * 4 + 1 + 1 + 1 + 1 by omega, List.take_succ_eq_append_getElem (by omega), List.take_succ_eq_append_getElem (by omega), List.take_succ_eq_append_getElem (by omega), List.take_succ_eq_append_getElem (by omega), e0]
  simp [e1, e2, e3]
/-- What 'as' answers: a row of its own (from block R on), of tokens whose attributes lie from block B on. -/
def AsRes (R B : Nat) (l : List Tok) (e : Ending) (w : World) : Prop := ∃ ao n cap xs, e = .returned (.slice ao n cap) ∧ w.ownsRow R 53 4 (.slice ao n cap) l.length xs ∧ TokCells B w l xs
set_option maxHeartbeats 4000000 in
set_option maxRecDepth 100000 in
theorem as_any (B : Nat) (ao : Option Addr) (n cap : Nat) (l : List Tok) (w : World) (h : ToksAt 44 B (.slice ao n cap) l w) (hl : l.length ≤ 1000000) :
    Calls Tryd.prog 15 #[.slice ao n cap] w fun e w' => AsRes w.heap.size B l e w' ∧ Below w.heap.size w w' := by
  obtain ⟨xs, ho, hc⟩ := h
  obtain rfl := owns_n ho
  obtain ⟨i0, hi, hz0, hz1, hz2⟩ := info_parts info53
  have HO : Hid _ := ho
  have HC : Hid _ := hc
  have hxl : xs.length = l.length * 4 := hc.length
  have HXL : Hid _ := hxl
  clear ho hc hxl
  go_enter Tryd.func15, Tryd.ntmps15
  go_wp2
  go_loopw [3, 4] (fun v i wr => ∃ (j : Nat) (ao' : Option Addr) (n' cap' : Nat), j ≤ l.length ∧ i = .int .i64 j ∧ v = .slice ao' n' cap' ∧ wr.ownsRow w.heap.size 53 4 (.slice ao' n' cap') j (xs.take (j * 4)) ∧ Below w.heap.size w wr) (fun _ i _ => l.length - (intOf i).toNat)
  case atStart => exact ⟨0, none, 0, 0, Nat.zero_le _, rfl, rfl, World.ownsRow_nil _ _ _ _, Below.refl _ _⟩
  case round =>
    obtain ⟨j, ao', n', cap', hj, rfl, rfl, hown, hbw⟩ := hrel
    obtain rfl := owns_n hown
    by_cases hlt : n' < l.length
    · obtain ⟨v, x0, x1, x2, x3, hv⟩ := tok_get n' _ HC.out (List.getElem?_eq_getElem hlt)
      obtain ⟨aoa, capa, rfl⟩ := owns_shape hv
      obtain ⟨t, ht⟩ : ∃ t, l[n'] = t := ⟨_, rfl⟩
      rw [ht] at x0 x1 x2 x3 hv
      rcases (HO.out).2 with ⟨q1, q2⟩ | ⟨g, cap2, cur, q1, q2, q3, _⟩
      · omega
      obtain ⟨rfl, _, rfl⟩ := Value.slice.inj q1
      have hgw := lt_of_heap q3
      have d0 : wr.cell? ⟨g, n' * 4, none⟩ = some (.int .i64 t.kind) := by rw [hbw.cell (p := ⟨g, n' * 4, none⟩) hgw, World.ownsRow.cellAt HO.out _ (by omega)]; exact x0
      have d1 : wr.cell? ⟨g, n' * 4 + 1, none⟩ = some (.string ⟨t.nm.toArray⟩) := by rw [hbw.cell (p := ⟨g, n' * 4 + 1, none⟩) hgw, World.ownsRow.cellAt HO.out _ (by omega)]; exact x1
      have d2 : wr.cell? ⟨g, n' * 4 + 2, none⟩ = some (.slice aoa t.attrs.length capa) := by rw [hbw.cell (p := ⟨g, n' * 4 + 2, none⟩) hgw, World.ownsRow.cellAt HO.out _ (by omega)]; exact x2
      have d3 : wr.cell? ⟨g, n' * 4 + 3, none⟩ = some (.string ⟨t.text.toArray⟩) := by rw [hbw.cell (p := ⟨g, n' * 4 + 3, none⟩) hgw, World.ownsRow.cellAt HO.out _ (by omega)]; exact x3
      have ag : (Value.slice ao' n' cap').ownBlock ≠ some g := by
        intro e
        have := (hown.lt g e).1
        omega
      have H4 : Hid _ := take_four x0 x1 x2 x3
      have hi0' : (0 : Int) ≤ (n' : Int) := Int.natCast_nonneg _
      have hi1 : (n' : Int) < (l.length : Int) := by omega
      have hgr : g < wr.heap.size := by have := hbw.size; omega
      have hsz := hbw.size
      clear x0 x1 x2 x3 hv q1 q2 q3 ht
      go_wp2_with fail
      go_region_held3 (fun w' => w'.cell? ⟨g, n' * 4, none⟩ = some (.int .i64 t.kind) ∧ w'.cell? ⟨g, n' * 4 + 1, none⟩ = some (.string ⟨t.nm.toArray⟩) ∧ w'.cell? ⟨g, n' * 4 + 2, none⟩ = some (.slice aoa t.attrs.length capa) ∧ w'.cell? ⟨g, n' * 4 + 3, none⟩ = some (.string ⟨t.text.toArray⟩))
        (first
          | go_keep
          | (go_split_ands
             refine ⟨?_, ?_, ?_, ?_⟩
             · (rw [hgrow.cell_far _ (by simp; omega) (Ne.symm ag)]; assumption)
             · (rw [hgrow.cell_far _ (by simp; omega) (Ne.symm ag)]; assumption)
             · (rw [hgrow.cell_far _ (by simp; omega) (Ne.symm ag)]; assumption)
             · (rw [hgrow.cell_far _ (by simp; omega) (Ne.symm ag)]; assumption)))
        ((refine step_append_lies _ (by rfl) _ _ _ (by rfl) w.heap.size 53 i0 _ 4 64 Tryd.underlying30 hi hz0 hz1 hz2 rfl (by omega) _ n' _ (by rfl) ((World.ownsRow.alloc hown _).drew)
            ⟨wr.heap.size, 0, none⟩ 1 1 [.int .i64 t.kind, .string ⟨t.nm.toArray⟩, .slice aoa t.attrs.length capa, .string ⟨t.text.toArray⟩] (by rfl) (by rfl) (World.news_of_block (cs := #[.int .i64 t.kind, .string ⟨t.nm.toArray⟩, .slice aoa t.attrs.length capa, .string ⟨t.text.toArray⟩]) (t := 53) (fr := (0, 0)) (heap_alloc_new wr _)) (by simp [Value.oneCell'])
            (by omega) (by unfold maxLen; omega) (by omega) (by simp; omega) (wr.heap.size + 1) (by simp) ?_; intro gg cap3 w1 hown1 hgrow hat hlt1))
      have HB : Hid (Below w.heap.size w w1) := ((hbw.alloc hsz (.cells #[.int .i64 t.kind, .string ⟨t.nm.toArray⟩, .slice aoa t.attrs.length capa, .string ⟨t.text.toArray⟩] 53)).drew).grown hgrow (by simp; omega) (owns_lt hown)
      have HW : Hid _ := hown1
      clear hown1 hgrow hat
      go_wp2
      go_roundw
      case rel => exact ⟨n' + 1, _, _, cap3, by omega, by go_num, rfl, by rw [H4.out]; exact HW.out, HB.out⟩
      case measure => simp [intOf]; omega
    · have hjn : n' = l.length := by omega
      have HJ : Hid _ := hjn
      clear hjn
      go_wp2
      go_ret
      refine ⟨⟨ao', n', cap', xs, rfl, ?_, ?_⟩, hbw⟩
      · have k := hown
        rw [HJ.out, List.take_of_length_le (by rw [HXL.out]; exact Nat.le_refl _)] at k
        rw [HJ.out]
        exact k
      · exact TokCells.mono (Nat.le_refl _) (fun _ _ q => owns_below q hbw) HC.out
end Go.Proofs.YtdoekpodichhdaaDoor
