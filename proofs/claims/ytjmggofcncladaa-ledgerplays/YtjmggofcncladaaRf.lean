/-
  The contract of (*Ring).Cut over this program.
-/
import Derived.Test.YtjmggofcncladaaRe
namespace Go.Proofs.Ytjmggofcncladaa
open Go Go.RowKit
theorem owns_keep {B : Nat} {e : TypeId} {sz : Nat} {v : Value} {n : Nat} {xs : List Value} {w w' : World} (h : w.ownsRow B e sz v n xs) (hk : ∀ k, k < w.heap.size → B ≤ k → w'.heap[k]? = w.heap[k]?) : w'.ownsRow B e sz v n xs := by
  refine ⟨h.1, ?_⟩
  rcases h.2 with h1 | ⟨g, cap, cur, h1, h2, h3, h4⟩
  · exact .inl h1
  · exact .inr ⟨g, cap, cur, h1, h2, by rw [hk g (lt_of_heap h3) h2]; exact h3, h4⟩
theorem TxAt.below {B : Nat} {ao : Option Addr} {cap : Nat} {l : List ByteArray} {w w' : World} (h : TxAt B ao cap l w) (hb : Below w.heap.size w w') : TxAt B ao cap l w' := owns_keep h fun k hk _ => hb.block k hk
theorem TxAt.fz {B r p : Nat} {ao : Option Addr} {cap : Nat} {l : List ByteArray} {w w' : World} (h : TxAt B ao cap l w) (hf : Fz r p w w') (hr : r < B) (hp : p < B) : TxAt B ao cap l w' := owns_keep h fun k hk hB => hf.2 k hk (by omega) (by omega)
theorem TxAt.base {B B' : Nat} {ao : Option Addr} {cap : Nat} {l : List ByteArray} {w : World} (h : TxAt B ao cap l w) (hb : B' ≤ B) : TxAt B' ao cap l w := by
  refine ⟨h.1, ?_⟩
  rcases h.2 with h1 | ⟨g, cap, cur, h1, h2, h3, h4⟩
  · exact .inl h1
  · exact .inr ⟨g, cap, cur, h1, by omega, h3, h4⟩
theorem TxAt.row {B : Nat} {ao : Option Addr} {cap : Nat} {l : List ByteArray} {w : World} (h : TxAt B ao cap l w) : RowS w ao l := by
  intro i s hs
  obtain ⟨_, ⟨h1, h2⟩ | ⟨g, cap', cur, hv, _⟩⟩ := id h
  · have := (List.getElem?_eq_some_iff.1 hs).1
    omega
  · obtain ⟨rfl, _, rfl⟩ := Value.slice.inj hv
    exact ⟨_, rfl, World.ownsRow.cells h (g := g) rfl i _ (by rw [strs_get, hs]; rfl)⟩
set_option maxHeartbeats 400000 in
theorem cut_none (r p n f : Nat) (l : List ByteArray) (z : Int) (w : World) (h : RgAt r p n f l w) (hz : l.length ≤ z.toNat) :
    Calls Try.prog 38 #[.pointer (some ⟨r, 0, none⟩), .int .i64 z] w fun e w' => e = .returned (.slice none 0 0) ∧ w' = w := by
  have HL := fun W hh => len_any r p n f l.length W hh
  have HH : Hid (HdAt r p n f l.length w) := h.hd
  obtain ⟨c, hc⟩ : ∃ c, l.length = c := ⟨_, rfl⟩
  rw [hc] at HL HH hz
  obtain ⟨k, hk⟩ : ∃ k, z.toNat = k := ⟨_, rfl⟩
  have hm : (if z < 0 then (0 : Int) else z) = (k : Int) := by split <;> omega
  have k0 : (c : Int) ≤ (k : Int) := by omega
  clear h hc hz hk
  go_enter Try.func38, Try.ntmps38
  go_wp2_with (go_at_call 37; refine (HL _ HH.out).mono ?_; rintro e w ⟨rfl, rfl⟩)
  go_ret
  exact ⟨rfl, rfl⟩
theorem cut_nil (z : Int) (w : World) :
    Calls Try.prog 38 #[.pointer none, .int .i64 z] w fun e w' => e = .returned (.slice none 0 0) ∧ w' = w := by
  obtain ⟨k, hk⟩ : ∃ k, z.toNat = k := ⟨_, rfl⟩
  have hm : (if z < 0 then (0 : Int) else z) = (k : Int) := by split <;> omega
  have k0 : (0 : Int) ≤ (k : Int) := by omega
  clear hk
  go_enter Try.func38, Try.ntmps38
  go_wp2_with (go_at_call 37; refine (len_nil _).mono ?_; rintro e w ⟨rfl, rfl⟩)
  go_ret
  exact ⟨rfl, rfl⟩
/-- The texts up to the k-th lie in their places. -/
def CtAt (p n f k : Nat) (l : List ByteArray) (w : World) : Prop := ∃ g, PlAt p n g w ∧ ∀ i, i < k → g[(f + i) % n]? = l[i]?
theorem cut_end {r p n f k c : Nat} {l : List ByteArray} {w w' : World} (h1 : CtAt p n f k l w) (h2 : HdAt r p n f c w) (h0 : 0 < n) (h64 : n ≤ 64) (hf : f < n) (hl : l.length = c) (hn : c ≤ n) (hk : k < c)
    (hw : w'.heap = (w.setCell ⟨r, 2, none⟩ (.int .i64 (k : Int))).heap) : RgAt r p n f (l.take k) w' := by
  obtain ⟨g, h3, h4⟩ := h1
  have hne := ne_rp h2 h3
  have j1 := h2.set2 k
  have j2 := h3.keep (Below.heap_setCell w ⟨r, 2, none⟩ (.int .i64 (k : Int)) _ hne.symm)
  have e : (l.take k).length = k := by rw [List.length_take]; omega
  refine ⟨h0, h64, hf, by omega, ?_, g, ⟨j2.1, by rw [hw]; exact j2.2⟩, fun i hi => ?_⟩
  · rw [e]
    show _ = _
    rw [hw]
    exact j1
  · rw [h4 i (by omega), List.getElem?_take_of_lt (by omega)]
set_option maxHeartbeats 1000000 in
theorem cut_some (r p n f : Nat) (l : List ByteArray) (z : Int) (w : World) (h : RgAt r p n f l w) (hz : z.toNat < l.length) :
    Calls Try.prog 38 #[.pointer (some ⟨r, 0, none⟩), .int .i64 z] w fun e w' => TxRes w.heap.size (l.drop z.toNat) e w' ∧ RgAt r p n f (l.take z.toNat) w' ∧ Fz r p w w' := by
  obtain ⟨k, hk⟩ : ∃ k, z.toNat = k := ⟨_, rfl⟩
  have hm : (if z < 0 then (0 : Int) else z) = (k : Int) := by split <;> omega
  rw [hk] at hz ⊢
  have h64 := h.n64
  have hn0 := h.n0
  have hfn := h.fn
  have hln := h.ln
  obtain ⟨rl, pl⟩ := h.lt
  have HL := fun W hh => len_any r p n f l.length W hh
  have HB := fun W hh => behind_any r p n f l k W hh
  have HH : Hid (RgAt r p n f l w) := h
  obtain ⟨c, hc⟩ : ∃ c, l.length = c := ⟨_, rfl⟩
  have EC : Hid _ := hc
  obtain ⟨m, hmm⟩ : ∃ m, (l.drop k).length = m := ⟨_, rfl⟩
  have EM : Hid _ := hmm
  have hcm : c = k + m := by rw [List.length_drop, hc] at hmm; omega
  have HCM : Hid _ := hcm
  rw [hc] at HL hz hln
  have k0 : ¬ (c : Int) ≤ (k : Int) := by omega
  have m64 : m ≤ 64 := by omega
  clear h hc hk hmm hcm
  go_enter Try.func38, Try.ntmps38
  go_wp2_with (first
    | (go_at_call 37; refine (HL _ ?_).mono ?_; (have := HH.out.hd; rw [EC.out] at this; exact this); rintro e w ⟨rfl, rfl⟩)
    | (go_at_call 42; refine (HB _ ?_).mono ?_; exact HH.out; rintro e w1 ⟨⟨ao, cap, rfl, ht⟩, hb⟩; rw [EM.out]))
  have HT : Hid (TxAt w.heap.size ao cap (l.drop k) w1) := ht
  have H1 : Hid (RgAt r p n f l w1) := HH.out.below hb
  have HB1 : Hid (Below w.heap.size w w1) := hb
  have hsz := hb.size
  clear ht hb HB HL
  go_loopw [7, 19] (fun _ i wr => ∃ j : Nat, j ≤ m ∧ i = .int .i64 (j : Int) ∧ CtAt p n f k l wr ∧ HdAt r p n f c wr ∧ Fz r p w1 wr) (fun _ i _ => m - (intOf i).toNat)
  case atStart =>
    refine ⟨0, Nat.zero_le _, rfl, ?_, ?_, Fz.refl _ _ _⟩
    · obtain ⟨g, h1, h2⟩ := H1.out.pl
      exact ⟨g, h1, fun i hi => h2 i (by rw [EC.out]; omega)⟩
    · have := H1.out.hd
      rw [EC.out] at this
      exact this
  case round =>
    obtain ⟨j, hj, rfl, hd, hh, hfz⟩ := hrel
    by_cases hlt : j < m
    · obtain ⟨g, hp, hg⟩ := hd
      have hcm := HCM.out
      have hml := Nat.mod_lt (f + (k + j)) hn0
      obtain ⟨t, ht⟩ := hp.get hml
      have HC := hp.cell ht
      have HF := hp.frozen ((f + (k + j)) % n)
      have HP := fun W hh => place_any r p n f c (k + j) W hh hn0 h64 hfn (by omega)
      have HH' : Hid (HdAt r p n f c wr) := hh
      have HPL : Hid (PlAt p n g wr) := hp
      have HG : Hid (∀ i, i < k → g[(f + i) % n]? = l[i]?) := hg
      have HFZ : Hid _ := hfz
      have c0 := hh.c0
      have hne := ne_rp hh hp
      have hne' : ¬ p = r := fun e => hne e.symm
      have HNE : Hid (∀ i, i < k → (f + (k + j)) % n ≠ (f + i) % n) := fun i hi => (mod_ne hfn (by omega) (by omega)).symm
      obtain ⟨x, hx⟩ : ∃ x, k + j = x := ⟨_, rfl⟩
      have hwx : IntKind.i64.wrap ((k : Int) + (j : Int)) = ((x : Nat) : Int) := by simp only [IntKind.wrap_i64]; omega
      rw [hx] at HP HC HF hml HNE
      obtain ⟨y, hy⟩ : ∃ y, (f + x) % n = y := ⟨_, rfl⟩
      rw [hy] at HP HC HF hml HNE
      have y0 : (0 : Int) ≤ (y : Int) := by omega
      have y1 : (y : Int) < (n : Int) := by omega
      have hlt' : (j : Int) < (m : Int) := by omega
      clear hh hp hg ht hy hx hfz hne hcm
      go_wp2_with fail
      go_region_with (go_at_call 41; refine (HP _ ?_).mono ?_; exact HH'.out; rintro e w2 ⟨rfl, mm, rfl⟩)
      all_goals (
        go_wp2_with fail
        go_roundw
        case rel =>
          refine ⟨j + 1, by omega, by go_num, ⟨g.set y ⟨#[]⟩, ⟨by rw [List.length_set]; exact HPL.out.1, (HPL.out.set y ⟨#[]⟩).2⟩, fun i hi => ?_⟩, ?_, (Fz.setCell HFZ.out p y (.string ⟨#[]⟩) (.inr rfl)).alike rfl rfl rfl rfl⟩
          · rw [List.getElem?_set_ne (HNE.out i hi)]
            exact HG.out i hi
          · exact (Below.heap_setCell wr ⟨p, y, none⟩ (.string ⟨#[]⟩) r (fun e => hne' e.symm)).trans HH'.out
        case measure => simp [intOf]; omega)
    · obtain rfl : j = m := by omega
      have f2 := hh.fz 2
      have c2' := hh.c2
      have HH' : Hid (HdAt r p n f c wr) := hh
      have HD : Hid _ := hd
      have HFZ : Hid _ := hfz
      have hnl : ¬ (j : Int) < (j : Int) := by omega
      clear hh hd hfz
      go_wp2_with fail
      go_ret
      have hfin : Fz r p w1 (wr.setCell ⟨r, 2, none⟩ (.int .i64 (k : Int))) := Fz.setCell HFZ.out r 2 _ (.inl rfl)
      refine ⟨⟨ao, cap, by rw [EM.out]; rfl, ?_⟩, cut_end HD.out HH'.out hn0 h64 hfn EC.out hln hz rfl, (Fz.of_below HB1.out).trans hfin⟩
      exact TxAt.fz HT.out hfin rl pl
theorem cut_any (r p n f : Nat) (l : List ByteArray) (z : Int) (w : World) (h : RgAt r p n f l w) :
    Calls Try.prog 38 #[.pointer (some ⟨r, 0, none⟩), .int .i64 z] w fun e w' => TxRes w.heap.size (l.drop z.toNat) e w' ∧ RgAt r p n f (l.take z.toNat) w' ∧ Fz r p w w' := by
  by_cases hz : z.toNat < l.length
  · exact cut_some r p n f l z w h hz
  · refine (cut_none r p n f l z w h (by omega)).mono fun e w' ⟨he, hw⟩ => ?_
    subst he hw
    rw [List.drop_eq_nil_of_le (by omega), List.take_of_length_le (by omega)]
    exact ⟨⟨none, 0, rfl, World.ownsRow_nil _ _ _ _⟩, h, Fz.refl _ _ _⟩
end Go.Proofs.Ytjmggofcncladaa
