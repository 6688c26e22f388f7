/-
  The walk of the statement WrapTexts over this program.
-/
import Derived.Test.YtdhjbbkleihiaaaDoorNumj
import Derived.Test.YtdhjbbkleihiaaaDoorNumk
namespace Go.Proofs.YtdhjbbkleihiaaaDoor
open Go Go.RowKit
theorem read_both (s : ByteArray) (r : Nat) (b : Bool) (hs : s.size ≤ 140737488355328) (hr : (readN s.data.toList).getD 0 = r) (hb : (readN s.data.toList).isSome = b) (w : World) (hE : Env w) :
    Calls Tryd.prog 18 #[.string s] w fun e w' => e = .returned (.tuple #[.int .u32 r, .bool b]) ∧ Below w.heap.size w w' := by
  cases h : readN s.data.toList with
  | none =>
    rw [h] at hr hb
    subst hr hb
    exact read_none s h hs w hE
  | some u =>
    rw [h] at hr hb
    subst hr hb
    exact read_some s u h hs w hE
theorem RowZ.below {w w' : World} {ao : Option Addr} {n : Nat} {z : Nat → Int} (h : RowZ w ao n z) (hb : Below w.heap.size w w') : RowZ w' ao n z := fun i hi => by
  obtain ⟨ad, e, hc, hu⟩ := h i hi
  exact ⟨ad, e, (hb.cell (World.block_lt_of_cell? w _ hc)).trans hc, hu⟩
set_option maxHeartbeats 2000000 in
set_option maxRecDepth 100000 in
theorem texts_walk (h : Int) (s : ByteArray) (ao : Option Addr) (n cap : Nat) (z : Nat → Int) (hh : U h) (w : World) (hrow : RowZ w ao n z) (hn : n ≤ 9223372036854775807) (hE : Env w) :
    Calls Tryd.prog 4 #[.int .u32 h, .string s, .slice ao n cap] w fun e w' => e = .returned (.bool true) ∧ Below w.heap.size w w' := by
  have HLV := lives_any w hE
  have HE : Hid (Env w) := hE
  have HZ : Hid (RowZ w ao n z) := hrow
  clear hE hrow
  obtain ⟨u, rfl⟩ : ∃ u : Nat, h = u := ⟨h.toNat, by unfold U at hh; omega⟩
  have hu : u < 4294967296 := by unfold U at hh; omega
  have HT := fun W h => text_any u hu W h
  have HT2 := refText_any 9 u (by omega) hu
  have hsz : (s.extract 0 (min (s.size : Int) 40).toNat).size ≤ 40 := by
    rw [ByteArray.size_extract]
    omega
  obtain ⟨r, hr⟩ : ∃ r, (readN (s.extract 0 (min (s.size : Int) 40).toNat).data.toList).getD 0 = r := ⟨_, rfl⟩
  obtain ⟨b, hb⟩ : ∃ b, (readN (s.extract 0 (min (s.size : Int) 40).toNat).data.toList).isSome = b := ⟨_, rfl⟩
  have HRD := fun W h => read_both _ r b (Nat.le_trans hsz (by decide)) hr hb W h
  rw [readN_eq] at hr hb
  have HRF := fun W => refRead_any _ r b hsz hr hb W
  have HS1 := fun W h => span_any ao n cap z W h hn
  have HS2 := fun W h => refSpan_any ao n cap z W h hn
  obtain ⟨x, hx⟩ : ∃ x, spanF z (n - 1) = x := ⟨_, rfl⟩
  rw [hx] at HS1 HS2
  clear hr hb hx hsz hh hn
  go_enter Tryd.func4, Tryd.ntmps4
  go_wp2_with (first
    | (go_at_call 9; refine HLV.mono ?_; rintro e w1 ⟨rfl, hb1⟩)
    | (go_at_call 18; refine (HRD _ (HE.out.below hb1)).mono ?_; rintro e w2 ⟨rfl, hb2⟩; replace hb2 := hb1.trans (hb2.mono hb1.size))
    | (go_at_call 19; refine (HRF _).mono ?_; rintro e w9 ⟨rfl, rfl⟩)
    | (go_at_call 20; refine (HT _ (HE.out.below hb2).pow).mono ?_; rintro e w3 ⟨rfl, hb3⟩; replace hb3 := hb2.trans (hb3.mono hb2.size))
    | (go_at_call 21; refine (HT2 _).mono ?_; rintro e w4 ⟨rfl, hb4⟩; replace hb4 := hb3.trans (hb4.mono hb3.size))
    | (go_at_call 22; refine (HS1 _ (HZ.out.below hb4)).mono ?_; rintro e w5 ⟨rfl, hb5⟩; replace hb5 := hb4.trans (hb5.mono hb4.size))
    | (go_at_call 23; refine (HS2 _ (HZ.out.below hb5)).mono ?_; rintro e w6 ⟨rfl, hb6⟩; replace hb6 := hb5.trans (hb6.mono hb5.size)))
  go_ret
  exact ⟨rfl, hb6⟩
end Go.Proofs.YtdhjbbkleihiaaaDoor
