/-
  Over this program: what the statements' own lives answers; the walks of TokenTexts and TokenBack.
-/
import Derived.Test.YtlpnbgpbahlodaaDoorPki
namespace Go.Proofs.YtlpnbgpbahlodaaDoor
open Go Go.RowKit
abbrev L33 : ByteArray := ⟨#[48, 48, 48, 48, 48, 48, 48, 48, 48, 48, 48, 49, 49]⟩
theorem l33 : tokL 13 33 = [48, 48, 48, 48, 48, 48, 48, 48, 48, 48, 48, 49, 49] := by decide
theorem t33 : T 33 = L33 := by unfold T; rw [l33]
theorem draw33 (w : World) : Calls Tryd.prog 13 #[.slice (some ⟨w.heap.size, 0, none⟩) 1 1, .slice none 0 0, .int .i64 1] (w.alloc (.cells #[.int .u64 33] 22)) fun e w' => e = .returned (.tuple #[.string L33, .int .i64 1, .int .i64 0]) ∧ Below w.heap.size w w' := by
  have h1 : RowU (w.alloc (.cells #[.int .u64 33] 22)) (some ⟨w.heap.size, 0, none⟩) [33] := row_one (heap_alloc_new w _)
  have h2 : RowS (w.alloc (.cells #[.int .u64 33] 22)) none [] := fun j u hu => by simp [strs] at hu
  refine (draw_any (some ⟨w.heap.size, 0, none⟩) none 1 0 [33] [] 1 _ h1 h2 (by decide) (by decide) (by decide) (fun z hz => by simp at hz; subst hz; unfold U; decide)).mono fun e w' ⟨hd, hb⟩ => ?_
  obtain ⟨s, c, err, rfl, h | h⟩ := hd
  · obtain ⟨h, rfl⟩ := h
    have h3 : drawF [] ([33].take (triesN 1)) 0 = some (T 33, 1) := rfl
    rw [h3, t33] at h
    cases h
    exact ⟨rfl, ((Below.refl _ w).alloc (Nat.le_refl _) _).trans (hb.mono (by simp))⟩
  · have h3 : drawF [] ([33].take (triesN 1)) 0 = some (T 33, 1) := rfl
    rw [h3] at h
    cases h.1
set_option maxHeartbeats 1000000 in
set_option maxRecDepth 100000 in
theorem lives_any (w : World) (hE : Env w) : Calls Tryd.prog 8 #[] w fun e w' => e = .returned (.bool true) ∧ Below w.heap.size w w' := by
  have HR := read_any L33 33 true (by decide) (by rw [show L33.data.toList = tokL 13 33 from l33.symm, readT_tok (by decide)]; rfl) (by rw [show L33.data.toList = tokL 13 33 from l33.symm, readT_tok (by decide)]; rfl) w hE
  have HO := fun W => of_any 33 (by decide) W
  have e33 : (⟨(tokL 13 33).toArray⟩ : ByteArray) = L33 := t33
  simp only [e33] at HO
  have HA := fun W => apart_any none 0 [] W (fun j u hu => by simp [us] at hu) (by decide) (fun z hz => by cases hz) true ⟨fun _ => ndT_zero _, fun _ => rfl⟩
  have HM := fun W => mix_any 1 2 W
  have e2 : lenN 2 = 2 := by decide
  rw [e2] at HM
  clear e2 e33 hE
  go_enter Tryd.func8, Tryd.ntmps8
  go_wp2_with (first
    | (go_at_call 9; refine HR.mono ?_; rintro e w1 ⟨rfl, hb1⟩)
    | (go_at_call 13; refine (draw33 _).mono ?_; rintro e w2 ⟨rfl, hb2⟩; replace hb2 := hb1.trans (hb2.mono hb1.size))
    | (go_at_call 11; refine (HO _).mono ?_; rintro e w3 ⟨rfl, hb3⟩; replace hb3 := hb2.trans (hb3.mono hb2.size))
    | (go_at_call 15; refine (HA _).mono ?_; rintro e w4 ⟨rfl, hb4⟩; replace hb4 := hb3.trans (hb4.mono hb3.size))
    | (go_at_call 18; refine (HM _).mono ?_; rintro e w5 ⟨rfl, -, hb5, -⟩; replace hb5 := hb4.trans (hb5.mono hb4.size)))
  go_ret
  exact ⟨rfl, hb5⟩
theorem below_drew2 {w w' : World} (h : ∃ k, w' = w.drewN k) : Below w.heap.size w w' := by
  obtain ⟨k, rfl⟩ := h
  exact below_drewN (Below.refl _ _)
set_option maxHeartbeats 1000000 in
set_option maxRecDepth 100000 in
theorem texts_walk (u : Nat) (hu : U u) (s : ByteArray) (w : World) (hE : Env w) :
    Calls Tryd.prog 3 #[.int .u64 (u : Int), .string s] w fun e w' => e = .returned (.bool true) ∧ Below w.heap.size w w' := by
  have HLV := lives_any w hE
  have HE : Hid (Env w) := hE
  clear hE
  have HT := fun W => of_any u hu W
  have HT2 := fun W => refOf_any u hu W
  obtain ⟨s2, hs2⟩ : ∃ s2, s.extract 0 (min (s.size : Int) 40).toNat = s2 := ⟨_, rfl⟩
  have hsz : s2.size ≤ 40 := by
    rw [← hs2, ByteArray.size_extract]
    omega
  obtain ⟨r, hr⟩ : ∃ r, (readT s2.data.toList).getD 0 = r := ⟨_, rfl⟩
  obtain ⟨b, hb⟩ : ∃ b, (readT s2.data.toList).isSome = b := ⟨_, rfl⟩
  have HRD := fun W h => read_any s2 r b (by omega) hr hb W h
  rw [readT_eq] at hr hb
  have HRF := fun W => refRead_any s2 r b hsz hr hb W
  clear hr hb hsz hu
  go_enter Tryd.func3, Tryd.ntmps3
  go_wp2_with (first
    | (go_at_call 8; refine HLV.mono ?_; rintro e w1 ⟨rfl, hb1⟩)
    | (go_at_call 9; refine (HRD _ (HE.out.below hb1)).mono ?_; rintro e w2 ⟨rfl, hb2⟩; replace hb2 := hb1.trans (hb2.mono hb1.size))
    | (go_at_call 10; refine (HRF _).mono ?_; rintro e w3 ⟨rfl, hw3⟩; have hb3 := hb2.trans ((below_drew2 hw3).mono hb2.size); clear hw3)
    | (go_at_call 11; refine (HT _).mono ?_; rintro e w4 ⟨rfl, hb4⟩; replace hb4 := hb3.trans (hb4.mono hb3.size))
    | (go_at_call 12; refine (HT2 _).mono ?_; rintro e w9 ⟨rfl, rfl⟩))
  go_ret
  exact ⟨rfl, hb4⟩
end Go.Proofs.YtlpnbgpbahlodaaDoor
