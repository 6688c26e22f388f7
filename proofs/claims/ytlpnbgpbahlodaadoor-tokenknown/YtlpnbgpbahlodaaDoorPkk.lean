/-
  Over this program: the walk of TokenBack.
-/
import Derived.Test.YtlpnbgpbahlodaaDoorPkj
namespace Go.Proofs.YtlpnbgpbahlodaaDoor
open Go Go.RowKit
theorem T_inj {a b : Nat} (ha : U a) (hb : U b) (h : T a = T b) : a = b := by
  have h1 : (T a).data.toList = (T b).data.toList := by rw [h]
  exact (tok_inj ha hb).1 (by simpa [T] using h1)
theorem T_size (a : Nat) : (T a).size = 13 := tokL_length 13 a
set_option maxHeartbeats 1000000 in
set_option maxRecDepth 100000 in
theorem back_walk (u1 u2 : Nat) (h1 : U u1) (h2 : U u2) (s : ByteArray) (hs : s.size ≤ 281474976710656) (w : World) (hE : Env w) :
    Calls Tryd.prog 5 #[.int .u64 (u1 : Int), .int .u64 (u2 : Int), .string s] w fun e w' => e = .returned (.bool true) ∧ Below w.heap.size w w' := by
  have HLV := lives_any w hE
  have HE : Hid (Env w) := hE
  obtain ⟨X1, hX1⟩ : ∃ X1, T u1 = X1 := ⟨_, rfl⟩
  obtain ⟨X2, hX2⟩ : ∃ X2, T u2 = X2 := ⟨_, rfl⟩
  have HO1 : ∀ W, Calls Tryd.prog 11 #[.int .u64 (u1 : Int)] W fun e w' => e = .returned (.string X1) ∧ Below W.heap.size W w' := fun W => by rw [← hX1]; exact of_any u1 h1 W
  have HO2 : ∀ W, Calls Tryd.prog 11 #[.int .u64 (u2 : Int)] W fun e w' => e = .returned (.string X2) ∧ Below W.heap.size W w' := fun W => by rw [← hX2]; exact of_any u2 h2 W
  have hz : X1.size = 13 := by rw [← hX1]; exact T_size u1
  have HZ : Hid (X1.size = 13) := hz
  have HR1 : ∀ W, Env W → Calls Tryd.prog 9 #[.string X1] W fun e w' => e = .returned (.tuple #[.int .u64 (u1 : Int), .bool true]) ∧ Below W.heap.size W w' := fun W hW => by
    rw [← hX1]
    exact read_any (T u1) u1 true (by rw [T_size]; omega) (by show (readT (tokL 13 u1)).getD 0 = u1; rw [readT_tok h1]; rfl) (by show (readT (tokL 13 u1)).isSome = true; rw [readT_tok h1]; rfl) W hW
  have hx12 : (u1 = u2 ∧ X1 = X2) ∨ (((u1 : Int) == (u2 : Int)) = false ∧ ¬ X1.toList = X2.toList ∧ (X1.toList == X2.toList) = false) := by
    by_cases e : u1 = u2
    · left; exact ⟨e, by rw [← hX1, ← hX2, e]⟩
    · right
      have hn : X1 ≠ X2 := fun h => e (T_inj h1 h2 (by rw [hX1, hX2, h]))
      exact ⟨by rw [beq_eq_false_iff_ne]; omega, ne_list hn, beq_eq_false_iff_ne.2 (ne_list hn)⟩
  obtain ⟨r, hr⟩ : ∃ r, (readT s.data.toList).getD 0 = r := ⟨_, rfl⟩
  obtain ⟨b, hb⟩ : ∃ b, (readT s.data.toList).isSome = b := ⟨_, rfl⟩
  have HRD := fun W h => read_any s r b hs hr hb W h
  have HO3 : b = true → ∀ W, Calls Tryd.prog 11 #[.int .u64 (r : Int)] W fun e w' => e = .returned (.string s) ∧ Below W.heap.size W w' := by
    intro e W
    cases hrt : readT s.data.toList with
    | none => rw [hrt] at hb; rw [e] at hb; cases hb
    | some u =>
      rw [hrt] at hr
      obtain rfl : u = r := hr
      obtain ⟨k1, k2⟩ := readT_some hrt
      have hss : s = T u := bytes_ext k1.symm
      rw [hss]
      exact of_any u k2 W
  clear hr hb hX1 hX2 hE h1 h2 hs
  rcases hx12 with ⟨rfl, rfl⟩ | ⟨hu, hx, hx'⟩
  · cases b with
    | true =>
      have HO4 := HO3 rfl
      clear HO3 HO2
      go_enter Tryd.func5, Tryd.ntmps5
      go_wp2_with (first
        | (go_at_call 8; refine HLV.mono ?_; rintro e w1 ⟨rfl, hb1⟩; have hbb := hb1)
        | (go_at_call_of 11 (#[Value.int .u64 (r : Int)] : Array Value); refine (HO4 _).mono ?_; rintro e w2 ⟨rfl, hb2⟩; replace hbb := hbb.trans (hb2.mono hbb.size); clear hb2)
        | (go_at_call_of 11 (#[Value.int .u64 (u1 : Int)] : Array Value); refine (HO1 _).mono ?_; rintro e w2 ⟨rfl, hb2⟩; replace hbb := hbb.trans (hb2.mono hbb.size); clear hb2)
        | (go_at_call_of 9 (#[Value.string X1] : Array Value); refine (HR1 _ (HE.out.below hbb)).mono ?_; rintro e w2 ⟨rfl, hb2⟩; replace hbb := hbb.trans (hb2.mono hbb.size); clear hb2)
        | (go_at_call_of 9 (#[Value.string s] : Array Value); refine (HRD _ (HE.out.below hbb)).mono ?_; rintro e w2 ⟨rfl, hb2⟩; replace hbb := hbb.trans (hb2.mono hbb.size); clear hb2))
      go_ret
      exact ⟨rfl, hbb⟩
    | false =>
      clear HO3 HO2
      go_enter Tryd.func5, Tryd.ntmps5
      go_wp2_with (first
        | (go_at_call 8; refine HLV.mono ?_; rintro e w1 ⟨rfl, hb1⟩; have hbb := hb1)
        | (go_at_call_of 11 (#[Value.int .u64 (u1 : Int)] : Array Value); refine (HO1 _).mono ?_; rintro e w2 ⟨rfl, hb2⟩; replace hbb := hbb.trans (hb2.mono hbb.size); clear hb2)
        | (go_at_call_of 9 (#[Value.string X1] : Array Value); refine (HR1 _ (HE.out.below hbb)).mono ?_; rintro e w2 ⟨rfl, hb2⟩; replace hbb := hbb.trans (hb2.mono hbb.size); clear hb2)
        | (go_at_call_of 9 (#[Value.string s] : Array Value); refine (HRD _ (HE.out.below hbb)).mono ?_; rintro e w2 ⟨rfl, hb2⟩; replace hbb := hbb.trans (hb2.mono hbb.size); clear hb2))
      go_ret
      exact ⟨rfl, hbb⟩
  · cases b with
    | true =>
      have HO4 := HO3 rfl
      clear HO3
      go_enter Tryd.func5, Tryd.ntmps5
      go_wp2_with (first
        | (go_at_call 8; refine HLV.mono ?_; rintro e w1 ⟨rfl, hb1⟩; have hbb := hb1)
        | (go_at_call_of 11 (#[Value.int .u64 (r : Int)] : Array Value); refine (HO4 _).mono ?_; rintro e w2 ⟨rfl, hb2⟩; replace hbb := hbb.trans (hb2.mono hbb.size); clear hb2)
        | (go_at_call_of 11 (#[Value.int .u64 (u1 : Int)] : Array Value); refine (HO1 _).mono ?_; rintro e w2 ⟨rfl, hb2⟩; replace hbb := hbb.trans (hb2.mono hbb.size); clear hb2)
        | (go_at_call_of 11 (#[Value.int .u64 (u2 : Int)] : Array Value); refine (HO2 _).mono ?_; rintro e w2 ⟨rfl, hb2⟩; replace hbb := hbb.trans (hb2.mono hbb.size); clear hb2)
        | (go_at_call_of 9 (#[Value.string X1] : Array Value); refine (HR1 _ (HE.out.below hbb)).mono ?_; rintro e w2 ⟨rfl, hb2⟩; replace hbb := hbb.trans (hb2.mono hbb.size); clear hb2)
        | (go_at_call_of 9 (#[Value.string s] : Array Value); refine (HRD _ (HE.out.below hbb)).mono ?_; rintro e w2 ⟨rfl, hb2⟩; replace hbb := hbb.trans (hb2.mono hbb.size); clear hb2))
      go_ret
      exact ⟨rfl, hbb⟩
    | false =>
      clear HO3
      go_enter Tryd.func5, Tryd.ntmps5
      go_wp2_with (first
        | (go_at_call 8; refine HLV.mono ?_; rintro e w1 ⟨rfl, hb1⟩; have hbb := hb1)
        | (go_at_call_of 11 (#[Value.int .u64 (u1 : Int)] : Array Value); refine (HO1 _).mono ?_; rintro e w2 ⟨rfl, hb2⟩; replace hbb := hbb.trans (hb2.mono hbb.size); clear hb2)
        | (go_at_call_of 11 (#[Value.int .u64 (u2 : Int)] : Array Value); refine (HO2 _).mono ?_; rintro e w2 ⟨rfl, hb2⟩; replace hbb := hbb.trans (hb2.mono hbb.size); clear hb2)
        | (go_at_call_of 9 (#[Value.string X1] : Array Value); refine (HR1 _ (HE.out.below hbb)).mono ?_; rintro e w2 ⟨rfl, hb2⟩; replace hbb := hbb.trans (hb2.mono hbb.size); clear hb2)
        | (go_at_call_of 9 (#[Value.string s] : Array Value); refine (HRD _ (HE.out.below hbb)).mono ?_; rintro e w2 ⟨rfl, hb2⟩; replace hbb := hbb.trans (hb2.mono hbb.size); clear hb2))
      go_ret
      exact ⟨rfl, hbb⟩
end Go.Proofs.YtlpnbgpbahlodaaDoor
