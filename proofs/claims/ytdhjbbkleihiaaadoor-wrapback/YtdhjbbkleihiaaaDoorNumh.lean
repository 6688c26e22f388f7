/-
  The walk of the statement WrapBack over this program.
-/
import Derived.Test.YtdhjbbkleihiaaaDoorNumf
import Derived.Sort.AtCall
namespace Go.Proofs.YtdhjbbkleihiaaaDoor
open Go Go.RowKit
set_option maxHeartbeats 2000000 in
set_option maxRecDepth 100000 in
theorem back_walk (a b : Int) (s : ByteArray) (ha : U a) (hb : U b) (hs : s.size ≤ 140737488355328) (w : World) (hE : Env w) :
    Calls Tryd.prog 5 #[.int .u32 a, .int .u32 b, .string s] w fun e w' => e = .returned (.bool true) ∧ Below w.heap.size w w' := by
  have HLV := lives_any w hE
  have HE : Hid (Env w) := hE
  clear hE
  have H1 := fun W => ahead_any a b ha hb W
  have H2 := fun W => ahead_any b a hb ha W
  have hnu := ahI_u a b
  have hmu := ahI_u b a
  have hab : addI a (ahI a b) = b := by unfold U at *; unfold addI ahI; omega
  have hba : addI b (-ahI a b) = a := by unfold U at *; unfold addI ahI; omega
  have hsum : IntKind.u32.wrap (ahI a b + ahI b a) = 0 ∨ a = b := by
    rw [IntKind.wrap_u32']
    unfold U at *
    unfold ahI
    omega
  have hn1 : N (ahI a b) := u_n hnu
  have hn2 : N (-ahI a b) := by unfold U at hnu; unfold N; omega
  have HA1 := fun W => add_any a (ahI a b) ha hn1 W
  have HA2 := fun W => add_any b (-ahI a b) hb hn2 W
  rw [hab] at HA1
  rw [hba] at HA2
  obtain ⟨u, rfl⟩ : ∃ u : Nat, a = u := ⟨a.toNat, by unfold U at ha; omega⟩
  have hu : u < 4294967296 := by unfold U at ha; omega
  have HT := fun W h => text_any u hu W h
  have hsz : (⟨(Lib.decDigits u).toArray⟩ : ByteArray).size ≤ 140737488355328 := by
    have := dec_len 9 u (by omega)
    simp [ByteArray.size]
    omega
  have HR := fun W h => read_some ⟨(Lib.decDigits u).toArray⟩ u (by simpa using readN_dec u hu) hsz W h
  have hn0 : 0 ≤ ahI u b := hnu.1
  have hn3 : ahI u b < 4294967296 := hnu.2
  have hm0 : 0 ≤ ahI b u := hmu.1
  have hm3 : ahI b u < 4294967296 := hmu.2
  generalize ahI u b = n at *
  generalize ahI b u = m at *
  clear hab hba hn1 hn2 hnu hmu hsz
  have hs2 : ((u : Int) == b) = true ∨ (((u : Int) == b) = false ∧ IntKind.u32.wrap (n + m) = 0) := by
    rcases hsum with h | h
    · cases hb : ((u : Int) == b)
      · exact Or.inr ⟨rfl, h⟩
      · exact Or.inl rfl
    · exact Or.inl (by rw [beq_iff_eq]; exact h)
  clear hsum
  have HM : IntKind.u32.wrap (n + m) = 0 → ∃ z, IntKind.u32.wrap (n + m) = z ∧ (z == 0) = true := fun h => ⟨_, rfl, by rw [h]; rfl⟩
  cases hr : readN s.data.toList with
  | none =>
    have HQ := fun W h => read_none s hr hs W h
    rcases hs2 with he | ⟨he, hz⟩
    · clear HM
      go_enter Tryd.func5, Tryd.ntmps5
      go_wp2_with (first
        | (go_at_call 9; refine HLV.mono ?_; rintro e w1 ⟨rfl, hb1⟩)
        | (go_at_call_of 12 (#[Value.int .u32 b, Value.int .u32 u] : Array Value); refine (H2 _).mono ?_; rintro e w9 ⟨rfl, rfl⟩)
        | (go_at_call 12; refine (H1 _).mono ?_; rintro e w9 ⟨rfl, rfl⟩)
        | (go_at_call_of 18 (Value.string s); refine (HQ _ (HE.out.below hb3)).mono ?_; rintro e w4 ⟨rfl, hb4⟩; replace hb4 := hb3.trans (hb4.mono hb3.size))
        | (go_at_call 18; refine (HR _ (HE.out.below hb2)).mono ?_; rintro e w3 ⟨rfl, hb3⟩; replace hb3 := hb2.trans (hb3.mono hb2.size))
        | (go_at_call 20; refine (HT _ (HE.out.below hb1).pow).mono ?_; rintro e w2 ⟨rfl, hb2⟩; replace hb2 := hb1.trans (hb2.mono hb1.size))
        | (go_at_call_of 10 (Value.int .i64 n); refine (HA1 _).mono ?_; rintro e w9 ⟨rfl, rfl⟩)
        | (go_at_call 10; refine (HA2 _).mono ?_; rintro e w9 ⟨rfl, rfl⟩))
      go_ret
      exact ⟨rfl, hb4⟩
    · obtain ⟨z, hz1, hz2⟩ := HM hz
      clear HM hz
      go_enter Tryd.func5, Tryd.ntmps5
      go_wp2_with (first
        | (go_at_call 9; refine HLV.mono ?_; rintro e w1 ⟨rfl, hb1⟩)
        | (go_at_call_of 12 (#[Value.int .u32 b, Value.int .u32 u] : Array Value); refine (H2 _).mono ?_; rintro e w9 ⟨rfl, rfl⟩)
        | (go_at_call 12; refine (H1 _).mono ?_; rintro e w9 ⟨rfl, rfl⟩)
        | (go_at_call_of 18 (Value.string s); refine (HQ _ (HE.out.below hb3)).mono ?_; rintro e w4 ⟨rfl, hb4⟩; replace hb4 := hb3.trans (hb4.mono hb3.size))
        | (go_at_call 18; refine (HR _ (HE.out.below hb2)).mono ?_; rintro e w3 ⟨rfl, hb3⟩; replace hb3 := hb2.trans (hb3.mono hb2.size))
        | (go_at_call 20; refine (HT _ (HE.out.below hb1).pow).mono ?_; rintro e w2 ⟨rfl, hb2⟩; replace hb2 := hb1.trans (hb2.mono hb1.size))
        | (go_at_call_of 10 (Value.int .i64 n); refine (HA1 _).mono ?_; rintro e w9 ⟨rfl, rfl⟩)
        | (go_at_call 10; refine (HA2 _).mono ?_; rintro e w9 ⟨rfl, rfl⟩))
      go_ret
      exact ⟨rfl, hb4⟩
  | some v =>
    obtain ⟨q1, q2, q3⟩ := readN_inv hr
    obtain rfl := bytes_ext q2.symm
    have HQ := fun W h => read_some _ v hr hs W h
    have HV := fun W h => text_any v q3 W h
    clear q1 q2 hr
    rcases hs2 with he | ⟨he, hz⟩
    · clear HM
      go_enter Tryd.func5, Tryd.ntmps5
      go_wp2_with (first
        | (go_at_call 9; refine HLV.mono ?_; rintro e w1 ⟨rfl, hb1⟩)
        | (go_at_call_of 12 (#[Value.int .u32 b, Value.int .u32 u] : Array Value); refine (H2 _).mono ?_; rintro e w9 ⟨rfl, rfl⟩)
        | (go_at_call 12; refine (H1 _).mono ?_; rintro e w9 ⟨rfl, rfl⟩)
        | (go_at_call_has 18 (Value.string (ByteArray.mk (Lib.decDigits v).toArray)); refine (HQ _ (HE.out.below hb3)).mono ?_; rintro e w4 ⟨rfl, hb4⟩; replace hb4 := hb3.trans (hb4.mono hb3.size))
        | (go_at_call 18; refine (HR _ (HE.out.below hb2)).mono ?_; rintro e w3 ⟨rfl, hb3⟩; replace hb3 := hb2.trans (hb3.mono hb2.size))
        | (go_at_call_has 20 (Value.int .u32 (v : Int)); refine (HV _ (HE.out.below hb4).pow).mono ?_; rintro e w5 ⟨rfl, hb5⟩; replace hb5 := hb4.trans (hb5.mono hb4.size))
        | (go_at_call 20; refine (HT _ (HE.out.below hb1).pow).mono ?_; rintro e w2 ⟨rfl, hb2⟩; replace hb2 := hb1.trans (hb2.mono hb1.size))
        | (go_at_call_of 10 (Value.int .i64 n); refine (HA1 _).mono ?_; rintro e w9 ⟨rfl, rfl⟩)
        | (go_at_call 10; refine (HA2 _).mono ?_; rintro e w9 ⟨rfl, rfl⟩))
      go_ret
      exact ⟨rfl, hb5⟩
    · obtain ⟨z, hz1, hz2⟩ := HM hz
      clear HM hz
      go_enter Tryd.func5, Tryd.ntmps5
      go_wp2_with (first
        | (go_at_call 9; refine HLV.mono ?_; rintro e w1 ⟨rfl, hb1⟩)
        | (go_at_call_of 12 (#[Value.int .u32 b, Value.int .u32 u] : Array Value); refine (H2 _).mono ?_; rintro e w9 ⟨rfl, rfl⟩)
        | (go_at_call 12; refine (H1 _).mono ?_; rintro e w9 ⟨rfl, rfl⟩)
        | (go_at_call_has 18 (Value.string (ByteArray.mk (Lib.decDigits v).toArray)); refine (HQ _ (HE.out.below hb3)).mono ?_; rintro e w4 ⟨rfl, hb4⟩; replace hb4 := hb3.trans (hb4.mono hb3.size))
        | (go_at_call 18; refine (HR _ (HE.out.below hb2)).mono ?_; rintro e w3 ⟨rfl, hb3⟩; replace hb3 := hb2.trans (hb3.mono hb2.size))
        | (go_at_call_has 20 (Value.int .u32 (v : Int)); refine (HV _ (HE.out.below hb4).pow).mono ?_; rintro e w5 ⟨rfl, hb5⟩; replace hb5 := hb4.trans (hb5.mono hb4.size))
        | (go_at_call 20; refine (HT _ (HE.out.below hb1).pow).mono ?_; rintro e w2 ⟨rfl, hb2⟩; replace hb2 := hb1.trans (hb2.mono hb1.size))
        | (go_at_call_of 10 (Value.int .i64 n); refine (HA1 _).mono ?_; rintro e w9 ⟨rfl, rfl⟩)
        | (go_at_call 10; refine (HA2 _).mono ?_; rintro e w9 ⟨rfl, rfl⟩))
      go_ret
      exact ⟨rfl, hb5⟩
end Go.Proofs.YtdhjbbkleihiaaaDoor
