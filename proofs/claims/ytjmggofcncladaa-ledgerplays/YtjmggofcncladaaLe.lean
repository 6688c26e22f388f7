/-
  The walk of the statement LedgerOver over this program.
-/
import Derived.Test.YtjmggofcncladaaLd
namespace Go.Proofs.Ytjmggofcncladaa
open Go Go.RowKit
theorem ah_add1 (s : Int) : ahI s (addI s 1) = 1 := by unfold ahI addI; omega
theorem ah_back (s : Int) : ahI (addI s 1) s = 4294967295 := by unfold ahI addI; omega
theorem add_add1 (s : Int) (n : Nat) : addI (addI s 1) n = addI s ((n + 1 : Nat) : Int) := by unfold addI; omega
theorem len_turn {l : List ByteArray} {j : Nat} (h : l.length = j) (h1 : 1 ≤ j) (s : ByteArray) : (l.drop 1 ++ [s]).length = j := by
  rw [List.length_append, List.length_drop, h]
  show j - 1 + 1 = j
  omega
set_option maxHeartbeats 1000000 in
theorem over_walk (z s : Int) (hs : U s) (w : World) : Calls Try.prog 5 #[.int .i64 z, .int .u32 s] w fun e w' => e = .returned (.bool true) ∧ Below w.heap.size w w' := by
  obtain ⟨k, hk⟩ : ∃ k : Nat, (IntKind.u64.wrap z).tmod 64 = (k : Int) := ⟨((IntKind.u64.wrap z).tmod 64).toNat, by rw [IntKind.wrap_u64, Int.tmod_eq_emod_of_nonneg (by omega)]; omega⟩
  have hk6 : k < 64 := by rw [IntKind.wrap_u64, Int.tmod_eq_emod_of_nonneg (by omega)] at hk; omega
  have hw1 : IntKind.i64.wrap (k : Int) = (k : Int) := by simp only [IntKind.wrap_i64]; omega
  obtain ⟨P, hP⟩ : ∃ P, k + 1 = P := ⟨_, rfl⟩
  have hw2 : IntKind.i64.wrap (1 + (k : Int)) = (P : Int) := by simp only [IntKind.wrap_i64]; omega
  have hw3 : IntKind.i64.wrap ((P : Int) + 1) = ((P + 1 : Nat) : Int) := by simp only [IntKind.wrap_i64]; omega
  have hnz : nz (P : Int) = P := by unfold nz; omega
  have hP1 : 1 ≤ P := by omega
  have hP6 : P ≤ 64 := by omega
  have HU : Hid (U s) := hs
  have HA1 := fun W => refAdd_any s 1 hs ⟨by decide, by decide⟩ W
  have HA2 := fun W => refAdd_any s ((P + 1 : Nat) : Int) hs (by unfold N; omega) W
  obtain ⟨P1, hP1'⟩ : ∃ P1, P + 1 = P1 := ⟨_, rfl⟩
  have HE : Hid (addI (addI s 1) P = addI s (P1 : Int)) := by rw [← hP1']; exact add_add1 s P
  rw [hP1'] at hw3 HA2
  obtain ⟨a1, ha1⟩ : ∃ a1, addI s 1 = a1 := ⟨_, rfl⟩
  obtain ⟨a2, ha2⟩ : ∃ a2, addI s (P1 : Int) = a2 := ⟨_, rfl⟩
  have h1 : ahI s a1 = 1 := by rw [← ha1]; exact ah_add1 s
  have h2 : ahI a1 s = 4294967295 := by rw [← ha1]; exact ah_back s
  have hu1 : U a1 := by rw [← ha1]; exact addI_u _ _
  rw [ha1, ha2] at HE
  rw [ha1] at HA1
  rw [ha2] at HA2
  have HNEW := fun W => lnew_any (P : Int) s hs W
  rw [hnz] at HNEW
  have HC1 : ∀ g r p l kk W, 1 ≤ l.length → LdAt g r p P l s kk W → Calls Try.prog 16 #[.pointer (some ⟨g, 0, none⟩), .int .u32 a1] W fun e w' => e = .returned (.tuple #[.int .i64 1, .int .i64 0]) ∧ LdAt g r p P (l.drop 1) a1 kk w' ∧ Fl g r p W w' := fun g r p l kk W hl hW => by
    have := conf_ok g r p P l s kk a1 hu1 W hW (by unfold okC; rw [h1]; omega)
    rw [h1] at this
    exact this
  have HC2 : ∀ g r p l kk W, LdAt g r p P l a1 kk W → Calls Try.prog 16 #[.pointer (some ⟨g, 0, none⟩), .int .u32 s] W fun e w' => e = .returned (.tuple #[.int .i64 0, .int .i64 10]) ∧ ∃ m, w' = W.drewN m := fun g r p l kk W hW => conf_bad g r p P l a1 kk s hs W hW (by unfold okC; rw [h2]; have := hW.ln; omega)
  have HS : ∀ g r p l kk W, l.length = P → LdAt g r p P l a1 kk W → Calls Try.prog 25 #[.pointer (some ⟨g, 0, none⟩)] W fun e w' => e = .returned (.int .u32 a2) ∧ ∃ m, w' = W.drewN m := fun g r p l kk W hl hW => by
    have := sent_any g r p P l a1 kk W hW
    rw [hl, HE.out] at this
    exact this
  have hne : ¬ s = a1 := by intro e; rw [← e] at h1; unfold ahI at h1; omega
  have HNE : Hid _ := hne
  clear hP ha1 ha2 h1 h2 hnz hP1' hs hu1 hk6 hne
  go_enter Try.func5, Try.ntmps5
  go_wp2_with (first
    | (go_at_call 8; refine (lives_any _).mono ?_; rintro e w1 ⟨rfl, hb1⟩)
    | (go_at_call 9; refine (HNEW _).mono ?_; rintro e w2 ⟨rfl, hr2, hs2', hb2⟩; have hs2 : Hid _ := hs2'; clear hs2'))
  have s1 := hb1.size
  have HR2 : Hid _ := hr2
  have HB2 : Hid (Below w.heap.size w w2) := hb1.trans (hb2.mono hb1.size)
  obtain ⟨p, hp⟩ : ∃ p, w1.heap.size = p := ⟨_, rfl⟩
  obtain ⟨r, hr⟩ : ∃ r, p + 1 = r := ⟨_, rfl⟩
  obtain ⟨g, hg⟩ : ∃ g, p + 2 = g := ⟨_, rfl⟩
  rw [hp, hr, hg] at HR2
  rw [hp, hg]
  have q1 : w.heap.size ≤ p := by omega
  have q2 : w.heap.size ≤ r := by omega
  have q3 : w.heap.size ≤ g := by omega
  clear hr2 hb1 hb2 hp hr hg hs2 s1
  go_loopw [6] (fun i wr => ∃ j : Nat, j ≤ P ∧ i = .int .i64 (j : Int) ∧ (∃ l, List.length l = j ∧ LdAt g r p P l s s wr) ∧ w.heap.size ≤ wr.heap.size ∧ Below w.heap.size w wr) (fun i _ => P - (intOf i).toNat)
  case atStart => exact ⟨0, Nat.zero_le _, rfl, ⟨[], rfl, HR2.out⟩, HB2.out.size, HB2.out⟩
  case round =>
    obtain ⟨j, hj, rfl, ⟨l, hl, hld⟩, hsz, hbw⟩ := hrel
    have HLD : Hid _ := hld
    have HL : Hid _ := hl
    have HBW : Hid (Below w.heap.size w wr) := hbw
    clear hld hl hbw
    by_cases hlt : j < P
    · have hlt' : (j : Int) < (P : Int) := by omega
      go_wp2_with (go_at_call 14; refine (send_ok _ _ _ _ _ _ _ _ _ HLD.out (by rw [HL.out]; exact hlt)).mono ?_; rintro e w3 ⟨rfl, hr3, hf3⟩)
      go_roundw
      case rel => exact ⟨j + 1, by omega, by go_num, ⟨_, by rw [List.length_append, HL.out]; rfl, hr3⟩, Nat.le_trans hsz hf3.1.size, HBW.out.trans (hf3.below hsz q3 q2 q1)⟩
      case measure => simp [intOf]; omega
    · obtain rfl : j = P := by omega
      have hnl : ¬ (j : Int) < (j : Int) := by omega
      go_wp2_with (first
        | (go_at_call_of 14 (Value.string ⟨#[121]⟩); refine (send_full _ _ _ _ _ _ _ _ _ HLD.out HL.out).mono ?_; rintro e wr ⟨rfl, rfl⟩)
        | (go_at_call_of 30 (Value.int .i64 1); refine (HA1 _).mono ?_; rintro e wr ⟨rfl, rfl⟩)
        | (go_at_call_of 16 (Value.int .u32 a1); refine (HC1 _ _ _ _ _ _ (by rw [HL.out]; exact hP1) HLD.out).mono ?_; rintro e w4 ⟨rfl, hr4, hf4⟩)
        | (go_at_call_of 14 (Value.string ⟨#[122]⟩); refine (send_ok _ _ _ _ _ _ _ _ _ hr4 (by rw [List.length_drop, HL.out]; omega)).mono ?_; rintro e w5 ⟨rfl, hr5, hf5⟩; have HD5 : Hid ((l.drop 1 ++ ([⟨#[122]⟩] : List ByteArray)).length = j) := len_turn HL.out hP1 _)
        | (go_at_call_of 16 (Value.int .u32 s); refine (HC2 _ _ _ _ _ _ hr5).mono ?_; rintro e w6 ⟨rfl, m6, rfl⟩)
        | (go_at_call 25; refine (HS _ _ _ _ _ (w5.drewN m6) HD5.out (hr5.alike rfl)).mono ?_; rintro e w7 ⟨rfl, m7, rfl⟩)
        | (go_at_call 30; refine (HA2 _).mono ?_; rintro e w7 ⟨rfl, rfl⟩)
        | (go_at_call 29; refine (lopen_any _ _ _ _ _ _ _ (w5.drewN (m6 + m7)) (hr5.alike rfl)).mono ?_; rintro e w8 ⟨⟨ao, cap, rfl, ht⟩, hb8'⟩; rw [HD5.out]; have hb8 : Below w5.heap.size w5 w8 := below_drewN (Below.refl _ _) |>.trans hb8'))
      go_ret
      refine ⟨rfl, ?_⟩
      have s4 := hf4.1.size
      have s5 := hf5.1.size
      exact ((HBW.out.trans (hf4.below hsz q3 q2 q1)).trans (hf5.below (by omega) q3 q2 q1)).trans (hb8.mono (by omega))
end Go.Proofs.Ytjmggofcncladaa
