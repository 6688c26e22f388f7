/-
  The contract of the document's Write.
-/
import Derived.Test.YteejehbgmkanpaaPqa
namespace Go.Proofs.Yteejehbgmkanpaa
open Go Go.RowKit
def Qp.wrote (p : Qp) (s : ByteArray) : Qp :=
  if p.lf < 0 then { p with out := p.out ++ s }
  else if (s.size : Int) ≤ p.lf then { p with out := p.out ++ s, lf := p.lf - s.size }
  else { p with out := p.out ++ s.extract 0 p.lf.toNat, lf := 0, bk := true }
def Qp.wrE (p : Qp) (s : ByteArray) : Int := if p.lf < 0 then 0 else if (s.size : Int) ≤ p.lf then 0 else 12
theorem qwrite_bad (q : Nat) (id : Int) (s : ByteArray) (w : World) (h : ¬ inR id) : Calls Try.prog 24 #[.pointer (some ⟨q, 0, none⟩), .int .i64 id, .string s] w fun e w' => e = .returned (.int .i64 1) ∧ w' = w := by
  have H := fun W => there_out id W h
  clear h
  go_enter Try.func24, Try.ntmps24
  go_wp2_with (go_at_call 30; refine (H w).mono ?_; rintro e w1 ⟨rfl, rfl⟩)
  go_ret
  exact ⟨rfl, rfl⟩
set_option maxHeartbeats 1000000 in
theorem qwrite_gone (q i : Nat) (s : ByteArray) (d : Nat → Qp) (w : World) (h : PqAt q d w) (hi : i < 16) (h1 : (d i).op = false ∨ (d i).bk = true) :
    Calls Try.prog 24 #[.pointer (some ⟨q, 0, none⟩), .int .i64 (i : Int), .string s] w fun e w' => e = .returned (.int .i64 12) ∧ w' = w := by
  have H := fun W => there_in (i : Int) W ⟨by omega, by omega⟩
  obtain ⟨k0, k1, _⟩ := h.cells hi
  have i0 : (0 : Int) ≤ (i : Int) := by omega
  have i1 : (i : Int) < 16 := by omega
  clear h
  by_cases h2 : (d i).op = false
  · rw [h2] at k0
    clear h1 h2 k1
    go_enter Try.func24, Try.ntmps24
    go_wp2_with (go_at_call 30; refine (H w).mono ?_; rintro e w1 ⟨rfl, rfl⟩)
    go_ret
    exact ⟨rfl, rfl⟩
  · rw [eq_true_of_ne_false h2] at k0
    rw [h1.resolve_left h2] at k1
    clear h1 h2
    go_enter Try.func24, Try.ntmps24
    go_wp2_with (go_at_call 30; refine (H w).mono ?_; rintro e w1 ⟨rfl, rfl⟩)
    go_ret
    exact ⟨rfl, rfl⟩
theorem ext_step {s : ByteArray} {j : Nat} (u : ByteArray) : u ++ s.extract 0 j ++ s.extract j (j + 1) = u ++ s.extract 0 (j + 1) := by
  rw [app_assoc]
  congr 1
  apply ba_ext
  rw [app_list, ext_list, ext_list]
  have e : (s.extract j (j + 1)).data.toList = (s.data.toList.drop j).take 1 := by
    simp
  rw [e, List.take_add]
theorem ext_zero (s : ByteArray) : s.extract 0 0 = ⟨#[]⟩ := by
  apply ba_ext
  rw [ext_list]
  exact List.take_zero
/-- Between two bytes of a Write. -/
def qMid (p : Qp) (s : ByteArray) (j : Nat) (z : Int) : Qp := { p with out := p.out ++ s.extract 0 j, lf := z }
theorem qmid_start (p : Qp) (s : ByteArray) : qMid p s 0 p.lf = p := by
  unfold qMid
  rw [ext_zero, app_nil]
theorem qmid_step {q : Nat} {d : Nat → Qp} {p : Qp} {s : ByteArray} {j i : Nat} {z : Int} {w w' : World} (h : PqAt q (upd d i (qMid p s j z)) w) (hi : i < 16)
    (hw : w' = w.setCell ⟨q, i * 4 + 3, none⟩ (.string (p.out ++ s.extract 0 j ++ s.extract j (j + 1)))) : Lq q (upd d i (qMid p s (j + 1) z)) w w' := by
  have a := h.lset hi 3 (by omega) (.string (p.out ++ s.extract 0 j ++ s.extract j (j + 1))) (qMid p s (j + 1) z) fun cs h => by
    rw [upd_self] at h
    rw [ext_step]
    exact h.out _
  rw [upd_upd] at a
  rw [hw]
  exact a
theorem qmid_left {q : Nat} {d : Nat → Qp} {p : Qp} {s : ByteArray} {j i : Nat} {z z' : Int} {w : World} (h : PqAt q (upd d i (qMid p s j z)) w) (hi : i < 16) :
    Lq q (upd d i (qMid p s j z')) w (w.setCell ⟨q, i * 4 + 2, none⟩ (.int .i64 z')) := by
  have a := h.lset hi 2 (by omega) (.int .i64 z') (qMid p s j z') fun cs h => by
    rw [upd_self] at h
    exact h.lf z'
  rw [upd_upd] at a
  exact a
theorem qmid_break {q : Nat} {d : Nat → Qp} {p : Qp} {s : ByteArray} {j i : Nat} {z : Int} {w : World} (h : PqAt q (upd d i (qMid p s j z)) w) (hi : i < 16) :
    Lq q (upd d i { qMid p s j z with bk := true }) w (w.setCell ⟨q, i * 4 + 1, none⟩ (.bool true)) := by
  have a := h.lset hi 1 (by omega) (.bool true) { qMid p s j z with bk := true } fun cs h => by
    rw [upd_self] at h
    exact h.bk true
  rw [upd_upd] at a
  exact a
set_option maxHeartbeats 2000000 in
theorem qwrite_free (q i : Nat) (s : ByteArray) (d : Nat → Qp) (w : World) (h : PqAt q d w) (hi : i < 16) (h1 : (d i).op = true) (h2 : (d i).bk = false) (h3 : (d i).lf < 0) (hs : s.size ≤ 100000) (ho : (d i).out.size ≤ 100000) :
    Calls Try.prog 24 #[.pointer (some ⟨q, 0, none⟩), .int .i64 (i : Int), .string s] w fun e w' => e = .returned (.int .i64 0) ∧ Lq q (upd d i { d i with out := (d i).out ++ s }) w w' := by
  have H := fun W => there_in (i : Int) W ⟨by omega, by omega⟩
  obtain ⟨k0, k1, k2, k3⟩ := h.cells hi
  rw [h1] at k0
  rw [h2] at k1
  have i0 : (0 : Int) ≤ (i : Int) := by omega
  have i1 : (i : Int) < 16 := by omega
  obtain ⟨p, hp⟩ : ∃ p, d i = p := ⟨_, rfl⟩
  have H0 : Hid (PqAt q (upd d i (qMid p s 0 p.lf)) w) := by
    show PqAt q (upd d i (qMid p s 0 p.lf)) w
    rw [qmid_start, ← hp, upd_same]
    exact h
  rw [hp] at h1 h2 h3 k2 k3 ho ⊢
  have HD : Hid (p.op = true ∧ p.bk = false) := ⟨h1, h2⟩
  obtain ⟨z, hz⟩ : ∃ z, p.lf = z := ⟨_, rfl⟩
  rw [hz] at H0 h3 k2
  have z1 : (z == 0) = false := by simp; omega
  have z2 : ¬ z = 0 := by omega
  have z3 : ¬ 0 < z := by omega
  have HF : Hid (qMid p s s.size z = { p with out := p.out ++ s }) := by
    show _ = _
    unfold qMid
    rw [ext_all (Nat.le_refl _), ← hz]
  clear h h1 h2 hp hz
  go_enter Try.func24, Try.ntmps24
  go_wp2_with (go_at_call 30; refine (H w).mono ?_; rintro e w1 ⟨rfl, rfl⟩)
  clear k0 k1 k2 k3
  go_loopw [7] (fun x wr => ∃ j : Nat, j ≤ s.size ∧ x = .int .i64 (j : Int) ∧ PqAt q (upd d i (qMid p s j z)) wr ∧ Fr [q] w1 wr) (fun x _ => s.size - (intOf x).toNat)
  case atStart => exact ⟨0, Nat.zero_le _, rfl, H0.out, Fr.refl _ _⟩
  case round =>
    obtain ⟨j, hj, rfl, hq, hf⟩ := hrel
    have HQ : Hid (PqAt q (upd d i (qMid p s j z)) wr) := hq
    have HFR : Hid (Fr [q] w1 wr) := hf
    by_cases hlt : j < s.size
    · obtain ⟨k0, k1, k2, k3⟩ := hq.cells hi
      rw [upd_self] at k0 k1 k2 k3
      have HS : Hid (Lq q (upd d i (qMid p s (j + 1) z)) wr (wr.setCell ⟨q, i * 4 + 3, none⟩ (.string (p.out ++ s.extract 0 j ++ s.extract j (j + 1))))) := qmid_step hq hi rfl
      have fz := hq.fz
      change _ = some (Value.int .i64 z) at k2
      change _ = some (Value.string (p.out ++ s.extract 0 j)) at k3
      obtain ⟨u, hu⟩ : ∃ u, p.out ++ s.extract 0 j = u := ⟨_, rfl⟩
      have hul : u.size ≤ 200000 := by
        rw [← hu, ByteArray.size_append]
        simp
        omega
      simp only [hu] at k3 HS
      obtain ⟨x, hx⟩ : ∃ x, s.extract j (j + 1) = x := ⟨_, rfl⟩
      have hxl : x.size ≤ 1 := by
        rw [← hx]
        simp
        omega
      simp only [hx] at HS
      have j0 : (j : Int) < (s.size : Int) := by omega
      have j1 : (0 : Int) ≤ (j : Int) := by omega
      have j2 : (j : Int) + 1 ≤ (s.size : Int) := by omega
      have j3 : (0 : Int) ≤ (j : Int) + 1 := by omega
      have j4 : (j : Int) ≤ (j : Int) + 1 := by omega
      have j5 : IntKind.i64.wrap ((j : Int) + 1) = (j : Int) + 1 := by simp only [IntKind.wrap_i64]; omega
      clear hq hf hlt k0 k1 hu H0
      go_wp2_with fail
      go_region
      all_goals (
        go_wp2_with fail
        go_roundw
        case rel => exact ⟨j + 1, by omega, by go_num, HS.out.1.alike rfl, Fr.trans HFR.out (Fr.alike HS.out.2 rfl rfl rfl rfl)⟩
        case measure => simp [intOf]; omega)
    · obtain rfl : j = s.size := by omega
      have hnl : ¬ (s.size : Int) < (s.size : Int) := by omega
      clear hq hf hlt
      go_wp2_with fail
      go_ret
      rw [← HF.out]
      exact ⟨rfl, HQ.out, HFR.out⟩
set_option maxHeartbeats 2000000 in
theorem qwrite_left (q i m k : Nat) (s : ByteArray) (d : Nat → Qp) (w : World) (h : PqAt q d w) (hi : i < 16) (h1 : (d i).op = true) (h2 : (d i).bk = false) (h3 : (d i).lf = (m : Int)) (E : Int) (b : Bool) (hk : min m s.size = k) (hE1 : k = s.size → E = 0 ∧ b = false) (hE2 : ¬ k = s.size → E = 12 ∧ b = true) (hm : m ≤ 9223372036854775807) (hs : s.size ≤ 100000) (ho : (d i).out.size ≤ 100000) :
    Calls Try.prog 24 #[.pointer (some ⟨q, 0, none⟩), .int .i64 (i : Int), .string s] w fun e w' => e = .returned (.int .i64 E) ∧ Lq q (upd d i { d i with out := (d i).out ++ s.extract 0 k, lf := ((m - k : Nat) : Int), bk := b }) w w' := by
  have H := fun W => there_in (i : Int) W ⟨by omega, by omega⟩
  obtain ⟨k0, k1, k2, k3⟩ := h.cells hi
  rw [h1] at k0
  rw [h2] at k1
  have i0 : (0 : Int) ≤ (i : Int) := by omega
  have i1 : (i : Int) < 16 := by omega
  obtain ⟨p, hp⟩ : ∃ p, d i = p := ⟨_, rfl⟩
  have H0 : Hid (PqAt q (upd d i (qMid p s 0 p.lf)) w) := by
    show PqAt q (upd d i (qMid p s 0 p.lf)) w
    rw [qmid_start, ← hp, upd_same]
    exact h
  rw [hp] at h1 h2 h3 k2 k3 ho ⊢
  have HD : Hid (p.op = true ∧ p.bk = false) := ⟨h1, h2⟩
  have H0' : Hid (PqAt q (upd d i (qMid p s 0 ((m - 0 : Nat) : Int))) w) := by
    have := H0.out
    rw [h3] at this
    exact this
  clear h h1 h2 hp H0
  go_enter Try.func24, Try.ntmps24
  go_wp2_with (go_at_call 30; refine (H w).mono ?_; rintro e w1 ⟨rfl, rfl⟩)
  clear k0 k1 k2 k3
  go_loopw [7] (fun x wr => ∃ j : Nat, j ≤ s.size ∧ x = .int .i64 (j : Int) ∧ j ≤ m ∧ PqAt q (upd d i (qMid p s j ((m - j : Nat) : Int))) wr ∧ Fr [q] w1 wr) (fun x _ => s.size - (intOf x).toNat)
  case atStart => exact ⟨0, Nat.zero_le _, rfl, Nat.zero_le _, H0'.out, Fr.refl _ _⟩
  case round =>
    obtain ⟨j, hj, rfl, hjm, hq, hf⟩ := hrel
    have HQ : Hid (PqAt q (upd d i (qMid p s j ((m - j : Nat) : Int))) wr) := hq
    have HFR : Hid (Fr [q] w1 wr) := hf
    by_cases hlt : j < s.size ∧ j < m
    · obtain ⟨k0, k1, k2, k3⟩ := hq.cells hi
      rw [upd_self] at k0 k1 k2 k3
      have HS : Hid (Lq q (upd d i (qMid p s (j + 1) ((m - (j + 1) : Nat) : Int))) wr ((wr.setCell ⟨q, i * 4 + 2, none⟩ (.int .i64 ((m - (j + 1) : Nat) : Int))).setCell ⟨q, i * 4 + 3, none⟩ (.string (p.out ++ s.extract 0 j ++ s.extract j (j + 1))))) := (qmid_left (z' := ((m - (j + 1) : Nat) : Int)) hq hi).trans (qmid_step (qmid_left hq hi).1 hi rfl)
      have fz := hq.fz
      change _ = some (Value.int .i64 ((m - j : Nat) : Int)) at k2
      change _ = some (Value.string (p.out ++ s.extract 0 j)) at k3
      obtain ⟨u, hu⟩ : ∃ u, p.out ++ s.extract 0 j = u := ⟨_, rfl⟩
      have hul : u.size ≤ 200000 := by
        rw [← hu, ByteArray.size_append]
        simp
        omega
      simp only [hu] at k3 HS
      obtain ⟨x, hx⟩ : ∃ x, s.extract j (j + 1) = x := ⟨_, rfl⟩
      have hxl : x.size ≤ 1 := by
        rw [← hx]
        simp
        omega
      simp only [hx] at HS
      have j0 : (j : Int) < (s.size : Int) := by omega
      have j1 : (0 : Int) ≤ (j : Int) := by omega
      have j2 : (j : Int) + 1 ≤ (s.size : Int) := by omega
      have j3 : (0 : Int) ≤ (j : Int) + 1 := by omega
      have j4 : (j : Int) ≤ (j : Int) + 1 := by omega
      obtain ⟨z, hz⟩ : ∃ z, ((m - j : Nat) : Int) = z := ⟨_, rfl⟩
      have z1 : (z == 0) = false := by simp; omega
      have z2 : ¬ z = 0 := by omega
      have z3 : 0 < z := by omega
      obtain ⟨z', hz'⟩ : ∃ z', ((m - (j + 1) : Nat) : Int) = z' := ⟨_, rfl⟩
      have z4 : IntKind.i64.wrap (z - 1) = z' := by simp only [IntKind.wrap_i64]; omega
      have j0' : j < s.size := hlt.1
      have jm' : j < m := hlt.2
      rw [hz] at k2
      simp only [hz'] at HS
      have HZ' : Hid (((m - (j + 1) : Nat) : Int) = z') := hz'
      have j5 : IntKind.i64.wrap ((j : Int) + 1) = (j : Int) + 1 := by simp only [IntKind.wrap_i64]; omega
      clear hq hf hlt k0 k1 hu H0' hz hz'
      go_wp2_with fail
      go_region
      all_goals (
        go_wp2_with fail
        go_region
        all_goals (
          go_wp2_with fail
          go_roundw
          case rel => exact ⟨j + 1, by omega, by go_num, by omega, by rw [HZ'.out]; exact HS.out.1.alike rfl, Fr.trans HFR.out (Fr.alike HS.out.2 rfl rfl rfl rfl)⟩
          case measure => simp [intOf]; omega))
    · by_cases hsz : j < s.size
      · obtain rfl : j = m := by omega
        obtain ⟨k0, k1, k2, k3⟩ := hq.cells hi
        rw [upd_self] at k0 k1 k2 k3
        have e0 : j - j = 0 := by omega
        change _ = some (Value.int .i64 ((j - j : Nat) : Int)) at k2
        rw [e0] at k2
        have HS : Hid (Lq q (upd d i { qMid p s j ((j - j : Nat) : Int) with bk := true }) wr (wr.setCell ⟨q, i * 4 + 1, none⟩ (.bool true))) := qmid_break hq hi
        have fz := hq.fz
        obtain rfl : k = j := by omega
        have hk2 : ¬ k = s.size := by omega
        have j0 : (k : Int) < (s.size : Int) := by omega
        obtain ⟨rfl, rfl⟩ := hE2 hk2
        clear hq hf hlt hsz k0 k3 hk e0 hk2 hE1 hE2
        go_wp2_with fail
        go_ret
        exact ⟨rfl, by have := HS.out.1; simpa [qMid] using this, HFR.out.trans HS.out.2⟩
      · obtain rfl : j = s.size := by omega
        have hnl : ¬ (s.size : Int) < (s.size : Int) := by omega
        obtain rfl : k = s.size := by omega
        have HE : Hid (qMid p s s.size ((m - s.size : Nat) : Int) = { p with out := p.out ++ s.extract 0 s.size, lf := ((m - s.size : Nat) : Int), bk := false }) := by
          show _ = _
          unfold qMid
          rw [← HD.out.2]
        obtain ⟨rfl, rfl⟩ := hE1 rfl
        clear hq hf hlt hsz hk hE1 hE2
        go_wp2_with fail
        go_ret
        exact ⟨rfl, by have := HQ.out; rw [HE.out, ext_all (Nat.le_refl _)] at this; exact this, HFR.out⟩
end Go.Proofs.Yteejehbgmkanpaa
