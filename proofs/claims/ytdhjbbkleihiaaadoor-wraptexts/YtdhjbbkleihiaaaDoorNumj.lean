/-
  Over this program: the document's own digits of a number, and its own number of a text.
-/
import Derived.Test.YtdhjbbkleihiaaaDoorNumf
namespace Go.Proofs.YtdhjbbkleihiaaaDoor
open Go Go.RowKit
theorem conv_one (c : Nat) (hc : c < 256) (x : Int) (hx : x = c) (W : World) (g : Nat) (h : W.cell? ⟨g, 0, none⟩ = some (.int .u8 x)) :
    (convert 47 9 (.slice (some ⟨g, 0, none⟩) 1 1)).run Tryd.prog W = .ok (.string ⟨#[UInt8.ofNat c]⟩) W := by
  have h1 := run_convert_bytes_back (P := Tryd.prog) W 47 9 5 ⟨g, 0, none⟩ 1 [UInt8.ofNat c] Tryd.underlying47 Tryd.underlying5 Tryd.underlying9 (fun j hj => by
    have : j = 0 := by simpa using hj
    subst this
    rw [Lib.add_plain]
    show W.cell? ⟨g, 0, none⟩ = _
    rw [h, hx]
    simp only [List.getElem_cons_zero, UInt8.toNat_ofNat']
    rw [Nat.mod_eq_of_lt (by omega)])
  exact h1
theorem cell_kept {W w1 : World} {c : Int} (h : Below (W.alloc (.cells #[.int .u8 c] 5)).heap.size (W.alloc (.cells #[.int .u8 c] 5)) w1) : w1.cell? ⟨W.heap.size, 0, none⟩ = some (.int .u8 c) := by
  have q0 : (W.alloc (.cells #[.int .u8 c] 5)).cell? ⟨W.heap.size, 0, none⟩ = some (.int .u8 c) := World.cell?_alloc_new _ _ _ _
  exact (h.cell (World.block_lt_of_cell? _ _ q0)).trans q0
set_option maxHeartbeats 2000000 in
set_option maxRecDepth 100000 in
theorem refText_small (u : Nat) (h10 : u < 10) (w : World) : Calls Tryd.prog 21 #[.int .u32 u] w fun e w' => e = .returned (.string ⟨(Lib.decDigits u).toArray⟩) ∧ Below w.heap.size w w' := by
  have i10 : (u : Int) < 10 := by omega
  have i0 : (0 : Int) ≤ u := Int.natCast_nonneg _
  rw [Lib.decDigits_one h10]
  have hcv := conv_one (48 + u) (by omega) (48 + (u : Int)) (by omega)
  generalize UInt8.ofNat (48 + u) = y at *
  go_enter Tryd.func21, Tryd.ntmps21
  go_wp2_with fail
  go_ret
  exact ⟨rfl, Joins.below_alloc1 w _⟩
set_option maxHeartbeats 2000000 in
set_option maxRecDepth 100000 in
theorem refText_any : ∀ (k u : Nat), u < 10 ^ (k + 1) → u < 4294967296 → ∀ w : World, Calls Tryd.prog 21 #[.int .u32 u] w fun e w' => e = .returned (.string ⟨(Lib.decDigits u).toArray⟩) ∧ Below w.heap.size w w' := by
  intro k
  induction k with
  | zero =>
    intro u hu _ w
    exact refText_small u (by simpa using hu) w
  | succ k ih =>
    intro u hu hu2 w
    by_cases h10 : u < 10
    · exact refText_small u h10 w
    · obtain ⟨q, hq⟩ : ∃ q, u / 10 = q := ⟨_, rfl⟩
      have H := ih q (by rw [Nat.pow_succ] at hu; omega) (by omega)
      have i10 : ¬ (u : Int) < 10 := by omega
      have i0 : (0 : Int) ≤ u := Int.natCast_nonneg _
      have i1 : (u : Int) < 4294967296 := by omega
      have hq1 : IntKind.u32.wrap ((u : Int) / 10) = (q : Int) := by rw [IntKind.wrap_u32']; omega
      obtain ⟨r, hr⟩ : ∃ r : Int, (u : Int) % 10 = r := ⟨_, rfl⟩
      have hr2 : (u : Int).tmod 10 = r := by rw [Int.tmod_eq_emod_of_nonneg i0]; exact hr
      obtain ⟨d, hd⟩ : ∃ d : Int, 48 + r = d := ⟨_, rfl⟩
      have hd1 : IntKind.u32.wrap (48 + r) = d := by rw [IntKind.wrap_u32']; omega
      obtain ⟨c, hc⟩ : ∃ c : Int, d = c := ⟨_, rfl⟩
      have hc1 : IntKind.u8.wrap d = c := by rw [IntKind.wrap_u8']; omega
      have hcv := conv_one (48 + u % 10) (by omega) c (by omega)
      have hdg : Lib.decDigits u = Lib.decDigits q ++ [UInt8.ofNat (48 + u % 10)] := by rw [Lib.decDigits, dif_neg h10, hq]
      have HD : Hid _ := hdg
      rw [hdg]
      have hlen : (Lib.decDigits q).length ≤ 10 := dec_len 9 q (by omega)
      clear hdg hq hr hd hc ih hu i0 i1
      generalize UInt8.ofNat (48 + u % 10) = y at *
      generalize Lib.decDigits q = l at *
      have hsum : ∀ W, (Op.stringOp .add ⟨l.toArray⟩ ⟨#[y]⟩).run Tryd.prog W = .ok (.string ⟨(l ++ [y]).toArray⟩) W := fun W =>
        (run_string_add_sum W _ _ (by show l.toArray.size + 1 ≤ _; rw [List.size_toArray]; omega)).trans (by rw [bytes_ext (s := (⟨l.toArray⟩ : ByteArray) ++ ⟨#[y]⟩) (l := l ++ [y]) (by simp [ByteArray.data_append])])
      obtain ⟨t, ht⟩ : ∃ t : ByteArray, ⟨(l ++ [y]).toArray⟩ = t := ⟨_, rfl⟩
      rw [ht] at hsum ⊢
      clear ht hlen
      go_enter Tryd.func21, Tryd.ntmps21
      go_wp2_with fail
      go_region_with (first | (go_at_call 21; refine (H _).mono ?_; rintro e w1 ⟨rfl, hb1⟩; first | (have hk : w1.cell? ⟨w.heap.size, 0, none⟩ = some (.int .u8 c) := cell_kept (W := w.drew) hb1) | skip))
      all_goals (
        go_wp2_with fail
        go_ret
        refine ⟨rfl, ?_⟩
        have hd0 : Below w.heap.size w w.drew := (Below.refl _ _).drew
        first
          | exact (hd0.trans hb1).alloc (hd0.trans hb1).size _
          | exact (hd0.alloc hd0.size _).trans (hb1.mono (hd0.alloc hd0.size _).size))
end Go.Proofs.YtdhjbbkleihiaaaDoor
