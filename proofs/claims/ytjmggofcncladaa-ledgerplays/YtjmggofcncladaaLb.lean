/-
  The contracts of the ledger's calls Send, Sent, Confirmed, Came, Open, Take over this program.
-/
import Derived.Test.YtjmggofcncladaaLa
namespace Go.Proofs.Ytjmggofcncladaa
open Go Go.RowKit
/-- What Send answers. -/
def sndE (n : Nat) (l : List ByteArray) : Int := if l.length < n then 0 else 13
theorem send_nil (s : ByteArray) (w : World) : Calls Try.prog 14 #[.pointer none, .string s] w fun e w' => e = .returned (.int .i64 1) ∧ w' = w := by
  go_enter Try.func14, Try.ntmps14
  go_wp2_with fail
  go_ret
  exact ⟨rfl, rfl⟩
set_option maxHeartbeats 400000 in
theorem send_ok (g r p n : Nat) (l : List ByteArray) (c k : Int) (s : ByteArray) (w : World) (h : LdAt g r p n l c k w) (hl : l.length < n) :
    Calls Try.prog 14 #[.pointer (some ⟨g, 0, none⟩), .string s] w fun e w' => e = .returned (.int .i64 0) ∧ LdAt g r p n (l ++ [s]) c k w' ∧ Fl g r p w w' := by
  have HH : Hid _ := h
  have c0 := h.hd.c0
  obtain ⟨f, hr⟩ := h.rg
  have HP := push_ok r p n f l s w hr hl
  clear h hr hl
  go_enter Try.func14, Try.ntmps14
  go_wp2_with (go_at_call 32; refine HP.mono ?_; rintro e w1 ⟨rfl, hr1, hf1⟩)
  go_ret
  exact ⟨rfl, HH.out.ring hr1 hf1, Fl.of_fz hf1⟩
set_option maxHeartbeats 400000 in
theorem send_full (g r p n : Nat) (l : List ByteArray) (c k : Int) (s : ByteArray) (w : World) (h : LdAt g r p n l c k w) (hl : l.length = n) :
    Calls Try.prog 14 #[.pointer (some ⟨g, 0, none⟩), .string s] w fun e w' => e = .returned (.int .i64 13) ∧ w' = w := by
  have c0 := h.hd.c0
  obtain ⟨f, hr⟩ := h.rg
  have HP := push_full r p n f l s w hr hl
  clear h hr hl
  go_enter Try.func14, Try.ntmps14
  go_wp2_with (go_at_call 32; refine HP.mono ?_; rintro e w1 ⟨rfl, rfl⟩)
  go_ret
  exact ⟨rfl, rfl⟩
theorem send_any (g r p n : Nat) (l : List ByteArray) (c k : Int) (s : ByteArray) (w : World) (h : LdAt g r p n l c k w) :
    Calls Try.prog 14 #[.pointer (some ⟨g, 0, none⟩), .string s] w fun e w' => e = .returned (.int .i64 (sndE n l)) ∧ LdAt g r p n (pushN n l s) c k w' ∧ Fl g r p w w' := by
  unfold sndE pushN
  by_cases hl : l.length < n
  · rw [if_pos hl, if_pos hl]
    exact send_ok g r p n l c k s w h hl
  · rw [if_neg hl, if_neg hl]
    have := h.ln.1
    refine (send_full g r p n l c k s w h (by omega)).mono fun e w' ⟨he, hw⟩ => ?_
    subst he hw
    exact ⟨rfl, h, Fl.refl _ _ _ _⟩
theorem sent_nil (w : World) : Calls Try.prog 25 #[.pointer none] w fun e w' => e = .returned (.int .u32 0) ∧ w' = w := by
  go_enter Try.func25, Try.ntmps25
  go_wp2_with fail
  go_ret
  exact ⟨rfl, rfl⟩
set_option maxHeartbeats 400000 in
theorem sent_any (g r p n : Nat) (l : List ByteArray) (c k : Int) (w : World) (h : LdAt g r p n l c k w) :
    Calls Try.prog 25 #[.pointer (some ⟨g, 0, none⟩)] w fun e w' => e = .returned (.int .u32 (addI c l.length)) ∧ ∃ m, w' = w.drewN m := by
  have c0 := h.hd.c0
  have c1 := h.hd.c1
  obtain ⟨f, hr⟩ := h.rg
  have hn := h.ln
  have HL := fun W hh => len_any r p n f l.length W hh
  have HA := fun W => add_any c l.length h.uc (by unfold N; omega) W
  have HH : Hid (HdAt r p n f l.length w) := hr.hd
  obtain ⟨C, hC⟩ : ∃ C, l.length = C := ⟨_, rfl⟩
  rw [hC] at HL HA HH ⊢
  obtain ⟨a, ha⟩ : ∃ a, addI c (C : Int) = a := ⟨_, rfl⟩
  rw [ha] at HA ⊢
  clear h hr hn hC ha
  go_enter Try.func25, Try.ntmps25
  go_wp2_with fail
  go_quiet (first | (go_at_call 37; refine Calls.quiet_of_same (HL _ ?_); exact HH.out) | (go_at_call 36; exact Calls.quiet_of_same (HA _)))
  go_wp2_with fail
  go_ret
  exact ⟨rfl, _, rfl⟩
theorem confd_nil (w : World) : Calls Try.prog 27 #[.pointer none] w fun e w' => e = .returned (.int .u32 0) ∧ w' = w := by
  go_enter Try.func27, Try.ntmps27
  go_wp2_with fail
  go_ret
  exact ⟨rfl, rfl⟩
theorem confd_any (g r : Nat) (c k : Int) (w : World) (h : LhAt g r c k w) :
    Calls Try.prog 27 #[.pointer (some ⟨g, 0, none⟩)] w fun e w' => e = .returned (.int .u32 c) ∧ w' = w := by
  have c1 := h.c1
  clear h
  go_enter Try.func27, Try.ntmps27
  go_wp2_with fail
  go_ret
  exact ⟨rfl, rfl⟩
theorem came_nil (w : World) : Calls Try.prog 28 #[.pointer none] w fun e w' => e = .returned (.int .u32 0) ∧ w' = w := by
  go_enter Try.func28, Try.ntmps28
  go_wp2_with fail
  go_ret
  exact ⟨rfl, rfl⟩
theorem came_any (g r : Nat) (c k : Int) (w : World) (h : LhAt g r c k w) :
    Calls Try.prog 28 #[.pointer (some ⟨g, 0, none⟩)] w fun e w' => e = .returned (.int .u32 k) ∧ w' = w := by
  have c2 := h.c2
  clear h
  go_enter Try.func28, Try.ntmps28
  go_wp2_with fail
  go_ret
  exact ⟨rfl, rfl⟩
theorem lopen_nil (w : World) : Calls Try.prog 29 #[.pointer none] w fun e w' => e = .returned (.slice none 0 0) ∧ w' = w := by
  go_enter Try.func29, Try.ntmps29
  go_wp2_with fail
  go_ret
  exact ⟨rfl, rfl⟩
theorem lopen_any (g r p n : Nat) (l : List ByteArray) (c k : Int) (w : World) (h : LdAt g r p n l c k w) :
    Calls Try.prog 29 #[.pointer (some ⟨g, 0, none⟩)] w fun e w' => TxRes w.heap.size l e w' ∧ Below w.heap.size w w' := by
  have c0 := h.hd.c0
  obtain ⟨f, hr⟩ := h.rg
  have HL := list_any r p n f l w hr
  clear h hr
  go_enter Try.func29, Try.ntmps29
  go_wp2_with (go_at_call 39; refine HL.mono ?_; rintro e w1 ⟨⟨ao, cap, rfl, ht⟩, hb⟩)
  go_ret
  exact ⟨⟨ao, cap, rfl, ht⟩, hb⟩
theorem ltake_nil (z : Int) (w : World) : Calls Try.prog 18 #[.pointer none, .int .i64 z] w fun e w' => e = .returned (.int .u32 0) ∧ w' = w := by
  go_enter Try.func18, Try.ntmps18
  go_wp2_with fail
  go_ret
  exact ⟨rfl, rfl⟩
set_option maxHeartbeats 400000 in
theorem ltake_any (g r p n : Nat) (l : List ByteArray) (c k z : Int) (hz : N z) (w : World) (h : LdAt g r p n l c k w) :
    Calls Try.prog 18 #[.pointer (some ⟨g, 0, none⟩), .int .i64 z] w fun e w' => e = .returned (.int .u32 (addI k (max z 0))) ∧ LdAt g r p n l c (addI k (max z 0)) w' ∧ Fl g r p w w' := by
  have HH : Hid _ := h
  have c2 := h.hd.c2
  have f2 := h.hd.fz 2
  obtain ⟨m, hm⟩ : ∃ m, max z 0 = m := ⟨_, rfl⟩
  have hm1 : (if z < 0 then (0 : Int) else z) = m := by split <;> omega
  have HA := fun W => add_any k m h.uk (by unfold N at *; omega) W
  rw [hm]
  obtain ⟨a, ha⟩ : ∃ a, addI k m = a := ⟨_, rfl⟩
  have HU : Hid (U a) := by rw [← ha]; exact addI_u _ _
  rw [ha] at HA ⊢
  clear h hm ha hz
  go_enter Try.func18, Try.ntmps18
  go_wp2_with (go_at_call 36; refine (HA _).mono ?_; rintro e w ⟨rfl, rfl⟩)
  go_ret
  exact ⟨rfl, HH.out.set2 HU.out, (Fl.refl _ _ _ w).setCell 2 _⟩
end Go.Proofs.Ytjmggofcncladaa
