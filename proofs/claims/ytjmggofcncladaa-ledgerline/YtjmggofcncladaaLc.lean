/-
  The contracts of the ledger's calls Confirm, Again, Undo over this program.
-/
import Derived.Test.YtjmggofcncladaaLb
namespace Go.Proofs.Ytjmggofcncladaa
open Go Go.RowKit
theorem conf_nil (h : Int) (w : World) : Calls Try.prog 16 #[.pointer none, .int .u32 h] w fun e w' => e = .returned (.tuple #[.int .i64 0, .int .i64 1]) ∧ w' = w := by
  go_enter Try.func16, Try.ntmps16
  go_wp2_with fail
  go_ret2
  exact ⟨rfl, rfl⟩
/-- Is it one of those from the confirmed one up to the sent one. -/
abbrev okC (h c : Int) (l : List ByteArray) : Prop := ahI c h ≤ l.length
theorem ah_add (c n : Int) (hn : U n) : ahI c (addI c n) = n := by unfold ahI addI U at *; omega
theorem wit_ok {h c : Int} {l : List ByteArray} (hl : l.length ≤ 64) : witI h c (addI c l.length) = decide (okC h c l) := by
  unfold witI okC
  rw [ah_add c _ (by unfold U; omega)]
set_option maxHeartbeats 1000000 in
theorem conf_ok (g r p n : Nat) (l : List ByteArray) (c k h : Int) (hu : U h) (w : World) (hh : LdAt g r p n l c k w) (ho : okC h c l) :
    Calls Try.prog 16 #[.pointer (some ⟨g, 0, none⟩), .int .u32 h] w fun e w' => e = .returned (.tuple #[.int .i64 (ahI c h), .int .i64 0]) ∧ LdAt g r p n (l.drop (ahI c h).toNat) h k w' ∧ Fl g r p w w' := by
  have HH : Hid _ := hh
  have c0 := hh.hd.c0
  have c1 := hh.hd.c1
  have hln := hh.ln
  obtain ⟨f, hr⟩ := hh.rg
  have HS := fun W (hW : LdAt g r p n l c k W) => sent_any g r p n l c k W hW
  have HW := fun W => within_any h c (addI c l.length) hu hh.uc (addI_u _ _) W
  simp only [wit_ok (h := h) (c := c) (l := l) (by omega), decide_eq_true ho] at HW
  have HA := fun W => ahead_any c h hh.uc hu W
  have hau := ahI_u c h
  unfold okC at ho
  obtain ⟨j, hj⟩ : ∃ j : Nat, ahI c h = (j : Int) := ⟨(ahI c h).toNat, by unfold U at hau; omega⟩
  rw [hj] at HA hau ho ⊢
  have hjt : ((j : Int)).toNat = j := by omega
  rw [hjt]
  have HD := fun W (hW : RgAt r p n f l W) => drop_ok r p n f l j W hW (by omega)
  obtain ⟨a, ha⟩ : ∃ a, addI c (l.length : Int) = a := ⟨_, rfl⟩
  simp only [ha] at HS HW
  have hw1 : IntKind.i64.wrap (j : Int) = (j : Int) := by simp only [IntKind.wrap_i64]; omega
  have HR : Hid (RgAt r p n f l w) := hr
  have HU : Hid (U h) := hu
  clear hh hr hj ha hln hau ho hu hjt
  go_enter Try.func16, Try.ntmps16
  go_wp2_with fail
  go_quiet (first | (go_at_call 25; refine Calls.quiet_of (HS _ ?_); exact HH.out.alike rfl) | (go_at_call 33; exact Calls.quiet_of_same (HW _)))
  go_wp2_with (first
    | (go_at_call 34; refine (HA _).mono ?_; rintro e w1 ⟨rfl, rfl⟩)
    | (go_at_call 35; refine (HD _ ?_).mono ?_; exact HR.out.keep rfl rfl; rintro e w2 ⟨rfl, hr2, hf2⟩
       have HL2 : Hid (LdAt g r p n (l.drop j) c k w2) := HH.out.ring hr2 ((Fz.refl r p w).drewN _ |>.trans hf2)
       have HF2 : Hid (Fl g r p w w2) := Fl.of_fz ((Fz.refl r p w).drewN _ |>.trans hf2)
       have d1 := HL2.out.hd.c1
       have f1 := HL2.out.hd.fz 1
       clear hr2 hf2))
  go_ret2
  exact ⟨rfl, HL2.out.set1 HU.out, HF2.out.setCell 1 _⟩
set_option maxHeartbeats 1000000 in
theorem conf_bad (g r p n : Nat) (l : List ByteArray) (c k h : Int) (hu : U h) (w : World) (hh : LdAt g r p n l c k w) (ho : ¬ okC h c l) :
    Calls Try.prog 16 #[.pointer (some ⟨g, 0, none⟩), .int .u32 h] w fun e w' => e = .returned (.tuple #[.int .i64 0, .int .i64 10]) ∧ ∃ m, w' = w.drewN m := by
  have HH : Hid _ := hh
  have c1 := hh.hd.c1
  have hln := hh.ln
  have HS := fun W (hW : LdAt g r p n l c k W) => sent_any g r p n l c k W hW
  have HW := fun W => within_any h c (addI c l.length) hu hh.uc (addI_u _ _) W
  simp only [wit_ok (h := h) (c := c) (l := l) (by omega), decide_eq_false ho] at HW
  obtain ⟨a, ha⟩ : ∃ a, addI c (l.length : Int) = a := ⟨_, rfl⟩
  simp only [ha] at HS HW
  clear hh ha hln ho hu
  go_enter Try.func16, Try.ntmps16
  go_wp2_with fail
  go_quiet (first | (go_at_call 25; refine Calls.quiet_of (HS _ ?_); exact HH.out.alike rfl) | (go_at_call 33; exact Calls.quiet_of_same (HW _)))
  go_wp2_with fail
  go_ret2
  exact ⟨rfl, _, rfl⟩
/-- Confirm: what it answers, the open texts and the confirmed number behind it. -/
def cfN (h c : Int) (l : List ByteArray) : Int := if okC h c l then ahI c h else 0
def cfE (h c : Int) (l : List ByteArray) : Int := if okC h c l then 0 else 10
def cfL (h c : Int) (l : List ByteArray) : List ByteArray := if okC h c l then l.drop (ahI c h).toNat else l
def cfC (h c : Int) (l : List ByteArray) : Int := if okC h c l then h else c
theorem conf_any (g r p n : Nat) (l : List ByteArray) (c k h : Int) (hu : U h) (w : World) (hh : LdAt g r p n l c k w) :
    Calls Try.prog 16 #[.pointer (some ⟨g, 0, none⟩), .int .u32 h] w fun e w' => e = .returned (.tuple #[.int .i64 (cfN h c l), .int .i64 (cfE h c l)]) ∧ LdAt g r p n (cfL h c l) (cfC h c l) k w' ∧ Fl g r p w w' := by
  unfold cfN cfE cfL cfC
  by_cases ho : okC h c l
  · simp only [if_pos ho]
    exact conf_ok g r p n l c k h hu w hh ho
  · simp only [if_neg ho]
    refine (conf_bad g r p n l c k h hu w hh ho).mono fun e w' ⟨he, m, hw⟩ => ?_
    subst he hw
    exact ⟨rfl, hh.alike rfl, (Fl.refl _ _ _ w).alike rfl rfl rfl rfl⟩
theorem again_nil (h : Int) (w : World) : Calls Try.prog 20 #[.pointer none, .int .u32 h] w fun e w' => e = .returned (.tuple #[.slice none 0 0, .int .i64 1]) ∧ w' = w := by
  go_enter Try.func20, Try.ntmps20
  go_wp2_with (go_at_call 16; refine (conf_nil _ _).mono ?_; rintro e w1 ⟨rfl, rfl⟩)
  go_ret2
  exact ⟨rfl, rfl⟩
theorem again_bad (g r p n : Nat) (l : List ByteArray) (c k h : Int) (hu : U h) (w : World) (hh : LdAt g r p n l c k w) (ho : ¬ okC h c l) :
    Calls Try.prog 20 #[.pointer (some ⟨g, 0, none⟩), .int .u32 h] w fun e w' => e = .returned (.tuple #[.slice none 0 0, .int .i64 10]) ∧ ∃ m, w' = w.drewN m := by
  have HC := conf_bad g r p n l c k h hu w hh ho
  clear hh ho hu
  go_enter Try.func20, Try.ntmps20
  go_wp2_with (go_at_call 16; refine HC.mono ?_; rintro e w1 ⟨rfl, m, rfl⟩)
  go_ret2
  exact ⟨rfl, _, rfl⟩
theorem again_ok (g r p n : Nat) (l : List ByteArray) (c k h : Int) (hu : U h) (w : World) (hh : LdAt g r p n l c k w) (ho : okC h c l) :
    Calls Try.prog 20 #[.pointer (some ⟨g, 0, none⟩), .int .u32 h] w fun e w' => (∃ ao cap, e = .returned (.tuple #[.slice ao (l.drop (ahI c h).toNat).length cap, .int .i64 0]) ∧ TxAt w.heap.size ao cap (l.drop (ahI c h).toNat) w') ∧ LdAt g r p n (l.drop (ahI c h).toNat) h k w' ∧ Fl g r p w w' := by
  have HC := conf_ok g r p n l c k h hu w hh ho
  obtain ⟨d, hd⟩ : ∃ d, l.drop (ahI c h).toNat = d := ⟨_, rfl⟩
  rw [hd] at HC ⊢
  obtain ⟨a, ha⟩ : ∃ a, ahI c h = a := ⟨_, rfl⟩
  rw [ha] at HC
  clear hh ho hu hd ha
  obtain ⟨D, hD⟩ : ∃ D, d.length = D := ⟨_, rfl⟩
  have HD : Hid _ := hD
  rw [hD]
  clear hD
  go_enter Try.func20, Try.ntmps20
  go_wp2_with (first
    | (go_at_call 16; refine HC.mono ?_; rintro e w1 ⟨rfl, hl1, hf1⟩)
    | (go_at_call 29; refine (lopen_any _ _ _ _ _ _ _ _ hl1).mono ?_; rintro e w2 ⟨⟨ao, cap, rfl, ht⟩, hb⟩; rw [HD.out]))
  go_ret2
  exact ⟨⟨ao, cap, rfl, ht.base hf1.1.size⟩, hl1.below hb, hf1.trans (Fl.of_below hb)⟩
theorem undo_nil (z : Int) (w : World) : Calls Try.prog 23 #[.pointer none, .int .i64 z] w fun e w' => e = .returned (.bool false) ∧ w' = w := by
  go_enter Try.func23, Try.ntmps23
  go_wp2_with fail
  go_ret
  exact ⟨rfl, rfl⟩
set_option maxHeartbeats 1000000 in
theorem undo_bad (g r p n : Nat) (l : List ByteArray) (c k z : Int) (w : World) (hh : LdAt g r p n l c k w) (hz : ¬ (0 ≤ z ∧ z ≤ l.length)) :
    Calls Try.prog 23 #[.pointer (some ⟨g, 0, none⟩), .int .i64 z] w fun e w' => e = .returned (.bool false) ∧ w' = w := by
  have c0 := hh.hd.c0
  obtain ⟨f, hr⟩ := hh.rg
  have HL := len_any r p n f l.length w hr.hd
  obtain ⟨C, hC⟩ : ∃ C, l.length = C := ⟨_, rfl⟩
  rw [hC] at HL hz
  clear hh hr hC
  by_cases k0 : z < 0
  · clear hz
    go_enter Try.func23, Try.ntmps23
    go_wp2_with fail
    go_ret
    exact ⟨rfl, rfl⟩
  · have k1 : (C : Int) < z := by omega
    clear hz
    go_enter Try.func23, Try.ntmps23
    go_wp2_with (go_at_call 37; refine HL.mono ?_; rintro e w ⟨rfl, rfl⟩)
    go_ret
    exact ⟨rfl, rfl⟩
set_option maxHeartbeats 1000000 in
theorem undo_ok (g r p n : Nat) (l : List ByteArray) (c k : Int) (j : Nat) (w : World) (hh : LdAt g r p n l c k w) (hj : j ≤ l.length) :
    Calls Try.prog 23 #[.pointer (some ⟨g, 0, none⟩), .int .i64 (j : Int)] w fun e w' => e = .returned (.bool true) ∧ LdAt g r p n (l.take (l.length - j)) c k w' ∧ Fl g r p w w' := by
  have HH : Hid _ := hh
  have c0 := hh.hd.c0
  have hln := hh.ln
  obtain ⟨f, hr⟩ := hh.rg
  have HL := fun W hW => len_any r p n f l.length W hW
  have HC := fun W hW => cut_any r p n f l ((l.length - j : Nat) : Int) W hW
  have ht : (((l.length - j : Nat) : Int)).toNat = l.length - j := by omega
  simp only [ht] at HC
  have HR : Hid _ := hr
  obtain ⟨C, hC⟩ : ∃ C, l.length = C := ⟨_, rfl⟩
  have EC : Hid _ := hC
  rw [hC] at hj hln
  simp only [hC] at HL HC ⊢
  obtain ⟨d, hd⟩ : ∃ d, C - j = d := ⟨_, rfl⟩
  simp only [hd] at HC ⊢
  have k0 : ¬ (j : Int) < 0 := by omega
  have k1 : ¬ (C : Int) < (j : Int) := by omega
  have hw1 : IntKind.i64.wrap ((C : Int) - (j : Int)) = (d : Int) := by simp only [IntKind.wrap_i64]; omega
  clear hh hr hC hd hln hj ht
  go_enter Try.func23, Try.ntmps23
  go_wp2_with (go_at_call 37; refine (HL _ ?_).mono ?_; (have := HR.out.hd; rw [EC.out] at this; exact this); rintro e w ⟨rfl, rfl⟩)
  go_region_with (first
    | (go_at_call 37; refine (HL _ ?_).mono ?_; (have := HR.out.hd; rw [EC.out] at this; exact this); rintro e w1 ⟨rfl, rfl⟩)
    | (go_at_call 38; refine (HC _ ?_).mono ?_; exact HR.out.keep rfl rfl; rintro e w2 ⟨⟨ao, cap, rfl, ht⟩, hr2, hf2⟩))
  all_goals (
    go_wp2_with fail
    go_ret
    have hf : Fz r p w w2 := (Fz.refl r p w).drew.trans hf2
    exact ⟨rfl, HH.out.ring hr2 hf, Fl.of_fz hf⟩)
/-- Undo: the open texts behind it. -/
def unL (z : Int) (l : List ByteArray) : List ByteArray := if 0 ≤ z ∧ z ≤ l.length then l.take (l.length - z.toNat) else l
theorem undo_any (g r p n : Nat) (l : List ByteArray) (c k z : Int) (w : World) (hh : LdAt g r p n l c k w) :
    Calls Try.prog 23 #[.pointer (some ⟨g, 0, none⟩), .int .i64 z] w fun e w' => e = .returned (.bool (decide (0 ≤ z ∧ z ≤ l.length))) ∧ LdAt g r p n (unL z l) c k w' ∧ Fl g r p w w' := by
  unfold unL
  by_cases hz : 0 ≤ z ∧ z ≤ l.length
  · rw [if_pos hz, decide_eq_true hz]
    obtain ⟨j, rfl⟩ : ∃ j : Nat, z = (j : Int) := ⟨z.toNat, by omega⟩
    exact undo_ok g r p n l c k j w hh (by omega)
  · rw [if_neg hz, decide_eq_false hz]
    refine (undo_bad g r p n l c k z w hh hz).mono fun e w' ⟨he, hw⟩ => ?_
    subst he hw
    exact ⟨rfl, hh, Fl.refl _ _ _ _⟩
end Go.Proofs.Ytjmggofcncladaa
