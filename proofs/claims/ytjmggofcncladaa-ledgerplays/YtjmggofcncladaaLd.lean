/-
  The statements' own first look (lives), and the walk of the statement LedgerNil over this program.
-/
import Derived.Test.YtjmggofcncladaaLc
namespace Go.Proofs.Ytjmggofcncladaa
open Go Go.RowKit
set_option maxHeartbeats 1000000 in
theorem lives_any (w : World) : Calls Try.prog 8 #[] w fun e w' => e = .returned (.bool true) ∧ Below w.heap.size w w' := by
  have HS : ∀ g r p n k W, LdAt g r p n [⟨#[98]⟩] 0 k W → Calls Try.prog 25 #[.pointer (some ⟨g, 0, none⟩)] W fun e w' => e = .returned (.int .u32 1) ∧ ∃ m, w' = W.drewN m := fun g r p n k W h => sent_any g r p n _ _ _ W h
  have HT : ∀ g r p n l c W, LdAt g r p n l c 4294967295 W → Calls Try.prog 18 #[.pointer (some ⟨g, 0, none⟩), .int .i64 2] W fun e w' => e = .returned (.int .u32 1) ∧ LdAt g r p n l c 1 w' ∧ Fl g r p W w' := fun g r p n l c W h => ltake_any g r p n l c _ 2 ⟨by decide, by decide⟩ W h
  have HC : ∀ g r p n a b k W, LdAt g r p n [a, b] 4294967295 k W → Calls Try.prog 16 #[.pointer (some ⟨g, 0, none⟩), .int .u32 0] W fun e w' => e = .returned (.tuple #[.int .i64 1, .int .i64 0]) ∧ LdAt g r p n [b] 0 k w' ∧ Fl g r p W w' := fun g r p n a b k W h => conf_ok g r p n _ _ _ 0 ⟨by decide, by decide⟩ W h (by show ahI 4294967295 0 ≤ (2 : Int); decide)
  go_enter Try.func8, Try.ntmps8
  go_wp2_with (first
    | (go_at_call 9; refine (lnew_any _ _ ⟨by decide, by decide⟩ _).mono ?_; rintro e w1 ⟨rfl, hr1, _, hb1⟩)
    | (go_at_call_of 14 (Value.string ⟨#[97]⟩); refine (send_ok _ _ _ _ _ _ _ _ _ hr1 (by decide)).mono ?_; rintro e w2 ⟨rfl, hr2, hf2⟩)
    | (go_at_call_of 14 (Value.string ⟨#[98]⟩); refine (send_ok _ _ _ _ _ _ _ _ _ hr2 (by decide)).mono ?_; rintro e w3 ⟨rfl, hr3, hf3⟩)
    | (go_at_call 16; refine (HC _ _ _ _ _ _ _ _ hr3).mono ?_; rintro e w4 ⟨rfl, hr4, hf4⟩)
    | (go_at_call 25; refine (HS _ _ _ _ _ _ hr4).mono ?_; rintro e w5 ⟨rfl, mm, rfl⟩)
    | (go_at_call 27; refine (confd_any _ _ _ _ _ (LdAt.hd (w := w4.drewN mm) (hr4.alike rfl))).mono ?_; rintro e w6 ⟨rfl, rfl⟩)
    | (go_at_call 29; refine (lopen_any _ _ _ _ _ _ _ (w4.drewN mm) (hr4.alike rfl)).mono ?_; rintro e w6 ⟨⟨ao, cap, rfl, ht⟩, hb6'⟩; have hb6 : Below w4.heap.size w4 w6 := below_drewN (Below.refl _ _) |>.trans hb6')
    | (go_at_call 21; refine (same_any _ _ _ _ [⟨#[98]⟩] _ ?_ ?_ (by decide)).mono ?_; exact (RowS.below (l := [⟨#[98]⟩]) ht.row ((Below.refl _ w6).alloc (Nat.le_refl _) _)); exact row_block (heap_alloc_new w6 _) one_cell; rintro e w7 ⟨rfl, m7, rfl⟩)
    | (go_at_call 18; refine (HT (w.heap.size + 2) (w.heap.size + 1) w.heap.size (nz 3) [⟨#[98]⟩] 0 _ ?_).mono ?_; exact ((hr4.below hb6).below ((Below.refl _ w6).alloc (Nat.le_refl _) _)).alike rfl; rintro e w8 ⟨rfl, hr8, hf8⟩))
  go_ret
  refine ⟨rfl, ?_⟩
  have s1 := hb1.size
  have s2 := hf2.1.size
  have s3 := hf3.1.size
  have s4 := hf4.1.size
  have s6 := hb6.size
  have b4 : Below w.heap.size w w4 := ((hb1.trans (hf2.below s1 (by omega) (by omega) (by omega))).trans (hf3.below (by omega) (by omega) (by omega) (by omega))).trans (hf4.below (by omega) (by omega) (by omega) (by omega))
  have b7 := below_drewN (k := m7) ((b4.trans (hb6.mono (by omega))).alloc (by omega) (.cells #[Value.string ⟨#[98]⟩] 9))
  exact b7.trans (hf8.below b7.size (by omega) (by omega) (by omega))
set_option maxHeartbeats 1000000 in
theorem nil_walk (z h : Int) (s : ByteArray) (w : World) : Calls Try.prog 6 #[.int .i64 z, .int .u32 h, .string s] w fun e w' => e = .returned (.bool true) ∧ Below w.heap.size w w' := by
  go_enter Try.func6, Try.ntmps6
  go_wp2_with (first
    | (go_at_call 8; refine (lives_any _).mono ?_; rintro e w1 ⟨rfl, hb1⟩)
    | (go_at_call 16; refine (conf_nil _ _).mono ?_; rintro e w1 ⟨rfl, rfl⟩)
    | (go_at_call 20; refine (again_nil _ _).mono ?_; rintro e w1 ⟨rfl, rfl⟩)
    | (go_at_call 14; refine (send_nil _ _).mono ?_; rintro e w1 ⟨rfl, rfl⟩)
    | (go_at_call 18; refine (ltake_nil _ _).mono ?_; rintro e w1 ⟨rfl, rfl⟩)
    | (go_at_call 25; refine (sent_nil _).mono ?_; rintro e w1 ⟨rfl, rfl⟩)
    | (go_at_call 27; refine (confd_nil _).mono ?_; rintro e w1 ⟨rfl, rfl⟩)
    | (go_at_call 28; refine (came_nil _).mono ?_; rintro e w1 ⟨rfl, rfl⟩)
    | (go_at_call 29; refine (lopen_nil _).mono ?_; rintro e w1 ⟨rfl, rfl⟩)
    | (go_at_call 23; refine (undo_nil _ _).mono ?_; rintro e w1 ⟨rfl, rfl⟩))
  go_ret
  exact ⟨rfl, hb1⟩
end Go.Proofs.Ytjmggofcncladaa
