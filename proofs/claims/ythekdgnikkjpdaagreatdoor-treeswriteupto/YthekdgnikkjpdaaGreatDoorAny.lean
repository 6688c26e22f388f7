/-
  The contracts of strings.IndexRune (at a rune past the first 128) and strings.IndexAny over this program, at the chars of the four blanks: for every string.
-/
import Derived.Test.YthekdgnikkjpdaaGreatDoorTrim
import Derived.Deep.QuietTactic
import Derived.BigQuiet
import Derived.WalkMore
namespace Go.Proofs.YthekdgnikkjpdaaGreatDoor
open Go.RowKit
theorem belowN (w : World) (n : Nat) : Below w.heap.size w (w.drewN n) := ⟨rfl, rfl, rfl, Nat.le_refl _, fun _ _ => rfl⟩
theorem valid_bool (r : Int) (w : World) : ∃ b : Bool, Calls Tryz.prog 96 #[.int .i32 r] w fun e w' => e = .returned (.bool b) ∧ w' = w := ⟨_, Tryz.utf8_ValidRune r w⟩
theorem ofNat_high (c : Nat) : 128 ≤ (UInt8.ofNat (0x80 + c % 64)).toNat := by
  simp
  omega
theorem enc_high (r : Int) (h : 128 ≤ r) : ∃ a b c y : UInt8, 128 ≤ y.toNat ∧ (Utf8.encode r = ⟨#[a, y]⟩ ∨ Utf8.encode r = ⟨#[a, b, y]⟩ ∨ Utf8.encode r = ⟨#[a, b, c, y]⟩) := by
  unfold Utf8.encode
  by_cases hv : Utf8.valid r = true
  · simp only [hv, if_true]
    rw [if_neg (by omega)]
    split
    · exact ⟨_, 0, 0, _, ofNat_high _, .inl rfl⟩
    · split
      · exact ⟨_, _, 0, _, ofNat_high _, .inr (.inl rfl)⟩
      · exact ⟨_, _, _, _, ofNat_high _, .inr (.inr rfl)⟩
  · simp only [hv]
    exact ⟨_, _, 0, _, ofNat_high _, .inr (.inl rfl)⟩
theorem not_index (l : List UInt8) (hl : ∀ b ∈ l, b.toNat < 128) (y : UInt8) (hy : 128 ≤ y.toNat) : Lib.indexByte l y = -1 := by
  induction l with
  | nil => rfl
  | cons b l ih =>
    have h1 := hl b (.head _)
    have h2 : (b == y) = false := by
      simp
      intro e
      rw [e] at h1
      omega
    have h3 := ih fun x hx => hl x (.tail _ hx)
    simp [Lib.indexByte, h2, h3]
set_option maxHeartbeats 2000000 in
set_option maxRecDepth 100000 in
theorem indexRune_two (r : Int) (w : World) (h0 : 128 ≤ r) (e1 : (r == 65533) = false) (a y : UInt8) (hy : 128 ≤ y.toNat) (hE : Utf8.encode r = ⟨#[a, y]⟩) :
    Calls Tryz.prog 89 #[.string blanks, .int .i32 r] w fun e w' => e = .returned (.int .i64 (-1)) ∧ Below w.heap.size w w' := by
  obtain ⟨v, hv⟩ := valid_bool r w
  have hne : ((((⟨#[32, 9, 10, 13]⟩ : ByteArray)[1]'(by decide)).toNat : Int) != (((⟨#[a, y]⟩ : ByteArray)[1]'(Nat.lt_succ_self 1)).toNat : Int)) = true := by
    show ((9 : Int) != (y.toNat : Int)) = true
    simp
    omega
  have hix : Lib.indexByte [10, 13] ((⟨#[a, y]⟩ : ByteArray)[1]'(Nat.lt_succ_self 1)) = -1 := not_index [10, 13] (by decide) y hy
  have hk : (⟨#[32, 9, 10, 13]⟩ : ByteArray).extract 2 4 = ⟨#[10, 13]⟩ := by kernel_rfl
  have hwr : IntKind.i64.wrap 2 = 2 := by kernel_rfl
  unfold blanks
  go_enter Tryz.func89, Tryz.ntmps89
  go_wp2_with (go_at_call 96; refine hv.mono ?_; rintro e w' ⟨rfl, hw⟩; rw [hw])
  · go_ret
    exact ⟨rfl, Below.refl _ _⟩
  · clear hv
    go_step3
    go_wp2
    refine wp_loop_rounds 1 ?_
    rw [rounds_succ]
    go_wp2
    go_step3
    go_wp2
    go_quiet (fail)
    go_wp2
    obtain ⟨w1, hw1⟩ : ∃ w1, w1 = w.drewN nq := ⟨_, rfl⟩
    have HB : Hid (Below w.heap.size w w1) := by rw [hw1]; exact belowN _ _
    rw [← hw1]
    clear hw1
    go_quiet ((go_at_call 95; exact Calls.quiet_of_same (Tryz.strings_IndexByte _ _ _)))
    go_wp2
    have HB2 : Below w.heap.size w (w1.drewN nq) := ⟨HB.out.os, HB.out.tape, HB.out.output, HB.out.size, HB.out.block⟩
    simp only [Exit.noGoto_ret, Exit.inBlock, Exit.then]
    go_ret
    exact ⟨rfl, HB2⟩
set_option maxHeartbeats 2000000 in
set_option maxRecDepth 100000 in
theorem indexRune_three (r : Int) (w : World) (h0 : 128 ≤ r) (e1 : (r == 65533) = false) (a b y : UInt8) (hy : 128 ≤ y.toNat) (hE : Utf8.encode r = ⟨#[a, b, y]⟩) :
    Calls Tryz.prog 89 #[.string blanks, .int .i32 r] w fun e w' => e = .returned (.int .i64 (-1)) ∧ Below w.heap.size w w' := by
  obtain ⟨v, hv⟩ := valid_bool r w
  have hne : ((((⟨#[32, 9, 10, 13]⟩ : ByteArray)[2]'(by decide)).toNat : Int) != (((⟨#[a, b, y]⟩ : ByteArray)[2]'(Nat.lt_succ_self 2)).toNat : Int)) = true := by
    show ((10 : Int) != (y.toNat : Int)) = true
    simp
    omega
  have hix : Lib.indexByte [13] ((⟨#[a, b, y]⟩ : ByteArray)[2]'(Nat.lt_succ_self 2)) = -1 := not_index [13] (by decide) y hy
  have hk : (⟨#[32, 9, 10, 13]⟩ : ByteArray).extract 3 4 = ⟨#[13]⟩ := by kernel_rfl
  have hwr : IntKind.i64.wrap 3 = 3 := by kernel_rfl
  unfold blanks
  go_enter Tryz.func89, Tryz.ntmps89
  go_wp2_with (go_at_call 96; refine hv.mono ?_; rintro e w' ⟨rfl, hw⟩; rw [hw])
  · go_ret
    exact ⟨rfl, Below.refl _ _⟩
  · clear hv
    go_step3
    go_wp2
    refine wp_loop_rounds 1 ?_
    rw [rounds_succ]
    go_wp2
    go_step3
    go_wp2
    go_quiet (fail)
    go_wp2
    obtain ⟨w1, hw1⟩ : ∃ w1, w1 = w.drewN nq := ⟨_, rfl⟩
    have HB : Hid (Below w.heap.size w w1) := by rw [hw1]; exact belowN _ _
    rw [← hw1]
    clear hw1
    go_quiet ((go_at_call 95; exact Calls.quiet_of_same (Tryz.strings_IndexByte _ _ _)))
    go_wp2
    have HB2 : Below w.heap.size w (w1.drewN nq) := ⟨HB.out.os, HB.out.tape, HB.out.output, HB.out.size, HB.out.block⟩
    simp only [Exit.noGoto_ret, Exit.inBlock, Exit.then]
    go_ret
    exact ⟨rfl, HB2⟩
set_option maxHeartbeats 2000000 in
set_option maxRecDepth 100000 in
theorem indexRune_four (r : Int) (w : World) (h0 : 128 ≤ r) (e1 : (r == 65533) = false) (a b c y : UInt8) (hy : 128 ≤ y.toNat) (hE : Utf8.encode r = ⟨#[a, b, c, y]⟩) :
    Calls Tryz.prog 89 #[.string blanks, .int .i32 r] w fun e w' => e = .returned (.int .i64 (-1)) ∧ Below w.heap.size w w' := by
  obtain ⟨v, hv⟩ := valid_bool r w
  have hne : ((((⟨#[32, 9, 10, 13]⟩ : ByteArray)[3]'(by decide)).toNat : Int) != (((⟨#[a, b, c, y]⟩ : ByteArray)[3]'(Nat.lt_succ_self 3)).toNat : Int)) = true := by
    show ((13 : Int) != (y.toNat : Int)) = true
    simp
    omega
  have hix : Lib.indexByte [] ((⟨#[a, b, c, y]⟩ : ByteArray)[3]'(Nat.lt_succ_self 3)) = -1 := not_index [] (by decide) y hy
  have hk : (⟨#[32, 9, 10, 13]⟩ : ByteArray).extract 4 4 = ⟨#[]⟩ := by kernel_rfl
  have hwr : IntKind.i64.wrap 4 = 4 := by kernel_rfl
  unfold blanks
  go_enter Tryz.func89, Tryz.ntmps89
  go_wp2_with (go_at_call 96; refine hv.mono ?_; rintro e w' ⟨rfl, hw⟩; rw [hw])
  · go_ret
    exact ⟨rfl, Below.refl _ _⟩
  · clear hv
    go_step3
    go_wp2
    refine wp_loop_rounds 1 ?_
    rw [rounds_succ]
    go_wp2
    go_step3
    go_wp2
    go_quiet (fail)
    go_wp2
    obtain ⟨w1, hw1⟩ : ∃ w1, w1 = w.drewN nq := ⟨_, rfl⟩
    have HB : Hid (Below w.heap.size w w1) := by rw [hw1]; exact belowN _ _
    rw [← hw1]
    clear hw1
    go_quiet ((go_at_call 95; exact Calls.quiet_of_same (Tryz.strings_IndexByte _ _ _)))
    go_wp2
    have HB2 : Below w.heap.size w (w1.drewN nq) := ⟨HB.out.os, HB.out.tape, HB.out.output, HB.out.size, HB.out.block⟩
    simp only [Exit.noGoto_ret, Exit.inBlock, Exit.then]
    go_ret
    exact ⟨rfl, HB2⟩
theorem blanks_dec (i : Nat) (h : i < 4) : (Utf8.decode blanks i).2 = 1 ∧ (Utf8.decode blanks i).1 < 128 := by
  match i, h with
  | 0, _ => decide
  | 1, _ => decide
  | 2, _ => decide
  | 3, _ => decide
set_option maxHeartbeats 2000000 in
set_option maxRecDepth 100000 in
theorem indexRune_bad (w : World) :
    Calls Tryz.prog 89 #[.string blanks, .int .i32 65533] w fun e w' => e = .returned (.int .i64 (-1)) ∧ Below w.heap.size w w' := by
  go_enter Tryz.func89, Tryz.ntmps89
  go_wp2
  go_loopw [5, 6] (fun _ _ wr => ∃ pos : Nat, pos ≤ 4 ∧ wr.heap[w.heap.size]? = some (.stringIter blanks pos) ∧ Below w.heap.size w wr) (fun _ _ wr => 4 - wr.iterPos w.heap.size)
  case atStart => exact ⟨0, Nat.zero_le _, World.iter_heap w blanks 0, (Below.refl _ _).alloc (Nat.le_refl _) _⟩
  case round =>
    obtain ⟨pos, hp, hit, hb⟩ := hrel
    have hbs : blanks.size = 4 := rfl
    by_cases hlt : pos < 4
    · have hnx : ∀ ty, (Instr.next (.pointer (some ⟨w.heap.size, 0, none⟩)) true ty).run Tryz.prog wr = _ := fun ty => Lib.run_next_any_at wr w.heap.size blanks pos ty hit (by rw [hbs]; exact hlt)
      obtain ⟨d2, d1⟩ := blanks_dec pos hlt
      have d3 : (((Utf8.decode blanks pos).1 : Int) == 65533) = false := by simp; omega
      have HD : Hid _ := d2
      have hit2 := Lib.iterAt_heap wr w.heap.size blanks pos (pos + (Utf8.decode blanks pos).2) hit
      have hb2 := Lib.below_iterAt hb (k := w.heap.size) (Nat.le_refl _) blanks (pos + (Utf8.decode blanks pos).2)
      clear d2 d1
      go_wp2
      go_roundw
      case rel => exact ⟨pos + 1, by omega, by rw [hit2, HD.out], hb2⟩
      case measure =>
        have := HD.out
        simp only [World.iterPos, hit2, hit]
        omega
    · have hnx : ∀ ty, (Instr.next (.pointer (some ⟨w.heap.size, 0, none⟩)) true ty).run Tryz.prog wr = _ := fun ty => Lib.run_next_end_at wr w.heap.size blanks pos ty hit (by rw [hbs]; exact hlt)
      go_wp2
      go_ret
      exact ⟨rfl, hb⟩
theorem indexRune_high (r : Int) (w : World) (h0 : 128 ≤ r) :
    Calls Tryz.prog 89 #[.string blanks, .int .i32 r] w fun e w' => e = .returned (.int .i64 (-1)) ∧ Below w.heap.size w w' := by
  by_cases h : r = 65533
  · subst h
    exact indexRune_bad w
  · have e1 : (r == 65533) = false := by simpa using h
    obtain ⟨a, b, c, y, hy, hE | hE | hE⟩ := enc_high r h0
    · exact indexRune_two r w h0 e1 a y hy hE
    · exact indexRune_three r w h0 e1 a b y hy hE
    · exact indexRune_four r w h0 e1 a b c y hy hE
def anyN (l : List UInt8) : Int := Lib.indexAny l [32, 9, 10, 13]
theorem indexAny_long (s : ByteArray) (w : World) (hs : s.size ≤ 2000000) (h8 : 8 < s.size) :
    Calls Tryz.prog 82 #[.string s, .string blanks] w fun e w' => e = .returned (.int .i64 (anyN s.data.toList)) ∧ Below w.heap.size w w' := by
  refine (Tryz.strings_IndexAny_long zero96 s blanks w (by decide) h8 (by omega) (by decide) blanks_low).mono ?_
  rintro e w' ⟨h1, rfl⟩
  exact ⟨h1, ((Below.refl _ _).alloc (Nat.le_refl _) _).alloc (by simp) _⟩
end Go.Proofs.YthekdgnikkjpdaaGreatDoor
