/-
  Over this program: the number of a text (wrap.Read), and what the statements' own lives answers.
-/
import Derived.Test.YtdhjbbkleihiaaaDoorNumd
import Derived.Lib.AtoiErrMem
namespace Go.Proofs.YtdhjbbkleihiaaaDoor
open Go Go.Shelf Go.RowKit
/-- What the listed variables hold. -/
def Env (w : World) : Prop := Pow w ∧ (∃ tp p, w.var? Tryd.prog "strconv.ErrSyntax" = some #[.iface tp p]) ∧ (∃ tp p, w.var? Tryd.prog "strconv.ErrRange" = some #[.iface tp p])
theorem g0 : Tryd.prog.globalNamed "strconv.ErrSyntax" = some 0 := by kernel_rfl
theorem g1 : Tryd.prog.globalNamed "strconv.ErrRange" = some 1 := by kernel_rfl
theorem g2 : Tryd.prog.globalNamed "internal/strconv.uint64pow10" = some 2 := by kernel_rfl
theorem Env.below {w w' : World} (h : Env w) (hb : Below w.heap.size w w') : Env w' := by
  obtain ⟨h1, ⟨tp, p, h2⟩, tq, q, h3⟩ := h
  exact ⟨Joins.var_stays g2 h1 hb (Nat.le_refl _), ⟨tp, p, Joins.var_stays g0 h2 hb (Nat.le_refl _)⟩, tq, q, Joins.var_stays g1 h3 hb (Nat.le_refl _)⟩
theorem Env.pow {w : World} (h : Env w) : Pow w := h.1
theorem bytes_ext {s : ByteArray} {l : List UInt8} (h : s.data.toList = l) : s = ⟨l.toArray⟩ := by
  subst h
  cases s
  simp
theorem below_ok {w w' : World} {s : ByteArray} (h : w' = w ∨ w' = Lib.bytesWorld w 5 s) : Below w.heap.size w w' := by
  rcases h with rfl | rfl
  · exact Below.refl _ _
  · exact Lib.bytesWorld_below _ _ _
set_option maxHeartbeats 1000000 in
set_option maxRecDepth 100000 in
theorem read_some (s : ByteArray) (u : Nat) (h : readN s.data.toList = some u) (hs : s.size ≤ 140737488355328) (w : World) (hE : Env w) :
    Calls Tryd.prog 18 #[.string s] w fun e w' => e = .returned (.tuple #[.int .u32 u, .bool true]) ∧ Below w.heap.size w w' := by
  obtain ⟨h1, h2, h3⟩ := readN_inv h
  obtain rfl := bytes_ext h2.symm
  have hp := hE
  have HE : Hid (Env w) := hE
  have h0 : (0 : Int) ≤ u := Int.natCast_nonneg _
  have hw : IntKind.u32.wrap (u : Int) = u := by rw [IntKind.wrap_u32']; omega
  clear h h2 hE hp
  go_enter Tryd.func18, Tryd.ntmps18
  go_wp2_with (first
    | (go_at_call 24; refine (Tryd.strconv_ParseUint_10_at32_ok _ (by omega) u h1 _).mono ?_; rintro e w1 ⟨rfl, hw1⟩; have hb1 := below_ok hw1; have hP1 := (HE.out.below hb1).pow; clear hw1)
    | (go_at_call 20; refine (text_any u h3 _ hP1).mono ?_; rintro e w2 ⟨rfl, hb2⟩))
  go_ret2
  exact ⟨rfl, hb1.trans (hb2.mono hb1.size)⟩
set_option maxHeartbeats 1000000 in
set_option maxRecDepth 100000 in
theorem read_none (s : ByteArray) (h : readN s.data.toList = none) (hs : s.size ≤ 140737488355328) (w : World) (hE : Env w) :
    Calls Tryd.prog 18 #[.string s] w fun e w' => e = .returned (.tuple #[.int .u32 0, .bool false]) ∧ Below w.heap.size w w' := by
  have HE : Hid (Env w) := hE
  obtain ⟨_, ⟨tp, p, hv0⟩, tq, q, hv1⟩ := hE
  obtain ⟨l, rfl⟩ : ∃ l : List UInt8, s = ⟨l.toArray⟩ := ⟨_, bytes_ext rfl⟩
  have el : (⟨l.toArray⟩ : ByteArray).data.toList = l := by simp
  have EL : Hid _ := el
  rw [el] at h
  cases hp : Lib.parseUintB 32 (⟨l.toArray⟩ : ByteArray).data.toList with
  | ok u =>
    have h3 := Lib.parseUintB_le hp
    have h4 : u < 4294967296 := by omega
    have hne : (Lib.decDigits u == l) = false := by
      rw [beq_eq_false_iff_ne]
      rintro rfl
      rw [el] at hp
      unfold readN at h
      rw [hp] at h
      simp at h
    have h0 : (0 : Int) ≤ u := Int.natCast_nonneg _
    have hw : IntKind.u32.wrap (u : Int) = u := by rw [IntKind.wrap_u32']; omega
    clear h hv0 hv1 h3 el
    go_enter Tryd.func18, Tryd.ntmps18
    go_wp2_with (first
      | (go_at_call 24; refine (Tryd.strconv_ParseUint_10_at32_ok _ (by omega) u hp _).mono ?_; rintro e w1 ⟨rfl, hw1⟩; have hb1 := below_ok hw1; have hP1 := (HE.out.below hb1).pow; clear hw1)
      | (go_at_call 20; refine (text_any u h4 _ hP1).mono ?_; rintro e w2 ⟨rfl, hb2⟩))
    go_ret2
    exact ⟨rfl, hb1.trans (hb2.mono hb1.size)⟩
  | «syntax» =>
    clear el
    go_enter Tryd.func18, Tryd.ntmps18
    go_wp2_with (go_at_call 24; refine (Tryd.strconv_ParseUint_10_at32_syntax_var _ (by omega) hp tp p _ hv0).mono ?_; rintro e w1 ⟨N, rfl, -, -, hb1⟩)
    go_ret2
    exact ⟨rfl, hb1⟩
  | range =>
    clear el
    go_enter Tryd.func18, Tryd.ntmps18
    go_wp2_with (go_at_call 24; refine (Tryd.strconv_ParseUint_10_at32_range_var _ (by omega) hp tq q _ hv1).mono ?_; rintro e w1 ⟨N, rfl, -, -, hb1⟩)
    go_ret2
    exact ⟨rfl, hb1⟩
theorem read42 : readN [52, 50] = some 42 := by
  have h : Lib.decDigits 42 = [52, 50] := by kernel_rfl
  rw [← h]
  exact readN_dec 42 (by decide)
theorem text10 : Lib.decDigits 10 = [49, 48] := by kernel_rfl
set_option maxHeartbeats 1000000 in
set_option maxRecDepth 100000 in
theorem lives_any (w : World) (hE : Env w) : Calls Tryd.prog 9 #[] w fun e w' => e = .returned (.bool true) ∧ Below w.heap.size w w' := by
  have HE : Hid (Env w) := hE
  have H1 := read_some ⟨#[52, 50]⟩ 42 read42 (by decide) w hE
  clear hE
  have HT := fun W h => text_any 10 (by decide) W h
  rw [text10] at HT
  have U1 : U 4294967295 := by unfold U; decide
  have U2 : U 1 := by unfold U; decide
  have U3 : U 2 := by unfold U; decide
  have N1 : N 1 := by unfold N; decide
  have HA := fun W => add_any 4294967295 1 U1 N1 W
  rw [show addI 4294967295 1 = 0 by decide] at HA
  have HB := fun W => ahead_any 4294967295 2 U1 U3 W
  rw [show ahI 4294967295 2 = 3 by decide] at HB
  have HC := fun W => within_any 1 4294967295 2 U2 U1 U3 W
  rw [show witI 1 4294967295 2 = true by decide] at HC
  have HD := fun W => less_any 4294967295 2 U1 U3 W
  rw [show lessI 4294967295 2 = true by decide] at HD
  clear U1 U2 U3 N1
  go_enter Tryd.func9, Tryd.ntmps9
  go_wp2_with (first
    | (go_at_call 18; refine H1.mono ?_; rintro e w1 ⟨rfl, hb1⟩; have hP1 := (HE.out.below hb1).pow)
    | (go_at_call 10; refine (HA _).mono ?_; rintro e w2 ⟨rfl, rfl⟩)
    | (go_at_call 12; refine (HB _).mono ?_; rintro e w2 ⟨rfl, rfl⟩)
    | (go_at_call 14; refine (HC _).mono ?_; rintro e w2 ⟨rfl, rfl⟩)
    | (go_at_call 16; refine (HD _).mono ?_; rintro e w2 ⟨rfl, rfl⟩)
    | (go_at_call 20; refine (HT _ hP1).mono ?_; rintro e w3 ⟨rfl, hb3⟩))
  go_ret
  exact ⟨rfl, hb1.trans (hb3.mono hb1.size)⟩
end Go.Proofs.YtdhjbbkleihiaaaDoor
