/-
  Over this program: the number of a text (wrap.Read).
-/
import Derived.Test.YtmmkfpeckfmjeaaDoorNumd
import Derived.Lib.AtoiErrMem
namespace Go.Proofs.YtmmkfpeckfmjeaaDoor
open Go Go.Shelf Go.RowKit
/-- What the listed variables hold. -/
def Env (w : World) : Prop := Pow w ∧ (∃ tp p, w.var? Tryd.prog "strconv.ErrSyntax" = some #[.iface tp p]) ∧ (∃ tp p, w.var? Tryd.prog "strconv.ErrRange" = some #[.iface tp p])
theorem g0 : Tryd.prog.globalNamed "strconv.ErrSyntax" = some 5 := by kernel_rfl
theorem g1 : Tryd.prog.globalNamed "strconv.ErrRange" = some 6 := by kernel_rfl
theorem g2 : Tryd.prog.globalNamed "internal/strconv.uint64pow10" = some 2 := by kernel_rfl
theorem Env.below {w w' : World} (h : Env w) (hb : Below w.heap.size w w') : Env w' := by
  obtain ⟨h1, ⟨tp, p, h2⟩, tq, q, h3⟩ := h
  exact ⟨Joins.var_stays g2 h1 hb (Nat.le_refl _), ⟨tp, p, Joins.var_stays g0 h2 hb (Nat.le_refl _)⟩, tq, q, Joins.var_stays g1 h3 hb (Nat.le_refl _)⟩
theorem Env.pow {w : World} (h : Env w) : Pow w := h.1
theorem bytes_ext {s : ByteArray} {l : List UInt8} (h : s.data.toList = l) : s = ⟨l.toArray⟩ := by
  subst h
  cases s
  simp
theorem below_ok {w w' : World} {s : ByteArray} (h : w' = w ∨ w' = Lib.bytesWorld w 5 s) : Below w.heap.size w w' := by
  rcases h with rfl | rfl
  · exact Below.refl _ _
  · exact Lib.bytesWorld_below _ _ _
set_option maxHeartbeats 1000000 in
set_option maxRecDepth 100000 in
theorem read_some (s : ByteArray) (u : Nat) (h : readN s.data.toList = some u) (hs : s.size ≤ 140737488355328) (w : World) (hE : Env w) :
    Calls Tryd.prog 57 #[.string s] w fun e w' => e = .returned (.tuple #[.int .u32 u, .bool true]) ∧ Below w.heap.size w w' := by
  obtain ⟨h1, h2, h3⟩ := readN_inv h
  obtain rfl := bytes_ext h2.symm
  have hp := hE
  have HE : Hid (Env w) := hE
  have h0 : (0 : Int) ≤ u := Int.natCast_nonneg _
  have hw : IntKind.u32.wrap (u : Int) = u := by rw [IntKind.wrap_u32']; omega
  clear h h2 hE hp
  go_enter Tryd.func57, Tryd.ntmps57
  go_wp2_with (first
    | (go_at_call 68; refine (Tryd.strconv_ParseUint_10_at32_ok _ (by omega) u h1 _).mono ?_; rintro e w1 ⟨rfl, hw1⟩; have hb1 := below_ok hw1; have hP1 := (HE.out.below hb1).pow; clear hw1)
    | (go_at_call 30; refine (text_any u h3 _ hP1).mono ?_; rintro e w2 ⟨rfl, hb2⟩))
  go_ret2
  exact ⟨rfl, hb1.trans (hb2.mono hb1.size)⟩
set_option maxHeartbeats 1000000 in
set_option maxRecDepth 100000 in
theorem read_none (s : ByteArray) (h : readN s.data.toList = none) (hs : s.size ≤ 140737488355328) (w : World) (hE : Env w) :
    Calls Tryd.prog 57 #[.string s] w fun e w' => e = .returned (.tuple #[.int .u32 0, .bool false]) ∧ Below w.heap.size w w' := by
  have HE : Hid (Env w) := hE
  obtain ⟨_, ⟨tp, p, hv0⟩, tq, q, hv1⟩ := hE
  obtain ⟨l, rfl⟩ : ∃ l : List UInt8, s = ⟨l.toArray⟩ := ⟨_, bytes_ext rfl⟩
  have el : (⟨l.toArray⟩ : ByteArray).data.toList = l := by simp
  have EL : Hid _ := el
  rw [el] at h
  cases hp : Lib.parseUintB 32 (⟨l.toArray⟩ : ByteArray).data.toList with
  | ok u =>
    have h3 := Lib.parseUintB_le hp
    have h4 : u < 4294967296 := by omega
    have hne : (Lib.decDigits u == l) = false := by
      rw [beq_eq_false_iff_ne]
      rintro rfl
      rw [el] at hp
      unfold readN at h
      rw [hp] at h
      simp at h
    have h0 : (0 : Int) ≤ u := Int.natCast_nonneg _
    have hw : IntKind.u32.wrap (u : Int) = u := by rw [IntKind.wrap_u32']; omega
    clear h hv0 hv1 h3 el
    go_enter Tryd.func57, Tryd.ntmps57
    go_wp2_with (first
      | (go_at_call 68; refine (Tryd.strconv_ParseUint_10_at32_ok _ (by omega) u hp _).mono ?_; rintro e w1 ⟨rfl, hw1⟩; have hb1 := below_ok hw1; have hP1 := (HE.out.below hb1).pow; clear hw1)
      | (go_at_call 30; refine (text_any u h4 _ hP1).mono ?_; rintro e w2 ⟨rfl, hb2⟩))
    go_ret2
    exact ⟨rfl, hb1.trans (hb2.mono hb1.size)⟩
  | «syntax» =>
    clear el
    go_enter Tryd.func57, Tryd.ntmps57
    go_wp2_with (go_at_call 68; refine (Tryd.strconv_ParseUint_10_at32_syntax_var _ (by omega) hp tp p _ hv0).mono ?_; rintro e w1 ⟨N, rfl, -, -, hb1⟩)
    go_ret2
    exact ⟨rfl, hb1⟩
  | range =>
    clear el
    go_enter Tryd.func57, Tryd.ntmps57
    go_wp2_with (go_at_call 68; refine (Tryd.strconv_ParseUint_10_at32_range_var _ (by omega) hp tq q _ hv1).mono ?_; rintro e w1 ⟨N, rfl, -, -, hb1⟩)
    go_ret2
    exact ⟨rfl, hb1⟩
end Go.Proofs.YtmmkfpeckfmjeaaDoor
