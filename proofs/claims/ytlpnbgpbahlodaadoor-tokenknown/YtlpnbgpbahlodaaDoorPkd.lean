/-
  Over this program: the number of a text (token.Read), the document's own token of a number and number of a text.
-/
import Derived.Test.YtlpnbgpbahlodaaDoorPkc
import Derived.Shelf.Pu.ParseUintEmpty
import Derived.Shelf.Pu.ToError
import Derived.Shelf.Pu.ToErrorRange
import Derived.Stop.LaidErr
import Derived.Lib.SmallJoins
namespace Go.Proofs.YtlpnbgpbahlodaaDoor
open Go Go.Shelf Go.RowKit
/-- What the listed variables hold. -/
def Env (w : World) : Prop := (∃ tp p, w.var? Tryd.prog "strconv.ErrSyntax" = some #[.iface tp p]) ∧ (∃ tp p, w.var? Tryd.prog "strconv.ErrRange" = some #[.iface tp p])
theorem g0 : Tryd.prog.globalNamed "strconv.ErrSyntax" = some 0 := by kernel_rfl
theorem g1 : Tryd.prog.globalNamed "strconv.ErrRange" = some 1 := by kernel_rfl
theorem Env.below {w w' : World} (h : Env w) (hb : Below w.heap.size w w') : Env w' := by
  obtain ⟨⟨tp, p, h2⟩, tq, q, h3⟩ := h
  exact ⟨⟨tp, p, Joins.var_stays g0 h2 hb (Nat.le_refl _)⟩, tq, q, Joins.var_stays g1 h3 hb (Nat.le_refl _)⟩
theorem bytes_ext {s : ByteArray} {l : List UInt8} (h : s.data.toList = l) : s = ⟨l.toArray⟩ := by
  subst h
  cases s
  simp
theorem in_any (t : ByteArray) (hmax : t.size ≤ 9223372036854775806) (w : World) :
    Calls Tryd.prog 22 #[.string t, .int .i64 32, .int .i64 64] w fun e w' => e = .returned (Lib.uintTuple 50 (puT t.data.toList)) ∧ Below w.heap.size w w' := by
  by_cases h0 : t.size = 0
  · have he : t.data.toList = [] := List.length_eq_zero_iff.1 h0
    obtain rfl : t = ⟨#[]⟩ := bytes_ext he
    refine (AnyPu.internal_strconv_ParseUint_empty { Tryd.laysPu14 with } 32 64 w).mono fun e w' ⟨h1, h2⟩ => ?_
    subst h1 h2
    exact ⟨rfl, Below.refl _ _⟩
  · have hn : t.data.toList ≠ [] := fun e => h0 (by have := congrArg List.length e; exact this)
    refine (in32_any t h0 hmax w).mono fun e w' ⟨h1, h2⟩ => ?_
    subst h1 h2
    exact ⟨by unfold puT; rw [if_neg hn], Lib.bytesWorld_below _ _ _⟩
def ErrRes (e : Ending) : Prop := ∃ a tp p, e = .returned (.tuple #[.int .u64 a, .iface tp p])
set_option maxRecDepth 100000 in
theorem parse_ok (s : ByteArray) (hs : s.size ≤ 281474976710656) (u : Nat) (h : puT s.data.toList = .ok u) (w : World) :
    Calls Tryd.prog 20 #[.string s, .int .i64 32, .int .i64 64] w fun e w' => e = .returned (.tuple #[.int .u64 u, .nilIface]) ∧ Below w.heap.size w w' := by
  have HI := fun W => in_any s (by omega) W
  rw [h] at HI
  have HI : ∀ W, Calls Tryd.prog 22 #[.string s, .int .i64 32, .int .i64 64] W fun e w' => e = .returned (.tuple #[.int .u64 u, .nilIface]) ∧ Below W.heap.size W w' := HI
  clear h
  go_enter Tryd.func20, Tryd.ntmps20
  go_wp2_with (go_at_call 22; refine (HI _).mono ?_; rintro e w1 ⟨rfl, hb1⟩)
  go_ret2
  exact ⟨rfl, hb1⟩
set_option maxRecDepth 100000 in
set_option maxHeartbeats 1000000 in
theorem parse_bad (s : ByteArray) (hs : s.size ≤ 281474976710656) (h : ∀ u, puT s.data.toList ≠ .ok u) (w : World) (hE : Env w) :
    Calls Tryd.prog 20 #[.string s, .int .i64 32, .int .i64 64] w fun e w' => ErrRes e ∧ Below w.heap.size w w' := by
  have HI := fun W => in_any s (by omega) W
  have HE : Hid (Env w) := hE
  cases hp : puT s.data.toList with
  | ok u => exact absurd hp (h u)
  | «syntax» =>
    rw [hp] at HI
    have HI : ∀ W, Calls Tryd.prog 22 #[.string s, .int .i64 32, .int .i64 64] W fun e w' => e = .returned (.tuple #[.int .u64 0, .iface 50 (.int .i64 2)]) ∧ Below W.heap.size W w' := HI
    clear h hp hE
    go_enter Tryd.func20, Tryd.ntmps20
    go_wp2_with (first
      | (go_at_call 22; refine (HI _).mono ?_; rintro e w1 ⟨rfl, hb1⟩; obtain ⟨⟨tp, p, hv⟩, -⟩ := HE.out.below hb1)
      | (go_at_call 23; refine (AnyPu.strconv_toError_syntax { Tryd.laysPu14 with } ⟨#[80, 97, 114, 115, 101, 85, 105, 110, 116]⟩ s 32 64 (.iface tp p) _ hs (by have h0 := World.var?_cell Tryd.laysPu14.m0 hv 0; simpa using h0) (Or.inr ⟨tp, p, rfl⟩)).mono ?_; rintro e w2 ⟨N, rfl, -, -, hb2⟩))
    go_ret2
    exact ⟨⟨_, _, _, rfl⟩, hb1.trans (hb2.mono hb1.size)⟩
  | range =>
    rw [hp] at HI
    have HI : ∀ W, Calls Tryd.prog 22 #[.string s, .int .i64 32, .int .i64 64] W fun e w' => e = .returned (.tuple #[.int .u64 18446744073709551615, .iface 50 (.int .i64 1)]) ∧ Below W.heap.size W w' := HI
    clear h hp hE
    go_enter Tryd.func20, Tryd.ntmps20
    go_wp2_with (first
      | (go_at_call 22; refine (HI _).mono ?_; rintro e w1 ⟨rfl, hb1⟩; obtain ⟨-, tp, p, hv⟩ := HE.out.below hb1)
      | (go_at_call 23; refine (AnyPu.strconv_toError_range { Tryd.laysPu14 with } ⟨#[80, 97, 114, 115, 101, 85, 105, 110, 116]⟩ s 32 64 (.iface tp p) _ hs (by have h0 := World.var?_cell Tryd.laysPu14.m1 hv 0; simpa using h0) (Or.inr ⟨tp, p, rfl⟩)).mono ?_; rintro e w2 ⟨N, rfl, -, -, hb2⟩))
    go_ret2
    exact ⟨⟨_, _, _, rfl⟩, hb1.trans (hb2.mono hb1.size)⟩
set_option maxRecDepth 100000 in
set_option maxHeartbeats 1000000 in
theorem read_any (s : ByteArray) (r : Nat) (b : Bool) (hs : s.size ≤ 281474976710656) (hr : (readT s.data.toList).getD 0 = r) (hb : (readT s.data.toList).isSome = b) (w : World) (hE : Env w) :
    Calls Tryd.prog 9 #[.string s] w fun e w' => e = .returned (.tuple #[.int .u64 (r : Int), .bool b]) ∧ Below w.heap.size w w' := by
  have HE : Hid (Env w) := hE
  by_cases h : ∃ u, puT s.data.toList = .ok u
  · obtain ⟨u, hu⟩ := h
    have HP := fun W => parse_ok s hs u hu W
    have h64 := puT_lt hu
    have HO := fun W => of_any u h64 W
    unfold readT at hr hb
    rw [hu] at hr hb
    simp only at hr hb
    by_cases he : tokL 13 u = s.data.toList
    · rw [if_pos he] at hr hb
      obtain rfl : u = r := hr
      obtain rfl : true = b := hb
      obtain rfl := bytes_ext he.symm
      have hi : (u : Int) < 18446744073709551616 := by omega
      clear he hE hu
      go_enter Tryd.func9, Tryd.ntmps9
      go_wp2_with (first
        | (go_at_call 20; refine (HP _).mono ?_; rintro e w1 ⟨rfl, hb1⟩)
        | (go_at_call 11; refine (HO _).mono ?_; rintro e w2 ⟨rfl, hb2⟩))
      go_ret2
      exact ⟨rfl, hb1.trans (hb2.mono hb1.size)⟩
    · rw [if_neg he] at hr hb
      obtain rfl : 0 = r := hr
      obtain rfl : false = b := hb
      obtain ⟨l, rfl⟩ : ∃ l : List UInt8, s = ⟨l.toArray⟩ := ⟨_, bytes_ext rfl⟩
      have hne : (tokL 13 u == l) = false := by
        rw [beq_eq_false_iff_ne]
        intro e
        exact he (by simpa using e)
      clear he hE hu
      go_enter Tryd.func9, Tryd.ntmps9
      go_wp2_with (first
        | (go_at_call 20; refine (HP _).mono ?_; rintro e w1 ⟨rfl, hb1⟩)
        | (go_at_call 11; refine (HO _).mono ?_; rintro e w2 ⟨rfl, hb2⟩))
      go_ret2
      exact ⟨rfl, hb1.trans (hb2.mono hb1.size)⟩
  · have hn : ∀ u, puT s.data.toList ≠ .ok u := fun u e => h ⟨u, e⟩
    have hr0 : readT s.data.toList = none := by
      unfold readT
      cases hp : puT s.data.toList with
      | ok u => exact absurd hp (hn u)
      | «syntax» => rfl
      | range => rfl
    rw [hr0] at hr hb
    obtain rfl : 0 = r := hr
    obtain rfl : false = b := hb
    have HP := fun W hW => parse_bad s hs hn W hW
    clear h hn hr0 hE
    go_enter Tryd.func9, Tryd.ntmps9
    go_wp2_with (first
      | (go_at_call 20; refine (HP _ HE.out).mono ?_; rintro e w1 ⟨⟨a, tp, p, rfl⟩, hb1⟩))
    go_ret2
    exact ⟨rfl, hb1⟩
end Go.Proofs.YtlpnbgpbahlodaaDoor
