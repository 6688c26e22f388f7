/-
  The contracts of strings.IndexAny over this program, at the chars of the four blanks, and of strings.Cut at a separator of one byte: for every string of at most 100000 bytes.
-/
import Derived.Test.YthekdgnikkjpdaaGreatDoorAny
namespace Go.Proofs.YthekdgnikkjpdaaGreatDoor
open Go.RowKit
theorem bl_high {b : UInt8} (h : 128 ≤ b.toNat) : bl b = false := by
  cases hb : bl b with
  | false => rfl
  | true =>
    simp [bl] at hb
    rcases hb with rfl | rfl | rfl | rfl <;> revert h <;> decide
/-- At a byte of 128 or more the language goes past bytes of 128 or more alone. -/
theorem decode_past (s : ByteArray) (pos : Nat) (hp : pos < s.size) (h : 128 ≤ (s.data.toList.getD pos 0).toNat) :
    1 ≤ (Utf8.decode s pos).2 ∧ pos + (Utf8.decode s pos).2 ≤ s.size ∧ ∀ j b, pos ≤ j → j < pos + (Utf8.decode s pos).2 → s.data.toList[j]? = some b → 128 ≤ b.toNat := by
  have one : 1 ≤ 1 ∧ pos + 1 ≤ s.size ∧ ∀ j b, pos ≤ j → j < pos + 1 → s.data.toList[j]? = some b → 128 ≤ b.toNat := by
    refine ⟨Nat.le_refl _, by omega, fun j b h1 h2 hj => ?_⟩
    obtain rfl : j = pos := by omega
    rw [List.getD_eq_getElem?_getD, hj] at h
    exact h
  have hd := decode_at s pos hp
  have hl : (s.data.toList.drop pos).length = s.size - pos := by rw [List.length_drop, ← size_list]
  by_cases c1 : 1 ≤ (sg (s.data.toList.drop pos)).2
  · rw [if_pos c1] at hd
    rcases sg_range (s.data.toList.drop pos) with k | k | ⟨n, k, k1, _, k3⟩
    · omega
    · omega
    · have e : (Utf8.decode s pos).2 = n := by rw [hd, k]; simp
      rw [e]
      by_cases hn : n = 1
      · rw [hn]; exact one
      · have hh := ((sgWay (s.data.toList.drop pos)).high (by omega)).2
        rw [k] at hh
        refine ⟨k1, by omega, fun j b h1 h2 hj => hh b ?_⟩
        refine List.mem_of_getElem? (i := j - pos) ?_
        rw [List.getElem?_take, if_pos (by simp; omega), List.getElem?_drop, show pos + (j - pos) = j by omega]
        exact hj
  · rw [if_neg c1] at hd
    rw [hd]
    exact one
theorem anyN_hit {l : List UInt8} {i : Nat} {x : UInt8} (h : Lib.NoAny l [32, 9, 10, 13] i) (hx : l[i]? = some x) (hb : bl x = true) : anyN l = i := Lib.indexAny_hit h hx hb
theorem anyN_none {l : List UInt8} (h : Lib.NoAny l [32, 9, 10, 13] l.length) : anyN l = -1 := Lib.indexAny_none h
theorem ix_blank (x : UInt8) : (0 ≤ Lib.indexByte [32, 9, 10, 13] x) = (bl x = true) := by
  apply propext
  constructor
  · intro h
    cases hb : bl x with
    | true => rfl
    | false =>
      simp [bl] at hb
      obtain ⟨h1, h2, h3, h4⟩ := hb
      have e1 : ((32 : UInt8) == x) = false := by simpa using fun e => h1 e.symm
      have e2 : ((9 : UInt8) == x) = false := by simpa using fun e => h2 e.symm
      have e3 : ((10 : UInt8) == x) = false := by simpa using fun e => h3 e.symm
      have e4 : ((13 : UInt8) == x) = false := by simpa using fun e => h4 e.symm
      simp [Lib.indexByte, e1, e2, e3, e4] at h
  · intro h
    simp [bl] at h
    rcases h with rfl | rfl | rfl | rfl <;> decide
set_option maxHeartbeats 2000000 in
theorem indexAny_short (s : ByteArray) (w : World) (h8 : s.size ≤ 8) :
    Calls Tryz.prog 82 #[.string s, .string blanks] w fun e w' => e = .returned (.int .i64 (anyN s.data.toList)) ∧ Below w.heap.size w w' := by
  have hbe : blanks.toList = [32, 9, 10, 13] := by kernel_rfl
  have hbe2 : ([32, 9, 10, 13] : List UInt8).isEmpty = false := rfl
  have hb1 : ((blanks.size : Int) == 1) = false := by kernel_rfl
  have h63 : ∀ W, Calls Tryz.prog 90 #[.int .i64 s.size] W fun e w' => e = .returned (.bool false) ∧ w' = W := fun W => by
    have hd : ¬ ((8 : Int) < (s.size : Int)) := by omega
    go_enter Tryz.func90, Tryz.ntmps90
    go_wp2
    go_ret
    exact ⟨rfl, rfl⟩
  go_enter Tryz.func82, Tryz.ntmps82
  go_wp2_with (go_at_call 90; refine (h63 _).mono ?_; rintro e w' ⟨rfl, hw⟩; rw [hw])
  go_loopw [9, 10] (fun _ _ wr => ∃ pos : Nat, pos ≤ s.size ∧ wr.heap[w.heap.size]? = some (.stringIter s pos) ∧ Below w.heap.size w wr ∧ Lib.NoAny s.data.toList [32, 9, 10, 13] pos) (fun _ _ wr => s.size - wr.iterPos w.heap.size)
  case atStart => exact ⟨0, Nat.zero_le _, World.iter_heap w s 0, (Below.refl _ _).alloc (Nat.le_refl _) _, Lib.NoAny.zero _ _⟩
  case round =>
    obtain ⟨pos, hp, hit, hb, hno⟩ := hrel
    have HN : Hid _ := hno
    clear hno
    have hsz : w.heap.size < wr.heap.size := (Array.getElem?_eq_some_iff.1 hit).1
    by_cases hlt : pos < s.size
    · have hnx : ∀ ty, (Instr.next (.pointer (some ⟨w.heap.size, 0, none⟩)) true ty).run Tryz.prog wr = _ := fun ty => Lib.run_next_any_at wr w.heap.size s pos ty hit hlt
      have hit2 := Lib.iterAt_heap wr w.heap.size s pos (pos + (Utf8.decode s pos).2) hit
      have hb2 := Lib.below_iterAt hb (k := w.heap.size) (Nat.le_refl _) s (pos + (Utf8.decode s pos).2)
      have hxl : s.data.toList[pos]? = some (s.data.toList.getD pos 0) := by
        rw [List.getD_eq_getElem?_getD, List.getElem?_eq_getElem (by rw [← size_list]; exact hlt)]
        rfl
      have HX : Hid _ := hxl
      clear hxl
      by_cases hl : (s.data.toList.getD pos 0).toNat < 128
      · have hd := decode_low s pos hlt hl
        rw [hd] at hnx hit2 hb2
        have HD : Hid _ := hd
        clear hd
        obtain ⟨x, hx⟩ : ∃ x : UInt8, s.data.toList.getD pos 0 = x := ⟨_, rfl⟩
        rw [hx] at hnx hit2 hb2 hl HX
        clear hx
        have hr : (x.toNat : Int).toNat.toUInt8 = x := by simp
        have hI := Tryz.strings_IndexRune_ascii blanks (x.toNat : Int) (wr.iterAt w.heap.size s (pos + 1)) (by omega) (by omega)
        rw [hr] at hI
        have hq := ix_blank x
        cases hbx : bl x with
        | true =>
          have h0 : 0 ≤ Lib.indexByte blanks.data.toList x := by
            have : (0 ≤ Lib.indexByte [32, 9, 10, 13] x) := by rw [hq]; exact hbx
            exact this
          have HB : Hid _ := hbx
          clear hbx hq hr
          go_wp2_with (go_at_call 89; refine hI.mono ?_; rintro e w' ⟨rfl, hw⟩; rw [hw])
          go_ret
          exact ⟨ret_int (anyN_hit HN.out HX.out HB.out).symm, hb2⟩
        | false =>
          have h0 : ¬ 0 ≤ Lib.indexByte blanks.data.toList x := by
            have : ¬ (0 ≤ Lib.indexByte [32, 9, 10, 13] x) := by rw [hq, hbx]; simp
            exact this
          have HB : Hid _ := hbx
          clear hbx hq hr
          go_wp2_with (go_at_call 89; refine hI.mono ?_; rintro e w' ⟨rfl, hw⟩; rw [hw])
          go_roundw
          case rel => exact ⟨pos + 1, by omega, hit2, hb2, Lib.NoAny.succ HN.out HX.out HB.out⟩
          case measure =>
            simp only [World.iterPos, hit2, hit]
            omega
      · have hh : 128 ≤ (s.data.toList.getD pos 0).toNat := by omega
        obtain ⟨p1, p2, p3⟩ := decode_past s pos hlt hh
        have hv := decode_high' s pos hlt hh
        have hI := indexRune_high ((Utf8.decode s pos).1 : Int) (wr.iterAt w.heap.size s (pos + (Utf8.decode s pos).2)) (by omega)
        have HP : Hid _ := p3
        clear p3 hl hh hv
        have hsz2 : (wr.iterAt w.heap.size s (pos + (Utf8.decode s pos).2)).heap.size = wr.heap.size := Lib.iterAt_size _ _ _ _
        go_wp2_with (go_at_call 89; refine hI.mono ?_)
        rintro e w' ⟨rfl, hb3⟩
        go_wp2
        have hit3 : w'.heap[w.heap.size]? = _ := (hb3.block w.heap.size (by omega)).trans hit2
        go_roundw
        case rel =>
          refine ⟨pos + (Utf8.decode s pos).2, p2, hit3, hb2.trans (hb3.mono (by omega)), fun j b hj hjb => ?_⟩
          by_cases hjp : j < pos
          · exact HN.out j b hjp hjb
          · exact bl_high (HP.out j b (by omega) hj hjb)
        case measure =>
          simp only [World.iterPos, hit3, hit]
          omega
    · have hnx : ∀ ty, (Instr.next (.pointer (some ⟨w.heap.size, 0, none⟩)) true ty).run Tryz.prog wr = _ := fun ty => Lib.run_next_end_at wr w.heap.size s pos ty hit hlt
      have hpe : pos = s.size := by omega
      have HE : Hid _ := hpe
      clear hpe
      go_wp2
      go_ret
      refine ⟨ret_int (anyN_none ?_).symm, hb⟩
      have := HN.out
      rw [HE.out] at this
      rw [← size_list]
      exact this
theorem indexAny_any (s : ByteArray) (w : World) (hs : s.size ≤ 2000000) :
    Calls Tryz.prog 82 #[.string s, .string blanks] w fun e w' => e = .returned (.int .i64 (anyN s.data.toList)) ∧ Below w.heap.size w w' := by
  by_cases h8 : 8 < s.size
  · exact indexAny_long s w hs h8
  · exact indexAny_short s w (by omega)
def cutA (c : UInt8) (l : List UInt8) : List UInt8 := l.takeWhile (· != c)
def cutZ (c : UInt8) (l : List UInt8) : List UInt8 := (l.dropWhile (· != c)).drop 1
def cutB (c : UInt8) (l : List UInt8) : Bool := l.contains c
theorem cut_way (c : UInt8) : ∀ l : List UInt8, (Lib.indexByte l c = -1 ∧ cutA c l = l ∧ cutZ c l = [] ∧ cutB c l = false) ∨
    ∃ i : Nat, Lib.indexByte l c = i ∧ i < l.length ∧ cutA c l = l.take i ∧ cutZ c l = l.drop (i + 1) ∧ cutB c l = true
  | [] => .inl ⟨rfl, rfl, rfl, rfl⟩
  | b :: l => by
    by_cases hb : b = c
    · subst hb
      exact .inr ⟨0, by simp [Lib.indexByte], by simp, by simp [cutA], by simp [cutZ], by simp [cutB]⟩
    · have h1 : (b == c) = false := by simpa using hb
      have h2 : (c == b) = false := by simpa using fun e => hb (Eq.symm e)
      have h3 : (b != c) = true := by simpa using hb
      rcases cut_way c l with ⟨k1, k2, k3, k4⟩ | ⟨i, k1, k2, k3, k4, k5⟩
      · unfold cutA at k2 ⊢
        unfold cutZ at k3 ⊢
        unfold cutB at k4 ⊢
        refine .inl ⟨by simp [Lib.indexByte, h1, k1], ?_, ?_, ?_⟩
        · rw [List.takeWhile_cons, h3, if_pos rfl, k2]
        · rw [List.dropWhile_cons, h3, if_pos rfl, k3]
        · rw [List.contains_cons, h2, k4]; rfl
      · unfold cutA at k3 ⊢
        unfold cutZ at k4 ⊢
        unfold cutB at k5 ⊢
        refine .inr ⟨i + 1, ?_, by simp; omega, ?_, ?_, ?_⟩
        · have : ((i : Int) == -1) = false := by simp
          simp [Lib.indexByte, h1, k1, this]
        · rw [List.takeWhile_cons, h3, if_pos rfl, k3]; rfl
        · rw [List.dropWhile_cons, h3, if_pos rfl, k4]; rfl
        · rw [List.contains_cons, k5]; simp
theorem ret_cut {a a' b b' : ByteArray} {x x' : Bool} (h : a = a') (h2 : b = b') (h3 : x = x') : Ending.returned (.tuple #[.string a, .string b, .bool x]) = .returned (.tuple #[.string a', .string b', .bool x']) := by rw [h, h2, h3]
set_option maxHeartbeats 1000000 in
theorem cutLite_any (s : ByteArray) (c : UInt8) (w : World) (hs : s.size ≤ 2000000) :
    Calls Tryz.prog 101 #[.string s, .string ⟨#[c]⟩] w fun e w' => e = .returned (.tuple #[.string ⟨(cutA c s.data.toList).toArray⟩, .string ⟨(cutZ c s.data.toList).toArray⟩, .bool (cutB c s.data.toList)]) ∧ ∃ n, w' = w.drewN n := by
  have hI := Tryz.stringslite_Index_one s c w
  rcases cut_way c s.data.toList with ⟨k1, k2, k3, k4⟩ | ⟨i, k1, k2, k3, k4, k5⟩
  · rw [k1] at hI
    rw [k2, k3, k4]
    clear k1 k2 k3 k4
    go_enter Tryz.func101, Tryz.ntmps101
    go_wp2_with (go_at_call 103; refine hI.mono ?_; rintro e w' ⟨rfl, hw⟩; rw [hw])
    go_ret3
    exact ⟨rfl, 0, rfl⟩
  · rw [k1] at hI
    rw [k3, k4, k5]
    have hi : i < s.size := by rw [size_list]; exact k2
    clear k1 k3 k4 k5 k2
    have hwr : IntKind.i64.wrap ((i : Int) + 1) = ((i + 1 : Nat) : Int) := by simp [IntKind.wrap_i64]; omega
    go_enter Tryz.func101, Tryz.ntmps101
    go_wp2_with (go_at_call 103; refine hI.mono ?_; rintro e w' ⟨rfl, hw⟩; rw [hw])
    go_quiet (fail)
    go_wp2
    go_ret3
    exact ⟨ret_cut (mk_of_list (by rw [take_list])) (mk_of_list (by rw [Lib.extract_data]; exact List.take_of_length_le (by simp))) rfl, nq, rfl⟩
set_option maxHeartbeats 1000000 in
theorem cut_any (s : ByteArray) (c : UInt8) (w : World) (hs : s.size ≤ 2000000) :
    Calls Tryz.prog 99 #[.string s, .string ⟨#[c]⟩] w fun e w' => e = .returned (.tuple #[.string ⟨(cutA c s.data.toList).toArray⟩, .string ⟨(cutZ c s.data.toList).toArray⟩, .bool (cutB c s.data.toList)]) ∧ ∃ n, w' = w.drewN n := by
  have h := cutLite_any s c w hs
  go_enter Tryz.func99, Tryz.ntmps99
  go_wp2_with (go_at_call 101; refine h.mono ?_)
  rintro e w' ⟨rfl, n, rfl⟩
  go_wp2
  go_ret3
  exact ⟨rfl, n, rfl⟩
end Go.Proofs.YthekdgnikkjpdaaGreatDoor
