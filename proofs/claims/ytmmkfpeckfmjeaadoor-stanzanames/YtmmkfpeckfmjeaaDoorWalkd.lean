/-
  The contracts of signs.Whole and signs.Right over this program: for every string, in every memory that holds the tables of unicode/utf8 as the program's text lays them.
-/
import Derived.Test.YtmmkfpeckfmjeaaDoorWalkc
import Derived.Lib.OthersKept
namespace Go.Proofs.YtmmkfpeckfmjeaaDoor
open Go.RowKit

structure Tabs (w : World) : Prop where
  u : Lib.Utf8Tabs 3 4 w
theorem cell_lt {w : World} {a : Addr} {v : Value} (h : w.cell? a = some v) : a.block < w.heap.size := by
  unfold World.cell? at h
  rcases Nat.lt_or_ge a.block w.heap.size with q | q
  · exact q
  · rw [Array.getElem?_eq_none q] at h
    cases h
theorem Tabs.size {w : World} (h : Tabs w) : 5 ≤ w.heap.size := by
  have q0 := cell_lt (h.u.1 0 (by decide))
  have q1 := cell_lt (h.u.2 0 (by decide)).1
  simp only at q0 q1
  omega
theorem Tabs.below {B : Nat} {w w' : World} (h : Tabs w) (hB : 5 ≤ B) (hb : Below B w w') : Tabs w' := by
  refine ⟨⟨fun c hc => ?_, fun i hi => ⟨?_, ?_⟩⟩⟩
  · rw [hb.cell (p := ⟨3, c, none⟩) (by simp; omega)]; exact h.u.1 c hc
  · rw [hb.cell (p := ⟨4, 2 * i, none⟩) (by simp; omega)]; exact (h.u.2 i hi).1
  · rw [hb.cell (p := ⟨4, 2 * i + 1, none⟩) (by simp; omega)]; exact (h.u.2 i hi).2
theorem size_list (s : ByteArray) : s.size = s.data.toList.length := Array.length_toList.symm
theorem extract_list (s : ByteArray) (k : Nat) : (s.extract k s.size).data.toList = s.data.toList.drop k := by
  rw [Lib.extract_data]
  exact List.take_of_length_le (by rw [List.length_drop, ← size_list]; omega)
theorem mayI_may (v : Nat) : mayI (v : Int) = may v := by
  unfold mayI may
  rw [Bool.eq_iff_iff]
  simp
  omega
theorem drop_ne {s : ByteArray} {pos : Nat} (hp : pos < s.size) : s.data.toList.drop pos ≠ [] := by
  intro e
  have := congrArg List.length e
  rw [List.length_drop, ← size_list, List.length_nil] at this
  omega
/-- What the language reads at a place: the sign there, or its own answer for none. -/
theorem decode_at (s : ByteArray) (pos : Nat) (hp : pos < s.size) : Utf8.decode s pos = if 1 ≤ (sg (s.data.toList.drop pos)).2 then ((sg (s.data.toList.drop pos)).1, (sg (s.data.toList.drop pos)).2.toNat) else (65533, 1) := by
  rw [decode_decL]
  exact decL_way (sgWay _) (drop_ne hp)
theorem isBroken_at (s : ByteArray) (pos : Nat) (hp : pos < s.size) (b : Bool) (hb : decide ((sg (s.data.toList.drop pos)).2 < 1) = b) (w : World) :
    Calls Tryd.prog 82 #[.string (s.extract pos s.size), .int .i32 ((Utf8.decode s pos).1 : Nat)] w fun e w' => e = .returned (.bool b) ∧ w' = w := by
  refine (isBroken_any _ _ w).mono ?_
  rintro e w' ⟨rfl, rfl⟩
  refine ⟨ret_bool ?_, rfl⟩
  rw [← hb, ← (sgWay (s.data.toList.drop pos)).err (drop_ne hp), extract_list, decode_decL]
  have e : decide (((decL (s.data.toList.drop pos)).1 : Int) = 65533) = decide ((decL (s.data.toList.drop pos)).1 = 65533) := decide_eq_decide.2 (by omega)
  rw [e]
theorem full_at (s : ByteArray) (pos : Nat) (hp : pos < s.size) (b : Bool) (hb : decide ((sg (s.data.toList.drop pos)).2 ≠ -1) = b) (w : World) (hT : Tabs w) :
    Calls Tryd.prog 83 #[.string (s.extract pos s.size)] w fun e w' => e = .returned (.bool b) ∧ Below w.heap.size w w' := by
  have h := full_any (s.extract pos s.size) w hT.u (by rw [extract_list]; exact drop_ne hp)
  rw [extract_list, hb] at h
  exact h
theorem mayBe_at (v : Nat) (b : Bool) (hb : may v = b) (w : World) : Calls Tryd.prog 84 #[.int .i32 (v : Nat)] w fun e w' => e = .returned (.bool b) ∧ w' = w := by
  have h := mayBe_any (v : Int) w
  rw [mayI_may, hb] at h
  exact h
def wholeN (l : List UInt8) : Int × Int := match whole l with | some n => (n, 0) | none => (0, 2)
theorem ret_pair {a b c d : Int} (h1 : a = b) (h2 : c = d) : Ending.returned (.tuple #[.int .i64 a, .int .i64 c]) = .returned (.tuple #[.int .i64 b, .int .i64 d]) := by rw [h1, h2]

set_option maxHeartbeats 1000000 in
theorem whole_any (s : ByteArray) (w : World) (hT : Tabs w) (_hs : s.size ≤ 35184372088832) :
    Calls Tryd.prog 69 #[.string s] w fun e w' => e = .returned (.tuple #[.int .i64 (wholeN s.data.toList).1, .int .i64 (wholeN s.data.toList).2]) ∧ Below w.heap.size w w' := by
  have hT3 := hT.size
  go_enter Tryd.func69, Tryd.ntmps69
  go_wp2
  go_loopw [] (fun wr => ∃ pos : Nat, pos ≤ s.size ∧ wr.heap[w.heap.size]? = some (.stringIter s pos) ∧ Below w.heap.size w wr ∧ whole s.data.toList = (whole (s.data.toList.drop pos)).map (· + pos)) (fun wr => s.size - wr.iterPos w.heap.size)
  case atStart =>
    refine ⟨0, Nat.zero_le _, ?_, (Below.refl _ w).alloc (Nat.le_refl _) _, by simp⟩
    have := World.iter_heap w s 0
    simpa using this
  case round =>
    obtain ⟨pos, hp0, hit, hbw, hacc⟩ := hrel
    have hsz : w.heap.size < wr.heap.size := (Array.getElem?_eq_some_iff.1 hit).1
    by_cases hp : pos < s.size
    · have hnx : ∀ ty, (Instr.next (.pointer (some ⟨w.heap.size, 0, none⟩)) true ty).run Tryd.prog wr = _ := fun ty => Lib.run_next_any_at wr w.heap.size s pos ty hit hp
      have hd := decode_at s pos hp
      have hbw2 := Lib.below_iterAt hbw (k := w.heap.size) (by omega) s (pos + (Utf8.decode s pos).2)
      have hT2 : Tabs (wr.iterAt w.heap.size s (pos + (Utf8.decode s pos).2)) := hT.below hT3 hbw2
      have hsz2 : w.heap.size ≤ (wr.iterAt w.heap.size s (pos + (Utf8.decode s pos).2)).heap.size := by rw [Lib.iterAt_size]; omega
      have hit2 := Lib.iterAt_heap wr w.heap.size s pos (pos + (Utf8.decode s pos).2) hit
      have HD : Hid _ := hd
      have HA : Hid _ := hacc
      clear hd hacc
      rcases whole_cases (s.data.toList.drop pos) with ⟨c1, _, c3⟩ | ⟨c1, c3⟩ | ⟨c1, c2, c3⟩ | ⟨n, c1, c2, c3, c4, c5⟩
      · have hb1 := isBroken_at s pos hp true (by simp; omega)
        have hf := full_at s pos hp false (by simp; rcases sg_range (s.data.toList.drop pos) with h | h | ⟨k, h, _⟩ <;> omega) _ hT2
        have HC : Hid _ := c3
        clear c1 c3
        go_wp2_with (first | (go_at_call 82; refine (hb1 _).mono ?_; rintro e w' ⟨rfl, rfl⟩) | (go_at_call 83; refine hf.mono ?_; rintro e w' ⟨rfl, hbf⟩))
        go_ret2
        have e : wholeN s.data.toList = ((pos : Int), 0) := by unfold wholeN; rw [HA.out, HC.out]; simp
        exact ⟨ret_pair (by rw [e]) (by rw [e]), hbw2.trans (hbf.mono hsz2)⟩
      · have hb1 := isBroken_at s pos hp true (by simp; omega)
        have hf := full_at s pos hp true (by simp; omega) _ hT2
        have HC : Hid _ := c3
        clear c1 c3
        go_wp2_with (first | (go_at_call 82; refine (hb1 _).mono ?_; rintro e w' ⟨rfl, rfl⟩) | (go_at_call 83; refine hf.mono ?_; rintro e w' ⟨rfl, hbf⟩))
        go_ret2
        have e : wholeN s.data.toList = (0, 2) := by unfold wholeN; rw [HA.out, HC.out]; simp
        exact ⟨ret_pair (by rw [e]) (by rw [e]), hbw2.trans (hbf.mono hsz2)⟩
      · have hb1 := isBroken_at s pos hp false (by simp; omega)
        have e1 : (Utf8.decode s pos).1 = (sg (s.data.toList.drop pos)).1 := by rw [HD.out, if_pos c1]
        have hm := mayBe_at (Utf8.decode s pos).1 false (by rw [e1]; exact c2)
        have HC : Hid _ := c3
        clear c1 c2 c3 e1
        go_wp2_with (first | (go_at_call 82; refine (hb1 _).mono ?_; rintro e w' ⟨rfl, rfl⟩) | (go_at_call 84; refine (hm _).mono ?_; rintro e w' ⟨rfl, rfl⟩))
        go_ret2
        have e : wholeN s.data.toList = (0, 2) := by unfold wholeN; rw [HA.out, HC.out]; simp
        exact ⟨ret_pair (by rw [e]) (by rw [e]), hbw2⟩
      · have hb1 := isBroken_at s pos hp false (by simp; omega)
        have c1' : 1 ≤ (sg (s.data.toList.drop pos)).2 := by omega
        have e1 : (Utf8.decode s pos).1 = (sg (s.data.toList.drop pos)).1 := by rw [HD.out, if_pos c1']
        have e2 : (Utf8.decode s pos).2 = n := by rw [HD.out, if_pos c1', c3]; simp
        have hm := mayBe_at (Utf8.decode s pos).1 true (by rw [e1]; exact c4)
        have hn : pos + n ≤ s.size := by
          rw [List.length_drop, ← size_list] at c2
          omega
        have HC : Hid _ := c5
        have HE : Hid _ := e2
        clear c1' c2 c3 c4 c5 e1 e2
        go_wp2_with (first | (go_at_call 82; refine (hb1 _).mono ?_; rintro e w' ⟨rfl, rfl⟩) | (go_at_call 84; refine (hm _).mono ?_; rintro e w' ⟨rfl, rfl⟩))
        go_roundw
        case rel =>
          refine ⟨pos + n, hn, ?_, hbw2, ?_⟩
          · rw [hit2, HE.out]
          · rw [HA.out, HC.out, List.drop_drop]
            cases whole (s.data.toList.drop (pos + n)) with
            | none => rfl
            | some x => simp; omega
        case measure =>
          have := HE.out
          simp only [World.iterPos, hit2, hit]
          omega
    · have hnx : ∀ ty, (Instr.next (.pointer (some ⟨w.heap.size, 0, none⟩)) true ty).run Tryd.prog wr = _ := fun ty => Lib.run_next_end_at wr w.heap.size s pos ty hit hp
      go_wp2
      go_ret2
      have : pos = s.size := by omega
      subst this
      have e : wholeN s.data.toList = ((s.size : Int), 0) := by
        unfold wholeN
        rw [hacc]
        have e2 : s.data.toList.drop s.size = [] := List.drop_eq_nil_of_le (by rw [size_list]; omega)
        rw [e2, whole_nil]
        simp
      exact ⟨ret_pair (by rw [e]) (by rw [e]), hbw⟩

def rightN (l : List UInt8) : Int := if right l then 0 else 2
theorem ret_int {a b : Int} (h : a = b) : Ending.returned (.int .i64 a) = .returned (.int .i64 b) := by rw [h]
set_option maxHeartbeats 1000000 in
theorem right_any (s : ByteArray) (w : World) (hT : Tabs w) (hs : s.size ≤ 35184372088832) :
    Calls Tryd.prog 58 #[.string s] w fun e w' => e = .returned (.int .i64 (rightN s.data.toList)) ∧ Below w.heap.size w w' := by
  have hw := whole_any s w hT hs
  cases hc : whole s.data.toList with
  | none =>
    have e : wholeN s.data.toList = (0, 2) := by simp [wholeN, hc]
    have e2 : rightN s.data.toList = 2 := by simp [rightN, right, hc]
    rw [e] at hw
    rw [e2]
    clear e e2 hc
    go_enter Tryd.func58, Tryd.ntmps58
    go_wp2_with (go_at_call 69; refine hw.mono ?_; rintro e w' ⟨rfl, hb⟩)
    go_ret
    exact ⟨rfl, hb⟩
  | some n =>
    have hle := (whole_le _ _ hc).1
    rw [← size_list] at hle
    have e : wholeN s.data.toList = ((n : Int), 0) := by simp [wholeN, hc]
    rw [e] at hw
    by_cases hn : n < s.size
    · have e2 : rightN s.data.toList = 2 := by
        have : ¬ n = s.data.toList.length := by rw [← size_list]; omega
        simp only [rightN, right, hc]
        rw [if_neg (by simpa using this)]
      rw [e2]
      clear e e2 hc
      go_enter Tryd.func58, Tryd.ntmps58
      go_wp2_with (go_at_call 69; refine hw.mono ?_; rintro e w' ⟨rfl, hb⟩)
      go_ret
      exact ⟨rfl, hb⟩
    · have e2 : rightN s.data.toList = 0 := by
        have : n = s.data.toList.length := by rw [← size_list]; omega
        simp [rightN, right, hc, this]
      rw [e2]
      clear e e2 hc
      go_enter Tryd.func58, Tryd.ntmps58
      go_wp2_with (go_at_call 69; refine hw.mono ?_; rintro e w' ⟨rfl, hb⟩)
      go_ret
      exact ⟨rfl, hb⟩
end Go.Proofs.YtmmkfpeckfmjeaaDoor
