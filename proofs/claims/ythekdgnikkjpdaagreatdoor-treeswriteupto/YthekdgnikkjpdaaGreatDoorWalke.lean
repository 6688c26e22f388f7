/-
  The contracts of signs.Name, textFor and standInAt over this program.
-/
import Derived.Test.YthekdgnikkjpdaaGreatDoorWalkd
namespace Go.Proofs.YthekdgnikkjpdaaGreatDoor
open Go.RowKit
theorem isLetter_at (r : Int) (b : Bool) (hb : letZ r = b) (w : World) : Calls Tryz.prog 37 #[.int .i32 r] w fun e w' => e = .returned (.bool b) ∧ w' = w := by
  have h := isLetter_any r w
  rw [hb] at h
  exact h
theorem isLater_at (r : Int) (b : Bool) (hb : latZ r = b) (w : World) : Calls Tryz.prog 38 #[.int .i32 r] w fun e w' => e = .returned (.bool b) ∧ w' = w := by
  have h := isLater_any r w
  rw [hb] at h
  exact h
theorem letZ_let (a : UInt8) : letZ (a.toNat : Int) = isLet a := by
  unfold letZ isLet
  rw [Bool.eq_iff_iff]
  simp
  omega
theorem latZ_lat (a : UInt8) : latZ (a.toNat : Int) = isLat a := by
  have e1 : ((a.toNat : Int) == 45) = (a == 45) := by
    rw [Bool.eq_iff_iff]
    simp [← UInt8.toNat_inj]
    omega
  have e2 : ((a.toNat : Int) == 58) = (a == 58) := by
    rw [Bool.eq_iff_iff]
    simp [← UInt8.toNat_inj]
    omega
  unfold latZ isLat
  rw [e1, e2]
  congr 2
  rw [Bool.eq_iff_iff]
  simp
  omega
theorem high_no {a : UInt8} (h : 128 ≤ a.toNat) : isLet a = false ∧ isLat a = false := by
  rw [← letZ_let, ← latZ_lat]
  unfold letZ latZ
  constructor <;> (simp; omega)
theorem drop_cons (s : ByteArray) (pos : Nat) (hp : pos < s.size) : s.data.toList.drop pos = s.data.toList.getD pos 0 :: s.data.toList.drop (pos + 1) := by
  have h : pos < s.data.toList.length := by rw [← size_list]; exact hp
  rw [List.drop_eq_getElem_cons h, List.getD_eq_getElem?_getD, List.getElem?_eq_getElem h, Option.getD_some]
/-- At a byte below 128 the language reads it; at others something that is 128 or more. -/
theorem decode_low (s : ByteArray) (pos : Nat) (hp : pos < s.size) (h : (s.data.toList.getD pos 0).toNat < 128) : Utf8.decode s pos = ((s.data.toList.getD pos 0).toNat, 1) := by
  rw [decode_at s pos hp, drop_cons s pos hp, sg_lo _ _ h]
  simp
theorem decode_high' (s : ByteArray) (pos : Nat) (hp : pos < s.size) (h : 128 ≤ (s.data.toList.getD pos 0).toNat) : 128 ≤ (Utf8.decode s pos).1 := by
  rw [decode_at s pos hp]
  split
  · rename_i h1
    rcases sg_range (s.data.toList.drop pos) with k | k | ⟨n, k, _⟩
    · omega
    · omega
    · by_cases hn : n = 1
      · obtain ⟨a, t, ha, hl, _⟩ := (sgWay (s.data.toList.drop pos)).low (by omega)
        rw [drop_cons s pos hp] at ha
        cases ha
        omega
      · exact ((sgWay (s.data.toList.drop pos)).high (by omega)).1
  · simp
set_option maxHeartbeats 1000000 in
theorem name_short (s : ByteArray) (w : World) (h : ¬ (1 ≤ s.size ∧ s.size ≤ 16)) :
    Calls Tryz.prog 21 #[.string s] w fun e w' => e = .returned (.bool false) ∧ Below w.heap.size w w' := by
  by_cases h1 : s.size < 1
  · go_enter Tryz.func21, Tryz.ntmps21
    go_wp2
    go_ret
    exact ⟨rfl, Below.refl _ _⟩
  · have h2 : 16 < s.size := by omega
    go_enter Tryz.func21, Tryz.ntmps21
    go_wp2
    go_ret
    exact ⟨rfl, Below.refl _ _⟩
set_option maxHeartbeats 1000000 in
theorem name_long (s : ByteArray) (w : World) (h1 : 1 ≤ s.size) (h2 : s.size ≤ 16) :
    Calls Tryz.prog 21 #[.string s] w fun e w' => e = .returned (.bool (nameAll true s.data.toList)) ∧ Below w.heap.size w w' := by
  go_enter Tryz.func21, Tryz.ntmps21
  go_wp2
  go_loopw [] (fun wr => ∃ pos : Nat, pos ≤ s.size ∧ wr.heap[w.heap.size]? = some (.stringIter s pos) ∧ Below w.heap.size w wr ∧ nameAll true s.data.toList = nameAll (decide (pos = 0)) (s.data.toList.drop pos)) (fun wr => s.size - wr.iterPos w.heap.size)
  case atStart =>
    refine ⟨0, Nat.zero_le _, ?_, (Below.refl _ w).alloc (Nat.le_refl _) _, by simp⟩
    have := World.iter_heap w s 0
    simpa using this
  case round =>
    obtain ⟨pos, hp0, hit, hbw, hacc⟩ := hrel
    have hsz : w.heap.size < wr.heap.size := (Array.getElem?_eq_some_iff.1 hit).1
    by_cases hp : pos < s.size
    · have hnx : ∀ ty, (Instr.next (.pointer (some ⟨w.heap.size, 0, none⟩)) true ty).run Tryz.prog wr = _ := fun ty => Lib.run_next_any_at wr w.heap.size s pos ty hit hp
      have hbw2 := Lib.below_iterAt hbw (k := w.heap.size) (by omega) s (pos + (Utf8.decode s pos).2)
      have hit2 := Lib.iterAt_heap wr w.heap.size s pos (pos + (Utf8.decode s pos).2) hit
      have HA : Hid _ := hacc
      clear hacc
      by_cases hlo : (s.data.toList.getD pos 0).toNat < 128
      · have hd := decode_low s pos hp hlo
        have HD : Hid _ := hd
        have hdr : Hid _ := drop_cons s pos hp
        cases hl : isLet (s.data.toList.getD pos 0) with
        | true =>
          have hc := isLetter_at (((Utf8.decode s pos).1 : Nat) : Int) true (by rw [hd, letZ_let]; exact hl)
          clear hd
          have HL : Hid _ := hl
          clear hl
          go_wp2_with (go_at_call 37; refine (hc _).mono ?_; rintro e w' ⟨rfl, rfl⟩)
          go_roundw
          case rel =>
            refine ⟨pos + 1, by omega, ?_, hbw2, ?_⟩
            · rw [hit2, HD.out]
            · rw [HA.out, hdr.out, nameAll, HL.out]
              simp
          case measure =>
            have := HD.out
            simp only [World.iterPos, hit2, hit]
            rw [this]
            omega
        | false =>
          have hc := isLetter_at (((Utf8.decode s pos).1 : Nat) : Int) false (by rw [hd, letZ_let]; exact hl)
          have HL : Hid _ := hl
          clear hl
          by_cases h0 : pos = 0
          · subst h0
            clear hd
            go_wp2_with (go_at_call 37; refine (hc _).mono ?_; rintro e w' ⟨rfl, rfl⟩)
            go_ret
            refine ⟨ret_bool ?_, by simpa using hbw2⟩
            rw [HA.out, hdr.out, nameAll, HL.out]
            simp
          · have e0 : ((pos : Int) == 0) = false := by simp; omega
            cases hl2 : isLat (s.data.toList.getD pos 0) with
            | true =>
              have hc2 := isLater_at (((Utf8.decode s pos).1 : Nat) : Int) true (by rw [hd, latZ_lat]; exact hl2)
              clear hd
              have HL2 : Hid _ := hl2
              clear hl2
              go_wp2_with (first | (go_at_call 37; refine (hc _).mono ?_; rintro e w' ⟨rfl, rfl⟩) | (go_at_call 38; refine (hc2 _).mono ?_; rintro e w' ⟨rfl, rfl⟩))
              go_roundw
              case rel =>
                refine ⟨pos + 1, by omega, ?_, hbw2, ?_⟩
                · rw [hit2, HD.out]
                · rw [HA.out, hdr.out, nameAll, HL.out, HL2.out]
                  simp [h0]
              case measure =>
                have := HD.out
                simp only [World.iterPos, hit2, hit]
                rw [this]
                omega
            | false =>
              have hc2 := isLater_at (((Utf8.decode s pos).1 : Nat) : Int) false (by rw [hd, latZ_lat]; exact hl2)
              clear hd
              have HL2 : Hid _ := hl2
              clear hl2
              go_wp2_with (first | (go_at_call 37; refine (hc _).mono ?_; rintro e w' ⟨rfl, rfl⟩) | (go_at_call 38; refine (hc2 _).mono ?_; rintro e w' ⟨rfl, rfl⟩))
              go_ret
              refine ⟨ret_bool ?_, hbw2⟩
              rw [HA.out, hdr.out, nameAll, HL.out, HL2.out]
              simp
      · have hh := decode_high' s pos hp (by omega)
        have hdr : Hid _ := drop_cons s pos hp
        have hc := isLetter_at (((Utf8.decode s pos).1 : Nat) : Int) false (by unfold letZ; simp; omega)
        have hc2 := isLater_at (((Utf8.decode s pos).1 : Nat) : Int) false (by unfold latZ; simp; omega)
        have HF : Hid (nameAll true s.data.toList = false) := by
          show nameAll true s.data.toList = false
          have e1 := (high_no (a := s.data.toList.getD pos 0) (by omega)).1
          have e2 := (high_no (a := s.data.toList.getD pos 0) (by omega)).2
          rw [HA.out, hdr.out, nameAll, e1, e2]
          simp
        clear hh hlo
        by_cases h0 : pos = 0
        · subst h0
          go_wp2_with (first | (go_at_call 37; refine (hc _).mono ?_; rintro e w' ⟨rfl, rfl⟩) | (go_at_call 38; refine (hc2 _).mono ?_; rintro e w' ⟨rfl, rfl⟩))
          go_ret
          exact ⟨ret_bool HF.out.symm, by simpa using hbw2⟩
        · have e0 : ((pos : Int) == 0) = false := by simp; omega
          go_wp2_with (first | (go_at_call 37; refine (hc _).mono ?_; rintro e w' ⟨rfl, rfl⟩) | (go_at_call 38; refine (hc2 _).mono ?_; rintro e w' ⟨rfl, rfl⟩))
          go_ret
          exact ⟨ret_bool HF.out.symm, hbw2⟩
    · have hnx : ∀ ty, (Instr.next (.pointer (some ⟨w.heap.size, 0, none⟩)) true ty).run Tryz.prog wr = _ := fun ty => Lib.run_next_end_at wr w.heap.size s pos ty hit hp
      have e2 : s.data.toList.drop pos = [] := List.drop_eq_nil_of_le (by rw [← size_list]; omega)
      have HF : Hid (nameAll true s.data.toList = true) := by
        show nameAll true s.data.toList = true
        rw [hacc, e2]
        rfl
      clear hacc e2
      go_wp2
      go_ret
      exact ⟨ret_bool HF.out.symm, hbw⟩
theorem name_any (s : ByteArray) (w : World) :
    Calls Tryz.prog 21 #[.string s] w fun e w' => e = .returned (.bool (name s.data.toList)) ∧ Below w.heap.size w w' := by
  by_cases h : 1 ≤ s.size ∧ s.size ≤ 16
  · have e : name s.data.toList = nameAll true s.data.toList := by
      unfold name
      rw [← size_list, decide_eq_true h, Bool.true_and]
    rw [e]
    exact name_long s w h.1 h.2
  · have e : name s.data.toList = false := by
      unfold name
      rw [← size_list, decide_eq_false h, Bool.false_and]
    rw [e]
    exact name_short s w h
end Go.Proofs.YthekdgnikkjpdaaGreatDoor
