/-
  The contract of signs.Unescape over this program, where the text is right: for every string of at most 100000 bytes.
-/
import Derived.Test.YthekdgnikkjpdaaGreatDoorWalki
namespace Go.Proofs.YthekdgnikkjpdaaGreatDoor
open Go.RowKit
def unescR (l : List UInt8) : ByteArray × Int := match unesc l with | some r => (⟨r.toArray⟩, 0) | none => (⟨#[]⟩, 3)
set_option maxHeartbeats 4000000 in
set_option maxRecDepth 100000 in
theorem unescape_yes (s : ByteArray) (w : World) (hT : Tabs w) (hs : s.size ≤ 2000000) (hr : right s.data.toList = true) :
    Calls Tryz.prog 63 #[.string s] w fun e w' => e = .returned (.tuple #[.string (unescR s.data.toList).1, .int .i64 (unescR s.data.toList).2]) ∧ Below w.heap.size w w' := by
  have h := right_at s 0 (by simp [rightN, hr]) w hT (by omega)
  have HR : Hid _ := hr
  have hT3 := hT.size
  clear hr
  go_enter Tryz.func63, Tryz.ntmps63
  go_wp2_with (go_at_call 23; refine h.mono ?_)
  rintro e w1 ⟨rfl, hb1⟩
  have hT1 : Tabs w1 := hT.below hT3 hb1
  have hT13 := hT1.size
  have hs1 := hb1.size
  clear h
  go_wp2
  go_loopw [6] (fun p wr => ∃ (pos past : Nat) (acc : List UInt8), p = .int .i64 past ∧ pos ≤ s.size ∧ past ≤ s.size ∧ Lib.IsBuilderF 46 5 w1.heap.size w1.heap.size (Lib.byteCells acc) wr ∧ wr.heap[w1.heap.size + 1]? = some (.stringIter s pos) ∧ Below w1.heap.size w1 wr ∧
      unesc s.data.toList = (unesc (s.data.toList.drop (max pos past))).map (acc ++ ·) ∧ right (s.data.toList.drop pos) = true ∧ acc.length ≤ 4 * max pos past ∧ (∀ j, pos ≤ j → j < past → (s.data.toList.getD j 0).toNat < 128)) (fun _ wr => s.size - wr.iterPos (w1.heap.size + 1))
  case atStart =>
    refine ⟨0, 0, [], rfl, Nat.zero_le _, Nat.zero_le _, (Lib.IsBuilderF.of (Lib.fresh_isBuilder 46 5 w1)).alloc _, ?_, ((Below.refl _ w1).alloc (Nat.le_refl _) _).alloc (by simp) _, by simp, HR.out, by simp, by omega⟩
    have := World.iter_heap (w1.alloc (.cells #[.pointer none, .slice none 0 0] 46)) s 0
    simpa using this
  case round =>
    obtain ⟨pos, past, acc, rfl, hp0, hq0, hI, hit, hbw, hacc, hrt, hal, hlow⟩ := hrel
    have hsz : w1.heap.size + 1 < wr.heap.size := (Array.getElem?_eq_some_iff.1 hit).1
    have HA : Hid _ := hacc
    have HRT : Hid _ := hrt
    have HL : Hid _ := hlow
    have HAL : Hid _ := hal
    clear hacc hrt hlow hal
    by_cases hp : pos < s.size
    · have hnx : ∀ ty, (Instr.next (.pointer (some ⟨w1.heap.size + 1, 0, none⟩)) true ty).run Tryz.prog wr = _ := fun ty => Lib.run_next_any_at wr (w1.heap.size + 1) s pos ty hit hp
      obtain ⟨n, hn1, hn2, hdw, hdv, hrn, hst⟩ := unesc_step s pos hp HRT.out
      have HDW : Hid _ := hdw
      have HRN : Hid _ := hrn
      clear hdw hrn
      have hI2 := hI.iterAt hit (pos + (Utf8.decode s pos).2)
      have hit2 := Lib.iterAt_heap wr (w1.heap.size + 1) s pos (pos + (Utf8.decode s pos).2) hit
      have hbw2 := Lib.below_iterAt hbw (k := w1.heap.size + 1) (by omega) s (pos + (Utf8.decode s pos).2)
      have hsz2 : w1.heap.size + 1 < (wr.iterAt (w1.heap.size + 1) s (pos + (Utf8.decode s pos).2)).heap.size := by rw [Lib.iterAt_size]; omega
      have hT2 := hT1.below hT13 hbw2
      by_cases hlt : pos < past
      · have HN : Hid (n = 1) := by
          show n = 1
          have k := HDW.out
          rw [decode_low s pos hp (HL.out pos (Nat.le_refl _) hlt)] at k
          exact k.symm
        clear hst
        go_wp2
        go_roundw
        case rel =>
          have hn : n = 1 := HN.out
          refine ⟨pos + 1, past, acc, rfl, by omega, hq0, hI2, ?_, hbw2, ?_, ?_, ?_, fun j h1 h2 => HL.out j (by omega) h2⟩
          · rw [hit2, HDW.out, hn]
          · rw [HA.out, show max (pos + 1) past = max pos past by omega]
          · rw [← hn]; exact HRN.out
          · rw [show max (pos + 1) past = max pos past by omega]; exact HAL.out
        case measure =>
          have := HDW.out
          simp only [World.iterPos, hit2, hit]
          omega
      · have HM : Hid (max pos past = pos) := by show _ = _; omega
        rcases hst with ⟨hv, hu⟩ | ⟨hv, hsi, hu⟩ | ⟨hv, c, m, tx, hsi, hts, hm1, hm2, hm3, hc, hn, hj, hu⟩ | ⟨hv1, hv2, hu⟩
        · have HU : Hid _ := hu
          clear hu
          go_wp2
          go_ret2
          have e : unescR s.data.toList = (⟨#[]⟩, 3) := by unfold unescR; rw [HA.out, HM.out, HU.out]; rfl
          exact ⟨ret_esc (a := (⟨#[]⟩, 3)) e.symm, hb1.trans (hbw2.mono hs1)⟩
        · have hc := standInAt_at s pos _ _ _ hsi _ hT2
          have HU : Hid _ := hu
          clear hu hsi
          go_wp2_with (go_at_call 78; refine hc.mono ?_)
          rintro e w3 ⟨rfl, hb3⟩
          go_wp2
          go_ret2
          have e : unescR s.data.toList = (⟨#[]⟩, 3) := by unfold unescR; rw [HA.out, HM.out, HU.out]; rfl
          have hs3 := hb3.size
          exact ⟨ret_esc (a := (⟨#[]⟩, 3)) e.symm, (hb1.trans ((hbw2.trans (hb3.mono (by omega))).mono hs1)).alloc (by omega) _⟩
        · have hcc := standInAt_at s pos _ _ _ hsi _ hT2
          have HU : Hid _ := hu
          have HJ : Hid _ := hj
          have HNN : Hid _ := hn
          have HTS : Hid _ := hts
          have hts' : (tx.size : Int) ≤ 6 := by omega
          have HC : Hid _ := hc
          have hc2 : (c.toNat : Int) < 128 := by omega
          clear hu hsi hj hn hts hc
          go_wp2_with (go_at_call 78; refine hcc.mono ?_)
          rintro e w3 ⟨rfl, hb3⟩
          have hI3 := builder_below hI2 hb3
          have hit3 : w3.heap[w1.heap.size + 1]? = _ := (hb3.block (w1.heap.size + 1) (by omega)).trans hit2
          have hbw3 := hbw2.trans (hb3.mono (by omega))
          have hsz3 := hb3.size
          have hal2 : acc.length ≤ 8000000 := by have := HAL.out; omega
          go_wp2_with (go_at_call 46; refine (writeRune_any w1.heap.size w1.heap.size _ _ (by omega) (by omega) _ (hI3.alloc _) (by rw [Lib.byteCells_length]; omega) (by simp; omega)).mono ?_)
          rintro e W1 ⟨rfl, h1, b1, k1⟩
          go_wp2
          go_roundw
          case rel =>
            have hn : n = 1 := HNN.out
            have hts : tx.size = m := HTS.out
            have hit4 : (w3.alloc (.cells #[.int .i32 c.toNat, .string tx] 105)).heap[w1.heap.size + 1]? = some (.stringIter s (pos + (Utf8.decode s pos).2)) := (Below.heap_alloc _ _ _ (by omega)).trans hit3
            refine ⟨pos + 1, pos + m, acc ++ [c], ?_, by omega, hm1, ?_, ?_, (hbw3.alloc (by omega) _).trans b1, ?_, ?_, ?_, fun j q1 q2 => HJ.out j (by omega) q2⟩
            · rw [← hts]; go_num
            · rw [Lib.byteCells_append, ← enc_low c HC.out, Lib.byteCells_encodeRune]; exact Or.inr h1
            · rw [k1.iter hit4 (by omega), HDW.out, hn]
            · rw [HA.out, HM.out, HU.out, show max (pos + 1) (pos + m) = pos + m by omega]
              cases unesc (s.data.toList.drop (pos + m)) with
              | none => rfl
              | some x => simp
            · rw [← hn]; exact HRN.out
            · have := HAL.out
              rw [HM.out] at this
              simp
              omega
          case measure =>
            have hit4 : (w3.alloc (.cells #[.int .i32 c.toNat, .string tx] 105)).heap[w1.heap.size + 1]? = some (.stringIter s (pos + (Utf8.decode s pos).2)) := (Below.heap_alloc _ _ _ (by omega)).trans hit3
            have := HDW.out
            simp only [World.iterPos, k1.iter hit4 (by omega), hit]
            omega
        · have e60 : (((Utf8.decode s pos).1 : Int) == 60) = false := by simp; omega
          have e38 : (((Utf8.decode s pos).1 : Int) == 38) = false := by simp; omega
          have HU : Hid _ := hu
          clear hu hv1 hv2
          have hal2 : acc.length ≤ 8000000 := by have := HAL.out; omega
          go_wp2_with (go_at_call 46; refine (writeRune_any w1.heap.size w1.heap.size _ _ (by omega) (by omega) _ hI2 (by rw [Lib.byteCells_length]; omega) (by omega)).mono ?_)
          rintro e W1 ⟨rfl, h1, b1, k1⟩
          go_wp2
          go_roundw
          case rel =>
            have hl4 := Lib.runeCells_le ((Utf8.decode s pos).1 : Int)
            rw [Lib.runeCells_length] at hl4
            refine ⟨pos + n, past, acc ++ Lib.encodeRune (((Utf8.decode s pos).1 : Nat) : Int), rfl, hn2, hq0, ?_, ?_, hbw2.trans b1, ?_, HRN.out, ?_, by omega⟩
            · rw [Lib.byteCells_append, Lib.byteCells_encodeRune]; exact Or.inr h1
            · rw [k1.iter hit2 (by omega), HDW.out]
            · rw [HA.out, HM.out, HU.out, show max (pos + n) past = pos + n by omega]
              cases unesc (s.data.toList.drop (pos + n)) with
              | none => rfl
              | some x => simp
            · have := HAL.out
              rw [HM.out] at this
              simp
              omega
          case measure =>
            have := HDW.out
            simp only [World.iterPos, k1.iter hit2 (by omega), hit]
            omega
    · have hnx : ∀ ty, (Instr.next (.pointer (some ⟨w1.heap.size + 1, 0, none⟩)) true ty).run Tryz.prog wr = _ := fun ty => Lib.run_next_end_at wr (w1.heap.size + 1) s pos ty hit hp
      go_wp2_with (go_at_call 18; refine (Tryz.Builder_String_any_k w1.heap.size w1.heap.size acc _ hI (by omega)).mono ?_)
      rintro e W1 ⟨rfl, _, b1, _⟩
      go_wp2
      go_ret2
      have e2 : s.data.toList.drop (max pos past) = [] := List.drop_eq_nil_of_le (by rw [← size_list]; omega)
      have e3 := HA.out
      rw [e2, unesc_nil] at e3
      simp only [Option.map_some, List.append_nil] at e3
      exact ⟨ret_esc (a := (⟨acc.toArray⟩, 0)) (by unfold unescR; rw [e3]), hb1.trans ((hbw.trans b1).mono hs1)⟩
theorem unescape_any (s : ByteArray) (w : World) (hT : Tabs w) (hs : s.size ≤ 2000000) :
    Calls Tryz.prog 63 #[.string s] w fun e w' => e = .returned (.tuple #[.string (unescN s.data.toList).1, .int .i64 (unescN s.data.toList).2]) ∧ Below w.heap.size w w' := by
  cases hr : right s.data.toList with
  | true =>
    have e : unescN s.data.toList = unescR s.data.toList := by unfold unescN unescR; rw [hr]; cases unesc s.data.toList <;> rfl
    rw [e]
    exact unescape_yes s w hT hs hr
  | false =>
    have e : unescN s.data.toList = (⟨#[]⟩, 2) := by simp [unescN, hr]
    rw [e]
    exact unescape_no s w hT hs hr
end Go.Proofs.YthekdgnikkjpdaaGreatDoor
/-
  The contracts of the statements' own helpers, early and lives, over this program.
-/
namespace Go.Proofs.YthekdgnikkjpdaaGreatDoor
open Go.RowKit
def cutS (s : ByteArray) : ByteArray := s.extract 0 (min (s.size : Int) 300).toNat
theorem cutS_size (s : ByteArray) : (cutS s).size ≤ 300 := by
  unfold cutS
  simp [ByteArray.size_extract]
  omega
theorem ret_string {a b : ByteArray} (h : a = b) : Ending.returned (.string a) = .returned (.string b) := by rw [h]
theorem escape_at (s : ByteArray) (tx : ByteArray) (c : Int) (h : escN s.data.toList = (tx, c)) (w : World) (hT : Tabs w) (hs : s.size ≤ 2000000) :
    Calls Tryz.prog 34 #[.string s] w fun e w' => e = .returned (.tuple #[.string tx, .int .i64 c]) ∧ Below w.heap.size w w' := by
  have k := escape_any s w hT hs
  rw [h] at k
  exact k
theorem unescape_at (s : ByteArray) (tx : ByteArray) (c : Int) (h : unescN s.data.toList = (tx, c)) (w : World) (hT : Tabs w) (hs : s.size ≤ 2000000) :
    Calls Tryz.prog 63 #[.string s] w fun e w' => e = .returned (.tuple #[.string tx, .int .i64 c]) ∧ Below w.heap.size w w' := by
  have k := unescape_any s w hT hs
  rw [h] at k
  exact k
theorem whole_at (s : ByteArray) (n c : Int) (h : wholeN s.data.toList = (n, c)) (w : World) (hT : Tabs w) (hs : s.size ≤ 2000000) :
    Calls Tryz.prog 39 #[.string s] w fun e w' => e = .returned (.tuple #[.int .i64 n, .int .i64 c]) ∧ Below w.heap.size w w' := by
  have k := whole_any s w hT (by omega)
  rw [h] at k
  exact k
theorem name_at (s : ByteArray) (b : Bool) (h : name s.data.toList = b) (w : World) :
    Calls Tryz.prog 21 #[.string s] w fun e w' => e = .returned (.bool b) ∧ Below w.heap.size w w' := by
  have k := name_any s w
  rw [h] at k
  exact k
theorem mk_list (u : ByteArray) : (⟨u.data.toList.toArray⟩ : ByteArray) = u := rfl
theorem app_list (u v : ByteArray) : (u ++ v).data.toList = u.data.toList ++ v.data.toList := by simp
theorem app_size (u v : ByteArray) : (u ++ v).size = u.size + v.size := by simp
theorem take_list (u : ByteArray) (n : Nat) : (u.extract 0 n).data.toList = u.data.toList.take n := by
  rw [Lib.extract_data]
  simp
end Go.Proofs.YthekdgnikkjpdaaGreatDoor
