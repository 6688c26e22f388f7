/-
  The contract of signs.Escape over this program: for every string of at most 100000 bytes.
-/
import Derived.Test.YthekdgnikkjpdaaGreatDoorWalkg
namespace Go.Proofs.YthekdgnikkjpdaaGreatDoor
open Go.RowKit
theorem builderAt_below {T e : TypeId} {B b : Nat} {p : Value} {bs : List Value} {w w' : World} (h : Lib.BuilderAtF T e B b p bs w) (hb : Below w.heap.size w w') : Lib.BuilderAtF T e B b p bs w' := by
  have hlt := h.lt
  obtain ⟨hB, v, hbk, ⟨hl, hown⟩, hne⟩ := h
  refine ⟨hB, v, by rw [hb.block b hlt]; exact hbk, ⟨hl, ?_⟩, hne⟩
  rcases hown with h1 | ⟨g, cap, cur, fz, h1, h2, h3, h4⟩
  · exact .inl h1
  · exact .inr ⟨g, cap, cur, fz, h1, h2, by rw [hb.block g (Array.getElem?_eq_some_iff.1 h3).1]; exact h3, h4⟩
theorem builder_below {T e : TypeId} {B b : Nat} {bs : List Value} {w w' : World} (h : Lib.IsBuilderF T e B b bs w) (hb : Below w.heap.size w w') : Lib.IsBuilderF T e B b bs w' :=
  h.elim (fun x => .inl (builderAt_below x hb)) (fun x => .inr (builderAt_below x hb))
theorem textFor_at (r : Int) (tx : ByteArray) (b : Bool) (h : textI r = (tx, b)) (w : World) (hT : Tabs w) :
    Calls Tryz.prog 45 #[.int .i32 r] w fun e w' => e = .returned (.tuple #[.string tx, .bool b]) ∧ Below w.heap.size w w' := by
  have k := textFor_any r w hT
  rw [h] at k
  exact k
theorem text_five (a : UInt8) (h : five a = true) : textI (a.toNat : Int) = (⟨(esc1 a).toArray⟩, true) := by
  simp [five] at h
  rcases h with (((rfl | rfl) | rfl) | rfl) | rfl <;> rfl
theorem text_no {r : Int} (h1 : r ≠ 38) (h2 : r ≠ 60) (h3 : r ≠ 62) (h4 : r ≠ 34) (h5 : r ≠ 39) : textI r = (⟨#[]⟩, false) := by
  unfold textI
  rw [if_neg h1, if_neg h2, if_neg h3, if_neg h4, if_neg h5]
theorem text_other (a : UInt8) (h : five a = false) : textI (a.toNat : Int) = (⟨#[]⟩, false) := by
  simp [five, ← UInt8.toNat_inj] at h
  exact text_no (by omega) (by omega) (by omega) (by omega) (by omega)
theorem strCells_bytes (l : List UInt8) : Lib.strCells ⟨l.toArray⟩ = Lib.byteCells l := by
  simp [Lib.strCells, Lib.byteCells]

/-- One sign of a right text: what the language reads there, and what goes out for it. -/
theorem esc_step (s : ByteArray) (pos : Nat) (hp : pos < s.size) (hr : right (s.data.toList.drop pos) = true) :
    ∃ n : Nat, 1 ≤ n ∧ pos + n ≤ s.size ∧ (Utf8.decode s pos).2 = n ∧ (Utf8.decode s pos).1 ≤ 1114111 ∧ right (s.data.toList.drop (pos + n)) = true ∧
      ((∃ tx : List UInt8, textI (((Utf8.decode s pos).1 : Nat) : Int) = (⟨tx.toArray⟩, true) ∧ tx.length ≤ 6 ∧ esc (s.data.toList.drop pos) = tx ++ esc (s.data.toList.drop (pos + n))) ∨
       (textI (((Utf8.decode s pos).1 : Nat) : Int) = (⟨#[]⟩, false) ∧ esc (s.data.toList.drop pos) = Lib.encodeRune (((Utf8.decode s pos).1 : Nat) : Int) ++ esc (s.data.toList.drop (pos + n)))) := by
  obtain ⟨n, h1, h2, h3, _, h5⟩ := right_step hr (drop_ne hp)
  have hd := decode_at s pos hp
  have c1 : 1 ≤ (sg (s.data.toList.drop pos)).2 := by omega
  rw [if_pos c1, h3] at hd
  rw [List.length_drop, ← size_list] at h2
  rw [List.drop_drop] at h5
  refine ⟨n, h1, by omega, by rw [hd]; simp, by rw [hd]; exact (sgWay _).bound, h5, ?_⟩
  by_cases hn : n = 1
  · subst hn
    obtain ⟨a, t, ha, hl, hv⟩ := (sgWay (s.data.toList.drop pos)).low (by rw [h3]; rfl)
    have hdr := drop_cons s pos hp
    rw [ha] at hdr
    have ht : t = s.data.toList.drop (pos + 1) := (List.cons.inj hdr).2
    have hd1 : (Utf8.decode s pos).1 = a.toNat := by rw [hd]; exact hv
    rw [hd1]
    cases hf : five a with
    | true =>
      refine .inl ⟨esc1 a, text_five a hf, (esc1_length a).2, ?_⟩
      rw [ha, ← ht]
      rfl
    | false =>
      refine .inr ⟨text_other a hf, ?_⟩
      have he := sg_enc (s.data.toList.drop pos) c1
      rw [hv, h3] at he
      rw [he, ha, ← ht]
      simp [esc, esc1_no hf]
  · have hh := (sgWay (s.data.toList.drop pos)).high (by omega)
    have hd1 : (Utf8.decode s pos).1 = (sg (s.data.toList.drop pos)).1 := by rw [hd]
    rw [hd1]
    refine .inr ⟨text_no (by omega) (by omega) (by omega) (by omega) (by omega), ?_⟩
    rw [sg_enc _ c1]
    rw [h3] at hh ⊢
    simp only [Int.toNat_natCast] at hh ⊢
    have e : esc (s.data.toList.drop pos) = esc ((s.data.toList.drop pos).take n ++ (s.data.toList.drop pos).drop n) := by rw [List.take_append_drop]
    rw [e, esc_app, esc_no _ fun b hb => five_high (hh.2 b hb), List.drop_drop]

def escN (l : List UInt8) : ByteArray × Int := if right l then (⟨(esc l).toArray⟩, 0) else (⟨#[]⟩, 2)
theorem ret_esc {a b : ByteArray × Int} (h : a = b) : Ending.returned (.tuple #[.string a.1, .int .i64 a.2]) = .returned (.tuple #[.string b.1, .int .i64 b.2]) := by rw [h]
theorem right_at (s : ByteArray) (c : Int) (hc : rightN s.data.toList = c) (w : World) (hT : Tabs w) (hs : s.size ≤ 35184372088832) :
    Calls Tryz.prog 23 #[.string s] w fun e w' => e = .returned (.int .i64 c) ∧ Below w.heap.size w w' := by
  have h := right_any s w hT hs
  rw [hc] at h
  exact h
set_option maxHeartbeats 1000000 in
theorem escape_no (s : ByteArray) (w : World) (hT : Tabs w) (hs : s.size ≤ 2000000) (hr : right s.data.toList = false) :
    Calls Tryz.prog 34 #[.string s] w fun e w' => e = .returned (.tuple #[.string ⟨#[]⟩, .int .i64 2]) ∧ Below w.heap.size w w' := by
  have h := right_at s 2 (by simp [rightN, hr]) w hT (by omega)
  clear hr
  go_enter Tryz.func34, Tryz.ntmps34
  go_wp2_with (go_at_call 23; refine h.mono ?_; rintro e w' ⟨rfl, hb⟩)
  go_ret2
  exact ⟨rfl, hb⟩
set_option maxHeartbeats 4000000 in
set_option maxRecDepth 100000 in
theorem escape_yes (s : ByteArray) (w : World) (hT : Tabs w) (hs : s.size ≤ 2000000) (hr : right s.data.toList = true) :
    Calls Tryz.prog 34 #[.string s] w fun e w' => e = .returned (.tuple #[.string ⟨(esc s.data.toList).toArray⟩, .int .i64 0]) ∧ Below w.heap.size w w' := by
  have h := right_at s 0 (by simp [rightN, hr]) w hT (by omega)
  have HR : Hid _ := hr
  have hT3 := hT.size
  clear hr
  go_enter Tryz.func34, Tryz.ntmps34
  go_wp2_with (go_at_call 23; refine h.mono ?_)
  rintro e w1 ⟨rfl, hb1⟩
  have hT1 : Tabs w1 := hT.below hT3 hb1
  have hT13 := hT1.size
  have hs1 := hb1.size
  clear h
  go_wp2
  go_loopw [] (fun wr => ∃ (pos : Nat) (acc : List UInt8), pos ≤ s.size ∧ Lib.IsBuilderF 46 5 w1.heap.size w1.heap.size (Lib.byteCells acc) wr ∧ wr.heap[w1.heap.size + 1]? = some (.stringIter s pos) ∧ Below w1.heap.size w1 wr ∧ acc ++ esc (s.data.toList.drop pos) = esc s.data.toList ∧ right (s.data.toList.drop pos) = true ∧ acc.length ≤ 6 * pos) (fun wr => s.size - wr.iterPos (w1.heap.size + 1))
  case atStart =>
    refine ⟨0, [], Nat.zero_le _, (Lib.IsBuilderF.of (Lib.fresh_isBuilder 46 5 w1)).alloc _, ?_, ((Below.refl _ w1).alloc (Nat.le_refl _) _).alloc (by simp) _, rfl, HR.out, by simp⟩
    have := World.iter_heap (w1.alloc (.cells #[.pointer none, .slice none 0 0] 46)) s 0
    simpa using this
  case round =>
    obtain ⟨pos, acc, hp0, hI, hit, hbw, hacc, hrt, hal⟩ := hrel
    have hsz : w1.heap.size + 1 < wr.heap.size := (Array.getElem?_eq_some_iff.1 hit).1
    have HA : Hid _ := hacc
    have HRT : Hid _ := hrt
    clear hacc hrt
    by_cases hp : pos < s.size
    · have hnx : ∀ ty, (Instr.next (.pointer (some ⟨w1.heap.size + 1, 0, none⟩)) true ty).run Tryz.prog wr = _ := fun ty => Lib.run_next_any_at wr (w1.heap.size + 1) s pos ty hit hp
      obtain ⟨n, hn1, hn2, hdw, hdv, hrn, hst⟩ := esc_step s pos hp HRT.out
      have HDW : Hid _ := hdw
      have HRN : Hid _ := hrn
      clear hdw hrn
      have hI2 := hI.iterAt hit (pos + (Utf8.decode s pos).2)
      have hit2 := Lib.iterAt_heap wr (w1.heap.size + 1) s pos (pos + (Utf8.decode s pos).2) hit
      have hbw2 := Lib.below_iterAt hbw (k := w1.heap.size + 1) (by omega) s (pos + (Utf8.decode s pos).2)
      have hsz2 : w1.heap.size + 1 < (wr.iterAt (w1.heap.size + 1) s (pos + (Utf8.decode s pos).2)).heap.size := by rw [Lib.iterAt_size]; omega
      have hT2 := hT1.below hT13 hbw2
      rcases hst with ⟨tx, htx, htl, hes⟩ | ⟨htx, hes⟩
      · have hc := textFor_at _ _ _ htx _ hT2
        have HES : Hid _ := hes
        clear htx hes
        go_wp2_with (go_at_call 45; refine hc.mono ?_)
        rintro e w3 ⟨rfl, hb3⟩
        have hI3 := builder_below hI2 hb3
        have hit3 : w3.heap[w1.heap.size + 1]? = _ := (hb3.block (w1.heap.size + 1) (by omega)).trans hit2
        have hbw3 := hbw2.trans (hb3.mono (by omega))
        have hsz3 := hb3.size
        go_wp2_with (go_at_call 15; refine (writeString_any w1.heap.size w1.heap.size _ _ _ hI3 (by rw [Lib.byteCells_length]; simp [ByteArray.size]; omega) (by omega)).mono ?_)
        rintro e W1 ⟨rfl, h1, b1, k1⟩
        go_wp2
        go_roundw
        case rel =>
          refine ⟨pos + n, acc ++ tx, hn2, ?_, ?_, hbw3.trans b1, ?_, HRN.out, by simp; omega⟩
          · rw [Lib.byteCells_append, ← strCells_bytes tx]; exact Or.inr h1
          · rw [k1.iter hit3 (by omega), HDW.out]
          · rw [← HA.out, HES.out, List.append_assoc]
        case measure =>
          have := HDW.out
          simp only [World.iterPos, k1.iter hit3 (by omega), hit]
          omega
      · have hc := textFor_at _ _ _ htx _ hT2
        have HES : Hid _ := hes
        clear htx hes
        go_wp2_with (go_at_call 45; refine hc.mono ?_)
        rintro e w3 ⟨rfl, hb3⟩
        have hI3 := builder_below hI2 hb3
        have hit3 : w3.heap[w1.heap.size + 1]? = _ := (hb3.block (w1.heap.size + 1) (by omega)).trans hit2
        have hbw3 := hbw2.trans (hb3.mono (by omega))
        have hsz3 := hb3.size
        go_wp2_with (go_at_call 46; refine (writeRune_any w1.heap.size w1.heap.size _ _ (by omega) (by omega) _ hI3 (by rw [Lib.byteCells_length]; omega) (by omega)).mono ?_)
        rintro e W1 ⟨rfl, h1, b1, k1⟩
        go_wp2
        go_roundw
        case rel =>
          have hl4 := Lib.runeCells_le ((Utf8.decode s pos).1 : Int)
          rw [Lib.runeCells_length] at hl4
          refine ⟨pos + n, acc ++ Lib.encodeRune (((Utf8.decode s pos).1 : Nat) : Int), hn2, ?_, ?_, hbw3.trans b1, ?_, HRN.out, by simp; omega⟩
          · rw [Lib.byteCells_append, Lib.byteCells_encodeRune]; exact Or.inr h1
          · rw [k1.iter hit3 (by omega), HDW.out]
          · rw [← HA.out, HES.out, List.append_assoc]
        case measure =>
          have := HDW.out
          simp only [World.iterPos, k1.iter hit3 (by omega), hit]
          omega
    · have hnx : ∀ ty, (Instr.next (.pointer (some ⟨w1.heap.size + 1, 0, none⟩)) true ty).run Tryz.prog wr = _ := fun ty => Lib.run_next_end_at wr (w1.heap.size + 1) s pos ty hit hp
      go_wp2_with (go_at_call 18; refine (Tryz.Builder_String_any_k w1.heap.size w1.heap.size acc _ hI (by omega)).mono ?_)
      rintro e W1 ⟨rfl, _, b1, _⟩
      go_wp2
      go_ret2
      have e2 : s.data.toList.drop pos = [] := List.drop_eq_nil_of_le (by rw [← size_list]; omega)
      have e3 := HA.out
      rw [e2] at e3
      simp only [esc, List.append_nil] at e3
      exact ⟨ret_esc (a := (⟨acc.toArray⟩, 0)) (b := (_, 0)) (by rw [e3]), hb1.trans ((hbw.trans b1).mono hs1)⟩
theorem escape_any (s : ByteArray) (w : World) (hT : Tabs w) (hs : s.size ≤ 2000000) :
    Calls Tryz.prog 34 #[.string s] w fun e w' => e = .returned (.tuple #[.string (escN s.data.toList).1, .int .i64 (escN s.data.toList).2]) ∧ Below w.heap.size w w' := by
  cases hr : right s.data.toList with
  | true =>
    have e : escN s.data.toList = (⟨(esc s.data.toList).toArray⟩, 0) := by simp [escN, hr]
    rw [e]
    exact escape_yes s w hT hs hr
  | false =>
    have e : escN s.data.toList = (⟨#[]⟩, 2) := by simp [escN, hr]
    rw [e]
    exact escape_no s w hT hs hr
end Go.Proofs.YthekdgnikkjpdaaGreatDoor
