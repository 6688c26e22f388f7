/-
  The contract of the reference's pairs over this program, and of its Escape.
-/
import Derived.Test.YtjhiebpehpaapaaDoorRefd
namespace Go.Proofs.YtjhiebpehpaapaaDoor
open Go.RowKit
def pairCells : Array Value := #[.string ⟨#[38]⟩, .string ⟨#[38, 97, 109, 112, 59]⟩, .string ⟨#[60]⟩, .string ⟨#[38, 108, 116, 59]⟩, .string ⟨#[62]⟩, .string ⟨#[38, 103, 116, 59]⟩, .string ⟨#[34]⟩, .string ⟨#[38, 113, 117, 111, 116, 59]⟩, .string ⟨#[39]⟩, .string ⟨#[38, 97, 112, 111, 115, 59]⟩]
set_option maxHeartbeats 1000000 in
set_option maxRecDepth 100000 in
theorem pairs_any (w : World) : Calls Tryd.prog 32 #[] w fun e w' => e = .returned (.agg pairCells) ∧ Below w.heap.size w w' := by
  go_enter Tryd.func32, Tryd.ntmps32
  go_wp2
  refine bodyPost_ret (v := .agg pairCells) (by simp [results, Tryd.results32, go_sem, pairCells]) rfl ⟨rfl, ?_⟩
  exact (Below.refl _ _).alloc (Nat.le_refl _) _
theorem refRight_at (s : ByteArray) (c : Int) (hc : rightN s.data.toList = c) (hs : s.size ≤ 100000) (w : World) :
    Calls Tryd.prog 14 #[.string s] w fun e w' => e = .returned (.int .i64 c) ∧ w' = w := by
  have h := refRight_any s w hs
  rw [hc] at h
  exact h
def tK (a : UInt8) (k : Nat) : List UInt8 :=
  if 1 ≤ k ∧ a = 38 then [38, 97, 109, 112, 59] else if 2 ≤ k ∧ a = 60 then [38, 108, 116, 59] else if 3 ≤ k ∧ a = 62 then [38, 103, 116, 59]
  else if 4 ≤ k ∧ a = 34 then [38, 113, 117, 111, 116, 59] else if 5 ≤ k ∧ a = 39 then [38, 97, 112, 111, 115, 59] else [a]
theorem tK_0 (a : UInt8) : tK a 0 = [a] := by simp [tK]
theorem tK_5 (a : UInt8) : tK a 5 = esc1 a := by simp [tK, esc1]
theorem one_list (s : ByteArray) (k : Nat) (hk : k < s.size) : (s.extract k (k + 1)).data.toList = [s[k]'hk] := by
  rw [Lib.extract_data, drop_cons s k hk, getD_byte s k hk]
  simp
theorem one_eq (s : ByteArray) (k : Nat) (hk : k < s.size) (c : UInt8) : ((s.extract k (k + 1)).toList == [c]) = decide ((s[k]'hk) = c) := by
  rw [Lib.toList_data, one_list s k hk, Bool.eq_iff_iff]
  simp
theorem take_esc (s : ByteArray) (k : Nat) (hk : k < s.size) : esc (s.data.toList.take (k + 1)) = esc (s.data.toList.take k) ++ esc1 (s[k]'hk) := by
  have h : k < s.data.toList.length := by rw [← size_list]; exact hk
  rw [List.take_succ_eq_append_getElem h, esc_app]
  simp [esc]
  rfl
theorem array_of {a : ByteArray} {l : List UInt8} (h : a.data.toList = l) : a = ⟨l.toArray⟩ := by rw [← h]
theorem tK_hit0 : tK 38 1 = [38, 97, 109, 112, 59] := by decide
theorem tK_miss0 (a : UInt8) (h : a ≠ 38) : tK a 1 = tK a 0 := by simp [tK, h]
theorem tK_hit1 : tK 60 2 = [38, 108, 116, 59] := by decide
theorem tK_miss1 (a : UInt8) (h : a ≠ 60) : tK a 2 = tK a 1 := by simp [tK, h]
theorem tK_hit2 : tK 62 3 = [38, 103, 116, 59] := by decide
theorem tK_miss2 (a : UInt8) (h : a ≠ 62) : tK a 3 = tK a 2 := by simp [tK, h]
theorem tK_hit3 : tK 34 4 = [38, 113, 117, 111, 116, 59] := by decide
theorem tK_miss3 (a : UInt8) (h : a ≠ 34) : tK a 4 = tK a 3 := by simp [tK, h]
theorem tK_hit4 : tK 39 5 = [38, 97, 112, 111, 115, 59] := by decide
theorem tK_miss4 (a : UInt8) (h : a ≠ 39) : tK a 5 = tK a 4 := by simp [tK, h]
set_option maxHeartbeats 1000000 in
theorem refEscape_no (s : ByteArray) (w : World) (hs : s.size ≤ 100000) (hr : right s.data.toList = false) :
    Calls Tryd.prog 18 #[.string s] w fun e w' => e = .returned (.tuple #[.string ⟨#[]⟩, .int .i64 2]) ∧ Below w.heap.size w w' := by
  have h := refRight_at s 2 (by simp [rightN, hr]) hs
  clear hr
  go_enter Tryd.func18, Tryd.ntmps18
  go_wp2_with (go_at_call 14; refine (h _).mono ?_; rintro e w' ⟨rfl, rfl⟩)
  go_ret2
  exact ⟨rfl, Below.refl _ _⟩
set_option maxHeartbeats 4000000 in
set_option maxRecDepth 100000 in
theorem refEscape_yes (s : ByteArray) (w : World) (hs : s.size ≤ 100000) (hr : right s.data.toList = true) :
    Calls Tryd.prog 18 #[.string s] w fun e w' => e = .returned (.tuple #[.string ⟨(esc s.data.toList).toArray⟩, .int .i64 0]) ∧ Below w.heap.size w w' := by
  have h := refRight_at s 0 (by simp [rightN, hr]) hs
  clear hr
  go_enter Tryd.func18, Tryd.ntmps18
  go_wp2_with (go_at_call 14; refine (h _).mono ?_; rintro e w' ⟨rfl, rfl⟩)
  have kp := pairs_any
  unfold pairCells at kp
  go_wp2_with (go_at_call 32; refine (kp _).mono ?_)
  rintro e w1 ⟨rfl, b1⟩
  clear h kp
  go_wp2
  have hs1 := b1.size
  have hs1 := b1.size
  go_loopw [4, 6] (fun out i wr => ∃ (k : Nat) (o : ByteArray), k ≤ s.size ∧ i = .int .i64 k ∧ out = .string o ∧ o.data.toList = esc (s.data.toList.take k) ∧ Below w1.heap.size w1 wr ∧ wr.heap[w1.heap.size]? = some (.cells pairCells 50 (0, 0))) (fun _ i _ => s.size - (intOf i).toNat)
  case atStart => exact ⟨0, ⟨#[]⟩, Nat.zero_le _, rfl, rfl, rfl, (Below.refl _ _).alloc (Nat.le_refl _) _, Array.getElem?_push_size⟩
  case round =>
    obtain ⟨k, o, hk, rfl, rfl, ho, hbw, hres⟩ := hrel
    have hsz : w1.heap.size < wr.heap.size := (Array.getElem?_eq_some_iff.1 hres).1
    have HO : Hid _ := ho
    have ho2 : (o.size : Int) ≤ 600000 := by
      have q := (esc_length (s.data.toList.take k)).2
      rw [← ho, ← size_list, List.length_take, ← size_list] at q
      omega
    clear ho
    by_cases hlt : k < s.size
    · go_wp2
      go_loopw [7, 8] (fun t j wq => ∃ (m : Nat) (x : ByteArray), m ≤ 5 ∧ j = .int .i64 m ∧ t = .string x ∧ x.data.toList = tK (s[k]'hlt) m ∧ Below w1.heap.size w1 wq ∧ wq.heap[w1.heap.size]? = some (.cells pairCells 50 (0, 0))) (fun _ j _ => 5 - (intOf j).toNat)
      case atStart => exact ⟨0, _, by omega, rfl, rfl, by rw [one_list s k hlt, tK_0], hbw, hres⟩
      case round =>
        obtain ⟨m, x, hm, rfl, rfl, hx, hbq, hrq⟩ := hrel
        have c0 : wr.cell? ⟨w1.heap.size, 0, none⟩ = some (.string ⟨#[38]⟩) := by rw [Lib.cell_of_heap hrq]; rfl
        have c1 : wr.cell? ⟨w1.heap.size, 1, none⟩ = some (.string ⟨#[38, 97, 109, 112, 59]⟩) := by rw [Lib.cell_of_heap hrq]; rfl
        have c2 : wr.cell? ⟨w1.heap.size, 2, none⟩ = some (.string ⟨#[60]⟩) := by rw [Lib.cell_of_heap hrq]; rfl
        have c3 : wr.cell? ⟨w1.heap.size, 3, none⟩ = some (.string ⟨#[38, 108, 116, 59]⟩) := by rw [Lib.cell_of_heap hrq]; rfl
        have c4 : wr.cell? ⟨w1.heap.size, 4, none⟩ = some (.string ⟨#[62]⟩) := by rw [Lib.cell_of_heap hrq]; rfl
        have c5 : wr.cell? ⟨w1.heap.size, 5, none⟩ = some (.string ⟨#[38, 103, 116, 59]⟩) := by rw [Lib.cell_of_heap hrq]; rfl
        have c6 : wr.cell? ⟨w1.heap.size, 6, none⟩ = some (.string ⟨#[34]⟩) := by rw [Lib.cell_of_heap hrq]; rfl
        have c7 : wr.cell? ⟨w1.heap.size, 7, none⟩ = some (.string ⟨#[38, 113, 117, 111, 116, 59]⟩) := by rw [Lib.cell_of_heap hrq]; rfl
        have c8 : wr.cell? ⟨w1.heap.size, 8, none⟩ = some (.string ⟨#[39]⟩) := by rw [Lib.cell_of_heap hrq]; rfl
        have c9 : wr.cell? ⟨w1.heap.size, 9, none⟩ = some (.string ⟨#[38, 97, 112, 111, 115, 59]⟩) := by rw [Lib.cell_of_heap hrq]; rfl
        have hm' : m = 0 ∨ m = 1 ∨ m = 2 ∨ m = 3 ∨ m = 4 ∨ m = 5 := by omega
        have hk1 : (k : Int) + 1 ≤ s.size := by omega
        have HX : Hid _ := hx
        have HR : Hid _ := hrq
        clear hx hrq hres
        rcases hm' with rfl | rfl | rfl | rfl | rfl | rfl
        · have eq1 := one_eq s k hlt 38
          by_cases ha : (s[k]'hlt) = 38
          · rw [decide_eq_true ha] at eq1
            have HC : Hid _ := ha
            clear ha
            go_wp2
            go_quiet (fail)
            go_wp2
            go_roundw
            case rel => exact ⟨1, ⟨#[38, 97, 109, 112, 59]⟩, by omega, rfl, rfl, by rw [HC.out, tK_hit0], below_drewN hbq _, HR.out⟩
            case measure => simp [intOf]
          · rw [decide_eq_false ha] at eq1
            have HC : Hid _ := ha
            clear ha
            go_wp2
            go_quiet (fail)
            go_wp2
            go_roundw
            case rel => exact ⟨1, x, by omega, rfl, rfl, by rw [HX.out, tK_miss0 _ HC.out], below_drewN hbq _, HR.out⟩
            case measure => simp [intOf]
        · have eq1 := one_eq s k hlt 60
          by_cases ha : (s[k]'hlt) = 60
          · rw [decide_eq_true ha] at eq1
            have HC : Hid _ := ha
            clear ha
            go_wp2
            go_quiet (fail)
            go_wp2
            go_roundw
            case rel => exact ⟨2, ⟨#[38, 108, 116, 59]⟩, by omega, rfl, rfl, by rw [HC.out, tK_hit1], below_drewN hbq _, HR.out⟩
            case measure => simp [intOf]
          · rw [decide_eq_false ha] at eq1
            have HC : Hid _ := ha
            clear ha
            go_wp2
            go_quiet (fail)
            go_wp2
            go_roundw
            case rel => exact ⟨2, x, by omega, rfl, rfl, by rw [HX.out, tK_miss1 _ HC.out], below_drewN hbq _, HR.out⟩
            case measure => simp [intOf]
        · have eq1 := one_eq s k hlt 62
          by_cases ha : (s[k]'hlt) = 62
          · rw [decide_eq_true ha] at eq1
            have HC : Hid _ := ha
            clear ha
            go_wp2
            go_quiet (fail)
            go_wp2
            go_roundw
            case rel => exact ⟨3, ⟨#[38, 103, 116, 59]⟩, by omega, rfl, rfl, by rw [HC.out, tK_hit2], below_drewN hbq _, HR.out⟩
            case measure => simp [intOf]
          · rw [decide_eq_false ha] at eq1
            have HC : Hid _ := ha
            clear ha
            go_wp2
            go_quiet (fail)
            go_wp2
            go_roundw
            case rel => exact ⟨3, x, by omega, rfl, rfl, by rw [HX.out, tK_miss2 _ HC.out], below_drewN hbq _, HR.out⟩
            case measure => simp [intOf]
        · have eq1 := one_eq s k hlt 34
          by_cases ha : (s[k]'hlt) = 34
          · rw [decide_eq_true ha] at eq1
            have HC : Hid _ := ha
            clear ha
            go_wp2
            go_quiet (fail)
            go_wp2
            go_roundw
            case rel => exact ⟨4, ⟨#[38, 113, 117, 111, 116, 59]⟩, by omega, rfl, rfl, by rw [HC.out, tK_hit3], below_drewN hbq _, HR.out⟩
            case measure => simp [intOf]
          · rw [decide_eq_false ha] at eq1
            have HC : Hid _ := ha
            clear ha
            go_wp2
            go_quiet (fail)
            go_wp2
            go_roundw
            case rel => exact ⟨4, x, by omega, rfl, rfl, by rw [HX.out, tK_miss3 _ HC.out], below_drewN hbq _, HR.out⟩
            case measure => simp [intOf]
        · have eq1 := one_eq s k hlt 39
          by_cases ha : (s[k]'hlt) = 39
          · rw [decide_eq_true ha] at eq1
            have HC : Hid _ := ha
            clear ha
            go_wp2
            go_quiet (fail)
            go_wp2
            go_roundw
            case rel => exact ⟨5, ⟨#[38, 97, 112, 111, 115, 59]⟩, by omega, rfl, rfl, by rw [HC.out, tK_hit4], below_drewN hbq _, HR.out⟩
            case measure => simp [intOf]
          · rw [decide_eq_false ha] at eq1
            have HC : Hid _ := ha
            clear ha
            go_wp2
            go_quiet (fail)
            go_wp2
            go_roundw
            case rel => exact ⟨5, x, by omega, rfl, rfl, by rw [HX.out, tK_miss4 _ HC.out], below_drewN hbq _, HR.out⟩
            case measure => simp [intOf]
        · have hx2 : (x.size : Int) ≤ 6 := by
            have q := (esc1_length (s[k]'hlt)).2
            have q2 := HX.out
            rw [tK_5] at q2
            rw [← q2, ← size_list] at q
            omega
          go_wp2
          go_roundw
          case rel =>
            refine ⟨k + 1, o ++ x, by omega, by go_num, rfl, ?_, hbq, HR.out⟩
            rw [app_list, HO.out, HX.out, tK_5, take_esc s k hlt]
          case measure => simp [intOf]; omega
    · go_wp2
      go_ret2
      have e : o = ⟨(esc s.data.toList).toArray⟩ := array_of (by rw [HO.out, List.take_of_length_le (by rw [← size_list]; omega)])
      exact ⟨ret_esc (a := (o, 0)) (b := (_, 0)) (by rw [e]), b1.trans (hbw.mono hs1)⟩
theorem refEscape_any (s : ByteArray) (w : World) (hs : s.size ≤ 100000) :
    Calls Tryd.prog 18 #[.string s] w fun e w' => e = .returned (.tuple #[.string (escN s.data.toList).1, .int .i64 (escN s.data.toList).2]) ∧ Below w.heap.size w w' := by
  cases hr : right s.data.toList with
  | true =>
    have e : escN s.data.toList = (⟨(esc s.data.toList).toArray⟩, 0) := by simp [escN, hr]
    rw [e]
    exact refEscape_yes s w hs hr
  | false =>
    have e : escN s.data.toList = (⟨#[]⟩, 2) := by simp [escN, hr]
    rw [e]
    exact refEscape_no s w hs hr
end Go.Proofs.YtjhiebpehpaapaaDoor
