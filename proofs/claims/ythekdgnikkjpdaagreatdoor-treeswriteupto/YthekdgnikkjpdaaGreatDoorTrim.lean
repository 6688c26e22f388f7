/-
  The contracts of strings.TrimLeft and strings.TrimRight over this program, at the cutset of the four blanks: for every string.
-/
import Derived.Test.YthekdgnikkjpdaaGreatDoorWalkk
import Derived.Deep.WholeRow
namespace Go.Proofs.YthekdgnikkjpdaaGreatDoor
open Go.RowKit
def blanks : ByteArray := ⟨#[32, 9, 10, 13]⟩
def bl (c : UInt8) : Bool := [32, 9, 10, 13].contains c
def trimL (l : List UInt8) : List UInt8 := l.dropWhile bl
def trimR (l : List UInt8) : List UInt8 := (l.reverse.dropWhile bl).reverse
def sizeS : Value → Nat | .string s => s.size | _ => 0
theorem trimL_cons_yes {c : UInt8} (l : List UInt8) (h : bl c = true) : trimL (c :: l) = trimL l := by simp [trimL, h]
theorem trimL_cons_no {c : UInt8} (l : List UInt8) (h : bl c = false) : trimL (c :: l) = c :: l := by simp [trimL, h]
theorem trimR_snoc_yes {c : UInt8} (l : List UInt8) (h : bl c = true) : trimR (l ++ [c]) = trimR l := by simp [trimR, h]
theorem trimR_snoc_no {c : UInt8} (l : List UInt8) (h : bl c = false) : trimR (l ++ [c]) = l ++ [c] := by simp [trimR, h]
theorem list_head (x : ByteArray) (h : 0 < x.size) : x.data.toList = x[0] :: (x.extract 1 x.size).data.toList := by
  have e : (x.extract 1 x.size).data.toList = x.data.toList.drop 1 := by
    rw [Lib.extract_data]
    exact List.take_of_length_le (by simp)
  rw [e]
  exact (List.drop_eq_getElem_cons (i := 0) (l := x.data.toList) (by simpa using h))
theorem list_last (x : ByteArray) (h : 0 < x.size) : x.data.toList = (x.extract 0 (x.size - 1)).data.toList ++ [x[x.size - 1]'(by omega)] := by
  have e : (x.extract 0 (x.size - 1)).data.toList = x.data.toList.take (x.size - 1) := by
    rw [Lib.extract_data]
    simp
  have hl : x.data.toList.length = x.size := by simp
  rw [e]
  have h2 := List.take_succ_eq_append_getElem (l := x.data.toList) (i := x.size - 1) (by omega)
  rw [show x.size - 1 + 1 = x.size by omega, List.take_of_length_le (by omega)] at h2
  exact h2
theorem ret_str {a b : ByteArray} (h : a = b) : Ending.returned (.string a) = .returned (.string b) := by rw [h]
theorem mk_of_list {x : ByteArray} {l : List UInt8} (h : x.data.toList = l) : x = ⟨l.toArray⟩ := by rw [← h]
set_option maxHeartbeats 1000000 in
theorem trimLeftASCII_any (s : ByteArray) (b : Nat) (w : World) (hc : ∀ x : UInt8, w.cell? ⟨b, x.toNat, none⟩ = some (.bool (bl x))) :
    Calls Tryz.prog 71 #[.string s, .pointer (some ⟨b, 0, none⟩)] w fun e w' => e = .returned (.string ⟨(trimL s.data.toList).toArray⟩) ∧ w' = w := by
  have HC : Hid _ := hc
  clear hc
  go_enter Tryz.func71, Tryz.ntmps71
  go_wp2
  go_loop [0] (fun v => ∃ x : ByteArray, v = .string x ∧ trimL s.data.toList = trimL x.data.toList) (fun v => sizeS v)
  case atStart => exact ⟨s, rfl, rfl⟩
  case round =>
    obtain ⟨x, rfl, hx⟩ := hrel
    have HX : Hid _ := hx
    clear hx
    by_cases h0 : 0 < x.size
    · have HL : Hid _ := list_head x h0
      have hcx := HC.out (x[0]'h0)
      have HS : Hid ((x.extract 1 x.size).size = x.size - 1) := by show _ = _; simp [ByteArray.size_extract]
      cases hb : bl (x[0]'h0) with
      | true =>
        rw [hb] at hcx
        have HB : Hid _ := hb
        clear hb
        go_wp2_with (go_at_call 84; refine (Tryz.asciiSet_contains _ (x[0]'h0) _ _ hcx).mono ?_; rintro e w' ⟨rfl, hw⟩; rw [hw])
        go_round
        case rel => exact ⟨_, rfl, by rw [HX.out, HL.out, trimL_cons_yes _ HB.out]⟩
        case measure =>
          have := HS.out
          simp only [sizeS]
          omega
      | false =>
        rw [hb] at hcx
        have HB : Hid _ := hb
        clear hb
        go_wp2_with (go_at_call 84; refine (Tryz.asciiSet_contains _ (x[0]'h0) _ _ hcx).mono ?_; rintro e w' ⟨rfl, hw⟩; rw [hw])
        go_ret
        exact ⟨ret_str (mk_of_list (by rw [HX.out, HL.out, trimL_cons_no _ HB.out])), rfl⟩
    · go_wp2
      go_ret
      exact ⟨ret_str (mk_of_list (by
        have e : x.data.toList = [] := List.eq_nil_of_length_eq_zero (by rw [← size_list]; omega)
        rw [HX.out, e]; rfl)), rfl⟩
set_option maxHeartbeats 1000000 in
theorem trimRightASCII_any (s : ByteArray) (b : Nat) (w : World) (hs : s.size ≤ 2000000) (hc : ∀ x : UInt8, w.cell? ⟨b, x.toNat, none⟩ = some (.bool (bl x))) :
    Calls Tryz.prog 72 #[.string s, .pointer (some ⟨b, 0, none⟩)] w fun e w' => e = .returned (.string ⟨(trimR s.data.toList).toArray⟩) ∧ w' = w := by
  have HC : Hid _ := hc
  clear hc
  go_enter Tryz.func72, Tryz.ntmps72
  go_wp2
  go_loop [0] (fun v => ∃ x : ByteArray, v = .string x ∧ x.size ≤ 2000000 ∧ trimR s.data.toList = trimR x.data.toList) (fun v => sizeS v)
  case atStart => exact ⟨s, rfl, hs, rfl⟩
  case round =>
    obtain ⟨x, rfl, hz, hx⟩ := hrel
    have HX : Hid _ := hx
    clear hx
    by_cases h0 : 0 < x.size
    · have HL : Hid _ := list_last x h0
      have h1 : x.size - 1 < x.size := by omega
      have hcx := HC.out (x[x.size - 1]'h1)
      have hwr : ((x.size : Int) - 1 + 9223372036854775808) % 18446744073709551616 - 9223372036854775808 = ((x.size - 1 : Nat) : Int) := by omega
      have hcast : (x.size : Int) - 1 = ((x.size - 1 : Nat) : Int) := by omega
      have HS : Hid ((x.extract 0 (x.size - 1)).size = x.size - 1) := by show _ = _; simp [ByteArray.size_extract]
      cases hb : bl (x[x.size - 1]'h1) with
      | true =>
        rw [hb] at hcx
        have HB : Hid _ := hb
        clear hb
        go_wp2_with (go_at_call 84; refine (Tryz.asciiSet_contains _ (x[x.size - 1]'h1) _ _ hcx).mono ?_; rintro e w' ⟨rfl, hw⟩; rw [hw])
        go_round
        case rel => exact ⟨_, rfl, by have := HS.out; omega, by rw [HX.out, HL.out, trimR_snoc_yes _ HB.out]⟩
        case measure =>
          have := HS.out
          simp only [sizeS]
          omega
      | false =>
        rw [hb] at hcx
        have HB : Hid _ := hb
        clear hb
        go_wp2_with (go_at_call 84; refine (Tryz.asciiSet_contains _ (x[x.size - 1]'h1) _ _ hcx).mono ?_; rintro e w' ⟨rfl, hw⟩; rw [hw])
        go_ret
        exact ⟨ret_str (mk_of_list (by rw [HX.out, HL.out, trimR_snoc_no _ HB.out])), rfl⟩
    · go_wp2
      go_ret
      exact ⟨ret_str (mk_of_list (by
        have e : x.data.toList = [] := List.eq_nil_of_length_eq_zero (by rw [← size_list]; omega)
        rw [HX.out, e]; rfl)), rfl⟩
def setB : Array Value := Lib.setCells [32, 9, 10, 13]
theorem zero96 (w : World) : (zeroValue 119).run Tryz.prog w = .ok (.agg (Array.replicate 256 (.bool false))) w := by kernel_rfl
theorem size96 : (Tryz.prog.info? 119).map (·.size) = some 256 := by kernel_rfl
theorem blanks_low : ∀ (j : Nat) b, blanks.data.toList[j]? = some b → b.toNat < 128 := by
  intro j b h
  have hm : b ∈ blanks.data.toList := List.mem_of_getElem? h
  simp [blanks] at hm
  rcases hm with rfl | rfl | rfl | rfl <;> decide
theorem set_any (w : World) : Calls Tryz.prog 70 #[.string blanks] w fun e w' => e = .returned (.tuple #[.agg setB, .bool true]) ∧ w' = w.alloc (.cells setB 119) :=
  Tryz.strings_makeASCIISet zero96 blanks w (by decide) blanks_low
theorem zc96 : Tryz.zeroCells119 = Array.replicate 256 (.bool false) := by kernel_rfl
theorem set_store (w : World) : (storeCells ⟨w.heap.size + 1, 0, none⟩ setB.toList 0).run Tryz.prog ((w.alloc (.cells setB 119)).alloc (.cells Tryz.zeroCells119 119)) = .ok () ((w.alloc (.cells setB 119)).alloc (.cells setB 119)) := by
  rw [zc96]
  have := run_storeCells_new (P := Tryz.prog) (w.alloc (.cells setB 119)) 119 (Array.replicate 256 (.bool false)) setB (by unfold setB; rw [Lib.setCells_size]; exact size96) (by unfold setB; rw [Lib.setCells_size, Array.size_replicate]) (Lib.setCells_one _)
  simpa using this
theorem set_cell (w : World) (x : UInt8) : ((w.alloc (.cells setB 119)).alloc (.cells setB 119)).cell? ⟨w.heap.size + 1, x.toNat, none⟩ = some (.bool (bl x)) := by
  rw [World.cell?_alloc_at _ _ _ _ (by simp)]
  unfold setB
  rw [Lib.setCells_at]
  rfl
theorem trimLeft_nil (s : ByteArray) (h : s.toList = []) : ⟨(trimL s.data.toList).toArray⟩ = s := by
  have e : s.data.toList = [] := by rw [← Lib.toList_data]; exact h
  rw [e]
  exact (mk_of_list e).symm
set_option maxHeartbeats 1000000 in
set_option maxRecDepth 100000 in
theorem trimLeft_any (s : ByteArray) (w : World) : Calls Tryz.prog 91 #[.string s, .string blanks] w fun e w' => e = .returned (.string ⟨(trimL s.data.toList).toArray⟩) ∧ Below w.heap.size w w' := by
  have hM := set_any w
  have hsc := set_store w
  have hT := trimLeftASCII_any s (w.heap.size + 1) _ (set_cell w)
  have hbe : blanks.toList.isEmpty = false := by kernel_rfl
  have hb1 : ((blanks.size : Int) == 1) = false := by kernel_rfl
  have hsz : setB.size = 256 := Lib.setCells_size _
  by_cases h0 : s.toList = []
  · have e : s.toList.isEmpty = true := by rw [h0]; rfl
    have HN : Hid _ := trimLeft_nil s h0
    clear h0 hM hsc hT
    go_enter Tryz.func91, Tryz.ntmps91
    go_wp2
    go_ret
    exact ⟨ret_str HN.out.symm, Below.refl _ _⟩
  · have e : s.toList.isEmpty = false := by simpa using h0
    clear h0
    go_enter Tryz.func91, Tryz.ntmps91
    go_wp2_with (first | (go_at_call 70; refine hM.mono ?_; rintro e w' ⟨rfl, hw⟩; rw [hw]) | (go_at_call 71; refine hT.mono ?_; rintro e w' ⟨rfl, hw⟩; rw [hw]))
    go_ret
    exact ⟨rfl, ((Below.refl _ _).alloc (Nat.le_refl _) _).alloc (by simp) _⟩
theorem trimRight_nil (s : ByteArray) (h : s.toList = []) : ⟨(trimR s.data.toList).toArray⟩ = s := by
  have e : s.data.toList = [] := by rw [← Lib.toList_data]; exact h
  rw [e]
  exact (mk_of_list e).symm
set_option maxHeartbeats 1000000 in
set_option maxRecDepth 100000 in
theorem trimRight_any (s : ByteArray) (w : World) (hs : s.size ≤ 2000000) : Calls Tryz.prog 80 #[.string s, .string blanks] w fun e w' => e = .returned (.string ⟨(trimR s.data.toList).toArray⟩) ∧ Below w.heap.size w w' := by
  have hM := set_any w
  have hsc := set_store w
  have hT := trimRightASCII_any s (w.heap.size + 1) _ hs (set_cell w)
  have hbe : blanks.toList.isEmpty = false := by kernel_rfl
  have hb1 : ((blanks.size : Int) == 1) = false := by kernel_rfl
  have hsz : setB.size = 256 := Lib.setCells_size _
  by_cases h0 : s.toList = []
  · have e : s.toList.isEmpty = true := by rw [h0]; rfl
    have HN : Hid _ := trimRight_nil s h0
    clear h0 hM hsc hT
    go_enter Tryz.func80, Tryz.ntmps80
    go_wp2
    go_ret
    exact ⟨ret_str HN.out.symm, Below.refl _ _⟩
  · have e : s.toList.isEmpty = false := by simpa using h0
    clear h0
    go_enter Tryz.func80, Tryz.ntmps80
    go_wp2_with (first | (go_at_call 70; refine hM.mono ?_; rintro e w' ⟨rfl, hw⟩; rw [hw]) | (go_at_call 72; refine hT.mono ?_; rintro e w' ⟨rfl, hw⟩; rw [hw]))
    go_ret
    exact ⟨rfl, ((Below.refl _ _).alloc (Nat.le_refl _) _).alloc (by simp) _⟩
end Go.Proofs.YthekdgnikkjpdaaGreatDoor
