/-
  Over this program: a number's token (token.Of).
-/
import Derived.Test.YtlpnbgpbahlodaaDoorPkb
import Derived.BigQuiet
import Derived.Below
import Derived.OwnWalk
import Derived.RegionTactic
import Derived.Deep.QuietTactic
import Derived.Handy
namespace Go.Proofs.YtlpnbgpbahlodaaDoor
open Go Go.RowKit
def cellB (c : UInt8) : Value := .int .u8 (c.toNat : Int)
def arrC (i u : Nat) : Array Value := (List.replicate (13 - i) (Value.int .u8 0) ++ (tokL i u).map cellB).toArray
/-- The array that a token is written into, with so many of its last signs. -/
def ArrAt (b i u : Nat) (w : World) : Prop := w.heap[b]? = some (.cells (arrC i u) 44 (0, 0))
theorem arr_size (i u : Nat) (h : i ≤ 13) : (arrC i u).size = 13 := by
  simp [arrC, tokL_length]
  omega
theorem arr0 (u : Nat) : arrC 0 u = Array.replicate 13 (Value.int .u8 0) := by
  rfl
theorem arr_set (i u : Nat) (h : i < 13) : (arrC i u).setIfInBounds (12 - i) (cellB (digC (u / 32 ^ i % 32))) = arrC (i + 1) u := by
  obtain ⟨m, hm⟩ : ∃ m, 12 - i = m := ⟨_, rfl⟩
  have h1 : 13 - i = m + 1 := by omega
  have h2 : 13 - (i + 1) = m := by omega
  unfold arrC
  rw [hm, h1, h2, tokL_head, List.setIfInBounds_toArray, List.replicate_succ', List.append_assoc]
  congr 1
  rw [List.set_append_right _ _ (by simp)]
  simp
theorem lt_of_heap {w : World} {k : Nat} {o : Obj} (h : w.heap[k]? = some o) : k < w.heap.size := (Array.getElem?_eq_some_iff.1 h).1
theorem heap_set {w : World} {b : Nat} {cs : Array Value} {T : TypeId} {fr : Nat × Nat} (h : w.heap[b]? = some (.cells cs T fr)) (o : Nat) (v : Value) :
    (w.setCell ⟨b, o, none⟩ v).heap[b]? = some (.cells (cs.setIfInBounds o v) T fr) := by
  have hlt := lt_of_heap h
  have h' : w.heap[b] = .cells cs T fr := by simpa [Array.getElem?_eq_getElem hlt] using h
  show (w.heap.modify b _)[b]? = _
  rw [Array.getElem?_eq_getElem (by simpa using hlt), Array.getElem_modify_self, h']
  rfl
theorem heap_other (w : World) (b o : Nat) (v : Value) {k : Nat} (h : k ≠ b) : (w.setCell ⟨b, o, none⟩ v).heap[k]? = w.heap[k]? := by
  show (w.heap.modify b _)[k]? = _
  rw [Array.getElem?_modify, if_neg (fun e => h e.symm)]
theorem ArrAt.lt {b i u : Nat} {w : World} (h : ArrAt b i u w) : b < w.heap.size := lt_of_heap h
theorem ArrAt.fz {b i u : Nat} {w : World} (h : ArrAt b i u w) (o : Nat) : w.frozen? ⟨b, o, none⟩ = false := by
  unfold ArrAt at h
  simp [World.frozen?, h]
theorem ArrAt.cell0 {b i u : Nat} {w : World} (h : ArrAt b i u w) (hi : i ≤ 13) (o : Nat) (ho : o < 13) : ∃ v, w.cell? ⟨b, o, none⟩ = some v := by
  have hs := arr_size i u hi
  refine ⟨(arrC i u)[o]'(by omega), ?_⟩
  unfold ArrAt at h
  simp [World.cell?, h]
theorem ArrAt.cell {b u : Nat} {w : World} (h : ArrAt b 13 u w) (j : Nat) (hj : j < 13) : w.cell? ⟨b, j, none⟩ = some (.int .u8 (((tokL 13 u)[j]'(by rw [tokL_length]; exact hj)).toNat : Int)) := by
  unfold ArrAt at h
  have e : arrC 13 u = ((tokL 13 u).map cellB).toArray := by simp [arrC]
  rw [e] at h
  have hl : j < (tokL 13 u).length := by rw [tokL_length]; exact hj
  simp [World.cell?, h, hl, cellB]
theorem ArrAt.set {b i u : Nat} {w : World} (h : ArrAt b i u w) (hi : i < 13) : ArrAt b (i + 1) u (w.setCell ⟨b, 12 - i, none⟩ (cellB (digC (u / 32 ^ i % 32)))) := by
  have := heap_set h (12 - i) (cellB (digC (u / 32 ^ i % 32)))
  rw [arr_set i u hi] at this
  exact this
abbrev SG : ByteArray := ⟨#[48, 49, 50, 51, 52, 53, 54, 55, 56, 57, 97, 98, 99, 100, 101, 102, 103, 104, 105, 106, 107, 108, 109, 110, 111, 112, 113, 114, 115, 116, 117, 118]⟩
theorem sg_get (q : Nat) (h : q < 32) : (SG[q]'h) = digC q := by
  have : ∀ q : Fin 32, SG.data[q.1]! = digC q.1 := by decide
  have h1 := this ⟨q, h⟩
  show _ = digC (⟨q, h⟩ : Fin 32).1
  rw [← h1]
  exact (getElem!_pos SG.data q h).symm
set_option maxHeartbeats 1000000 in
set_option maxRecDepth 100000 in
theorem of_any (u : Nat) (hu : u < 18446744073709551616) (w : World) : Calls Tryd.prog 11 #[.int .u64 (u : Int)] w fun e w' => e = .returned (.string ⟨(tokL 13 u).toArray⟩) ∧ Below w.heap.size w w' := by
  have hal : Tryd.prog.arrayLen 44 = 13 := by kernel_rfl
  obtain ⟨b, hb⟩ : ∃ b, w.heap.size = b := ⟨_, rfl⟩
  have HA0 : Hid (ArrAt b 0 u (w.alloc (.cells (Array.replicate 13 (Value.int .u8 0)) 44))) := by
    show _ = _
    rw [arr0, ← hb]
    exact heap_alloc_new _ _
  have HB0 : Hid (Below w.heap.size w (w.alloc (.cells (Array.replicate 13 (Value.int .u8 0)) 44))) := (Below.refl _ w).alloc (Nat.le_refl _) _
  have HBB : Hid (w.heap.size = b) := hb
  go_enter Tryd.func11, Tryd.ntmps11
  go_wp2_with fail
  clear hb
  go_loopw [0, 4, 5] (fun n _ i wr => ∃ k : Nat, k ≤ 13 ∧ n = .int .u64 ((u / 32 ^ k : Nat) : Int) ∧ i = .int .i64 (k : Int) ∧ ArrAt b k u wr ∧ Below w.heap.size w wr) (fun _ _ i _ => 13 - (intOf i).toNat)
  case atStart => exact ⟨0, by omega, by simp, rfl, HA0.out, HB0.out⟩
  case round =>
    obtain ⟨k, hk, rfl, rfl, ha, hb⟩ := hrel
    obtain ⟨x, hx⟩ : ∃ x, u / 32 ^ k = x := ⟨_, rfl⟩
    have hx64 : x < 18446744073709551616 := by rw [← hx]; exact Nat.lt_of_le_of_lt (Nat.div_le_self _ _) hu
    have HX : Hid (u / 32 ^ k = x) := hx
    have HAR : Hid (ArrAt b k u wr) := ha
    have HB : Hid (Below w.heap.size w wr) := hb
    rw [hx]
    by_cases hlt : k < 13
    · obtain ⟨m, hm⟩ : ∃ m, 12 - k = m := ⟨_, rfl⟩
      have HM : Hid (12 - k = m) := hm
      have hm12 : m ≤ 12 := by omega
      have hmk : IntKind.i64.wrap (12 - (k : Int)) = (m : Int) := by simp only [IntKind.wrap_i64]; omega
      obtain ⟨q, hq⟩ : ∃ q, x % 32 = q := ⟨_, rfl⟩
      have HQ : Hid (x % 32 = q) := hq
      have hq32 : q < 32 := by omega
      have hqt : (x : Int).tmod 32 = (q : Int) := by rw [Int.tmod_eq_emod_of_nonneg (by omega)]; omega
      obtain ⟨y, hy⟩ : ∃ y, x / 32 = y := ⟨_, rfl⟩
      have HY : Hid (x / 32 = y) := hy
      have hyt : (x : Int).tdiv 32 = (y : Int) := by rw [Int.tdiv_eq_ediv_of_nonneg (by omega)]; omega
      have hyw : IntKind.u64.wrap (y : Int) = (y : Int) := by rw [IntKind.wrap_u64]; omega
      obtain ⟨v0, hv0⟩ := ha.cell0 hk m (by omega)
      have hfz := ha.fz m
      have h13' : k < 13 := hlt
      have h13 : (k : Int) < 13 := by omega
      clear hx hm hq hy ha hb
      go_wp2_with fail
      refine ⟨⟨k + 1, by omega, ?_, by go_num, ?_, ?_⟩, by simp [intOf]; omega⟩
      · rw [← HY.out, ← HX.out, Nat.div_div_eq_div_mul, ← Nat.pow_succ]
      · have h1 := HAR.out.set h13'
        rw [HM.out, HX.out, HQ.out, ← sg_get q hq32] at h1
        exact h1
      · exact ⟨HB.out.os, HB.out.tape, HB.out.output, by simpa using HB.out.size, fun j hj => by rw [heap_other _ _ _ _ (by have := HBB.out; omega)]; exact HB.out.block j hj⟩
    · obtain rfl : k = 13 := by omega
      have hcv : (convert 45 9 (.slice (some ⟨b, 0, none⟩) 13 13)).run Tryd.prog wr = .ok (.string ⟨(tokL 13 u).toArray⟩) wr := by
        have h := run_convert_bytes_back (P := Tryd.prog) wr 45 9 5 ⟨b, 0, none⟩ 13 (tokL 13 u) Tryd.underlying45 Tryd.underlying5 Tryd.underlying9 (fun j hj => by
          have hadd : (⟨b, 0, none⟩ : Addr).add j = ⟨b, j, none⟩ := by unfold Addr.add; split <;> simp_all
          rw [hadd]
          rw [tokL_length] at hj
          have := HAR.out.cell j hj
          simpa using this)
        rw [tokL_length] at h
        exact h
      clear hx ha hb
      go_wp2_with fail
      go_ret
      exact ⟨rfl, HB.out⟩
end Go.Proofs.YtlpnbgpbahlodaaDoor
