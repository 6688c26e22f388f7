/-
  The contract of presence and elemOf, at a plain presence, over this program.
-/
import Derived.Test.YtmmkfpeckfmjeaaDoorTxk
namespace Go.Proofs.YtmmkfpeckfmjeaaDoor
open Go Go.RowKit Go.Maps Go.Sort
theorem start3 (w : World) (A B C : Array Value) (a b c : Nat) : Below w.heap.size w (((w.alloc (.cells A a)).alloc (.cells B b)).alloc (.cells C c)) ∧ At w.heap.size A a (((w.alloc (.cells A a)).alloc (.cells B b)).alloc (.cells C c)) ∧ At (w.heap.size + 1) B b (((w.alloc (.cells A a)).alloc (.cells B b)).alloc (.cells C c)) ∧ At (w.heap.size + 2) C c (((w.alloc (.cells A a)).alloc (.cells B b)).alloc (.cells C c)) := by
  have e1 : (w.alloc (.cells A a)).heap.size = w.heap.size + 1 := by simp
  have e2 : ((w.alloc (.cells A a)).alloc (.cells B b)).heap.size = w.heap.size + 2 := by simp
  refine ⟨((bw0 w _).alloc (by rw [e1]; omega) _).alloc (by rw [e2]; omega) _, ((At.alloc (heap_alloc_new w _) _)).alloc _, ?_, ?_⟩
  · have := At.alloc (T := b) (heap_alloc_new (w.alloc (.cells A a)) (.cells B b)) (.cells C c)
    rw [e1] at this
    exact this
  · have : At _ C c _ := heap_alloc_new ((w.alloc (.cells A a)).alloc (.cells B b)) (.cells C c)
    rw [e2] at this
    exact this
theorem store4s {r : Nat} {w2 : World} {x0 x1 x2 x3 : Value} {T : TypeId} (y0 y1 y2 y3 : Value) (hA : At r #[x0, x1, x2, x3] T w2) :
    ∃ w3, ((((w2.setCell ⟨r, 0, none⟩ y0).setCell ⟨r, 1, none⟩ y1).setCell ⟨r, 2, none⟩ y2).setCell ⟨r, 3, none⟩ y3) = w3 ∧ At r #[y0, y1, y2, y3] T w3 ∧ (∀ n w, n ≤ r → RowKit.Below n w w2 → RowKit.Below n w w3) ∧ ∀ k, k ≠ r → w3.heap[k]? = w2.heap[k]? := by
  obtain ⟨w3, h1, h2, h3⟩ := store4 y0 y1 y2 y3 hA
  refine ⟨w3, h1, h2, h3, fun k hne => ?_⟩
  rw [← h1, Below.heap_setCell _ _ _ k hne, Below.heap_setCell _ _ _ k hne, Below.heap_setCell _ _ _ k hne, Below.heap_setCell _ _ _ k hne]
theorem z4 {r : Nat} {a b c d : Value} {T : TypeId} {w : World} (h : At r #[a, b, c, d] T w) : w.cell? ⟨r, 0, none⟩ = some a ∧ w.cell? ⟨r, 1, none⟩ = some b ∧ w.cell? ⟨r, 2, none⟩ = some c ∧ w.cell? ⟨r, 3, none⟩ = some d ∧ ∀ o, w.frozen? ⟨r, o, none⟩ = false :=
  ⟨by rw [Lib.cell_of_heap h]; rfl, by rw [Lib.cell_of_heap h]; rfl, by rw [Lib.cell_of_heap h]; rfl, by rw [Lib.cell_of_heap h]; rfl, Lib.frozen_of_heap h⟩
set_option maxHeartbeats 4000000 in
set_option maxRecDepth 100000 in
theorem presence_plain (w : World) : Calls Tryd.prog 26 #[.agg (staC 1 ⟨#[]⟩ ⟨#[]⟩ ⟨#[]⟩ ⟨#[]⟩ ⟨#[97, 119, 97, 121]⟩ ⟨#[]⟩ ⟨#[]⟩ 0 0 false none 0 0)] w fun e w' => ∃ r, e = .returned (.agg #[.string ⟨#[112, 114, 101, 115, 101, 110, 99, 101]⟩, .slice none 0 0, .string ⟨#[]⟩, .slice (some ⟨r, 0, none⟩) 1 1]) ∧ At r #[.string ⟨#[115, 104, 111, 119]⟩, .slice none 0 0, .string ⟨#[97, 119, 97, 121]⟩, .slice none 0 0] 29 w' ∧ w.heap.size ≤ r ∧ Below w.heap.size w w' := by
  unfold staC
  go_enter Tryd.func26, Tryd.ntmps26
  go_wp2_with fail
  obtain ⟨HB0, HS0, HZ0, HR0⟩ := start3 w #[.int .i64 1, .string ⟨#[]⟩, .string ⟨#[]⟩, .string ⟨#[]⟩, .string ⟨#[]⟩, .string ⟨#[97, 119, 97, 121]⟩, .string ⟨#[]⟩, .string ⟨#[]⟩, .int .u32 0, .int .i64 0, .bool false, .slice none 0 0] #[.string ⟨#[]⟩, .slice none 0 0, .string ⟨#[]⟩, .slice none 0 0] #[.string ⟨#[116, 121, 112, 101]⟩, .string ⟨#[]⟩, .string ⟨#[102, 114, 111, 109]⟩, .string ⟨#[]⟩, .string ⟨#[116, 111]⟩, .string ⟨#[]⟩] 25 29 9
  have HB0 := Lib.hid HB0
  have HS0 := Lib.hid HS0
  have HZ0 := Lib.hid HZ0
  have HR0 := Lib.hid HR0
  have eB : w.heap.size + 1 + 1 = w.heap.size + 2 := rfl
  simp only [eB]
  generalize ((w.alloc (.cells #[.int .i64 1, .string ⟨#[]⟩, .string ⟨#[]⟩, .string ⟨#[]⟩, .string ⟨#[]⟩, .string ⟨#[97, 119, 97, 121]⟩, .string ⟨#[]⟩, .string ⟨#[]⟩, .int .u32 0, .int .i64 0, .bool false, .slice none 0 0] 25)).alloc (.cells #[.string ⟨#[]⟩, .slice none 0 0, .string ⟨#[]⟩, .slice none 0 0] 29)).alloc (.cells #[.string ⟨#[116, 121, 112, 101]⟩, .string ⟨#[]⟩, .string ⟨#[102, 114, 111, 109]⟩, .string ⟨#[]⟩, .string ⟨#[116, 111]⟩, .string ⟨#[]⟩] 9) = W0 at HB0 HS0 HZ0 HR0 ⊢
  go_at_call 29
  refine (elem_none _ _ _ _ _ W0 HR0.out).mono ?_
  rintro e w1 ⟨rfl, hb1⟩
  have HB1 := Lib.hid (HB0.out.trans (hb1.mono HB0.out.size))
  have HS1 := Lib.hid (HS0.out.below hb1 (lt_of_heap HS0.out))
  have HZ1 := Lib.hid (HZ0.out.below hb1 (lt_of_heap HZ0.out))
  have hl1 := lt_of_heap HZ1.out
  clear hb1 HB0 HS0 HZ0 HR0
  have HB2 := fun o1 o2 => Lib.hid ((HB1.out.alloc HB1.out.size o1).alloc (show w.heap.size ≤ (w1.alloc o1).heap.size from (HB1.out.alloc HB1.out.size o1).size) o2)
  have HS2 := fun o1 o2 => Lib.hid ((HS1.out.alloc o1).alloc o2)
  have HZ2 := fun o1 o2 => Lib.hid ((HZ1.out.alloc o1).alloc o2)
  have s5 : ∀ o1, (w1.alloc o1).cell? ⟨w.heap.size, 5, none⟩ = some (.string ⟨#[97, 119, 97, 121]⟩) := fun o1 => (z12 (HS1.out.alloc o1)).2.2.2.2.2.1
  have hK : At (w1.heap.size + 1) #[.string ⟨#[115, 104, 111, 119]⟩, .slice none 0 0, .string ⟨#[97, 119, 97, 121]⟩, .slice none 0 0] 29 ((w1.alloc (.cells #[.string ⟨#[112, 114, 101, 115, 101, 110, 99, 101]⟩, .slice none 0 0, .string ⟨#[]⟩, .slice (some ⟨w1.heap.size + 1, 0, none⟩) 1 1] 29)).alloc (.cells #[.string ⟨#[115, 104, 111, 119]⟩, .slice none 0 0, .string ⟨#[97, 119, 97, 121]⟩, .slice none 0 0] 29)) := by
    have : At _ #[.string ⟨#[115, 104, 111, 119]⟩, .slice none 0 0, .string ⟨#[97, 119, 97, 121]⟩, .slice none 0 0] 29 _ := heap_alloc_new (w1.alloc (.cells #[.string ⟨#[112, 114, 101, 115, 101, 110, 99, 101]⟩, .slice none 0 0, .string ⟨#[]⟩, .slice (some ⟨w1.heap.size + 1, 0, none⟩) 1 1] 29)) (.cells #[.string ⟨#[115, 104, 111, 119]⟩, .slice none 0 0, .string ⟨#[97, 119, 97, 121]⟩, .slice none 0 0] 29)
    rw [show (w1.alloc (.cells #[.string ⟨#[112, 114, 101, 115, 101, 110, 99, 101]⟩, .slice none 0 0, .string ⟨#[]⟩, .slice (some ⟨w1.heap.size + 1, 0, none⟩) 1 1] 29)).heap.size = w1.heap.size + 1 by simp] at this
    exact this
  have hZ := (HZ2 (.cells #[.string ⟨#[112, 114, 101, 115, 101, 110, 99, 101]⟩, .slice none 0 0, .string ⟨#[]⟩, .slice (some ⟨w1.heap.size + 1, 0, none⟩) 1 1] 29) (.cells #[.string ⟨#[115, 104, 111, 119]⟩, .slice none 0 0, .string ⟨#[97, 119, 97, 121]⟩, .slice none 0 0] 29)).out
  have hB := (HB2 (.cells #[.string ⟨#[112, 114, 101, 115, 101, 110, 99, 101]⟩, .slice none 0 0, .string ⟨#[]⟩, .slice (some ⟨w1.heap.size + 1, 0, none⟩) 1 1] 29) (.cells #[.string ⟨#[115, 104, 111, 119]⟩, .slice none 0 0, .string ⟨#[97, 119, 97, 121]⟩, .slice none 0 0] 29)).out
  obtain ⟨c0, c1, c2, c3, cf⟩ := z4 hZ
  obtain ⟨w6, hw6, hA6, hb6, hs6⟩ := store4s (.string ⟨#[112, 114, 101, 115, 101, 110, 99, 101]⟩) (.slice none 0 0) (.string ⟨#[]⟩) (.slice (some ⟨w1.heap.size + 1, 0, none⟩) 1 1) hZ
  obtain ⟨d0, d1, d2, d3, _⟩ := z4 hA6
  have HB6 := Lib.hid (hb6 _ w (show w.heap.size ≤ w.heap.size + 1 by omega) hB)
  have HK6 : Hid (At (w1.heap.size + 1) #[.string ⟨#[115, 104, 111, 119]⟩, .slice none 0 0, .string ⟨#[97, 119, 97, 121]⟩, .slice none 0 0] 29 w6) := (hs6 _ (by omega)).trans hK
  clear hK hZ hB hA6 hb6 hs6 HZ1 HS1 HB1 HB2 HS2 HZ2
  go_wp2_with fail
  refine bodyPost_ret (v := .agg #[.string ⟨#[112, 114, 101, 115, 101, 110, 99, 101]⟩, .slice none 0 0, .string ⟨#[]⟩, .slice (some ⟨w1.heap.size + 1, 0, none⟩) 1 1]) (by simp [results, Tryd.results26, go_sem, d0, d1, d2, d3]) rfl ⟨_, rfl, HK6.out, by omega, HB6.out⟩
theorem start2 (w : World) (A B : Array Value) (a b : Nat) : Below w.heap.size w ((w.alloc (.cells A a)).alloc (.cells B b)) ∧ At w.heap.size A a ((w.alloc (.cells A a)).alloc (.cells B b)) ∧ At (w.heap.size + 1) B b ((w.alloc (.cells A a)).alloc (.cells B b)) := by
  have e1 : (w.alloc (.cells A a)).heap.size = w.heap.size + 1 := by simp
  refine ⟨(bw0 w _).alloc (by rw [e1]; omega) _, At.alloc (heap_alloc_new w _) _, ?_⟩
  have : At _ B b _ := heap_alloc_new (w.alloc (.cells A a)) (.cells B b)
  rw [e1] at this
  exact this
set_option maxHeartbeats 4000000 in
set_option maxRecDepth 100000 in
theorem elemOf_plain (w : World) : Calls Tryd.prog 18 #[.agg (staC 1 ⟨#[]⟩ ⟨#[]⟩ ⟨#[]⟩ ⟨#[]⟩ ⟨#[97, 119, 97, 121]⟩ ⟨#[]⟩ ⟨#[]⟩ 0 0 false none 0 0)] w fun e w' => ∃ r, e = .returned (.agg #[.string ⟨#[112, 114, 101, 115, 101, 110, 99, 101]⟩, .slice none 0 0, .string ⟨#[]⟩, .slice (some ⟨r, 0, none⟩) 1 1]) ∧ At r #[.string ⟨#[115, 104, 111, 119]⟩, .slice none 0 0, .string ⟨#[97, 119, 97, 121]⟩, .slice none 0 0] 29 w' ∧ w.heap.size ≤ r ∧ Below w.heap.size w w' := by
  have HP := Lib.hid presence_plain
  unfold staC at HP ⊢
  go_enter Tryd.func18, Tryd.ntmps18
  go_wp2_with fail
  obtain ⟨HB0, HS0, HZ0⟩ := start2 w #[.int .i64 1, .string ⟨#[]⟩, .string ⟨#[]⟩, .string ⟨#[]⟩, .string ⟨#[]⟩, .string ⟨#[97, 119, 97, 121]⟩, .string ⟨#[]⟩, .string ⟨#[]⟩, .int .u32 0, .int .i64 0, .bool false, .slice none 0 0] #[.string ⟨#[]⟩, .slice none 0 0, .string ⟨#[]⟩, .slice none 0 0] 25 29
  have HB0 := Lib.hid HB0
  have HZ0 := Lib.hid HZ0
  clear HS0
  generalize (w.alloc (.cells #[.int .i64 1, .string ⟨#[]⟩, .string ⟨#[]⟩, .string ⟨#[]⟩, .string ⟨#[]⟩, .string ⟨#[97, 119, 97, 121]⟩, .string ⟨#[]⟩, .string ⟨#[]⟩, .int .u32 0, .int .i64 0, .bool false, .slice none 0 0] 25)).alloc (.cells #[.string ⟨#[]⟩, .slice none 0 0, .string ⟨#[]⟩, .slice none 0 0] 29) = W0 at HB0 HZ0 ⊢
  go_at_call 26
  refine (HP.out W0).mono ?_
  rintro e w1 ⟨r, rfl, hK, hr, hb1⟩
  have hZ := HZ0.out.below hb1 (lt_of_heap HZ0.out)
  have hB := HB0.out.trans (hb1.mono HB0.out.size)
  have hr2 : w.heap.size + 1 < r := Nat.lt_of_lt_of_le (lt_of_heap HZ0.out) hr
  obtain ⟨c0, c1, c2, c3, cf⟩ := z4 hZ
  obtain ⟨w6, hw6, hA6, hb6, hs6⟩ := store4s (.string ⟨#[112, 114, 101, 115, 101, 110, 99, 101]⟩) (.slice none 0 0) (.string ⟨#[]⟩) (.slice (some ⟨r, 0, none⟩) 1 1) hZ
  obtain ⟨d0, d1, d2, d3, _⟩ := z4 hA6
  have HB6 := Lib.hid (hb6 _ w (show w.heap.size ≤ w.heap.size + 1 by omega) hB)
  have HK6 : Hid (At r #[.string ⟨#[115, 104, 111, 119]⟩, .slice none 0 0, .string ⟨#[97, 119, 97, 121]⟩, .slice none 0 0] 29 w6) := (hs6 _ (by omega)).trans hK
  clear hK hZ hB hA6 hb6 hs6 hb1 HZ0 HB0 HP hr
  go_wp2_with fail
  refine bodyPost_ret (v := .agg #[.string ⟨#[112, 114, 101, 115, 101, 110, 99, 101]⟩, .slice none 0 0, .string ⟨#[]⟩, .slice (some ⟨r, 0, none⟩) 1 1]) (by simp [results, Tryd.results18, go_sem, d0, d1, d2, d3]) rfl ⟨_, rfl, HK6.out, by omega, HB6.out⟩
end Go.Proofs.YtmmkfpeckfmjeaaDoor
