/-
  The contract of Write at a plain presence, over this program.
-/
import Derived.Test.YtmmkfpeckfmjeaaDoorTxl
namespace Go.Proofs.YtmmkfpeckfmjeaaDoor
open Go Go.RowKit Go.Maps Go.Sort
set_option maxHeartbeats 4000000 in
set_option maxRecDepth 100000 in
theorem write_plain (w : World) (HR : ∀ W r, At r #[.string ⟨#[115, 104, 111, 119]⟩, .slice none 0 0, .string ⟨#[97, 119, 97, 121]⟩, .slice none 0 0] 29 W → Below w.heap.size w W → Calls Tryd.prog 8 #[.agg #[.string ⟨#[112, 114, 101, 115, 101, 110, 99, 101]⟩, .slice none 0 0, .string ⟨#[]⟩, .slice (some ⟨r, 0, none⟩) 1 1]] W fun e w' => e = .returned (.tuple #[.agg (staC 1 ⟨#[]⟩ ⟨#[]⟩ ⟨#[]⟩ ⟨#[]⟩ ⟨#[97, 119, 97, 121]⟩ ⟨#[]⟩ ⟨#[]⟩ 0 0 false none 0 0), .int .i64 0]) ∧ Below W.heap.size W w') :
    Calls Tryd.prog 7 #[.agg (staC 1 ⟨#[]⟩ ⟨#[]⟩ ⟨#[]⟩ ⟨#[]⟩ ⟨#[97, 119, 97, 121]⟩ ⟨#[]⟩ ⟨#[]⟩ 0 0 false none 0 0)] w fun e w' => ∃ r, e = .returned (.tuple #[.agg #[.string ⟨#[112, 114, 101, 115, 101, 110, 99, 101]⟩, .slice none 0 0, .string ⟨#[]⟩, .slice (some ⟨r, 0, none⟩) 1 1], .int .i64 0]) ∧ Below w.heap.size w w' := by
  have HEO := Lib.hid elemOf_plain
  have HSM := Lib.hid (same_plain ⟨#[97, 119, 97, 121]⟩)
  have HR := Lib.hid HR
  unfold staC at HEO HSM HR ⊢
  obtain ⟨HB0, HS0, HZ0⟩ := start2 w #[.int .i64 1, .string ⟨#[]⟩, .string ⟨#[]⟩, .string ⟨#[]⟩, .string ⟨#[]⟩, .string ⟨#[97, 119, 97, 121]⟩, .string ⟨#[]⟩, .string ⟨#[]⟩, .int .u32 0, .int .i64 0, .bool false, .slice none 0 0] #[.string ⟨#[]⟩, .slice none 0 0, .string ⟨#[]⟩, .slice none 0 0] 25 29
  have HB0 := Lib.hid HB0
  have HZ0 := Lib.hid HZ0
  have HS0 := Lib.hid HS0
  go_enter Tryd.func7, Tryd.ntmps7
  go_wp2_with fail
  generalize (w.alloc (.cells #[.int .i64 1, .string ⟨#[]⟩, .string ⟨#[]⟩, .string ⟨#[]⟩, .string ⟨#[]⟩, .string ⟨#[97, 119, 97, 121]⟩, .string ⟨#[]⟩, .string ⟨#[]⟩, .int .u32 0, .int .i64 0, .bool false, .slice none 0 0] 25)).alloc (.cells #[.string ⟨#[]⟩, .slice none 0 0, .string ⟨#[]⟩, .slice none 0 0] 29) = W0 at HB0 HZ0 HS0 ⊢
  go_at_call 18
  refine (HEO.out W0).mono ?_
  rintro e w1 ⟨r, rfl, hK, hr, hb1⟩
  have HK1 := Lib.hid hK
  have HZ1 := Lib.hid (HZ0.out.below hb1 (lt_of_heap HZ0.out))
  have HS1 := Lib.hid (HS0.out.below hb1 (lt_of_heap HS0.out))
  have HB1 := Lib.hid (HB0.out.trans (hb1.mono HB0.out.size))
  have hr2 : w.heap.size + 1 < r := Nat.lt_of_lt_of_le (lt_of_heap HZ0.out) hr
  clear hK hb1 hr HZ0 HB0 HS0 HEO
  have HE2 : Hid (At w1.heap.size #[.string ⟨#[112, 114, 101, 115, 101, 110, 99, 101]⟩, .slice none 0 0, .string ⟨#[]⟩, .slice (some ⟨r, 0, none⟩) 1 1] 29 (w1.alloc (.cells #[.string ⟨#[112, 114, 101, 115, 101, 110, 99, 101]⟩, .slice none 0 0, .string ⟨#[]⟩, .slice (some ⟨r, 0, none⟩) 1 1] 29))) := heap_alloc_new w1 _
  obtain ⟨e0, e1, e2, e3, _⟩ := z4 HE2.out
  have HZ2 := Lib.hid (HZ1.out.alloc (.cells #[.string ⟨#[112, 114, 101, 115, 101, 110, 99, 101]⟩, .slice none 0 0, .string ⟨#[]⟩, .slice (some ⟨r, 0, none⟩) 1 1] 29))
  have HS2 := Lib.hid (HS1.out.alloc (.cells #[.string ⟨#[112, 114, 101, 115, 101, 110, 99, 101]⟩, .slice none 0 0, .string ⟨#[]⟩, .slice (some ⟨r, 0, none⟩) 1 1] 29))
  have HB2 : Hid (Below w.heap.size w (w1.alloc (.cells #[.string ⟨#[112, 114, 101, 115, 101, 110, 99, 101]⟩, .slice none 0 0, .string ⟨#[]⟩, .slice (some ⟨r, 0, none⟩) 1 1] 29))) := HB1.out.alloc HB1.out.size _
  have HK2 := Lib.hid (HK1.out.alloc (.cells #[.string ⟨#[112, 114, 101, 115, 101, 110, 99, 101]⟩, .slice none 0 0, .string ⟨#[]⟩, .slice (some ⟨r, 0, none⟩) 1 1] 29))
  clear HZ1 HS1 HB1 HK1
  go_wp2_with fail
  generalize w1.alloc (.cells #[.string ⟨#[112, 114, 101, 115, 101, 110, 99, 101]⟩, .slice none 0 0, .string ⟨#[]⟩, .slice (some ⟨r, 0, none⟩) 1 1] 29) = W2 at HE2 HZ2 HS2 HB2 HK2 e0 e1 e2 e3 ⊢
  go_at_call 8
  refine (HR.out W2 r HK2.out HB2.out).mono ?_
  rintro e w3 ⟨rfl, hb3⟩
  have HZ4 := fun o => Lib.hid ((HZ2.out.below hb3 (lt_of_heap HZ2.out)).alloc o)
  have HS4 := fun o => Lib.hid ((HS2.out.below hb3 (lt_of_heap HS2.out)).alloc o)
  have HE4 := fun o => Lib.hid ((HE2.out.below hb3 (lt_of_heap HE2.out)).alloc o)
  have HB3 := HB2.out.trans (hb3.mono HB2.out.size)
  have HB4 := fun o => Lib.hid (HB3.alloc HB3.size o)
  have HT4 : Hid (At w3.heap.size #[.int .i64 1, .string ⟨#[]⟩, .string ⟨#[]⟩, .string ⟨#[]⟩, .string ⟨#[]⟩, .string ⟨#[97, 119, 97, 121]⟩, .string ⟨#[]⟩, .string ⟨#[]⟩, .int .u32 0, .int .i64 0, .bool false, .slice none 0 0] 25 (w3.alloc (.cells #[.int .i64 1, .string ⟨#[]⟩, .string ⟨#[]⟩, .string ⟨#[]⟩, .string ⟨#[]⟩, .string ⟨#[97, 119, 97, 121]⟩, .string ⟨#[]⟩, .string ⟨#[]⟩, .int .u32 0, .int .i64 0, .bool false, .slice none 0 0] 25))) := heap_alloc_new w3 _
  have HZ4 := HZ4 (.cells #[.int .i64 1, .string ⟨#[]⟩, .string ⟨#[]⟩, .string ⟨#[]⟩, .string ⟨#[]⟩, .string ⟨#[97, 119, 97, 121]⟩, .string ⟨#[]⟩, .string ⟨#[]⟩, .int .u32 0, .int .i64 0, .bool false, .slice none 0 0] 25)
  have HS4 := HS4 (.cells #[.int .i64 1, .string ⟨#[]⟩, .string ⟨#[]⟩, .string ⟨#[]⟩, .string ⟨#[]⟩, .string ⟨#[97, 119, 97, 121]⟩, .string ⟨#[]⟩, .string ⟨#[]⟩, .int .u32 0, .int .i64 0, .bool false, .slice none 0 0] 25)
  have HE4 := HE4 (.cells #[.int .i64 1, .string ⟨#[]⟩, .string ⟨#[]⟩, .string ⟨#[]⟩, .string ⟨#[]⟩, .string ⟨#[97, 119, 97, 121]⟩, .string ⟨#[]⟩, .string ⟨#[]⟩, .int .u32 0, .int .i64 0, .bool false, .slice none 0 0] 25)
  have HB4 := HB4 (.cells #[.int .i64 1, .string ⟨#[]⟩, .string ⟨#[]⟩, .string ⟨#[]⟩, .string ⟨#[]⟩, .string ⟨#[97, 119, 97, 121]⟩, .string ⟨#[]⟩, .string ⟨#[]⟩, .int .u32 0, .int .i64 0, .bool false, .slice none 0 0] 25)
  obtain ⟨s0, s1, s2, s3, s4, s5, s6, s7, s8, s9, s10, s11, _⟩ := z12 HS4.out
  obtain ⟨t0, t1, t2, t3, t4, t5, t6, t7, t8, t9, t10, t11, _⟩ := z12 HT4.out
  clear hb3 HB3 HZ2 HS2 HE2 HB2 HK2 HR e0 e1 e2 e3
  go_wp2_with fail
  generalize w3.alloc (.cells #[.int .i64 1, .string ⟨#[]⟩, .string ⟨#[]⟩, .string ⟨#[]⟩, .string ⟨#[]⟩, .string ⟨#[97, 119, 97, 121]⟩, .string ⟨#[]⟩, .string ⟨#[]⟩, .int .u32 0, .int .i64 0, .bool false, .slice none 0 0] 25) = W4 at HZ4 HS4 HE4 HB4 HT4 s0 s1 s2 s3 s4 s5 s6 s7 s8 s9 s10 s11 t0 t1 t2 t3 t4 t5 t6 t7 t8 t9 t10 t11 ⊢
  go_at_call 9
  refine (HSM.out W4).mono ?_
  rintro e w5 ⟨rfl, hb5⟩
  have hZ := HZ4.out.below hb5 (lt_of_heap HZ4.out)
  have hE := HE4.out.below hb5 (lt_of_heap HE4.out)
  have hB := HB4.out.trans (hb5.mono HB4.out.size)
  obtain ⟨e0, e1, e2, e3, _⟩ := z4 hE
  obtain ⟨c0, c1, c2, c3, cf⟩ := z4 hZ
  obtain ⟨w6, hw6, hA6, hb6, hs6⟩ := store4s (.string ⟨#[112, 114, 101, 115, 101, 110, 99, 101]⟩) (.slice none 0 0) (.string ⟨#[]⟩) (.slice (some ⟨r, 0, none⟩) 1 1) hZ
  obtain ⟨d0, d1, d2, d3, _⟩ := z4 hA6
  have HB6 := Lib.hid (hb6 _ w (show w.heap.size ≤ w.heap.size + 1 by omega) hB)
  clear hZ hE hB hA6 hb6 hs6 hb5 HZ4 HS4 HE4 HB4 HT4 s0 s1 s2 s3 s4 s5 s6 s7 s8 s9 s10 s11 t0 t1 t2 t3 t4 t5 t6 t7 t8 t9 t10 t11
  go_wp2_with fail
  refine bodyPost_ret (v := .tuple #[.agg #[.string ⟨#[112, 114, 101, 115, 101, 110, 99, 101]⟩, .slice none 0 0, .string ⟨#[]⟩, .slice (some ⟨r, 0, none⟩) 1 1], .int .i64 0]) (by simp [results, Tryd.results7, go_sem, d0, d1, d2, d3]) rfl ⟨_, rfl, HB6.out⟩
end Go.Proofs.YtmmkfpeckfmjeaaDoor
