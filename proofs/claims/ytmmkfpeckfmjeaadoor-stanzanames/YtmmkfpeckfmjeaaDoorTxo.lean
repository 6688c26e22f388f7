/-
  The contract of lives over this program.
-/
import Derived.Test.YtmmkfpeckfmjeaaDoorTxn
namespace Go.Proofs.YtmmkfpeckfmjeaaDoor
open Go Go.RowKit Go.Maps Go.Sort
set_option maxHeartbeats 4000000 in
set_option maxRecDepth 100000 in
theorem lives_any (w : World) (hV : Va w) (HR : ∀ W r, At r #[.string ⟨#[115, 104, 111, 119]⟩, .slice none 0 0, .string ⟨#[97, 119, 97, 121]⟩, .slice none 0 0] 29 W → Va W → Calls Tryd.prog 8 #[.agg #[.string ⟨#[112, 114, 101, 115, 101, 110, 99, 101]⟩, .slice none 0 0, .string ⟨#[]⟩, .slice (some ⟨r, 0, none⟩) 1 1]] W fun e w' => e = .returned (.tuple #[.agg (staC 1 ⟨#[]⟩ ⟨#[]⟩ ⟨#[]⟩ ⟨#[]⟩ ⟨#[97, 119, 97, 121]⟩ ⟨#[]⟩ ⟨#[]⟩ 0 0 false none 0 0), .int .i64 0]) ∧ Below W.heap.size W w') :
    Calls Tryd.prog 6 #[] w fun e w' => e = .returned (.bool true) ∧ Below w.heap.size w w' := by
  have H9 := Lib.hid read9
  have HW := Lib.hid write_plain
  have HR := Lib.hid HR
  have HV := Lib.hid hV
  have H14 := user_any ⟨#[97, 110, 110]⟩
  have e14 : userN (⟨#[97, 110, 110]⟩ : ByteArray).data.toList = true := by decide +kernel
  rw [e14] at H14
  have H14 := Lib.hid H14
  have H17 := Lib.hid counts_get
  unfold staC at H9 HW HR
  have HA0 : Hid (At w.heap.size #[.string ⟨#[104]⟩, .string ⟨#[53]⟩] 46 (w.alloc (.cells #[.string ⟨#[104]⟩, .string ⟨#[53]⟩] 46))) := heap_alloc_new w _
  have HB0 := Lib.hid (bw0 w (.cells #[.string ⟨#[104]⟩, .string ⟨#[53]⟩] 46))
  clear hV e14
  go_enter Tryd.func6, Tryd.ntmps6
  go_wp2_with fail
  generalize w.alloc (.cells #[.string ⟨#[104]⟩, .string ⟨#[53]⟩] 46) = W0 at HA0 HB0 ⊢
  go_at_call 8
  refine (H9.out W0 _ HA0.out (HV.out.below HB0.out)).mono ?_
  rintro e w1 ⟨rfl, hb1⟩
  have HB1 := Lib.hid (HB0.out.trans (hb1.mono HB0.out.size))
  have HS2 : Hid (At w1.heap.size #[.int .i64 9, .string ⟨#[]⟩, .string ⟨#[]⟩, .string ⟨#[]⟩, .string ⟨#[]⟩, .string ⟨#[]⟩, .string ⟨#[]⟩, .string ⟨#[]⟩, .int .u32 5, .int .i64 0, .bool false, .slice none 0 0] 25 (w1.alloc (.cells #[.int .i64 9, .string ⟨#[]⟩, .string ⟨#[]⟩, .string ⟨#[]⟩, .string ⟨#[]⟩, .string ⟨#[]⟩, .string ⟨#[]⟩, .string ⟨#[]⟩, .int .u32 5, .int .i64 0, .bool false, .slice none 0 0] 25))) := heap_alloc_new w1 _
  have HB2 : Hid (Below w.heap.size w (w1.alloc (.cells #[.int .i64 9, .string ⟨#[]⟩, .string ⟨#[]⟩, .string ⟨#[]⟩, .string ⟨#[]⟩, .string ⟨#[]⟩, .string ⟨#[]⟩, .string ⟨#[]⟩, .int .u32 5, .int .i64 0, .bool false, .slice none 0 0] 25))) := HB1.out.alloc HB1.out.size _
  clear hb1 HA0 HB0
  go_wp2_with fail
  generalize w1.alloc (.cells #[.int .i64 9, .string ⟨#[]⟩, .string ⟨#[]⟩, .string ⟨#[]⟩, .string ⟨#[]⟩, .string ⟨#[]⟩, .string ⟨#[]⟩, .string ⟨#[]⟩, .int .u32 5, .int .i64 0, .bool false, .slice none 0 0] 25) = W2 at HS2 HB2 ⊢
  go_at_call 7
  refine (HW.out W2 (fun W r hA hb => HR.out W r hA ((HV.out.below HB2.out).below hb))).mono ?_
  rintro e w3 ⟨r, rfl, hb3⟩
  have HE4 : Hid (At w3.heap.size #[.string ⟨#[112, 114, 101, 115, 101, 110, 99, 101]⟩, .slice none 0 0, .string ⟨#[]⟩, .slice (some ⟨r, 0, none⟩) 1 1] 29 (w3.alloc (.cells #[.string ⟨#[112, 114, 101, 115, 101, 110, 99, 101]⟩, .slice none 0 0, .string ⟨#[]⟩, .slice (some ⟨r, 0, none⟩) 1 1] 29))) := heap_alloc_new w3 _
  have HS4 := Lib.hid ((HS2.out.below hb3 (lt_of_heap HS2.out)).alloc (.cells #[.string ⟨#[112, 114, 101, 115, 101, 110, 99, 101]⟩, .slice none 0 0, .string ⟨#[]⟩, .slice (some ⟨r, 0, none⟩) 1 1] 29))
  have HB3 := HB2.out.trans (hb3.mono HB2.out.size)
  have HB4 : Hid (Below w.heap.size w (w3.alloc (.cells #[.string ⟨#[112, 114, 101, 115, 101, 110, 99, 101]⟩, .slice none 0 0, .string ⟨#[]⟩, .slice (some ⟨r, 0, none⟩) 1 1] 29))) := HB3.alloc HB3.size _
  obtain ⟨s0, s1, s2, s3, s4, s5, s6, s7, s8, s9, s10, s11, _⟩ := z12 HS4.out
  obtain ⟨e0, e1, e2, e3, _⟩ := z4 HE4.out
  clear hb3 HB3 HS2 HB2 HB1 HR H9 HW
  go_wp2_with fail
  go_at_call 14
  refine (H14.out _).mono ?_
  rintro e w5 ⟨rfl, hb5⟩
  have HB5 := Lib.hid (HB4.out.trans (hb5.mono HB4.out.size))
  clear hb5 s0 s1 s2 s3 s4 s5 s6 s7 s8 s9 s10 s11 e0 e1 e2 e3
  go_wp2_with fail
  go_at_call 17
  refine (H17.out _).mono ?_
  rintro e w6 ⟨rfl, hb6⟩
  have HB6 := Lib.hid (HB5.out.trans (hb6.mono HB5.out.size))
  clear hb6
  go_wp2_with fail
  go_ret
  exact ⟨rfl, HB6.out⟩
end Go.Proofs.YtmmkfpeckfmjeaaDoor
