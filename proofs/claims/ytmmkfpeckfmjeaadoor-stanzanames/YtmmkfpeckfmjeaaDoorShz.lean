/-
  Over this program: the map of shapes is made (shapes).
-/
import Derived.Test.YtmmkfpeckfmjeaaDoorShy
namespace Go.Proofs.YtmmkfpeckfmjeaaDoor
open Go Go.RowKit Go.Maps
set_option maxHeartbeats 2000000 in
set_option maxRecDepth 100000 in
theorem shapes_any (w : World) :
    Calls Tryd.prog 19 #[] w fun e w' => (∃ m, e = .returned (.map (some m)) ∧ MJ m w' ∧ w.heap.size ≤ m) ∧ Below w.heap.size w w' := by
  go_enter Tryd.func19, Tryd.ntmps19
  go_wp2_with (first
    | (go_at_call_of 32 (Value.string ⟨#[118, 101, 114]⟩); refine (may_any (P := Tr) ⟨[118, 101, 114], verN, false⟩ rfl 33 #[] _ (.inr (.inl ⟨rfl, rfl⟩))).mono ?_; rintro e w1 ⟨⟨v, rfl, F1, k1, rfl, ht1⟩, hb1⟩; have HT1 := Lib.hid ht1; clear ht1)
    | (go_at_call_of 34 (Value.string ⟨#[118, 101, 114]⟩); refine (must_any (P := Tr) ⟨[118, 101, 114], verN, true⟩ rfl 33 #[] w1 (.inr (.inl ⟨rfl, rfl⟩))).mono ?_; rintro e w2 ⟨⟨v, rfl, F2, k2, rfl, ht2⟩, hb2⟩; have HT2 := Lib.hid ht2; clear ht2)
    | (go_at_call_of 34 (Value.string ⟨#[104]⟩); refine (must_any (P := Tr) ⟨[104], numN, true⟩ rfl 35 #[] _ (.inr (.inr (.inl ⟨rfl, rfl⟩)))).mono ?_; rintro e w3 ⟨⟨v, rfl, F3, k3, rfl, ht3⟩, hb3⟩; have HT3 := Lib.hid ht3; clear ht3)
    | (go_at_call_of 34 (Value.string ⟨#[112, 114, 101, 118, 105, 100]⟩); refine (must_any (P := Tr) ⟨[112, 114, 101, 118, 105, 100], wordN, true⟩ rfl 36 #[] w3 (.inr (.inr (.inr (.inl ⟨rfl, rfl⟩))))).mono ?_; rintro e w4 ⟨⟨v, rfl, F4, k4, rfl, ht4⟩, hb4⟩; have HT4 := Lib.hid ht4; clear ht4; refine Hid.out ?_))
  refine Lib.hid ?_
  have e4 : ∀ o1 o2, ((w4.alloc o1).alloc o2).heap.size = w4.heap.size + 2 := fun o1 o2 => by simp
  have H5 := fun o1 o2 => oneOf_tr ((w4.alloc o1).alloc o2) typeL (by decide) 5 rfl #[.string ⟨#[117, 110, 97, 118, 97, 105, 108, 97, 98, 108, 101]⟩, .string ⟨#[115, 117, 98, 115, 99, 114, 105, 98, 101]⟩, .string ⟨#[115, 117, 98, 115, 99, 114, 105, 98, 101, 100]⟩, .string ⟨#[117, 110, 115, 117, 98, 115, 99, 114, 105, 98, 101]⟩, .string ⟨#[117, 110, 115, 117, 98, 115, 99, 114, 105, 98, 101, 100]⟩] rfl
  simp only [e4] at H5
  go_wp2_with (first
    | (go_at_call 37; refine (H5 _ _).mono ?_; rintro e w5 ⟨rfl, ht5, hb5⟩; have HT5 := Lib.hid ht5; clear ht5; refine Hid.out ?_))
  refine Lib.hid ?_
  have a2 : ∀ o1 o2, Below w2.heap.size w2 ((w2.alloc o1).alloc o2) := fun o1 o2 => (bw0 w2 o1).alloc (by simp) o2
  have a4 : ∀ o1 o2, Below w4.heap.size w4 ((w4.alloc o1).alloc o2) := fun o1 o2 => (bw0 w4 o1).alloc (by simp) o2
  have e2 : ∀ o1 o2, ((w2.alloc o1).alloc o2).heap.size = w2.heap.size + 2 := fun o1 o2 => by simp
  have q3 : Below w2.heap.size w2 w3 := (a2 _ _).trans (hb3.mono (a2 _ _).size)
  have q4 : Below w2.heap.size w2 w4 := q3.trans (hb4.mono q3.size)
  have q45 : Below w4.heap.size w4 w5 := (a4 _ _).trans (hb5.mono (by omega))
  have q5 : Below w2.heap.size w2 w5 := q4.trans (q45.mono q4.size)
  have z3 : w2.heap.size + 2 ≤ w3.heap.size := by have := hb3.size; rw [e2] at this; exact this
  have z4 : w2.heap.size + 2 ≤ w4.heap.size := Nat.le_trans z3 hb4.size
  have q12 : Below w1.heap.size w1 w5 := hb2.trans (q5.mono hb2.size)
  have q35 : Below w3.heap.size w3 w5 := hb4.trans (q45.mono hb4.size)
  have z45 : w4.heap.size + 2 ≤ w5.heap.size := by have := hb5.size; rw [e4] at this; exact this
  have bw5 : Below w.heap.size w w5 := hb1.trans (q12.mono hb1.size)
  have A1 : At w2.heap.size #[.string ⟨#[118, 101, 114]⟩, .func (.func F1) #[] k1, .bool false] 70 w5 := At.below (At.below (At.below (At.alloc (heap_alloc_new w2 _) _) hb3 (by rw [e2]; omega)) hb4 (by omega)) q45 (by omega)
  have A2 : At (w2.heap.size + 1) #[.string ⟨#[118, 101, 114]⟩, .func (.func F2) #[] k2, .bool true] 70 w5 := At.below (At.below (At.below (at_second w2 _ _ _) hb3 (by rw [e2]; omega)) hb4 (by omega)) q45 (by omega)
  have A3 : At w4.heap.size #[.string ⟨#[104]⟩, .func (.func F3) #[] k3, .bool true] 70 w5 := At.below (At.alloc (heap_alloc_new w4 _) _) hb5 (by omega)
  have A4 : At (w4.heap.size + 1) #[.string ⟨#[112, 114, 101, 118, 105, 100]⟩, .func (.func F4) #[] k4, .bool true] 70 w5 := At.below (at_second w4 _ _ _) hb5 (by omega)
  have V1 : Hid (F70 Tr w2.heap.size maybeVerF w5) := ⟨trivial, F1, k1, A1, HT1.out.step (.below q12)⟩
  have V2 : Hid (F70 Tr (w2.heap.size + 1) verF w5) := ⟨trivial, F2, k2, A2, HT2.out.step (.below q5)⟩
  have V3 : Hid (F70 Tr w4.heap.size hF w5) := ⟨trivial, F3, k3, A3, HT3.out.step (.below q35)⟩
  have V4 : Hid (F70 Tr (w4.heap.size + 1) prevF w5) := ⟨trivial, F4, k4, A4, HT4.out.step (.below q45)⟩
  have V5 : Hid (TstAt Tr w5 (.func (.func 59) #[] #[.pointer (some ⟨w4.heap.size + 2 + 1, 0, none⟩)]) (oneN typeL)) := HT5.out
  obtain ⟨b1, hb1e⟩ : ∃ b, w2.heap.size = b := ⟨_, rfl⟩
  obtain ⟨b3, hb3e⟩ : ∃ b, w4.heap.size = b := ⟨_, rfl⟩
  rw [hb1e] at V1 V2
  rw [hb3e] at V3 V4 V5
  rw [hb1e, hb3e]
  clear A1 A2 A3 A4 HT1 HT2 HT3 HT4 HT5 H5 a2 a4 e2 q3 q4 q45 q5 z3 z4 q12 q35 z45 hb1 hb2 hb3 hb4 hb5 e4 hb1e hb3e
  have H6 := oneOf_tr w5 showL (by decide) 4 rfl #[.string ⟨#[97, 119, 97, 121]⟩, .string ⟨#[99, 104, 97, 116]⟩, .string ⟨#[100, 110, 100]⟩, .string ⟨#[120, 97]⟩] rfl
  go_wp2_with (first
    | (go_at_call 37; refine H6.mono ?_; rintro e w6 ⟨rfl, ht6, hb6⟩; have HT6 := Lib.hid ht6; clear ht6)
    | (go_at_call 38; refine (saying_any [115, 104, 111, 119] (oneN showL) 59 _ w6 HT6.out).mono ?_; rintro e w7 ⟨⟨v, rfl, ao1, n1, c1, F6, k6, ao2, kk6, kc6, rfl, hN6⟩, hb7⟩; have HN6 := Lib.hid hN6; clear hN6; refine Hid.out ?_))
  refine Lib.hid ?_
  have q57 : Below w5.heap.size w5 w7 := hb6.trans (hb7.mono hb6.size)
  have e7 : ∀ o, (w7.alloc o).heap.size = w7.heap.size + 1 := fun o => by simp
  have H8 := fun o => item_tr (w7.alloc o) setL (by decide) 4 rfl #[.string ⟨#[116, 111]⟩, .string ⟨#[102, 114, 111, 109]⟩, .string ⟨#[98, 111, 116, 104]⟩, .string ⟨#[114, 101, 109, 111, 118, 101]⟩] rfl
  simp only [e7] at H8
  clear H6 HT6
  go_wp2_with (go_at_call 39; refine (H8 _).mono ?_; rintro e w8 ⟨⟨v, rfl, bo1, m1, d1, F8, k8, bo2, kk8, kc8, rfl, hN8⟩, hb8⟩; have HN8 := Lib.hid hN8; clear hN8; refine Hid.out ?_)
  refine Lib.hid ?_
  have H9 := item_tr w8 subL (by decide) 3 rfl #[.string ⟨#[116, 111]⟩, .string ⟨#[102, 114, 111, 109]⟩, .string ⟨#[98, 111, 116, 104]⟩] rfl
  go_wp2_with (go_at_call 39; refine H9.mono ?_; rintro e w9 ⟨⟨v, rfl, co1, l1, g1, F9, k9, co2, kk9, kc9, rfl, hN9⟩, hb9⟩; have HN9 := Lib.hid hN9; clear hN9; refine Hid.out ?_)
  refine Lib.hid ?_
  have z78 : w7.heap.size + 1 ≤ w8.heap.size := by have := hb8.size; rw [e7] at this; exact this
  have q78 : Below w7.heap.size w7 w8 := (bw0 w7 _).trans (hb8.mono (by omega))
  have A6 := At.below (At.below (heap_alloc_new w7 _) hb8 (by omega)) hb9 (by omega)
  have q78' := q78
  have r9 : ∀ o1 o2, Below w9.heap.size w9 ((w9.alloc o1).alloc o2) := fun o1 o2 => (bw0 w9 o1).alloc (by simp) o2
  have r8 : ∀ o1 o2, Below w8.heap.size w8 ((w9.alloc o1).alloc o2) := fun o1 o2 => hb9.trans ((r9 o1 o2).mono hb9.size)
  have r7 : ∀ o1 o2, Below w7.heap.size w7 ((w9.alloc o1).alloc o2) := fun o1 o2 => q78.trans ((r8 o1 o2).mono q78.size)
  have r5 : ∀ o1 o2, Below w5.heap.size w5 ((w9.alloc o1).alloc o2) := fun o1 o2 => q57.trans ((r7 o1 o2).mono q57.size)
  have RB : Hid (∀ o1 o2, Below w.heap.size w ((w9.alloc o1).alloc o2)) := fun o1 o2 => bw5.trans ((r5 o1 o2).mono bw5.size)
  have RV : Hid (∀ o1 o2, o1 = .cells #[.string ⟨(itemS setL).nm.toArray⟩, .slice bo1 m1 d1, .func (.func F8) #[] k8, .int .i64 (itemS setL).least, .int .i64 (itemS setL).most, .slice bo2 kk8 kc8] 59 → o2 = .cells #[.string ⟨(itemS subL).nm.toArray⟩, .slice co1 l1 g1, .func (.func F9) #[] k9, .int .i64 (itemS subL).least, .int .i64 (itemS subL).most, .slice co2 kk9 kc9] 59 →
      VP (fun _ => True) b1 b3 w7.heap.size w9.heap.size (w9.heap.size + 1) (.func (.func 59) #[] #[.pointer (some ⟨b3 + 2 + 1, 0, none⟩)]) ((w9.alloc o1).alloc o2)) := fun o1 o2 e1 e2 => by
    subst e1 e2
    refine ⟨V1.out.step (.below (r5 _ _)), V2.out.step (.below (r5 _ _)), V3.out.step (.below (r5 _ _)), V4.out.step (.below (r5 _ _)), V5.out.step (.below (r5 _ _)), ?_, ?_, ?_⟩
    · exact ⟨trivial, _, _, _, _, _, _, _, _, At.below A6 (r9 _ _) (by have := hb9.size; omega), HN6.out.step (.below (r7 _ _))⟩
    · exact ⟨trivial, _, _, _, _, _, _, _, _, At.alloc (heap_alloc_new w9 _) _, HN8.out.step (.below (r8 _ _))⟩
    · exact ⟨trivial, _, _, _, _, _, _, _, _, at_second w9 _ _ _, HN9.out.step (.below (r9 _ _))⟩
  clear q78' r9 r8 r7 r5 V1 V2 V3 V4 V5 HN6 HN8 HN9 A6 H8 H9 bw5 q57 q78 z78 hb9 hb8 hb7 hb6
  go_wp2_with fail
  rename_i hK
  refine shapes_reg (b1 := b1) (b3 := b3) (b6 := w7.heap.size) (b7 := w9.heap.size) (b8 := w9.heap.size + 1) ⟨by simp, rfl, rfl, rfl, rfl, rfl, rfl, rfl, rfl⟩ (RV.out _ _ rfl rfl) (fun a W m ha hs h0 hm hmj hb => ?_)
  refine hK _ _ ?_
  have hB := (RB.out (.cells #[.string ⟨(itemS setL).nm.toArray⟩, .slice bo1 m1 d1, .func (.func F8) #[] k8, .int .i64 (itemS setL).least, .int .i64 (itemS setL).most, .slice bo2 kk8 kc8] 59) (.cells #[.string ⟨(itemS subL).nm.toArray⟩, .slice co1 l1 g1, .func (.func F9) #[] k9, .int .i64 (itemS subL).least, .int .i64 (itemS subL).most, .slice co2 kk9 kc9] 59))
  go_wp2_with fail
  refine bodyPost_ret (v := .map (some m)) ?_ ha ⟨⟨m, rfl, hmj, Nat.le_trans hB.size hm⟩, hB.trans (hb.mono hB.size)⟩
  have h1 : a.tmps[0]?.getD undef = .map (some m) := by rw [← Array.getD_eq_getD_getElem?]; exact h0
  simp [results, Tryd.results19, go_sem, h1]
end Go.Proofs.YtmmkfpeckfmjeaaDoor
