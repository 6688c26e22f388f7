/-
  The contract of told over this program, at a presence.
-/
import Derived.Test.YtmmkfpeckfmjeaaDoorTxh
namespace Go.Proofs.YtmmkfpeckfmjeaaDoor
open Go Go.RowKit Go.Maps Go.Sort
def PostR (R : Act → World → Prop) : Exit → Act → World → Prop
  | .normal, a, w => R a w
  | _, _, _ => False
theorem PostR.mk {F a : Act} {S : World → Prop} {W : World} (h1 : a = F) (h2 : S W) : PostR (fun a W => a = F ∧ S W) .normal a W := ⟨h1, h2⟩
theorem via_frame {P : Program} {c : Code} {Q : Exit → Act → World → Prop} {a : Act} {w : World} {F : Act} (S : World → Prop) (h1 : c.wp P (PostR fun a W => a = F ∧ S W) a w) (h2 : ∀ W, S W → Q .normal F W) : c.wp P Q a w :=
  Code.wp_mono (fun e a w h => by
    cases e with
    | normal =>
      obtain ⟨rfl, h3⟩ := h
      exact h2 _ h3
    | _ => exact (h : False).elim) h1
set_option maxHeartbeats 8000000 in
set_option maxRecDepth 100000 in
theorem told1_any {P : Nat → Prop} (x : El) (a b c d : Value) (w : World) (h1 : ElE P w x a b c d) (hz : szE 1 x) (v1 v2 v3 v4 : List UInt8) (g1 : valN x.attrs [116, 121, 112, 101] = v1) (g2 : valN x.attrs [102, 114, 111, 109] = v2) (g3 : valN x.attrs [116, 111] = v3) (g4 : kidT x = v4) :
    Calls Tryd.prog 22 #[.int .i64 1, .agg #[a, b, c, d]] w fun e w' => e = .returned (.agg (staC 1 ⟨v1.toArray⟩ ⟨#[]⟩ ⟨v2.toArray⟩ ⟨v3.toArray⟩ ⟨v4.toArray⟩ ⟨#[]⟩ ⟨#[]⟩ 0 0 false none 0 0)) ∧ Below w.heap.size w w' := by
  have HAa := fun W (hb : Below w.heap.size w W) => value_any x [116, 121, 112, 101] a b c d W (h1.below hb) hz.1
  have HAb := fun W (hb : Below w.heap.size w W) => value_any x [102, 114, 111, 109] a b c d W (h1.below hb) hz.1
  have HAc := fun W (hb : Below w.heap.size w W) => value_any x [116, 111] a b c d W (h1.below hb) hz.1
  have HKT := fun W (hb : Below w.heap.size w W) => kidText_any x a b c d W (h1.below hb)
  obtain ⟨ao1, cap1, ao2, cap2, rfl, rfl⟩ := h1.shape
  obtain ⟨rfl, _, rfl, _⟩ := h1.parts
  obtain ⟨s1, hs1⟩ : ∃ s1, (⟨x.nm.toArray⟩ : ByteArray) = s1 := ⟨_, rfl⟩
  obtain ⟨s2, hs2⟩ : ∃ s2, (⟨x.text.toArray⟩ : ByteArray) = s2 := ⟨_, rfl⟩
  obtain ⟨n1, hn1⟩ : ∃ n1, x.attrs.length = n1 := ⟨_, rfl⟩
  obtain ⟨n2, hn2⟩ : ∃ n2, x.kids.length = n2 := ⟨_, rfl⟩
  obtain ⟨V1, hV1⟩ : ∃ V, (⟨v1.toArray⟩ : ByteArray) = V := ⟨_, rfl⟩
  obtain ⟨V2, hV2⟩ : ∃ V, (⟨v2.toArray⟩ : ByteArray) = V := ⟨_, rfl⟩
  obtain ⟨V3, hV3⟩ : ∃ V, (⟨v3.toArray⟩ : ByteArray) = V := ⟨_, rfl⟩
  obtain ⟨V4, hV4⟩ : ∃ V, (⟨v4.toArray⟩ : ByteArray) = V := ⟨_, rfl⟩
  simp only [hs1, hs2, hn1, hn2, g1, g2, g3, g4, hV1, hV2, hV3, hV4] at HAa HAb HAc HKT ⊢
  have HAa := Lib.hid HAa
  have HAb := Lib.hid HAb
  have HAc := Lib.hid HAc
  have HKT := Lib.hid HKT
  clear h1 hs1 hs2 hn1 hn2 hz g1 g2 g3 g4 hV1 hV2 hV3 hV4
  go_enter Tryd.func22, Tryd.ntmps22
  go_wp2_with fail
  have HM0 := Lib.hid (MT.start w #[.string s1, .slice ao1 n1 cap1, .string s2, .slice ao2 n2 cap2] Z25 (staC 1 ⟨#[]⟩ ⟨#[]⟩ ⟨#[]⟩ ⟨#[]⟩ ⟨#[]⟩ ⟨#[]⟩ ⟨#[]⟩ 0 0 false none 0 0))
  unfold Z25 staC at HM0
  have eB : w.heap.size + 1 + 1 = w.heap.size + 2 := rfl
  simp only [eB]
  generalize ((w.alloc (.cells #[.string s1, .slice ao1 n1 cap1, .string s2, .slice ao2 n2 cap2] 29)).alloc (.cells #[.int .i64 0, .string ⟨#[]⟩, .string ⟨#[]⟩, .string ⟨#[]⟩, .string ⟨#[]⟩, .string ⟨#[]⟩, .string ⟨#[]⟩, .string ⟨#[]⟩, .int .u32 0, .int .i64 0, .bool false, .slice none 0 0] 25)).alloc (.cells #[.int .i64 1, .string ⟨#[]⟩, .string ⟨#[]⟩, .string ⟨#[]⟩, .string ⟨#[]⟩, .string ⟨#[]⟩, .string ⟨#[]⟩, .string ⟨#[]⟩, .int .u32 0, .int .i64 0, .bool false, .slice none 0 0] 25) = W0 at HM0 ⊢
  obtain ⟨m0, m1, m2, m3⟩ := HM0.out.e
  have mc1 := HM0.out.s 1 _ rfl
  have mc3 := HM0.out.s 3 _ rfl
  have mc4 := HM0.out.s 4 _ rfl
  have mz := HM0.out.f
  refine via_frame (F := ⟨#[.int .i64 1, .agg #[.string s1, .slice ao1 n1 cap1, .string s2, .slice ao2 n2 cap2], undef, .pointer (some ⟨w.heap.size, 0, none⟩), .pointer (some ⟨w.heap.size + 1, 0, none⟩), .pointer (some ⟨w.heap.size + 2, 0, none⟩), undef, undef, .int .i64 1, .agg #[.int .i64 1, .string ⟨#[]⟩, .string ⟨#[]⟩, .string ⟨#[]⟩, .string ⟨#[]⟩, .string ⟨#[]⟩, .string ⟨#[]⟩, .string ⟨#[]⟩, .int .u32 0, .int .i64 0, .bool false, .slice none 0 0], .int .i64 1, .bool true, .bool true, .agg #[.string s1, .slice ao1 n1 cap1, .string s2, .slice ao2 n2 cap2], .string V1, .agg #[.string s1, .slice ao1 n1 cap1, .string s2, .slice ao2 n2 cap2], .string V2, .agg #[.string s1, .slice ao1 n1 cap1, .string s2, .slice ao2 n2 cap2], .string V3, .pointer (some ⟨w.heap.size + 2, 1, none⟩), .pointer (some ⟨w.heap.size + 2, 3, none⟩), .pointer (some ⟨w.heap.size + 2, 4, none⟩), undef, undef, undef, undef, undef, undef, undef, undef, undef, undef, undef, undef, undef, undef, undef, undef, undef, undef, undef, undef, undef, undef, undef, undef, undef, undef, undef, undef, undef, undef, undef, undef, undef, undef, undef, undef, undef, undef, undef, undef, undef, undef, undef, undef, undef, undef, undef, undef, undef, undef, undef, undef, undef], []⟩) (fun W => MT w #[.string s1, .slice ao1 n1 cap1, .string s2, .slice ao2 n2 cap2] Z25 (staC 1 V1 ⟨#[]⟩ V2 V3 ⟨#[]⟩ ⟨#[]⟩ ⟨#[]⟩ 0 0 false none 0 0) W) ?h1 ?h2
  case h1 =>
    go_region_with (first
      | (go_at_call_of 46 (Value.string ⟨#[116, 121, 112, 101]⟩); refine (HAa.out _ ?_).mono ?_; (first | exact HMa.out.1 | exact HMb.out.1 | exact HMc.out.1 | exact HM0.out.drew.1 | exact HM0.out.1); rintro e w6a ⟨rfl, hb6⟩; have HMa := Lib.hid (MT.go (by first | exact HMa.out | exact HMb.out | exact HMc.out | exact HM0.out.drew | exact HM0.out) hb6); clear hb6; have aqf0 := (HMa.out).e; obtain ⟨aq0, aq1, aq2, aq3⟩ := aqf0; have aqc1 := HMa.out.s 1 _ rfl; have aqc3 := HMa.out.s 3 _ rfl; have aqc4 := HMa.out.s 4 _ rfl; have aqz := HMa.out.f)
      | (go_at_call_of 46 (Value.string ⟨#[102, 114, 111, 109]⟩); refine (HAb.out _ ?_).mono ?_; (first | exact HMa.out.1 | exact HMb.out.1 | exact HMc.out.1 | exact HM0.out.drew.1 | exact HM0.out.1); rintro e w6b ⟨rfl, hb6⟩; have HMb := Lib.hid (MT.go (by first | exact HMa.out | exact HMb.out | exact HMc.out | exact HM0.out.drew | exact HM0.out) hb6); clear hb6; have bqf0 := (HMb.out).e; obtain ⟨bq0, bq1, bq2, bq3⟩ := bqf0; have bqc1 := HMb.out.s 1 _ rfl; have bqc3 := HMb.out.s 3 _ rfl; have bqc4 := HMb.out.s 4 _ rfl; have bqz := HMb.out.f)
      | (go_at_call_of 46 (Value.string ⟨#[116, 111]⟩); refine (HAc.out _ ?_).mono ?_; (first | exact HMa.out.1 | exact HMb.out.1 | exact HMc.out.1 | exact HM0.out.drew.1 | exact HM0.out.1); rintro e w6c ⟨rfl, hb6⟩; have HMc := Lib.hid (MT.go (by first | exact HMa.out | exact HMb.out | exact HMc.out | exact HM0.out.drew | exact HM0.out) hb6); clear hb6; have cqf0 := (HMc.out).e; obtain ⟨cq0, cq1, cq2, cq3⟩ := cqf0; have cqc1 := HMc.out.s 1 _ rfl; have cqc3 := HMc.out.s 3 _ rfl; have cqc4 := HMc.out.s 4 _ rfl; have cqz := HMc.out.f))
    all_goals exact PostR.mk rfl (((HMc.out.set 1 _).set 3 _).set 4 _)
  case h2 =>
    intro W8 hm8
    have HM8 := Lib.hid hm8
    clear hm8 m0 m1 m2 m3 mc1 mc3 mc4 mz HM0 HAa HAb HAc
    unfold staC at HM8
    unfold Z25 at HM8
    obtain ⟨m0, m1, m2, m3⟩ := HM8.out.e
    go_wp2_with fail
    go_at_call 47
    refine (HKT.out _ HM8.out.1).mono ?_
    rintro e W9 ⟨rfl, hb9⟩
    have hm9 := HM8.out.go hb9
    have k5 := hm9.s 5 _ rfl
    have kf := hm9.f
    have HF : Hid (MT w _ Z25 (staC 1 V1 ⟨#[]⟩ V2 V3 V4 ⟨#[]⟩ ⟨#[]⟩ 0 0 false none 0 0) (W9.setCell ⟨w.heap.size + 2, 5, none⟩ (.string V4))) := hm9.set 5 _
    obtain ⟨W10, hW10⟩ : ∃ W10, W9.setCell ⟨w.heap.size + 2, 5, none⟩ (.string V4) = W10 := ⟨_, rfl⟩
    rw [hW10] at HF
    unfold staC at HF
    unfold Z25 at HF
    obtain ⟨z0, z1, z2, z3, z4, z5, z6, z7, z8, z9, z10, z11, zf⟩ := z12 HF.out.2.2.1
    obtain ⟨f0, f1, f2, f3, f4, f5, f6, f7, f8, f9, f10, f11, ff⟩ := z12 HF.out.2.2.2
    obtain ⟨w3, hw3, hA3, hb3, hs3⟩ := store12 (.int .i64 1) (.string V1) (.string ⟨#[]⟩) (.string V2) (.string V3) (.string V4) (.string ⟨#[]⟩) (.string ⟨#[]⟩) (.int .u32 0) (.int .i64 0) (.bool false) (.slice none 0 0) HF.out.2.2.1
    obtain ⟨d0, d1, d2, d3, d4, d5, d6, d7, d8, d9, d10, d11, _⟩ := z12 hA3
    have HB3 := Lib.hid (hb3 _ w (show w.heap.size ≤ w.heap.size + 1 by omega) HF.out.1)
    clear hA3 hb3 hs3 HF hm9 hb9 HKT HM8 m0 m1 m2 m3
    go_wp2_with fail
    refine bodyPost_ret (v := .agg (staC 1 V1 ⟨#[]⟩ V2 V3 V4 ⟨#[]⟩ ⟨#[]⟩ 0 0 false none 0 0)) (by simp [results, Tryd.results22, go_sem, staC, d0, d1, d2, d3, d4, d5, d6, d7, d8, d9, d10, d11]) rfl ⟨rfl, HB3.out⟩
end Go.Proofs.YtmmkfpeckfmjeaaDoor
