/-
  The map of shapes is filled in whatever order: each operation of the region that makes a value keeps the relation.
-/
import Derived.Test.YtmmkfpeckfmjeaaDoorShx
namespace Go.Proofs.YtmmkfpeckfmjeaaDoor
open Go Go.RowKit Go.Maps
set_option maxRecDepth 100000
theorem s6_1 {a0 : Act} {w0 : World} {b1 b3 b6 b7 b8 : Nat} {v5 : Value} {listed : Array Bool} {a : Act} {w : World} {Q : Exit → Act → World → Prop} (hJ : J a0 w0 b1 b3 b6 b7 b8 v5 listed a w) (h0 : A0 a0 b1 b3 b6 b7 b8 v5) (hi : 1 ∈ Region.ready .any (opsOf (Tryd.f19.body.bind (regionOf 6))) listed) : wpOp Tryd.prog (opsOf (Tryd.f19.body.bind (regionOf 6))) Q 1 (J a0 w0 b1 b3 b6 b7 b8 v5 (listed.setIfInBounds 1 true)) a w := by
  obtain ⟨om, hE⟩ := hJ.ex
  have hdp := ready_dep hi
  obtain ⟨hpo, hnw⟩ := hE.po
  obtain ⟨o, ho, hg, hd, hop⟩ := parts6 (show (opsOf (Tryd.f19.body.bind (regionOf 6)))[1]?.map (fun o => (o.guard, o.dst, o.op)) = some (none, some 23, Op.move (Operand.tmp 5)) by kernel_rfl)
  have e5 : a.eval (.tmp 5) = v5 := (hJ.fr 5 (by decide) (by decide)).trans h0.s5
  refine op_val ho hg (v := v5) (w' := w) (by simp [execOp, hop, e5]) ?_
  rw [hd]
  exact J.val hJ h0.sz hE hi (i := 1) rfl rfl (by decide) (by decide) (by decide) (Below.refl _ _) hE.vp.2.2.2.2.1
theorem s6_2 {a0 : Act} {w0 : World} {b1 b3 b6 b7 b8 : Nat} {v5 : Value} {listed : Array Bool} {a : Act} {w : World} {Q : Exit → Act → World → Prop} (hJ : J a0 w0 b1 b3 b6 b7 b8 v5 listed a w) (h0 : A0 a0 b1 b3 b6 b7 b8 v5) (hi : 2 ∈ Region.ready .any (opsOf (Tryd.f19.body.bind (regionOf 6))) listed) : wpOp Tryd.prog (opsOf (Tryd.f19.body.bind (regionOf 6))) Q 2 (J a0 w0 b1 b3 b6 b7 b8 v5 (listed.setIfInBounds 2 true)) a w := by
  obtain ⟨om, hE⟩ := hJ.ex
  have hdp := ready_dep hi
  obtain ⟨hpo, hnw⟩ := hE.po
  obtain ⟨F, cap, hv, ht⟩ : ∃ F cap, a.eval (.tmp 23) = .func (.func F) #[] cap ∧ TstAt (Po om) w (.func (.func F) #[] cap) (typeF).p := by
    have h1 : TstAt (Po om) w (a.tmps.getD 23 undef) _ := hE.sl 1 _ (by decide) rfl (hdp 1 (by decide))
    obtain ⟨F, cap, e⟩ := h1.shape
    rw [e] at h1
    exact ⟨F, cap, e, h1⟩
  refine call6 (hf := Tryd.func32) (show (opsOf (Tryd.f19.body.bind (regionOf 6)))[2]?.map (fun o => (o.guard, o.dst, o.op)) = some (none, some 24, Op.call { callee := Callee.value (Operand.func 32), args := #[Operand.const (Value.string { data := #[116, 121, 112, 101] }), Operand.tmp 23], argTypes := #[9, 54] }) by kernel_rfl) (by kernel_rfl) (by kernel_rfl) (args := #[.string ⟨(typeF).nm.toArray⟩, .func (.func F) #[] cap]) (by simp [hv]; rfl) ?_
  refine (may_any typeF rfl F cap w ht).mono fun e w' ⟨⟨v, he, hv⟩, hb⟩ => ⟨v, he, ?_⟩
  exact J.val hJ h0.sz hE hi (i := 2) rfl rfl (by decide) (by decide) (by decide) hb hv
theorem s6_3 {a0 : Act} {w0 : World} {b1 b3 b6 b7 b8 : Nat} {v5 : Value} {listed : Array Bool} {a : Act} {w : World} {Q : Exit → Act → World → Prop} (hJ : J a0 w0 b1 b3 b6 b7 b8 v5 listed a w) (h0 : A0 a0 b1 b3 b6 b7 b8 v5) (hi : 3 ∈ Region.ready .any (opsOf (Tryd.f19.body.bind (regionOf 6))) listed) : wpOp Tryd.prog (opsOf (Tryd.f19.body.bind (regionOf 6))) Q 3 (J a0 w0 b1 b3 b6 b7 b8 v5 (listed.setIfInBounds 3 true)) a w := by
  obtain ⟨om, hE⟩ := hJ.ex
  have hdp := ready_dep hi
  obtain ⟨hpo, hnw⟩ := hE.po
  refine call6 (hf := Tryd.func32) (show (opsOf (Tryd.f19.body.bind (regionOf 6)))[3]?.map (fun o => (o.guard, o.dst, o.op)) = some (none, some 25, Op.call { callee := Callee.value (Operand.func 32), args := #[Operand.const (Value.string { data := #[102, 114, 111, 109] }), Operand.func 41], argTypes := #[9, 54] }) by kernel_rfl) (by kernel_rfl) (by kernel_rfl) (args := #[.string ⟨(fromF).nm.toArray⟩, .func (.func 41) #[] #[]]) (by simp only [List.map_toArray, List.map_cons, List.map_nil]; rfl) ?_
  refine (may_any (P := Po om) fromF rfl 41 #[] w (.inr (.inr (.inr (.inr (.inl ⟨rfl, rfl⟩)))))).mono fun e w' ⟨⟨v, he, hv⟩, hb⟩ => ⟨v, he, ?_⟩
  exact J.val hJ h0.sz hE hi (i := 3) rfl rfl (by decide) (by decide) (by decide) hb hv
theorem s6_4 {a0 : Act} {w0 : World} {b1 b3 b6 b7 b8 : Nat} {v5 : Value} {listed : Array Bool} {a : Act} {w : World} {Q : Exit → Act → World → Prop} (hJ : J a0 w0 b1 b3 b6 b7 b8 v5 listed a w) (h0 : A0 a0 b1 b3 b6 b7 b8 v5) (hi : 4 ∈ Region.ready .any (opsOf (Tryd.f19.body.bind (regionOf 6))) listed) : wpOp Tryd.prog (opsOf (Tryd.f19.body.bind (regionOf 6))) Q 4 (J a0 w0 b1 b3 b6 b7 b8 v5 (listed.setIfInBounds 4 true)) a w := by
  obtain ⟨om, hE⟩ := hJ.ex
  have hdp := ready_dep hi
  obtain ⟨hpo, hnw⟩ := hE.po
  refine call6 (hf := Tryd.func32) (show (opsOf (Tryd.f19.body.bind (regionOf 6)))[4]?.map (fun o => (o.guard, o.dst, o.op)) = some (none, some 26, Op.call { callee := Callee.value (Operand.func 32), args := #[Operand.const (Value.string { data := #[116, 111] }), Operand.func 41], argTypes := #[9, 54] }) by kernel_rfl) (by kernel_rfl) (by kernel_rfl) (args := #[.string ⟨(toF).nm.toArray⟩, .func (.func 41) #[] #[]]) (by simp only [List.map_toArray, List.map_cons, List.map_nil]; rfl) ?_
  refine (may_any (P := Po om) toF rfl 41 #[] w (.inr (.inr (.inr (.inr (.inl ⟨rfl, rfl⟩)))))).mono fun e w' ⟨⟨v, he, hv⟩, hb⟩ => ⟨v, he, ?_⟩
  exact J.val hJ h0.sz hE hi (i := 4) rfl rfl (by decide) (by decide) (by decide) hb hv
theorem s6_5 {a0 : Act} {w0 : World} {b1 b3 b6 b7 b8 : Nat} {v5 : Value} {listed : Array Bool} {a : Act} {w : World} {Q : Exit → Act → World → Prop} (hJ : J a0 w0 b1 b3 b6 b7 b8 v5 listed a w) (h0 : A0 a0 b1 b3 b6 b7 b8 v5) (hi : 5 ∈ Region.ready .any (opsOf (Tryd.f19.body.bind (regionOf 6))) listed) : wpOp Tryd.prog (opsOf (Tryd.f19.body.bind (regionOf 6))) Q 5 (J a0 w0 b1 b3 b6 b7 b8 v5 (listed.setIfInBounds 5 true)) a w := by
  obtain ⟨om, hE⟩ := hJ.ex
  have hdp := ready_dep hi
  obtain ⟨hpo, hnw⟩ := hE.po
  obtain ⟨o, ho, hg, hd, hop⟩ := parts6 (show (opsOf (Tryd.f19.body.bind (regionOf 6)))[5]?.map (fun o => (o.guard, o.dst, o.op)) = some (none, some 27, Op.buildSlice 53 3 #[(0, Operand.tmp 24), (1, Operand.tmp 25), (2, Operand.tmp 26)]) by kernel_rfl)
  obtain ⟨F0, c0, e0, t0⟩ := hE.fd (i := 2) (s := 24) (by decide) rfl (hdp 2 (by decide)) rfl
  obtain ⟨F1, c1, e1, t1⟩ := hE.fd (i := 3) (s := 25) (by decide) rfl (hdp 3 (by decide)) rfl
  obtain ⟨F2, c2, e2, t2⟩ := hE.fd (i := 4) (s := 26) (by decide) rfl (hdp 4 (by decide)) rfl
  refine op_val ho hg (v := .slice (some ⟨w.heap.size, 0, none⟩) 3 3) (by simp [execOp, hop, e0, e1, e2, run_sl3]; rfl) ?_
  rw [hd]
  exact J.val hJ h0.sz hE hi (i := 5) rfl rfl (by decide) (by decide) (by decide) (bw0 w _) ⟨⟨_, _, _, rfl⟩, _, row_block w hpo 70 _ 3, ⟨_, _, rfl, t0.step (.below (bw0 w _)), ⟨_, _, rfl, t1.step (.below (bw0 w _)), ⟨_, _, rfl, t2.step (.below (bw0 w _)), rfl⟩⟩⟩⟩
theorem s6_6 {a0 : Act} {w0 : World} {b1 b3 b6 b7 b8 : Nat} {v5 : Value} {listed : Array Bool} {a : Act} {w : World} {Q : Exit → Act → World → Prop} (hJ : J a0 w0 b1 b3 b6 b7 b8 v5 listed a w) (h0 : A0 a0 b1 b3 b6 b7 b8 v5) (hi : 6 ∈ Region.ready .any (opsOf (Tryd.f19.body.bind (regionOf 6))) listed) : wpOp Tryd.prog (opsOf (Tryd.f19.body.bind (regionOf 6))) Q 6 (J a0 w0 b1 b3 b6 b7 b8 v5 (listed.setIfInBounds 6 true)) a w := by
  obtain ⟨om, hE⟩ := hJ.ex
  have hdp := ready_dep hi
  obtain ⟨hpo, hnw⟩ := hE.po
  obtain ⟨ao, n, c, ev, hr⟩ := hE.row (i := 5) (s := 27) (by decide) rfl (hdp 5 (by decide)) rfl
  refine call6 (hf := Tryd.func40) (show (opsOf (Tryd.f19.body.bind (regionOf 6)))[6]?.map (fun o => (o.guard, o.dst, o.op)) = some (none, some 28, Op.call { callee := Callee.value (Operand.func 40), args := #[Operand.const (Value.string { data := #[112, 114, 101, 115, 101, 110, 99, 101] }), Operand.tmp 27], argTypes := #[9, 53] }) by kernel_rfl) (by kernel_rfl) (by kernel_rfl) (args := #[.string ⟨#[112, 114, 101, 115, 101, 110, 99, 101]⟩, .slice ao n c]) (by simp [ev]; rfl) ?_
  refine (bare_any [112, 114, 101, 115, 101, 110, 99, 101] [typeF, fromF, toF] ao n c w hr).mono fun e w' ⟨⟨v, he, hv⟩, hb⟩ => ⟨v, he, ?_⟩
  exact J.val hJ h0.sz hE hi (i := 6) rfl rfl (by decide) (by decide) (by decide) hb (hv.step (hnw _).1)
theorem s6_7 {a0 : Act} {w0 : World} {b1 b3 b6 b7 b8 : Nat} {v5 : Value} {listed : Array Bool} {a : Act} {w : World} {Q : Exit → Act → World → Prop} (hJ : J a0 w0 b1 b3 b6 b7 b8 v5 listed a w) (h0 : A0 a0 b1 b3 b6 b7 b8 v5) (hi : 7 ∈ Region.ready .any (opsOf (Tryd.f19.body.bind (regionOf 6))) listed) : wpOp Tryd.prog (opsOf (Tryd.f19.body.bind (regionOf 6))) Q 7 (J a0 w0 b1 b3 b6 b7 b8 v5 (listed.setIfInBounds 7 true)) a w := by
  obtain ⟨om, hE⟩ := hJ.ex
  have hdp := ready_dep hi
  obtain ⟨hpo, hnw⟩ := hE.po
  obtain ⟨o, ho, hg, hd, hop⟩ := parts6 (show (opsOf (Tryd.f19.body.bind (regionOf 6)))[7]?.map (fun o => (o.guard, o.dst, o.op)) = some (none, some 29, Op.load 59 (Operand.tmp 6)) by kernel_rfl)
  have e5 : a.eval (.tmp 6) = .pointer (some ⟨b6, 0, none⟩) := (hJ.fr 6 (by decide) (by decide)).trans h0.s6
  obtain ⟨_, ao1, n1, c1, F, cap, ao, kk, kc, hA, hN⟩ := hE.vp.2.2.2.2.2.1
  refine op_val ho hg (w' := w) (v := .agg _) (by simp [execOp, hop, e5, run_load6 hA]; rfl) ?_
  rw [hd]
  exact J.val hJ h0.sz hE hi (i := 7) rfl rfl (by decide) (by decide) (by decide) (Below.refl _ _) ⟨ao1, n1, c1, F, cap, ao, kk, kc, rfl, hN⟩
theorem s6_8 {a0 : Act} {w0 : World} {b1 b3 b6 b7 b8 : Nat} {v5 : Value} {listed : Array Bool} {a : Act} {w : World} {Q : Exit → Act → World → Prop} (hJ : J a0 w0 b1 b3 b6 b7 b8 v5 listed a w) (h0 : A0 a0 b1 b3 b6 b7 b8 v5) (hi : 8 ∈ Region.ready .any (opsOf (Tryd.f19.body.bind (regionOf 6))) listed) : wpOp Tryd.prog (opsOf (Tryd.f19.body.bind (regionOf 6))) Q 8 (J a0 w0 b1 b3 b6 b7 b8 v5 (listed.setIfInBounds 8 true)) a w := by
  obtain ⟨om, hE⟩ := hJ.ex
  have hdp := ready_dep hi
  obtain ⟨hpo, hnw⟩ := hE.po
  obtain ⟨ao1, n1, c1, F, cap, ao, kk, kc, ej, hj⟩ := hE.ns (i := 6) (s := 28) (by decide) rfl (hdp 6 (by decide)) rfl
  obtain ⟨bo1, m1, d1, G, dap, bo, lk, lc, eq, hq⟩ := hE.ns (i := 7) (s := 29) (by decide) rfl (hdp 7 (by decide)) rfl
  refine call6 (hf := Tryd.func42) (show (opsOf (Tryd.f19.body.bind (regionOf 6)))[8]?.map (fun o => (o.guard, o.dst, o.op)) = some (none, some 30, Op.call { callee := Callee.value (Operand.func 42), args := #[Operand.tmp 28, Operand.const (Value.int IntKind.i64 0), Operand.const (Value.int IntKind.i64 1), Operand.tmp 29], argTypes := #[59, 3, 3, 59] }) by kernel_rfl) (by kernel_rfl) (by kernel_rfl) (args := #[.agg #[.string ⟨((bareS [112, 114, 101, 115, 101, 110, 99, 101] [typeF, fromF, toF])).nm.toArray⟩, .slice ao1 n1 c1, .func (.func F) #[] cap, .int .i64 ((bareS [112, 114, 101, 115, 101, 110, 99, 101] [typeF, fromF, toF])).least, .int .i64 ((bareS [112, 114, 101, 115, 101, 110, 99, 101] [typeF, fromF, toF])).most, .slice ao kk kc], .int .i64 ((0 : Nat) : Int), .int .i64 ((1 : Nat) : Int), .agg #[.string ⟨((sayS [115, 104, 111, 119] (oneN showL))).nm.toArray⟩, .slice bo1 m1 d1, .func (.func G) #[] dap, .int .i64 ((sayS [115, 104, 111, 119] (oneN showL))).least, .int .i64 ((sayS [115, 104, 111, 119] (oneN showL))).most, .slice bo lk lc]]) (by simp only [List.map_toArray, List.map_cons, List.map_nil, ej, eq]; rfl) ?_
  refine (around_any ((bareS [112, 114, 101, 115, 101, 110, 99, 101] [typeF, fromF, toF])) ((sayS [115, 104, 111, 119] (oneN showL))) 1 0 1 _ _ ao1 n1 c1 F cap ao kk kc bo1 m1 d1 G dap bo lk lc w hj.2.1 hj.2.2.1 hq).mono fun e w' ⟨⟨v, he, hv⟩, hb⟩ => ⟨v, he, ?_⟩
  exact J.val hJ h0.sz hE hi (i := 8) rfl rfl (by decide) (by decide) (by decide) hb (hv.step (hnw _).1)
theorem s6_10 {a0 : Act} {w0 : World} {b1 b3 b6 b7 b8 : Nat} {v5 : Value} {listed : Array Bool} {a : Act} {w : World} {Q : Exit → Act → World → Prop} (hJ : J a0 w0 b1 b3 b6 b7 b8 v5 listed a w) (h0 : A0 a0 b1 b3 b6 b7 b8 v5) (hi : 10 ∈ Region.ready .any (opsOf (Tryd.f19.body.bind (regionOf 6))) listed) : wpOp Tryd.prog (opsOf (Tryd.f19.body.bind (regionOf 6))) Q 10 (J a0 w0 b1 b3 b6 b7 b8 v5 (listed.setIfInBounds 10 true)) a w := by
  obtain ⟨om, hE⟩ := hJ.ex
  have hdp := ready_dep hi
  obtain ⟨hpo, hnw⟩ := hE.po
  refine call6 (hf := Tryd.func43) (show (opsOf (Tryd.f19.body.bind (regionOf 6)))[10]?.map (fun o => (o.guard, o.dst, o.op)) = some (none, some 31, Op.call { callee := Callee.value (Operand.func 43), args := #[Operand.const (Value.string { data := #[103, 101, 116] })], argTypes := #[9] }) by kernel_rfl) (by kernel_rfl) (by kernel_rfl) (args := #[.string ⟨#[103, 101, 116]⟩]) (by simp only [List.map_toArray, List.map_cons, List.map_nil]; rfl) ?_
  refine (iq_any [103, 101, 116] w).mono fun e w' ⟨⟨v, he, hv⟩, hb⟩ => ⟨v, he, ?_⟩
  exact J.val hJ h0.sz hE hi (i := 10) rfl rfl (by decide) (by decide) (by decide) hb (hv.step (hnw _).2)
theorem s6_11 {a0 : Act} {w0 : World} {b1 b3 b6 b7 b8 : Nat} {v5 : Value} {listed : Array Bool} {a : Act} {w : World} {Q : Exit → Act → World → Prop} (hJ : J a0 w0 b1 b3 b6 b7 b8 v5 listed a w) (h0 : A0 a0 b1 b3 b6 b7 b8 v5) (hi : 11 ∈ Region.ready .any (opsOf (Tryd.f19.body.bind (regionOf 6))) listed) : wpOp Tryd.prog (opsOf (Tryd.f19.body.bind (regionOf 6))) Q 11 (J a0 w0 b1 b3 b6 b7 b8 v5 (listed.setIfInBounds 11 true)) a w := by
  obtain ⟨om, hE⟩ := hJ.ex
  have hdp := ready_dep hi
  obtain ⟨hpo, hnw⟩ := hE.po
  obtain ⟨o, ho, hg, hd, hop⟩ := parts6 (show (opsOf (Tryd.f19.body.bind (regionOf 6)))[11]?.map (fun o => (o.guard, o.dst, o.op)) = some (none, some 32, Op.load 70 (Operand.tmp 1)) by kernel_rfl)
  have e5 : a.eval (.tmp 1) = .pointer (some ⟨b1, 0, none⟩) := (hJ.fr 1 (by decide) (by decide)).trans h0.s1
  obtain ⟨_, F, c, hA, hT⟩ := hE.vp.1
  refine op_val ho hg (w' := w) (v := .agg _) (by simp [execOp, hop, e5, run_load3 hA]; rfl) ?_
  rw [hd]
  exact J.val hJ h0.sz hE hi (i := 11) rfl rfl (by decide) (by decide) (by decide) (Below.refl _ _) ⟨F, c, rfl, hT⟩
theorem s6_12 {a0 : Act} {w0 : World} {b1 b3 b6 b7 b8 : Nat} {v5 : Value} {listed : Array Bool} {a : Act} {w : World} {Q : Exit → Act → World → Prop} (hJ : J a0 w0 b1 b3 b6 b7 b8 v5 listed a w) (h0 : A0 a0 b1 b3 b6 b7 b8 v5) (hi : 12 ∈ Region.ready .any (opsOf (Tryd.f19.body.bind (regionOf 6))) listed) : wpOp Tryd.prog (opsOf (Tryd.f19.body.bind (regionOf 6))) Q 12 (J a0 w0 b1 b3 b6 b7 b8 v5 (listed.setIfInBounds 12 true)) a w := by
  obtain ⟨om, hE⟩ := hJ.ex
  have hdp := ready_dep hi
  obtain ⟨hpo, hnw⟩ := hE.po
  obtain ⟨o, ho, hg, hd, hop⟩ := parts6 (show (opsOf (Tryd.f19.body.bind (regionOf 6)))[12]?.map (fun o => (o.guard, o.dst, o.op)) = some (none, some 33, Op.buildSlice 53 1 #[(0, Operand.tmp 32)]) by kernel_rfl)
  obtain ⟨F0, c0, e0, t0⟩ := hE.fd (i := 11) (s := 32) (by decide) rfl (hdp 11 (by decide)) rfl
  refine op_val ho hg (v := .slice (some ⟨w.heap.size, 0, none⟩) 1 1) (by simp [execOp, hop, e0, run_sl1]; rfl) ?_
  rw [hd]
  exact J.val hJ h0.sz hE hi (i := 12) rfl rfl (by decide) (by decide) (by decide) (bw0 w _) ⟨⟨_, _, _, rfl⟩, _, row_block w hpo 70 _ 1, ⟨_, _, rfl, t0.step (.below (bw0 w _)), rfl⟩⟩
theorem s6_13 {a0 : Act} {w0 : World} {b1 b3 b6 b7 b8 : Nat} {v5 : Value} {listed : Array Bool} {a : Act} {w : World} {Q : Exit → Act → World → Prop} (hJ : J a0 w0 b1 b3 b6 b7 b8 v5 listed a w) (h0 : A0 a0 b1 b3 b6 b7 b8 v5) (hi : 13 ∈ Region.ready .any (opsOf (Tryd.f19.body.bind (regionOf 6))) listed) : wpOp Tryd.prog (opsOf (Tryd.f19.body.bind (regionOf 6))) Q 13 (J a0 w0 b1 b3 b6 b7 b8 v5 (listed.setIfInBounds 13 true)) a w := by
  obtain ⟨om, hE⟩ := hJ.ex
  have hdp := ready_dep hi
  obtain ⟨hpo, hnw⟩ := hE.po
  obtain ⟨ao, n, c, ev, hr⟩ := hE.row (i := 12) (s := 33) (by decide) rfl (hdp 12 (by decide)) rfl
  refine call6 (hf := Tryd.func40) (show (opsOf (Tryd.f19.body.bind (regionOf 6)))[13]?.map (fun o => (o.guard, o.dst, o.op)) = some (none, some 34, Op.call { callee := Callee.value (Operand.func 40), args := #[Operand.const (Value.string { data := #[113, 117, 101, 114, 121] }), Operand.tmp 33], argTypes := #[9, 53] }) by kernel_rfl) (by kernel_rfl) (by kernel_rfl) (args := #[.string ⟨#[113, 117, 101, 114, 121]⟩, .slice ao n c]) (by simp [ev]; rfl) ?_
  refine (bare_any [113, 117, 101, 114, 121] [maybeVerF] ao n c w hr).mono fun e w' ⟨⟨v, he, hv⟩, hb⟩ => ⟨v, he, ?_⟩
  exact J.val hJ h0.sz hE hi (i := 13) rfl rfl (by decide) (by decide) (by decide) hb (hv.step (hnw _).1)
theorem s6_14 {a0 : Act} {w0 : World} {b1 b3 b6 b7 b8 : Nat} {v5 : Value} {listed : Array Bool} {a : Act} {w : World} {Q : Exit → Act → World → Prop} (hJ : J a0 w0 b1 b3 b6 b7 b8 v5 listed a w) (h0 : A0 a0 b1 b3 b6 b7 b8 v5) (hi : 14 ∈ Region.ready .any (opsOf (Tryd.f19.body.bind (regionOf 6))) listed) : wpOp Tryd.prog (opsOf (Tryd.f19.body.bind (regionOf 6))) Q 14 (J a0 w0 b1 b3 b6 b7 b8 v5 (listed.setIfInBounds 14 true)) a w := by
  obtain ⟨om, hE⟩ := hJ.ex
  have hdp := ready_dep hi
  obtain ⟨hpo, hnw⟩ := hE.po
  obtain ⟨ao1, n1, c1, F, cap, ao, kk, kc, ej, hj⟩ := hE.ns (i := 10) (s := 31) (by decide) rfl (hdp 10 (by decide)) rfl
  obtain ⟨bo1, m1, d1, G, dap, bo, lk, lc, eq, hq⟩ := hE.ns (i := 13) (s := 34) (by decide) rfl (hdp 13 (by decide)) rfl
  refine call6 (hf := Tryd.func42) (show (opsOf (Tryd.f19.body.bind (regionOf 6)))[14]?.map (fun o => (o.guard, o.dst, o.op)) = some (none, some 35, Op.call { callee := Callee.value (Operand.func 42), args := #[Operand.tmp 31, Operand.const (Value.int IntKind.i64 1), Operand.const (Value.int IntKind.i64 1), Operand.tmp 34], argTypes := #[59, 3, 3, 59] }) by kernel_rfl) (by kernel_rfl) (by kernel_rfl) (args := #[.agg #[.string ⟨((iqS [103, 101, 116])).nm.toArray⟩, .slice ao1 n1 c1, .func (.func F) #[] cap, .int .i64 ((iqS [103, 101, 116])).least, .int .i64 ((iqS [103, 101, 116])).most, .slice ao kk kc], .int .i64 ((1 : Nat) : Int), .int .i64 ((1 : Nat) : Int), .agg #[.string ⟨((bareS queryNm [maybeVerF])).nm.toArray⟩, .slice bo1 m1 d1, .func (.func G) #[] dap, .int .i64 ((bareS queryNm [maybeVerF])).least, .int .i64 ((bareS queryNm [maybeVerF])).most, .slice bo lk lc]]) (by simp only [List.map_toArray, List.map_cons, List.map_nil, ej, eq]; rfl) ?_
  refine (around_any ((iqS [103, 101, 116])) ((bareS queryNm [maybeVerF])) 1 1 1 _ _ ao1 n1 c1 F cap ao kk kc bo1 m1 d1 G dap bo lk lc w hj.2.1 hj.2.2.1 hq).mono fun e w' ⟨⟨v, he, hv⟩, hb⟩ => ⟨v, he, ?_⟩
  exact J.val hJ h0.sz hE hi (i := 14) rfl rfl (by decide) (by decide) (by decide) hb (hv.step (hnw _).1)
theorem s6_16 {a0 : Act} {w0 : World} {b1 b3 b6 b7 b8 : Nat} {v5 : Value} {listed : Array Bool} {a : Act} {w : World} {Q : Exit → Act → World → Prop} (hJ : J a0 w0 b1 b3 b6 b7 b8 v5 listed a w) (h0 : A0 a0 b1 b3 b6 b7 b8 v5) (hi : 16 ∈ Region.ready .any (opsOf (Tryd.f19.body.bind (regionOf 6))) listed) : wpOp Tryd.prog (opsOf (Tryd.f19.body.bind (regionOf 6))) Q 16 (J a0 w0 b1 b3 b6 b7 b8 v5 (listed.setIfInBounds 16 true)) a w := by
  obtain ⟨om, hE⟩ := hJ.ex
  have hdp := ready_dep hi
  obtain ⟨hpo, hnw⟩ := hE.po
  refine call6 (hf := Tryd.func43) (show (opsOf (Tryd.f19.body.bind (regionOf 6)))[16]?.map (fun o => (o.guard, o.dst, o.op)) = some (none, some 36, Op.call { callee := Callee.value (Operand.func 43), args := #[Operand.const (Value.string { data := #[115, 101, 116] })], argTypes := #[9] }) by kernel_rfl) (by kernel_rfl) (by kernel_rfl) (args := #[.string ⟨#[115, 101, 116]⟩]) (by simp only [List.map_toArray, List.map_cons, List.map_nil]; rfl) ?_
  refine (iq_any [115, 101, 116] w).mono fun e w' ⟨⟨v, he, hv⟩, hb⟩ => ⟨v, he, ?_⟩
  exact J.val hJ h0.sz hE hi (i := 16) rfl rfl (by decide) (by decide) (by decide) hb (hv.step (hnw _).2)
theorem s6_17 {a0 : Act} {w0 : World} {b1 b3 b6 b7 b8 : Nat} {v5 : Value} {listed : Array Bool} {a : Act} {w : World} {Q : Exit → Act → World → Prop} (hJ : J a0 w0 b1 b3 b6 b7 b8 v5 listed a w) (h0 : A0 a0 b1 b3 b6 b7 b8 v5) (hi : 17 ∈ Region.ready .any (opsOf (Tryd.f19.body.bind (regionOf 6))) listed) : wpOp Tryd.prog (opsOf (Tryd.f19.body.bind (regionOf 6))) Q 17 (J a0 w0 b1 b3 b6 b7 b8 v5 (listed.setIfInBounds 17 true)) a w := by
  obtain ⟨om, hE⟩ := hJ.ex
  have hdp := ready_dep hi
  obtain ⟨hpo, hnw⟩ := hE.po
  obtain ⟨o, ho, hg, hd, hop⟩ := parts6 (show (opsOf (Tryd.f19.body.bind (regionOf 6)))[17]?.map (fun o => (o.guard, o.dst, o.op)) = some (none, some 37, Op.load 70 (Operand.tmp 1)) by kernel_rfl)
  have e5 : a.eval (.tmp 1) = .pointer (some ⟨b1, 0, none⟩) := (hJ.fr 1 (by decide) (by decide)).trans h0.s1
  obtain ⟨_, F, c, hA, hT⟩ := hE.vp.1
  refine op_val ho hg (w' := w) (v := .agg _) (by simp [execOp, hop, e5, run_load3 hA]; rfl) ?_
  rw [hd]
  exact J.val hJ h0.sz hE hi (i := 17) rfl rfl (by decide) (by decide) (by decide) (Below.refl _ _) ⟨F, c, rfl, hT⟩
theorem s6_18 {a0 : Act} {w0 : World} {b1 b3 b6 b7 b8 : Nat} {v5 : Value} {listed : Array Bool} {a : Act} {w : World} {Q : Exit → Act → World → Prop} (hJ : J a0 w0 b1 b3 b6 b7 b8 v5 listed a w) (h0 : A0 a0 b1 b3 b6 b7 b8 v5) (hi : 18 ∈ Region.ready .any (opsOf (Tryd.f19.body.bind (regionOf 6))) listed) : wpOp Tryd.prog (opsOf (Tryd.f19.body.bind (regionOf 6))) Q 18 (J a0 w0 b1 b3 b6 b7 b8 v5 (listed.setIfInBounds 18 true)) a w := by
  obtain ⟨om, hE⟩ := hJ.ex
  have hdp := ready_dep hi
  obtain ⟨hpo, hnw⟩ := hE.po
  obtain ⟨o, ho, hg, hd, hop⟩ := parts6 (show (opsOf (Tryd.f19.body.bind (regionOf 6)))[18]?.map (fun o => (o.guard, o.dst, o.op)) = some (none, some 38, Op.buildSlice 53 1 #[(0, Operand.tmp 37)]) by kernel_rfl)
  obtain ⟨F0, c0, e0, t0⟩ := hE.fd (i := 17) (s := 37) (by decide) rfl (hdp 17 (by decide)) rfl
  refine op_val ho hg (v := .slice (some ⟨w.heap.size, 0, none⟩) 1 1) (by simp [execOp, hop, e0, run_sl1]; rfl) ?_
  rw [hd]
  exact J.val hJ h0.sz hE hi (i := 18) rfl rfl (by decide) (by decide) (by decide) (bw0 w _) ⟨⟨_, _, _, rfl⟩, _, row_block w hpo 70 _ 1, ⟨_, _, rfl, t0.step (.below (bw0 w _)), rfl⟩⟩
theorem s6_19 {a0 : Act} {w0 : World} {b1 b3 b6 b7 b8 : Nat} {v5 : Value} {listed : Array Bool} {a : Act} {w : World} {Q : Exit → Act → World → Prop} (hJ : J a0 w0 b1 b3 b6 b7 b8 v5 listed a w) (h0 : A0 a0 b1 b3 b6 b7 b8 v5) (hi : 19 ∈ Region.ready .any (opsOf (Tryd.f19.body.bind (regionOf 6))) listed) : wpOp Tryd.prog (opsOf (Tryd.f19.body.bind (regionOf 6))) Q 19 (J a0 w0 b1 b3 b6 b7 b8 v5 (listed.setIfInBounds 19 true)) a w := by
  obtain ⟨om, hE⟩ := hJ.ex
  have hdp := ready_dep hi
  obtain ⟨hpo, hnw⟩ := hE.po
  obtain ⟨ao, n, c, ev, hr⟩ := hE.row (i := 18) (s := 38) (by decide) rfl (hdp 18 (by decide)) rfl
  refine call6 (hf := Tryd.func40) (show (opsOf (Tryd.f19.body.bind (regionOf 6)))[19]?.map (fun o => (o.guard, o.dst, o.op)) = some (none, some 39, Op.call { callee := Callee.value (Operand.func 40), args := #[Operand.const (Value.string { data := #[113, 117, 101, 114, 121] }), Operand.tmp 38], argTypes := #[9, 53] }) by kernel_rfl) (by kernel_rfl) (by kernel_rfl) (args := #[.string ⟨#[113, 117, 101, 114, 121]⟩, .slice ao n c]) (by simp [ev]; rfl) ?_
  refine (bare_any [113, 117, 101, 114, 121] [maybeVerF] ao n c w hr).mono fun e w' ⟨⟨v, he, hv⟩, hb⟩ => ⟨v, he, ?_⟩
  exact J.val hJ h0.sz hE hi (i := 19) rfl rfl (by decide) (by decide) (by decide) hb (hv.step (hnw _).1)
theorem s6_20 {a0 : Act} {w0 : World} {b1 b3 b6 b7 b8 : Nat} {v5 : Value} {listed : Array Bool} {a : Act} {w : World} {Q : Exit → Act → World → Prop} (hJ : J a0 w0 b1 b3 b6 b7 b8 v5 listed a w) (h0 : A0 a0 b1 b3 b6 b7 b8 v5) (hi : 20 ∈ Region.ready .any (opsOf (Tryd.f19.body.bind (regionOf 6))) listed) : wpOp Tryd.prog (opsOf (Tryd.f19.body.bind (regionOf 6))) Q 20 (J a0 w0 b1 b3 b6 b7 b8 v5 (listed.setIfInBounds 20 true)) a w := by
  obtain ⟨om, hE⟩ := hJ.ex
  have hdp := ready_dep hi
  obtain ⟨hpo, hnw⟩ := hE.po
  obtain ⟨o, ho, hg, hd, hop⟩ := parts6 (show (opsOf (Tryd.f19.body.bind (regionOf 6)))[20]?.map (fun o => (o.guard, o.dst, o.op)) = some (none, some 40, Op.load 59 (Operand.tmp 7)) by kernel_rfl)
  have e5 : a.eval (.tmp 7) = .pointer (some ⟨b7, 0, none⟩) := (hJ.fr 7 (by decide) (by decide)).trans h0.s7
  obtain ⟨_, ao1, n1, c1, F, cap, ao, kk, kc, hA, hN⟩ := hE.vp.2.2.2.2.2.2.1
  refine op_val ho hg (w' := w) (v := .agg _) (by simp [execOp, hop, e5, run_load6 hA]; rfl) ?_
  rw [hd]
  exact J.val hJ h0.sz hE hi (i := 20) rfl rfl (by decide) (by decide) (by decide) (Below.refl _ _) ⟨ao1, n1, c1, F, cap, ao, kk, kc, rfl, hN⟩
theorem s6_21 {a0 : Act} {w0 : World} {b1 b3 b6 b7 b8 : Nat} {v5 : Value} {listed : Array Bool} {a : Act} {w : World} {Q : Exit → Act → World → Prop} (hJ : J a0 w0 b1 b3 b6 b7 b8 v5 listed a w) (h0 : A0 a0 b1 b3 b6 b7 b8 v5) (hi : 21 ∈ Region.ready .any (opsOf (Tryd.f19.body.bind (regionOf 6))) listed) : wpOp Tryd.prog (opsOf (Tryd.f19.body.bind (regionOf 6))) Q 21 (J a0 w0 b1 b3 b6 b7 b8 v5 (listed.setIfInBounds 21 true)) a w := by
  obtain ⟨om, hE⟩ := hJ.ex
  have hdp := ready_dep hi
  obtain ⟨hpo, hnw⟩ := hE.po
  obtain ⟨ao1, n1, c1, F, cap, ao, kk, kc, ej, hj⟩ := hE.ns (i := 19) (s := 39) (by decide) rfl (hdp 19 (by decide)) rfl
  obtain ⟨bo1, m1, d1, G, dap, bo, lk, lc, eq, hq⟩ := hE.ns (i := 20) (s := 40) (by decide) rfl (hdp 20 (by decide)) rfl
  refine call6 (hf := Tryd.func42) (show (opsOf (Tryd.f19.body.bind (regionOf 6)))[21]?.map (fun o => (o.guard, o.dst, o.op)) = some (none, some 41, Op.call { callee := Callee.value (Operand.func 42), args := #[Operand.tmp 39, Operand.const (Value.int IntKind.i64 1), Operand.const (Value.int IntKind.i64 1), Operand.tmp 40], argTypes := #[59, 3, 3, 59] }) by kernel_rfl) (by kernel_rfl) (by kernel_rfl) (args := #[.agg #[.string ⟨((bareS queryNm [maybeVerF])).nm.toArray⟩, .slice ao1 n1 c1, .func (.func F) #[] cap, .int .i64 ((bareS queryNm [maybeVerF])).least, .int .i64 ((bareS queryNm [maybeVerF])).most, .slice ao kk kc], .int .i64 ((1 : Nat) : Int), .int .i64 ((1 : Nat) : Int), .agg #[.string ⟨((itemS setL)).nm.toArray⟩, .slice bo1 m1 d1, .func (.func G) #[] dap, .int .i64 ((itemS setL)).least, .int .i64 ((itemS setL)).most, .slice bo lk lc]]) (by simp only [List.map_toArray, List.map_cons, List.map_nil, ej, eq]; rfl) ?_
  refine (around_any ((bareS queryNm [maybeVerF])) ((itemS setL)) 1 1 1 _ _ ao1 n1 c1 F cap ao kk kc bo1 m1 d1 G dap bo lk lc w hj.2.1 hj.2.2.1 hq).mono fun e w' ⟨⟨v, he, hv⟩, hb⟩ => ⟨v, he, ?_⟩
  exact J.val hJ h0.sz hE hi (i := 21) rfl rfl (by decide) (by decide) (by decide) hb (hv.step (hnw _).1)
theorem s6_22 {a0 : Act} {w0 : World} {b1 b3 b6 b7 b8 : Nat} {v5 : Value} {listed : Array Bool} {a : Act} {w : World} {Q : Exit → Act → World → Prop} (hJ : J a0 w0 b1 b3 b6 b7 b8 v5 listed a w) (h0 : A0 a0 b1 b3 b6 b7 b8 v5) (hi : 22 ∈ Region.ready .any (opsOf (Tryd.f19.body.bind (regionOf 6))) listed) : wpOp Tryd.prog (opsOf (Tryd.f19.body.bind (regionOf 6))) Q 22 (J a0 w0 b1 b3 b6 b7 b8 v5 (listed.setIfInBounds 22 true)) a w := by
  obtain ⟨om, hE⟩ := hJ.ex
  have hdp := ready_dep hi
  obtain ⟨hpo, hnw⟩ := hE.po
  obtain ⟨ao1, n1, c1, F, cap, ao, kk, kc, ej, hj⟩ := hE.ns (i := 16) (s := 36) (by decide) rfl (hdp 16 (by decide)) rfl
  obtain ⟨bo1, m1, d1, G, dap, bo, lk, lc, eq, hq⟩ := hE.ns (i := 21) (s := 41) (by decide) rfl (hdp 21 (by decide)) rfl
  refine call6 (hf := Tryd.func42) (show (opsOf (Tryd.f19.body.bind (regionOf 6)))[22]?.map (fun o => (o.guard, o.dst, o.op)) = some (none, some 42, Op.call { callee := Callee.value (Operand.func 42), args := #[Operand.tmp 36, Operand.const (Value.int IntKind.i64 1), Operand.const (Value.int IntKind.i64 1), Operand.tmp 41], argTypes := #[59, 3, 3, 59] }) by kernel_rfl) (by kernel_rfl) (by kernel_rfl) (args := #[.agg #[.string ⟨((iqS [115, 101, 116])).nm.toArray⟩, .slice ao1 n1 c1, .func (.func F) #[] cap, .int .i64 ((iqS [115, 101, 116])).least, .int .i64 ((iqS [115, 101, 116])).most, .slice ao kk kc], .int .i64 ((1 : Nat) : Int), .int .i64 ((1 : Nat) : Int), .agg #[.string ⟨(((bareS queryNm [maybeVerF]).around 1 1 (itemS setL))).nm.toArray⟩, .slice bo1 m1 d1, .func (.func G) #[] dap, .int .i64 (((bareS queryNm [maybeVerF]).around 1 1 (itemS setL))).least, .int .i64 (((bareS queryNm [maybeVerF]).around 1 1 (itemS setL))).most, .slice bo lk lc]]) (by simp only [List.map_toArray, List.map_cons, List.map_nil, ej, eq]; rfl) ?_
  refine (around_any ((iqS [115, 101, 116])) (((bareS queryNm [maybeVerF]).around 1 1 (itemS setL))) 2 1 1 _ _ ao1 n1 c1 F cap ao kk kc bo1 m1 d1 G dap bo lk lc w hj.2.1 hj.2.2.1 hq).mono fun e w' ⟨⟨v, he, hv⟩, hb⟩ => ⟨v, he, ?_⟩
  exact J.val hJ h0.sz hE hi (i := 22) rfl rfl (by decide) (by decide) (by decide) hb (hv.step (hnw _).1)
theorem s6_24 {a0 : Act} {w0 : World} {b1 b3 b6 b7 b8 : Nat} {v5 : Value} {listed : Array Bool} {a : Act} {w : World} {Q : Exit → Act → World → Prop} (hJ : J a0 w0 b1 b3 b6 b7 b8 v5 listed a w) (h0 : A0 a0 b1 b3 b6 b7 b8 v5) (hi : 24 ∈ Region.ready .any (opsOf (Tryd.f19.body.bind (regionOf 6))) listed) : wpOp Tryd.prog (opsOf (Tryd.f19.body.bind (regionOf 6))) Q 24 (J a0 w0 b1 b3 b6 b7 b8 v5 (listed.setIfInBounds 24 true)) a w := by
  obtain ⟨om, hE⟩ := hJ.ex
  have hdp := ready_dep hi
  obtain ⟨hpo, hnw⟩ := hE.po
  refine call6 (hf := Tryd.func43) (show (opsOf (Tryd.f19.body.bind (regionOf 6)))[24]?.map (fun o => (o.guard, o.dst, o.op)) = some (none, some 43, Op.call { callee := Callee.value (Operand.func 43), args := #[Operand.const (Value.string { data := #[114, 101, 115, 117, 108, 116] })], argTypes := #[9] }) by kernel_rfl) (by kernel_rfl) (by kernel_rfl) (args := #[.string ⟨#[114, 101, 115, 117, 108, 116]⟩]) (by simp only [List.map_toArray, List.map_cons, List.map_nil]; rfl) ?_
  refine (iq_any [114, 101, 115, 117, 108, 116] w).mono fun e w' ⟨⟨v, he, hv⟩, hb⟩ => ⟨v, he, ?_⟩
  exact J.val hJ h0.sz hE hi (i := 24) rfl rfl (by decide) (by decide) (by decide) hb (hv.step (hnw _).2)
theorem s6_25 {a0 : Act} {w0 : World} {b1 b3 b6 b7 b8 : Nat} {v5 : Value} {listed : Array Bool} {a : Act} {w : World} {Q : Exit → Act → World → Prop} (hJ : J a0 w0 b1 b3 b6 b7 b8 v5 listed a w) (h0 : A0 a0 b1 b3 b6 b7 b8 v5) (hi : 25 ∈ Region.ready .any (opsOf (Tryd.f19.body.bind (regionOf 6))) listed) : wpOp Tryd.prog (opsOf (Tryd.f19.body.bind (regionOf 6))) Q 25 (J a0 w0 b1 b3 b6 b7 b8 v5 (listed.setIfInBounds 25 true)) a w := by
  obtain ⟨om, hE⟩ := hJ.ex
  have hdp := ready_dep hi
  obtain ⟨hpo, hnw⟩ := hE.po
  obtain ⟨o, ho, hg, hd, hop⟩ := parts6 (show (opsOf (Tryd.f19.body.bind (regionOf 6)))[25]?.map (fun o => (o.guard, o.dst, o.op)) = some (none, some 44, Op.load 70 (Operand.tmp 2)) by kernel_rfl)
  have e5 : a.eval (.tmp 2) = .pointer (some ⟨b1 + 1, 0, none⟩) := (hJ.fr 2 (by decide) (by decide)).trans h0.s2
  obtain ⟨_, F, c, hA, hT⟩ := hE.vp.2.1
  refine op_val ho hg (w' := w) (v := .agg _) (by simp [execOp, hop, e5, run_load3 hA]; rfl) ?_
  rw [hd]
  exact J.val hJ h0.sz hE hi (i := 25) rfl rfl (by decide) (by decide) (by decide) (Below.refl _ _) ⟨F, c, rfl, hT⟩
theorem s6_26 {a0 : Act} {w0 : World} {b1 b3 b6 b7 b8 : Nat} {v5 : Value} {listed : Array Bool} {a : Act} {w : World} {Q : Exit → Act → World → Prop} (hJ : J a0 w0 b1 b3 b6 b7 b8 v5 listed a w) (h0 : A0 a0 b1 b3 b6 b7 b8 v5) (hi : 26 ∈ Region.ready .any (opsOf (Tryd.f19.body.bind (regionOf 6))) listed) : wpOp Tryd.prog (opsOf (Tryd.f19.body.bind (regionOf 6))) Q 26 (J a0 w0 b1 b3 b6 b7 b8 v5 (listed.setIfInBounds 26 true)) a w := by
  obtain ⟨om, hE⟩ := hJ.ex
  have hdp := ready_dep hi
  obtain ⟨hpo, hnw⟩ := hE.po
  obtain ⟨o, ho, hg, hd, hop⟩ := parts6 (show (opsOf (Tryd.f19.body.bind (regionOf 6)))[26]?.map (fun o => (o.guard, o.dst, o.op)) = some (none, some 45, Op.buildSlice 53 1 #[(0, Operand.tmp 44)]) by kernel_rfl)
  obtain ⟨F0, c0, e0, t0⟩ := hE.fd (i := 25) (s := 44) (by decide) rfl (hdp 25 (by decide)) rfl
  refine op_val ho hg (v := .slice (some ⟨w.heap.size, 0, none⟩) 1 1) (by simp [execOp, hop, e0, run_sl1]; rfl) ?_
  rw [hd]
  exact J.val hJ h0.sz hE hi (i := 26) rfl rfl (by decide) (by decide) (by decide) (bw0 w _) ⟨⟨_, _, _, rfl⟩, _, row_block w hpo 70 _ 1, ⟨_, _, rfl, t0.step (.below (bw0 w _)), rfl⟩⟩
theorem s6_27 {a0 : Act} {w0 : World} {b1 b3 b6 b7 b8 : Nat} {v5 : Value} {listed : Array Bool} {a : Act} {w : World} {Q : Exit → Act → World → Prop} (hJ : J a0 w0 b1 b3 b6 b7 b8 v5 listed a w) (h0 : A0 a0 b1 b3 b6 b7 b8 v5) (hi : 27 ∈ Region.ready .any (opsOf (Tryd.f19.body.bind (regionOf 6))) listed) : wpOp Tryd.prog (opsOf (Tryd.f19.body.bind (regionOf 6))) Q 27 (J a0 w0 b1 b3 b6 b7 b8 v5 (listed.setIfInBounds 27 true)) a w := by
  obtain ⟨om, hE⟩ := hJ.ex
  have hdp := ready_dep hi
  obtain ⟨hpo, hnw⟩ := hE.po
  obtain ⟨ao, n, c, ev, hr⟩ := hE.row (i := 26) (s := 45) (by decide) rfl (hdp 26 (by decide)) rfl
  refine call6 (hf := Tryd.func40) (show (opsOf (Tryd.f19.body.bind (regionOf 6)))[27]?.map (fun o => (o.guard, o.dst, o.op)) = some (none, some 46, Op.call { callee := Callee.value (Operand.func 40), args := #[Operand.const (Value.string { data := #[113, 117, 101, 114, 121] }), Operand.tmp 45], argTypes := #[9, 53] }) by kernel_rfl) (by kernel_rfl) (by kernel_rfl) (args := #[.string ⟨#[113, 117, 101, 114, 121]⟩, .slice ao n c]) (by simp [ev]; rfl) ?_
  refine (bare_any [113, 117, 101, 114, 121] [verF] ao n c w hr).mono fun e w' ⟨⟨v, he, hv⟩, hb⟩ => ⟨v, he, ?_⟩
  exact J.val hJ h0.sz hE hi (i := 27) rfl rfl (by decide) (by decide) (by decide) hb (hv.step (hnw _).1)
theorem s6_28 {a0 : Act} {w0 : World} {b1 b3 b6 b7 b8 : Nat} {v5 : Value} {listed : Array Bool} {a : Act} {w : World} {Q : Exit → Act → World → Prop} (hJ : J a0 w0 b1 b3 b6 b7 b8 v5 listed a w) (h0 : A0 a0 b1 b3 b6 b7 b8 v5) (hi : 28 ∈ Region.ready .any (opsOf (Tryd.f19.body.bind (regionOf 6))) listed) : wpOp Tryd.prog (opsOf (Tryd.f19.body.bind (regionOf 6))) Q 28 (J a0 w0 b1 b3 b6 b7 b8 v5 (listed.setIfInBounds 28 true)) a w := by
  obtain ⟨om, hE⟩ := hJ.ex
  have hdp := ready_dep hi
  obtain ⟨hpo, hnw⟩ := hE.po
  obtain ⟨o, ho, hg, hd, hop⟩ := parts6 (show (opsOf (Tryd.f19.body.bind (regionOf 6)))[28]?.map (fun o => (o.guard, o.dst, o.op)) = some (none, some 47, Op.load 59 (Operand.tmp 8)) by kernel_rfl)
  have e5 : a.eval (.tmp 8) = .pointer (some ⟨b8, 0, none⟩) := (hJ.fr 8 (by decide) (by decide)).trans h0.s8
  obtain ⟨_, ao1, n1, c1, F, cap, ao, kk, kc, hA, hN⟩ := hE.vp.2.2.2.2.2.2.2
  refine op_val ho hg (w' := w) (v := .agg _) (by simp [execOp, hop, e5, run_load6 hA]; rfl) ?_
  rw [hd]
  exact J.val hJ h0.sz hE hi (i := 28) rfl rfl (by decide) (by decide) (by decide) (Below.refl _ _) ⟨ao1, n1, c1, F, cap, ao, kk, kc, rfl, hN⟩
theorem s6_29 {a0 : Act} {w0 : World} {b1 b3 b6 b7 b8 : Nat} {v5 : Value} {listed : Array Bool} {a : Act} {w : World} {Q : Exit → Act → World → Prop} (hJ : J a0 w0 b1 b3 b6 b7 b8 v5 listed a w) (h0 : A0 a0 b1 b3 b6 b7 b8 v5) (hi : 29 ∈ Region.ready .any (opsOf (Tryd.f19.body.bind (regionOf 6))) listed) : wpOp Tryd.prog (opsOf (Tryd.f19.body.bind (regionOf 6))) Q 29 (J a0 w0 b1 b3 b6 b7 b8 v5 (listed.setIfInBounds 29 true)) a w := by
  obtain ⟨om, hE⟩ := hJ.ex
  have hdp := ready_dep hi
  obtain ⟨hpo, hnw⟩ := hE.po
  obtain ⟨ao1, n1, c1, F, cap, ao, kk, kc, ej, hj⟩ := hE.ns (i := 27) (s := 46) (by decide) rfl (hdp 27 (by decide)) rfl
  obtain ⟨bo1, m1, d1, G, dap, bo, lk, lc, eq, hq⟩ := hE.ns (i := 28) (s := 47) (by decide) rfl (hdp 28 (by decide)) rfl
  refine call6 (hf := Tryd.func42) (show (opsOf (Tryd.f19.body.bind (regionOf 6)))[29]?.map (fun o => (o.guard, o.dst, o.op)) = some (none, some 48, Op.call { callee := Callee.value (Operand.func 42), args := #[Operand.tmp 46, Operand.const (Value.int IntKind.i64 0), Operand.const (Value.int IntKind.i64 16), Operand.tmp 47], argTypes := #[59, 3, 3, 59] }) by kernel_rfl) (by kernel_rfl) (by kernel_rfl) (args := #[.agg #[.string ⟨((bareS queryNm [verF])).nm.toArray⟩, .slice ao1 n1 c1, .func (.func F) #[] cap, .int .i64 ((bareS queryNm [verF])).least, .int .i64 ((bareS queryNm [verF])).most, .slice ao kk kc], .int .i64 ((0 : Nat) : Int), .int .i64 ((16 : Nat) : Int), .agg #[.string ⟨((itemS subL)).nm.toArray⟩, .slice bo1 m1 d1, .func (.func G) #[] dap, .int .i64 ((itemS subL)).least, .int .i64 ((itemS subL)).most, .slice bo lk lc]]) (by simp only [List.map_toArray, List.map_cons, List.map_nil, ej, eq]; rfl) ?_
  refine (around_any ((bareS queryNm [verF])) ((itemS subL)) 1 0 16 _ _ ao1 n1 c1 F cap ao kk kc bo1 m1 d1 G dap bo lk lc w hj.2.1 hj.2.2.1 hq).mono fun e w' ⟨⟨v, he, hv⟩, hb⟩ => ⟨v, he, ?_⟩
  exact J.val hJ h0.sz hE hi (i := 29) rfl rfl (by decide) (by decide) (by decide) hb (hv.step (hnw _).1)
theorem s6_30 {a0 : Act} {w0 : World} {b1 b3 b6 b7 b8 : Nat} {v5 : Value} {listed : Array Bool} {a : Act} {w : World} {Q : Exit → Act → World → Prop} (hJ : J a0 w0 b1 b3 b6 b7 b8 v5 listed a w) (h0 : A0 a0 b1 b3 b6 b7 b8 v5) (hi : 30 ∈ Region.ready .any (opsOf (Tryd.f19.body.bind (regionOf 6))) listed) : wpOp Tryd.prog (opsOf (Tryd.f19.body.bind (regionOf 6))) Q 30 (J a0 w0 b1 b3 b6 b7 b8 v5 (listed.setIfInBounds 30 true)) a w := by
  obtain ⟨om, hE⟩ := hJ.ex
  have hdp := ready_dep hi
  obtain ⟨hpo, hnw⟩ := hE.po
  obtain ⟨ao1, n1, c1, F, cap, ao, kk, kc, ej, hj⟩ := hE.ns (i := 24) (s := 43) (by decide) rfl (hdp 24 (by decide)) rfl
  obtain ⟨bo1, m1, d1, G, dap, bo, lk, lc, eq, hq⟩ := hE.ns (i := 29) (s := 48) (by decide) rfl (hdp 29 (by decide)) rfl
  refine call6 (hf := Tryd.func42) (show (opsOf (Tryd.f19.body.bind (regionOf 6)))[30]?.map (fun o => (o.guard, o.dst, o.op)) = some (none, some 49, Op.call { callee := Callee.value (Operand.func 42), args := #[Operand.tmp 43, Operand.const (Value.int IntKind.i64 0), Operand.const (Value.int IntKind.i64 1), Operand.tmp 48], argTypes := #[59, 3, 3, 59] }) by kernel_rfl) (by kernel_rfl) (by kernel_rfl) (args := #[.agg #[.string ⟨((iqS [114, 101, 115, 117, 108, 116])).nm.toArray⟩, .slice ao1 n1 c1, .func (.func F) #[] cap, .int .i64 ((iqS [114, 101, 115, 117, 108, 116])).least, .int .i64 ((iqS [114, 101, 115, 117, 108, 116])).most, .slice ao kk kc], .int .i64 ((0 : Nat) : Int), .int .i64 ((1 : Nat) : Int), .agg #[.string ⟨(((bareS queryNm [verF]).around 0 16 (itemS subL))).nm.toArray⟩, .slice bo1 m1 d1, .func (.func G) #[] dap, .int .i64 (((bareS queryNm [verF]).around 0 16 (itemS subL))).least, .int .i64 (((bareS queryNm [verF]).around 0 16 (itemS subL))).most, .slice bo lk lc]]) (by simp only [List.map_toArray, List.map_cons, List.map_nil, ej, eq]; rfl) ?_
  refine (around_any ((iqS [114, 101, 115, 117, 108, 116])) (((bareS queryNm [verF]).around 0 16 (itemS subL))) 2 0 1 _ _ ao1 n1 c1 F cap ao kk kc bo1 m1 d1 G dap bo lk lc w hj.2.1 hj.2.2.1 hq).mono fun e w' ⟨⟨v, he, hv⟩, hb⟩ => ⟨v, he, ?_⟩
  exact J.val hJ h0.sz hE hi (i := 30) rfl rfl (by decide) (by decide) (by decide) hb (hv.step (hnw _).1)
theorem s6_32 {a0 : Act} {w0 : World} {b1 b3 b6 b7 b8 : Nat} {v5 : Value} {listed : Array Bool} {a : Act} {w : World} {Q : Exit → Act → World → Prop} (hJ : J a0 w0 b1 b3 b6 b7 b8 v5 listed a w) (h0 : A0 a0 b1 b3 b6 b7 b8 v5) (hi : 32 ∈ Region.ready .any (opsOf (Tryd.f19.body.bind (regionOf 6))) listed) : wpOp Tryd.prog (opsOf (Tryd.f19.body.bind (regionOf 6))) Q 32 (J a0 w0 b1 b3 b6 b7 b8 v5 (listed.setIfInBounds 32 true)) a w := by
  obtain ⟨om, hE⟩ := hJ.ex
  have hdp := ready_dep hi
  obtain ⟨hpo, hnw⟩ := hE.po
  refine call6 (hf := Tryd.func43) (show (opsOf (Tryd.f19.body.bind (regionOf 6)))[32]?.map (fun o => (o.guard, o.dst, o.op)) = some (none, some 50, Op.call { callee := Callee.value (Operand.func 43), args := #[Operand.const (Value.string { data := #[101, 114, 114, 111, 114] })], argTypes := #[9] }) by kernel_rfl) (by kernel_rfl) (by kernel_rfl) (args := #[.string ⟨#[101, 114, 114, 111, 114]⟩]) (by simp only [List.map_toArray, List.map_cons, List.map_nil]; rfl) ?_
  refine (iq_any [101, 114, 114, 111, 114] w).mono fun e w' ⟨⟨v, he, hv⟩, hb⟩ => ⟨v, he, ?_⟩
  exact J.val hJ h0.sz hE hi (i := 32) rfl rfl (by decide) (by decide) (by decide) hb (hv.step (hnw _).2)
theorem s6_33 {a0 : Act} {w0 : World} {b1 b3 b6 b7 b8 : Nat} {v5 : Value} {listed : Array Bool} {a : Act} {w : World} {Q : Exit → Act → World → Prop} (hJ : J a0 w0 b1 b3 b6 b7 b8 v5 listed a w) (h0 : A0 a0 b1 b3 b6 b7 b8 v5) (hi : 33 ∈ Region.ready .any (opsOf (Tryd.f19.body.bind (regionOf 6))) listed) : wpOp Tryd.prog (opsOf (Tryd.f19.body.bind (regionOf 6))) Q 33 (J a0 w0 b1 b3 b6 b7 b8 v5 (listed.setIfInBounds 33 true)) a w := by
  obtain ⟨om, hE⟩ := hJ.ex
  have hdp := ready_dep hi
  obtain ⟨hpo, hnw⟩ := hE.po
  refine call6 (hf := Tryd.func38) (show (opsOf (Tryd.f19.body.bind (regionOf 6)))[33]?.map (fun o => (o.guard, o.dst, o.op)) = some (none, some 51, Op.call { callee := Callee.value (Operand.func 38), args := #[Operand.const (Value.string { data := #[101, 114, 114, 111, 114] }), Operand.func 36], argTypes := #[9, 54] }) by kernel_rfl) (by kernel_rfl) (by kernel_rfl) (args := #[.string ⟨#[101, 114, 114, 111, 114]⟩, .func (.func 36) #[] #[]]) (by simp only [List.map_toArray, List.map_cons, List.map_nil]; rfl) ?_
  refine (saying_any (P := Po om) [101, 114, 114, 111, 114] wordN 36 #[] w (.inr (.inr (.inr (.inl ⟨rfl, rfl⟩))))).mono fun e w' ⟨⟨v, he, hv⟩, hb⟩ => ⟨v, he, ?_⟩
  exact J.val hJ h0.sz hE hi (i := 33) rfl rfl (by decide) (by decide) (by decide) hb hv
theorem s6_34 {a0 : Act} {w0 : World} {b1 b3 b6 b7 b8 : Nat} {v5 : Value} {listed : Array Bool} {a : Act} {w : World} {Q : Exit → Act → World → Prop} (hJ : J a0 w0 b1 b3 b6 b7 b8 v5 listed a w) (h0 : A0 a0 b1 b3 b6 b7 b8 v5) (hi : 34 ∈ Region.ready .any (opsOf (Tryd.f19.body.bind (regionOf 6))) listed) : wpOp Tryd.prog (opsOf (Tryd.f19.body.bind (regionOf 6))) Q 34 (J a0 w0 b1 b3 b6 b7 b8 v5 (listed.setIfInBounds 34 true)) a w := by
  obtain ⟨om, hE⟩ := hJ.ex
  have hdp := ready_dep hi
  obtain ⟨hpo, hnw⟩ := hE.po
  obtain ⟨ao1, n1, c1, F, cap, ao, kk, kc, ej, hj⟩ := hE.ns (i := 32) (s := 50) (by decide) rfl (hdp 32 (by decide)) rfl
  obtain ⟨bo1, m1, d1, G, dap, bo, lk, lc, eq, hq⟩ := hE.ns (i := 33) (s := 51) (by decide) rfl (hdp 33 (by decide)) rfl
  refine call6 (hf := Tryd.func42) (show (opsOf (Tryd.f19.body.bind (regionOf 6)))[34]?.map (fun o => (o.guard, o.dst, o.op)) = some (none, some 52, Op.call { callee := Callee.value (Operand.func 42), args := #[Operand.tmp 50, Operand.const (Value.int IntKind.i64 1), Operand.const (Value.int IntKind.i64 1), Operand.tmp 51], argTypes := #[59, 3, 3, 59] }) by kernel_rfl) (by kernel_rfl) (by kernel_rfl) (args := #[.agg #[.string ⟨((iqS [101, 114, 114, 111, 114])).nm.toArray⟩, .slice ao1 n1 c1, .func (.func F) #[] cap, .int .i64 ((iqS [101, 114, 114, 111, 114])).least, .int .i64 ((iqS [101, 114, 114, 111, 114])).most, .slice ao kk kc], .int .i64 ((1 : Nat) : Int), .int .i64 ((1 : Nat) : Int), .agg #[.string ⟨((sayS [101, 114, 114, 111, 114] wordN)).nm.toArray⟩, .slice bo1 m1 d1, .func (.func G) #[] dap, .int .i64 ((sayS [101, 114, 114, 111, 114] wordN)).least, .int .i64 ((sayS [101, 114, 114, 111, 114] wordN)).most, .slice bo lk lc]]) (by simp only [List.map_toArray, List.map_cons, List.map_nil, ej, eq]; rfl) ?_
  refine (around_any ((iqS [101, 114, 114, 111, 114])) ((sayS [101, 114, 114, 111, 114] wordN)) 1 1 1 _ _ ao1 n1 c1 F cap ao kk kc bo1 m1 d1 G dap bo lk lc w hj.2.1 hj.2.2.1 hq).mono fun e w' ⟨⟨v, he, hv⟩, hb⟩ => ⟨v, he, ?_⟩
  exact J.val hJ h0.sz hE hi (i := 34) rfl rfl (by decide) (by decide) (by decide) hb (hv.step (hnw _).1)
theorem s6_36 {a0 : Act} {w0 : World} {b1 b3 b6 b7 b8 : Nat} {v5 : Value} {listed : Array Bool} {a : Act} {w : World} {Q : Exit → Act → World → Prop} (hJ : J a0 w0 b1 b3 b6 b7 b8 v5 listed a w) (h0 : A0 a0 b1 b3 b6 b7 b8 v5) (hi : 36 ∈ Region.ready .any (opsOf (Tryd.f19.body.bind (regionOf 6))) listed) : wpOp Tryd.prog (opsOf (Tryd.f19.body.bind (regionOf 6))) Q 36 (J a0 w0 b1 b3 b6 b7 b8 v5 (listed.setIfInBounds 36 true)) a w := by
  obtain ⟨om, hE⟩ := hJ.ex
  have hdp := ready_dep hi
  obtain ⟨hpo, hnw⟩ := hE.po
  refine call6 (hf := Tryd.func40) (show (opsOf (Tryd.f19.body.bind (regionOf 6)))[36]?.map (fun o => (o.guard, o.dst, o.op)) = some (none, some 53, Op.call { callee := Callee.value (Operand.func 40), args := #[Operand.const (Value.string { data := #[101, 110, 97, 98, 108, 101] }), Operand.const (Value.slice none 0 0)], argTypes := #[9, 53] }) by kernel_rfl) (by kernel_rfl) (by kernel_rfl) (args := #[.string ⟨#[101, 110, 97, 98, 108, 101]⟩, .slice none 0 0]) (by simp only [List.map_toArray, List.map_cons, List.map_nil]; rfl) ?_
  refine (bare_any (P := Po om) [101, 110, 97, 98, 108, 101] [] none 0 0 w ⟨[], row_nil _ _ _ _, rfl⟩).mono fun e w' ⟨⟨v, he, hv⟩, hb⟩ => ⟨v, he, ?_⟩
  exact J.val hJ h0.sz hE hi (i := 36) rfl rfl (by decide) (by decide) (by decide) hb (hv.step (hnw _).1)
theorem s6_38 {a0 : Act} {w0 : World} {b1 b3 b6 b7 b8 : Nat} {v5 : Value} {listed : Array Bool} {a : Act} {w : World} {Q : Exit → Act → World → Prop} (hJ : J a0 w0 b1 b3 b6 b7 b8 v5 listed a w) (h0 : A0 a0 b1 b3 b6 b7 b8 v5) (hi : 38 ∈ Region.ready .any (opsOf (Tryd.f19.body.bind (regionOf 6))) listed) : wpOp Tryd.prog (opsOf (Tryd.f19.body.bind (regionOf 6))) Q 38 (J a0 w0 b1 b3 b6 b7 b8 v5 (listed.setIfInBounds 38 true)) a w := by
  obtain ⟨om, hE⟩ := hJ.ex
  have hdp := ready_dep hi
  obtain ⟨hpo, hnw⟩ := hE.po
  refine call6 (hf := Tryd.func34) (show (opsOf (Tryd.f19.body.bind (regionOf 6)))[38]?.map (fun o => (o.guard, o.dst, o.op)) = some (none, some 54, Op.call { callee := Callee.value (Operand.func 34), args := #[Operand.const (Value.string { data := #[105, 100] }), Operand.func 36], argTypes := #[9, 54] }) by kernel_rfl) (by kernel_rfl) (by kernel_rfl) (args := #[.string ⟨(idF).nm.toArray⟩, .func (.func 36) #[] #[]]) (by simp only [List.map_toArray, List.map_cons, List.map_nil]; rfl) ?_
  refine (must_any (P := Po om) idF rfl 36 #[] w (.inr (.inr (.inr (.inl ⟨rfl, rfl⟩))))).mono fun e w' ⟨⟨v, he, hv⟩, hb⟩ => ⟨v, he, ?_⟩
  exact J.val hJ h0.sz hE hi (i := 38) rfl rfl (by decide) (by decide) (by decide) hb hv
theorem s6_39 {a0 : Act} {w0 : World} {b1 b3 b6 b7 b8 : Nat} {v5 : Value} {listed : Array Bool} {a : Act} {w : World} {Q : Exit → Act → World → Prop} (hJ : J a0 w0 b1 b3 b6 b7 b8 v5 listed a w) (h0 : A0 a0 b1 b3 b6 b7 b8 v5) (hi : 39 ∈ Region.ready .any (opsOf (Tryd.f19.body.bind (regionOf 6))) listed) : wpOp Tryd.prog (opsOf (Tryd.f19.body.bind (regionOf 6))) Q 39 (J a0 w0 b1 b3 b6 b7 b8 v5 (listed.setIfInBounds 39 true)) a w := by
  obtain ⟨om, hE⟩ := hJ.ex
  have hdp := ready_dep hi
  obtain ⟨hpo, hnw⟩ := hE.po
  obtain ⟨o, ho, hg, hd, hop⟩ := parts6 (show (opsOf (Tryd.f19.body.bind (regionOf 6)))[39]?.map (fun o => (o.guard, o.dst, o.op)) = some (none, some 55, Op.buildSlice 53 1 #[(0, Operand.tmp 54)]) by kernel_rfl)
  obtain ⟨F0, c0, e0, t0⟩ := hE.fd (i := 38) (s := 54) (by decide) rfl (hdp 38 (by decide)) rfl
  refine op_val ho hg (v := .slice (some ⟨w.heap.size, 0, none⟩) 1 1) (by simp [execOp, hop, e0, run_sl1]; rfl) ?_
  rw [hd]
  exact J.val hJ h0.sz hE hi (i := 39) rfl rfl (by decide) (by decide) (by decide) (bw0 w _) ⟨⟨_, _, _, rfl⟩, _, row_block w hpo 70 _ 1, ⟨_, _, rfl, t0.step (.below (bw0 w _)), rfl⟩⟩
theorem s6_40 {a0 : Act} {w0 : World} {b1 b3 b6 b7 b8 : Nat} {v5 : Value} {listed : Array Bool} {a : Act} {w : World} {Q : Exit → Act → World → Prop} (hJ : J a0 w0 b1 b3 b6 b7 b8 v5 listed a w) (h0 : A0 a0 b1 b3 b6 b7 b8 v5) (hi : 40 ∈ Region.ready .any (opsOf (Tryd.f19.body.bind (regionOf 6))) listed) : wpOp Tryd.prog (opsOf (Tryd.f19.body.bind (regionOf 6))) Q 40 (J a0 w0 b1 b3 b6 b7 b8 v5 (listed.setIfInBounds 40 true)) a w := by
  obtain ⟨om, hE⟩ := hJ.ex
  have hdp := ready_dep hi
  obtain ⟨hpo, hnw⟩ := hE.po
  obtain ⟨ao, n, c, ev, hr⟩ := hE.row (i := 39) (s := 55) (by decide) rfl (hdp 39 (by decide)) rfl
  refine call6 (hf := Tryd.func40) (show (opsOf (Tryd.f19.body.bind (regionOf 6)))[40]?.map (fun o => (o.guard, o.dst, o.op)) = some (none, some 56, Op.call { callee := Callee.value (Operand.func 40), args := #[Operand.const (Value.string { data := #[101, 110, 97, 98, 108, 101, 100] }), Operand.tmp 55], argTypes := #[9, 53] }) by kernel_rfl) (by kernel_rfl) (by kernel_rfl) (args := #[.string ⟨#[101, 110, 97, 98, 108, 101, 100]⟩, .slice ao n c]) (by simp [ev]; rfl) ?_
  refine (bare_any [101, 110, 97, 98, 108, 101, 100] [idF] ao n c w hr).mono fun e w' ⟨⟨v, he, hv⟩, hb⟩ => ⟨v, he, ?_⟩
  exact J.val hJ h0.sz hE hi (i := 40) rfl rfl (by decide) (by decide) (by decide) hb (hv.step (hnw _).1)
theorem s6_42 {a0 : Act} {w0 : World} {b1 b3 b6 b7 b8 : Nat} {v5 : Value} {listed : Array Bool} {a : Act} {w : World} {Q : Exit → Act → World → Prop} (hJ : J a0 w0 b1 b3 b6 b7 b8 v5 listed a w) (h0 : A0 a0 b1 b3 b6 b7 b8 v5) (hi : 42 ∈ Region.ready .any (opsOf (Tryd.f19.body.bind (regionOf 6))) listed) : wpOp Tryd.prog (opsOf (Tryd.f19.body.bind (regionOf 6))) Q 42 (J a0 w0 b1 b3 b6 b7 b8 v5 (listed.setIfInBounds 42 true)) a w := by
  obtain ⟨om, hE⟩ := hJ.ex
  have hdp := ready_dep hi
  obtain ⟨hpo, hnw⟩ := hE.po
  refine call6 (hf := Tryd.func40) (show (opsOf (Tryd.f19.body.bind (regionOf 6)))[42]?.map (fun o => (o.guard, o.dst, o.op)) = some (none, some 57, Op.call { callee := Callee.value (Operand.func 40), args := #[Operand.const (Value.string { data := #[114] }), Operand.const (Value.slice none 0 0)], argTypes := #[9, 53] }) by kernel_rfl) (by kernel_rfl) (by kernel_rfl) (args := #[.string ⟨#[114]⟩, .slice none 0 0]) (by simp only [List.map_toArray, List.map_cons, List.map_nil]; rfl) ?_
  refine (bare_any (P := Po om) [114] [] none 0 0 w ⟨[], row_nil _ _ _ _, rfl⟩).mono fun e w' ⟨⟨v, he, hv⟩, hb⟩ => ⟨v, he, ?_⟩
  exact J.val hJ h0.sz hE hi (i := 42) rfl rfl (by decide) (by decide) (by decide) hb (hv.step (hnw _).1)
theorem s6_44 {a0 : Act} {w0 : World} {b1 b3 b6 b7 b8 : Nat} {v5 : Value} {listed : Array Bool} {a : Act} {w : World} {Q : Exit → Act → World → Prop} (hJ : J a0 w0 b1 b3 b6 b7 b8 v5 listed a w) (h0 : A0 a0 b1 b3 b6 b7 b8 v5) (hi : 44 ∈ Region.ready .any (opsOf (Tryd.f19.body.bind (regionOf 6))) listed) : wpOp Tryd.prog (opsOf (Tryd.f19.body.bind (regionOf 6))) Q 44 (J a0 w0 b1 b3 b6 b7 b8 v5 (listed.setIfInBounds 44 true)) a w := by
  obtain ⟨om, hE⟩ := hJ.ex
  have hdp := ready_dep hi
  obtain ⟨hpo, hnw⟩ := hE.po
  obtain ⟨o, ho, hg, hd, hop⟩ := parts6 (show (opsOf (Tryd.f19.body.bind (regionOf 6)))[44]?.map (fun o => (o.guard, o.dst, o.op)) = some (none, some 58, Op.load 70 (Operand.tmp 3)) by kernel_rfl)
  have e5 : a.eval (.tmp 3) = .pointer (some ⟨b3, 0, none⟩) := (hJ.fr 3 (by decide) (by decide)).trans h0.s3
  obtain ⟨_, F, c, hA, hT⟩ := hE.vp.2.2.1
  refine op_val ho hg (w' := w) (v := .agg _) (by simp [execOp, hop, e5, run_load3 hA]; rfl) ?_
  rw [hd]
  exact J.val hJ h0.sz hE hi (i := 44) rfl rfl (by decide) (by decide) (by decide) (Below.refl _ _) ⟨F, c, rfl, hT⟩
theorem s6_45 {a0 : Act} {w0 : World} {b1 b3 b6 b7 b8 : Nat} {v5 : Value} {listed : Array Bool} {a : Act} {w : World} {Q : Exit → Act → World → Prop} (hJ : J a0 w0 b1 b3 b6 b7 b8 v5 listed a w) (h0 : A0 a0 b1 b3 b6 b7 b8 v5) (hi : 45 ∈ Region.ready .any (opsOf (Tryd.f19.body.bind (regionOf 6))) listed) : wpOp Tryd.prog (opsOf (Tryd.f19.body.bind (regionOf 6))) Q 45 (J a0 w0 b1 b3 b6 b7 b8 v5 (listed.setIfInBounds 45 true)) a w := by
  obtain ⟨om, hE⟩ := hJ.ex
  have hdp := ready_dep hi
  obtain ⟨hpo, hnw⟩ := hE.po
  obtain ⟨o, ho, hg, hd, hop⟩ := parts6 (show (opsOf (Tryd.f19.body.bind (regionOf 6)))[45]?.map (fun o => (o.guard, o.dst, o.op)) = some (none, some 59, Op.buildSlice 53 1 #[(0, Operand.tmp 58)]) by kernel_rfl)
  obtain ⟨F0, c0, e0, t0⟩ := hE.fd (i := 44) (s := 58) (by decide) rfl (hdp 44 (by decide)) rfl
  refine op_val ho hg (v := .slice (some ⟨w.heap.size, 0, none⟩) 1 1) (by simp [execOp, hop, e0, run_sl1]; rfl) ?_
  rw [hd]
  exact J.val hJ h0.sz hE hi (i := 45) rfl rfl (by decide) (by decide) (by decide) (bw0 w _) ⟨⟨_, _, _, rfl⟩, _, row_block w hpo 70 _ 1, ⟨_, _, rfl, t0.step (.below (bw0 w _)), rfl⟩⟩
theorem s6_46 {a0 : Act} {w0 : World} {b1 b3 b6 b7 b8 : Nat} {v5 : Value} {listed : Array Bool} {a : Act} {w : World} {Q : Exit → Act → World → Prop} (hJ : J a0 w0 b1 b3 b6 b7 b8 v5 listed a w) (h0 : A0 a0 b1 b3 b6 b7 b8 v5) (hi : 46 ∈ Region.ready .any (opsOf (Tryd.f19.body.bind (regionOf 6))) listed) : wpOp Tryd.prog (opsOf (Tryd.f19.body.bind (regionOf 6))) Q 46 (J a0 w0 b1 b3 b6 b7 b8 v5 (listed.setIfInBounds 46 true)) a w := by
  obtain ⟨om, hE⟩ := hJ.ex
  have hdp := ready_dep hi
  obtain ⟨hpo, hnw⟩ := hE.po
  obtain ⟨ao, n, c, ev, hr⟩ := hE.row (i := 45) (s := 59) (by decide) rfl (hdp 45 (by decide)) rfl
  refine call6 (hf := Tryd.func40) (show (opsOf (Tryd.f19.body.bind (regionOf 6)))[46]?.map (fun o => (o.guard, o.dst, o.op)) = some (none, some 60, Op.call { callee := Callee.value (Operand.func 40), args := #[Operand.const (Value.string { data := #[97] }), Operand.tmp 59], argTypes := #[9, 53] }) by kernel_rfl) (by kernel_rfl) (by kernel_rfl) (args := #[.string ⟨#[97]⟩, .slice ao n c]) (by simp [ev]; rfl) ?_
  refine (bare_any [97] [hF] ao n c w hr).mono fun e w' ⟨⟨v, he, hv⟩, hb⟩ => ⟨v, he, ?_⟩
  exact J.val hJ h0.sz hE hi (i := 46) rfl rfl (by decide) (by decide) (by decide) hb (hv.step (hnw _).1)
theorem s6_48 {a0 : Act} {w0 : World} {b1 b3 b6 b7 b8 : Nat} {v5 : Value} {listed : Array Bool} {a : Act} {w : World} {Q : Exit → Act → World → Prop} (hJ : J a0 w0 b1 b3 b6 b7 b8 v5 listed a w) (h0 : A0 a0 b1 b3 b6 b7 b8 v5) (hi : 48 ∈ Region.ready .any (opsOf (Tryd.f19.body.bind (regionOf 6))) listed) : wpOp Tryd.prog (opsOf (Tryd.f19.body.bind (regionOf 6))) Q 48 (J a0 w0 b1 b3 b6 b7 b8 v5 (listed.setIfInBounds 48 true)) a w := by
  obtain ⟨om, hE⟩ := hJ.ex
  have hdp := ready_dep hi
  obtain ⟨hpo, hnw⟩ := hE.po
  obtain ⟨o, ho, hg, hd, hop⟩ := parts6 (show (opsOf (Tryd.f19.body.bind (regionOf 6)))[48]?.map (fun o => (o.guard, o.dst, o.op)) = some (none, some 61, Op.load 70 (Operand.tmp 3)) by kernel_rfl)
  have e5 : a.eval (.tmp 3) = .pointer (some ⟨b3, 0, none⟩) := (hJ.fr 3 (by decide) (by decide)).trans h0.s3
  obtain ⟨_, F, c, hA, hT⟩ := hE.vp.2.2.1
  refine op_val ho hg (w' := w) (v := .agg _) (by simp [execOp, hop, e5, run_load3 hA]; rfl) ?_
  rw [hd]
  exact J.val hJ h0.sz hE hi (i := 48) rfl rfl (by decide) (by decide) (by decide) (Below.refl _ _) ⟨F, c, rfl, hT⟩
theorem s6_49 {a0 : Act} {w0 : World} {b1 b3 b6 b7 b8 : Nat} {v5 : Value} {listed : Array Bool} {a : Act} {w : World} {Q : Exit → Act → World → Prop} (hJ : J a0 w0 b1 b3 b6 b7 b8 v5 listed a w) (h0 : A0 a0 b1 b3 b6 b7 b8 v5) (hi : 49 ∈ Region.ready .any (opsOf (Tryd.f19.body.bind (regionOf 6))) listed) : wpOp Tryd.prog (opsOf (Tryd.f19.body.bind (regionOf 6))) Q 49 (J a0 w0 b1 b3 b6 b7 b8 v5 (listed.setIfInBounds 49 true)) a w := by
  obtain ⟨om, hE⟩ := hJ.ex
  have hdp := ready_dep hi
  obtain ⟨hpo, hnw⟩ := hE.po
  obtain ⟨o, ho, hg, hd, hop⟩ := parts6 (show (opsOf (Tryd.f19.body.bind (regionOf 6)))[49]?.map (fun o => (o.guard, o.dst, o.op)) = some (none, some 62, Op.load 70 (Operand.tmp 4)) by kernel_rfl)
  have e5 : a.eval (.tmp 4) = .pointer (some ⟨b3 + 1, 0, none⟩) := (hJ.fr 4 (by decide) (by decide)).trans h0.s4
  obtain ⟨_, F, c, hA, hT⟩ := hE.vp.2.2.2.1
  refine op_val ho hg (w' := w) (v := .agg _) (by simp [execOp, hop, e5, run_load3 hA]; rfl) ?_
  rw [hd]
  exact J.val hJ h0.sz hE hi (i := 49) rfl rfl (by decide) (by decide) (by decide) (Below.refl _ _) ⟨F, c, rfl, hT⟩
theorem s6_50 {a0 : Act} {w0 : World} {b1 b3 b6 b7 b8 : Nat} {v5 : Value} {listed : Array Bool} {a : Act} {w : World} {Q : Exit → Act → World → Prop} (hJ : J a0 w0 b1 b3 b6 b7 b8 v5 listed a w) (h0 : A0 a0 b1 b3 b6 b7 b8 v5) (hi : 50 ∈ Region.ready .any (opsOf (Tryd.f19.body.bind (regionOf 6))) listed) : wpOp Tryd.prog (opsOf (Tryd.f19.body.bind (regionOf 6))) Q 50 (J a0 w0 b1 b3 b6 b7 b8 v5 (listed.setIfInBounds 50 true)) a w := by
  obtain ⟨om, hE⟩ := hJ.ex
  have hdp := ready_dep hi
  obtain ⟨hpo, hnw⟩ := hE.po
  obtain ⟨o, ho, hg, hd, hop⟩ := parts6 (show (opsOf (Tryd.f19.body.bind (regionOf 6)))[50]?.map (fun o => (o.guard, o.dst, o.op)) = some (none, some 63, Op.buildSlice 53 2 #[(0, Operand.tmp 61), (1, Operand.tmp 62)]) by kernel_rfl)
  obtain ⟨F0, c0, e0, t0⟩ := hE.fd (i := 48) (s := 61) (by decide) rfl (hdp 48 (by decide)) rfl
  obtain ⟨F1, c1, e1, t1⟩ := hE.fd (i := 49) (s := 62) (by decide) rfl (hdp 49 (by decide)) rfl
  refine op_val ho hg (v := .slice (some ⟨w.heap.size, 0, none⟩) 2 2) (by simp [execOp, hop, e0, e1, run_sl2]; rfl) ?_
  rw [hd]
  exact J.val hJ h0.sz hE hi (i := 50) rfl rfl (by decide) (by decide) (by decide) (bw0 w _) ⟨⟨_, _, _, rfl⟩, _, row_block w hpo 70 _ 2, ⟨_, _, rfl, t0.step (.below (bw0 w _)), ⟨_, _, rfl, t1.step (.below (bw0 w _)), rfl⟩⟩⟩
theorem s6_51 {a0 : Act} {w0 : World} {b1 b3 b6 b7 b8 : Nat} {v5 : Value} {listed : Array Bool} {a : Act} {w : World} {Q : Exit → Act → World → Prop} (hJ : J a0 w0 b1 b3 b6 b7 b8 v5 listed a w) (h0 : A0 a0 b1 b3 b6 b7 b8 v5) (hi : 51 ∈ Region.ready .any (opsOf (Tryd.f19.body.bind (regionOf 6))) listed) : wpOp Tryd.prog (opsOf (Tryd.f19.body.bind (regionOf 6))) Q 51 (J a0 w0 b1 b3 b6 b7 b8 v5 (listed.setIfInBounds 51 true)) a w := by
  obtain ⟨om, hE⟩ := hJ.ex
  have hdp := ready_dep hi
  obtain ⟨hpo, hnw⟩ := hE.po
  obtain ⟨ao, n, c, ev, hr⟩ := hE.row (i := 50) (s := 63) (by decide) rfl (hdp 50 (by decide)) rfl
  refine call6 (hf := Tryd.func40) (show (opsOf (Tryd.f19.body.bind (regionOf 6)))[51]?.map (fun o => (o.guard, o.dst, o.op)) = some (none, some 64, Op.call { callee := Callee.value (Operand.func 40), args := #[Operand.const (Value.string { data := #[114, 101, 115, 117, 109, 101] }), Operand.tmp 63], argTypes := #[9, 53] }) by kernel_rfl) (by kernel_rfl) (by kernel_rfl) (args := #[.string ⟨#[114, 101, 115, 117, 109, 101]⟩, .slice ao n c]) (by simp [ev]; rfl) ?_
  refine (bare_any [114, 101, 115, 117, 109, 101] [hF, prevF] ao n c w hr).mono fun e w' ⟨⟨v, he, hv⟩, hb⟩ => ⟨v, he, ?_⟩
  exact J.val hJ h0.sz hE hi (i := 51) rfl rfl (by decide) (by decide) (by decide) hb (hv.step (hnw _).1)
theorem s6_53 {a0 : Act} {w0 : World} {b1 b3 b6 b7 b8 : Nat} {v5 : Value} {listed : Array Bool} {a : Act} {w : World} {Q : Exit → Act → World → Prop} (hJ : J a0 w0 b1 b3 b6 b7 b8 v5 listed a w) (h0 : A0 a0 b1 b3 b6 b7 b8 v5) (hi : 53 ∈ Region.ready .any (opsOf (Tryd.f19.body.bind (regionOf 6))) listed) : wpOp Tryd.prog (opsOf (Tryd.f19.body.bind (regionOf 6))) Q 53 (J a0 w0 b1 b3 b6 b7 b8 v5 (listed.setIfInBounds 53 true)) a w := by
  obtain ⟨om, hE⟩ := hJ.ex
  have hdp := ready_dep hi
  obtain ⟨hpo, hnw⟩ := hE.po
  obtain ⟨o, ho, hg, hd, hop⟩ := parts6 (show (opsOf (Tryd.f19.body.bind (regionOf 6)))[53]?.map (fun o => (o.guard, o.dst, o.op)) = some (none, some 65, Op.load 70 (Operand.tmp 3)) by kernel_rfl)
  have e5 : a.eval (.tmp 3) = .pointer (some ⟨b3, 0, none⟩) := (hJ.fr 3 (by decide) (by decide)).trans h0.s3
  obtain ⟨_, F, c, hA, hT⟩ := hE.vp.2.2.1
  refine op_val ho hg (w' := w) (v := .agg _) (by simp [execOp, hop, e5, run_load3 hA]; rfl) ?_
  rw [hd]
  exact J.val hJ h0.sz hE hi (i := 53) rfl rfl (by decide) (by decide) (by decide) (Below.refl _ _) ⟨F, c, rfl, hT⟩
theorem s6_54 {a0 : Act} {w0 : World} {b1 b3 b6 b7 b8 : Nat} {v5 : Value} {listed : Array Bool} {a : Act} {w : World} {Q : Exit → Act → World → Prop} (hJ : J a0 w0 b1 b3 b6 b7 b8 v5 listed a w) (h0 : A0 a0 b1 b3 b6 b7 b8 v5) (hi : 54 ∈ Region.ready .any (opsOf (Tryd.f19.body.bind (regionOf 6))) listed) : wpOp Tryd.prog (opsOf (Tryd.f19.body.bind (regionOf 6))) Q 54 (J a0 w0 b1 b3 b6 b7 b8 v5 (listed.setIfInBounds 54 true)) a w := by
  obtain ⟨om, hE⟩ := hJ.ex
  have hdp := ready_dep hi
  obtain ⟨hpo, hnw⟩ := hE.po
  obtain ⟨o, ho, hg, hd, hop⟩ := parts6 (show (opsOf (Tryd.f19.body.bind (regionOf 6)))[54]?.map (fun o => (o.guard, o.dst, o.op)) = some (none, some 66, Op.load 70 (Operand.tmp 4)) by kernel_rfl)
  have e5 : a.eval (.tmp 4) = .pointer (some ⟨b3 + 1, 0, none⟩) := (hJ.fr 4 (by decide) (by decide)).trans h0.s4
  obtain ⟨_, F, c, hA, hT⟩ := hE.vp.2.2.2.1
  refine op_val ho hg (w' := w) (v := .agg _) (by simp [execOp, hop, e5, run_load3 hA]; rfl) ?_
  rw [hd]
  exact J.val hJ h0.sz hE hi (i := 54) rfl rfl (by decide) (by decide) (by decide) (Below.refl _ _) ⟨F, c, rfl, hT⟩
theorem s6_55 {a0 : Act} {w0 : World} {b1 b3 b6 b7 b8 : Nat} {v5 : Value} {listed : Array Bool} {a : Act} {w : World} {Q : Exit → Act → World → Prop} (hJ : J a0 w0 b1 b3 b6 b7 b8 v5 listed a w) (h0 : A0 a0 b1 b3 b6 b7 b8 v5) (hi : 55 ∈ Region.ready .any (opsOf (Tryd.f19.body.bind (regionOf 6))) listed) : wpOp Tryd.prog (opsOf (Tryd.f19.body.bind (regionOf 6))) Q 55 (J a0 w0 b1 b3 b6 b7 b8 v5 (listed.setIfInBounds 55 true)) a w := by
  obtain ⟨om, hE⟩ := hJ.ex
  have hdp := ready_dep hi
  obtain ⟨hpo, hnw⟩ := hE.po
  obtain ⟨o, ho, hg, hd, hop⟩ := parts6 (show (opsOf (Tryd.f19.body.bind (regionOf 6)))[55]?.map (fun o => (o.guard, o.dst, o.op)) = some (none, some 67, Op.buildSlice 53 2 #[(0, Operand.tmp 65), (1, Operand.tmp 66)]) by kernel_rfl)
  obtain ⟨F0, c0, e0, t0⟩ := hE.fd (i := 53) (s := 65) (by decide) rfl (hdp 53 (by decide)) rfl
  obtain ⟨F1, c1, e1, t1⟩ := hE.fd (i := 54) (s := 66) (by decide) rfl (hdp 54 (by decide)) rfl
  refine op_val ho hg (v := .slice (some ⟨w.heap.size, 0, none⟩) 2 2) (by simp [execOp, hop, e0, e1, run_sl2]; rfl) ?_
  rw [hd]
  exact J.val hJ h0.sz hE hi (i := 55) rfl rfl (by decide) (by decide) (by decide) (bw0 w _) ⟨⟨_, _, _, rfl⟩, _, row_block w hpo 70 _ 2, ⟨_, _, rfl, t0.step (.below (bw0 w _)), ⟨_, _, rfl, t1.step (.below (bw0 w _)), rfl⟩⟩⟩
theorem s6_56 {a0 : Act} {w0 : World} {b1 b3 b6 b7 b8 : Nat} {v5 : Value} {listed : Array Bool} {a : Act} {w : World} {Q : Exit → Act → World → Prop} (hJ : J a0 w0 b1 b3 b6 b7 b8 v5 listed a w) (h0 : A0 a0 b1 b3 b6 b7 b8 v5) (hi : 56 ∈ Region.ready .any (opsOf (Tryd.f19.body.bind (regionOf 6))) listed) : wpOp Tryd.prog (opsOf (Tryd.f19.body.bind (regionOf 6))) Q 56 (J a0 w0 b1 b3 b6 b7 b8 v5 (listed.setIfInBounds 56 true)) a w := by
  obtain ⟨om, hE⟩ := hJ.ex
  have hdp := ready_dep hi
  obtain ⟨hpo, hnw⟩ := hE.po
  obtain ⟨ao, n, c, ev, hr⟩ := hE.row (i := 55) (s := 67) (by decide) rfl (hdp 55 (by decide)) rfl
  refine call6 (hf := Tryd.func40) (show (opsOf (Tryd.f19.body.bind (regionOf 6)))[56]?.map (fun o => (o.guard, o.dst, o.op)) = some (none, some 68, Op.call { callee := Callee.value (Operand.func 40), args := #[Operand.const (Value.string { data := #[114, 101, 115, 117, 109, 101, 100] }), Operand.tmp 67], argTypes := #[9, 53] }) by kernel_rfl) (by kernel_rfl) (by kernel_rfl) (args := #[.string ⟨#[114, 101, 115, 117, 109, 101, 100]⟩, .slice ao n c]) (by simp [ev]; rfl) ?_
  refine (bare_any [114, 101, 115, 117, 109, 101, 100] [hF, prevF] ao n c w hr).mono fun e w' ⟨⟨v, he, hv⟩, hb⟩ => ⟨v, he, ?_⟩
  exact J.val hJ h0.sz hE hi (i := 56) rfl rfl (by decide) (by decide) (by decide) hb (hv.step (hnw _).1)
theorem s6_58 {a0 : Act} {w0 : World} {b1 b3 b6 b7 b8 : Nat} {v5 : Value} {listed : Array Bool} {a : Act} {w : World} {Q : Exit → Act → World → Prop} (hJ : J a0 w0 b1 b3 b6 b7 b8 v5 listed a w) (h0 : A0 a0 b1 b3 b6 b7 b8 v5) (hi : 58 ∈ Region.ready .any (opsOf (Tryd.f19.body.bind (regionOf 6))) listed) : wpOp Tryd.prog (opsOf (Tryd.f19.body.bind (regionOf 6))) Q 58 (J a0 w0 b1 b3 b6 b7 b8 v5 (listed.setIfInBounds 58 true)) a w := by
  obtain ⟨om, hE⟩ := hJ.ex
  have hdp := ready_dep hi
  obtain ⟨hpo, hnw⟩ := hE.po
  refine call6 (hf := Tryd.func40) (show (opsOf (Tryd.f19.body.bind (regionOf 6)))[58]?.map (fun o => (o.guard, o.dst, o.op)) = some (none, some 69, Op.call { callee := Callee.value (Operand.func 40), args := #[Operand.const (Value.string { data := #[102, 97, 105, 108, 101, 100] }), Operand.const (Value.slice none 0 0)], argTypes := #[9, 53] }) by kernel_rfl) (by kernel_rfl) (by kernel_rfl) (args := #[.string ⟨#[102, 97, 105, 108, 101, 100]⟩, .slice none 0 0]) (by simp only [List.map_toArray, List.map_cons, List.map_nil]; rfl) ?_
  refine (bare_any (P := Po om) [102, 97, 105, 108, 101, 100] [] none 0 0 w ⟨[], row_nil _ _ _ _, rfl⟩).mono fun e w' ⟨⟨v, he, hv⟩, hb⟩ => ⟨v, he, ?_⟩
  exact J.val hJ h0.sz hE hi (i := 58) rfl rfl (by decide) (by decide) (by decide) hb (hv.step (hnw _).1)
theorem s6_60 {a0 : Act} {w0 : World} {b1 b3 b6 b7 b8 : Nat} {v5 : Value} {listed : Array Bool} {a : Act} {w : World} {Q : Exit → Act → World → Prop} (hJ : J a0 w0 b1 b3 b6 b7 b8 v5 listed a w) (h0 : A0 a0 b1 b3 b6 b7 b8 v5) (hi : 60 ∈ Region.ready .any (opsOf (Tryd.f19.body.bind (regionOf 6))) listed) : wpOp Tryd.prog (opsOf (Tryd.f19.body.bind (regionOf 6))) Q 60 (J a0 w0 b1 b3 b6 b7 b8 v5 (listed.setIfInBounds 60 true)) a w := by
  obtain ⟨om, hE⟩ := hJ.ex
  have hdp := ready_dep hi
  obtain ⟨hpo, hnw⟩ := hE.po
  refine call6 (hf := Tryd.func40) (show (opsOf (Tryd.f19.body.bind (regionOf 6)))[60]?.map (fun o => (o.guard, o.dst, o.op)) = some (none, some 70, Op.call { callee := Callee.value (Operand.func 40), args := #[Operand.const (Value.string { data := #[97, 99, 116, 105, 118, 101] }), Operand.const (Value.slice none 0 0)], argTypes := #[9, 53] }) by kernel_rfl) (by kernel_rfl) (by kernel_rfl) (args := #[.string ⟨#[97, 99, 116, 105, 118, 101]⟩, .slice none 0 0]) (by simp only [List.map_toArray, List.map_cons, List.map_nil]; rfl) ?_
  refine (bare_any (P := Po om) [97, 99, 116, 105, 118, 101] [] none 0 0 w ⟨[], row_nil _ _ _ _, rfl⟩).mono fun e w' ⟨⟨v, he, hv⟩, hb⟩ => ⟨v, he, ?_⟩
  exact J.val hJ h0.sz hE hi (i := 60) rfl rfl (by decide) (by decide) (by decide) hb (hv.step (hnw _).1)
theorem s6_62 {a0 : Act} {w0 : World} {b1 b3 b6 b7 b8 : Nat} {v5 : Value} {listed : Array Bool} {a : Act} {w : World} {Q : Exit → Act → World → Prop} (hJ : J a0 w0 b1 b3 b6 b7 b8 v5 listed a w) (h0 : A0 a0 b1 b3 b6 b7 b8 v5) (hi : 62 ∈ Region.ready .any (opsOf (Tryd.f19.body.bind (regionOf 6))) listed) : wpOp Tryd.prog (opsOf (Tryd.f19.body.bind (regionOf 6))) Q 62 (J a0 w0 b1 b3 b6 b7 b8 v5 (listed.setIfInBounds 62 true)) a w := by
  obtain ⟨om, hE⟩ := hJ.ex
  have hdp := ready_dep hi
  obtain ⟨hpo, hnw⟩ := hE.po
  refine call6 (hf := Tryd.func40) (show (opsOf (Tryd.f19.body.bind (regionOf 6)))[62]?.map (fun o => (o.guard, o.dst, o.op)) = some (none, some 71, Op.call { callee := Callee.value (Operand.func 40), args := #[Operand.const (Value.string { data := #[105, 110, 97, 99, 116, 105, 118, 101] }), Operand.const (Value.slice none 0 0)], argTypes := #[9, 53] }) by kernel_rfl) (by kernel_rfl) (by kernel_rfl) (args := #[.string ⟨#[105, 110, 97, 99, 116, 105, 118, 101]⟩, .slice none 0 0]) (by simp only [List.map_toArray, List.map_cons, List.map_nil]; rfl) ?_
  refine (bare_any (P := Po om) [105, 110, 97, 99, 116, 105, 118, 101] [] none 0 0 w ⟨[], row_nil _ _ _ _, rfl⟩).mono fun e w' ⟨⟨v, he, hv⟩, hb⟩ => ⟨v, he, ?_⟩
  exact J.val hJ h0.sz hE hi (i := 62) rfl rfl (by decide) (by decide) (by decide) hb (hv.step (hnw _).1)
theorem s6_0 {a0 : Act} {w0 : World} {b1 b3 b6 b7 b8 : Nat} {v5 : Value} {listed : Array Bool} {a : Act} {w : World} {Q : Exit → Act → World → Prop} (hJ : J a0 w0 b1 b3 b6 b7 b8 v5 listed a w) (h0 : A0 a0 b1 b3 b6 b7 b8 v5) (hi : 0 ∈ Region.ready .any (opsOf (Tryd.f19.body.bind (regionOf 6))) listed) : wpOp Tryd.prog (opsOf (Tryd.f19.body.bind (regionOf 6))) Q 0 (J a0 w0 b1 b3 b6 b7 b8 v5 (listed.setIfInBounds 0 true)) a w := by
  obtain ⟨om, hE⟩ := hJ.ex
  obtain ⟨o, ho, hg, hd, hop⟩ := parts6 (show (opsOf (Tryd.f19.body.bind (regionOf 6)))[0]?.map (fun o => (o.guard, o.dst, o.op)) = some (none, some 22, Op.makeMap 50 none) by kernel_rfl)
  refine op_val ho hg (v := .map (some w.heap.size)) (w' := w.alloc (.map #[] 0)) (by simp [execOp, hop, run_map]) ?_
  rw [hd]
  have hls : 0 < listed.size := by rw [hJ.sz]; decide
  have h00 : listed.getD 0 false = false := by
    have := (mem_ready.1 hi).1
    simp [hls] at this ⊢
    exact this
  have hm := hE.mp
  cases om with
  | some m => rw [hm.1] at h00; cases h00
  | none =>
    have hst : Stp (Po none) (Po (some w.heap.size)) w (w.alloc (.map #[] 0)) := fun k _ hl => ⟨fun (e : k = w.heap.size) => by omega, (bw0 w _).block k hl⟩
    have hsz : 22 < a.tmps.size := by rw [hJ.asz]; have := h0.sz; omega
    have hll := left_less (unlisted hi)
    have hl66 : leftOf listed ≤ 66 := by
      unfold leftOf
      refine Nat.le_trans (List.length_filter_le _ _) ?_
      rw [Array.length_toList, hJ.sz]
      exact Nat.le_refl _
    refine ⟨by simp [hJ.sz], by rw [put_size]; exact hJ.asz, hJ.ad, fun s hs0 hs1 => by rw [put_other (by omega)]; exact hJ.fr s hs0 hs1, hJ.be.alloc hJ.be.size _, ⟨some w.heap.size, hE.vp.step hst, fun j sh' hj hs' hl => ?_, ?_⟩, fun hl => ?_, fun hl => ?_⟩
    · have e : j ≠ 0 := fun e => by rw [e] at hs'; cases hs'
      rw [get_set hls, if_neg e] at hl
      have h22 : (22 : Nat) ≠ slT j := sl_inj (show 0 < 66 by decide) hj (Ne.symm e)
      rw [put_other h22]
      exact Sh.step hst (hE.sl j sh' hj hs' hl)
    · refine ⟨by rw [get_set hls, if_pos rfl], put_self hsz, hJ.be.size, 0, .map [], by omega, World.ownsMap_made _ _ _ _, fun j k hj hk hl => ?_⟩
      have e : j ≠ 0 := fun e => by rw [e] at hk; cases hk
      rw [get_set hls, if_neg e, hm.2 j k hj hk] at hl
      cases hl
    · rw [get_set hls, if_neg (by decide)] at hl
      rw [(hJ.l1 hl).1] at h00
      cases h00
    · rw [get_set hls, if_neg (by decide)] at hl
      rw [(hJ.l2 hl).1] at h00
      cases h00
theorem in_inj {i j k : Nat} (hi : i < 66) (hj : j < 66) (h1 : inT i = some k) (h2 : inT j = some k) : i = j := by
  have H : ((List.range 66).all fun i => (List.range 66).all fun j => i == j || (inT i).isNone || !(inT i == inT j)) = true := by decide +kernel
  have h := List.all_eq_true.1 (List.all_eq_true.1 H i (List.mem_range.2 hi)) j (List.mem_range.2 hj)
  rw [h1, h2] at h
  simpa using h
theorem in_small {i k : Nat} (hi : i < 66) (h1 : inT i = some k) : k ≤ 14 := by
  have H : ((List.range 66).all fun i => match inT i with
    | some k => decide (k ≤ 14)
    | none => true) = true := by decide +kernel
  have h := List.all_eq_true.1 H i (List.mem_range.2 hi)
  rw [h1] at h
  simpa using h
/-- An operation that puts a shape into the map. -/
theorem J.ins {a0 : Act} {w0 : World} {b1 b3 b6 b7 b8 : Nat} {v5 : Value} {listed : Array Bool} {a : Act} {w : World} {Q : Exit → Act → World → Prop} (hJ : J a0 w0 b1 b3 b6 b7 b8 v5 listed a w) (_h0 : A0 a0 b1 b3 b6 b7 b8 v5) {i j k n s : Nat} (hi : i ∈ Region.ready .any (opsOf (Tryd.f19.body.bind (regionOf 6))) listed) (hin : inT i = some k) (hs : shT i = none) (hj : j < 66) (hsj : shT j = some (.ns n (shapeN k))) (hn : n ≤ 3) (he : slT j = s) (hd0 : listed.getD 0 false = true) (hdj : listed.getD j false = true) (h64 : i ≠ 64) (h65 : i ≠ 65)
    (hp : (opsOf (Tryd.f19.body.bind (regionOf 6)))[i]?.map (fun o => (o.guard, o.dst, o.op)) = some (none, none, Op.insert 50 (Operand.tmp 22) (Operand.const (Value.int IntKind.i64 (k : Int))) (Operand.tmp s))) : wpOp Tryd.prog (opsOf (Tryd.f19.body.bind (regionOf 6))) Q i (J a0 w0 b1 b3 b6 b7 b8 v5 (listed.setIfInBounds i true)) a w := by
  obtain ⟨om, hE⟩ := hJ.ex
  obtain ⟨o, ho, hg, hd, hop⟩ := parts6 hp
  have hlt := ready_lt hi
  have hls : i < listed.size := by rw [hJ.sz]; exact hlt
  have hv := hE.ns hj hsj hdj he
  have hm := hE.mp
  cases om with
  | none => rw [hm.1] at hd0; cases hd0
  | some m =>
    obtain ⟨k1, k2, k3, c, D, k4, k5, k6⟩ := hm
    have hk := in_small hlt hin
    have hll := left_less (unlisted hi)
    have hkey : keyOf Tryd.prog 3 (.int .i64 (k : Int)) = some (.int .i64 (k : Int)) := keyOf_int_mk Tryd.underlying3 (key_wf _ (by omega))
    obtain ⟨w', r1, r2, r3⟩ := k5.update keyLaw Tryd.underlying50 (by unfold maxLen; omega) hkey (show heldR (a.eval (.tmp s)) = some (.held (a.eval (.tmp s)), []) from rfl)
    have hisM := k5.isMap
    have e22 : a.eval (.tmp 22) = .map (some m) := k2
    have hst : Stp (Po (some m)) (Po (some m)) w w' := fun b hb hl => ⟨hb, r3.block b hl (fun e => hb (Option.some.inj e))⟩
    have hmlt : m < w.heap.size := by
      obtain ⟨es, cl, e1, _⟩ := k5
      exact lt_of_heap e1
    refine op_skip ho hg (w' := w') (by have ek : a.eval (.const (.int .i64 (k : Int))) = .int .i64 (k : Int) := rfl; simp [execOp, hop, e22, ek, r1]) ?_
    rw [hd]
    have h0i : i ≠ 0 := fun e => by rw [e] at hin; cases hin
    refine ⟨by simp [hJ.sz], hJ.asz, hJ.ad, hJ.fr, hJ.be.grown r3 hJ.be.size (fun x hx => by cases hx; exact k3), ⟨some m, hE.vp.step hst, fun j' sh' hj' hs' hl => ?_, ?_⟩, fun hl => ?_, fun hl => ?_⟩
    · have e : j' ≠ i := fun e => by rw [e, hs] at hs'; cases hs'
      rw [get_set hls, if_neg e] at hl
      exact Sh.step hst (hE.sl j' sh' hj' hs' hl)
    · refine ⟨by rw [get_set hls, if_neg (Ne.symm h0i)]; exact k1, k2, k3, c + 1, _, by omega, r2, fun j' k' hj' hk' hl => ?_⟩
      by_cases e : j' = i
      · subst e
        rw [hin] at hk'
        cases hk'
        exact ⟨a.eval (.tmp s), by rw [atKey_put_same hisM (by simp [WideAt.IsKeyLit])], (hv.mono hn).step hst⟩
      · rw [get_set hls, if_neg e] at hl
        obtain ⟨u, u1, u2⟩ := k6 j' k' hj' hk' hl
        refine ⟨u, ?_, u2.step hst⟩
        rw [atKey_put_other (fun h => e (in_inj hj' hlt hk' (by
          have h2 : (k' : Int) = (k : Int) := by simpa using h
          have h3 : k' = k := by omega
          rw [h3]; exact hin))), u1]
    · rw [get_set hls, if_neg (Ne.symm h64)] at hl
      rw [get_set hls, if_neg (Ne.symm h0i)]
      exact hJ.l1 hl
    · rw [get_set hls, if_neg (Ne.symm h65)] at hl
      rw [get_set hls, if_neg (Ne.symm h0i)]
      exact hJ.l2 hl
/-- An operation that only hands the map on. -/
theorem J.hand {a0 : Act} {w0 : World} {b1 b3 b6 b7 b8 : Nat} {v5 : Value} {listed : Array Bool} {a : Act} {w : World} (hJ : J a0 w0 b1 b3 b6 b7 b8 v5 listed a w) {i s : Nat} {v : Value} (hi : i ∈ Region.ready .any (opsOf (Tryd.f19.body.bind (regionOf 6))) listed) (hn : inT i = none) (hs : shT i = none) (h0i : i ≠ 0) (hd0 : listed.getD 0 false = true)
    (hsl : s = 0 ∨ s = 72) (hss : ∀ j, j < 66 → shT j ≠ none → slT j ≠ s) (hlt : s < a.tmps.size) (hv : v = a.tmps.getD 22 undef) (h1 : i = 64 → s = 72) (h2 : i = 65 → s = 0) (h3 : s = 72 → i = 64) (h4 : s = 0 → i = 65) :
    J a0 w0 b1 b3 b6 b7 b8 v5 (listed.setIfInBounds i true) (a.put (some s) v) w := by
  have hls : i < listed.size := by rw [hJ.sz]; exact ready_lt hi
  obtain ⟨om, hE⟩ := hJ.ex
  have h22 : s ≠ 22 := by omega
  have hll := left_less (unlisted hi)
  refine ⟨by simp [hJ.sz], by rw [put_size]; exact hJ.asz, hJ.ad, fun t ht0 ht1 => by rw [put_other (by omega)]; exact hJ.fr t ht0 ht1, hJ.be, ⟨om, hE.vp, fun j sh' hj hs' hl => ?_, ?_⟩, fun hl => ?_, fun hl => ?_⟩
  · have e : j ≠ i := fun e => by rw [e, hs] at hs'; cases hs'
    rw [get_set hls, if_neg e] at hl
    rw [put_other (Ne.symm (hss j hj (by rw [hs']; exact fun e => by cases e)))]
    exact hE.sl j sh' hj hs' hl
  · have hm := hE.mp
    unfold Mo at hm ⊢
    cases om with
    | none => rw [hm.1] at hd0; cases hd0
    | some m =>
      simp only at hm ⊢
      obtain ⟨k1, k2, k3, n, D, k4, k5, k6⟩ := hm
      refine ⟨by rw [get_set hls, if_neg (Ne.symm h0i)]; exact k1, by rw [put_other h22]; exact k2, k3, n, D, by omega, k5, fun j k hj hk hl => ?_⟩
      have e : j ≠ i := fun e => by rw [e, hn] at hk; cases hk
      rw [get_set hls, if_neg e] at hl
      exact k6 j k hj hk hl
  · rw [get_set hls, if_neg (Ne.symm h0i)]
    refine ⟨hd0, ?_⟩
    rw [put_other h22]
    by_cases e : i = 64
    · have e2 := h1 e
      subst e2
      rw [put_self hlt, hv]
    · rw [get_set hls, if_neg (Ne.symm e)] at hl
      rw [put_other (fun e' => e (h3 e'))]
      exact (hJ.l1 hl).2
  · rw [get_set hls, if_neg (Ne.symm h0i)]
    refine ⟨hd0, ?_⟩
    rw [put_other h22]
    by_cases e : i = 65
    · have e2 := h2 e
      subst e2
      rw [put_self hlt, hv]
    · rw [get_set hls, if_neg (Ne.symm e)] at hl
      rw [put_other (fun e' => e (h4 e'))]
      exact (hJ.l2 hl).2
theorem sl_not72 : ∀ j, j < 66 → shT j ≠ none → slT j ≠ 72 := by
  have H : ((List.range 66).all fun i => (shT i).isNone || !(slL.getD i 0 == 72)) = true := by decide +kernel
  intro j hj hn
  have h := List.all_eq_true.1 H j (List.mem_range.2 hj)
  cases hs : shT j with
  | none => exact (hn hs).elim
  | some x => rw [hs] at h; unfold slT; simpa using h
theorem sl_not0 : ∀ j, j < 66 → shT j ≠ none → slT j ≠ 0 := by
  have H : ((List.range 66).all fun i => (shT i).isNone || !(slL.getD i 0 == 0)) = true := by decide +kernel
  intro j hj hn
  have h := List.all_eq_true.1 H j (List.mem_range.2 hj)
  cases hs : shT j with
  | none => exact (hn hs).elim
  | some x => rw [hs] at h; unfold slT; simpa using h
theorem s6_9 {a0 : Act} {w0 : World} {b1 b3 b6 b7 b8 : Nat} {v5 : Value} {listed : Array Bool} {a : Act} {w : World} {Q : Exit → Act → World → Prop} (hJ : J a0 w0 b1 b3 b6 b7 b8 v5 listed a w) (h0 : A0 a0 b1 b3 b6 b7 b8 v5) (hi : 9 ∈ Region.ready .any (opsOf (Tryd.f19.body.bind (regionOf 6))) listed) : wpOp Tryd.prog (opsOf (Tryd.f19.body.bind (regionOf 6))) Q 9 (J a0 w0 b1 b3 b6 b7 b8 v5 (listed.setIfInBounds 9 true)) a w := by
  have hdp := ready_dep hi
  exact J.ins hJ h0 (j := 8) (k := 1) (n := 2) (s := 30) hi rfl rfl (by decide) rfl (by decide) rfl (hdp 0 (by decide)) (hdp 8 (by decide)) (by decide) (by decide) (by kernel_rfl)
theorem s6_15 {a0 : Act} {w0 : World} {b1 b3 b6 b7 b8 : Nat} {v5 : Value} {listed : Array Bool} {a : Act} {w : World} {Q : Exit → Act → World → Prop} (hJ : J a0 w0 b1 b3 b6 b7 b8 v5 listed a w) (h0 : A0 a0 b1 b3 b6 b7 b8 v5) (hi : 15 ∈ Region.ready .any (opsOf (Tryd.f19.body.bind (regionOf 6))) listed) : wpOp Tryd.prog (opsOf (Tryd.f19.body.bind (regionOf 6))) Q 15 (J a0 w0 b1 b3 b6 b7 b8 v5 (listed.setIfInBounds 15 true)) a w := by
  have hdp := ready_dep hi
  exact J.ins hJ h0 (j := 14) (k := 2) (n := 2) (s := 35) hi rfl rfl (by decide) rfl (by decide) rfl (hdp 0 (by decide)) (hdp 14 (by decide)) (by decide) (by decide) (by kernel_rfl)
theorem s6_23 {a0 : Act} {w0 : World} {b1 b3 b6 b7 b8 : Nat} {v5 : Value} {listed : Array Bool} {a : Act} {w : World} {Q : Exit → Act → World → Prop} (hJ : J a0 w0 b1 b3 b6 b7 b8 v5 listed a w) (h0 : A0 a0 b1 b3 b6 b7 b8 v5) (hi : 23 ∈ Region.ready .any (opsOf (Tryd.f19.body.bind (regionOf 6))) listed) : wpOp Tryd.prog (opsOf (Tryd.f19.body.bind (regionOf 6))) Q 23 (J a0 w0 b1 b3 b6 b7 b8 v5 (listed.setIfInBounds 23 true)) a w := by
  have hdp := ready_dep hi
  exact J.ins hJ h0 (j := 22) (k := 3) (n := 3) (s := 42) hi rfl rfl (by decide) rfl (by decide) rfl (hdp 0 (by decide)) (hdp 22 (by decide)) (by decide) (by decide) (by kernel_rfl)
theorem s6_31 {a0 : Act} {w0 : World} {b1 b3 b6 b7 b8 : Nat} {v5 : Value} {listed : Array Bool} {a : Act} {w : World} {Q : Exit → Act → World → Prop} (hJ : J a0 w0 b1 b3 b6 b7 b8 v5 listed a w) (h0 : A0 a0 b1 b3 b6 b7 b8 v5) (hi : 31 ∈ Region.ready .any (opsOf (Tryd.f19.body.bind (regionOf 6))) listed) : wpOp Tryd.prog (opsOf (Tryd.f19.body.bind (regionOf 6))) Q 31 (J a0 w0 b1 b3 b6 b7 b8 v5 (listed.setIfInBounds 31 true)) a w := by
  have hdp := ready_dep hi
  exact J.ins hJ h0 (j := 30) (k := 4) (n := 3) (s := 49) hi rfl rfl (by decide) rfl (by decide) rfl (hdp 0 (by decide)) (hdp 30 (by decide)) (by decide) (by decide) (by kernel_rfl)
theorem s6_35 {a0 : Act} {w0 : World} {b1 b3 b6 b7 b8 : Nat} {v5 : Value} {listed : Array Bool} {a : Act} {w : World} {Q : Exit → Act → World → Prop} (hJ : J a0 w0 b1 b3 b6 b7 b8 v5 listed a w) (h0 : A0 a0 b1 b3 b6 b7 b8 v5) (hi : 35 ∈ Region.ready .any (opsOf (Tryd.f19.body.bind (regionOf 6))) listed) : wpOp Tryd.prog (opsOf (Tryd.f19.body.bind (regionOf 6))) Q 35 (J a0 w0 b1 b3 b6 b7 b8 v5 (listed.setIfInBounds 35 true)) a w := by
  have hdp := ready_dep hi
  exact J.ins hJ h0 (j := 34) (k := 5) (n := 2) (s := 52) hi rfl rfl (by decide) rfl (by decide) rfl (hdp 0 (by decide)) (hdp 34 (by decide)) (by decide) (by decide) (by kernel_rfl)
theorem s6_37 {a0 : Act} {w0 : World} {b1 b3 b6 b7 b8 : Nat} {v5 : Value} {listed : Array Bool} {a : Act} {w : World} {Q : Exit → Act → World → Prop} (hJ : J a0 w0 b1 b3 b6 b7 b8 v5 listed a w) (h0 : A0 a0 b1 b3 b6 b7 b8 v5) (hi : 37 ∈ Region.ready .any (opsOf (Tryd.f19.body.bind (regionOf 6))) listed) : wpOp Tryd.prog (opsOf (Tryd.f19.body.bind (regionOf 6))) Q 37 (J a0 w0 b1 b3 b6 b7 b8 v5 (listed.setIfInBounds 37 true)) a w := by
  have hdp := ready_dep hi
  exact J.ins hJ h0 (j := 36) (k := 6) (n := 1) (s := 53) hi rfl rfl (by decide) rfl (by decide) rfl (hdp 0 (by decide)) (hdp 36 (by decide)) (by decide) (by decide) (by kernel_rfl)
theorem s6_41 {a0 : Act} {w0 : World} {b1 b3 b6 b7 b8 : Nat} {v5 : Value} {listed : Array Bool} {a : Act} {w : World} {Q : Exit → Act → World → Prop} (hJ : J a0 w0 b1 b3 b6 b7 b8 v5 listed a w) (h0 : A0 a0 b1 b3 b6 b7 b8 v5) (hi : 41 ∈ Region.ready .any (opsOf (Tryd.f19.body.bind (regionOf 6))) listed) : wpOp Tryd.prog (opsOf (Tryd.f19.body.bind (regionOf 6))) Q 41 (J a0 w0 b1 b3 b6 b7 b8 v5 (listed.setIfInBounds 41 true)) a w := by
  have hdp := ready_dep hi
  exact J.ins hJ h0 (j := 40) (k := 7) (n := 1) (s := 56) hi rfl rfl (by decide) rfl (by decide) rfl (hdp 0 (by decide)) (hdp 40 (by decide)) (by decide) (by decide) (by kernel_rfl)
theorem s6_43 {a0 : Act} {w0 : World} {b1 b3 b6 b7 b8 : Nat} {v5 : Value} {listed : Array Bool} {a : Act} {w : World} {Q : Exit → Act → World → Prop} (hJ : J a0 w0 b1 b3 b6 b7 b8 v5 listed a w) (h0 : A0 a0 b1 b3 b6 b7 b8 v5) (hi : 43 ∈ Region.ready .any (opsOf (Tryd.f19.body.bind (regionOf 6))) listed) : wpOp Tryd.prog (opsOf (Tryd.f19.body.bind (regionOf 6))) Q 43 (J a0 w0 b1 b3 b6 b7 b8 v5 (listed.setIfInBounds 43 true)) a w := by
  have hdp := ready_dep hi
  exact J.ins hJ h0 (j := 42) (k := 8) (n := 1) (s := 57) hi rfl rfl (by decide) rfl (by decide) rfl (hdp 0 (by decide)) (hdp 42 (by decide)) (by decide) (by decide) (by kernel_rfl)
theorem s6_47 {a0 : Act} {w0 : World} {b1 b3 b6 b7 b8 : Nat} {v5 : Value} {listed : Array Bool} {a : Act} {w : World} {Q : Exit → Act → World → Prop} (hJ : J a0 w0 b1 b3 b6 b7 b8 v5 listed a w) (h0 : A0 a0 b1 b3 b6 b7 b8 v5) (hi : 47 ∈ Region.ready .any (opsOf (Tryd.f19.body.bind (regionOf 6))) listed) : wpOp Tryd.prog (opsOf (Tryd.f19.body.bind (regionOf 6))) Q 47 (J a0 w0 b1 b3 b6 b7 b8 v5 (listed.setIfInBounds 47 true)) a w := by
  have hdp := ready_dep hi
  exact J.ins hJ h0 (j := 46) (k := 9) (n := 1) (s := 60) hi rfl rfl (by decide) rfl (by decide) rfl (hdp 0 (by decide)) (hdp 46 (by decide)) (by decide) (by decide) (by kernel_rfl)
theorem s6_52 {a0 : Act} {w0 : World} {b1 b3 b6 b7 b8 : Nat} {v5 : Value} {listed : Array Bool} {a : Act} {w : World} {Q : Exit → Act → World → Prop} (hJ : J a0 w0 b1 b3 b6 b7 b8 v5 listed a w) (h0 : A0 a0 b1 b3 b6 b7 b8 v5) (hi : 52 ∈ Region.ready .any (opsOf (Tryd.f19.body.bind (regionOf 6))) listed) : wpOp Tryd.prog (opsOf (Tryd.f19.body.bind (regionOf 6))) Q 52 (J a0 w0 b1 b3 b6 b7 b8 v5 (listed.setIfInBounds 52 true)) a w := by
  have hdp := ready_dep hi
  exact J.ins hJ h0 (j := 51) (k := 10) (n := 1) (s := 64) hi rfl rfl (by decide) rfl (by decide) rfl (hdp 0 (by decide)) (hdp 51 (by decide)) (by decide) (by decide) (by kernel_rfl)
theorem s6_57 {a0 : Act} {w0 : World} {b1 b3 b6 b7 b8 : Nat} {v5 : Value} {listed : Array Bool} {a : Act} {w : World} {Q : Exit → Act → World → Prop} (hJ : J a0 w0 b1 b3 b6 b7 b8 v5 listed a w) (h0 : A0 a0 b1 b3 b6 b7 b8 v5) (hi : 57 ∈ Region.ready .any (opsOf (Tryd.f19.body.bind (regionOf 6))) listed) : wpOp Tryd.prog (opsOf (Tryd.f19.body.bind (regionOf 6))) Q 57 (J a0 w0 b1 b3 b6 b7 b8 v5 (listed.setIfInBounds 57 true)) a w := by
  have hdp := ready_dep hi
  exact J.ins hJ h0 (j := 56) (k := 11) (n := 1) (s := 68) hi rfl rfl (by decide) rfl (by decide) rfl (hdp 0 (by decide)) (hdp 56 (by decide)) (by decide) (by decide) (by kernel_rfl)
theorem s6_59 {a0 : Act} {w0 : World} {b1 b3 b6 b7 b8 : Nat} {v5 : Value} {listed : Array Bool} {a : Act} {w : World} {Q : Exit → Act → World → Prop} (hJ : J a0 w0 b1 b3 b6 b7 b8 v5 listed a w) (h0 : A0 a0 b1 b3 b6 b7 b8 v5) (hi : 59 ∈ Region.ready .any (opsOf (Tryd.f19.body.bind (regionOf 6))) listed) : wpOp Tryd.prog (opsOf (Tryd.f19.body.bind (regionOf 6))) Q 59 (J a0 w0 b1 b3 b6 b7 b8 v5 (listed.setIfInBounds 59 true)) a w := by
  have hdp := ready_dep hi
  exact J.ins hJ h0 (j := 58) (k := 12) (n := 1) (s := 69) hi rfl rfl (by decide) rfl (by decide) rfl (hdp 0 (by decide)) (hdp 58 (by decide)) (by decide) (by decide) (by kernel_rfl)
theorem s6_61 {a0 : Act} {w0 : World} {b1 b3 b6 b7 b8 : Nat} {v5 : Value} {listed : Array Bool} {a : Act} {w : World} {Q : Exit → Act → World → Prop} (hJ : J a0 w0 b1 b3 b6 b7 b8 v5 listed a w) (h0 : A0 a0 b1 b3 b6 b7 b8 v5) (hi : 61 ∈ Region.ready .any (opsOf (Tryd.f19.body.bind (regionOf 6))) listed) : wpOp Tryd.prog (opsOf (Tryd.f19.body.bind (regionOf 6))) Q 61 (J a0 w0 b1 b3 b6 b7 b8 v5 (listed.setIfInBounds 61 true)) a w := by
  have hdp := ready_dep hi
  exact J.ins hJ h0 (j := 60) (k := 13) (n := 1) (s := 70) hi rfl rfl (by decide) rfl (by decide) rfl (hdp 0 (by decide)) (hdp 60 (by decide)) (by decide) (by decide) (by kernel_rfl)
theorem s6_63 {a0 : Act} {w0 : World} {b1 b3 b6 b7 b8 : Nat} {v5 : Value} {listed : Array Bool} {a : Act} {w : World} {Q : Exit → Act → World → Prop} (hJ : J a0 w0 b1 b3 b6 b7 b8 v5 listed a w) (h0 : A0 a0 b1 b3 b6 b7 b8 v5) (hi : 63 ∈ Region.ready .any (opsOf (Tryd.f19.body.bind (regionOf 6))) listed) : wpOp Tryd.prog (opsOf (Tryd.f19.body.bind (regionOf 6))) Q 63 (J a0 w0 b1 b3 b6 b7 b8 v5 (listed.setIfInBounds 63 true)) a w := by
  have hdp := ready_dep hi
  exact J.ins hJ h0 (j := 62) (k := 14) (n := 1) (s := 71) hi rfl rfl (by decide) rfl (by decide) rfl (hdp 0 (by decide)) (hdp 62 (by decide)) (by decide) (by decide) (by kernel_rfl)
theorem s6_64 {a0 : Act} {w0 : World} {b1 b3 b6 b7 b8 : Nat} {v5 : Value} {listed : Array Bool} {a : Act} {w : World} {Q : Exit → Act → World → Prop} (hJ : J a0 w0 b1 b3 b6 b7 b8 v5 listed a w) (h0 : A0 a0 b1 b3 b6 b7 b8 v5) (hi : 64 ∈ Region.ready .any (opsOf (Tryd.f19.body.bind (regionOf 6))) listed) : wpOp Tryd.prog (opsOf (Tryd.f19.body.bind (regionOf 6))) Q 64 (J a0 w0 b1 b3 b6 b7 b8 v5 (listed.setIfInBounds 64 true)) a w := by
  have hdp := ready_dep hi
  obtain ⟨o, ho, hg, hd, hop⟩ := parts6 (show (opsOf (Tryd.f19.body.bind (regionOf 6)))[64]?.map (fun o => (o.guard, o.dst, o.op)) = some (none, some 72, Op.move (Operand.tmp 22)) by kernel_rfl)
  refine op_val ho hg (v := a.eval (.tmp 22)) (w' := w) (by simp [execOp, hop]) ?_
  rw [hd]
  have hsz : 72 < a.tmps.size := by rw [hJ.asz]; have := h0.sz; omega
  exact J.hand hJ hi rfl rfl (by decide) (hdp 0 (by decide)) (.inr rfl) sl_not72 hsz rfl (fun _ => rfl) (fun e => by cases e) (fun _ => rfl) (fun e => by cases e)
theorem s6_65 {a0 : Act} {w0 : World} {b1 b3 b6 b7 b8 : Nat} {v5 : Value} {listed : Array Bool} {a : Act} {w : World} {Q : Exit → Act → World → Prop} (hJ : J a0 w0 b1 b3 b6 b7 b8 v5 listed a w) (h0 : A0 a0 b1 b3 b6 b7 b8 v5) (hi : 65 ∈ Region.ready .any (opsOf (Tryd.f19.body.bind (regionOf 6))) listed) : wpOp Tryd.prog (opsOf (Tryd.f19.body.bind (regionOf 6))) Q 65 (J a0 w0 b1 b3 b6 b7 b8 v5 (listed.setIfInBounds 65 true)) a w := by
  have hdp := ready_dep hi
  obtain ⟨o, ho, hg, hd, hop⟩ := parts6 (show (opsOf (Tryd.f19.body.bind (regionOf 6)))[65]?.map (fun o => (o.guard, o.dst, o.op)) = some (none, some 0, Op.assign (Operand.tmp 72)) by kernel_rfl)
  have h64 := hJ.l1 (hdp 64 (by decide))
  refine op_val ho hg (v := a.eval (.tmp 72)) (w' := w) (by simp [execOp, hop]) ?_
  rw [hd]
  have hsz : 0 < a.tmps.size := by rw [hJ.asz]; have := h0.sz; omega
  exact J.hand hJ hi rfl rfl (by decide) h64.1 (.inl rfl) sl_not0 hsz h64.2 (fun e => by cases e) (fun _ => rfl) (fun e => by cases e) (fun _ => rfl)
theorem step6 {a0 : Act} {w0 : World} {b1 b3 b6 b7 b8 : Nat} {v5 : Value} {listed : Array Bool} {a : Act} {w : World} {Q : Exit → Act → World → Prop} (hJ : J a0 w0 b1 b3 b6 b7 b8 v5 listed a w) (h0 : A0 a0 b1 b3 b6 b7 b8 v5) (i : Nat) (hi : i ∈ Region.ready .any (opsOf (Tryd.f19.body.bind (regionOf 6))) listed) : wpOp Tryd.prog (opsOf (Tryd.f19.body.bind (regionOf 6))) Q i (J a0 w0 b1 b3 b6 b7 b8 v5 (listed.setIfInBounds i true)) a w := by
  have hlt := ready_lt hi
  match i, hlt, hi with
  | 0, _, hi => exact s6_0 hJ h0 hi
  | 1, _, hi => exact s6_1 hJ h0 hi
  | 2, _, hi => exact s6_2 hJ h0 hi
  | 3, _, hi => exact s6_3 hJ h0 hi
  | 4, _, hi => exact s6_4 hJ h0 hi
  | 5, _, hi => exact s6_5 hJ h0 hi
  | 6, _, hi => exact s6_6 hJ h0 hi
  | 7, _, hi => exact s6_7 hJ h0 hi
  | 8, _, hi => exact s6_8 hJ h0 hi
  | 9, _, hi => exact s6_9 hJ h0 hi
  | 10, _, hi => exact s6_10 hJ h0 hi
  | 11, _, hi => exact s6_11 hJ h0 hi
  | 12, _, hi => exact s6_12 hJ h0 hi
  | 13, _, hi => exact s6_13 hJ h0 hi
  | 14, _, hi => exact s6_14 hJ h0 hi
  | 15, _, hi => exact s6_15 hJ h0 hi
  | 16, _, hi => exact s6_16 hJ h0 hi
  | 17, _, hi => exact s6_17 hJ h0 hi
  | 18, _, hi => exact s6_18 hJ h0 hi
  | 19, _, hi => exact s6_19 hJ h0 hi
  | 20, _, hi => exact s6_20 hJ h0 hi
  | 21, _, hi => exact s6_21 hJ h0 hi
  | 22, _, hi => exact s6_22 hJ h0 hi
  | 23, _, hi => exact s6_23 hJ h0 hi
  | 24, _, hi => exact s6_24 hJ h0 hi
  | 25, _, hi => exact s6_25 hJ h0 hi
  | 26, _, hi => exact s6_26 hJ h0 hi
  | 27, _, hi => exact s6_27 hJ h0 hi
  | 28, _, hi => exact s6_28 hJ h0 hi
  | 29, _, hi => exact s6_29 hJ h0 hi
  | 30, _, hi => exact s6_30 hJ h0 hi
  | 31, _, hi => exact s6_31 hJ h0 hi
  | 32, _, hi => exact s6_32 hJ h0 hi
  | 33, _, hi => exact s6_33 hJ h0 hi
  | 34, _, hi => exact s6_34 hJ h0 hi
  | 35, _, hi => exact s6_35 hJ h0 hi
  | 36, _, hi => exact s6_36 hJ h0 hi
  | 37, _, hi => exact s6_37 hJ h0 hi
  | 38, _, hi => exact s6_38 hJ h0 hi
  | 39, _, hi => exact s6_39 hJ h0 hi
  | 40, _, hi => exact s6_40 hJ h0 hi
  | 41, _, hi => exact s6_41 hJ h0 hi
  | 42, _, hi => exact s6_42 hJ h0 hi
  | 43, _, hi => exact s6_43 hJ h0 hi
  | 44, _, hi => exact s6_44 hJ h0 hi
  | 45, _, hi => exact s6_45 hJ h0 hi
  | 46, _, hi => exact s6_46 hJ h0 hi
  | 47, _, hi => exact s6_47 hJ h0 hi
  | 48, _, hi => exact s6_48 hJ h0 hi
  | 49, _, hi => exact s6_49 hJ h0 hi
  | 50, _, hi => exact s6_50 hJ h0 hi
  | 51, _, hi => exact s6_51 hJ h0 hi
  | 52, _, hi => exact s6_52 hJ h0 hi
  | 53, _, hi => exact s6_53 hJ h0 hi
  | 54, _, hi => exact s6_54 hJ h0 hi
  | 55, _, hi => exact s6_55 hJ h0 hi
  | 56, _, hi => exact s6_56 hJ h0 hi
  | 57, _, hi => exact s6_57 hJ h0 hi
  | 58, _, hi => exact s6_58 hJ h0 hi
  | 59, _, hi => exact s6_59 hJ h0 hi
  | 60, _, hi => exact s6_60 hJ h0 hi
  | 61, _, hi => exact s6_61 hJ h0 hi
  | 62, _, hi => exact s6_62 hJ h0 hi
  | 63, _, hi => exact s6_63 hJ h0 hi
  | 64, _, hi => exact s6_64 hJ h0 hi
  | 65, _, hi => exact s6_65 hJ h0 hi
  | n + 66, h, _ => omega
/-- Block m is a map that holds the shapes of the kinds 1 to 14. -/
def MJ (m : Nat) (w : World) : Prop := ∃ (n : Nat) (D : DataW Value), w.ownsMap Tryd.prog 3 heldR m n D ∧ ∀ i : Nat, 1 ≤ i → i ≤ 14 → ∃ v, D.atKey (.int .i64 (i : Int)) (.held (.agg zero59)) = .held v ∧ NRes (fun k => k ≠ m) 3 (shapeN i) w v
theorem in_all : ∀ k, 1 ≤ k → k ≤ 14 → ∃ i, i < 66 ∧ inT i = some k := by
  intro k h1 h2
  match k, h1, h2 with
  | 1, _, _ => exact ⟨9, by decide, rfl⟩
  | 2, _, _ => exact ⟨15, by decide, rfl⟩
  | 3, _, _ => exact ⟨23, by decide, rfl⟩
  | 4, _, _ => exact ⟨31, by decide, rfl⟩
  | 5, _, _ => exact ⟨35, by decide, rfl⟩
  | 6, _, _ => exact ⟨37, by decide, rfl⟩
  | 7, _, _ => exact ⟨41, by decide, rfl⟩
  | 8, _, _ => exact ⟨43, by decide, rfl⟩
  | 9, _, _ => exact ⟨47, by decide, rfl⟩
  | 10, _, _ => exact ⟨52, by decide, rfl⟩
  | 11, _, _ => exact ⟨57, by decide, rfl⟩
  | 12, _, _ => exact ⟨59, by decide, rfl⟩
  | 13, _, _ => exact ⟨61, by decide, rfl⟩
  | 14, _, _ => exact ⟨63, by decide, rfl⟩
  | n + 15, _, h => omega
theorem shapes_reg {a0 : Act} {w0 : World} {b1 b3 b6 b7 b8 : Nat} {v5 : Value} {Q : Exit → Act → World → Prop} (h0 : A0 a0 b1 b3 b6 b7 b8 v5) (hv : VP (fun _ => True) b1 b3 b6 b7 b8 v5 w0)
    (hQ : ∀ (a : Act) (w : World) (m : Nat), a.defers = a0.defers → a.tmps.size = a0.tmps.size → a.tmps.getD 0 undef = .map (some m) → w0.heap.size ≤ m → MJ m w → Below w0.heap.size w0 w → Q .normal a w) : (Code.region 6 (opsOf (Tryd.f19.body.bind (regionOf 6))) true).wp Tryd.prog Q a0 w0 := by
  refine wp_region_any (by kernel_rfl) ?_
  refine wpAny_inv (J a0 { w0 with drawn := w0.drawn + 1 } b1 b3 b6 b7 b8 v5) (fun listed a w hJ hr => ?_) (fun listed a w i hJ hi => step6 hJ h0 i hi) _ _ _ _ ?_ ?_
  · have hall := all_listed hJ.sz hr
    obtain ⟨om, hE⟩ := hJ.ex
    have hm := hE.mp
    cases om with
    | none =>
      have := hall 0 (by decide)
      rw [hm.1] at this
      cases this
    | some m =>
      obtain ⟨k1, k2, k3, n, D, k4, k5, k6⟩ := hm
      refine hQ a w m hJ.ad hJ.asz ((hJ.l2 (hall 65 (by decide))).2.trans k2) k3 ⟨n, D, k5, fun i h1 h2 => ?_⟩ ⟨hJ.be.os, hJ.be.tape, hJ.be.output, hJ.be.size, hJ.be.block⟩
      obtain ⟨j, hj, hjk⟩ := in_all i h1 h2
      exact k6 j i hj hjk (hall j hj)
  · have hr : ∀ i, (Array.replicate (opsOf (Tryd.f19.body.bind (regionOf 6))).size false).getD i false = false := fun i => by
      simp [Array.getD_eq_getD_getElem?, Array.getElem?_replicate]
      split <;> rfl
    refine ⟨by simp [ops6_size], rfl, rfl, fun _ _ _ => rfl, Below.refl _ _, ⟨none, hv.step (fun k hk hl => ⟨hk, rfl⟩), fun i sh _ _ hl => ?_, ⟨hr 0, fun i k _ _ => hr i⟩⟩, fun hl => ?_, fun hl => ?_⟩
    · rw [hr] at hl
      cases hl
    · rw [hr] at hl
      cases hl
    · rw [hr] at hl
      cases hl
  · unfold leftOf
    refine Nat.le_trans (List.length_filter_le _ _) ?_
    simp
end Go.Proofs.YtmmkfpeckfmjeaaDoor
