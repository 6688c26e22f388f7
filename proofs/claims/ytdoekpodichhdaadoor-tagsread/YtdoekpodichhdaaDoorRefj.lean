/-
  The contract of tidewaterref02.Tag over this program: for every string of at most 100000 bytes.
-/
import Derived.Test.YtdoekpodichhdaaDoorRefi
namespace Go.Proofs.YtdoekpodichhdaaDoor
open Go.RowKit
set_option maxHeartbeats 2000000 in
theorem refTag_name (s : ByteArray) (w : World) (hs : s.size ≤ 100000) (hr : right s.data.toList = true) (h47 : ∀ r, s.data.toList ≠ 47 :: r) (hn : name (runN s.data.toList) = false) :
    Calls Tryd.prog 19 #[.string s] w fun e w' => TokRes53 w.heap.size ([], 3) e w' ∧ Below w.heap.size w w' := by
  have H1 := fun W => refRight_at s 0 (by simp [rightN, hr]) hs W
  have H2 := fun W => refRun_any s W hs
  have hle : nmN s.data.toList ≤ s.size := by rw [size_list]; exact nmN_le _
  have H3 := fun W => refName_at (s.extract 0 (nmN s.data.toList)) false (by rw [run_ext]; exact hn) (by have := ext_size s 0 (nmN s.data.toList); omega) W
  obtain ⟨n, hN⟩ : ∃ n, nmN s.data.toList = n := ⟨_, rfl⟩
  rw [hN] at hle
  simp only [hN] at H2 H3
  by_cases h0 : 0 < s.size
  · have hf : (((s[0]'h0).toNat : Int) == 47) = false := beq_no fun e => h47 _ (by rw [list_head s h0, show s[0]'h0 = 47 from UInt8.toNat_inj.1 (show (s[0]'h0).toNat = 47 by omega)])
    clear hr h47 hn hN
    go_enter Tryd.func19, Tryd.ntmps19
    go_wp2_with (first | (go_at_call 23; refine (H1 _).mono ?_; rintro e w' ⟨rfl, hw⟩; rw [hw]) | (go_at_call 25; refine (H2 _).mono ?_; rintro e w' ⟨rfl, hw⟩; rw [hw]) | (go_at_call 26; refine (H3 _).mono ?_; rintro e w' ⟨rfl, hw⟩; rw [hw]))
    go_ret2
    exact ⟨tokRes53_nil _ _ _, Below.refl _ _⟩
  · clear hr h47 hn hN
    go_enter Tryd.func19, Tryd.ntmps19
    go_wp2_with (first | (go_at_call 23; refine (H1 _).mono ?_; rintro e w' ⟨rfl, hw⟩; rw [hw]) | (go_at_call 25; refine (H2 _).mono ?_; rintro e w' ⟨rfl, hw⟩; rw [hw]) | (go_at_call 26; refine (H3 _).mono ?_; rintro e w' ⟨rfl, hw⟩; rw [hw]))
    go_ret2
    exact ⟨tokRes53_nil _ _ _, Below.refl _ _⟩
theorem refAttr_at (s : ByteArray) (nm v : List UInt8) (m : Nat) (h : attrR s.data.toList = ((nm, v), m)) (w : World) (hs : s.size ≤ 100000) :
    Calls Tryd.prog 28 #[.string s] w fun e w' => e = .returned (.tuple #[.agg #[.string ⟨nm.toArray⟩, .string ⟨v.toArray⟩], .int .i64 m]) ∧ Below w.heap.size w w' := by
  have k := refAttr_any s w hs
  rw [h] at k
  exact k
theorem attrR_le (l : List UInt8) (hr : right l = true) : (attrR l).2 ≤ l.length := by
  rcases attr_eq l hr with ⟨k, _⟩ | ⟨a, m, k, _, k3, _⟩
  · omega
  · rw [k]; exact k3
/-- What a tag's loop has made: the tokens. -/
def outR (nm : List UInt8) (p : List (List UInt8 × List UInt8) × Bool × Int) : List Tok × Int :=
  if p.2.2 = 0 then (if p.2.1 then [⟨1, nm, p.1, []⟩, ⟨2, nm, [], []⟩] else [⟨1, nm, p.1, []⟩], 0) else ([], 3)
theorem tagL_out (l : List UInt8) (hn : name (runN l) = true) : tagL l = outR (runN l) (loopR (l.length + 1) [] (runZ l)) := by
  unfold tagL outR
  rw [hn]
  rfl
/-- The token under way, in block b. -/
def TokAt (b : Nat) (nm : ByteArray) (v : Value) (w : World) : Prop := w.heap[b]? = some (.cells #[.int .i64 1, .string nm, v, .string ⟨#[]⟩] 53 (0, 0))
theorem TokAt.below {b : Nat} {nm : ByteArray} {v : Value} {w w' : World} (h : TokAt b nm v w) (hb : Below w.heap.size w w') : TokAt b nm v w' := (hb.block b (lt_of_heap h)).trans h
theorem TokAt.put {b : Nat} {nm : ByteArray} {v : Value} {w : World} (h : TokAt b nm v w) (u : Value) : TokAt b nm u (w.setCell ⟨b, 2, none⟩ u) := by
  have hlt := lt_of_heap h
  have h' : w.heap[b] = .cells #[.int .i64 1, .string nm, v, .string ⟨#[]⟩] 53 (0, 0) := by simpa [TokAt, Array.getElem?_eq_getElem hlt] using h
  show (w.heap.modify b _)[b]? = _
  rw [Array.getElem?_eq_getElem (by simpa using hlt), Array.getElem_modify_self, h']
  rfl
theorem TokAt.cells {b : Nat} {nm : ByteArray} {v : Value} {w : World} (h : TokAt b nm v w) : w.cell? ⟨b, 0, none⟩ = some (.int .i64 1) ∧ w.cell? ⟨b, 1, none⟩ = some (.string nm) ∧ w.cell? ⟨b, 2, none⟩ = some v ∧ w.cell? ⟨b, 3, none⟩ = some (.string ⟨#[]⟩) ∧ ∀ o, w.frozen? ⟨b, o, none⟩ = false :=
  ⟨by rw [Lib.cell_of_heap h]; rfl, by rw [Lib.cell_of_heap h]; rfl, by rw [Lib.cell_of_heap h]; rfl, by rw [Lib.cell_of_heap h]; rfl, fun o => Lib.frozen_of_heap h o⟩
theorem TokAt.grown {B b n : Nat} {nm : ByteArray} {v u : Value} {xs : List Value} {w w' : World} (h : TokAt b nm v w) (ho : w.ownsRow B 46 2 u n xs) (hg : w.grownBy w' u.ownBlock) : TokAt b nm v w' := by
  unfold TokAt
  rw [hg.block b (lt_of_heap h) ?_]
  · exact h
  · intro eq
    rcases ho.2 with ⟨q1, _⟩ | ⟨g, _, cur, q1, _, q3, _⟩
    · rw [q1] at eq
      simp [Value.ownBlock] at eq
    · rw [q1] at eq
      simp [Value.ownBlock] at eq
      subst eq
      rw [h] at q3
      have := (Obj.cells.inj (Option.some.inj q3)).2.1
      simp at this
set_option maxHeartbeats 4000000 in
set_option maxRecDepth 100000 in
theorem refTag_loop (s : ByteArray) (w : World) (hs : s.size ≤ 100000) (hr : right s.data.toList = true) (h47 : ∀ r, s.data.toList ≠ 47 :: r) (hn : name (runN s.data.toList) = true) :
    Calls Tryd.prog 19 #[.string s] w fun e w' => TokRes53 w.heap.size (outR (runN s.data.toList) (loopR (s.data.toList.length + 1) [] (runZ s.data.toList))) e w' ∧ Below w.heap.size w w' := by
  have H1 := fun W => refRight_at s 0 (by simp [rightN, hr]) hs W
  have H2 := fun W => refRun_any s W hs
  have hle : nmN s.data.toList ≤ s.size := by rw [size_list]; exact nmN_le _
  have H3 := fun W => refName_at (s.extract 0 (nmN s.data.toList)) true (by rw [run_ext]; exact hn) (by have := ext_size s 0 (nmN s.data.toList); omega) W
  have hrz := right_runZ s.data.toList hr
  obtain ⟨n, hN⟩ : ∃ n, nmN s.data.toList = n := ⟨_, rfl⟩
  have hnm : (⟨(runN s.data.toList).toArray⟩ : ByteArray) = s.extract 0 n := by
    rw [← hN]
    exact (mk_of_list (run_ext s)).symm
  have hzx : (s.extract n s.size).data.toList = runZ s.data.toList := by
    rw [Lib.extract_data, ← hN, runZ_drop]
    exact List.take_of_length_le (by rw [← runZ_drop, List.length_drop, ← size_list]; exact Nat.le_refl _)
  rw [hN] at hle
  simp only [hN] at H2 H3
  obtain ⟨NM, hNM⟩ : ∃ NM, s.extract 0 n = NM := ⟨_, rfl⟩
  rw [hNM] at hnm
  simp only [hNM] at H3
  obtain ⟨OUT, hOUT⟩ : ∃ p, outR (runN s.data.toList) (loopR (s.data.toList.length + 1) [] (runZ s.data.toList)) = p := ⟨_, rfl⟩
  rw [hOUT]
  have HOUT : Hid _ := hOUT
  have HNMI : Hid _ := hnm
  have HZX : Hid _ := hzx
  have HRZ : Hid _ := hrz
  have hext : (s.extract n s.size).size ≤ s.size := ext_size s n s.size
  obtain ⟨i0, hi, hz0, hz1, hz2⟩ := info_parts info46
  have hf : ∀ h0 : 0 < s.size, (((s[0]'h0).toNat : Int) == 47) = false := fun h0 => beq_no fun e => h47 _ (by rw [list_head s h0, show s[0]'h0 = 47 from UInt8.toNat_inj.1 (show (s[0]'h0).toNat = 47 by omega)])
  have hpos : 0 < s.size := by
    rcases Nat.eq_zero_or_pos s.size with e | e
    · exfalso
      have : s.data.toList = [] := List.eq_nil_of_length_eq_zero (by rw [← size_list]; exact e)
      rw [this] at hn
      simp [runN, name] at hn
    · exact e
  have hf0 := hf hpos
  clear hr h47 hn hN hnm hzx hrz hOUT hf
  go_enter Tryd.func19, Tryd.ntmps19
  go_wp2_with (first | (go_at_call 23; refine (H1 _).mono ?_; rintro e w' ⟨rfl, hw⟩; rw [hw]) | (go_at_call 25; refine (H2 _).mono ?_; rintro e w' ⟨rfl, hw⟩; rw [hw]) | (go_at_call 26; refine (H3 _).mono ?_; rintro e w' ⟨rfl, hw⟩; rw [hw]))
  go_loopw [0] (fun a wr => ∃ (x : ByteArray) (f : Nat) (acc : List (List UInt8 × List UInt8)) (ao : Option Addr) (cap : Nat), a = .string x ∧ x.size < f ∧ x.size ≤ 100000 ∧ acc.length ≤ 6 ∧ TokAt w.heap.size NM (.slice ao acc.length cap) wr ∧
      AttrsAt w.heap.size (.slice ao acc.length cap) acc wr ∧ Below w.heap.size w wr ∧ right x.data.toList = true ∧ outR (runN s.data.toList) (loopR f acc x.data.toList) = OUT) (fun a _ => sizeS a)
  case atStart => exact ⟨_, s.data.toList.length + 1, [], none, 0, rfl, by rw [← size_list]; omega, by omega, by simp, heap_alloc_new w _, attrs_nil _ _, Below.alloc1 w _, by rw [HZX.out]; exact HRZ.out, by rw [HZX.out]; exact HOUT.out⟩
  case round =>
    obtain ⟨x, f, acc, ao, cap, rfl, hxf, hx, hal, hTk, hA, hbw, hrx, hres⟩ := hrel
    have H4 := fun W => refBlanks_any x W hx
    obtain ⟨f, rfl⟩ : ∃ g, f = g + 1 := ⟨f - 1, by omega⟩
    have hkl := blN_len x.data.toList
    have htd := trim_drop x.data.toList
    obtain ⟨k, hk⟩ : ∃ k, blN x.data.toList = k := ⟨_, rfl⟩
    rw [hk] at hkl htd
    simp only [hk] at H4
    rw [← size_list] at hkl
    have hkx : k ≤ x.size := by omega
    have hAl : (x.extract k x.size).data.toList = trimL x.data.toList := by
      rw [Lib.extract_data, ← htd]
      exact List.take_of_length_le (by rw [List.length_drop, ← size_list]; omega)
    obtain ⟨A, hAe⟩ : ∃ A, x.extract k x.size = A := ⟨_, rfl⟩
    rw [hAe] at hAl
    have hAs : A.size ≤ x.size := by rw [← hAe]; exact ext_size x k x.size
    have hrA : right A.data.toList = true := by rw [hAl]; exact right_trim _ hrx
    have hszA : A.size + k = x.size := by rw [size_list A, hAl]; omega
    obtain ⟨t0, t1, t2, t3, tz⟩ := hTk.cells
    have tlt := lt_of_heap hTk
    have HRES : Hid _ := hres
    have HAL : Hid _ := hAl
    have HRA : Hid _ := hrA
    have HSZ : Hid _ := hszA
    clear hres hkl htd hk hrx hAl hrA hszA
    by_cases h0 : A.toList = []
    · have e0 : A.toList.isEmpty = true := by rw [h0]; rfl
      have hE : loopR (f + 1) acc x.data.toList = (acc, false, 0) := by
        have : trimL x.data.toList = [] := by rw [← HAL.out, ← Lib.toList_data]; exact h0
        simp [loopR, this]
      have HE : Hid _ := hE
      clear hE h0
      go_wp2_with (go_at_call 27; refine (H4 _).mono ?_; rintro e w' ⟨rfl, hw⟩; rw [hw])
      go_ret2
      refine ⟨?_, hbw.alloc hbw.size _⟩
      rw [← HRES.out, HE.out]
      exact ⟨_, _, _, rfl, toks53_one wr w.heap.size 1 _ _ _ ⟨1, runN s.data.toList, acc, []⟩ hbw.size rfl HNMI.out rfl hA⟩
    · have e0 : A.toList.isEmpty = false := by simpa using h0
      have he0 : (trimL x.data.toList).isEmpty = false := by rw [← HAL.out, ← Lib.toList_data]; exact e0
      by_cases h1 : A.toList = [47]
      · have e1 : (A.toList == [47]) = true := by simpa using h1
        have hE : loopR (f + 1) acc x.data.toList = (acc, true, 0) := by
          have : trimL x.data.toList = [47] := by rw [← HAL.out, ← Lib.toList_data]; exact h1
          simp [loopR, this]
        have HE : Hid _ := hE
        clear hE h0 h1 he0
        go_wp2_with (go_at_call 27; refine (H4 _).mono ?_; rintro e w' ⟨rfl, hw⟩; rw [hw])
        go_ret2
        refine ⟨?_, hbw.alloc hbw.size _⟩
        rw [← HRES.out, HE.out]
        exact ⟨_, _, _, rfl, toks53_two wr w.heap.size 1 _ _ _ ⟨1, runN s.data.toList, acc, []⟩ hbw.size rfl HNMI.out rfl hA⟩
      · have e1 : (A.toList == [47]) = false := by simpa using h1
        have hne1 : trimL x.data.toList ≠ [47] := by rw [← HAL.out, ← Lib.toList_data]; exact h1
        obtain ⟨⟨⟨nm, val⟩, m⟩, hat⟩ : ∃ p, attrR (trimL x.data.toList) = p := ⟨_, rfl⟩
        have hml : m ≤ A.size := by
          have := attrR_le A.data.toList HRA.out
          rw [HAL.out, hat] at this
          rw [size_list, HAL.out]
          exact this
        have H5 := refAttr_at A nm val m (by rw [HAL.out]; exact hat) wr (by omega)
        have hloop : loopR (f + 1) acc x.data.toList = if (trimL x.data.toList).length = x.data.toList.length ∨ m = 0 ∨ 6 ≤ acc.length then ([], false, 3) else if known nm acc then ([], false, 3) else loopR f (acc ++ [(nm, val)]) ((trimL x.data.toList).drop m) := by
          simp only [loopR, he0, hat, Bool.false_eq_true, if_false, if_neg hne1]
        have hlen : (trimL x.data.toList).length = x.data.toList.length ↔ k = 0 := by
          rw [← HAL.out, ← size_list, ← size_list]
          have := HSZ.out
          omega
        simp only [hlen] at hloop
        have HLP : Hid _ := hloop
        have HM : Hid (attrR (trimL x.data.toList) = ((nm, val), m)) := hat
        clear hloop hlen hat h0 h1 he0 hne1
        by_cases hbad : k = 0 ∨ m = 0 ∨ 6 ≤ acc.length
        · have hE : loopR (f + 1) acc x.data.toList = ([], false, 3) := by rw [HLP.out, if_pos hbad]
          have HE : Hid _ := hE
          clear hE
          have fin : ∀ W, Below w.heap.size w W → TokRes53 w.heap.size OUT (.returned (.tuple #[.slice none 0 0, .int .i64 3])) W ∧ Below w.heap.size w W := fun W hW => by
            refine ⟨?_, hW⟩
            rw [← HRES.out, HE.out]
            exact tokRes53_nil _ _ _
          have FIN : Hid _ := fin
          clear fin
          by_cases hk0 : k = 0
          · have q0 : ((k : Int) == 0) = true := by simpa using hk0
            clear hbad hk0
            go_wp2_with (first | (go_at_call 27; refine (H4 _).mono ?_; rintro e w' ⟨rfl, hw⟩; rw [hw]) | (go_at_call 28; refine H5.mono ?_; rintro e w2 ⟨rfl, hb2⟩; have tk2 := hTk.below hb2; obtain ⟨t0, t1, t2, t3, tz⟩ := tk2.cells; have tlt := lt_of_heap tk2))
            go_ret2
            exact FIN.out _ ((hbw.trans (hb2.mono hbw.size)).alloc (hbw.trans (hb2.mono hbw.size)).size _)
          · have q0 : ((k : Int) == 0) = false := beq_no (by omega)
            by_cases hm0 : m = 0
            · have q1 : ((m : Int) == 0) = true := by simpa using hm0
              clear hbad hm0
              go_wp2_with (first | (go_at_call 27; refine (H4 _).mono ?_; rintro e w' ⟨rfl, hw⟩; rw [hw]) | (go_at_call 28; refine H5.mono ?_; rintro e w2 ⟨rfl, hb2⟩; have tk2 := hTk.below hb2; obtain ⟨t0, t1, t2, t3, tz⟩ := tk2.cells; have tlt := lt_of_heap tk2))
              go_ret2
              exact FIN.out _ ((hbw.trans (hb2.mono hbw.size)).alloc (hbw.trans (hb2.mono hbw.size)).size _)
            · have q1 : ((m : Int) == 0) = false := beq_no (by omega)
              have q2 : (6 : Int) ≤ (acc.length : Int) := by omega
              clear hbad
              go_wp2_with (first | (go_at_call 27; refine (H4 _).mono ?_; rintro e w' ⟨rfl, hw⟩; rw [hw]) | (go_at_call 28; refine H5.mono ?_; rintro e w2 ⟨rfl, hb2⟩; have tk2 := hTk.below hb2; obtain ⟨t0, t1, t2, t3, tz⟩ := tk2.cells; have tlt := lt_of_heap tk2))
              go_ret2
              exact FIN.out _ ((hbw.trans (hb2.mono hbw.size)).alloc (hbw.trans (hb2.mono hbw.size)).size _)
        · have q0 : ((k : Int) == 0) = false := beq_no (by omega)
          have q1 : ((m : Int) == 0) = false := beq_no (by omega)
          have q2 : ¬ (6 : Int) ≤ (acc.length : Int) := by omega
          have hal6 : acc.length < 6 := by omega
          have HE : Hid (loopR (f + 1) acc x.data.toList = if known nm acc then ([], false, 3) else loopR f (acc ++ [(nm, val)]) ((trimL x.data.toList).drop m)) := by show _ = _; rw [HLP.out, if_neg hbad]
          have hm0 : 0 < m := by omega
          clear hbad
          go_wp2_with (first | (go_at_call 27; refine (H4 _).mono ?_; rintro e w' ⟨rfl, hw⟩; rw [hw]) | (go_at_call 28; refine H5.mono ?_; rintro e w2 ⟨rfl, hb2⟩; have tk2 := hTk.below hb2; obtain ⟨t0, t1, t2, t3, tz⟩ := tk2.cells; have tlt := lt_of_heap tk2))
          have hb4 := hbw.trans (hb2.mono hbw.size)
          have hb5 := hb4.alloc hb4.size (.cells #[.string ⟨nm.toArray⟩, .string ⟨val.toArray⟩] 46)
          have hA5 := (hA.below hb2).below (Below.alloc1 w2 (.cells #[.string ⟨nm.toArray⟩, .string ⟨val.toArray⟩] 46))
          have tk5 := tk2.below (Below.alloc1 w2 (.cells #[.string ⟨nm.toArray⟩, .string ⟨val.toArray⟩] 46))
          have hk5 := heap_alloc_new w2 (.cells #[.string ⟨nm.toArray⟩, .string ⟨val.toArray⟩] 46)
          obtain ⟨W, hW⟩ : ∃ W, W = w2.alloc (.cells #[.string ⟨nm.toArray⟩, .string ⟨val.toArray⟩] 46) := ⟨_, rfl⟩
          rw [← hW] at hb5 hA5 tk5 hk5
          rw [← hW]
          have hWs : w2.heap.size < W.heap.size := lt_of_heap hk5
          clear hW t0 t1 t2 t3 tz tlt tk2 hTk hA H4 H5
          go_loopw [11] (fun i wi => ∃ j m2 : Nat, j ≤ acc.length ∧ i = .int .i64 j ∧ known nm (acc.take j) = false ∧ wi = W.drewN m2) (fun i _ => acc.length - (intOf i).toNat)
          case atStart => exact ⟨0, 0, Nat.zero_le _, rfl, rfl, rfl⟩
          case round =>
            obtain ⟨j, m2, hj, rfl, hkn, rfl⟩ := hrel
            have HK : Hid _ := hkn
            clear hkn
            obtain ⟨V, hV⟩ : ∃ V, V = W.drewN m2 := ⟨_, rfl⟩
            obtain ⟨t0, t1, t2, t3, tz⟩ := TokAt.cells (show TokAt w.heap.size NM (.slice ao acc.length cap) V by rw [hV]; exact tk5)
            have hkV : V.heap[w2.heap.size]? = some (.cells #[.string ⟨nm.toArray⟩, .string ⟨val.toArray⟩] 46 (0, 0)) := by rw [hV]; exact hk5
            have d0 : V.cell? ⟨w2.heap.size, 0, none⟩ = some (.string ⟨nm.toArray⟩) := by rw [Lib.cell_of_heap hkV]; rfl
            have d1 : V.cell? ⟨w2.heap.size, 1, none⟩ = some (.string ⟨val.toArray⟩) := by rw [Lib.cell_of_heap hkV]; rfl
            have hbV : Below w.heap.size w V := by rw [hV]; exact Below.drewN hb5 m2
            have hAV : AttrsAt w.heap.size (.slice ao acc.length cap) acc V := by rw [hV]; exact hA5.below (Below.drewN (Below.refl _ _) m2)
            have tkV : TokAt w.heap.size NM (.slice ao acc.length cap) V := by rw [hV]; exact tk5
            have hVs : w2.heap.size < V.heap.size := lt_of_heap hkV
            rw [← hV]
            have HV : Hid _ := hV
            clear hV
            by_cases hlt : j < acc.length
            · obtain ⟨g, p, rfl, hp, c0, c1⟩ := attr_cells hAV rfl j hlt
              have HP : Hid _ := hp
              have hj0 : (0 : Int) ≤ (j : Int) := Int.natCast_nonneg _
              have hj1 : (j : Int) < (acc.length : Int) := by omega
              clear hp
              cases hq : (p.1 == nm) with
              | true =>
                go_wp2
                go_quiet (fail)
                go_wp2
                go_ret2
                refine ⟨?_, Below.drewN hbV _⟩
                rw [← HRES.out, HE.out, known_mem HP.out hq]
                exact tokRes53_nil _ _ _
              | false =>
                have HQ2 : Hid _ := hq
                go_wp2
                go_quiet (fail)
                go_wp2
                go_roundw
                case rel => exact ⟨j + 1, m2 + nq, by omega, by go_num, by rw [take_next HP.out, known_snoc, HK.out, HQ2.out]; rfl, by rw [HV.out, drew_drew]⟩
                case measure => simp [intOf]; omega
            · have hjn : j = acc.length := by omega
              have HJ : Hid _ := hjn
              clear hjn
              go_wp2_with (at_builtin; refine wpList_append_own _ rfl (.tmp 115) (.tmp 117) 42 rfl w.heap.size 46 i0 _ 2 32 Tryd.underlying42 hi hz0 hz1 hz2 rfl (by decide) _ _ _ rfl (AttrsAt.below hAV (Below.alloc1 V _)) ⟨V.heap.size, 0, none⟩ 1 1 [.string ⟨nm.toArray⟩, .string ⟨val.toArray⟩] rfl rfl ?c1 ?c2 ?c3 ?c4 ?c5 ?_)
              case c1 =>
                intro j u hj
                match j, hj with
                | 0, hj => simp at hj; subst hj; simp [Addr.add]
                | 1, hj => simp at hj; subst hj; simp [Addr.add]
              case c2 =>
                intro u hu
                simp at hu
                rcases hu with rfl | rfl <;> rfl
              case c3 => unfold maxLen; omega
              case c4 => omega
              case c5 => have := hbV.size; simp; omega
              intro v' w' hown' hgrow _
              obtain ⟨ao', cap', rfl⟩ := owns_shape hown'
              have tk6 := (tkV.below (Below.alloc1 V (.cells #[.string ⟨nm.toArray⟩, .string ⟨val.toArray⟩] 46))).grown (AttrsAt.below hAV (Below.alloc1 V (.cells #[.string ⟨nm.toArray⟩, .string ⟨val.toArray⟩] 46))) hgrow
              have hbx := (hbV.alloc hbV.size (.cells #[.string ⟨nm.toArray⟩, .string ⟨val.toArray⟩] 46)).grown hgrow (by have := hbV.size; simp; omega) (owns_lt hAV)
              obtain ⟨u0, u1, u2, u3, uz⟩ := tk6.cells
              have TK6 : Hid _ := tk6
              have HO : Hid _ := hown'
              clear tk6 hown' hgrow t0 t1 t2 t3 tz
              go_wp2
              go_roundw
              case rel =>
                have hAx : (A.extract m A.size).data.toList = (trimL x.data.toList).drop m := by
                  rw [Lib.extract_data, HAL.out]
                  exact List.take_of_length_le (by rw [List.length_drop, ← HAL.out, ← size_list]; exact Nat.le_refl _)
                have hAz : (A.extract m A.size).size = A.size - m := by
                  rw [size_list, hAx, List.length_drop, ← HAL.out, ← size_list]
                have hrd : right ((trimL x.data.toList).drop m) = true := by
                  rcases attr_eq (trimL x.data.toList) (by rw [← HAL.out]; exact HRA.out) with ⟨e, _⟩ | ⟨a, m', e, _, _, _, e5⟩
                  · rw [HM.out] at e
                    simp only at e
                    omega
                  · rw [HM.out] at e
                    cases e
                    exact e5
                refine ⟨A.extract m A.size, f, acc ++ [(nm, val)], ao', cap', rfl, by omega, by omega, by simp; omega, ?_, ?_, hbx.setCell (p := ⟨w.heap.size, 2, none⟩) (Nat.le_refl _) _, by rw [hAx]; exact hrd, ?_⟩
                · rw [List.length_append]
                  exact TokAt.put TK6.out _
                · have q : AttrsAt w.heap.size (.slice ao' (acc.length + 1) cap') (acc ++ [(nm, val)]) w' := by
                    unfold AttrsAt
                    rw [pairCells_app, List.length_append]
                    exact HO.out
                  rw [List.length_append]
                  exact owns_set q TK6.out (by decide) 2 _
                · have hk := HK.out
                  rw [HJ.out, List.take_length] at hk
                  rw [hAx, ← HRES.out, HE.out, hk]
                  rfl
              case measure =>
                have hAz : (A.extract m A.size).size = A.size - m := by
                  rw [ByteArray.size_extract]
                  omega
                simp only [sizeS]
                omega
theorem refTag_any (s : ByteArray) (w : World) (hs : s.size ≤ 100000) :
    Calls Tryd.prog 19 #[.string s] w fun e w' => TokRes53 w.heap.size (tagN s.data.toList) e w' ∧ Below w.heap.size w w' := by
  rw [tag_eq]
  unfold tagR
  cases hr : right s.data.toList with
  | false => exact refTag_sign s w hs hr
  | true =>
    simp only [if_true]
    by_cases hp : Lib.hasPrefix s.data.toList [47] = true
    · rw [if_pos hp]
      obtain ⟨r, e⟩ := (pre_iff _).1 hp
      have : Lib.trimPrefix s.data.toList [47] = r := by
        unfold Lib.trimPrefix
        rw [if_pos hp, e]
        rfl
      rw [this]
      exact refTag_slash s w hs hr r e
    · rw [if_neg hp]
      have h47 : ∀ r, s.data.toList ≠ 47 :: r := fun r e => hp ((pre_iff _).2 ⟨r, e⟩)
      cases hn : name (runN s.data.toList) with
      | false =>
        rw [show tagL s.data.toList = ([], 3) by unfold tagL; rw [hn]; rfl]
        exact refTag_name s w hs hr h47 hn
      | true =>
        rw [tagL_out _ hn]
        exact refTag_loop s w hs hr h47 hn
end Go.Proofs.YtdoekpodichhdaaDoor
