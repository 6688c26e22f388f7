/-
  The contract of tidewaterref02.Read over this program: for every string of at most 100000 bytes.
-/
import Derived.Test.YtdoekpodichhdaaDoorRefj
namespace Go.Proofs.YtdoekpodichhdaaDoor
open Go.RowKit
/-- What Read answers. -/
def ReadOut (B : Nat) (p : St × List Tok) (e : Ending) (w : World) : Prop := ∃ ao n cap, e = .returned (.tuple #[.slice ao n cap, .int .i64 p.1.err, .int .i64 p.1.held.length]) ∧ ToksAt 53 B (.slice ao n cap) p.2 w
theorem feed_step (s : ByteArray) (j : Nat) (hj : j < s.size) (h : List UInt8) (t : Bool) (l : List Tok) (hP : feedN st0 (s.data.toList.take j) = (⟨h, t, 0⟩, l)) (h' : List UInt8) (t' : Bool) (k : List Tok) (e : Int) (hR : readN h t (s[j]'hj) = (h', t', k, e)) :
    feedN st0 (s.data.toList.take (j + 1)) = (⟨if e = 0 then h' else [], t', e⟩, l ++ k) := by
  rw [take_snoc s j hj, feedN_snoc, hP]
  simp only [stepN, hR, if_true]
theorem feed_stop (s : ByteArray) (j : Nat) (S : St) (l : List Tok) (hP : feedN st0 (s.data.toList.take j) = (S, l)) (he : S.err ≠ 0) : feedN st0 s.data.toList = (S, l) := by
  have h2 := feedN_app (s.data.toList.take j) (s.data.toList.drop j) st0
  rw [List.take_append_drop, hP, feedN_err _ _ he] at h2
  simpa using h2
theorem tagN_none (h : List UInt8) (k : List Tok) (c : Int) (e : tagN h = (k, c)) (hc : c ≠ 0) : k = [] := by
  unfold tagN at e
  split at e
  · split at e
    · unfold endN at e
      split at e
      · cases e; exact absurd rfl hc
      · cases e; rfl
    · split at e
      · unfold bothN at e
        split at e
        · cases e; exact absurd rfl hc
        · cases e; rfl
      · unfold bareN at e
        split at e
        · cases e; exact absurd rfl hc
        · cases e; rfl
  · cases e; rfl
set_option maxHeartbeats 8000000 in
set_option maxRecDepth 100000 in
theorem refRead_any (s : ByteArray) (w : World) (hs : s.size ≤ 100000) :
    Calls Tryd.prog 13 #[.string s] w fun e w' => ReadOut w.heap.size (feedN st0 s.data.toList) e w' ∧ Below w.heap.size w w' := by
  obtain ⟨OUT, hOUT⟩ : ∃ p, feedN st0 s.data.toList = p := ⟨_, rfl⟩
  rw [hOUT]
  have HOUT : Hid _ := hOUT
  clear hOUT
  obtain ⟨i0, hi, hz0, hz1, hz2⟩ := info_parts info53
  go_enter Tryd.func13, Tryd.ntmps13
  go_wp2
  go_loopw [5, 6, 7, 8] (fun v fr tg i wr => ∃ (j f : Nat) (t : Bool) (l : List Tok) (ao : Option Addr) (n cap : Nat), j ≤ s.size ∧ f ≤ j ∧ i = .int .i64 j ∧ fr = .int .i64 f ∧ tg = .bool t ∧ v = .slice ao n cap ∧ feedN st0 (s.data.toList.take j) = (⟨(s.data.toList.take j).drop f, t, 0⟩, l) ∧
      ToksAt 53 w.heap.size (.slice ao n cap) l wr ∧ Below w.heap.size w wr) (fun _ _ _ i _ => s.size - (intOf i).toNat)
  case atStart => exact ⟨0, 0, false, [], none, 0, 0, Nat.zero_le _, Nat.le_refl _, rfl, rfl, rfl, rfl, rfl, ToksAt.nil _ _ _, Below.refl _ _⟩
  case round =>
    obtain ⟨j, f, t, l, ao, n, cap, hj, hfj, rfl, rfl, rfl, rfl, hP, htk, hbw⟩ := hrel
    obtain ⟨h, hh⟩ : ∃ h, (s.data.toList.take j).drop f = h := ⟨_, rfl⟩
    rw [hh] at hP
    have hhl : h.length = j - f := by rw [← hh, List.length_drop, List.length_take, ← size_list]; omega
    have hO := ok_feed (s.data.toList.take j) st0 ok_st0
    rw [hP] at hO
    have h512 : h.length ≤ 512 := hO.held
    have hll : l.length ≤ 200000 := by
      have := feedN_len (s.data.toList.take j) st0
      rw [hP, List.length_take, ← size_list] at this
      simp only at this
      omega
    have hex : (s.extract f j).data.toList = h := by
      rw [← hh, Lib.extract_data, List.drop_take]
    have hsx : (s.extract f j).size ≤ 100000 := by have := ext_size s f j; omega
    have HP : Hid _ := hP
    have HH : Hid _ := hh
    have HHL : Hid _ := hhl
    have HEX : Hid _ := hex
    have HTK : Hid _ := htk
    have hsz := hbw.size
    clear hP hh hO hhl hex htk
    have stop : ∀ (S : St) (k : List Tok) (W : World), feedN st0 (s.data.toList.take (j + 1)) = (S, l ++ k) → S.err ≠ 0 → k = [] → S.held = [] → Below wr.heap.size wr W → Below w.heap.size w W → ReadOut w.heap.size OUT (.returned (.tuple #[.slice ao n cap, .int .i64 S.err, .int .i64 0])) W ∧ Below w.heap.size w W := by
      intro S k W h1 h2 h3 h4 h5 h6
      subst h3
      rw [List.append_nil] at h1
      have := feed_stop s (j + 1) S l h1 h2
      rw [HOUT.out] at this
      rw [this]
      refine ⟨⟨ao, n, cap, ?_, ToksAt.below HTK.out h5⟩, h6⟩
      simp only
      rw [h4]
      rfl
    have STOP : Hid _ := stop
    clear stop
    by_cases hlt : j < s.size
    · have hji : (j : Int) < (s.size : Int) := by omega
      by_cases h60 : s[j]'hlt = 60
      · have e60 : ((s[j]'hlt).toNat : Int) = 60 := by rw [h60]; rfl
        have H60 : Hid _ := h60
        clear h60
        cases t with
        | true =>
          go_wp2
          go_ret3
          exact STOP.out _ _ _ (feed_step s j hlt h true l HP.out h true [] 3 (by rw [H60.out]; rfl)) (by simp) rfl (by simp) (Below.refl _ _) hbw
        | false =>
          by_cases hjf : f < j
          · have hfi : (f : Int) < (j : Int) := by omega
            obtain ⟨⟨r, c⟩, hu⟩ : ∃ p, un h = p := ⟨_, rfl⟩
            have H1 := fun W => refUnescape_un (s.extract f j) r c (by rw [HEX.out]; exact hu) hsx W
            have hne : h.isEmpty = false := by
              have := HHL.out
              cases h with
              | nil => simp at this; omega
              | cons a b => rfl
            by_cases hc : c = 0
            · subst hc
              have hR : readN h false 60 = ([], true, [⟨3, [], [], r⟩], 0) := by
                show ([], true, textN h) = _
                unfold textN
                rw [hne, hu]
                rfl
              have HR : Hid _ := hR
              clear hR hu hne
              go_wp2_with (first | (go_at_call 18; refine (H1 _).mono ?_; rintro e w1 ⟨rfl, hb1⟩; have hs1 : w.heap.size ≤ w1.heap.size := Nat.le_trans hsz hb1.size; have hs2 : w.heap.size ≤ (w1.alloc (.cells #[.int .i64 3, .string ⟨#[]⟩, .slice none 0 0, .string ⟨r.toArray⟩] 53)).heap.size := (by simp; omega)) | (at_builtin; refine wpList_append_toks (by rfl) (.tmp 42) (.tmp 45) 30 rfl 53 (by decide) i0 _ Tryd.underlying30 hi hz0 hz1 hz2 rfl w.heap.size _ l rfl ((ToksAt.below HTK.out hb1).below (Below.alloc1 w1 _)) _ [⟨3, [], [], r⟩] rfl (toks53_one w1 w.heap.size 3 _ _ _ ⟨3, [], [], r⟩ hs1 rfl rfl rfl (attrs_nil _ _)) (by simp; omega) hs2 ?_))
              rintro v' w4 tk4 ⟨xs4, o4⟩ g4
              obtain ⟨n4, hn4⟩ : ∃ n4, (l ++ [(⟨3, [], [], r⟩ : Tok)]).length = n4 := ⟨_, rfl⟩
              obtain ⟨ao4, cap4, hv4⟩ := owns_shape tk4.choose_spec.1
              rw [hn4] at hv4
              subst hv4
              have hb4 := ((hbw.trans (hb1.mono hsz)).alloc hs1 (.cells #[.int .i64 3, .string ⟨#[]⟩, .slice none 0 0, .string ⟨r.toArray⟩] 53)).grown g4 hs2 (owns_lt o4)
              have TK4 : Hid _ := tk4
              clear tk4 o4 g4 hn4
              go_wp2
              go_roundw
              case rel => exact ⟨j + 1, j + 1, true, _, ao4, n4, cap4, by omega, Nat.le_refl _, by go_num, by go_num, rfl, rfl, by rw [feed_step s j hlt h false l HP.out [] true _ 0 (by rw [H60.out]; exact HR.out)]; simp, TK4.out, hb4⟩
              case measure => simp [intOf]; omega
            · have hc' : (c == 0) = false := by simpa using hc
              have hR : readN h false 60 = ([], true, [], c) := by
                show ([], true, textN h) = _
                unfold textN
                rw [hne, hu]
                simp [hc]
              have HR : Hid _ := hR
              have HC : Hid _ := hc
              clear hR hu hne hc
              go_wp2_with (go_at_call 18; refine (H1 _).mono ?_; rintro e w1 ⟨rfl, hb1⟩)
              go_ret3
              exact STOP.out _ _ _ (feed_step s j hlt h false l HP.out [] true [] c (by rw [H60.out]; exact HR.out)) HC.out rfl (by simp) hb1 (hbw.trans (hb1.mono hsz))
          · have hfi : ¬ (f : Int) < (j : Int) := by omega
            have hR : readN h false 60 = ([], true, [], 0) := by
              have : h = [] := List.eq_nil_of_length_eq_zero (by have := HHL.out; omega)
              rw [this]
              rfl
            have HR : Hid _ := hR
            clear hR
            go_wp2
            go_roundw
            case rel => exact ⟨j + 1, j + 1, true, l, ao, n, cap, by omega, Nat.le_refl _, by go_num, by go_num, rfl, rfl, by rw [feed_step s j hlt h false l HP.out [] true [] 0 (by rw [H60.out]; exact HR.out)]; simp, HTK.out, hbw⟩
            case measure => simp [intOf]; omega
      · have e60 : (((s[j]'hlt).toNat : Int) == 60) = false := beq_no (ne_u8 60 h60)
        by_cases h62 : s[j]'hlt = 62 ∧ t = true
        · obtain ⟨h62, rfl⟩ := h62
          have e62 : (((s[j]'hlt).toNat : Int) == 62) = true := by rw [h62]; rfl
          obtain ⟨⟨k, c⟩, hT⟩ : ∃ p, tagN h = p := ⟨_, rfl⟩
          have H2 := fun W => refTag_any (s.extract f j) W hsx
          rw [HEX.out, hT] at H2
          have hR : readN h true (s[j]'hlt) = ([], false, k, c) := by
            rw [h62]
            show ([], false, tagN h) = _
            rw [hT]
          have hkl : k.length ≤ 2 := by have := tagN_len h; rw [hT] at this; exact this
          have hk0 : c ≠ 0 → k = [] := fun hc => tagN_none h k c hT hc
          have HR : Hid _ := hR
          have HK0 : Hid _ := hk0
          clear hR hT h62 h60 hk0
          by_cases hc : c = 0
          · subst hc
            go_wp2_with (go_at_call 19; refine (H2 _).mono ?_)
            rintro e w1 ⟨⟨ao1, n1, cap1, rfl, tk1⟩, hb1⟩
            have hs1 : w.heap.size ≤ w1.heap.size := Nat.le_trans hsz hb1.size
            have tk1' : ToksAt 53 w.heap.size (.slice ao1 n1 cap1) k w1 := tk1.base hsz
            have T1 : Hid _ := tk1'
            have T0 : Hid _ := ToksAt.below HTK.out hb1
            clear tk1 tk1'
            go_wp2_with (at_builtin; refine wpList_append_toks (by rfl) (.tmp 76) (.tmp 77) 30 rfl 53 (by decide) i0 _ Tryd.underlying30 hi hz0 hz1 hz2 rfl w.heap.size _ l rfl T0.out _ k rfl T1.out (by omega) hs1 ?_)
            rintro v' w4 tk4 ⟨xs4, o4⟩ g4
            obtain ⟨n4, hn4⟩ : ∃ n4, (l ++ k).length = n4 := ⟨_, rfl⟩
            obtain ⟨ao4, cap4, hv4⟩ := owns_shape tk4.choose_spec.1
            rw [hn4] at hv4
            subst hv4
            have hb4 := (hbw.trans (hb1.mono hsz)).grown g4 hs1 (owns_lt o4)
            have TK4 : Hid _ := tk4
            clear tk4 o4 g4 hn4
            go_wp2
            go_roundw
            case rel => exact ⟨j + 1, j + 1, false, _, ao4, n4, cap4, by omega, Nat.le_refl _, by go_num, by go_num, rfl, rfl, by rw [feed_step s j hlt h true l HP.out [] false k 0 HR.out]; simp, TK4.out, hb4⟩
            case measure => simp [intOf]; omega
          · have hc' : (c == 0) = false := by simpa using hc
            have HC : Hid _ := hc
            clear hc
            go_wp2_with (go_at_call 19; refine (H2 _).mono ?_)
            rintro e w1 ⟨⟨ao1, n1, cap1, rfl, tk1⟩, hb1⟩
            clear tk1
            go_wp2
            go_ret3
            exact STOP.out _ _ _ (feed_step s j hlt h true l HP.out [] false k c HR.out) HC.out (HK0.out HC.out) (by simp) hb1 (hbw.trans (hb1.mono hsz))
        · have q62 : (((s[j]'hlt).toNat : Int) == 62) = false ∨ ((((s[j]'hlt).toNat : Int) == 62) = true ∧ t = false) := by
            by_cases hc : s[j]'hlt = 62
            · refine .inr ⟨by rw [hc]; rfl, ?_⟩
              cases t with
              | false => rfl
              | true => exact absurd ⟨hc, rfl⟩ h62
            · exact .inl (beq_no (ne_u8 62 hc))
          have hR : readN h t (s[j]'hlt) = if h.length = 512 then (h, t, [], 4) else (h ++ [s[j]'hlt], t, [], 0) := by
            unfold readN
            rw [if_neg h60, if_neg h62]
          by_cases h5 : h.length = 512
          · rw [if_pos h5] at hR
            have HR : Hid _ := hR
            have hbig : (512 : Int) < (j : Int) + 1 - (f : Int) := by have := HHL.out; omega
            clear hR h60 h62 h5
            cases t with
            | true =>
              rcases q62 with q62 | ⟨_, q⟩
              · go_wp2
                go_ret3
                exact STOP.out _ _ _ (feed_step s j hlt h true l HP.out h true [] 4 HR.out) (by simp) rfl (by simp) (Below.refl _ _) hbw
              · simp at q
            | false =>
              clear q62
              go_wp2
              go_ret3
              exact STOP.out _ _ _ (feed_step s j hlt h false l HP.out h false [] 4 HR.out) (by simp) rfl (by simp) (Below.refl _ _) hbw
          · rw [if_neg h5] at hR
            have HR : Hid _ := hR
            have hbig : ¬ (512 : Int) < (j : Int) + 1 - (f : Int) := by have := HHL.out; omega
            have HHN : Hid ((s.data.toList.take (j + 1)).drop f = h ++ [s[j]'hlt]) := by
              show _ = _
              rw [take_snoc s j hlt, List.drop_append_of_le_length (by rw [List.length_take, ← size_list]; omega), HH.out]
            clear hR h60 h62 h5
            cases t with
            | true =>
              rcases q62 with q62 | ⟨_, q⟩
              · go_wp2
                go_roundw
                case rel => exact ⟨j + 1, f, true, l, ao, n, cap, by omega, by omega, by go_num, rfl, rfl, rfl, by rw [feed_step s j hlt h true l HP.out _ true [] 0 HR.out, HHN.out]; simp, HTK.out, hbw⟩
                case measure => simp [intOf]; omega
              · simp at q
            | false =>
              clear q62
              go_wp2
              go_roundw
              case rel => exact ⟨j + 1, f, false, l, ao, n, cap, by omega, by omega, by go_num, rfl, rfl, rfl, by rw [feed_step s j hlt h false l HP.out _ false [] 0 HR.out, HHN.out]; simp, HTK.out, hbw⟩
              case measure => simp [intOf]; omega
    · go_wp2
      go_ret3
      refine ⟨?_, hbw⟩
      have e : s.data.toList.take j = s.data.toList := List.take_of_length_le (by rw [← size_list]; omega)
      have hP := HP.out
      rw [e, HOUT.out] at hP
      rw [hP]
      refine ⟨ao, n, cap, ?_, HTK.out⟩
      have hl := HHL.out
      exact congrArg (fun q : Int => Ending.returned (.tuple #[.slice ao n cap, .int .i64 0, .int .i64 q])) (show (s.size : Int) - (f : Int) = (h.length : Int) by omega)
end Go.Proofs.YtdoekpodichhdaaDoor
