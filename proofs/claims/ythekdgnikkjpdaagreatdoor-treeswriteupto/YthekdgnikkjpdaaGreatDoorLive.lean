/-
  The contract of (*tags.Reader).Feed over this program: for every reader that was made and fed, and every string of at most 100000 bytes.
-/
import Derived.Test.YthekdgnikkjpdaaGreatDoorRead
import Derived.Laws.AppendOwnNone
namespace Go.Proofs.YthekdgnikkjpdaaGreatDoor
open Go.RowKit
theorem info44 : (Tryz.prog.info? 73).map (fun i => (i.zero, i.size, i.bytes)) = some (some (.agg #[.int .i64 0, .string ⟨#[]⟩, .slice none 0 0, .string ⟨#[]⟩]), 4, 64) := by kernel_rfl
theorem textN_len (l : List UInt8) : (textN l).1.length ≤ 2 := by
  unfold textN
  split
  · simp
  · split <;> simp
theorem tagN_len (l : List UInt8) : (tagN l).1.length ≤ 2 := by
  unfold tagN
  split
  · split
    · unfold endN; split <;> simp
    · split
      · unfold bothN; split <;> simp
      · unfold bareN; split <;> simp
  · simp
theorem readN_len (h : List UInt8) (t : Bool) (c : UInt8) : (readN h t c).2.2.1.length ≤ 2 := by
  unfold readN
  split
  · split
    · simp
    · exact textN_len h
  · split
    · exact tagN_len h
    · split <;> simp
theorem stepN_len (s : St) (c : UInt8) : (stepN s c).2.length ≤ 2 := by
  unfold stepN
  split
  · exact readN_len _ _ _
  · simp
theorem feedN_len (l : List UInt8) : ∀ s, (feedN s l).2.length ≤ 2 * l.length := by
  induction l with
  | nil => intro s; simp [feedN]
  | cons c l ih =>
    intro s
    have h1 := stepN_len s c
    have h2 := ih (stepN s c).1
    simp only [feedN, List.length_append, List.length_cons]
    omega
theorem take_snoc (s : ByteArray) (k : Nat) (h : k < s.size) : s.data.toList.take (k + 1) = s.data.toList.take k ++ [s[k]] := by
  rw [List.take_succ_eq_append_getElem (by simpa using h)]
  rfl
theorem tok_one {B : Nat} {w : World} : ∀ {l : List Tok} {xs : List Value}, TokCells B w l xs → ∀ u ∈ xs, u.oneCell' = true
  | [], xs, h => by rw [show xs = [] from h]; simp
  | t :: ts, xs, h => by
    obtain ⟨v, ys, rfl, h1, h2⟩ := h
    intro u hu
    obtain ⟨ao, cap, rfl⟩ := owns_shape h1
    simp at hu
    rcases hu with rfl | rfl | rfl | rfl | hu
    · rfl
    · rfl
    · rfl
    · rfl
    · exact tok_one h2 u hu
theorem toks_grown {B : Nat} {v v' : Value} {l m : List Tok} {xs ys : List Value} {w w' : World} (ho : w.ownsRow B 73 4 v l.length xs) (hc : TokCells B w l xs) (hc2 : TokCells B w m ys)
    (hown : w'.ownsRow B 73 4 v' (l.length + m.length) (xs ++ ys)) (hg : w.grownBy w' v.ownBlock) : ToksAt 73 B v' (l ++ m) w' := by
  refine ⟨xs ++ ys, by rw [List.length_append]; exact hown, ?_⟩
  exact (hc.mono (Nat.le_refl _) fun _ _ k => owns_grown k hg ho (by decide)).app (hc2.mono (Nat.le_refl _) fun _ _ k => owns_grown k hg ho (by decide))
/-- The reader stays while a row of tokens grows. -/
theorem rdr_grown {B B' r : Nat} {h : List UInt8} {t : Bool} {e : Int} {w w' : World} {v : Value} {n : Nat} {xs : List Value} (k : RdrAt B r h t e w) (ho : w.ownsRow B' 73 4 v n xs) (hg : w.grownBy w' v.ownBlock) : RdrAt B r h t e w' := by
  obtain ⟨ao, m, cap, k1, k2⟩ := k.at_
  refine ⟨k.base, ao, m, cap, ?_, owns_grown k2 hg ho (by decide)⟩
  rw [hg.block r (lt_of_heap k1) ?_]
  · exact k1
  · intro eq
    rcases ho.2 with ⟨q1, _⟩ | ⟨g, _, cur, q1, _, q3, _⟩
    · rw [q1] at eq
      simp [Value.ownBlock] at eq
    · rw [q1] at eq
      simp [Value.ownBlock] at eq
      subst eq
      rw [k1] at q3
      have := (Obj.cells.inj (Option.some.inj q3)).2.1
      simp at this
theorem tokRes_below {B : Nat} {l : List Tok} {c : Int} {e : Ending} {w w' : World} (h : TokRes B l c e w) (hb : Below w.heap.size w w') : TokRes B l c e w' := by
  obtain ⟨ao, n, cap, h1, h2⟩ := h
  exact ⟨ao, n, cap, h1, h2.below hb⟩
theorem rdr_drew {B r : Nat} {h : List UInt8} {t : Bool} {e : Int} {w : World} (k : RdrAt B r h t e w) (n : Nat) : RdrAt B r h t e (w.drewN n) := k.below (Below.drewN (Below.refl _ _) n)
/-- A reader whose error is told: nothing is held. -/
theorem rdr_fail {B r : Nat} {h : List UInt8} {t : Bool} {e : Int} {w : World} (k : RdrAt B r h t e w) (u : Int) : RdrAt B r [] t u ((w.setCell ⟨r, 0, none⟩ (.slice none 0 0)).setCell ⟨r, 2, none⟩ (.int .i64 u)) := by
  obtain ⟨ao, m, cap, k1, _⟩ := k.at_
  exact ⟨k.base, none, 0, 0, rdr_put2 u (rdr_put _ k1), World.ownsRow_nil _ _ _ _⟩
def FeedRes (B r : Nat) (w : World) (q : St × List Tok) (e : Ending) (w' : World) : Prop :=
  TokRes w.heap.size q.2 q.1.err e w' ∧ RdrAt B r q.1.held q.1.tag q.1.err w' ∧ Fr B r w w'
set_option maxHeartbeats 4000000 in
set_option maxRecDepth 100000 in
theorem feed_any (B r : Nat) (S : St) (s : ByteArray) (w : World) (k : RdrAt B r S.held S.tag S.err w) (hO : Ok S) (hT : Tabs w) (hB3 : 3 ≤ B) (hs : s.size ≤ 2000000) :
    Calls Tryz.prog 30 #[.pointer (some ⟨r, 0, none⟩), .string s] w fun e w' => FeedRes B r w (feedN S s.data.toList) e w' := by
  have hBr := k.base
  obtain ⟨cs0, k0⟩ := k.block
  have hBw : B ≤ w.heap.size := by have := lt_of_heap k0; omega
  have K : Hid _ := k
  clear k k0
  obtain ⟨i0, hi, hz0, hz1, hz2⟩ := info_parts info44
  go_enter Tryz.func30, Tryz.ntmps30
  go_wp2
  go_loopw [6, 7] (fun v i wr => ∃ (j : Nat) (ao : Option Addr) (n cap : Nat), j ≤ s.size ∧ i = .int .i64 j ∧ v = .slice ao n cap ∧ ToksAt 73 w.heap.size (.slice ao n cap) (feedN S (s.data.toList.take j)).2 wr ∧
      RdrAt B r (feedN S (s.data.toList.take j)).1.held (feedN S (s.data.toList.take j)).1.tag (feedN S (s.data.toList.take j)).1.err wr ∧ Fr B r w wr) (fun _ i _ => s.size - (intOf i).toNat)
  case atStart => exact ⟨0, none, 0, 0, Nat.zero_le _, rfl, rfl, ToksAt.nil _ _ _, K.out, Fr.refl _ _ _⟩
  case round =>
    obtain ⟨j, ao, n, cap, hj, rfl, rfl, htk, hrd, hfr⟩ := hrel
    have hOj := ok_feed (s.data.toList.take j) S hO
    have hlen := feedN_len (s.data.toList.take j) S
    have hlt2 : (s.data.toList.take j).length ≤ j := List.length_take_le _ _
    obtain ⟨⟨⟨h, t, e⟩, tk⟩, hP⟩ : ∃ p, feedN S (s.data.toList.take j) = p := ⟨_, rfl⟩
    rw [hP] at htk hrd hOj hlen
    simp only at htk hrd hlen
    have HP : Hid _ := hP
    clear hP
    obtain ⟨aoh, caph, c0, c1, c2, fz, _, _⟩ := rdr_cells hrd
    have fin : ∀ nq, feedN S s.data.toList = (⟨h, t, e⟩, tk) → FeedRes B r w (feedN S s.data.toList) (.returned (.tuple #[.slice ao n cap, .int .i64 e])) (wr.drewN nq) := fun nq hq => by
      rw [hq]
      exact ⟨⟨ao, n, cap, rfl, htk.below (Below.drewN (Below.refl _ _) nq)⟩, rdr_drew hrd nq, hfr.later hBw (Below.drewN (Below.refl _ _) nq)⟩
    have FIN : Hid _ := fin
    clear fin
    by_cases hlt : j < s.size
    · by_cases he : e = 0
      · subst he
        have hTj := hT.below hB3 hfr.1
        have H1 := read_any B r h t 0 (s[j]'hlt) wr hrd hTj hB3 hOj.held
        obtain ⟨⟨h', t', tk', e'⟩, hq⟩ : ∃ q, readN h t (s[j]'hlt) = q := ⟨_, rfl⟩
        rw [hq] at H1
        have hF : feedN S (s.data.toList.take (j + 1)) = (⟨if e' = 0 then h' else [], t', e'⟩, tk ++ tk') := by
          rw [take_snoc s j hlt, feedN_snoc, HP.out]
          simp only [stepN, hq, if_true]
        have HF : Hid _ := hF
        have HQ : Hid _ := hq
        clear hF hq FIN hTj
        obtain ⟨csr, kr⟩ := hrd.block
        have hszr := hfr.1.size
        go_wp2_with (go_at_call 41; refine H1.mono ?_)
        rintro e w1 ⟨⟨ao2, n2, cap2, rfl, htk2⟩, hrd2, hfr2⟩
        have htA1 := htk.fr (by decide) hfr2 kr (by decide) (by decide)
        have htB1 := htk2.base hszr
        have hfr1 := hfr.trans hfr2
        obtain ⟨cs1, kr1⟩ := hrd2.block
        obtain ⟨aoh2, caph2, d0, d1, d2, fz2, _, _⟩ := rdr_cells hrd2
        clear H1 c0 c1 c2 fz htk htk2 hfr hfr2 hrd kr
        by_cases he : e' = 0
        · subst he
          have htA := htA1
          have htB := htB1
          have hfrA := hfr1
          have hrdA : RdrAt B r (if (0 : Int) = 0 then h' else []) t' 0 w1 := hrd2
          clear htA1 htB1 hfr1 hrd2
          obtain ⟨xs, hox, hcx⟩ := htA
          obtain ⟨ys, hoy, hcy⟩ := htB
          have hn2 : Hid _ := owns_n hoy
          have hl2 : n2 ≤ 2 := by have := readN_len h t (s[j]'hlt); rw [HQ.out] at this; rw [hn2.out]; exact this
          rcases hoy.2 with ⟨q1, q2⟩ | ⟨g2, cap3, cur2, q1, _⟩
          · obtain ⟨rfl, rfl, rfl⟩ := Value.slice.inj q1
            have htk0 : tk' = [] := List.eq_nil_of_length_eq_zero q2
            have HT0 : Hid _ := htk0
            have HX : Hid (ToksAt 73 w.heap.size (.slice ao n cap) tk w1) := ⟨xs, hox, hcx⟩
            have HOX : Hid _ := hox
            clear hcx hcy hoy q1 q2 htk0 hox
            go_wp2_with (at_builtin; refine wpList_append_own_none rfl (.tmp 42) (.tmp 43) 66 rfl w.heap.size 73 i0 4 Tryz.underlying66 hi _ _ _ rfl HOX.out rfl ?_)
            go_roundw
            case rel =>
              refine ⟨j + 1, ao, n, cap, by omega, by go_num, rfl, ?_, ?_, hfrA⟩
              · rw [HF.out]; simp only [HT0.out, List.append_nil]; exact HX.out
              · rw [HF.out]; exact hrdA
            case measure => simp [intOf]; omega
          · obtain ⟨rfl, rfl, rfl⟩ := Value.slice.inj q1
            have hnews : ∀ i u, ys[i]? = some u → w1.cell? ((⟨g2, 0, none⟩ : Addr).add i) = some u := fun i u hu => World.ownsRow.cells hoy rfl i u hu
            have HOX : Hid _ := hox
            have HCX : Hid _ := hcx
            have HCY : Hid _ := hcy
            have HNW : Hid _ := hnews
            have hyl : ys.length = tk'.length * 4 := hcy.length
            have HYL : Hid _ := hyl
            clear hcx hcy hoy q1 hox hnews hyl
            go_wp2_with (at_builtin; refine wpList_append_own _ rfl (.tmp 42) (.tmp 43) 66 rfl w.heap.size 73 i0 _ 4 64 Tryz.underlying66 hi hz0 hz1 hz2 rfl (by decide) _ _ _ rfl HOX.out ⟨g2, 0, none⟩ tk'.length cap2 ys rfl HYL.out HNW.out (tok_one HCY.out) ?a3 ?a4 ?a5 ?_)
            case a3 => unfold maxLen; omega
            case a4 => omega
            case a5 => exact hfrA.1.size
            intro v' w3 hown' hgrow _
            obtain ⟨ao', cap', rfl⟩ := owns_shape hown'
            have HT3 : Hid _ := toks_grown HOX.out HCX.out HCY.out hown' hgrow
            have HR3 : Hid _ := rdr_grown hrdA HOX.out hgrow
            have HF3 : Hid (Fr B r w w3) := hfrA.later hBw ((Below.refl w.heap.size w1).grown hgrow hfrA.1.size (owns_lt HOX.out))
            clear hown' hgrow
            go_wp2
            go_roundw
            case rel =>
              refine ⟨j + 1, ao', _, cap', by omega, by go_num, rfl, ?_, ?_, HF3.out⟩
              · rw [HF.out]; exact HT3.out
              · rw [HF.out]; exact HR3.out
            case measure => simp [intOf]; omega
        · have he' : (e' == 0) = false := by simpa using he
          have g1 := fr_set B r w1 0 (.slice none 0 0) hBr
          have g2 := g1.trans (fr_set B r _ 2 (.int .i64 e') hBr)
          have hfrA := hfr1.trans g2
          have htA := htA1.fr (by decide) g2 kr1 (by decide) (by decide)
          have htB := htB1.fr (by decide) g2 kr1 (by decide) (by decide)
          have hrdA : RdrAt B r (if e' = 0 then h' else []) t' e' ((w1.setCell ⟨r, 0, none⟩ (.slice none 0 0)).setCell ⟨r, 2, none⟩ (.int .i64 e')) := by rw [if_neg he]; exact rdr_fail hrd2 e'
          clear htA1 htB1 hfr1 g1 g2 hrd2 he
          obtain ⟨xs, hox, hcx⟩ := htA
          obtain ⟨ys, hoy, hcy⟩ := htB
          have hn2 : Hid _ := owns_n hoy
          have hl2 : n2 ≤ 2 := by have := readN_len h t (s[j]'hlt); rw [HQ.out] at this; rw [hn2.out]; exact this
          rcases hoy.2 with ⟨q1, q2⟩ | ⟨g2, cap3, cur2, q1, _⟩
          · obtain ⟨rfl, rfl, rfl⟩ := Value.slice.inj q1
            have htk0 : tk' = [] := List.eq_nil_of_length_eq_zero q2
            have HT0 : Hid _ := htk0
            have HX : Hid (ToksAt 73 w.heap.size (.slice ao n cap) tk ((w1.setCell ⟨r, 0, none⟩ (.slice none 0 0)).setCell ⟨r, 2, none⟩ (.int .i64 e'))) := ⟨xs, hox, hcx⟩
            have HOX : Hid _ := hox
            clear hcx hcy hoy q1 q2 htk0 hox
            go_wp2_with (at_builtin; refine wpList_append_own_none rfl (.tmp 42) (.tmp 43) 66 rfl w.heap.size 73 i0 4 Tryz.underlying66 hi _ _ _ rfl HOX.out rfl ?_)
            go_roundw
            case rel =>
              refine ⟨j + 1, ao, n, cap, by omega, by go_num, rfl, ?_, ?_, hfrA⟩
              · rw [HF.out]; simp only [HT0.out, List.append_nil]; exact HX.out
              · rw [HF.out]; exact hrdA
            case measure => simp [intOf]; omega
          · obtain ⟨rfl, rfl, rfl⟩ := Value.slice.inj q1
            have hnews : ∀ i u, ys[i]? = some u → ((w1.setCell ⟨r, 0, none⟩ (.slice none 0 0)).setCell ⟨r, 2, none⟩ (.int .i64 e')).cell? ((⟨g2, 0, none⟩ : Addr).add i) = some u := fun i u hu => World.ownsRow.cells hoy rfl i u hu
            have HOX : Hid _ := hox
            have HCX : Hid _ := hcx
            have HCY : Hid _ := hcy
            have HNW : Hid _ := hnews
            have hyl : ys.length = tk'.length * 4 := hcy.length
            have HYL : Hid _ := hyl
            clear hcx hcy hoy q1 hox hnews hyl
            go_wp2_with (at_builtin; refine wpList_append_own _ rfl (.tmp 42) (.tmp 43) 66 rfl w.heap.size 73 i0 _ 4 64 Tryz.underlying66 hi hz0 hz1 hz2 rfl (by decide) _ _ _ rfl HOX.out ⟨g2, 0, none⟩ tk'.length cap2 ys rfl HYL.out HNW.out (tok_one HCY.out) ?b3 ?b4 ?b5 ?_)
            case b3 => unfold maxLen; omega
            case b4 => omega
            case b5 => exact hfrA.1.size
            intro v' w3 hown' hgrow _
            obtain ⟨ao', cap', rfl⟩ := owns_shape hown'
            have HT3 : Hid _ := toks_grown HOX.out HCX.out HCY.out hown' hgrow
            have HR3 : Hid _ := rdr_grown hrdA HOX.out hgrow
            have HF3 : Hid (Fr B r w w3) := hfrA.later hBw ((Below.refl w.heap.size ((w1.setCell ⟨r, 0, none⟩ (.slice none 0 0)).setCell ⟨r, 2, none⟩ (.int .i64 e'))).grown hgrow hfrA.1.size (owns_lt HOX.out))
            clear hown' hgrow
            go_wp2
            go_roundw
            case rel =>
              refine ⟨j + 1, ao', _, cap', by omega, by go_num, rfl, ?_, ?_, HF3.out⟩
              · rw [HF.out]; exact HT3.out
              · rw [HF.out]; exact HR3.out
            case measure => simp [intOf]; omega
      · have he' : (e == 0) = false := by simpa using he
        have HE : Hid _ := he
        clear he
        go_wp2
        go_quiet (fail)
        go_wp2
        go_ret2
        refine FIN.out nq ?_
        have h2 := feedN_app (s.data.toList.take j) (s.data.toList.drop j) S
        rw [List.take_append_drop, HP.out, feedN_err _ _ (show (⟨h, t, e⟩ : St).err ≠ 0 from HE.out)] at h2
        simpa using h2
    · go_wp2
      go_quiet (fail)
      go_wp2
      go_ret2
      refine FIN.out nq ?_
      rw [← HP.out, List.take_of_length_le (by rw [← size_list]; omega)]
end Go.Proofs.YthekdgnikkjpdaaGreatDoor
/-
  The contracts of Feed at a literal answer, and at a reader that isn't there, over this program.
-/
namespace Go.Proofs.YthekdgnikkjpdaaGreatDoor
open Go.RowKit
set_option maxHeartbeats 400000 in
theorem feed_nil (s : ByteArray) (w : World) : Calls Tryz.prog 30 #[.pointer none, .string s] w fun e w' => e = .returned (.tuple #[.slice none 0 0, .int .i64 1]) ∧ w' = w := by
  go_enter Tryz.func30, Tryz.ntmps30
  go_wp2
  go_ret2
  exact ⟨rfl, rfl⟩
/-- Feed at a literal answer. -/
theorem feed_at (B r : Nat) (S S' : St) (l : List Tok) (s : ByteArray) (hS : feedN S s.data.toList = (S', l)) (w : World) (k : RdrAt B r S.held S.tag S.err w) (hO : Ok S) (hT : Tabs w) (hB3 : 3 ≤ B) (hs : s.size ≤ 2000000) :
    Calls Tryz.prog 30 #[.pointer (some ⟨r, 0, none⟩), .string s] w fun e w' => FeedRes B r w (S', l) e w' := by
  have h := feed_any B r S s w k hO hT hB3 hs
  rw [hS] at h
  exact h
end Go.Proofs.YthekdgnikkjpdaaGreatDoor
