/-
  The contract of fits over this program.
-/
import Derived.Test.YtmmkfpeckfmjeaaDoorTxd
namespace Go.Proofs.YtmmkfpeckfmjeaaDoor
open Go Go.RowKit Go.Maps Go.Sort
theorem fds_get {P : Nat → Prop} {w : World} : ∀ {l : List Fd} {xs : List Value} {j : Nat} {f : Fd}, FdsAt P w l xs → l[j]? = some f → xs[j * 3]? = some (.string ⟨f.nm.toArray⟩) ∧ (∃ v, xs[j * 3 + 1]? = some v ∧ TstAt P w v f.p) ∧ xs[j * 3 + 2]? = some (.bool f.must)
  | [], _, _, _, _, h => by simp at h
  | g :: r, _, 0, f, ⟨v, ys, e, h1, _⟩, h => by
    simp at h
    subst h e
    exact ⟨rfl, ⟨v, rfl, h1⟩, rfl⟩
  | g :: r, _, j + 1, f, ⟨v, ys, e, _, h2⟩, h => by
    subst e
    have := fds_get h2 (by simpa using h)
    have e : (j + 1) * 3 = j * 3 + 3 := by omega
    rw [e]
    exact this
theorem known_drop {l : List (List UInt8 × List UInt8)} {fs : List Fd} {j : Nat} {f : Fd} (h : fs[j]? = some f) : knownN l (fs.drop j) = (if (attrN l f.nm).isSome then 1 else 0) + knownN l (fs.drop (j + 1)) := by
  obtain ⟨a, rfl⟩ := List.getElem?_eq_some_iff.1 h
  rw [List.drop_eq_getElem_cons a]
  rfl
theorem all_drop {l : List (List UInt8 × List UInt8)} {fs : List Fd} {j : Nat} {f : Fd} (h : fs[j]? = some f) : (fs.drop j).all (fdOk l) = (fdOk l f && (fs.drop (j + 1)).all (fdOk l)) := by
  obtain ⟨a, rfl⟩ := List.getElem?_eq_some_iff.1 h
  rw [List.drop_eq_getElem_cons a]
  rfl
/-- Two blocks: a shape's cells and an element's. -/
def Bx (B : Nat) (v0 v1 v2 e0 e1 e2 e3 : Value) (w : World) : Prop := w.cell? ⟨B, 0, none⟩ = some v0 ∧ w.cell? ⟨B, 1, none⟩ = some v1 ∧ w.cell? ⟨B, 2, none⟩ = some v2 ∧ w.cell? ⟨B + 1, 0, none⟩ = some e0 ∧ w.cell? ⟨B + 1, 1, none⟩ = some e1 ∧ w.cell? ⟨B + 1, 2, none⟩ = some e2 ∧ w.cell? ⟨B + 1, 3, none⟩ = some e3 ∧ B + 2 ≤ w.heap.size
theorem Bx.below {B : Nat} {v0 v1 v2 e0 e1 e2 e3 : Value} {w w' : World} (h : Bx B v0 v1 v2 e0 e1 e2 e3 w) (hb : RowKit.Below w.heap.size w w') : Bx B v0 v1 v2 e0 e1 e2 e3 w' := by
  obtain ⟨a0, a1, a2, b0, b1, b2, b3, hs⟩ := h
  have k : ∀ j, (⟨B, j, none⟩ : Addr).block < w.heap.size := fun j => by show B < _; omega
  have k' : ∀ j, (⟨B + 1, j, none⟩ : Addr).block < w.heap.size := fun j => by show B + 1 < _; omega
  exact ⟨(hb.cell (k _)).trans a0, (hb.cell (k _)).trans a1, (hb.cell (k _)).trans a2, (hb.cell (k' _)).trans b0, (hb.cell (k' _)).trans b1, (hb.cell (k' _)).trans b2, (hb.cell (k' _)).trans b3, Nat.le_trans hs hb.size⟩
theorem Bx.mk (w : World) (v0 v1 v2 e0 e1 e2 e3 : Value) (T T' : Nat) : Bx w.heap.size v0 v1 v2 e0 e1 e2 e3 ((w.alloc (.cells #[v0, v1, v2] T)).alloc (.cells #[e0, e1, e2, e3] T')) := by
  have e : (w.alloc (.cells #[v0, v1, v2] T)).heap.size = w.heap.size + 1 := by simp
  refine ⟨cell_old _ (cell_new w _ _ 0 _ rfl), cell_old _ (cell_new w _ _ 1 _ rfl), cell_old _ (cell_new w _ _ 2 _ rfl), ?_, ?_, ?_, ?_, by simp⟩
  · rw [← e]; exact cell_new _ _ _ 0 _ rfl
  · rw [← e]; exact cell_new _ _ _ 1 _ rfl
  · rw [← e]; exact cell_new _ _ _ 2 _ rfl
  · rw [← e]; exact cell_new _ _ _ 3 _ rfl
set_option maxHeartbeats 4000000 in
set_option maxRecDepth 100000 in
theorem fits_any {P P' : Nat → Prop} (s : Nst) (ao : Option Addr) (n cp F : Nat) (cap : Array Value) (x : El) (a b c d : Value) (w : World) (hF : FRow P' w (.slice ao n cp) s.fds) (hT : TstAt P' w (.func (.func F) #[] cap) s.text) (h1 : ElE P w x a b c d) (hz : szE 1 x) (hV : Va w) (hfl : s.fds.length ≤ 100) :
    Calls Tryd.prog 45 #[.agg #[.string ⟨s.nm.toArray⟩, .slice ao n cp, .func (.func F) #[] cap], .agg #[a, b, c, d]] w fun e w' => e = .returned (.bool (fitsN s x)) ∧ Below w.heap.size w w' := by
  have HC : Hid (∀ W, Below w.heap.size w W → (∀ args W', (callFunc F args).run Tryd.prog W' = .ok (.enter F args) W') ∧ Calls Tryd.prog F (#[.string ⟨x.text.toArray⟩] ++ cap) W fun e w' => e = .returned (.bool (s.text x.text)) ∧ Below W.heap.size W w') := fun W hb =>
    tst_call (hT.step (Stp.below hb)) (hV.below hb) _ hz.2.2.1
  have hE := (HC.out w (Below.refl _ _)).1
  have HAT : Hid (∀ W, Below w.heap.size w W → ∀ nm, Calls Tryd.prog 61 #[.agg #[a, b, c, d], .string ⟨nm.toArray⟩] W fun e w' => e = .returned (.tuple #[.string (atV (attrN x.attrs nm)), .bool (attrN x.attrs nm).isSome]) ∧ Below W.heap.size W w') := fun W hb nm => attr_any x nm a b c d W (h1.below hb) hz.1 _ _ rfl rfl
  obtain ⟨ao1, cap1, ao2, cap2, rfl, rfl⟩ := h1.shape
  obtain ⟨rfl, _, rfl, _⟩ := h1.parts
  obtain ⟨xs, hrow, hfds⟩ := hF
  have hn0 : n = s.fds.length := by
    obtain ⟨_, _, e, _⟩ := hrow
    exact (Value.slice.inj e).2.1
  rw [← hn0] at hrow
  obtain ⟨s1, hs1⟩ : ∃ s1, (⟨x.nm.toArray⟩ : ByteArray) = s1 := ⟨_, rfl⟩
  obtain ⟨s2, hs2⟩ : ∃ s2, (⟨x.text.toArray⟩ : ByteArray) = s2 := ⟨_, rfl⟩
  obtain ⟨s0, hs0⟩ : ∃ s1, (⟨s.nm.toArray⟩ : ByteArray) = s1 := ⟨_, rfl⟩
  obtain ⟨n1, hn1⟩ : ∃ n1, x.attrs.length = n1 := ⟨_, rfl⟩
  obtain ⟨n2, hn2⟩ : ∃ n2, x.kids.length = n2 := ⟨_, rfl⟩
  unfold fitsN
  have h2b : Hid (∀ o1 o2, Below w.heap.size w ((w.alloc o1).alloc o2)) := fun o1 o2 => (bw0 w o1).alloc (by simp) o2
  cases hn : x.nm == s.nm with
  | false =>
    obtain ⟨e1, e2⟩ := bytes_neq2 hn
    rw [Bool.false_and]
    simp only [hs1, hs2, hn1, hn2, hs0] at e1 e2 ⊢
    clear h1 hT hn hs1 hs0 hs2 hn1 hn2 hz hV HC HAT hE hrow hfds hn0
    go_enter Tryd.func45, Tryd.ntmps45
    go_wp2_with fail
    go_ret
    exact ⟨rfl, h2b.out _ _⟩
  | true =>
    rw [Bool.true_and, bytes_eq hn]
    rw [bytes_eq hn] at HAT
    cases ht : s.text x.text with
    | false =>
      rw [ht] at HC
      simp only [hs2, hn1, hn2, hs0] at HC ⊢
      clear h1 hT hn hs1 hs0 hs2 hn1 hn2 hz hV HAT hrow hfds hn0
      go_enter Tryd.func45, Tryd.ntmps45
      go_wp2_with (refine (HC.out _ (h2b.out _ _)).2.mono ?_; rintro e w2 ⟨rfl, hb2⟩; have HB2 : Hid (Below w.heap.size w w2) := (h2b.out _ _).trans (hb2.mono (h2b.out _ _).size); clear hb2)
      go_ret
      exact ⟨rfl, HB2.out⟩
    | true =>
      rw [ht] at HC
      simp only [hs2, hn1, hn2, hs0] at HC HAT ⊢
      have HX : Hid (∀ W, Below w.heap.size w W → ∀ (j : Nat) (f : Fd), s.fds[j]? = some f → ∃ g off G gap, ao = some ⟨g, off, none⟩ ∧ W.cell? ⟨g, off + j * 3, none⟩ = some (.string ⟨f.nm.toArray⟩) ∧ W.cell? ⟨g, off + (j * 3 + 1), none⟩ = some (.func (.func G) #[] gap) ∧ W.cell? ⟨g, off + (j * 3 + 2), none⟩ = some (.bool f.must) ∧
          ∀ v, attrN x.attrs f.nm = some v → ∀ W, Below w.heap.size w W → (∀ args W', (callFunc G args).run Tryd.prog W' = .ok (.enter G args) W') ∧ Calls Tryd.prog G (#[.string ⟨v.toArray⟩] ++ gap) W fun e w' => e = .returned (.bool (f.p v)) ∧ Below W.heap.size W w') := fun W hb j f hf => by
        obtain ⟨k0, ⟨v, k1, kt⟩, k2⟩ := fds_get hfds hf
        obtain ⟨G, gap, rfl⟩ := kt.shape
        obtain ⟨g, off, rfl, hg, hcs⟩ := row_flat2 hrow k0
        refine ⟨g, off, G, gap, rfl, (hb.cell (p := ⟨g, off + j * 3, none⟩) hg).trans (hcs _ _ k0), (hb.cell (p := ⟨g, off + (j * 3 + 1), none⟩) hg).trans (hcs _ _ k1), (hb.cell (p := ⟨g, off + (j * 3 + 2), none⟩) hg).trans (hcs _ _ k2), fun u hu W hb => ?_⟩
        refine tst_call (kt.step (Stp.below hb)) (hV.below hb) u ?_
        have := val_len hz.2.1 f.nm
        unfold valN at this
        rw [hu] at this
        exact this
      obtain ⟨E, hEE⟩ : ∃ E, (s.fds.all (fdOk x.attrs) && (knownN x.attrs s.fds == n1)) = E := ⟨_, rfl⟩
      rw [Bool.true_and, hEE]
      have HEE : Hid _ := hEE
      have HN0 : Hid (n = s.fds.length) := hn0
      have hn100 : n ≤ 100 := by rw [hn0]; exact hfl
      have HBX := fun T T' => Bx.mk w (.string s0) (.slice ao n cp) (.func (.func F) #[] cap) (.string s0) (.slice ao1 n1 cap1) (.string s2) (.slice ao2 n2 cap2) T T'
      have HBX := Lib.hid HBX
      have HC := HC.out
      have HC := Lib.hid HC
      clear h1 hT hn hs1 hs0 hs2 hn1 hn2 hz hV hrow hfds hn0 ht hfl hEE
      go_enter Tryd.func45, Tryd.ntmps45
      go_wp2_with (refine (HC.out _ (h2b.out _ _)).2.mono ?_; rintro e w2 ⟨rfl, hb2⟩; have HB2 : Hid (Below w.heap.size w w2) := (h2b.out _ _).trans (hb2.mono (h2b.out _ _).size); have HX2 : Hid (Bx w.heap.size (.string s0) (.slice ao n cp) (.func (.func F) #[] cap) (.string s0) (.slice ao1 n1 cap1) (.string s2) (.slice ao2 n2 cap2) w2) := (HBX.out _ _).below hb2; clear hb2; obtain ⟨c0, c1, c2, b0, b1, b2, b3, _⟩ := HX2.out)
      clear c0 c1 c2 b0 b1 b2 b3
      go_loopw [5, 26] (fun kk i wr => ∃ j k : Nat, j ≤ n ∧ k ≤ j ∧ i = .int .i64 (j : Int) ∧ kk = .int .i64 (k : Int) ∧ Hid ((s.fds.drop j).all (fdOk x.attrs) = s.fds.all (fdOk x.attrs)) ∧ Hid (k + knownN x.attrs (s.fds.drop j) = knownN x.attrs s.fds) ∧ Hid (Below w.heap.size w wr) ∧ Hid (Bx w.heap.size (.string s0) (.slice ao n cp) (.func (.func F) #[] cap) (.string s0) (.slice ao1 n1 cap1) (.string s2) (.slice ao2 n2 cap2) wr)) (fun _ i _ => n - (intOf i).toNat)
      case atStart => exact ⟨0, 0, Nat.zero_le _, Nat.le_refl _, rfl, rfl, rfl, Nat.zero_add _, HB2, HX2⟩
      case round =>
        obtain ⟨j, k, hj, hk, rfl, rfl, HJ, HK, HBW, HXW⟩ := hrel
        obtain ⟨c0, c1, c2, b0, b1, b2, b3, hws⟩ := HXW.out
        by_cases hlt : j < n
        · have hj0 : (0 : Int) ≤ (j : Int) := by omega
          have hj1 : (j : Int) < (n : Int) := by omega
          obtain ⟨f, hf⟩ : ∃ f, s.fds[j]? = some f := ⟨_, List.getElem?_eq_getElem (by rw [← HN0.out]; exact hlt)⟩
          obtain ⟨g, off, G, gap, rfl, a0, a1, a2, HTT⟩ := HX.out _ HBW.out j f hf
          rw [← Nat.add_assoc] at a1 a2
          have hkd := known_drop (l := x.attrs) hf
          have had := all_drop (l := x.attrs) hf
          have HA := fun W hb => HAT.out W hb f.nm
          obtain ⟨q, hq⟩ : ∃ q, (⟨f.nm.toArray⟩ : ByteArray) = q := ⟨_, rfl⟩
          rw [hq] at a0 HA
          obtain ⟨M, hM⟩ : ∃ M, f.must = M := ⟨_, rfl⟩
          rw [hM] at a2
          have d0 := cell_new wr #[.string q, .func (.func G) #[] gap, .bool M] 70 0 _ rfl
          have d1 := cell_new wr #[.string q, .func (.func G) #[] gap, .bool M] 70 1 _ rfl
          have d2 := cell_new wr #[.string q, .func (.func G) #[] gap, .bool M] 70 2 _ rfl
          have hwo : (wr.alloc (Obj.cells #[.string q, .func (.func G) #[] gap, .bool M] 70)).heap.size = wr.heap.size + 1 := by simp
          have HBO : Hid (Below w.heap.size w (wr.alloc (Obj.cells #[.string q, .func (.func G) #[] gap, .bool M] 70))) := HBW.out.alloc HBW.out.size _
          have HXO : Hid (Bx _ _ _ _ _ _ _ _ (wr.alloc (Obj.cells #[.string q, .func (.func G) #[] gap, .bool M] 70))) := HXW.out.below (bw0 wr _)
          have HD : ∀ W2, Below (wr.alloc (Obj.cells #[.string q, .func (.func G) #[] gap, .bool M] 70)).heap.size (wr.alloc (Obj.cells #[.string q, .func (.func G) #[] gap, .bool M] 70)) W2 → W2.cell? ⟨wr.heap.size, 1, none⟩ = some (.func (.func G) #[] gap) ∧ W2.cell? ⟨wr.heap.size, 2, none⟩ = some (.bool M) := fun W2 hb => ⟨(hb.cell (p := ⟨wr.heap.size, 1, none⟩) (by rw [hwo]; exact Nat.lt_succ_self _)).trans d1, (hb.cell (p := ⟨wr.heap.size, 2, none⟩) (by rw [hwo]; exact Nat.lt_succ_self _)).trans d2⟩
          have HD := Lib.hid HD
          obtain ⟨x0, x1, x2, y0, y1, y2, y3, _⟩ := HXO.out
          cases hat : attrN x.attrs f.nm with
          | none =>
            rw [hat] at HA hkd
            have e1 : atV none = ⟨#[]⟩ := rfl
            simp only [e1, Option.isSome_none] at HA
            have HA := Lib.hid HA
            have HK2 : Hid (k + knownN x.attrs (s.fds.drop (j + 1)) = knownN x.attrs s.fds) := by
              show _ = _
              rw [← HK.out, hkd]
              simp
            cases M with
            | true =>
              have HJ2 : Hid (false = E) := by
                show _ = _
                rw [← HEE.out, ← HJ.out, had]
                unfold fdOk
                rw [hat]
                simp only
                rw [hM]
                rfl
              obtain rfl : false = E := HJ2.out
              clear HTT hf hkd had hat e1 hM hq
              go_wp2_with fail
              go_at_call 61
              refine (HA.out _ ?_).mono ?_
              exact HBO.out
              rintro e w3 ⟨rfl, hb3⟩
              have HB3 : Hid (Below w.heap.size w w3) := HBO.out.trans (hb3.mono HBO.out.size)
              have HX3 : Hid (Bx w.heap.size (.string s0) (.slice (some ⟨g, off, none⟩) n cp) (.func (.func F) #[] cap) (.string s0) (.slice ao1 n1 cap1) (.string s2) (.slice ao2 n2 cap2) w3) := HXO.out.below hb3
              have hd1 := (HD.out w3 hb3).1
              have hd2 := (HD.out w3 hb3).2
              have HL3 : Hid (wr.heap.size < w3.heap.size) := by (have := hb3.size; rw [hwo] at this; exact this)
              clear hb3
              go_wp2_with fail
              go_ret
              exact ⟨rfl, HB3.out⟩
            | false =>
              have HJ2 : Hid ((s.fds.drop (j + 1)).all (fdOk x.attrs) = s.fds.all (fdOk x.attrs)) := by
                show _ = _
                rw [← HJ.out, had]
                unfold fdOk
                rw [hat]
                simp only
                rw [hM]
                rfl
              clear HTT hf hkd had hat e1 hM hq
              go_wp2_with fail
              go_at_call 61
              refine (HA.out _ ?_).mono ?_
              exact HBO.out
              rintro e w3 ⟨rfl, hb3⟩
              have HB3 : Hid (Below w.heap.size w w3) := HBO.out.trans (hb3.mono HBO.out.size)
              have HX3 : Hid (Bx w.heap.size (.string s0) (.slice (some ⟨g, off, none⟩) n cp) (.func (.func F) #[] cap) (.string s0) (.slice ao1 n1 cap1) (.string s2) (.slice ao2 n2 cap2) w3) := HXO.out.below hb3
              have hd1 := (HD.out w3 hb3).1
              have hd2 := (HD.out w3 hb3).2
              have HL3 : Hid (wr.heap.size < w3.heap.size) := by (have := hb3.size; rw [hwo] at this; exact this)
              clear hb3
              go_wp2_with fail
              go_roundw
              case rel => exact ⟨j + 1, k, by omega, by omega, by go_num, rfl, HJ2, HK2, HB3, HX3⟩
              case measure => simp [intOf]; omega
          | some v =>
            rw [hat] at HA hkd
            obtain ⟨V, hVV⟩ : ∃ V, (⟨v.toArray⟩ : ByteArray) = V := ⟨_, rfl⟩
            have HT := HTT v hat
            have e1 : atV (some v) = V := hVV
            simp only [e1, Option.isSome_some] at HA
            rw [hVV] at HT
            have hE2 := (HT w (Below.refl _ _)).1
            have HT := Lib.hid HT
            have HA := Lib.hid HA
            cases hp : f.p v with
            | false =>
              rw [hp] at HT
              have HJ2 : Hid (false = E) := by
                show _ = _
                rw [← HEE.out, ← HJ.out, had]
                unfold fdOk
                rw [hat]
                simp only
                rw [hp]
                rfl
              obtain rfl : false = E := HJ2.out
              clear HTT hf hkd had hat hVV e1 hp hM hq
              go_wp2_with fail
              go_at_call 61
              refine (HA.out _ ?_).mono ?_
              exact HBO.out
              rintro e w3 ⟨rfl, hb3⟩
              have HB3 : Hid (Below w.heap.size w w3) := HBO.out.trans (hb3.mono HBO.out.size)
              have HX3 : Hid (Bx w.heap.size (.string s0) (.slice (some ⟨g, off, none⟩) n cp) (.func (.func F) #[] cap) (.string s0) (.slice ao1 n1 cap1) (.string s2) (.slice ao2 n2 cap2) w3) := HXO.out.below hb3
              have hd1 := (HD.out w3 hb3).1
              have hd2 := (HD.out w3 hb3).2
              have HL3 : Hid (wr.heap.size < w3.heap.size) := by (have := hb3.size; rw [hwo] at this; exact this)
              clear hb3
              go_wp2_with fail
              refine (HT.out _ ?_).2.mono ?_
              exact HB3.out
              rintro e w4 ⟨rfl, hb4⟩
              have HB4 : Hid (Below w.heap.size w w4) := HB3.out.trans (hb4.mono HB3.out.size)
              have HX4 : Hid (Bx w.heap.size (.string s0) (.slice (some ⟨g, off, none⟩) n cp) (.func (.func F) #[] cap) (.string s0) (.slice ao1 n1 cap1) (.string s2) (.slice ao2 n2 cap2) w4) := HX3.out.below hb4
              have hd3 := (hb4.cell (p := ⟨wr.heap.size, 2, none⟩) HL3.out).trans hd2
              clear hb4
              go_wp2_with fail
              go_ret
              exact ⟨rfl, HB4.out⟩
            | true =>
              rw [hp] at HT
              have HJ2 : Hid ((s.fds.drop (j + 1)).all (fdOk x.attrs) = s.fds.all (fdOk x.attrs)) := by
                show _ = _
                rw [← HJ.out, had]
                unfold fdOk
                rw [hat]
                simp only
                rw [hp]
                rfl
              have HK2 : Hid (k + 1 + knownN x.attrs (s.fds.drop (j + 1)) = knownN x.attrs s.fds) := by
                show _ = _
                rw [← HK.out, hkd]
                simp
                omega
              clear HTT hf hkd had hat hVV e1 hp hM hq
              cases M
              all_goals (
                go_wp2_with fail
                go_at_call 61
                refine (HA.out _ ?_).mono ?_
                exact HBO.out
                rintro e w3 ⟨rfl, hb3⟩
                have HB3 : Hid (Below w.heap.size w w3) := HBO.out.trans (hb3.mono HBO.out.size)
                have HX3 : Hid (Bx w.heap.size (.string s0) (.slice (some ⟨g, off, none⟩) n cp) (.func (.func F) #[] cap) (.string s0) (.slice ao1 n1 cap1) (.string s2) (.slice ao2 n2 cap2) w3) := HXO.out.below hb3
                have hd1 := (HD.out w3 hb3).1
                have hd2 := (HD.out w3 hb3).2
                have HL3 : Hid (wr.heap.size < w3.heap.size) := by (have := hb3.size; rw [hwo] at this; exact this)
                clear hb3
                go_wp2_with fail
                refine (HT.out _ ?_).2.mono ?_
                exact HB3.out
                rintro e w4 ⟨rfl, hb4⟩
                have HB4 : Hid (Below w.heap.size w w4) := HB3.out.trans (hb4.mono HB3.out.size)
                have HX4 : Hid (Bx w.heap.size (.string s0) (.slice (some ⟨g, off, none⟩) n cp) (.func (.func F) #[] cap) (.string s0) (.slice ao1 n1 cap1) (.string s2) (.slice ao2 n2 cap2) w4) := HX3.out.below hb4
                have hd3 := (hb4.cell (p := ⟨wr.heap.size, 2, none⟩) HL3.out).trans hd2
                clear hb4
                go_wp2_with fail
                go_roundw
                case rel => exact ⟨j + 1, k + 1, by omega, by omega, by go_num, by go_num, HJ2, HK2, HB4, HX4⟩
                case measure => simp [intOf]; omega)
        · have hj1 : ¬ (j : Int) < (n : Int) := by omega
          have hdr : s.fds.drop j = [] := List.drop_of_length_le (by rw [← HN0.out]; omega)
          have HJ2 : Hid (((k : Int) == (n1 : Int)) = E) := by
            show _ = _
            rw [← HEE.out, ← HJ.out, ← HK.out, hdr]
            show _ = (true && (k == n1))
            rw [Bool.true_and]
            by_cases hkn : k = n1
            · subst hkn; simp
            · have h1 : ((k : Int) == (n1 : Int)) = false := by rw [beq_eq_false_iff_ne]; omega
              rw [h1, beq_eq_false_iff_ne.2 hkn]
          clear hdr
          go_wp2_with fail
          go_ret
          exact ⟨by show Ending.returned (.bool ((k : Int) == (n1 : Int))) = _; rw [HJ2.out], HBW.out⟩
end Go.Proofs.YtmmkfpeckfmjeaaDoor
