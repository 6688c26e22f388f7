/-
  The contract of tidewaterref03.blank over this program.
-/
import Derived.Test.YthekdgnikkjpdaaDoorSamc
import Derived.Test.YthekdgnikkjpdaaDoorRefq
namespace Go.Proofs.YthekdgnikkjpdaaDoor
open Go Go.RowKit
theorem beq_noR {a b : Int} (h : ¬ a = b) : (a == b) = false := by simpa using h
set_option maxHeartbeats 1000000 in
theorem refBlankT_any (s : ByteArray) (w : World) (hs : s.size ≤ 9223372036854775806) : Calls Tryd.prog 23 #[.string s] w fun e w' => e = .returned (.bool (blankT s.data.toList)) ∧ w' = w := by
  have hsz : s.data.toList.length = s.size := Array.length_toList
  have HSZ : Hid _ := hsz
  clear hsz
  obtain ⟨r, hr⟩ : ∃ r, blankT s.data.toList = r := ⟨_, rfl⟩
  rw [hr]
  have HR : Hid _ := hr
  clear hr
  go_enter Tryd.func23, Tryd.ntmps23
  go_wp2
  go_loop [3] (fun i => ∃ k : Nat, k ≤ s.size ∧ i = .int .i64 k ∧ (s.data.toList.take k).all bl = true) (fun i => s.size - (intOf i).toNat)
  case atStart => exact ⟨0, Nat.zero_le _, rfl, by simp⟩
  case round =>
    obtain ⟨k, hk, rfl, hb⟩ := hrel
    have HB : Hid _ := hb
    clear hb
    by_cases hlt : k < s.size
    · have hget : s.data.toList[k]? = some (s[k]'hlt) := by
        rw [List.getElem?_eq_getElem (by rw [HSZ.out]; exact hlt)]
        rfl
      have HG : Hid _ := hget
      have hlt' : (k : Int) < (s.size : Int) := by omega
      have hk0 : (0 : Int) ≤ (k : Int) := by omega
      clear hget
      cases hc : bl (s[k]'hlt) with
      | true =>
        have HN : Hid ((s.data.toList.take (k + 1)).all bl = true) := by
          show _ = _
          rw [List.take_add_one, HG.out, List.all_append, HB.out]
          simp [hc]
        have h4 : s[k] = 32 ∨ s[k] = 9 ∨ s[k] = 10 ∨ s[k] = 13 := by simpa [bl] using hc
        clear hc
        rcases h4 with h4 | h4 | h4 | h4
        · have hcc : ((s[k]'hlt).toNat : Int) = 32 := by rw [h4]; rfl
          clear h4
          go_wp2
          go_round
          case rel => exact ⟨k + 1, by omega, by go_num, HN.out⟩
          case measure => simp [intOf]; omega
        · have hcc : ((s[k]'hlt).toNat : Int) = 9 := by rw [h4]; rfl
          clear h4
          go_wp2
          go_round
          case rel => exact ⟨k + 1, by omega, by go_num, HN.out⟩
          case measure => simp [intOf]; omega
        · have hcc : ((s[k]'hlt).toNat : Int) = 10 := by rw [h4]; rfl
          clear h4
          go_wp2
          go_round
          case rel => exact ⟨k + 1, by omega, by go_num, HN.out⟩
          case measure => simp [intOf]; omega
        · have hcc : ((s[k]'hlt).toNat : Int) = 13 := by rw [h4]; rfl
          clear h4
          go_wp2
          go_round
          case rel => exact ⟨k + 1, by omega, by go_num, HN.out⟩
          case measure => simp [intOf]; omega
      | false =>
        have h4 : ¬ ((s[k]'hlt).toNat : Int) = 32 ∧ ¬ ((s[k]'hlt).toNat : Int) = 9 ∧ ¬ ((s[k]'hlt).toNat : Int) = 10 ∧ ¬ ((s[k]'hlt).toNat : Int) = 13 := by
          simp [bl, ← UInt8.toNat_inj] at hc
          omega
        have HF : Hid (r = false) := by
          show _ = _
          rw [← HR.out]
          unfold blankT
          rw [List.all_eq_false]
          exact ⟨_, List.mem_of_getElem? HG.out, by simp [hc]⟩
        obtain ⟨c, hcc⟩ : ∃ c : Int, ((s[k]'hlt).toNat : Int) = c := ⟨_, rfl⟩
        rw [hcc] at h4
        obtain ⟨n1, n2, n3, n4⟩ := h4
        have t0 := beq_noR n1
        have t1 := beq_noR n2
        have t2 := beq_noR n3
        have t3 := beq_noR n4
        have u0 : (c != 32) = true := by simp [n1]
        have u1 : (c != 9) = true := by simp [n2]
        have u2 : (c != 10) = true := by simp [n3]
        have u3 : (c != 13) = true := by simp [n4]
        clear hc
        go_wp2
        go_ret
        exact ⟨by rw [HF.out]; rfl, rfl⟩
    · have hnl : ¬ (k : Int) < (s.size : Int) := by omega
      have HT : Hid (r = true) := by
        show _ = _
        rw [← HR.out]
        have := HB.out
        rw [List.take_of_length_le (by rw [HSZ.out]; omega)] at this
        exact this
      go_wp2
      go_ret
      exact ⟨by rw [HT.out]; rfl, rfl⟩
end Go.Proofs.YthekdgnikkjpdaaDoor
/-
  The contract of tidewaterref03.open over this program.
-/
namespace Go.Proofs.YthekdgnikkjpdaaDoor
open Go Go.RowKit
/-- An element that a call answers: as it lies in an earlier world. -/
def ElRes (P : Nat → Prop) (w : World) (e : El) (r : Ending) : Prop := ∃ a b c d, r = .returned (.agg #[a, b, c, d]) ∧ ElE P w e a b c d
/-- There is an open element so deep. -/
def okD : El → Nat → Prop
  | _, 0 => True
  | _, 1 => True
  | e, d + 2 => e.kids ≠ [] ∧ e.kids.length ≤ 1000 ∧ okD (lastE e.kids) (d + 1)
theorem last_get (l : List El) (h : l ≠ []) : l[l.length - 1]? = some (lastE l) := by
  unfold lastE
  rw [List.getLastD_eq_getLast?, List.getLast?_eq_getElem?]
  cases hx : l[l.length - 1]? with
  | none =>
    rw [List.getElem?_eq_none_iff] at hx
    have := List.length_pos_iff.2 h
    omega
  | some e => rfl
set_option maxHeartbeats 1000000 in
set_option maxRecDepth 100000 in
theorem refOpen_any {P : Nat → Prop} (d : Nat) (e : El) (a b c dd : Value) (w : World) (hok : okD e d) (hd : 1 ≤ d) (hd4 : d ≤ 100) (hel : ElE P w e a b c dd) :
    Calls Tryd.prog 25 #[.agg #[a, b, c, dd], .int .i64 (d : Int)] w fun r w' => ElRes P w (openD e d) r ∧ Below w.heap.size w w' := by
  obtain ⟨ao1, cap1, ao2, cap2, rfl, rfl⟩ := hel.shape
  obtain ⟨rfl, _, rfl, _⟩ := hel.parts
  obtain ⟨x, hx⟩ : ∃ x, openD e d = x := ⟨_, rfl⟩
  have HX : Hid _ := hx
  have HEL : Hid (ElE P w e _ _ _ _) := hel
  have HOK : Hid _ := hok
  rw [hx]
  obtain ⟨n1, hn1⟩ : ∃ n1, e.attrs.length = n1 := ⟨_, rfl⟩
  obtain ⟨n2, hn2⟩ : ∃ n2, e.kids.length = n2 := ⟨_, rfl⟩
  obtain ⟨s1, hs1⟩ : ∃ s1, (⟨e.nm.toArray⟩ : ByteArray) = s1 := ⟨_, rfl⟩
  obtain ⟨s2, hs2⟩ : ∃ s2, (⟨e.text.toArray⟩ : ByteArray) = s2 := ⟨_, rfl⟩
  rw [hn1, hn2, hs1, hs2] at HEL ⊢
  clear hel hok hx hn1 hn2 hs1 hs2
  go_enter Tryd.func25, Tryd.ntmps25
  go_wp2_with fail
  obtain ⟨B, hB⟩ : ∃ B, w.heap.size = B := ⟨_, rfl⟩
  have HBz : Hid (w.heap.size = B) := hB
  have hst1 : At B #[.string s1, .slice ao1 n1 cap1, .string s2, .slice ao2 n2 cap2] 32 ((w.alloc (.cells #[.string s1, .slice ao1 n1 cap1, .string s2, .slice ao2 n2 cap2] 32)).alloc (.cells #[.string ⟨#[]⟩, .slice none 0 0, .string ⟨#[]⟩, .slice none 0 0] 32)) := by
    rw [← hB]; exact At.alloc (heap_alloc_new w _) _
  have hst2 : At (B + 1) #[.string ⟨#[]⟩, .slice none 0 0, .string ⟨#[]⟩, .slice none 0 0] 32 ((w.alloc (.cells #[.string s1, .slice ao1 n1 cap1, .string s2, .slice ao2 n2 cap2] 32)).alloc (.cells #[.string ⟨#[]⟩, .slice none 0 0, .string ⟨#[]⟩, .slice none 0 0] 32)) := by
    have := heap_alloc_new (w.alloc (.cells #[.string s1, .slice ao1 n1 cap1, .string s2, .slice ao2 n2 cap2] 32)) (.cells #[.string ⟨#[]⟩, .slice none 0 0, .string ⟨#[]⟩, .slice none 0 0] 32)
    simp only [World.size_alloc] at this
    rw [← hB]; exact this
  have hst3 : Below B w ((w.alloc (.cells #[.string s1, .slice ao1 n1 cap1, .string s2, .slice ao2 n2 cap2] 32)).alloc (.cells #[.string ⟨#[]⟩, .slice none 0 0, .string ⟨#[]⟩, .slice none 0 0] 32)) := by
    rw [← hB]; exact ((Below.refl _ _).alloc (Nat.le_refl _) _).alloc (by simp) _
  have S1 : Hid _ := hst1
  have S2 : Hid _ := hst2
  have S3 : Hid (Below _ _ _) := hst3
  clear hst1 hst2 hst3
  generalize ((w.alloc (.cells #[.string s1, .slice ao1 n1 cap1, .string s2, .slice ao2 n2 cap2] 32)).alloc (.cells #[.string ⟨#[]⟩, .slice none 0 0, .string ⟨#[]⟩, .slice none 0 0] 32)) = w0 at *
  rw [hB]
  clear hB
  go_loopw [1] (fun v wr => ∃ (k : Nat) (y : El) (t1 t2 : ByteArray) (p1 p2 : Option Addr) (m1 m2 q1 q2 : Nat), 1 ≤ k ∧ k ≤ d ∧ v = .int .i64 (k : Int) ∧ okD y k ∧ openD y k = x ∧ ElE P w y (.string t1) (.slice p1 m1 q1) (.string t2) (.slice p2 m2 q2) ∧
      At B #[.string t1, .slice p1 m1 q1, .string t2, .slice p2 m2 q2] 32 wr ∧ At (B + 1) #[.string ⟨#[]⟩, .slice none 0 0, .string ⟨#[]⟩, .slice none 0 0] 32 wr ∧ Below B w wr) (fun v _ => (intOf v).toNat)
  case atStart => exact ⟨d, e, s1, s2, ao1, ao2, n1, n2, cap1, cap2, hd, Nat.le_refl _, rfl, HOK.out, HX.out, HEL.out, S1.out, S2.out, S3.out⟩
  case round =>
    obtain ⟨k, y, t1, t2, p1, p2, m1, m2, q1, q2, hk1, hkd, rfl, hoky, hoy, hely, hA, hA2, hbw⟩ := hrel
    obtain ⟨u0, u1, u2, u3⟩ := el4 hA
    obtain ⟨z0, z1, z2, z3⟩ := el4 hA2
    have ff : ∀ o, wr.frozen? ⟨B, o, none⟩ = false := Lib.frozen_of_heap hA
    have ff2 : ∀ o, wr.frozen? ⟨B + 1, o, none⟩ = false := Lib.frozen_of_heap hA2
    have HA : Hid _ := hA
    have HA2 : Hid _ := hA2
    have HBW : Hid (Below B w wr) := hbw
    have HOY : Hid _ := hoy
    have hBl : B < wr.heap.size := lt_of_heap hA
    by_cases hlt : 1 < k
    · obtain ⟨j, rfl⟩ : ∃ j, k = j + 2 := ⟨k - 2, by omega⟩
      obtain ⟨hne, hle, hok2⟩ := hoky
      obtain ⟨_, _, _, xs, hrow, hks⟩ := hely.parts
      have hm2 : m2 = y.kids.length := by
        obtain ⟨_, _, hh, _⟩ := hrow
        exact (Value.slice.inj hh).2.1
      have hpos := List.length_pos_iff.2 hne
      obtain ⟨M, hM⟩ : ∃ M, m2 = M + 1 := ⟨m2 - 1, by omega⟩
      have hget := last_get y.kids hne
      rw [← hm2, hM, Nat.add_sub_cancel] at hget
      obtain ⟨a1, b1, c1, d1, i0, i1, i2, i3, hE⟩ := kids_get M hks hget
      rw [← hm2] at hrow
      obtain ⟨g, off, rfl, hg, hcell⟩ := row_flat2 hrow i0
      obtain ⟨pa, qa, pb, qb, rfl, rfl⟩ := hE.shape
      obtain ⟨rfl, _, rfl, _⟩ := hE.parts
      have hgB : g < B := by rw [← HBz.out]; exact hg
      have cc : ∀ i v, xs[i]? = some v → wr.cell? ⟨g, off + i, none⟩ = some v := fun i v hv => (HBW.out.cell (p := ⟨g, off + i, none⟩) hgB).trans (hcell i v hv)
      have r0 := cc _ _ i0
      have r1 := cc _ _ i1
      have r2 := cc _ _ i2
      have r3 := cc _ _ i3
      rw [← Nat.add_assoc] at r1 r2 r3
      have hM0 : (0 : Int) ≤ (M : Int) := by omega
      have hM1 : (M : Int) < (m2 : Int) := by omega
      have hwM : IntKind.i64.wrap ((m2 : Int) - 1) = (M : Int) := by simp only [IntKind.wrap_i64]; omega
      have hj1 : (1 : Int) < ((j + 2 : Nat) : Int) := by omega
      have hwj : IntKind.i64.wrap (((j + 2 : Nat) : Int) - 1) = ((j + 1 : Nat) : Int) := by simp only [IntKind.wrap_i64]; omega
      have HE : Hid _ := hE
      have HO2 : Hid _ := hok2
      clear cc hcell i0 i1 i2 i3 hrow hks hget hE hok2 hoy hely hM hm2 hle hpos hA hA2 hbw
      go_wp2_with fail
      go_roundw
      case rel =>
        refine ⟨j + 1, lastE y.kids, _, _, _, _, _, _, _, _, by omega, by omega, by go_num, HO2.out, HOY.out, HE.out, ?_, ?_, ?_⟩
        · exact (((At.set HA.out 0 _).set 1 _).set 2 _).set 3 _
        · exact (((At.other HA2.out B 0 _ (by omega)).other B 1 _ (by omega)).other B 2 _ (by omega)).other B 3 _ (by omega)
        · exact (((HBW.out.setCell (p := ⟨B, 0, none⟩) (Nat.le_refl _) _).setCell (p := ⟨B, 1, none⟩) (Nat.le_refl _) _).setCell (p := ⟨B, 2, none⟩) (Nat.le_refl _) _).setCell (p := ⟨B, 3, none⟩) (Nat.le_refl _) _
      case measure => simp [intOf]; omega
    · obtain rfl : k = 1 := by omega
      have hoy1 : y = x := HOY.out
      subst hoy1
      have HE : Hid _ := hely
      have hne : ¬ B = B + 1 := by omega
      clear hoy hely hA hA2 hbw
      go_wp2_with fail
      refine bodyPost_ret (v := .agg #[.string t1, .slice p1 m1 q1, .string t2, .slice p2 m2 q2]) (by simp [results, Tryd.results25, go_sem, z0, z1, z2, z3]) rfl ⟨⟨_, _, _, _, rfl, HE.out⟩, ?_⟩
      rw [HBz.out]
      exact (((HBW.out.setCell (p := ⟨B + 1, 0, none⟩) (Nat.le_succ _) _).setCell (p := ⟨B + 1, 1, none⟩) (Nat.le_succ _) _).setCell (p := ⟨B + 1, 2, none⟩) (Nat.le_succ _) _).setCell (p := ⟨B + 1, 3, none⟩) (Nat.le_succ _) _
end Go.Proofs.YthekdgnikkjpdaaDoor
