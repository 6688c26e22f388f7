/-
  The contract of tidewaterref03.Read over this program.
-/
import Derived.Test.YthekdgnikkjpdaaDoorRfk
import Derived.Test.YthekdgnikkjpdaaDoorOpnt
namespace Go.Proofs.YthekdgnikkjpdaaDoor
open Go Go.RowKit
theorem bytes_app (a b : List UInt8) : (⟨a.toArray⟩ : ByteArray) ++ ⟨b.toArray⟩ = ⟨(a ++ b).toArray⟩ := by
  apply ByteArray.ext
  apply Array.ext'
  simp
theorem evs_one {k : Int} {a c : ByteArray} {ao1 ao2 : Option Addr} {n1 c1 n2 c2 : Nat} : ∀ u ∈ [Value.int .i64 k, .string a, .slice ao1 n1 c1, .string c, .slice ao2 n2 c2], u.oneCell' = true := by
  intro u hu
  simp at hu
  rcases hu with rfl | rfl | rfl | rfl | rfl <;> rfl
theorem tok_el {P : Nat → Prop} {w : World} {t : Tok} {ao : Option Addr} {c : Nat} (h : Row P w (.slice ao t.attrs.length c) t.attrs.length (pairCells t.attrs)) : ElE P w (elOf t) (.string ⟨t.nm.toArray⟩) (.slice ao t.attrs.length c) (.string ⟨#[]⟩) (.slice none 0 0) :=
  ElE.mk (e := elOf t) h (row_nil _ _ _ _) rfl
theorem el0_el (P : Nat → Prop) (w : World) : ElE P w el0 (.string ⟨#[]⟩) (.slice none 0 0) (.string ⟨#[]⟩) (.slice none 0 0) :=
  ElE.mk (e := el0) (row_nil _ _ _ _) (row_nil _ _ _ _) rfl
theorem fld0 (s1 s2 : ByteArray) (a1 a2 : Option Addr) (n1 c1 n2 c2 : Nat) (W : World) : (Instr.field 32 (.agg #[.string s1, .slice a1 n1 c1, .string s2, .slice a2 n2 c2]) 0).run Tryd.prog W = .ok (.string s1) W := by kernel_rfl
theorem fld3 (s1 s2 : ByteArray) (a1 a2 : Option Addr) (n1 c1 n2 c2 : Nat) (W : World) : (Instr.field 32 (.agg #[.string s1, .slice a1 n1 c1, .string s2, .slice a2 n2 c2]) 3).run Tryd.prog W = .ok (.slice a2 n2 c2) W := by kernel_rfl
theorem pz_new {it n k : Nat} {v : Value} (h1 : it < n) (h2 : ∀ k, v.ownBlock = some k → k < n) (h : (Pz it v k ∧ k < n) ∨ n ≤ k) : Pz it v k := by
  rcases h with h | h
  · exact h.1
  · exact ⟨by omega, fun e => by have := h2 k e; omega⟩
set_option maxHeartbeats 8000000 in
set_option maxRecDepth 100000 in
theorem readD_any (ao : Option Addr) (cap : Nat) (us : List Tok) (w : World) (hA : ArgToks w ao us) (htk : ∀ t ∈ us, t.text.length ≤ 2000000 ∧ t.attrs.length ≤ 2000000 ∧ t.nm.length ≤ 2000000) (hn : us.length ≤ 100) (evs2 : List (Int × El)) (c2 n2 : Int) (hR : runD rs0 us = (evs2, c2, n2)) :
    Calls Tryd.prog 12 #[.slice ao us.length cap] w (RdRes w evs2 c2 n2) := by
  obtain ⟨i0, hi, hz0, hz1, hz2⟩ := info_parts info40
  have HA : Hid _ := hA
  have HTK : Hid _ := htk
  have HR : Hid _ := hR
  obtain ⟨N, hN⟩ : ∃ N, us.length = N := ⟨_, rfl⟩
  have HN : Hid _ := hN
  rw [hN] at hn ⊢
  obtain ⟨it, hit⟩ : ∃ it, w.heap.size = it := ⟨_, rfl⟩
  obtain ⟨B, hB⟩ : ∃ B, it + 1 = B := ⟨_, rfl⟩
  have HIT : Hid _ := hit
  have HB : Hid _ := hB
  have hitB : it < B := by omega
  clear hA htk hR hN
  go_enter Tryd.func12, Tryd.ntmps12
  go_wp2_with fail
  have hat0 : At w.heap.size #[.string ⟨#[]⟩, .slice none 0 0, .string ⟨#[]⟩, .slice none 0 0] 32 (w.alloc (.cells #[.string ⟨#[]⟩, .slice none 0 0, .string ⟨#[]⟩, .slice none 0 0] 32)) := heap_alloc_new _ _
  have hb0 : Below w.heap.size w (w.alloc (.cells #[.string ⟨#[]⟩, .slice none 0 0, .string ⟨#[]⟩, .slice none 0 0] 32)) := (Below.refl _ _).alloc (Nat.le_refl _) _
  have hsz0 : (w.alloc (.cells #[.string ⟨#[]⟩, .slice none 0 0, .string ⟨#[]⟩, .slice none 0 0] 32)).heap.size = B := by simp; omega
  obtain ⟨w0, hw0⟩ : ∃ w0, w.alloc (.cells #[.string ⟨#[]⟩, .slice none 0 0, .string ⟨#[]⟩, .slice none 0 0] 32) = w0 := ⟨_, rfl⟩
  rw [hw0] at hat0 hb0 hsz0 ⊢
  rw [hit] at hat0 hb0
  have HAT0 : Hid (At _ _ _ _) := hat0
  have HB0 : Hid (Below it w w0) := hb0
  have HS0 : Hid _ := hsz0
  clear hat0 hb0 hsz0 hw0 hit hB
  go_loopw [5, 6, 7, 9, 10, 11, 12, 13] (fun v h f d c i _ _ wr => ∃ (j : Nat) (S : Bs) (R : Rs) (evs : List (Int × El)) (aoE : Option Addr) (cE : Nat), j ≤ N ∧ i = .int .i64 (j : Int) ∧ v = .slice aoE evs.length cE ∧ h = .string ⟨R.head.toArray⟩ ∧ f = .bool R.foot ∧ d = .int .i64 (R.deep : Int) ∧ c = .int .i64 R.count ∧ RelB S R ∧ BOk2 S ∧ textsLe S (j * 2000000) ∧ soFarD us j R evs ∧ evs.length ≤ j ∧ RdAt B it R.item evs v wr ∧ B ≤ wr.heap.size ∧ Below it w wr) (fun _ _ _ _ _ i _ _ _ => N - (intOf i).toNat)
  case atStart =>
    exact ⟨0, bs0, rs0, [], none, 0, Nat.zero_le _, rfl, rfl, rfl, rfl, rfl, rfl, rel0, bok20, by simp [textsLe, bs0], soFarD0 us, Nat.le_refl _, ⟨[], _, _, _, _, World.ownsRow_nil _ _ _ _, rfl, HAT0.out, el0_el _ _⟩, Nat.le_of_eq HS0.out.symm, HB0.out⟩
  case round =>
    obtain ⟨j, S, ⟨head, foot, item, deep, count⟩, evs, aoE, cE, hj, rfl, rfl, rfl, rfl, rfl, rfl, hrel, hok, htx, hso, hel, hrd, hBw, hbw⟩ := hrel
    have HREL : Hid _ := hrel
    have HOK : Hid (BOk2 S) := hok
    have HTX : Hid (textsLe S (j * 2000000)) := htx
    have HSO : Hid (soFarD us j ⟨head, foot, item, deep, count⟩ evs) := hso
    have HRD : Hid (RdAt B it item evs (.slice aoE evs.length cE) wr) := hrd
    have HBW : Hid (Below it w wr) := hbw
    have hsz := hbw.size
    have hd4 : deep ≤ 4 := by have := hrel.2.1; have := hok.1.opn; simp only at *; omega
    clear hrel hok htx hso hrd hbw
    by_cases hlt : j < N
    · obtain ⟨t, ht⟩ : ∃ t, us[j]? = some t := ⟨_, List.getElem?_eq_getElem (by rw [HN.out]; exact hlt)⟩
      have htt := HTK.out t (List.mem_of_getElem? ht)
      have HTT : Hid _ := htt
      have HT : Hid _ := ht
      obtain ⟨g, off, va, rfl, hg, k0, k1, k2, k3, hrow0⟩ := HA.out j t ht
      have hg' : g < it := by rw [← HIT.out]; exact hg
      have hcell : ∀ o, wr.cell? ⟨g, o, none⟩ = w.cell? ⟨g, o, none⟩ := fun o => World.cell?_of_block (w := w) (HBW.out.block g hg')
      rw [← hcell] at k0 k1 k2 k3
      have hrow : Row (Pz it (.slice aoE evs.length cE)) wr va t.attrs.length (pairCells t.attrs) := by
        refine hrow0.step fun k hk _ => ?_
        have hk' : k < it := by rw [← HIT.out]; exact hk
        refine ⟨⟨by omega, fun e => ?_⟩, HBW.out.block k hk'⟩
        obtain ⟨xs, a, b, c, d, h1, _⟩ := HRD.out
        have := (h1.lt k e).1
        omega
      obtain ⟨aoa, capa, rfl, _⟩ := hrow0
      have HROW : Hid (Row _ _ _ _ _) := hrow
      have step := step_eq S ⟨head, foot, item, deep, count⟩ t HREL.out HOK.out.1
      have htn := takeN_ok S t HOK.out
      have htx2 := takeN_text S t _ HTX.out
      have ERR : Hid (∀ c, stepD ⟨head, foot, item, deep, count⟩ t = .inl c → evs2 = evs ∧ c2 = c ∧ n2 = 0) := fun c hc => by
        have h := soFarD_err HSO.out HT.out hc
        rw [HR.out] at h
        simpa using h
      have NEXT : Hid (∀ R' ev, stepD ⟨head, foot, item, deep, count⟩ t = .inr (R', ev) → ∃ S', RelB S' R' ∧ BOk2 S' ∧ textsLe S' ((j + 1) * 2000000) ∧ soFarD us (j + 1) R' (evs ++ ev.toList)) := fun R' ev hc => by
        rcases step with ⟨e, h1, _⟩ | ⟨R'', ev', S', h1, h2, h3⟩
        · rw [h1] at hc
          cases hc
        · rw [h1] at hc
          obtain ⟨rfl, rfl⟩ := Prod.mk.inj (Sum.inr.inj hc)
          rw [h2] at htn htx2
          exact ⟨S', h3, htn, fun e he => by have := htx2 e he; have := HTT.out.1; omega, soFarD_step HSO.out HT.out h1⟩
      have hREL := HREL.out
      unfold RelB at hREL
      simp only at hREL
      obtain ⟨hf0, hdp, hitm, hstg⟩ := hREL
      have HITM : Hid _ := hitm
      have HDP : Hid _ := hdp
      have hi0' : (0 : Int) ≤ (j : Int) := by omega
      have hi1 : (j : Int) < (N : Int) := by omega
      obtain ⟨L, hL⟩ : ∃ L, evs.length = L := ⟨_, rfl⟩
      have HL : Hid _ := hL
      obtain ⟨A, hAl⟩ : ∃ A, t.attrs.length = A := ⟨_, rfl⟩
      have HAL : Hid _ := hAl
      rw [hL] at hel ⊢
      rw [hAl] at k2
      obtain ⟨nb, hnb⟩ : ∃ nb, (⟨t.nm.toArray⟩ : ByteArray) = nb := ⟨_, rfl⟩
      obtain ⟨xb, hxb⟩ : ∃ xb, (⟨t.text.toArray⟩ : ByteArray) = xb := ⟨_, rfl⟩
      obtain ⟨hb, hhb⟩ : ∃ hb, (⟨head.toArray⟩ : ByteArray) = hb := ⟨_, rfl⟩
      have ENB : Hid _ := hnb
      have EXB : Hid _ := hxb
      have EHB : Hid _ := hhb
      rw [hnb] at k1
      rw [hxb] at k3
      rw [hhb]
      obtain ⟨kd, hkd⟩ : ∃ kd, t.kind = kd := ⟨_, rfl⟩
      have EKD : Hid _ := hkd
      rw [hkd] at k0
      clear hnb hxb hhb hL hAl hrow hcell ht htt step htn htx2 hitm hdp hg' hkd
      have RET : Hid (∀ (c : Int) (W : World), stepD ⟨head, foot, item, deep, count⟩ t = .inl c → Below wr.heap.size wr W → RdRes w evs2 c2 n2 (.returned (.tuple #[.slice aoE L cE, .int .i64 c, .int .i64 0])) W) := fun c W hc hb => by
        obtain ⟨rfl, rfl, rfl⟩ := ERR.out c hc
        obtain ⟨xs, a, b, c', d, h1, h2, _⟩ := RdAt.below HRD.out hb
        rw [HL.out] at h1
        exact ⟨aoE, L, cE, xs, rfl, by rw [HL.out]; exact owns_base h1 (by rw [HIT.out]; omega), h2.step fun k _ _ => ⟨trivial, rfl⟩, by rw [HIT.out]; exact HBW.out.trans (hb.mono (by omega))⟩
      obtain ⟨xs, ia, ib, ic, id, hown, hev, hat, hitE⟩ := HRD.out
      obtain ⟨ui1, uc1, ui2, uc2, rfl, rfl⟩ := hitE.shape
      obtain ⟨rfl, _, rfl, _⟩ := hitE.parts
      rw [HL.out] at hown hev hitE
      have HOW : Hid (World.ownsRow _ _ _ _ _ _ _) := hown
      have HEV : Hid (EvCells _ _ _ _) := hev
      have HAT : Hid (At _ _ _ _) := hat
      have HIE : Hid (ElE _ _ _ _ _ _ _) := hitE
      obtain ⟨q0, q1, q2, q3⟩ := hat.c4
      have z0 := hat.f4 0
      have z1 := hat.f4 1
      have z2 := hat.f4 2
      have z3 := hat.f4 3
      have hitw := lt_of_heap hat
      have hszi : it ≤ wr.heap.size := by omega
      have HG1 : Hid (∀ W, (Op.stringOp .add nb ⟨#[32]⟩).run Tryd.prog W = .ok (.string ⟨(t.nm ++ [32]).toArray⟩) W) := fun W => by
        rw [← ENB.out]
        refine (run_string_add_sum W _ _ (by show t.nm.toArray.size + 1 ≤ _; rw [List.size_toArray]; have := HTT.out.2.2; omega)).trans ?_
        rw [show (⟨#[32]⟩ : ByteArray) = ⟨([32] : List UInt8).toArray⟩ from rfl, bytes_app]
      have hne1 : ¬ it = wr.heap.size := by omega
      have hne2 : ¬ it = wr.heap.size + 1 := by omega
      have hne3 : ¬ wr.heap.size = it := by omega
      have hne4 : ¬ wr.heap.size + 1 = it := by omega
      clear hown hev hat hitE hf0
      cases foot with
      | true =>
        go_wp2_with fail
        exact bodyPost_ret (v := .tuple #[.slice aoE L cE, .int .i64 3, .int .i64 0]) (by simp [results, Tryd.results12, go_sem]) rfl (RET.out 3 _ (by simp [stepD]) ((Below.refl _ wr).alloc (Nat.le_refl _) _))
      | false =>
        by_cases h1 : kd < 1
        · go_wp2_with fail
          exact bodyPost_ret (v := .tuple #[.slice aoE L cE, .int .i64 3, .int .i64 0]) (by simp [results, Tryd.results12, go_sem]) rfl (RET.out 3 _ (by simp [stepD, EKD.out, h1]) ((Below.refl _ wr).alloc (Nat.le_refl _) _))
        by_cases h3 : 3 < kd
        · go_wp2_with fail
          exact bodyPost_ret (v := .tuple #[.slice aoE L cE, .int .i64 3, .int .i64 0]) (by simp [results, Tryd.results12, go_sem]) rfl (RET.out 3 _ (by simp [stepD, EKD.out, h3]) ((Below.refl _ wr).alloc (Nat.le_refl _) _))
        by_cases hh : head = []
        · have ehb : hb = ⟨#[]⟩ := by rw [← EHB.out, hh]
          subst ehb
          have HH : Hid (head = []) := hh
          clear hh
          by_cases hk1 : kd = 1
          · subst hk1
            have g1 := HG1.out
            go_wp2_with (first
              | (at_builtin; refine wpList_append_own_at _ rfl (.tmp 51) (.tmp 58) 27 rfl B 40 i0 _ 5 88 Tryd.underlying27 hi hz0 hz1 hz2 rfl (by decide) _ L xs rfl (World.ownsRow.alloc (World.ownsRow.alloc HOW.out _) _) ⟨wr.heap.size + 1, 0, none⟩ 1 1 [.int .i64 1, .string nb, .slice aoa A capa, .string ⟨#[]⟩, .slice none 0 0] rfl rfl (World.news_of_block (cs := #[.int .i64 1, .string nb, .slice aoa A capa, .string ⟨#[]⟩, .slice none 0 0]) (t := 40) (fr := (0, 0)) (by have := heap_alloc_new (wr.alloc (.cells #[.int .i64 1, .string nb, .slice aoa A capa, .string xb] 38)) (.cells #[.int .i64 1, .string nb, .slice aoa A capa, .string ⟨#[]⟩, .slice none 0 0] 40); (try simp only [World.size_alloc] at this); exact this)) evs_one ?c3 ?c4 ?c5 ?_))
            case c3 => unfold maxLen; omega
            case c4 => omega
            case c5 => (try simp); omega
            intro v1 w4 hown4 hgrow4 _ hloc
            obtain ⟨aoN, capN, rfl⟩ := owns_shape hown4
            have hbZ : Below wr.heap.size wr (((wr.alloc (.cells #[.int .i64 1, .string nb, .slice aoa A capa, .string xb] 38))).alloc (.cells #[.int .i64 1, .string nb, .slice aoa A capa, .string ⟨#[]⟩, .slice none 0 0] 40)) := ((Below.refl _ wr).alloc (Nat.le_refl _) _).alloc (by simp) _
            have RD4 : Hid (RdAt B it item (evs ++ [(1, elOf t)]) (.slice aoN (L + 1) capN) w4) := by
              have h := RdAt.app (B := B) (it := it) (item := item) (el := elOf t) (evs := evs) (kk := 1) hitB (by rw [HL.out]; exact owns_below HOW.out hbZ) (HEV.out.step fun k hk hl => ⟨hk, hbZ.block k hl⟩) (At.below HAT.out hbZ hitw) (HIE.out.step fun k hk hl => ⟨hk, hbZ.block k hl⟩) ((by have h := tok_el (t := t) HROW.out; rw [ENB.out, HAL.out, HL.out] at h; exact h.step fun k hk hl => ⟨hk, hbZ.block k hl⟩)) (by rw [HL.out]; exact hown4) hgrow4 (by first | exact hloc | simpa only [World.size_alloc] using hloc)
              exact h
            have B4 : Hid (Below it w w4) := (HBW.out.trans (hbZ.mono hszi)).trans ((Below.refl _ _).grown hgrow4 (by simp; omega) (fun k hk => by have := (World.ownsRow.lt HOW.out k hk).1; omega))
            have s4 : B ≤ w4.heap.size := by have := hgrow4.size; simp at this; omega
            clear hown4 hgrow4 hloc hbZ
            go_wp2_with fail
            go_roundw
            case rel =>
              obtain ⟨S', r1, r2, r3, r4⟩ := NEXT.out ⟨t.nm ++ [32], false, item, deep, count⟩ (some (1, elOf t)) (by simp [stepD, EKD.out, HH.out])
              exact ⟨j + 1, S', _, evs ++ [(1, elOf t)], aoN, capN, by omega, by go_num, by rw [List.length_append, HL.out]; rfl, rfl, rfl, rfl, rfl, r1, r2, r3, r4, by rw [List.length_append, HL.out]; simp; omega, RD4.out, s4, B4.out⟩
            case measure => simp [intOf]; omega
          · have hk1' : (kd != 1) = true := by simpa using hk1
            go_wp2_with fail
            exact bodyPost_ret (v := .tuple #[.slice aoE L cE, .int .i64 3, .int .i64 0]) (by simp [results, Tryd.results12, go_sem]) rfl (RET.out 3 _ (by simp [stepD, EKD.out, HH.out, hk1]) ((Below.refl _ wr).alloc (Nat.le_refl _) _))
        · have hbt : hb.toList = head := by rw [← EHB.out]; exact mk_toList head
          have hbn1 : ¬ hb.toList = [] := by rw [hbt]; exact hh
          have hbn2 : hb.toList.isEmpty = false := by simpa using hbn1
          have HBT : Hid _ := hbt
          clear hbt
          have HH : Hid (¬ head = []) := hh
          have hkk : kd = 1 ∨ kd = 2 ∨ kd = 3 := by omega
          clear h1 h3 hh
          by_cases hd0 : deep = 0
          · subst hd0
            rcases hkk with rfl | rfl | rfl
            · go_wp2_with fail
              go_roundw
              case rel =>
                obtain ⟨S', r1, r2, r3, r4⟩ := NEXT.out ⟨head, false, elOf t, 1, 1⟩ none (by simp [stepD, EKD.out, HH.out])
                have hel2 : ElE (Pz it (.slice aoE L cE)) wr (elOf t) (.string nb) (.slice aoa A capa) (.string ⟨#[]⟩) (.slice none 0 0) := by
                  have h := tok_el (t := t) HROW.out
                  rw [ENB.out, HAL.out, HL.out] at h
                  exact h
                have hr2 := HRD.out
                rw [HL.out] at hr2
                obtain ⟨W3, hW3⟩ : ∃ W3, (((wr.setCell ⟨it, 0, none⟩ (.string nb)).setCell ⟨it, 1, none⟩ (.slice aoa A capa)).setCell ⟨it, 2, none⟩ (.string ⟨#[]⟩)).setCell ⟨it, 3, none⟩ (.slice none 0 0) = W3 := ⟨_, rfl⟩
                have b3 : Below it wr W3 := by rw [← hW3]; exact ((((Below.refl it wr).setCell (p := ⟨it, 0, none⟩) (Nat.le_refl _) _).setCell (p := ⟨it, 1, none⟩) (Nat.le_refl _) _).setCell (p := ⟨it, 2, none⟩) (Nat.le_refl _) _).setCell (p := ⟨it, 3, none⟩) (Nat.le_refl _) _
                have rd3 : RdAt B it (elOf t) evs (.slice aoE L cE) W3 := RdAt.put hr2 hitB hel2 (fun k hk _ => hk) (by rw [← hW3])
                rw [hW3]
                have z9 := b3.size
                have b4 : ∀ o1 o2, Below W3.heap.size W3 ((W3.alloc o1).alloc o2) := fun o1 o2 => ((Below.refl _ W3).alloc (Nat.le_refl _) o1).alloc (by simp) o2
                exact ⟨j + 1, S', _, evs, aoE, cE, by omega, by go_num, by rw [HL.out], by rw [EHB.out], rfl, rfl, rfl, r1, r2, r3, by simpa using r4, by rw [HL.out]; omega, rd3.below (b4 _ _), Nat.le_trans (Nat.le_trans hBw z9) (b4 _ _).size, (HBW.out.trans b3).trans ((b4 _ _).mono (by omega))⟩
              case measure => simp [intOf]; omega
            · by_cases hnm : t.nm ++ [32] = head
              · have g1 := HG1.out
                rw [hnm, EHB.out] at g1
                have HNM : Hid _ := hnm
                clear hnm
                go_wp2_with (first
                  | (at_builtin; refine wpList_append_own_at _ rfl (.tmp 101) (.tmp 103) 27 rfl B 40 i0 _ 5 88 Tryd.underlying27 hi hz0 hz1 hz2 rfl (by decide) _ L xs rfl (World.ownsRow.alloc (World.ownsRow.alloc HOW.out _) _) ⟨wr.heap.size + 1, 0, none⟩ 1 1 [.int .i64 3, .string ⟨#[]⟩, .slice none 0 0, .string ⟨#[]⟩, .slice none 0 0] rfl rfl (World.news_of_block (cs := #[.int .i64 3, .string ⟨#[]⟩, .slice none 0 0, .string ⟨#[]⟩, .slice none 0 0]) (t := 40) (fr := (0, 0)) (by have := heap_alloc_new (wr.alloc (.cells #[.int .i64 2, .string nb, .slice aoa A capa, .string xb] 38)) (.cells #[.int .i64 3, .string ⟨#[]⟩, .slice none 0 0, .string ⟨#[]⟩, .slice none 0 0] 40); (try simp only [World.size_alloc] at this); exact this)) evs_one ?c3 ?c4 ?c5 ?_))
                case c3 => unfold maxLen; omega
                case c4 => omega
                case c5 => (try simp); omega
                intro v1 w4 hown4 hgrow4 _ hloc
                obtain ⟨aoN, capN, rfl⟩ := owns_shape hown4
                have hbZ : Below wr.heap.size wr (((wr.alloc (.cells #[.int .i64 2, .string nb, .slice aoa A capa, .string xb] 38))).alloc (.cells #[.int .i64 3, .string ⟨#[]⟩, .slice none 0 0, .string ⟨#[]⟩, .slice none 0 0] 40)) := ((Below.refl _ wr).alloc (Nat.le_refl _) _).alloc (by simp) _
                have RD4 : Hid (RdAt B it item (evs ++ [(3, el0)]) (.slice aoN (L + 1) capN) w4) := by
                  have h := RdAt.app (B := B) (it := it) (item := item) (el := el0) (evs := evs) (kk := 3) hitB (by rw [HL.out]; exact owns_below HOW.out hbZ) (HEV.out.step fun k hk hl => ⟨hk, hbZ.block k hl⟩) (At.below HAT.out hbZ hitw) (HIE.out.step fun k hk hl => ⟨hk, hbZ.block k hl⟩) (el0_el _ _) (by rw [HL.out]; exact hown4) hgrow4 (by first | exact hloc | simpa only [World.size_alloc] using hloc)
                  exact h
                have B4 : Hid (Below it w w4) := (HBW.out.trans (hbZ.mono hszi)).trans ((Below.refl _ _).grown hgrow4 (by simp; omega) (fun k hk => by have := (World.ownsRow.lt HOW.out k hk).1; omega))
                have s4 : B ≤ w4.heap.size := by have := hgrow4.size; simp at this; omega
                clear hown4 hgrow4 hloc hbZ
                go_wp2_with fail
                go_roundw
                case rel =>
                  obtain ⟨S', r1, r2, r3, r4⟩ := NEXT.out ⟨head, true, item, 0, 1⟩ (some (3, el0)) (by simp [stepD, EKD.out, HH.out, HNM.out])
                  exact ⟨j + 1, S', _, evs ++ [(3, el0)], aoN, capN, by omega, by go_num, by rw [List.length_append, HL.out]; rfl, by rw [EHB.out], rfl, rfl, rfl, r1, r2, r3, r4, by rw [List.length_append, HL.out]; simp; omega, RD4.out, s4, B4.out⟩
                case measure => simp [intOf]; omega
              · have g1 := HG1.out
                obtain ⟨hb2, hhb2⟩ : ∃ hb2, (⟨(t.nm ++ [32]).toArray⟩ : ByteArray) = hb2 := ⟨_, rfl⟩
                have hn1 : ¬ hb2.toList = hb.toList := by rw [HBT.out, ← hhb2, mk_toList]; exact hnm
                have hn2 : (hb2.toList == hb.toList) = false := by simpa using hn1
                simp only [hhb2] at g1
                have HNM : Hid _ := hnm
                clear hhb2 hnm
                go_wp2_with fail
                exact bodyPost_ret (v := .tuple #[.slice aoE L cE, .int .i64 3, .int .i64 0]) (by simp [results, Tryd.results12, go_sem]) rfl (RET.out 3 _ (by simp [stepD, EKD.out, HH.out]; exact HNM.out) ((Below.refl _ wr).alloc (Nat.le_refl _) _))
            · have HBK : ∀ W, Calls Tryd.prog 23 #[.string xb] W fun e w' => e = .returned (.bool (blankT t.text)) ∧ w' = W := fun W => by
                have h := refBlankT_any xb W (by rw [← EXB.out]; show t.text.toArray.size ≤ _; rw [List.size_toArray]; have := HTT.out.1; omega)
                rw [← EXB.out] at h ⊢
                exact h
              cases hbk : blankT t.text with
              | false =>
                simp only [hbk] at HBK
                have HBB : Hid _ := hbk
                clear hbk
                go_wp2_with (go_at_call 23; refine (HBK _).mono ?_; rintro ee ww ⟨rfl, rfl⟩)
                exact bodyPost_ret (v := .tuple #[.slice aoE L cE, .int .i64 3, .int .i64 0]) (by simp [results, Tryd.results12, go_sem]) rfl (RET.out 3 _ (by simp [stepD, EKD.out, HH.out, HBB.out]) ((Below.refl _ wr).alloc (Nat.le_refl _) _))
              | true =>
                simp only [hbk] at HBK
                have HBB : Hid _ := hbk
                clear hbk
                go_wp2_with (go_at_call 23; refine (HBK _).mono ?_; rintro ee ww ⟨rfl, rfl⟩)
                go_roundw
                case rel =>
                  obtain ⟨S', r1, r2, r3, r4⟩ := NEXT.out ⟨head, false, item, 0, 1⟩ none (by simp [stepD, EKD.out, HH.out, HBB.out])
                  exact ⟨j + 1, S', _, evs, aoE, cE, by omega, by go_num, by rw [HL.out], by rw [EHB.out], rfl, rfl, rfl, r1, r2, r3, by simpa using r4, by rw [HL.out]; omega, RdAt.below (by have h := HRD.out; rw [HL.out] at h; exact h) ((Below.refl _ wr).alloc (Nat.le_refl _) _), Nat.le_trans hBw (Below.size ((Below.refl _ wr).alloc (Nat.le_refl _) _)), HBW.out.trans ((((Below.refl _ wr).alloc (Nat.le_refl _) _) : Below wr.heap.size wr _).mono hszi)⟩
                case measure => simp [intOf]; omega
          · have hopn : S.opn ≠ [] := fun e => hd0 (by rw [HDP.out, e]; rfl)
            obtain ⟨him, hct⟩ := HITM.out hopn
            have htkn := HOK.out.1.taken
            have hd0' : ((deep : Int) == 0) = false := by simp; omega
            have hd0n : ¬ (deep : Int) = 0 := by omega
            have hd0m : ¬ deep = 0 := hd0
            obtain ⟨cN, hcN⟩ : ∃ cN : Nat, count = (cN : Int) := ⟨count.toNat, by omega⟩
            subst hcN
            have hcb : cN ≤ 64 := by omega
            have HIM : Hid _ := him
            have HCT : Hid _ := hct
            have hopD : openD item deep = lastE S.opn := by rw [him, HDP.out]; exact openD_nest _ hopn
            have HOPD : Hid _ := hopD
            have hlast : lastE S.opn ∈ S.opn := by
              unfold lastE
              rw [List.getLastD_eq_getLast?, List.getLast?_eq_some_getLast hopn]
              exact List.getLast_mem hopn
            have HOKD : Hid (okD item deep) := by rw [him, HDP.out]; exact okD_nest _ HOK.out.1.kids
            have HKD : Hid ((openD item deep).kids.length ≤ 16) := by rw [hopD]; exact HOK.out.1.kids _ hlast
            have HTD : Hid ((openD item deep).text.length ≤ j * 2000000) := by rw [hopD]; exact HTX.out _ hlast
            obtain ⟨dp, hdp1⟩ : ∃ dp, deep = dp + 1 := ⟨deep - 1, by omega⟩
            have HDP1 : Hid _ := hdp1
            have hdpb : dp ≤ 90 := by omega
            have own1 : ∀ k, (Value.slice aoE L cE).ownBlock = some k → k < wr.heap.size := fun k hk => (World.ownsRow.lt HOW.out k hk).2
            have HOWN1 : Hid _ := own1
            have HOPEN : ∀ W, Below wr.heap.size wr W → Calls Tryd.prog 25 #[.agg #[.string ⟨item.nm.toArray⟩, .slice ui1 item.attrs.length uc1, .string ⟨item.text.toArray⟩, .slice ui2 item.kids.length uc2], .int .i64 (deep : Int)] W fun r w' => ElRes (Pz it (.slice aoE L cE)) W (openD item deep) r ∧ Below W.heap.size W w' :=
              fun W hb => refOpen_any deep item _ _ _ _ W HOKD.out (by omega) (by omega) (HIE.out.step fun k hk hl => ⟨hk, hb.block k hl⟩)
            have hdi4 : (deep : Int) ≤ 4 := by omega
            have hfd0 := fld0
            have hfd3 := fld3
            clear hct hopn hopD hlast hdp1 own1 him
            by_cases h64 : S.taken = 64
            · have hc6 : (64 : Int) < (cN : Int) + 1 := by rw [HCT.out, h64]; decide
              have st0 : stepD ⟨head, false, item, deep, (cN : Int)⟩ t = .inl 4 := by
                rcases hkk with e | e | e <;> simp [stepD, EKD.out, HH.out, e, hd0m, hc6]
              have st64 : Hid _ := st0
              clear st0 h64 htkn
              rcases hkk with rfl | rfl | rfl
              · go_wp2_with fail
                exact bodyPost_ret (v := .tuple #[.slice aoE L cE, .int .i64 4, .int .i64 0]) (by simp [results, Tryd.results12, go_sem]) rfl (RET.out 4 _ (st64.out) ((Below.refl _ wr).alloc (Nat.le_refl _) _))
              · go_wp2_with fail
                exact bodyPost_ret (v := .tuple #[.slice aoE L cE, .int .i64 4, .int .i64 0]) (by simp [results, Tryd.results12, go_sem]) rfl (RET.out 4 _ (st64.out) ((Below.refl _ wr).alloc (Nat.le_refl _) _))
              · go_wp2_with fail
                exact bodyPost_ret (v := .tuple #[.slice aoE L cE, .int .i64 4, .int .i64 0]) (by simp [results, Tryd.results12, go_sem]) rfl (RET.out 4 _ (st64.out) ((Below.refl _ wr).alloc (Nat.le_refl _) _))
            have hc6 : ¬ (64 : Int) < (cN : Int) + 1 := by rw [HCT.out]; omega
            have HC6 : Hid (¬ (64 : Int) < (cN : Int) + 1) := hc6
            clear h64 htkn
            rcases hkk with rfl | rfl | rfl
            · by_cases h4 : deep = 4
              · have h4' : ¬ (deep : Int) < 4 := by omega
                have h4'' : (4 : Int) ≤ (deep : Int) := by omega
                have st0 : stepD ⟨head, false, item, deep, (cN : Int)⟩ t = .inl 5 := by
                  have h4n : 4 ≤ deep := by omega
                  simp [stepD, EKD.out, HH.out, hd0m, HC6.out, h4n]
                have st : Hid _ := st0
                clear st0
                clear HOPEN
                go_wp2_with fail
                exact bodyPost_ret (v := .tuple #[.slice aoE L cE, .int .i64 5, .int .i64 0]) (by simp [results, Tryd.results12, go_sem]) rfl (RET.out 5 _ (st.out) (((Below.refl _ wr).alloc (Nat.le_refl _) _).alloc (by simp) _))
              have h4' : ¬ (4 : Int) ≤ (deep : Int) := by omega
              have h4n : ¬ 4 ≤ deep := by omega
              by_cases h16 : 16 ≤ (openD item deep).kids.length
              · have st0 : stepD ⟨head, false, item, deep, (cN : Int)⟩ t = .inl 4 := by simp [stepD, EKD.out, HH.out, hd0m, HC6.out, h4n, h16]
                have st : Hid _ := st0
                clear st0
                have h16' : (16 : Int) ≤ ((openD item deep).kids.length : Int) := by omega
                obtain ⟨nk, hnk⟩ : ∃ nk, (openD item deep).kids.length = nk := ⟨_, rfl⟩
                have ENK : Hid _ := hnk
                rw [hnk] at h16'
                clear hnk h16
                go_wp2_with (go_at_call 25; refine (HOPEN _ (((Below.refl _ wr).alloc (Nat.le_refl _) _).alloc (by simp) _)).mono ?_; rintro r w5 ⟨⟨a5, b5, c5, d5, rfl, hE5⟩, hb5⟩; obtain ⟨x1, y1, x2, y2, rfl, rfl⟩ := hE5.shape; obtain ⟨rfl, _, rfl, _⟩ := hE5.parts; rw [ENK.out])
                have hb5' : Below wr.heap.size wr w5 := (((Below.refl _ wr).alloc (Nat.le_refl _) _).alloc (by simp) _).trans (hb5.mono (by simp; omega))
                exact bodyPost_ret (v := .tuple #[.slice aoE L cE, .int .i64 4, .int .i64 0]) (by simp [results, Tryd.results12, go_sem]) rfl (RET.out 4 _ (st.out) (hb5'))
              have h16' : ¬ (16 : Int) ≤ ((openD item deep).kids.length : Int) := by omega
              have HPT : ∀ W, Below wr.heap.size wr W → Calls Tryd.prog 26 #[.agg #[.string ⟨item.nm.toArray⟩, .slice ui1 item.attrs.length uc1, .string ⟨item.text.toArray⟩, .slice ui2 item.kids.length uc2], .int .i64 (deep : Int), .agg #[.string nb, .slice aoa A capa, .string ⟨#[]⟩, .slice none 0 0]] W fun r w' => ElNew (fun k => Pz it (.slice aoE L cE) k ∧ k < wr.heap.size) W (putD item deep (elOf t)) r w' ∧ Below W.heap.size W w' := fun W hb => by
                have hk := tok_el (t := t) HROW.out
                rw [ENB.out, HAL.out, HL.out] at hk
                have h := put_any dp (P := fun k => Pz it (.slice aoE L cE) k ∧ k < wr.heap.size) item (elOf t) (.string ⟨item.nm.toArray⟩) (.slice ui1 item.attrs.length uc1) (.string ⟨item.text.toArray⟩) (.slice ui2 item.kids.length uc2) (.string nb) (.slice aoa A capa) (.string ⟨#[]⟩) (.slice none 0 0) W (by rw [← HDP1.out]; exact HOKD.out) hdpb (fun k hk => Nat.lt_of_lt_of_le hk.2 hb.size) (by rw [← HDP1.out]; have := HKD.out; omega) (HIE.out.step fun k hk hl => ⟨⟨hk, hl⟩, hb.block k hl⟩) (hk.step fun k hk hl => ⟨⟨hk, hl⟩, hb.block k hl⟩)
                rw [← HDP1.out] at h
                exact h
              have HST : Hid (stepD ⟨head, false, item, deep, (cN : Int)⟩ t = .inr (⟨head, false, putD item deep (elOf t), deep + 1, (cN : Int) + 1⟩, none)) := by
                show stepD ⟨head, false, item, deep, (cN : Int)⟩ t = _
                simp [stepD, EKD.out, HH.out, hd0m, HC6.out, h4n, h16]
              obtain ⟨nk, hnk⟩ : ∃ nk, (openD item deep).kids.length = nk := ⟨_, rfl⟩
              have ENK : Hid _ := hnk
              rw [hnk] at h16'
              clear hnk h16 h4n
              go_wp2_with (first
                | (go_at_call 25; refine (HOPEN _ (((Below.refl _ wr).alloc (Nat.le_refl _) _).alloc (by simp) _)).mono ?_; rintro r w5 ⟨⟨a5, b5, c5, d5, rfl, hE5⟩, hb5'⟩; obtain ⟨x1, y1, x2, y2, rfl, rfl⟩ := hE5.shape; obtain ⟨rfl, _, rfl, _⟩ := hE5.parts; rw [ENK.out]
                   have hb5 : Below wr.heap.size wr w5 := (((Below.refl _ wr).alloc (Nat.le_refl _) _).alloc (by simp) _).trans (hb5'.mono (by simp; omega))
                   have hat5 := At.below HAT.out hb5 hitw
                   obtain ⟨m0, m1, m2, m3⟩ := hat5.c4
                   have hae : At (wr.heap.size + 1) #[.string nb, .slice aoa A capa, .string ⟨#[]⟩, .slice none 0 0] 32 w5 := (hb5'.block (wr.heap.size + 1) (by simp)).trans (by have := heap_alloc_new (wr.alloc (.cells #[.int .i64 1, .string nb, .slice aoa A capa, .string xb] 38)) (.cells #[.string nb, .slice aoa A capa, .string ⟨#[]⟩, .slice none 0 0] 32); simp only [World.size_alloc] at this; exact this)
                   obtain ⟨l0, l1, l2, l3⟩ := hae.c4
                   have HB5 : Hid (Below wr.heap.size wr w5) := hb5
                   clear hE5 hb5' hb5 hat5 hae)
                | (go_at_call 26; refine (HPT _ HB5.out).mono ?_; rintro r w6 ⟨⟨a6, b6, c6, d6, rfl, hE6'⟩, hb6'⟩; obtain ⟨x3, y3, x4, y4, rfl, rfl⟩ := hE6'.shape; obtain ⟨rfl, _, rfl, _⟩ := hE6'.parts
                   have HE6 : Hid (ElE _ _ _ _ _ _ _) := hE6'
                   have hb6 : Below wr.heap.size wr w6 := Below.trans HB5.out (hb6'.mono (Below.size HB5.out))
                   have hat6 := At.below HAT.out hb6 hitw
                   obtain ⟨p0, p1, p2, p3⟩ := hat6.c4
                   have y0 := hat6.f4 0
                   have y1 := hat6.f4 1
                   have y2 := hat6.f4 2
                   have y3 := hat6.f4 3
                   have HB6 : Hid (Below wr.heap.size wr w6) := hb6
                   clear hE6' hb6' hb6 hat6))
              go_roundw
              case rel =>
                obtain ⟨S', r1, r2, r3, r4⟩ := NEXT.out _ _ HST.out
                have hr6 := RdAt.below HRD.out HB6.out
                rw [HL.out] at hr6
                have z5 := HB5.out.size
                have z6 := HB6.out.size
                have b3 := fun a5 b5 c5 d5 => ((((Below.refl it w6).setCell (p := ⟨it, 0, none⟩) (Nat.le_refl _) a5).setCell (p := ⟨it, 1, none⟩) (Nat.le_refl _) b5).setCell (p := ⟨it, 2, none⟩) (Nat.le_refl _) c5).setCell (p := ⟨it, 3, none⟩) (Nat.le_refl _) d5
                have rd3 := RdAt.put (item' := putD item deep (elOf t)) hr6 hitB HE6.out (fun k hk _ => pz_new hitw HOWN1.out (by rcases hk with h | h; (exact .inl h); exact .inr (by omega))) rfl
                exact ⟨j + 1, S', _, evs, aoE, cE, by omega, by go_num, by rw [HL.out], by rw [EHB.out], rfl, rfl, rfl, r1, r2, r3, by simpa using r4, by rw [HL.out]; omega, rd3, Nat.le_trans (Nat.le_trans hBw z6) (b3 _ _ _ _).size, (HBW.out.trans (HB6.out.mono hszi)).trans (b3 _ _ _ _)⟩
              case measure => simp [intOf]; omega
            · by_cases hnm : (openD item deep).nm = t.nm
              · have EON : Hid ((⟨(openD item deep).nm.toArray⟩ : ByteArray) = nb) := by rw [hnm]; exact ENB.out
                have hst0 : stepD ⟨head, false, item, deep, (cN : Int)⟩ t = .inr (⟨head, false, item, dp, (cN : Int) + 1⟩, if dp = 0 then some (2, item) else none) := by
                  have e : deep - 1 = dp := by have := HDP1.out; omega
                  simp [stepD, EKD.out, HH.out, hd0m, HC6.out, hnm, e]
                have hdw : IntKind.i64.wrap ((deep : Int) - 1) = (dp : Int) := by have := HDP1.out; simp only [IntKind.wrap_i64]; omega
                have hdw2 : (deep : Int) - 1 = (dp : Int) := by have := HDP1.out; omega
                clear hnm
                by_cases hdz : dp = 0
                · subst hdz
                  have HST : Hid _ := hst0
                  have hdw3 : (deep : Int) - 1 = 0 := hdw2
                  have hd1 : deep = 1 := by omega
                  subst hd1
                  clear hst0 hdw hdw2 hdw3
                  go_wp2_with fail
                  go_region_with (go_at_call 25; refine (HOPEN _ ((Below.refl _ wr).alloc (Nat.le_refl _) _).drew).mono ?_; rintro r w5 ⟨⟨a5, b5, c5, d5, rfl, hE5⟩, hb5'⟩; obtain ⟨x1, y1, x2, y2, rfl, rfl⟩ := hE5.shape; obtain ⟨rfl, _, rfl, _⟩ := hE5.parts; rw [EON.out]; have hb5 : Below wr.heap.size wr w5 := ((Below.refl _ wr).alloc (Nat.le_refl _) _).drew.trans (hb5'.mono (by simp)); have hat5 := At.below HAT.out hb5 hitw; obtain ⟨m0, m1, m2, m3⟩ := hat5.c4; have htk5 : At wr.heap.size #[.int .i64 2, .string nb, .slice aoa A capa, .string xb] 38 w5 := (hb5'.block wr.heap.size (by simp)).trans (heap_alloc_new wr _); have l1 : w5.cell? ⟨wr.heap.size, 1, none⟩ = some (.string nb) := (by unfold At at htk5; simp [World.cell?, htk5]); have HB5 : Hid (Below wr.heap.size wr w5) := hb5; have z5 := hb5.size; clear hE5 hb5' hb5 hat5 htk5)
                  all_goals (
                    go_wp2_with (first
                      | (at_builtin; refine wpList_append_own_at _ rfl (.tmp 162) (.tmp 165) 27 rfl B 40 i0 _ 5 88 Tryd.underlying27 hi hz0 hz1 hz2 rfl (by decide) _ L xs rfl (World.ownsRow.alloc (owns_below HOW.out HB5.out) _) ⟨w5.heap.size, 0, none⟩ 1 1 [.int .i64 2, .string ⟨item.nm.toArray⟩, .slice ui1 item.attrs.length uc1, .string ⟨item.text.toArray⟩, .slice ui2 item.kids.length uc2] rfl rfl (World.news_of_block (cs := #[.int .i64 2, .string ⟨item.nm.toArray⟩, .slice ui1 item.attrs.length uc1, .string ⟨item.text.toArray⟩, .slice ui2 item.kids.length uc2]) (t := 40) (fr := (0, 0)) (by have := heap_alloc_new w5 (.cells #[.int .i64 2, .string ⟨item.nm.toArray⟩, .slice ui1 item.attrs.length uc1, .string ⟨item.text.toArray⟩, .slice ui2 item.kids.length uc2] 40); (try simp only [World.size_alloc] at this); exact this)) evs_one ?c3 ?c4 ?c5 ?_))
                    case c3 => unfold maxLen; omega
                    case c4 => omega
                    case c5 => (try simp); omega
                    intro v1 w4 hown4 hgrow4 _ hloc
                    obtain ⟨aoN, capN, rfl⟩ := owns_shape hown4
                    have hbZ : Below wr.heap.size wr ((w5).alloc (.cells #[.int .i64 2, .string ⟨item.nm.toArray⟩, .slice ui1 item.attrs.length uc1, .string ⟨item.text.toArray⟩, .slice ui2 item.kids.length uc2] 40)) := Below.alloc HB5.out (Below.size HB5.out) _
                    have RD4 : Hid (RdAt B it item (evs ++ [(2, item)]) (.slice aoN (L + 1) capN) w4) := by
                      have h := RdAt.app (B := B) (it := it) (item := item) (el := item) (evs := evs) (kk := 2) hitB (by rw [HL.out]; exact owns_below HOW.out hbZ) (HEV.out.step fun k hk hl => ⟨hk, hbZ.block k hl⟩) (At.below HAT.out hbZ hitw) (HIE.out.step fun k hk hl => ⟨hk, hbZ.block k hl⟩) ((HIE.out.step fun k hk hl => ⟨hk, hbZ.block k hl⟩)) (by rw [HL.out]; exact hown4) hgrow4 (by first | exact hloc | simpa only [World.size_alloc] using hloc)
                      exact h
                    have B4 : Hid (Below it w w4) := (HBW.out.trans (hbZ.mono hszi)).trans ((Below.refl _ _).grown hgrow4 (by simp; omega) (fun k hk => by have := (World.ownsRow.lt HOW.out k hk).1; omega))
                    have s4 : B ≤ w4.heap.size := by have := hgrow4.size; simp at this; omega
                    clear hown4 hgrow4 hloc hbZ
                    go_wp2_with fail
                    go_roundw
                    case rel =>
                      obtain ⟨S', r1, r2, r3, r4⟩ := NEXT.out ⟨head, false, item, 0, (cN : Int) + 1⟩ (some (2, item)) (HST.out)
                      exact ⟨j + 1, S', _, evs ++ [(2, item)], aoN, capN, by omega, by go_num, by rw [List.length_append, HL.out]; rfl, by rw [EHB.out], rfl, rfl, rfl, r1, r2, r3, r4, by rw [List.length_append, HL.out]; simp; omega, RD4.out, s4, B4.out⟩
                    case measure => simp [intOf]; omega)
                · have HST : Hid (stepD ⟨head, false, item, deep, (cN : Int)⟩ t = .inr (⟨head, false, item, dp, (cN : Int) + 1⟩, none)) := by
                    rw [if_neg hdz] at hst0
                    exact hst0
                  have hdz' : ((dp : Int) == 0) = false := by simp; omega
                  have hdz2 : ¬ (dp : Int) = 0 := by omega
                  clear hst0
                  go_wp2_with fail
                  go_region_with (go_at_call 25; refine (HOPEN _ ((Below.refl _ wr).alloc (Nat.le_refl _) _).drew).mono ?_; rintro r w5 ⟨⟨a5, b5, c5, d5, rfl, hE5⟩, hb5'⟩; obtain ⟨x1, y1, x2, y2, rfl, rfl⟩ := hE5.shape; obtain ⟨rfl, _, rfl, _⟩ := hE5.parts; rw [EON.out]; have hb5 : Below wr.heap.size wr w5 := ((Below.refl _ wr).alloc (Nat.le_refl _) _).drew.trans (hb5'.mono (by simp)); have hat5 := At.below HAT.out hb5 hitw; obtain ⟨m0, m1, m2, m3⟩ := hat5.c4; have htk5 : At wr.heap.size #[.int .i64 2, .string nb, .slice aoa A capa, .string xb] 38 w5 := (hb5'.block wr.heap.size (by simp)).trans (heap_alloc_new wr _); have l1 : w5.cell? ⟨wr.heap.size, 1, none⟩ = some (.string nb) := (by unfold At at htk5; simp [World.cell?, htk5]); have HB5 : Hid (Below wr.heap.size wr w5) := hb5; have z5 := hb5.size; clear hE5 hb5' hb5 hat5 htk5)
                  all_goals (
                    go_wp2_with fail
                    go_roundw
                    case rel =>
                      obtain ⟨S', r1, r2, r3, r4⟩ := NEXT.out ⟨head, false, item, dp, (cN : Int) + 1⟩ none (HST.out)
                      exact ⟨j + 1, S', _, evs, aoE, cE, by omega, by go_num, by rw [HL.out], by rw [EHB.out], rfl, rfl, rfl, r1, r2, r3, by simpa using r4, by rw [HL.out]; omega, by have h := RdAt.below HRD.out HB5.out; rw [HL.out] at h; exact h, Nat.le_trans hBw (Below.size HB5.out), HBW.out.trans (Below.mono HB5.out hszi)⟩
                    case measure => simp [intOf]; omega)
              · obtain ⟨onb, honb⟩ : ∃ onb, (⟨(openD item deep).nm.toArray⟩ : ByteArray) = onb := ⟨_, rfl⟩
                have hn1 : ¬ onb.toList = nb.toList := by rw [← honb, ← ENB.out, mk_toList, mk_toList]; exact hnm
                have hn2 : (onb.toList == nb.toList) = false := by simpa using hn1
                have EON : Hid _ := honb
                have st0 : stepD ⟨head, false, item, deep, (cN : Int)⟩ t = .inl 3 := by simp [stepD, EKD.out, HH.out, hd0m, HC6.out, hnm]
                have st : Hid _ := st0
                clear st0 honb hnm
                go_wp2_with fail
                go_region_with (go_at_call 25; refine (HOPEN _ ((Below.refl _ wr).alloc (Nat.le_refl _) _).drew).mono ?_; rintro r w5 ⟨⟨a5, b5, c5, d5, rfl, hE5⟩, hb5'⟩; obtain ⟨x1, y1, x2, y2, rfl, rfl⟩ := hE5.shape; obtain ⟨rfl, _, rfl, _⟩ := hE5.parts; rw [EON.out]; have hb5 : Below wr.heap.size wr w5 := ((Below.refl _ wr).alloc (Nat.le_refl _) _).drew.trans (hb5'.mono (by simp)); have hat5 := At.below HAT.out hb5 hitw; obtain ⟨m0, m1, m2, m3⟩ := hat5.c4; have htk5 : At wr.heap.size #[.int .i64 2, .string nb, .slice aoa A capa, .string xb] 38 w5 := (hb5'.block wr.heap.size (by simp)).trans (heap_alloc_new wr _); have l1 : w5.cell? ⟨wr.heap.size, 1, none⟩ = some (.string nb) := (by unfold At at htk5; simp [World.cell?, htk5]); have HB5 : Hid (Below wr.heap.size wr w5) := hb5; have z5 := hb5.size; clear hE5 hb5' hb5 hat5 htk5)
                all_goals (
                  go_wp2_with fail
                  exact bodyPost_ret (v := .tuple #[.slice aoE L cE, .int .i64 3, .int .i64 0]) (by simp [results, Tryd.results12, go_sem]) rfl (RET.out 3 _ (st.out) (HB5.out)))
            · have HSD : ∀ W, Below wr.heap.size wr W → Calls Tryd.prog 24 #[.agg #[.string ⟨item.nm.toArray⟩, .slice ui1 item.attrs.length uc1, .string ⟨item.text.toArray⟩, .slice ui2 item.kids.length uc2], .int .i64 (deep : Int), .string xb] W fun r w' => ElNew (fun k => Pz it (.slice aoE L cE) k ∧ k < wr.heap.size) W (saidD item deep t.text) r w' ∧ Below W.heap.size W w' := fun W hb => by
                have h := said_any dp (P := fun k => Pz it (.slice aoE L cE) k ∧ k < wr.heap.size) item t.text (.string ⟨item.nm.toArray⟩) (.slice ui1 item.attrs.length uc1) (.string ⟨item.text.toArray⟩) (.slice ui2 item.kids.length uc2) W (by rw [← HDP1.out]; exact HOKD.out) hdpb (fun k hk => Nat.lt_of_lt_of_le hk.2 hb.size) (by rw [← HDP1.out]; have := HTD.out; have := HTT.out.1; omega) (HIE.out.step fun k hk hl => ⟨⟨hk, hl⟩, hb.block k hl⟩)
                rw [← HDP1.out, EXB.out] at h
                exact h
              clear HOPEN
              go_wp2_with (go_at_call 24; refine (HSD _ ((Below.refl _ wr).alloc (Nat.le_refl _) _)).mono ?_; rintro r w5 ⟨⟨a5, b5, c5, d5, rfl, hE5'⟩, hb5'⟩; obtain ⟨x1, y1, x2, y2, rfl, rfl⟩ := hE5'.shape; obtain ⟨rfl, _, rfl, _⟩ := hE5'.parts; have HE5 : Hid (ElE _ _ _ _ _ _ _) := hE5'; have hb5 : Below wr.heap.size wr w5 := ((Below.refl _ wr).alloc (Nat.le_refl _) _).trans (hb5'.mono (by simp)); have hat5 := At.below HAT.out hb5 hitw; obtain ⟨m0, m1, m2, m3⟩ := hat5.c4; have y0 := hat5.f4 0; have y1 := hat5.f4 1; have y2 := hat5.f4 2; have y3 := hat5.f4 3; have HB5 : Hid (Below wr.heap.size wr w5) := hb5; clear hE5' hb5' hb5 hat5)
              go_roundw
              case rel =>
                obtain ⟨S', r1, r2, r3, r4⟩ := NEXT.out ⟨head, false, saidD item deep t.text, deep, (cN : Int) + 1⟩ none (by simp [stepD, EKD.out, HH.out, hd0m, HC6.out])
                have hr5 := RdAt.below HRD.out HB5.out
                rw [HL.out] at hr5
                have z5 := HB5.out.size
                have b3 := fun a5 b5 c5 d5 => ((((Below.refl it w5).setCell (p := ⟨it, 0, none⟩) (Nat.le_refl _) a5).setCell (p := ⟨it, 1, none⟩) (Nat.le_refl _) b5).setCell (p := ⟨it, 2, none⟩) (Nat.le_refl _) c5).setCell (p := ⟨it, 3, none⟩) (Nat.le_refl _) d5
                have rd3 := RdAt.put (item' := saidD item deep t.text) hr5 hitB HE5.out (fun k hk _ => pz_new hitw HOWN1.out (by rcases hk with h | h; (exact .inl h); exact .inr (by simp at h; omega))) rfl
                exact ⟨j + 1, S', _, evs, aoE, cE, by omega, by go_num, by rw [HL.out], by rw [EHB.out], rfl, rfl, rfl, r1, r2, r3, by simpa using r4, by rw [HL.out]; omega, rd3, Nat.le_trans (Nat.le_trans hBw z5) (b3 _ _ _ _).size, (HBW.out.trans (HB5.out.mono hszi)).trans (b3 _ _ _ _)⟩
              case measure => simp [intOf]; omega
    · obtain rfl : j = N := by omega
      have hnl : ¬ (j : Int) < (j : Int) := by omega
      have h := HSO.out
      rw [← HN.out] at h
      have hend := soFarD_end h
      rw [HR.out] at hend
      simp only [Prod.mk.injEq] at hend
      obtain ⟨he1, he2, hn2⟩ := hend
      subst he1 he2
      obtain ⟨xs, ia, ib, ic, id, h1, h2, _⟩ := HRD.out
      have FIN : Hid (∀ n, n2 = n → RdRes w evs2 0 n2 (.returned (.tuple #[.slice aoE evs2.length cE, .int .i64 0, .int .i64 n])) wr) := fun n hn => by
        subst hn
        exact ⟨aoE, _, cE, xs, rfl, owns_base h1 (by rw [HIT.out]; omega), h2.step (fun k _ _ => ⟨trivial, rfl⟩), by rw [HIT.out]; exact HBW.out⟩
      obtain ⟨L, hL⟩ : ∃ L, evs2.length = L := ⟨_, rfl⟩
      rw [hL] at hel FIN ⊢
      clear h h1 h2 hL
      by_cases hh : head = []
      · subst hh
        have hn0 : Hid (n2 = 0) := (by simpa using hn2 : n2 = 0)
        clear hn2
        go_wp2_with fail
        exact bodyPost_ret (v := .tuple #[.slice aoE L cE, .int .i64 0, .int .i64 0]) (by simp [results, Tryd.results12, go_sem]) rfl (FIN.out 0 hn0.out)
      · obtain ⟨hb, hhb⟩ : ∃ hb, (⟨head.toArray⟩ : ByteArray) = hb := ⟨_, rfl⟩
        have hbn1 : ¬ hb.toList = [] := by rw [← hhb, mk_toList]; exact hh
        have hbn2 : hb.toList.isEmpty = false := by simpa using hbn1
        rw [hhb]
        clear hhb
        cases foot with
        | true =>
          have hn0 : Hid (n2 = 0) := (by simpa using hn2 : n2 = 0)
          clear hn2 hh
          go_wp2_with fail
          exact bodyPost_ret (v := .tuple #[.slice aoE L cE, .int .i64 0, .int .i64 0]) (by simp [results, Tryd.results12, go_sem]) rfl (FIN.out 0 hn0.out)
        | false =>
          have hn0 : Hid (n2 = 1 + (deep : Int)) := (by simpa [hh] using hn2 : n2 = 1 + (deep : Int))
          clear hn2 hh
          go_wp2_with fail
          exact bodyPost_ret (v := .tuple #[.slice aoE L cE, .int .i64 0, .int .i64 (1 + (deep : Int))]) (by simp [results, Tryd.results12, go_sem]) rfl (FIN.out _ hn0.out)
end Go.Proofs.YthekdgnikkjpdaaDoor
