/-
  The contract of the document's wheel's call Set over this program: all of it.
-/
import Derived.Test.YtkgnaaocgejeiaaYe
namespace Go.Proofs.Ytkgnaaocgejeiaa
open Go Go.RowKit Go.Maps
theorem RRes.cat {q : Nat} {D D1 : List Nat} {now : Int} {L : List (Int × Int)} {w w1 w' : World} (hx : Nx D D1 w) (hf : Fr [q] w w1) (h : RRes q D1 now L w1 w') : RRes q D now L w w' := by
  obtain ⟨D', h1, h2, h3⟩ := h
  refine ⟨D', h1, fun k hk => ?_, hf.trans h3⟩
  rcases h2 k hk with h | h
  · exact hx k h
  · exact .inr (Nat.le_trans hf.1.size h)
set_option maxHeartbeats 4000000 in
set_option maxRecDepth 100000 in
theorem rset_ok (q : Nat) (D : List Nat) (now : Int) (L : List (Int × Int)) (z v : Int) (w : World) (h : RqAt q D now L w) (hok : Ok now L) (hv : ¬ v ≤ now) (hv2 : ¬ 1099511627776 < v) (hz : z ∈ ids L ∨ L.length ≠ 256) :
    Calls Try.prog 14 #[.pointer (some ⟨q, 0, none⟩), .int .i64 z, .int .i64 v] w fun e w' => e = .returned (.int .i64 0) ∧ RRes q D now (ins (z, v) (del z L)) w w' := by
  obtain ⟨i0, hi, hz0, hz1, hz2⟩ := info_parts info45
  have hL := hok.ln
  have HAT : ∃ x : Int, (Calls Try.prog 25 #[.pointer (some ⟨q, 0, none⟩), .int .i64 z] w fun e w' => e = .returned (.int .i64 x) ∧ w' = w) ∧ (¬ x < 0 ∨ (x < 0 ∧ ¬ (256 : Int) ≤ (L.length : Int))) := by
    by_cases hm : z ∈ ids L
    · obtain ⟨k, hk⟩ : ∃ k, (ids L)[k]? = some z := List.mem_iff_getElem?.1 hm
      exact ⟨(k : Int), rat_yes q D now L z k w h hok.nd hk (by omega), .inl (by omega)⟩
    · refine ⟨-1, rat_no q D now L z w h hm (by omega), .inr ⟨by omega, ?_⟩⟩
      have := hz.resolve_left hm
      omega
  obtain ⟨x, HAT, hx⟩ := HAT
  have HDR := rdrop_any q D now L z w h hok.nd hL
  obtain ⟨M, hM⟩ : ∃ M, del z L = M := ⟨_, rfl⟩
  have hMz : z ∉ ids M := by rw [← hM]; exact not_mem_del z L
  have hMs : M.Pairwise ltP := by rw [← hM]; exact (hok.del z).srt
  have hMl : M.length ≤ 255 := by
    rw [← hM]
    by_cases hm : z ∈ ids L
    · have := del_len hok.nd hm; omega
    · rw [del_none hm]; have := hz.resolve_left hm; omega
  rw [hM] at HDR ⊢
  obtain ⟨m, hm⟩ : ∃ m, M.length = m := ⟨_, rfl⟩
  obtain ⟨P, hP⟩ : ∃ P, plN (z, v) M = P := ⟨_, rfl⟩
  have hPm : P ≤ m := by rw [← hP, ← hm]; exact pl_le _ _
  have HPL : Hid (∀ (i : Nat) (p : Int × Int), M[i]? = some p → (ltP p (z, v) ↔ i < P)) := fun i p hp => by rw [← hP]; exact pl_lt hMs hp
  have HNZ : Hid (∀ (i : Nat) (p : Int × Int), M[i]? = some p → p.1 ≠ z) := fun i p hp e => hMz (List.mem_map.2 ⟨p, List.mem_of_getElem? hp, e⟩)
  have HIN : Hid (ins (z, v) M = M.take P ++ (z, v) :: M.drop P) := by rw [← hP]; exact ins_at _ _
  have EM : Hid _ := hm
  obtain ⟨ao0, cap0, hh1, _⟩ := h.ex
  have c0 := rq_c0 hh1
  have c1 := rq_c1 hh1
  obtain ⟨n, hn⟩ : ∃ n, L.length = n := ⟨_, rfl⟩
  rw [hn] at c0 hx
  rw [hm] at hMl
  clear h hok hz hh1 hM hMz hMs hP hL hn hm
  rcases hx with hx | ⟨hx, hx2⟩
  all_goals (
    go_enter Try.func14, Try.ntmps14
    go_wp2_with (first
      | (go_at_call 25; refine HAT.mono ?_; rintro e w ⟨rfl, rfl⟩)
      | (go_at_call 16; refine HDR.mono ?_; rintro e w1 ⟨rfl, D1, hr1, hx1, hf1⟩; have HQM : Hid (q ∈ D1) := hr1.qm; obtain ⟨ao, cap, h1, h2, h3, h4, h5⟩ := hr1.ex; have HX1 : Hid (Nx D D1 w) := hx1; have HF1 : Hid (Fr [q] w w1) := hf1; have b0 := rq_c0 h1; rw [EM.out] at b0 h1 h3 h4; have H1' : Hid (w1.heap[q]? = some (.cells #[.slice ao m cap, .int .i64 now] 29 (0, 0))) := h1; have H2 : Hid (RowD w1 ao M) := h2; have H4 : Hid (ao = none → m = 0 ∧ cap = 0) := h4; have H5 : Hid (∀ ad, ao = some ad → ad.spot = none) := (fun ad e => (h5 ad e).1); clear hr1 hx1 hf1 h1 h2 h4 h5))
    go_loopw [7] (fun kv wr => ∃ j : Nat, P ≤ j ∧ j ≤ m ∧ kv = .int .i64 (j : Int) ∧ wr = w1) (fun kv _ => (intOf kv).toNat)
    case atStart => exact ⟨m, hPm, Nat.le_refl _, rfl, rfl⟩
    case round =>
      obtain ⟨j, hPj, hjm, rfl, rfl⟩ := hrel
      obtain ⟨w1, rfl⟩ : ∃ w1, w1 = wr := ⟨_, rfl⟩
      by_cases hjP : j = P
      · obtain rfl : P = j := hjP.symm
        have HC : Hid (∀ W : World, W.heap[q]? = w1.heap[q]? → W.cell? ⟨q, 0, none⟩ = some (.slice ao m cap) ∧ W.frozen? ⟨q, 0, none⟩ = false) := fun W hW => ⟨rq_c0 (hW.trans H1'.out), rq_fz (hW.trans H1'.out) 0⟩
        have hql : q < w1.heap.size := lt_of_heap H1'.out
        have hPz : P = 0 ∨ ∃ (j' : Nat) (a b : Int), P = j' + 1 ∧ M[j']? = some (a, b) ∧ (b < v ∨ (b = v ∧ a < z)) := by
          rcases Nat.eq_zero_or_pos P with h0 | h0
          · exact .inl h0
          · refine .inr ⟨P - 1, (M[P - 1]'(by rw [EM.out]; omega)).1, (M[P - 1]'(by rw [EM.out]; omega)).2, by omega, List.getElem?_eq_getElem (by rw [EM.out]; omega), ?_⟩
            have := (HPL.out (P - 1) _ (List.getElem?_eq_getElem (by rw [EM.out]; omega))).2 (by omega)
            exact this
        cases ao with
        | none =>
          obtain ⟨rfl, rfl⟩ := H4.out rfl
          obtain rfl : P = 0 := by omega
          have H1 : Hid _ := H1'.out
          have HM : Hid ((M.take 0).length = 0 ∧ (M.drop 0).length = 0 ∧ 0 + 1 + 0 ≤ 256 ∧ (ins (z, v) M).length = 0 + 1 + 0) := ⟨rfl, by simpa using EM.out, by omega, by rw [ins_len, EM.out]⟩
          have hM0 : M = [] := List.length_eq_zero_iff.1 EM.out
          have HRT : Hid (∀ W, Below w1.heap.size w1 W → RowD W none (M.take 0)) := fun W _ i p hp => by simp at hp
          have HRD : Hid (RowD w1 none (M.drop 0)) := fun i p hp => by rw [hM0] at hp; simp at hp
          obtain ⟨d0, f0⟩ := HC.out w1 rfl
          obtain ⟨d9, f9⟩ := HC.out ((w1.alloc (.cells #[.int .i64 z, .int .i64 v] 45)).drew) (Below.heap_alloc _ _ _ hql)
          clear hPz hM0 hjm hPj hjP
          go_wp2_with fail
          refine rg9n q D1 now z v M w1 H1.out HQM.out HM.out HIN.out HRT.out HRD.out _ _ (fun u81 u82 u83 u84 u85 u86 u87 u88 u89 u90 u91 u92 u93 u94 u95 u96 u97 u98 u99 u100 u101 u102 w8 hr8 => ?_)
          have HR8 : Hid (RRes q D1 now (ins (z, v) M) w1 w8) := hr8
          clear hr8
          go_wp2_with fail
          go_ret
          exact ⟨rfl, RRes.cat HX1.out HF1.out HR8.out⟩
        | some ad =>
          obtain ⟨g, off, sp⟩ := ad
          obtain rfl : sp = none := H5.out _ rfl
          have H1 : Hid _ := H1'.out
          obtain ⟨m2, hm2⟩ : ∃ m2, m - P = m2 := ⟨_, rfl⟩
          obtain ⟨dp, hdp⟩ : ∃ dp, (if cap = P then some (⟨g, off, none⟩ : Addr) else some ⟨g, off + P * 2, none⟩) = dp := ⟨_, rfl⟩
          have HM : Hid ((M.take P).length = P ∧ (M.drop P).length = m2 ∧ P + 1 + m2 ≤ 256 ∧ (ins (z, v) M).length = P + 1 + m2) := ⟨by rw [List.length_take, EM.out]; omega, by rw [List.length_drop, EM.out, hm2], by omega, by rw [ins_len, EM.out]; omega⟩
          have HRT : Hid (∀ W, Below w1.heap.size w1 W → RowD W (some ⟨g, off, none⟩) (M.take P)) := fun W hW => (H2.out.take P).below hW
          have HRD : Hid (RowD w1 dp (M.drop P)) := RowD.drop H2.out (by rw [EM.out]; exact h3) hdp
          have HDN : Hid (dp = none → False) := fun e => by rw [e] at hdp; split at hdp <;> cases hdp
          obtain ⟨d0, f0⟩ := HC.out w1 rfl
          obtain ⟨d9, f9⟩ := HC.out ((w1.alloc (.cells #[.int .i64 z, .int .i64 v] 45)).drew) (Below.heap_alloc _ _ _ hql)
          have p0 : (0 : Int) ≤ (P : Int) := by omega
          have p1 : (P : Int) ≤ (m : Int) := by omega
          have p2 : (m : Int) ≤ (cap : Int) := by omega
          have p3 : (P : Int) ≤ (cap : Int) := by omega
          clear hjP
          rcases hPz with h0 | ⟨j', a, b, hj', hp, hb | ⟨hb, ha⟩⟩
          · have p4 : ¬ (0 : Int) < (P : Int) := by omega
            clear h0 hPj
            go_wp2_with fail
            refine rg9s q D1 now z v M g off cap m P m2 dp w1 H1.out HQM.out HM.out HIN.out HRT.out HRD.out hdp p0 p1 p2 p3 hm2 _ _ (fun u81 u82 u83 u84 u85 u86 u87 u88 u89 u90 u91 u92 u93 u94 u95 u96 u97 u98 u99 u100 u101 u102 w8 hr8 => ?_)
            have HR8 : Hid (RRes q D1 now (ins (z, v) M) w1 w8) := hr8
            clear hr8
            go_wp2_with fail
            go_ret
            exact ⟨rfl, RRes.cat HX1.out HF1.out HR8.out⟩
          · obtain ⟨g', off', e', k1, k2⟩ := H2.out j' _ hp
            cases e'
            have p4 : (0 : Int) < (P : Int) := by omega
            have p5 : IntKind.i64.wrap ((P : Int) - 1) = (j' : Int) := by simp only [IntKind.wrap_i64]; omega
            have p6 : (0 : Int) ≤ (j' : Int) := by omega
            have p7 : (j' : Int) < (m : Int) := by omega
            have b1 : ¬ v < b := by omega
            have b2 : (b == v) = false := by simp; omega
            have b3 : ¬ b = v := by omega
            clear hp hb hj' hPj
            go_wp2_with fail
            refine rg9s q D1 now z v M g off cap m P m2 dp w1 H1.out HQM.out HM.out HIN.out HRT.out HRD.out hdp p0 p1 p2 p3 hm2 _ _ (fun u81 u82 u83 u84 u85 u86 u87 u88 u89 u90 u91 u92 u93 u94 u95 u96 u97 u98 u99 u100 u101 u102 w8 hr8 => ?_)
            have HR8 : Hid (RRes q D1 now (ins (z, v) M) w1 w8) := hr8
            clear hr8
            go_wp2_with fail
            go_ret
            exact ⟨rfl, RRes.cat HX1.out HF1.out HR8.out⟩
          · obtain ⟨g', off', e', k1, k2⟩ := H2.out j' _ hp
            cases e'
            obtain rfl : v = b := hb.symm
            have p4 : (0 : Int) < (P : Int) := by omega
            have p5 : IntKind.i64.wrap ((P : Int) - 1) = (j' : Int) := by simp only [IntKind.wrap_i64]; omega
            have p6 : (0 : Int) ≤ (j' : Int) := by omega
            have p7 : (j' : Int) < (m : Int) := by omega
            have b1 : ¬ z < a := by omega
            clear hp ha hj' hPj
            go_wp2_with fail
            refine rg9s q D1 now z v M g off cap m P m2 dp w1 H1.out HQM.out HM.out HIN.out HRT.out HRD.out hdp p0 p1 p2 p3 hm2 _ _ (fun u81 u82 u83 u84 u85 u86 u87 u88 u89 u90 u91 u92 u93 u94 u95 u96 u97 u98 u99 u100 u101 u102 w8 hr8 => ?_)
            have HR8 : Hid (RRes q D1 now (ins (z, v) M) w1 w8) := hr8
            clear hr8
            go_wp2_with fail
            go_ret
            exact ⟨rfl, RRes.cat HX1.out HF1.out HR8.out⟩
      · obtain ⟨j', rfl⟩ : ∃ j', j = j' + 1 := ⟨j - 1, by omega⟩
        obtain ⟨⟨a, b⟩, hp⟩ : ∃ p, M[j']? = some p := ⟨_, List.getElem?_eq_getElem (by rw [EM.out]; omega)⟩
        obtain ⟨g, off, rfl, k1, k2⟩ := H2.out j' _ hp
        have hnl := (HPL.out j' _ hp).1
        have hnz := HNZ.out j' _ hp
        have p4 : (0 : Int) < ((j' + 1 : Nat) : Int) := by omega
        have p5 : IntKind.i64.wrap (((j' + 1 : Nat) : Int) - 1) = (j' : Int) := by simp only [IntKind.wrap_i64]; omega
        have p6 : (0 : Int) ≤ (j' : Int) := by omega
        have p7 : (j' : Int) < (m : Int) := by omega
        have hc : v < b ∨ (b = v ∧ z < a) := by
          have hno : ¬ ltP (a, b) (z, v) := fun h => by have := hnl h; omega
          unfold ltP at hno
          simp only at hno hnz
          omega
        clear hp hnl hnz
        rcases hc with hc | ⟨rfl, hc⟩
        · go_wp2_with fail
          go_roundw
          case rel => exact ⟨j', by omega, by omega, by go_num, trivial⟩
          case measure => simp [intOf] <;> omega
        · go_wp2_with fail
          go_roundw
          case rel => exact ⟨j', by omega, by omega, by go_num, trivial⟩
          case measure => simp [intOf] <;> omega)
theorem rset_any (q : Nat) (D : List Nat) (now : Int) (L : List (Int × Int)) (z v : Int) (w : World) (h : RqAt q D now L w) (hok : Ok now L) :
    Calls Try.prog 14 #[.pointer (some ⟨q, 0, none⟩), .int .i64 z, .int .i64 v] w fun e w' => e = .returned (.int .i64 (setE now L z v)) ∧ RRes q D now (setL now L z v) w w' := by
  unfold setL setE
  by_cases e1 : v ≤ now ∨ 1099511627776 < v
  · rw [if_pos e1, if_neg (by decide)]
    refine (rset_bad q D now L z v w h e1).mono fun e w' ⟨he, hw⟩ => ?_
    subst hw
    exact ⟨he, RRes.refl h⟩
  · rw [if_neg e1]
    by_cases e2 : z ∉ ids L ∧ L.length = 256
    · rw [if_pos e2, if_neg (by decide)]
      refine (rset_full q D now L z v w h (by omega) (by omega) e2.1 e2.2).mono fun e w' ⟨he, hw⟩ => ?_
      subst hw
      exact ⟨he, RRes.refl h⟩
    · rw [if_neg e2, if_pos rfl]
      refine rset_ok q D now L z v w h hok (by omega) (by omega) ?_
      by_cases hz : z ∈ ids L
      · exact .inl hz
      · exact .inr fun e3 => e2 ⟨hz, e3⟩
end Go.Proofs.Ytkgnaaocgejeiaa
