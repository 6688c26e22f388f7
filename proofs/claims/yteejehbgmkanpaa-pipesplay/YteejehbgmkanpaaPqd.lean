/-
  The program's connections and the document's, side by side; the walk of the statement PipesPlay over this program.
-/
import Derived.Test.YteejehbgmkanpaaPqc
namespace Go.Proofs.Yteejehbgmkanpaa
open Go Go.RowKit
/-- The program's connections and the document's, apart, above a block number; blocks beside both. -/
structure Duo (B ga q : Nat) (T : List Nat) (c : Nat → Pp) (d : Nat → Qp) (w : World) : Prop where
  ex : ∃ Sa, PsM ga Sa c w ∧ q ∉ Sa ∧ (∀ k ∈ Sa, B ≤ k ∧ k ∉ T)
  qa : PqAt q d w
  qB : B ≤ q
  qT : q ∉ T
  tl : ∀ k ∈ T, k < w.heap.size
theorem Duo.ob {B ga q : Nat} {T : List Nat} {c : Nat → Pp} {d : Nat → Qp} {w : World} (h : Duo B ga q T c d w) : Ob B ga c w := by
  obtain ⟨Sa, h1, h2, h3⟩ := h.ex
  exact ⟨Sa, h1, fun k hk => (h3 k hk).1⟩
theorem Duo.below {B ga q : Nat} {T : List Nat} {c : Nat → Pp} {d : Nat → Qp} {w w' : World} (h : Duo B ga q T c d w) (hb : Below w.heap.size w w') : Duo B ga q T c d w' := by
  obtain ⟨Sa, h1, h2, h3⟩ := h.ex
  exact ⟨⟨Sa, h1.below hb, h2, h3⟩, h.qa.below hb, h.qB, h.qT, fun k hk => Nat.lt_of_lt_of_le (h.tl k hk) hb.size⟩
theorem Duo.alike {B ga q : Nat} {T : List Nat} {c : Nat → Pp} {d : Nat → Qp} {w w' : World} (h : Duo B ga q T c d w) (e : w'.heap = w.heap) : Duo B ga q T c d w' := by
  obtain ⟨Sa, h1, h2, h3⟩ := h.ex
  exact ⟨⟨Sa, h1.alike e, h2, h3⟩, h.qa.alike e, h.qB, h.qT, fun k hk => by rw [e]; exact h.tl k hk⟩
theorem duo_new {B ga : Nat} {c : Nat → Pp} {w : World} (h : Ob B ga c w) (hB : B ≤ w.heap.size) : Duo B ga w.heap.size [] c (fun _ => q0) (w.alloc (.cells z31 31 (0, 0))) := by
  obtain ⟨S, h1, h2⟩ := h
  exact ⟨⟨S, h1.below ((Below.refl _ _).alloc (Nat.le_refl _) _), fun e => Nat.lt_irrefl _ (h1.lt _ e), fun k hk => ⟨h2 k hk, fun e => (by cases e)⟩⟩, PqAt.made w, hB, fun e => (by cases e), fun k hk => (by cases hk)⟩
/-- Blocks that came to be behind both are beside both. -/
theorem Duo.more {B ga q : Nat} {U : List Nat} {c : Nat → Pp} {d : Nat → Qp} {w w' : World} (h : Duo B ga q [] c d w) (hb : Below w.heap.size w w') (hU : ∀ k ∈ U, w.heap.size ≤ k ∧ k < w'.heap.size) : Duo B ga q U c d w' := by
  obtain ⟨Sa, h1, h2, h3⟩ := h.ex
  refine ⟨⟨Sa, h1.below hb, h2, fun k hk => ⟨(h3 k hk).1, fun e => ?_⟩⟩, h.qa.below hb, h.qB, fun e => ?_, fun k hk => (hU k hk).2⟩
  · have := (hU k e).1
    have := h1.lt k hk
    omega
  · have := (hU q e).1
    have := h.qa.lt
    omega
theorem duo_a {B ga q : Nat} {T : List Nat} {c : Nat → Pp} {d : Nat → Qp} {m : Nat} (k id n : Int) (s : ByteArray) (w : World) (h : Duo B ga q T c d w) (hB : B ≤ w.heap.size) (hg : Good c m) (hm : m ≤ 100000) (hs : s.size ≤ 40) :
    Calls Try.prog 11 #[.pointer (some ⟨ga, 0, none⟩), .agg #[.int .i64 k, .int .i64 id, .int .i64 n, .string s]] w fun e w' => e = .returned (.int .i64 (stE c (kd k) id s)) ∧ Duo B ga q T (stC c (kd k) id n s) d w' ∧ Below B w w' ∧ Stay T w w' := by
  obtain ⟨Sa, h1, h2, h3⟩ := h.ex
  refine (does_any ga Sa c k id n s w h1 (fun i hi => (hg i hi).1) (fun i hi => by have := (hg i hi).2; omega)).mono fun e w' ⟨he, hL⟩ => ⟨he, ?_⟩
  obtain ⟨S', k1, k2, k3⟩ := hL.ex
  refine ⟨⟨⟨S', k1, fun e => ?_, fun x hx => ?_⟩, h.qa.keep (k3.2 q h.qa.lt h2), h.qB, h.qT, fun x hx => Nat.lt_of_lt_of_le (h.tl x hx) k3.1.size⟩, k3.below hB fun x hx => (h3 x hx).1, fun x hx => k3.2 x (h.tl x hx) fun e => (h3 x e).2 hx⟩
  · rcases k2 q e with e | e
    · exact h2 e
    · have := h.qa.lt
      omega
  · rcases k2 x hx with e | e
    · exact h3 x e
    · exact ⟨Nat.le_trans hB e, fun e' => by have := h.tl x e'; omega⟩
theorem duo_b {B ga q : Nat} {T : List Nat} {c : Nat → Pp} {d : Nat → Qp} {m : Nat} (k id n : Int) (s : ByteArray) (w : World) (h : Duo B ga q T c d w) (hB : B ≤ w.heap.size) (hg : Goq d m) (hm : m ≤ 100000) (hs : s.size ≤ 40) :
    Calls Try.prog 12 #[.pointer (some ⟨q, 0, none⟩), .agg #[.int .i64 k, .int .i64 id, .int .i64 n, .string s]] w fun e w' => e = .returned (.int .i64 (qtE d (kd k) id s)) ∧ Duo B ga q T c (qtC d (kd k) id n s) w' ∧ Below B w w' ∧ Stay T w w' := by
  obtain ⟨Sa, h1, h2, h3⟩ := h.ex
  refine (qdoes_any q d k id n s w h.qa (fun i hi => ⟨Nat.le_trans (hg i hi).1 hm, (hg i hi).2⟩) (by omega)).mono fun e w' ⟨he, hL, hf⟩ => ⟨he, ?_⟩
  exact ⟨⟨⟨Sa, h1.fr hf fun x hx e => h2 (by rw [List.mem_singleton.1 e] at hx; exact hx), h2, h3⟩, hL, h.qB, h.qT, fun x hx => Nat.lt_of_lt_of_le (h.tl x hx) hf.1.size⟩, hf.below hB fun x hx => by rw [List.mem_singleton.1 hx]; exact h.qB, fun x hx => hf.2 x (h.tl x hx) fun e => h.qT (by rw [List.mem_singleton.1 e] at hx; exact hx)⟩
theorem allN_congr {f g : Nat → Bool} : ∀ k, (∀ i, i < k → f i = g i) → allN f k = allN g k
  | 0, _ => rfl
  | k + 1, h => by
    unfold allN
    rw [allN_congr k fun i hi => h i (by omega), h k (by omega)]
theorem own_alike {w w' : World} {B : Nat} {e : TypeId} {sz : Nat} {v : Value} {n : Nat} {xs : List Value} (h : w.ownsRow B e sz v n xs) (hh : w'.heap = w.heap) : w'.ownsRow B e sz v n xs := owns_keep h fun g _ => by rw [hh]
theorem stay_trans {T : List Nat} {a b c : World} (h : Stay T a b) (k : Stay T b c) : Stay T a c := fun x hx => (k x hx).trans (h x hx)
set_option maxRecDepth 100000 in
set_option maxHeartbeats 8000000 in
theorem play_walk (ao : Option Addr) (cap : Nat) (l : List Sp) (w : World) (ha : ArgOps w ao l) (hn : ∀ t ∈ l, N t.n) :
    Calls Try.prog 3 #[.slice ao l.length cap] w fun e w' => e = .returned (.bool true) ∧ Below w.heap.size w w' := by
  obtain ⟨t0, hi, hz0, hz1, hz2⟩ := info_parts info3
  have HL := fun W => lives_any W
  have HZ := zero31
  have HE := fun W h => early_ops ao cap l W h
  have HN : Hid (∀ t ∈ l, N t.n) := hn
  have HR : Hid (ArgOps w ao l) := ha
  have hla := earlyN_len l
  obtain ⟨na, hna'⟩ : ∃ na, (earlyN l).length = na := ⟨_, rfl⟩
  have ENA : Hid ((earlyN l).length = na) := hna'
  simp only [hna'] at HE
  rw [hna'] at hla
  clear ha hn hna'
  go_enter Try.func3, Try.ntmps3
  go_wp2_with (first
    | (go_at_call 8; refine (HL w).mono ?_; rintro e w1 ⟨rfl, hb1⟩; have HB1 : Hid (Below w.heap.size w w1) := hb1; have hs1 := hb1.size; clear hb1)
    | (go_at_call 9; refine (new_b w.heap.size w1 hs1).mono ?_; rintro e w2 ⟨rfl, hO2, hb2⟩; have HO2 : Hid (Ob w.heap.size w1.heap.size (fun _ => p0) w2) := hO2; have HB2 : Hid (Below w.heap.size w w2) := HB1.out.trans (hb2.mono hs1); have hs2 : w.heap.size ≤ w2.heap.size := Nat.le_trans hs1 hb2.size; clear hO2 hb2)
    | (go_at_call 10; refine (HE _ ?_).mono ?_; exact HR.out.below (HB2.out.alloc hs2 _); rintro e w4 ⟨ao', cap', rfl, hca, hra, ⟨T, ht1, ht2⟩, hb4⟩; have HB4 : Hid (Below (w2.alloc (.cells z31 31 (0, 0))).heap.size (w2.alloc (.cells z31 31 (0, 0))) w4) := hb4; have HR4 : Hid (ArgOps w4 ao' (earlyN l)) := hra; have HTa : Hid _ := ht1; have HUa : Hid (∀ g off, ao' = some ⟨g, off, none⟩ → g ∈ T) := ht2; clear hb4 hra ht1 ht2))
  obtain ⟨ga, hga⟩ : ∃ ga, w1.heap.size = ga := ⟨_, rfl⟩
  obtain ⟨q, hq⟩ : ∃ q, w2.heap.size = q := ⟨_, rfl⟩
  have HD0 : Hid (Duo w.heap.size ga q T (fun _ => p0) (fun _ => q0) w4) := by
    rw [← hga, ← hq]
    exact (duo_new HO2.out hs2).more HB4.out HTa.out
  have HBW : Hid (Below w.heap.size w w4) := (HB2.out.alloc hs2 _).trans (HB4.out.mono (by simp; omega))
  rw [hga, hq]
  clear hga hq HO2 HB1 HB2 HB4 HTa HE HL HZ hs1 hs2
  go_loopw [5] (fun i wr => ∃ (k : Nat) (c : Nat → Pp) (d : Nat → Qp), k ≤ 100 ∧ k ≤ na ∧ i = .int .i64 (k : Int) ∧ Duo w.heap.size ga q T c d wr ∧ (∀ i, i < 16 → Rq (c i) (d i)) ∧ Good c (40 * k) ∧ (∀ i, i < 16 → N (d i).lf) ∧ ArgOps wr ao' (earlyN l) ∧ Below w.heap.size w wr) (fun i _ => 100 - (intOf i).toNat)
  case atStart => exact ⟨0, _, _, by omega, by omega, rfl, HD0.out, fun _ _ => rel_start, good_p0, fun _ _ => (by show N 0; unfold N; omega), HR4.out, HBW.out⟩
  case round =>
    obtain ⟨k, c, d, hk, hkn, rfl, hD, hrel, hg, hnq, hra, hb⟩ := hrel
    have HD : Hid (Duo w.heap.size ga q T c d wr) := hD
    have HREL : Hid (∀ i, i < 16 → Rq (c i) (d i)) := hrel
    have HG : Hid (Good c (40 * k)) := hg
    have HNQ : Hid (∀ i, i < 16 → N (d i).lf) := hnq
    have HRA : Hid (ArgOps wr ao' (earlyN l)) := hra
    have HB : Hid (Below w.heap.size w wr) := hb
    have hsz := hb.size
    clear hD hrel hg hnq hra hb HD0 HR4 HBW
    have i0 : (0 : Int) ≤ (k : Int) := by omega
    by_cases h1 : k < na
    · obtain ⟨t, ht⟩ : ∃ t, (earlyN l)[k]? = some t := ⟨_, List.getElem?_eq_getElem (by rw [ENA.out]; omega)⟩
      obtain ⟨g, off, rfl, hg, a0, a1, a2, a3⟩ := HRA.out k t ht
      obtain ⟨u, hu, eu⟩ := earlyN_get ht
      have hN : N t.n := by rw [eu]; exact HN.out u hu
      have hS : t.s.size ≤ 40 := by rw [eu]; exact cut_size u
      have HDA := fun W' (h : Duo w.heap.size ga q T c d W') hB => duo_a t.k t.id t.n t.s W' h hB HG.out (by omega) hS
      have HDB := fun c' W' (h : Duo w.heap.size ga q T c' d W') hB => duo_b t.k t.id t.n t.s W' h hB (Goq.of HREL.out HG.out HNQ.out) (by omega) hS
      obtain ⟨eE, hR7⟩ := rel_st HREL.out (fun i hi => (HG.out i hi).1) (kd t.k) t.id t.n t.s
      have HR7 : Hid (∀ i, i < 16 → Rq (stC c (kd t.k) t.id t.n t.s i) (qtC d (kd t.k) t.id t.n t.s i)) := hR7
      have HG7 : Hid (Good (stC c (kd t.k) t.id t.n t.s) (40 * k + 40)) := HG.out.step hN hS
      have HN7 : Hid (∀ i, i < 16 → N (qtC d (kd t.k) t.id t.n t.s i).lf) := qtC_n HNQ.out hN
      simp only [← eE] at HDB
      obtain ⟨c7, hc7⟩ : ∃ c7, stC c (kd t.k) t.id t.n t.s = c7 := ⟨_, rfl⟩
      obtain ⟨d7, hd7⟩ : ∃ d7, qtC d (kd t.k) t.id t.n t.s = d7 := ⟨_, rfl⟩
      obtain ⟨e7, he7⟩ : ∃ e7, stE c (kd t.k) t.id t.s = e7 := ⟨_, rfl⟩
      simp only [hc7, hd7, he7] at HDA HDB HR7 HG7 HN7
      have HDB7 := HDB c7
      have HX : Hid (∀ W' : World, Stay T wr W' → wr.heap.size ≤ W'.heap.size → W'.cell? ⟨g, off + k * 4, none⟩ = some (.int .i64 t.k) ∧ W'.cell? ⟨g, off + k * 4 + 1, none⟩ = some (.int .i64 t.id) ∧ W'.cell? ⟨g, off + k * 4 + 2, none⟩ = some (.int .i64 t.n) ∧ W'.cell? ⟨g, off + k * 4 + 3, none⟩ = some (.string t.s)) := fun W' hW hs => by
        obtain ⟨g', off', e, _, b0, b1, b2, b3⟩ := (HRA.out.stay HUa.out hW hs) k t ht
        cases e
        exact ⟨b0, b1, b2, b3⟩
      obtain ⟨tk, tid, tn, ts⟩ := t
      simp only at a0 a1 a2 a3 HDA HDB7 HX
      have i1 : (k : Int) < (na : Int) := by omega
      clear ht hu eu hN hS eE hR7 HDB hc7 hd7 he7 HREL HG HNQ
      go_wp2_with fail
      go_region_with (first
        | (go_at_call 12; refine (HDB7 _ ?_ ?_).mono ?_; exact HT6.out.alike rfl; exact hz6; rintro e w7 ⟨rfl, ht7, hb7, hst7⟩; have HT7 : Hid (Duo w.heap.size ga q T c7 d7 w7) := ht7; have HB7 : Hid (Below w.heap.size w w7) := HB6.out.trans ⟨hb7.os, hb7.tape, hb7.output, hb7.size, hb7.block⟩; have HS7 : Hid (Stay T wr w7) := stay_trans HS6.out hst7; have hz7 : wr.heap.size ≤ w7.heap.size := Nat.le_trans hy6 hb7.size; clear ht7 hb7 hst7)
        | (go_at_call 11; refine (HDA _ ?_ ?_).mono ?_; exact HD.out.alike rfl; exact hsz; rintro e w6 ⟨rfl, ht6, hb6, hst6⟩; have HT6 : Hid (Duo w.heap.size ga q T c7 d w6) := ht6; have HB6 : Hid (Below w.heap.size w w6) := HB.out.trans ⟨hb6.os, hb6.tape, hb6.output, hb6.size, hb6.block⟩; have HS6 : Hid (Stay T wr w6) := hst6; obtain ⟨v0, v1, v2, v3⟩ := HX.out w6 hst6 hb6.size; have hz6 : w.heap.size ≤ w6.heap.size := HB6.out.size; have hy6 : wr.heap.size ≤ w6.heap.size := hb6.size; clear ht6 hb6 hst6))
      all_goals (
        go_wp2_with fail
        obtain ⟨f, hf⟩ : ∃ f : Nat → Bool, f = fun i => (d7 i).op := ⟨_, rfl⟩
        have HF : Hid (f = fun i => (d7 i).op) := hf
        have HFC : Hid (allN (fun i => (c7 i).op) 16 = allN f 16) := by
          show _ = _
          rw [hf]
          exact allN_congr 16 fun i hi => (HR7.out i hi).op
        clear hf HT6 HB6 HS6 hz6 hy6 HDA HDB7 HX a0 a1 a2 a3 v0 v1 v2 v3
        go_loopw [6, 7] (fun v0 iv wi => ∃ (v : Value) (m : Nat), v = v0 ∧ m ≤ 16 ∧ iv = .int .i64 (m : Int) ∧ wi.ownsRow w7.heap.size 3 1 v (allN f m).length (ints (allN f m)) ∧ Below w7.heap.size w7 wi) (fun _ iv _ => 16 - (intOf iv).toNat)
        case atStart => exact ⟨_, 0, rfl, by omega, rfl, World.ownsRow_nil _ _ _ _, Below.refl _ _⟩
        case round =>
          obtain ⟨v, m, rfl, hm, rfl, ho, hbi⟩ := hrel
          have HO : Hid (wr.ownsRow w7.heap.size 3 1 v (allN f m).length (ints (allN f m))) := ho
          have HBI : Hid (Below w7.heap.size w7 wr) := hbi
          have HDI : Hid (Duo w.heap.size ga q T c7 d7 wr) := HT7.out.below hbi
          have hln := allN_len f m
          have hszi := hbi.size
          by_cases hlt : m < 16
          · have hR := HR7.out m hlt
            obtain ⟨x0, x1, x2, x3⟩ := HDI.out.qa.cells hlt
            have HU := fun W (h : Duo w.heap.size ga q T c7 d7 W) => out_b _ ga c7 m W h.ob hlt
            have HI := fun W (h : Duo w.heap.size ga q T c7 d7 W) => is_b _ ga c7 m W h.ob hlt
            have HH := fun W (h : Duo w.heap.size ga q T c7 d7 W) => whole_b _ ga c7 m W h.ob hlt
            rw [rel_wh hR] at HH
            rw [hR.out] at HU
            rw [hR.op] at HI
            unfold Qp.wh at HH
            obtain ⟨u, hu⟩ : ∃ u, (d7 m).out = u := ⟨_, rfl⟩
            obtain ⟨b1, hb1⟩ : ∃ b, (d7 m).op = b := ⟨_, rfl⟩
            obtain ⟨b2, hb2⟩ : ∃ b, (d7 m).bk = b := ⟨_, rfl⟩
            have hfm : f m = b1 := by rw [HF.out, ← hb1]
            rw [hu] at x3 HU
            rw [hb1] at x0 HI HH
            rw [hb2] at x1 HH
            have q0 : (0 : Int) ≤ (m : Int) := by omega
            have q1 : (m : Int) < 16 := by omega
            clear ho hbi hR hu hb1 hb2 x2
            cases b1 with
            | true =>
              have EN : Hid (allN f (m + 1) = allN f m ++ [(m : Int)]) := if_pos hfm
              clear hfm
              cases b2 with
              | true =>
                simp only [Bool.not_true, Bool.and_false] at HH
                go_wp2_with fail
                go_quiet (first
                  | (go_at_call 13; refine Calls.quiet_of_same (HU _ ?_); exact HDI.out.alike rfl)
                  | (go_at_call 14; refine Calls.quiet_of_same (HI _ ?_); exact HDI.out.alike rfl)
                  | (go_at_call 15; refine Calls.quiet_of_same (HH _ ?_); exact HDI.out.alike rfl))
                go_wp2_with (at_builtin; refine wpList_append_own _ rfl _ _ 38 rfl w7.heap.size 3 t0 (.int .i64 0) 1 8 Try.underlying38 hi hz0 hz1 hz2 rfl (by decide) v _ _ rfl (World.ownsRow.alloc (own_alike HO.out rfl) _) ⟨wr.heap.size, 0, none⟩ 1 1 [.int .i64 (m : Int)] rfl rfl (cell_one_new _ _ _) (ints_one [(m : Int)]) (by unfold maxLen; omega) (by omega) (by simp; omega) ?_; intro v2 w2 ho2 hg2 hn2; have HO2 : Hid _ := ho2; have HG2 : Hid _ := hg2; clear ho2 hg2 hn2)
                go_roundw
                case rel =>
                  refine ⟨_, m + 1, rfl, by omega, by go_num, ?_, ?_⟩
                  · rw [EN.out, ints_app, List.length_append]
                    exact HO2.out
                  · refine ((below_drewN HBI.out).alloc (Nat.le_trans hszi (Nat.le_refl _)) _).grown HG2.out (by simp; omega) fun g hg => ?_
                    exact (World.ownsRow.lt HO.out g hg).1
                case measure => simp [intOf]; omega
              | false =>
                simp only [Bool.not_false, Bool.and_true] at HH
                go_wp2_with fail
                go_quiet (first
                  | (go_at_call 13; refine Calls.quiet_of_same (HU _ ?_); exact HDI.out.alike rfl)
                  | (go_at_call 14; refine Calls.quiet_of_same (HI _ ?_); exact HDI.out.alike rfl)
                  | (go_at_call 15; refine Calls.quiet_of_same (HH _ ?_); exact HDI.out.alike rfl))
                go_wp2_with (at_builtin; refine wpList_append_own _ rfl _ _ 38 rfl w7.heap.size 3 t0 (.int .i64 0) 1 8 Try.underlying38 hi hz0 hz1 hz2 rfl (by decide) v _ _ rfl (World.ownsRow.alloc (own_alike HO.out rfl) _) ⟨wr.heap.size, 0, none⟩ 1 1 [.int .i64 (m : Int)] rfl rfl (cell_one_new _ _ _) (ints_one [(m : Int)]) (by unfold maxLen; omega) (by omega) (by simp; omega) ?_; intro v2 w2 ho2 hg2 hn2; have HO2 : Hid _ := ho2; have HG2 : Hid _ := hg2; clear ho2 hg2 hn2)
                go_roundw
                case rel =>
                  refine ⟨_, m + 1, rfl, by omega, by go_num, ?_, ?_⟩
                  · rw [EN.out, ints_app, List.length_append]
                    exact HO2.out
                  · refine ((below_drewN HBI.out).alloc (Nat.le_trans hszi (Nat.le_refl _)) _).grown HG2.out (by simp; omega) fun g hg => ?_
                    exact (World.ownsRow.lt HO.out g hg).1
                case measure => simp [intOf]; omega
            | false =>
              have EN : Hid (allN f (m + 1) = allN f m) := if_neg (by rw [hfm]; decide)
              clear hfm
              simp only [Bool.false_and] at HH
              go_wp2_with fail
              go_quiet (first
                | (go_at_call 13; refine Calls.quiet_of_same (HU _ ?_); exact HDI.out.alike rfl)
                | (go_at_call 14; refine Calls.quiet_of_same (HI _ ?_); exact HDI.out.alike rfl)
                | (go_at_call 15; refine Calls.quiet_of_same (HH _ ?_); exact HDI.out.alike rfl))
              go_wp2_with fail
              go_roundw
              case rel => exact ⟨_, m + 1, rfl, by omega, by go_num, by rw [EN.out]; exact own_alike HO.out rfl, below_drewN HBI.out⟩
              case measure => simp [intOf]; omega
          · obtain rfl : m = 16 := by omega
            obtain ⟨L, hL⟩ : ∃ L, allN f 16 = L := ⟨_, rfl⟩
            rw [hL] at ho hln
            have HFC2 : Hid (allN (fun i => (c7 i).op) 16 = L) := by
              show _ = _
              rw [HFC.out, hL]
            obtain ⟨aoA, capA, rfl, hzA, _⟩ := own_row ho
            have HZA : Hid (RowZ wr aoA L) := hzA
            have HALL := all_b _ ga c7 wr HDI.out.ob
            rw [HFC2.out] at HALL
            have HSI := fun ao1 ao2 k1 k2 W (h1 : RowZ W ao1 L) h2 => same_ints ao1 ao2 k1 k2 L W h1 h2 (by omega)
            have HS9 : Hid (Stay T wr wr) := fun _ _ => rfl
            have hnl : ¬ (16 : Int) < 16 := by omega
            clear ho hbi hzA hlt HO
            go_wp2_with (first
              | (go_at_call 17; refine HALL.mono ?_; rintro e w9 ⟨va, rfl, hoa, hb9⟩; obtain ⟨aoB, capB, rfl, hzB, _⟩ := own_row hoa; have HZB : Hid (RowZ w9 aoB L) := hzB; have HZA9 : Hid (RowZ w9 aoA L) := HZA.out.below hb9; have HB9 : Hid (Below wr.heap.size wr w9) := hb9; clear hoa hzB hb9)
              | (go_at_call 16; refine (HSI _ _ _ _ _ ?_ ?_).mono ?_; exact HZB.out; exact HZA9.out; rintro e w10 ⟨rfl, mm, rfl⟩))
            go_roundw
            case rel =>
              have h79 : Below w7.heap.size w7 w9 := HBI.out.trans (HB9.out.mono hszi)
              exact ⟨k + 1, c7, d7, by omega, by omega, by go_num, (HT7.out.below h79).alike rfl, HR7.out, HG7.out.mono (by omega), HN7.out, HRA.out.stay (w' := w9.drewN mm) HUa.out (stay_trans HS7.out fun x hx => h79.block x (HT7.out.tl x hx)) (Nat.le_trans hz7 h79.size), below_drewN (HB7.out.trans (h79.mono HB7.out.size))⟩
            case measure => simp [intOf]; omega)
    · have i1 : ¬ (k : Int) < (na : Int) := by omega
      have HU1 := fun W => out_bad ga (-1) W (by omega)
      have HU2 := fun W => out_bad ga 16 W (by omega)
      have HI2 := fun W => is_bad ga 16 W (by omega)
      clear HD HREL HG HNQ HRA h1
      go_wp2_with (first
        | (go_at_call_of 13 (Value.int .i64 16); refine (HU2 _).mono ?_; rintro e wr ⟨rfl, rfl⟩)
        | (go_at_call 13; refine (HU1 _).mono ?_; rintro e wr ⟨rfl, rfl⟩)
        | (go_at_call 14; refine (HI2 _).mono ?_; rintro e wr ⟨rfl, rfl⟩))
      go_ret
      exact ⟨rfl, HB.out⟩
end Go.Proofs.Yteejehbgmkanpaa
