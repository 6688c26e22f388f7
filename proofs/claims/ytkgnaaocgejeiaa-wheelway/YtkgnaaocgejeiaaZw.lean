/-
  The walk of the statement WheelWay over this program.
-/
import Derived.Test.YtkgnaaocgejeiaaZr
import Derived.Test.YtkgnaaocgejeiaaZo
namespace Go.Proofs.Ytkgnaaocgejeiaa
open Go Go.RowKit Go.Maps
theorem way_grow {S : List Nat} {w4 wr w2 : World} {v : Value} {n : Nat} {xs : List Value} (hF : Fr S w4 wr) (ho : wr.ownsRow w4.heap.size 3 1 v n xs) (hg : wr.grownBy w2 v.ownBlock) : Fr S w4 w2 ∧ ∀ k, k < w4.heap.size → w2.heap[k]? = wr.heap[k]? := by
  have hs := hF.1.size
  have kk : ∀ k, k < w4.heap.size → w2.heap[k]? = wr.heap[k]? := fun k hk => hg.block k (by omega) (fun e => by
    have := (World.ownsRow.lt ho k e.symm).1
    omega)
  have hs2 := hg.size
  exact ⟨⟨hF.1.trans ⟨hg.os, hg.tape, hg.output, hg.size, fun k hk => by omega⟩, fun k hk hS => (kk k hk).trans (hF.2 k hk hS)⟩, kk⟩
theorem rowz_fr {B1 : Nat} {S : List Nat} {w w' : World} {ao : Option Addr} {l : List Int} (h : RowZ w ao l) (hB : ∀ ad, ao = some ad → B1 ≤ ad.block) (hS : ∀ k ∈ S, k < B1) (hf : Fr S w w') : RowZ w' ao l := fun i s hs => by
  obtain ⟨ad, e, k⟩ := h i s hs
  refine ⟨ad, e, ?_⟩
  have hb : (ad.add i).block = ad.block := by unfold Addr.add; split <;> rfl
  rw [World.cell?_of_block (hf.2 (ad.add i).block (World.block_lt_of_cell? w _ k) (fun e2 => by have := hS _ e2; have := hB ad e; omega))]
  exact k
set_option maxHeartbeats 4000000 in
set_option maxRecDepth 100000 in
theorem way_walk (ao bo : Option Addr) (cap nb capb : Nat) (ts : List Sp) (y : Nat → Int) (x : Int) (w : World) (hA : ArgOps w ao ts) (hcap : ts.length ≤ cap) (hys : RowN w bo nb y) :
    Calls Try.prog 4 #[.slice ao ts.length cap, .slice bo nb capb, .int .i64 x] w fun e w' => e = .returned (.bool true) ∧ Below w.heap.size w w' := by
  obtain ⟨NN, hN⟩ : ∃ NN, min ts.length 400 = NN := ⟨_, rfl⟩
  have HE := fun W => early_any ao ts.length cap hcap W
  rw [hN] at HE
  have hN2 : NN ≤ 400 := by omega
  have HNT : Hid (NN ≤ ts.length) := by show NN ≤ ts.length; omega
  have HA : Hid _ := hA
  have HYS : Hid _ := hys
  obtain ⟨T, hT⟩ : ∃ T, ts.length = T := ⟨_, rfl⟩
  rw [hT] at HE HNT ⊢
  have ET : Hid _ := hT
  have HNA := fun W => wnew_any W
  clear hA hcap hN hT hys
  go_enter Try.func4, Try.ntmps4
  go_wp2_with (first
    | (go_at_call 8; refine (lives_any _).mono ?_; rintro e w1 ⟨rfl, hb1⟩)
    | (go_at_call 9; refine (wnew_any _).mono ?_; rintro e w3 ⟨rfl, hr3, hs3', hb3⟩; have hs3 : Hid _ := hs3'; have hq3 : Hid (w1.heap.size < w2.heap.size) := hq2; clear hs3')
    | (go_at_call 9; refine (wnew_any _).mono ?_; rintro e w2 ⟨rfl, hr2, hs2', hb2⟩; have hq2 : w1.heap.size < w2.heap.size := (by omega); have hs2 : Hid _ := hs2'; clear hs2')
    | (go_at_call 10; refine (HE _).mono ?_; rintro e w1 ⟨rfl, rfl⟩))
  have s1 := hb1.size
  have HB3 : Hid (Below w.heap.size w w3) := (hb1.trans (hb2.mono s1)).trans (hb3.mono (by omega))
  have HT3 : Hid (Two w.heap.size w1.heap.size w2.heap.size [] [] w3) := by
    refine ⟨[w1.heap.size], [w2.heap.size], hr2.below hb3, hr3, fun k hk hk' => ?_, fun k hk => ?_, fun k hk => ?_⟩
    · rw [List.mem_singleton.1 hk] at hk'
      have := List.mem_singleton.1 hk'
      omega
    · rw [List.mem_singleton.1 hk]; exact s1
    · rw [List.mem_singleton.1 hk]; omega
  obtain ⟨ga, hga⟩ : ∃ ga, w1.heap.size = ga := ⟨_, rfl⟩
  obtain ⟨gb, hgb⟩ : ∃ gb, w2.heap.size = gb := ⟨_, rfl⟩
  have hab : ga ≠ gb := by rw [← hga, ← hgb]; omega
  rw [hga, hgb] at HT3
  rw [hga, hgb]
  clear hb1 hb2 hb3 hr2 hr3 hs2 hs3 hq2 hq3 s1 hga hgb HE
  go_loopw [9] (fun i wr => ∃ j : Nat, j ≤ NN ∧ i = .int .i64 (j : Int) ∧ (∃ L, Two w.heap.size ga gb L L wr) ∧ Below w.heap.size w wr) (fun i _ => NN - (intOf i).toNat)
  case atStart => exact ⟨0, Nat.zero_le _, rfl, ⟨[], HT3.out⟩, HB3.out⟩
  case round =>
    obtain ⟨j, hj, rfl, ⟨L, hw⟩, hb⟩ := hrel
    have HW : Hid (Two w.heap.size ga gb L L wr) := hw
    have HB : Hid (Below w.heap.size w wr) := hb
    have hs := hb.size
    clear hb
    by_cases hlt : j < NN
    · obtain ⟨⟨kk, z, t, on⟩, ht⟩ : ∃ t, ts[j]? = some t := ⟨_, List.getElem?_eq_getElem (by rw [ET.out]; have := HNT.out; omega)⟩
      obtain ⟨b, off, rfl, hg, e0, e1, e2, e3, hz, htt⟩ := HA.out j _ ht
      have HC : Hid (∀ W, Below w.heap.size w W → W.cell? ⟨b, off + j * 4, none⟩ = some (.int .i64 kk) ∧ W.cell? ⟨b, off + j * 4 + 1, none⟩ = some (.int .i64 z) ∧ W.cell? ⟨b, off + j * 4 + 2, none⟩ = some (.int .i64 t) ∧ W.cell? ⟨b, off + j * 4 + 3, none⟩ = some (.bool on)) := fun W hW =>
        ⟨(hW.cell (p := ⟨b, off + j * 4, none⟩) hg).trans e0, (hW.cell (p := ⟨b, off + j * 4 + 1, none⟩) hg).trans e1, (hW.cell (p := ⟨b, off + j * 4 + 2, none⟩) hg).trans e2, (hW.cell (p := ⟨b, off + j * 4 + 3, none⟩) hg).trans e3⟩
      obtain ⟨c0, c1, c2, c3⟩ := HC.out _ HB.out
      have j1 : (j : Int) < (NN : Int) := by omega
      have j0 : (0 : Int) ≤ (j : Int) := by omega
      have HSA := fun La Lb W (hW : Two w.heap.size ga gb La Lb W) hs => two_a w.heap.size ga gb La Lb z t W hW hs hz htt
      have HSB := fun La Lb W (hW : Two w.heap.size ga gb La Lb W) hs => two_b w.heap.size ga gb La Lb z t W hW hs hz htt
      have HK := fun W => kind_any kk z t on W
      have hk3 := kd_lt kk
      obtain ⟨K, hK⟩ : ∃ K, kd kk = K := ⟨_, rfl⟩
      simp only [hK] at HK
      rw [hK] at hk3
      clear e0 e1 e2 e3 ht hK hw hz htt
      have hcase : K = 0 ∨ K = 1 ∨ K = 2 := by omega
      clear hk3
      rcases hcase with rfl | rfl | rfl
      · have HK0 : ∀ W, Calls Try.prog 12 #[.agg #[.int .i64 kk, .int .i64 z, .int .i64 t, .bool on]] W fun e w' => e = .returned (.int .i64 0) ∧ Below W.heap.size W w' := HK
        clear HK
        go_wp2_with fail
        refine reg8s w.heap.size ga gb b off NN cap j kk z t on L (setL 0 L z t) wr j0 j1 (fun W hW => HC.out W (HB.out.trans hW)) HW.out hs HK0 _ (HSA L L) (HSB _ L) _ _ (fun u30 u31 u32 u33 u34 u35 u36 u37 u38 u39 u40 u41 u42 u43 u44 u45 u46 u47 u48 u49 u50 u51 u52 u53 u54 u55 u56 u57 u58 u59 u60 u61 w5 ht5 hb5 => ?_)
        have HT5 : Hid (Two w.heap.size ga gb (setL 0 L z t) (setL 0 L z t) w5) := ht5
        have HB5 : Hid (Below w.heap.size w w5) := HB.out.trans hb5
        clear ht5 hb5
        go_wp2_with fail
        go_roundw
        case rel => exact ⟨j + 1, by omega, by go_num, ⟨_, HT5.out⟩, HB5.out⟩
        case measure => simp [intOf]; omega
      · have HK0 : ∀ W, Calls Try.prog 12 #[.agg #[.int .i64 kk, .int .i64 z, .int .i64 t, .bool on]] W fun e w' => e = .returned (.int .i64 1) ∧ Below W.heap.size W w' := HK
        clear HK
        go_wp2_with fail
        refine reg8n1 w.heap.size ga gb b off NN cap j kk z t on L wr j0 j1 (fun W hW => HC.out W (HB.out.trans hW)) HW.out hs HK0 _ _ (fun _ d _ _ _ h => by cases d <;> exact h) (fun u30 u31 u32 u33 u34 u35 u36 u37 u38 u39 u40 u41 u42 u43 u44 u45 u46 u47 u48 u49 u50 u51 u52 u53 u54 u55 u56 u57 u58 u59 u60 u61 w5 ht5 hb5 => ?_)
        have HT5 : Hid (Two w.heap.size ga gb (L) (L) w5) := ht5
        have HB5 : Hid (Below w.heap.size w w5) := HB.out.trans hb5
        clear ht5 hb5
        go_wp2_with fail
        go_roundw
        case rel => exact ⟨j + 1, by omega, by go_num, ⟨_, HT5.out⟩, HB5.out⟩
        case measure => simp [intOf]; omega
      · have HK0 : ∀ W, Calls Try.prog 12 #[.agg #[.int .i64 kk, .int .i64 z, .int .i64 t, .bool on]] W fun e w' => e = .returned (.int .i64 2) ∧ Below W.heap.size W w' := HK
        clear HK
        go_wp2_with fail
        refine reg8n2 w.heap.size ga gb b off NN cap j kk z t on L wr j0 j1 (fun W hW => HC.out W (HB.out.trans hW)) HW.out hs HK0 _ _ (fun _ d _ _ _ h => by cases d <;> exact h) (fun u30 u31 u32 u33 u34 u35 u36 u37 u38 u39 u40 u41 u42 u43 u44 u45 u46 u47 u48 u49 u50 u51 u52 u53 u54 u55 u56 u57 u58 u59 u60 u61 w5 ht5 hb5 => ?_)
        have HT5 : Hid (Two w.heap.size ga gb (L) (L) w5) := ht5
        have HB5 : Hid (Below w.heap.size w w5) := HB.out.trans hb5
        clear ht5 hb5
        go_wp2_with fail
        go_roundw
        case rel => exact ⟨j + 1, by omega, by go_num, ⟨_, HT5.out⟩, HB5.out⟩
        case measure => simp [intOf]; omega
    · have hnl : ¬ (j : Int) < (NN : Int) := by omega
      obtain ⟨E, hE, eE⟩ : ∃ E : Nat, E ≤ 1099511627776 ∧ (IntKind.u64.wrap x).tmod 1099511627777 = (E : Int) := by
        refine ⟨((IntKind.u64.wrap x).tmod 1099511627777).toNat, ?_, ?_⟩ <;> rw [IntKind.wrap_u64, Int.tmod_eq_emod_of_nonneg (by omega)] <;> omega
      have wE : IntKind.i64.wrap (E : Int) = (E : Int) := by simp only [IntKind.wrap_i64]; omega
      obtain ⟨Sa, Sb, hA, hB, hdis, hSa, hSb⟩ := hw.ex
      have HOK : Hid (Ok 0 L) := hA.ok
      have hLn := hA.ok.ln
      have HGA := wgo_ok ga Sa 0 L E wr hA ⟨by omega, by omega⟩
      have HWB : Hid (WAt gb Sb 0 L wr) := hB
      have HDIS : Hid (∀ k ∈ Sa, k ∉ Sb) := hdis
      have HSa : Hid (∀ k ∈ Sa, w.heap.size ≤ k) := hSa
      have HSb : Hid (∀ k ∈ Sb, w.heap.size ≤ k) := hSb
      obtain ⟨B1, hB1⟩ : ∃ B1, wr.heap.size = B1 := ⟨_, rfl⟩
      have EB1 : Hid _ := hB1
      have HLb : Hid (∀ k ∈ Sb, k < B1) := by rw [← hB1]; exact hB.lt
      obtain ⟨nA, hnA⟩ : ∃ nA, (outN E L).length = nA := ⟨_, rfl⟩
      have EA : Hid _ := hnA
      clear hw hA hB hdis hSa hSb hnA HW hB1
      go_wp2_with (go_at_call 17; refine HGA.mono ?_; rintro e w4 ⟨v4, rfl, hw4, ho4, hf4⟩; obtain ⟨aoA, capA, rfl, hz4, hb4, _⟩ := own_three ho4 rfl; rw [ids_len, EA.out]; have HW4 : Hid (WAt ga Sa E (restN E L) w4) := hw4; have HF4 : Hid (Fr Sa wr w4) := hf4; have HZ4 : Hid (RowZ w4 aoA (ids (outN E L))) := hz4; have HB4 : Hid (∀ ad, aoA = some ad → B1 ≤ ad.block) := (by rw [← EB1.out]; exact hb4); clear hw4 ho4 hf4 hz4 hb4)
      have HWB4 : Hid (WAt gb Sb 0 L w4) := HWB.out.fr HF4.out fun k hk hk' => HDIS.out k hk' hk
      have HBW4 : Hid (Below w.heap.size w w4) := HB.out.trans (Fr.below HF4.out hs HSa.out)
      have hs4 := HBW4.out.size
      have hs5 : B1 ≤ w4.heap.size := by rw [← EB1.out]; exact HF4.out.1.size
      have HLb4 : Hid (∀ k ∈ Sb, k < w4.heap.size) := fun k hk => Nat.lt_of_lt_of_le (HLb.out k hk) hs5
      clear HGA HWB
      go_loopw [12, 13, 14, 15] (fun v ii _ _ ws => ∃ (i : Nat) (now : Int) (A R : List (Int × Int)) (vs : Value), vs = v ∧ i ≤ 50 ∧ ii = .int .i64 (i : Int) ∧ A ++ R = L ∧ WAt gb Sb now R ws ∧ (0 ≤ now ∧ now ≤ E) ∧ (∀ q ∈ A, q.2 ≤ E) ∧ ws.ownsRow w4.heap.size 3 1 vs A.length (ints (ids A)) ∧ Fr Sb w4 ws) (fun _ ii _ _ _ => 50 - (intOf ii).toNat)
      case atStart => exact ⟨0, 0, [], L, _, rfl, Nat.zero_le _, rfl, rfl, HWB4.out, ⟨Int.le_refl _, by omega⟩, (fun q hq => by cases hq), World.ownsRow_nil _ _ _ _, Fr.refl _ _⟩
      case round =>
        obtain ⟨i, now, A, R, vs, rfl, hi50, rfl, hAR, hws, hnow, hAE, hown, hfr⟩ := hrel
        have HAR : Hid (A ++ R = L) := hAR
        have HWS : Hid (WAt gb Sb now R wr) := hws
        have HAE : Hid (∀ q ∈ A, q.2 ≤ E) := hAE
        have HOW : Hid _ := hown
        have HFR : Hid (Fr Sb w4 wr) := hfr
        have hAL : A.length + R.length ≤ 256 := by rw [← List.length_append, hAR]; exact hLn
        have hss : w4.heap.size ≤ wr.heap.size := hfr.1.size
        have HBS : Hid (Below w.heap.size w wr) := HBW4.out.trans (hfr.below hs4 HSb.out)
        have hsb := HBS.out.size
        clear hAR hws hAE hown hfr
        have hin : (i < nb ∧ i < 50) ∨ (i < nb ∧ ¬ i < 50) ∨ ¬ i < nb := by omega
        rcases hin with ⟨h1, h2⟩ | hout
        · have h1' : (i : Int) < (nb : Int) := by omega
          have h2' : (i : Int) < 50 := by omega
          have i0' : (0 : Int) ≤ (i : Int) := by omega
          obtain ⟨ad2, rfl, d0⟩ := HYS.out i h1
          have k0 : wr.cell? (ad2.add i) = some (.int .i64 (y i)) := (HBS.out.cell (World.block_lt_of_cell? w _ d0)).trans d0
          obtain ⟨s, hsy⟩ : ∃ s, y i = s := ⟨_, rfl⟩
          rw [hsy] at k0
          have HK5 : Hid (∀ W, Fr Sb w4 W → W.cell? (ad2.add i) = some (.int .i64 s)) := fun W hW => ((HBW4.out.trans (hW.below hs4 HSb.out)).cell (World.block_lt_of_cell? w _ d0)).trans (by rw [d0, hsy])
          clear d0 hsy
          by_cases hbad : s < now ∨ 1099511627776 < s
          · have HG := wgo_bad gb Sb now R s wr HWS.out hbad
            have hle : s ≤ (E : Int) ∨ ¬ s ≤ (E : Int) := by omega
            clear hbad
            rcases hle with hle | hle
            all_goals (
              go_wp2_with (first
                | (go_at_call 17; refine HG.mono ?_; rintro e wr ⟨rfl, rfl⟩)
                | (at_builtin; refine wpList_append_z (by rfl) (.tmp 102) (.tmp 103) rfl w4.heap.size vs A.length (ints (ids A)) rfl HOW.out none 0 0 [] rfl (fun _ => ⟨rfl, rfl⟩) rfl (fun _ _ h => by simp at h) (by omega) hss ?_; intro v2 w2 ho2 hg2 _; have HWG : Hid _ := way_grow HFR.out HOW.out hg2; have HO2 : Hid (w2.ownsRow w4.heap.size 3 1 v2 A.length (ints (ids A))) := (by have := ho2; rw [show ints [] = [] from rfl, List.append_nil] at this; exact this); clear ho2 hg2))
              go_roundw
              case rel => exact ⟨i + 1, now, A, R, _, rfl, by omega, by go_num, HAR.out, HWS.out.keep fun k hk => HWG.out.2 k (HLb4.out k hk), hnow, HAE.out, HO2.out, HWG.out.1⟩
              case measure => simp [intOf]; omega)
          · have HG := wgo_ok gb Sb now R s wr HWS.out ⟨by omega, by omega⟩
            have hns : now ≤ s := by omega
            obtain ⟨n5, hn5⟩ : ∃ n5, (outN s R).length = n5 := ⟨_, rfl⟩
            have E5 : Hid _ := hn5
            have hn5b : n5 ≤ R.length := by rw [← hn5]; have := congrArg List.length (out_rest s R); rw [List.length_append] at this; omega
            clear hbad hn5
            have hle : s ≤ (E : Int) ∨ ¬ s ≤ (E : Int) := by omega
            rcases hle with hle | hle
            · go_wp2_with (first
                | (go_at_call 17; refine HG.mono ?_; rintro e w5 ⟨v5, rfl, hw5, ho5, hf5⟩; obtain ⟨ao5, cap5, rfl, hz5, hb5, hn5⟩ := own_three ho5 rfl; rw [ids_len, E5.out] at hn5 ⊢; have HW5 : Hid (WAt gb Sb s (restN s R) w5) := hw5; have HF5 : Hid (Fr Sb w4 w5) := Fr.trans HFR.out hf5; have HZ5 : Hid (RowZ w5 ao5 (ids (outN s R))) := hz5; have HN5 : Hid (ao5 = none → n5 = 0 ∧ cap5 = 0) := hn5; have HO5 : Hid (w5.ownsRow w4.heap.size 3 1 vs A.length (ints (ids A))) := own_fr HOW.out hf5 HLb4.out; have hs5 : w4.heap.size ≤ w5.heap.size := HF5.out.1.size; have k5 := HK5.out _ HF5.out; clear hw5 ho5 hf5 hz5 hb5 hn5)
                | (at_builtin; refine wpList_append_z (by rfl) (.tmp 102) (.tmp 103) rfl w4.heap.size vs A.length (ints (ids A)) rfl HO5.out ao5 n5 cap5 (ids (outN s R)) rfl HN5.out (by rw [ids_len, E5.out]) HZ5.out (by omega) hs5 ?_; intro v2 w2 ho2 hg2 _; have HWG : Hid _ := way_grow HF5.out HO5.out hg2; have HO2 : Hid (w2.ownsRow w4.heap.size 3 1 v2 (A ++ outN s R).length (ints (ids (A ++ outN s R)))) := (by have e1 : ints (ids (A ++ outN s R)) = ints (ids A) ++ ints (ids (outN s R)) := (by rw [ids_append]; exact List.map_append); rw [e1, List.length_append, E5.out]; exact ho2); clear ho2 hg2))
              go_roundw
              case rel =>
                refine ⟨i + 1, s, A ++ outN s R, restN s R, _, rfl, by omega, by go_num, by rw [List.append_assoc, out_rest]; exact HAR.out, HW5.out.keep fun k hk => HWG.out.2 k (HLb4.out k hk), ⟨by omega, hle⟩, fun q hq => ?_, HO2.out, HWG.out.1⟩
                rcases List.mem_append.1 hq with hq | hq
                · exact HAE.out q hq
                · exact outN_le hle R q hq
              case measure => simp [intOf]; omega
            · go_wp2_with (go_at_call 17; refine HG.mono ?_; rintro e w5 ⟨v5, rfl, hw5, ho5, hf5⟩; obtain ⟨ao5, cap5, rfl, hz5, hb5, hn5⟩ := own_three ho5 rfl; have HF5 : Hid (Fr Sb w4 w5) := Fr.trans HFR.out hf5; have k5 := HK5.out _ HF5.out; clear hw5 ho5 hf5 hz5 hb5 hn5)
              go_ret
              exact ⟨rfl, HBW4.out.trans (Fr.below HF5.out hs4 HSb.out)⟩
        · have HG := wgo_ok gb Sb now R E wr HWS.out ⟨hnow.2, by omega⟩
          obtain ⟨n5, hn5⟩ : ∃ n5, (outN E R).length = n5 := ⟨_, rfl⟩
          have E5 : Hid _ := hn5
          have hmore := out_more (R := R) HAE.out
          rw [HAR.out] at hmore
          have HMO : Hid (outN E L = A ++ outN E R ∧ restN E L = restN E R) := hmore
          have hnA5 : A.length + n5 = nA := by rw [← EA.out, hmore.1, List.length_append, hn5]
          have hn5b : n5 ≤ R.length := by rw [← hn5]; have := congrArg List.length (out_rest (E : Int) R); rw [List.length_append] at this; omega
          have HSI := fun (x y : Option Addr) (c1 c2 : Nat) (W : World) h1 h2 => same_ints x y c1 c2 (ids (outN E L)) W h1 h2 (by rw [ids_len, EA.out]; omega)
          simp only [ids_len, EA.out] at HSI
          have HLA := fun W (hW : WAt ga Sa E (restN E L) W) => wlen_any ga Sa E E (restN E L) W hW
          have HLB := fun W (hW : WAt gb Sb E (restN E R) W) => wlen_any gb Sb E E (restN E R) W hW
          rw [← hmore.2] at HLB
          obtain ⟨nr, hnr⟩ : ∃ nr, (restN E L).length = nr := ⟨_, rfl⟩
          simp only [hnr] at HLA HLB
          clear hmore hn5 hnr
          have hdec : (i < nb ∧ ¬ (i : Int) < 50) ∨ ¬ (i : Int) < (nb : Int) := by omega
          rcases hdec with ⟨h1, h2'⟩ | h1'
          · have h1' : (i : Int) < (nb : Int) := by omega
            go_wp2_with (first
              | (go_at_call 17; refine HG.mono ?_; rintro e w5 ⟨v5, rfl, hw5, ho5, hf5⟩; obtain ⟨ao5, cap5, rfl, hz5, hb5, hn5⟩ := own_three ho5 rfl; rw [ids_len, E5.out] at hn5 ⊢; have HW5 : Hid (WAt gb Sb E (restN E R) w5) := hw5; have HF5 : Hid (Fr Sb w4 w5) := Fr.trans HFR.out hf5; have HZ5 : Hid (RowZ w5 ao5 (ids (outN E R))) := hz5; have HN5 : Hid (ao5 = none → n5 = 0 ∧ cap5 = 0) := hn5; have HO5 : Hid (w5.ownsRow w4.heap.size 3 1 vs A.length (ints (ids A))) := own_fr HOW.out hf5 HLb4.out; have hs5 : w4.heap.size ≤ w5.heap.size := HF5.out.1.size; clear hw5 ho5 hf5 hz5 hb5 hn5)
              | (at_builtin; refine wpList_append_z (by rfl) (.tmp 118) (.tmp 119) rfl w4.heap.size vs A.length (ints (ids A)) rfl HO5.out ao5 n5 cap5 (ids (outN E R)) rfl HN5.out (by rw [ids_len, E5.out]) HZ5.out (by omega) hs5 ?_; intro v6 w6 ho6 hg6 _; have HWG : Hid (Fr Sb w4 w6 ∧ ∀ k, k < w4.heap.size → w6.heap[k]? = w5.heap[k]?) := way_grow HF5.out HO5.out hg6; have ho7 : w6.ownsRow w4.heap.size 3 1 v6 nA (ints (ids (outN E L))) := (by have e1 : ints (ids (outN E L)) = ints (ids A) ++ ints (ids (outN E R)) := (by rw [HMO.out.1, ids_append]; exact List.map_append); rw [e1, ← hnA5]; exact ho6); obtain ⟨ao6, cap6, rfl, hz6, _, _⟩ := own_three ho7 (by rw [ids_len, EA.out]); have HZ6 : Hid (RowZ w6 ao6 (ids (outN E L))) := hz6; have HZA : Hid (RowZ w6 aoA (ids (outN E L))) := rowz_fr HZ4.out HB4.out HLb.out HWG.out.1; have HWA6 : Hid (WAt ga Sa E (restN E L) w6) := HW4.out.fr HWG.out.1 HDIS.out; have HWB6 : Hid (WAt gb Sb E (restN E L) w6) := (by rw [HMO.out.2]; exact HW5.out.keep fun k hk => HWG.out.2 k (HLb4.out k hk)); clear ho6 ho7 hg6 hz6)
              | (go_at_call 19; refine (HSI _ _ _ _ _ HZ6.out HZA.out).mono ?_; rintro e w7 ⟨rfl, m7, rfl⟩)
              | (go_at_call_of 21 (Value.pointer (some ⟨ga, 0, none⟩)); refine (HLA _ ?_).mono ?_; exact WBt.alike HWA6.out rfl; rintro e w8 ⟨rfl, rfl⟩)
              | (go_at_call_of 21 (Value.pointer (some ⟨gb, 0, none⟩)); refine (HLB _ ?_).mono ?_; exact WBt.alike HWB6.out rfl; rintro e w8 ⟨rfl, rfl⟩))
            go_ret
            exact ⟨rfl, below_drewN (HBW4.out.trans (Fr.below HWG.out.1 hs4 HSb.out))⟩
          · skip
            go_wp2_with (first
              | (go_at_call 17; refine HG.mono ?_; rintro e w5 ⟨v5, rfl, hw5, ho5, hf5⟩; obtain ⟨ao5, cap5, rfl, hz5, hb5, hn5⟩ := own_three ho5 rfl; rw [ids_len, E5.out] at hn5 ⊢; have HW5 : Hid (WAt gb Sb E (restN E R) w5) := hw5; have HF5 : Hid (Fr Sb w4 w5) := Fr.trans HFR.out hf5; have HZ5 : Hid (RowZ w5 ao5 (ids (outN E R))) := hz5; have HN5 : Hid (ao5 = none → n5 = 0 ∧ cap5 = 0) := hn5; have HO5 : Hid (w5.ownsRow w4.heap.size 3 1 vs A.length (ints (ids A))) := own_fr HOW.out hf5 HLb4.out; have hs5 : w4.heap.size ≤ w5.heap.size := HF5.out.1.size; clear hw5 ho5 hf5 hz5 hb5 hn5)
              | (at_builtin; refine wpList_append_z (by rfl) (.tmp 118) (.tmp 119) rfl w4.heap.size vs A.length (ints (ids A)) rfl HO5.out ao5 n5 cap5 (ids (outN E R)) rfl HN5.out (by rw [ids_len, E5.out]) HZ5.out (by omega) hs5 ?_; intro v6 w6 ho6 hg6 _; have HWG : Hid (Fr Sb w4 w6 ∧ ∀ k, k < w4.heap.size → w6.heap[k]? = w5.heap[k]?) := way_grow HF5.out HO5.out hg6; have ho7 : w6.ownsRow w4.heap.size 3 1 v6 nA (ints (ids (outN E L))) := (by have e1 : ints (ids (outN E L)) = ints (ids A) ++ ints (ids (outN E R)) := (by rw [HMO.out.1, ids_append]; exact List.map_append); rw [e1, ← hnA5]; exact ho6); obtain ⟨ao6, cap6, rfl, hz6, _, _⟩ := own_three ho7 (by rw [ids_len, EA.out]); have HZ6 : Hid (RowZ w6 ao6 (ids (outN E L))) := hz6; have HZA : Hid (RowZ w6 aoA (ids (outN E L))) := rowz_fr HZ4.out HB4.out HLb.out HWG.out.1; have HWA6 : Hid (WAt ga Sa E (restN E L) w6) := HW4.out.fr HWG.out.1 HDIS.out; have HWB6 : Hid (WAt gb Sb E (restN E L) w6) := (by rw [HMO.out.2]; exact HW5.out.keep fun k hk => HWG.out.2 k (HLb4.out k hk)); clear ho6 ho7 hg6 hz6)
              | (go_at_call 19; refine (HSI _ _ _ _ _ HZ6.out HZA.out).mono ?_; rintro e w7 ⟨rfl, m7, rfl⟩)
              | (go_at_call_of 21 (Value.pointer (some ⟨ga, 0, none⟩)); refine (HLA _ ?_).mono ?_; exact WBt.alike HWA6.out rfl; rintro e w8 ⟨rfl, rfl⟩)
              | (go_at_call_of 21 (Value.pointer (some ⟨gb, 0, none⟩)); refine (HLB _ ?_).mono ?_; exact WBt.alike HWB6.out rfl; rintro e w8 ⟨rfl, rfl⟩))
            go_ret
            exact ⟨rfl, below_drewN (HBW4.out.trans (Fr.below HWG.out.1 hs4 HSb.out))⟩
end Go.Proofs.Ytkgnaaocgejeiaa
