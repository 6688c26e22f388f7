/-
  The walk of the statement LedgerStarts over this program.
-/
import Derived.Test.YtjmggofcncladaaLg
namespace Go.Proofs.Ytjmggofcncladaa
open Go Go.RowKit
set_option maxHeartbeats 4000000 in
set_option maxRecDepth 100000 in
theorem starts_walk (fr : Int) (hf0 : U fr) (ao : Option Addr) (cap : Nat) (ts : List Sp) (w : World) (hA : ArgOps w ao ts) (hcap : ts.length ≤ cap) :
    Calls Try.prog 7 #[.slice ao ts.length cap, .int .u32 fr] w fun e w' => e = .returned (.bool true) ∧ Below w.heap.size w w' := by
  obtain ⟨N, hN⟩ : ∃ N, min ts.length 200 = N := ⟨_, rfl⟩
  have HE := fun W => early_any ao ts.length cap hcap W
  rw [hN] at HE
  have hN2 : N ≤ 200 := by omega
  have HNT : Hid (N ≤ ts.length) := by show N ≤ ts.length; omega
  have HA : Hid _ := hA
  have HU : Hid (U fr) := hf0
  have hfw : IntKind.i64.wrap fr = fr := by unfold U at hf0; simp only [IntKind.wrap_i64]; omega
  have HNF : Hid (Go.Proofs.Ytjmggofcncladaa.N fr) := by unfold U at hf0; exact ⟨by omega, by omega⟩
  obtain ⟨T, hT⟩ : ∃ T, ts.length = T := ⟨_, rfl⟩
  rw [hT] at HE HNT ⊢
  have ET : Hid _ := hT
  have HN0 := fun W => lnew_any 5 0 ⟨by decide, by decide⟩ W
  have HN1 := fun W => lnew_any 5 fr hf0 W
  clear hA hcap hN hT hf0
  go_enter Try.func7, Try.ntmps7
  go_wp2_with (first
    | (go_at_call 8; refine (lives_any _).mono ?_; rintro e w1 ⟨rfl, hb1⟩)
    | (go_at_call_of 9 (Value.int .u32 0); refine (HN0 _).mono ?_; rintro e w2 ⟨rfl, hr2, hs2', hb2⟩; have hs2 : Hid _ := hs2'; clear hs2')
    | (go_at_call_of 9 (Value.int .u32 fr); refine (HN1 _).mono ?_; rintro e w3 ⟨rfl, hr3, hs3', hb3⟩; have hs3 : Hid _ := hs3'; clear hs3')
    | (go_at_call 11; refine (HE _).mono ?_; rintro e w3 ⟨rfl, rfl⟩))
  have s1 := hb1.size
  have s2 := hb2.size
  have HR2 : Hid _ := hr2.below hb3
  have HR3 : Hid _ := hr3
  have HB3 : Hid (Below w.heap.size w w3) := (hb1.trans (hb2.mono s1)).trans (hb3.mono (by omega))
  have e2 := hs2.out
  have e3 := hs3.out
  obtain ⟨p, hp⟩ : ∃ p, w1.heap.size = p := ⟨_, rfl⟩
  obtain ⟨r, hr⟩ : ∃ r, p + 1 = r := ⟨_, rfl⟩
  obtain ⟨g, hg⟩ : ∃ g, p + 2 = g := ⟨_, rfl⟩
  obtain ⟨Q, hQ⟩ : ∃ Q, w2.heap.size = Q := ⟨_, rfl⟩
  obtain ⟨r', hr'⟩ : ∃ r', Q + 1 = r' := ⟨_, rfl⟩
  obtain ⟨g', hg'⟩ : ∃ g', Q + 2 = g' := ⟨_, rfl⟩
  obtain ⟨B, hB⟩ : ∃ B, w3.heap.size = B := ⟨_, rfl⟩
  have HBB : Hid _ := hB
  rw [hp, hr, hg] at HR2
  rw [hQ, hr', hg'] at HR3
  rw [hp, hg, hQ, hg']
  have x1 : w.heap.size ≤ p := by omega
  have x2 : w.heap.size ≤ r := by omega
  have x3 : w.heap.size ≤ g := by omega
  have x4 : w.heap.size ≤ Q := by omega
  have x5 : w.heap.size ≤ r' := by omega
  have x6 : w.heap.size ≤ g' := by omega
  have x7 : w.heap.size ≤ B := by omega
  have yl : g < Q ∧ r < Q ∧ p < Q := by omega
  have yh : Q ≤ g' ∧ Q ≤ r' ∧ Q ≤ Q := by omega
  have yb : g' < B ∧ r' < B ∧ Q < B := by omega
  clear hr2 hb1 hb2 hp hr hg hb3 hQ hB hr' hg' hs2 hs3 s1 s2 e2 e3 hr3 HE HN0 HN1
  have HYL : Hid _ := yl
  have HYH : Hid _ := yh
  have HYB : Hid _ := yb
  have hgB : g < B := by omega
  have hrB : r < B := by omega
  have hpB : p < B := by omega
  have hgB' : g' < B := by omega
  have hrB' : r' < B := by omega
  have hpB' : Q < B := by omega
  clear yl yh yb
  go_loopw [7, 8, 9, 10, 11, 12, 13, 14, 15] (fun i _ _ _ _ _ _ _ _ wr => ∃ j : Nat, j ≤ N ∧ i = .int .i64 (j : Int) ∧ (∃ m c k, LdAt g r p 5 m c k wr ∧ LdAt g' r' Q 5 m (addI c fr) (addI k fr) wr) ∧ B ≤ wr.heap.size ∧ Below w.heap.size w wr) (fun i _ _ _ _ _ _ _ _ _ => N - (intOf i).toNat)
  case atStart =>
    refine ⟨0, Nat.zero_le _, rfl, ⟨[], 0, 0, HR2.out, ?_⟩, Nat.le_of_eq HBB.out.symm, HB3.out⟩
    have e : addI 0 fr = fr := by have h := HU.out; unfold addI; unfold U at h; omega
    rw [e]
    exact HR3.out
  case round =>
    obtain ⟨j, hj, rfl, ⟨m, c, k, hla, hlb⟩, hBw, hbw⟩ := hrel
    by_cases hlt : j < N
    · obtain ⟨⟨kk, z, h, on, s⟩, ht⟩ : ∃ t, ts[j]? = some t := ⟨_, List.getElem?_eq_getElem (by rw [ET.out]; have := HNT.out; omega)⟩
      obtain ⟨b, off, rfl, hg, e0, e1, e2, e3, e4, hh, hz⟩ := HA.out j _ ht
      have hg' : b < wr.heap.size := Nat.lt_of_lt_of_le hg hbw.size
      have c0 : wr.cell? ⟨b, off + j * 5, none⟩ = some (.int .i64 kk) := (hbw.cell (p := ⟨b, off + j * 5, none⟩) hg).trans e0
      have c1 : wr.cell? ⟨b, off + j * 5 + 1, none⟩ = some (.int .i64 z) := (hbw.cell (p := ⟨b, off + j * 5 + 1, none⟩) hg).trans e1
      have c2 : wr.cell? ⟨b, off + j * 5 + 2, none⟩ = some (.int .u32 h) := (hbw.cell (p := ⟨b, off + j * 5 + 2, none⟩) hg).trans e2
      have c3 : wr.cell? ⟨b, off + j * 5 + 3, none⟩ = some (.bool on) := (hbw.cell (p := ⟨b, off + j * 5 + 3, none⟩) hg).trans e3
      have c4 : wr.cell? ⟨b, off + j * 5 + 4, none⟩ = some (.string s) := (hbw.cell (p := ⟨b, off + j * 5 + 4, none⟩) hg).trans e4
      have j1 : (j : Int) < (N : Int) := by omega
      have j0 : (0 : Int) ≤ (j : Int) := by omega
      have hsz := hbw.size
      have hln := hla.ln
      have HLA : Hid _ := hla
      have HLB : Hid _ := hlb
      have HBW : Hid (Below w.heap.size w wr) := hbw
      have HZ : Hid _ := hz
      have HNUM := fun W (hW : LdAt g r p 5 m c k W) => number_any kk z h on s g r c k hh hla.uc W hW.hd
      have hnu : U (numI on h c) := numI_u hh
      have HNU : Hid _ := hnu
      have HTH := fun W => refAdd_any (numI on h c) fr hnu HNF.out W
      have HTU : Hid (U (addI (numI on h c) fr)) := addI_u _ _
      obtain ⟨a, ha⟩ : ∃ a, numI on h c = a := ⟨_, rfl⟩
      simp only [ha] at HNUM HTH
      rw [ha] at HNU HTU
      obtain ⟨th, hth⟩ : ∃ th, addI a fr = th := ⟨_, rfl⟩
      simp only [hth] at HTH
      rw [hth] at HTU
      have ETH : Hid _ := hth
      have HK := fun W => kind_any kk z h on s W
      have hk5 := kd_lt kk
      obtain ⟨K, hK⟩ : ∃ K, kd kk = K := ⟨_, rfl⟩
      simp only [hK] at HK
      rw [hK] at hk5
      clear e0 e1 e2 e3 e4 ht hla hlb hbw hK ha hth hnu hh hz
      have hcase : K = 0 ∨ K = 1 ∨ K = 2 ∨ K = 3 ∨ K = 4 := by omega
      clear hk5
      rcases hcase with rfl | rfl | rfl | rfl | rfl
      · have HK0 : ∀ W, Calls Try.prog 13 #[.agg #[.int .i64 kk, .int .i64 z, .int .u32 h, .bool on, .string s]] W fun e w' => e = .returned (.int .i64 0) ∧ Below W.heap.size W w' := HK
        clear HK
        go_wp2_with (first
          | (go_at_call 12; refine (HNUM _ ?_).mono ?_; exact HLA.out.below ((Below.refl _ wr).alloc (Nat.le_refl _) _); rintro e w3 ⟨rfl, hb3⟩; have ho3 : w3.heap[wr.heap.size]? = some (.cells #[.int .i64 kk, .int .i64 z, .int .u32 h, .bool on, .string s] 31 (0, 0)) := (hb3.block wr.heap.size (by simp)).trans (heap_alloc_new wr _); have l0 : w3.cell? ⟨wr.heap.size, 0, none⟩ = some (.int .i64 kk) := (by simp [World.cell?, ho3]); have l1 : w3.cell? ⟨wr.heap.size, 1, none⟩ = some (.int .i64 z) := (by simp [World.cell?, ho3]); have l2 : w3.cell? ⟨wr.heap.size, 2, none⟩ = some (.int .u32 h) := (by simp [World.cell?, ho3]); have l3 : w3.cell? ⟨wr.heap.size, 3, none⟩ = some (.bool on) := (by simp [World.cell?, ho3]); have l4 : w3.cell? ⟨wr.heap.size, 4, none⟩ = some (.string s) := (by simp [World.cell?, ho3]); have HO3 : Hid _ := ho3; clear ho3)
          | (go_at_call 30; refine (HTH _).mono ?_; rintro e w3' ⟨rfl, rfl⟩)
          | (go_at_call 13; refine (HK0 _).mono ?_; rintro e w4 ⟨rfl, hb4⟩; have HX : Hid (Below wr.heap.size wr w4) := ((Below.refl _ wr).alloc (Nat.le_refl _) _ |>.trans (hb3.mono (by simp))).trans (hb4.mono (by have := hb3.size; simp at this; omega)); have ho4 : w4.heap[wr.heap.size]? = some (.cells #[.int .i64 kk, .int .i64 z, .int .u32 h, .bool on, .string s] 31 (0, 0)) := (hb4.block wr.heap.size (lt_of_heap HO3.out)).trans HO3.out; have s4' : wr.heap.size < w4.heap.size := lt_of_heap ho4; have o1 : w4.cell? ⟨wr.heap.size, 1, none⟩ = some (.int .i64 z) := (by simp [World.cell?, ho4]); have o4 : w4.cell? ⟨wr.heap.size, 4, none⟩ = some (.string s) := (by simp [World.cell?, ho4]); have HLA4 : Hid _ := HLA.out.below HX.out; have HLB4 : Hid _ := HLB.out.below HX.out; have HBW4 : Hid (Below w.heap.size w w4) := HBW.out.trans (HX.out.mono hsz); clear hb4 hb3 ho4 l0 l1 l2 l3 l4 HO3))
        have HP1 := fun W hW => send_any g r p 5 m c k s W hW
        have HP2 := fun W hW => send_any g' r' Q 5 m (addI c fr) (addI k fr) s W hW
        obtain ⟨en, hen⟩ : ∃ en, sndE 5 m = en := ⟨_, rfl⟩
        simp only [hen] at HP1 HP2
        clear hen hln c0 c1 c2 c3 c4
        go_region_with (first
          | (go_at_call_of 14 (Value.pointer (some ⟨g, 0, none⟩)); refine (HP1 _ ?_).mono ?_; exact HLA4.out.alike rfl; rintro e w5 ⟨rfl, hr5, hf5'⟩; have hf5 : Fl g r p w4 w5 := (Fl.refl g r p w4).trans ⟨⟨hf5'.1.os, hf5'.1.tape, hf5'.1.output, hf5'.1.size, fun i hi => absurd hi (Nat.not_lt_zero _)⟩, fun i hi => hf5'.2 i hi⟩; have o5 : w5.cell? ⟨wr.heap.size, 4, none⟩ = some (.string s) := (World.cell?_of_block (hf5.2 wr.heap.size s4' (by omega) (by omega) (by omega))).trans o4)
          | (go_at_call_of 14 (Value.pointer (some ⟨g', 0, none⟩)); refine (HP2 _ ?_).mono ?_; exact HLB4.out.hi hf5 HYH.out HYL.out |>.alike rfl; rintro e w6 ⟨rfl, hr6, hf6'⟩; have hf6 : Fl g' r' Q w5 w6 := ⟨⟨hf6'.1.os, hf6'.1.tape, hf6'.1.output, hf6'.1.size, fun i hi => absurd hi (Nat.not_lt_zero _)⟩, fun i hi => hf6'.2 i hi⟩))
        all_goals (
          have HA6 : Hid (LdAt g r p 5 (pushN 5 m s) (c) (k) w6) := hr5.lo hf6 HYL.out HYH.out
          have HB6 : Hid (LdAt g' r' Q 5 (pushN 5 m s) (addI (c) fr) (addI (k) fr) w6) := hr6
          have z5 := hf5.1.size
          have z6 := hf6.1.size
          have HW6 : Hid (Below w.heap.size w w6) := (HBW4.out.trans (hf5.below (by omega) x3 x2 x1)).trans (hf6.below (by omega) x6 x5 x4)
          have s6 : B ≤ w6.heap.size := by omega
          clear hr5 hf5 hf5' hr6 hf6 hf6' o5 z5 z6 HLA4 HLB4 HBW4 HX o1 o4
          go_wp2_with fail
          have hM := HA6.out.ln
          have HS1 := fun W hW => sent_any g r p 5 (pushN 5 m s) (c) (k) W hW
          have HS2 := fun W hW => sent_any g' r' Q 5 (pushN 5 m s) (addI (c) fr) (addI (k) fr) W hW
          have HRA := fun W => refAdd_any (addI (c) ((pushN 5 m s).length : Int)) fr (addI_u _ _) HNF.out W
          have HO1 := fun W hW => lopen_any g r p 5 (pushN 5 m s) (c) (k) W hW
          have HO2 := fun W hW => lopen_any g' r' Q 5 (pushN 5 m s) (addI (c) fr) (addI (k) fr) W hW
          have HSM := fun (x y : Option Addr) (c1 c2 : Nat) (W : World) h1 h2 => same_any x y c1 c2 (pushN 5 m s) W h1 h2 (by omega)
          obtain ⟨C, hC⟩ : ∃ C, (pushN 5 m s).length = C := ⟨_, rfl⟩
          have EC : Hid _ := hC
          simp only [hC] at HS1 HS2 HRA HSM
          simp only [add_swap] at HRA
          obtain ⟨a1, ha1⟩ : ∃ a1, addI (c) (C : Int) = a1 := ⟨_, rfl⟩
          obtain ⟨a2, ha2⟩ : ∃ a2, addI (addI (c) fr) (C : Int) = a2 := ⟨_, rfl⟩
          simp only [ha2] at HRA HS2
          simp only [ha1] at HRA HS1
          clear hC ha1 ha2 hM
          go_wp2_with (first
            | (go_at_call_of 25 (Value.pointer (some ⟨g, 0, none⟩)); refine (HS1 _ ?_).mono ?_; exact HA6.out.alike rfl; rintro e w7 ⟨rfl, m7, rfl⟩)
            | (go_at_call 30; refine (HRA _).mono ?_; rintro e w7 ⟨rfl, rfl⟩)
            | (go_at_call_of 25 (Value.pointer (some ⟨g', 0, none⟩)); refine (HS2 _ ?_).mono ?_; exact HB6.out.alike rfl; rintro e w7 ⟨rfl, m8, rfl⟩)
            | (go_at_call_of 29 (Value.pointer (some ⟨g, 0, none⟩)); refine (HO1 _ ?_).mono ?_; exact HA6.out.alike rfl; rintro e w7 ⟨⟨ao7, cap7, rfl, ht7⟩, hb7'⟩; rw [EC.out]; have hb7 : Below w6.heap.size w6 w7 := below_drewN (Below.refl _ _) |>.trans hb7')
            | (go_at_call_of 29 (Value.pointer (some ⟨g', 0, none⟩)); refine (HO2 _ ?_).mono ?_; exact HB6.out.below hb7; rintro e w8 ⟨⟨ao8, cap8, rfl, ht8⟩, hb8⟩; rw [EC.out])
            | (go_at_call 21; refine (HSM _ _ _ _ _ ?_ ?_).mono ?_; exact RowS.below ht7.row hb8; exact ht8.row; rintro e w9 ⟨rfl, m9, rfl⟩))
          go_roundw
          case rel =>
            have hb9 : Below w6.heap.size w6 (w8.drewN m9) := below_drewN (hb7.trans (hb8.mono hb7.size))
            exact ⟨j + 1, by omega, by go_num, ⟨pushN 5 m s, c, k, HA6.out.below hb9, HB6.out.below hb9⟩, Nat.le_trans s6 hb9.size, HW6.out.trans (hb9.mono (by omega))⟩
          case measure => simp [intOf]; omega)
      · have HK0 : ∀ W, Calls Try.prog 13 #[.agg #[.int .i64 kk, .int .i64 z, .int .u32 h, .bool on, .string s]] W fun e w' => e = .returned (.int .i64 1) ∧ Below W.heap.size W w' := HK
        clear HK
        go_wp2_with (first
          | (go_at_call 12; refine (HNUM _ ?_).mono ?_; exact HLA.out.below ((Below.refl _ wr).alloc (Nat.le_refl _) _); rintro e w3 ⟨rfl, hb3⟩; have ho3 : w3.heap[wr.heap.size]? = some (.cells #[.int .i64 kk, .int .i64 z, .int .u32 h, .bool on, .string s] 31 (0, 0)) := (hb3.block wr.heap.size (by simp)).trans (heap_alloc_new wr _); have l0 : w3.cell? ⟨wr.heap.size, 0, none⟩ = some (.int .i64 kk) := (by simp [World.cell?, ho3]); have l1 : w3.cell? ⟨wr.heap.size, 1, none⟩ = some (.int .i64 z) := (by simp [World.cell?, ho3]); have l2 : w3.cell? ⟨wr.heap.size, 2, none⟩ = some (.int .u32 h) := (by simp [World.cell?, ho3]); have l3 : w3.cell? ⟨wr.heap.size, 3, none⟩ = some (.bool on) := (by simp [World.cell?, ho3]); have l4 : w3.cell? ⟨wr.heap.size, 4, none⟩ = some (.string s) := (by simp [World.cell?, ho3]); have HO3 : Hid _ := ho3; clear ho3)
          | (go_at_call 30; refine (HTH _).mono ?_; rintro e w3' ⟨rfl, rfl⟩)
          | (go_at_call 13; refine (HK0 _).mono ?_; rintro e w4 ⟨rfl, hb4⟩; have HX : Hid (Below wr.heap.size wr w4) := ((Below.refl _ wr).alloc (Nat.le_refl _) _ |>.trans (hb3.mono (by simp))).trans (hb4.mono (by have := hb3.size; simp at this; omega)); have ho4 : w4.heap[wr.heap.size]? = some (.cells #[.int .i64 kk, .int .i64 z, .int .u32 h, .bool on, .string s] 31 (0, 0)) := (hb4.block wr.heap.size (lt_of_heap HO3.out)).trans HO3.out; have s4' : wr.heap.size < w4.heap.size := lt_of_heap ho4; have o1 : w4.cell? ⟨wr.heap.size, 1, none⟩ = some (.int .i64 z) := (by simp [World.cell?, ho4]); have o4 : w4.cell? ⟨wr.heap.size, 4, none⟩ = some (.string s) := (by simp [World.cell?, ho4]); have HLA4 : Hid _ := HLA.out.below HX.out; have HLB4 : Hid _ := HLB.out.below HX.out; have HBW4 : Hid (Below w.heap.size w w4) := HBW.out.trans (HX.out.mono hsz); clear hb4 hb3 ho4 l0 l1 l2 l3 l4 HO3))
        have HP1 := fun W hW => conf_any g r p 5 m c k a HNU.out W hW
        have HP2 := fun W hW => conf_any g' r' Q 5 m (addI c fr) (addI k fr) th HTU.out W hW
        simp only [← ETH.out, cfN_shift, cfE_shift, cfL_shift, cfC_shift] at HP2
        rw [ETH.out] at HP2
        obtain ⟨en, hen⟩ : ∃ en, cfN a c m = en := ⟨_, rfl⟩
        obtain ⟨ee, hee⟩ : ∃ ee, cfE a c m = ee := ⟨_, rfl⟩
        simp only [hen, hee] at HP1 HP2
        clear hen hee hln c0 c1 c2 c3 c4
        go_wp2_with (first
          | (go_at_call_of 16 (Value.pointer (some ⟨g, 0, none⟩)); refine (HP1 _ ?_).mono ?_; exact HLA4.out.alike rfl; rintro e w5 ⟨rfl, hr5, hf5⟩)
          | (go_at_call_of 16 (Value.pointer (some ⟨g', 0, none⟩)); refine (HP2 _ ?_).mono ?_; exact HLB4.out.hi hf5 HYH.out HYL.out |>.alike rfl; rintro e w6 ⟨rfl, hr6, hf6⟩
             have HA6 : Hid (LdAt g r p 5 (cfL a c m) (cfC a c m) k w6) := hr5.lo hf6 HYL.out HYH.out
             have HB6 : Hid (LdAt g' r' Q 5 (cfL a c m) (addI (cfC a c m) fr) (addI k fr) w6) := hr6
             have z5 := hf5.1.size
             have z6 := hf6.1.size
             have HW6 : Hid (Below w.heap.size w w6) := (HBW4.out.trans (hf5.below (by omega) x3 x2 x1)).trans (hf6.below (by omega) x6 x5 x4)
             have s6 : B ≤ w6.heap.size := (by omega)
             clear hr5 hf5 hr6 hf6 z5 z6 HLA4 HLB4 HBW4 HX o1 o4)
          | fail)
        have hM := HA6.out.ln
        have HS1 := fun W hW => sent_any g r p 5 (cfL a c m) (cfC a c m) (k) W hW
        have HS2 := fun W hW => sent_any g' r' Q 5 (cfL a c m) (addI (cfC a c m) fr) (addI (k) fr) W hW
        have HRA := fun W => refAdd_any (addI (cfC a c m) ((cfL a c m).length : Int)) fr (addI_u _ _) HNF.out W
        have HO1 := fun W hW => lopen_any g r p 5 (cfL a c m) (cfC a c m) (k) W hW
        have HO2 := fun W hW => lopen_any g' r' Q 5 (cfL a c m) (addI (cfC a c m) fr) (addI (k) fr) W hW
        have HSM := fun (x y : Option Addr) (c1 c2 : Nat) (W : World) h1 h2 => same_any x y c1 c2 (cfL a c m) W h1 h2 (by omega)
        obtain ⟨C, hC⟩ : ∃ C, (cfL a c m).length = C := ⟨_, rfl⟩
        have EC : Hid _ := hC
        simp only [hC] at HS1 HS2 HRA HSM
        simp only [add_swap] at HRA
        obtain ⟨a1, ha1⟩ : ∃ a1, addI (cfC a c m) (C : Int) = a1 := ⟨_, rfl⟩
        obtain ⟨a2, ha2⟩ : ∃ a2, addI (addI (cfC a c m) fr) (C : Int) = a2 := ⟨_, rfl⟩
        simp only [ha2] at HRA HS2
        simp only [ha1] at HRA HS1
        clear hC ha1 ha2 hM
        go_wp2_with (first
          | (go_at_call_of 25 (Value.pointer (some ⟨g, 0, none⟩)); refine (HS1 _ ?_).mono ?_; exact HA6.out.alike rfl; rintro e w7 ⟨rfl, m7, rfl⟩)
          | (go_at_call 30; refine (HRA _).mono ?_; rintro e w7 ⟨rfl, rfl⟩)
          | (go_at_call_of 25 (Value.pointer (some ⟨g', 0, none⟩)); refine (HS2 _ ?_).mono ?_; exact HB6.out.alike rfl; rintro e w7 ⟨rfl, m8, rfl⟩)
          | (go_at_call_of 29 (Value.pointer (some ⟨g, 0, none⟩)); refine (HO1 _ ?_).mono ?_; exact HA6.out.alike rfl; rintro e w7 ⟨⟨ao7, cap7, rfl, ht7⟩, hb7'⟩; rw [EC.out]; have hb7 : Below w6.heap.size w6 w7 := below_drewN (Below.refl _ _) |>.trans hb7')
          | (go_at_call_of 29 (Value.pointer (some ⟨g', 0, none⟩)); refine (HO2 _ ?_).mono ?_; exact HB6.out.below hb7; rintro e w8 ⟨⟨ao8, cap8, rfl, ht8⟩, hb8⟩; rw [EC.out])
          | (go_at_call 21; refine (HSM _ _ _ _ _ ?_ ?_).mono ?_; exact RowS.below ht7.row hb8; exact ht8.row; rintro e w9 ⟨rfl, m9, rfl⟩))
        go_roundw
        case rel =>
          have hb9 : Below w6.heap.size w6 (w8.drewN m9) := below_drewN (hb7.trans (hb8.mono hb7.size))
          exact ⟨j + 1, by omega, by go_num, ⟨cfL a c m, cfC a c m, k, HA6.out.below hb9, HB6.out.below hb9⟩, Nat.le_trans s6 hb9.size, HW6.out.trans (hb9.mono (by omega))⟩
        case measure => simp [intOf]; omega
      · have HK0 : ∀ W, Calls Try.prog 13 #[.agg #[.int .i64 kk, .int .i64 z, .int .u32 h, .bool on, .string s]] W fun e w' => e = .returned (.int .i64 2) ∧ Below W.heap.size W w' := HK
        clear HK
        go_wp2_with (first
          | (go_at_call 12; refine (HNUM _ ?_).mono ?_; exact HLA.out.below ((Below.refl _ wr).alloc (Nat.le_refl _) _); rintro e w3 ⟨rfl, hb3⟩; have ho3 : w3.heap[wr.heap.size]? = some (.cells #[.int .i64 kk, .int .i64 z, .int .u32 h, .bool on, .string s] 31 (0, 0)) := (hb3.block wr.heap.size (by simp)).trans (heap_alloc_new wr _); have l0 : w3.cell? ⟨wr.heap.size, 0, none⟩ = some (.int .i64 kk) := (by simp [World.cell?, ho3]); have l1 : w3.cell? ⟨wr.heap.size, 1, none⟩ = some (.int .i64 z) := (by simp [World.cell?, ho3]); have l2 : w3.cell? ⟨wr.heap.size, 2, none⟩ = some (.int .u32 h) := (by simp [World.cell?, ho3]); have l3 : w3.cell? ⟨wr.heap.size, 3, none⟩ = some (.bool on) := (by simp [World.cell?, ho3]); have l4 : w3.cell? ⟨wr.heap.size, 4, none⟩ = some (.string s) := (by simp [World.cell?, ho3]); have HO3 : Hid _ := ho3; clear ho3)
          | (go_at_call 30; refine (HTH _).mono ?_; rintro e w3' ⟨rfl, rfl⟩)
          | (go_at_call 13; refine (HK0 _).mono ?_; rintro e w4 ⟨rfl, hb4⟩; have HX : Hid (Below wr.heap.size wr w4) := ((Below.refl _ wr).alloc (Nat.le_refl _) _ |>.trans (hb3.mono (by simp))).trans (hb4.mono (by have := hb3.size; simp at this; omega)); have ho4 : w4.heap[wr.heap.size]? = some (.cells #[.int .i64 kk, .int .i64 z, .int .u32 h, .bool on, .string s] 31 (0, 0)) := (hb4.block wr.heap.size (lt_of_heap HO3.out)).trans HO3.out; have s4' : wr.heap.size < w4.heap.size := lt_of_heap ho4; have o1 : w4.cell? ⟨wr.heap.size, 1, none⟩ = some (.int .i64 z) := (by simp [World.cell?, ho4]); have o4 : w4.cell? ⟨wr.heap.size, 4, none⟩ = some (.string s) := (by simp [World.cell?, ho4]); have HLA4 : Hid _ := HLA.out.below HX.out; have HLB4 : Hid _ := HLB.out.below HX.out; have HBW4 : Hid (Below w.heap.size w w4) := HBW.out.trans (HX.out.mono hsz); clear hb4 hb3 ho4 l0 l1 l2 l3 l4 HO3))
        have HP1 := fun W hW => ltake_any g r p 5 m c k z HZ.out W hW
        have HP2 := fun W hW => ltake_any g' r' Q 5 m (addI c fr) (addI k fr) z HZ.out W hW
        have HP3 := fun W => refAdd_any (addI k (max z 0)) fr (addI_u _ _) HNF.out W
        simp only [add_swap k (max z 0) fr] at HP2
        obtain ⟨kn, hkn⟩ : ∃ kn, addI k (max z 0) = kn := ⟨_, rfl⟩
        simp only [hkn] at HP1 HP2 HP3
        clear hkn hln c0 c1 c2 c3 c4
        obtain ⟨kf, hkf⟩ : ∃ kf, addI kn fr = kf := ⟨_, rfl⟩
        have EKF : Hid _ := hkf
        simp only [hkf] at HP2 HP3
        clear hkf
        go_region_with (first
          | (go_at_call_of 18 (Value.pointer (some ⟨g, 0, none⟩)); refine (HP1 _ ?_).mono ?_; exact HLA4.out.alike rfl; rintro e w5 ⟨rfl, hr5, hf5'⟩; have hf5 : Fl g r p w4 w5 := (Fl.refl g r p w4).trans ⟨⟨hf5'.1.os, hf5'.1.tape, hf5'.1.output, hf5'.1.size, fun i hi => absurd hi (Nat.not_lt_zero _)⟩, fun i hi => hf5'.2 i hi⟩; have o5 : w5.cell? ⟨wr.heap.size, 1, none⟩ = some (.int .i64 z) := (World.cell?_of_block (hf5.2 wr.heap.size s4' (by omega) (by omega) (by omega))).trans o1)
          | (go_at_call 30; refine (HP3 _).mono ?_; rintro e w5 ⟨rfl, rfl⟩)
          | (go_at_call_of 18 (Value.pointer (some ⟨g', 0, none⟩)); refine (HP2 _ ?_).mono ?_; exact HLB4.out.hi hf5 HYH.out HYL.out |>.alike rfl; rintro e w6 ⟨rfl, hr6, hf6'⟩; have hf6 : Fl g' r' Q w5 w6 := ⟨⟨hf6'.1.os, hf6'.1.tape, hf6'.1.output, hf6'.1.size, fun i hi => absurd hi (Nat.not_lt_zero _)⟩, fun i hi => hf6'.2 i hi⟩))
        all_goals (
          have HA6 : Hid (LdAt g r p 5 (m) (c) (kn) w6) := hr5.lo hf6 HYL.out HYH.out
          have HB6 : Hid (LdAt g' r' Q 5 (m) (addI (c) fr) (addI (kn) fr) w6) := (by rw [EKF.out]; exact hr6)
          have z5 := hf5.1.size
          have z6 := hf6.1.size
          have HW6 : Hid (Below w.heap.size w w6) := (HBW4.out.trans (hf5.below (by omega) x3 x2 x1)).trans (hf6.below (by omega) x6 x5 x4)
          have s6 : B ≤ w6.heap.size := by omega
          clear hr5 hf5 hf5' hr6 hf6 hf6' o5 z5 z6 HLA4 HLB4 HBW4 HX o1 o4
          go_wp2_with fail
          have hM := HA6.out.ln
          have HS1 := fun W hW => sent_any g r p 5 (m) (c) (kn) W hW
          have HS2 := fun W hW => sent_any g' r' Q 5 (m) (addI (c) fr) (addI (kn) fr) W hW
          have HRA := fun W => refAdd_any (addI (c) ((m).length : Int)) fr (addI_u _ _) HNF.out W
          have HO1 := fun W hW => lopen_any g r p 5 (m) (c) (kn) W hW
          have HO2 := fun W hW => lopen_any g' r' Q 5 (m) (addI (c) fr) (addI (kn) fr) W hW
          have HSM := fun (x y : Option Addr) (c1 c2 : Nat) (W : World) h1 h2 => same_any x y c1 c2 (m) W h1 h2 (by omega)
          obtain ⟨C, hC⟩ : ∃ C, (m).length = C := ⟨_, rfl⟩
          have EC : Hid _ := hC
          simp only [hC] at HS1 HS2 HRA HSM
          simp only [add_swap] at HRA
          obtain ⟨a1, ha1⟩ : ∃ a1, addI (c) (C : Int) = a1 := ⟨_, rfl⟩
          obtain ⟨a2, ha2⟩ : ∃ a2, addI (addI (c) fr) (C : Int) = a2 := ⟨_, rfl⟩
          simp only [ha2] at HRA HS2
          simp only [ha1] at HRA HS1
          clear hC ha1 ha2 hM
          go_wp2_with (first
            | (go_at_call_of 25 (Value.pointer (some ⟨g, 0, none⟩)); refine (HS1 _ ?_).mono ?_; exact HA6.out.alike rfl; rintro e w7 ⟨rfl, m7, rfl⟩)
            | (go_at_call 30; refine (HRA _).mono ?_; rintro e w7 ⟨rfl, rfl⟩)
            | (go_at_call_of 25 (Value.pointer (some ⟨g', 0, none⟩)); refine (HS2 _ ?_).mono ?_; exact HB6.out.alike rfl; rintro e w7 ⟨rfl, m8, rfl⟩)
            | (go_at_call_of 29 (Value.pointer (some ⟨g, 0, none⟩)); refine (HO1 _ ?_).mono ?_; exact HA6.out.alike rfl; rintro e w7 ⟨⟨ao7, cap7, rfl, ht7⟩, hb7'⟩; rw [EC.out]; have hb7 : Below w6.heap.size w6 w7 := below_drewN (Below.refl _ _) |>.trans hb7')
            | (go_at_call_of 29 (Value.pointer (some ⟨g', 0, none⟩)); refine (HO2 _ ?_).mono ?_; exact HB6.out.below hb7; rintro e w8 ⟨⟨ao8, cap8, rfl, ht8⟩, hb8⟩; rw [EC.out])
            | (go_at_call 21; refine (HSM _ _ _ _ _ ?_ ?_).mono ?_; exact RowS.below ht7.row hb8; exact ht8.row; rintro e w9 ⟨rfl, m9, rfl⟩))
          go_roundw
          case rel =>
            have hb9 : Below w6.heap.size w6 (w8.drewN m9) := below_drewN (hb7.trans (hb8.mono hb7.size))
            exact ⟨j + 1, by omega, by go_num, ⟨m, c, kn, HA6.out.below hb9, HB6.out.below hb9⟩, Nat.le_trans s6 hb9.size, HW6.out.trans (hb9.mono (by omega))⟩
          case measure => simp [intOf]; omega)
      · have HK0 : ∀ W, Calls Try.prog 13 #[.agg #[.int .i64 kk, .int .i64 z, .int .u32 h, .bool on, .string s]] W fun e w' => e = .returned (.int .i64 3) ∧ Below W.heap.size W w' := HK
        clear HK
        go_wp2_with (first
          | (go_at_call 12; refine (HNUM _ ?_).mono ?_; exact HLA.out.below ((Below.refl _ wr).alloc (Nat.le_refl _) _); rintro e w3 ⟨rfl, hb3⟩; have ho3 : w3.heap[wr.heap.size]? = some (.cells #[.int .i64 kk, .int .i64 z, .int .u32 h, .bool on, .string s] 31 (0, 0)) := (hb3.block wr.heap.size (by simp)).trans (heap_alloc_new wr _); have l0 : w3.cell? ⟨wr.heap.size, 0, none⟩ = some (.int .i64 kk) := (by simp [World.cell?, ho3]); have l1 : w3.cell? ⟨wr.heap.size, 1, none⟩ = some (.int .i64 z) := (by simp [World.cell?, ho3]); have l2 : w3.cell? ⟨wr.heap.size, 2, none⟩ = some (.int .u32 h) := (by simp [World.cell?, ho3]); have l3 : w3.cell? ⟨wr.heap.size, 3, none⟩ = some (.bool on) := (by simp [World.cell?, ho3]); have l4 : w3.cell? ⟨wr.heap.size, 4, none⟩ = some (.string s) := (by simp [World.cell?, ho3]); have HO3 : Hid _ := ho3; clear ho3)
          | (go_at_call 30; refine (HTH _).mono ?_; rintro e w3' ⟨rfl, rfl⟩)
          | (go_at_call 13; refine (HK0 _).mono ?_; rintro e w4 ⟨rfl, hb4⟩; have HX : Hid (Below wr.heap.size wr w4) := ((Below.refl _ wr).alloc (Nat.le_refl _) _ |>.trans (hb3.mono (by simp))).trans (hb4.mono (by have := hb3.size; simp at this; omega)); have ho4 : w4.heap[wr.heap.size]? = some (.cells #[.int .i64 kk, .int .i64 z, .int .u32 h, .bool on, .string s] 31 (0, 0)) := (hb4.block wr.heap.size (lt_of_heap HO3.out)).trans HO3.out; have s4' : wr.heap.size < w4.heap.size := lt_of_heap ho4; have o1 : w4.cell? ⟨wr.heap.size, 1, none⟩ = some (.int .i64 z) := (by simp [World.cell?, ho4]); have o4 : w4.cell? ⟨wr.heap.size, 4, none⟩ = some (.string s) := (by simp [World.cell?, ho4]); have HLA4 : Hid _ := HLA.out.below HX.out; have HLB4 : Hid _ := HLB.out.below HX.out; have HBW4 : Hid (Below w.heap.size w w4) := HBW.out.trans (HX.out.mono hsz); clear hb4 hb3 ho4 l0 l1 l2 l3 l4 HO3))
        obtain ⟨w6, hw6⟩ : ∃ w6, w4 = w6 := ⟨_, rfl⟩
        subst hw6
        have HA6 : Hid _ := HLA4.out
        have HB6 : Hid _ := HLB4.out
        have HW6 : Hid (Below w.heap.size w w4) := HBW4.out
        have s6 : B ≤ w4.heap.size := by omega
        clear HLA4 HLB4 HBW4 HX o1 o4 hln c0 c1 c2 c3 c4
        have hM := HA6.out.ln
        have HS1 := fun W hW => sent_any g r p 5 (m) (c) (k) W hW
        have HS2 := fun W hW => sent_any g' r' Q 5 (m) (addI (c) fr) (addI (k) fr) W hW
        have HRA := fun W => refAdd_any (addI (c) ((m).length : Int)) fr (addI_u _ _) HNF.out W
        have HO1 := fun W hW => lopen_any g r p 5 (m) (c) (k) W hW
        have HO2 := fun W hW => lopen_any g' r' Q 5 (m) (addI (c) fr) (addI (k) fr) W hW
        have HSM := fun (x y : Option Addr) (c1 c2 : Nat) (W : World) h1 h2 => same_any x y c1 c2 (m) W h1 h2 (by omega)
        obtain ⟨C, hC⟩ : ∃ C, (m).length = C := ⟨_, rfl⟩
        have EC : Hid _ := hC
        simp only [hC] at HS1 HS2 HRA HSM
        simp only [add_swap] at HRA
        obtain ⟨a1, ha1⟩ : ∃ a1, addI (c) (C : Int) = a1 := ⟨_, rfl⟩
        obtain ⟨a2, ha2⟩ : ∃ a2, addI (addI (c) fr) (C : Int) = a2 := ⟨_, rfl⟩
        simp only [ha2] at HRA HS2
        simp only [ha1] at HRA HS1
        clear hC ha1 ha2 hM
        go_wp2_with (first
          | (go_at_call_of 25 (Value.pointer (some ⟨g, 0, none⟩)); refine (HS1 _ ?_).mono ?_; exact HA6.out.alike rfl; rintro e w7 ⟨rfl, m7, rfl⟩)
          | (go_at_call 30; refine (HRA _).mono ?_; rintro e w7 ⟨rfl, rfl⟩)
          | (go_at_call_of 25 (Value.pointer (some ⟨g', 0, none⟩)); refine (HS2 _ ?_).mono ?_; exact HB6.out.alike rfl; rintro e w7 ⟨rfl, m8, rfl⟩)
          | (go_at_call_of 29 (Value.pointer (some ⟨g, 0, none⟩)); refine (HO1 _ ?_).mono ?_; exact HA6.out.alike rfl; rintro e w7 ⟨⟨ao7, cap7, rfl, ht7⟩, hb7'⟩; rw [EC.out]; have hb7 : Below w4.heap.size w4 w7 := below_drewN (Below.refl _ _) |>.trans hb7')
          | (go_at_call_of 29 (Value.pointer (some ⟨g', 0, none⟩)); refine (HO2 _ ?_).mono ?_; exact HB6.out.below hb7; rintro e w8 ⟨⟨ao8, cap8, rfl, ht8⟩, hb8⟩; rw [EC.out])
          | (go_at_call 21; refine (HSM _ _ _ _ _ ?_ ?_).mono ?_; exact RowS.below ht7.row hb8; exact ht8.row; rintro e w9 ⟨rfl, m9, rfl⟩))
        go_roundw
        case rel =>
          have hb9 : Below w4.heap.size w4 (w8.drewN m9) := below_drewN (hb7.trans (hb8.mono hb7.size))
          exact ⟨j + 1, by omega, by go_num, ⟨m, c, k, HA6.out.below hb9, HB6.out.below hb9⟩, Nat.le_trans s6 hb9.size, HW6.out.trans (hb9.mono (by omega))⟩
        case measure => simp [intOf]; omega
      · have HK0 : ∀ W, Calls Try.prog 13 #[.agg #[.int .i64 kk, .int .i64 z, .int .u32 h, .bool on, .string s]] W fun e w' => e = .returned (.int .i64 4) ∧ Below W.heap.size W w' := HK
        clear HK
        go_wp2_with (first
          | (go_at_call 12; refine (HNUM _ ?_).mono ?_; exact HLA.out.below ((Below.refl _ wr).alloc (Nat.le_refl _) _); rintro e w3 ⟨rfl, hb3⟩; have ho3 : w3.heap[wr.heap.size]? = some (.cells #[.int .i64 kk, .int .i64 z, .int .u32 h, .bool on, .string s] 31 (0, 0)) := (hb3.block wr.heap.size (by simp)).trans (heap_alloc_new wr _); have l0 : w3.cell? ⟨wr.heap.size, 0, none⟩ = some (.int .i64 kk) := (by simp [World.cell?, ho3]); have l1 : w3.cell? ⟨wr.heap.size, 1, none⟩ = some (.int .i64 z) := (by simp [World.cell?, ho3]); have l2 : w3.cell? ⟨wr.heap.size, 2, none⟩ = some (.int .u32 h) := (by simp [World.cell?, ho3]); have l3 : w3.cell? ⟨wr.heap.size, 3, none⟩ = some (.bool on) := (by simp [World.cell?, ho3]); have l4 : w3.cell? ⟨wr.heap.size, 4, none⟩ = some (.string s) := (by simp [World.cell?, ho3]); have HO3 : Hid _ := ho3; clear ho3)
          | (go_at_call 30; refine (HTH _).mono ?_; rintro e w3' ⟨rfl, rfl⟩)
          | (go_at_call 13; refine (HK0 _).mono ?_; rintro e w4 ⟨rfl, hb4⟩; have HX : Hid (Below wr.heap.size wr w4) := ((Below.refl _ wr).alloc (Nat.le_refl _) _ |>.trans (hb3.mono (by simp))).trans (hb4.mono (by have := hb3.size; simp at this; omega)); have ho4 : w4.heap[wr.heap.size]? = some (.cells #[.int .i64 kk, .int .i64 z, .int .u32 h, .bool on, .string s] 31 (0, 0)) := (hb4.block wr.heap.size (lt_of_heap HO3.out)).trans HO3.out; have s4' : wr.heap.size < w4.heap.size := lt_of_heap ho4; have o1 : w4.cell? ⟨wr.heap.size, 1, none⟩ = some (.int .i64 z) := (by simp [World.cell?, ho4]); have o4 : w4.cell? ⟨wr.heap.size, 4, none⟩ = some (.string s) := (by simp [World.cell?, ho4]); have HLA4 : Hid _ := HLA.out.below HX.out; have HLB4 : Hid _ := HLB.out.below HX.out; have HBW4 : Hid (Below w.heap.size w w4) := HBW.out.trans (HX.out.mono hsz); clear hb4 hb3 ho4 l0 l1 l2 l3 l4 HO3))
        have HP1 := fun W hW => undo_any g r p 5 m c k z W hW
        have HP2 := fun W hW => undo_any g' r' Q 5 m (addI c fr) (addI k fr) z W hW
        obtain ⟨en, hen⟩ : ∃ en, decide (0 ≤ z ∧ z ≤ (m.length : Int)) = en := ⟨_, rfl⟩
        simp only [hen] at HP1 HP2
        clear hen hln c0 c1 c2 c3 c4
        go_region_with (first
          | (go_at_call_of 23 (Value.pointer (some ⟨g, 0, none⟩)); refine (HP1 _ ?_).mono ?_; exact HLA4.out.alike rfl; rintro e w5 ⟨rfl, hr5, hf5'⟩; have hf5 : Fl g r p w4 w5 := (Fl.refl g r p w4).trans ⟨⟨hf5'.1.os, hf5'.1.tape, hf5'.1.output, hf5'.1.size, fun i hi => absurd hi (Nat.not_lt_zero _)⟩, fun i hi => hf5'.2 i hi⟩; have o5 : w5.cell? ⟨wr.heap.size, 1, none⟩ = some (.int .i64 z) := (World.cell?_of_block (hf5.2 wr.heap.size s4' (by omega) (by omega) (by omega))).trans o1)
          | (go_at_call_of 23 (Value.pointer (some ⟨g', 0, none⟩)); refine (HP2 _ ?_).mono ?_; exact HLB4.out.hi hf5 HYH.out HYL.out |>.alike rfl; rintro e w6 ⟨rfl, hr6, hf6'⟩; have hf6 : Fl g' r' Q w5 w6 := ⟨⟨hf6'.1.os, hf6'.1.tape, hf6'.1.output, hf6'.1.size, fun i hi => absurd hi (Nat.not_lt_zero _)⟩, fun i hi => hf6'.2 i hi⟩))
        all_goals (
          have HA6 : Hid (LdAt g r p 5 (unL z m) (c) (k) w6) := hr5.lo hf6 HYL.out HYH.out
          have HB6 : Hid (LdAt g' r' Q 5 (unL z m) (addI (c) fr) (addI (k) fr) w6) := hr6
          have z5 := hf5.1.size
          have z6 := hf6.1.size
          have HW6 : Hid (Below w.heap.size w w6) := (HBW4.out.trans (hf5.below (by omega) x3 x2 x1)).trans (hf6.below (by omega) x6 x5 x4)
          have s6 : B ≤ w6.heap.size := by omega
          clear hr5 hf5 hf5' hr6 hf6 hf6' o5 z5 z6 HLA4 HLB4 HBW4 HX o1 o4
          go_wp2_with fail
          have hM := HA6.out.ln
          have HS1 := fun W hW => sent_any g r p 5 (unL z m) (c) (k) W hW
          have HS2 := fun W hW => sent_any g' r' Q 5 (unL z m) (addI (c) fr) (addI (k) fr) W hW
          have HRA := fun W => refAdd_any (addI (c) ((unL z m).length : Int)) fr (addI_u _ _) HNF.out W
          have HO1 := fun W hW => lopen_any g r p 5 (unL z m) (c) (k) W hW
          have HO2 := fun W hW => lopen_any g' r' Q 5 (unL z m) (addI (c) fr) (addI (k) fr) W hW
          have HSM := fun (x y : Option Addr) (c1 c2 : Nat) (W : World) h1 h2 => same_any x y c1 c2 (unL z m) W h1 h2 (by omega)
          obtain ⟨C, hC⟩ : ∃ C, (unL z m).length = C := ⟨_, rfl⟩
          have EC : Hid _ := hC
          simp only [hC] at HS1 HS2 HRA HSM
          simp only [add_swap] at HRA
          obtain ⟨a1, ha1⟩ : ∃ a1, addI (c) (C : Int) = a1 := ⟨_, rfl⟩
          obtain ⟨a2, ha2⟩ : ∃ a2, addI (addI (c) fr) (C : Int) = a2 := ⟨_, rfl⟩
          simp only [ha2] at HRA HS2
          simp only [ha1] at HRA HS1
          clear hC ha1 ha2 hM
          go_wp2_with (first
            | (go_at_call_of 25 (Value.pointer (some ⟨g, 0, none⟩)); refine (HS1 _ ?_).mono ?_; exact HA6.out.alike rfl; rintro e w7 ⟨rfl, m7, rfl⟩)
            | (go_at_call 30; refine (HRA _).mono ?_; rintro e w7 ⟨rfl, rfl⟩)
            | (go_at_call_of 25 (Value.pointer (some ⟨g', 0, none⟩)); refine (HS2 _ ?_).mono ?_; exact HB6.out.alike rfl; rintro e w7 ⟨rfl, m8, rfl⟩)
            | (go_at_call_of 29 (Value.pointer (some ⟨g, 0, none⟩)); refine (HO1 _ ?_).mono ?_; exact HA6.out.alike rfl; rintro e w7 ⟨⟨ao7, cap7, rfl, ht7⟩, hb7'⟩; rw [EC.out]; have hb7 : Below w6.heap.size w6 w7 := below_drewN (Below.refl _ _) |>.trans hb7')
            | (go_at_call_of 29 (Value.pointer (some ⟨g', 0, none⟩)); refine (HO2 _ ?_).mono ?_; exact HB6.out.below hb7; rintro e w8 ⟨⟨ao8, cap8, rfl, ht8⟩, hb8⟩; rw [EC.out])
            | (go_at_call 21; refine (HSM _ _ _ _ _ ?_ ?_).mono ?_; exact RowS.below ht7.row hb8; exact ht8.row; rintro e w9 ⟨rfl, m9, rfl⟩))
          go_roundw
          case rel =>
            have hb9 : Below w6.heap.size w6 (w8.drewN m9) := below_drewN (hb7.trans (hb8.mono hb7.size))
            exact ⟨j + 1, by omega, by go_num, ⟨unL z m, c, k, HA6.out.below hb9, HB6.out.below hb9⟩, Nat.le_trans s6 hb9.size, HW6.out.trans (hb9.mono (by omega))⟩
          case measure => simp [intOf]; omega)
    · obtain rfl : j = N := by omega
      have hnl : ¬ (j : Int) < (j : Int) := by omega
      go_wp2_with fail
      go_ret
      exact ⟨rfl, hbw⟩
end Go.Proofs.Ytjmggofcncladaa
