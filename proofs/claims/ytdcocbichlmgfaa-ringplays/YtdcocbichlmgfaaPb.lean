/-
  The walk of the statement RingPlays over this program.
-/
import Derived.Test.YtdcocbichlmgfaaPs
import Derived.Test.YtdcocbichlmgfaaPc
namespace Go.Proofs.Ytdcocbichlmgfaa
open Go Go.RowKit
set_option maxHeartbeats 4000000 in
set_option maxRecDepth 100000 in
theorem plays_walk (zp : Int) (ao : Option Addr) (cap : Nat) (ts : List (Int × Int × ByteArray)) (w : World) (hA : ArgOps w ao ts) (hcap : ts.length ≤ cap) :
    Calls Try.prog 3 #[.int .i64 zp, .slice ao ts.length cap] w fun e w' => e = .returned (.bool true) ∧ Below w.heap.size w w' := by
  obtain ⟨N, hN⟩ : ∃ N, min ts.length 200 = N := ⟨_, rfl⟩
  have HE := fun W => early_any ao ts.length cap hcap W
  rw [hN] at HE
  have hN2 : N ≤ 200 := by omega
  have HNT : Hid (N ≤ ts.length) := by show _ ≤ _; omega
  have HA : Hid _ := hA
  obtain ⟨T, hT⟩ : ∃ T, ts.length = T := ⟨_, rfl⟩
  rw [hT] at HE HNT ⊢
  have ET : Hid _ := hT
  clear hA hcap hN hT
  go_enter Try.func3, Try.ntmps3
  go_wp2_with (first
    | (go_at_call 9; refine (lives_any _).mono ?_; rintro e w1 ⟨rfl, hb1⟩)
    | (go_at_call 10; refine (new_any _ _).mono ?_; rintro e w2 ⟨rfl, hr2, hb2⟩)
    | (go_at_call 11; refine (refNew_any _ _).mono ?_; rintro e w3 ⟨rfl, hw3'⟩; have hw3 : Hid _ := hw3'; clear hw3')
    | (go_at_call 12; refine (HE _).mono ?_; rintro e w3 ⟨rfl, rfl⟩))
  have s1 := hb1.size
  have s2 := hb2.size
  obtain ⟨l1, l2⟩ := hr2.lt
  have hb3 : Below w2.heap.size w2 w3 := by rw [hw3.out]; exact (Below.refl _ w2).alloc (Nat.le_refl _) _
  have hs3 : w3.heap.size = w2.heap.size + 1 := by rw [hw3.out]; simp
  have HQ3 : Hid (QAt w3.heap.size w2.heap.size (nz zp) [] w3) := by
    refine ⟨none, 0, ?_, World.ownsRow_nil _ _ _ _⟩
    rw [hw3.out]
    exact heap_alloc_new w2 _
  have HR3 : Hid _ := hr2.below hb3
  have HB3 : Hid (Below w.heap.size w w3) := (hb1.trans (hb2.mono s1)).trans (hb3.mono (by omega))
  obtain ⟨p, hp⟩ : ∃ p, w1.heap.size = p := ⟨_, rfl⟩
  obtain ⟨r, hr⟩ : ∃ r, p + 1 = r := ⟨_, rfl⟩
  obtain ⟨q, hq⟩ : ∃ q, w2.heap.size = q := ⟨_, rfl⟩
  obtain ⟨B, hB⟩ : ∃ B, w3.heap.size = B := ⟨_, rfl⟩
  obtain ⟨n, hn⟩ : ∃ n, nz zp = n := ⟨_, rfl⟩
  have HBB : Hid _ := hB
  rw [hp, hr, hn] at HR3
  rw [hq, hn, hB] at HQ3
  rw [hp, hr, hq]
  have n64 := (nz_b zp).2
  rw [hn] at n64
  have q1 : w.heap.size ≤ p := by omega
  have q2 : w.heap.size ≤ r := by omega
  have q3 : w.heap.size ≤ q := by omega
  have q4 : w.heap.size ≤ B := by omega
  have b1 : p < B := by omega
  have b2 : r < B := by omega
  have b3 : q < B := by omega
  have d1 : r ≠ q := by omega
  have d2 : p ≠ q := by omega
  clear hr2 hb1 hb2 hp hr hn hb3 hq hB hs3 hw3 l1 l2 s1 s2 HE
  go_loopw [7, 8, 9, 10, 11] (fun i _ _ _ _ wr => ∃ j : Nat, j ≤ N ∧ i = .int .i64 (j : Int) ∧ (∃ f m, RgAt r p n f m wr ∧ QAt B q n m wr) ∧ B ≤ wr.heap.size ∧ Below w.heap.size w wr) (fun i _ _ _ _ _ => N - (intOf i).toNat)
  case atStart => exact ⟨0, Nat.zero_le _, rfl, ⟨0, [], HR3.out, HQ3.out⟩, Nat.le_of_eq HBB.out.symm, HB3.out⟩
  case round =>
    obtain ⟨j, hj, rfl, ⟨f, m, hrg, hqg⟩, hBw, hbw⟩ := hrel
    by_cases hlt : j < N
    · obtain ⟨⟨k, z, s⟩, ht⟩ : ∃ t, ts[j]? = some t := ⟨_, List.getElem?_eq_getElem (by rw [ET.out]; have := HNT.out; omega)⟩
      obtain ⟨g, off, rfl, hg, e0, e1, e2⟩ := HA.out j _ ht
      have hg' : g < wr.heap.size := Nat.lt_of_lt_of_le hg hbw.size
      have c0 : wr.cell? ⟨g, off + j * 3, none⟩ = some (.int .i64 k) := (hbw.cell (p := ⟨g, off + j * 3, none⟩) hg).trans e0
      have c1 : wr.cell? ⟨g, off + j * 3 + 1, none⟩ = some (.int .i64 z) := (hbw.cell (p := ⟨g, off + j * 3 + 1, none⟩) hg).trans e1
      have c2 : wr.cell? ⟨g, off + j * 3 + 2, none⟩ = some (.string s) := (hbw.cell (p := ⟨g, off + j * 3 + 2, none⟩) hg).trans e2
      have j1 : (j : Int) < (N : Int) := by omega
      have j0 : (0 : Int) ≤ (j : Int) := by omega
      have hsz := hbw.size
      have hln := hrg.ln
      have HRG : Hid _ := hrg
      have HQG : Hid (QAt B q n m wr) := hqg
      have HBW : Hid (Below w.heap.size w wr) := hbw
      have HK := fun W => kind_any k z s W
      have hk4 := kd_lt k
      obtain ⟨K, hK⟩ : ∃ K, kd k = K := ⟨_, rfl⟩
      simp only [hK] at HK
      rw [hK] at hk4
      clear e0 e1 e2 ht hrg hqg hbw hK
      have hcase : K = 0 ∨ K = 1 ∨ K = 2 ∨ K = 3 := by omega
      clear hk4
      rcases hcase with rfl | rfl | rfl | rfl
      · have HK0 : ∀ W, Calls Try.prog 13 #[.agg #[.int .i64 k, .int .i64 z, .string s]] W fun e w' => e = .returned (.int .i64 0) ∧ Below W.heap.size W w' := HK
        clear HK
        go_wp2_with (go_at_call 13; refine (HK0 _).mono ?_; rintro e w4 ⟨rfl, hb4⟩)
        have hX : Below wr.heap.size wr w4 := ((Below.refl _ wr).alloc (Nat.le_refl _) _).trans (hb4.mono (by simp))
        have ho4 : w4.heap[wr.heap.size]? = some (.cells #[.int .i64 k, .int .i64 z, .string s] 30 (0, 0)) := (hb4.block wr.heap.size (by simp)).trans (heap_alloc_new wr _)
        have o1 : w4.cell? ⟨wr.heap.size, 1, none⟩ = some (.int .i64 z) := by simp [World.cell?, ho4]
        have o2 : w4.cell? ⟨wr.heap.size, 2, none⟩ = some (.string s) := by simp [World.cell?, ho4]
        have HR4 : Hid _ := HRG.out.below hX
        have HQ4 : Hid (QAt B q n m w4) := QAt.below HQG.out hX
        have HX : Hid (Below wr.heap.size wr w4) := hX
        have s4 := hX.size
        have s4' : wr.heap.size < w4.heap.size := lt_of_heap ho4
        clear hb4 hX ho4 c0 c1 c2 HRG HQG
        have HP1 := fun W hh => push_any r p n f m s W hh
        have HP2 := fun W hh hB => refPush_any B q n m s W hh (by omega) hB
        obtain ⟨b, hb⟩ : ∃ b, decide (m.length < n) = b := ⟨_, rfl⟩
        rw [hb] at HP1 HP2
        clear hb hln
        go_region_with (first
          | (go_at_call 14; refine (HP1 _ ?_).mono ?_; exact HR4.out.keep rfl rfl; rintro e w5 ⟨rfl, hr5, hf5'⟩; have hf5 := (Fz.refl r p w4).drew.trans hf5'; have o5 : w5.cell? ⟨wr.heap.size, 2, none⟩ = some (.string s) := (World.cell?_of_block (hf5.2 wr.heap.size s4' (by omega) (by omega))).trans o2)
          | (go_at_call 15; refine (HP2 _ ?_ ?_).mono ?_; exact QAt.fz HQ4.out hf5 b2 b1 d1.symm d2.symm; exact Nat.le_trans (Nat.le_trans hBw s4) hf5.1.size; rintro e w6 ⟨rfl, hq6, hf6⟩))
        all_goals (
          have HR6 : Hid (RgAt r p n f (pushN n m s) w6) := hr5.fq hf6 b2 b1 d1 d2
          have HQ6 : Hid (QAt B q n (pushN n m s) w6) := hq6
          have HB6 : Hid (Below w.heap.size w w6) := ((HBW.out.trans (HX.out.mono hsz)).trans (hf5.below (by omega) q2 q1)).trans (hf6.below q4 q3 (by have := hf5.1.size; omega))
          have s6 : B ≤ w6.heap.size := by have := hf5.1.size; have := hf6.1.size; omega
          clear hr5 hf5 hf5' hq6 hf6 o5
          go_wp2_with fail
          refine tail20 B r p q n f (pushN n m s) w6 HR6.out HQ6.out _ _ (fun _ d _ _ _ h => by cases d <;> exact h) (fun u112 u113 u114 u115 u116 u117 u118 u119 u120 u121 u122 u123 u124 u125 u126 u127 u128 u129 u130 u131 u132 u133 u134 u135 u136 u137 u138 u139 u140 u141 w7 hb7 => ?_)
          go_wp2_with fail
          go_roundw
          case rel => exact ⟨j + 1, by omega, by go_num, ⟨f, (pushN n m s), HR6.out.below hb7, QAt.below HQ6.out hb7⟩, Nat.le_trans s6 hb7.size, HB6.out.trans (hb7.mono (Nat.le_trans q4 s6))⟩
          case measure => simp [intOf]; omega)
      · have HK0 : ∀ W, Calls Try.prog 13 #[.agg #[.int .i64 k, .int .i64 z, .string s]] W fun e w' => e = .returned (.int .i64 1) ∧ Below W.heap.size W w' := HK
        clear HK
        go_wp2_with (go_at_call 13; refine (HK0 _).mono ?_; rintro e w4 ⟨rfl, hb4⟩)
        have hX : Below wr.heap.size wr w4 := ((Below.refl _ wr).alloc (Nat.le_refl _) _).trans (hb4.mono (by simp))
        have ho4 : w4.heap[wr.heap.size]? = some (.cells #[.int .i64 k, .int .i64 z, .string s] 30 (0, 0)) := (hb4.block wr.heap.size (by simp)).trans (heap_alloc_new wr _)
        have o1 : w4.cell? ⟨wr.heap.size, 1, none⟩ = some (.int .i64 z) := by simp [World.cell?, ho4]
        have HR4 : Hid _ := HRG.out.below hX
        have HQ4 : Hid (QAt B q n m w4) := QAt.below HQG.out hX
        have HX : Hid (Below wr.heap.size wr w4) := hX
        have s4 := hX.size
        have s4' : wr.heap.size < w4.heap.size := lt_of_heap ho4
        clear hb4 hX ho4 c0 c1 c2 HRG HQG
        have HP1 := fun W hh => drop_all r p n f m z W hh
        have HP2 := fun W hh hB => refDrop_any B q n m z W hh (by omega) hB
        obtain ⟨b, hb⟩ : ∃ b, decide (0 ≤ z ∧ z ≤ m.length) = b := ⟨_, rfl⟩
        rw [hb] at HP1 HP2
        clear hb hln
        go_region_with (first
          | (go_at_call 16; refine (HP1 _ ?_).mono ?_; exact HR4.out.keep rfl rfl; rintro e w5 ⟨rfl, ⟨f5, hr5⟩, hf5'⟩; have hf5 := (Fz.refl r p w4).drew.trans hf5'; have o5 : w5.cell? ⟨wr.heap.size, 1, none⟩ = some (.int .i64 z) := (World.cell?_of_block (hf5.2 wr.heap.size s4' (by omega) (by omega))).trans o1)
          | (go_at_call 17; refine (HP2 _ ?_ ?_).mono ?_; exact QAt.fz HQ4.out hf5 b2 b1 d1.symm d2.symm; exact Nat.le_trans (Nat.le_trans hBw s4) hf5.1.size; rintro e w6 ⟨rfl, hq6, hf6⟩))
        all_goals (
          have HR6 : Hid (RgAt r p n f5 (dropN m z) w6) := hr5.fz hf6 d1 d1 d2 d2
          have HQ6 : Hid (QAt B q n (dropN m z) w6) := hq6
          have HB6 : Hid (Below w.heap.size w w6) := ((HBW.out.trans (HX.out.mono hsz)).trans (hf5.below (by omega) q2 q1)).trans (hf6.below (by have := hf5.1.size; omega) q3 q3)
          have s6 : B ≤ w6.heap.size := by have := hf5.1.size; have := hf6.1.size; omega
          clear hr5 hf5 hf5' hq6 hf6 o5
          go_wp2_with fail
          refine tail20 B r p q n f5 (dropN m z) w6 HR6.out HQ6.out _ _ (fun _ d _ _ _ h => by cases d <;> exact h) (fun u112 u113 u114 u115 u116 u117 u118 u119 u120 u121 u122 u123 u124 u125 u126 u127 u128 u129 u130 u131 u132 u133 u134 u135 u136 u137 u138 u139 u140 u141 w7 hb7 => ?_)
          go_wp2_with fail
          go_roundw
          case rel => exact ⟨j + 1, by omega, by go_num, ⟨f5, (dropN m z), HR6.out.below hb7, QAt.below HQ6.out hb7⟩, Nat.le_trans s6 hb7.size, HB6.out.trans (hb7.mono (Nat.le_trans q4 s6))⟩
          case measure => simp [intOf]; omega)
      · have HK0 : ∀ W, Calls Try.prog 13 #[.agg #[.int .i64 k, .int .i64 z, .string s]] W fun e w' => e = .returned (.int .i64 2) ∧ Below W.heap.size W w' := HK
        clear HK
        go_wp2_with (go_at_call 13; refine (HK0 _).mono ?_; rintro e w4 ⟨rfl, hb4⟩)
        have hX : Below wr.heap.size wr w4 := ((Below.refl _ wr).alloc (Nat.le_refl _) _).trans (hb4.mono (by simp))
        have ho4 : w4.heap[wr.heap.size]? = some (.cells #[.int .i64 k, .int .i64 z, .string s] 30 (0, 0)) := (hb4.block wr.heap.size (by simp)).trans (heap_alloc_new wr _)
        have o1 : w4.cell? ⟨wr.heap.size, 1, none⟩ = some (.int .i64 z) := by simp [World.cell?, ho4]
        have HR4 : Hid _ := HRG.out.below hX
        have HQ4 : Hid (QAt B q n m w4) := QAt.below HQG.out hX
        have HX : Hid (Below wr.heap.size wr w4) := hX
        have s4 := hX.size
        have s4' : wr.heap.size < w4.heap.size := lt_of_heap ho4
        clear hb4 hX ho4 c0 c1 c2 HRG HQG
        have HP1 := fun W hh => cut_any r p n f m z W hh
        have HP2 := fun W hh hB => refCut_any B q n m z W hh (by omega) hB
        obtain ⟨C, hC⟩ : ∃ C, (m.drop z.toNat).length = C := ⟨_, rfl⟩
        have EC : Hid _ := hC
        have hC6 : C ≤ 64 := by rw [← hC, List.length_drop]; omega
        have HSM := fun (x y : Option Addr) (k1 k2 : Nat) (W : World) h1 h2 => same_any x y k1 k2 (m.drop z.toNat) W h1 h2 (by rw [hC]; omega)
        rw [hC] at HSM
        clear hln hC
        go_region_with (first
          | (go_at_call 19; refine (HP1 _ ?_).mono ?_; exact HR4.out.keep rfl rfl; rintro e w5 ⟨⟨ao5, cap5, rfl, ht5⟩, hr5, hf5'⟩; rw [EC.out]; have hf5 := (Fz.refl r p w4).drew.trans hf5'; have o5 : w5.cell? ⟨wr.heap.size, 1, none⟩ = some (.int .i64 z) := (World.cell?_of_block (hf5.2 wr.heap.size s4' (by omega) (by omega))).trans o1)
          | (go_at_call 20; refine (HP2 _ ?_ ?_).mono ?_; exact QAt.fz HQ4.out hf5 b2 b1 d1.symm d2.symm; exact Nat.le_trans (Nat.le_trans hBw s4) hf5.1.size; rintro e w6 ⟨⟨ao6, cap6, rfl, ht6⟩, hq6, hf6⟩; rw [EC.out])
          | (go_at_call 18; refine (HSM _ _ _ _ _ ?_ ?_).mono ?_; exact (TxAt.fz ht5 hf6 (show q < w4.heap.size by omega) (show q < w4.heap.size by omega)).row; exact ht6.row; rintro e w8 ⟨rfl, mm, rfl⟩))
        all_goals (
          have HR6 : Hid (RgAt r p n f (m.take z.toNat) (w6.drewN mm)) := (hr5.fz hf6 d1 d1 d2 d2).keep rfl rfl
          have HQ6 : Hid (QAt B q n (m.take z.toNat) (w6.drewN mm)) := QAt.alike hq6 rfl
          have HB6 : Hid (Below w.heap.size w (w6.drewN mm)) := below_drewN (((HBW.out.trans (HX.out.mono hsz)).trans (hf5.below (by omega) q2 q1)).trans (hf6.below (by have := hf5.1.size; omega) q3 q3))
          have s6 : B ≤ w6.heap.size := by have := hf5.1.size; have := hf6.1.size; omega
          clear hr5 hf5 hf5' hq6 hf6 o5 ht5 ht6
          go_wp2_with fail
          refine tail20 B r p q n f (m.take z.toNat) (w6.drewN mm) HR6.out HQ6.out _ _ (fun _ d _ _ _ h => by cases d <;> exact h) (fun u112 u113 u114 u115 u116 u117 u118 u119 u120 u121 u122 u123 u124 u125 u126 u127 u128 u129 u130 u131 u132 u133 u134 u135 u136 u137 u138 u139 u140 u141 w7 hb7 => ?_)
          go_wp2_with fail
          go_roundw
          case rel => exact ⟨j + 1, by omega, by go_num, ⟨f, (m.take z.toNat), HR6.out.below hb7, QAt.below HQ6.out hb7⟩, Nat.le_trans s6 hb7.size, HB6.out.trans (hb7.mono (Nat.le_trans q4 s6))⟩
          case measure => simp [intOf]; omega)
      · have HK0 : ∀ W, Calls Try.prog 13 #[.agg #[.int .i64 k, .int .i64 z, .string s]] W fun e w' => e = .returned (.int .i64 3) ∧ Below W.heap.size W w' := HK
        clear HK
        obtain ⟨qa, qc, hqq, htq⟩ := QAt.parts HQG.out
        obtain ⟨C, hC⟩ : ∃ C, m.length = C := ⟨_, rfl⟩
        have EC : Hid _ := hC
        rw [hC] at hqq
        obtain ⟨x0, x1, _⟩ := q_cells hqq
        have hql := lt_of_heap hqq
        have HTR : Hid (RowS wr qa m) := htq.row
        clear hqq htq
        by_cases hz : 0 ≤ z ∧ z < (C : Int)
        · obtain ⟨kk, rfl⟩ : ∃ kk : Nat, z = (kk : Int) := ⟨z.toNat, by omega⟩
          obtain ⟨sx, hsx⟩ : ∃ sx, m[kk]? = some sx := ⟨_, List.getElem?_eq_getElem (by rw [hC]; omega)⟩
          have HAT := fun W hh => at_in r p n f m kk sx W hh hsx
          obtain ⟨ad, rfl, x3⟩ := HTR.out kk sx hsx
          have hadl := World.block_lt_of_cell? wr _ x3
          have z0 : (0 : Int) ≤ (kk : Int) := by omega
          have z1 : (kk : Int) < (C : Int) := by omega
          clear hsx hC hz
          go_wp2_with (first
            | (go_at_call 13; refine (HK0 _).mono ?_; rintro e w4 ⟨rfl, hb4⟩; have hX : Below wr.heap.size wr w4 := (((Below.refl _ wr).alloc (Nat.le_refl _) _).trans (hb4.mono (by simp))); have ho4 : w4.heap[wr.heap.size]? = some (.cells #[.int .i64 k, .int .i64 (kk : Int), .string s] 30 (0, 0)) := ((hb4.block wr.heap.size (by simp)).trans (heap_alloc_new wr _)); have o1 : w4.cell? ⟨wr.heap.size, 1, none⟩ = some (.int .i64 (kk : Int)) := (by simp [World.cell?, ho4]); have y0 : w4.cell? ⟨q, 0, none⟩ = some (.slice (some ad) C qc) := ((hX.cell (p := ⟨q, 0, none⟩) hql).trans x0); have y3 : w4.cell? (ad.add kk) = some (.string sx) := ((hX.cell hadl).trans x3))
            | (go_at_call 21; refine (HAT _ ?_).mono ?_; exact HRG.out.below hX; rintro e w5 ⟨rfl, mm, rfl⟩))
          go_quiet (fail)
          have s6 : B ≤ w4.heap.size := Nat.le_trans hBw hX.size
          have hs46 : w.heap.size ≤ w4.heap.size := Nat.le_trans hsz hX.size
          have HX4 : Hid (Below wr.heap.size wr w4) := hX
          clear ho4 o1 y0 hb4 hX
          go_wp2_with fail
          refine tail20 B r p q n f m _ (by exact (HRG.out.below HX4.out).keep rfl rfl) (by exact QAt.alike (QAt.below HQG.out HX4.out) rfl) _ _ (fun _ d _ _ _ h => by cases d <;> exact h) (fun u112 u113 u114 u115 u116 u117 u118 u119 u120 u121 u122 u123 u124 u125 u126 u127 u128 u129 u130 u131 u132 u133 u134 u135 u136 u137 u138 u139 u140 u141 w7 hb7' => ?_)
          have hb7 : Below w4.heap.size w4 w7 := (below_drewN (below_drewN (Below.refl w4.heap.size w4))).trans hb7'
          clear hb7'
          go_wp2_with fail
          go_roundw
          case rel => exact ⟨j + 1, by omega, by go_num, ⟨f, m, (HRG.out.below HX4.out).below hb7, (QAt.below HQG.out HX4.out).below hb7⟩, Nat.le_trans s6 hb7.size, (HBW.out.trans (HX4.out.mono hsz)).trans (hb7.mono hs46)⟩
          case measure => simp [intOf]; omega
        · have HAT := fun W hh => at_out r p n f m z W hh (by rw [hC]; exact hz)
          clear hC
          by_cases hzn : z < 0
          · have z0 : ¬ (0 : Int) ≤ z := by omega
            have z0' : decide ((0 : Int) ≤ z) = false := by simp; omega
            clear hz
            go_wp2_with (first
              | (go_at_call 13; refine (HK0 _).mono ?_; rintro e w4 ⟨rfl, hb4⟩; have hX : Below wr.heap.size wr w4 := (((Below.refl _ wr).alloc (Nat.le_refl _) _).trans (hb4.mono (by simp))); have ho4 : w4.heap[wr.heap.size]? = some (.cells #[.int .i64 k, .int .i64 z, .string s] 30 (0, 0)) := ((hb4.block wr.heap.size (by simp)).trans (heap_alloc_new wr _)); have o1 : w4.cell? ⟨wr.heap.size, 1, none⟩ = some (.int .i64 z) := (by simp [World.cell?, ho4]); have y0 : w4.cell? ⟨q, 0, none⟩ = some (.slice qa C qc) := ((hX.cell (p := ⟨q, 0, none⟩) hql).trans x0))
              | (go_at_call 21; refine (HAT _ ?_).mono ?_; exact HRG.out.below hX; rintro e w4 ⟨rfl, rfl⟩))
            go_quiet (fail)
            have s6 : B ≤ w4.heap.size := Nat.le_trans hBw hX.size
            have hs46 : w.heap.size ≤ w4.heap.size := Nat.le_trans hsz hX.size
            have HX4 : Hid (Below wr.heap.size wr w4) := hX
            clear ho4 o1 y0 hb4 hX
            go_wp2_with fail
            refine tail20 B r p q n f m _ (by exact (HRG.out.below HX4.out).keep rfl rfl) (by exact QAt.alike (QAt.below HQG.out HX4.out) rfl) _ _ (fun _ d _ _ _ h => by cases d <;> exact h) (fun u112 u113 u114 u115 u116 u117 u118 u119 u120 u121 u122 u123 u124 u125 u126 u127 u128 u129 u130 u131 u132 u133 u134 u135 u136 u137 u138 u139 u140 u141 w7 hb7' => ?_)
            have hb7 : Below w4.heap.size w4 w7 := (below_drewN (Below.refl w4.heap.size w4)).trans hb7'
            clear hb7'
            go_wp2_with fail
            go_roundw
            case rel => exact ⟨j + 1, by omega, by go_num, ⟨f, m, (HRG.out.below HX4.out).below hb7, (QAt.below HQG.out HX4.out).below hb7⟩, Nat.le_trans s6 hb7.size, (HBW.out.trans (HX4.out.mono hsz)).trans (hb7.mono hs46)⟩
            case measure => simp [intOf]; omega
          · have z0 : (0 : Int) ≤ z := by omega
            have z0' : decide ((0 : Int) ≤ z) = true := by simp; omega
            have z1 : ¬ z < (C : Int) := by omega
            have z1' : decide (z < (C : Int)) = false := by simp; omega
            clear hz
            go_wp2_with (first
              | (go_at_call 13; refine (HK0 _).mono ?_; rintro e w4 ⟨rfl, hb4⟩; have hX : Below wr.heap.size wr w4 := (((Below.refl _ wr).alloc (Nat.le_refl _) _).trans (hb4.mono (by simp))); have ho4 : w4.heap[wr.heap.size]? = some (.cells #[.int .i64 k, .int .i64 z, .string s] 30 (0, 0)) := ((hb4.block wr.heap.size (by simp)).trans (heap_alloc_new wr _)); have o1 : w4.cell? ⟨wr.heap.size, 1, none⟩ = some (.int .i64 z) := (by simp [World.cell?, ho4]); have y0 : w4.cell? ⟨q, 0, none⟩ = some (.slice qa C qc) := ((hX.cell (p := ⟨q, 0, none⟩) hql).trans x0))
              | (go_at_call 21; refine (HAT _ ?_).mono ?_; exact HRG.out.below hX; rintro e w4 ⟨rfl, rfl⟩))
            go_quiet (fail)
            have s6 : B ≤ w4.heap.size := Nat.le_trans hBw hX.size
            have hs46 : w.heap.size ≤ w4.heap.size := Nat.le_trans hsz hX.size
            have HX4 : Hid (Below wr.heap.size wr w4) := hX
            clear ho4 o1 y0 hb4 hX
            go_wp2_with fail
            refine tail20 B r p q n f m _ (by exact (HRG.out.below HX4.out).keep rfl rfl) (by exact QAt.alike (QAt.below HQG.out HX4.out) rfl) _ _ (fun _ d _ _ _ h => by cases d <;> exact h) (fun u112 u113 u114 u115 u116 u117 u118 u119 u120 u121 u122 u123 u124 u125 u126 u127 u128 u129 u130 u131 u132 u133 u134 u135 u136 u137 u138 u139 u140 u141 w7 hb7' => ?_)
            have hb7 : Below w4.heap.size w4 w7 := (below_drewN (Below.refl w4.heap.size w4)).trans hb7'
            clear hb7'
            go_wp2_with fail
            go_roundw
            case rel => exact ⟨j + 1, by omega, by go_num, ⟨f, m, (HRG.out.below HX4.out).below hb7, (QAt.below HQG.out HX4.out).below hb7⟩, Nat.le_trans s6 hb7.size, (HBW.out.trans (HX4.out.mono hsz)).trans (hb7.mono hs46)⟩
            case measure => simp [intOf]; omega
    · have j1 : ¬ (j : Int) < (N : Int) := by omega
      have HBW : Hid (Below w.heap.size w wr) := hbw
      clear hrg hqg hbw
      go_wp2_with fail
      go_ret
      exact ⟨rfl, HBW.out⟩
end Go.Proofs.Ytdcocbichlmgfaa
