/-
  The walk of the statement LedgerPlays over this program.
-/
import Derived.Test.YtjmggofcncladaaPs
namespace Go.Proofs.Ytjmggofcncladaa
open Go Go.RowKit
theorem push_all {n d : Nat} {all : List ByteArray} {s : ByteArray} (hd : d ≤ all.length) : pushN n (all.drop d) s = (allN n d all s).drop d ∧ d ≤ (allN n d all s).length ∧ (allN n d all s).length ≤ all.length + 1 := by
  unfold pushN allN
  rw [List.length_drop]
  split
  · refine ⟨(List.drop_append_of_le_length hd).symm, ?_, ?_⟩ <;> simp <;> omega
  · exact ⟨rfl, hd, by omega⟩
theorem snd_all {n d : Nat} {all : List ByteArray} : (if all.length - d < n then (0 : Int) else 13) = sndE n (all.drop d) := by
  unfold sndE
  rw [List.length_drop]
/-- How many are confirmed behind a Confirm. -/
def dnN (h st : Int) (d : Nat) (all : List ByteArray) : Nat := if okC h (addI st d) (all.drop d) then d + (ahI (addI st d) h).toNat else d
theorem cf_all {h st : Int} {d : Nat} {all : List ByteArray} (hh : U h) (hd : d ≤ all.length) : cfL h (addI st d) (all.drop d) = all.drop (dnN h st d all) ∧ cfC h (addI st d) (all.drop d) = addI st (dnN h st d all) ∧ dnN h st d all ≤ all.length := by
  unfold cfL cfC dnN
  have hu := ahI_u (addI st d) h
  by_cases hk : okC h (addI st d) (all.drop d)
  · simp only [if_pos hk]
    unfold okC at hk
    rw [List.length_drop] at hk
    refine ⟨by rw [List.drop_drop], ?_, by omega⟩
    obtain ⟨t, ht⟩ : ∃ t : Nat, ahI (addI st d) h = (t : Int) := ⟨(ahI (addI st d) h).toNat, by unfold U at hu; omega⟩
    rw [ht, Int.toNat_natCast]
    unfold ahI addI U at *
    omega
  · simp only [if_neg hk]
    exact ⟨trivial, trivial, hd⟩
theorem tk_all (st z : Int) (i : Nat) : addI (addI st i) (max z 0) = addI st ((i + (max z 0 % 4294967296).toNat : Nat) : Int) := by unfold addI; omega
theorem un_all {z : Int} {d : Nat} {all : List ByteArray} (hd : d ≤ all.length) : unL z (all.drop d) = (if 0 ≤ z ∧ z ≤ ((all.length - d : Nat) : Int) then all.take (all.length - z.toNat) else all).drop d ∧ d ≤ (if 0 ≤ z ∧ z ≤ ((all.length - d : Nat) : Int) then all.take (all.length - z.toNat) else all).length ∧ (if 0 ≤ z ∧ z ≤ ((all.length - d : Nat) : Int) then all.take (all.length - z.toNat) else all).length ≤ all.length := by
  unfold unL
  rw [List.length_drop]
  split
  · refine ⟨?_, by rw [List.length_take]; omega, by rw [List.length_take]; omega⟩
    rw [List.take_drop]
    congr 2
    omega
  · exact ⟨rfl, hd, Nat.le_refl _⟩
set_option maxHeartbeats 8000000 in
set_option maxRecDepth 100000 in
theorem plays_walk (zp st : Int) (hs0 : U st) (ao : Option Addr) (cap : Nat) (ts : List Sp) (w : World) (hA : ArgOps w ao ts) (hcap : ts.length ≤ cap) :
    Calls Try.prog 3 #[.int .i64 zp, .int .u32 st, .slice ao ts.length cap] w fun e w' => e = .returned (.bool true) ∧ Below w.heap.size w w' := by
  obtain ⟨N, hN⟩ : ∃ N, min ts.length 200 = N := ⟨_, rfl⟩
  have HE := fun W => early_any ao ts.length cap hcap W
  rw [hN] at HE
  have hN2 : N ≤ 200 := by omega
  have HNT : Hid (N ≤ ts.length) := by show N ≤ ts.length; omega
  have HA : Hid _ := hA
  have HU : Hid (U st) := hs0
  obtain ⟨T, hT⟩ : ∃ T, ts.length = T := ⟨_, rfl⟩
  rw [hT] at HE HNT ⊢
  have ET : Hid _ := hT
  have HN0 := fun W => lnew_any zp st hs0 W
  clear hA hcap hN hT hs0
  go_enter Try.func3, Try.ntmps3
  go_wp2_with (first
    | (go_at_call 8; refine (lives_any _).mono ?_; rintro e w1 ⟨rfl, hb1⟩)
    | (go_at_call 9; refine (HN0 _).mono ?_; rintro e w2 ⟨rfl, hr2, hs2', hb2⟩; have hs2 : Hid _ := hs2'; clear hs2')
    | (go_at_call 10; refine (refNew_any _ _ _).mono ?_; rintro e w3 ⟨rfl, hw3'⟩; have hw3 : Hid _ := hw3'; clear hw3')
    | (go_at_call 11; refine (HE _).mono ?_; rintro e w3 ⟨rfl, rfl⟩))
  have s1 := hb1.size
  have s2 := hb2.size
  have hb3 : Below w2.heap.size w2 w3 := by rw [hw3.out]; exact (Below.refl _ w2).alloc (Nat.le_refl _) _
  have hs3 : w3.heap.size = w2.heap.size + 1 := by rw [hw3.out]; simp
  have HQ3 : Hid (QAt w3.heap.size w2.heap.size (nz zp) [] 0 0 st w3) := by
    refine ⟨none, 0, ?_, World.ownsRow_nil _ _ _ _⟩
    rw [hw3.out]
    exact heap_alloc_new w2 _
  have HR3 : Hid _ := hr2.below hb3
  have HB3 : Hid (Below w.heap.size w w3) := (hb1.trans (hb2.mono s1)).trans (hb3.mono (by omega))
  have e2 := hs2.out
  obtain ⟨p, hp⟩ : ∃ p, w1.heap.size = p := ⟨_, rfl⟩
  obtain ⟨r, hr⟩ : ∃ r, p + 1 = r := ⟨_, rfl⟩
  obtain ⟨g, hg⟩ : ∃ g, p + 2 = g := ⟨_, rfl⟩
  obtain ⟨q, hq⟩ : ∃ q, w2.heap.size = q := ⟨_, rfl⟩
  obtain ⟨B, hB⟩ : ∃ B, w3.heap.size = B := ⟨_, rfl⟩
  obtain ⟨n, hn⟩ : ∃ n, nz zp = n := ⟨_, rfl⟩
  have HBB : Hid _ := hB
  rw [hp, hr, hg, hn] at HR3
  rw [hq, hn, hB] at HQ3
  rw [hp, hg, hq]
  have n64 := (nz_b zp).2
  rw [hn] at n64
  have x1 : w.heap.size ≤ p := by omega
  have x2 : w.heap.size ≤ r := by omega
  have x3 : w.heap.size ≤ g := by omega
  have x4 : w.heap.size ≤ q := by omega
  have x7 : w.heap.size ≤ B := by omega
  have hgB : g < B := by omega
  have hrB : r < B := by omega
  have hpB : p < B := by omega
  have hqB : q < B := by omega
  have HYL : Hid (g < B ∧ r < B ∧ p < B) := ⟨hgB, hrB, hpB⟩
  have HYH : Hid (g ≠ q ∧ r ≠ q ∧ p ≠ q) := ⟨by omega, by omega, by omega⟩
  clear hr2 hb1 hb2 hp hr hg hb3 hq hB hs2 hs3 s1 s2 e2 HE HN0 hn hw3
  go_loopw [9, 10, 11, 12, 13, 14, 15, 16, 17, 18, 19, 20] (fun ii _ _ _ _ _ _ _ _ _ _ _ wr => ∃ j : Nat, j ≤ N ∧ ii = .int .i64 (j : Int) ∧ (∃ (all : List ByteArray) (d i : Nat), LdAt g r p n (List.drop d all) (addI st d) (addI st i) wr ∧ QAt B q n all d i st wr ∧ d ≤ List.length all ∧ List.length all ≤ j ∧ i ≤ j * 4294967296) ∧ B ≤ wr.heap.size ∧ Below w.heap.size w wr) (fun ii _ _ _ _ _ _ _ _ _ _ _ _ => N - (intOf ii).toNat)
  case atStart =>
    refine ⟨0, Nat.zero_le _, rfl, ⟨[], 0, 0, ?_, HQ3.out, Nat.le_refl _, Nat.le_refl _, Nat.zero_le _⟩, Nat.le_of_eq HBB.out.symm, HB3.out⟩
    have e : addI st ((0 : Nat) : Int) = st := by have h := HU.out; unfold addI; unfold U at h; omega
    rw [e]
    exact HR3.out
  case round =>
    obtain ⟨j, hj, rfl, ⟨all, d, i, hla, hqa, hd, hL, hi⟩, hBw, hbw⟩ := hrel
    by_cases hlt : j < N
    · obtain ⟨⟨kk, z, h, on, s⟩, ht⟩ : ∃ t, ts[j]? = some t := ⟨_, List.getElem?_eq_getElem (by rw [ET.out]; have := HNT.out; omega)⟩
      obtain ⟨b, off, rfl, hg, e0, e1, e2, e3, e4, hh, hz⟩ := HA.out j _ ht
      have hg' : b < wr.heap.size := Nat.lt_of_lt_of_le hg hbw.size
      have c0 : wr.cell? ⟨b, off + j * 5, none⟩ = some (.int .i64 kk) := (hbw.cell (p := ⟨b, off + j * 5, none⟩) hg).trans e0
      have c1 : wr.cell? ⟨b, off + j * 5 + 1, none⟩ = some (.int .i64 z) := (hbw.cell (p := ⟨b, off + j * 5 + 1, none⟩) hg).trans e1
      have c2 : wr.cell? ⟨b, off + j * 5 + 2, none⟩ = some (.int .u32 h) := (hbw.cell (p := ⟨b, off + j * 5 + 2, none⟩) hg).trans e2
      have c3 : wr.cell? ⟨b, off + j * 5 + 3, none⟩ = some (.bool on) := (hbw.cell (p := ⟨b, off + j * 5 + 3, none⟩) hg).trans e3
      have c4 : wr.cell? ⟨b, off + j * 5 + 4, none⟩ = some (.string s) := (hbw.cell (p := ⟨b, off + j * 5 + 4, none⟩) hg).trans e4
      have j1 : (j : Int) < (N : Int) := by omega
      have j0 : (0 : Int) ≤ (j : Int) := by omega
      have hsz := hbw.size
      have HLA : Hid _ := hla
      have HQA : Hid (QAt B q n all d i st wr) := hqa
      have HBW : Hid (Below w.heap.size w wr) := hbw
      have HZ : Hid _ := hz
      have HDL : Hid (d ≤ all.length ∧ all.length ≤ j ∧ i ≤ j * 4294967296) := ⟨hd, hL, hi⟩
      have HNUM := fun W (hW : LdAt g r p n (all.drop d) (addI st d) (addI st i) W) => number_any kk z h on s g r (addI st d) (addI st i) hh hla.uc W hW.hd
      have hnu : U (numI on h (addI st d)) := numI_u hh
      have HNU : Hid _ := hnu
      obtain ⟨a, ha⟩ : ∃ a, numI on h (addI st d) = a := ⟨_, rfl⟩
      simp only [ha] at HNUM
      rw [ha] at HNU
      have HK := fun W => kind_any kk z h on s W
      have hk5 := kd_lt kk
      obtain ⟨K, hK⟩ : ∃ K, kd kk = K := ⟨_, rfl⟩
      simp only [hK] at HK
      rw [hK] at hk5
      clear e0 e1 e2 e3 e4 ht hla hqa hbw hK ha hnu hh hz hd hL hi
      have hcase : K = 0 ∨ K = 1 ∨ K = 2 ∨ K = 3 ∨ K = 4 := by omega
      clear hk5
      rcases hcase with rfl | rfl | rfl | rfl | rfl
      · have HK0 : ∀ W, Calls Try.prog 13 #[.agg #[.int .i64 kk, .int .i64 z, .int .u32 h, .bool on, .string s]] W fun e w' => e = .returned (.int .i64 0) ∧ Below W.heap.size W w' := HK
        clear HK
        go_wp2_with (first
          | (go_at_call 12; refine (HNUM _ ?_).mono ?_; exact HLA.out.below ((Below.refl _ wr).alloc (Nat.le_refl _) _); rintro e w3 ⟨rfl, hb3⟩; have ho3 : w3.heap[wr.heap.size]? = some (.cells #[.int .i64 kk, .int .i64 z, .int .u32 h, .bool on, .string s] 31 (0, 0)) := (hb3.block wr.heap.size (by simp)).trans (heap_alloc_new wr _); have l0 : w3.cell? ⟨wr.heap.size, 0, none⟩ = some (.int .i64 kk) := (by simp [World.cell?, ho3]); have l1 : w3.cell? ⟨wr.heap.size, 1, none⟩ = some (.int .i64 z) := (by simp [World.cell?, ho3]); have l2 : w3.cell? ⟨wr.heap.size, 2, none⟩ = some (.int .u32 h) := (by simp [World.cell?, ho3]); have l3 : w3.cell? ⟨wr.heap.size, 3, none⟩ = some (.bool on) := (by simp [World.cell?, ho3]); have l4 : w3.cell? ⟨wr.heap.size, 4, none⟩ = some (.string s) := (by simp [World.cell?, ho3]); have HO3 : Hid _ := ho3; clear ho3)
          | (go_at_call 13; refine (HK0 _).mono ?_; rintro e w4 ⟨rfl, hb4⟩; have HX : Hid (Below wr.heap.size wr w4) := ((Below.refl _ wr).alloc (Nat.le_refl _) _ |>.trans (hb3.mono (by simp))).trans (hb4.mono (by have := hb3.size; simp at this; omega)); have ho4 : w4.heap[wr.heap.size]? = some (.cells #[.int .i64 kk, .int .i64 z, .int .u32 h, .bool on, .string s] 31 (0, 0)) := (hb4.block wr.heap.size (lt_of_heap HO3.out)).trans HO3.out; have s4' : wr.heap.size < w4.heap.size := lt_of_heap ho4; have o1 : w4.cell? ⟨wr.heap.size, 1, none⟩ = some (.int .i64 z) := (by simp [World.cell?, ho4]); have o4 : w4.cell? ⟨wr.heap.size, 4, none⟩ = some (.string s) := (by simp [World.cell?, ho4]); have HLA4 : Hid _ := HLA.out.below HX.out; have HQA4 : Hid (QAt B q n all d i st w4) := QAt.below HQA.out HX.out; have HBW4 : Hid (Below w.heap.size w w4) := HBW.out.trans (HX.out.mono hsz); clear hb4 hb3 ho4 l0 l1 l2 l3 l4 HO3))
        have HDL' := HDL.out
        obtain ⟨hp1, hd6, hp3⟩ := push_all (n := n) (s := s) HDL'.1
        have HP1 := fun W hW => send_any g r p n (all.drop d) (addI st d) (addI st i) s W hW
        have HP2 := fun W hW hB => refSend_any B q n d i all st s W hW (by omega) HDL'.1 hB
        simp only [snd_all] at HP2
        simp only [hp1] at HP1
        obtain ⟨A, hA'⟩ : ∃ A, allN n d all s = A := ⟨_, rfl⟩
        simp only [hA'] at HP1 HP2
        rw [hA'] at hd6 hp3
        obtain ⟨en, hen⟩ : ∃ en, sndE n (all.drop d) = en := ⟨_, rfl⟩
        simp only [hen] at HP1 HP2
        have hL6 : A.length ≤ j + 1 := by omega
        have hi6 : i ≤ (j + 1) * 4294967296 := by omega
        clear hen hA' hp1 hp3 HDL' c0 c1 c2 c3 c4
        go_region_with (first
          | (go_at_call 14; refine (HP1 _ ?_).mono ?_; exact HLA4.out.alike rfl; rintro e w5 ⟨rfl, hr5, hf5'⟩; have hf5 : Fl g r p w4 w5 := ⟨⟨hf5'.1.os, hf5'.1.tape, hf5'.1.output, hf5'.1.size, fun i hi => absurd hi (Nat.not_lt_zero _)⟩, fun i hi => hf5'.2 i hi⟩; have o5 : w5.cell? ⟨wr.heap.size, 4, none⟩ = some (.string s) := (World.cell?_of_block (hf5.2 wr.heap.size s4' (by omega) (by omega) (by omega))).trans o4)
          | (go_at_call 15; refine (HP2 _ ?_ ?_).mono ?_; exact (QAt.fl HQA4.out hf5 HYL.out HYH.out).alike rfl; exact Nat.le_trans (Nat.le_trans hBw (Nat.le_of_lt s4')) hf5.1.size; rintro e w6 ⟨rfl, hq6, hf6'⟩; have hf6 : Fq B q w5 w6 := ⟨⟨hf6'.1.os, hf6'.1.tape, hf6'.1.output, hf6'.1.size, fun i hi => absurd hi (Nat.not_lt_zero _)⟩, fun i ob hi => hf6'.2 i ob hi⟩))
        all_goals (
          have HA6 : Hid (LdAt g r p n ((A).drop (d)) (addI st ((d : Nat) : Int)) (addI st ((i : Nat) : Int)) w6) := hr5.fq hf6 HYL.out HYH.out
          have HB6 : Hid (QAt B q n (A) (d) (i) st w6) := hq6
          have z5 := hf5.1.size
          have z6 := hf6.1.size
          have HW6 : Hid (Below w.heap.size w w6) := (HBW4.out.trans (hf5.below (by omega) x3 x2 x1)).trans (hf6.below x7 x4 (by omega))
          have s6 : B ≤ w6.heap.size := by omega
          clear hr5 hf5 hf5' hq6 hf6 hf6' o5 z5 z6 HLA4 HQA4 HBW4 HX o1 o4
          go_wp2_with fail
          refine tail26 B g r p q n (d) (i) (A) st HU.out w6 HA6.out HB6.out hd6 (by omega) (by omega) _ _ (fun _ d _ _ _ h => by cases d <;> exact h) (fun u137 u138 u139 u140 u141 u142 u143 u144 u145 u146 u147 u148 u149 u150 u151 u152 u153 u154 u155 u156 u157 u158 u159 u160 u161 u162 u163 u164 u165 u166 u167 u168 u169 u170 u171 u172 u173 u174 u175 u176 u177 u178 u179 w7 hb7 => ?_)
          go_wp2_with fail
          go_roundw
          case rel => exact ⟨j + 1, by omega, by go_num, ⟨A, d, i, HA6.out.below hb7, QAt.below HB6.out hb7, hd6, hL6, hi6⟩, Nat.le_trans s6 hb7.size, HW6.out.trans (hb7.mono (Nat.le_trans x7 s6))⟩
          case measure => simp [intOf]; omega)
      · have HK0 : ∀ W, Calls Try.prog 13 #[.agg #[.int .i64 kk, .int .i64 z, .int .u32 h, .bool on, .string s]] W fun e w' => e = .returned (.int .i64 1) ∧ Below W.heap.size W w' := HK
        clear HK
        go_wp2_with (first
          | (go_at_call 12; refine (HNUM _ ?_).mono ?_; exact HLA.out.below ((Below.refl _ wr).alloc (Nat.le_refl _) _); rintro e w3 ⟨rfl, hb3⟩; have ho3 : w3.heap[wr.heap.size]? = some (.cells #[.int .i64 kk, .int .i64 z, .int .u32 h, .bool on, .string s] 31 (0, 0)) := (hb3.block wr.heap.size (by simp)).trans (heap_alloc_new wr _); have l0 : w3.cell? ⟨wr.heap.size, 0, none⟩ = some (.int .i64 kk) := (by simp [World.cell?, ho3]); have l1 : w3.cell? ⟨wr.heap.size, 1, none⟩ = some (.int .i64 z) := (by simp [World.cell?, ho3]); have l2 : w3.cell? ⟨wr.heap.size, 2, none⟩ = some (.int .u32 h) := (by simp [World.cell?, ho3]); have l3 : w3.cell? ⟨wr.heap.size, 3, none⟩ = some (.bool on) := (by simp [World.cell?, ho3]); have l4 : w3.cell? ⟨wr.heap.size, 4, none⟩ = some (.string s) := (by simp [World.cell?, ho3]); have HO3 : Hid _ := ho3; clear ho3)
          | (go_at_call 13; refine (HK0 _).mono ?_; rintro e w4 ⟨rfl, hb4⟩; have HX : Hid (Below wr.heap.size wr w4) := ((Below.refl _ wr).alloc (Nat.le_refl _) _ |>.trans (hb3.mono (by simp))).trans (hb4.mono (by have := hb3.size; simp at this; omega)); have ho4 : w4.heap[wr.heap.size]? = some (.cells #[.int .i64 kk, .int .i64 z, .int .u32 h, .bool on, .string s] 31 (0, 0)) := (hb4.block wr.heap.size (lt_of_heap HO3.out)).trans HO3.out; have s4' : wr.heap.size < w4.heap.size := lt_of_heap ho4; have o1 : w4.cell? ⟨wr.heap.size, 1, none⟩ = some (.int .i64 z) := (by simp [World.cell?, ho4]); have o4 : w4.cell? ⟨wr.heap.size, 4, none⟩ = some (.string s) := (by simp [World.cell?, ho4]); have HLA4 : Hid _ := HLA.out.below HX.out; have HQA4 : Hid (QAt B q n all d i st w4) := QAt.below HQA.out HX.out; have HBW4 : Hid (Below w.heap.size w w4) := HBW.out.trans (HX.out.mono hsz); clear hb4 hb3 ho4 l0 l1 l2 l3 l4 HO3))
        have HDL' := HDL.out
        obtain ⟨hp1, hp2, hd6⟩ := cf_all (st := st) HNU.out HDL'.1
        have HP2 := fun W hW => refConf_any B q n d i all st a HU.out HNU.out W hW (by omega) HDL'.1
        have HDN : Hid (dnN a st d all = if okC a (addI st d) (all.drop d) then d + (ahI (addI st d) a).toNat else d) := rfl
        simp only [← HDN.out] at HP2
        have HP1 := fun W hW => conf_any g r p n (all.drop d) (addI st d) (addI st i) a HNU.out W hW
        simp only [hp1, hp2] at HP1
        obtain ⟨D, hD⟩ : ∃ D, dnN a st d all = D := ⟨_, rfl⟩
        simp only [hD] at HP1 HP2
        rw [hD] at hd6
        obtain ⟨en, hen⟩ : ∃ en, cfN a (addI st d) (all.drop d) = en := ⟨_, rfl⟩
        obtain ⟨ee, hee⟩ : ∃ ee, cfE a (addI st d) (all.drop d) = ee := ⟨_, rfl⟩
        simp only [hen, hee] at HP1 HP2
        have hL6 : all.length ≤ j + 1 := by omega
        have hi6 : i ≤ (j + 1) * 4294967296 := by omega
        clear hen hee hD hp1 hp2 HDL' HDN c0 c1 c2 c3 c4
        go_wp2_with (first
          | (go_at_call 16; refine (HP1 _ ?_).mono ?_; exact HLA4.out.alike rfl; rintro e w5 ⟨rfl, hr5, hf5⟩)
          | (go_at_call 17; refine (HP2 _ ?_).mono ?_; exact QAt.fl HQA4.out hf5 HYL.out HYH.out; rintro e w6 ⟨rfl, hq6, hf6⟩
             have HA6 : Hid (LdAt g r p n (all.drop D) (addI st D) (addI st i) w6) := hr5.fq (Fq.of_fz hf6) HYL.out HYH.out
             have HB6 : Hid (QAt B q n all D i st w6) := hq6
             have z5 := hf5.1.size
             have z6 := hf6.1.size
             have HW6 : Hid (Below w.heap.size w w6) := (HBW4.out.trans (hf5.below (by omega) x3 x2 x1)).trans (Fz.below hf6 (by omega) x4 x4)
             have s6 : B ≤ w6.heap.size := (by omega)
             clear hr5 hf5 hq6 hf6 z5 z6 HLA4 HQA4 HBW4 HX o1 o4)
          | fail)
        refine tail26 B g r p q n (D) (i) (all) st HU.out w6 HA6.out HB6.out hd6 (by omega) (by omega) _ _ (fun _ d _ _ _ h => by cases d <;> exact h) (fun u137 u138 u139 u140 u141 u142 u143 u144 u145 u146 u147 u148 u149 u150 u151 u152 u153 u154 u155 u156 u157 u158 u159 u160 u161 u162 u163 u164 u165 u166 u167 u168 u169 u170 u171 u172 u173 u174 u175 u176 u177 u178 u179 w7 hb7 => ?_)
        go_wp2_with fail
        go_roundw
        case rel => exact ⟨j + 1, by omega, by go_num, ⟨all, D, i, HA6.out.below hb7, QAt.below HB6.out hb7, hd6, hL6, hi6⟩, Nat.le_trans s6 hb7.size, HW6.out.trans (hb7.mono (Nat.le_trans x7 s6))⟩
        case measure => simp [intOf]; omega
      · have HK0 : ∀ W, Calls Try.prog 13 #[.agg #[.int .i64 kk, .int .i64 z, .int .u32 h, .bool on, .string s]] W fun e w' => e = .returned (.int .i64 2) ∧ Below W.heap.size W w' := HK
        clear HK
        go_wp2_with (first
          | (go_at_call 12; refine (HNUM _ ?_).mono ?_; exact HLA.out.below ((Below.refl _ wr).alloc (Nat.le_refl _) _); rintro e w3 ⟨rfl, hb3⟩; have ho3 : w3.heap[wr.heap.size]? = some (.cells #[.int .i64 kk, .int .i64 z, .int .u32 h, .bool on, .string s] 31 (0, 0)) := (hb3.block wr.heap.size (by simp)).trans (heap_alloc_new wr _); have l0 : w3.cell? ⟨wr.heap.size, 0, none⟩ = some (.int .i64 kk) := (by simp [World.cell?, ho3]); have l1 : w3.cell? ⟨wr.heap.size, 1, none⟩ = some (.int .i64 z) := (by simp [World.cell?, ho3]); have l2 : w3.cell? ⟨wr.heap.size, 2, none⟩ = some (.int .u32 h) := (by simp [World.cell?, ho3]); have l3 : w3.cell? ⟨wr.heap.size, 3, none⟩ = some (.bool on) := (by simp [World.cell?, ho3]); have l4 : w3.cell? ⟨wr.heap.size, 4, none⟩ = some (.string s) := (by simp [World.cell?, ho3]); have HO3 : Hid _ := ho3; clear ho3)
          | (go_at_call 13; refine (HK0 _).mono ?_; rintro e w4 ⟨rfl, hb4⟩; have HX : Hid (Below wr.heap.size wr w4) := ((Below.refl _ wr).alloc (Nat.le_refl _) _ |>.trans (hb3.mono (by simp))).trans (hb4.mono (by have := hb3.size; simp at this; omega)); have ho4 : w4.heap[wr.heap.size]? = some (.cells #[.int .i64 kk, .int .i64 z, .int .u32 h, .bool on, .string s] 31 (0, 0)) := (hb4.block wr.heap.size (lt_of_heap HO3.out)).trans HO3.out; have s4' : wr.heap.size < w4.heap.size := lt_of_heap ho4; have o1 : w4.cell? ⟨wr.heap.size, 1, none⟩ = some (.int .i64 z) := (by simp [World.cell?, ho4]); have o4 : w4.cell? ⟨wr.heap.size, 4, none⟩ = some (.string s) := (by simp [World.cell?, ho4]); have HLA4 : Hid _ := HLA.out.below HX.out; have HQA4 : Hid (QAt B q n all d i st w4) := QAt.below HQA.out HX.out; have HBW4 : Hid (Below w.heap.size w w4) := HBW.out.trans (HX.out.mono hsz); clear hb4 hb3 ho4 l0 l1 l2 l3 l4 HO3))
        have HDL' := HDL.out
        have HP1 := fun W hW => ltake_any g r p n (all.drop d) (addI st d) (addI st i) z HZ.out W hW
        have HP2 := fun W hW (_ : B ≤ W.heap.size) => refTake_any B q n d i all st z HU.out (by omega) W hW
        simp only [tk_all] at HP1
        obtain ⟨ii, hii⟩ : ∃ ii, i + (max z 0 % 4294967296).toNat = ii := ⟨_, rfl⟩
        simp only [hii] at HP1 HP2
        have hd6 := HDL'.1
        have hL6 : all.length ≤ j + 1 := by omega
        have hi6 : ii ≤ (j + 1) * 4294967296 := by omega
        obtain ⟨en, hen⟩ : ∃ en, addI st (ii : Int) = en := ⟨_, rfl⟩
        have EN : Hid _ := hen
        simp only [hen] at HP1 HP2
        clear hen hii HDL' c0 c1 c2 c3 c4
        go_region_with (first
          | (go_at_call 18; refine (HP1 _ ?_).mono ?_; exact HLA4.out.alike rfl; rintro e w5 ⟨rfl, hr5, hf5'⟩; have hf5 : Fl g r p w4 w5 := ⟨⟨hf5'.1.os, hf5'.1.tape, hf5'.1.output, hf5'.1.size, fun i hi => absurd hi (Nat.not_lt_zero _)⟩, fun i hi => hf5'.2 i hi⟩; have o5 : w5.cell? ⟨wr.heap.size, 1, none⟩ = some (.int .i64 z) := (World.cell?_of_block (hf5.2 wr.heap.size s4' (by omega) (by omega) (by omega))).trans o1)
          | (go_at_call 19; refine (HP2 _ ?_ ?_).mono ?_; exact (QAt.fl HQA4.out hf5 HYL.out HYH.out).alike rfl; exact Nat.le_trans (Nat.le_trans hBw (Nat.le_of_lt s4')) hf5.1.size; rintro e w6 ⟨rfl, hq6, hf6'⟩; have hf6 : Fz q q w5 w6 := ⟨⟨hf6'.1.os, hf6'.1.tape, hf6'.1.output, hf6'.1.size, fun i hi => absurd hi (Nat.not_lt_zero _)⟩, fun i hi => hf6'.2 i hi⟩))
        all_goals (
          have HA6 : Hid (LdAt g r p n ((all).drop (d)) (addI st ((d : Nat) : Int)) (addI st ((ii : Nat) : Int)) w6) := (by rw [EN.out]; exact hr5.fq (Fq.of_fz hf6) HYL.out HYH.out)
          have HB6 : Hid (QAt B q n (all) (d) (ii) st w6) := hq6
          have z5 := hf5.1.size
          have z6 := hf6.1.size
          have HW6 : Hid (Below w.heap.size w w6) := (HBW4.out.trans (hf5.below (by omega) x3 x2 x1)).trans (Fz.below hf6 (by omega) x4 x4)
          have s6 : B ≤ w6.heap.size := by omega
          clear hr5 hf5 hf5' hq6 hf6 hf6' o5 z5 z6 HLA4 HQA4 HBW4 HX o1 o4
          go_wp2_with fail
          refine tail26 B g r p q n (d) (ii) (all) st HU.out w6 HA6.out HB6.out hd6 (by omega) (by omega) _ _ (fun _ d _ _ _ h => by cases d <;> exact h) (fun u137 u138 u139 u140 u141 u142 u143 u144 u145 u146 u147 u148 u149 u150 u151 u152 u153 u154 u155 u156 u157 u158 u159 u160 u161 u162 u163 u164 u165 u166 u167 u168 u169 u170 u171 u172 u173 u174 u175 u176 u177 u178 u179 w7 hb7 => ?_)
          go_wp2_with fail
          go_roundw
          case rel => exact ⟨j + 1, by omega, by go_num, ⟨all, d, ii, HA6.out.below hb7, QAt.below HB6.out hb7, hd6, hL6, hi6⟩, Nat.le_trans s6 hb7.size, HW6.out.trans (hb7.mono (Nat.le_trans x7 s6))⟩
          case measure => simp [intOf]; omega)
      · have HK0 : ∀ W, Calls Try.prog 13 #[.agg #[.int .i64 kk, .int .i64 z, .int .u32 h, .bool on, .string s]] W fun e w' => e = .returned (.int .i64 3) ∧ Below W.heap.size W w' := HK
        clear HK
        go_wp2_with (first
          | (go_at_call 12; refine (HNUM _ ?_).mono ?_; exact HLA.out.below ((Below.refl _ wr).alloc (Nat.le_refl _) _); rintro e w3 ⟨rfl, hb3⟩; have ho3 : w3.heap[wr.heap.size]? = some (.cells #[.int .i64 kk, .int .i64 z, .int .u32 h, .bool on, .string s] 31 (0, 0)) := (hb3.block wr.heap.size (by simp)).trans (heap_alloc_new wr _); have l0 : w3.cell? ⟨wr.heap.size, 0, none⟩ = some (.int .i64 kk) := (by simp [World.cell?, ho3]); have l1 : w3.cell? ⟨wr.heap.size, 1, none⟩ = some (.int .i64 z) := (by simp [World.cell?, ho3]); have l2 : w3.cell? ⟨wr.heap.size, 2, none⟩ = some (.int .u32 h) := (by simp [World.cell?, ho3]); have l3 : w3.cell? ⟨wr.heap.size, 3, none⟩ = some (.bool on) := (by simp [World.cell?, ho3]); have l4 : w3.cell? ⟨wr.heap.size, 4, none⟩ = some (.string s) := (by simp [World.cell?, ho3]); have HO3 : Hid _ := ho3; clear ho3)
          | (go_at_call 13; refine (HK0 _).mono ?_; rintro e w4 ⟨rfl, hb4⟩; have HX : Hid (Below wr.heap.size wr w4) := ((Below.refl _ wr).alloc (Nat.le_refl _) _ |>.trans (hb3.mono (by simp))).trans (hb4.mono (by have := hb3.size; simp at this; omega)); have ho4 : w4.heap[wr.heap.size]? = some (.cells #[.int .i64 kk, .int .i64 z, .int .u32 h, .bool on, .string s] 31 (0, 0)) := (hb4.block wr.heap.size (lt_of_heap HO3.out)).trans HO3.out; have s4' : wr.heap.size < w4.heap.size := lt_of_heap ho4; have o1 : w4.cell? ⟨wr.heap.size, 1, none⟩ = some (.int .i64 z) := (by simp [World.cell?, ho4]); have o4 : w4.cell? ⟨wr.heap.size, 4, none⟩ = some (.string s) := (by simp [World.cell?, ho4]); have HLA4 : Hid _ := HLA.out.below HX.out; have HQA4 : Hid (QAt B q n all d i st w4) := QAt.below HQA.out HX.out; have HBW4 : Hid (Below w.heap.size w w4) := HBW.out.trans (HX.out.mono hsz); clear hb4 hb3 ho4 l0 l1 l2 l3 l4 HO3))
        have HDL' := HDL.out
        obtain ⟨hp1, hp2, hd6⟩ := cf_all (st := st) HNU.out HDL'.1
        have HP2 := fun W hW => refConf_any B q n d i all st a HU.out HNU.out W hW (by omega) HDL'.1
        have HDN : Hid (dnN a st d all = if okC a (addI st d) (all.drop d) then d + (ahI (addI st d) a).toNat else d) := rfl
        simp only [← HDN.out] at HP2
        by_cases hok : okC a (addI st d) (all.drop d)
        · have HP1 := fun W hW => again_ok g r p n (all.drop d) (addI st d) (addI st i) a HNU.out W hW hok
          have hcl : cfL a (addI st d) (all.drop d) = (all.drop d).drop (ahI (addI st d) a).toNat := if_pos hok
          have hcc : cfC a (addI st d) (all.drop d) = a := if_pos hok
          have hce : cfE a (addI st d) (all.drop d) = 0 := if_pos hok
          simp only [← hcl, hp1] at HP1
          have hp2' := hp2
          rw [hcc] at hp2'
          simp only [hce] at HP2
          obtain ⟨D, hD⟩ : ∃ D, dnN a st d all = D := ⟨_, rfl⟩
          simp only [hD] at HP1 HP2
          rw [hD] at hd6 hp2'
          have EA : Hid _ := hp2'
          obtain ⟨en, hen⟩ : ∃ en, cfN a (addI st d) (all.drop d) = en := ⟨_, rfl⟩
          simp only [hen] at HP2
          have hL6 : all.length ≤ j + 1 := by omega
          have hi6 : i ≤ (j + 1) * 4294967296 := by omega
          have HOP := fun W hW => refOpen_any B q n D i all st W hW hd6
          have hlen6 : (all.drop D).length ≤ 200 := by rw [List.length_drop]; omega
          have HSM := fun (x y : Option Addr) (c1 c2 : Nat) (W : World) h1 h2 => same_any x y c1 c2 (all.drop D) W h1 h2 (by omega)
          obtain ⟨C, hC⟩ : ∃ C, (all.drop D).length = C := ⟨_, rfl⟩
          have EC : Hid _ := hC
          simp only [hC] at HSM HP1
          clear hen hD hp1 hp2 hp2' HDL' HDN hcl hcc hce hok hC hlen6 c0 c1 c2 c3 c4
          go_wp2_with (first
            | (go_at_call 20; refine (HP1 _ ?_).mono ?_; exact HLA4.out.alike rfl; rintro e w5 ⟨⟨ao5, cap5, rfl, ht5⟩, hr5, hf5⟩)
            | (go_at_call 17; refine (HP2 _ ?_).mono ?_; exact QAt.fl HQA4.out hf5 HYL.out HYH.out; rintro e w6 ⟨rfl, hq6, hf6⟩
               have HA6 : Hid (LdAt g r p n (all.drop D) (addI st D) (addI st i) w6) := (by rw [← EA.out]; exact hr5.fq (Fq.of_fz hf6) HYL.out HYH.out)
               have HB6 : Hid (QAt B q n all D i st w6) := hq6
               have z5 := hf5.1.size
               have z6 := hf6.1.size
               have HW6 : Hid (Below w.heap.size w w6) := (HBW4.out.trans (hf5.below (by omega) x3 x2 x1)).trans (Fz.below hf6 (by omega) x4 x4)
               have s6 : B ≤ w6.heap.size := (by omega)
               have HT6 : Hid (RowS w6 ao5 (all.drop D)) := (TxAt.fz (B := w4.heap.size) ht5 hf6 (by omega) (by omega)).row
               clear hr5 hf5 hq6 hf6 z5 z6 HLA4 HQA4 HBW4 HX o1 o4)
            | (go_at_call 22; refine (HOP _ ?_).mono ?_; exact HB6.out; rintro e w8 ⟨⟨dp8, cap8, rfl, ht8⟩, m8, rfl⟩; rw [EC.out])
            | (go_at_call 21; refine (HSM _ _ _ _ _ ?_ ?_).mono ?_; exact (RowS.mono HT6.out fun _ _ h => h); exact (RowS.mono ht8 fun _ _ h => h); rintro e w9 ⟨rfl, m9, rfl⟩)
            | fail)
          refine tail26 B g r p q n (D) (i) (all) st HU.out (w6.drewN (m8 + m9)) (LdAt.alike HA6.out rfl) (QAt.alike HB6.out rfl) hd6 (by omega) (by omega) _ _ (fun _ d _ _ _ h => by cases d <;> exact h) (fun u137 u138 u139 u140 u141 u142 u143 u144 u145 u146 u147 u148 u149 u150 u151 u152 u153 u154 u155 u156 u157 u158 u159 u160 u161 u162 u163 u164 u165 u166 u167 u168 u169 u170 u171 u172 u173 u174 u175 u176 u177 u178 u179 w7 hb7 => ?_)
          go_wp2_with fail
          go_roundw
          case rel => exact ⟨j + 1, by omega, by go_num, ⟨all, D, i, LdAt.below (w := w6.drewN (m8 + m9)) (LdAt.alike HA6.out rfl) hb7, QAt.below (w := w6.drewN (m8 + m9)) (QAt.alike HB6.out rfl) hb7, hd6, hL6, hi6⟩, Nat.le_trans s6 hb7.size, (below_drewN HW6.out).trans (hb7.mono (Nat.le_trans x7 s6))⟩
          case measure => simp [intOf]; omega
        · have HP1 := fun W hW => again_bad g r p n (all.drop d) (addI st d) (addI st i) a HNU.out W hW hok
          have hce : cfE a (addI st d) (all.drop d) = 10 := if_neg hok
          have hcn : cfN a (addI st d) (all.drop d) = 0 := if_neg hok
          have hcd : dnN a st d all = d := if_neg hok
          simp only [hce, hcn, hcd] at HP2
          rw [hcd] at hd6
          have hL6 : all.length ≤ j + 1 := by omega
          have hi6 : i ≤ (j + 1) * 4294967296 := by omega
          clear hp1 hp2 HDL' HDN hce hcn hcd hok c0 c1 c2 c3 c4
          go_wp2_with (first
            | (go_at_call 20; refine (HP1 _ ?_).mono ?_; exact HLA4.out.alike rfl; rintro e w5 ⟨rfl, m5, rfl⟩)
            | (go_at_call 17; refine (HP2 _ ?_).mono ?_; exact QAt.alike HQA4.out rfl; rintro e w6 ⟨rfl, hq6, hf6'⟩
               have hf6 : Fz q q w4 w6 := ((Fz.refl q q w4).drewN m5).trans hf6'
               have HA6 : Hid (LdAt g r p n (all.drop d) (addI st d) (addI st i) w6) := HLA4.out.fq (Fq.of_fz hf6) HYL.out HYH.out
               have HB6 : Hid (QAt B q n all d i st w6) := hq6
               have z6 := hf6.1.size
               have HW6 : Hid (Below w.heap.size w w6) := HBW4.out.trans (Fz.below hf6 (by omega) x4 x4)
               have s6 : B ≤ w6.heap.size := (by omega)
               clear hq6 hf6 hf6' z6 HLA4 HQA4 HBW4 HX o1 o4)
            | fail)
          refine tail26 B g r p q n (d) (i) (all) st HU.out w6 HA6.out HB6.out hd6 (by omega) (by omega) _ _ (fun _ d _ _ _ h => by cases d <;> exact h) (fun u137 u138 u139 u140 u141 u142 u143 u144 u145 u146 u147 u148 u149 u150 u151 u152 u153 u154 u155 u156 u157 u158 u159 u160 u161 u162 u163 u164 u165 u166 u167 u168 u169 u170 u171 u172 u173 u174 u175 u176 u177 u178 u179 w7 hb7 => ?_)
          go_wp2_with fail
          go_roundw
          case rel => exact ⟨j + 1, by omega, by go_num, ⟨all, d, i, HA6.out.below hb7, QAt.below HB6.out hb7, hd6, hL6, hi6⟩, Nat.le_trans s6 hb7.size, HW6.out.trans (hb7.mono (Nat.le_trans x7 s6))⟩
          case measure => simp [intOf]; omega
      · have HK0 : ∀ W, Calls Try.prog 13 #[.agg #[.int .i64 kk, .int .i64 z, .int .u32 h, .bool on, .string s]] W fun e w' => e = .returned (.int .i64 4) ∧ Below W.heap.size W w' := HK
        clear HK
        go_wp2_with (first
          | (go_at_call 12; refine (HNUM _ ?_).mono ?_; exact HLA.out.below ((Below.refl _ wr).alloc (Nat.le_refl _) _); rintro e w3 ⟨rfl, hb3⟩; have ho3 : w3.heap[wr.heap.size]? = some (.cells #[.int .i64 kk, .int .i64 z, .int .u32 h, .bool on, .string s] 31 (0, 0)) := (hb3.block wr.heap.size (by simp)).trans (heap_alloc_new wr _); have l0 : w3.cell? ⟨wr.heap.size, 0, none⟩ = some (.int .i64 kk) := (by simp [World.cell?, ho3]); have l1 : w3.cell? ⟨wr.heap.size, 1, none⟩ = some (.int .i64 z) := (by simp [World.cell?, ho3]); have l2 : w3.cell? ⟨wr.heap.size, 2, none⟩ = some (.int .u32 h) := (by simp [World.cell?, ho3]); have l3 : w3.cell? ⟨wr.heap.size, 3, none⟩ = some (.bool on) := (by simp [World.cell?, ho3]); have l4 : w3.cell? ⟨wr.heap.size, 4, none⟩ = some (.string s) := (by simp [World.cell?, ho3]); have HO3 : Hid _ := ho3; clear ho3)
          | (go_at_call 13; refine (HK0 _).mono ?_; rintro e w4 ⟨rfl, hb4⟩; have HX : Hid (Below wr.heap.size wr w4) := ((Below.refl _ wr).alloc (Nat.le_refl _) _ |>.trans (hb3.mono (by simp))).trans (hb4.mono (by have := hb3.size; simp at this; omega)); have ho4 : w4.heap[wr.heap.size]? = some (.cells #[.int .i64 kk, .int .i64 z, .int .u32 h, .bool on, .string s] 31 (0, 0)) := (hb4.block wr.heap.size (lt_of_heap HO3.out)).trans HO3.out; have s4' : wr.heap.size < w4.heap.size := lt_of_heap ho4; have o1 : w4.cell? ⟨wr.heap.size, 1, none⟩ = some (.int .i64 z) := (by simp [World.cell?, ho4]); have o4 : w4.cell? ⟨wr.heap.size, 4, none⟩ = some (.string s) := (by simp [World.cell?, ho4]); have HLA4 : Hid _ := HLA.out.below HX.out; have HQA4 : Hid (QAt B q n all d i st w4) := QAt.below HQA.out HX.out; have HBW4 : Hid (Below w.heap.size w w4) := HBW.out.trans (HX.out.mono hsz); clear hb4 hb3 ho4 l0 l1 l2 l3 l4 HO3))
        have HDL' := HDL.out
        obtain ⟨hp1, hd6, hp3⟩ := un_all (z := z) HDL'.1
        have HP1 := fun W hW => undo_any g r p n (all.drop d) (addI st d) (addI st i) z W hW
        have HP2 := fun W hW hB => refUndo_any B q n d i all st z W hW (by omega) HDL'.1 hB
        simp only [hp1, List.length_drop] at HP1
        obtain ⟨A, hA'⟩ : ∃ A, (if 0 ≤ z ∧ z ≤ ((all.length - d : Nat) : Int) then all.take (all.length - z.toNat) else all) = A := ⟨_, rfl⟩
        simp only [hA'] at HP1 HP2
        rw [hA'] at hd6 hp3
        obtain ⟨en, hen⟩ : ∃ en, decide (0 ≤ z ∧ z ≤ ((all.length - d : Nat) : Int)) = en := ⟨_, rfl⟩
        simp only [hen] at HP1 HP2
        have hL6 : A.length ≤ j + 1 := by omega
        have hi6 : i ≤ (j + 1) * 4294967296 := by omega
        clear hen hA' hp1 hp3 HDL' c0 c1 c2 c3 c4
        go_region_with (first
          | (go_at_call 23; refine (HP1 _ ?_).mono ?_; exact HLA4.out.alike rfl; rintro e w5 ⟨rfl, hr5, hf5'⟩; have hf5 : Fl g r p w4 w5 := ⟨⟨hf5'.1.os, hf5'.1.tape, hf5'.1.output, hf5'.1.size, fun i hi => absurd hi (Nat.not_lt_zero _)⟩, fun i hi => hf5'.2 i hi⟩; have o5 : w5.cell? ⟨wr.heap.size, 1, none⟩ = some (.int .i64 z) := (World.cell?_of_block (hf5.2 wr.heap.size s4' (by omega) (by omega) (by omega))).trans o1)
          | (go_at_call 24; refine (HP2 _ ?_ ?_).mono ?_; exact (QAt.fl HQA4.out hf5 HYL.out HYH.out).alike rfl; exact Nat.le_trans (Nat.le_trans hBw (Nat.le_of_lt s4')) hf5.1.size; rintro e w6 ⟨rfl, hq6, hf6'⟩; have hf6 : Fz q q w5 w6 := ⟨⟨hf6'.1.os, hf6'.1.tape, hf6'.1.output, hf6'.1.size, fun i hi => absurd hi (Nat.not_lt_zero _)⟩, fun i hi => hf6'.2 i hi⟩))
        all_goals (
          have HA6 : Hid (LdAt g r p n ((A).drop (d)) (addI st ((d : Nat) : Int)) (addI st ((i : Nat) : Int)) w6) := hr5.fq (Fq.of_fz hf6) HYL.out HYH.out
          have HB6 : Hid (QAt B q n (A) (d) (i) st w6) := hq6
          have z5 := hf5.1.size
          have z6 := hf6.1.size
          have HW6 : Hid (Below w.heap.size w w6) := (HBW4.out.trans (hf5.below (by omega) x3 x2 x1)).trans (Fz.below hf6 (by omega) x4 x4)
          have s6 : B ≤ w6.heap.size := by omega
          clear hr5 hf5 hf5' hq6 hf6 hf6' o5 z5 z6 HLA4 HQA4 HBW4 HX o1 o4
          go_wp2_with fail
          refine tail26 B g r p q n (d) (i) (A) st HU.out w6 HA6.out HB6.out hd6 (by omega) (by omega) _ _ (fun _ d _ _ _ h => by cases d <;> exact h) (fun u137 u138 u139 u140 u141 u142 u143 u144 u145 u146 u147 u148 u149 u150 u151 u152 u153 u154 u155 u156 u157 u158 u159 u160 u161 u162 u163 u164 u165 u166 u167 u168 u169 u170 u171 u172 u173 u174 u175 u176 u177 u178 u179 w7 hb7 => ?_)
          go_wp2_with fail
          go_roundw
          case rel => exact ⟨j + 1, by omega, by go_num, ⟨A, d, i, HA6.out.below hb7, QAt.below HB6.out hb7, hd6, hL6, hi6⟩, Nat.le_trans s6 hb7.size, HW6.out.trans (hb7.mono (Nat.le_trans x7 s6))⟩
          case measure => simp [intOf]; omega)
    · obtain rfl : j = N := by omega
      have hnl : ¬ (j : Int) < (j : Int) := by omega
      go_wp2_with fail
      go_ret
      exact ⟨rfl, hbw⟩
end Go.Proofs.Ytjmggofcncladaa
