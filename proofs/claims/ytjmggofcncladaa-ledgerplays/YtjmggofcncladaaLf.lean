/-
  The walk of the statement LedgerLine over this program.
-/
import Derived.Test.YtjmggofcncladaaLe
namespace Go.Proofs.Ytjmggofcncladaa
open Go Go.RowKit
theorem ah_two (s : Int) {D G : Nat} (h : D ≤ G) (hG : G ≤ 100) : ahI (addI s D) (addI s G) = ((G - D : Nat) : Int) := by unfold ahI addI; omega
theorem drop_next {l : List ByteArray} {j D : Nat} {x : ByteArray} (hx : l[j]? = some x) (hD : D ≤ j) : (l.take j).drop D ++ [x] = (l.take (j + 1)).drop D := by
  have hj := (List.getElem?_eq_some_iff.1 hx).1
  rw [List.take_add_one, hx, List.drop_append_of_le_length (by rw [List.length_take]; omega)]
  rfl
theorem join_take {l : List ByteArray} {n G k : Nat} (h : G + k ≤ n) : l.take G ++ ((l.take n).drop G).take k = l.take (G + k) := by
  rw [List.take_drop, List.take_take, Nat.min_eq_left h]
  have e : l.take G = (l.take (G + k)).take G := by rw [List.take_take, Nat.min_eq_left (by omega)]
  rw [e, List.take_append_drop]
/-- What holds at the head of the round j. -/
def LnI (s : Int) (l2 : List ByteArray) (N j B g r p : Nat) (v : Value) (wr : World) : Prop :=
  ∃ D G ao cap, v = .slice ao G cap ∧ D ≤ G ∧ G ≤ j ∧ j ≤ N ∧ j - G ≤ 3 + (j + 2) % 3 ∧ j - D ≤ 6 + (j + 2) % 3 ∧ TxAt B ao cap (l2.take G) wr ∧ LdAt g r p 12 ((l2.take j).drop D) (addI s D) s wr
theorem LdAt.fl {g r p n : Nat} {l : List ByteArray} {c k : Int} {B : Nat} {w w' : World} (h : LdAt g r p n l c k w) (hb : Below B w w') (h1 : g < B) (h2 : r < B) (h3 : p < B) : LdAt g r p n l c k w' :=
  h.keep (hb.block g h1) (hb.block r h2) (hb.block p h3)
theorem TxAt.fl {B g r p : Nat} {ao : Option Addr} {cap : Nat} {l : List ByteArray} {w w' : World} (h : TxAt B ao cap l w) (hf : Fl g r p w w') (hg : g < B) (hr : r < B) (hp : p < B) : TxAt B ao cap l w' := owns_keep h fun k hk hB => hf.2 k hk (by omega) (by omega) (by omega)
set_option maxHeartbeats 4000000 in
set_option maxRecDepth 100000 in
theorem line_walk (s : Int) (hs : U s) (ao bo : Option Addr) (cap nb capb : Nat) (l : List ByteArray) (y : Nat → Int) (w : World) (hrow : RowS w ao l) (hys : RowN w bo nb y) (hcap : l.length ≤ cap) :
    Calls Try.prog 4 #[.int .u32 s, .slice ao l.length cap, .slice bo nb capb] w fun e w' => e = .returned (.bool true) ∧ Below w.heap.size w w' := by
  obtain ⟨i0, hi, hz0, hz1, hz2⟩ := info_parts info9
  have HYS : Hid _ := hys
  have HU : Hid (U s) := hs
  obtain ⟨l2, hl2⟩ : ∃ l2, l.take 100 = l2 := ⟨_, rfl⟩
  have HROW : Hid (RowS w ao l2) := by rw [← hl2]; exact RowS.take hrow 100
  obtain ⟨L, hL⟩ : ∃ L, l.length = L := ⟨_, rfl⟩
  obtain ⟨N, hN⟩ : ∃ N, l2.length = N := ⟨_, rfl⟩
  have HN : Hid _ := hN
  have hNL : N = min 100 L := by rw [← hN, ← hl2, List.length_take, hL]
  rw [hL] at hcap ⊢
  have hmin : (if (100 : Int) < (L : Int) then (100 : Int) else (L : Int)) = (N : Int) := by split <;> omega
  have hN0 : (0 : Int) ≤ (N : Int) := by omega
  have hN1 : (N : Int) ≤ (cap : Int) := by omega
  have hN2 : N ≤ 100 := by omega
  clear hrow hL hl2 hN hys hNL hs
  go_enter Try.func4, Try.ntmps4
  go_wp2_with (first
    | (go_at_call 8; refine (lives_any _).mono ?_; rintro e w1 ⟨rfl, hb1⟩)
    | (go_at_call 9; refine (lnew_any _ _ HU.out _).mono ?_; rintro e w2 ⟨rfl, hr2, hs2', hb2⟩; have hs2 : Hid _ := hs2'; clear hs2'))
  have s1 := hb1.size
  have HR2 : Hid _ := hr2
  have HB2 : Hid (Below w.heap.size w w2) := hb1.trans (hb2.mono hb1.size)
  obtain ⟨p, hp⟩ : ∃ p, w1.heap.size = p := ⟨_, rfl⟩
  obtain ⟨r, hr⟩ : ∃ r, p + 1 = r := ⟨_, rfl⟩
  obtain ⟨g, hg⟩ : ∃ g, p + 2 = g := ⟨_, rfl⟩
  obtain ⟨B, hB⟩ : ∃ B, w2.heap.size = B := ⟨_, rfl⟩
  have HBB : Hid _ := hB
  have hB3 : B = p + 3 := by rw [← hB, hs2.out, hp]
  rw [hp, hr, hg] at HR2
  rw [hp, hg]
  have q1 : w.heap.size ≤ p := by omega
  have q2 : w.heap.size ≤ r := by omega
  have q3 : w.heap.size ≤ g := by omega
  have q4 : w.heap.size ≤ B := by omega
  have b1 : p < B := by omega
  have b2 : r < B := by omega
  have b3 : g < B := by omega
  clear hr2 hb1 hb2 hp hr hg hs2 s1 hB hB3
  go_loopw [8, 9, 10, 11, 12] (fun v i _ _ _ wr => ∃ j : Nat, i = .int .i64 (j : Int) ∧ LnI s l2 N j B g r p v wr ∧ B ≤ wr.heap.size ∧ Below w.heap.size w wr) (fun _ i _ _ _ _ => N - (intOf i).toNat)
  case atStart =>
    refine ⟨0, rfl, ⟨0, 0, none, 0, rfl, Nat.le_refl _, Nat.le_refl _, Nat.zero_le _, by omega, by omega, World.ownsRow_nil _ _ _ _, ?_⟩, Nat.le_of_eq HBB.out.symm, HB2.out⟩
    have := HR2.out
    have e : addI s ((0 : Nat) : Int) = s := by have h := HU.out; unfold addI; unfold U at h; omega
    rw [e]
    exact this
  case round =>
    obtain ⟨j, rfl, ⟨D, G, ao1, cap1, rfl, hDG, hGj, hjN, hg1, hd1, htx, hld⟩, hBw, hbw⟩ := hrel
    have hsz := hbw.size
    have HTX : Hid (TxAt B ao1 cap1 (l2.take G) wr) := htx
    have HLD : Hid _ := hld
    have HBW : Hid (Below w.heap.size w wr) := hbw
    have HA := fun W => refAdd_any s (G : Int) HU.out ⟨by omega, by omega⟩ W
    have hUG := addI_u s (G : Int)
    have HUG : Hid (U (addI s (G : Int))) := hUG
    have HAH : Hid (ahI (addI s D) (addI s G) = ((G - D : Nat) : Int)) := ah_two s hDG (by omega)
    clear htx hld hbw hUG
    by_cases hlt : j < N
    · obtain ⟨x, hx⟩ : ∃ x, l2[j]? = some x := ⟨_, List.getElem?_eq_getElem (by rw [HN.out]; exact hlt)⟩
      obtain ⟨ad, rfl, c0⟩ := HROW.out j x hx
      have hlb := World.block_lt_of_cell? w _ c0
      have k0 : wr.cell? (ad.add j) = some (.string x) := (HBW.out.cell hlb).trans c0
      have HNX : Hid ((l2.take j).drop D ++ [x] = (l2.take (j + 1)).drop D) := drop_next hx (by omega)
      have HLJ : Hid ((l2.take (j + 1)).length = j + 1) := by show (l2.take (j + 1)).length = j + 1; rw [List.length_take, HN.out]; omega
      have HLS : ∀ W, LdAt g r p 12 ((l2.take j).drop D) (addI s D) s W → Calls Try.prog 14 #[.pointer (some ⟨g, 0, none⟩), .string x] W fun e w' => e = .returned (.int .i64 0) ∧ LdAt g r p 12 ((l2.take (j + 1)).drop D) (addI s D) s w' ∧ Fl g r p W w' := fun W hW => by
        have := send_ok g r p 12 _ _ _ x W hW (by rw [List.length_drop, List.length_take]; omega)
        rw [HNX.out] at this
        exact this
      obtain ⟨m, hm⟩ : ∃ m, j + 1 - G = m := ⟨_, rfl⟩
      have HAG : ∀ W, LdAt g r p 12 ((l2.take (j + 1)).drop D) (addI s D) s W → Calls Try.prog 20 #[.pointer (some ⟨g, 0, none⟩), .int .u32 (addI s G)] W fun e w' => (∃ ao cap, e = .returned (.tuple #[.slice ao m cap, .int .i64 0]) ∧ TxAt W.heap.size ao cap ((l2.take (j + 1)).drop G) w') ∧ LdAt g r p 12 ((l2.take (j + 1)).drop G) (addI s G) s w' ∧ Fl g r p W w' := fun W hW => by
        have := again_ok g r p 12 _ _ _ (addI s G) HUG.out W hW (by unfold okC; rw [HAH.out, List.length_drop, HLJ.out]; omega)
        rw [HAH.out, Int.toNat_natCast, List.drop_drop, show D + (G - D) = G by omega, List.length_drop, HLJ.out, hm] at this
        exact this
      have HLM : Hid (((l2.take (j + 1)).drop G).length = m) := by show ((l2.take (j + 1)).drop G).length = m; rw [List.length_drop, HLJ.out, hm]
      have hm6 : m ≤ 6 := by omega
      have HM : Hid (j + 1 - G = m) := hm
      have hlt' : (j : Int) < (N : Int) := by omega
      have hj0 : (0 : Int) ≤ (j : Int) := by omega
      obtain ⟨t, ht⟩ : ∃ t, j % 3 = t := ⟨_, rfl⟩
      have ht3 : (j : Int).tmod 3 = (t : Int) := by rw [Int.tmod_eq_emod_of_nonneg (by omega)]; omega
      have HT3 : Hid (j % 3 = t) := ht
      have HG1 : Hid (j - G ≤ 3 + (j + 2) % 3) := hg1
      have HD1 : Hid (j - D ≤ 6 + (j + 2) % 3) := hd1
      have hm9 : ¬ (9 : Int) < (m : Int) := by omega
      have HGL : Hid ((l2.take G).length = G) := by show (l2.take G).length = G; rw [List.length_take, HN.out]; omega
      obtain ⟨a, ha⟩ : ∃ a, addI s (G : Int) = a := ⟨_, rfl⟩
      have EA : Hid _ := ha
      simp only [ha] at HA HAG
      clear hx c0 hm ht hg1 hd1 ha
      by_cases hjn : j < nb
      · have hjn' : (j : Int) < (nb : Int) := by omega
        obtain ⟨ad2, rfl, d0⟩ := HYS.out j hjn
        have hlb2 := World.block_lt_of_cell? w _ d0
        have HD0 : Hid _ := d0
        obtain ⟨q, hq⟩ : ∃ q : Nat, (IntKind.u64.wrap (y j)).tmod 4 = (q : Int) := ⟨((IntKind.u64.wrap (y j)).tmod 4).toNat, by rw [IntKind.wrap_u64, Int.tmod_eq_emod_of_nonneg (by omega)]; omega⟩
        have hq4 : q < 4 := by rw [IntKind.wrap_u64, Int.tmod_eq_emod_of_nonneg (by omega)] at hq; omega
        have hq1 : IntKind.i64.wrap (q : Int) = (q : Int) := by simp only [IntKind.wrap_i64]; omega
        clear d0 hjn
        by_cases hq0 : 0 < q
        · have hq0' : (0 : Int) < (q : Int) := by omega
          by_cases ht0 : 0 < t
          · have ht0' : (0 : Int) < (t : Int) := by omega
            go_wp2_with (go_at_call 14; refine (HLS _ HLD.out).mono ?_; rintro e w3 ⟨rfl, hr3, hf3⟩; have e0 : w3.cell? (ad2.add j) = some (.int .i64 (y j)) := ((hf3.below hsz q3 q2 q1).cell hlb2).trans ((HBW.out.cell hlb2).trans HD0.out))
            go_roundw
            case rel =>
              have hmm := HM.out
              have h3 := HT3.out
              exact ⟨j + 1, by go_num, ⟨D, G, ao1, cap1, rfl, by omega, by omega, by omega, by have := HG1.out; omega, by have := HD1.out; omega, TxAt.fl HTX.out hf3 b3 b2 b1, hr3⟩, Nat.le_trans hBw hf3.1.size, HBW.out.trans (hf3.below hsz q3 q2 q1)⟩
            case measure => simp [intOf]; omega
          · have ht0' : ¬ (0 : Int) < (t : Int) := by omega
            have hw1 : IntKind.i64.wrap ((m : Int) - (q : Int)) = (m : Int) - (q : Int) := by simp only [IntKind.wrap_i64]; omega
            obtain ⟨kk, hkk⟩ : ∃ kk : Nat, (m - q : Nat) = kk := ⟨_, rfl⟩
            have hmx : (if (m : Int) - (q : Int) < 0 then (0 : Int) else (m : Int) - (q : Int)) = (kk : Int) := by split <;> omega
            have hkm : kk ≤ m := by omega
            have hkq : m ≤ kk + 3 := by omega
            have k00 : (0 : Int) ≤ (kk : Int) := by omega
            clear hkk
            go_wp2_with (first
              | (go_at_call 14; refine (HLS _ HLD.out).mono ?_; rintro e w3 ⟨rfl, hr3, hf3⟩; have e0 : w3.cell? (ad2.add j) = some (.int .i64 (y j)) := ((hf3.below hsz q3 q2 q1).cell hlb2).trans ((HBW.out.cell hlb2).trans HD0.out))
              | (go_at_call 30; refine (HA _).mono ?_; rintro e w3 ⟨rfl, rfl⟩)
              | (go_at_call 20; refine (HAG _ hr3).mono ?_; rintro e w4 ⟨⟨ao4, cap4, rfl, ht4⟩, hr4, hf4⟩
                 have s3 := hf3.1.size
                 have s4 := hf4.1.size
                 have HT4 : Hid (TxAt B ao1 cap1 (l2.take G) w4) := (TxAt.fl HTX.out hf3 b3 b2 b1).fl hf4 b3 b2 b1
                 have HR4 : Hid (RowS w4 ao4 (((l2.take (j + 1)).drop G).take kk)) := RowS.take ht4.row kk
                 have HN4 : Hid (ao4 = none → kk = 0 ∧ cap4 = 0) := (fun e => by have := ht4.nil0 e; rw [HLM.out] at this; omega)
                 have hc4 : (kk : Int) ≤ (cap4 : Int) := (by have := ht4.cap_le; rw [HLM.out] at this; omega))
              | (at_builtin; refine wpList_append_any rfl (.tmp 66) (.tmp 73) 39 rfl B 9 i0 _ 1 16 Try.underlying39 hi hz0 hz1 hz2 rfl (by decide) _ G (strs (l2.take G)) rfl (by have := HT4.out; unfold TxAt at this; rw [HGL.out] at this; exact this) ao4 kk cap4 (strs (((l2.take (j + 1)).drop G).take kk)) rfl HN4.out (by rw [strs_length, List.length_take, HLM.out]; omega) (RowS.cells HR4.out) (strs_one _) (by unfold maxLen; omega) (by omega) (by omega) ?_
                 intro v6 w6 ho6 hb6 hg6
                 rw [← strs_app, join_take (by have := HM.out; omega)] at ho6
                 obtain ⟨ao6, cap6, rfl, ht6⟩ := tx_of_owns ho6 (by rw [List.length_take, HN.out]; have := HM.out; omega)
                 have HL6 : Hid ((l2.take (G + kk)).length = G + kk) := (by show (l2.take (G + kk)).length = G + kk; rw [List.length_take, HN.out]; have := HM.out; omega)
                 rw [HL6.out]
                 clear ho6 hg6))
            go_roundw
            case rel =>
              have hmm := HM.out
              have b4 : Below w.heap.size w w4 := (HBW.out.trans (hf3.below hsz q3 q2 q1)).trans (hf4.below (by omega) q3 q2 q1)
              refine ⟨j + 1, by go_num, ⟨G, G + kk, ao6, cap6, rfl, by omega, by omega, by omega, by omega, by have := HG1.out; omega, ht6, ?_⟩, Nat.le_trans (by omega) hb6.size, b4.trans (hb6.mono q4)⟩
              rw [EA.out]
              exact hr4.fl hb6 b3 b2 b1
            case measure => simp [intOf]; omega
        · have hq0' : ¬ (0 : Int) < (q : Int) := by omega
          obtain rfl : q = 0 := by omega
          have hq' : (IntKind.u64.wrap (y j)).tmod 4 = 0 := hq
          clear hq hq1 hq4 hq0 hq0'
          have hw1 : IntKind.i64.wrap (m : Int) = (m : Int) := by simp only [IntKind.wrap_i64]; omega
          have hmn : ¬ (m : Int) < 0 := by omega
          have k00 : (0 : Int) ≤ (m : Int) := by omega
          go_wp2_with (first
            | (go_at_call 14; refine (HLS _ HLD.out).mono ?_; rintro e w3 ⟨rfl, hr3, hf3⟩; have e0 : w3.cell? (ad2.add j) = some (.int .i64 (y j)) := ((hf3.below hsz q3 q2 q1).cell hlb2).trans ((HBW.out.cell hlb2).trans HD0.out))
            | (go_at_call 30; refine (HA _).mono ?_; rintro e w3 ⟨rfl, rfl⟩)
            | (go_at_call 20; refine (HAG _ hr3).mono ?_; rintro e w4 ⟨⟨ao4, cap4, rfl, ht4⟩, hr4, hf4⟩
               have s3 := hf3.1.size
               have s4 := hf4.1.size
               have HT4 : Hid (TxAt B ao1 cap1 (l2.take G) w4) := (TxAt.fl HTX.out hf3 b3 b2 b1).fl hf4 b3 b2 b1
               have HR4 : Hid (RowS w4 ao4 (((l2.take (j + 1)).drop G).take m)) := RowS.take ht4.row m
               have HN4 : Hid (ao4 = none → m = 0 ∧ cap4 = 0) := (fun e => by have := ht4.nil0 e; rw [HLM.out] at this; omega)
               have hc4 : (m : Int) ≤ (cap4 : Int) := (by have := ht4.cap_le; rw [HLM.out] at this; omega))
            | (at_builtin; refine wpList_append_any rfl (.tmp 66) (.tmp 73) 39 rfl B 9 i0 _ 1 16 Try.underlying39 hi hz0 hz1 hz2 rfl (by decide) _ G (strs (l2.take G)) rfl (by have := HT4.out; unfold TxAt at this; rw [HGL.out] at this; exact this) ao4 m cap4 (strs (((l2.take (j + 1)).drop G).take m)) rfl HN4.out (by rw [strs_length, List.length_take, HLM.out]; omega) (RowS.cells HR4.out) (strs_one _) (by unfold maxLen; omega) (by omega) (by omega) ?_
               intro v6 w6 ho6 hb6 hg6
               rw [← strs_app, join_take (by have := HM.out; omega)] at ho6
               obtain ⟨ao6, cap6, rfl, ht6⟩ := tx_of_owns ho6 (by rw [List.length_take, HN.out]; have := HM.out; omega)
               have HL6 : Hid ((l2.take (G + m)).length = G + m) := (by show (l2.take (G + m)).length = G + m; rw [List.length_take, HN.out]; have := HM.out; omega)
               rw [HL6.out]
               clear ho6 hg6))
          go_roundw
          case rel =>
            have hmm := HM.out
            have b4 : Below w.heap.size w w4 := (HBW.out.trans (hf3.below hsz q3 q2 q1)).trans (hf4.below (by omega) q3 q2 q1)
            refine ⟨j + 1, by go_num, ⟨G, G + m, ao6, cap6, rfl, by omega, by omega, by omega, by omega, by have := HG1.out; omega, ht6, ?_⟩, Nat.le_trans (by omega) hb6.size, b4.trans (hb6.mono q4)⟩
            rw [EA.out]
            exact hr4.fl hb6 b3 b2 b1
          case measure => simp [intOf]; omega
      · have hjn' : ¬ (j : Int) < (nb : Int) := by omega
        have hw1 : IntKind.i64.wrap (m : Int) = (m : Int) := by simp only [IntKind.wrap_i64]; omega
        have hmn : ¬ (m : Int) < 0 := by omega
        have k00 : (0 : Int) ≤ (m : Int) := by omega
        go_wp2_with (first
          | (go_at_call 14; refine (HLS _ HLD.out).mono ?_; rintro e w3 ⟨rfl, hr3, hf3⟩)
          | (go_at_call 30; refine (HA _).mono ?_; rintro e w3 ⟨rfl, rfl⟩)
          | (go_at_call 20; refine (HAG _ hr3).mono ?_; rintro e w4 ⟨⟨ao4, cap4, rfl, ht4⟩, hr4, hf4⟩
             have s3 := hf3.1.size
             have s4 := hf4.1.size
             have HT4 : Hid (TxAt B ao1 cap1 (l2.take G) w4) := (TxAt.fl HTX.out hf3 b3 b2 b1).fl hf4 b3 b2 b1
             have HR4 : Hid (RowS w4 ao4 (((l2.take (j + 1)).drop G).take m)) := RowS.take ht4.row m
             have HN4 : Hid (ao4 = none → m = 0 ∧ cap4 = 0) := (fun e => by have := ht4.nil0 e; rw [HLM.out] at this; omega)
             have hc4 : (m : Int) ≤ (cap4 : Int) := (by have := ht4.cap_le; rw [HLM.out] at this; omega))
          | (at_builtin; refine wpList_append_any rfl (.tmp 66) (.tmp 73) 39 rfl B 9 i0 _ 1 16 Try.underlying39 hi hz0 hz1 hz2 rfl (by decide) _ G (strs (l2.take G)) rfl (by have := HT4.out; unfold TxAt at this; rw [HGL.out] at this; exact this) ao4 m cap4 (strs (((l2.take (j + 1)).drop G).take m)) rfl HN4.out (by rw [strs_length, List.length_take, HLM.out]; omega) (RowS.cells HR4.out) (strs_one _) (by unfold maxLen; omega) (by omega) (by omega) ?_
             intro v6 w6 ho6 hb6 hg6
             rw [← strs_app, join_take (by have := HM.out; omega)] at ho6
             obtain ⟨ao6, cap6, rfl, ht6⟩ := tx_of_owns ho6 (by rw [List.length_take, HN.out]; have := HM.out; omega)
             have HL6 : Hid ((l2.take (G + m)).length = G + m) := (by show (l2.take (G + m)).length = G + m; rw [List.length_take, HN.out]; have := HM.out; omega)
             rw [HL6.out]
             clear ho6 hg6))
        go_roundw
        case rel =>
          have hmm := HM.out
          have b4 : Below w.heap.size w w4 := (HBW.out.trans (hf3.below hsz q3 q2 q1)).trans (hf4.below (by omega) q3 q2 q1)
          refine ⟨j + 1, by go_num, ⟨G, G + m, ao6, cap6, rfl, by omega, by omega, by omega, by omega, by have := HG1.out; omega, ht6, ?_⟩, Nat.le_trans (by omega) hb6.size, b4.trans (hb6.mono q4)⟩
          rw [EA.out]
          exact hr4.fl hb6 b3 b2 b1
        case measure => simp [intOf]; omega
    · obtain rfl : j = N := by omega
      have hnl : ¬ (j : Int) < (j : Int) := by omega
      have HTJ : Hid (l2.take j = l2) := List.take_of_length_le (by rw [HN.out]; exact Nat.le_refl _)
      obtain ⟨m, hm⟩ : ∃ m, j - G = m := ⟨_, rfl⟩
      have HAG : ∀ W, LdAt g r p 12 ((l2.take j).drop D) (addI s D) s W → Calls Try.prog 20 #[.pointer (some ⟨g, 0, none⟩), .int .u32 (addI s G)] W fun e w' => (∃ ao cap, e = .returned (.tuple #[.slice ao m cap, .int .i64 0]) ∧ TxAt W.heap.size ao cap (l2.drop G) w') ∧ LdAt g r p 12 (l2.drop G) (addI s G) s w' ∧ Fl g r p W w' := fun W hW => by
        rw [HTJ.out] at hW
        have := again_ok g r p 12 _ _ _ (addI s G) HUG.out W hW (by unfold okC; rw [HAH.out, List.length_drop, HN.out]; omega)
        rw [HAH.out, Int.toNat_natCast, List.drop_drop, show D + (G - D) = G by omega, List.length_drop, HN.out, hm] at this
        exact this
      have HLM : Hid ((l2.drop G).length = m) := by show (l2.drop G).length = m; rw [List.length_drop, HN.out, hm]
      have HGL : Hid ((l2.take G).length = G) := by show (l2.take G).length = G; rw [List.length_take, HN.out]; omega
      have HSM := fun (x y : Option Addr) (c1 c2 : Nat) (W : World) h1 h2 => same_any x y c1 c2 l2 W h1 h2 (by rw [HN.out]; omega)
      rw [HN.out] at HSM
      have hGm : G + m = j := by omega
      have HGM : Hid _ := hGm
      have hm2 : m ≤ 100 := by omega
      obtain ⟨a, ha⟩ : ∃ a, addI s (G : Int) = a := ⟨_, rfl⟩
      simp only [ha] at HA HAG
      clear hm ha hGm hlt
      go_wp2_with (first
        | (go_at_call 30; refine (HA _).mono ?_; rintro e w3 ⟨rfl, rfl⟩)
        | (go_at_call 20; refine (HAG _ HLD.out).mono ?_; rintro e w4 ⟨⟨ao4, cap4, rfl, ht4⟩, hr4, hf4⟩
           have s4 := hf4.1.size
           have HT4 : Hid (TxAt B ao1 cap1 (l2.take G) w4) := TxAt.fl HTX.out hf4 b3 b2 b1
           have HN4 : Hid (ao4 = none → m = 0 ∧ cap4 = 0) := (fun e => by have := ht4.nil0 e; rw [HLM.out] at this; omega))
        | (at_builtin; refine wpList_append_any rfl (.tmp 96) (.tmp 97) 39 rfl B 9 i0 _ 1 16 Try.underlying39 hi hz0 hz1 hz2 rfl (by decide) _ G (strs (l2.take G)) rfl (by have := HT4.out; unfold TxAt at this; rw [HGL.out] at this; exact this) ao4 m cap4 (strs (l2.drop G)) rfl HN4.out (by rw [strs_length, HLM.out, Nat.mul_one]) (RowS.cells ht4.row) (strs_one _) (by unfold maxLen; omega) (by omega) (by omega) ?_
           intro v6 w6 ho6 hb6 hg6
           rw [← strs_app, List.take_append_drop] at ho6
           obtain ⟨ao6, cap6, rfl, ht6⟩ := tx_of_owns ho6 (by rw [HN.out]; exact HGM.out)
           rw [HN.out]
           clear ho6 hg6)
        | (go_at_call 21; refine (HSM _ _ _ _ _ ?_ ?_).mono ?_; exact ht6.row; exact RowS.below HROW.out ((HBW.out.trans (hf4.below hsz q3 q2 q1)).trans (hb6.mono q4)); rintro e w7 ⟨rfl, mm, rfl⟩))
      go_ret
      exact ⟨rfl, below_drewN ((HBW.out.trans (hf4.below hsz q3 q2 q1)).trans (hb6.mono q4))⟩
end Go.Proofs.Ytjmggofcncladaa
