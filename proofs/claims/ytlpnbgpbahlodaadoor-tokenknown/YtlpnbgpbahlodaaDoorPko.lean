/-
  Over this program: the walk of TokenKnown.
-/
import Derived.Test.YtlpnbgpbahlodaaDoorPkn
namespace Go.Proofs.YtlpnbgpbahlodaaDoor
open Go Go.RowKit
theorem strs_T_length (acc : List Nat) : (strs (acc.map T)).length = acc.length := by rw [strs_length, List.length_map]
theorem T_row {w : World} {ao : Option Addr} {acc : List Nat} (h : RowV w ao (strs (acc.map T))) {k a : Nat} (ha : acc[k]? = some a) : ∃ ad, ao = some ad ∧ w.cell? (ad.add k) = some (.string (T a)) :=
  RowS.at h (by rw [List.getElem?_map, ha]; rfl)
theorem own_row {B n : Nat} {T0 : TypeId} {ao : Option Addr} {cap : Nat} {xs : List Value} {w : World} (h : w.ownsRow B T0 1 (.slice ao n cap) n xs) (hn : n = xs.length) : RowV w ao xs := by
  subst hn
  exact OwA.row (B := B) (T := T0) (cap := cap) h
theorem row_drop {w : World} {ro ro' : Option Addr} {L : List Nat} {c rc : Nat} (h : RowU w ro L) (hL : L.length ≤ rc) (hc : c ≤ L.length) (hro : rc ≠ c → ro' = ro.map (·.add c)) : RowU w ro' (L.drop c) := by
  intro i v hv
  have e : us (L.drop c) = (us L).drop c := by unfold us; rw [List.map_drop]
  have hi := (List.getElem?_eq_some_iff.1 hv).1
  rw [us_length, List.length_drop] at hi
  rw [e, List.getElem?_drop] at hv
  obtain ⟨ad, e2, hcc⟩ := h (c + i) v hv
  subst e2
  refine ⟨ad.add c, hro (by omega), ?_⟩
  rw [Addr.add_add]
  exact hcc
def lenV : Value → Nat
  | .slice _ n _ => n
  | _ => 0
theorem info9 : (Tryd.prog.info? 9).map (fun i => (i.zero, i.size, i.bytes)) = some (some (.string ⟨#[]⟩), 1, 16) := by kernel_rfl
set_option maxHeartbeats 4000000 in
set_option maxRecDepth 100000 in
theorem known_walk (ao : Option Addr) (cap : Nat) (l : List Nat) (w : World) (h1 : RowU w ao l) (hc : l.length ≤ cap) (hu : ∀ z ∈ l, U z) (hE : Env w) :
    Calls Tryd.prog 6 #[.slice ao l.length cap] w fun e w' => e = .returned (.bool true) ∧ Below w.heap.size w w' := by
  obtain ⟨i0, hi, hz0, hz1, hz2⟩ := info_parts info22
  obtain ⟨i9, hi9, hz09, hz19, hz29⟩ := info_parts info9
  have HLV := lives_any w hE
  have HE : Hid (Env w) := hE
  obtain ⟨l2, hl2⟩ : ∃ l2, l.take 40 = l2 := ⟨_, rfl⟩
  obtain ⟨n, hn⟩ : ∃ n, l2.length = n := ⟨_, rfl⟩
  have HN : Hid (l2.length = n) := hn
  have hn1 : min (l.length : Int) 40 = (n : Int) := by rw [← hn, ← hl2, List.length_take]; omega
  have hn2 : (n : Int) ≤ (cap : Int) := by omega
  have hn3 : n ≤ 40 := by omega
  have HROW : Hid (RowU w ao l2) := by rw [← hl2]; exact RowU.take h1 _
  have HU : Hid (∀ z ∈ l2, U z) := fun z hz => hu z (by rw [← hl2] at hz; exact List.mem_of_mem_take hz)
  have hn4 : n ≤ cap := by omega
  obtain ⟨n0, hn0⟩ : ∃ n0, l.length = n0 := ⟨_, rfl⟩
  rw [hn0] at hn1 ⊢
  obtain ⟨B, hB⟩ : ∃ B, w.heap.size = B := ⟨_, rfl⟩
  have HB : Hid (w.heap.size = B) := hB
  clear h1 hc hu hE hl2 hn hn0
  go_enter Tryd.func6, Tryd.ntmps6
  go_wp2_with (first
    | (go_at_call 8; refine HLV.mono ?_; rintro e w1 ⟨rfl, hb1⟩))
  have HB1 : Hid (Below w.heap.size w w1) := hb1
  clear hb1 hB
  go_loopw [3, 4, 5, 6, 7] (fun kn rs _ _ _ wr => ∃ (j : Nat) (acc : List Nat) (ro : Option Addr) (rc : Nat) (ko : Option Addr) (kc : Nat), j ≤ n ∧ rs = .slice ro (n - j) rc ∧ kn = .slice ko acc.length kc ∧ n - j ≤ rc ∧ Hid (wr.ownsRow B 9 1 (.slice ko acc.length kc) acc.length (strs (acc.map T))) ∧ Hid (RowU w ro (l2.drop j)) ∧ Hid (nub acc (l2.drop j) = nub [] l2) ∧ Hid (ND acc) ∧ Hid (∀ z ∈ acc, U z) ∧ Hid (acc.length ≤ j) ∧ Hid (Below w.heap.size w wr)) (fun _ rs _ _ _ _ => lenV rs)
  case atStart => exact ⟨0, [], ao, cap, none, 0, Nat.zero_le _, rfl, rfl, hn4, World.ownsRow_nil _ _ _ _, HROW.out, rfl, nd_nil, (fun z hz => by cases hz), Nat.le_refl _, HB1.out⟩
  case round =>
    obtain ⟨j, acc, ro, rc, ko, kc, hj, rfl, rfl, hrc, HOW, HRO, HNB0, HACD, HACU, HACL0, HBT⟩ := hrel
    have HACL : Hid (acc.length ≤ n) := Nat.le_trans HACL0.out hj
    obtain ⟨m, hm⟩ : ∃ m, n - j = m := ⟨_, rfl⟩
    have HM : Hid (n - j = m) := hm
    rw [hm] at hrc ⊢
    by_cases hlt : 0 < m
    · have hlt1 : (0 : Int) < (m : Int) := by omega
      have hjm : j + m = n := by omega
      obtain ⟨r, hr⟩ : ∃ r, l2.drop j = r := ⟨_, rfl⟩
      have hrl : r.length = m := by rw [← hr, List.length_drop, HN.out, hm]
      have hru : ∀ z ∈ r, U z := fun z hz => HU.out z (by rw [← hr] at hz; exact List.mem_of_mem_drop hz)
      have HRR : Hid (RowU w ro r) := by rw [← hr]; exact HRO.out
      have hacl : acc.length ≤ 40 := by have h9 := HACL.out; omega
      have HD := fun W ha hb => draw_any ro ko rc kc r (acc.map T) 100 W ha hb (by omega) (by omega) (by rw [List.length_map]; omega) hru
      have e100 : triesN 100 = 100 := by decide
      rw [e100, List.take_of_length_le (show r.length ≤ 100 by omega), hrl, Nat.min_eq_right (show m ≤ 100 by omega), List.length_map] at HD
      obtain ⟨o, ho⟩ : ∃ o, drawF (acc.map T) r 0 = o := ⟨_, rfl⟩
      rw [ho] at HD
      have HKR : Hid (RowV wr ko (strs (acc.map T))) := own_row HOW.out (strs_T_length acc).symm
      obtain ⟨ak, hak⟩ : ∃ ak, acc.length = ak := ⟨_, rfl⟩
      have HAK : Hid (acc.length = ak) := hak
      have HOW' : Hid (wr.ownsRow B 9 1 (.slice ko ak kc) ak (strs (acc.map T))) := by have h9 := HOW.out; rw [hak] at h9; exact h9
      rw [hak] at HD ⊢
      have hBw : B ≤ wr.heap.size := by have h9 := HBT.out.size; have h8 := HB.out; omega
      cases o with
      | some sc =>
        obtain ⟨s, c⟩ := sc
        obtain ⟨a, k, e1, e2, e3, e4, e5⟩ := draw_some r 0 HACU.out hru ho
        have hkm : k < m := by have h9 := (List.getElem?_eq_some_iff.1 e1).1; omega
        have hc1 : c = k + 1 := by omega
        have HD1 : ∀ W, RowU W ro r → RowS W ko (acc.map T) → Calls Tryd.prog 13 #[.slice ro m rc, .slice ko ak kc, .int .i64 100] W fun e w' => e = .returned (.tuple #[.string s, .int .i64 (c : Int), .int .i64 0]) ∧ Below W.heap.size W w' := fun W ha hb => (HD W ha hb).mono fun e w' ⟨hd, hbb⟩ => ⟨hd.fix, hbb⟩
        have HNB1 : Hid (nub (acc ++ [a]) (l2.drop (j + c)) = nub [] l2) := by
          show _ = _
          rw [← HNB0.out, hr, e5, ← hr, List.drop_drop, hc1]
        have HND1 : Hid (ND (acc ++ [a])) := nd_snoc HACD.out (fun h => e4 (List.contains_iff_mem.2 h))
        have HU1 : Hid (∀ z ∈ acc ++ [a], U z) := fun z hz => by
          rcases List.mem_append.1 hz with h | h
          · exact HACU.out z h
          · rw [List.mem_singleton.1 h]; exact hru a (List.mem_of_getElem? e1)
        have HST : Hid (strs ((acc ++ [a]).map T) = strs (acc.map T) ++ [.string s]) := by
          show _ = _
          rw [List.map_append, strs_app, e3]
          rfl
        have HLE : Hid ((acc ++ [a]).length ≤ j + c) := by
          show _ ≤ _
          rw [List.length_append]
          have h9 := HACL0.out
          show acc.length + 1 ≤ _
          omega
        have HLA : Hid ((acc ++ [a]).length = ak + 1) := by show _ = _; rw [List.length_append, hak]; rfl
        have hcm : c ≤ m := by omega
        have hc0 : 0 < c := by omega
        have ic1 : ¬ (c : Int) < 1 := by omega
        have ic2 : ¬ (m : Int) < (c : Int) := by omega
        have ic3 : (c : Int) ≤ (m : Int) := by omega
        have ic4 : (0 : Int) ≤ (c : Int) := by omega
        have hak40 : ak ≤ 40 := by omega
        have HRL : Hid (r.length = m) := hrl
        have HRJ : Hid (l2.drop j = r) := hr
        clear e1 e2 e3 e4 e5 ho HD hr hrl hru hak hc1 hkm hm
        go_wp2_with (first
          | (go_at_call 13; refine (HD1 _ (HRR.out.below HBT.out) HKR.out).mono ?_; rintro e w3 ⟨rfl, hb3⟩; have HB3 : Hid (Below wr.heap.size wr w3) := hb3; have s3 := hb3.size; clear hb3)
          | (at_builtin; refine wpList_append_any rfl (.tmp 47) (.tmp 49) 29 rfl B 9 i9 _ 1 16 Tryd.underlying29 hi9 hz09 hz19 hz29 rfl (by decide) _ ak (strs (acc.map T)) rfl (World.ownsRow.alloc (owns_keep HOW'.out fun z hz _ => HB3.out.block z hz) _) ⟨w3.heap.size, 0, none⟩ 1 1 [.string s] rfl (by rfl) (row_one (heap_alloc_new w3 _)) (strs_one [s]) (by unfold maxLen; omega) (by omega) (by simp; omega) ?_
             intro v6 w6 ho6 hb6 hg6
             rw [← HST.out] at ho6
             obtain ⟨ao6, cap6, rfl, how6⟩ := own_of ho6 (by rw [strs_T_length, HLA.out])
             unfold OwA at how6
             rw [strs_T_length] at how6
             have HO6 : Hid (w6.ownsRow B 9 1 (.slice ao6 (acc ++ [a]).length cap6) (acc ++ [a]).length (strs ((acc ++ [a]).map T))) := how6
             have HB6 : Hid (Below B w3 w6) := ((Below.refl B w3).alloc (by omega) _).trans hb6
             clear ho6 hb6 hg6 how6))
        obtain ⟨ro', hro'⟩ : ∃ ro', (if rc = c then ro else Option.map (fun x => x.add c) ro) = ro' := ⟨_, rfl⟩
        rw [hro']
        have HRO' : Hid (RowU w ro' (l2.drop (j + c))) := by
          have h9 := row_drop (ro' := ro') (c := c) (rc := rc) HRR.out (by rw [HRL.out]; exact hrc) (by rw [HRL.out]; exact hcm) (fun e => by rw [← hro', if_neg e])
          rw [← HRJ.out, List.drop_drop] at h9
          exact h9
        refine ⟨⟨j + c, acc ++ [a], ro', rc - c, ao6, cap6, by omega, ?_, by simp [strs_length], by omega, HO6, HRO', HNB1, HND1, HU1, HLE, (HBT.out.trans (HB3.out.mono HBT.out.size)).trans (HB6.out.mono (by have h9 := HB.out; omega))⟩, ?_⟩
        · rw [show m - c = n - (j + c) by omega]
        · show m - c < m
          omega
      | none =>
        have HNB : Hid (nub [] l2 = acc) := by
          show _ = _
          rw [← HNB0.out, hr]
          exact draw_none r 0 HACU.out hru ho
        have HD1 : ∀ W, RowU W ro r → RowS W ko (acc.map T) → Calls Tryd.prog 13 #[.slice ro m rc, .slice ko ak kc, .int .i64 100] W fun e w' => e = .returned (.tuple #[.string ⟨#[]⟩, .int .i64 (m : Int), .int .i64 14]) ∧ Below W.heap.size W w' := fun W ha hb => (HD W ha hb).mono fun e w' ⟨hd, hbb⟩ => ⟨hd.fix, hbb⟩
        have ic1 : ¬ (m : Int) < 1 := by omega
        have ic2 : ¬ (m : Int) < (m : Int) := by omega
        have hcm : (m : Int) ≤ (rc : Int) := by omega
        clear ho HD hr hrl hru hak hm
        go_wp2_with (first
          | (go_at_call 13; refine (HD1 _ (HRR.out.below HBT.out) HKR.out).mono ?_; rintro e w3 ⟨rfl, hb3⟩; have HB3 : Hid (Below wr.heap.size wr w3) := hb3; have s3 := hb3.size; clear hb3))
        all_goals (
          rw [← HAK.out]
          have HBTt : Hid (Below w.heap.size w w3) := HBT.out.trans (HB3.out.mono HBT.out.size)
          have HOWt : Hid (w3.ownsRow B 9 1 (.slice ko acc.length kc) acc.length (strs (acc.map T))) := owns_keep HOW.out fun z hz _ => HB3.out.block z hz
          obtain ⟨wt, hwt⟩ : ∃ wt, w3 = wt := ⟨_, rfl⟩
          rw [hwt] at HBTt HOWt ⊢
          clear hwt HOW HOW' HBT HB3 HRO HRR HD1 HNB0 HKR s3 hBw hcm ic1 ic2
          have hacn : acc.length ≤ 40 := by have := HACL.out; omega
          obtain ⟨q, hq⟩ : ∃ q, acc.length = q := ⟨_, rfl⟩
          have HQ : Hid (acc.length = q) := hq
          have hq40 : q ≤ 40 := by omega
          have HKR : Hid (RowV wt ko (strs (acc.map T))) := own_row HOWt.out (strs_T_length acc).symm
          have HCN : Hid (q = cnt l2 n) := by
            show _ = _
            have h9 := nub_all l2
            rw [HNB.out, HN.out] at h9
            exact HQ.out.symm.trans h9
          obtain ⟨B2, hB2⟩ : ∃ B2, wt.heap.size = B2 := ⟨_, rfl⟩
          have HB2 : Hid (wt.heap.size = B2) := hB2
          rw [hq]
          clear hq hB2 hacn
          go_wp2_with fail
          go_loopw [8, 9, 10, 11] (fun bk i _ _ wr => ∃ (k : Nat) (bo : Option Addr) (bc : Nat), k ≤ q ∧ i = .int .i64 (k : Int) ∧ bk = .slice bo k bc ∧ Hid (wr.ownsRow B2 22 1 (.slice bo k bc) k (us (acc.take k))) ∧ Hid (Below B2 wt wr)) (fun _ i _ _ _ => q - (intOf i).toNat)
          case atStart => exact ⟨0, none, 0, Nat.zero_le _, rfl, rfl, World.ownsRow_nil _ _ _ _, Below.refl _ _⟩
          case round =>
            obtain ⟨k, bo, bc, hk, rfl, rfl, HO2, HBW⟩ := hrel
            have hBs : B2 ≤ wr.heap.size := by have h9 := HBW.out.size; have h8 := HB2.out; omega
            by_cases hlt : k < q
            · obtain ⟨a, ha⟩ : ∃ a, acc[k]? = some a := ⟨_, List.getElem?_eq_getElem (by rw [HQ.out]; exact hlt)⟩
              have hua := HACU.out a (List.mem_of_getElem? ha)
              obtain ⟨ad, rfl, c0⟩ := T_row (RowV.below HKR.out (by rw [HB2.out]; exact HBW.out)) ha
              have HNX : Hid (us (acc.take (k + 1)) = us (acc.take k) ++ [.int .u64 (a : Int)]) := by
                show _ = _
                rw [List.take_add_one, ha, us_app]
                rfl
              have HEW : Hid (Env wr) := (HE.out.below HBTt.out).below (by rw [HB2.out]; exact HBW.out)
              obtain ⟨X, hX⟩ : ∃ X, T a = X := ⟨_, rfl⟩
              have HR1 : ∀ W, Env W → Calls Tryd.prog 9 #[.string X] W fun e w' => e = .returned (.tuple #[.int .u64 (a : Int), .bool true]) ∧ Below W.heap.size W w' := fun W hW => by
                rw [← hX]
                exact read_any (T a) a true (by rw [T_size]; omega) (by show (readT (tokL 13 a)).getD 0 = a; rw [readT_tok hua]; rfl) (by show (readT (tokL 13 a)).isSome = true; rw [readT_tok hua]; rfl) W hW
              rw [hX] at c0
              have hlt1 : (k : Int) < (q : Int) := by omega
              have hk0 : (0 : Int) ≤ (k : Int) := by omega
              clear ha hua hX
              go_wp2_with (first
                | (go_at_call 9; refine (HR1 _ HEW.out).mono ?_; rintro e w5 ⟨rfl, hb5⟩; have HB5 : Hid (Below wr.heap.size wr w5) := hb5; have s5 := hb5.size; clear hb5)
                | (at_builtin; refine wpList_append_any rfl (.tmp 67) (.tmp 69) 28 rfl B2 22 i0 _ 1 8 Tryd.underlying28 hi hz0 hz1 hz2 rfl (by decide) _ k (us (acc.take k)) rfl (World.ownsRow.alloc (owns_keep HO2.out fun z hz _ => HB5.out.block z hz) _) ⟨w5.heap.size, 0, none⟩ 1 1 [.int .u64 (a : Int)] rfl (by rfl) (row_one (heap_alloc_new w5 _)) (us_one [a]) (by unfold maxLen; omega) (by omega) (by simp; omega) ?_
                   intro v6 w6 ho6 hb6 hg6
                   rw [← HNX.out] at ho6
                   obtain ⟨ao6, cap6, rfl, how6⟩ := own_of ho6 (by rw [us_length, List.length_take, HQ.out]; omega)
                   unfold OwA at how6
                   rw [us_length, List.length_take, HQ.out, Nat.min_eq_left (show k + 1 ≤ q by omega)] at how6
                   have HO6 : Hid (w6.ownsRow B2 22 1 (.slice ao6 (k + 1) cap6) (k + 1) (us (acc.take (k + 1)))) := how6
                   have HB6 : Hid (Below B2 w5 w6) := ((Below.refl B2 w5).alloc (by omega) _).trans hb6
                   clear ho6 hb6 hg6 how6))
              go_roundw
              case rel => exact ⟨k + 1, ao6, cap6, by omega, by go_num, by rw [us_length, List.length_take, HQ.out, Nat.min_eq_left (show k + 1 ≤ q by omega)], HO6, (HBW.out.trans (HB5.out.mono hBs)).trans HB6.out⟩
              case measure => simp [intOf]; omega
            · obtain rfl : k = q := by omega
              have hlt1 : ¬ (k : Int) < (k : Int) := by omega
              have HBR : Hid (RowU wr bo acc) := by
                have h9 := own_row HO2.out (by rw [us_length, List.length_take, HQ.out]; omega)
                rw [List.take_of_length_le (by rw [HQ.out]; exact Nat.le_refl _)] at h9
                exact h9
              have HBA : Hid (Below w.heap.size w wr) := HBTt.out.trans (HBW.out.mono (by have h9 := HB2.out; have h8 := HBTt.out.size; omega))
              have hcn := HCN.out
              clear hlt
              go_wp2_with fail
              go_loopw [12, 13, 14, 15] (fun df i _ _ ws => ∃ (p : Nat), p ≤ n ∧ i = .int .i64 (p : Int) ∧ df = .int .i64 (cnt l2 p : Int) ∧ ∃ d, ws = wr.drewN d) (fun _ i _ _ _ => n - (intOf i).toNat)
              case atStart => exact ⟨0, Nat.zero_le _, rfl, rfl, 0, rfl⟩
              case round =>
                obtain ⟨p, hp, rfl, rfl, d, rfl⟩ := hrel
                by_cases hlp : p < n
                · obtain ⟨a, ha⟩ : ∃ a, l2[p]? = some a := ⟨_, List.getElem?_eq_getElem (by rw [HN.out]; exact hlp)⟩
                  obtain ⟨ad, rfl, c0⟩ := (HROW.out.below HBA.out).at ha
                  have HA : Hid (l2[p]? = some a) := ha
                  have hlp1 : (p : Int) < (n : Int) := by omega
                  obtain ⟨cp, hcp⟩ : ∃ cp, cnt l2 p = cp := ⟨_, rfl⟩
                  have HCP : Hid (cnt l2 p = cp) := hcp
                  have hcp40 : cp ≤ 40 := by have h9 := cnt_le l2 p; omega
                  rw [hcp]
                  clear ha hcp
                  go_wp2_with fail
                  go_loopw [14, 15] (fun f j ws => ∃ (x : Nat) (v : Bool), x ≤ p ∧ j = .int .i64 (x : Int) ∧ f = .bool v ∧ Hid (v = !(l2.take x).contains a) ∧ ∃ d, ws = wr.drewN d) (fun _ j _ => p - (intOf j).toNat)
                  case atStart => exact ⟨0, true, Nat.zero_le _, rfl, rfl, rfl, d, rfl⟩
                  case round =>
                    obtain ⟨x, v, hx, rfl, rfl, HV, d2, rfl⟩ := hrel
                    by_cases hxp : x < p
                    · obtain ⟨b, hb⟩ : ∃ b, l2[x]? = some b := ⟨_, List.getElem?_eq_getElem (by rw [HN.out]; omega)⟩
                      obtain ⟨ad2, e2, c2⟩ := (HROW.out.below HBA.out).at hb
                      cases e2
                      have hst := take_next (z := a) hb
                      have hx1 : (x : Int) < (p : Int) := by omega
                      have hxn : (x : Int) < (n : Int) := by omega
                      cases v with
                      | false =>
                        have HE9 : Hid (false = !(l2.take (x + 1)).contains a) := by
                          show _ = _
                          have h9 := HV.out
                          rw [hst]
                          cases h8 : (l2.take x).contains a with
                          | true => rfl
                          | false => rw [h8] at h9; cases h9
                        clear hst hb
                        go_wp2_with fail
                        go_quiet (fail)
                        go_wp2_with fail
                        go_roundw
                        case rel => exact ⟨x + 1, false, by omega, by go_num, rfl, HE9, _, rfl⟩
                        case measure => simp [intOf]; omega
                      | true =>
                        have h7 : (l2.take x).contains a = false := by
                          have h9 := HV.out
                          cases h8 : (l2.take x).contains a with
                          | true => rw [h8] at h9; cases h9
                          | false => rfl
                        rw [h7, Bool.false_or] at hst
                        by_cases hab : a = b
                        · have heq : ((b : Int) == (a : Int)) = true := by rw [beq_iff_eq]; omega
                          have heb : (b : Int) = (a : Int) := by omega
                          have HE9 : Hid (false = !(l2.take (x + 1)).contains a) := by
                            show _ = _
                            rw [hst, hab]
                            simp
                          clear hst hb h7 hab
                          go_wp2_with fail
                          go_quiet (fail)
                          go_wp2_with fail
                          go_roundw
                          case rel => exact ⟨x + 1, false, by omega, by go_num, by simp, HE9, _, rfl⟩
                          case measure => simp [intOf]; omega
                        · have heq : ((b : Int) == (a : Int)) = false := by rw [beq_eq_false_iff_ne]; omega
                          have heb : ¬ (b : Int) = (a : Int) := by omega
                          have HE9 : Hid (true = !(l2.take (x + 1)).contains a) := by
                            show _ = _
                            rw [hst]
                            simp [hab]
                          clear hst hb h7 hab
                          go_wp2_with fail
                          go_quiet (fail)
                          go_wp2_with fail
                          go_roundw
                          case rel => exact ⟨x + 1, true, by omega, by go_num, by simp; exact heb, HE9, _, rfl⟩
                          case measure => simp [intOf]; omega
                    · obtain rfl : x = p := by omega
                      have hx1 : ¬ (x : Int) < (x : Int) := by omega
                      have hf : firstB l2 x = v := by
                        unfold firstB
                        rw [HA.out]
                        exact HV.out.symm
                      have hcs : cnt l2 (x + 1) = cp + (if v = true then 1 else 0) := by
                        show cnt l2 x + (if firstB l2 x = true then 1 else 0) = _
                        rw [hf, HCP.out]
                      have HCS : Hid (cnt l2 (x + 1) = cp + (if v = true then 1 else 0)) := hcs
                      clear hf hcs hxp
                      cases v with
                      | true =>
                        have HC9 : Hid (cnt l2 (x + 1) = cp + 1) := HCS.out
                        go_wp2_with fail
                        go_roundw
                        case rel => exact ⟨x + 1, by omega, by go_num, by rw [HC9.out]; go_num, _, rfl⟩
                        case measure => simp [intOf]; omega
                      | false =>
                        have HC9 : Hid (cnt l2 (x + 1) = cp) := HCS.out
                        go_wp2_with fail
                        go_roundw
                        case rel => exact ⟨x + 1, by omega, by go_num, by rw [HC9.out], _, rfl⟩
                        case measure => simp [intOf]; omega
                · obtain rfl : p = n := by omega
                  have hlp1 : ¬ (p : Int) < (p : Int) := by omega
                  have HAP : ∀ W, RowU W bo acc → Calls Tryd.prog 15 #[.slice bo k bc] W fun e w' => e = .returned (.bool true) ∧ Below W.heap.size W w' := fun W hW => by
                    have h9 := apart_any bo bc acc W hW (by rw [HQ.out]; omega) HACU.out true ⟨fun _ => HACD.out, fun _ => rfl⟩
                    rw [HQ.out] at h9
                    exact h9
                  rw [← hcn]
                  clear hlp hcn
                  go_wp2_with (first
                    | (go_at_call 15; refine (HAP _ ?_).mono ?_; exact HBR.out; rintro e w9 ⟨rfl, hb9⟩))
                  go_ret
                  exact ⟨by simp, (below_drewN HBA.out).trans (hb9.mono (by have h9 := HBA.out.size; simpa using h9))⟩
        )
    · obtain rfl : m = 0 := by omega
      have hlt1 : ¬ (0 : Int) < (0 : Int) := by omega
      have HNB : Hid (nub [] l2 = acc) := by
        show _ = _
        rw [← HNB0.out, List.drop_of_length_le (by rw [HN.out]; have := HM.out; omega)]
        rfl
      obtain ⟨wt, hwt⟩ : ∃ wt, wr = wt := ⟨_, rfl⟩
      have HBTt : Hid (Below w.heap.size w wt) := by rw [← hwt]; exact HBT.out
      have HOWt : Hid (wt.ownsRow B 9 1 (.slice ko acc.length kc) acc.length (strs (acc.map T))) := by rw [← hwt]; exact HOW.out
      rw [hwt]
      clear hwt HOW HBT HRO HNB0 hlt hm
      have hacn : acc.length ≤ 40 := by have := HACL.out; omega
      obtain ⟨q, hq⟩ : ∃ q, acc.length = q := ⟨_, rfl⟩
      have HQ : Hid (acc.length = q) := hq
      have hq40 : q ≤ 40 := by omega
      have HKR : Hid (RowV wt ko (strs (acc.map T))) := own_row HOWt.out (strs_T_length acc).symm
      have HCN : Hid (q = cnt l2 n) := by
        show _ = _
        have h9 := nub_all l2
        rw [HNB.out, HN.out] at h9
        exact HQ.out.symm.trans h9
      obtain ⟨B2, hB2⟩ : ∃ B2, wt.heap.size = B2 := ⟨_, rfl⟩
      have HB2 : Hid (wt.heap.size = B2) := hB2
      rw [hq]
      clear hq hB2 hacn
      go_wp2_with fail
      go_loopw [8, 9, 10, 11] (fun bk i _ _ wr => ∃ (k : Nat) (bo : Option Addr) (bc : Nat), k ≤ q ∧ i = .int .i64 (k : Int) ∧ bk = .slice bo k bc ∧ Hid (wr.ownsRow B2 22 1 (.slice bo k bc) k (us (acc.take k))) ∧ Hid (Below B2 wt wr)) (fun _ i _ _ _ => q - (intOf i).toNat)
      case atStart => exact ⟨0, none, 0, Nat.zero_le _, rfl, rfl, World.ownsRow_nil _ _ _ _, Below.refl _ _⟩
      case round =>
        obtain ⟨k, bo, bc, hk, rfl, rfl, HO2, HBW⟩ := hrel
        have hBs : B2 ≤ wr.heap.size := by have h9 := HBW.out.size; have h8 := HB2.out; omega
        by_cases hlt : k < q
        · obtain ⟨a, ha⟩ : ∃ a, acc[k]? = some a := ⟨_, List.getElem?_eq_getElem (by rw [HQ.out]; exact hlt)⟩
          have hua := HACU.out a (List.mem_of_getElem? ha)
          obtain ⟨ad, rfl, c0⟩ := T_row (RowV.below HKR.out (by rw [HB2.out]; exact HBW.out)) ha
          have HNX : Hid (us (acc.take (k + 1)) = us (acc.take k) ++ [.int .u64 (a : Int)]) := by
            show _ = _
            rw [List.take_add_one, ha, us_app]
            rfl
          have HEW : Hid (Env wr) := (HE.out.below HBTt.out).below (by rw [HB2.out]; exact HBW.out)
          obtain ⟨X, hX⟩ : ∃ X, T a = X := ⟨_, rfl⟩
          have HR1 : ∀ W, Env W → Calls Tryd.prog 9 #[.string X] W fun e w' => e = .returned (.tuple #[.int .u64 (a : Int), .bool true]) ∧ Below W.heap.size W w' := fun W hW => by
            rw [← hX]
            exact read_any (T a) a true (by rw [T_size]; omega) (by show (readT (tokL 13 a)).getD 0 = a; rw [readT_tok hua]; rfl) (by show (readT (tokL 13 a)).isSome = true; rw [readT_tok hua]; rfl) W hW
          rw [hX] at c0
          have hlt1 : (k : Int) < (q : Int) := by omega
          have hk0 : (0 : Int) ≤ (k : Int) := by omega
          clear ha hua hX
          go_wp2_with (first
            | (go_at_call 9; refine (HR1 _ HEW.out).mono ?_; rintro e w5 ⟨rfl, hb5⟩; have HB5 : Hid (Below wr.heap.size wr w5) := hb5; have s5 := hb5.size; clear hb5)
            | (at_builtin; refine wpList_append_any rfl (.tmp 67) (.tmp 69) 28 rfl B2 22 i0 _ 1 8 Tryd.underlying28 hi hz0 hz1 hz2 rfl (by decide) _ k (us (acc.take k)) rfl (World.ownsRow.alloc (owns_keep HO2.out fun z hz _ => HB5.out.block z hz) _) ⟨w5.heap.size, 0, none⟩ 1 1 [.int .u64 (a : Int)] rfl (by rfl) (row_one (heap_alloc_new w5 _)) (us_one [a]) (by unfold maxLen; omega) (by omega) (by simp; omega) ?_
               intro v6 w6 ho6 hb6 hg6
               rw [← HNX.out] at ho6
               obtain ⟨ao6, cap6, rfl, how6⟩ := own_of ho6 (by rw [us_length, List.length_take, HQ.out]; omega)
               unfold OwA at how6
               rw [us_length, List.length_take, HQ.out, Nat.min_eq_left (show k + 1 ≤ q by omega)] at how6
               have HO6 : Hid (w6.ownsRow B2 22 1 (.slice ao6 (k + 1) cap6) (k + 1) (us (acc.take (k + 1)))) := how6
               have HB6 : Hid (Below B2 w5 w6) := ((Below.refl B2 w5).alloc (by omega) _).trans hb6
               clear ho6 hb6 hg6 how6))
          go_roundw
          case rel => exact ⟨k + 1, ao6, cap6, by omega, by go_num, by rw [us_length, List.length_take, HQ.out, Nat.min_eq_left (show k + 1 ≤ q by omega)], HO6, (HBW.out.trans (HB5.out.mono hBs)).trans HB6.out⟩
          case measure => simp [intOf]; omega
        · obtain rfl : k = q := by omega
          have hlt1 : ¬ (k : Int) < (k : Int) := by omega
          have HBR : Hid (RowU wr bo acc) := by
            have h9 := own_row HO2.out (by rw [us_length, List.length_take, HQ.out]; omega)
            rw [List.take_of_length_le (by rw [HQ.out]; exact Nat.le_refl _)] at h9
            exact h9
          have HBA : Hid (Below w.heap.size w wr) := HBTt.out.trans (HBW.out.mono (by have h9 := HB2.out; have h8 := HBTt.out.size; omega))
          have hcn := HCN.out
          clear hlt
          go_wp2_with fail
          go_loopw [12, 13, 14, 15] (fun df i _ _ ws => ∃ (p : Nat), p ≤ n ∧ i = .int .i64 (p : Int) ∧ df = .int .i64 (cnt l2 p : Int) ∧ ∃ d, ws = wr.drewN d) (fun _ i _ _ _ => n - (intOf i).toNat)
          case atStart => exact ⟨0, Nat.zero_le _, rfl, rfl, 0, rfl⟩
          case round =>
            obtain ⟨p, hp, rfl, rfl, d, rfl⟩ := hrel
            by_cases hlp : p < n
            · obtain ⟨a, ha⟩ : ∃ a, l2[p]? = some a := ⟨_, List.getElem?_eq_getElem (by rw [HN.out]; exact hlp)⟩
              obtain ⟨ad, rfl, c0⟩ := (HROW.out.below HBA.out).at ha
              have HA : Hid (l2[p]? = some a) := ha
              have hlp1 : (p : Int) < (n : Int) := by omega
              obtain ⟨cp, hcp⟩ : ∃ cp, cnt l2 p = cp := ⟨_, rfl⟩
              have HCP : Hid (cnt l2 p = cp) := hcp
              have hcp40 : cp ≤ 40 := by have h9 := cnt_le l2 p; omega
              rw [hcp]
              clear ha hcp
              go_wp2_with fail
              go_loopw [14, 15] (fun f j ws => ∃ (x : Nat) (v : Bool), x ≤ p ∧ j = .int .i64 (x : Int) ∧ f = .bool v ∧ Hid (v = !(l2.take x).contains a) ∧ ∃ d, ws = wr.drewN d) (fun _ j _ => p - (intOf j).toNat)
              case atStart => exact ⟨0, true, Nat.zero_le _, rfl, rfl, rfl, d, rfl⟩
              case round =>
                obtain ⟨x, v, hx, rfl, rfl, HV, d2, rfl⟩ := hrel
                by_cases hxp : x < p
                · obtain ⟨b, hb⟩ : ∃ b, l2[x]? = some b := ⟨_, List.getElem?_eq_getElem (by rw [HN.out]; omega)⟩
                  obtain ⟨ad2, e2, c2⟩ := (HROW.out.below HBA.out).at hb
                  cases e2
                  have hst := take_next (z := a) hb
                  have hx1 : (x : Int) < (p : Int) := by omega
                  have hxn : (x : Int) < (n : Int) := by omega
                  cases v with
                  | false =>
                    have HE9 : Hid (false = !(l2.take (x + 1)).contains a) := by
                      show _ = _
                      have h9 := HV.out
                      rw [hst]
                      cases h8 : (l2.take x).contains a with
                      | true => rfl
                      | false => rw [h8] at h9; cases h9
                    clear hst hb
                    go_wp2_with fail
                    go_quiet (fail)
                    go_wp2_with fail
                    go_roundw
                    case rel => exact ⟨x + 1, false, by omega, by go_num, rfl, HE9, _, rfl⟩
                    case measure => simp [intOf]; omega
                  | true =>
                    have h7 : (l2.take x).contains a = false := by
                      have h9 := HV.out
                      cases h8 : (l2.take x).contains a with
                      | true => rw [h8] at h9; cases h9
                      | false => rfl
                    rw [h7, Bool.false_or] at hst
                    by_cases hab : a = b
                    · have heq : ((b : Int) == (a : Int)) = true := by rw [beq_iff_eq]; omega
                      have heb : (b : Int) = (a : Int) := by omega
                      have HE9 : Hid (false = !(l2.take (x + 1)).contains a) := by
                        show _ = _
                        rw [hst, hab]
                        simp
                      clear hst hb h7 hab
                      go_wp2_with fail
                      go_quiet (fail)
                      go_wp2_with fail
                      go_roundw
                      case rel => exact ⟨x + 1, false, by omega, by go_num, by simp, HE9, _, rfl⟩
                      case measure => simp [intOf]; omega
                    · have heq : ((b : Int) == (a : Int)) = false := by rw [beq_eq_false_iff_ne]; omega
                      have heb : ¬ (b : Int) = (a : Int) := by omega
                      have HE9 : Hid (true = !(l2.take (x + 1)).contains a) := by
                        show _ = _
                        rw [hst]
                        simp [hab]
                      clear hst hb h7 hab
                      go_wp2_with fail
                      go_quiet (fail)
                      go_wp2_with fail
                      go_roundw
                      case rel => exact ⟨x + 1, true, by omega, by go_num, by simp; exact heb, HE9, _, rfl⟩
                      case measure => simp [intOf]; omega
                · obtain rfl : x = p := by omega
                  have hx1 : ¬ (x : Int) < (x : Int) := by omega
                  have hf : firstB l2 x = v := by
                    unfold firstB
                    rw [HA.out]
                    exact HV.out.symm
                  have hcs : cnt l2 (x + 1) = cp + (if v = true then 1 else 0) := by
                    show cnt l2 x + (if firstB l2 x = true then 1 else 0) = _
                    rw [hf, HCP.out]
                  have HCS : Hid (cnt l2 (x + 1) = cp + (if v = true then 1 else 0)) := hcs
                  clear hf hcs hxp
                  cases v with
                  | true =>
                    have HC9 : Hid (cnt l2 (x + 1) = cp + 1) := HCS.out
                    go_wp2_with fail
                    go_roundw
                    case rel => exact ⟨x + 1, by omega, by go_num, by rw [HC9.out]; go_num, _, rfl⟩
                    case measure => simp [intOf]; omega
                  | false =>
                    have HC9 : Hid (cnt l2 (x + 1) = cp) := HCS.out
                    go_wp2_with fail
                    go_roundw
                    case rel => exact ⟨x + 1, by omega, by go_num, by rw [HC9.out], _, rfl⟩
                    case measure => simp [intOf]; omega
            · obtain rfl : p = n := by omega
              have hlp1 : ¬ (p : Int) < (p : Int) := by omega
              have HAP : ∀ W, RowU W bo acc → Calls Tryd.prog 15 #[.slice bo k bc] W fun e w' => e = .returned (.bool true) ∧ Below W.heap.size W w' := fun W hW => by
                have h9 := apart_any bo bc acc W hW (by rw [HQ.out]; omega) HACU.out true ⟨fun _ => HACD.out, fun _ => rfl⟩
                rw [HQ.out] at h9
                exact h9
              rw [← hcn]
              clear hlp hcn
              go_wp2_with (first
                | (go_at_call 15; refine (HAP _ ?_).mono ?_; exact HBR.out; rintro e w9 ⟨rfl, hb9⟩))
              go_ret
              exact ⟨by simp, (below_drewN HBA.out).trans (hb9.mono (by have h9 := HBA.out.size; simpa using h9))⟩
end Go.Proofs.YtlpnbgpbahlodaaDoor
