/-
  The walk of the statement WheelOnce over this program.
-/
import Derived.Test.YtkgnaaocgejeiaaBase
namespace Go.Proofs.Ytkgnaaocgejeiaa
open Go Go.RowKit Go.Maps
theorem out_three (at_ : Int) (R : List (Int × Int)) : (¬ (0 : Int) < ((outN at_ R).length : Int) ∧ (!R.isEmpty) = false) ∨ ((0 : Int) < ((outN at_ R).length : Int) ∧ (!R.isEmpty) = true ∧ nxT R ≤ at_) ∨ (¬ (0 : Int) < ((outN at_ R).length : Int) ∧ (!R.isEmpty) = true ∧ ¬ nxT R ≤ at_) := by
  cases R with
  | nil => exact .inl ⟨by simp [outN], rfl⟩
  | cons q R =>
    by_cases h : q.2 ≤ at_
    · refine .inr (.inl ⟨?_, rfl, h⟩)
      simp only [outN, List.takeWhile_cons, h, decide_true, if_true, List.length_cons]
      omega
    · refine .inr (.inr ⟨?_, rfl, h⟩)
      simp [outN, h]
theorem ids_append (A B : List (Int × Int)) : ids (A ++ B) = ids A ++ ids B := List.map_append
theorem wrap_100 (x : Int) : ∃ k : Nat, k < 100 ∧ (IntKind.u64.wrap x).tmod 100 = (k : Int) := by
  refine ⟨((IntKind.u64.wrap x).tmod 100).toNat, ?_, ?_⟩ <;> rw [IntKind.wrap_u64, Int.tmod_eq_emod_of_nonneg (by omega)] <;> omega
/-- The k-th of what comes is none of those that came ahead, and isn't due any more. -/
theorem once_at {now at_ : Int} {A R : List (Int × Int)} {L0 : List (Int × Int)} (h : Ok now L0) (e : A ++ R = L0) {k : Nat} {z : Int} (hz : (ids (outN at_ R))[k]? = some z) :
    (∀ (j : Nat) (y : Int), (ids A ++ (ids (outN at_ R)).take k)[j]? = some y → y ≠ z) ∧ tOf (restN at_ R) z = none := by
  have hn := h.nd
  rw [← e, ← out_rest at_ R, ids_append, ids_append, ← List.append_assoc] at hn
  have hk := (List.getElem?_eq_some_iff.1 hz).1
  have hsp : ids (outN at_ R) = (ids (outN at_ R)).take k ++ z :: (ids (outN at_ R)).drop (k + 1) := by
    have := List.getElem?_eq_some_iff.1 hz
    obtain ⟨hk, rfl⟩ := this
    rw [List.getElem_cons_drop, List.take_append_drop]
  rw [hsp] at hn
  simp only [List.append_assoc, List.cons_append] at hn
  rw [← List.append_assoc, List.nodup_append] at hn
  obtain ⟨_, h2, h3⟩ := hn
  refine ⟨fun j y hy => ?_, ?_⟩
  · exact h3 y (List.mem_of_getElem? hy) z List.mem_cons_self
  · rw [tOf_none]
    intro hm
    exact (List.nodup_cons.1 h2).1 (List.mem_append_right _ hm)
theorem ids_ok {now : Int} {L : List (Int × Int)} (h : Ok now L) {A R : List (Int × Int)} (e : A ++ R = L) : A.length + R.length ≤ 256 := by
  have := h.ln
  rw [← e, List.length_append] at this
  exact this
theorem rowz_grown {w w' : World} {ao : Option Addr} {l : List Int} {r : Option Nat} (h : RowZ w ao l) (hg : w.grownBy w' r) (hd : ∀ ad, ao = some ad → r ≠ some ad.block) : RowZ w' ao l := fun i s hs => by
  obtain ⟨ad, e, k⟩ := h i s hs
  refine ⟨ad, e, ?_⟩
  have hb : (ad.add i).block = ad.block := by unfold Addr.add; split <;> rfl
  rw [World.cell?_of_block (hg.block (ad.add i).block (World.block_lt_of_cell? w _ k) (fun e2 => hd ad e (by rw [← hb, e2])))]
  exact k
/-- What holds within a look at what came: how many have been looked at, the row of all that have come. -/
def OnI (w0 : World) (B g : Nat) (S : List Nat) (now : Int) (R : List (Int × Int)) (A : List (Int × Int)) (ao : Option Addr) (out : List (Int × Int)) (k : Nat) (v : Value) (wr : World) : Prop :=
  WAt g S now R wr ∧ wr.ownsRow B 3 1 v (A.length + k) (ints (ids A ++ (ids out).take k)) ∧ RowZ wr ao (ids out) ∧ (∀ ad, ao = some ad → v.ownBlock ≠ some ad.block) ∧ B ≤ wr.heap.size ∧ Below w0.heap.size w0 wr
theorem own_len {B n : Nat} {v : Value} {l : List Int} {w : World} (h : w.ownsRow B 3 1 v n (ints l)) (e : l.length = n) : ∃ ao cap, v = .slice ao n cap ∧ RowZ w ao l := by
  subst e
  obtain ⟨ao, cap, h1, h2, _⟩ := own_row h
  exact ⟨ao, cap, h1, h2⟩
theorem on_len {A out : List (Int × Int)} {k : Nat} (h : k ≤ out.length) : (ids A ++ (ids out).take k).length = A.length + k := by
  rw [List.length_append, List.length_take, ids_len, ids_len, Nat.min_eq_left h]
theorem take_next {l : List Int} {k : Nat} {z : Int} (h : l[k]? = some z) : l.take k ++ [z] = l.take (k + 1) := by
  rw [List.take_add_one, h]
  rfl
/-- One more of what came is noted. -/
theorem OnI.step {w0 wt w1 w' : World} {B g : Nat} {S : List Nat} {now : Int} {R A out : List (Int × Int)} {ao : Option Addr} {k : Nat} {v v' : Value} {z : Int} {o : Obj} (h : OnI w0 B g S now R A ao out k v wt) (hS : ∀ k ∈ S, k < B) (hB0 : w0.heap.size ≤ B) (hz : (ids out)[k]? = some z)
    (hw : w1.heap = wt.heap) (e1 : w1.os = wt.os) (e2 : w1.tape = wt.tape) (e3 : w1.output = wt.output) (ho : w'.ownsRow B 3 1 v' (A.length + k + 1) (ints (ids A ++ (ids out).take k) ++ [.int .i64 z])) (hg : (w1.alloc o).grownBy w' v.ownBlock) (hn : v'.ownBlock = v.ownBlock ∨ v'.ownBlock = some (w1.alloc o).heap.size) :
    OnI w0 B g S now R A ao out (k + 1) v' w' := by
  obtain ⟨h1, h2, h3, h4, h5, h6⟩ := h
  have e5 : (w1.alloc o).heap.size = wt.heap.size + 1 := by simp [hw]
  have hba : Below wt.heap.size wt (w1.alloc o) := (Below.refl _ wt).trans ⟨e1, e2, e3, by rw [e5]; omega, fun i hi => (Below.heap_alloc _ _ _ (by rw [hw]; exact hi)).trans (by rw [hw])⟩
  have hs := hg.size
  have kk : ∀ i, i < wt.heap.size → v.ownBlock ≠ some i → w'.heap[i]? = wt.heap[i]? := fun i hi hne => (hg.block i (by rw [e5]; omega) (fun e => hne e.symm)).trans (hba.block i hi)
  have hvb : ∀ i, v.ownBlock = some i → B ≤ i := fun i e => (World.ownsRow.lt h2 i e).1
  refine ⟨h1.keep fun i hi => kk i (Nat.lt_of_lt_of_le (hS i hi) h5) (fun e => by have := hvb i e; have := hS i hi; omega), ?_, rowz_grown (h3.below hba) hg (fun ad e => h4 ad e), fun ad e => ?_, by omega, ?_⟩
  · have e6 : ids A ++ (ids out).take (k + 1) = (ids A ++ (ids out).take k) ++ [z] := by rw [← take_next hz, List.append_assoc]
    have e7 : ints ((ids A ++ (ids out).take k) ++ [z]) = ints (ids A ++ (ids out).take k) ++ ints [z] := List.map_append
    rw [e6, e7]
    exact ho
  · rcases hn with hn | hn
    · rw [hn]; exact h4 ad e
    · rw [hn]
      intro e8
      obtain ⟨ad', e9, hc⟩ := h3 k z hz
      rw [e] at e9
      obtain rfl := Option.some.inj e9
      have hl := World.block_lt_of_cell? wt _ hc
      have hb : (ad.add k).block = ad.block := by unfold Addr.add; split <;> rfl
      rw [hb] at hl
      have := Option.some.inj e8
      omega
  · refine h6.trans ⟨hg.os.trans hba.os, hg.tape.trans hba.tape, hg.output.trans hba.output, by omega, fun i hi => kk i (by omega) (fun e => ?_)⟩
    have := hvb i e
    omega
set_option maxHeartbeats 4000000 in
set_option maxRecDepth 100000 in
theorem once_walk (ao bo : Option Addr) (cap nb capb : Nat) (ts : List Sp) (y : Nat → Int) (w : World) (hA : ArgOps w ao ts) (hcap : ts.length ≤ cap) (hys : RowN w bo nb y) :
    Calls Try.prog 7 #[.slice ao ts.length cap, .slice bo nb capb] w fun e w' => e = .returned (.bool true) ∧ Below w.heap.size w w' := by
  obtain ⟨i0, hi, hz0, hz1, hz2⟩ := info_parts info3
  obtain ⟨NN, hN⟩ : ∃ NN, min ts.length 400 = NN := ⟨_, rfl⟩
  have HE := fun W => early_any ao ts.length cap hcap W
  rw [hN] at HE
  have hN2 : NN ≤ 400 := by omega
  have HNT : Hid (NN ≤ ts.length) := by show NN ≤ ts.length; omega
  have HA : Hid _ := hA
  have HYS : Hid _ := hys
  obtain ⟨T, hT⟩ : ∃ T, ts.length = T := ⟨_, rfl⟩
  rw [hT] at HE HNT ⊢
  have ET : Hid _ := hT
  clear hA hcap hN hT hys
  go_enter Try.func7, Try.ntmps7
  go_wp2_with (first
    | (go_at_call 8; refine (lives_any _).mono ?_; rintro e w1 ⟨rfl, hb1⟩)
    | (go_at_call 9; refine (new_b _ _ hb1.size).mono ?_; rintro e w2 ⟨rfl, hr2, _, hb2'⟩; have hb2 := hb1.trans (hb2'.mono hb1.size))
    | (go_at_call 10; refine (HE _).mono ?_; rintro e w3 ⟨rfl, rfl⟩))
  have HB2 : Hid _ := hb2
  have HR2 : Hid _ := hr2
  obtain ⟨g, hg⟩ : ∃ g, w1.heap.size = g := ⟨_, rfl⟩
  rw [hg] at HR2 ⊢
  clear hb2 hb2' hr2 hb1 hg HE
  go_loopw [6] (fun i wr => ∃ j : Nat, j ≤ NN ∧ i = .int .i64 (j : Int) ∧ (∃ L, WB w.heap.size g 0 L wr) ∧ Below w.heap.size w wr) (fun i _ => NN - (intOf i).toNat)
  case atStart => exact ⟨0, Nat.zero_le _, rfl, ⟨[], HR2.out⟩, HB2.out⟩
  case round =>
    obtain ⟨j, hj, rfl, ⟨L, hw⟩, hb⟩ := hrel
    have HW : Hid _ := hw
    have HB : Hid _ := hb
    have hs := hb.size
    clear hb
    by_cases hlt : j < NN
    · obtain ⟨⟨kk, z, t, on⟩, ht⟩ : ∃ t, ts[j]? = some t := ⟨_, List.getElem?_eq_getElem (by rw [ET.out]; have := HNT.out; omega)⟩
      obtain ⟨b, off, rfl, hg, e0, e1, e2, e3, hz, htt⟩ := HA.out j _ ht
      have HC : Hid (∀ W, Below w.heap.size w W → W.cell? ⟨b, off + j * 4, none⟩ = some (.int .i64 kk) ∧ W.cell? ⟨b, off + j * 4 + 1, none⟩ = some (.int .i64 z) ∧ W.cell? ⟨b, off + j * 4 + 2, none⟩ = some (.int .i64 t) ∧ W.cell? ⟨b, off + j * 4 + 3, none⟩ = some (.bool on)) := fun W hW =>
        ⟨(hW.cell (p := ⟨b, off + j * 4, none⟩) hg).trans e0, (hW.cell (p := ⟨b, off + j * 4 + 1, none⟩) hg).trans e1, (hW.cell (p := ⟨b, off + j * 4 + 2, none⟩) hg).trans e2, (hW.cell (p := ⟨b, off + j * 4 + 3, none⟩) hg).trans e3⟩
      obtain ⟨c0, c1, c2, c3⟩ := HC.out _ HB.out
      have j1 : (j : Int) < (NN : Int) := by omega
      have j0 : (0 : Int) ≤ (j : Int) := by omega
      have HS := fun W (hW : WB w.heap.size g 0 L W) hs => set_b w.heap.size g 0 L z t W hW hs hz htt
      have HD := fun W (hW : WB w.heap.size g 0 L W) hs => drop_b w.heap.size g 0 L z W hW hs hz
      obtain ⟨en, hen⟩ : ∃ en, setE 0 L z t = en := ⟨_, rfl⟩
      simp only [hen] at HS
      obtain ⟨dn, hdn⟩ : ∃ dn, (tOf L z).isSome = dn := ⟨_, rfl⟩
      simp only [hdn] at HD
      have HK := fun W => kind_any kk z t on W
      have hk3 := kd_lt kk
      obtain ⟨K, hK⟩ : ∃ K, kd kk = K := ⟨_, rfl⟩
      simp only [hK] at HK
      rw [hK] at hk3
      clear e0 e1 e2 e3 ht hK hen hdn hw hz htt
      have hcase : K = 0 ∨ K = 1 ∨ K = 2 := by omega
      clear hk3
      rcases hcase with rfl | rfl | rfl
      · have HK0 : ∀ W, Calls Try.prog 12 #[.agg #[.int .i64 kk, .int .i64 z, .int .i64 t, .bool on]] W fun e w' => e = .returned (.int .i64 0) ∧ Below W.heap.size W w' := HK
        clear HK HD
        go_wp2_with (go_at_call 12; refine (HK0 _).mono ?_; rintro e w3 ⟨rfl, hb3⟩; have HX3 : Hid (Below w.heap.size w w3) := HB.out.trans (hb3.mono hs); have HW3 : Hid _ := HW.out.below hb3; have hs3 := HX3.out.size; obtain ⟨d0, d1, d2, d3⟩ := HC.out _ HX3.out; clear hb3)
        go_region_with (go_at_call 13; refine (HS _ ?_ ?_).mono ?_; exact WB.alike HW3.out rfl; exact hs3; rintro e w4 ⟨rfl, hw4, hb4⟩; have HW4 : Hid _ := hw4; have HX4 : Hid (Below w.heap.size w w4) := HX3.out.trans (below_drewN (k := 0) (Below.refl _ _) |>.trans ⟨hb4.os, hb4.tape, hb4.output, hb4.size, hb4.block⟩); obtain ⟨f0, f1, f2, f3⟩ := HC.out _ HX4.out; have hs4 := HX4.out.size; clear hw4 hb4)
        all_goals (
          go_wp2_with (go_at_call 12; refine (HK0 _).mono ?_; rintro e w5 ⟨rfl, hb5⟩; have HX5 : Hid (Below w.heap.size w w5) := HX4.out.trans (hb5.mono hs4); have HW5 : Hid _ := HW4.out.below hb5; clear hb5)
          go_roundw
          case rel => exact ⟨j + 1, by omega, by go_num, ⟨_, HW5.out⟩, HX5.out⟩
          case measure => simp [intOf]; omega)
      · have HK0 : ∀ W, Calls Try.prog 12 #[.agg #[.int .i64 kk, .int .i64 z, .int .i64 t, .bool on]] W fun e w' => e = .returned (.int .i64 1) ∧ Below W.heap.size W w' := HK
        clear HK HS
        go_wp2_with (first
          | (go_at_call 12; refine (HK0 _).mono ?_; rintro e w5 ⟨rfl, hb5⟩; have HX5 : Hid (Below w.heap.size w w5) := HX3.out.trans (hb5.mono hs3); have HW5 : Hid _ := HW3.out.below hb5; have hs5 := HX5.out.size; obtain ⟨f0, f1, f2, f3⟩ := HC.out _ HX5.out; clear hb5)
          | (go_at_call 12; refine (HK0 _).mono ?_; rintro e w3 ⟨rfl, hb3⟩; have HX3 : Hid (Below w.heap.size w w3) := HB.out.trans (hb3.mono hs); have HW3 : Hid _ := HW.out.below hb3; have hs3 := HX3.out.size; obtain ⟨d0, d1, d2, d3⟩ := HC.out _ HX3.out; clear hb3)
          | (go_at_call 15; refine (HD _ HW5.out hs5).mono ?_; rintro e w6 ⟨rfl, hw6, hb6⟩; have HW6 : Hid _ := hw6; have HX6 : Hid (Below w.heap.size w w6) := HX5.out.trans hb6; clear hw6 hb6))
        go_roundw
        case rel => exact ⟨j + 1, by omega, by go_num, ⟨_, HW6.out⟩, HX6.out⟩
        case measure => simp [intOf]; omega
      · have HK0 : ∀ W, Calls Try.prog 12 #[.agg #[.int .i64 kk, .int .i64 z, .int .i64 t, .bool on]] W fun e w' => e = .returned (.int .i64 2) ∧ Below W.heap.size W w' := HK
        clear HK HS HD
        go_wp2_with (first
          | (go_at_call 12; refine (HK0 _).mono ?_; rintro e w5 ⟨rfl, hb5⟩; have HX5 : Hid (Below w.heap.size w w5) := HX3.out.trans (hb5.mono hs3); have HW5 : Hid _ := HW3.out.below hb5; have hs5 := HX5.out.size; obtain ⟨f0, f1, f2, f3⟩ := HC.out _ HX5.out; clear hb5)
          | (go_at_call 12; refine (HK0 _).mono ?_; rintro e w3 ⟨rfl, hb3⟩; have HX3 : Hid (Below w.heap.size w w3) := HB.out.trans (hb3.mono hs); have HW3 : Hid _ := HW.out.below hb3; have hs3 := HX3.out.size; obtain ⟨d0, d1, d2, d3⟩ := HC.out _ HX3.out; clear hb3))
        go_roundw
        case rel => exact ⟨j + 1, by omega, by go_num, ⟨_, HW5.out⟩, HX5.out⟩
        case measure => simp [intOf]; omega
    · have hnl : ¬ (j : Int) < (NN : Int) := by omega
      obtain ⟨S, hWS, hSB⟩ := hw.ex
      have HL := wlen_any g S 0 0 L wr hWS
      have HOK : Hid (Ok 0 L) := hWS.ok
      have HWS : Hid (WAt g S 0 L wr) := hWS
      obtain ⟨n, hn⟩ : ∃ n, L.length = n := ⟨_, rfl⟩
      rw [hn] at HL
      have EN : Hid _ := hn
      have hn256 : n ≤ 256 := by rw [← hn]; exact hWS.ok.ln
      obtain ⟨B2, hB2⟩ : ∃ B2, wr.heap.size = B2 := ⟨_, rfl⟩
      have HSL : Hid (∀ k ∈ S, k < B2) := by rw [← hB2]; exact hWS.lt
      have HSB : Hid (∀ k ∈ S, w.heap.size ≤ k) := hSB
      have EB2 : Hid _ := hB2
      have hB3 : w.heap.size ≤ B2 := by rw [← hB2]; exact hs
      clear hw hWS hSB hn hB2 HW
      go_wp2_with (go_at_call 21; refine HL.mono ?_; rintro e w3 ⟨rfl, rfl⟩)
      go_loopw [8, 9, 10, 11, 12, 13, 14, 15, 16, 17, 18, 19] (fun c nw v ii _ _ _ _ _ _ _ _ ws => ∃ (i : Nat) (now : Int) (A R : List (Int × Int)) (vs : Value), vs = v ∧ i ≤ 50 ∧ ii = .int .i64 (i : Int) ∧ nw = .int .i64 now ∧ c = .int .i64 (A.length : Int) ∧ A ++ R = L ∧ WAt g S now R ws ∧ (0 ≤ now ∧ now ≤ i * 99) ∧ ws.ownsRow B2 3 1 vs A.length (ints (ids A)) ∧ B2 ≤ ws.heap.size ∧ Below w.heap.size w ws) (fun _ _ _ ii _ _ _ _ _ _ _ _ _ => 50 - (intOf ii).toNat)
      case atStart => exact ⟨0, 0, [], L, _, rfl, Nat.zero_le _, rfl, rfl, rfl, rfl, HWS.out, ⟨Int.le_refl _, by decide⟩, World.ownsRow_nil _ _ _ _, Nat.le_of_eq EB2.out.symm, HB.out⟩
      case round =>
        obtain ⟨i, now, A, R, vs, rfl, hi50, rfl, rfl, rfl, hAR, hws, hnow, hown, hBs, hbs⟩ := hrel
        have HAR : Hid _ := hAR
        have HWS2 : Hid (WAt g S now R wr) := hws
        have HOW : Hid _ := hown
        have HBS : Hid _ := hbs
        have hss := hbs.size
        have hAL : A.length + R.length = n := by rw [← EN.out, ← hAR, List.length_append]
        clear hAR hws hown hbs HL HWS
        by_cases h1 : i < nb
        · have h1' : (i : Int) < (nb : Int) := by omega
          by_cases h2 : i < 50
          · have h2' : (i : Int) < 50 := by omega
            have i0' : (0 : Int) ≤ (i : Int) := by omega
            obtain ⟨ad2, rfl, d0⟩ := HYS.out i h1
            have k0 : wr.cell? (ad2.add i) = some (.int .i64 (y i)) := (HBS.out.cell (World.block_lt_of_cell? w _ d0)).trans d0
            obtain ⟨m, hm, em⟩ := wrap_100 (y i)
            have wm : IntKind.i64.wrap (m : Int) = (m : Int) := by simp only [IntKind.wrap_i64]; omega
            obtain ⟨nw, hnw⟩ : ∃ nw, now + (m : Int) = nw := ⟨_, rfl⟩
            have wn : IntKind.i64.wrap (now + (m : Int)) = nw := by simp only [IntKind.wrap_i64]; omega
            have hnw2 : 0 ≤ nw ∧ nw ≤ (i : Int) * 99 + 99 ∧ now ≤ nw ∧ nw ≤ 1099511627776 := by omega
            have HNX := wnext_any g S now now R wr HWS2.out
            have HGO := wgo_ok g S now R nw wr HWS2.out ⟨hnw2.2.2.1, hnw2.2.2.2⟩
            have h3w := out_three nw R
            obtain ⟨nx, hnx⟩ : ∃ nx, nxT R = nx := ⟨_, rfl⟩
            rw [hnx] at HNX h3w
            obtain ⟨ie, hie⟩ : ∃ ie, (!R.isEmpty) = ie := ⟨_, rfl⟩
            rw [hie] at HNX h3w
            obtain ⟨n3, hn3⟩ : ∃ n3, (outN nw R).length = n3 := ⟨_, rfl⟩
            rw [hn3] at h3w
            have E3 : Hid _ := hn3
            have HON := fun (k : Nat) (z : Int) (hz : (ids (outN nw R))[k]? = some z) => once_at HOK.out HAR.out hz
            have HONH : Hid _ := HON
            have hn3b : n3 ≤ R.length := by rw [← hn3]; have := congrArg List.length (out_rest nw R); rw [List.length_append] at this; omega
            have hHZ : Hid (∀ (k : Nat) (z : Int), (ids (outN nw R))[k]? = some z → N z) := fun k z hz => by
              obtain ⟨q, hq, e⟩ := List.mem_map.1 (List.mem_of_getElem? hz)
              rw [← e]
              refine HOK.out.nn q ?_
              rw [← HAR.out]
              exact List.mem_append_right _ (List.takeWhile_subset _ hq)
            have HFIN : Hid (∀ vv (wt : World), OnI w B2 g S nw (restN nw R) A ao (outN nw R) n3 vv wt → True) := fun _ _ _ => trivial
            clear d0 hnx hie hn3 hnw HON HFIN
            rcases h3w with ⟨q1, rfl⟩ | ⟨q1, rfl, q3⟩ | ⟨q1, rfl, q3⟩
            all_goals (
              have qn0 : decide (0 < n3) = true ∨ decide (0 < n3) = false := by cases decide (0 < n3) <;> simp
              rcases qn0 with qn | qn
              all_goals (first | (exfalso; have := of_decide_eq_true qn; omega) | (exfalso; have := of_decide_eq_false qn; omega) | skip)
              have qm : Hid (decide (0 < n3) = decide (0 < n3)) := rfl
              go_wp2_with (first
                | (go_at_call 20; refine HNX.mono ?_; rintro e wr ⟨rfl, rfl⟩)
                | (go_at_call 17; refine HGO.mono ?_; rintro e w4 ⟨v4, rfl, hw4, ho4, hf4⟩; obtain ⟨ao4, cap4, rfl, hz4, hb4⟩ := own_row ho4; rw [ids_len, E3.out]; have HW4 : Hid _ := hw4; have HF4 : Hid (Fr S wr w4) := hf4; have HZ4 : Hid _ := hz4; have HB4 : Hid _ := hb4; clear hw4 ho4 hf4 hz4 hb4))
              have HI0 : Hid (OnI w B2 g S nw (restN nw R) A ao4 (outN nw R) 0 vs w4) := by
                refine ⟨HW4.out, ?_, HZ4.out, fun ad e e2 => ?_, ?_, ?_⟩
                · rw [List.take_zero, List.append_nil]
                  exact own_fr HOW.out HF4.out HSL.out
                · have k1 := HB4.out ad e
                  have k2 := (World.ownsRow.lt HOW.out _ e2).2
                  omega
                · have := HF4.out.1.size
                  omega
                · exact HBS.out.trans (Fr.below HF4.out hss HSB.out)
              clear HGO HNX HW4 HF4 HZ4 HB4
              go_loopw [8, 10, 16, 17, 18, 19] (fun c v kk _ _ _ wt => ∃ (k : Nat) (vv : Value), vv = v ∧ k ≤ n3 ∧ kk = .int .i64 (k : Int) ∧ c = .int .i64 ((A.length + k : Nat) : Int) ∧ OnI w B2 g S nw (restN nw R) A ao4 (outN nw R) k vv wt) (fun _ _ kk _ _ _ _ => n3 - (intOf kk).toNat)
              case atStart => exact ⟨0, _, rfl, Nat.zero_le _, rfl, rfl, HI0.out⟩
              case round =>
                obtain ⟨k, vv, rfl, hk, rfl, rfl, hI⟩ := hrel
                obtain ⟨wt, rfl⟩ : ∃ wt, wt = wr := ⟨_, rfl⟩
                have HI : Hid _ := hI
                by_cases hkl : k < n3
                · (first | (exfalso; omega) | skip)
                  all_goals (
                    obtain ⟨z, hz⟩ : ∃ z, (ids (outN nw R))[k]? = some z := ⟨_, List.getElem?_eq_getElem (by rw [ids_len, E3.out]; exact hkl)⟩
                    obtain ⟨hIw, hIo, hIz, hIn, hIb, hIB⟩ := hI
                    obtain ⟨ad4, rfl, k4⟩ := hIz k z hz
                    obtain ⟨aos, caps, rfl, hsz⟩ := own_len hIo (on_len (by rw [E3.out]; exact hk))
                    have HSZ : Hid _ := hsz
                    have HIW : Hid _ := hIw
                    have HIO : Hid _ := hIo
                    have HZZ : Hid _ := hz
                    have HNE : Hid _ := (HONH.out k z hz).1
                    have HAT := fun W (hW : WAt g S nw (restN nw R) W) => wat_any g S nw nw (restN nw R) z W hW (hHZ.out k z hz)
                    rw [(HONH.out k z hz).2] at HAT
                    simp only [Option.getD_none, Option.isSome_none] at HAT
                    have hC256 : A.length + k < 256 := by omega
                    obtain ⟨C, hC⟩ : ∃ C, A.length + k = C := ⟨_, rfl⟩
                    have EC : Hid _ := hC
                    have HLC : Hid ((ids A ++ (ids (outN nw R)).take k).length = C) := by rw [← hC]; exact on_len (by rw [E3.out]; exact hk)
                    have HI9 : Hid (OnI w B2 g S nw (restN nw R) A (some ad4) (outN nw R) k (.slice aos C caps) wt) := by rw [← EC.out]; exact HI.out
                    rw [hC] at HIO hC256 ⊢
                    have wC : IntKind.i64.wrap ((C : Int) + 1) = ((C + 1 : Nat) : Int) := by simp only [IntKind.wrap_i64]; omega
                    have kl' : (k : Int) < (n3 : Int) := by omega
                    have k0' : (0 : Int) ≤ (k : Int) := by omega
                    clear hz hIw hIo hIz hIn hIB hsz hC
                    go_wp2_with fail
                    go_loopw [17] (fun jv wu => ∃ j : Nat, j ≤ C ∧ jv = .int .i64 (j : Int) ∧ ∃ d, wu = wt.drewN d) (fun jv _ => C - (intOf jv).toNat)
                    case atStart => exact ⟨0, Nat.zero_le _, rfl, 0, rfl⟩
                    case round =>
                      obtain ⟨j, hj, rfl, d, rfl⟩ := hrel
                      by_cases hjc : j < C
                      · obtain ⟨yj, hyj⟩ : ∃ yj, (ids A ++ (ids (outN nw R)).take k)[j]? = some yj := ⟨_, List.getElem?_eq_getElem (by rw [HLC.out]; exact hjc)⟩
                        obtain ⟨a5, rfl, k5⟩ := HSZ.out j yj hyj
                        have hne := HNE.out j yj hyj
                        have hne2 : (yj == z) = false := by simp [hne]
                        have jc' : (j : Int) < (C : Int) := by omega
                        have jc0 : (0 : Int) ≤ (j : Int) := by omega
                        clear hyj HAT
                        go_wp2_with fail
                        go_quiet (fail)
                        go_wp2_with fail
                        go_roundw
                        case rel => exact ⟨j + 1, by omega, by go_num, _, rfl⟩
                        case measure => simp [intOf]; omega
                      · have hjn : ¬ (j : Int) < (C : Int) := by omega
                        go_wp2_with (first
                          | (go_at_call 23; refine (HAT _ ?_).mono ?_; exact WBt.alike HIW.out rfl; rintro e w7 ⟨rfl, rfl⟩)
                          | (at_builtin; refine wpList_append_own_at _ rfl _ _ 38 rfl B2 3 i0 (.int .i64 0) 1 8 Try.underlying38 hi hz0 hz1 hz2 rfl (by decide) (.slice aos C caps) C (ints (ids A ++ (ids (outN nw R)).take k)) rfl (World.ownsRow.alloc (w := wt.drewN d) HIO.out _) ⟨wt.heap.size, 0, none⟩ 1 1 [.int .i64 z] rfl rfl (cell_one_new _ _ _) (ints_one [z]) (by unfold maxLen; omega) (by omega) (by simp; omega) ?_; intro v2 w2 ho2 hg2 _ hn2; have HI2 : Hid _ := OnI.step HI9.out HSL.out hB3 HZZ.out (w1 := wt.drewN d) rfl rfl rfl rfl (by rw [EC.out]; exact ho2) hg2 hn2; clear ho2 hg2 hn2))
                        go_roundw
                        case rel => exact ⟨k + 1, _, rfl, by omega, by go_num, by rw [← EC.out]; rfl, HI2.out⟩
                        case measure => simp [intOf]; omega)
                · have ek : k = n3 := by omega
                  subst ek
                  obtain ⟨hIw, hIo, hIz, hIn, hIb, hIB⟩ := hI
                  have hkn : ¬ (k : Int) < (k : Int) := by omega
                  go_wp2_with fail
                  go_roundw
                  case rel =>
                    refine ⟨i + 1, nw, A ++ outN nw R, restN nw R, vv, rfl, by omega, by go_num, rfl, by rw [List.length_append, E3.out], by rw [List.append_assoc, out_rest]; exact HAR.out, hIw, ⟨hnw2.1, by omega⟩, ?_, hIb, hIB⟩
                    rw [List.length_append, E3.out, ids_append]
                    rw [List.take_of_length_le (by rw [ids_len, E3.out]; exact Nat.le_refl _)] at hIo
                    exact hIo
                  case measure => simp [intOf]; omega)
          · have h2' : ¬ (i : Int) < 50 := by omega
            have HLN := wlen_any g S now now R wr HWS2.out
            obtain ⟨r, hr⟩ : ∃ r, R.length = r := ⟨_, rfl⟩
            rw [hr] at HLN hAL
            have wr' : IntKind.i64.wrap ((n : Int) - (A.length : Int)) = (r : Int) := by simp only [IntKind.wrap_i64]; omega
            clear hr
            go_wp2_with (go_at_call 21; refine HLN.mono ?_; rintro e w3 ⟨rfl, rfl⟩)
            go_ret
            exact ⟨rfl, HBS.out⟩
        · have h1' : ¬ (i : Int) < (nb : Int) := by omega
          have HLN := wlen_any g S now now R wr HWS2.out
          obtain ⟨r, hr⟩ : ∃ r, R.length = r := ⟨_, rfl⟩
          rw [hr] at HLN hAL
          have wr' : IntKind.i64.wrap ((n : Int) - (A.length : Int)) = (r : Int) := by simp only [IntKind.wrap_i64]; omega
          clear hr
          go_wp2_with (go_at_call 21; refine HLN.mono ?_; rintro e w3 ⟨rfl, rfl⟩)
          go_ret
          exact ⟨rfl, HBS.out⟩
end Go.Proofs.Ytkgnaaocgejeiaa
