/-
  The walk of the statement WheelPlays over this program.
-/
import Derived.Test.YtkgnaaocgejeiaaYi
import Derived.Test.YtkgnaaocgejeiaaYk
namespace Go.Proofs.Ytkgnaaocgejeiaa
open Go Go.RowKit Go.Maps
theorem bnext (B g q : Nat) (now : Int) (L : List (Int × Int)) (w : World) (h : Bo B g q now L w) : Calls Try.prog 20 #[.pointer (some ⟨g, 0, none⟩)] w fun e w' => e = .returned (.tuple #[.int .i64 (nxT L), .bool (!L.isEmpty)]) ∧ w' = w := by
  obtain ⟨S, D, h1, _⟩ := h.ex
  exact wnext_any g S now now L w h1
theorem blen (B g q : Nat) (now : Int) (L : List (Int × Int)) (w : World) (h : Bo B g q now L w) : Calls Try.prog 21 #[.pointer (some ⟨g, 0, none⟩)] w fun e w' => e = .returned (.int .i64 (L.length : Int)) ∧ w' = w := by
  obtain ⟨S, D, h1, _⟩ := h.ex
  exact wlen_any g S now now L w h1
theorem bnow (B g q : Nat) (now : Int) (L : List (Int × Int)) (w : World) (h : Bo B g q now L w) : Calls Try.prog 22 #[.pointer (some ⟨g, 0, none⟩)] w fun e w' => e = .returned (.int .i64 now) ∧ w' = w := by
  obtain ⟨S, D, h1, _⟩ := h.ex
  exact wnow_any g S now now L w h1
theorem bat (B g q : Nat) (now : Int) (L : List (Int × Int)) (p : Int × Int) (w : World) (h : Bo B g q now L w) (hp : p ∈ L) : Calls Try.prog 23 #[.pointer (some ⟨g, 0, none⟩), .int .i64 p.1] w fun e w' => e = .returned (.tuple #[.int .i64 p.2, .bool true]) ∧ w' = w := by
  obtain ⟨S, D, h1, _⟩ := h.ex
  have := wat_any g S now now L p.1 w h1 (h1.ok.nn p hp)
  rw [tOf_mem h1.ok.nd hp] at this
  exact this
theorem Bo.rows {B g q : Nat} {now : Int} {L : List (Int × Int)} {w : World} (h : Bo B g q now L w) : ∃ ao cap, w.cell? ⟨q, 0, none⟩ = some (.slice ao L.length cap) ∧ w.cell? ⟨q, 1, none⟩ = some (.int .i64 now) ∧ RowD w ao L := by
  obtain ⟨S, D, _, h2, _⟩ := h.ex
  obtain ⟨ao, cap, k1, k2, _⟩ := h2.ex
  exact ⟨ao, cap, rq_c0 k1, rq_c1 k1, k2⟩
theorem rowz_hi {q : Nat} {w w' : World} {ao : Option Addr} {l : List Int} (h : RowZ w ao l) (hB : ∀ ad, ao = some ad → q < ad.block) (hk : ∀ k, q < k → k < w.heap.size → w'.heap[k]? = w.heap[k]?) : RowZ w' ao l := fun i s hs => by
  obtain ⟨ad, e, k⟩ := h i s hs
  refine ⟨ad, e, ?_⟩
  have hb : (ad.add i).block = ad.block := by unfold Addr.add; split <;> rfl
  rw [World.cell?_of_block (hk (ad.add i).block (by rw [hb]; exact hB ad e) (World.block_lt_of_cell? w _ k))]
  exact k
theorem obx {x : Nat} {kk z t : Int} {on : Bool} {w : World} (h : w.heap[x]? = some (.cells #[.int .i64 kk, .int .i64 z, .int .i64 t, .bool on] 32 (0, 0))) : w.cell? ⟨x, 0, none⟩ = some (.int .i64 kk) ∧ w.cell? ⟨x, 1, none⟩ = some (.int .i64 z) ∧ w.cell? ⟨x, 2, none⟩ = some (.int .i64 t) ∧ w.cell? ⟨x, 3, none⟩ = some (.bool on) := by
  refine ⟨?_, ?_, ?_, ?_⟩ <;> simp [World.cell?, h]
set_option maxHeartbeats 8000000 in
set_option maxRecDepth 100000 in
theorem plays_walk (ao : Option Addr) (cap : Nat) (ts : List Sp) (w : World) (hA : ArgOps w ao ts) (hcap : ts.length ≤ cap) :
    Calls Try.prog 3 #[.slice ao ts.length cap] w fun e w' => e = .returned (.bool true) ∧ Below w.heap.size w w' := by
  obtain ⟨NN, hN⟩ : ∃ NN, min ts.length 400 = NN := ⟨_, rfl⟩
  have HE := fun W => early_any ao ts.length cap hcap W
  rw [hN] at HE
  have hN2 : NN ≤ 400 := by omega
  have HNT : Hid (NN ≤ ts.length) := by show NN ≤ ts.length; omega
  have HA : Hid _ := hA
  obtain ⟨T, hT⟩ : ∃ T, ts.length = T := ⟨_, rfl⟩
  rw [hT] at HE HNT ⊢
  have ET : Hid _ := hT
  clear hA hcap hN hT
  go_enter Try.func3, Try.ntmps3
  go_wp2_with (first
    | (go_at_call 8; refine (lives_any _).mono ?_; rintro e w1 ⟨rfl, hb1⟩)
    | (go_at_call 9; refine (wnew_any _).mono ?_; rintro e w2 ⟨rfl, hr2, hs2', hb2⟩; have hs2 : Hid _ := hs2'; clear hs2')
    | (go_at_call 10; refine (HE _).mono ?_; rintro e w3 ⟨rfl, rfl⟩))
  have s1 := hb1.size
  have e2 := hs2.out
  have hb3 : Below w2.heap.size w2 (w2.alloc (.cells #[.slice none 0 0, .int .i64 0] 29)) := (Below.refl _ w2).alloc (Nat.le_refl _) _
  have HB3 : Hid (Below w.heap.size w (w2.alloc (.cells #[.slice none 0 0, .int .i64 0] 29))) := (hb1.trans (hb2.mono s1)).trans (hb3.mono (by omega))
  have HQ3 : Hid (Bo w.heap.size w1.heap.size w2.heap.size 0 [] (w2.alloc (.cells #[.slice none 0 0, .int .i64 0] 29))) := by
    refine ⟨[w1.heap.size], [w2.heap.size], hr2.below hb3, ⟨⟨none, 0, heap_alloc_new w2 _, (fun i p hp => by simp at hp), Nat.le_refl _, fun _ => ⟨rfl, rfl⟩, fun ad e => by cases e⟩, List.mem_singleton.2 rfl⟩, fun k hk hk' => ?_, fun k hk => ?_, fun k hk => ?_⟩
    · have h1 := List.mem_singleton.1 hk
      have h2 := List.mem_singleton.1 hk'
      omega
    · rw [List.mem_singleton.1 hk]; exact s1
    · rw [List.mem_singleton.1 hk]; omega
  obtain ⟨w3, hw3⟩ : ∃ w3, w2.alloc (.cells #[.slice none 0 0, .int .i64 0] 29) = w3 := ⟨_, rfl⟩
  rw [hw3] at HB3 HQ3 ⊢
  have hgq : w1.heap.size < w2.heap.size := by omega
  obtain ⟨g, hg⟩ : ∃ g, w1.heap.size = g := ⟨_, rfl⟩
  obtain ⟨q, hq⟩ : ∃ q, w2.heap.size = q := ⟨_, rfl⟩
  rw [hg, hq] at HQ3 hgq
  rw [hg, hq]
  clear hb1 hb2 hb3 hr2 hs2 s1 e2 hg hq hw3 HE
  go_loopw [5, 6, 7, 8, 9, 10, 11, 12, 13, 14, 15, 16, 17] (fun ii _ _ _ _ _ _ _ _ _ _ _ _ wr => ∃ j : Nat, j ≤ NN ∧ ii = .int .i64 (j : Int) ∧ (∃ now L, Bo w.heap.size g q now L wr) ∧ Below w.heap.size w wr) (fun ii _ _ _ _ _ _ _ _ _ _ _ _ _ => NN - (intOf ii).toNat)
  case atStart => exact ⟨0, Nat.zero_le _, rfl, ⟨0, [], HQ3.out⟩, HB3.out⟩
  case round =>
    obtain ⟨j, hj, rfl, ⟨now, L, hw⟩, hb⟩ := hrel
    have HW : Hid (Bo w.heap.size g q now L wr) := hw
    have HB : Hid (Below w.heap.size w wr) := hb
    have hs := hb.size
    clear hb
    by_cases hlt : j < NN
    · obtain ⟨⟨kk, z, t, on⟩, ht⟩ : ∃ t, ts[j]? = some t := ⟨_, List.getElem?_eq_getElem (by rw [ET.out]; have := HNT.out; omega)⟩
      obtain ⟨b, off, rfl, hg, e0, e1, e2, e3, hz, htt⟩ := HA.out j _ ht
      have c0 : wr.cell? ⟨b, off + j * 4, none⟩ = some (.int .i64 kk) := (HB.out.cell (p := ⟨b, off + j * 4, none⟩) hg).trans e0
      have c1 : wr.cell? ⟨b, off + j * 4 + 1, none⟩ = some (.int .i64 z) := (HB.out.cell (p := ⟨b, off + j * 4 + 1, none⟩) hg).trans e1
      have c2 : wr.cell? ⟨b, off + j * 4 + 2, none⟩ = some (.int .i64 t) := (HB.out.cell (p := ⟨b, off + j * 4 + 2, none⟩) hg).trans e2
      have c3 : wr.cell? ⟨b, off + j * 4 + 3, none⟩ = some (.bool on) := (HB.out.cell (p := ⟨b, off + j * 4 + 3, none⟩) hg).trans e3
      have j1 : (j : Int) < (NN : Int) := by omega
      have j0 : (0 : Int) ≤ (j : Int) := by omega
      have HOK : Hid (Ok now L) := hw.ok
      have hn0 := hw.ok.n0
      have HZ : Hid (N z) := hz
      have HTM := fun W => time_any kk z t on now hn0 W
      have hta : N (tmI on t now) := tm_n htt hn0
      have HTA : Hid (N (tmI on t now)) := hta
      obtain ⟨a, ha⟩ : ∃ a, tmI on t now = a := ⟨_, rfl⟩
      simp only [ha] at HTM
      rw [ha] at HTA
      have HK := fun W => kind_any kk z t on W
      have hk3 := kd_lt kk
      obtain ⟨K, hK⟩ : ∃ K, kd kk = K := ⟨_, rfl⟩
      simp only [hK] at HK
      rw [hK] at hk3
      clear e0 e1 e2 e3 ht hK hw hz htt ha hta hg
      go_wp2_with fail
      have HBL : Hid (Below wr.heap.size wr (wr.alloc (.cells #[.int .i64 kk, .int .i64 z, .int .i64 t, .bool on] 32))) := (Below.refl _ wr).alloc (Nat.le_refl _) _
      obtain ⟨W1, hW1⟩ : ∃ W1, wr.alloc (.cells #[.int .i64 kk, .int .i64 z, .int .i64 t, .bool on] 32) = W1 := ⟨_, rfl⟩
      have HX0 : Hid (BoX w.heap.size g q wr.heap.size (.cells #[.int .i64 kk, .int .i64 z, .int .i64 t, .bool on] 32 (0, 0)) now L now L W1) := by rw [← hW1]; exact HW.out.lay HBL.out (heap_alloc_new wr _)
      have HBW1 : Hid (Below w.heap.size w W1) := by rw [← hW1]; exact HB.out.trans (HBL.out.mono hs)
      rw [hW1]
      obtain ⟨x, hx⟩ : ∃ x, wr.heap.size = x := ⟨_, rfl⟩
      rw [hx] at HX0 ⊢
      have HX1 : Hid (BoX w.heap.size g q x (.cells #[.int .i64 kk, .int .i64 z, .int .i64 t, .bool on] 32 (0, 0)) (now) (L) (now) (L) W1) := HX0.out
      obtain ⟨x0, x1, x2, x3⟩ := obx HX1.out.ob
      obtain ⟨aoq, capq, _, y1, _⟩ := HX1.out.toBo.rows
      have hs1 := HBW1.out.size
      have HQL : Hid (q < W1.heap.size) := by obtain ⟨S, D, _, h2, _⟩ := HX1.out.ex; exact h2.lt
      clear c0 c1 c2 c3 hx hW1 HBL HX0
      go_region_held3 (fun W => W.cell? ⟨x, 0, none⟩ = some (.int .i64 kk) ∧ W.cell? ⟨x, 1, none⟩ = some (.int .i64 z) ∧ W.cell? ⟨x, 2, none⟩ = some (.int .i64 t) ∧ W.cell? ⟨x, 3, none⟩ = some (.bool on) ∧ W.cell? ⟨q, 1, none⟩ = some (.int .i64 now))
        (first
          | go_keep
          | (refine ⟨?_, ?_, ?_, ?_, ?_⟩ <;> assumption))
        (first | (go_at_call 11; refine (HTM _).mono ?_; rintro e W2 ⟨rfl, hb2⟩; have hb2' : Below W1.heap.size W1 W2 := ⟨hb2.os, hb2.tape, hb2.output, hb2.size, hb2.block⟩; have HX2 : Hid (BoX w.heap.size g q x (.cells #[.int .i64 kk, .int .i64 z, .int .i64 t, .bool on] 32 (0, 0)) (now) (L) (now) (L) W2) := HX1.out.below hb2'; have HBW2 : Hid (Below w.heap.size w W2) := HBW1.out.trans (hb2'.mono hs1); have HQ2 : Hid (W1.heap.size ≤ W2.heap.size) := hb2'.size; clear hb2 hb2' x0 x1 x2 x3 y1; obtain ⟨x0, x1, x2, x3⟩ := obx HX2.out.ob; obtain ⟨aoq2, capq2, _, y2, _⟩ := HX2.out.toBo.rows))
      all_goals (
        clear HTM
        have hcase : K = 0 ∨ K = 1 ∨ K = 2 := by omega
        clear hk3
        rcases hcase with rfl | rfl | rfl
        · have HK0 : ∀ W, Calls Try.prog 12 #[.agg #[.int .i64 kk, .int .i64 z, .int .i64 t, .bool on]] W fun e w' => e = .returned (.int .i64 0) ∧ Below W.heap.size W w' := HK
          clear HK
          go_wp2_with (go_at_call 12; refine (HK0 _).mono ?_; rintro e W3 ⟨rfl, hb3⟩; have HX3 : Hid (BoX w.heap.size g q x (.cells #[.int .i64 kk, .int .i64 z, .int .i64 t, .bool on] 32 (0, 0)) (now) (L) (now) (L) W3) := HX2.out.below hb3; have HBW3 : Hid (Below w.heap.size w W3) := HBW2.out.trans (hb3.mono HBW2.out.size); have hs3 := HBW3.out.size; have HBW3X : Hid (W1.heap.size ≤ W3.heap.size) := Nat.le_trans HQ2.out hb3.size; clear hb3)
          refine reg13 w.heap.size g q x kk z t a now on L (setL now L z a) W3 HX3.out hs3 _ (fun W hW hB => bset_a z a W hW hB HZ.out HTA.out) (fun W hW hB => bset_b z a W hW hB HOK.out) _ _ _ (fun u45 u46 u47 u48 u49 u50 u51 u52 u53 u54 u55 W4 hx4 hb4 => ?_)
          have HB4 : Hid (Bo w.heap.size g q now (setL now L z a) W4) := hx4.toBo
          have HBW4 : Hid (Below w.heap.size w W4) := HBW3.out.trans hb4
          clear hx4 hb4 x0 x1 x2 x3
          go_wp2_with (go_at_call 20; refine (bnext w.heap.size g q (now) (setL now L z a) _ ?_).mono ?_; (exact Bo.alike HB4.out rfl); rintro e W4 ⟨rfl, rfl⟩)
          obtain ⟨W8, hW8⟩ : ∃ W8, W8 = W4 := ⟨_, rfl⟩
          have HB8 : Hid (Bo w.heap.size g q now (setL now L z a) W8) := by rw [hW8]; exact HB4.out
          have HBW8 : Hid (Below w.heap.size w W8) := by rw [hW8]; exact HBW4.out
          rw [← hW8]
          clear hW8

          have HLN := fun W hW => blen w.heap.size g q (now) (setL now L z a) W hW
          have HNW := fun W hW => bnow w.heap.size g q (now) (setL now L z a) W hW
          have HAT := fun p W hW hp => bat w.heap.size g q (now) (setL now L z a) p W hW hp
          have HATH : Hid _ := HAT
          obtain ⟨L', hL'⟩ : ∃ L', (setL now L z a) = L' := ⟨_, rfl⟩
          have HB9 : Hid (Bo w.heap.size g q (now) L' W8) := by rw [← hL']; exact HB8.out
          have HATH : Hid (∀ (p : Int × Int) (W : World), Bo w.heap.size g q (now) L' W → p ∈ L' → Calls Try.prog 23 #[.pointer (some ⟨g, 0, none⟩), .int .i64 p.1] W fun e w' => e = .returned (.tuple #[.int .i64 p.2, .bool true]) ∧ w' = W) := by rw [← hL']; exact HAT
          obtain ⟨aoR, capR, y0, y1, hrd⟩ := HB9.out.rows
          have HRD : Hid (RowD W8 aoR L') := hrd
          rw [hL'] at HLN HNW ⊢
          clear HAT HB8 hL'
          obtain ⟨n, hn⟩ : ∃ n, L'.length = n := ⟨_, rfl⟩
          have EN : Hid _ := hn
          have hn256 : n ≤ 256 := by rw [← hn]; exact HB9.out.ok.ln
          rw [hn] at y0
          simp only [hn] at HLN
          have h21 : (n = 0 ∧ nxT L' = 0 ∧ (!L'.isEmpty) = false) ∨ (∃ gR off, aoR = some ⟨gR, off, none⟩ ∧ (0 : Int) < (n : Int) ∧ W8.cell? ⟨gR, off + 1, none⟩ = some (.int .i64 (nxT L')) ∧ (!L'.isEmpty) = true) := by
            cases L' with
            | nil => exact .inl ⟨by rw [← hn]; rfl, rfl, rfl⟩
            | cons p R =>
              obtain ⟨gR, off, e, _, k2⟩ := HRD.out 0 p rfl
              refine .inr ⟨gR, off, e, ?_, by simpa [nxT] using k2, rfl⟩
              rw [← hn, List.length_cons]
              omega
          clear hrd hn
          rcases h21 with ⟨hn0, hx1, hx2⟩ | ⟨gR, off', hao, hn0, hx3, hx2⟩
          · subst hn0
            rw [hx1, hx2]
            clear hx1 hx2
            go_quiet (first
              | (go_at_call 21; refine Calls.quiet_of_same (HLN _ ?_); exact Bo.alike HB9.out rfl)
              | (go_at_call 22; refine Calls.quiet_of_same (HNW _ ?_); exact Bo.alike HB9.out rfl))
            go_wp2_with fail
            go_loopw [15, 16, 17] (fun kv _ _ wz => kv = .int .i64 0 ∧ ∃ d, wz = W8.drewN d) (fun _ _ _ _ => 0)
            case atStart => exact ⟨rfl, _, rfl⟩
            case round =>
              obtain ⟨rfl, d, rfl⟩ := hrel
              go_wp2_with fail
              go_roundw
              case rel => exact ⟨j + 1, by omega, by go_num, ⟨_, L', Bo.alike HB9.out rfl⟩, below_drewN HBW8.out⟩
              case measure => simp [intOf]; omega
          · subst hao
            obtain ⟨nx, hnx⟩ : ∃ nx, nxT L' = nx := ⟨_, rfl⟩
            rw [hnx] at hx3 ⊢
            rw [hx2]
            have hn0' : 0 < n := by omega
            clear hx2 hnx
            refine reg21c g q n gR off' capR (now) nx W8 y0 y1 hn0 hn0' hx3 (fun W hW => HLN W (Bo.alike HB9.out hW)) (fun W hW => HNW W (Bo.alike HB9.out hW)) _ _ (fun u94 u95 u96 u97 u98 u99 u100 u101 u102 u103 u104 u105 u106 u107 u108 u109 u110 u111 u112 u113 u114 u115 u116 u117 u118 u119 u120 u121 u122 u123 u124 u125 u126 u127 u128 u129 u130 u131 u132 u133 u134 u135 u136 u137 u138 u139 u140 u141 u142 u143 u144 u145 d8 => ?_)
            go_wp2_with fail
            clear HLN HNW hx3
            go_loopw [15, 16, 17] (fun kv _ _ wz => ∃ k : Nat, k ≤ n ∧ kv = .int .i64 (k : Int) ∧ ∃ d, wz = W8.drewN d) (fun kv _ _ _ => n - (intOf kv).toNat)
            case atStart => exact ⟨0, Nat.zero_le _, rfl, _, rfl⟩
            case round =>
              obtain ⟨k, hk, rfl, d, rfl⟩ := hrel
              by_cases hkn : k < n
              · obtain ⟨⟨pa, pb⟩, hp⟩ : ∃ p, L'[k]? = some p := ⟨_, List.getElem?_eq_getElem (by rw [EN.out]; exact hkn)⟩
                obtain ⟨gR', off2, e', k1, k2⟩ := HRD.out k _ hp
                cases e'
                have HATP := fun W hW => HATH.out (pa, pb) W hW (List.mem_of_getElem? hp)
                simp only at HATP k1 k2
                have kn' : (k : Int) < (n : Int) := by omega
                have k0' : (0 : Int) ≤ (k : Int) := by omega
                clear hp
                go_wp2_with (go_at_call 23; refine (HATP _ ?_).mono ?_; exact Bo.alike HB9.out rfl; rintro e wz ⟨rfl, rfl⟩)
                go_roundw
                case rel => exact ⟨k + 1, by omega, by go_num, _, rfl⟩
                case measure => simp [intOf]; omega
              · have kn' : ¬ (k : Int) < (n : Int) := by omega
                go_wp2_with fail
                go_roundw
                case rel => exact ⟨j + 1, by omega, by go_num, ⟨_, L', Bo.alike HB9.out rfl⟩, below_drewN HBW8.out⟩
                case measure => simp [intOf]; omega
        · have HK0 : ∀ W, Calls Try.prog 12 #[.agg #[.int .i64 kk, .int .i64 z, .int .i64 t, .bool on]] W fun e w' => e = .returned (.int .i64 1) ∧ Below W.heap.size W w' := HK
          clear HK
          go_wp2_with (go_at_call 12; refine (HK0 _).mono ?_; rintro e W3 ⟨rfl, hb3⟩; have HX3 : Hid (BoX w.heap.size g q x (.cells #[.int .i64 kk, .int .i64 z, .int .i64 t, .bool on] 32 (0, 0)) (now) (L) (now) (L) W3) := HX2.out.below hb3; have HBW3 : Hid (Below w.heap.size w W3) := HBW2.out.trans (hb3.mono HBW2.out.size); have hs3 := HBW3.out.size; have HBW3X : Hid (W1.heap.size ≤ W3.heap.size) := Nat.le_trans HQ2.out hb3.size; clear hb3)
          refine reg15 w.heap.size g q x kk z t now on L (del z L) W3 HX3.out hs3 _ (fun W hW hB => bdrop_a z W hW hB HZ.out) (fun W hW hB => bdrop_b z W hW hB HOK.out) _ _ _ (fun u58 u59 u60 u61 u62 u63 u64 u65 u66 W4 hx4 hb4 => ?_)
          have HB4 : Hid (Bo w.heap.size g q now (del z L) W4) := hx4.toBo
          have HBW4 : Hid (Below w.heap.size w W4) := HBW3.out.trans hb4
          clear hx4 hb4 x0 x1 x2 x3
          go_wp2_with (go_at_call 20; refine (bnext w.heap.size g q (now) (del z L) _ ?_).mono ?_; (exact Bo.alike HB4.out rfl); rintro e W4 ⟨rfl, rfl⟩)
          obtain ⟨W8, hW8⟩ : ∃ W8, W8 = W4 := ⟨_, rfl⟩
          have HB8 : Hid (Bo w.heap.size g q now (del z L) W8) := by rw [hW8]; exact HB4.out
          have HBW8 : Hid (Below w.heap.size w W8) := by rw [hW8]; exact HBW4.out
          rw [← hW8]
          clear hW8

          have HLN := fun W hW => blen w.heap.size g q (now) (del z L) W hW
          have HNW := fun W hW => bnow w.heap.size g q (now) (del z L) W hW
          have HAT := fun p W hW hp => bat w.heap.size g q (now) (del z L) p W hW hp
          have HATH : Hid _ := HAT
          obtain ⟨L', hL'⟩ : ∃ L', (del z L) = L' := ⟨_, rfl⟩
          have HB9 : Hid (Bo w.heap.size g q (now) L' W8) := by rw [← hL']; exact HB8.out
          have HATH : Hid (∀ (p : Int × Int) (W : World), Bo w.heap.size g q (now) L' W → p ∈ L' → Calls Try.prog 23 #[.pointer (some ⟨g, 0, none⟩), .int .i64 p.1] W fun e w' => e = .returned (.tuple #[.int .i64 p.2, .bool true]) ∧ w' = W) := by rw [← hL']; exact HAT
          obtain ⟨aoR, capR, y0, y1, hrd⟩ := HB9.out.rows
          have HRD : Hid (RowD W8 aoR L') := hrd
          rw [hL'] at HLN HNW ⊢
          clear HAT HB8 hL'
          obtain ⟨n, hn⟩ : ∃ n, L'.length = n := ⟨_, rfl⟩
          have EN : Hid _ := hn
          have hn256 : n ≤ 256 := by rw [← hn]; exact HB9.out.ok.ln
          rw [hn] at y0
          simp only [hn] at HLN
          have h21 : (n = 0 ∧ nxT L' = 0 ∧ (!L'.isEmpty) = false) ∨ (∃ gR off, aoR = some ⟨gR, off, none⟩ ∧ (0 : Int) < (n : Int) ∧ W8.cell? ⟨gR, off + 1, none⟩ = some (.int .i64 (nxT L')) ∧ (!L'.isEmpty) = true) := by
            cases L' with
            | nil => exact .inl ⟨by rw [← hn]; rfl, rfl, rfl⟩
            | cons p R =>
              obtain ⟨gR, off, e, _, k2⟩ := HRD.out 0 p rfl
              refine .inr ⟨gR, off, e, ?_, by simpa [nxT] using k2, rfl⟩
              rw [← hn, List.length_cons]
              omega
          clear hrd hn
          rcases h21 with ⟨hn0, hx1, hx2⟩ | ⟨gR, off', hao, hn0, hx3, hx2⟩
          · subst hn0
            rw [hx1, hx2]
            clear hx1 hx2
            go_quiet (first
              | (go_at_call 21; refine Calls.quiet_of_same (HLN _ ?_); exact Bo.alike HB9.out rfl)
              | (go_at_call 22; refine Calls.quiet_of_same (HNW _ ?_); exact Bo.alike HB9.out rfl))
            go_wp2_with fail
            go_loopw [15, 16, 17] (fun kv _ _ wz => kv = .int .i64 0 ∧ ∃ d, wz = W8.drewN d) (fun _ _ _ _ => 0)
            case atStart => exact ⟨rfl, _, rfl⟩
            case round =>
              obtain ⟨rfl, d, rfl⟩ := hrel
              go_wp2_with fail
              go_roundw
              case rel => exact ⟨j + 1, by omega, by go_num, ⟨_, L', Bo.alike HB9.out rfl⟩, below_drewN HBW8.out⟩
              case measure => simp [intOf]; omega
          · subst hao
            obtain ⟨nx, hnx⟩ : ∃ nx, nxT L' = nx := ⟨_, rfl⟩
            rw [hnx] at hx3 ⊢
            rw [hx2]
            have hn0' : 0 < n := by omega
            clear hx2 hnx
            refine reg21c g q n gR off' capR (now) nx W8 y0 y1 hn0 hn0' hx3 (fun W hW => HLN W (Bo.alike HB9.out hW)) (fun W hW => HNW W (Bo.alike HB9.out hW)) _ _ (fun u94 u95 u96 u97 u98 u99 u100 u101 u102 u103 u104 u105 u106 u107 u108 u109 u110 u111 u112 u113 u114 u115 u116 u117 u118 u119 u120 u121 u122 u123 u124 u125 u126 u127 u128 u129 u130 u131 u132 u133 u134 u135 u136 u137 u138 u139 u140 u141 u142 u143 u144 u145 d8 => ?_)
            go_wp2_with fail
            clear HLN HNW hx3
            go_loopw [15, 16, 17] (fun kv _ _ wz => ∃ k : Nat, k ≤ n ∧ kv = .int .i64 (k : Int) ∧ ∃ d, wz = W8.drewN d) (fun kv _ _ _ => n - (intOf kv).toNat)
            case atStart => exact ⟨0, Nat.zero_le _, rfl, _, rfl⟩
            case round =>
              obtain ⟨k, hk, rfl, d, rfl⟩ := hrel
              by_cases hkn : k < n
              · obtain ⟨⟨pa, pb⟩, hp⟩ : ∃ p, L'[k]? = some p := ⟨_, List.getElem?_eq_getElem (by rw [EN.out]; exact hkn)⟩
                obtain ⟨gR', off2, e', k1, k2⟩ := HRD.out k _ hp
                cases e'
                have HATP := fun W hW => HATH.out (pa, pb) W hW (List.mem_of_getElem? hp)
                simp only at HATP k1 k2
                have kn' : (k : Int) < (n : Int) := by omega
                have k0' : (0 : Int) ≤ (k : Int) := by omega
                clear hp
                go_wp2_with (go_at_call 23; refine (HATP _ ?_).mono ?_; exact Bo.alike HB9.out rfl; rintro e wz ⟨rfl, rfl⟩)
                go_roundw
                case rel => exact ⟨k + 1, by omega, by go_num, _, rfl⟩
                case measure => simp [intOf]; omega
              · have kn' : ¬ (k : Int) < (n : Int) := by omega
                go_wp2_with fail
                go_roundw
                case rel => exact ⟨j + 1, by omega, by go_num, ⟨_, L', Bo.alike HB9.out rfl⟩, below_drewN HBW8.out⟩
                case measure => simp [intOf]; omega
        · have HK0 : ∀ W, Calls Try.prog 12 #[.agg #[.int .i64 kk, .int .i64 z, .int .i64 t, .bool on]] W fun e w' => e = .returned (.int .i64 2) ∧ Below W.heap.size W w' := HK
          clear HK
          by_cases hbad : a < now ∨ 1099511627776 < a
          · have HGA : ∀ W, BoX w.heap.size g q x (.cells #[.int .i64 kk, .int .i64 z, .int .i64 t, .bool on] 32 (0, 0)) (now) (L) (now) (L) W → Calls Try.prog 17 #[.pointer (some ⟨g, 0, none⟩), .int .i64 a] W fun e w' => e = .returned (.tuple #[.slice none 0 0, .int .i64 10]) ∧ w' = W := fun W hW => by
              obtain ⟨S, D, h1, _⟩ := hW.ex
              exact wgo_bad g S now L a W h1 hbad
            have HGB : ∀ W, BoX w.heap.size g q x (.cells #[.int .i64 kk, .int .i64 z, .int .i64 t, .bool on] 32 (0, 0)) (now) (L) (now) (L) W → Calls Try.prog 18 #[.pointer (some ⟨q, 0, none⟩), .int .i64 a] W fun e w' => e = .returned (.tuple #[.slice none 0 0, .int .i64 10]) ∧ w' = W := fun W hW => by
              obtain ⟨S, D, _, h2, _⟩ := hW.ex
              exact rgo_bad q D now L a W h2 hbad
            clear hbad
            go_wp2_with (first
              | (go_at_call 12; refine (HK0 _).mono ?_; rintro e W3 ⟨rfl, hb3⟩; have HX3 : Hid (BoX w.heap.size g q x (.cells #[.int .i64 kk, .int .i64 z, .int .i64 t, .bool on] 32 (0, 0)) (now) (L) (now) (L) W3) := HX2.out.below hb3; have HBW3 : Hid (Below w.heap.size w W3) := HBW2.out.trans (hb3.mono HBW2.out.size); have hs3 := HBW3.out.size; have HBW3X : Hid (W1.heap.size ≤ W3.heap.size) := Nat.le_trans HQ2.out hb3.size; clear hb3)
              | (go_at_call 17; refine (HGA _ HX3.out).mono ?_; rintro e W3 ⟨rfl, rfl⟩)
              | (go_at_call 18; refine (HGB _ HX3.out).mono ?_; rintro e W3 ⟨rfl, rfl⟩)
              | (go_at_call 19; refine (same_ints none none 0 0 [] _ (fun _ _ h => by simp at h) (fun _ _ h => by simp at h) (by decide)).mono ?_; rintro e W7 ⟨rfl, m7, rfl⟩; have HB7 : Hid (Bo w.heap.size g q now L W3) := HX3.out.toBo)
              | (go_at_call 20; refine (bnext w.heap.size g q (now) (L) _ ?_).mono ?_; (exact Bo.alike HB7.out rfl); rintro e w9 ⟨rfl, rfl⟩))
            obtain ⟨W8, hW8⟩ : ∃ W8, W8 = W3.drewN m7 := ⟨_, rfl⟩
            have HB8 : Hid (Bo w.heap.size g q now (L) W8) := by rw [hW8]; exact Bo.alike HB7.out rfl
            have HBW8 : Hid (Below w.heap.size w W8) := by rw [hW8]; exact below_drewN HBW3.out
            rw [← hW8]
            clear hW8 HGA HGB

            have HLN := fun W hW => blen w.heap.size g q (now) (L) W hW
            have HNW := fun W hW => bnow w.heap.size g q (now) (L) W hW
            have HAT := fun p W hW hp => bat w.heap.size g q (now) (L) p W hW hp
            have HATH : Hid _ := HAT
            obtain ⟨L', hL'⟩ : ∃ L', (L) = L' := ⟨_, rfl⟩
            have HB9 : Hid (Bo w.heap.size g q (now) L' W8) := by rw [← hL']; exact HB8.out
            have HATH : Hid (∀ (p : Int × Int) (W : World), Bo w.heap.size g q (now) L' W → p ∈ L' → Calls Try.prog 23 #[.pointer (some ⟨g, 0, none⟩), .int .i64 p.1] W fun e w' => e = .returned (.tuple #[.int .i64 p.2, .bool true]) ∧ w' = W) := by rw [← hL']; exact HAT
            obtain ⟨aoR, capR, y0, y1, hrd⟩ := HB9.out.rows
            have HRD : Hid (RowD W8 aoR L') := hrd
            rw [hL'] at HLN HNW ⊢
            clear HAT HB8 hL'
            obtain ⟨n, hn⟩ : ∃ n, L'.length = n := ⟨_, rfl⟩
            have EN : Hid _ := hn
            have hn256 : n ≤ 256 := by rw [← hn]; exact HB9.out.ok.ln
            rw [hn] at y0
            simp only [hn] at HLN
            have h21 : (n = 0 ∧ nxT L' = 0 ∧ (!L'.isEmpty) = false) ∨ (∃ gR off, aoR = some ⟨gR, off, none⟩ ∧ (0 : Int) < (n : Int) ∧ W8.cell? ⟨gR, off + 1, none⟩ = some (.int .i64 (nxT L')) ∧ (!L'.isEmpty) = true) := by
              cases L' with
              | nil => exact .inl ⟨by rw [← hn]; rfl, rfl, rfl⟩
              | cons p R =>
                obtain ⟨gR, off, e, _, k2⟩ := HRD.out 0 p rfl
                refine .inr ⟨gR, off, e, ?_, by simpa [nxT] using k2, rfl⟩
                rw [← hn, List.length_cons]
                omega
            clear hrd hn
            rcases h21 with ⟨hn0, hx1, hx2⟩ | ⟨gR, off', hao, hn0, hx3, hx2⟩
            · subst hn0
              rw [hx1, hx2]
              clear hx1 hx2
              go_quiet (first
                | (go_at_call 21; refine Calls.quiet_of_same (HLN _ ?_); exact Bo.alike HB9.out rfl)
                | (go_at_call 22; refine Calls.quiet_of_same (HNW _ ?_); exact Bo.alike HB9.out rfl))
              go_wp2_with fail
              go_loopw [15, 16, 17] (fun kv _ _ wz => kv = .int .i64 0 ∧ ∃ d, wz = W8.drewN d) (fun _ _ _ _ => 0)
              case atStart => exact ⟨rfl, _, rfl⟩
              case round =>
                obtain ⟨rfl, d, rfl⟩ := hrel
                go_wp2_with fail
                go_roundw
                case rel => exact ⟨j + 1, by omega, by go_num, ⟨_, L', Bo.alike HB9.out rfl⟩, below_drewN HBW8.out⟩
                case measure => simp [intOf]; omega
            · subst hao
              obtain ⟨nx, hnx⟩ : ∃ nx, nxT L' = nx := ⟨_, rfl⟩
              rw [hnx] at hx3 ⊢
              rw [hx2]
              have hn0' : 0 < n := by omega
              clear hx2 hnx
              refine reg21c g q n gR off' capR (now) nx W8 y0 y1 hn0 hn0' hx3 (fun W hW => HLN W (Bo.alike HB9.out hW)) (fun W hW => HNW W (Bo.alike HB9.out hW)) _ _ (fun u94 u95 u96 u97 u98 u99 u100 u101 u102 u103 u104 u105 u106 u107 u108 u109 u110 u111 u112 u113 u114 u115 u116 u117 u118 u119 u120 u121 u122 u123 u124 u125 u126 u127 u128 u129 u130 u131 u132 u133 u134 u135 u136 u137 u138 u139 u140 u141 u142 u143 u144 u145 d8 => ?_)
              go_wp2_with fail
              clear HLN HNW hx3
              go_loopw [15, 16, 17] (fun kv _ _ wz => ∃ k : Nat, k ≤ n ∧ kv = .int .i64 (k : Int) ∧ ∃ d, wz = W8.drewN d) (fun kv _ _ _ => n - (intOf kv).toNat)
              case atStart => exact ⟨0, Nat.zero_le _, rfl, _, rfl⟩
              case round =>
                obtain ⟨k, hk, rfl, d, rfl⟩ := hrel
                by_cases hkn : k < n
                · obtain ⟨⟨pa, pb⟩, hp⟩ : ∃ p, L'[k]? = some p := ⟨_, List.getElem?_eq_getElem (by rw [EN.out]; exact hkn)⟩
                  obtain ⟨gR', off2, e', k1, k2⟩ := HRD.out k _ hp
                  cases e'
                  have HATP := fun W hW => HATH.out (pa, pb) W hW (List.mem_of_getElem? hp)
                  simp only at HATP k1 k2
                  have kn' : (k : Int) < (n : Int) := by omega
                  have k0' : (0 : Int) ≤ (k : Int) := by omega
                  clear hp
                  go_wp2_with (go_at_call 23; refine (HATP _ ?_).mono ?_; exact Bo.alike HB9.out rfl; rintro e wz ⟨rfl, rfl⟩)
                  go_roundw
                  case rel => exact ⟨k + 1, by omega, by go_num, _, rfl⟩
                  case measure => simp [intOf]; omega
                · have kn' : ¬ (k : Int) < (n : Int) := by omega
                  go_wp2_with fail
                  go_roundw
                  case rel => exact ⟨j + 1, by omega, by go_num, ⟨_, L', Bo.alike HB9.out rfl⟩, below_drewN HBW8.out⟩
                  case measure => simp [intOf]; omega
          · obtain ⟨n3, hn3⟩ : ∃ n3, (outN a L).length = n3 := ⟨_, rfl⟩
            have E3 : Hid _ := hn3
            have hr : now ≤ a ∧ a ≤ 1099511627776 := by omega
            have HGA := fun W (hW : BoX w.heap.size g q x (.cells #[.int .i64 kk, .int .i64 z, .int .i64 t, .bool on] 32 (0, 0)) (now) (L) (now) (L) W) hB => bgo_a a W hW hB hr
            have HGB := fun W (hW : BoX w.heap.size g q x (.cells #[.int .i64 kk, .int .i64 z, .int .i64 t, .bool on] 32 (0, 0)) (a) (restN a L) (now) (L) W) hB => bgo_b a W hW hB HOK.out.ln hr
            simp only [hn3] at HGA HGB
            have HSI := fun (X Y : Option Addr) (k1 k2 : Nat) (W : World) h1 h2 => same_ints X Y k1 k2 (ids (outN a L)) W h1 h2 (by rw [ids_len]; have := congrArg List.length (out_rest a L); rw [List.length_append] at this; have := HOK.out.ln; omega)
            simp only [ids_len, hn3] at HSI
            clear hbad hn3
            go_wp2_with (first
              | (go_at_call 12; refine (HK0 _).mono ?_; rintro e W3 ⟨rfl, hb3⟩; have HX3 : Hid (BoX w.heap.size g q x (.cells #[.int .i64 kk, .int .i64 z, .int .i64 t, .bool on] 32 (0, 0)) (now) (L) (now) (L) W3) := HX2.out.below hb3; have HBW3 : Hid (Below w.heap.size w W3) := HBW2.out.trans (hb3.mono HBW2.out.size); have hs3 := HBW3.out.size; have HBW3X : Hid (W1.heap.size ≤ W3.heap.size) := Nat.le_trans HQ2.out hb3.size; clear hb3)
              | (go_at_call 17; refine (HGA _ HX3.out hs3).mono ?_; rintro e W4 ⟨ao4, cap4, rfl, hx4, hb4, hz4, ha4⟩; have HX4 : Hid (BoX w.heap.size g q x (.cells #[.int .i64 kk, .int .i64 z, .int .i64 t, .bool on] 32 (0, 0)) (a) (restN a L) (now) (L) W4) := hx4; have HBW4 : Hid (Below w.heap.size w W4) := HBW3.out.trans hb4; have hs4 := HBW4.out.size; have HZ4 : Hid (RowZ W4 ao4 (ids (outN a L))) := hz4; have HA4 : Hid (∀ ad, ao4 = some ad → W3.heap.size ≤ ad.block) := ha4; clear hx4 hb4 hz4 ha4)
              | (go_at_call 18; refine (HGB _ HX4.out hs4).mono ?_; rintro e W5 ⟨ao5, cap5, rfl, hx5, hb5, hz5, hk5⟩; have HB7 : Hid (Bo w.heap.size g q a (restN a L) W5) := hx5.toBo; have HBW5 : Hid (Below w.heap.size w W5) := HBW4.out.trans hb5; have HZ5 : Hid (RowZ W5 ao5 (ids (outN a L))) := hz5; have HZ45 : Hid (RowZ W5 ao4 (ids (outN a L))) := rowz_hi HZ4.out (fun ad e => Nat.lt_of_lt_of_le (Nat.lt_of_lt_of_le HQL.out HBW3X.out) (HA4.out ad e)) hk5; clear hx5 hb5 hz5 hk5)
              | (go_at_call 19; refine (HSI _ _ _ _ _ HZ45.out HZ5.out).mono ?_; rintro e W7 ⟨rfl, m7, rfl⟩)
              | (go_at_call 20; refine (bnext w.heap.size g q (a) (restN a L) _ ?_).mono ?_; (exact Bo.alike HB7.out rfl); rintro e w9 ⟨rfl, rfl⟩))
            obtain ⟨W8, hW8⟩ : ∃ W8, W8 = W5.drewN m7 := ⟨_, rfl⟩
            have HB8 : Hid (Bo w.heap.size g q a (restN a L) W8) := by rw [hW8]; exact Bo.alike HB7.out rfl
            have HBW8 : Hid (Below w.heap.size w W8) := by rw [hW8]; exact below_drewN HBW5.out
            rw [← hW8]
            clear hW8 HGA HGB HSI

            have HLN := fun W hW => blen w.heap.size g q (a) (restN a L) W hW
            have HNW := fun W hW => bnow w.heap.size g q (a) (restN a L) W hW
            have HAT := fun p W hW hp => bat w.heap.size g q (a) (restN a L) p W hW hp
            have HATH : Hid _ := HAT
            obtain ⟨L', hL'⟩ : ∃ L', (restN a L) = L' := ⟨_, rfl⟩
            have HB9 : Hid (Bo w.heap.size g q (a) L' W8) := by rw [← hL']; exact HB8.out
            have HATH : Hid (∀ (p : Int × Int) (W : World), Bo w.heap.size g q (a) L' W → p ∈ L' → Calls Try.prog 23 #[.pointer (some ⟨g, 0, none⟩), .int .i64 p.1] W fun e w' => e = .returned (.tuple #[.int .i64 p.2, .bool true]) ∧ w' = W) := by rw [← hL']; exact HAT
            obtain ⟨aoR, capR, y0, y1, hrd⟩ := HB9.out.rows
            have HRD : Hid (RowD W8 aoR L') := hrd
            rw [hL'] at HLN HNW ⊢
            clear HAT HB8 hL'
            obtain ⟨n, hn⟩ : ∃ n, L'.length = n := ⟨_, rfl⟩
            have EN : Hid _ := hn
            have hn256 : n ≤ 256 := by rw [← hn]; exact HB9.out.ok.ln
            rw [hn] at y0
            simp only [hn] at HLN
            have h21 : (n = 0 ∧ nxT L' = 0 ∧ (!L'.isEmpty) = false) ∨ (∃ gR off, aoR = some ⟨gR, off, none⟩ ∧ (0 : Int) < (n : Int) ∧ W8.cell? ⟨gR, off + 1, none⟩ = some (.int .i64 (nxT L')) ∧ (!L'.isEmpty) = true) := by
              cases L' with
              | nil => exact .inl ⟨by rw [← hn]; rfl, rfl, rfl⟩
              | cons p R =>
                obtain ⟨gR, off, e, _, k2⟩ := HRD.out 0 p rfl
                refine .inr ⟨gR, off, e, ?_, by simpa [nxT] using k2, rfl⟩
                rw [← hn, List.length_cons]
                omega
            clear hrd hn
            rcases h21 with ⟨hn0, hx1, hx2⟩ | ⟨gR, off', hao, hn0, hx3, hx2⟩
            · subst hn0
              rw [hx1, hx2]
              clear hx1 hx2
              go_quiet (first
                | (go_at_call 21; refine Calls.quiet_of_same (HLN _ ?_); exact Bo.alike HB9.out rfl)
                | (go_at_call 22; refine Calls.quiet_of_same (HNW _ ?_); exact Bo.alike HB9.out rfl))
              go_wp2_with fail
              go_loopw [15, 16, 17] (fun kv _ _ wz => kv = .int .i64 0 ∧ ∃ d, wz = W8.drewN d) (fun _ _ _ _ => 0)
              case atStart => exact ⟨rfl, _, rfl⟩
              case round =>
                obtain ⟨rfl, d, rfl⟩ := hrel
                go_wp2_with fail
                go_roundw
                case rel => exact ⟨j + 1, by omega, by go_num, ⟨_, L', Bo.alike HB9.out rfl⟩, below_drewN HBW8.out⟩
                case measure => simp [intOf]; omega
            · subst hao
              obtain ⟨nx, hnx⟩ : ∃ nx, nxT L' = nx := ⟨_, rfl⟩
              rw [hnx] at hx3 ⊢
              rw [hx2]
              have hn0' : 0 < n := by omega
              clear hx2 hnx
              refine reg21c g q n gR off' capR (a) nx W8 y0 y1 hn0 hn0' hx3 (fun W hW => HLN W (Bo.alike HB9.out hW)) (fun W hW => HNW W (Bo.alike HB9.out hW)) _ _ (fun u94 u95 u96 u97 u98 u99 u100 u101 u102 u103 u104 u105 u106 u107 u108 u109 u110 u111 u112 u113 u114 u115 u116 u117 u118 u119 u120 u121 u122 u123 u124 u125 u126 u127 u128 u129 u130 u131 u132 u133 u134 u135 u136 u137 u138 u139 u140 u141 u142 u143 u144 u145 d8 => ?_)
              go_wp2_with fail
              clear HLN HNW hx3
              go_loopw [15, 16, 17] (fun kv _ _ wz => ∃ k : Nat, k ≤ n ∧ kv = .int .i64 (k : Int) ∧ ∃ d, wz = W8.drewN d) (fun kv _ _ _ => n - (intOf kv).toNat)
              case atStart => exact ⟨0, Nat.zero_le _, rfl, _, rfl⟩
              case round =>
                obtain ⟨k, hk, rfl, d, rfl⟩ := hrel
                by_cases hkn : k < n
                · obtain ⟨⟨pa, pb⟩, hp⟩ : ∃ p, L'[k]? = some p := ⟨_, List.getElem?_eq_getElem (by rw [EN.out]; exact hkn)⟩
                  obtain ⟨gR', off2, e', k1, k2⟩ := HRD.out k _ hp
                  cases e'
                  have HATP := fun W hW => HATH.out (pa, pb) W hW (List.mem_of_getElem? hp)
                  simp only at HATP k1 k2
                  have kn' : (k : Int) < (n : Int) := by omega
                  have k0' : (0 : Int) ≤ (k : Int) := by omega
                  clear hp
                  go_wp2_with (go_at_call 23; refine (HATP _ ?_).mono ?_; exact Bo.alike HB9.out rfl; rintro e wz ⟨rfl, rfl⟩)
                  go_roundw
                  case rel => exact ⟨k + 1, by omega, by go_num, _, rfl⟩
                  case measure => simp [intOf]; omega
                · have kn' : ¬ (k : Int) < (n : Int) := by omega
                  go_wp2_with fail
                  go_roundw
                  case rel => exact ⟨j + 1, by omega, by go_num, ⟨_, L', Bo.alike HB9.out rfl⟩, below_drewN HBW8.out⟩
                  case measure => simp [intOf]; omega)
    · have hnl : ¬ (j : Int) < (NN : Int) := by omega
      go_wp2_with fail
      go_ret
      exact ⟨rfl, HB.out⟩
end Go.Proofs.Ytkgnaaocgejeiaa
