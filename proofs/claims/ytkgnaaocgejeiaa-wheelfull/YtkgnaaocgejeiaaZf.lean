/-
  The walk of the statement WheelFull over this program: 256 numbers, and not one more.
-/
import Derived.Test.YtkgnaaocgejeiaaZa
namespace Go.Proofs.Ytkgnaaocgejeiaa
open Go Go.RowKit Go.Maps
/-- Numbers one behind the other, each due one later. -/
def lstN (F T : Int) (n : Nat) : List (Int × Int) := (List.range n).map fun k : Nat => (F + (k : Int), T + (k : Int))
theorem lst_len (F T : Int) (n : Nat) : (lstN F T n).length = n := by simp [lstN]
theorem lst_mem {F T : Int} {n : Nat} {q : Int × Int} (h : q ∈ lstN F T n) : ∃ k : Nat, k < n ∧ q = (F + (k : Int), T + (k : Int)) := by
  obtain ⟨k, hk, rfl⟩ := List.mem_map.1 h
  exact ⟨k, List.mem_range.1 hk, rfl⟩
theorem lst_id {F T : Int} {n : Nat} {z : Int} : z ∈ ids (lstN F T n) ↔ ∃ k : Nat, k < n ∧ z = F + (k : Int) := by
  constructor
  · intro h
    obtain ⟨q, hq, rfl⟩ := List.mem_map.1 h
    obtain ⟨k, hk, rfl⟩ := lst_mem hq
    exact ⟨k, hk, rfl⟩
  · rintro ⟨k, hk, rfl⟩
    exact List.mem_map.2 ⟨(F + (k : Int), T + (k : Int)), List.mem_map.2 ⟨k, List.mem_range.2 hk, rfl⟩, rfl⟩
theorem ins_last {q : Int × Int} {L : List (Int × Int)} (h : ∀ r ∈ L, ltP r q) : ins q L = L ++ [q] := by
  unfold ins
  have e1 : L.takeWhile (fun r => decide (ltP r q)) = L := by
    have := List.takeWhile_append_of_pos (p := fun r => decide (ltP r q)) (l₁ := L) (l₂ := []) (fun r hr => by simpa using h r hr)
    simpa using this
  have e2 : L.dropWhile (fun r => decide (ltP r q)) = [] := by
    have := List.takeWhile_append_dropWhile (p := fun r => decide (ltP r q)) (l := L)
    rw [e1] at this
    simpa using this
  rw [e1, e2]
theorem lst_step {F T : Int} {i : Nat} (hi : i < 256) (hT : 1 ≤ T ∧ T ≤ 1000) : setE 0 (lstN F T i) (F + (i : Int)) (T + (i : Int)) = 0 ∧ setL 0 (lstN F T i) (F + (i : Int)) (T + (i : Int)) = lstN F T (i + 1) := by
  have hn : (F + (i : Int)) ∉ ids (lstN F T i) := by
    intro h
    obtain ⟨k, hk, e⟩ := lst_id.1 h
    omega
  have he : setE 0 (lstN F T i) (F + (i : Int)) (T + (i : Int)) = 0 := by
    unfold setE
    rw [if_neg (by omega), if_neg (by rw [lst_len]; omega)]
  refine ⟨he, ?_⟩
  unfold setL
  rw [if_pos he, del_none hn, ins_last]
  · unfold lstN
    rw [List.range_succ, List.map_append]
    rfl
  · intro r hr
    obtain ⟨k, hk, rfl⟩ := lst_mem hr
    unfold ltP
    simp only
    omega
theorem full_no {F T : Int} (hT : 1 ≤ T ∧ T ≤ 1000) : setE 0 (lstN F T 256) (F + 256) T = 9 ∧ setL 0 (lstN F T 256) (F + 256) T = lstN F T 256 := by
  have he : setE 0 (lstN F T 256) (F + 256) T = 9 := by
    unfold setE
    rw [if_neg (by omega), if_pos]
    refine ⟨fun h => ?_, lst_len _ _ _⟩
    obtain ⟨k, hk, e⟩ := lst_id.1 h
    omega
  refine ⟨he, ?_⟩
  unfold setL
  rw [he, if_neg (by decide)]
theorem full_again {F T : Int} (hT : 1 ≤ T ∧ T ≤ 1000) : setE 0 (lstN F T 256) (F + 3) (T + 999) = 0 ∧
    ∃ R, setL 0 (lstN F T 256) (F + 3) (T + 999) = (F, T) :: R ∧ outN T ((F, T) :: R) = [(F, T)] ∧ restN T ((F, T) :: R) = R ∧ setE T R (F + 256) (T + 1) = 0 ∧ (setL T R (F + 256) (T + 1)).length = 256 := by
  have hm : F + 3 ∈ ids (lstN F T 256) := lst_id.2 ⟨3, by omega, rfl⟩
  have he : setE 0 (lstN F T 256) (F + 3) (T + 999) = 0 := by
    unfold setE
    rw [if_neg (by omega), if_neg (fun h => h.1 hm)]
  refine ⟨he, ?_⟩
  obtain ⟨M, hM⟩ : ∃ M, lstN F T 256 = (F, T) :: M := by
    refine ⟨((List.range 255).map Nat.succ).map fun k : Nat => (F + (k : Int), T + (k : Int)), ?_⟩
    unfold lstN
    rw [List.range_succ_eq_map, List.map_cons]
    simp
  have hnd : (ids (lstN F T 256)).Nodup := by
    unfold ids lstN
    rw [List.map_map]
    refine List.pairwise_map.2 (List.Pairwise.imp (R := fun a b : Nat => a ≠ b) ?_ List.nodup_range)
    intro a b h e
    have e' : F + (a : Int) = F + (b : Int) := e
    omega
  have hMm : ∀ r ∈ M, T < r.2 ∧ r.1 ≠ F + 256 := fun r hr => by
    obtain ⟨k, hk, rfl⟩ := lst_mem (F := F) (T := T) (n := 256) (by rw [hM]; exact List.mem_cons_of_mem _ hr)
    simp only
    refine ⟨?_, by omega⟩
    rcases Nat.eq_zero_or_pos k with rfl | h
    · exfalso
      unfold ids at hnd
      rw [hM, List.map_cons, List.nodup_cons] at hnd
      exact hnd.1 (by have := List.mem_map_of_mem (f := fun q : Int × Int => q.1) hr; simpa using this)
    · omega
  have hdl := del_len hnd hm
  rw [lst_len] at hdl
  refine ⟨ins (F + 3, T + 999) (del (F + 3) M), ?_, ?_⟩
  · unfold setL
    rw [if_pos he, hM]
    have e1 : del (F + 3) ((F, T) :: M) = (F, T) :: del (F + 3) M := by
      unfold del
      rw [List.filter_cons]
      have : (!(F == F + 3)) = true := by simp; omega
      simp only [this, if_true]
    rw [e1]
    have e2 : ltP (F, T) (F + 3, T + 999) := by unfold ltP; simp only; omega
    unfold ins
    simp [e2]
  have hR : ∀ r ∈ ins (F + 3, T + 999) (del (F + 3) M), T < r.2 ∧ r.1 ≠ F + 256 := fun r hr => by
    rcases mem_ins.1 hr with rfl | hr
    · simp only
      omega
    · exact hMm r (mem_del.1 hr).1
  have hRl : (ins (F + 3, T + 999) (del (F + 3) M)).length = 255 := by
    rw [ins_len]
    rw [hM] at hdl
    have e1 : del (F + 3) ((F, T) :: M) = (F, T) :: del (F + 3) M := by
      unfold del
      rw [List.filter_cons]
      have : (!(F == F + 3)) = true := by simp; omega
      simp only [this, if_true]
    rw [e1, List.length_cons] at hdl
    omega
  generalize ins (F + 3, T + 999) (del (F + 3) M) = R at hR hRl
  have hc := out_cut (at_ := T) (A := [(F, T)]) (R := R) (fun q hq => by rw [List.mem_singleton.1 hq]; exact Int.le_refl _) (fun q R' e => (hR q (by rw [e]; exact List.mem_cons_self)).1)
  have hn : (F + 256) ∉ ids R := fun h => by
    obtain ⟨q, hq, e⟩ := List.mem_map.1 h
    exact (hR q hq).2 e
  have he2 : setE T R (F + 256) (T + 1) = 0 := by
    unfold setE
    rw [if_neg (by omega), if_neg (by rw [hRl]; omega)]
  refine ⟨hc.1, hc.2, he2, ?_⟩
  unfold setL
  rw [if_pos he2, ins_len, del_none hn, hRl]
theorem wrap_mod (x : Int) : ∃ k : Nat, k < 1000 ∧ (IntKind.u64.wrap x).tmod 1000 = (k : Int) := by
  refine ⟨((IntKind.u64.wrap x).tmod 1000).toNat, ?_, ?_⟩ <;> rw [IntKind.wrap_u64, Int.tmod_eq_emod_of_nonneg (by omega)] <;> omega
set_option maxRecDepth 100000 in
set_option maxHeartbeats 2000000 in
theorem full_walk (x y : Int) (w : World) : Calls Try.prog 5 #[.int .i64 x, .int .i64 y] w fun e w' => e = .returned (.bool true) ∧ Below w.heap.size w w' := by
  obtain ⟨F, hF, eF⟩ := wrap_mod x
  obtain ⟨t, ht, et⟩ := wrap_mod y
  have wF : IntKind.i64.wrap (F : Int) = (F : Int) := by simp only [IntKind.wrap_i64]; omega
  have wt : IntKind.i64.wrap (t : Int) = (t : Int) := by simp only [IntKind.wrap_i64]; omega
  obtain ⟨T, hT⟩ : ∃ T, t + 1 = T := ⟨_, rfl⟩
  have wT : IntKind.i64.wrap (1 + (t : Int)) = (T : Int) := by simp only [IntKind.wrap_i64]; omega
  have hT2 : 1 ≤ T ∧ T ≤ 1000 := by omega
  have HT3 : Hid ((1 : Int) ≤ T ∧ (T : Int) ≤ 1000) := ⟨by omega, by omega⟩
  obtain ⟨he9, hl9⟩ := full_no (F := F) (T := T) HT3.out
  obtain ⟨he0, R, hl0, ho, hr, he1, hl1⟩ := full_again (F := F) (T := T) HT3.out
  have HS9 : ∀ g W, WB w.heap.size g 0 (lstN F T 256) W → w.heap.size ≤ W.heap.size → Calls Try.prog 13 #[.pointer (some ⟨g, 0, none⟩), .int .i64 ((F : Int) + 256), .int .i64 (T : Int)] W fun e w' => e = .returned (.int .i64 9) ∧ WB w.heap.size g 0 (lstN F T 256) w' ∧ Below w.heap.size W w' := fun g W h hB => by
    have := set_b _ g 0 _ ((F : Int) + 256) (T : Int) W h hB ⟨by omega, by omega⟩ ⟨by omega, by omega⟩
    rw [he9, hl9] at this
    exact this
  have HS0 : ∀ g W, WB w.heap.size g 0 (lstN F T 256) W → w.heap.size ≤ W.heap.size → Calls Try.prog 13 #[.pointer (some ⟨g, 0, none⟩), .int .i64 ((F : Int) + 3), .int .i64 ((T : Int) + 999)] W fun e w' => e = .returned (.int .i64 0) ∧ WB w.heap.size g 0 ((↑F, ↑T) :: R) w' ∧ Below w.heap.size W w' := fun g W h hB => by
    have := set_b _ g 0 _ ((F : Int) + 3) ((T : Int) + 999) W h hB ⟨by omega, by omega⟩ ⟨by omega, by omega⟩
    rw [he0, hl0] at this
    exact this
  have HG : ∀ g W, WB w.heap.size g 0 ((↑F, ↑T) :: R) W → w.heap.size ≤ W.heap.size → Calls Try.prog 17 #[.pointer (some ⟨g, 0, none⟩), .int .i64 (T : Int)] W fun e w' => ∃ ao cap S, e = .returned (.tuple #[.slice ao 1 cap, .int .i64 0]) ∧ WAt g S T R w' ∧ (∀ k ∈ S, w.heap.size ≤ k ∧ k < W.heap.size) ∧ w'.ownsRow W.heap.size 3 1 (.slice ao 1 cap) 1 (ints [(F : Int)]) ∧ Below w.heap.size W w' := fun g W ⟨S, h, hS⟩ hB => by
    refine (wgo_ok g S 0 _ (T : Int) W h ⟨by omega, by omega⟩).mono fun e w' ⟨v, he, k1, k2, k3⟩ => ?_
    rw [hr] at k1
    rw [ho] at k2
    obtain ⟨ao, cap, rfl, _, _⟩ := own_row k2
    exact ⟨ao, cap, S, he, k1, fun k hk => ⟨hS k hk, h.lt k hk⟩, k2, k3.below hB hS⟩
  have HS1 : ∀ g S W, WAt g S T R W → (∀ k ∈ S, w.heap.size ≤ k) → w.heap.size ≤ W.heap.size → Calls Try.prog 13 #[.pointer (some ⟨g, 0, none⟩), .int .i64 ((F : Int) + 256), .int .i64 ((T : Int) + 1)] W fun e w' => e = .returned (.int .i64 0) ∧ WB w.heap.size g T (setL T R (F + 256) (T + 1)) w' ∧ Fr S W w' := fun g S W h hS hB => by
    have := wset_any g S T _ ((F : Int) + 256) ((T : Int) + 1) W h ⟨by omega, by omega⟩ ⟨by omega, by omega⟩
    rw [he1] at this
    refine this.mono fun e w' ⟨he, S', k1, k2, k3⟩ => ⟨he, ⟨S', k1, fun k hk => ?_⟩, k3⟩
    rcases k2 k hk with h | h
    · exact hS k h
    · omega
  have HL : ∀ g W, WB w.heap.size g T (setL T R (F + 256) (T + 1)) W → Calls Try.prog 21 #[.pointer (some ⟨g, 0, none⟩)] W fun e w' => e = .returned (.int .i64 256) ∧ w' = W := fun g W h => by
    have := len_b _ g T _ W h
    rw [hl1] at this
    exact this
  have HST : ∀ g (i : Nat) W, i < 256 → WB w.heap.size g 0 (lstN F T i) W → w.heap.size ≤ W.heap.size → Calls Try.prog 13 #[.pointer (some ⟨g, 0, none⟩), .int .i64 ((F : Int) + (i : Int)), .int .i64 ((T : Int) + (i : Int))] W fun e w' => e = .returned (.int .i64 0) ∧ WB w.heap.size g 0 (lstN F T (i + 1)) w' ∧ Below w.heap.size W w' := fun g i W hi h hB => by
    have := set_b _ g 0 _ ((F : Int) + (i : Int)) ((T : Int) + (i : Int)) W h hB ⟨by omega, by omega⟩ ⟨by omega, by omega⟩
    rw [(lst_step hi HT3.out).1, (lst_step hi HT3.out).2] at this
    exact this
  obtain ⟨L0, hL0⟩ : ∃ L0, (F : Int) + 256 = L0 := ⟨_, rfl⟩
  have w1 : IntKind.i64.wrap ((F : Int) + 256) = (F : Int) + 256 := by simp only [IntKind.wrap_i64]; omega
  have w2 : IntKind.i64.wrap ((F : Int) + 3) = (F : Int) + 3 := by simp only [IntKind.wrap_i64]; omega
  have w3 : IntKind.i64.wrap ((T : Int) + 999) = (T : Int) + 999 := by simp only [IntKind.wrap_i64]; omega
  have w4 : IntKind.i64.wrap ((T : Int) + 1) = (T : Int) + 1 := by simp only [IntKind.wrap_i64]; omega
  clear he9 hl9 he0 hl0 ho hr he1 hl1 ht hT hT2 hL0
  go_enter Try.func5, Try.ntmps5
  go_wp2_with (first
    | (go_at_call 8; refine (lives_any _).mono ?_; rintro e w1 ⟨rfl, hb1⟩)
    | (go_at_call 9; refine (new_b _ _ hb1.size).mono ?_; rintro e w2 ⟨rfl, hr2, _, hb2'⟩; have hb2 := hb1.trans (hb2'.mono hb1.size)))
  have HB2 : Hid _ := hb2
  have HR2 : Hid _ := hr2
  obtain ⟨g, hg⟩ : ∃ g, w1.heap.size = g := ⟨_, rfl⟩
  rw [hg] at HR2 ⊢
  clear hb2 hb2' hr2 hb1 hg
  go_loopw [6] (fun i wr => ∃ j : Nat, j ≤ 256 ∧ i = .int .i64 (j : Int) ∧ WB w.heap.size g 0 (lstN F T j) wr ∧ Below w.heap.size w wr) (fun i _ => 256 - (intOf i).toNat)
  case atStart => exact ⟨0, Nat.zero_le _, rfl, HR2.out, HB2.out⟩
  case round =>
    obtain ⟨j, hj, rfl, hw, hb⟩ := hrel
    have HW : Hid _ := hw
    have HB : Hid _ := hb
    have hs := hb.size
    clear hw hb
    by_cases hlt : j < 256
    · have hlt' : (j : Int) < 256 := by omega
      have wF1 : IntKind.i64.wrap ((F : Int) + (j : Int)) = (F : Int) + (j : Int) := by simp only [IntKind.wrap_i64]; omega
      have wT1 : IntKind.i64.wrap ((T : Int) + (j : Int)) = (T : Int) + (j : Int) := by have := HT3.out; simp only [IntKind.wrap_i64]; omega
      have HSJ := fun W => HST g j W hlt
      clear HS9 HS0 HG HS1 HL HST
      go_wp2_with (go_at_call 13; refine (HSJ _ HW.out hs).mono ?_; rintro e w3 ⟨rfl, hw3, hb3⟩)
      go_roundw
      case rel => exact ⟨j + 1, by omega, by go_num, hw3, HB.out.trans hb3⟩
      case measure => simp [intOf]; omega
    · have e : j = 256 := by omega
      subst e
      go_wp2_with (first
        | (go_at_call 13; refine (HS1 _ _ _ hw5 (fun k hk => (hS5 k hk).1) hb5.size).mono ?_; rintro e w6 ⟨rfl, hw6, hf6⟩; have hb6 := hb5.trans (hf6.below hb5.size (fun k hk => (hS5 k hk).1)); obtain ⟨ao6, cap6, e6, hz6, _⟩ := own_row (l := [(F : Int)]) (own_fr ho5 hf6 (fun k hk => (hS5 k hk).2)); cases e6; obtain ⟨ad6, rfl, hc6⟩ := hz6 0 _ rfl; have hc7 : w6.cell? ad6 = some (.int .i64 (F : Int)) := hc6)
        | (go_at_call 13; refine (HS0 _ _ hw3 hb3.size).mono ?_; rintro e w4 ⟨rfl, hw4, hb4'⟩; have hb4 := hb3.trans hb4')
        | (go_at_call 13; refine (HS9 _ _ HW.out hs).mono ?_; rintro e w3 ⟨rfl, hw3, hb3'⟩; have hb3 := HB.out.trans hb3')
        | (go_at_call 17; refine (HG _ _ hw4 hb4.size).mono ?_; rintro e w5 ⟨ao5, cap5, S5, rfl, hw5, hS5, ho5, hb5'⟩; have hb5 := hb4.trans hb5')
        | (go_at_call 21; refine (HL _ _ hw6).mono ?_; rintro e w7 ⟨rfl, rfl⟩))
      go_ret
      exact ⟨rfl, hb6⟩
end Go.Proofs.Ytkgnaaocgejeiaa
