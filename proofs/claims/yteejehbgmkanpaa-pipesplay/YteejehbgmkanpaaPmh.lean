/-
  A step of a script where there are no connections; the walk of the statement PipesNil; the first steps of a script (early).
-/
import Derived.Test.YteejehbgmkanpaaPmg
namespace Go.Proofs.Yteejehbgmkanpaa
open Go Go.RowKit
set_option maxHeartbeats 2000000 in
theorem does_nil (k id n : Int) (s : ByteArray) (w : World) :
    Calls Try.prog 11 #[.pointer none, .agg #[.int .i64 k, .int .i64 id, .int .i64 n, .string s]] w fun e w' => e = .returned (.int .i64 1) ∧ Below w.heap.size w w' := by
  have hb0 : Below w.heap.size w (w.alloc (.cells #[.int .i64 k, .int .i64 id, .int .i64 n, .string s] 36)) := (Below.refl _ _).alloc (Nat.le_refl _) _
  have HK := kind_any k id n s (w.alloc (.cells #[.int .i64 k, .int .i64 id, .int .i64 n, .string s] 36))
  have hlt := kd_lt k
  obtain ⟨q, hq⟩ : ∃ q, kd k = q := ⟨_, rfl⟩
  rw [hq] at HK hlt
  clear hq
  have hc : q = 0 ∨ q = 1 ∨ q = 2 ∨ q = 3 := by omega
  clear hlt
  rcases hc with rfl | rfl | rfl | rfl
  · have H := fun W => open_nil id W
    go_enter Try.func11, Try.ntmps11
    go_wp2_with (first
      | (go_at_call 22; refine HK.mono ?_; rintro e w1 ⟨rfl, hb1⟩; obtain ⟨d0, d1, d2, d3⟩ := below_arg hb1; have HB1 : Hid (Below w.heap.size w w1) := hb0.trans (hb1.mono (by simp)); clear hb1)
      | (go_at_call 18; refine (H _).mono ?_; rintro e w2 ⟨rfl, rfl⟩))
    go_ret
    exact ⟨rfl, HB1.out⟩
  · have H := fun W => Write_nil id s W
    go_enter Try.func11, Try.ntmps11
    go_wp2_with (first
      | (go_at_call 22; refine HK.mono ?_; rintro e w1 ⟨rfl, hb1⟩; obtain ⟨d0, d1, d2, d3⟩ := below_arg hb1; have HB1 : Hid (Below w.heap.size w w1) := hb0.trans (hb1.mono (by simp)); clear hb1)
      | (go_at_call 20; refine (H _).mono ?_; rintro e w2 ⟨rfl, rfl⟩))
    go_ret
    exact ⟨rfl, HB1.out⟩
  · have H := fun W => break_nil id n W
    go_enter Try.func11, Try.ntmps11
    go_wp2_with (first
      | (go_at_call 22; refine HK.mono ?_; rintro e w1 ⟨rfl, hb1⟩; obtain ⟨d0, d1, d2, d3⟩ := below_arg hb1; have HB1 : Hid (Below w.heap.size w w1) := hb0.trans (hb1.mono (by simp)); clear hb1)
      | (go_at_call 19; refine (H _).mono ?_; rintro e w2 ⟨rfl, rfl⟩))
    go_ret
    exact ⟨rfl, HB1.out⟩
  · have H := fun W => close_nil id W
    go_enter Try.func11, Try.ntmps11
    go_wp2_with (first
      | (go_at_call 22; refine HK.mono ?_; rintro e w1 ⟨rfl, hb1⟩; obtain ⟨d0, d1, d2, d3⟩ := below_arg hb1; have HB1 : Hid (Below w.heap.size w w1) := hb0.trans (hb1.mono (by simp)); clear hb1)
      | (go_at_call 21; refine (H _).mono ?_; rintro e w2 ⟨rfl, rfl⟩))
    go_ret
    exact ⟨rfl, HB1.out⟩
set_option maxHeartbeats 2000000 in
theorem nil_walk (k id n : Int) (s : ByteArray) (w : World) : Calls Try.prog 6 #[.agg #[.int .i64 k, .int .i64 id, .int .i64 n, .string s]] w fun e w' => e = .returned (.bool true) ∧ Below w.heap.size w w' := by
  have hb0 : Below w.heap.size w (w.alloc (.cells #[.int .i64 k, .int .i64 id, .int .i64 n, .string s] 36)) := (Below.refl _ _).alloc (Nat.le_refl _) _
  have HL := lives_any (w.alloc (.cells #[.int .i64 k, .int .i64 id, .int .i64 n, .string s] 36))
  have HD := fun W => does_nil k id n s W
  go_enter Try.func6, Try.ntmps6
  go_wp2_with (first
    | (go_at_call 8; refine HL.mono ?_; rintro e w1 ⟨rfl, hb1⟩; obtain ⟨d0, d1, d2, d3⟩ := below_arg hb1; have HB1 : Hid (Below w.heap.size w w1) := hb0.trans (hb1.mono (by simp)); have hs1 : w.heap.size < w1.heap.size := (by have := hb1.size; simp at this; omega); clear hb1)
    | (go_at_call 11; refine (HD _).mono ?_; rintro e w2 ⟨rfl, hb2⟩; have e1 := (hb2.cell (p := ⟨w.heap.size, 1, none⟩) hs1).trans d1; have HB2 : Hid (Below w.heap.size w w2) := HB1.out.trans (hb2.mono (Nat.le_of_lt hs1)); clear hb2)
    | (go_at_call 13; refine (out_nil _ _).mono ?_; rintro e w2 ⟨rfl, rfl⟩)
    | (go_at_call 14; refine (is_nil _ _).mono ?_; rintro e w2 ⟨rfl, rfl⟩)
    | (go_at_call 15; refine (isWhole_nil _ _).mono ?_; rintro e w2 ⟨rfl, rfl⟩)
    | (go_at_call 17; refine (all_nil _).mono ?_; rintro e w2 ⟨rfl, rfl⟩))
  go_ret
  exact ⟨rfl, HB2.out⟩
/-- The cells of a step. -/
def Sp.cells (t : Sp) : List Value := [.int .i64 t.k, .int .i64 t.id, .int .i64 t.n, .string t.s]
def steps (l : List Sp) : List Value := l.flatMap Sp.cells
theorem steps_len (l : List Sp) : (steps l).length = l.length * 4 := by
  induction l with
  | nil => rfl
  | cons t l ih =>
    show (t.cells ++ steps l).length = _
    rw [List.length_append, ih]
    show 4 + l.length * 4 = (l.length + 1) * 4
    omega
theorem steps_app (a b : List Sp) : steps (a ++ b) = steps a ++ steps b := List.flatMap_append
theorem steps_get : ∀ (l : List Sp) (i j : Nat) (t : Sp), l[i]? = some t → j < 4 → (steps l)[i * 4 + j]? = t.cells[j]?
  | [], _, _, _, h, _ => by simp at h
  | u :: l, 0, j, t, h, hj => by
    simp at h
    subst h
    show (u.cells ++ steps l)[0 * 4 + j]? = _
    rw [List.getElem?_append_left (by show 0 * 4 + j < 4; omega)]
    congr 1
    omega
  | u :: l, i + 1, j, t, h, hj => by
    have ih := steps_get l i j t (by simpa using h) hj
    show (u.cells ++ steps l)[(i + 1) * 4 + j]? = _
    rw [List.getElem?_append_right (by show 4 ≤ (i + 1) * 4 + j; omega)]
    show (steps l)[(i + 1) * 4 + j - 4]? = _
    rw [← ih]
    congr 1
    omega
theorem steps_one (l : List Sp) : ∀ u ∈ steps l, u.oneCell' = true := by
  intro u hu
  obtain ⟨t, _, h⟩ := List.mem_flatMap.1 hu
  simp only [Sp.cells, List.mem_cons, List.not_mem_nil, or_false] at h
  rcases h with rfl | rfl | rfl | rfl <;> rfl
/-- A script, as it lies. -/
def ArgOps (w : World) (ao : Option Addr) (ts : List Sp) : Prop :=
  ∀ i t, ts[i]? = some t → ∃ g off, ao = some ⟨g, off, none⟩ ∧ g < w.heap.size ∧ w.cell? ⟨g, off + i * 4, none⟩ = some (.int .i64 t.k) ∧ w.cell? ⟨g, off + i * 4 + 1, none⟩ = some (.int .i64 t.id) ∧ w.cell? ⟨g, off + i * 4 + 2, none⟩ = some (.int .i64 t.n) ∧ w.cell? ⟨g, off + i * 4 + 3, none⟩ = some (.string t.s)
theorem ArgOps.below {w w' : World} {ao : Option Addr} {ts : List Sp} (h : ArgOps w ao ts) (hb : Below w.heap.size w w') : ArgOps w' ao ts := by
  intro i t ht
  obtain ⟨g, off, e, hg, k0, k1, k2, k3⟩ := h i t ht
  have hc : ∀ o, w'.cell? ⟨g, o, none⟩ = w.cell? ⟨g, o, none⟩ := fun o => hb.cell hg
  exact ⟨g, off, e, Nat.lt_of_lt_of_le hg hb.size, by rw [hc]; exact k0, by rw [hc]; exact k1, by rw [hc]; exact k2, by rw [hc]; exact k3⟩
/-- The first steps of a script, the first bytes of each. -/
def Sp.cut (t : Sp) : Sp := { t with s := t.s.extract 0 (min t.s.size 40) }
def earlyN (l : List Sp) : List Sp := (l.take 100).map Sp.cut
theorem sp_one (t : Sp) : ∀ u ∈ t.cells, u.oneCell' = true := fun u hu => steps_one [t] u (by show u ∈ t.cells ++ []; rw [List.append_nil]; exact hu)
theorem cells_new {W : World} {b : Nat} {l : List Value} {T : TypeId} (hb : b = W.heap.size) : ∀ (j : Nat) (u : Value), l[j]? = some u → (W.alloc (.cells l.toArray T)).cell? ((⟨b, 0, none⟩ : Addr).add j) = some u := by
  intro j u hu
  subst hb
  have e : (⟨W.heap.size, 0, none⟩ : Addr).add j = ⟨W.heap.size, j, none⟩ := by
    unfold Addr.add
    split
    · subst_vars; rfl
    · simp
  rw [e]
  have h1 := heap_alloc_new W (.cells l.toArray T)
  unfold World.cell?
  simp only [h1]
  simpa using hu
theorem info36 : (Try.prog.info? 36).map (fun i => (i.zero, i.size, i.bytes)) = some (some (.agg #[.int .i64 0, .int .i64 0, .int .i64 0, .string ⟨#[]⟩]), 4, 40) := by kernel_rfl
set_option maxHeartbeats 2000000 in
theorem early_any (ao : Option Addr) (cap : Nat) (l : List Sp) (w : World) (h : ArgOps w ao l) :
    Calls Try.prog 10 #[.slice ao l.length cap] w fun e w' => ∃ v, e = .returned v ∧ w'.ownsRow w.heap.size 36 4 v (earlyN l).length (steps (earlyN l)) ∧ Below w.heap.size w w' := by
  obtain ⟨i0, hi, hz0, hz1, hz2⟩ := info_parts info36
  have HR : Hid (ArgOps w ao l) := h
  obtain ⟨n, hn⟩ : ∃ n, l.length = n := ⟨_, rfl⟩
  have HN : Hid (l.length = n) := hn
  rw [hn]
  clear h hn
  go_enter Try.func10, Try.ntmps10
  go_wp2_with fail
  go_loopw [3, 4] (fun v0 i wr => ∃ (v : Value) (k : Nat), v = v0 ∧ k ≤ n ∧ k ≤ 100 ∧ i = .int .i64 (k : Int) ∧ wr.ownsRow w.heap.size 36 4 v k (steps ((l.take k).map Sp.cut)) ∧ Below w.heap.size w wr) (fun _ i _ => 100 - (intOf i).toNat)
  case atStart => exact ⟨_, 0, rfl, by omega, by omega, rfl, World.ownsRow_nil _ _ _ _, Below.refl _ _⟩
  case round =>
    obtain ⟨v, k, rfl, hkn, hk, rfl, ho, hb⟩ := hrel
    by_cases hlt : k < n ∧ k < 100
    · obtain ⟨t, ht⟩ : ∃ t, l[k]? = some t := ⟨_, List.getElem?_eq_getElem (by rw [HN.out]; exact hlt.1)⟩
      obtain ⟨g, off, rfl, hg, k0, k1, k2, k3⟩ := (HR.out.below hb) k t ht
      have HO : Hid (wr.ownsRow w.heap.size 36 4 v k (steps ((l.take k).map Sp.cut))) := ho
      have HB : Hid (Below w.heap.size w wr) := hb
      have EN : Hid ((l.take (k + 1)).map Sp.cut = (l.take k).map Sp.cut ++ [t.cut]) := by
        show _ = _
        rw [List.take_add_one, ht, List.map_append]
        rfl
      have hsz := hb.size
      have h1 : (k : Int) < (n : Int) := by omega
      have h2 : (k : Int) < 100 := by omega
      have h3 : (0 : Int) ≤ (k : Int) := by omega
      obtain ⟨tk, tid, tn, ts⟩ := t
      obtain ⟨m, hm⟩ : ∃ m, min ts.size 40 = m := ⟨_, rfl⟩
      have EM : Hid (Sp.cut ⟨tk, tid, tn, ts⟩ = ⟨tk, tid, tn, ts.extract 0 m⟩) := by
        show _ = _
        unfold Sp.cut
        rw [← hm]
      have hm1 : (if (40 : Int) < (ts.size : Int) then (40 : Int) else (ts.size : Int)) = (m : Int) := by split <;> omega
      have m0 : (0 : Int) ≤ (m : Int) := by omega
      have m1 : (m : Int) ≤ (ts.size : Int) := by omega
      simp only at k0 k1 k2 k3
      clear ho hb ht hm hlt
      go_wp2_with (at_builtin; refine wpList_append_own _ rfl _ _ 22 rfl w.heap.size 36 i0 _ 4 40 Try.underlying22 hi hz0 hz1 hz2 rfl (by decide) v k _ rfl (World.ownsRow.alloc (World.ownsRow.alloc HO.out _) _) ⟨wr.heap.size + 1, 0, none⟩ 1 1 (Sp.cells ⟨tk, tid, tn, ts.extract 0 m⟩) rfl rfl (cells_new (W := wr.alloc _) (by simp)) (sp_one _) (by unfold maxLen; omega) (by omega) (by simp; omega) ?_; intro v2 w2 ho2 hg2 hn2; have HO2 : Hid _ := ho2; have HG2 : Hid _ := hg2; clear ho2 hg2 hn2)
      go_roundw
      case rel =>
        refine ⟨_, k + 1, rfl, by omega, by omega, by go_num, ?_, ?_⟩
        · rw [EN.out, EM.out, steps_app]
          exact HO2.out
        · refine (((HB.out.alloc (by omega) _).alloc (by simp; omega) _).grown HG2.out (by simp; omega) fun g hg => ?_)
          exact (World.ownsRow.lt HO.out g hg).1
      case measure => simp [intOf]; omega
    · have HO : Hid (wr.ownsRow w.heap.size 36 4 v k (steps ((l.take k).map Sp.cut))) := ho
      have HB : Hid (Below w.heap.size w wr) := hb
      have e1 : k = min n 100 := by omega
      have EL : Hid ((earlyN l).length = k ∧ earlyN l = (l.take k).map Sp.cut) := by
        have e2 : l.take 100 = l.take k := by
          by_cases h100 : n < 100
          · rw [List.take_of_length_le (by rw [HN.out]; omega), List.take_of_length_le (by rw [HN.out]; omega)]
          · have : k = 100 := by omega
            rw [this]
        refine ⟨?_, by unfold earlyN; rw [e2]⟩
        unfold earlyN
        rw [e2, List.length_map, List.length_take, HN.out]
        omega
      have hq : n ≤ k ∨ 100 ≤ k := by omega
      clear ho hb hlt e1
      rcases hq with hq | hq
      · have h1 : ¬ (k : Int) < (n : Int) := by omega
        go_wp2_with fail
        go_ret
        refine ⟨_, rfl, ?_, HB.out⟩
        rw [EL.out.1, EL.out.2]
        exact HO.out
      · have h1 : ¬ (k : Int) < 100 := by omega
        by_cases hn2 : (k : Int) < (n : Int)
        · go_wp2_with fail
          go_ret
          refine ⟨_, rfl, ?_, HB.out⟩
          rw [EL.out.1, EL.out.2]
          exact HO.out
        · go_wp2_with fail
          go_ret
          refine ⟨_, rfl, ?_, HB.out⟩
          rw [EL.out.1, EL.out.2]
          exact HO.out
end Go.Proofs.Yteejehbgmkanpaa
