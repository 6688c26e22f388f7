/-
  The contract of (*Ring).behind and List over this program.
-/
import Derived.Test.YtjmggofcncladaaRd
import Derived.Deep.RegionLaw
namespace Go.Proofs.Ytjmggofcncladaa
open Go Go.RowKit
/-- A row of texts that a call made. -/
def TxAt (B : Nat) (ao : Option Addr) (cap : Nat) (l : List ByteArray) (w : World) : Prop := w.ownsRow B 9 1 (.slice ao l.length cap) l.length (strs l)
/-- A call's answer: a row of texts. -/
def TxRes (B : Nat) (l : List ByteArray) (e : Ending) (w : World) : Prop := ∃ ao cap, e = .returned (.slice ao l.length cap) ∧ TxAt B ao cap l w
theorem behind_nil (k : Nat) (w : World) : Calls Try.prog 42 #[.pointer none, .int .i64 (k : Int)] w fun e w' => e = .returned (.slice none 0 0) ∧ w' = w := by
  have k0 : (0 : Int) ≤ (k : Int) := by omega
  go_enter Try.func42, Try.ntmps42
  go_wp2_with (go_at_call 37; refine (len_nil _).mono ?_; rintro e w1 ⟨rfl, rfl⟩)
  go_ret
  exact ⟨rfl, rfl⟩
theorem behind_none (r p n f : Nat) (l : List ByteArray) (k : Nat) (w : World) (h : RgAt r p n f l w) (hk : l.length ≤ k) :
    Calls Try.prog 42 #[.pointer (some ⟨r, 0, none⟩), .int .i64 (k : Int)] w fun e w' => e = .returned (.slice none 0 0) ∧ w' = w := by
  have HL := fun W hh => len_any r p n f l.length W hh
  have HH : Hid (HdAt r p n f l.length w) := h.hd
  obtain ⟨c, hc⟩ : ∃ c, l.length = c := ⟨_, rfl⟩
  rw [hc] at HL HH hk
  have k0 : (c : Int) ≤ (k : Int) := by omega
  clear h hc
  go_enter Try.func42, Try.ntmps42
  go_wp2_with (go_at_call 37; refine (HL _ HH.out).mono ?_; rintro e w1 ⟨rfl, rfl⟩)
  go_ret
  exact ⟨rfl, rfl⟩
/-- Two copies fill a row. -/
theorem splice_two (Z X Y : List Value) (a : Nat) (hx : X.length = a) (hz : Z.length = a + Y.length) : splice (splice Z 0 X) a Y = X ++ Y := by
  subst hx
  have e1 : splice Z 0 X = X ++ Z.drop X.length := by simp [splice]
  rw [e1]
  unfold splice
  have e2 : (X ++ Z.drop X.length).drop (X.length + Y.length) = [] := by
    apply List.drop_eq_nil_of_le; simp; omega
  rw [e2]
  simp
theorem round_two {n f k m q : Nat} {l g : List ByteArray} (hf : f < n) (hg : g.length = n) (hk : k ≤ n) (hm : l.length = k + m) (hl : l.length ≤ n) (hq : (f + k) % n = q) (h : ∀ i, i < l.length → g[(f + i) % n]? = l[i]?) :
    (g.drop q).take m ++ g.take (m - min (n - q) m) = l.drop k := by
  have hqn : q < n := by rw [← hq]; exact Nat.mod_lt _ (by omega)
  apply List.ext_getElem?
  intro i
  by_cases hi : i < m
  · have h1 := h (k + i) (by omega)
    rw [← mod_mod, hq, mod_if q i n hqn (by omega)] at h1
    rw [List.getElem?_drop, ← h1]
    by_cases h2 : i < min (n - q) m
    · rw [List.getElem?_append_left (by simp; omega), List.getElem?_take_of_lt hi, List.getElem?_drop, if_pos (by omega)]
    · rw [List.getElem?_append_right (by simp; omega), if_neg (by omega)]
      have e : ((g.drop q).take m).length = n - q := by simp; omega
      rw [e, List.getElem?_take_of_lt (by omega)]
      congr 1
      omega
  · rw [List.getElem?_eq_none (by simp; omega), List.getElem?_eq_none (by simp; omega)]
set_option maxHeartbeats 1000000 in
theorem behind_some (r p n f : Nat) (l : List ByteArray) (k : Nat) (w : World) (h : RgAt r p n f l w) (hk : k < l.length) :
    Calls Try.prog 42 #[.pointer (some ⟨r, 0, none⟩), .int .i64 (k : Int)] w fun e w' => TxRes w.heap.size (l.drop k) e w' ∧ Below w.heap.size w w' := by
  have h64 := h.n64
  have hn0 := h.n0
  have hfn := h.fn
  have hln := h.ln
  have HL := fun W hh => len_any r p n f l.length W hh
  have HP := fun W hh => place_any r p n f l.length k W hh hn0 h64 hfn (by omega)
  obtain ⟨g, hp, hg⟩ := h.pl
  have hq := Nat.mod_lt (f + k) hn0
  obtain ⟨rl, pl⟩ := h.lt
  obtain ⟨m, hm⟩ : ∃ m, l.length = k + m := ⟨l.length - k, by omega⟩
  have c0 := h.hd.c0
  have c2 := h.hd.c2
  have HH : Hid (HdAt r p n f l.length w) := h.hd
  obtain ⟨q, hq'⟩ : ∃ q, (f + k) % n = q := ⟨_, rfl⟩
  have HR : Hid _ := round_two hfn hp.1 (by omega) hm hln hq' hg
  rw [hq'] at hq HP
  obtain ⟨a1, ha1⟩ : ∃ a1, min (n - q) m = a1 := ⟨_, rfl⟩
  rw [ha1] at HR
  obtain ⟨c, hc⟩ : ∃ c, l.length = c := ⟨_, rfl⟩
  have EC : Hid _ := hc
  rw [hc] at HL HP HH c2 hk hln hm
  obtain ⟨X, hX⟩ : ∃ X, strs ((g.drop q).take m) = X := ⟨_, rfl⟩
  obtain ⟨Y, hY⟩ : ∃ Y, strs (g.take (m - a1)) = Y := ⟨_, rfl⟩
  obtain ⟨Z, hZ⟩ : ∃ Z, strs (List.replicate m ⟨#[]⟩) = Z := ⟨_, rfl⟩
  have hXl : X.length = a1 := by rw [← hX, strs_length]; simp; rw [hp.1]; omega
  have hYl : Y.length = m - a1 := by rw [← hY, strs_length]; simp; rw [hp.1]; omega
  have hZl : Z.length = m := by rw [← hZ, strs_length]; simp
  have hmk := run_make_row' (P := Try.prog) 39 9 (.string ⟨#[]⟩) 16 Try.underlying39 info9 rfl .i64 .i64 m (by omega) (by omega)
  rw [made_strs, hZ] at hmk
  have k0 : ¬ (c : Int) ≤ (k : Int) := by omega
  have hwm : IntKind.i64.wrap ((c : Int) - (k : Int)) = ((m : Nat) : Int) := by simp only [IntKind.wrap_i64]; omega
  have q0 : (0 : Int) ≤ (q : Int) := by omega
  have nq : ¬ n = q := by omega
  have q1 : (q : Int) ≤ (n : Int) := by omega
  have hsz : (Try.prog.info? 9).map (·.size) = some 1 := by kernel_rfl
  have HG1 : Hid (∀ W : World, W.heap = (w.alloc (.cells Z.toArray 9)).heap → W.heap[w.heap.size]? = some (.cells Z.toArray 9 (0, 0))) := fun W hW => by rw [hW]; exact heap_alloc_new _ _
  have HB1 : Hid (∀ W : World, W.os = w.os → W.tape = w.tape → W.output = w.output → W.heap = (w.alloc (.cells Z.toArray 9)).heap → Below w.heap.size w W) := fun W e1 e2 e3 e4 => below_alike ((Below.refl _ w).alloc (Nat.le_refl _) (.cells Z.toArray 9)) e1 e2 e3 e4
  have HHD : Hid (∀ W : World, W.heap = (w.alloc (.cells Z.toArray 9)).heap → HdAt r p n f c W) := fun W hW => by
    show _ = _
    rw [hW, Below.heap_alloc _ _ _ rl]
    exact HH.out
  have HPL : Hid (PlAt p n g w) := hp
  have HS1 : Hid (∀ W : World, Below w.heap.size w W → ∀ j v, X[j]? = some v → W.cell? ((⟨p, q, none⟩ : Addr).add j) = some v) := by
    intro W hW j v hv
    have hadd : (⟨p, q, none⟩ : Addr).add j = ⟨p, q + j, none⟩ := by unfold Addr.add; split <;> simp_all
    have hj : j < a1 := by have := (List.getElem?_eq_some_iff.1 hv).1; omega
    rw [hadd, hW.cell (p := ⟨p, q + j, none⟩) pl]
    rw [← hX, strs_get, List.getElem?_take_of_lt (by omega), List.getElem?_drop] at hv
    obtain ⟨s, h1, rfl⟩ := Option.map_eq_some_iff.1 hv
    exact HPL.out.cell h1
  have HS2 : Hid (∀ W : World, Below w.heap.size w W → ∀ j v, Y[j]? = some v → W.cell? ((⟨p, 0, none⟩ : Addr).add j) = some v) := by
    intro W hW j v hv
    have hadd : (⟨p, 0, none⟩ : Addr).add j = ⟨p, j, none⟩ := by unfold Addr.add; split <;> simp_all
    have hj : j < m - a1 := by have := (List.getElem?_eq_some_iff.1 hv).1; omega
    rw [hadd, hW.cell (p := ⟨p, j, none⟩) pl]
    rw [← hY, strs_get, List.getElem?_take_of_lt (by omega)] at hv
    obtain ⟨s, h1, rfl⟩ := Option.map_eq_some_iff.1 hv
    exact HPL.out.cell h1
  have HX : Hid (strs ((g.drop q).take m) = X) := hX
  have HY : Hid (strs (g.take (m - a1)) = Y) := hY
  have HX1 : Hid (∀ v ∈ X, v.oneCell' = true) := by rw [← hX]; exact strs_one _
  have HY1 : Hid (∀ v ∈ Y, v.oneCell' = true) := by rw [← hY]; exact strs_one _
  have HXL : Hid _ := hXl
  have HYL : Hid _ := hYl
  have HZL : Hid _ := hZl
  have HA1 : Hid _ := ha1
  have HM : Hid _ := hm
  have ha2 : a1 ≤ m := by omega
  have hmn : m ≤ n := by omega
  obtain ⟨dp, hdp⟩ : ∃ dp, (if m = a1 then some (⟨w.heap.size, 0, none⟩ : Addr) else some ⟨w.heap.size, a1, none⟩) = dp := ⟨_, rfl⟩
  have HDP : Hid (0 < Y.length → dp = some ⟨w.heap.size, a1, none⟩) := fun hh => by rw [← hdp]; exact if_neg (by omega)
  clear h hp hg hq' hc hX hY hZ hXl hYl hZl ha1 hm
  go_enter Try.func42, Try.ntmps42
  go_wp2_with (go_at_call 37; refine (HL _ HH.out).mono ?_; rintro e w ⟨rfl, rfl⟩)
  go_region_law (first
    | (refine step_copy_splice rfl (.tmp 18) (.tmp 26) 39 39 rfl 9 Try.underlying39 hsz (some ⟨w.heap.size, 0, none⟩) (some ⟨p, q, none⟩) m m (n - q) (n - q) (by rfl) (by rfl) w.heap.size 0 Z 9 (by exact HG1.out _ rfl) X (by rw [HXL.out]; exact HA1.out.symm) (by exact fun _ => ⟨rfl, _, rfl, HS1.out _ (HB1.out _ rfl rfl rfl rfl)⟩) (by rw [HXL.out, HZL.out]; omega) HX1.out w.heap.size w (by exact HB1.out _ rfl rfl rfl rfl) (Nat.le_refl _) ?_
       rw [HXL.out]
       intro w4 hg4 hb4
       have c0' : w4.cell? ⟨r, 0, none⟩ = some (.slice (some ⟨p, 0, none⟩) n n) := (hb4.cell (p := ⟨r, 0, none⟩) rl).trans c0)
    | (go_simp; go_at_call 41; refine (HP _ ?_).mono ?_; exact HHD.out _ rfl; rintro e w1 ⟨rfl, mm, rfl⟩))
  all_goals (
    go_wp2_with fail
    go_region_law (first
      | (refine step_copy_splice rfl (.tmp 30) (.tmp 34) 39 39 rfl 9 Try.underlying39 hsz _ (some ⟨p, 0, none⟩) (m - a1) (m - a1) n n (by rfl) (by rfl) w.heap.size a1 (splice Z 0 X) 9 (by exact hg4.out) Y (by rw [HYL.out]; show _ = min _ _; omega) (by exact fun hh => ⟨HDP.out hh, _, rfl, HS2.out _ (below_alike hb4 rfl rfl rfl rfl)⟩) (by rw [HYL.out, length_splice _ _ _ (by rw [HXL.out, HZL.out]; omega), HZL.out]; omega) HY1.out w.heap.size w (by exact below_alike hb4 rfl rfl rfl rfl) (Nat.le_refl _) ?_
         rw [HYL.out]
         intro w5 hg5 hb5))
    go_wp2_with fail
    go_ret
    refine ⟨?_, hb5⟩
    rw [splice_two Z X Y a1 HXL.out (by rw [HYL.out, HZL.out]; omega), ← HX.out, ← HY.out, ← strs_app, HR.out] at hg5
    have hle : (l.drop k).length = m := by rw [List.length_drop, EC.out]; have := HM.out; omega
    refine ⟨some ⟨w.heap.size, 0, none⟩, m, by rw [hle]; rfl, ?_⟩
    unfold TxAt
    rw [hle]
    refine ⟨by rw [strs_length, hle, Nat.mul_one], .inr ⟨w.heap.size, m, _, rfl, Nat.le_refl _, hg5.out, Nat.le_refl _, by unfold maxLen; omega, by rw [List.size_toArray, strs_length, hle, Nat.mul_one], ?_⟩⟩
    rw [Nat.mul_one]
    exact List.take_of_length_le (by rw [strs_length, hle]; exact Nat.le_refl _))
/-- (*Ring).behind, in either case. -/
theorem behind_any (r p n f : Nat) (l : List ByteArray) (k : Nat) (w : World) (h : RgAt r p n f l w) :
    Calls Try.prog 42 #[.pointer (some ⟨r, 0, none⟩), .int .i64 (k : Int)] w fun e w' => TxRes w.heap.size (l.drop k) e w' ∧ Below w.heap.size w w' := by
  by_cases hk : k < l.length
  · exact behind_some r p n f l k w h hk
  · refine (behind_none r p n f l k w h (by omega)).mono fun e w' ⟨he, hw⟩ => ?_
    subst he hw
    rw [List.drop_eq_nil_of_le (by omega)]
    exact ⟨⟨none, 0, rfl, World.ownsRow_nil _ _ _ _⟩, Below.refl _ _⟩
theorem list_any (r p n f : Nat) (l : List ByteArray) (w : World) (h : RgAt r p n f l w) :
    Calls Try.prog 39 #[.pointer (some ⟨r, 0, none⟩)] w fun e w' => TxRes w.heap.size l e w' ∧ Below w.heap.size w w' := by
  have H0 : Calls Try.prog 42 #[.pointer (some ⟨r, 0, none⟩), .int .i64 0] w fun e w' => TxRes w.heap.size l e w' ∧ Below w.heap.size w w' := behind_any r p n f l 0 w h
  clear h
  go_enter Try.func39, Try.ntmps39
  go_wp2_with (go_at_call 42; refine H0.mono ?_; rintro e w1 ⟨⟨ao, cap, rfl, ht⟩, hb⟩)
  go_ret
  exact ⟨⟨ao, cap, rfl, ht⟩, hb⟩
theorem list_nil (w : World) : Calls Try.prog 39 #[.pointer none] w fun e w' => e = .returned (.slice none 0 0) ∧ w' = w := by
  have H0 : Calls Try.prog 42 #[.pointer none, .int .i64 0] w fun e w' => e = .returned (.slice none 0 0) ∧ w' = w := behind_nil 0 w
  go_enter Try.func39, Try.ntmps39
  go_wp2_with (go_at_call 42; refine H0.mono ?_; rintro e w1 ⟨rfl, rfl⟩)
  go_ret
  exact ⟨rfl, rfl⟩
end Go.Proofs.Ytjmggofcncladaa
