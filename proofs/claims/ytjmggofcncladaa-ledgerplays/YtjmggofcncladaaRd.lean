/-
  The contract of (*Ring).Drop over this program.
-/
import Derived.Test.YtjmggofcncladaaRc
namespace Go.Proofs.Ytjmggofcncladaa
open Go Go.RowKit
theorem drop_nil (k : Int) (w : World) : Calls Try.prog 35 #[.pointer none, .int .i64 k] w fun e w' => e = .returned (.bool false) ∧ w' = w := by
  go_enter Try.func35, Try.ntmps35
  go_wp2_with fail
  go_ret
  exact ⟨rfl, rfl⟩
theorem drop_bad (r p n f : Nat) (l : List ByteArray) (k : Int) (w : World) (h : RgAt r p n f l w) (hk : ¬ (0 ≤ k ∧ k ≤ l.length)) :
    Calls Try.prog 35 #[.pointer (some ⟨r, 0, none⟩), .int .i64 k] w fun e w' => e = .returned (.bool false) ∧ w' = w := by
  have c2 := h.hd.c2
  obtain ⟨c, hc⟩ : ∃ c, l.length = c := ⟨_, rfl⟩
  rw [hc] at hk c2
  clear h hc
  by_cases k0 : k < 0
  · clear hk
    go_enter Try.func35, Try.ntmps35
    go_wp2_with fail
    go_ret
    exact ⟨rfl, rfl⟩
  · have k1 : (c : Int) < k := by omega
    clear hk
    go_enter Try.func35, Try.ntmps35
    go_wp2_with fail
    go_ret
    exact ⟨rfl, rfl⟩
/-- The texts from the j-th on lie in their places. -/
def DrAt (p n f j : Nat) (l : List ByteArray) (w : World) : Prop := ∃ g, PlAt p n g w ∧ ∀ i, j ≤ i → i < l.length → g[(f + i) % n]? = l[i]?
theorem drop_step {r p n f j c y : Nat} {l g : List ByteArray} {w w' : World} (h1 : HdAt r p n y c w) (h2 : PlAt p n g w) (h3 : ∀ i, j ≤ i → i < l.length → g[(f + i) % n]? = l[i]?) (hy : (f + j) % n = y)
    (hl : l.length ≤ n) (hf : f < n) (hw : w'.heap = ((w.setCell ⟨p, y, none⟩ (.string ⟨#[]⟩)).setCell ⟨r, 1, none⟩ (.int .i64 (((y + 1) % n : Nat) : Int))).heap) :
    DrAt p n f (j + 1) l w' ∧ HdAt r p n ((f + (j + 1)) % n) c w' := by
  have hne := ne_rp h1 h2
  have k1 : HdAt r p n y c (w.setCell ⟨p, y, none⟩ (.string ⟨#[]⟩)) := h1.keep (Below.heap_setCell _ _ _ _ hne)
  have j1 := k1.set1 ((y + 1) % n)
  have j2 := (h2.set y ⟨#[]⟩).keep (Below.heap_setCell _ ⟨r, 1, none⟩ (.int .i64 (((y + 1) % n : Nat) : Int)) _ hne.symm)
  subst hy
  refine ⟨⟨_, ⟨j2.1, by rw [hw]; exact j2.2⟩, fun i hi1 hi2 => ?_⟩, ?_⟩
  · rw [List.getElem?_set_ne (mod_ne hf hi1 (by omega))]
    exact h3 i (by omega) hi2
  · rw [mod_mod] at j1
    show _ = _
    rw [hw, mod_mod]
    exact j1
theorem drop_end {r p n f k c : Nat} {l : List ByteArray} {w w' : World} (h1 : DrAt p n f k l w) (h2 : HdAt r p n ((f + k) % n) c w) (h0 : 0 < n) (h64 : n ≤ 64) (hl : l.length = c) (hn : c ≤ n) (hk : k ≤ c)
    (hw : w'.heap = (w.setCell ⟨r, 2, none⟩ (.int .i64 ((c - k : Nat) : Int))).heap) : RgAt r p n ((f + k) % n) (l.drop k) w' := by
  obtain ⟨g, h3, h4⟩ := h1
  have hne := ne_rp h2 h3
  have j1 := h2.set2 (c - k)
  have j2 := h3.keep (Below.heap_setCell w ⟨r, 2, none⟩ (.int .i64 ((c - k : Nat) : Int)) _ hne.symm)
  have e : (l.drop k).length = c - k := by rw [List.length_drop, hl]
  refine ⟨h0, h64, Nat.mod_lt _ h0, by omega, ?_, g, ⟨j2.1, by rw [hw]; exact j2.2⟩, fun i hi => ?_⟩
  · rw [e]
    show _ = _
    rw [hw]
    exact j1
  · rw [mod_mod, h4 (k + i) (by omega) (by omega), List.getElem?_drop]
set_option maxHeartbeats 1000000 in
theorem drop_ok (r p n f : Nat) (l : List ByteArray) (k : Nat) (w : World) (h : RgAt r p n f l w) (hk : k ≤ l.length) :
    Calls Try.prog 35 #[.pointer (some ⟨r, 0, none⟩), .int .i64 (k : Int)] w fun e w' => e = .returned (.bool true) ∧ RgAt r p n ((f + k) % n) (l.drop k) w' ∧ Fz r p w w' := by
  have h64 := h.n64
  have hn0 := h.n0
  have hfn := h.fn
  have hln := h.ln
  have c2 := h.hd.c2
  have hst : DrAt p n f 0 l w := by
    obtain ⟨g, h1, h2⟩ := h.pl
    exact ⟨g, h1, fun i _ hi => h2 i hi⟩
  have hs2 : HdAt r p n ((f + 0) % n) l.length w := by
    rw [Nat.add_zero, Nat.mod_eq_of_lt hfn]
    exact h.hd
  have HS : Hid _ := hst
  have HS2 : Hid _ := hs2
  obtain ⟨c, hc⟩ : ∃ c, l.length = c := ⟨_, rfl⟩
  have EC : Hid _ := hc
  rw [hc] at hk hln c2 HS2
  have k0 : ¬ (k : Int) < 0 := by omega
  have k1 : ¬ (c : Int) < (k : Int) := by omega
  clear h hst hs2 hc
  go_enter Try.func35, Try.ntmps35
  go_wp2_with fail
  go_loopw [20] (fun i wr => ∃ j : Nat, j ≤ k ∧ i = .int .i64 (j : Int) ∧ DrAt p n f j l wr ∧ HdAt r p n ((f + j) % n) c wr ∧ Fz r p w wr) (fun i _ => k - (intOf i).toNat)
  case atStart => exact ⟨0, Nat.zero_le _, rfl, HS.out, HS2.out, Fz.refl _ _ _⟩
  case round =>
    obtain ⟨j, hj, rfl, hd, hh, hfz⟩ := hrel
    by_cases hlt : j < k
    · obtain ⟨g, hp, hg⟩ := hd
      have hml := Nat.mod_lt (f + j) hn0
      obtain ⟨t, ht⟩ := hp.get hml
      have HC := hp.cell ht
      have HF := hp.frozen ((f + j) % n)
      have HP : ∀ W, HdAt r p n ((f + j) % n) c W → Calls Try.prog 41 #[.pointer (some ⟨r, 0, none⟩), .int .i64 1] W fun e w' => e = .returned (.int .i64 ((((f + j) % n + 1) % n : Nat) : Int)) ∧ ∃ m, w' = W.drewN m := fun W hh => place_any r p n ((f + j) % n) c 1 W hh hn0 h64 hml (by omega)
      have HH : Hid (HdAt r p n ((f + j) % n) c wr) := hh
      have HPL : Hid (PlAt p n g wr) := hp
      have HG : Hid (∀ i, j ≤ i → i < l.length → g[(f + i) % n]? = l[i]?) := hg
      have HFZ : Hid _ := hfz
      have c0 := hh.c0
      have c1 := hh.c1
      have f1 := hh.fz 1
      have hne := ne_rp hh hp
      have hne' : ¬ p = r := fun e => hne e.symm
      obtain ⟨y, hy⟩ : ∃ y, (f + j) % n = y := ⟨_, rfl⟩
      have EY : Hid _ := hy
      rw [hy] at HP HC HF hml HH c1
      obtain ⟨z, hz⟩ : ∃ z, (y + 1) % n = z := ⟨_, rfl⟩
      have EZ : Hid _ := hz
      simp only [hz] at HP
      have y0 : (0 : Int) ≤ (y : Int) := by omega
      have y1 : (y : Int) < (n : Int) := by omega
      have hlt' : (j : Int) < (k : Int) := by omega
      have HHS : Hid (∀ W : World, W.heap = (wr.setCell ⟨p, y, none⟩ (.string ⟨#[]⟩)).heap → HdAt r p n y c W) := by
        intro W hW
        show _ = _
        rw [hW, Below.heap_setCell _ _ _ _ hne]
        exact HH.out
      clear hh hp hg ht hy hz hfz hne
      go_wp2_with fail
      go_region
      go_wp2_with (go_at_call 41; refine (HP _ ?_).mono ?_; exact HHS.out _ rfl; rintro e w1 ⟨rfl, m, rfl⟩)
      go_roundw
      case rel =>
        obtain ⟨d1, d2⟩ := drop_step (w' := (wr.setCell ⟨p, y, none⟩ (.string ⟨#[]⟩)).setCell ⟨r, 1, none⟩ (.int .i64 (z : Int))) HH.out HPL.out HG.out EY.out (by rw [EC.out]; exact hln) hfn (by rw [EZ.out])
        exact ⟨j + 1, by omega, by go_num, d1, d2, ((Fz.setCell HFZ.out p y (.string ⟨#[]⟩) (.inr rfl)).setCell r 1 (.int .i64 (z : Int)) (.inl rfl)).alike rfl rfl rfl rfl⟩
      case measure => simp [intOf]; omega
    · obtain rfl : j = k := by omega
      have f2 := hh.fz 2
      have c2' := hh.c2
      have HH : Hid (HdAt r p n ((f + j) % n) c wr) := hh
      have HD : Hid _ := hd
      have HFZ : Hid _ := hfz
      have hnl : ¬ (j : Int) < (j : Int) := by omega
      have hwc : IntKind.i64.wrap ((c : Int) - (j : Int)) = ((c - j : Nat) : Int) := by simp only [IntKind.wrap_i64]; omega
      clear hh hd hfz
      go_wp2_with fail
      go_ret
      refine ⟨rfl, drop_end HD.out HH.out hn0 h64 EC.out hln hk rfl, ?_⟩
      exact Fz.setCell HFZ.out r 2 _ (.inl rfl)
end Go.Proofs.Ytjmggofcncladaa
