/-
  The contract of (*Ring).Push over this program.
-/
import Derived.Test.YtjmggofcncladaaRb
namespace Go.Proofs.Ytjmggofcncladaa
open Go Go.RowKit
theorem push_nil (s : ByteArray) (w : World) : Calls Try.prog 32 #[.pointer none, .string s] w fun e w' => e = .returned (.bool false) ∧ w' = w := by
  go_enter Try.func32, Try.ntmps32
  go_wp2_with (first
    | (go_at_call 37; refine (len_nil _).mono ?_; rintro e w1 ⟨rfl, rfl⟩)
    | (go_at_call 40; refine (places_nil _).mono ?_; rintro e w1 ⟨rfl, rfl⟩))
  go_ret
  exact ⟨rfl, rfl⟩
theorem push_full (r p n f : Nat) (l : List ByteArray) (s : ByteArray) (w : World) (h : RgAt r p n f l w) (hl : l.length = n) :
    Calls Try.prog 32 #[.pointer (some ⟨r, 0, none⟩), .string s] w fun e w' => e = .returned (.bool false) ∧ w' = w := by
  have HL := fun W hh => len_any r p n f l.length W hh
  have HQ := fun W hh => places_any r p n f l.length W hh
  have HH : Hid (HdAt r p n f l.length w) := h.hd
  obtain ⟨c, hc⟩ : ∃ c, l.length = c := ⟨_, rfl⟩
  rw [hc] at HL HQ HH hl
  subst hl
  clear h hc
  go_enter Try.func32, Try.ntmps32
  go_wp2_with (first
    | (go_at_call 37; refine (HL _ HH.out).mono ?_; rintro e w1 ⟨rfl, rfl⟩)
    | (go_at_call 40; refine (HQ _ HH.out).mono ?_; rintro e w1 ⟨rfl, rfl⟩))
  go_ret
  exact ⟨rfl, rfl⟩
/-- The places behind a push. -/
theorem push_lies {n f c : Nat} {l g : List ByteArray} {s : ByteArray} (hf : f < n) (hc : l.length = c) (hl : c < n) (hg : g.length = n) (h : ∀ i, i < l.length → g[(f + i) % n]? = l[i]?) :
    ∀ i, i < (l ++ [s]).length → (g.set ((f + c) % n) s)[(f + i) % n]? = (l ++ [s])[i]? := by
  intro i hi
  subst hc
  simp at hi
  by_cases h1 : i < l.length
  · rw [List.getElem?_set_ne (Ne.symm (mod_ne hf h1 hl)), h i h1, List.getElem?_append_left h1]
  · obtain rfl : i = l.length := by omega
    rw [List.getElem?_set_self (by rw [hg]; exact Nat.mod_lt _ (by omega))]
    simp
theorem push_at {r p n f c y : Nat} {l g : List ByteArray} {s : ByteArray} {w w' : World} (h1 : HdAt r p n f c w) (h2 : PlAt p n g w) (h3 : ∀ i, i < l.length → g[(f + i) % n]? = l[i]?) (hc : l.length = c) (hy : (f + c) % n = y)
    (hn : 0 < n) (h64 : n ≤ 64) (hf : f < n) (hl : c < n) (hw : w'.heap = ((w.setCell ⟨p, y, none⟩ (.string s)).setCell ⟨r, 2, none⟩ (.int .i64 ((c + 1 : Nat) : Int))).heap) : RgAt r p n f (l ++ [s]) w' := by
  have hne := ne_rp h1 h2
  have k2 := h2.set y s
  have k1 : HdAt r p n f c (w.setCell ⟨p, y, none⟩ (.string s)) := h1.keep (Below.heap_setCell _ _ _ _ hne)
  have j1 := k1.set2 (c + 1)
  have j2 : PlAt p n (g.set y s) ((w.setCell ⟨p, y, none⟩ (.string s)).setCell ⟨r, 2, none⟩ (.int .i64 ((c + 1 : Nat) : Int))) := k2.keep (Below.heap_setCell _ _ _ _ hne.symm)
  have e : (l ++ [s]).length = c + 1 := by simp [hc]
  subst hy
  refine ⟨hn, h64, hf, by omega, ?_, _, ⟨j2.1, by rw [hw]; exact j2.2⟩, push_lies hf hc hl h2.1 h3⟩
  rw [e]
  show _ = _
  rw [hw]
  exact j1
set_option maxHeartbeats 1000000 in
theorem push_ok (r p n f : Nat) (l : List ByteArray) (s : ByteArray) (w : World) (h : RgAt r p n f l w) (hl : l.length < n) :
    Calls Try.prog 32 #[.pointer (some ⟨r, 0, none⟩), .string s] w fun e w' => e = .returned (.bool true) ∧ RgAt r p n f (l ++ [s]) w' ∧ Fz r p w w' := by
  have h64 := h.n64
  have hn0 := h.n0
  have hfn := h.fn
  have HL := fun W hh => len_any r p n f l.length W hh
  have HQ := fun W hh => places_any r p n f l.length W hh
  have HP := fun W hh => place_any r p n f l.length l.length W hh h.n0 h.n64 h.fn (by omega)
  obtain ⟨g, hp, hg⟩ := h.pl
  have hml := Nat.mod_lt (f + l.length) h.n0
  obtain ⟨t, ht⟩ := hp.get hml
  have HC := hp.cell ht
  have HF := hp.frozen ((f + l.length) % n)
  have HH : Hid (HdAt r p n f l.length w) := h.hd
  have HPL : Hid (PlAt p n g w) := hp
  have HG : Hid (∀ i, i < l.length → g[(f + i) % n]? = l[i]?) := hg
  have c0 := h.hd.c0
  have c2 := h.hd.c2
  have f2 := h.hd.fz 2
  have hne := ne_rp h.hd hp
  have hne' : ¬ p = r := fun e => hne e.symm
  obtain ⟨c, hc⟩ : ∃ c, l.length = c := ⟨_, rfl⟩
  have EC : Hid _ := hc
  rw [hc] at HL HQ HH HP HC HF hml hl c2
  obtain ⟨y, hy⟩ : ∃ y, (f + c) % n = y := ⟨_, rfl⟩
  have EY : Hid _ := hy
  rw [hy] at HP HC HF hml
  have hd : ((c : Int) == (n : Int)) = false := by simp; omega
  have y0 : (0 : Int) ≤ (y : Int) := by omega
  have y1 : (y : Int) < (n : Int) := by omega
  have hwc : IntKind.i64.wrap ((c : Int) + 1) = ((c + 1 : Nat) : Int) := by simp only [IntKind.wrap_i64]; omega
  clear h hp hg ht hy hc hne
  go_enter Try.func32, Try.ntmps32
  go_wp2_with (first
    | (go_at_call 37; refine (HL _ HH.out).mono ?_; rintro e w1 ⟨rfl, rfl⟩)
    | (go_at_call 40; refine (HQ _ HH.out).mono ?_; rintro e w1 ⟨rfl, rfl⟩))
  go_region_with (go_at_call 41; refine (HP _ ?_).mono ?_; exact HH.out; rintro e w1 ⟨rfl, m, rfl⟩)
  all_goals (
    go_wp2_with fail
    go_ret
    refine ⟨rfl, push_at HH.out HPL.out HG.out EC.out EY.out hn0 h64 hfn hl rfl, ?_⟩
    exact (((Fz.refl r p _).setCell p y (.string s) (.inr rfl)).setCell r 2 (.int .i64 ((c + 1 : Nat) : Int)) (.inl rfl)).alike rfl rfl rfl rfl)
end Go.Proofs.Ytjmggofcncladaa
