/-
  Over this program: a text looked up in a row of texts (slices.Index, slices.Contains), and the test that oneOf makes.
-/
import Derived.Test.YtmmkfpeckfmjeaaDoorElm
namespace Go.Proofs.YtmmkfpeckfmjeaaDoor
open Go Go.RowKit
def strCells (l : List (List UInt8)) : List Value := l.map fun x => .string ⟨x.toArray⟩
def IdxRes (b : Bool) (e : Ending) : Prop := ∃ i : Int, e = .returned (.int .i64 i) ∧ decide (0 ≤ i) = b
theorem str_get {l : List (List UInt8)} {j : Nat} {p : List UInt8} (h : l[j]? = some p) : (strCells l)[j]? = some (.string ⟨p.toArray⟩) := by
  unfold strCells
  rw [List.getElem?_map, h]
  rfl
theorem cont_drop {l : List (List UInt8)} {j : Nat} {p x : List UInt8} (h : l[j]? = some p) : (l.drop j).contains x = ((x == p) || (l.drop (j + 1)).contains x) := by
  obtain ⟨a, rfl⟩ := List.getElem?_eq_some_iff.1 h
  rw [List.drop_eq_getElem_cons a, List.contains_cons]
set_option maxHeartbeats 1000000 in
set_option maxRecDepth 100000 in
theorem index_any (ao : Option Addr) (cap : Nat) (l : List (List UInt8)) (x : List UInt8) (w : World) (h : Row (fun _ => True) w (.slice ao l.length cap) l.length (strCells l)) (hbig : l.length ≤ 2000000) :
    Calls Tryd.prog 70 #[.slice ao l.length cap, .string ⟨x.toArray⟩] w fun e w' => IdxRes (l.contains x) e ∧ Below w.heap.size w w' := by
  obtain ⟨r, hr⟩ : ∃ r, l.contains x = r := ⟨_, rfl⟩
  rw [hr]
  obtain ⟨n, hn⟩ : ∃ n, l.length = n := ⟨_, rfl⟩
  rw [hn] at h hbig ⊢
  have HR : Hid _ := hr
  have HN : Hid _ := hn
  have H : Hid (Row _ _ _ _ _) := h
  clear hr hn h
  go_enter Tryd.func70, Tryd.ntmps70
  go_wp2_with fail
  go_loopw [8] (fun i wr => ∃ j : Nat, j ≤ n ∧ i = .int .i64 j ∧ Below w.heap.size w wr ∧ r = (l.drop j).contains x) (fun i _ => n - (intOf i).toNat)
  case atStart => exact ⟨0, Nat.zero_le _, rfl, Below.refl _ _, HR.out.symm⟩
  case round =>
    obtain ⟨j, hj, rfl, hbw, hres⟩ := hrel
    have HRES : Hid _ := hres
    clear hres
    by_cases hlt : j < n
    · obtain ⟨p, hp⟩ : ∃ p, l[j]? = some p := ⟨_, List.getElem?_eq_getElem (by rw [HN.out]; exact hlt)⟩
      have gx := str_get hp
      obtain ⟨g, off, rfl, hg, hc⟩ := row_flat2 H.out gx
      have k0 : wr.cell? ⟨g, off + j, none⟩ = some (.string ⟨p.toArray⟩) := by rw [hbw.cell (p := ⟨g, _, none⟩) hg]; exact hc _ _ gx
      have hd := cont_drop (x := x) hp
      have hi0 : (0 : Int) ≤ (j : Int) := Int.natCast_nonneg _
      have hi1 : (j : Int) < (n : Int) := by omega
      cases hq : x == p with
      | true =>
        have HE : Hid (r = true) := by rw [HRES.out, hd, hq]; rfl
        clear hd hc gx hp
        go_wp2_with fail
        go_ret
        exact ⟨⟨j, rfl, by rw [HE.out]; exact decide_eq_true hi0⟩, hbw⟩
      | false =>
        have HE : Hid (r = (l.drop (j + 1)).contains x) := by rw [HRES.out, hd, hq]; rfl
        clear hd hc gx hp
        go_wp2_with fail
        go_roundw
        case rel => exact ⟨j + 1, by omega, by go_num, hbw, HE.out⟩
        case measure => simp [intOf]; omega
    · have HE : Hid (r = false) := by
        rw [HRES.out, List.drop_of_length_le (by rw [HN.out]; omega)]
        rfl
      have hnl : ¬ (j : Int) < (n : Int) := by omega
      go_wp2_with fail
      go_ret
      exact ⟨⟨-1, rfl, by rw [HE.out]; rfl⟩, hbw⟩
set_option maxHeartbeats 1000000 in
set_option maxRecDepth 100000 in
theorem contains_any (ao : Option Addr) (cap : Nat) (l : List (List UInt8)) (x : List UInt8) (w : World) (h : Row (fun _ => True) w (.slice ao l.length cap) l.length (strCells l)) (hbig : l.length ≤ 2000000) :
    Calls Tryd.prog 60 #[.slice ao l.length cap, .string ⟨x.toArray⟩] w fun e w' => e = .returned (.bool (l.contains x)) ∧ Below w.heap.size w w' := by
  have H := index_any ao cap l x w h hbig
  generalize l.contains x = r at H ⊢
  generalize (⟨x.toArray⟩ : ByteArray) = s at H ⊢
  generalize l.length = n at H ⊢
  clear h hbig
  go_enter Tryd.func60, Tryd.ntmps60
  go_wp2_with (go_at_call 70; refine H.mono ?_; rintro e w2 ⟨⟨i, rfl, hi⟩, hb2⟩)
  go_ret
  exact ⟨rfl, hb2⟩
/-- The row of texts that a test of oneOf keeps, at cell c, in blocks of P. -/
def OneAt (P : Nat → Prop) (w : World) (c : Nat) (l : List (List UInt8)) : Prop :=
  P c ∧ ∃ ao cap, w.cell? ⟨c, 0, none⟩ = some (.slice ao l.length cap) ∧ Row P w (.slice ao l.length cap) l.length (strCells l) ∧ l.length ≤ 2000000
theorem OneAt.step {P P' : Nat → Prop} {w w' : World} {c : Nat} {l : List (List UInt8)} (h : OneAt P w c l) (hp : ∀ k, P k → k < w.heap.size → P' k ∧ w'.heap[k]? = w.heap[k]?) : OneAt P' w' c l := by
  obtain ⟨h0, ao, cap, h1, h2, h3⟩ := h
  obtain ⟨q1, q2⟩ := hp c h0 (lt_of_cell h1)
  exact ⟨q1, ao, cap, (World.cell?_of_block (a := ⟨c, 0, none⟩) q2).trans h1, h2.step hp, h3⟩
set_option maxHeartbeats 1000000 in
set_option maxRecDepth 100000 in
theorem one_any {P : Nat → Prop} (c : Nat) (l : List (List UInt8)) (x : List UInt8) (w : World) (h : OneAt P w c l) :
    Calls Tryd.prog 59 #[.string ⟨x.toArray⟩, .pointer (some ⟨c, 0, none⟩)] w fun e w' => e = .returned (.bool (l.contains x)) ∧ Below w.heap.size w w' := by
  obtain ⟨_, ao, cap, h1, h2, h3⟩ := h
  have H := contains_any ao cap l x w (h2.step fun k _ _ => ⟨trivial, rfl⟩) h3
  generalize l.contains x = r at H ⊢
  generalize (⟨x.toArray⟩ : ByteArray) = s at H ⊢
  generalize l.length = n at H h1 ⊢
  clear h2 h3
  go_enter Tryd.func59, Tryd.ntmps59
  go_wp2_with (go_at_call 60; refine H.mono ?_; rintro e w2 ⟨rfl, hb2⟩)
  go_ret
  exact ⟨rfl, hb2⟩
/-- Blocks of P, and new ones. -/
def Nw (P : Nat → Prop) (B : Nat) (k : Nat) : Prop := P k ∨ B ≤ k
set_option maxHeartbeats 1000000 in
set_option maxRecDepth 100000 in
theorem oneOf_any {P : Nat → Prop} (ao : Option Addr) (cap : Nat) (l : List (List UInt8)) (w : World) (h : Row P w (.slice ao l.length cap) l.length (strCells l)) (hbig : l.length ≤ 2000000) :
    Calls Tryd.prog 37 #[.slice ao l.length cap] w fun e w' => e = .returned (.func (.func 59) #[] #[.pointer (some ⟨w.heap.size, 0, none⟩)]) ∧ OneAt (Nw P w.heap.size) w' w.heap.size l ∧ Below w.heap.size w w' := by
  have hmf : ∀ (fn : Fn) (first cap : Array Value) (w : World), (Instr.makeFunc fn first cap).run Tryd.prog w = .ok (.func fn first cap) w := fun _ _ _ _ => rfl
  have hb : ∀ o, Below w.heap.size w (w.alloc o) := fun o => (Below.refl _ _).alloc (Nat.le_refl _) o
  have H : Hid (Row _ _ _ _ _) := h
  have HB : Hid _ := hbig
  generalize hn : l.length = n at *
  clear h hbig
  go_enter Tryd.func37, Tryd.ntmps37
  go_wp2_with fail
  go_ret
  refine ⟨rfl, ⟨.inr (Nat.le_refl _), ao, cap, ?_, ?_, ?_⟩, hb _⟩
  · rw [hn]; exact Lib.cell_of_heap (heap_alloc_new w _) 0
  · rw [hn]; exact Row.step H.out fun k hk hl => ⟨.inl hk, (hb _).block k hl⟩
  · rw [hn]; exact HB.out
end Go.Proofs.YtmmkfpeckfmjeaaDoor
