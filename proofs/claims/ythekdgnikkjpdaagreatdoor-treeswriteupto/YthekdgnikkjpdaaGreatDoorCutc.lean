/-
  An element with few of all (plain); that slices of an argument hold no more than they may (CapE); over this program: the statements' cut, up to its loop.
-/
import Derived.Test.YthekdgnikkjpdaaGreatDoorOpne
import Derived.Test.YthekdgnikkjpdaaGreatDoorSamc
import Derived.Test.YthekdgnikkjpdaaGreatDoorBelj
namespace Go.Proofs.YthekdgnikkjpdaaGreatDoor
open Go Go.RowKit
/-- An element with few of all, so many levels. -/
def cutE : Nat → Bool → El → El
  | 0, _, e => ⟨e.nm, e.attrs.take 8, e.text.take 40, []⟩
  | r + 1, top, e => ⟨e.nm, e.attrs.take 8, e.text.take 40, (e.kids.take (if top then 18 else 3)).map (cutE r false)⟩
def CapV (v : Value) : Prop := ∃ ao n cap, v = .slice ao n cap ∧ n ≤ cap ∧ (ao = none → cap = 0)
/-- Slices within an element, so many levels, hold no more than they may. -/
def CapE (w : World) : Nat → Value → Value → Prop
  | 0, _, _ => True
  | n + 1, b, d => CapV b ∧ ∃ ao m cap, d = .slice ao m cap ∧ m ≤ cap ∧ ∀ i, i < m → ∃ ad b' d', ao = some ad ∧ w.cell? (ad.add (i * 4 + 1)) = some b' ∧ w.cell? (ad.add (i * 4 + 3)) = some d' ∧ CapE w n b' d'
theorem CapE.below {w w' : World} (hb : Below w.heap.size w w') : ∀ {n : Nat} {b d : Value}, CapE w n b d → CapE w' n b d
  | 0, _, _, _ => trivial
  | _ + 1, _, _, ⟨h1, ao, m, cap, h2, h3, h4⟩ => ⟨h1, ao, m, cap, h2, h3, fun i hi => by
      obtain ⟨ad, b', d', k1, k2, k3, k4⟩ := h4 i hi
      exact ⟨ad, b', d', k1, (hb.cell (lt_of_cell k2)).trans k2, (hb.cell (lt_of_cell k3)).trans k3, CapE.below hb k4⟩⟩
section
variable {H : Type} {enc : TypeId × Value → H} {w : World} {base : Nat} {sp : Nat → Bool} {held : Bool}
theorem cap_elem : ∀ (n fuel : Nat) {cs : List Value} {x : DataW H × List MemPlace}, DataW.trod enc Tryz.prog w base sp held fuel 25 cs = some x →
    ∃ a b c d, cs = [a, b, c, d] ∧ CapE w n b d := by
  intro n
  induction n with
  | zero =>
    intro fuel cs x h
    have h4 : Tryz.prog.cellsOf 25 = 4 := by kernel_rfl
    obtain ⟨a, y, b, z, d1, d2, m, q1, q2, hm, rfl, hx, t1, t2⟩ := open_quad2 Tryz.underlying25 rfl h4 Tryz.underlying9 (by kernel_rfl) (by kernel_rfl) (by kernel_rfl) ⟨rfl, rfl⟩ ⟨rfl, rfl⟩ ⟨rfl, rfl⟩ ⟨rfl, rfl⟩ h
    exact ⟨_, _, _, _, rfl, trivial⟩
  | succ n ih =>
    intro fuel cs x h
    have h4 : Tryz.prog.cellsOf 25 = 4 := by kernel_rfl
    obtain ⟨a, y, b, z, d1, d2, m, q1, q2, hm, rfl, hx, t1, t2⟩ := open_quad2 Tryz.underlying25 rfl h4 Tryz.underlying9 (by kernel_rfl) (by kernel_rfl) (by kernel_rfl) ⟨rfl, rfl⟩ ⟨rfl, rfl⟩ ⟨rfl, rfl⟩ ⟨rfl, rfl⟩ h
    have hy : CapV y := by
      rcases DataW.trod_slice Tryz.underlying22 t1 with ⟨hcs, _⟩ | ⟨a, len, cap, elems, rest, n, _, hcs, _, _, hlc, _⟩
      · exact ⟨none, 0, 0, by simpa using hcs, Nat.le_refl _, fun _ => rfl⟩
      · exact ⟨some a, len, cap, by simpa using hcs, hlc, fun h => by cases h⟩
    obtain ⟨ao, k, cap, els, hv, hc, hn, _, hall⟩ := open_rows_lt Tryz.underlying23 t2
    obtain rfl : z = .slice ao k cap := by simpa using hv
    rw [h4] at hall
    refine ⟨_, _, _, _, rfl, hy, _, _, _, rfl, hc, fun i hi => ?_⟩
    obtain ⟨d, hd⟩ : ∃ d, els[i]? = some d := ⟨_, List.getElem?_eq_getElem (by omega)⟩
    obtain ⟨ad, c1, m', q, hm', r1, _, r3, r4⟩ := hall i d hd
    obtain ⟨a', b', c', d', rfl, k2⟩ := ih m' r4
    exact ⟨ad, b', d', r1, r3 1 _ rfl, r3 3 _ rfl, k2⟩
end
theorem row_take {P : Nat → Prop} {w : World} {ao : Option Addr} {n m cap : Nat} {xs ys : List Value} (h : Row P w (.slice ao n cap) n xs) (hp : ∀ (i : Nat) (x : Value), ys[i]? = some x → xs[i]? = some x) : Row P w (.slice ao m cap) m ys := by
  obtain ⟨ao', cap', e, h2⟩ := h
  obtain ⟨rfl, _, rfl⟩ := Value.slice.inj e
  exact ⟨_, _, rfl, fun i x hx => h2 i x (hp i x hx)⟩
theorem pairCells_take : ∀ (l : List (List UInt8 × List UInt8)) (m i : Nat) (x : Value), (pairCells (l.take m))[i]? = some x → (pairCells l)[i]? = some x
  | [], m, i, x, h => by simpa using h
  | p :: l, 0, i, x, h => by simp [pairCells] at h
  | p :: l, m + 1, 0, x, h => by simpa [pairCells] using h
  | p :: l, m + 1, 1, x, h => by simpa [pairCells] using h
  | p :: l, m + 1, i + 2, x, h => by
    have := pairCells_take l m i x (by simpa [pairCells] using h)
    simpa [pairCells] using this
end Go.Proofs.YthekdgnikkjpdaaGreatDoor
/-
  What lies in memory while an element is cut: the element's own block, the answer's, and the row of its kids.
-/
namespace Go.Proofs.YthekdgnikkjpdaaGreatDoor
open Go Go.RowKit
def CutRes (B H : Nat) (e : El) (e' : Ending) (w' : World) : Prop := ∃ b1 k1 c1 b2 k2 c2, e' = .returned (.agg #[.string ⟨e.nm.toArray⟩, .slice b1 k1 c1, .string ⟨e.text.toArray⟩, .slice b2 k2 c2]) ∧
  ElE (fun k => k < B ∨ H ≤ k) w' e (.string ⟨e.nm.toArray⟩) (.slice b1 k1 c1) (.string ⟨e.text.toArray⟩) (.slice b2 k2 c2) ∧ (b1 = none → c1 = 0) ∧ (b2 = none → c2 = 0)
def zeroE : Array Value := #[.string ⟨#[]⟩, .slice none 0 0, .string ⟨#[]⟩, .slice none 0 0]
def Pv (B H : Nat) (v : Value) (k : Nat) : Prop := (k < B ∨ H + 2 ≤ k) ∧ some k ≠ v.ownBlock
/-- H: how many blocks there were. -/
def CutInv (B H : Nat) (w : World) (nm t : ByteArray) (ao : Option Addr) (k cap : Nat) (l : List El) (wr : World) : Prop :=
  ∃ v ys, At H #[.string nm, .slice ao k cap, .string t, v] 25 wr ∧ At (H + 1) zeroE 25 wr ∧ wr.ownsRow (H + 2) 25 4 v l.length ys ∧ KidsAt (ElE (Pv B H v) wr) l ys ∧ Below H w wr
theorem cut_start (B : Nat) (w : World) (nm t : ByteArray) (ao : Option Addr) (k cap : Nat) :
    CutInv B w.heap.size w nm t ao k cap [] ((w.alloc (.cells #[.string nm, .slice ao k cap, .string t, .slice none 0 0] 25)).alloc (.cells zeroE 25)) := by
  refine ⟨.slice none 0 0, [], ?_, ?_, World.ownsRow_nil _ _ _ _, rfl, ((Below.refl _ _).alloc (Nat.le_refl _) _).alloc (by simp) _⟩
  · exact At.alloc (heap_alloc_new w _) _
  · have h := heap_alloc_new (w.alloc (.cells #[.string nm, .slice ao k cap, .string t, .slice none 0 0] 25)) (.cells zeroE 25)
    rw [show (w.alloc (.cells #[.string nm, .slice ao k cap, .string t, .slice none 0 0] 25)).heap.size = w.heap.size + 1 by simp] at h
    exact h
theorem cut_step {B : Nat} {w wr w1 Z w2 : World} {nm t : ByteArray} {ao : Option Addr} {k cap : Nat} {l : List El} {v : Value} {ys : List Value} {e' : El} {a b c d : Value} {gg cap3 Hh : Nat} (hB : B ≤ w.heap.size)
    (hA0 : At w.heap.size #[.string nm, .slice ao k cap, .string t, v] 25 wr) (hA1 : At (w.heap.size + 1) zeroE 25 wr) (ho : wr.ownsRow (w.heap.size + 2) 25 4 v l.length ys) (hk : KidsAt (ElE (Pv B w.heap.size v) wr) l ys) (hb : Below w.heap.size w wr)
    (wb : Below wr.heap.size wr w1) (hres : ElE (fun k => k < B ∨ wr.heap.size ≤ k) w1 e' a b c d) (hZ : Below w1.heap.size w1 Z) (hHh : w1.heap.size ≤ Hh)
    (hown : w2.ownsRow (w.heap.size + 2) 25 4 (.slice (some ⟨gg, 0, none⟩) (l.length + 1) cap3) (l.length + 1) (ys ++ [a, b, c, d])) (hgrow : Z.grownBy w2 v.ownBlock) (hat : v.ownBlock = some gg ∨ gg = Hh) :
    CutInv B w.heap.size w nm t ao k cap (l ++ [e']) (w2.setCell ⟨w.heap.size, 3, none⟩ (.slice (some ⟨gg, 0, none⟩) (l.length + 1) cap3)) := by
  have z0 := lt_of_heap hA0
  have z1 := lt_of_heap hA1
  have s1 := wb.size
  have s2 := hZ.size
  have hgl : ∀ g, v.ownBlock = some g → w.heap.size + 2 ≤ g ∧ g < wr.heap.size := fun g hg => World.ownsRow.lt ho g hg
  have n0 : some w.heap.size ≠ v.ownBlock := fun e => by have := hgl _ e.symm; omega
  have n1 : some (w.heap.size + 1) ≠ v.ownBlock := fun e => by have := hgl _ e.symm; omega
  have hgg : w.heap.size + 2 ≤ gg := (World.ownsRow.lt hown gg rfl).1
  have a0 : At w.heap.size #[.string nm, .slice ao k cap, .string t, v] 25 w2 := ((hA0.below wb z0).below hZ (by omega)).grown hgrow n0
  have a1 : At (w.heap.size + 1) zeroE 25 w2 := ((hA1.below wb z1).below hZ (by omega)).grown hgrow n1
  refine ⟨.slice (some ⟨gg, 0, none⟩) (l.length + 1) cap3, ys ++ [a, b, c, d], a0.set 3 _, a1.other _ _ _ (by omega), ?_, ?_, ?_⟩
  · rw [List.length_append]
    exact owns_other hown _ _ _ (fun e => by have : gg = w.heap.size := Option.some.inj e; omega)
  · have K1 : KidsAt (ElE (Pv B w.heap.size (.slice (some ⟨gg, 0, none⟩) (l.length + 1) cap3)) (w2.setCell ⟨w.heap.size, 3, none⟩ (.slice (some ⟨gg, 0, none⟩) (l.length + 1) cap3))) l ys := hk.imp fun _ _ _ _ _ q => q.step fun j hj hlt => by
      have hne : j ≠ w.heap.size := by rcases hj.1 with h | h <;> omega
      refine ⟨⟨hj.1, fun e => ?_⟩, ?_⟩
      · have e1 : j = gg := Option.some.inj e
        rcases hat with h | h
        · exact hj.2 (by rw [h, e1])
        · omega
      · rw [Below.heap_setCell w2 ⟨w.heap.size, 3, none⟩ _ j hne, hgrow.block j (by omega) hj.2, hZ.block j (by omega), wb.block j hlt]
    have K2 : ElE (Pv B w.heap.size (.slice (some ⟨gg, 0, none⟩) (l.length + 1) cap3)) (w2.setCell ⟨w.heap.size, 3, none⟩ (.slice (some ⟨gg, 0, none⟩) (l.length + 1) cap3)) e' a b c d := hres.step fun j hj hlt => by
      have hne : j ≠ w.heap.size := by rcases hj with h | h <;> omega
      have hno : some j ≠ v.ownBlock := fun e => by
        have := hgl j e.symm
        rcases hj with h | h <;> omega
      refine ⟨⟨by rcases hj with h | h <;> omega, fun e => ?_⟩, ?_⟩
      · have e1 : j = gg := Option.some.inj e
        rcases hat with h | h
        · exact hno (by rw [h, e1])
        · omega
      · rw [Below.heap_setCell w2 ⟨w.heap.size, 3, none⟩ _ j hne, hgrow.block j (by omega) hno, hZ.block j hlt]
    exact KidsAt.app K1 ⟨a, b, c, d, [], rfl, K2, rfl⟩
  · have b1 := hb.trans (wb.mono hb.size)
    have b2 := b1.trans (hZ.mono b1.size)
    exact (b2.grown hgrow b2.size (fun g hg => by have := hgl g hg; omega)).setCell (Nat.le_refl _) _
theorem cut_close {B H : Nat} {w wr : World} {e : El} {nm t : ByteArray} {ao : Option Addr} {n k cap : Nat} {l : List El} {v : Value} {ys : List Value} (hH : w.heap.size = H) (hB : B ≤ H) (hnm : nm = ⟨e.nm.toArray⟩) (ht : t = ⟨(e.text.take 40).toArray⟩) (hk8 : k = (e.attrs.take 8).length)
    (hA : Row (fun k => k < B) w (.slice ao n cap) n (pairCells e.attrs)) (hn0 : ao = none → cap = 0)
    (hA1 : At (H + 1) zeroE 25 wr) (ho : wr.ownsRow (H + 2) 25 4 v l.length ys) (hk : KidsAt (ElE (Pv B H v) wr) l ys) (hb : Below H w wr) (W : World) (hW : ∀ j, j ≠ H + 1 → W.heap[j]? = wr.heap[j]?) :
    CutRes B H ⟨e.nm, e.attrs.take 8, e.text.take 40, l⟩ (.returned (.agg #[.string nm, .slice ao k cap, .string t, v])) W := by
  obtain ⟨b2, c2, rfl⟩ := owns_shape ho
  have hnil : b2 = none → c2 = 0 := by
    intro hb2
    subst hb2
    rcases ho.2 with ⟨h1, _⟩ | ⟨g, cap', cur, h1, _⟩
    · exact (Value.slice.inj h1).2.2
    · cases (Value.slice.inj h1).1
  subst hnm ht hk8 hH
  have z1 := lt_of_heap hA1
  refine ⟨ao, _, cap, b2, l.length, c2, rfl, ElE.mk (e := ⟨e.nm, e.attrs.take 8, e.text.take 40, l⟩) ((row_take hA (fun i x => pairCells_take e.attrs 8 i x)).step fun j hj hlt => ⟨.inl hj, ?_⟩) (row_owns (owns_same ho fun g hg => ?_) fun g hg => ?_) (hk.imp fun _ _ _ _ _ q => q.step fun j hj hlt => ⟨?_, ?_⟩), hn0, hnil⟩
  · rw [hW j (by omega), hb.block j hlt]
  · have := World.ownsRow.lt ho g hg
    exact hW g (by omega)
  · have := World.ownsRow.lt ho g hg
    exact .inr (by omega)
  · rcases hj.1 with h | h
    · exact .inl h
    · exact .inr (by omega)
  · exact hW j (by rcases hj.1 with h | h <;> omega)
end Go.Proofs.YthekdgnikkjpdaaGreatDoor
/-
  Over this program: the statements' cut: an element with few of all.
-/
namespace Go.Proofs.YthekdgnikkjpdaaGreatDoor
open Go Go.RowKit
theorem text_cut (l : List UInt8) : (⟨l.toArray⟩ : ByteArray).extract 0 (min ((⟨l.toArray⟩ : ByteArray).size : Int) 40).toNat = ⟨(l.take 40).toArray⟩ := by
  have hsz : (⟨l.toArray⟩ : ByteArray).size = l.length := by simp [ByteArray.size]
  have h : ((⟨l.toArray⟩ : ByteArray).extract 0 (min ((⟨l.toArray⟩ : ByteArray).size : Int) 40).toNat).data.toList = l.take 40 := by
    rw [Lib.extract_data, hsz]
    simp only [List.drop_zero, Nat.sub_zero]
    rcases Nat.lt_or_ge 40 l.length with h | h
    · rw [show (min (l.length : Int) 40).toNat = 40 by omega]
    · rw [show (min (l.length : Int) 40).toNat = l.length by omega, List.take_of_length_le (by simp), List.take_of_length_le (by omega)]
  generalize (⟨l.toArray⟩ : ByteArray).extract 0 (min ((⟨l.toArray⟩ : ByteArray).size : Int) 40).toNat = x at h
  rw [← h]
theorem elAt_full {P : Nat → Prop} {w : World} {n : Nat} {e : El} {a b c d : Value} (h : ElAt P w n e a b c d) : a = .string ⟨e.nm.toArray⟩ ∧ c = .string ⟨e.text.toArray⟩ ∧ ∃ ao cap ao' cap', b = .slice ao e.attrs.length cap ∧ d = .slice ao' e.kids.length cap' := by
  obtain ⟨_, ao, cap, _, ao', cap', _, rfl, _, rfl⟩ := elAt_shape h
  cases n with
  | zero => exact h.elim
  | succ n => exact ⟨h.1, h.2.2.1, ao, cap, ao', cap', rfl, rfl⟩
theorem takeEl_next {l : List El} {j : Nat} {k : El} (f : El → El) (h : l[j]? = some k) : (l.take (j + 1)).map f = (l.take j).map f ++ [f k] := by
  obtain ⟨hj, rfl⟩ := List.getElem?_eq_some_iff.1 h
  rw [List.take_succ_eq_append_getElem hj, List.map_append]
  rfl
theorem cut_done {B : Nat} {w wr : World} {e : El} {nm t : ByteArray} {ao bo : Option Addr} {n k cap j cp : Nat} {l : List El} {ys : List Value} (hB : B ≤ w.heap.size) (hnm : nm = ⟨e.nm.toArray⟩) (ht : t = ⟨(e.text.take 40).toArray⟩) (hk8 : k = (e.attrs.take 8).length)
    (hA : Row (fun k => k < B) w (.slice ao n cap) n (pairCells e.attrs)) (hn0 : ao = none → cap = 0)
    (hA1 : At (w.heap.size + 1) zeroE 25 wr) (ho : wr.ownsRow (w.heap.size + 2) 25 4 (.slice bo j cp) l.length ys) (hk : KidsAt (ElE (Pv B w.heap.size (.slice bo j cp)) wr) l ys) (hb : Below w.heap.size w wr) :
    ∃ W, ((((wr.setCell ⟨w.heap.size + 1, 0, none⟩ (.string nm)).setCell ⟨w.heap.size + 1, 1, none⟩ (.slice ao k cap)).setCell ⟨w.heap.size + 1, 2, none⟩ (.string t)).setCell ⟨w.heap.size + 1, 3, none⟩ (.slice bo j cp)) = W ∧
      At (w.heap.size + 1) #[.string nm, .slice ao k cap, .string t, .slice bo j cp] 25 W ∧ CutRes B w.heap.size ⟨e.nm, e.attrs.take 8, e.text.take 40, l⟩ (.returned (.agg #[.string nm, .slice ao k cap, .string t, .slice bo j cp])) W ∧ Below w.heap.size w W := by
  refine ⟨_, rfl, (((hA1.set 0 _).set 1 _).set 2 _).set 3 _, cut_close rfl hB hnm ht hk8 hA hn0 hA1 ho hk hb _ fun i hi => ?_, (((hb.setCell (Nat.le_succ _) _).setCell (Nat.le_succ _) _).setCell (Nat.le_succ _) _).setCell (Nat.le_succ _) _⟩
  rw [Below.heap_setCell _ _ _ i hi, Below.heap_setCell _ _ _ i hi, Below.heap_setCell _ _ _ i hi, Below.heap_setCell _ _ _ i hi]
set_option maxHeartbeats 2000000 in
set_option maxRecDepth 100000 in
theorem cutEl_any (B : Nat) : ∀ (r : Nat) (top : Bool) (deep m : Nat) (e : El) (ao1 ao2 : Option Addr) (n1 n2 cap1 cap2 : Nat) (w : World), deep + r = 6 → 1 ≤ deep → top = decide (deep = 1) → B ≤ w.heap.size →
    ElAt (fun k => k < B) w m e (.string ⟨e.nm.toArray⟩) (.slice ao1 n1 cap1) (.string ⟨e.text.toArray⟩) (.slice ao2 n2 cap2) → CapE w (r + 1) (.slice ao1 n1 cap1) (.slice ao2 n2 cap2) →
    Calls Tryz.prog 5 #[.agg #[.string ⟨e.nm.toArray⟩, .slice ao1 n1 cap1, .string ⟨e.text.toArray⟩, .slice ao2 n2 cap2], .int .i64 deep] w fun e' w' => CutRes B w.heap.size (cutE r top e) e' w' ∧ Below w.heap.size w w' := by
  intro r
  induction r with
  | zero =>
    intro top deep m e ao1 ao2 n1 n2 cap1 cap2 w hdr hd1 htop hBw hE hcap
    subst htop
    obtain ⟨⟨x1, x2, x3, hc1, hc2, hc0⟩, y1, y2, y3, hc3, hc4, hc5⟩ := hcap
    obtain ⟨rfl, rfl, rfl⟩ := Value.slice.inj hc1
    obtain ⟨rfl, rfl, rfl⟩ := Value.slice.inj hc3
    cases m with
    | zero => exact hE.elim
    | succ m =>
    obtain ⟨_, hA, _, xs, hK, hks⟩ := hE
    have i1 : min (n1 : Int) 8 ≤ (cap1 : Int) := by omega
    have i2 : 0 ≤ min (n1 : Int) 8 := by omega
    have i3 : min (n2 : Int) 18 ≤ (cap2 : Int) := by omega
    have i4 : 0 ≤ min (n2 : Int) 18 := by omega
    have en1 : n1 = e.attrs.length := by obtain ⟨_, _, q, _⟩ := id hA; exact (Value.slice.inj q).2.1
    have en2 : n2 = e.kids.length := by obtain ⟨_, _, q, _⟩ := id hK; exact (Value.slice.inj q).2.1
    have HA : Hid (Row (fun k => k < B) w (.slice ao1 n1 cap1) n1 (pairCells e.attrs)) := by rw [← en1] at hA; exact hA
    obtain ⟨t, ht⟩ : ∃ t : ByteArray, (⟨e.text.toArray⟩ : ByteArray) = t := ⟨_, rfl⟩
    obtain ⟨nm, hnm⟩ : ∃ t : ByteArray, (⟨e.nm.toArray⟩ : ByteArray) = t := ⟨_, rfl⟩
    rw [ht, hnm]
    have HT : Hid (t.extract 0 (min (t.size : Int) 40).toNat = ⟨(e.text.take 40).toArray⟩) := by rw [← ht]; exact text_cut e.text
    have HN : Hid _ := hnm
    have HC0 : Hid _ := hc0
    have H1 : Hid (n1 = e.attrs.length) := en1
    clear ht hnm hc5 hc0 hA hK hks en1 en2
    go_enter Tryz.func5, Tryz.ntmps5
    go_wp2_with fail
    clear i1 i2 i3 i4
    obtain ⟨t', ht'⟩ : ∃ t', t.extract 0 (min (t.size : Int) 40).toNat = t' := ⟨_, rfl⟩
    obtain ⟨k1, hk1⟩ : ∃ k1, (min (n1 : Int) 8).toNat = k1 := ⟨_, rfl⟩
    obtain ⟨k2, hk2⟩ : ∃ k2, (min (n2 : Int) 18).toNat = k2 := ⟨_, rfl⟩
    rw [ht', hk1, hk2]
    rw [ht'] at HT
    have HK1 : Hid _ := hk1
    clear ht' hk1 hk2
    have id6 : ¬ (deep : Int) < 6 := by omega
    go_loopw [6] (fun i wr => i = .int .i64 0 ∧ CutInv B w.heap.size w nm t' ao1 k1 cap1 [] wr) (fun i _ => k2 - (intOf i).toNat)
    case atStart => exact ⟨rfl, cut_start B w nm t' ao1 k1 cap1⟩
    case round =>
      obtain ⟨rfl, hinv⟩ := hrel
      obtain ⟨v, ys, hA0, hA1, ho, hkk, hbw⟩ := hinv
      have c0 : wr.cell? ⟨w.heap.size, 0, none⟩ = some (.string nm) := by rw [Lib.cell_of_heap hA0]; rfl
      have c1 : wr.cell? ⟨w.heap.size, 1, none⟩ = some (.slice ao1 k1 cap1) := by rw [Lib.cell_of_heap hA0]; rfl
      have c2 : wr.cell? ⟨w.heap.size, 2, none⟩ = some (.string t') := by rw [Lib.cell_of_heap hA0]; rfl
      have c3 : wr.cell? ⟨w.heap.size, 3, none⟩ = some v := by rw [Lib.cell_of_heap hA0]; rfl
      have d0 : wr.cell? ⟨w.heap.size + 1, 0, none⟩ = some (.string ⟨#[]⟩) := by rw [Lib.cell_of_heap hA1]; rfl
      have d1 : wr.cell? ⟨w.heap.size + 1, 1, none⟩ = some (.slice none 0 0) := by rw [Lib.cell_of_heap hA1]; rfl
      have d2 : wr.cell? ⟨w.heap.size + 1, 2, none⟩ = some (.string ⟨#[]⟩) := by rw [Lib.cell_of_heap hA1]; rfl
      have d3 : wr.cell? ⟨w.heap.size + 1, 3, none⟩ = some (.slice none 0 0) := by rw [Lib.cell_of_heap hA1]; rfl
      have fz : ∀ o, wr.frozen? ⟨w.heap.size + 1, o, none⟩ = false := Lib.frozen_of_heap hA1
      obtain ⟨bo, cp, rfl⟩ := owns_shape ho
      have HO : Hid (wr.ownsRow (w.heap.size + 2) 25 4 (.slice bo 0 cp) ([] : List El).length ys) := ho
      have HKK : Hid (KidsAt (ElE (Pv B w.heap.size (.slice bo 0 cp)) wr) [] ys) := hkk
      have HA1 : Hid (At (w.heap.size + 1) zeroE 25 wr) := hA1
      change wr.cell? ⟨w.heap.size, 3, none⟩ = some (.slice bo 0 cp) at c3
      clear hA0 hA1 ho hkk
      rcases Nat.eq_zero_or_pos k2 with rfl | hpos
      all_goals (
        first | (have hposI : (0 : Int) < (k2 : Int) := by omega) | skip
        go_wp2_with fail
        obtain ⟨W, hW, hAW, hcr, hbW⟩ := cut_done (k := k1) hBw HN.out.symm HT.out (by rw [List.length_take, ← HK1.out, H1.out]; omega) HA.out HC0.out HA1.out HO.out HKK.out hbw
        rw [hW]
        have e0 : W.cell? ⟨w.heap.size + 1, 0, none⟩ = some (.string nm) := by rw [Lib.cell_of_heap hAW]; rfl
        have e1 : W.cell? ⟨w.heap.size + 1, 1, none⟩ = some (.slice ao1 k1 cap1) := by rw [Lib.cell_of_heap hAW]; rfl
        have e2 : W.cell? ⟨w.heap.size + 1, 2, none⟩ = some (.string t') := by rw [Lib.cell_of_heap hAW]; rfl
        have e3 : W.cell? ⟨w.heap.size + 1, 3, none⟩ = some (.slice bo 0 cp) := by rw [Lib.cell_of_heap hAW]; rfl
        exact bodyPost_ret (v := .agg #[.string nm, .slice ao1 k1 cap1, .string t', .slice bo 0 cp]) (by simp [results, Tryz.results5, go_sem, e0, e1, e2, e3]) rfl ⟨hcr, hbW⟩)
  | succ r ih =>
    intro top deep m e ao1 ao2 n1 n2 cap1 cap2 w hdr hd1 htop hBw hE hcap
    subst htop
    obtain ⟨⟨x1, x2, x3, hc1, hc2, hc0⟩, y1, y2, y3, hc3, hc4, hc5⟩ := hcap
    obtain ⟨rfl, rfl, rfl⟩ := Value.slice.inj hc1
    obtain ⟨rfl, rfl, rfl⟩ := Value.slice.inj hc3
    cases m with
    | zero => exact hE.elim
    | succ m =>
    obtain ⟨_, hA, _, xs, hK, hks⟩ := hE
    have i1 : min (n1 : Int) 8 ≤ (cap1 : Int) := by omega
    have i2 : 0 ≤ min (n1 : Int) 8 := by omega
    have i3 : min (n2 : Int) 18 ≤ (cap2 : Int) := by omega
    have i4 : 0 ≤ min (n2 : Int) 18 := by omega
    have en1 : n1 = e.attrs.length := by obtain ⟨_, _, q, _⟩ := id hA; exact (Value.slice.inj q).2.1
    have en2 : n2 = e.kids.length := by obtain ⟨_, _, q, _⟩ := id hK; exact (Value.slice.inj q).2.1
    have HA : Hid (Row (fun k => k < B) w (.slice ao1 n1 cap1) n1 (pairCells e.attrs)) := by rw [← en1] at hA; exact hA
    have HK : Hid (Row (fun k => k < B) w (.slice ao2 n2 cap2) n2 xs) := by rw [← en2] at hK; exact hK
    have HKS : Hid (KidsAt _ _ _) := hks
    have HC5 : Hid _ := hc5
    have IH : Hid _ := ih
    obtain ⟨t, ht⟩ : ∃ t : ByteArray, (⟨e.text.toArray⟩ : ByteArray) = t := ⟨_, rfl⟩
    obtain ⟨nm, hnm⟩ : ∃ t : ByteArray, (⟨e.nm.toArray⟩ : ByteArray) = t := ⟨_, rfl⟩
    rw [ht, hnm]
    have HT : Hid (t.extract 0 (min (t.size : Int) 40).toNat = ⟨(e.text.take 40).toArray⟩) := by rw [← ht]; exact text_cut e.text
    have HN : Hid _ := hnm
    have HC0 : Hid _ := hc0
    have H1 : Hid (n1 = e.attrs.length) := en1
    have H2 : Hid (n2 = e.kids.length) := en2
    clear ht hnm hc5 hc0 ih hA hK hks en1 en2
    obtain ⟨i0, hi, hz0, hz1, hz2⟩ := info_parts info32
    go_enter Tryz.func5, Tryz.ntmps5
    go_wp2_with fail
    clear i1 i2 i3 i4
    obtain ⟨t', ht'⟩ : ∃ t', t.extract 0 (min (t.size : Int) 40).toNat = t' := ⟨_, rfl⟩
    obtain ⟨k1, hk1⟩ : ∃ k1, (min (n1 : Int) 8).toNat = k1 := ⟨_, rfl⟩
    obtain ⟨k2, hk2⟩ : ∃ k2, (min (n2 : Int) 18).toNat = k2 := ⟨_, rfl⟩
    rw [ht', hk1, hk2]
    rw [ht'] at HT
    have HK1 : Hid _ := hk1
    have HK2 : Hid _ := hk2
    clear ht' hk1 hk2
    have id6 : (deep : Int) < 6 := by omega
    go_loopw [6] (fun i wr => ∃ j : Nat, j ≤ k2 ∧ (1 < deep → j ≤ 3) ∧ i = .int .i64 j ∧ CutInv B w.heap.size w nm t' ao1 k1 cap1 ((e.kids.take j).map (cutE r false)) wr) (fun i _ => k2 - (intOf i).toNat)
    case atStart => exact ⟨0, Nat.zero_le _, fun _ => Nat.zero_le _, rfl, cut_start B w nm t' ao1 k1 cap1⟩
    case round =>
      obtain ⟨j, hj, hj3, rfl, hinv⟩ := hrel
      obtain ⟨v, ys, hA0, hA1, ho, hkk, hbw⟩ := hinv
      have hlen : ((e.kids.take j).map (cutE r false)).length = j := by
        rw [List.length_map, List.length_take]
        have h1 := HK2.out
        have h2 := H2.out
        omega
      have c0 : wr.cell? ⟨w.heap.size, 0, none⟩ = some (.string nm) := by rw [Lib.cell_of_heap hA0]; rfl
      have c1 : wr.cell? ⟨w.heap.size, 1, none⟩ = some (.slice ao1 k1 cap1) := by rw [Lib.cell_of_heap hA0]; rfl
      have c2 : wr.cell? ⟨w.heap.size, 2, none⟩ = some (.string t') := by rw [Lib.cell_of_heap hA0]; rfl
      have c3 : wr.cell? ⟨w.heap.size, 3, none⟩ = some v := by rw [Lib.cell_of_heap hA0]; rfl
      have ij0 : (0 : Int) ≤ (j : Int) := Int.natCast_nonneg _
      by_cases hlt : j < k2
      · have ij : (j : Int) < (k2 : Int) := by omega
        by_cases hbr : 1 < deep ∧ 3 ≤ j
        · have ib1 : (1 : Int) < (deep : Int) := by omega
          have ib2 : (3 : Int) ≤ (j : Int) := by omega
          have d0 : wr.cell? ⟨w.heap.size + 1, 0, none⟩ = some (.string ⟨#[]⟩) := by rw [Lib.cell_of_heap hA1]; rfl
          have d1 : wr.cell? ⟨w.heap.size + 1, 1, none⟩ = some (.slice none 0 0) := by rw [Lib.cell_of_heap hA1]; rfl
          have d2 : wr.cell? ⟨w.heap.size + 1, 2, none⟩ = some (.string ⟨#[]⟩) := by rw [Lib.cell_of_heap hA1]; rfl
          have d3 : wr.cell? ⟨w.heap.size + 1, 3, none⟩ = some (.slice none 0 0) := by rw [Lib.cell_of_heap hA1]; rfl
          have fz : ∀ o, wr.frozen? ⟨w.heap.size + 1, o, none⟩ = false := Lib.frozen_of_heap hA1
          obtain ⟨bo, cp, rfl⟩ := owns_shape ho
          have HO : Hid (wr.ownsRow (w.heap.size + 2) 25 4 (.slice bo j cp) ((e.kids.take j).map (cutE r false)).length ys) := by rw [hlen] at ho ⊢; exact ho
          have HKK : Hid (KidsAt (ElE (Pv B w.heap.size (.slice bo j cp)) wr) ((e.kids.take j).map (cutE r false)) ys) := by rw [hlen] at hkk; exact hkk
          have HA1 : Hid (At (w.heap.size + 1) zeroE 25 wr) := hA1
          have htk : e.kids.take (if decide (deep = 1) then 18 else 3) = e.kids.take j := by
            have q1 := HK2.out
            have q2 := H2.out
            rw [decide_eq_false (by omega), if_neg (by decide), show j = 3 by have := hj3 hbr.1; omega]
          have HTK : Hid _ := htk
          rw [hlen] at c3
          clear hA0 hA1 ho hkk hlen htk
          go_wp2_with fail
          obtain ⟨W, hW, hAW, hcr, hbW⟩ := cut_done (k := k1) hBw HN.out.symm HT.out (by rw [List.length_take, ← HK1.out, H1.out]; omega) HA.out HC0.out HA1.out HO.out HKK.out hbw
          rw [hW]
          have e0 : W.cell? ⟨w.heap.size + 1, 0, none⟩ = some (.string nm) := by rw [Lib.cell_of_heap hAW]; rfl
          have e1 : W.cell? ⟨w.heap.size + 1, 1, none⟩ = some (.slice ao1 k1 cap1) := by rw [Lib.cell_of_heap hAW]; rfl
          have e2 : W.cell? ⟨w.heap.size + 1, 2, none⟩ = some (.string t') := by rw [Lib.cell_of_heap hAW]; rfl
          have e3 : W.cell? ⟨w.heap.size + 1, 3, none⟩ = some (.slice bo j cp) := by rw [Lib.cell_of_heap hAW]; rfl
          refine bodyPost_ret (v := .agg #[.string nm, .slice ao1 k1 cap1, .string t', .slice bo j cp]) (by simp [results, Tryz.results5, go_sem, e0, e1, e2, e3]) rfl ⟨?_, hbW⟩
          show CutRes B w.heap.size ⟨e.nm, e.attrs.take 8, e.text.take 40, (e.kids.take (if decide (deep = 1) then 18 else 3)).map (cutE r false)⟩ _ _
          rw [HTK.out]
          exact hcr
        · obtain ⟨kid, hkid⟩ : ∃ kid, e.kids[j]? = some kid := ⟨_, List.getElem?_eq_getElem (by have := HK2.out; have := H2.out; omega)⟩
          obtain ⟨ka, kb, kc, kd, x0, x1, x2, x3, hkE⟩ := kids_get j HKS.out hkid
          obtain ⟨g, off, rfl, hg, hc⟩ := row_flat2 HK.out x0
          obtain ⟨rfl, rfl, ba, bc, bd, be, rfl, rfl⟩ := elAt_full hkE
          have hw1 : ∀ o, wr.cell? ⟨g, o, none⟩ = w.cell? ⟨g, o, none⟩ := fun o => hbw.cell (p := ⟨g, o, none⟩) hg
          have f0 := (hw1 _).trans (hc _ _ x0)
          have f1 := (hw1 _).trans (hc _ _ x1)
          have f2 := (hw1 _).trans (hc _ _ x2)
          have f3 := (hw1 _).trans (hc _ _ x3)
          rw [← Nat.add_assoc] at f1 f2 f3
          obtain ⟨ad, b', d', q1, q2, q3, q4⟩ := HC5.out j (by have := HK2.out; omega)
          cases q1
          have eb : b' = .slice ba kid.attrs.length bc := Option.some.inj (q2.symm.trans (hc _ _ x1))
          have ed : d' = .slice bd kid.kids.length be := Option.some.inj (q3.symm.trans (hc _ _ x3))
          subst eb ed
          obtain ⟨D, hD⟩ : ∃ D : Int, ((deep + 1 : Nat) : Int) = D := ⟨_, rfl⟩
          have hdw : IntKind.i64.wrap ((deep : Int) + 1) = D := by simp only [IntKind.wrap_i64]; omega
          have HC := fun W (hb : Below w.heap.size w W) => IH.out false (deep + 1) m kid ba bd kid.attrs.length kid.kids.length bc be W (by omega) (by omega) (by rw [decide_eq_false (by omega)]) (Nat.le_trans hBw hb.size) (hkE.step (row_below hb)) (q4.below hb)
          rw [hD] at HC
          have ib : ¬ ((1 : Int) < (deep : Int)) ∨ ((1 : Int) < (deep : Int) ∧ ¬ (3 : Int) ≤ (j : Int)) := by omega
          have z0 := lt_of_heap hA0
          have z1 := lt_of_heap hA1
          have HA0 : Hid (At w.heap.size #[.string nm, .slice ao1 k1 cap1, .string t', v] 25 wr) := hA0
          have HA1 : Hid (At (w.heap.size + 1) zeroE 25 wr) := hA1
          have HO : Hid (wr.ownsRow (w.heap.size + 2) 25 4 v ((e.kids.take j).map (cutE r false)).length ys) := ho
          have HKK : Hid (KidsAt (ElE (Pv B w.heap.size v) wr) ((e.kids.take j).map (cutE r false)) ys) := hkk
          have HLN : Hid _ := hlen
          have n0 : some w.heap.size ≠ v.ownBlock := fun e => by have := (World.ownsRow.lt HO.out _ e.symm).1; omega
          obtain ⟨bo, cp, hv⟩ := owns_shape ho
          rw [hlen] at hv
          have NX : Hid (_ = _) := takeEl_next (cutE r false) hkid
          subst hv
          generalize cutE r false kid = K at HC NX
          have hj18 : j < 18 := by have := HK2.out; omega
          clear hD hA0 hA1 ho hkk hlen x0 x1 x2 x3 q2 q3 hkid hc hw1
          rcases ib with ib | ⟨ib, ib3⟩
          · go_wp2_with fail
            go_region_law
              (first
                | (refine step_append_lies _ (by rfl) _ _ _ (by rfl) (w.heap.size + 2) 25 i0 _ 4 80 Tryz.underlying23 hi hz0 hz1 hz2 rfl (by omega) _ j ys (by rfl) (World.ownsRow.alloc HO1 _)
                     ⟨w1.heap.size, 0, none⟩ 1 1 [.string ⟨K.nm.toArray⟩, .slice b1 m1 c1', .string ⟨K.text.toArray⟩, .slice b2 m2 c2'] (by rfl) (by rfl) (World.news_of_block (cs := #[.string ⟨K.nm.toArray⟩, .slice b1 m1 c1', .string ⟨K.text.toArray⟩, .slice b2 m2 c2']) (t := 25) (fr := (0, 0)) (heap_alloc_new w1 _)) (by simp [Value.oneCell'])
                     (by omega) (by unfold maxLen; omega) (by omega) (by simp; omega) (w1.heap.size + 1) (by simp) ?_
                   intro gg cap3 w2 hown1 hgrow hat hlt1
                   have qb : w2.cell? ⟨w.heap.size, 3, none⟩ = some (.slice bo j cp) := ((hgrow.cell_far ⟨w.heap.size, 3, none⟩ (by simp; omega) n0).trans ((World.cell?_of_block (w := w1) (Below.heap_alloc w1 _ w.heap.size zz)).trans q3))
                   have qbf : w2.frozen? ⟨w.heap.size, 3, none⟩ = false := ((hgrow.frozen_far ⟨w.heap.size, 3, none⟩ (by simp; omega) n0).trans ((World.frozen?_of_block (w := w1) (a := ⟨w.heap.size, 3, none⟩) (Below.heap_alloc w1 _ w.heap.size zz)).trans q3f)))
                | (go_simp
                   go_at_call 5
                   refine (HC _ ?_).mono ?_
                   · (first | exact hbw | exact hbw.drew)
                   rintro e' w1 ⟨⟨b1, m1, c1', b2, m2, c2', rfl, hres, _, _⟩, hb1⟩
                   have wb : Below wr.heap.size wr w1 := (((Below.refl _ wr).drew).trans (hb1.mono (Nat.le_refl _)))
                   have hw1 := wb.size
                   have zz : w.heap.size < w1.heap.size := (Nat.lt_of_lt_of_le z0 hw1)
                   have HO1 : w1.ownsRow (w.heap.size + 2) 25 4 (.slice bo j cp) j ys := (by have := owns_below HO.out wb; rw [HLN.out] at this; exact this)
                   have q3 : w1.cell? ⟨w.heap.size, 3, none⟩ = some (.slice bo j cp) := ((wb.cell (p := ⟨w.heap.size, 3, none⟩) z0).trans c3)
                   have q3a : ∀ o, (w1.alloc o).cell? ⟨w.heap.size, 3, none⟩ = some (.slice bo j cp) := (fun o => (World.cell?_of_block (w := w1) (Below.heap_alloc w1 _ w.heap.size zz)).trans q3)
                   have q3f : w1.frozen? ⟨w.heap.size, 3, none⟩ = false := (Lib.frozen_of_heap (At.below HA0.out wb z0) 3)))
            all_goals
              go_wp2_with fail
              refine ⟨⟨j + 1, by omega, fun _ => by omega, by go_num, ?_⟩, by simp [intOf]; omega⟩
              rw [NX.out]
              have hcs := cut_step (l := (e.kids.take j).map (cutE r false)) (e' := K) (gg := gg) (cap3 := cap3) (Hh := w1.heap.size + 1) hBw HA0.out HA1.out HO.out HKK.out hbw wb hres ((Below.refl _ _).alloc (Nat.le_refl _) _) (Nat.le_succ _) (by rw [HLN.out]; exact hown1) hgrow hat
              rw [HLN.out] at hcs
              exact hcs
          · go_wp2_with fail
            go_region_law
              (first
                | (refine step_append_lies _ (by rfl) _ _ _ (by rfl) (w.heap.size + 2) 25 i0 _ 4 80 Tryz.underlying23 hi hz0 hz1 hz2 rfl (by omega) _ j ys (by rfl) (World.ownsRow.alloc HO1 _)
                     ⟨w1.heap.size, 0, none⟩ 1 1 [.string ⟨K.nm.toArray⟩, .slice b1 m1 c1', .string ⟨K.text.toArray⟩, .slice b2 m2 c2'] (by rfl) (by rfl) (World.news_of_block (cs := #[.string ⟨K.nm.toArray⟩, .slice b1 m1 c1', .string ⟨K.text.toArray⟩, .slice b2 m2 c2']) (t := 25) (fr := (0, 0)) (heap_alloc_new w1 _)) (by simp [Value.oneCell'])
                     (by omega) (by unfold maxLen; omega) (by omega) (by simp; omega) (w1.heap.size + 1) (by simp) ?_
                   intro gg cap3 w2 hown1 hgrow hat hlt1
                   have qb : w2.cell? ⟨w.heap.size, 3, none⟩ = some (.slice bo j cp) := ((hgrow.cell_far ⟨w.heap.size, 3, none⟩ (by simp; omega) n0).trans ((World.cell?_of_block (w := w1) (Below.heap_alloc w1 _ w.heap.size zz)).trans q3))
                   have qbf : w2.frozen? ⟨w.heap.size, 3, none⟩ = false := ((hgrow.frozen_far ⟨w.heap.size, 3, none⟩ (by simp; omega) n0).trans ((World.frozen?_of_block (w := w1) (a := ⟨w.heap.size, 3, none⟩) (Below.heap_alloc w1 _ w.heap.size zz)).trans q3f)))
                | (go_simp
                   go_at_call 5
                   refine (HC _ ?_).mono ?_
                   · (first | exact hbw | exact hbw.drew)
                   rintro e' w1 ⟨⟨b1, m1, c1', b2, m2, c2', rfl, hres, _, _⟩, hb1⟩
                   have wb : Below wr.heap.size wr w1 := (((Below.refl _ wr).drew).trans (hb1.mono (Nat.le_refl _)))
                   have hw1 := wb.size
                   have zz : w.heap.size < w1.heap.size := (Nat.lt_of_lt_of_le z0 hw1)
                   have HO1 : w1.ownsRow (w.heap.size + 2) 25 4 (.slice bo j cp) j ys := (by have := owns_below HO.out wb; rw [HLN.out] at this; exact this)
                   have q3 : w1.cell? ⟨w.heap.size, 3, none⟩ = some (.slice bo j cp) := ((wb.cell (p := ⟨w.heap.size, 3, none⟩) z0).trans c3)
                   have q3a : ∀ o, (w1.alloc o).cell? ⟨w.heap.size, 3, none⟩ = some (.slice bo j cp) := (fun o => (World.cell?_of_block (w := w1) (Below.heap_alloc w1 _ w.heap.size zz)).trans q3)
                   have q3f : w1.frozen? ⟨w.heap.size, 3, none⟩ = false := (Lib.frozen_of_heap (At.below HA0.out wb z0) 3)))
            all_goals
              go_wp2_with fail
              refine ⟨⟨j + 1, by omega, fun _ => by omega, by go_num, ?_⟩, by simp [intOf]; omega⟩
              rw [NX.out]
              have hcs := cut_step (l := (e.kids.take j).map (cutE r false)) (e' := K) (gg := gg) (cap3 := cap3) (Hh := w1.heap.size + 1) hBw HA0.out HA1.out HO.out HKK.out hbw wb hres ((Below.refl _ _).alloc (Nat.le_refl _) _) (Nat.le_succ _) (by rw [HLN.out]; exact hown1) hgrow hat
              rw [HLN.out] at hcs
              exact hcs
      · have ij : ¬ (j : Int) < (k2 : Int) := by omega
        have d0 : wr.cell? ⟨w.heap.size + 1, 0, none⟩ = some (.string ⟨#[]⟩) := by rw [Lib.cell_of_heap hA1]; rfl
        have d1 : wr.cell? ⟨w.heap.size + 1, 1, none⟩ = some (.slice none 0 0) := by rw [Lib.cell_of_heap hA1]; rfl
        have d2 : wr.cell? ⟨w.heap.size + 1, 2, none⟩ = some (.string ⟨#[]⟩) := by rw [Lib.cell_of_heap hA1]; rfl
        have d3 : wr.cell? ⟨w.heap.size + 1, 3, none⟩ = some (.slice none 0 0) := by rw [Lib.cell_of_heap hA1]; rfl
        have fz : ∀ o, wr.frozen? ⟨w.heap.size + 1, o, none⟩ = false := Lib.frozen_of_heap hA1
        obtain ⟨bo, cp, rfl⟩ := owns_shape ho
        have HO : Hid (wr.ownsRow (w.heap.size + 2) 25 4 (.slice bo j cp) ((e.kids.take j).map (cutE r false)).length ys) := by rw [hlen] at ho ⊢; exact ho
        have HKK : Hid (KidsAt (ElE (Pv B w.heap.size (.slice bo j cp)) wr) ((e.kids.take j).map (cutE r false)) ys) := by rw [hlen] at hkk; exact hkk
        have HA1 : Hid (At (w.heap.size + 1) zeroE 25 wr) := hA1
        have htk : e.kids.take (if decide (deep = 1) then 18 else 3) = e.kids.take j := by
          have q1 := HK2.out
          have q2 := H2.out
          by_cases hd : deep = 1
          · rw [decide_eq_true hd, if_pos rfl]
            rcases Nat.lt_or_ge n2 18 with h | h
            · rw [List.take_of_length_le (by omega), List.take_of_length_le (by omega)]
            · rw [show j = 18 by omega]
          · rw [decide_eq_false hd, if_neg (by decide)]
            have := hj3 (by omega)
            rw [List.take_of_length_le (by omega), List.take_of_length_le (by omega)]
        have HTK : Hid _ := htk
        rw [hlen] at c3
        clear hA0 hA1 ho hkk hlen htk
        go_wp2_with fail
        obtain ⟨W, hW, hAW, hcr, hbW⟩ := cut_done (k := k1) hBw HN.out.symm HT.out (by rw [List.length_take, ← HK1.out, H1.out]; omega) HA.out HC0.out HA1.out HO.out HKK.out hbw
        rw [hW]
        have e0 : W.cell? ⟨w.heap.size + 1, 0, none⟩ = some (.string nm) := by rw [Lib.cell_of_heap hAW]; rfl
        have e1 : W.cell? ⟨w.heap.size + 1, 1, none⟩ = some (.slice ao1 k1 cap1) := by rw [Lib.cell_of_heap hAW]; rfl
        have e2 : W.cell? ⟨w.heap.size + 1, 2, none⟩ = some (.string t') := by rw [Lib.cell_of_heap hAW]; rfl
        have e3 : W.cell? ⟨w.heap.size + 1, 3, none⟩ = some (.slice bo j cp) := by rw [Lib.cell_of_heap hAW]; rfl
        refine bodyPost_ret (v := .agg #[.string nm, .slice ao1 k1 cap1, .string t', .slice bo j cp]) (by simp [results, Tryz.results5, go_sem, e0, e1, e2, e3]) rfl ⟨?_, hbW⟩
        show CutRes B w.heap.size ⟨e.nm, e.attrs.take 8, e.text.take 40, (e.kids.take (if decide (deep = 1) then 18 else 3)).map (cutE r false)⟩ _ _
        rw [HTK.out]
        exact hcr
end Go.Proofs.YthekdgnikkjpdaaGreatDoor
