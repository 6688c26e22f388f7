/-
  How rows of numbers and texts lie in memory; over this program: numbers that are made (token.Mix), the document's own, and rows that are the same.
-/
import Derived.Test.YtlpnbgpbahlodaaDoorPke
import Derived.Deep.OwnRows
import Derived.Deep.AppendLies
import Derived.Deep.Draws
import Derived.Lib.SliceRun
import Derived.Laws.AppendOwnNone
import Derived.BigRegion
import Derived.Deep.RegionWith
namespace Go.Proofs.YtlpnbgpbahlodaaDoor
open Go Go.RowKit
/-- The cells of numbers. -/
def us (l : List Nat) : List Value := l.map fun z : Nat => .int .u64 (z : Int)
theorem us_length (l : List Nat) : (us l).length = l.length := List.length_map _
theorem us_get (l : List Nat) (i : Nat) : (us l)[i]? = l[i]?.map fun z : Nat => .int .u64 (z : Int) := List.getElem?_map
theorem us_one (l : List Nat) : ∀ u ∈ us l, u.oneCell' = true := by
  intro u hu
  obtain ⟨s, _, rfl⟩ := List.mem_map.1 hu
  rfl
theorem us_app (a b : List Nat) : us (a ++ b) = us a ++ us b := List.map_append
/-- A row of values, as it lies: read alone. -/
def RowV (w : World) (ao : Option Addr) (xs : List Value) : Prop := ∀ (j : Nat) (u : Value), xs[j]? = some u → ∃ ad, ao = some ad ∧ w.cell? (ad.add j) = some u
theorem RowV.below {w w' : World} {ao : Option Addr} {xs : List Value} (h : RowV w ao xs) (hb : Below w.heap.size w w') : RowV w' ao xs := fun i z hi => by
  obtain ⟨ad, e, hc⟩ := h i z hi
  exact ⟨ad, e, (hb.cell (World.block_lt_of_cell? w _ hc)).trans hc⟩
theorem RowV.alike {w w' : World} {ao : Option Addr} {xs : List Value} (h : RowV w ao xs) (e : w'.heap = w.heap) : RowV w' ao xs := fun i z hi => by
  obtain ⟨ad, e1, hc⟩ := h i z hi
  refine ⟨ad, e1, ?_⟩
  unfold World.cell? at hc ⊢
  rw [e]
  exact hc
theorem RowV.take {w : World} {ao : Option Addr} {xs : List Value} (h : RowV w ao xs) (k : Nat) : RowV w ao (xs.take k) := fun i s hs => h i s (by rw [List.getElem?_take] at hs; split at hs; exact hs; cases hs)
def RowU (w : World) (ao : Option Addr) (l : List Nat) : Prop := RowV w ao (us l)
theorem RowU.at {w : World} {ao : Option Addr} {l : List Nat} (h : RowU w ao l) {i z : Nat} (hi : l[i]? = some z) : ∃ ad, ao = some ad ∧ w.cell? (ad.add i) = some (.int .u64 (z : Int)) := h i _ (by rw [us_get, hi]; rfl)
theorem RowU.below {w w' : World} {ao : Option Addr} {l : List Nat} (h : RowU w ao l) (hb : Below w.heap.size w w') : RowU w' ao l := RowV.below h hb
theorem RowU.take {w : World} {ao : Option Addr} {l : List Nat} (h : RowU w ao l) (k : Nat) : RowU w ao (l.take k) := by
  have := RowV.take h k
  unfold RowU us at *
  rw [← List.map_take] at this
  exact this
theorem row_one {w : World} {g : Nat} {v : Value} {T : TypeId} {fr : Nat × Nat} (h : w.heap[g]? = some (.cells #[v] T fr)) : RowV w (some ⟨g, 0, none⟩) [v] := by
  intro i s hs
  have hadd : (⟨g, 0, none⟩ : Addr).add i = ⟨g, i, none⟩ := by unfold Addr.add; split <;> simp_all
  refine ⟨_, rfl, ?_⟩
  rw [hadd]
  cases i with
  | zero => cases hs; simp [World.cell?, h]
  | succ i => simp at hs
/-- A row that a call made. -/
def OwA (B : Nat) (T : TypeId) (ao : Option Addr) (cap : Nat) (xs : List Value) (w : World) : Prop := w.ownsRow B T 1 (.slice ao xs.length cap) xs.length xs
theorem OwA.row {B : Nat} {T : TypeId} {ao : Option Addr} {cap : Nat} {xs : List Value} {w : World} (h : OwA B T ao cap xs w) : RowV w ao xs := by
  intro i s hs
  obtain ⟨_, ⟨h1, h2⟩ | ⟨g, cap', cur, hv, _⟩⟩ := id h
  · have := (List.getElem?_eq_some_iff.1 hs).1
    omega
  · obtain ⟨rfl, _, rfl⟩ := Value.slice.inj hv
    exact ⟨_, rfl, World.ownsRow.cells h (g := g) rfl i _ hs⟩
theorem OwA.nil0 {B : Nat} {T : TypeId} {ao : Option Addr} {cap : Nat} {xs : List Value} {w : World} (h : OwA B T ao cap xs w) : ao = none → xs.length = 0 ∧ cap = 0 := by
  intro e
  rcases h.2 with ⟨h1, h2⟩ | ⟨g, cap', cur, h1, _⟩
  · exact ⟨h2, (Value.slice.inj h1).2.2⟩
  · rw [e] at h1
    cases (Value.slice.inj h1).1
theorem OwA.cap_le {B : Nat} {T : TypeId} {ao : Option Addr} {cap : Nat} {xs : List Value} {w : World} (h : OwA B T ao cap xs w) : xs.length ≤ cap := by
  rcases h.2 with ⟨_, h2⟩ | ⟨g, cap', cur, h1, _, _, h4, _⟩
  · omega
  · rw [(Value.slice.inj h1).2.2]; exact h4
theorem owns_keep {B : Nat} {T : TypeId} {v : Value} {n : Nat} {xs : List Value} {w w' : World} (h : w.ownsRow B T 1 v n xs) (hb : ∀ k, k < w.heap.size → B ≤ k → w'.heap[k]? = w.heap[k]?) : w'.ownsRow B T 1 v n xs := by
  refine ⟨h.1, ?_⟩
  rcases h.2 with h' | ⟨g, cap', cur, h', h0, hg, r⟩
  · exact .inl h'
  · exact .inr ⟨g, cap', cur, h', h0, (hb g (lt_of_heap hg) h0).trans hg, r⟩
theorem OwA.below {B : Nat} {T : TypeId} {ao : Option Addr} {cap : Nat} {xs : List Value} {w w' : World} (h : OwA B T ao cap xs w) (hb : Below w.heap.size w w') : OwA B T ao cap xs w' := owns_keep h fun k hk _ => hb.block k hk
theorem own_of {B n : Nat} {T : TypeId} {v : Value} {xs : List Value} {w : World} (h : w.ownsRow B T 1 v n xs) (hn : n = xs.length) : ∃ ao cap, v = .slice ao xs.length cap ∧ OwA B T ao cap xs w := by
  subst hn
  rcases h.2 with ⟨h1, h2⟩ | ⟨g, cap, cur, h1, _⟩
  · refine ⟨none, 0, by rw [h1, h2], ?_⟩
    unfold OwA
    rw [h1, ← h2] at h
    rw [h2] at h ⊢
    exact h
  · subst h1
    exact ⟨_, cap, rfl, h⟩
theorem own_nil (B : Nat) (T : TypeId) (w : World) : OwA B T none 0 [] w := World.ownsRow_nil _ _ _ _
theorem wpList_append_any {P : Program} {w : World} {ops : Array Oper} {rest : List Oper} {o : Oper} {a : Act} {Q : Exit → Act → World → Prop} (hgd : o.guard = none) (s x : Operand) (t : TypeId)
    (ho : o.op = .call { callee := .builtin .append, args := #[s, x], argTypes := #[t, t] })
    (base : Nat) (e : TypeId) (i : TypeInfo) (z : Value) (size bytes : Nat) (ht : P.underlying t = some (.slice e)) (hi : P.info? e = some i) (hz : i.zero = some z)
    (hsize : i.size = size) (hby : i.bytes = bytes) (hzs : z.cells.size = size) (hsz : 0 < size) (v : Value) (n : Nat) (xs : List Value) (hs : a.eval s = v) (hown : w.ownsRow base e size v n xs)
    (ad : Addr) (m c : Nat) (news : List Value) (hx : a.eval x = .slice (some ad) m c) (hl : news.length = m * size)
    (hrow : ∀ (j : Nat) (u : Value), news[j]? = some u → ∃ ad', some ad = some ad' ∧ w.cell? (ad'.add j) = some u) (h1 : ∀ u ∈ news, u.oneCell' = true)
    (h63 : n + m ≤ maxLen) (hbytes : (n + m) * bytes ≤ 140737488355328) (hbase : base ≤ w.heap.size)
    (h : ∀ v' w', w'.ownsRow base e size v' (n + m) (xs ++ news) → Below base w w' → w.grownBy w' v.ownBlock → wpList P ops Q rest (a.put o.dst v') w') : wpList P ops Q (o :: rest) a w := by
  refine wpList_append_own w hgd s x t ho base e i z size bytes ht hi hz hsize hby hzs hsz v n xs hs hown ad m c news hx hl (fun j u hu => ?_) h1 h63 hbytes hbase fun v' w' h2 h3 _ => ?_
  · obtain ⟨ad', h3, h4⟩ := hrow j u hu
    cases h3
    exact h4
  · exact h v' w' h2 ((Below.refl _ w).grown h3 hbase (fun k hk => (World.ownsRow.lt hown k hk).1)) h3
theorem below_drewN {B : Nat} {w w' : World} {k : Nat} (h : Below B w w') : Below B w (w'.drewN k) := h.trans ⟨rfl, rfl, rfl, Nat.le_refl _, fun _ _ => rfl⟩
def U (z : Nat) : Prop := z < 18446744073709551616
/-- A block of numbers that is being filled. -/
def MkC (n : Nat) (l : List Nat) : Array Value := (us l ++ List.replicate (n - l.length) (Value.int .u64 0)).toArray
def MkAt (b n : Nat) (l : List Nat) (w : World) : Prop := w.heap[b]? = some (.cells (MkC n l) 22 (0, 0))
theorem mk_size {n : Nat} {l : List Nat} (h : l.length ≤ n) : (MkC n l).size = n := by
  simp [MkC, us_length]
  omega
theorem mk_set {n : Nat} {l : List Nat} {z : Nat} (h : l.length < n) : (MkC n l).setIfInBounds l.length (.int .u64 (z : Int)) = MkC n (l ++ [z]) := by
  obtain ⟨m, hm⟩ : ∃ m, n - l.length = m + 1 := ⟨n - l.length - 1, by omega⟩
  have hm' : n - (l ++ [z]).length = m := by simp; omega
  unfold MkC
  rw [hm, hm', List.setIfInBounds_toArray, List.set_append_right _ _ (by rw [us_length]; exact Nat.le_refl _), us_length, us_app, List.append_assoc]
  congr 2
  simp [List.replicate_succ, us]
theorem MkAt.set {b n : Nat} {l : List Nat} {z : Nat} {w : World} (h : MkAt b n l w) (hl : l.length < n) : MkAt b n (l ++ [z]) (w.setCell ⟨b, l.length, none⟩ (.int .u64 (z : Int))) := by
  have := heap_set h l.length (.int .u64 (z : Int))
  rw [mk_set hl] at this
  exact this
theorem MkAt.fz {b n : Nat} {l : List Nat} {w : World} (h : MkAt b n l w) (o : Nat) : w.frozen? ⟨b, o, none⟩ = false := by
  unfold MkAt at h
  simp [World.frozen?, h]
theorem MkAt.cell0 {b n : Nat} {l : List Nat} {w : World} (h : MkAt b n l w) (hl : l.length ≤ n) (o : Nat) (ho : o < n) : ∃ v, w.cell? ⟨b, o, none⟩ = some v := by
  have hs := mk_size hl
  refine ⟨(MkC n l)[o]'(by omega), ?_⟩
  unfold MkAt at h
  simp [World.cell?, h]
theorem MkAt.row {b n : Nat} {l : List Nat} {w : World} (h : MkAt b n l w) : RowU w (some ⟨b, 0, none⟩) l := fun i v hi => by
  refine ⟨_, rfl, ?_⟩
  have hadd : (⟨b, 0, none⟩ : Addr).add i = ⟨b, i, none⟩ := by unfold Addr.add; split <;> simp_all
  have hl := (List.getElem?_eq_some_iff.1 hi).1
  unfold MkAt at h
  have e : (MkC n l)[i]? = some v := by
    unfold MkC
    rw [List.getElem?_toArray, List.getElem?_append_left hl, hi]
  rw [hadd]
  simp only [World.cell?, h]
  exact e
theorem made_us (n : Nat) : madeCells #[Value.int .u64 0] n = MkC n [] := by
  apply Array.toList_inj.1
  rw [toList_madeCells_one]
  simp [MkC, us]
theorem info22 : (Tryd.prog.info? 22).map (fun i => (i.zero, i.size, i.bytes)) = some (some (.int .u64 0), 1, 8) := by kernel_rfl
/-- The number that is made of one. -/
def mixI (y : Int) : Int := bits .xor .u64 (bits .xor .u64 (bits .xor .u64 y (IntKind.u64.wrap (y * 8192))) (bits .xor .u64 y (IntKind.u64.wrap (y * 8192)) / 128)) (IntKind.u64.wrap (bits .xor .u64 (bits .xor .u64 y (IntKind.u64.wrap (y * 8192))) (bits .xor .u64 y (IntKind.u64.wrap (y * 8192)) / 128) * 131072))
def mixN (y : Nat) : Nat := (mixI (y : Int)).toNat
theorem mix_nat (y : Nat) : mixI (y : Int) = (mixN y : Int) ∧ U (mixN y) := by
  have h1 : 0 ≤ mixI (y : Int) := bits_lo_u64 _ _ _
  have h2 : mixI (y : Int) ≤ 18446744073709551615 := bits_hi_u64 _ _ _
  unfold mixN U
  omega
def itN : Nat → Nat → Nat
  | 0, x => x
  | k + 1, x => mixN (itN k x)
theorem it_add (a : Nat) : ∀ (b x : Nat), itN (a + b) x = itN b (itN a x)
  | 0, _ => rfl
  | b + 1, x => by show mixN (itN (a + b) x) = mixN (itN b (itN a x)); rw [it_add a b]
theorem it_U {x : Nat} (hx : U x) : ∀ k, U (itN k x)
  | 0 => hx
  | _ + 1 => (mix_nat _).2
def mixL (n x : Nat) : List Nat := (List.range n).map fun i => itN (i + 1) x
theorem mixL_length (n x : Nat) : (mixL n x).length = n := by simp [mixL]
theorem mixL_succ (n x : Nat) : mixL (n + 1) x = mixL n x ++ [itN (n + 1) x] := by simp [mixL, List.range_succ]
theorem mixL_get {n x i : Nat} (h : i < n) : (mixL n x)[i]? = some (itN (i + 1) x) := by simp [mixL, h]
theorem mixL_U {n x : Nat} (hx : U x) : ∀ z ∈ mixL n x, U z := by
  intro z hz
  obtain ⟨i, _, rfl⟩ := List.mem_map.1 hz
  exact it_U hx _
def lenN (z : Int) : Nat := (min (max z 0) 1000).toNat
set_option maxHeartbeats 1000000 in
set_option maxRecDepth 100000 in
theorem mix_any (x : Nat) (z : Int) (w : World) : Calls Tryd.prog 18 #[.int .u64 (x : Int), .int .i64 z] w fun e w' => e = .returned (.slice (some ⟨w.heap.size, 0, none⟩) (lenN z) (lenN z)) ∧ RowU w' (some ⟨w.heap.size, 0, none⟩) (mixL (lenN z) (max x 1)) ∧ Below w.heap.size w w' ∧ w.heap.size < w'.heap.size := by
  have hm2 : min (max z 0) 1000 = (lenN z : Int) := by unfold lenN; omega
  have hn1 : lenN z ≤ 1000 := by unfold lenN; omega
  obtain ⟨n, hn'⟩ : ∃ n, lenN z = n := ⟨_, rfl⟩
  rw [hn'] at hn1 hm2 ⊢
  have hmk := run_make_row' (P := Tryd.prog) 28 22 (.int .u64 0) 8 Tryd.underlying28 info22 rfl .i64 .i64 n (by omega) (by omega)
  rw [made_us] at hmk
  obtain ⟨b, hb⟩ : ∃ b, w.heap.size = b := ⟨_, rfl⟩
  have HA0 : Hid (MkAt b n [] (w.alloc (.cells (MkC n []) 22))) := by
    show _ = _
    rw [← hb]
    exact heap_alloc_new _ _
  have HB0 : Hid (Below w.heap.size w (w.alloc (.cells (MkC n []) 22))) := (Below.refl _ w).alloc (Nat.le_refl _) _
  have HBB : Hid (w.heap.size = b) := hb
  obtain ⟨x1, hx1⟩ : ∃ x1 : Nat, max x 1 = x1 := ⟨_, rfl⟩
  have hx2 : max (x : Int) 1 = (x1 : Int) := by omega
  rw [hx1]
  clear hn' hx1
  go_enter Tryd.func18, Tryd.ntmps18
  go_wp2_with fail
  clear hb
  go_loopw [6, 7, 16] (fun v _ i wr => ∃ k : Nat, k ≤ n ∧ v = .int .u64 (itN k x1 : Int) ∧ i = .int .i64 (k : Int) ∧ MkAt b n (mixL k x1) wr ∧ Below w.heap.size w wr) (fun _ _ i _ => n - (intOf i).toNat)
  case atStart => exact ⟨0, by omega, rfl, rfl, HA0.out, HB0.out⟩
  case round =>
    obtain ⟨k, hk, rfl, rfl, ha, hbw⟩ := hrel
    have HA : Hid (MkAt b n (mixL k x1) wr) := ha
    have HB : Hid (Below w.heap.size w wr) := hbw
    by_cases hlt : k < n
    · have ik : (k : Int) < (n : Int) := by omega
      have hfz := ha.fz k
      obtain ⟨v0, hc⟩ := ha.cell0 (by rw [mixL_length]; omega) k hlt
      obtain ⟨y, hy⟩ : ∃ y, itN k x1 = y := ⟨_, rfl⟩
      have HY : Hid (itN k x1 = y) := hy
      rw [hy]
      clear hy ha hbw
      go_wp2_with fail
      have hmx := (mix_nat y).1
      unfold mixI at hmx
      rw [hmx]
      have hnx : itN (k + 1) x1 = mixN y := by rw [← HY.out]; rfl
      refine ⟨⟨k + 1, by omega, by rw [hnx], by go_num, ?_, ?_⟩, by simp [intOf]; omega⟩
      · have h1 := HA.out.set (z := itN (k + 1) x1) (by rw [mixL_length]; exact hlt)
        rw [mixL_length, ← mixL_succ, hnx] at h1
        exact h1
      · exact HB.out.setCell (p := ⟨b, k, none⟩) (by show w.heap.size ≤ b; rw [HBB.out]; exact Nat.le_refl _) _
    · obtain rfl : k = n := by omega
      have ik : ¬ (k : Int) < (k : Int) := by omega
      clear ha hbw hlt
      go_wp2_with fail
      go_ret
      refine ⟨by rw [HBB.out]; rfl, ?_, HB.out, ?_⟩
      · rw [HBB.out]; exact HA.out.row
      · rw [HBB.out]; exact lt_of_heap HA.out
/-- The document's own numbers that are made: a row that the call built. -/
def UsRes (B : Nat) (l : List Nat) (e : Ending) (w : World) : Prop := ∃ ao cap, e = .returned (.slice ao l.length cap) ∧ OwA B 22 ao cap (us l) w
set_option maxHeartbeats 1000000 in
set_option maxRecDepth 100000 in
theorem refMix_any (x : Nat) (z : Int) (w : World) : Calls Tryd.prog 19 #[.int .u64 (x : Int), .int .i64 z] w fun e w' => UsRes w.heap.size (mixL (lenN z) (max x 1)) e w' ∧ Below w.heap.size w w' := by
  obtain ⟨i0, hi, hz0, hz1, hz2⟩ := info_parts info22
  have hn1 : lenN z ≤ 1000 ∧ ((0 < lenN z ∧ (min z 1000) = (lenN z : Int)) ∨ (lenN z = 0 ∧ z ≤ 0)) := by unfold lenN; omega
  obtain ⟨n, hn'⟩ : ∃ n, lenN z = n := ⟨_, rfl⟩
  rw [hn'] at hn1 ⊢
  have HZ : Hid (n ≤ 1000 ∧ ((0 < n ∧ (min z 1000) = (n : Int)) ∨ (n = 0 ∧ z ≤ 0))) := hn1
  obtain ⟨x1, hx1⟩ : ∃ x1 : Nat, max x 1 = x1 := ⟨_, rfl⟩
  rw [hx1]
  have hcase : (((x : Int) == 0) = true ∧ x1 = 1) ∨ (((x : Int) == 0) = false ∧ x1 = x) := by
    by_cases h0 : x = 0
    · left
      refine ⟨?_, by omega⟩
      rw [beq_iff_eq]
      omega
    · right
      refine ⟨?_, by omega⟩
      rw [beq_eq_false_iff_ne]
      omega
  obtain ⟨B, hB⟩ : ∃ B, w.heap.size = B := ⟨_, rfl⟩
  have HBB : Hid (w.heap.size = B) := hB
  clear hn' hx1 hn1
  rcases hcase with ⟨h0, hx1⟩ | ⟨h0, hx1⟩
  all_goals (
    have HX1 : Hid _ := hx1
    clear hx1
    go_enter Tryd.func19, Tryd.ntmps19
    go_wp2_with fail
    clear hB
    go_loopw [5, 6, 7] (fun v o i wr => ∃ k : Nat, k ≤ n ∧ v = .int .u64 (itN k x1 : Int) ∧ i = .int .i64 (k : Int) ∧ (∃ ao cap, o = .slice ao k cap ∧ wr.ownsRow B 22 1 (.slice ao k cap) k (us (mixL k x1))) ∧ Below w.heap.size w wr) (fun _ _ i _ => n - (intOf i).toNat)
    case atStart => exact ⟨0, by omega, by rw [HX1.out]; rfl, rfl, ⟨none, 0, rfl, World.ownsRow_nil _ _ _ _⟩, Below.refl _ _⟩
    case round =>
      obtain ⟨k, hk, rfl, rfl, ⟨ao, cap, rfl, how⟩, hbw⟩ := hrel
      have HO : Hid (wr.ownsRow B 22 1 (.slice ao k cap) k (us (mixL k x1))) := how
      have HB : Hid (Below w.heap.size w wr) := hbw
      have hBw : B ≤ wr.heap.size := by rw [← HBB.out]; exact hbw.size
      by_cases hlt : k < n
      · have ik : (k : Int) < z ∧ (k : Int) < 1000 := by have := HZ.out; omega
        obtain ⟨ik1, ik2⟩ := ik
        obtain ⟨y, hy⟩ : ∃ y, itN k x1 = y := ⟨_, rfl⟩
        have HY : Hid (itN k x1 = y) := hy
        rw [hy]
        have hmx := (mix_nat y).1
        unfold mixI at hmx
        have hk1 : k ≤ 1000 := by omega
        clear hy how hbw
        go_wp2_with (first
          | (at_builtin; refine wpList_append_any rfl (.tmp 32) (.tmp 34) 28 rfl B 22 i0 _ 1 8 Tryd.underlying28 hi hz0 hz1 hz2 rfl (by decide) _ k (us (mixL k x1)) rfl (World.ownsRow.alloc HO.out _) ⟨wr.heap.size, 0, none⟩ 1 1 [.int .u64 (mixN y : Int)] rfl (by rfl) (row_one (heap_alloc_new wr _)) (us_one [mixN y]) (by unfold maxLen; omega) (by omega) (by simp; omega) ?_
             intro v5 w5 ho5 hb5 hg5))
        have hnx : itN (k + 1) x1 = mixN y := by rw [← HY.out]; rfl
        have e6 : us (mixL (k + 1) x1) = us (mixL k x1) ++ [.int .u64 (mixN y : Int)] := by rw [mixL_succ, us_app, hnx]; rfl
        rw [← e6] at ho5
        obtain ⟨ao5, cap5, rfl, how5⟩ := own_of ho5 (by rw [us_length, mixL_length])
        unfold OwA at how5
        rw [us_length, mixL_length] at how5
        have hB5 : Below B wr w5 := ((Below.refl B wr).alloc hBw _).trans hb5
        refine ⟨⟨k + 1, by omega, by rw [hnx], by go_num, ⟨ao5, cap5, by rw [us_length, mixL_length], how5⟩, HB.out.trans (by rw [HBB.out]; exact hB5)⟩, by simp [intOf]; omega⟩
      · obtain rfl : k = n := by omega
        have ik : ¬ (k : Int) < z ∨ ((k : Int) < z ∧ ¬ (k : Int) < 1000) := by have := HZ.out; omega
        clear how hbw hlt
        rcases ik with ik | ⟨ik, ik2⟩ <;> (
          go_wp2_with fail
          go_ret
          refine ⟨⟨ao, cap, by rw [mixL_length]; rfl, ?_⟩, HB.out⟩
          unfold OwA
          rw [us_length, mixL_length, HBB.out]
          exact HO.out))
/-- The document's Same, at any two rows. -/
theorem same_step {l m : List Nat} {j a b : Nat} (ha : l[j]? = some a) (hb : m[j]? = some b) : decide (l.drop j = m.drop j) = (decide (a = b) && decide (l.drop (j + 1) = m.drop (j + 1))) := by
  obtain ⟨h1, rfl⟩ := List.getElem?_eq_some_iff.1 ha
  obtain ⟨h2, rfl⟩ := List.getElem?_eq_some_iff.1 hb
  rw [List.drop_eq_getElem_cons h1, List.drop_eq_getElem_cons h2]
  simp only [List.cons.injEq, Bool.decide_and]
set_option maxHeartbeats 1000000 in
set_option maxRecDepth 100000 in
theorem sameU_any (ao bo : Option Addr) (c1 c2 : Nat) (l m : List Nat) (w : World) (h1 : RowU w ao l) (h2 : RowU w bo m) (hl : l.length ≤ 9223372036854775807) (r : Bool) (hr : decide (l = m) = r) :
    Calls Tryd.prog 17 #[.slice ao l.length c1, .slice bo m.length c2] w fun e w' => e = .returned (.bool r) ∧ ∃ k, w' = w.drewN k := by
  have H1 : Hid _ := h1
  have H2 : Hid _ := h2
  by_cases hlen : l.length = m.length
  · obtain ⟨n, hn⟩ : ∃ n, l.length = n := ⟨_, rfl⟩
    have hn2 : m.length = n := by omega
    rw [hn2, hn]
    rw [hn] at hl
    have HN : Hid _ := hn
    have HN2 : Hid _ := hn2
    have HR : Hid _ := hr
    clear h1 h2 hn hn2 hr hlen
    go_enter Tryd.func17, Tryd.ntmps17
    go_wp2_with fail
    go_loopw [5] (fun i wr => ∃ j : Nat, j ≤ n ∧ i = .int .i64 (j : Int) ∧ Hid (decide (l.drop j = m.drop j) = r) ∧ ∃ d, wr = w.drewN d) (fun i _ => n - (intOf i).toNat)
    case atStart => exact ⟨0, Nat.zero_le _, rfl, HR.out, 0, rfl⟩
    case round =>
      obtain ⟨j, hj, rfl, HJ, d, rfl⟩ := hrel
      by_cases hlt : j < n
      · obtain ⟨a, ha⟩ : ∃ a, l[j]? = some a := ⟨_, List.getElem?_eq_getElem (by rw [HN.out]; exact hlt)⟩
        obtain ⟨b, hb⟩ : ∃ b, m[j]? = some b := ⟨_, List.getElem?_eq_getElem (by rw [HN2.out]; exact hlt)⟩
        obtain ⟨a1, rfl, k1⟩ := RowU.at H1.out ha
        obtain ⟨a2, rfl, k2⟩ := RowU.at H2.out hb
        have hst := same_step ha hb
        have hlt' : (j : Int) < (n : Int) := by omega
        have hj0 : (0 : Int) ≤ (j : Int) := by omega
        by_cases hab : a = b
        · have heq : ((a : Int) == (b : Int)) = true := by rw [beq_iff_eq]; omega
          have HST : Hid (decide (l.drop (j + 1) = m.drop (j + 1)) = r) := by
            have := HJ.out
            rw [hst, decide_eq_true hab, Bool.true_and] at this
            exact this
          have HE : Hid (a = b) := hab
          have he2 : (a : Int) = (b : Int) := by omega
          clear ha hb hst hab
          go_wp2_with fail
          go_quiet (fail)
          go_wp2_with fail
          go_roundw
          case rel => exact ⟨j + 1, by omega, by go_num, HST, _, rfl⟩
          case measure => simp [intOf]; omega
        · have heq : ((a : Int) == (b : Int)) = false := by rw [beq_eq_false_iff_ne]; omega
          have HST : Hid (false = r) := by
            have := HJ.out
            rw [hst, decide_eq_false hab, Bool.false_and] at this
            exact this
          obtain rfl : false = r := HST.out
          have he2 : ¬ (a : Int) = (b : Int) := by omega
          clear ha hb hst hab
          go_wp2_with fail
          go_quiet (fail)
          go_wp2_with fail
          go_ret
          exact ⟨rfl, _, World.drewN_drewN _ _ _⟩
      · have hnl : ¬ (j : Int) < (n : Int) := by omega
        have h3 := HJ.out
        rw [List.drop_of_length_le (by rw [HN.out]; omega), List.drop_of_length_le (by rw [HN2.out]; omega)] at h3
        obtain rfl : true = r := by simpa using h3
        clear h3
        go_wp2_with fail
        go_ret
        exact ⟨rfl, d, rfl⟩
  · have hne : ¬ l = m := fun e => hlen (by rw [e])
    obtain rfl : false = r := by rw [← hr]; exact (decide_eq_false hne).symm
    have hi : ¬ (l.length : Int) = (m.length : Int) := by omega
    clear hr hne
    go_enter Tryd.func17, Tryd.ntmps17
    go_wp2_with fail
    go_ret
    exact ⟨rfl, 0, rfl⟩
end Go.Proofs.YtlpnbgpbahlodaaDoor
