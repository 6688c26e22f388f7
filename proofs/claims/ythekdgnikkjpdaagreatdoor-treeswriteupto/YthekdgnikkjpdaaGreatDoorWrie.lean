/-
  The contract of the closure that writes an element, over this program: for right elements whose texts are of at most 2000000 bytes.
-/
import Derived.Test.YthekdgnikkjpdaaGreatDoorWrid
import Derived.Test.YthekdgnikkjpdaaGreatDoorBele
namespace Go.Proofs.YthekdgnikkjpdaaGreatDoor
open Go.RowKit
def textE : Nat → El → List UInt8
  | 0, _ => []
  | d + 1, e => ([60] ++ e.nm ++ attrsT e.attrs) ++ (if e.text.isEmpty && e.kids.isEmpty then [47, 62] else ([62] ++ esc e.text) ++ (e.kids.flatMap (textE d) ++ ([60, 47] ++ e.nm ++ [62])))
def writeF (tb c : Nat) : Value := .func (.func 14) #[] #[.pointer (some ⟨tb, 0, none⟩), .pointer (some ⟨c, 0, none⟩)]
theorem kept_at {tb k : Nat} {cs : Array Value} {T : TypeId} {w w' : World} (h : Lib.OthersKept 5 (some tb) w w') (a : At k cs T w) (hT : T ≠ 5) (hk : k ≠ tb) : At k cs T w' :=
  h k _ a (fun e => hk (Option.some.inj e)) fun _ _ e => hT (Obj.cells.inj e).2.1
theorem kept_below {tb : Nat} {w w' : World} (h : Below w.heap.size w w') : Lib.OthersKept 5 (some tb) w w' := fun k _ hk _ _ => (h.block k (lt_of_heap hk)).trans hk
theorem el4 {r : Nat} {a b c d : Value} {T : TypeId} {w : World} (h : At r #[a, b, c, d] T w) : w.cell? ⟨r, 0, none⟩ = some a ∧ w.cell? ⟨r, 1, none⟩ = some b ∧ w.cell? ⟨r, 2, none⟩ = some c ∧ w.cell? ⟨r, 3, none⟩ = some d :=
  ⟨by rw [Lib.cell_of_heap h]; rfl, by rw [Lib.cell_of_heap h]; rfl, by rw [Lib.cell_of_heap h]; rfl, by rw [Lib.cell_of_heap h]; rfl⟩
theorem strB (s : ByteArray) : Lib.strCells s = Lib.byteCells s.data.toList := strCells_bytes s.data.toList
theorem byteB (a b : List UInt8) : Lib.byteCells (a ++ b) = Lib.byteCells a ++ Lib.byteCells b := by simp [Lib.byteCells]
theorem byteL (a : List UInt8) : (Lib.byteCells a).length = a.length := by simp [Lib.byteCells]
/-- WriteString, onto bytes. -/
theorem write_at (B tb : Nat) (acc : List UInt8) (s : ByteArray) (w : World) (h : Lib.IsBuilderF 46 5 B tb (Lib.byteCells acc) w) (hlen : acc.length + s.size ≤ 140737488355328) (hBw : B ≤ w.heap.size) :
    Calls Tryz.prog 15 #[.pointer (some ⟨tb, 0, none⟩), .string s] w fun e w' => e = .returned (.tuple #[.int .i64 s.size, .nilIface]) ∧ (Lib.IsBuilderF 46 5 B tb (Lib.byteCells (acc ++ s.data.toList)) w' ∧ Below B w w' ∧ Lib.OthersKept 5 (some tb) w w') :=
  (writeString_any B tb (Lib.byteCells acc) s w h (by rw [byteL]; exact hlen) hBw).mono fun e w' ⟨h1, h2, h3, h4⟩ => ⟨h1, by rw [byteB, ← strB]; exact .inr h2, h3, h4⟩
def WRes (B tb : Nat) (acc : List UInt8) (w : World) (e : Ending) (w' : World) : Prop :=
  e = .returned (.tuple #[]) ∧ Lib.IsBuilderF 46 5 B tb (Lib.byteCells acc) w' ∧ Below B w w' ∧ Lib.OthersKept 5 (some tb) w w'
set_option maxHeartbeats 4000000 in
set_option maxRecDepth 100000 in
theorem writeC_any (B tb c : Nat) (cs : Array Value) (hcs : cs = #[writeF tb c]) : ∀ (d : Nat) (m : Nat) (e : El) (acc : List UInt8) (s1 s2 : ByteArray) (ao1 ao2 : Option Addr) (n1 n2 cap1 cap2 : Nat) (w : World), rightE d e = true → Tabs w → 3 ≤ B → B ≤ w.heap.size → At c cs 47 w → c ≠ tb → smallE d e →
    Lib.IsBuilderF 46 5 B tb (Lib.byteCells acc) w → acc.length + (textE d e).length ≤ 140737488355328 → ElAt (fun k => k < B) w m e (.string s1) (.slice ao1 n1 cap1) (.string s2) (.slice ao2 n2 cap2) →
    Calls Tryz.prog 14 #[.agg #[.string s1, .slice ao1 n1 cap1, .string s2, .slice ao2 n2 cap2], .pointer (some ⟨tb, 0, none⟩), .pointer (some ⟨c, 0, none⟩)] w (WRes B tb (acc ++ textE d e) w) := by
  subst hcs
  intro d
  induction d with
  | zero => intro m e acc s1 s2 ao1 ao2 n1 n2 cap1 cap2 w hr; cases hr
  | succ d ih =>
    intro m e acc s1 s2 ao1 ao2 n1 n2 cap1 cap2 w hr hT hB3 hBw hc hct hsm hI hlen hel
    cases m with
    | zero => exact hel.elim
    | succ m =>
    obtain ⟨q1, q2, q3, xs, q4, q5⟩ := hel
    obtain ⟨ao', cap', q2e, _⟩ := id q2
    obtain ⟨rfl, rfl, rfl⟩ := Value.slice.inj q2e
    obtain ⟨ao', cap', q4e, _⟩ := id q4
    obtain ⟨rfl, rfl, rfl⟩ := Value.slice.inj q4e
    obtain rfl := Value.string.inj q1
    obtain rfl := Value.string.inj q3
    obtain ⟨m1, m2, m3, m4, m5⟩ := hsm
    unfold rightE at hr
    simp only [Bool.and_eq_true, decide_eq_true_eq] at hr
    obtain ⟨r1, r2, r3, r4, r5⟩ := hr
    unfold rightA at r3
    simp only [Bool.and_eq_true, decide_eq_true_eq] at r3
    have hal := attrsOk_all _ _ r3.2
    have hps : ∀ p ∈ e.attrs, p.1.length ≤ 16 ∧ p.2.length ≤ 2000000 := fun p hp => ⟨name_len (hal p hp).1, (m3 p hp).2⟩
    have hat := attrsT_len e.attrs hps
    have hnl := name_len r2
    have hT3 := hT.size
    have hcl := lt_of_heap hc
    have htl : tb < w.heap.size := by rcases hI with ⟨_, v, h, _⟩ | ⟨_, v, h, _⟩ <;> exact lt_of_heap h
    obtain ⟨nm, hnm⟩ : ∃ nm : ByteArray, (⟨e.nm.toArray⟩ : ByteArray) = nm := ⟨_, rfl⟩
    obtain ⟨tx, htx⟩ : ∃ tx : ByteArray, (⟨e.text.toArray⟩ : ByteArray) = tx := ⟨_, rfl⟩
    obtain ⟨av, hav⟩ : ∃ av : ByteArray, (⟨(attrsT e.attrs).toArray⟩ : ByteArray) = av := ⟨_, rfl⟩
    have zn : nm.size ≤ 16 := by rw [size_list, ← hnm]; exact hnl
    have za : av.size ≤ 100000000 := by rw [size_list, ← hav]; simp only; omega
    have zt : tx.size ≤ 2000000 := by rw [size_list, ← htx]; exact m1
    obtain ⟨a1, ha1⟩ : ∃ a : ByteArray, ⟨#[60]⟩ ++ nm = a := ⟨_, rfl⟩
    obtain ⟨a2, ha2⟩ : ∃ a : ByteArray, a1 ++ av = a := ⟨_, rfl⟩
    have z1 : a1.size ≤ 20 := by rw [← ha1, app_size]; show 1 + nm.size ≤ 20; omega
    have z2 : a2.size ≤ 200000000 := by rw [← ha2, app_size]; omega
    have g1 : ∀ W, (Op.stringOp .add ⟨#[60]⟩ nm).run Tryz.prog W = .ok (.string a1) W := fun W => (run_string_add_sum W _ _ (by show 1 + nm.size ≤ _; omega)).trans (by rw [ha1])
    have g2 : ∀ W, (Op.stringOp .add a1 av).run Tryz.prog W = .ok (.string a2) W := fun W => (run_string_add_sum W _ _ (by omega)).trans (by rw [ha2])
    have la2 : a2.data.toList = [60] ++ e.nm ++ attrsT e.attrs := by rw [← ha2, ← ha1, app_list, app_list, ← hnm, ← hav]
    rw [hnm, htx]
    have ltx : tx.data.toList = e.text := by rw [← htx]
    have lnm : nm.data.toList = e.nm := by rw [← hnm]
    have K1 : ∀ W, Below w.heap.size w W → Calls Tryz.prog 16 #[.slice ao1 e.attrs.length cap1] W fun e w' => e = .returned (.string av) ∧ Below W.heap.size W w' := fun W hW => by rw [← hav]; exact attrsText_any ao1 cap1 e.attrs W (hT.below hT3 hW) (Row.step q2 (row_below hW)) hps (fun p hp => (hal p hp).2) r3.1
    have hbox : At w.heap.size #[.string nm, .slice ao1 e.attrs.length cap1, .string tx, .slice ao2 e.kids.length cap2] 25 (w.alloc (.cells #[.string nm, .slice ao1 e.attrs.length cap1, .string tx, .slice ao2 e.kids.length cap2] 25)) := heap_alloc_new w _
    have hb0 : ∀ o, Below w.heap.size w (w.alloc o) := fun o => (Below.refl _ _).alloc (Nat.le_refl _) o
    have hlen2 : acc.length + a2.size ≤ 140737488355328 := by
      rw [size_list, la2]
      have : (textE (d + 1) e).length = ([60] ++ e.nm ++ attrsT e.attrs).length + (if e.text.isEmpty && e.kids.isEmpty then [47, 62] else ([62] ++ esc e.text) ++ (e.kids.flatMap (textE d) ++ ([60, 47] ++ e.nm ++ [62]))).length := by unfold textE; rw [List.length_append]
      omega
    have HI : Hid (Lib.IsBuilderF _ _ _ _ _ _) := hI
    have HC : Hid (At _ _ _ _) := hc
    have HBX : Hid (At _ _ _ _) := hbox
    have hbt : ¬ w.heap.size = tb := by omega
    clear hI hc hbox ha1 ha2 hnm htx hav q2 q2e q4e q1 q3
    have HEND : Hid (∀ (acc' : List UInt8) W, acc' = acc ++ textE (d + 1) e → Lib.IsBuilderF 46 5 B tb (Lib.byteCells acc') W → Below B w W → Lib.OthersKept 5 (some tb) w W → WRes B tb (acc ++ textE (d + 1) e) w (.returned (.tuple #[])) W) := fun acc' W h1 h2 h3 h4 => ⟨rfl, h1 ▸ h2, h3, h4⟩
    have Q4 : Hid (Row _ _ _ _ _) := q4
    have Q5 : Hid (KidsAt _ _ _) := q5
    clear q4 q5
    have hk16 : (e.kids.length : Int) ≤ 16 := by omega
    go_enter Tryz.func14, Tryz.ntmps14
    go_wp2_with fail
    go_region_held3 (fun W => W.cell? ⟨w.heap.size, 0, none⟩ = some (.string nm) ∧ W.cell? ⟨w.heap.size, 1, none⟩ = some (.slice ao1 e.attrs.length cap1))
      (first | go_keep)
      (first
        | (go_at_call 16; refine (K1 _ ?_).mono ?_; (exact (hb0 _).drew); rintro e' w1 ⟨rfl, hb1⟩; have b1 := At.below (At.drew HBX.out) hb1 (by simp); have hz1 := hb1.size; simp at hz1; have u0 := (el4 b1).1; have u1 := (el4 b1).2.1)
        | (go_at_call 15; refine (write_at B tb acc a2 _ ?_ hlen2 ?_).mono ?_; (exact builder_below (w := w) HI.out ((hb0 _).drew.trans (hb1.mono (by simp)))); (omega); rintro e' w2 ⟨rfl, hI2, hB2, hO2⟩; have b2 := kept_at hO2 b1 (by decide) hbt; have v0 := (el4 b2).1; have v1 := (el4 b2).2.1))
    have x2 := (el4 b2).2.2.1
    have x3 := (el4 b2).2.2.2
    have hBw2 : Below B w w2 := (((hb0 (.cells #[.string nm, .slice ao1 e.attrs.length cap1, .string tx, .slice ao2 e.kids.length cap2] 25)).drew.trans (hb1.mono (by simp))).mono hBw).trans hB2
    have hOw2 : Lib.OthersKept 5 (some tb) w w2 := (kept_below ((hb0 (.cells #[.string nm, .slice ao1 e.attrs.length cap1, .string tx, .slice ao2 e.kids.length cap2] 25)).drew.trans (hb1.mono (by simp)))).trans hO2
    have hz2 := hB2.size
    rw [la2] at hI2
    have B2 : Hid (At _ _ _ _) := b2
    clear b1 b2 hb1 hB2 hO2 K1 g1 g2
    by_cases hem : e.text = [] ∧ e.kids = []
    · have te : textE (d + 1) e = ([60] ++ e.nm ++ attrsT e.attrs) ++ [47, 62] := by unfold textE; rw [hem.1, hem.2]; rfl
      have hk0 : e.kids.length = 0 := by rw [hem.2]; rfl
      have ht0 : tx.toList.isEmpty = true := by rw [Lib.toList_data, ltx, hem.1]; rfl
      have hl3 : (acc ++ ([60] ++ e.nm ++ attrsT e.attrs)).length + (⟨#[47, 62]⟩ : ByteArray).size ≤ 140737488355328 := by rw [te] at hlen; simp at hlen ⊢; show _ + 2 ≤ _; omega
      have W3 := write_at B tb (acc ++ ([60] ++ e.nm ++ attrsT e.attrs)) ⟨#[47, 62]⟩ w2 hI2 hl3 (by omega)
      rw [hk0] at x3
      have TE : Hid _ := te
      clear te hem hk0
      go_wp2_with (go_at_call 15; refine W3.mono ?_; rintro e' w3 ⟨rfl, hI3, hB3', hO3⟩)
      exact bodyPost_ret (results_none rfl _ _ _) rfl (HEND.out _ _ (by rw [TE.out, List.append_assoc]) hI3 (hBw2.trans hB3') (hOw2.trans hO3))
    · have hcond : (e.text.isEmpty && e.kids.isEmpty) = false := by
        cases h1 : e.text.isEmpty
        · rfl
        · cases h2 : e.kids.isEmpty
          · rfl
          · exact absurd ⟨List.isEmpty_iff.1 h1, List.isEmpty_iff.1 h2⟩ hem
      have te : textE (d + 1) e = ([60] ++ e.nm ++ attrsT e.attrs) ++ (([62] ++ esc e.text) ++ (e.kids.flatMap (textE d) ++ ([60, 47] ++ e.nm ++ [62]))) := by
        conv => lhs; unfold textE
        rw [hcond]
        rfl
      have htl2 : (textE (d + 1) e).length = ([60] ++ e.nm ++ attrsT e.attrs).length + (([62] ++ esc e.text).length + ((e.kids.flatMap (textE d)).length + ([60, 47] ++ e.nm ++ [62]).length)) := by rw [te]; simp only [List.length_append]
      obtain ⟨ex, hex⟩ : ∃ ex : ByteArray, (⟨(esc tx.data.toList).toArray⟩ : ByteArray) = ex := ⟨_, rfl⟩
      have hexl : ex.data.toList = esc e.text := by rw [← hex, ltx]
      have zx : ex.size ≤ 12000000 := by rw [size_list, hexl]; have := (esc_length e.text).2; omega
      obtain ⟨b1, hb1e⟩ : ∃ a : ByteArray, ⟨#[62]⟩ ++ ex = a := ⟨_, rfl⟩
      have z3 : b1.size ≤ 12000001 := by rw [← hb1e, app_size]; show 1 + ex.size ≤ _; omega
      have g3 : ∀ W, (Op.stringOp .add ⟨#[62]⟩ ex).run Tryz.prog W = .ok (.string b1) W := fun W => (run_string_add_sum W _ _ (by show 1 + ex.size ≤ _; omega)).trans (by rw [hb1e])
      have lb1 : b1.data.toList = [62] ++ esc e.text := by rw [← hb1e, app_list, hexl]
      obtain ⟨c1, hc1e⟩ : ∃ a : ByteArray, ⟨#[60, 47]⟩ ++ nm = a := ⟨_, rfl⟩
      obtain ⟨c2, hc2e⟩ : ∃ a : ByteArray, c1 ++ ⟨#[62]⟩ = a := ⟨_, rfl⟩
      have z4 : c1.size ≤ 20 := by rw [← hc1e, app_size]; show 2 + nm.size ≤ _; omega
      have g4 : ∀ W, (Op.stringOp .add ⟨#[60, 47]⟩ nm).run Tryz.prog W = .ok (.string c1) W := fun W => (run_string_add_sum W _ _ (by show 2 + nm.size ≤ _; omega)).trans (by rw [hc1e])
      have g5 : ∀ W, (Op.stringOp .add c1 ⟨#[62]⟩).run Tryz.prog W = .ok (.string c2) W := fun W => (run_string_add_sum W _ _ (by show c1.size + 1 ≤ _; omega)).trans (by rw [hc2e])
      have lc2 : c2.data.toList = [60, 47] ++ e.nm ++ [62] := by rw [← hc2e, ← hc1e, app_list, app_list, lnm]
      have K5 := escaped_any tx w2 (hT.below hB3 hBw2) (by omega) (by rw [ltx]; exact r4)
      rw [hex] at K5
      have hl4 : (acc ++ ([60] ++ e.nm ++ attrsT e.attrs)).length + b1.size ≤ 140737488355328 := by rw [size_list, lb1, List.length_append]; omega
      have W4 := fun W hI hz => write_at B tb (acc ++ ([60] ++ e.nm ++ attrsT e.attrs)) b1 W hI hl4 hz
      rw [lb1] at W4
      have hgrd : ∀ j k, e.kids[j]? = some k → ∃ g off u1 a1 N1 p1 u2 a2 N2 p2, ao2 = some ⟨g, off, none⟩ ∧ g < B ∧ w.cell? ⟨g, off + j * 4, none⟩ = some (.string u1) ∧ w.cell? ⟨g, off + (j * 4 + 1), none⟩ = some (.slice a1 N1 p1) ∧ w.cell? ⟨g, off + (j * 4 + 2), none⟩ = some (.string u2) ∧ w.cell? ⟨g, off + (j * 4 + 3), none⟩ = some (.slice a2 N2 p2) ∧ ElAt (fun k => k < B) w m k (.string u1) (.slice a1 N1 p1) (.string u2) (.slice a2 N2 p2) := fun j k hk => by
        obtain ⟨a, b, c', d', i0, i1, i2, i3, i4⟩ := kids_get j Q5.out hk
        obtain ⟨g, off, e1, e2, e3⟩ : ∃ g off, ao2 = some ⟨g, off, none⟩ ∧ g < B ∧ ∀ i y, xs[i]? = some y → w.cell? ⟨g, off + i, none⟩ = some y := by
          have hr := Q4.out
          cases xs with
          | nil => simp at i0
          | cons x xs =>
            obtain ⟨g, off, e1, e2, e3⟩ := row_flat hr
            obtain ⟨ao'', cap'', f1, f2⟩ := hr
            obtain ⟨ad, f3, f4, _⟩ := f2 0 x rfl
            have f5 : ao2 = some ad := (Value.slice.inj f1).1.trans f3
            rw [e1] at f5
            cases f5
            exact ⟨g, off, e1, f4, e3⟩
        have h5 : ElE (fun k => k < B) w k a b c' d' := ⟨m, i4⟩
        obtain ⟨aA, cA, aB, cB, rfl, rfl⟩ := h5.shape
        obtain ⟨rfl, _, rfl, _⟩ := h5.parts
        exact ⟨g, off, _, aA, _, cA, _, aB, _, cB, e1, e2, e3 _ _ i0, e3 _ _ i1, e3 _ _ i2, e3 _ _ i3, i4⟩
      have HG : Hid _ := hgrd
      have TE : Hid _ := te
      have HTL : Hid _ := htl2
      have LC2 : Hid _ := lc2
      have hkt : (tx.toList.isEmpty = false) ∨ (tx.toList.isEmpty = true ∧ ((e.kids.length : Int) == 0) = false) := by
        cases h1 : tx.toList.isEmpty
        · exact .inl rfl
        · refine .inr ⟨rfl, ?_⟩
          rw [beq_eq_false_iff_ne]
          intro h
          apply hem
          rw [Lib.toList_data, ltx, List.isEmpty_iff] at h1
          exact ⟨h1, List.eq_nil_of_length_eq_zero (by omega)⟩
      obtain ⟨n, hn⟩ : ∃ n, e.kids.length = n := ⟨_, rfl⟩
      rw [hn] at hk16 hkt x3 B2 ⊢
      have HN : Hid _ := hn
      clear te htl2 lc2 hgrd hem hcond hex hexl hb1e hc1e hc2e lb1 ltx lnm hn
      have WALK : (tx.toList.isEmpty = false) ∨ (tx.toList.isEmpty = true ∧ ((n : Int) == 0) = false) := hkt
      clear hkt
      rcases WALK with hk | ⟨hk, hk2⟩
      all_goals
        go_wp2_with (first | (go_at_call 17; refine K5.mono ?_; rintro e' w3 ⟨rfl, hb3⟩; have hz3 := hb3.size) | (go_at_call 15; refine (W4 _ (builder_below hI2 hb3) (by omega)).mono ?_; rintro e' w4 ⟨rfl, hI4, hB4, hO4⟩; have b4 := kept_at hO4 (At.below B2.out hb3 (by omega)) (by decide) hbt; have y3 := (el4 b4).2.2.2))
        have hBw4 : Below B w w4 := (hBw2.trans (hb3.mono (by omega))).trans hB4
        have hOw4 : Lib.OthersKept 5 (some tb) w w4 := (hOw2.trans (kept_below hb3)).trans hO4
        have HI4 : Hid (Lib.IsBuilderF _ _ _ _ _ _) := hI4
        have B4 : Hid (At _ _ _ _) := b4
        have HB4 : Hid (Below _ _ _) := hBw4
        have HO4 : Hid (Lib.OthersKept _ _ _ _) := hOw4
        clear hI2 hI4 b4 hBw4 hOw4 hBw2 hOw2 hB4 hO4 hb3 x2 x3 y3 W4 K5 g3
        go_loopw [32] (fun i wr => ∃ j : Nat, j ≤ n ∧ i = .int .i64 j ∧ Lib.IsBuilderF 46 5 B tb (Lib.byteCells ((acc ++ ([60] ++ e.nm ++ attrsT e.attrs) ++ ([62] ++ esc e.text)) ++ (e.kids.take j).flatMap (textE d))) wr ∧ Below B w wr ∧ Lib.OthersKept 5 (some tb) w wr ∧ At w.heap.size #[.string nm, .slice ao1 e.attrs.length cap1, .string tx, .slice ao2 n cap2] 25 wr ∧ w.heap.size < wr.heap.size) (fun i _ => n - (intOf i).toNat)
        case atStart => exact ⟨0, Nat.zero_le _, rfl, by simpa using HI4.out, HB4.out, HO4.out, B4.out, lt_of_heap B4.out⟩
        case round =>
          obtain ⟨j, hj, rfl, hIr, hBr, hOr, hbr, hsr⟩ := hrel
          by_cases hlt : j < n
          · obtain ⟨kd, hkd⟩ : ∃ kd, e.kids[j]? = some kd := ⟨_, List.getElem?_eq_getElem (by rw [HN.out]; exact hlt)⟩
            obtain ⟨g, off, u1, v1, N1, p1, u2, v2, N2, p2, rfl, hg, x0, x1, x2, x3, hE⟩ := HG.out j kd hkd
            have hmem := List.mem_of_getElem? hkd
            have y0 : wr.cell? ⟨g, off + j * 4, none⟩ = some (.string u1) := by rw [hBr.cell (p := ⟨g, _, none⟩) hg]; exact x0
            have y1 : wr.cell? ⟨g, off + j * 4 + 1, none⟩ = some (.slice v1 N1 p1) := by rw [hBr.cell (p := ⟨g, _, none⟩) hg, Nat.add_assoc]; exact x1
            have y2 : wr.cell? ⟨g, off + j * 4 + 2, none⟩ = some (.string u2) := by rw [hBr.cell (p := ⟨g, _, none⟩) hg, Nat.add_assoc]; exact x2
            have y3 : wr.cell? ⟨g, off + j * 4 + 3, none⟩ = some (.slice v2 N2 p2) := by rw [hBr.cell (p := ⟨g, _, none⟩) hg, Nat.add_assoc]; exact x3
            have hcr := kept_at hOr HC.out (by decide) hct
            have yc : wr.cell? ⟨c, 0, none⟩ = some (writeF tb c) := by rw [Lib.cell_of_heap hcr]; rfl
            unfold writeF at yc
            have hgr : g < wr.heap.size := by omega
            have hclr : c < wr.heap.size := lt_of_heap hcr
            have hi0 : (0 : Int) ≤ (j : Int) := Int.natCast_nonneg _
            have hi1 : (j : Int) < (n : Int) := by omega
            have htake : (e.kids.take (j + 1)).flatMap (textE d) = (e.kids.take j).flatMap (textE d) ++ textE d kd := by
              obtain ⟨hj', e'⟩ := List.getElem?_eq_some_iff.1 hkd
              rw [List.take_succ_eq_append_getElem hj', e']
              simp
            have hlk : ((acc ++ ([60] ++ e.nm ++ attrsT e.attrs) ++ ([62] ++ esc e.text)) ++ (e.kids.take j).flatMap (textE d)).length + (textE d kd).length ≤ 140737488355328 := by
              have h1 : ((e.kids.take (j + 1)).flatMap (textE d)).length ≤ (e.kids.flatMap (textE d)).length := by
                conv => rhs; rw [← List.take_append_drop (j + 1) e.kids, List.flatMap_append, List.length_append]
                omega
              rw [htake, List.length_append] at h1
              have h2 := HTL.out
              simp only [List.length_append] at h2 hlen ⊢
              omega
            have H5 : ∀ o, Calls Tryz.prog 14 #[.agg #[.string u1, .slice v1 N1 p1, .string u2, .slice v2 N2 p2], .pointer (some ⟨tb, 0, none⟩), .pointer (some ⟨c, 0, none⟩)] (wr.alloc o) (WRes B tb (((acc ++ ([60] ++ e.nm ++ attrsT e.attrs) ++ ([62] ++ esc e.text)) ++ (e.kids.take j).flatMap (textE d)) ++ textE d kd) (wr.alloc o)) := fun o => by
              have hb := hBr.alloc (by omega) o
              exact ih m kd _ u1 u2 v1 v2 N1 N2 p1 p2 _ (List.all_eq_true.1 r5 kd hmem) (hT.below hB3 hb) hB3 (by simp; omega) (hcr.alloc o) hct (m5 kd hmem) (builder_below hIr ((Below.refl _ _).alloc (Nat.le_refl _) o)) hlk (hE.step fun k hk _ => ⟨hk, hb.block k hk⟩)
            have HTK : Hid _ := htake
            have HBR : Hid (Below _ _ _) := hBr
            have HOR : Hid (Lib.OthersKept _ _ _ _) := hOr
            have HBX2 : Hid (At _ _ _ _) := hbr
            clear x0 x1 x2 x3 hE hkd htake hIr hBr hOr hbr hcr hlk
            go_wp2_with (go_at_call 14; refine (H5 _).mono ?_; rintro e' w5 ⟨rfl, hI5, hB5, hO5⟩)
            go_roundw
            case rel =>
              refine ⟨j + 1, by omega, by go_num, ?_, (Below.alloc HBR.out (by omega) _).trans hB5, (Lib.OthersKept.alloc HOR.out _).trans hO5, kept_at hO5 (At.alloc HBX2.out _) (by decide) hbt, ?_⟩
              · rw [HTK.out, ← List.append_assoc]
                exact hI5
              · have := hB5.size
                simp at this
                omega
            case measure => simp [intOf]; omega
          · have hjn : j = n := by omega
            subst hjn
            have y0 := (el4 hbr).1
            have hall : (e.kids.take j).flatMap (textE d) = e.kids.flatMap (textE d) := by rw [List.take_of_length_le (by rw [HN.out]; omega)]
            rw [hall] at hIr
            have hl6 : ((acc ++ ([60] ++ e.nm ++ attrsT e.attrs) ++ ([62] ++ esc e.text)) ++ e.kids.flatMap (textE d)).length + c2.size ≤ 140737488355328 := by
              rw [size_list, LC2.out]
              have h2 := HTL.out
              simp only [List.length_append] at h2 hlen ⊢
              omega
            have W6 := write_at B tb _ c2 wr hIr hl6 (by omega)
            rw [LC2.out] at W6
            have HBR : Hid (Below _ _ _) := hBr
            have HOR : Hid (Lib.OthersKept _ _ _ _) := hOr
            clear hIr hBr hOr hbr hall
            go_wp2_with (go_at_call 15; refine W6.mono ?_; rintro e' w6 ⟨rfl, hI6, hB6, hO6⟩)
            first
              | exact bodyPost_ret (results_none rfl _ _ _) rfl (HEND.out _ _ (by rw [TE.out]; simp only [List.append_assoc]) hI6 (Below.trans HBR.out hB6) (Lib.OthersKept.trans HOR.out hO6))
              | (go_end0; exact HEND.out _ _ (by rw [TE.out]; simp only [List.append_assoc]) hI6 (Below.trans HBR.out hB6) (Lib.OthersKept.trans HOR.out hO6))
end Go.Proofs.YthekdgnikkjpdaaGreatDoor
