/-
  The map of shapes is filled in whatever order: each operation of the region keeps the relation.
-/
import Derived.Test.YtmmkfpeckfmjeaaDoorShw
namespace Go.Proofs.YtmmkfpeckfmjeaaDoor
open Go Go.RowKit Go.Maps
set_option maxRecDepth 100000
def depT : List (List Nat) := [[], [], [1], [], [], [2, 3, 4], [5], [], [6, 7], [0, 8], [], [], [11], [12], [10, 13], [0, 14], [], [], [17], [18], [], [19, 20], [16, 21], [0, 22], [], [], [25], [26], [], [27, 28], [24, 29], [0, 30], [], [], [32, 33], [0, 34], [], [0, 36], [], [38], [39], [0, 40], [], [0, 42], [], [44], [45], [0, 46], [], [], [48, 49], [50], [0, 51], [], [], [53, 54], [55], [0, 56], [], [0, 58], [], [0, 60], [], [0, 62], [0, 1, 2, 3, 4, 5, 6, 7, 8, 9, 10, 11, 12, 13, 14, 15, 16, 17, 18, 19, 20, 21, 22, 23, 24, 25, 26, 27, 28, 29, 30, 31, 32, 33, 34, 35, 36, 37, 38, 39, 40, 41, 42, 43, 44, 45, 46, 47, 48, 49, 50, 51, 52, 53, 54, 55, 56, 57, 58, 59, 60, 61, 62, 63], [64]]
theorem dep_all : ((List.range 66).all fun i => (depT.getD i []).all fun j => match (opsOf (Tryd.f19.body.bind (regionOf 6)))[i]? with
    | some o => o.after.any fun e => e.on == j && Region.binds .any e
    | none => false) = true := by kernel_rfl
theorem dep_low : ((List.range 66).all fun i => match (opsOf (Tryd.f19.body.bind (regionOf 6)))[i]? with
    | some o => o.after.all fun e => !(Region.binds .any e) || decide (e.on < i)
    | none => false) = true := by kernel_rfl
theorem ready_lt {listed : Array Bool} {i : Nat} (h : i ∈ Region.ready .any (opsOf (Tryd.f19.body.bind (regionOf 6))) listed) : i < 66 := by
  obtain ⟨_, o, ho, _⟩ := mem_ready.1 h
  have := (Array.getElem?_eq_some_iff.1 ho).1
  rw [ops6_size] at this
  exact this
theorem ready_dep {listed : Array Bool} {i : Nat} (h : i ∈ Region.ready .any (opsOf (Tryd.f19.body.bind (regionOf 6))) listed) : ∀ j ∈ depT.getD i [], listed.getD j false = true := by
  intro j hj
  obtain ⟨_, o, ho, hd⟩ := mem_ready.1 h
  have h1 := List.all_eq_true.1 (List.all_eq_true.1 dep_all i (List.mem_range.2 (ready_lt h))) j hj
  rw [ho] at h1
  simp only [Array.any_eq_true] at h1
  obtain ⟨k, hk, h2⟩ := h1
  rw [Bool.and_eq_true] at h2
  have := hd o.after[k] (Array.getElem_mem hk) h2.2
  rw [eq_of_beq h2.1] at this
  exact this
theorem all_listed {listed : Array Bool} (hs : listed.size = 66) (h : Region.ready .any (opsOf (Tryd.f19.body.bind (regionOf 6))) listed = []) (i : Nat) : i < 66 → listed.getD i false = true := by
  induction i using Nat.strongRecOn with
  | ind i ih =>
    intro hi
    by_cases hl : listed.getD i false = true
    · exact hl
    · exfalso
      have hlt : i < listed.size := by omega
      have e1 : listed.getD i true = false := by
        simp [hlt] at hl ⊢
        exact hl
      have hlt2 : i < (opsOf (Tryd.f19.body.bind (regionOf 6))).size := by rw [ops6_size]; exact hi
      have ho : (opsOf (Tryd.f19.body.bind (regionOf 6)))[i]? = some (opsOf (Tryd.f19.body.bind (regionOf 6)))[i] := Array.getElem?_eq_getElem hlt2
      have hm : i ∈ Region.ready .any (opsOf (Tryd.f19.body.bind (regionOf 6))) listed := mem_ready.2 ⟨e1, _, ho, fun e he hb => by
        have h1 := List.all_eq_true.1 dep_low i (List.mem_range.2 hi)
        rw [ho] at h1
        simp only [Array.all_eq_true] at h1
        obtain ⟨k, hk, rfl⟩ := Array.getElem_of_mem he
        have h2 := h1 k hk
        rw [hb] at h2
        have h3 : (opsOf (Tryd.f19.body.bind (regionOf 6)))[i].after[k].on < i := by simpa using h2
        exact ih _ h3 (by omega)⟩
      rw [h] at hm
      cases hm
/-- Blocks that the map is not. -/
def Po : Option Nat → Nat → Prop
  | none => fun _ => True
  | some m => fun k => k ≠ m
def VP (P : Nat → Prop) (b1 b3 b6 b7 b8 : Nat) (v5 : Value) (w : World) : Prop :=
  F70 P b1 maybeVerF w ∧ F70 P (b1 + 1) verF w ∧ F70 P b3 hF w ∧ F70 P (b3 + 1) prevF w ∧ TstAt P w v5 (oneN typeL) ∧ N59 P b6 (sayS [115, 104, 111, 119] (oneN showL)) w ∧ N59 P b7 (itemS setL) w ∧ N59 P b8 (itemS subL) w
theorem VP.step {P P' : Nat → Prop} {b1 b3 b6 b7 b8 : Nat} {v5 : Value} {w w' : World} (h : VP P b1 b3 b6 b7 b8 v5 w) (hp : Stp P P' w w') : VP P' b1 b3 b6 b7 b8 v5 w' :=
  ⟨h.1.step hp, h.2.1.step hp, h.2.2.1.step hp, h.2.2.2.1.step hp, h.2.2.2.2.1.step hp, h.2.2.2.2.2.1.step hp, h.2.2.2.2.2.2.1.step hp, h.2.2.2.2.2.2.2.step hp⟩
/-- What the map holds while it is filled. -/
def Mo (B : Nat) (om : Option Nat) (listed : Array Bool) (a : Act) (w : World) : Prop :=
  match om with
  | none => listed.getD 0 false = false ∧ ∀ i k, i < 66 → inT i = some k → listed.getD i false = false
  | some m => listed.getD 0 false = true ∧ a.tmps.getD 22 undef = .map (some m) ∧ B ≤ m ∧ ∃ (n : Nat) (D : DataW Value), n + leftOf listed ≤ 66 ∧ w.ownsMap Tryd.prog 3 heldR m n D ∧
      ∀ i k, i < 66 → inT i = some k → listed.getD i false = true → ∃ v, D.atKey (.int .i64 (k : Int)) (.held (.agg zero59)) = .held v ∧ NRes (fun b => b ≠ m) 3 (shapeN k) w v
structure JE (B b1 b3 b6 b7 b8 : Nat) (v5 : Value) (om : Option Nat) (listed : Array Bool) (a : Act) (w : World) : Prop where
  vp : VP (Po om) b1 b3 b6 b7 b8 v5 w
  sl : ∀ i sh, i < 66 → shT i = some sh → listed.getD i false = true → sh.R (Po om) w (a.tmps.getD (slT i) undef)
  mp : Mo B om listed a w
structure J (a0 : Act) (w0 : World) (b1 b3 b6 b7 b8 : Nat) (v5 : Value) (listed : Array Bool) (a : Act) (w : World) : Prop where
  sz : listed.size = 66
  asz : a.tmps.size = a0.tmps.size
  ad : a.defers = a0.defers
  fr : ∀ s, 0 < s → s < 22 → a.tmps.getD s undef = a0.tmps.getD s undef
  be : Below w0.heap.size w0 w
  ex : ∃ om, JE w0.heap.size b1 b3 b6 b7 b8 v5 om listed a w
  l1 : listed.getD 64 false = true → listed.getD 0 false = true ∧ a.tmps.getD 72 undef = a.tmps.getD 22 undef
  l2 : listed.getD 65 false = true → listed.getD 0 false = true ∧ a.tmps.getD 0 undef = a.tmps.getD 22 undef
theorem get_set {listed : Array Bool} {i j : Nat} (hi : i < listed.size) : (listed.setIfInBounds i true).getD j false = if j = i then true else listed.getD j false := by
  by_cases h : j = i
  · subst h
    simp [hi]
  · simp [Array.getD_eq_getD_getElem?, h, Ne.symm h]
theorem left_less {listed : Array Bool} {i : Nat} (h : listed.toList[i]? = some false) : leftOf (listed.setIfInBounds i true) + 1 = leftOf listed := by
  unfold leftOf
  rw [Array.toList_setIfInBounds]
  exact left_set _ _ h
/-- An operation that has a value of the table. -/
theorem J.val {a0 : Act} {w0 : World} {b1 b3 b6 b7 b8 : Nat} {v5 : Value} {listed : Array Bool} {a : Act} {w w' : World} {om : Option Nat} (h : J a0 w0 b1 b3 b6 b7 b8 v5 listed a w) (hA : 73 ≤ a0.tmps.size) (hE : JE w0.heap.size b1 b3 b6 b7 b8 v5 om listed a w) {i : Nat} (hi : i ∈ Region.ready .any (opsOf (Tryd.f19.body.bind (regionOf 6))) listed)
    {sh : Sh} (hs : shT i = some sh) (hin : inT i = none) (h0 : i ≠ 0) (h64 : i ≠ 64) (h65 : i ≠ 65) {v : Value} (hb : Below w.heap.size w w') (hv : sh.R (Po om) w' v) : J a0 w0 b1 b3 b6 b7 b8 v5 (listed.setIfInBounds i true) (a.put (some (slT i)) v) w' := by
  have hlt := ready_lt hi
  have hls : i < listed.size := by rw [h.sz]; exact hlt
  obtain ⟨q1, q2, q3⟩ := sl_low hlt h65
  have hq2 := q2 (by rw [hs]; exact fun e => by cases e)
  have hq3 := q3 h0
  have hsz : slT i < a.tmps.size := by rw [h.asz]; omega
  have hst : Stp (Po om) (Po om) w w' := .below hb
  have h72 : slT i ≠ 72 := by
    have := sl_inj hlt (show 64 < 66 by omega) h64
    exact this
  refine ⟨by simp [h.sz], by rw [put_size]; exact h.asz, h.ad, fun s hs0 hs1 => by rw [put_other (by omega)]; exact h.fr s hs0 hs1, h.be.trans (hb.mono h.be.size), ⟨om, hE.vp.step hst, fun j sh' hj hs' hl => ?_, ?_⟩, fun hl => ?_, fun hl => ?_⟩
  · by_cases e : j = i
    · subst e
      rw [hs] at hs'
      cases hs'
      rw [put_self hsz]
      exact hv
    · rw [get_set hls, if_neg e] at hl
      rw [put_other (sl_inj hlt hj (Ne.symm e))]
      exact Sh.step hst (hE.sl j sh' hj hs' hl)
  · have hm := hE.mp
    unfold Mo at hm ⊢
    cases om with
    | none =>
      simp only at hm ⊢
      refine ⟨by rw [get_set hls, if_neg (Ne.symm h0)]; exact hm.1, fun j k hj hk => ?_⟩
      have e : j ≠ i := fun e => by rw [e, hin] at hk; cases hk
      rw [get_set hls, if_neg e]
      exact hm.2 j k hj hk
    | some m =>
      simp only at hm ⊢
      obtain ⟨k1, k2, k3, n, D, k4, k5, k6⟩ := hm
      refine ⟨by rw [get_set hls, if_neg (Ne.symm h0)]; exact k1, by rw [put_other hq3]; exact k2, k3, n, D, ?_, ?_, fun j k hj hk hl => ?_⟩
      · have := left_less (unlisted hi)
        omega
      · obtain ⟨es, cl, e1, e2⟩ := k5
        exact ⟨es, cl, (hb.block m (lt_of_heap e1)).trans e1, e2⟩
      · have e : j ≠ i := fun e => by rw [e, hin] at hk; cases hk
        rw [get_set hls, if_neg e] at hl
        obtain ⟨v', r1, r2⟩ := k6 j k hj hk hl
        exact ⟨v', r1, r2.step (.below hb)⟩
  · rw [get_set hls, if_neg (Ne.symm h64)] at hl
    rw [get_set hls, if_neg (Ne.symm h0), put_other h72, put_other hq3]
    exact h.l1 hl
  · rw [get_set hls, if_neg (Ne.symm h65)] at hl
    rw [get_set hls, if_neg (Ne.symm h0), put_other (by omega), put_other hq3]
    exact h.l2 hl
theorem JE.po {B b1 b3 b6 b7 b8 : Nat} {v5 : Value} {listed : Array Bool} {a : Act} {w : World} {om : Option Nat} (hE : JE B b1 b3 b6 b7 b8 v5 om listed a w) :
    Po om w.heap.size ∧ ∀ w', Stp (Nw (Po om) w.heap.size) (Po om) w' w' ∧ Stp (fun k => w.heap.size ≤ k) (Po om) w' w' := by
  have hm := hE.mp
  cases om with
  | none => exact ⟨trivial, fun w' => ⟨Stp.imp fun _ _ => trivial, Stp.imp fun _ _ => trivial⟩⟩
  | some m =>
    obtain ⟨_, _, _, n, D, _, ⟨es, cl, e1, _⟩, _⟩ := hm
    have hlt := lt_of_heap e1
    refine ⟨fun (e : w.heap.size = m) => by omega, fun w' => ⟨Stp.imp fun k hk => ?_, Stp.imp fun k (hk : w.heap.size ≤ k) (e : k = m) => by omega⟩⟩
    rcases hk with hk | hk
    · exact hk
    · exact fun (e : k = m) => by omega
theorem parts6 {x : Option Oper} {g : Option (Nat × Bool)} {d : Option Tmp} {p : Op} (h : x.map (fun o => (o.guard, o.dst, o.op)) = some (g, d, p)) : ∃ o, x = some o ∧ o.guard = g ∧ o.dst = d ∧ o.op = p := by
  cases x with
  | none => cases h
  | some o =>
    simp at h
    exact ⟨o, rfl, h.1, h.2.1, h.2.2⟩
theorem call6 {Q : Exit → Act → World → Prop} {K : Act → World → Prop} {i : Nat} {a : Act} {w : World} {d : Option Tmp} {F : FuncId} {xs : Array Operand} {ts : Array TypeId} (hp : (opsOf (Tryd.f19.body.bind (regionOf 6)))[i]?.map (fun o => (o.guard, o.dst, o.op)) = some (none, d, .call { callee := .value (.func F), args := xs, argTypes := ts }))
    {fn : Func} (hf : Tryd.prog.funcs[F]? = some fn) (hn : (fn.name == "runtime.NumGoroutine") = false) (hb : fn.body.isSome = true) {args : Array Value} (hargs : xs.map a.eval = args)
    (h : Calls Tryd.prog F args w fun e w' => ∃ v, e = .returned v ∧ K (a.put d v) w') : wpOp Tryd.prog (opsOf (Tryd.f19.body.bind (regionOf 6))) Q i K a w := by
  obtain ⟨o, ho, hg, hd, hop⟩ := parts6 hp
  refine op_call ho hg hop hf (by simpa using hn) (fun e => by rw [e] at hb; cases hb) hargs ?_
  rw [hd]
  exact h
/-- What the variables' slots hold. -/
structure A0 (a0 : Act) (b1 b3 b6 b7 b8 : Nat) (v5 : Value) : Prop where
  sz : 73 ≤ a0.tmps.size
  s1 : a0.tmps.getD 1 undef = .pointer (some ⟨b1, 0, none⟩)
  s2 : a0.tmps.getD 2 undef = .pointer (some ⟨b1 + 1, 0, none⟩)
  s3 : a0.tmps.getD 3 undef = .pointer (some ⟨b3, 0, none⟩)
  s4 : a0.tmps.getD 4 undef = .pointer (some ⟨b3 + 1, 0, none⟩)
  s5 : a0.tmps.getD 5 undef = v5
  s6 : a0.tmps.getD 6 undef = .pointer (some ⟨b6, 0, none⟩)
  s7 : a0.tmps.getD 7 undef = .pointer (some ⟨b7, 0, none⟩)
  s8 : a0.tmps.getD 8 undef = .pointer (some ⟨b8, 0, none⟩)
theorem JE.fd {B b1 b3 b6 b7 b8 : Nat} {v5 : Value} {listed : Array Bool} {a : Act} {w : World} {om : Option Nat} (hE : JE B b1 b3 b6 b7 b8 v5 om listed a w) {i s : Nat} {f : Fd} (hi : i < 66) (hs : shT i = some (.fd f)) (hl : listed.getD i false = true) (he : slT i = s) :
    ∃ F cap, a.eval (.tmp s) = .agg #[.string ⟨f.nm.toArray⟩, .func (.func F) #[] cap, .bool f.must] ∧ TstAt (Po om) w (.func (.func F) #[] cap) f.p := by
  subst he
  exact hE.sl i _ hi hs hl
theorem JE.ns {B b1 b3 b6 b7 b8 : Nat} {v5 : Value} {listed : Array Bool} {a : Act} {w : World} {om : Option Nat} (hE : JE B b1 b3 b6 b7 b8 v5 om listed a w) {i s n : Nat} {f : Nst} (hi : i < 66) (hs : shT i = some (.ns n f)) (hl : listed.getD i false = true) (he : slT i = s) :
    NRes (Po om) n f w (a.eval (.tmp s)) := by
  subst he
  exact hE.sl i _ hi hs hl
theorem JE.row {B b1 b3 b6 b7 b8 : Nat} {v5 : Value} {listed : Array Bool} {a : Act} {w : World} {om : Option Nat} (hE : JE B b1 b3 b6 b7 b8 v5 om listed a w) {i s : Nat} {l : List Fd} (hi : i < 66) (hs : shT i = some (.sl l)) (hl : listed.getD i false = true) (he : slT i = s) :
    ∃ ao n c, a.eval (.tmp s) = .slice ao n c ∧ FRow (Po om) w (.slice ao n c) l := by
  subst he
  obtain ⟨⟨ao, n, c, e⟩, h⟩ := hE.sl i _ hi hs hl
  rw [e] at h
  exact ⟨ao, n, c, e, h⟩
end Go.Proofs.YtmmkfpeckfmjeaaDoor
