/-
  The contracts of the queue's Len, Less, Swap and Pop over this program.
-/
import Derived.Test.YtkgnaaocgejeiaaWm
namespace Go.Proofs.Ytkgnaaocgejeiaa
open Go Go.RowKit Go.Maps
theorem drewN_two (w : World) (a b : Nat) : (w.drewN a).drewN b = w.drewN (a + b) := by simp [World.drewN, Nat.add_assoc]
set_option maxHeartbeats 400000 in
theorem qlen_any (g : Nat) (now : Int) (ao : Option Addr) (n cap : Nat) (m : Value) (w : World) (h : HdAt g now (.slice ao n cap) m w) : Calls Try.prog 28 #[.pointer (some ⟨g, 1, none⟩)] w fun e w' => e = .returned (.int .i64 (n : Int)) ∧ w' = w := by
  have c1 := h.c1
  clear h
  go_enter Try.func28, Try.ntmps28
  go_wp2
  go_ret
  exact ⟨rfl, rfl⟩
set_option maxHeartbeats 1000000 in
theorem qless_any (g p cap b c : Nat) (now : Int) (l : List Int) (t : Int → Option Int) (i j : Nat) (x y : Int) (w : World) (h : QAt g p cap b c now l t w) (hi : l[i]? = some x) (hj : l[j]? = some y) :
    Calls Try.prog 49 #[.pointer (some ⟨g, 1, none⟩), .int .i64 (i : Int), .int .i64 (j : Int)] w fun e w' => e = .returned (.bool (ltT t x y)) ∧ ∃ m, w' = w.drewN m := by
  have c1 := h.hd.c1
  have c2 := h.hd.c2
  have ci := h.rw.cell hi
  have cj := h.rw.cell hj
  have li := (List.getElem?_eq_some_iff.1 hi).1
  have lj := (List.getElem?_eq_some_iff.1 hj).1
  have HM : Hid (MpAt b c t w) := h.mp
  have nx : N x := h.nn x (List.mem_of_getElem? hi)
  have ny : N y := h.nn y (List.mem_of_getElem? hj)
  have lx : ∀ m, (Instr.lookup 52 (.map (some b)) (.int .i64 x) false).run Try.prog (w.drewN m) = .ok (.int .i64 ((t x).getD 0)) (w.drewN m) := fun m => MpAt.look (w := w.drewN m) (HM.out.keep rfl) nx
  have ly : ∀ m, (Instr.lookup 52 (.map (some b)) (.int .i64 y) false).run Try.prog (w.drewN m) = .ok (.int .i64 ((t y).getD 0)) (w.drewN m) := fun m => MpAt.look (w := w.drewN m) (HM.out.keep rfl) ny
  have i0 : (0 : Int) ≤ (i : Int) := by omega
  have i1 : (i : Int) < (l.length : Int) := by omega
  have j0 : (0 : Int) ≤ (j : Int) := by omega
  have j1 : (j : Int) < (l.length : Int) := by omega
  unfold ltT
  obtain ⟨n, hn⟩ : ∃ n, l.length = n := ⟨_, rfl⟩
  rw [hn] at c1 i1 j1
  obtain ⟨tx, htx⟩ : ∃ tx, (t x).getD 0 = tx := ⟨_, rfl⟩
  obtain ⟨ty, hty⟩ : ∃ ty, (t y).getD 0 = ty := ⟨_, rfl⟩
  rw [htx] at lx ⊢
  rw [hty] at ly ⊢
  clear h hi hj li lj hn htx hty HM nx ny
  by_cases e : tx = ty
  · subst e
    rw [if_pos rfl]
    go_enter Try.func49, Try.ntmps49
    go_wp2_with fail
    go_quiet (fail)
    go_wp2_with fail
    go_quiet (fail)
    go_wp2_with fail
    go_ret
    exact ⟨rfl, _, rfl⟩
  · rw [if_neg e]
    have e1 : (tx == ty) = false := by simp [e]
    go_enter Try.func49, Try.ntmps49
    go_wp2_with fail
    go_quiet (fail)
    go_wp2_with fail
    go_quiet (fail)
    go_wp2_with fail
    go_quiet (fail)
    go_wp2_with fail
    go_ret
    exact ⟨rfl, _, by rw [drewN_two, drewN_two]⟩
/-- Two numbers of a row change places. -/
def swp (l : List Int) (i j : Nat) (x y : Int) : List Int := (l.set i y).set j x
theorem setCell_comm (w : World) (p i j : Nat) (u v : Value) (h : i ≠ j) : (w.setCell ⟨p, i, none⟩ u).setCell ⟨p, j, none⟩ v = (w.setCell ⟨p, j, none⟩ v).setCell ⟨p, i, none⟩ u := by
  unfold World.setCell
  congr 1
  apply Array.ext
  · simp
  · intro k h1 h2
    simp only [Array.getElem_modify]
    by_cases e1 : p = k
    · subst e1
      simp only [if_true]
      have h3 : p < w.heap.size := by simpa using h1
      cases w.heap[p]'h3 <;> simp [Array.setIfInBounds_comm _ _ h]
    · simp [e1]
theorem qswap_at {g p cap b c i j : Nat} {now : Int} {l : List Int} {t : Int → Option Int} {x y : Int} {w w' : World} (h : QAt g p cap b c now l t w) (hx : N x) (hy : N y) (hw : w'.heap = ((w.setCell ⟨p, i, none⟩ (.int .i64 y)).setCell ⟨p, j, none⟩ (.int .i64 x)).heap) :
    QAt g p cap b c now (swp l i j x y) t w' := by
  have hr := (h.rw.set i y).set j x
  obtain ⟨n1, n2, n3⟩ := h.ne
  have el : (swp l i j x y).length = l.length := by simp [swp]
  refine ⟨?_, hr.keep (by rw [hw]), h.mp.keep (by rw [hw, Below.heap_setCell _ _ _ _ n3.symm, Below.heap_setCell _ _ _ _ n3.symm]), fun z hz => ?_⟩
  · rw [el]
    exact h.hd.keep (by rw [hw, Below.heap_setCell _ _ _ _ n1, Below.heap_setCell _ _ _ _ n1])
  · rcases List.mem_or_eq_of_mem_set hz with hz | rfl
    · rcases List.mem_or_eq_of_mem_set hz with hz | rfl
      · exact h.nn z hz
      · exact hy
    · exact hx
set_option maxHeartbeats 2000000 in
theorem qswap_any (g p cap b c : Nat) (now : Int) (l : List Int) (t : Int → Option Int) (i j : Nat) (x y : Int) (w : World) (h : QAt g p cap b c now l t w) (hi : l[i]? = some x) (hj : l[j]? = some y) (hij : i ≠ j) :
    Calls Try.prog 52 #[.pointer (some ⟨g, 1, none⟩), .int .i64 (i : Int), .int .i64 (j : Int)] w fun e w' => e = .returned (.tuple #[]) ∧ QAt g p cap b c now (swp l i j x y) t w' ∧ Fr [p] w w' := by
  have c1 := h.hd.c1
  have ci := h.rw.cell hi
  have cj := h.rw.cell hj
  have fi := h.rw.fz i
  have fj := h.rw.fz j
  have li := (List.getElem?_eq_some_iff.1 hi).1
  have lj := (List.getElem?_eq_some_iff.1 hj).1
  have HQ : Hid (QAt g p cap b c now l t w) := h
  have nx : Hid (N x) := h.nn x (List.mem_of_getElem? hi)
  have ny : Hid (N y) := h.nn y (List.mem_of_getElem? hj)
  have i0 : (0 : Int) ≤ (i : Int) := by omega
  have i1 : (i : Int) < (l.length : Int) := by omega
  have j0 : (0 : Int) ≤ (j : Int) := by omega
  have j1 : (j : Int) < (l.length : Int) := by omega
  have hgp := h.ne.1
  have hpg : ¬ p = g := fun e => hgp e.symm
  obtain ⟨n, hn⟩ : ∃ n, l.length = n := ⟨_, rfl⟩
  rw [hn] at c1 i1 j1
  have HC : Hid ((w.setCell ⟨p, j, none⟩ (.int .i64 x)).setCell ⟨p, i, none⟩ (.int .i64 y) = (w.setCell ⟨p, i, none⟩ (.int .i64 y)).setCell ⟨p, j, none⟩ (.int .i64 x)) := (setCell_comm w p i j _ _ hij).symm
  clear h hi hj li lj hn
  go_enter Try.func52, Try.ntmps52
  go_wp2_with fail
  go_region
  all_goals (
    go_wp2_with fail
    go_returns
    refine ⟨rfl, qswap_at HQ.out nx.out ny.out (by first | rfl | exact congrArg World.heap HC.out), ?_⟩
    first
      | exact (((Fr.refl [p] w).setCell i (.int .i64 y) (List.mem_singleton.2 rfl)).setCell j (.int .i64 x) (List.mem_singleton.2 rfl)).alike rfl rfl rfl rfl
      | exact (((Fr.refl [p] w).setCell j (.int .i64 x) (List.mem_singleton.2 rfl)).setCell i (.int .i64 y) (List.mem_singleton.2 rfl)).alike rfl rfl rfl rfl)
set_option maxHeartbeats 1000000 in
theorem qpop_any (g p cap b c : Nat) (now : Int) (l : List Int) (t : Int → Option Int) (x : Int) (w : World) (h : QAt g p cap b c now (l ++ [x]) t w) (hl : l.length ≤ 1000) :
    Calls Try.prog 50 #[.pointer (some ⟨g, 1, none⟩)] w fun e w' => e = .returned (.iface 3 (.int .i64 x)) ∧ QAt g p cap b c now l t w' ∧ Fr [g] w w' := by
  have c1 := h.hd.c1
  have f1 := h.hd.fz 1
  have ci := h.rw.cell (i := l.length) (z := x) (by simp)
  have HQ : Hid (QAt g p cap b c now (l ++ [x]) t w) := h
  have hcap := h.rw.cap
  rw [List.length_append, List.length_singleton] at c1 hcap
  obtain ⟨n, hn⟩ : ∃ n, l.length = n := ⟨_, rfl⟩
  have EN : Hid _ := hn
  rw [hn] at c1 hcap ci hl
  have w1 : IntKind.i64.wrap (((n + 1 : Nat) : Int) - 1) = (n : Int) := by simp only [IntKind.wrap_i64]; omega
  have i0 : (0 : Int) ≤ (n : Int) := by omega
  have i1 : (n : Int) < ((n + 1 : Nat) : Int) := by omega
  have i2 : (n : Int) ≤ (cap : Int) := by omega
  clear h hn
  go_enter Try.func50, Try.ntmps50
  go_wp2_with fail
  go_ret
  have h := HQ.out
  obtain ⟨n1, n2, n3⟩ := h.ne
  obtain rfl := EN.out
  have hd := h.hd.set1 (.slice (some ⟨p, 0, none⟩) l.length cap)
  refine ⟨rfl, ⟨hd, h.rw.pop.keep (Below.heap_setCell _ _ _ _ n1.symm), h.mp.keep (Below.heap_setCell _ _ _ _ n2.symm), fun z hz => h.nn z (List.mem_append_left _ hz)⟩, ?_⟩
  exact (Fr.refl [g] w).setCell 1 _ (List.mem_singleton.2 rfl)
/-- A queue in memory whose map is made, and whose row may be nil. -/
structure QVt (g : Nat) (v : Value) (b c : Nat) (now : Int) (l : List Int) (t : Int → Option Int) (w : World) : Prop where
  hd : HdAt g now v (.map (some b)) w
  rw : w.ownsRow 0 3 1 v l.length (ints l)
  mp : MpAt b c t w
  nn : ∀ z ∈ l, N z
theorem step_append_at {P : Program} {w : World} {ops : Array Oper} {o : Oper} {a : Act} {K : Act → World → Prop} {Q : Exit → Act → World → Prop} {E : Prop} (hgd : o.guard = none) (s x : Operand) (t : TypeId)
    (ho : o.op = .call { callee := .builtin .append, args := #[s, x], argTypes := #[t, t] })
    (base : Nat) (e : TypeId) (i : TypeInfo) (z : Value) (size bytes : Nat) (ht : P.underlying t = some (.slice e)) (hi : P.info? e = some i) (hz : i.zero = some z)
    (hsize : i.size = size) (hby : i.bytes = bytes) (hzs : z.cells.size = size) (hsz : 0 < size) (v : Value) (n : Nat) (xs : List Value) (hs : a.eval s = v) (hown : w.ownsRow base e size v n xs)
    (ad : Addr) (m c : Nat) (news : List Value) (hx : a.eval x = .slice (some ad) m c) (hl : news.length = m * size)
    (hnews : ∀ j u, news[j]? = some u → w.cell? (ad.add j) = some u) (h1 : ∀ u ∈ news, u.oneCell' = true)
    (h63 : n + m ≤ maxLen) (hbytes : (n + m) * bytes ≤ 140737488355328) (hbase : base ≤ w.heap.size)
    (h : ∀ v' w', w'.ownsRow base e size v' (n + m) (xs ++ news) → w.grownBy w' v.ownBlock → (v'.ownBlock = v.ownBlock ∨ v'.ownBlock = some w.heap.size) → K (a.put o.dst v') w') :
    if Region.wanted o (yielded ops a.tmps) = true then Oper.wp P o a w K Q else E := by
  have hw : Region.wanted o (yielded ops a.tmps) = true := by simp [Region.wanted, hgd]
  rw [if_pos hw]
  obtain ⟨v', w', hr, h2, h3, h4, h5⟩ := run_append_own_at (P := P) w base t o.type e i z size bytes ht hi hz hsize hby hzs hsz v n xs hown ad m c news hl hnews h1 h63 hbytes hbase
  have hK := h v' w' h2 h3 h5
  unfold Oper.wp
  simp [execOp, ho, resolve, invoke, builtin, hs, hx, hr, Result.andThen]
  exact hK
theorem info3 : (Try.prog.info? 3).map (fun i => (i.zero, i.size, i.bytes)) = some (some (.int .i64 0), 1, 8) := by kernel_rfl
theorem qpush_at {g b c n : Nat} {v v' : Value} {now x : Int} {l : List Int} {t : Int → Option Int} {w0 w w1 w' : World} (e1 : w0.os = w.os) (e2 : w0.tape = w.tape) (e3 : w0.output = w.output) (e4 : w0.heap = w.heap) (h : QVt g v b c now l t w) (hx : N x) (hn : l.length = n)
    (ho : w1.ownsRow 0 3 1 v' (n + 1) (ints l ++ [.int .i64 x])) (hg0 : (w0.alloc (.cells #[.int .i64 x] 3)).grownBy w1 v.ownBlock) (hl : v'.ownBlock = v.ownBlock ∨ v'.ownBlock = some (w.heap.size + 1))
    (hw : w' = w1.setCell ⟨g, 1, none⟩ v') : ∃ p cap, QAt g p cap b c now (l ++ [x]) t w' ∧ (v.ownBlock = some p ∨ w.heap.size ≤ p) ∧ Fr (g :: v.ownBlock.toList) w w' := by
  have ea : (w0.alloc (.cells #[.int .i64 x] 3)).heap = (w.alloc (.cells #[.int .i64 x] 3)).heap := by
    show w0.heap.push _ = w.heap.push _
    rw [e4]
  have hg : (w.alloc (.cells #[.int .i64 x] 3)).grownBy w1 v.ownBlock := ⟨hg0.os.trans e1, hg0.tape.trans e2, hg0.output.trans e3, by have := hg0.size; rw [ea] at this; exact this, fun k hk hr => by rw [← ea]; exact hg0.block k (by rw [ea]; exact hk) hr⟩
  clear hg0 e1 e2 e3 e4 ea
  have hgl : g < w.heap.size := lt_of_heap h.hd
  have hbl := h.mp.lt
  have al : ∀ k, k < w.heap.size → k < (w.alloc (.cells #[.int .i64 x] 3)).heap.size := fun k hk => by simp; omega
  have nr : ∀ k o, w.heap[k]? = some o → (∀ cur, o ≠ .cells cur 3 (0, 0)) → some k ≠ v.ownBlock := by
    intro k o hk ho e
    rcases h.rw.2 with ⟨e1, _⟩ | ⟨p, cap, cur, e1, _, hp, _⟩
    · rw [e1] at e; cases e
    · rw [e1] at e
      cases e
      rw [hp] at hk
      cases hk
      exact ho cur rfl
  have ng : some g ≠ v.ownBlock := nr g _ h.hd (fun cur e => by have := (Obj.cells.inj e).2.1; simp at this)
  obtain ⟨es, cl, hb⟩ := h.mp.isMap
  have nb : some b ≠ v.ownBlock := nr b _ hb (fun cur e => by cases e)
  have kg : w1.heap[g]? = w.heap[g]? := (hg.block g (al g hgl) ng).trans (Below.heap_alloc _ _ _ hgl)
  have kb : w1.heap[b]? = w.heap[b]? := (hg.block b (al b hbl) nb).trans (Below.heap_alloc _ _ _ hbl)
  have hd1 : HdAt g now v (.map (some b)) w1 := h.hd.keep kg
  have ho' : w1.ownsRow 0 3 1 v' (l ++ [x]).length (ints (l ++ [x])) := by
    have e1 : (l ++ [x]).length = n + 1 := by simp [hn]
    have e2 : ints (l ++ [x]) = ints l ++ [.int .i64 x] := List.map_append
    rw [e1, e2]; exact ho
  rcases ho'.2 with ⟨e1, e2⟩ | ⟨p, cap, cur, e1, _, hp, _⟩
  · simp at e2
  · subst e1
    have hpg : g ≠ p := by
      rintro rfl
      have := hd1
      unfold HdAt at this
      rw [this] at hp
      have := (Obj.cells.inj (Option.some.inj hp)).2.1
      simp at this
    have hbg : b ≠ g := by
      rintro rfl
      have := h.hd
      unfold HdAt at this
      rw [hb] at this
      cases this
    subst hw
    refine ⟨p, cap, ⟨hd1.set1 _, ?_, h.mp.keep ((Below.heap_setCell _ _ _ _ hbg).trans kb), fun z hz => ?_⟩, ?_, ?_⟩
    · exact RwAt.keep (w := w1) ho' (Below.heap_setCell _ _ _ _ hpg.symm)
    · rcases List.mem_append.1 hz with hz | hz
      · exact h.nn z hz
      · rw [List.mem_singleton.1 hz]; exact hx
    · rcases hl with hl | hl
      · exact .inl hl.symm
      · have : p = w.heap.size + 1 := Option.some.inj hl
        exact .inr (by omega)
    · exact (((Fr.refl _ w).alloc _).grown hg (fun k hk => List.mem_cons_of_mem _ (by simp [hk]))).setCell 1 _ List.mem_cons_self
theorem ownsRow_succ {W : World} {base : Nat} {e : TypeId} {size : Nat} {v : Value} {k : Nat} {xs : List Value} (h : W.ownsRow base e size v (k + 1) xs) : ∃ g cap, v = .slice (some ⟨g, 0, none⟩) (k + 1) cap := by
  rcases h.2 with ⟨_, h2⟩ | ⟨g, cap, cur, h1, _⟩
  · cases h2
  · exact ⟨g, cap, h1⟩
theorem push_head {g b c : Nat} {v : Value} {now x : Int} {l : List Int} {t : Int → Option Int} {w0 w w1 : World} (h : QVt g v b c now l t w) (hg : (w0.alloc (.cells #[.int .i64 x] 3)).grownBy w1 v.ownBlock) (e : w0.heap = w.heap) : HdAt g now v (.map (some b)) w1 := by
  have hgl : g < w.heap.size := lt_of_heap h.hd
  have hgl' : g < w0.heap.size := by rw [e]; exact hgl
  have ng : some g ≠ v.ownBlock := by
    intro e
    rcases h.rw.2 with ⟨e1, _⟩ | ⟨p, cap, cur, e1, _, hp, _⟩
    · rw [e1] at e; cases e
    · rw [e1] at e
      cases e
      have := h.hd
      unfold HdAt at this
      rw [hp] at this
      have := (Obj.cells.inj (Option.some.inj this)).2.1
      simp at this
  refine h.hd.keep ((hg.block g (by simp; omega) ng).trans ((Below.heap_alloc _ _ _ hgl').trans (by rw [e])))
theorem assert_int (x : Int) (W : World) : (Instr.typeAssert (.iface 3 (.int .i64 x)) 20 3 false).run Try.prog W = .ok (.int .i64 x) W := by kernel_rfl
/-- What Push leaves. -/
def PushRes (g : Nat) (v : Value) (b c : Nat) (now : Int) (l : List Int) (t : Int → Option Int) (w w' : World) : Prop := ∃ p cap, QAt g p cap b c now l t w' ∧ (v.ownBlock = some p ∨ w.heap.size ≤ p) ∧ Fr (g :: v.ownBlock.toList) w w'
set_option maxHeartbeats 1000000 in
theorem qpush_any (g b c : Nat) (v : Value) (now : Int) (l : List Int) (t : Int → Option Int) (x : Int) (w : World) (h : QVt g v b c now l t w) (hx : N x) (hl : l.length ≤ 1000) :
    Calls Try.prog 51 #[.pointer (some ⟨g, 1, none⟩), .iface 3 (.int .i64 x)] w fun e w' => e = .returned (.tuple #[]) ∧ PushRes g v b c now (l ++ [x]) t w w' := by
  have c1 := h.hd.c1
  have f1 := h.hd.fz 1
  have hgl : g < w.heap.size := lt_of_heap h.hd
  have HV : Hid (QVt g v b c now l t w) := h
  obtain ⟨i0, hi, hz0, hz1, hz2⟩ := info_parts info3
  have HO : Hid (w.ownsRow 0 3 1 v l.length (ints l)) := h.rw
  have HX : Hid (N x) := hx
  obtain ⟨n, hn⟩ : ∃ n, l.length = n := ⟨_, rfl⟩
  have EN : Hid _ := hn
  rw [hn] at hl HO
  have hta := assert_int x
  clear h hn hx
  go_enter Try.func51, Try.ntmps51
  go_wp2_with fail
  go_region_law (first
    | (refine step_append_at rfl (.tmp 8) (.tmp 11) 38 rfl 0 3 i0 _ 1 8 Try.underlying38 hi hz0 hz1 hz2 rfl (by decide) v n (ints l) rfl (HO.out.alloc _) ⟨w.heap.size, 0, none⟩ 1 1 [.int .i64 x] rfl rfl (cell_one_new _ _ _) (ints_one [x]) (by unfold maxLen; omega) (by omega) (Nat.zero_le _) ?_
       intro v1 w1 ho1 hg1 hl1
       obtain ⟨p1, cap1, rfl⟩ := ownsRow_succ ho1
       have hd1 : HdAt g now v (.map (some b)) w1 := push_head (w0 := w.drew) (x := x) HV.out hg1 rfl
       have d1 := hd1.c1
       have d2 := hd1.fz 1
       have HP1 : Hid (PushRes g v b c now (l ++ [x]) t w (w1.setCell ⟨g, 1, none⟩ (.slice (some ⟨p1, 0, none⟩) (n + 1) cap1))) := qpush_at (w0 := w.drew) (x := x) rfl rfl rfl rfl HV.out HX.out EN.out ho1 hg1 (by simpa using hl1) rfl
       clear ho1 hg1 hl1 hd1)
    | fail)
  all_goals (
    go_wp2_with fail
    go_returns
    exact ⟨rfl, HP1.out⟩)
end Go.Proofs.Ytkgnaaocgejeiaa
