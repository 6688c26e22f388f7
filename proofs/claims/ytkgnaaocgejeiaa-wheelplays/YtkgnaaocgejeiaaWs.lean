/-
  The contracts of the queue's add and take, and of slices.Index over this program.
-/
import Derived.Test.YtkgnaaocgejeiaaWr
namespace Go.Proofs.Ytkgnaaocgejeiaa
open Go Go.RowKit Go.Maps
theorem wpList_update_mp {w : World} {ops : Array Oper} {rest : List Oper} {o : Oper} {a : Act} {Q : Exit → Act → World → Prop} (hg : o.guard = none) (m x v : Operand) (hop : o.op = Op.mapUpdate 52 m x v) (b c : Nat) (t : Int → Option Int)
    (hm : a.eval m = .map (some b)) (h : MpAt b c t w) (hc : c ≤ 1000) (z y : Int) (hx : a.eval x = .int .i64 z) (hv : a.eval v = .int .i64 y) (hz : N z) (hy : N y) (ht : t z = none)
    (hK : ∀ w', MpAt b (c + 1) (upd t z (some y)) w' → w.grownBy w' (some b) → wpList Try.prog ops Q rest (a.put o.dst undef) w') : wpList Try.prog ops Q (o :: rest) a w := by
  obtain ⟨D, h1, h2, h3⟩ := h
  exact wpList_mapUpdate_own w hg m x v 52 hop 3 3 law3 Try.underlying52 _ b c D hm h1 (by unfold maxLen; omega) _ _ _ hx hv (key3 hz) _ [] (plainElem_int Try.underlying3 (wfN hy)) fun w' ho hgr => hK w' (MpAt.put hz ht h1 h2 h3 ho) hgr
theorem wpList_delete_mp {w : World} {ops : Array Oper} {rest : List Oper} {o : Oper} {a : Act} {Q : Exit → Act → World → Prop} (hg : o.guard = none) (m x : Operand) (hop : o.op = Op.call { callee := Callee.builtin Builtin.delete, args := #[m, x], argTypes := #[52, 3] }) (b c : Nat) (t : Int → Option Int)
    (hm : a.eval m = .map (some b)) (h : MpAt b c t w) (z : Int) (hx : a.eval x = .int .i64 z) (hz : N z) (ht : (t z).isSome = true)
    (hK : ∀ w', MpAt b (c - 1) (upd t z none) w' → w.grownBy w' (some b) → wpList Try.prog ops Q rest (a.put o.dst (.tuple #[])) w') : wpList Try.prog ops Q (o :: rest) a w := by
  obtain ⟨D, h1, h2, h3⟩ := h
  exact wpList_delete_own w hg m x 52 3 hop 3 law3 Try.underlying52 _ b c D hm h1 _ _ hx (key3 hz) fun w' ho hgr => hK w' (MpAt.del hz ht h1 h2 h3 ho) hgr.grown
theorem QAt.vt {g p cap b c : Nat} {now : Int} {l : List Int} {t : Int → Option Int} {w : World} (h : QAt g p cap b c now l t w) : QVt g (.slice (some ⟨p, 0, none⟩) l.length cap) b c now l t w := ⟨h.hd, h.rw, h.mp, h.nn⟩
theorem QVt.ne {g : Nat} {v : Value} {b c : Nat} {now : Int} {l : List Int} {t : Int → Option Int} {w : World} (h : QVt g v b c now l t w) : g ≠ b ∧ v.ownBlock ≠ some b := by
  obtain ⟨es, cl, hb⟩ := h.mp.isMap
  constructor
  · rintro rfl
    have := h.hd
    unfold HdAt at this
    rw [this] at hb
    cases hb
  · intro e
    rcases h.rw.2 with ⟨e1, _⟩ | ⟨p, cap, cur, e1, _, hp, _⟩
    · rw [e1] at e; cases e
    · rw [e1] at e
      cases e
      rw [hp] at hb
      cases hb
theorem QVt.turn {g : Nat} {v : Value} {b c c' : Nat} {now : Int} {l : List Int} {t t' : Int → Option Int} {w w' : World} (h : QVt g v b c now l t w) (hm : MpAt b c' t' w') (hg : w.grownBy w' (some b)) : QVt g v b c' now l t' w' :=
  ⟨h.hd.keep (hg.block g (lt_of_heap h.hd) (fun e => h.ne.1 (Option.some.inj e))), h.rw.kept hg (.inr h.ne.2), hm, h.nn⟩
theorem Heap.turn {t t' : Int → Option Int} {n : Nat} {f : Nat → Int} (h : Heap t n f) (e : ∀ k, k < n → t' (f k) = t (f k)) : Heap t' n f := by
  intro k k0 kn
  have := par_lt k0
  have := h k k0 kn
  unfold le ltT at this ⊢
  rw [e k kn, e (par k) (by omega)]
  exact this
/-- What add leaves. -/
def AdRes (g : Nat) (S : List Nat) (c : Nat) (now : Int) (l : List Int) (t : Int → Option Int) (w w' : World) : Prop :=
  ∃ p cap b l', QAt g p cap b c now l' t w' ∧ l'.Perm l ∧ Heap t l'.length (at0 l') ∧ (∀ k ∈ [g, p, b], k ∈ S ∨ w.heap.size ≤ k) ∧ Fr S w w'
theorem upd_heap {t : Int → Option Int} {l : List Int} {z : Int} {o : Option Int} (h : Heap t l.length (at0 l)) (hz : z ∉ l) : Heap (upd t z o) l.length (at0 l) := by
  refine h.turn fun k hk => ?_
  unfold upd
  rw [if_neg]
  intro e
  exact hz (e ▸ List.mem_of_getElem? (at0_lt hk))
set_option maxHeartbeats 1000000 in
theorem add_made (g p cap b c : Nat) (now : Int) (l : List Int) (t : Int → Option Int) (z y : Int) (w : World) (h : QAt g p cap b c now l t w) (hz : N z) (hy : N y) (hl : l.length ≤ 900) (hc : c ≤ 1000) (hh : Heap t l.length (at0 l)) (hn : z ∉ l) (ht : t z = none) :
    Calls Try.prog 24 #[.pointer (some ⟨g, 1, none⟩), .int .i64 z, .int .i64 y] w fun e w' => e = .returned (.tuple #[]) ∧ AdRes g [g, p, b] (c + 1) now (l ++ [z]) (upd t z (some y)) w w' := by
  have c2 := h.hd.c2
  have HM : Hid (MpAt b c t w) := h.mp
  have HZ : Hid (N z) := hz
  have HY : Hid (N y) := hy
  have HT : Hid (t z = none) := ht
  have HV : Hid (QVt g (.slice (some ⟨p, 0, none⟩) l.length cap) b c now l t w) := h.vt
  have HP := fun W hq => hpush_any g b (c + 1) (.slice (some ⟨p, 0, none⟩) l.length cap) now l (upd t z (some y)) z W hq hz hl (upd_heap hh hn)
  have hme : ∀ W, (binOp .eql 52 (.map (some b)) (.map none)).run Try.prog W = .ok (.bool false) W := fun W => by kernel_rfl
  clear h hz hy hl hh hn ht
  go_enter Try.func24, Try.ntmps24
  go_wp2_with (first
    | (at_mapUpdate; refine wpList_update_mp rfl _ _ _ rfl b c t rfl HM.out hc z y rfl rfl HZ.out HY.out HT.out ?_; intro w1 hm1 hg1; have HV1 : Hid _ := HV.out.turn hm1 hg1; have HG1 : Hid _ := hg1; clear hm1 hg1)
    | (go_at_call 29; refine (HP _ HV1.out).mono ?_; rintro e w2 ⟨rfl, p2, cap2, l2, hq2, hp2, hh2, hb2, hf2⟩))
  go_returns
  have hs := HG1.out.size
  refine ⟨rfl, p2, cap2, b, l2, hq2, hp2, hh2, fun k hk => ?_, ?_⟩
  · simp only [List.mem_cons, List.not_mem_nil, or_false] at hk ⊢
    rcases hk with rfl | rfl | rfl
    · exact .inl (.inl rfl)
    · rcases hb2 with e | e
      · cases e; exact .inl (.inr (.inl rfl))
      · exact .inr (by omega)
    · exact .inl (.inr (.inr rfl))
  · refine ((Fr.refl [g, p, b] w).grown HG1.out (fun k hk => by cases hk; simp)).trans (hf2.mono fun k hk => .inl ?_)
    simp [Value.ownBlock] at hk
    simp only [List.mem_cons]
    rcases hk with rfl | rfl
    · exact .inl rfl
    · exact .inr (.inl rfl)
set_option maxHeartbeats 1000000 in
theorem add_fresh (g : Nat) (now : Int) (z y : Int) (w : World) (h : HdAt g now (.slice none 0 0) (.map none) w) (hz : N z) (hy : N y) :
    Calls Try.prog 24 #[.pointer (some ⟨g, 1, none⟩), .int .i64 z, .int .i64 y] w fun e w' => e = .returned (.tuple #[]) ∧ AdRes g [g] 1 now [z] (upd (fun _ => none) z (some y)) w w' := by
  have c2 := h.c2
  have f2 := h.fz 2
  have hgl : g < w.heap.size := lt_of_heap h
  have HZ : Hid (N z) := hz
  have HY : Hid (N y) := hy
  have HV : Hid (QVt g (.slice none 0 0) w.heap.size 0 now [] (fun _ => none) ((w.setCell ⟨g, 2, none⟩ (.map (some w.heap.size))).alloc (.map #[] 0))) := by
    have h1 := h.set2 (.map (some w.heap.size))
    have es : (w.setCell ⟨g, 2, none⟩ (.map (some w.heap.size))).heap.size = w.heap.size := by simp
    have hm := MpAt.made (w.setCell ⟨g, 2, none⟩ (.map (some w.heap.size)))
    rw [es] at hm
    exact ⟨h1.keep (Below.heap_alloc _ _ _ (by rw [es]; exact hgl)), World.ownsRow_nil _ _ _ _, hm, fun z hz => by cases hz⟩
  have HP := fun W hq => hpush_any g w.heap.size 1 (.slice none 0 0) now [] (upd (fun _ => none) z (some y)) z W hq hz (by decide) (fun k k0 kn => by cases kn)
  have hme : ∀ W, (binOp .eql 52 (.map none) (.map none)).run Try.prog W = .ok (.bool true) W := fun W => by kernel_rfl
  have hmm := @run_makeMap Try.prog
  have hne : ¬ g = w.heap.size := by omega
  have HF : Hid (Fr [g] w ((w.setCell ⟨g, 2, none⟩ (.map (some w.heap.size))).alloc (.map #[] 0))) := ((Fr.refl [g] w).setCell 2 _ (List.mem_singleton.2 rfl)).alloc _
  clear h hz hy
  go_enter Try.func24, Try.ntmps24
  go_wp2_with (first
    | (at_mapUpdate; refine wpList_update_mp rfl _ _ _ rfl w.heap.size 0 (fun _ => none) rfl HV.out.mp (by decide) z y rfl rfl HZ.out HY.out rfl ?_; intro w1 hm1 hg1; have HV1 : Hid _ := HV.out.turn hm1 hg1; have HG1 : Hid _ := hg1; clear hm1 hg1)
    | (go_at_call 29; refine (HP _ HV1.out).mono ?_; rintro e w2 ⟨rfl, p2, cap2, l2, hq2, hp2, hh2, hb2, hf2⟩))
  go_returns
  have hs := HG1.out.size
  have hs0 := HF.out.1.size
  have ef : Fr [g] w w1 := ⟨HF.out.1.trans ⟨HG1.out.os, HG1.out.tape, HG1.out.output, HG1.out.size, fun k hk => by omega⟩, fun k hk hS => (HG1.out.block k (by omega) (fun e => by cases e; omega)).trans (HF.out.2 k hk hS)⟩
  refine ⟨rfl, p2, cap2, w.heap.size, l2, hq2, hp2, hh2, fun k hk => ?_, ef.trans (hf2.mono fun k hk => .inl ?_)⟩
  · simp only [List.mem_cons, List.not_mem_nil, or_false] at hk ⊢
    rcases hk with rfl | rfl | rfl
    · exact .inl rfl
    · rcases hb2 with e | e
      · cases e
      · exact .inr (by omega)
    · exact .inr (Nat.le_refl _)
  · simpa [Value.ownBlock] using hk
/-- What take leaves. -/
def TkRes (g p cap b c : Nat) (now : Int) (l : List Int) (t : Int → Option Int) (x : Int) (w w' : World) : Prop :=
  ∃ l', QAt g p cap b c now l' (upd t x none) w' ∧ (x :: l').Perm l ∧ Heap (upd t x none) l'.length (at0 l') ∧ Fr [g, p, b] w w'
set_option maxHeartbeats 1000000 in
theorem take_any (g p cap b c : Nat) (now : Int) (l : List Int) (t : Int → Option Int) (i : Nat) (w : World) (h : QAt g p cap b c now l t w) (hi : i < l.length) (hl : l.length ≤ 1000) (hh : Heap t l.length (at0 l)) (hnd : l.Nodup) (ht : (t (at0 l i)).isSome = true) :
    Calls Try.prog 26 #[.pointer (some ⟨g, 1, none⟩), .int .i64 (i : Int)] w fun e w' => e = .returned (.int .i64 (at0 l i)) ∧ TkRes g p cap b (c - 1) now l t (at0 l i) w w' := by
  have HR := hrem_any g p cap b c now l t i w h hi hl hh
  have HN : Hid (N (at0 l i)) := h.nn _ (List.mem_of_getElem? (at0_lt hi))
  have HT : Hid _ := ht
  have HND : Hid _ := hnd
  obtain ⟨x, hx⟩ : ∃ x, at0 l i = x := ⟨_, rfl⟩
  rw [hx] at HR HN HT ⊢
  have hta := assert_int x
  clear h hi hl hh hnd ht hx
  go_enter Try.func26, Try.ntmps26
  go_wp2_with (first
    | (go_at_call 30; refine HR.mono ?_; rintro e w1 ⟨rfl, l1, hq1, hp1, hh1, hf1⟩; have HQ1 : Hid _ := hq1; have HP1 : Hid _ := hp1; have HH1 : Hid _ := hh1; have HF1 : Hid _ := hf1; have c2 := hq1.hd.c2; clear hq1 hp1 hh1 hf1)
    | (at_delete; refine wpList_delete_mp rfl _ _ rfl b c t rfl HQ1.out.mp x rfl HN.out HT.out ?_; intro w2 hm2 hg2; have HM2 : Hid _ := hm2; have HG2 : Hid _ := hg2; clear hm2 hg2))
  go_ret
  have hq := HQ1.out
  have hv := hq.vt.turn HM2.out HG2.out
  have hnx : x ∉ l1 := (List.nodup_cons.1 ((HP1.out.nodup_iff).2 HND.out)).1
  refine ⟨rfl, l1, ⟨hv.hd, hv.rw, hv.mp, hv.nn⟩, HP1.out, upd_heap HH1.out hnx, ?_⟩
  exact (Fr.mono HF1.out (fun k hk => .inl (by simp at hk; rcases hk with rfl | rfl <;> simp))).grown HG2.out (fun k hk => by cases hk; simp)
end Go.Proofs.Ytkgnaaocgejeiaa
