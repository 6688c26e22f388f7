/-
  The contracts of the document's ring (New, Push, Drop, Cut) over this program.
-/
import Derived.Test.YtdcocbichlmgfaaLord
namespace Go.Proofs.Ytdcocbichlmgfaa
open Go Go.RowKit
/-- The document's ring in memory: its block, how many texts there may be, the texts in a row of its own. -/
def QAt (B q most : Nat) (m : List ByteArray) (w : World) : Prop := ∃ ao cap, w.heap[q]? = some (.cells #[.slice ao m.length cap, .int .i64 (most : Int)] 40 (0, 0)) ∧ TxAt B ao cap m w
/-- A call that may have written block q and rows of texts from block B on. -/
def Fq (B q : Nat) (w w' : World) : Prop := Below 0 w w' ∧ ∀ k o, w.heap[k]? = some o → k ≠ q → (k < B ∨ ∀ c fz, o ≠ .cells c 9 fz) → w'.heap[k]? = some o
theorem Fq.of_fz {B q : Nat} {w w' : World} (h : Fz q q w w') : Fq B q w w' := ⟨h.1, fun k _ h1 h2 _ => (h.2 k (lt_of_heap h1) h2 h2).trans h1⟩
theorem Fq.refl (B q : Nat) (w : World) : Fq B q w w := ⟨Below.refl _ _, fun _ _ h _ _ => h⟩
theorem Fq.below {B q b : Nat} {w w' : World} (h : Fq B q w w') (hb : b ≤ B) (hq : b ≤ q) (hs : b ≤ w.heap.size) : Below b w w' :=
  ⟨h.1.os, h.1.tape, h.1.output, h.1.size, fun k hk => by
    have h1 : w.heap[k]? = some w.heap[k] := Array.getElem?_eq_getElem (by omega)
    rw [h1]
    exact h.2 k _ h1 (by omega) (.inl (by omega))⟩
theorem RgAt.fq {r p n f B q : Nat} {l : List ByteArray} {w w' : World} (h : RgAt r p n f l w) (hf : Fq B q w w') (hr : r < B) (hp : p < B) (h1 : r ≠ q) (h2 : p ≠ q) : RgAt r p n f l w' := by
  obtain ⟨g, ⟨k1, k2⟩, k3⟩ := h.pl
  exact ⟨h.n0, h.n64, h.fn, h.ln, hf.2 r _ h.hd h1 (.inl hr), g, ⟨k1, hf.2 p _ k2 h2 (.inl hp)⟩, k3⟩
theorem QAt.fz {B q most r p : Nat} {m : List ByteArray} {w w' : World} (h : QAt B q most m w) (hf : Fz r p w w') (hr : r < B) (hp : p < B) (h1 : q ≠ r) (h2 : q ≠ p) : QAt B q most m w' := by
  obtain ⟨ao, cap, k1, k2⟩ := h
  exact ⟨ao, cap, (hf.2 q (lt_of_heap k1) h1 h2).trans k1, k2.fz hf hr hp⟩
theorem QAt.below {B q most : Nat} {m : List ByteArray} {w w' : World} (h : QAt B q most m w) (hb : Below w.heap.size w w') : QAt B q most m w' := by
  obtain ⟨ao, cap, k1, k2⟩ := h
  exact ⟨ao, cap, (hb.block q (lt_of_heap k1)).trans k1, k2.below hb⟩
theorem QAt.alike {B q most : Nat} {m : List ByteArray} {w w' : World} (h : QAt B q most m w) (e : w'.heap = w.heap) : QAt B q most m w' := by
  obtain ⟨ao, cap, k1, k2⟩ := h
  exact ⟨ao, cap, by rw [e]; exact k1, owns_keep k2 fun k _ _ => by rw [e]⟩
theorem QAt.lt {B q most : Nat} {m : List ByteArray} {w : World} (h : QAt B q most m w) : q < w.heap.size := by
  obtain ⟨ao, cap, k1, _⟩ := h
  exact lt_of_heap k1
theorem q_cells {q most : Nat} {v : Value} {w : World} (h : w.heap[q]? = some (.cells #[v, .int .i64 (most : Int)] 40 (0, 0))) : w.cell? ⟨q, 0, none⟩ = some v ∧ w.cell? ⟨q, 1, none⟩ = some (.int .i64 (most : Int)) ∧ w.frozen? ⟨q, 0, none⟩ = false := by
  refine ⟨?_, ?_, ?_⟩
  · simp [World.cell?, h]
  · simp [World.cell?, h]
  · simp [World.frozen?, h]
set_option maxHeartbeats 400000 in
theorem refNew_any (z : Int) (w : World) : Calls Try.prog 11 #[.int .i64 z] w fun e w' => e = .returned (.pointer (some ⟨w.heap.size, 0, none⟩)) ∧ w' = w.alloc (.cells #[.slice none 0 0, .int .i64 (nz z : Int)] 40) := by
  obtain ⟨m1, hm1⟩ : ∃ m1, (if z < 1 then (1 : Int) else z) = m1 := ⟨_, rfl⟩
  have hm2 : (if 64 < m1 then (64 : Int) else m1) = (nz z : Int) := by
    rw [← hm1]; unfold nz
    split <;> split <;> omega
  obtain ⟨n, hn'⟩ : ∃ n, nz z = n := ⟨_, rfl⟩
  rw [hn'] at hm2 ⊢
  clear hn'
  go_enter Try.func11, Try.ntmps11
  go_wp2_with fail
  go_ret
  exact ⟨rfl, rfl⟩
theorem owns_ne {B q most : Nat} {ao : Option Addr} {n cap : Nat} {xs : List Value} {v : Value} {w : World} (h : w.ownsRow B 9 1 (.slice ao n cap) n xs) (hq : w.heap[q]? = some (.cells #[v, .int .i64 (most : Int)] 40 (0, 0))) : ∀ k, (Value.slice ao n cap).ownBlock = some k → k ≠ q := by
  rintro k hk rfl
  rcases h.2 with ⟨h1, _⟩ | ⟨g, cap', cur, h1, _, h3, _⟩
  · rw [(Value.slice.inj h1).1] at hk
    cases hk
  · rw [(Value.slice.inj h1).1] at hk
    cases hk
    rw [hq] at h3
    have := (Obj.cells.inj (Option.some.inj h3)).2.1
    simp at this
/-- What is left behind a row is put into the ring's block. -/
theorem q_store {B q most : Nat} {v0 : Value} {m : List ByteArray} {ao : Option Addr} {cap : Nat} {w : World} (hq : w.heap[q]? = some (.cells #[v0, .int .i64 (most : Int)] 40 (0, 0))) (ht : TxAt B ao cap m w) :
    QAt B q most m (w.setCell ⟨q, 0, none⟩ (.slice ao m.length cap)) := by
  refine ⟨ao, cap, heap_set hq 0 _, ?_⟩
  have hne := owns_ne ht hq
  refine ⟨ht.1, ?_⟩
  rcases ht.2 with h1 | ⟨g, cap', cur, h1, h2, h3, h4⟩
  · exact .inl h1
  · refine .inr ⟨g, cap', cur, h1, h2, ?_, h4⟩
    rw [Below.heap_setCell _ _ _ _ (by
      have := hne g (by rw [h1]; rfl)
      exact this)]
    exact h3
theorem Fq.alike {B q : Nat} {a w w' : World} (h : Fq B q a w) (e1 : w'.os = w.os) (e2 : w'.tape = w.tape) (e3 : w'.output = w.output) (e4 : w'.heap = w.heap) : Fq B q a w' :=
  ⟨below_alike h.1 e1 e2 e3 e4, fun k o h1 h2 h3 => by rw [e4]; exact h.2 k o h1 h2 h3⟩
theorem push_frame {B q c cap : Nat} {ao : Option Addr} {m : List ByteArray} {w w1 w5 : World} {ob : Obj} (ho : w.ownsRow B 9 1 (.slice ao c cap) c (strs m)) (hg : w1.grownBy w5 (Value.slice ao c cap).ownBlock) (hb : Below B w1 w5) (v : Value)
    (e1 : w1.os = w.os := by rfl) (e2 : w1.tape = w.tape := by rfl) (e3 : w1.output = w.output := by rfl) (e4 : w1.heap = (w.alloc ob).heap := by rfl) : Fq B q w (w5.setCell ⟨q, 0, none⟩ v) := by
  have b1 : Below w.heap.size w w1 := below_alike ((Below.refl _ w).alloc (Nat.le_refl _) ob) e1 e2 e3 e4
  refine ⟨((b1.mono (Nat.zero_le _)).trans (hb.mono (Nat.zero_le _))).setCell (p := ⟨q, 0, none⟩) (Nat.zero_le _) v, fun k o h1 h2 h3 => ?_⟩
  have hk := lt_of_heap h1
  have h1' : w1.heap[k]? = some o := (b1.block k hk).trans h1
  rw [Below.heap_setCell _ _ _ _ h2, hg.block k (lt_of_heap h1') ?_]
  · exact h1'
  · intro e
    rcases ho.2 with ⟨k1, _⟩ | ⟨g, cap', cur, k1, k2, k3, _⟩
    · rw [(Value.slice.inj k1).1] at e
      cases e
    · rw [(Value.slice.inj k1).1] at e
      obtain rfl : k = g := Option.some.inj e
      rcases h3 with h3 | h3
      · omega
      · rw [h1] at k3
        exact h3 _ _ (Option.some.inj k3)
set_option maxHeartbeats 1000000 in
theorem refPush_any (B q most : Nat) (m : List ByteArray) (s : ByteArray) (w : World) (h : QAt B q most m w) (hm : m.length ≤ 64) (hB : B ≤ w.heap.size) :
    Calls Try.prog 15 #[.pointer (some ⟨q, 0, none⟩), .string s] w fun e w' => e = .returned (.bool (decide (m.length < most))) ∧ QAt B q most (pushN most m s) w' ∧ Fq B q w w' := by
  obtain ⟨i0, hi, hz0, hz1, hz2⟩ := info_parts info9
  have HQ : Hid _ := h
  obtain ⟨ao, cap, h1, h2⟩ := h
  have hne := owns_ne h2 h1
  obtain ⟨c0, c1, f0⟩ := q_cells h1
  have HH : Hid _ := h1
  have HO : Hid (TxAt B ao cap m w) := h2
  obtain ⟨c, hc⟩ : ∃ c, m.length = c := ⟨_, rfl⟩
  have EC : Hid _ := hc
  have hql := lt_of_heap h1
  have HNE : Hid (∀ k, (Value.slice ao c cap).ownBlock = some k → k ≠ q) := by rw [← hc]; exact hne
  by_cases hl : m.length < most
  · have HP : Hid (pushN most m s = m ++ [s]) := if_pos hl
    rw [decide_eq_true hl]
    rw [hc] at hl c0 hm
    have hge : ¬ (most : Int) ≤ (c : Int) := by omega
    have HH' : Hid (w.heap[q]? = some (.cells #[.slice ao c cap, .int .i64 (most : Int)] 40 (0, 0))) := by rw [← hc]; exact h1
    have HO' : Hid (w.ownsRow B 9 1 (.slice ao c cap) c (strs m)) := by rw [← hc]; exact h2
    clear h1 h2 hc hl hne
    go_enter Try.func15, Try.ntmps15
    go_wp2_with fail
    go_quiet (fail)
    go_wp2_with (at_builtin; refine wpList_append_any rfl (.tmp 19) (.tmp 21) 35 rfl B 9 i0 _ 1 16 Try.underlying35 hi hz0 hz1 hz2 rfl (by decide) _ c (strs m) rfl (World.ownsRow.alloc HO'.out _) (some ⟨w.heap.size, 0, none⟩) 1 1 (strs [s]) rfl (fun e => by cases e) (by rfl) (RowS.cells (row_block (heap_alloc_new w _) one_cell)) (strs_one _) (by unfold maxLen; omega) (by omega) (by simp; omega) ?_
                 intro v5 w5 ho5 hb5 hg5
                 rw [← strs_app] at ho5
                 obtain ⟨ao5, cap5, rfl, ht5⟩ := tx_of_owns ho5 (by simp [EC.out])
                 have hq5 : w5.heap[q]? = some (.cells #[.slice ao c cap, .int .i64 (most : Int)] 40 (0, 0)) := ((hg5.block q (by simp; omega) (fun e => HNE.out q e.symm rfl)).trans ((Below.heap_alloc w _ q hql).trans HH'.out))
                 obtain ⟨d0, d1, d2⟩ := q_cells hq5
                 have hqs := q_store hq5 ht5
                 obtain ⟨d, hd⟩ : ∃ d, (m ++ [s]).length = d := ⟨_, rfl⟩
                 rw [hd] at hqs ⊢
                 have HQ5 : Hid (QAt B q most (m ++ [s]) (w5.setCell ⟨q, 0, none⟩ (.slice ao5 d cap5))) := hqs
                 have HF5 : Hid (Fq B q w (w5.setCell ⟨q, 0, none⟩ (.slice ao5 d cap5))) := (push_frame HO'.out hg5 hb5 _)
                 clear hd hqs
                 clear ho5 hb5 hg5 hq5)
    go_ret
    refine ⟨rfl, ?_, ?_⟩
    · rw [HP.out]
      exact HQ5.out
    · exact HF5.out
  · rw [decide_eq_false hl]
    have HP : Hid (pushN most m s = m) := if_neg hl
    rw [hc] at hl c0
    have hge : (most : Int) ≤ (c : Int) := by omega
    clear h1 h2 hc hl hne
    go_enter Try.func15, Try.ntmps15
    go_wp2_with fail
    go_quiet (fail)
    go_wp2_with fail
    go_ret
    refine ⟨rfl, ?_, (Fq.refl B q w).alike rfl rfl rfl rfl⟩
    rw [HP.out]
    exact QAt.alike HQ.out rfl
end Go.Proofs.Ytdcocbichlmgfaa
