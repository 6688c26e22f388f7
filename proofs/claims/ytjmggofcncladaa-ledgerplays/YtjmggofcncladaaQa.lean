/-
  The document's ledger in memory, and the contracts of its calls New, Number, Send, Open, Take over this program.
-/
import Derived.Test.YtjmggofcncladaaLg
namespace Go.Proofs.Ytjmggofcncladaa
open Go Go.RowKit
/-- The head of the document's ledger. -/
def QhAt (q : Nat) (v : Value) (d i most : Nat) (st : Int) (w : World) : Prop := w.heap[q]? = some (.cells #[v, .int .i64 (d : Int), .int .i64 (i : Int), .int .i64 (most : Int), .int .u32 st] 47 (0, 0))
/-- The document's ledger in memory: its block; all texts in a row of its own, how many are confirmed, have come; how many may be open, where it begins. -/
def QAt (B q most : Nat) (m : List ByteArray) (d i : Nat) (st : Int) (w : World) : Prop := ∃ ao cap, QhAt q (.slice ao m.length cap) d i most st w ∧ TxAt B ao cap m w
/-- A call that may have written block q and rows of texts from block B on. -/
def Fq (B q : Nat) (w w' : World) : Prop := Below 0 w w' ∧ ∀ k o, w.heap[k]? = some o → k ≠ q → (k < B ∨ ∀ c fz, o ≠ .cells c 9 fz) → w'.heap[k]? = some o
theorem Fq.of_fz {B q : Nat} {w w' : World} (h : Fz q q w w') : Fq B q w w' := ⟨h.1, fun k _ h1 h2 _ => (h.2 k (lt_of_heap h1) h2 h2).trans h1⟩
theorem Fq.refl (B q : Nat) (w : World) : Fq B q w w := ⟨Below.refl _ _, fun _ _ h _ _ => h⟩
theorem Fq.below {B q b : Nat} {w w' : World} (h : Fq B q w w') (hb : b ≤ B) (hq : b ≤ q) (hs : b ≤ w.heap.size) : Below b w w' :=
  ⟨h.1.os, h.1.tape, h.1.output, h.1.size, fun k hk => by
    have h1 : w.heap[k]? = some w.heap[k] := Array.getElem?_eq_getElem (by omega)
    rw [h1]
    exact h.2 k _ h1 (by omega) (.inl (by omega))⟩
theorem LdAt.fq {g r p n B q : Nat} {l : List ByteArray} {c k : Int} {w w' : World} (h : LdAt g r p n l c k w) (hf : Fq B q w w') (h1 : g < B ∧ r < B ∧ p < B) (h2 : g ≠ q ∧ r ≠ q ∧ p ≠ q) : LdAt g r p n l c k w' := by
  obtain ⟨f, hr⟩ := h.rg
  obtain ⟨s, ⟨k1, k2⟩, k3⟩ := hr.pl
  exact ⟨hf.2 g _ h.hd h2.1 (.inl h1.1), ⟨f, hr.n0, hr.n64, hr.fn, hr.ln, hf.2 r _ hr.hd h2.2.1 (.inl h1.2.1), s, ⟨k1, hf.2 p _ k2 h2.2.2 (.inl h1.2.2)⟩, k3⟩, h.uc, h.uk⟩
theorem QAt.fl {B q most g r p d i : Nat} {m : List ByteArray} {st : Int} {w w' : World} (h : QAt B q most m d i st w) (hf : Fl g r p w w') (h1 : g < B ∧ r < B ∧ p < B) (h2 : g ≠ q ∧ r ≠ q ∧ p ≠ q) : QAt B q most m d i st w' := by
  obtain ⟨ao, cap, k1, k2⟩ := h
  exact ⟨ao, cap, (hf.2 q (lt_of_heap k1) h2.1.symm h2.2.1.symm h2.2.2.symm).trans k1, TxAt.fl k2 hf h1.1 h1.2.1 h1.2.2⟩
theorem QAt.below {B q most d i : Nat} {m : List ByteArray} {st : Int} {w w' : World} (h : QAt B q most m d i st w) (hb : Below w.heap.size w w') : QAt B q most m d i st w' := by
  obtain ⟨ao, cap, k1, k2⟩ := h
  exact ⟨ao, cap, (hb.block q (lt_of_heap k1)).trans k1, k2.below hb⟩
theorem QAt.alike {B q most d i : Nat} {m : List ByteArray} {st : Int} {w w' : World} (h : QAt B q most m d i st w) (e : w'.heap = w.heap) : QAt B q most m d i st w' := by
  obtain ⟨ao, cap, k1, k2⟩ := h
  exact ⟨ao, cap, by show _ = _; rw [e]; exact k1, owns_keep k2 fun k _ _ => by rw [e]⟩
theorem QAt.lt {B q most d i : Nat} {m : List ByteArray} {st : Int} {w : World} (h : QAt B q most m d i st w) : q < w.heap.size := by
  obtain ⟨ao, cap, k1, _⟩ := h
  exact lt_of_heap k1
theorem QhAt.c0 {q d i most : Nat} {v : Value} {st : Int} {w : World} (h : QhAt q v d i most st w) : w.cell? ⟨q, 0, none⟩ = some v := by
  unfold QhAt at h
  simp [World.cell?, h]
theorem QhAt.c1 {q d i most : Nat} {v : Value} {st : Int} {w : World} (h : QhAt q v d i most st w) : w.cell? ⟨q, 1, none⟩ = some (.int .i64 (d : Int)) := by
  unfold QhAt at h
  simp [World.cell?, h]
theorem QhAt.c2 {q d i most : Nat} {v : Value} {st : Int} {w : World} (h : QhAt q v d i most st w) : w.cell? ⟨q, 2, none⟩ = some (.int .i64 (i : Int)) := by
  unfold QhAt at h
  simp [World.cell?, h]
theorem QhAt.c3 {q d i most : Nat} {v : Value} {st : Int} {w : World} (h : QhAt q v d i most st w) : w.cell? ⟨q, 3, none⟩ = some (.int .i64 (most : Int)) := by
  unfold QhAt at h
  simp [World.cell?, h]
theorem QhAt.c4 {q d i most : Nat} {v : Value} {st : Int} {w : World} (h : QhAt q v d i most st w) : w.cell? ⟨q, 4, none⟩ = some (.int .u32 st) := by
  unfold QhAt at h
  simp [World.cell?, h]
theorem QhAt.fz {q d i most : Nat} {v : Value} {st : Int} {w : World} (h : QhAt q v d i most st w) (o : Nat) : w.frozen? ⟨q, o, none⟩ = false := by
  unfold QhAt at h
  simp [World.frozen?, h]
theorem owns_ne {B q d i most : Nat} {st : Int} {ao : Option Addr} {n cap : Nat} {xs : List Value} {v : Value} {w : World} (h : w.ownsRow B 9 1 (.slice ao n cap) n xs) (hq : QhAt q v d i most st w) : ∀ k, (Value.slice ao n cap).ownBlock = some k → k ≠ q := by
  rintro k hk rfl
  unfold QhAt at hq
  rcases h.2 with ⟨h1, _⟩ | ⟨g, cap', cur, h1, _, h3, _⟩
  · rw [(Value.slice.inj h1).1] at hk
    cases hk
  · rw [(Value.slice.inj h1).1] at hk
    cases hk
    rw [hq] at h3
    have := (Obj.cells.inj (Option.some.inj h3)).2.1
    simp at this
/-- A cell of the ledger's block is put: the row stays. -/
theorem tx_set {B q d i most o : Nat} {st : Int} {v0 v : Value} {m : List ByteArray} {ao : Option Addr} {cap : Nat} {w : World} (hq : QhAt q v0 d i most st w) (ht : TxAt B ao cap m w) : TxAt B ao cap m (w.setCell ⟨q, o, none⟩ v) := by
  have hne := owns_ne ht hq
  refine ⟨ht.1, ?_⟩
  rcases ht.2 with h1 | ⟨g, cap', cur, h1, h2, h3, h4⟩
  · exact .inl h1
  · refine .inr ⟨g, cap', cur, h1, h2, ?_, h4⟩
    rw [Below.heap_setCell _ _ _ _ (by
      have := hne g (by rw [h1]; rfl)
      exact this)]
    exact h3
theorem q_store {B q d i most : Nat} {st : Int} {v0 : Value} {m : List ByteArray} {ao : Option Addr} {cap : Nat} {w : World} (hq : QhAt q v0 d i most st w) (ht : TxAt B ao cap m w) :
    QAt B q most m d i st (w.setCell ⟨q, 0, none⟩ (.slice ao m.length cap)) := ⟨ao, cap, heap_set hq 0 _, tx_set hq ht⟩
theorem QAt.set1 {B q d i most : Nat} {st : Int} {m : List ByteArray} {w : World} (h : QAt B q most m d i st w) (d' : Nat) : QAt B q most m d' i st (w.setCell ⟨q, 1, none⟩ (.int .i64 (d' : Int))) := by
  obtain ⟨ao, cap, k1, k2⟩ := h
  exact ⟨ao, cap, heap_set k1 1 _, tx_set k1 k2⟩
theorem QAt.set2 {B q d i most : Nat} {st : Int} {m : List ByteArray} {w : World} (h : QAt B q most m d i st w) (i' : Nat) : QAt B q most m d i' st (w.setCell ⟨q, 2, none⟩ (.int .i64 (i' : Int))) := by
  obtain ⟨ao, cap, k1, k2⟩ := h
  exact ⟨ao, cap, heap_set k1 2 _, tx_set k1 k2⟩
theorem Fq.alike {B q : Nat} {a w w' : World} (h : Fq B q a w) (e1 : w'.os = w.os) (e2 : w'.tape = w.tape) (e3 : w'.output = w.output) (e4 : w'.heap = w.heap) : Fq B q a w' :=
  ⟨below_alike h.1 e1 e2 e3 e4, fun k o h1 h2 h3 => by rw [e4]; exact h.2 k o h1 h2 h3⟩
theorem push_frame {B q c cap : Nat} {ao : Option Addr} {m : List ByteArray} {w w1 w5 : World} {ob : Obj} (ho : w.ownsRow B 9 1 (.slice ao c cap) c (strs m)) (hg : w1.grownBy w5 (Value.slice ao c cap).ownBlock) (hb : Below B w1 w5) (v : Value)
    (e1 : w1.os = w.os := by rfl) (e2 : w1.tape = w.tape := by rfl) (e3 : w1.output = w.output := by rfl) (e4 : w1.heap = (w.alloc ob).heap := by rfl) : Fq B q w (w5.setCell ⟨q, 0, none⟩ v) := by
  have b1 : Below w.heap.size w w1 := below_alike ((Below.refl _ w).alloc (Nat.le_refl _) ob) e1 e2 e3 e4
  refine ⟨((b1.mono (Nat.zero_le _)).trans (hb.mono (Nat.zero_le _))).setCell (p := ⟨q, 0, none⟩) (Nat.zero_le _) v, fun k o h1 h2 h3 => ?_⟩
  have hk := lt_of_heap h1
  have h1' : w1.heap[k]? = some o := (b1.block k hk).trans h1
  rw [Below.heap_setCell _ _ _ _ h2, hg.block k (lt_of_heap h1') ?_]
  · exact h1'
  · intro e
    rcases ho.2 with ⟨k1, _⟩ | ⟨g, cap', cur, k1, k2, k3, _⟩
    · rw [(Value.slice.inj k1).1] at e
      cases e
    · rw [(Value.slice.inj k1).1] at e
      obtain rfl : k = g := Option.some.inj e
      rcases h3 with h3 | h3
      · omega
      · rw [h1] at k3
        exact h3 _ _ (Option.some.inj k3)
set_option maxHeartbeats 400000 in
theorem refNew_any (z st : Int) (w : World) : Calls Try.prog 10 #[.int .i64 z, .int .u32 st] w fun e w' => e = .returned (.pointer (some ⟨w.heap.size, 0, none⟩)) ∧ w' = w.alloc (.cells #[.slice none 0 0, .int .i64 0, .int .i64 0, .int .i64 (nz z : Int), .int .u32 st] 47) := by
  obtain ⟨m1, hm1⟩ : ∃ m1, (if z < 1 then (1 : Int) else z) = m1 := ⟨_, rfl⟩
  have hm2 : (if 64 < m1 then (64 : Int) else m1) = (nz z : Int) := by
    rw [← hm1]; unfold nz
    split <;> split <;> omega
  obtain ⟨n, hn'⟩ : ∃ n, nz z = n := ⟨_, rfl⟩
  rw [hn'] at hm2 ⊢
  clear hn'
  go_enter Try.func10, Try.ntmps10
  go_wp2_with fail
  go_ret
  exact ⟨rfl, rfl⟩
theorem num_any (q d i most : Nat) (v : Value) (st : Int) (n : Int) (hs : U st) (hn : Go.Proofs.Ytjmggofcncladaa.N n) (w : World) (h : QhAt q v d i most st w) :
    Calls Try.prog 26 #[.pointer (some ⟨q, 0, none⟩), .int .i64 n] w fun e w' => e = .returned (.int .u32 (addI st n)) ∧ w' = w := by
  have c4 := h.c4
  have HA := refAdd_any st n hs hn w
  obtain ⟨a, ha⟩ : ∃ a, addI st n = a := ⟨_, rfl⟩
  rw [ha] at HA ⊢
  clear h ha hs hn
  go_enter Try.func26, Try.ntmps26
  go_wp2_with (go_at_call 30; refine HA.mono ?_; rintro e w ⟨rfl, rfl⟩)
  go_ret
  exact ⟨rfl, rfl⟩
set_option maxHeartbeats 400000 in
theorem refTake_any (B q most d i : Nat) (m : List ByteArray) (st z : Int) (hs : U st) (hi : i ≤ 900000000000) (w : World) (h : QAt B q most m d i st w) :
    Calls Try.prog 19 #[.pointer (some ⟨q, 0, none⟩), .int .i64 z] w fun e w' => e = .returned (.int .u32 (addI st ((i + (max z 0 % 4294967296).toNat : Nat) : Int))) ∧ QAt B q most m d (i + (max z 0 % 4294967296).toNat) st w' ∧ Fz q q w w' := by
  have HQ : Hid _ := h
  obtain ⟨ao, cap, h1, h2⟩ := h
  have c2 := h1.c2
  have f2 := h1.fz 2
  obtain ⟨m1, hm1⟩ : ∃ m1, max z 0 = m1 := ⟨_, rfl⟩
  have hm2 : (if z < 0 then (0 : Int) else z) = m1 := by split <;> omega
  rw [hm1]
  obtain ⟨m3, hm3⟩ : ∃ m3, (m1 % 4294967296).toNat = m3 := ⟨_, rfl⟩
  have hm4 : m1.tmod 4294967296 = (m3 : Int) := by rw [Int.tmod_eq_emod_of_nonneg (by omega)]; omega
  have hm5 : m3 < 4294967296 := by omega
  rw [hm3]
  obtain ⟨i', hi'⟩ : ∃ i', i + m3 = i' := ⟨_, rfl⟩
  have hw : IntKind.i64.wrap ((i : Int) + (m3 : Int)) = (i' : Int) := by simp only [IntKind.wrap_i64]; omega
  rw [hi']
  have HN := fun W (hW : QhAt q (.slice ao m.length cap) d i' most st W) => num_any q d i' most _ st (i' : Int) hs ⟨by omega, by omega⟩ W hW
  have HW : Hid (QhAt q (.slice ao m.length cap) d i' most st (w.setCell ⟨q, 2, none⟩ (.int .i64 (i' : Int)))) := heap_set h1 2 _
  obtain ⟨a, ha⟩ : ∃ a, addI st (i' : Int) = a := ⟨_, rfl⟩
  simp only [ha] at HN ⊢
  clear h1 h2 hm1 hm3 hi' ha hs
  go_enter Try.func19, Try.ntmps19
  go_wp2_with (go_at_call 26; refine (HN _ HW.out).mono ?_; rintro e w ⟨rfl, rfl⟩)
  go_ret
  exact ⟨rfl, QAt.set2 HQ.out i', (Fz.refl q q _).setCell q 2 _ (.inl rfl)⟩
end Go.Proofs.Ytjmggofcncladaa
