/-
  A ledger in memory, and the contracts of its calls New, Send, Sent, Confirmed, Came, Open, Take over this program.
-/
import Derived.Test.YtjmggofcncladaaNu
namespace Go.Proofs.Ytjmggofcncladaa
open Go Go.RowKit
/-- The head of a ledger in memory: its block, its ring's, the confirmed number, how many have come. -/
def LhAt (g r : Nat) (c k : Int) (w : World) : Prop := w.heap[g]? = some (.cells #[.pointer (some ⟨r, 0, none⟩), .int .u32 c, .int .u32 k] 59 (0, 0))
/-- A ledger in memory: its open texts, its two numbers. -/
structure LdAt (g r p n : Nat) (l : List ByteArray) (c k : Int) (w : World) : Prop where
  hd : LhAt g r c k w
  rg : ∃ f, RgAt r p n f l w
  uc : U c
  uk : U k
theorem LhAt.c0 {g r : Nat} {c k : Int} {w : World} (h : LhAt g r c k w) : w.cell? ⟨g, 0, none⟩ = some (.pointer (some ⟨r, 0, none⟩)) := by
  unfold LhAt at h
  simp [World.cell?, h]
theorem LhAt.c1 {g r : Nat} {c k : Int} {w : World} (h : LhAt g r c k w) : w.cell? ⟨g, 1, none⟩ = some (.int .u32 c) := by
  unfold LhAt at h
  simp [World.cell?, h]
theorem LhAt.c2 {g r : Nat} {c k : Int} {w : World} (h : LhAt g r c k w) : w.cell? ⟨g, 2, none⟩ = some (.int .u32 k) := by
  unfold LhAt at h
  simp [World.cell?, h]
theorem LhAt.fz {g r : Nat} {c k : Int} {w : World} (h : LhAt g r c k w) (o : Nat) : w.frozen? ⟨g, o, none⟩ = false := by
  unfold LhAt at h
  simp [World.frozen?, h]
theorem LhAt.set1 {g r : Nat} {c k : Int} {w : World} (h : LhAt g r c k w) (c' : Int) : LhAt g r c' k (w.setCell ⟨g, 1, none⟩ (.int .u32 c')) := heap_set h 1 _
theorem LhAt.set2 {g r : Nat} {c k : Int} {w : World} (h : LhAt g r c k w) (k' : Int) : LhAt g r c k' (w.setCell ⟨g, 2, none⟩ (.int .u32 k')) := heap_set h 2 _
theorem LhAt.ne_r {g r p n f m : Nat} {c k : Int} {w : World} (h : LhAt g r c k w) (h2 : HdAt r p n f m w) : g ≠ r := by
  rintro rfl
  unfold LhAt at h
  unfold HdAt at h2
  rw [h] at h2
  have := (Obj.cells.inj (Option.some.inj h2)).2.1
  simp at this
theorem LhAt.ne_p {g r p n : Nat} {s : List ByteArray} {c k : Int} {w : World} (h : LhAt g r c k w) (h2 : PlAt p n s w) : g ≠ p := by
  rintro rfl
  unfold LhAt at h
  have h2 := h2.2
  rw [h] at h2
  have := (Obj.cells.inj (Option.some.inj h2)).2.1
  simp at this
theorem LdAt.ne {g r p n : Nat} {l : List ByteArray} {c k : Int} {w : World} (h : LdAt g r p n l c k w) : g ≠ r ∧ g ≠ p := by
  obtain ⟨f, hr⟩ := h.rg
  obtain ⟨s, hp, _⟩ := hr.pl
  exact ⟨h.hd.ne_r hr.hd, h.hd.ne_p hp⟩
/-- A call that may have written blocks g, r and p. -/
def Fl (g r p : Nat) (w w' : World) : Prop := Below 0 w w' ∧ ∀ k, k < w.heap.size → k ≠ g → k ≠ r → k ≠ p → w'.heap[k]? = w.heap[k]?
theorem Fl.refl (g r p : Nat) (w : World) : Fl g r p w w := ⟨Below.refl _ _, fun _ _ _ _ _ => rfl⟩
theorem Fl.trans {g r p : Nat} {a b c : World} (h : Fl g r p a b) (k : Fl g r p b c) : Fl g r p a c :=
  ⟨h.1.trans k.1, fun i hi h1 h2 h3 => (k.2 i (Nat.lt_of_lt_of_le hi h.1.size) h1 h2 h3).trans (h.2 i hi h1 h2 h3)⟩
theorem Fl.of_fz {g r p : Nat} {w w' : World} (h : Fz r p w w') : Fl g r p w w' := ⟨h.1, fun k hk _ h2 h3 => h.2 k hk h2 h3⟩
theorem Fl.of_below {g r p : Nat} {w w' : World} (h : Below w.heap.size w w') : Fl g r p w w' := ⟨h.mono (Nat.zero_le _), fun k hk _ _ _ => h.block k hk⟩
theorem Fl.below {g r p B : Nat} {w w' : World} (h : Fl g r p w w') (hB : B ≤ w.heap.size) (hg : B ≤ g) (hr : B ≤ r) (hp : B ≤ p) : Below B w w' :=
  ⟨h.1.os, h.1.tape, h.1.output, h.1.size, fun k hk => h.2 k (Nat.lt_of_lt_of_le hk hB) (by omega) (by omega) (by omega)⟩
theorem Fl.setCell {g r p : Nat} {a w : World} (h : Fl g r p a w) (o : Nat) (v : Value) : Fl g r p a (w.setCell ⟨g, o, none⟩ v) :=
  ⟨h.1.setCell (p := ⟨g, o, none⟩) (Nat.zero_le _) v, fun k hk h1 h2 h3 => (Below.heap_setCell w ⟨g, o, none⟩ v k h1).trans (h.2 k hk h1 h2 h3)⟩
theorem Fl.alike {g r p : Nat} {a w w' : World} (h : Fl g r p a w) (e1 : w'.os = w.os) (e2 : w'.tape = w.tape) (e3 : w'.output = w.output) (e4 : w'.heap = w.heap) : Fl g r p a w' :=
  h.trans ⟨⟨e1, e2, e3, by rw [e4]; exact Nat.le_refl _, fun k _ => by rw [e4]⟩, fun k _ _ _ _ => by rw [e4]⟩
theorem LdAt.lt {g r p n : Nat} {l : List ByteArray} {c k : Int} {w : World} (h : LdAt g r p n l c k w) : g < w.heap.size ∧ r < w.heap.size ∧ p < w.heap.size := by
  obtain ⟨f, hr⟩ := h.rg
  exact ⟨lt_of_heap h.hd, hr.lt⟩
theorem LdAt.keep {g r p n : Nat} {l : List ByteArray} {c k : Int} {w w' : World} (h : LdAt g r p n l c k w) (hg : w'.heap[g]? = w.heap[g]?) (hr : w'.heap[r]? = w.heap[r]?) (hp : w'.heap[p]? = w.heap[p]?) : LdAt g r p n l c k w' := by
  obtain ⟨f, h2⟩ := h.rg
  exact ⟨hg.trans h.hd, ⟨f, h2.keep hr hp⟩, h.uc, h.uk⟩
theorem LdAt.alike {g r p n : Nat} {l : List ByteArray} {c k : Int} {w w' : World} (h : LdAt g r p n l c k w) (e : w'.heap = w.heap) : LdAt g r p n l c k w' := h.keep (by rw [e]) (by rw [e]) (by rw [e])
theorem LdAt.below {g r p n : Nat} {l : List ByteArray} {c k : Int} {w w' : World} (h : LdAt g r p n l c k w) (hb : Below w.heap.size w w') : LdAt g r p n l c k w' :=
  h.keep (hb.block g h.lt.1) (hb.block r h.lt.2.1) (hb.block p h.lt.2.2)
theorem LdAt.ring {g r p n f : Nat} {l m : List ByteArray} {c k : Int} {w w' : World} (h : LdAt g r p n l c k w) (hr : RgAt r p n f m w') (hf : Fz r p w w') : LdAt g r p n m c k w' :=
  ⟨(hf.2 g h.lt.1 h.ne.1 h.ne.2).trans h.hd, ⟨f, hr⟩, h.uc, h.uk⟩
theorem LdAt.set1 {g r p n : Nat} {l : List ByteArray} {c k : Int} {w : World} (h : LdAt g r p n l c k w) {c' : Int} (hu : U c') : LdAt g r p n l c' k (w.setCell ⟨g, 1, none⟩ (.int .u32 c')) := by
  obtain ⟨f, h2⟩ := h.rg
  exact ⟨h.hd.set1 c', ⟨f, h2.keep (Below.heap_setCell _ _ _ _ h.ne.1.symm) (Below.heap_setCell _ _ _ _ h.ne.2.symm)⟩, hu, h.uk⟩
theorem LdAt.set2 {g r p n : Nat} {l : List ByteArray} {c k : Int} {w : World} (h : LdAt g r p n l c k w) {k' : Int} (hu : U k') : LdAt g r p n l c k' (w.setCell ⟨g, 2, none⟩ (.int .u32 k')) := by
  obtain ⟨f, h2⟩ := h.rg
  exact ⟨h.hd.set2 k', ⟨f, h2.keep (Below.heap_setCell _ _ _ _ h.ne.1.symm) (Below.heap_setCell _ _ _ _ h.ne.2.symm)⟩, h.uc, hu⟩
theorem LdAt.ln {g r p n : Nat} {l : List ByteArray} {c k : Int} {w : World} (h : LdAt g r p n l c k w) : l.length ≤ n ∧ n ≤ 64 := by
  obtain ⟨f, h2⟩ := h.rg
  exact ⟨h2.ln, h2.n64⟩
set_option maxHeartbeats 400000 in
theorem new_any2 (z : Int) (w : World) : Calls Try.prog 31 #[.int .i64 z] w fun e w' => e = .returned (.pointer (some ⟨w.heap.size + 1, 0, none⟩)) ∧ RgAt (w.heap.size + 1) w.heap.size (nz z) 0 [] w' ∧ w'.heap.size = w.heap.size + 2 ∧ Below w.heap.size w w' := by
  have hn := nz_b z
  obtain ⟨m1, hm1⟩ : ∃ m1, (if z < 1 then (1 : Int) else z) = m1 := ⟨_, rfl⟩
  have hm2 : (if 64 < m1 then (64 : Int) else m1) = (nz z : Int) := by
    rw [← hm1]; unfold nz
    split <;> split <;> omega
  obtain ⟨n, hn'⟩ : ∃ n, nz z = n := ⟨_, rfl⟩
  rw [hn'] at hn hm2 ⊢
  have hmk := run_make_row' (P := Try.prog) 39 9 (.string ⟨#[]⟩) 16 Try.underlying39 info9 rfl .i64 .i64 n (by omega) (by omega)
  have HN : Hid (0 < n ∧ n ≤ 64) := hn
  clear hn' hn
  go_enter Try.func31, Try.ntmps31
  go_wp2_with fail
  go_ret
  obtain ⟨h0, h6⟩ := HN.out
  refine ⟨rfl, ⟨h0, h6, h0, Nat.zero_le _, ?_, List.replicate n ⟨#[]⟩, ⟨List.length_replicate, ?_⟩, fun i hi => by simp at hi⟩, by simp, ?_⟩
  · show _ = _
    have := heap_alloc_new (w.alloc (.cells (madeCells #[Value.string ⟨#[]⟩] n) 9)) (.cells #[.slice (some ⟨w.heap.size, 0, none⟩) n n, .int .i64 0, .int .i64 0] 65)
    simpa using this
  · rw [Below.heap_alloc _ _ _ (by simp), heap_alloc_new, made_strs]
  · exact ((Below.refl _ w).alloc (Nat.le_refl _) _).alloc (by simp) _
set_option maxHeartbeats 400000 in
theorem lnew_any (z s : Int) (hs : U s) (w : World) : Calls Try.prog 9 #[.int .i64 z, .int .u32 s] w fun e w' => e = .returned (.pointer (some ⟨w.heap.size + 2, 0, none⟩)) ∧ LdAt (w.heap.size + 2) (w.heap.size + 1) w.heap.size (nz z) [] s s w' ∧ w'.heap.size = w.heap.size + 3 ∧ Below w.heap.size w w' := by
  have HU : Hid (U s) := hs
  clear hs
  go_enter Try.func9, Try.ntmps9
  go_wp2_with (go_at_call 31; refine (new_any2 _ _).mono ?_; rintro e w1 ⟨rfl, hr1, hs1', hb1⟩; have hs1 : Hid _ := hs1'; clear hs1')
  go_ret
  have e := hs1.out
  refine ⟨by rw [e]; rfl, ⟨?_, ⟨0, ?_⟩, HU.out, HU.out⟩, by simp [e], ?_⟩
  · have := heap_alloc_new w1 (.cells #[.pointer (some ⟨w.heap.size + 1, 0, none⟩), .int .u32 s, .int .u32 s] 59)
    rw [e] at this
    exact this
  · exact hr1.below ((Below.refl _ w1).alloc (Nat.le_refl _) _)
  · exact hb1.alloc (by omega) _
end Go.Proofs.Ytjmggofcncladaa
