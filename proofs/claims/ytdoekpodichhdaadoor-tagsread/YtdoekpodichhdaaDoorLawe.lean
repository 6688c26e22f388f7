/-
  Readers beside one another, an append at a place that is guarded, and how many attributes a token has: what the walks of TagsPieces, TagsJoin and TagsRead use.
-/
import Derived.Test.YtdoekpodichhdaaDoorLawd
namespace Go.Proofs.YtdoekpodichhdaaDoor
open Go.RowKit
theorem attrsN_six : ∀ (f : Nat) (acc : List (List UInt8 × List UInt8)) (s : List UInt8), acc.length ≤ 6 → (attrsN f acc s).1.length ≤ 6
  | 0, _, _, _ => by simp [attrsN]
  | f + 1, acc, s, h => by
    unfold attrsN
    split
    · exact h
    · split
      · simp
      · rename_i h6
        split
        · split
          · simp
          · refine attrsN_six f _ _ ?_
            simp
            omega
        · simp
theorem beginN_six (l : List UInt8) : (beginN l).1.attrs.length ≤ 6 := by
  unfold beginN
  split
  · split
    · exact attrsN_six _ _ _ (by simp)
    · simp
  · simp
theorem tagN_six (l : List UInt8) : ∀ t ∈ (tagN l).1, t.attrs.length ≤ 6 := by
  unfold tagN
  split
  · split
    · unfold endN; split <;> simp
    · split
      · unfold bothN; split
        · simp; exact beginN_six _
        · simp
      · unfold bareN; split
        · simp; exact beginN_six _
        · simp
  · simp
theorem stepN_six (s : St) (c : UInt8) : ∀ t ∈ (stepN s c).2, t.attrs.length ≤ 6 := by
  unfold stepN
  split
  · show ∀ t ∈ (readN s.held s.tag c).2.2.1, _
    unfold readN
    split
    · split
      · simp
      · unfold textN
        split
        · simp
        · split <;> simp
    · split
      · exact tagN_six _
      · split <;> simp
  · simp
theorem feedN_six (l : List UInt8) : ∀ s, ∀ t ∈ (feedN s l).2, t.attrs.length ≤ 6 := by
  induction l with
  | nil => intro s t h; simp [feedN] at h
  | cons c l ih =>
    intro s t h
    simp only [feedN, List.mem_append] at h
    rcases h with h | h
    · exact stepN_six s c t h
    · exact ih _ t h
/-- A reader that has read nothing. -/
def Fresh (r : Nat) (w : World) : Prop := w.heap[r]? = some (.cells #[.slice none 0 0, .bool false, .int .i64 0] 49 (0, 0))
theorem Fresh.fr {B r x : Nat} {w w' : World} (h : Fresh r w) (hf : Fr B x w w') (hne : r ≠ x) : Fresh r w' := hf.2 r _ h hne (by intro c fz e; have := (Obj.cells.inj e).2.1; simp at this)
theorem Fresh.rdr {B r : Nat} {w : World} (h : Fresh r w) (hB : B ≤ r) : RdrAt B r [] false 0 w := ⟨hB, none, 0, 0, h, World.ownsRow_nil _ _ _ _⟩
theorem Fresh.new (w : World) : Fresh w.heap.size (w.alloc (.cells #[.slice none 0 0, .bool false, .int .i64 0] 49)) := heap_alloc_new w _
theorem Fresh.below {r : Nat} {w w' : World} (h : Fresh r w) (hb : Below w.heap.size w w') : Fresh r w' := (hb.block r (lt_of_heap h)).trans h
/-- How many bytes a reader holds. -/
def HeldIs (r n : Nat) (w : World) : Prop := ∃ ao cap t e, w.heap[r]? = some (.cells #[.slice ao n cap, .bool t, .int .i64 e] 49 (0, 0))
theorem RdrAt.heldIs {B r : Nat} {h : List UInt8} {t : Bool} {e : Int} {w : World} (k : RdrAt B r h t e w) : HeldIs r h.length w := by
  obtain ⟨ao, cap, _, _, _, _, k1, _⟩ := rdr_cells k
  exact ⟨ao, cap, t, e, k1⟩
theorem HeldIs.fr {B r x n : Nat} {w w' : World} (h : HeldIs r n w) (hf : Fr B x w w') (hne : r ≠ x) : HeldIs r n w' := by
  obtain ⟨ao, cap, t, e, k⟩ := h
  exact ⟨ao, cap, t, e, hf.2 r _ k hne (by intro c fz e; have := (Obj.cells.inj e).2.1; simp at this)⟩
theorem HeldIs.below {r n : Nat} {w w' : World} (h : HeldIs r n w) (hb : Below w.heap.size w w') : HeldIs r n w' := by
  obtain ⟨ao, cap, t, e, k⟩ := h
  exact ⟨ao, cap, t, e, (hb.block r (lt_of_heap k)).trans k⟩
set_option maxHeartbeats 400000 in
theorem held_is (r n : Nat) (w : World) (k : HeldIs r n w) : Calls Tryd.prog 16 #[.pointer (some ⟨r, 0, none⟩)] w fun e w' => e = .returned (.int .i64 n) ∧ w' = w := by
  obtain ⟨ao, cap, t, e, k1⟩ := k
  have c0 : w.cell? ⟨r, 0, none⟩ = some (.slice ao n cap) := by rw [Lib.cell_of_heap k1]; rfl
  clear k1
  go_enter Tryd.func16, Tryd.ntmps16
  go_wp2
  go_ret
  exact ⟨rfl, rfl⟩
section
variable {P : Program} {w : World}
theorem wpList_want {ops : Array Oper} {rest : List Oper} {o : Oper} {a : Act} {Q : Exit → Act → World → Prop} (hw : Region.wanted o (yielded ops a.tmps) = true)
    (h : ∀ K : Act → World → Prop, (∀ a w, wpList P ops Q rest a w → K a w) → o.wp P a w K Q) : wpList P ops Q (o :: rest) a w :=
  wpList_step fun K hK => by rw [if_pos hw]; exact h K hK
theorem wpList_append_own_want {ops : Array Oper} {rest : List Oper} {o : Oper} {a : Act} {Q : Exit → Act → World → Prop} (hw : Region.wanted o (yielded ops a.tmps) = true) (s x : Operand) (t : TypeId)
    (ho : o.op = .call { callee := .builtin .append, args := #[s, x], argTypes := #[t, t] })
    (base : Nat) (e : TypeId) (i : TypeInfo) (z : Value) (size bytes : Nat) (ht : P.underlying t = some (.slice e)) (hi : P.info? e = some i) (hz : i.zero = some z)
    (hsize : i.size = size) (hby : i.bytes = bytes) (hzs : z.cells.size = size) (hsz : 0 < size)
    (v : Value) (n : Nat) (xs : List Value) (hs : a.eval s = v) (hown : w.ownsRow base e size v n xs)
    (ad : Addr) (m c : Nat) (news : List Value) (hx : a.eval x = .slice (some ad) m c) (hl : news.length = m * size) (hnews : ∀ j u, news[j]? = some u → w.cell? (ad.add j) = some u) (h1 : ∀ u ∈ news, u.oneCell' = true)
    (h63 : n + m ≤ maxLen) (hbytes : (n + m) * bytes ≤ 140737488355328) (hbase : base ≤ w.heap.size)
    (h : ∀ v' w', w'.ownsRow base e size v' (n + m) (xs ++ news) → w.grownBy w' v.ownBlock → (v' = .slice none 0 0 ↔ v = .slice none 0 0 ∧ m = 0) → wpList P ops Q rest (a.put o.dst v') w') : wpList P ops Q (o :: rest) a w :=
  wpList_want hw fun _ hK => wp_append_own w s x t ho base e i z size bytes ht hi hz hsize hby hzs hsz v n xs hs hown ad m c news hx hl hnews h1 h63 hbytes hbase fun v' w' h2 h3 h4 => hK _ _ (h v' w' h2 h3 h4)
theorem wpList_append_none_want {ops : Array Oper} {rest : List Oper} {o : Oper} {a : Act} {Q : Exit → Act → World → Prop} (hw : Region.wanted o (yielded ops a.tmps) = true) (s x : Operand) (t : TypeId)
    (ho : o.op = .call { callee := .builtin .append, args := #[s, x], argTypes := #[t, t] })
    (base : Nat) (e : TypeId) (i : TypeInfo) (size : Nat) (ht : P.underlying t = some (.slice e)) (hi : P.info? e = some i)
    (v : Value) (n : Nat) (xs : List Value) (hs : a.eval s = v) (hown : w.ownsRow base e size v n xs) (hx : a.eval x = .slice none 0 0)
    (h : wpList P ops Q rest (a.put o.dst v) w) : wpList P ops Q (o :: rest) a w := by
  refine wpList_want hw fun K hK => ?_
  have hrun := run_append_owned_none (P := P) (w := w) base t o.type e i size ht hi v n xs hown
  unfold Oper.wp
  simp [execOp, ho, resolve, invoke, builtin, hs, hx, hrun, Result.andThen]
  exact hK _ _ h
end
end Go.Proofs.YtdoekpodichhdaaDoor
