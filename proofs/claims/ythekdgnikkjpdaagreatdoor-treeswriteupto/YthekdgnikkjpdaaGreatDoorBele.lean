/-
  The contract of (*trees.Builder).addBetween over this program.
-/
import Derived.Test.YthekdgnikkjpdaaGreatDoorBeld
import Derived.RegionTactic
namespace Go.Proofs.YthekdgnikkjpdaaGreatDoor
open Go.RowKit
/-- A block with these cells. -/
def At (b : Nat) (cs : Array Value) (T : TypeId) (w : World) : Prop := w.heap[b]? = some (.cells cs T (0, 0))
theorem At.alloc {b : Nat} {cs : Array Value} {T : TypeId} {w : World} (h : At b cs T w) (o : Obj) : At b cs T (w.alloc o) := (Below.heap_alloc w o b (lt_of_heap h)).trans h
theorem At.drew {b : Nat} {cs : Array Value} {T : TypeId} {w : World} (h : At b cs T w) : At b cs T w.drew := h
theorem At.drewN {b : Nat} {cs : Array Value} {T : TypeId} {w : World} (h : At b cs T w) (n : Nat) : At b cs T (w.drewN n) := h
theorem At.set {b : Nat} {cs : Array Value} {T : TypeId} {w : World} (h : At b cs T w) (o : Nat) (u : Value) : At b (cs.setIfInBounds o u) T (w.setCell ⟨b, o, none⟩ u) := heap_setCell_same w b o cs T u h
theorem At.other {b : Nat} {cs : Array Value} {T : TypeId} {w : World} (h : At b cs T w) (b' o : Nat) (u : Value) (hne : b ≠ b') : At b cs T (w.setCell ⟨b', o, none⟩ u) := (Below.heap_setCell w ⟨b', o, none⟩ u b hne).trans h
theorem At.below {b : Nat} {cs : Array Value} {T : TypeId} {w w' : World} (h : At b cs T w) {B : Nat} (hb : Below B w w') (hB : b < B) : At b cs T w' := (hb.block b hB).trans h
theorem At.grown {b : Nat} {cs : Array Value} {T : TypeId} {w w' : World} {row : Option Nat} (h : At b cs T w) (hg : w.grownBy w' row) (hne : some b ≠ row) : At b cs T w' := (hg.block b (lt_of_heap h) hne).trans h
/-- The event that is answered. -/
def EvOk (F : List Nat) (w : World) (k : Int) (a b c d : Value) (ok : Bool) : Option (Int × El) → Prop
  | none => k = 0 ∧ a = .string ⟨#[]⟩ ∧ b = .slice none 0 0 ∧ c = .string ⟨#[]⟩ ∧ d = .slice none 0 0 ∧ ok = false
  | some (k', e) => k = k' ∧ ElE (Pf F w) w e a b c d ∧ ok = true
def AddRes (B b : Nat) (F : List Nat) (q : Bs × Option (Int × El)) (w : World) (e : Ending) (w' : World) : Prop :=
  ∃ F' k s1 ao1 n1 cap1 s2 ao2 n2 cap2 ok, e = .returned (.tuple #[.agg #[.int .i64 k, .string s1, .slice ao1 n1 cap1, .string s2, .slice ao2 n2 cap2], .bool ok]) ∧
    EvOk F' w' k (.string s1) (.slice ao1 n1 cap1) (.string s2) (.slice ao2 n2 cap2) ok q.2 ∧ BAt B b F' q.1 w' ∧ Wr F w w' ∧ ∀ k ∈ F', k ∈ F ∨ w.heap.size ≤ k
theorem evOk_none (F : List Nat) (w : World) : EvOk F w 0 (.string ⟨#[]⟩) (.slice none 0 0) (.string ⟨#[]⟩) (.slice none 0 0) false none := ⟨rfl, rfl, rfl, rfl, rfl, rfl⟩
/-- A builder whose own cells alone were written, but for what is open. -/
theorem bat_keep {B b : Nat} {F : List Nat} {S S' : Bs} {w w' : World} (h : BAt B b F S w) (hw : Wr [b] w w') (ho : S'.opn = S.opn)
    (hc : ∀ v, At b #[.int .i64 S.stage, .string ⟨S.stream.toArray⟩, v, .int .i64 S.taken, .int .i64 S.failed] 86 w → At b #[.int .i64 S'.stage, .string ⟨S'.stream.toArray⟩, v, .int .i64 S'.taken, .int .i64 S'.failed] 86 w') : BAt B b F S' w' := by
  obtain ⟨v, xs, bl, h1, h2, h3, h4, h5⟩ := h.at_
  have hn : b ∉ v.ownBlock.toList ++ bl := by rw [h4] at h5; exact (List.nodup_cons.1 h5).1
  refine ⟨h.base, v, xs, bl, hc v h1, ?_, ?_, h4, h5⟩
  · rw [ho]
    exact owns_same h2 fun k hk => hw.block k (h2.lt k hk).2 fun e => by
      rw [List.mem_singleton] at e
      subst e
      exact hn (by simp [hk])
  · rw [ho]
    have hbF : b ∈ F := by rw [h4]; simp
    have st : Stp F F w w' := ⟨hw.size, fun k hk hf => ⟨hf, hw.block k hk fun e => by rw [List.mem_singleton] at e; exact hf (e ▸ hbF)⟩⟩
    refine h3.step st.rows (fun k hk => hw.block k (h3.lt k hk).2 fun e => ?_)
    · rw [List.mem_singleton] at e
      subst e
      exact hn (by simp [hk])
/-- A builder with nothing open. -/
theorem bat_none {B b : Nat} {S : Bs} {w : World} (hB : B ≤ b) (ho : S.opn = []) (h : At b #[.int .i64 S.stage, .string ⟨S.stream.toArray⟩, .slice none 0 0, .int .i64 S.taken, .int .i64 S.failed] 86 w) : BAt B b [b] S w :=
  ⟨hB, .slice none 0 0, [], [], h, by rw [ho]; exact World.ownsRow_nil _ _ _ _, by rw [ho]; exact ⟨rfl, rfl⟩, rfl, by simp⟩
theorem F_head {B b : Nat} {F : List Nat} {S : Bs} {w : World} (h : BAt B b F S w) : b ∈ F := by
  obtain ⟨v, xs, bl, h1, h2, h3, h4, h5⟩ := h.at_
  rw [h4]
  simp
theorem row_attrs {B : Nat} {F : List Nat} {v : Value} {l : List (List UInt8 × List UInt8)} {w : World} (h : AttrsAt B v l w) (hF : ∀ k ∈ F, k < B) : Row (Pf F w) w v l.length (pairCells l) :=
  row_pf h (by decide) fun k hk hf => by
    have := (h.lt k hk).1
    have := hF k hf
    omega
theorem el_begun {F : List Nat} {w : World} {t : Tok} {v : Value} (h : Row (Pf F w) w v t.attrs.length (pairCells t.attrs)) : ElE (Pf F w) w (elOf t) (.string ⟨t.nm.toArray⟩) v (.string ⟨#[]⟩) (.slice none 0 0) :=
  ElE.mk (e := elOf t) h (row_nil _ _ _ _) rfl
theorem Wr.set5 {L : List Nat} {a w : World} (h : Wr L a w) {r : Nat} (hr : r ∈ L ∨ a.heap.size ≤ r) (u0 u1 u2 u3 u4 : Value) :
    Wr L a (((((w.setCell ⟨r, 0, none⟩ u0).setCell ⟨r, 1, none⟩ u1).setCell ⟨r, 2, none⟩ u2).setCell ⟨r, 3, none⟩ u3).setCell ⟨r, 4, none⟩ u4) :=
  ((((h.set r 0 u0 hr).set r 1 u1 hr).set r 2 u2 hr).set r 3 u3 hr).set r 4 u4 hr
theorem At.set5 {r : Nat} {cs : Array Value} {T : TypeId} {w : World} (h : At r cs T w) (u0 u1 u2 u3 u4 : Value) :
    At r (((((cs.setIfInBounds 0 u0).setIfInBounds 1 u1).setIfInBounds 2 u2).setIfInBounds 3 u3).setIfInBounds 4 u4) T (((((w.setCell ⟨r, 0, none⟩ u0).setCell ⟨r, 1, none⟩ u1).setCell ⟨r, 2, none⟩ u2).setCell ⟨r, 3, none⟩ u3).setCell ⟨r, 4, none⟩ u4) :=
  ((((h.set 0 u0).set 1 u1).set 2 u2).set 3 u3).set 4 u4
theorem ev_cells {r : Nat} {a b c d e : Value} {T : TypeId} {w : World} (h : At r #[a, b, c, d, e] T w) : w.cell? ⟨r, 0, none⟩ = some a ∧ w.cell? ⟨r, 1, none⟩ = some b ∧ w.cell? ⟨r, 2, none⟩ = some c ∧ w.cell? ⟨r, 3, none⟩ = some d ∧ w.cell? ⟨r, 4, none⟩ = some e :=
  ⟨by rw [Lib.cell_of_heap h]; rfl, by rw [Lib.cell_of_heap h]; rfl, by rw [Lib.cell_of_heap h]; rfl, by rw [Lib.cell_of_heap h]; rfl, by rw [Lib.cell_of_heap h]; rfl⟩
theorem At.other5 {b : Nat} {cs : Array Value} {T : TypeId} {w : World} (h : At b cs T w) {r : Nat} (hne : b ≠ r) (u0 u1 u2 u3 u4 : Value) :
    At b cs T (((((w.setCell ⟨r, 0, none⟩ u0).setCell ⟨r, 1, none⟩ u1).setCell ⟨r, 2, none⟩ u2).setCell ⟨r, 3, none⟩ u3).setCell ⟨r, 4, none⟩ u4) :=
  ((((h.other r 0 u0 hne).other r 1 u1 hne).other r 2 u2 hne).other r 3 u3 hne).other r 4 u4 hne
set_option maxHeartbeats 1000000 in
set_option maxRecDepth 100000 in
theorem between_text {B b : Nat} {F : List Nat} {S : Bs} {w : World} (k : BAt B b F S w) (hs : S.stage = 1) (nm x : ByteArray) (ao : Option Addr) (n cap : Nat) :
    Calls Tryz.prog 58 #[.pointer (some ⟨b, 0, none⟩), .agg #[.int .i64 3, .string nm, .slice ao n cap, .string x]] w (AddRes B b F (S, none) w) := by
  have K : Hid (BAt B b F S w) := k
  obtain ⟨v, xs, bs, h1, h2, hq⟩ := k.at_
  clear hq
  obtain ⟨ao', cap', rfl⟩ := owns_shape h2
  obtain ⟨c0, c1, c2, c3, c4, fz⟩ := bldCells h1
  have hb := lt_of_heap h1
  rw [hs] at c0
  clear h1 h2 k
  go_enter Tryz.func58, Tryz.ntmps58
  go_wp2_with fail
  have hw : ∀ o1 o2, Below w.heap.size w ((w.alloc o1).alloc o2) := fun o1 o2 => ((Below.refl _ _).alloc (Nat.le_refl _) _).alloc (by simp) _
  exact bodyPost_ret (v := .tuple #[.agg #[.int .i64 0, .string ⟨#[]⟩, .slice none 0 0, .string ⟨#[]⟩, .slice none 0 0], .bool false]) (by simp [results, Tryz.results58, go_sem]) rfl
    ⟨F, 0, _, _, _, _, _, _, _, _, _, rfl, evOk_none _ _, K.out.below (hw _ _), Wr.of_below (hw _ _), fun _ h => .inl h⟩
set_option maxHeartbeats 1000000 in
set_option maxRecDepth 100000 in
theorem between_end {B b : Nat} {F : List Nat} {S : Bs} {w : World} (k : BAt B b F S w) (hs : S.stage = 1) (nm x : ByteArray) (ao : Option Addr) (n cap : Nat) :
    Calls Tryz.prog 58 #[.pointer (some ⟨b, 0, none⟩), .agg #[.int .i64 2, .string nm, .slice ao n cap, .string x]] w (AddRes B b F (⟨2, [], S.opn, S.taken, S.failed⟩, some (3, el0)) w) := by
  have K : Hid (BAt B b F S w) := k
  obtain ⟨v, xs, bs, h1, h2, hq⟩ := k.at_
  clear hq
  obtain ⟨ao', cap', rfl⟩ := owns_shape h2
  obtain ⟨c0, c1, c2, c3, c4, fz⟩ := bldCells h1
  have hb := lt_of_heap h1
  rw [hs] at c0
  clear h1 h2 k
  go_enter Tryz.func58, Tryz.ntmps58
  go_wp2_with fail
  have hw : ∀ u1 u2 o1 o2, Wr [b] w ((((w.setCell ⟨b, 0, none⟩ u1).setCell ⟨b, 1, none⟩ u2).alloc o1).alloc o2) := fun u1 u2 o1 o2 => ((((Wr.refl [b] w).set b 0 u1 (.inl (by simp))).set b 1 u2 (.inl (by simp))).alloc o1).alloc o2
  refine bodyPost_ret (v := .tuple #[.agg #[.int .i64 3, .string ⟨#[]⟩, .slice none 0 0, .string ⟨#[]⟩, .slice none 0 0], .bool true]) (by simp [results, Tryz.results58, go_sem]) rfl
    ⟨F, 3, _, _, _, _, _, _, _, _, _, rfl, ⟨rfl, ElE.mk (e := el0) (row_nil _ _ _ _) (row_nil _ _ _ _) rfl, rfl⟩, bat_keep K.out (hw _ _ _ _) rfl fun v h => ?_, (hw _ _ _ _).mono (by simp [F_head K.out]), fun _ h => .inl h⟩
  exact (((h.set 0 _).set 1 _).alloc _).alloc _
set_option maxHeartbeats 1000000 in
set_option maxRecDepth 100000 in
theorem between_begin {B b : Nat} {F : List Nat} {S : Bs} {w : World} (k : BAt B b F S w) (ho : S.opn = []) (hs : S.stage = 1) (t : Tok) (x : ByteArray) (ao : Option Addr) (cap : Nat) (hr : Row (fun k => k ∉ F) w (.slice ao t.attrs.length cap) t.attrs.length (pairCells t.attrs)) (hbig : t.attrs.length * 32 ≤ 140737488355328) :
    Calls Tryz.prog 58 #[.pointer (some ⟨b, 0, none⟩), .agg #[.int .i64 1, .string ⟨t.nm.toArray⟩, .slice ao t.attrs.length cap, .string x]] w (AddRes B b F (⟨S.stage, S.stream, [elOf t], 1, S.failed⟩, none) w) := by
  have K : Hid (BAt B b F S w) := k
  obtain ⟨v, xs, bs, h1, h2, hq⟩ := k.at_
  clear hq
  obtain ⟨ao', cap', rfl⟩ := owns_shape h2
  obtain ⟨c0, c1, c2, c3, c4, fz⟩ := bldCells h1
  have hb := lt_of_heap h1
  have A : Hid (At b _ 86 w) := h1
  rw [hs] at c0
  have H1 : ∀ W, Below w.heap.size w W → Calls Tryz.prog 59 #[.agg #[.int .i64 1, .string ⟨t.nm.toArray⟩, .slice ao t.attrs.length cap, .string x]] W fun e w' => ElRes0 W.heap.size ⟨t.nm.toArray⟩ t.attrs e w' ∧ Below W.heap.size W w' := fun W hb => begunBy_any 1 _ x ao cap t.attrs W (hr.step (row_below hb)) hbig
  clear h1 h2 k hr
  go_enter Tryz.func58, Tryz.ntmps58
  go_wp2_with (go_at_call 59; refine (H1 _ ?_).mono ?_; (exact ((Below.refl _ _).alloc (Nat.le_refl _) _).alloc (by simp) _); rintro e w1 ⟨⟨ao1, cap1, rfl, ha⟩, hb1⟩; obtain ⟨hc1, hf1⟩ := bcell hb1; have hz1 := hb1.size; simp at hz1; have hb2 := (((Below.refl w.heap.size w).alloc (Nat.le_refl _) _).alloc (by simp) _).trans (hb1.mono (by simp; omega)); have hcb := fun o => (bcell hb2).1 b o hb; have hfb := fun o => ((bcell hb2).2 b o hb).trans (fz o); have hbw : b < w1.heap.size := (by omega); have hrw : w.heap.size + 1 < w1.heap.size := (by omega))
  have hne : b ≠ w.heap.size + 1 := by omega
  obtain ⟨X, hX⟩ : ∃ X, X = (((((((w1.setCell ⟨b, 2, none⟩ (.slice (some ⟨w1.heap.size, 0, none⟩) 1 1)).setCell ⟨b, 3, none⟩ (.int .i64 1)).setCell ⟨w.heap.size + 1, 0, none⟩ (.int .i64 0)).setCell ⟨w.heap.size + 1, 1, none⟩ (.string ⟨#[]⟩)).setCell ⟨w.heap.size + 1, 2, none⟩ (.slice none 0 0)).setCell ⟨w.heap.size + 1, 3, none⟩ (.string ⟨#[]⟩)).setCell ⟨w.heap.size + 1, 4, none⟩ (.slice none 0 0)) := ⟨_, rfl⟩
  have hXs : X.heap.size = w1.heap.size := by rw [hX]; simp
  have hXw : Wr [b, w.heap.size + 1] w1 X := by
    rw [hX]
    exact (((Wr.refl _ _).set b 2 _ (.inl (by simp))).set b 3 _ (.inl (by simp))).set5 (.inl (by simp)) _ _ _ _ _
  have hXa : At b #[.int .i64 S.stage, .string ⟨S.stream.toArray⟩, .slice (some ⟨w1.heap.size, 0, none⟩) 1 1, .int .i64 1, .int .i64 S.failed] 86 X := by
    rw [hX]
    exact (((At.below A.out hb2 hb).set 2 _).set 3 _).other5 hne _ _ _ _ _
  have hWw : Wr [b] w X := ((Wr.of_below hb2).trans (hXw.mono (L' := [b, w.heap.size + 1]) (fun k h => .inl h))).mono (by simp)
  rw [← hX]
  have ho1 := owns_new X B 25 4 1 #[.string ⟨t.nm.toArray⟩, .slice ao1 t.attrs.length cap1, .string ⟨#[]⟩, .slice none 0 0] (by have := K.out.base; rw [hXs]; omega) (by decide) rfl
  rw [hXs] at ho1
  refine bodyPost_ret (v := .tuple #[.agg #[.int .i64 0, .string ⟨#[]⟩, .slice none 0 0, .string ⟨#[]⟩, .slice none 0 0], .bool false]) ?_ rfl
    ⟨[b, w1.heap.size], 0, _, _, _, _, _, _, _, _, _, rfl, evOk_none _ _, ⟨K.out.base, _, _, [], hXa.alloc _, ho1, ⟨_, _, [], [], [], rfl, ?_, World.ownsRow_nil _ _ _ _, rfl, rfl, rfl, rfl⟩, rfl, by simp; omega⟩, (hWw.alloc _).mono (by simp [F_head K.out]), ?_⟩
  · have hr1 : At (w.heap.size + 1) #[.int .i64 0, .string ⟨#[]⟩, .slice none 0 0, .string ⟨#[]⟩, .slice none 0 0] 69 w1 := (hb1.block _ (by simp)).trans (by have := heap_alloc_new (w.alloc (.cells #[.int .i64 1, .string ⟨t.nm.toArray⟩, .slice ao t.attrs.length cap, .string x] 73)) (.cells #[.int .i64 0, .string ⟨#[]⟩, .slice none 0 0, .string ⟨#[]⟩, .slice none 0 0] 69); simpa using this)
    have hr2 : At (w.heap.size + 1) #[.int .i64 0, .string ⟨#[]⟩, .slice none 0 0, .string ⟨#[]⟩, .slice none 0 0] 69 X := by
      rw [hX]
      exact ((hr1.other b 2 _ hne.symm).other b 3 _ hne.symm).set5 _ _ _ _ _
    have hr3 := ev_cells (hr2.alloc (.cells #[.string ⟨t.nm.toArray⟩, .slice ao1 t.attrs.length cap1, .string ⟨#[]⟩, .slice none 0 0] 25))
    obtain ⟨e0, e1, e2, e3, e4⟩ := hr3
    simp [results, Tryz.results58, go_sem, e0, e1, e2, e3, e4]
  · refine row_pf ((owns_same ha fun k hk => hXw.block k (ha.lt k hk).2 ?_).alloc _) (by decide) fun k hk => ?_
    · have := (ha.lt k hk).1
      simp at this ⊢
      omega
    · have := ha.lt k hk
      simp at this ⊢
      omega
  · intro k hk
    simp at hk
    rcases hk with rfl | rfl
    · exact .inl (F_head K.out)
    · exact .inr (by omega)
set_option maxHeartbeats 1000000 in
set_option maxRecDepth 100000 in
theorem between_head {B b : Nat} {F : List Nat} {S : Bs} {w : World} (k : BAt B b F S w) (ho : S.opn = []) (hs : S.stage = 0) (t : Tok) (x : ByteArray) (ao : Option Addr) (cap : Nat) (hr : Row (fun k => k ∉ F) w (.slice ao t.attrs.length cap) t.attrs.length (pairCells t.attrs)) (hbig : t.attrs.length * 32 ≤ 140737488355328) :
    Calls Tryz.prog 58 #[.pointer (some ⟨b, 0, none⟩), .agg #[.int .i64 1, .string ⟨t.nm.toArray⟩, .slice ao t.attrs.length cap, .string x]] w (AddRes B b F (⟨1, t.nm, S.opn, S.taken, S.failed⟩, some (1, elOf t)) w) := by
  have K : Hid (BAt B b F S w) := k
  obtain ⟨v, xs, bs, h1, h2, hq⟩ := k.at_
  clear hq
  obtain ⟨ao', cap', rfl⟩ := owns_shape h2
  obtain ⟨c0, c1, c2, c3, c4, fz⟩ := bldCells h1
  have hb := lt_of_heap h1
  have A : Hid (At b _ 86 w) := h1
  rw [hs] at c0
  have hbF := F_head k
  have H1 : ∀ W, Wr [b] w W → Calls Tryz.prog 59 #[.agg #[.int .i64 1, .string ⟨t.nm.toArray⟩, .slice ao t.attrs.length cap, .string x]] W fun e w' => ElRes0 W.heap.size ⟨t.nm.toArray⟩ t.attrs e w' ∧ Below W.heap.size W w' := fun W hb => begunBy_any (P := fun k => k ∉ F) 1 _ x ao cap t.attrs W (hr.step fun k h1 h2 => ⟨h1, hb.block k h2 (by intro e; rw [List.mem_singleton] at e; exact h1 (e ▸ hbF))⟩) hbig
  clear h1 h2 k hr
  have hY : ∀ u1 u2 o1 o2, Wr [b] w (((((w.setCell ⟨b, 0, none⟩ u1).setCell ⟨b, 1, none⟩ u2).alloc o1).alloc o2).drew) := fun u1 u2 o1 o2 => (((((Wr.refl [b] w).set b 0 u1 (.inl (by simp))).set b 1 u2 (.inl (by simp))).alloc o1).alloc o2).drew
  have hYb : ∀ o1 o2, At b #[.int .i64 1, .string ⟨t.nm.toArray⟩, .slice ao' S.opn.length cap', .int .i64 S.taken, .int .i64 S.failed] 86 (((((w.setCell ⟨b, 0, none⟩ (.int .i64 1)).setCell ⟨b, 1, none⟩ (.string ⟨t.nm.toArray⟩)).alloc o1).alloc o2).drew) := fun o1 o2 => (((A.out.set 0 _).set 1 _).alloc o1).alloc o2
  have hYr : ∀ o1, At (w.heap.size + 1) #[.int .i64 0, .string ⟨#[]⟩, .slice none 0 0, .string ⟨#[]⟩, .slice none 0 0] 69 (((((w.setCell ⟨b, 0, none⟩ (.int .i64 1)).setCell ⟨b, 1, none⟩ (.string ⟨t.nm.toArray⟩)).alloc o1).alloc (.cells #[.int .i64 0, .string ⟨#[]⟩, .slice none 0 0, .string ⟨#[]⟩, .slice none 0 0] 69)).drew) := fun o1 => by
    have := heap_alloc_new (((w.setCell ⟨b, 0, none⟩ (.int .i64 1)).setCell ⟨b, 1, none⟩ (.string ⟨t.nm.toArray⟩)).alloc o1) (.cells #[.int .i64 0, .string ⟨#[]⟩, .slice none 0 0, .string ⟨#[]⟩, .slice none 0 0] 69)
    have e : (((w.setCell ⟨b, 0, none⟩ (.int .i64 1)).setCell ⟨b, 1, none⟩ (.string ⟨t.nm.toArray⟩)).alloc o1).heap.size = w.heap.size + 1 := by simp
    rw [e] at this
    exact this
  have hYs : ∀ u1 u2 o1 o2, (((((w.setCell ⟨b, 0, none⟩ u1).setCell ⟨b, 1, none⟩ u2).alloc o1).alloc o2).drew).heap.size = w.heap.size + 2 := fun u1 u2 o1 o2 => by simp
  have HY : Hid _ := hY
  have HYb : Hid _ := hYb
  have HYr : Hid _ := hYr
  have HYs : Hid _ := hYs
  clear hY hYb hYr hYs
  go_enter Tryz.func58, Tryz.ntmps58
  go_wp2_with fail
  go_region
  go_wp2_with fail
  refine (H1 _ (HY.out _ _ _ _)).mono ?_
  rintro e w1 ⟨⟨ao1, cap1, rfl, ha⟩, hb1⟩
  have y1 := HY.out (.int .i64 1) (.string ⟨t.nm.toArray⟩) (.cells #[.int .i64 1, .string ⟨t.nm.toArray⟩, .slice ao t.attrs.length cap, .string x] 73) (.cells #[.int .i64 0, .string ⟨#[]⟩, .slice none 0 0, .string ⟨#[]⟩, .slice none 0 0] 69)
  have y2 := HYb.out (.cells #[.int .i64 1, .string ⟨t.nm.toArray⟩, .slice ao t.attrs.length cap, .string x] 73) (.cells #[.int .i64 0, .string ⟨#[]⟩, .slice none 0 0, .string ⟨#[]⟩, .slice none 0 0] 69)
  have y3 := HYr.out (.cells #[.int .i64 1, .string ⟨t.nm.toArray⟩, .slice ao t.attrs.length cap, .string x] 73)
  have y4 := HYs.out (.int .i64 1) (.string ⟨t.nm.toArray⟩) (.cells #[.int .i64 1, .string ⟨t.nm.toArray⟩, .slice ao t.attrs.length cap, .string x] 73) (.cells #[.int .i64 0, .string ⟨#[]⟩, .slice none 0 0, .string ⟨#[]⟩, .slice none 0 0] 69)
  generalize (((((w.setCell ⟨b, 0, none⟩ (.int .i64 1)).setCell ⟨b, 1, none⟩ (.string ⟨t.nm.toArray⟩)).alloc (.cells #[.int .i64 1, .string ⟨t.nm.toArray⟩, .slice ao t.attrs.length cap, .string x] 73)).alloc (.cells #[.int .i64 0, .string ⟨#[]⟩, .slice none 0 0, .string ⟨#[]⟩, .slice none 0 0] 69)).drew) = Y at *
  have z1 := y1.then_ (hb1.mono y1.size)
  have z2 := y2.below hb1 (lt_of_heap y2)
  have z3 := y3.below hb1 (lt_of_heap y3)
  obtain ⟨e0, e1, e2, e3, e4⟩ := ev_cells z3
  have hfr : ∀ o, w1.frozen? ⟨w.heap.size + 1, o, none⟩ = false := fun o => Lib.frozen_of_heap z3 o
  have hz1 := hb1.size
  have Z2 : Hid (At b _ 86 w1) := z2
  have Z3 : Hid (At _ _ 69 w1) := z3
  have Y3 : Hid (At _ _ 69 Y) := y3
  clear z2 z3 y2 y3
  go_wp2_with fail
  have hW := z1.set5 (r := w.heap.size + 1) (.inr (by omega)) (.int .i64 1) (.string ⟨t.nm.toArray⟩) (.slice ao1 t.attrs.length cap1) (.string ⟨#[]⟩) (.slice none 0 0)
  refine bodyPost_ret (v := .tuple #[.agg #[.int .i64 1, .string ⟨t.nm.toArray⟩, .slice ao1 t.attrs.length cap1, .string ⟨#[]⟩, .slice none 0 0], .bool true]) (by simp [results, Tryz.results58, go_sem, e0, e1, e2, e3, e4]) rfl
    ⟨F, 1, _, _, _, _, _, _, _, _, _, rfl, ⟨rfl, el_begun ?_, rfl⟩, bat_keep K.out hW rfl fun v h => ?_, hW.mono (by simp [hbF]), fun _ h => .inl h⟩
  · have hlt : w.heap.size + 1 < Y.heap.size := by omega
    refine row_pf (ownsRow_setCell_below (ownsRow_setCell_below (ownsRow_setCell_below (ownsRow_setCell_below (ownsRow_setCell_below ha (a := ⟨_, _, none⟩) hlt _) (a := ⟨_, _, none⟩) hlt _) (a := ⟨_, _, none⟩) hlt _) (a := ⟨_, _, none⟩) hlt _) (a := ⟨_, _, none⟩) hlt _) (by decide) fun k hk hf => ?_
    have h1 := (ha.lt k hk).1
    have h2 := (K.out.lt k hf).2
    omega
  · have he := h.symm.trans A.out
    simp at he
    subst he
    exact At.other5 Z2.out (by omega) _ _ _ _ _
end Go.Proofs.YthekdgnikkjpdaaGreatDoor
