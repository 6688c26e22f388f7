/-
  How a builder lies in memory; the contracts of trees.New, (*trees.Builder).Depth, last and innermost over this program.
-/
import Derived.Test.YthekdgnikkjpdaaGreatDoorBela
namespace Go.Proofs.YthekdgnikkjpdaaGreatDoor
open Go.RowKit
/-- A block that is no event's. -/
def NoEv (w : World) (k : Nat) : Prop := ∀ cs T fz, w.heap[k]? = some (.cells cs T fz) → T ≠ 69 ∧ T ≠ 42
/-- Where elements may lie that nobody writes. -/
def Pf (F : List Nat) (w : World) (k : Nat) : Prop := k ∉ F ∧ NoEv w k
theorem NoEv.same {w w' : World} {k : Nat} (h : NoEv w k) (e : w'.heap[k]? = w.heap[k]?) : NoEv w' k := fun cs T fz => by rw [e]; exact h cs T fz
theorem noEv_owns {B : Nat} {e : TypeId} {sz : Nat} {v : Value} {n : Nat} {xs : List Value} {w : World} (h : w.ownsRow B e sz v n xs) (he : e ≠ 69 ∧ e ≠ 42) : ∀ k, v.ownBlock = some k → NoEv w k := fun k hk cs T fz hh => by
  rcases h.2 with ⟨h1, _⟩ | ⟨g, cap, cur, h1, _, h3, _⟩
  · rw [h1] at hk
    simp [Value.ownBlock] at hk
  · rw [h1] at hk
    simp [Value.ownBlock] at hk
    subst hk
    rw [hh] at h3
    have e1 : T = e := (Obj.cells.inj (Option.some.inj h3)).2.1
    rw [e1]
    exact he
theorem row_pf {F : List Nat} {B : Nat} {e : TypeId} {sz : Nat} {v : Value} {n : Nat} {xs : List Value} {w : World} (h : w.ownsRow B e sz v n xs) (he : e ≠ 69 ∧ e ≠ 42) (hP : ∀ k, v.ownBlock = some k → k ∉ F) : Row (Pf F w) w v n xs :=
  row_owns h fun k hk => ⟨hP k hk, noEv_owns h he k hk⟩
/-- The open elements: their cells, and the blocks of their kids' rows. -/
def OpenAt (B : Nat) (P : Nat → Prop) (w : World) : List El → List Value → List Nat → Prop
  | [], xs, bl => xs = [] ∧ bl = []
  | e :: es, xs, bl => ∃ b d ys zs bl', xs = .string ⟨e.nm.toArray⟩ :: b :: .string ⟨e.text.toArray⟩ :: d :: ys ∧ Row P w b e.attrs.length (pairCells e.attrs) ∧
      w.ownsRow B 25 4 d e.kids.length zs ∧ KidsAt (ElE P w) e.kids zs ∧ bl = d.ownBlock.toList ++ bl' ∧ OpenAt B P w es ys bl'
/-- A builder in block b, which may write the blocks F. -/
structure BAt (B b : Nat) (F : List Nat) (S : Bs) (w : World) : Prop where
  base : B ≤ b
  at_ : ∃ v xs bl, w.heap[b]? = some (.cells #[.int .i64 S.stage, .string ⟨S.stream.toArray⟩, v, .int .i64 S.taken, .int .i64 S.failed] 86 (0, 0)) ∧
    w.ownsRow B 25 4 v S.opn.length xs ∧ OpenAt B (Pf F w) w S.opn xs bl ∧ F = b :: (v.ownBlock.toList ++ bl) ∧ F.Nodup
/-- What was there, and is not of F, is there, and not of F'. -/
def Stp (F F' : List Nat) (w w' : World) : Prop := w.heap.size ≤ w'.heap.size ∧ ∀ k, k < w.heap.size → k ∉ F → k ∉ F' ∧ w'.heap[k]? = w.heap[k]?
theorem Stp.refl (F : List Nat) (w : World) : Stp F F w w := ⟨Nat.le_refl _, fun _ _ h => ⟨h, rfl⟩⟩
theorem Stp.trans {F G H : List Nat} {a b c : World} (h : Stp F G a b) (k : Stp G H b c) : Stp F H a c :=
  ⟨Nat.le_trans h.1 k.1, fun i hi hf => by
    obtain ⟨h1, h2⟩ := h.2 i hi hf
    obtain ⟨k1, k2⟩ := k.2 i (Nat.lt_of_lt_of_le hi h.1) h1
    exact ⟨k1, k2.trans h2⟩⟩
theorem Stp.of_below {F : List Nat} {w w' : World} (h : Below w.heap.size w w') : Stp F F w w' := ⟨h.size, fun k hk hf => ⟨hf, h.block k hk⟩⟩
theorem Stp.rows {F F' : List Nat} {w w' : World} (h : Stp F F' w w') : ∀ k, Pf F w k → k < w.heap.size → Pf F' w' k ∧ w'.heap[k]? = w.heap[k]? := fun k h1 h2 => ⟨⟨(h.2 k h2 h1.1).1, h1.2.same (h.2 k h2 h1.1).2⟩, (h.2 k h2 h1.1).2⟩
theorem owns_same {B : Nat} {e : TypeId} {sz : Nat} {v : Value} {n : Nat} {xs : List Value} {w w' : World} (h : w.ownsRow B e sz v n xs) (hs : ∀ k, v.ownBlock = some k → w'.heap[k]? = w.heap[k]?) : w'.ownsRow B e sz v n xs := by
  refine ⟨h.1, ?_⟩
  rcases h.2 with h1 | ⟨g, cap, cur, h1, h2, h3, h4⟩
  · exact .inl h1
  · exact .inr ⟨g, cap, cur, h1, h2, by rw [hs g (by rw [h1]; rfl)]; exact h3, h4⟩
theorem OpenAt.step {B : Nat} {F F' : List Nat} {w w' : World} (hp : ∀ k, Pf F w k → k < w.heap.size → Pf F' w' k ∧ w'.heap[k]? = w.heap[k]?) : ∀ {l : List El} {xs : List Value} {bl : List Nat}, OpenAt B (Pf F w) w l xs bl → (∀ k ∈ bl, w'.heap[k]? = w.heap[k]?) → OpenAt B (Pf F' w') w' l xs bl
  | [], _, _, h, _ => h
  | e :: es, xs, bl, ⟨b, d, ys, zs, bl', h1, h2, h3, h4, h5, h6⟩, hs => by
    refine ⟨b, d, ys, zs, bl', h1, h2.step hp, owns_same h3 fun k hk => hs k ?_, h4.imp fun _ _ _ _ _ k => k.step hp, h5, OpenAt.step hp h6 fun k hk => hs k ?_⟩
    · rw [h5, hk]; simp
    · rw [h5]; simp [hk]
theorem OpenAt.snoc {B : Nat} {P : Nat → Prop} {w : World} {e : El} : ∀ {l : List El} {xs : List Value} {bl : List Nat}, OpenAt B P w (l ++ [e]) xs bl →
    ∃ ys b d zs bl', xs = ys ++ [.string ⟨e.nm.toArray⟩, b, .string ⟨e.text.toArray⟩, d] ∧ OpenAt B P w l ys bl' ∧ Row P w b e.attrs.length (pairCells e.attrs) ∧ w.ownsRow B 25 4 d e.kids.length zs ∧ KidsAt (ElE P w) e.kids zs ∧ bl = bl' ++ d.ownBlock.toList
  | [], xs, bl, ⟨b, d, ys, zs, bl', h1, h2, h3, h4, h5, h6, h7⟩ => ⟨[], b, d, zs, [], by rw [h1, h6]; rfl, ⟨rfl, rfl⟩, h2, h3, h4, by rw [h5, h7]; simp⟩
  | f :: l, xs, bl, ⟨b, d, ys, zs, bl', h1, h2, h3, h4, h5, h6⟩ => by
    obtain ⟨us, b', d', zs', bl'', k1, k2, k3, k4, k5, k6⟩ := OpenAt.snoc (l := l) h6
    exact ⟨_ :: _ :: _ :: _ :: us, b', d', zs', d.ownBlock.toList ++ bl'', by rw [h1, k1]; rfl, ⟨b, d, us, zs, bl'', rfl, h2, h3, h4, rfl, k2⟩, k3, k4, k5, by rw [h5, k6]; simp⟩
theorem OpenAt.snoc_mk {B : Nat} {P : Nat → Prop} {w : World} {e : El} {b d : Value} {zs : List Value} (h3 : Row P w b e.attrs.length (pairCells e.attrs)) (h4 : w.ownsRow B 25 4 d e.kids.length zs) (h5 : KidsAt (ElE P w) e.kids zs) :
    ∀ {l : List El} {xs : List Value} {bl : List Nat}, OpenAt B P w l xs bl → OpenAt B P w (l ++ [e]) (xs ++ [.string ⟨e.nm.toArray⟩, b, .string ⟨e.text.toArray⟩, d]) (bl ++ d.ownBlock.toList)
  | [], xs, bl, ⟨h1, h2⟩ => by
    subst h1 h2
    exact ⟨b, d, [], zs, [], rfl, h3, h4, h5, by simp, rfl, rfl⟩
  | f :: l, xs, bl, ⟨b', d', ys, zs', bl', k1, k2, k3, k4, k5, k6⟩ => by
    subst k1 k5
    exact ⟨b', d', _, zs', _, rfl, k2, k3, k4, by simp, OpenAt.snoc_mk h3 h4 h5 k6⟩
theorem OpenAt.length {B : Nat} {P : Nat → Prop} {w : World} : ∀ {l : List El} {xs : List Value} {bl : List Nat}, OpenAt B P w l xs bl → xs.length = l.length * 4
  | [], _, _, h => by rw [h.1]; rfl
  | _ :: _, _, _, ⟨_, _, _, _, _, h1, _, _, _, _, h6⟩ => by
    have := OpenAt.length h6
    rw [h1]
    simp
    omega
theorem OpenAt.lt {B : Nat} {P : Nat → Prop} {w : World} : ∀ {l : List El} {xs : List Value} {bl : List Nat}, OpenAt B P w l xs bl → ∀ k ∈ bl, B ≤ k ∧ k < w.heap.size
  | [], _, _, h => by rw [h.2]; simp
  | _ :: _, _, _, ⟨_, d, _, _, _, _, _, h3, _, h5, h6⟩ => by
    intro k hk
    rw [h5] at hk
    rcases List.mem_append.1 hk with hk | hk
    · exact h3.lt k (by simpa using hk)
    · exact OpenAt.lt h6 k hk
theorem bat_new (w : World) (B : Nat) (hB : B ≤ w.heap.size) : BAt B w.heap.size [w.heap.size] bs0 (w.alloc (.cells #[.int .i64 0, .string ⟨#[]⟩, .slice none 0 0, .int .i64 0, .int .i64 0] 86)) :=
  ⟨hB, .slice none 0 0, [], [], heap_alloc_new w _, World.ownsRow_nil _ _ _ _, ⟨rfl, rfl⟩, rfl, by simp⟩
theorem BAt.below {B b : Nat} {F : List Nat} {S : Bs} {w w' : World} (h : BAt B b F S w) (hb : Below w.heap.size w w') : BAt B b F S w' := by
  obtain ⟨v, xs, bl, h1, h2, h3, h4, h5⟩ := h.at_
  exact ⟨h.base, v, xs, bl, (hb.block b (lt_of_heap h1)).trans h1, owns_below h2 hb, h3.step (Stp.of_below hb).rows (fun k hk => hb.block k (h3.lt k hk).2), h4, h5⟩
/-- Every block of F is the builder's own, and there. -/
theorem BAt.lt {B b : Nat} {F : List Nat} {S : Bs} {w : World} (h : BAt B b F S w) : ∀ k ∈ F, B ≤ k ∧ k < w.heap.size := by
  obtain ⟨v, xs, bl, h1, h2, h3, h4, h5⟩ := h.at_
  intro k hk
  rw [h4] at hk
  rcases List.mem_cons.1 hk with rfl | hk
  · exact ⟨h.base, lt_of_heap h1⟩
  · rcases List.mem_append.1 hk with hk | hk
    · exact h2.lt k (by simpa using hk)
    · exact h3.lt k hk
set_option maxHeartbeats 400000 in
theorem newB_any (w : World) : Calls Tryz.prog 29 #[] w fun e w' => e = .returned (.pointer (some ⟨w.heap.size, 0, none⟩)) ∧ w' = w.alloc (.cells #[.int .i64 0, .string ⟨#[]⟩, .slice none 0 0, .int .i64 0, .int .i64 0] 86) := by
  go_enter Tryz.func29, Tryz.ntmps29
  go_wp2
  go_ret
  exact ⟨rfl, rfl⟩
/-- A builder's own cells. -/
structure BCells (b : Nat) (S : Bs) (ao : Option Addr) (n cap : Nat) (w : World) : Prop where
  c0 : w.cell? ⟨b, 0, none⟩ = some (.int .i64 S.stage)
  c1 : w.cell? ⟨b, 1, none⟩ = some (.string ⟨S.stream.toArray⟩)
  c2 : w.cell? ⟨b, 2, none⟩ = some (.slice ao n cap)
  c3 : w.cell? ⟨b, 3, none⟩ = some (.int .i64 S.taken)
  c4 : w.cell? ⟨b, 4, none⟩ = some (.int .i64 S.failed)
  fz : ∀ o, w.frozen? ⟨b, o, none⟩ = false
theorem bldCells {b : Nat} {S : Bs} {ao : Option Addr} {n cap : Nat} {w : World} (h1 : w.heap[b]? = some (.cells #[.int .i64 S.stage, .string ⟨S.stream.toArray⟩, .slice ao n cap, .int .i64 S.taken, .int .i64 S.failed] 86 (0, 0))) : BCells b S ao n cap w :=
  ⟨by rw [Lib.cell_of_heap h1]; rfl, by rw [Lib.cell_of_heap h1]; rfl, by rw [Lib.cell_of_heap h1]; rfl, by rw [Lib.cell_of_heap h1]; rfl, by rw [Lib.cell_of_heap h1]; rfl, fun o => Lib.frozen_of_heap h1 o⟩
set_option maxHeartbeats 400000 in
set_option maxRecDepth 100000 in
theorem depth_any (B b : Nat) (F : List Nat) (S : Bs) (w : World) (k : BAt B b F S w) (hl : S.opn.length ≤ 4) : Calls Tryz.prog 32 #[.pointer (some ⟨b, 0, none⟩)] w fun e w' => e = .returned (.int .i64 (depthN S)) ∧ w' = w := by
  obtain ⟨v, xs, bl, h1, h2, _⟩ := k.at_
  obtain ⟨ao, cap, rfl⟩ := owns_shape h2
  obtain ⟨c0, _, c2, _, c4, _⟩ := bldCells h1
  clear h1 h2 k
  by_cases hf : S.failed = 0
  · rw [hf] at c4
    by_cases hs : S.stage = 1
    · rw [hs] at c0
      have e : depthN S = 1 + S.opn.length := by unfold depthN; rw [if_pos ⟨hf, hs⟩]
      rw [e]
      clear e hf hs
      go_enter Tryz.func32, Tryz.ntmps32
      go_wp2
      go_ret
      exact ⟨rfl, rfl⟩
    · have e : depthN S = 0 := by unfold depthN; rw [if_neg (fun h => hs h.2)]
      rw [e]
      have hs' : (S.stage == 1) = false := by simpa using hs
      have hs2 : (S.stage != 1) = true := by simpa using hs
      clear e hs hf
      go_enter Tryz.func32, Tryz.ntmps32
      go_wp2
      go_ret
      exact ⟨rfl, rfl⟩
  · have e : depthN S = 0 := by unfold depthN; rw [if_neg (fun h => hf h.1)]
    rw [e]
    have hs2 : (S.failed != 0) = true := by simpa using hf
    clear e hf
    go_enter Tryz.func32, Tryz.ntmps32
    go_wp2
    go_ret
    exact ⟨rfl, rfl⟩
set_option maxHeartbeats 400000 in
theorem depth_nil (w : World) : Calls Tryz.prog 32 #[.pointer none] w fun e w' => e = .returned (.int .i64 0) ∧ w' = w := by
  go_enter Tryz.func32, Tryz.ntmps32
  go_wp2
  go_ret
  exact ⟨rfl, rfl⟩
set_option maxHeartbeats 400000 in
set_option maxRecDepth 100000 in
theorem last_any (b g m cap : Nat) (w : World) (c2 : w.cell? ⟨b, 2, none⟩ = some (.slice (some ⟨g, 0, none⟩) (m + 1) cap)) (hm : m < 100) : Calls Tryz.prog 57 #[.pointer (some ⟨b, 0, none⟩)] w fun e w' => e = .returned (.pointer (some ⟨g, m * 4, none⟩)) ∧ ∃ q, w' = w.drewN q := by
  go_enter Tryz.func57, Tryz.ntmps57
  go_wp2_with fail
  go_quiet (fail)
  go_wp2
  go_ret
  exact ⟨rfl, _, rfl⟩
end Go.Proofs.YthekdgnikkjpdaaGreatDoor
