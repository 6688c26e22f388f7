/-
  The contract of (*trees.Builder).Take over this program: for every builder that was made and has taken, and every token whose text is of at most 2000000 bytes.
-/
import Derived.Test.YthekdgnikkjpdaaGreatDoorBelk
namespace Go.Proofs.YthekdgnikkjpdaaGreatDoor
open Go.RowKit
/-- What Take answers. -/
def TakeRes (B b : Nat) (F : List Nat) (q : Bs × Option (Int × El) × Int) (w : World) (e : Ending) (w' : World) : Prop :=
  ∃ F' k s1 ao1 n1 cap1 s2 ao2 n2 cap2 ok, e = .returned (.tuple #[.agg #[.int .i64 k, .string s1, .slice ao1 n1 cap1, .string s2, .slice ao2 n2 cap2], .bool ok, .int .i64 q.2.2]) ∧
    EvOk F' w' k (.string s1) (.slice ao1 n1 cap1) (.string s2) (.slice ao2 n2 cap2) ok q.2.1 ∧ BAt B b F' q.1 w' ∧ Wr F w w' ∧ ∀ k ∈ F', k ∈ F ∨ w.heap.size ≤ k
set_option maxHeartbeats 400000 in
theorem take_nil (w : World) (kd : Int) (nm x : ByteArray) (ao : Option Addr) (n cp : Nat) : Calls Tryz.prog 31 #[.pointer none, .agg #[.int .i64 kd, .string nm, .slice ao n cp, .string x]] w fun e w' =>
    e = .returned (.tuple #[.agg #[.int .i64 0, .string ⟨#[]⟩, .slice none 0 0, .string ⟨#[]⟩, .slice none 0 0], .bool false, .int .i64 1]) ∧ Below w.heap.size w w' := by
  go_enter Tryz.func31, Tryz.ntmps31
  go_wp2
  exact bodyPost_ret (v := .tuple #[.agg #[.int .i64 0, .string ⟨#[]⟩, .slice none 0 0, .string ⟨#[]⟩, .slice none 0 0], .bool false, .int .i64 1]) (by simp [results, Tryz.results31, go_sem]) rfl ⟨rfl, ((Below.refl _ _).alloc (Nat.le_refl _) _).alloc (by simp) _⟩
set_option maxHeartbeats 2000000 in
set_option maxRecDepth 100000 in
theorem take_stuck {B b : Nat} {F : List Nat} {S : Bs} {w : World} (k : BAt B b F S w) (hf : S.failed ≠ 0) (kd : Int) (nm x : ByteArray) (ao : Option Addr) (n cp : Nat) :
    Calls Tryz.prog 31 #[.pointer (some ⟨b, 0, none⟩), .agg #[.int .i64 kd, .string nm, .slice ao n cp, .string x]] w (TakeRes B b F (⟨S.stage, [], [], S.taken, S.failed⟩, none, S.failed) w) := by
  have hbF := F_head k
  have hbB := k.base
  obtain ⟨v, xs, bl, h1, h2, _⟩ := k.at_
  obtain ⟨ao', cap', rfl⟩ := owns_shape h2
  obtain ⟨c0, c1, c2, c3, c4, fz⟩ := bldCells h1
  have hb := lt_of_heap h1
  have hbn : ¬ b = w.heap.size := by omega
  have hbn' : ¬ w.heap.size = b := by omega
  have A : Hid (At b _ 86 w) := h1
  have e1 : (S.failed == 0) = false := by simpa using hf
  have e2 : (S.failed != 0) = true := by simpa using hf
  clear h1 h2 k
  go_enter Tryz.func31, Tryz.ntmps31
  go_wp2_with fail
  go_region
  go_wp2_with fail
  have hW : ∀ o1 o2 u1 u2, Wr [b] w ((((w.setCell ⟨b, 1, none⟩ u1).setCell ⟨b, 2, none⟩ u2).alloc o1).alloc o2).drew := fun o1 o2 u1 u2 => (((((Wr.refl [b] w).set b 1 u1 (.inl (by simp))).set b 2 u2 (.inl (by simp))).alloc o1).alloc o2).drew
  exact bodyPost_ret (v := .tuple #[.agg #[.int .i64 0, .string ⟨#[]⟩, .slice none 0 0, .string ⟨#[]⟩, .slice none 0 0], .bool false, .int .i64 S.failed]) (by simp [results, Tryz.results31, go_sem]) rfl
    ⟨[b], 0, _, _, _, _, _, _, _, _, _, rfl, evOk_none _ _, bat_none hbB rfl ((((A.out.set 1 _).set 2 _).alloc _).alloc _).drew, (hW _ _ _ _).mono (by simp [hbF]), by simp [hbF]⟩
set_option maxHeartbeats 2000000 in
set_option maxRecDepth 100000 in
theorem take_fault {B b : Nat} {F : List Nat} {S : Bs} {w : World} (k : BAt B b F S w) (hO : BOk S) (hf : S.failed = 0) (t : Tok) (ao : Option Addr) (n cp : Nat) (hx : t.text.length ≤ 2000000) (c : Int) (hc : faultN S t = c) (hc0 : c ≠ 0) :
    Calls Tryz.prog 31 #[.pointer (some ⟨b, 0, none⟩), .agg #[.int .i64 t.kind, .string ⟨t.nm.toArray⟩, .slice ao n cp, .string ⟨t.text.toArray⟩]] w (TakeRes B b F (⟨S.stage, [], [], S.taken, c⟩, none, c) w) := by
  have hbF := F_head k
  have hbB := k.base
  have H1 := fun W hW => fault_any (k.below (w' := W) hW) hO t (.slice ao n cp) hx
  rw [hc] at H1
  obtain ⟨v, xs, bl, h1, h2, _⟩ := k.at_
  obtain ⟨ao', cap', rfl⟩ := owns_shape h2
  obtain ⟨c0, c1, c2, c3, c4, fz⟩ := bldCells h1
  have hb := lt_of_heap h1
  have hbn : ¬ b = w.heap.size := by omega
  have hbn' : ¬ w.heap.size = b := by omega
  have A : Hid (At b _ 86 w) := h1
  rw [hf] at c4
  have e2 : (c != 0) = true := by simpa using hc0
  clear h1 h2 k hf hc
  go_enter Tryz.func31, Tryz.ntmps31
  go_wp2_with (go_at_call 42; refine (H1 _ ?_).mono ?_; (exact ((Below.refl _ _).alloc (Nat.le_refl _) _).alloc (by simp) _); rintro e w1 ⟨rfl, hb1⟩; have hz1 := hb1.size; simp at hz1; have hb2 := (((Below.refl w.heap.size w).alloc (Nat.le_refl _) _).alloc (by simp) _).trans (hb1.mono (by simp; omega)); have hcb := fun o => (bcell hb2).1 b o hb; have hfb := fun o => ((bcell hb2).2 b o hb).trans (fz o); obtain ⟨hc1, hf1⟩ := bcell hb1; have hbw : b < w1.heap.size := (by omega); have hrw : w.heap.size + 1 < w1.heap.size := (by omega))
  go_region
  go_wp2_with fail
  have hne : b ≠ w.heap.size + 1 := by omega
  have hW := ((((Wr.of_below (L := [b]) hb2).set b 4 (.int .i64 c) (.inl (by simp))).set b 1 (.string ⟨#[]⟩) (.inl (by simp))).set b 2 (.slice none 0 0) (.inl (by simp))).set5 (r := w.heap.size + 1) (.inr (by omega)) (.int .i64 0) (.string ⟨#[]⟩) (.slice none 0 0) (.string ⟨#[]⟩) (.slice none 0 0)
  have hA := (((((At.below A.out hb2 hb).set 4 (.int .i64 c)).set 1 (.string ⟨#[]⟩)).set 2 (.slice none 0 0)).other5 hne (.int .i64 0) (.string ⟨#[]⟩) (.slice none 0 0) (.string ⟨#[]⟩) (.slice none 0 0))
  exact bodyPost_ret (v := .tuple #[.agg #[.int .i64 0, .string ⟨#[]⟩, .slice none 0 0, .string ⟨#[]⟩, .slice none 0 0], .bool false, .int .i64 c]) (by simp [results, Tryz.results31, go_sem, hc1]) rfl
    ⟨[b], 0, _, _, _, _, _, _, _, _, _, rfl, evOk_none _ _, bat_none hbB rfl hA.drew, hW.drew.mono (by simp [hbF]), by simp [hbF]⟩
/-- An event, put into a block of the caller's own, and another one beside it. -/
theorem take_put {B b : Nat} {F F' : List Nat} {q : Bs × Option (Int × El)} {w Y w' : World} {r : Nat} {cs : Array Value} {k : Int} {s1 s2 : ByteArray} {ao1 ao2 : Option Addr} {n1 cap1 n2 cap2 : Nat} {ok : Bool} (hY : Wr F w Y)
    (h2 : EvOk F' w' k (.string s1) (.slice ao1 n1 cap1) (.string s2) (.slice ao2 n2 cap2) ok q.2) (h3 : BAt B b F' q.1 w') (h4 : Wr F Y w') (h5 : ∀ k ∈ F', k ∈ F ∨ Y.heap.size ≤ k) (hr : w.heap.size ≤ r) (hrY : At r cs 69 Y) (hrF : r ∉ F) (u0 u1 u2 u3 u4 : Value) (ob : Obj) :
    TakeRes B b F (q.1, q.2, 0) w (.returned (.tuple #[.agg #[.int .i64 k, .string s1, .slice ao1 n1 cap1, .string s2, .slice ao2 n2 cap2], .bool ok, .int .i64 0])) ((((((w'.setCell ⟨r, 0, none⟩ u0).setCell ⟨r, 1, none⟩ u1).setCell ⟨r, 2, none⟩ u2).setCell ⟨r, 3, none⟩ u3).setCell ⟨r, 4, none⟩ u4).alloc ob) := by
  have hlt := lt_of_heap hrY
  have hrF' : r ∉ F' := fun h => by
    rcases h5 r h with h | h
    · exact hrF h
    · omega
  have hr' : At r cs 69 w' := (h4.block r hlt hrF).trans hrY
  have hs := ((Wr.refl [r] w').set5 (r := r) (.inl (by simp)) u0 u1 u2 u3 u4).alloc ob
  exact ⟨F', k, s1, ao1, n1, cap1, s2, ao2, n2, cap2, ok, rfl, evOk_wr hr' hs h2, bat_wr h3 hr' hs hrF', ((hY.trans h4).set5 (.inr hr) u0 u1 u2 u3 u4).alloc ob, fun k hk => (h5 k hk).imp id fun h => Nat.le_trans hY.size h⟩
set_option maxHeartbeats 2000000 in
set_option maxRecDepth 100000 in
theorem take_ok {B b : Nat} {F : List Nat} {S : Bs} {w : World} (k : BAt B b F S w) (hO : BOk S) (hf : S.failed = 0) (t : Tok) (ao : Option Addr) (cp : Nat) (hx : t.text.length ≤ 2000000) (hc : faultN S t = 0) (hr : Row (fun k => k ∉ F) w (.slice ao t.attrs.length cp) t.attrs.length (pairCells t.attrs)) (hbig : t.attrs.length * 32 ≤ 140737488355328)
    (hxs : ∀ e ∈ S.opn, e.text.length + t.text.length ≤ 4611686018427387904) :
    Calls Tryz.prog 31 #[.pointer (some ⟨b, 0, none⟩), .agg #[.int .i64 t.kind, .string ⟨t.nm.toArray⟩, .slice ao t.attrs.length cp, .string ⟨t.text.toArray⟩]] w (TakeRes B b F ((addN S t).1, (addN S t).2, 0) w) := by
  have hlt := k.lt
  have hbF := F_head k
  have K : Hid (BAt B b F S w) := k
  have H1 := fun W hW => fault_any (k.below (w' := W) hW) hO t (.slice ao t.attrs.length cp) hx
  rw [hc] at H1
  have H2 : ∀ W, Wr [b] w W → BAt B b F S W → Calls Tryz.prog 43 #[.pointer (some ⟨b, 0, none⟩), .agg #[.int .i64 t.kind, .string ⟨t.nm.toArray⟩, .slice ao t.attrs.length cp, .string ⟨t.text.toArray⟩]] W (AddRes B b F (addN S t) W) := fun W hW kW => add_any kW hO t hc ao cp (hr.step fun k h1 h2 => ⟨h1, hW.block k h2 (by intro e; rw [List.mem_singleton] at e; exact h1 (e ▸ hbF))⟩) hbig hxs
  obtain ⟨v, xs, bl, h1, h2, _⟩ := k.at_
  obtain ⟨ao', cap', rfl⟩ := owns_shape h2
  obtain ⟨c0, c1, c2, c3, c4, fz⟩ := bldCells h1
  have hb := lt_of_heap h1
  have hbn : ¬ b = w.heap.size := by omega
  have hbn' : ¬ w.heap.size = b := by omega
  have A : Hid (At b _ 86 w) := h1
  have hf' : Hid _ := hf
  rw [hf] at c4
  clear h1 h2 k hf hc hr
  go_enter Tryz.func31, Tryz.ntmps31
  go_wp2_with (go_at_call 42; refine (H1 _ ?_).mono ?_; (exact ((Below.refl _ _).alloc (Nat.le_refl _) _).alloc (by simp) _); rintro e w1 ⟨rfl, hb1⟩; have hz1 := hb1.size; simp at hz1; have hb2 := (((Below.refl w.heap.size w).alloc (Nat.le_refl _) _).alloc (by simp) _).trans (hb1.mono (by simp; omega)); have hcb := fun o => (bcell hb2).1 b o hb; have hfb := fun o => ((bcell hb2).2 b o hb).trans (fz o); obtain ⟨hc1, hf1⟩ := bcell hb1; have hbw : b < w1.heap.size := (by omega); have hrw : w.heap.size + 1 < w1.heap.size := (by omega))
  have z1 : Wr [b] w (w1.setCell ⟨b, 4, none⟩ (.int .i64 0)) := (Wr.of_below (L := [b]) hb2).set b 4 (.int .i64 0) (.inl (by simp))
  have z2 : BAt B b F S (w1.setCell ⟨b, 4, none⟩ (.int .i64 0)) := bat_keep K.out z1 rfl fun v h => by
    have he := h.symm.trans A.out
    simp at he
    subst he
    have := (At.below A.out hb2 hb).set 4 (.int .i64 0)
    rw [hf'.out] at this ⊢
    exact this
  have hne : b ≠ w.heap.size + 1 := by omega
  have z3 : At (w.heap.size + 1) #[.int .i64 0, .string ⟨#[]⟩, .slice none 0 0, .string ⟨#[]⟩, .slice none 0 0] 69 (w1.setCell ⟨b, 4, none⟩ (.int .i64 0)) := by
    have := heap_alloc_new (w.alloc (.cells #[.int .i64 t.kind, .string ⟨t.nm.toArray⟩, .slice ao t.attrs.length cp, .string ⟨t.text.toArray⟩] 73)) (.cells #[.int .i64 0, .string ⟨#[]⟩, .slice none 0 0, .string ⟨#[]⟩, .slice none 0 0] 69)
    simp only [World.size_alloc] at this
    exact At.other ((hb1.block _ (by simp)).trans this) b 4 _ hne.symm
  have hrF : w.heap.size + 1 ∉ F := fun h => by have := (hlt _ h).2; omega
  refine (H2 _ z1 z2).mono ?_
  rintro e w' ⟨F', k', s1, ao1, n1, cap1, s2, ao2, n2, cap2, ok, rfl, e2, e3, e4, e5⟩
  have r1 : At (w.heap.size + 1) #[.int .i64 0, .string ⟨#[]⟩, .slice none 0 0, .string ⟨#[]⟩, .slice none 0 0] 69 w' := (e4.block _ (lt_of_heap z3) hrF).trans z3
  obtain ⟨d0, d1, d2, d3, d4⟩ := ev_cells r1
  have df : ∀ o, w'.frozen? ⟨w.heap.size + 1, o, none⟩ = false := fun o => Lib.frozen_of_heap r1 o
  have hz : w.heap.size + 1 < w'.heap.size := lt_of_heap r1
  have E2 : Hid (EvOk _ _ _ _ _ _ _ _ _) := e2
  have E3 : Hid (BAt _ _ _ _ _) := e3
  have E4 : Hid (Wr _ _ _) := e4
  have R0 : Hid (At _ _ _ _) := z3
  have R1 : Hid (At _ _ _ _) := r1
  have Z1 : Hid (Wr _ _ _) := z1
  have E5 : Hid _ := e5
  clear e2 e3 e4 e5 z1 z2 z3 r1 H1 H2 hcb hfb hc1 hf1 hb1 hb2 c0 c1 c2 c3 c4 fz
  go_wp2_with fail
  obtain ⟨x0, x1, x2, x3, x4⟩ := ev_cells (At.alloc (At.set5 R1.out (.int .i64 k') (.string s1) (.slice ao1 n1 cap1) (.string s2) (.slice ao2 n2 cap2)) (.cells #[.int .i64 k', .string s1, .slice ao1 n1 cap1, .string s2, .slice ao2 n2 cap2] 69))
  exact bodyPost_ret (v := .tuple #[.agg #[.int .i64 k', .string s1, .slice ao1 n1 cap1, .string s2, .slice ao2 n2 cap2], .bool ok, .int .i64 0]) (by simp [results, Tryz.results31, go_sem, x0, x1, x2, x3, x4]) rfl
    (take_put (Wr.mono Z1.out (by simp [hbF])) E2.out E3.out E4.out E5.out (by omega) R0.out hrF _ _ _ _ _ _)
/-- Take at whatever token. -/
theorem takeB_any {B b : Nat} {F : List Nat} {S : Bs} {w : World} (k : BAt B b F S w) (hO : BOk S) (t : Tok) (ao : Option Addr) (cp : Nat) (hx : t.text.length ≤ 2000000) (hr : Row (fun k => k ∉ F) w (.slice ao t.attrs.length cp) t.attrs.length (pairCells t.attrs)) (hbig : t.attrs.length * 32 ≤ 140737488355328)
    (hxs : ∀ e ∈ S.opn, e.text.length + t.text.length ≤ 4611686018427387904) :
    Calls Tryz.prog 31 #[.pointer (some ⟨b, 0, none⟩), .agg #[.int .i64 t.kind, .string ⟨t.nm.toArray⟩, .slice ao t.attrs.length cp, .string ⟨t.text.toArray⟩]] w (TakeRes B b F (takeN S t) w) := by
  unfold takeN
  by_cases hf : S.failed = 0
  · rw [if_pos hf]
    by_cases hc : faultN S t = 0
    · rw [if_pos hc]
      exact take_ok k hO hf t ao cp hx hc hr hbig hxs
    · rw [if_neg hc]
      exact take_fault k hO hf t ao _ cp hx _ rfl hc
  · rw [if_neg hf]
    exact take_stuck k hf _ _ _ _ _ _
end Go.Proofs.YthekdgnikkjpdaaGreatDoor
