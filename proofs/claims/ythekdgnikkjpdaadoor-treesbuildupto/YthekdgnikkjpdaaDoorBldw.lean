/-
  The walk of the statement TreesBuild over this program: the region in which a token is taken, which draws its order.
-/
import Derived.Test.YthekdgnikkjpdaaDoorRfk
import Derived.Test.YthekdgnikkjpdaaDoorReab
import Derived.Deep.RegionHeld3
import Derived.Test.YthekdgnikkjpdaaDoorDeepw
import Derived.Test.YthekdgnikkjpdaaDoorOpnt
import Derived.Test.YthekdgnikkjpdaaDoorRfl
namespace Go.Proofs.YthekdgnikkjpdaaDoor
open Go Go.RowKit
/-- Blocks of events may be written: elements and builders stay. -/
theorem rows_wr34 {F : List Nat} {w w' : World} {L : List Nat} (hL : ∀ r ∈ L, r < w.heap.size → ∃ cs fz, w.heap[r]? = some (.cells cs 34 fz)) (hw : Wr L w w') : ∀ k, Pf F w k → k < w.heap.size → Pf F w' k ∧ w'.heap[k]? = w.heap[k]? := fun k hk hl => by
  have e : w'.heap[k]? = w.heap[k]? := hw.block k hl fun e => by
    obtain ⟨cs, fz, h⟩ := hL k e hl
    exact (hk.2 _ _ _ h).1 rfl
  exact ⟨⟨hk.1, hk.2.same e⟩, e⟩
theorem bat_wr34 {B b : Nat} {F L : List Nat} {S : Bs} {w w' : World} (h : BAt B b F S w) (hL : ∀ r ∈ L, r < w.heap.size → ∃ cs fz, w.heap[r]? = some (.cells cs 34 fz)) (hw : Wr L w w') (hF : ∀ r ∈ L, r ∉ F) : BAt B b F S w' := by
  have hl := h.lt
  obtain ⟨v, xs, bl, h1, h2, h3, h4, h5⟩ := h.at_
  have same : ∀ k ∈ F, w'.heap[k]? = w.heap[k]? := fun k hk => hw.block k (hl k hk).2 fun e => hF k e hk
  refine ⟨h.base, v, xs, bl, (same b (by rw [h4]; simp)).trans h1, owns_same h2 fun k hk => same k (by rw [h4, hk]; simp), h3.step (rows_wr34 hL hw) fun k hk => same k (by rw [h4]; simp [hk]), h4, h5⟩
/-- What is there behind the region: the event in a block of its own, the builder, and what was written. -/
def TkAt (B b : Nat) (F : List Nat) (q : Bs × Option (Int × El) × Int) (wr : World) (x : Nat) (ok : Bool) (W : World) : Prop :=
  ∃ F' kk s1 ao1 n1 cap1 s2 ao2 n2 cap2, EvOk F' W kk (.string s1) (.slice ao1 n1 cap1) (.string s2) (.slice ao2 n2 cap2) ok q.2.1 ∧ At x #[.int .i64 kk, .string s1, .slice ao1 n1 cap1, .string s2, .slice ao2 n2 cap2] 34 W ∧ BAt B b F' q.1 W ∧ Wr F wr W ∧ (∀ k ∈ F', k ∈ F ∨ wr.heap.size ≤ k) ∧ x ∉ F' ∧ wr.heap.size ≤ x
theorem EvOk.step {F F' : List Nat} {w w' : World} {k : Int} {a b c d : Value} {ok : Bool} {o : Option (Int × El)} (h : EvOk F w k a b c d ok o) (hp : ∀ k, Pf F w k → k < w.heap.size → Pf F' w' k ∧ w'.heap[k]? = w.heap[k]?) : EvOk F' w' k a b c d ok o := by
  cases o with
  | none => exact h
  | some p => exact ⟨h.1, h.2.1.step hp, h.2.2⟩
/-- The block is made behind the call. -/
theorem tk_late {B b : Nat} {F : List Nat} {q : Bs × Option (Int × El) × Int} {wr W0 w' : World} {kk : Int} {s1 s2 : ByteArray} {ao1 ao2 : Option Addr} {n1 cap1 n2 cap2 : Nat} {ok : Bool} {F' : List Nat} (h0 : Wr F wr W0)
    (e2 : EvOk F' w' kk (.string s1) (.slice ao1 n1 cap1) (.string s2) (.slice ao2 n2 cap2) ok q.2.1) (e3 : BAt B b F' q.1 w') (e4 : Wr F W0 w') (e5 : ∀ k ∈ F', k ∈ F ∨ W0.heap.size ≤ k) (hs : wr.heap.size ≤ W0.heap.size) :
    TkAt B b F q wr w'.heap.size ok (w'.alloc (.cells #[.int .i64 kk, .string s1, .slice ao1 n1 cap1, .string s2, .slice ao2 n2 cap2] 34)) := by
  have hb : Below w'.heap.size w' (w'.alloc (.cells #[.int .i64 kk, .string s1, .slice ao1 n1 cap1, .string s2, .slice ao2 n2 cap2] 34)) := (Below.refl _ _).alloc (Nat.le_refl _) _
  refine ⟨F', kk, s1, ao1, n1, cap1, s2, ao2, n2, cap2, e2.step (Stp.of_below hb).rows, heap_alloc_new _ _, e3.below hb, (h0.trans e4).alloc _, fun k hk => ?_, fun h => by have := (e3.lt _ h).2; omega, Nat.le_trans hs e4.size⟩
  rcases e5 k hk with h | h
  · exact .inl h
  · exact .inr (Nat.le_trans hs h)
/-- The block is made ahead of the call. -/
theorem tk_early {B b : Nat} {F : List Nat} {q : Bs × Option (Int × El) × Int} {wr W0 w' w7 : World} {kk : Int} {s1 s2 : ByteArray} {ao1 ao2 : Option Addr} {n1 cap1 n2 cap2 : Nat} {ok : Bool} {F' : List Nat} {x : Nat} (h0 : Wr F wr W0) (hx : wr.heap.size = x) (hx0 : W0.heap.size = x + 1) (hat : At x #[.int .i64 0, .string ⟨#[]⟩, .slice none 0 0, .string ⟨#[]⟩, .slice none 0 0] 34 w') (hxF : x ∉ F)
    (e2 : EvOk F' w' kk (.string s1) (.slice ao1 n1 cap1) (.string s2) (.slice ao2 n2 cap2) ok q.2.1) (e3 : BAt B b F' q.1 w') (e4 : Wr F W0 w') (e5 : ∀ k ∈ F', k ∈ F ∨ W0.heap.size ≤ k)
    (hw : w7 = ((((w'.setCell ⟨x, 0, none⟩ (.int .i64 kk)).setCell ⟨x, 1, none⟩ (.string s1)).setCell ⟨x, 2, none⟩ (.slice ao1 n1 cap1)).setCell ⟨x, 3, none⟩ (.string s2)).setCell ⟨x, 4, none⟩ (.slice ao2 n2 cap2)) :
    TkAt B b F q wr x ok w7 := by
  subst hw
  have hxF' : x ∉ F' := fun h => by
    rcases e5 x h with h | h
    · exact hxF h
    · omega
  have hW : Wr [x] w' (((((w'.setCell ⟨x, 0, none⟩ (.int .i64 kk)).setCell ⟨x, 1, none⟩ (.string s1)).setCell ⟨x, 2, none⟩ (.slice ao1 n1 cap1)).setCell ⟨x, 3, none⟩ (.string s2)).setCell ⟨x, 4, none⟩ (.slice ao2 n2 cap2)) := (Wr.refl _ _).set5 (.inl (by simp)) _ _ _ _ _
  have hL : ∀ r ∈ [x], r < w'.heap.size → ∃ cs fz, w'.heap[r]? = some (.cells cs 34 fz) := fun r hr _ => by
    simp at hr
    subst hr
    exact ⟨_, _, hat⟩
  refine ⟨F', kk, s1, ao1, n1, cap1, s2, ao2, n2, cap2, e2.step (rows_wr34 hL hW), hat.set5 _ _ _ _ _, bat_wr34 e3 hL hW (by simpa using hxF'), wr_cat (h0.trans e4) hW (fun k hk => .inr (by simp at hk; omega)), fun k hk => ?_, hxF', by omega⟩
  rcases e5 k hk with h | h
  · exact .inl h
  · exact .inr (by omega)
theorem ev5 {x : Nat} {a b c d e : Value} {w : World} (h : At x #[a, b, c, d, e] 34 w) : w.cell? ⟨x, 0, none⟩ = some a ∧ w.cell? ⟨x, 1, none⟩ = some b ∧ w.cell? ⟨x, 2, none⟩ = some c ∧ w.cell? ⟨x, 3, none⟩ = some d ∧ w.cell? ⟨x, 4, none⟩ = some e := by
  unfold At at h
  refine ⟨?_, ?_, ?_, ?_, ?_⟩ <;> simp [World.cell?, h]
theorem evf {x : Nat} {a b c d e : Value} {w : World} (h : At x #[a, b, c, d, e] 34 w) (o : Nat) : w.frozen? ⟨x, o, none⟩ = false := by
  unfold At at h
  simp [World.frozen?, h]
set_option maxHeartbeats 8000000 in
set_option maxRecDepth 100000 in
theorem reg3b (B b g off N cap j A capa : Nat) (F : List Nat) (q : Bs × Option (Int × El) × Int) (kd : Int) (nb xb : ByteArray) (aoa : Option Addr) (wr : World) (v1 v2 v4 v5 v7 v8 v9 v10 v11 v12 v13 v14 v15 v16 v17 v18 v19 v20 v21 v22 v23 v24 v25 v26 v27 v28 v29 v30 v31 v32 v33 v34 v35 v36 v37 v38 v39 v40 v41 v42 v43 v44 v45 v46 v47 v48 v49 v50 v51 v52 v53 v54 v55 v56 v57 v58 v59 v60 v61 v62 v63 v64 v65 v66 v67 v68 v69 v70 v71 v72 v73 v74 v75 v76 v77 v78 v79 v80 v81 v82 v83 v84 : Value) (t0 : (0 : Int) ≤ (j : Int)) (t1 : (j : Int) < (N : Int)) (hg : g < wr.heap.size) (hgF : g ∉ F) (hF : ∀ k ∈ F, k < wr.heap.size)
    (k0 : wr.cell? ⟨g, off + j * 4, none⟩ = some (.int .i64 kd)) (k1 : wr.cell? ⟨g, off + j * 4 + 1, none⟩ = some (.string nb)) (k2 : wr.cell? ⟨g, off + j * 4 + 2, none⟩ = some (.slice aoa A capa)) (k3 : wr.cell? ⟨g, off + j * 4 + 3, none⟩ = some (.string xb))
    (HT : ∀ W, Below wr.heap.size wr W → Calls Tryd.prog 11 #[.pointer (some ⟨b, 0, none⟩), .agg #[.int .i64 kd, .string nb, .slice aoa A capa, .string xb]] W (TakeRes B b F q W))
    (K : Act → World → Prop) (Q0 : Exit → Act → World → Prop)
    (hK : ∀ (u28 u29 u30 u31 u32 u33 u34 u35 u36 u37 u38 u39 u40 u41 u42 u43 u44 u45 u46 u47 u48 u49 u50 u51 u52 u53 u54 : Value) (x : Nat) (ok : Bool) (w' : World), TkAt B b F q wr x ok w' → K ⟨#[.slice (some ⟨g, off, none⟩) N cap, v1, v2, .pointer (some ⟨b, 0, none⟩), v4, v5, .int .i64 (j : Int), .pointer (some ⟨x, 0, none⟩), .bool ok, .int .i64 q.2.2, v10, v11, v12, v13, v14, v15, v16, v17, v18, v19, v20, v21, v22, v23, v24, v25, v26, v27, u28, u29, u30, u31, u32, u33, u34, u35, u36, u37, u38, u39, u40, u41, u42, u43, u44, u45, u46, u47, u48, u49, u50, u51, u52, u53, u54, v55, v56, v57, v58, v59, v60, v61, v62, v63, v64, v65, v66, v67, v68, v69, v70, v71, v72, v73, v74, v75, v76, v77, v78, v79, v80, v81, v82, v83, v84], []⟩ w') :
    Code.wp Tryd.prog ((Tryd.f3.body.bind (regionOf3 10)).getD .skip) (Exit.then K Q0) ⟨#[.slice (some ⟨g, off, none⟩) N cap, v1, v2, .pointer (some ⟨b, 0, none⟩), v4, v5, .int .i64 (j : Int), v7, v8, v9, v10, v11, v12, v13, v14, v15, v16, v17, v18, v19, v20, v21, v22, v23, v24, v25, v26, v27, v28, v29, v30, v31, v32, v33, v34, v35, v36, v37, v38, v39, v40, v41, v42, v43, v44, v45, v46, v47, v48, v49, v50, v51, v52, v53, v54, v55, v56, v57, v58, v59, v60, v61, v62, v63, v64, v65, v66, v67, v68, v69, v70, v71, v72, v73, v74, v75, v76, v77, v78, v79, v80, v81, v82, v83, v84], []⟩ wr := by
  conv => arg 2; whnf
  have HKK : Hid _ := hK
  have HG : Hid (∀ W w' : World, Wr F W w' → g < W.heap.size → ∀ o, w'.cell? ⟨g, o, none⟩ = W.cell? ⟨g, o, none⟩) := fun W w' h hl o => World.cell?_of_block (w := W) (h.block g hl hgF)
  have HF : Hid _ := hF
  have hxF : Hid (wr.heap.size ∉ F) := fun h => by have := hF _ h; omega
  have hgn : ¬ wr.heap.size = g := by omega
  have hgn' : ¬ g = wr.heap.size := by omega
  clear hK hF
  go_region_held3 (fun W => W.cell? ⟨g, off + j * 4, none⟩ = some (.int .i64 kd) ∧ W.cell? ⟨g, off + j * 4 + 1, none⟩ = some (.string nb) ∧ W.cell? ⟨g, off + j * 4 + 2, none⟩ = some (.slice aoa A capa) ∧ W.cell? ⟨g, off + j * 4 + 3, none⟩ = some (.string xb))
    (first
      | go_keep
      | (go_split_ands
         refine ⟨?_, ?_, ?_, ?_⟩ <;> (first | (rw [hcw]; first | assumption | simp [*]) | simp [hcw, *])))
    (first
      | (go_at_call 11; refine (HT _ ?_).mono ?_; (exact (Below.refl _ wr).drew); rintro e w' ⟨F', kk, s1, ao1, n1, cap1, s2, ao2, n2, cap2, ok, rfl, e2, e3, e4, e5⟩; have hcw := HG.out _ _ e4 hg; have HE2 : Hid (EvOk _ _ _ _ _ _ _ _ _) := e2; have HE3 : Hid (BAt _ _ _ _ _) := e3; have HE4 : Hid (Wr _ _ _) := e4; have HE5 : Hid _ := e5; clear e2 e3 e4 e5)
      | (go_at_call 11; refine (HT _ ?_).mono ?_; (exact ((Below.refl _ wr).drew.alloc (Nat.le_refl _) _)); rintro e w' ⟨F', kk, s1, ao1, n1, cap1, s2, ao2, n2, cap2, ok, rfl, e2, e3, e4, e5⟩; have hcw := HG.out _ _ e4 (by simp; omega); have hat : At wr.heap.size #[.int .i64 0, .string ⟨#[]⟩, .slice none 0 0, .string ⟨#[]⟩, .slice none 0 0] 34 w' := (e4.block wr.heap.size (by simp) hxF.out).trans (heap_alloc_new wr.drew _); have y0 := (ev5 hat).1; have y1 := (ev5 hat).2.1; have y2 := (ev5 hat).2.2.1; have y3 := (ev5 hat).2.2.2.1; have y4 := (ev5 hat).2.2.2.2; have z0 := evf hat 0; have z1 := evf hat 1; have z2 := evf hat 2; have z3 := evf hat 3; have z4 := evf hat 4; have HAT : Hid (At _ _ _ _) := hat; clear hat; have HE2 : Hid (EvOk _ _ _ _ _ _ _ _ _) := e2; have HE3 : Hid (BAt _ _ _ _ _) := e3; have HE4 : Hid (Wr _ _ _) := e4; have HE5 : Hid _ := e5; clear e2 e3 e4 e5))
  · exact HKK.out _ _ _ _ _ _ _ _ _ _ _ _ _ _ _ _ _ _ _ _ _ _ _ _ _ _ _ w'.heap.size ok _ (tk_late (Wr.refl F wr).drew HE2.out HE3.out HE4.out HE5.out (Nat.le_refl _))
  · exact HKK.out _ _ _ _ _ _ _ _ _ _ _ _ _ _ _ _ _ _ _ _ _ _ _ _ _ _ _ wr.heap.size ok _ (tk_early ((Wr.refl F wr).drew.alloc _) rfl (by simp) HAT.out hxF.out HE2.out HE3.out HE4.out HE5.out rfl)
end Go.Proofs.YthekdgnikkjpdaaDoor
/-
  Plain mathematics, of no program: elements and events are bounded; and how a row of events is compared.
-/
namespace Go.Proofs.YthekdgnikkjpdaaDoor
open Go Go.RowKit
/-- Few attributes and kids at every level. -/
def LenA (e : El) : Prop := ∀ n, lenE n e
theorem lenA_say {e : El} (h : LenA e) (s : List UInt8) : LenA (e.say s) := fun n => by
  cases n with
  | zero => trivial
  | succ n => exact h (n + 1)
theorem lenA_put {e k : El} (h : LenA e) (hk : LenA k) (hl : e.kids.length ≤ 1000) : LenA (e.put k) := fun n => by
  cases n with
  | zero => trivial
  | succ n =>
    have h1 := h (n + 1)
    refine ⟨h1.1, by show (e.kids ++ [k]).length ≤ _; rw [List.length_append]; show e.kids.length + 1 ≤ _; omega, fun x hx => ?_⟩
    rcases List.mem_append.1 hx with hx | hx
    · exact h1.2.2 x hx
    · rw [List.mem_singleton] at hx
      subst hx
      exact hk n
theorem lenA_tok {t : Tok} (h : t.attrs.length ≤ 1000000000000) : LenA (elOf t) := fun n => by
  cases n with
  | zero => trivial
  | succ n => exact ⟨h, by simp [elOf], fun x hx => by simp [elOf] at hx⟩
theorem lenA_0 : LenA el0 := fun n => by
  cases n with
  | zero => trivial
  | succ n => exact ⟨by simp [el0], by simp [el0], fun x hx => by simp [el0] at hx⟩
theorem last_mem {l : List El} (h : l ≠ []) : lastE l ∈ l := by
  unfold lastE
  rw [List.getLastD_eq_getLast?, List.getLast?_eq_some_getLast h]
  exact List.getLast_mem h
theorem shut_len {l : List El} (h : ∀ e ∈ l, LenA e) (hk : ∀ e ∈ l, e.kids.length ≤ 16) (hne : l ≠ []) : (∀ e ∈ (shutN l).1, LenA e) ∧ ∀ e, (shutN l).2 = some e → LenA e := by
  unfold shutN
  split
  · exact ⟨fun e he => by simp at he, fun e he => by
      have := Option.some.inj he
      subst this
      exact h _ (last_mem hne)⟩
  · have hd : l.dropLast ≠ [] := fun e => by
      have := congrArg List.length e
      simp at this
      omega
    have hm : lastE l.dropLast ∈ l := (List.dropLast_sublist _).subset (last_mem hd)
    refine ⟨fun e he => ?_, fun e he => by cases he⟩
    rcases List.mem_append.1 he with he | he
    · exact h e ((List.dropLast_sublist _).subset ((List.dropLast_sublist _).subset he))
    · rw [List.mem_singleton] at he
      subst he
      exact lenA_put (h _ hm) (h _ (last_mem hne)) (by have := hk _ hm; omega)
theorem takeN_len (S : Bs) (t : Tok) (hS : ∀ e ∈ S.opn, LenA e) (hok : BOk S) (ht : t.attrs.length ≤ 1000000000000) : (∀ e ∈ (takeN S t).1.opn, LenA e) ∧ ∀ p, (takeN S t).2.1 = some p → LenA p.2 := by
  have nil : ∀ (P : Prop), (∀ e ∈ ([] : List El), LenA e) ∧ ∀ p : Int × El, (none : Option (Int × El)) = some p → LenA p.2 := fun _ => ⟨fun e he => by simp at he, fun p hp => by cases hp⟩
  unfold takeN
  split
  · split
    · show (∀ e ∈ (addN S t).1.opn, LenA e) ∧ ∀ p, (addN S t).2 = some p → LenA p.2
      unfold addN
      split
      · split
        · exact ⟨hS, fun p hp => by have := Option.some.inj hp; subst this; exact lenA_tok ht⟩
        · split
          · exact ⟨fun e he => by rw [List.mem_singleton] at he; subst he; exact lenA_tok ht, fun p hp => by cases hp⟩
          · split
            · exact ⟨hS, fun p hp => by have := Option.some.inj hp; subst this; exact lenA_0⟩
            · exact ⟨hS, fun p hp => by cases hp⟩
      · rename_i hne
        have hne' : S.opn ≠ [] := fun e => hne (by rw [e]; rfl)
        split
        · exact ⟨fun e he => by
            rcases List.mem_append.1 he with he | he
            · exact hS e he
            · rw [List.mem_singleton] at he; subst he; exact lenA_tok ht, fun p hp => by cases hp⟩
        · split
          · exact ⟨fun e he => by
              rcases List.mem_append.1 he with he | he
              · exact hS e ((List.dropLast_sublist _).subset he)
              · rw [List.mem_singleton] at he; subst he; exact lenA_say (hS _ (last_mem hne')) _, fun p hp => by cases hp⟩
          · split
            · obtain ⟨h1, h2⟩ := shut_len hS hok.kids hne'
              refine ⟨h1, fun p hp => ?_⟩
              obtain ⟨e, he, rfl⟩ := Option.map_eq_some_iff.1 hp
              exact h2 e he
            · exact ⟨hS, fun p hp => by cases hp⟩
    · exact nil True
  · exact nil True
theorem elAt_deep {P : Nat → Prop} {w : World} : ∀ {n : Nat} {e : El} {a b c d : Value}, ElAt P w n e a b c d → deepN n e
  | 0, _, _, _, _, _, h => h.elim
  | n + 1, e, _, _, _, _, ⟨_, _, _, xs, _, h5⟩ => by
    have go : ∀ {l : List El} {xs : List Value}, KidsAt (ElAt P w n) l xs → ∀ k ∈ l, deepN n k := by
      intro l
      induction l with
      | nil => intro xs _ k hk; simp at hk
      | cons x r ih =>
        rintro xs ⟨a, b, c, d, ys, _, h1, h2⟩ k hk
        rcases List.mem_cons.1 hk with rfl | hk
        · exact elAt_deep h1
        · exact ih h2 k hk
    exact go h5
theorem evs_deep {P : Nat → Prop} {w : World} : ∀ {l : List (Int × El)} {xs : List Value}, EvCells P w l xs → ∃ n, ∀ p ∈ l, deepN n p.2
  | [], _, _ => ⟨0, fun p hp => by simp at hp⟩
  | q :: r, _, ⟨a, b, c, d, ys, _, ⟨n, h2⟩, h3⟩ => by
    obtain ⟨m, hm⟩ := evs_deep h3
    refine ⟨max n m, fun p hp => ?_⟩
    rcases List.mem_cons.1 hp with rfl | hp
    · exact deepN_mono (by omega) (elAt_deep h2)
    · exact deepN_mono (by omega) (hm p hp)
end Go.Proofs.YthekdgnikkjpdaaDoor
/-
  Plain: a builder behind an error; the statements' few over this program.
-/
namespace Go.Proofs.YthekdgnikkjpdaaDoor
open Go.RowKit
theorem addN_failed (S : Bs) (t : Tok) : (addN S t).1.failed = S.failed := by
  unfold addN
  repeat' split
  all_goals rfl
theorem takeN_failed (S : Bs) (t : Tok) : (takeN S t).1.failed = (takeN S t).2.2 := by
  unfold takeN
  by_cases h : S.failed = 0
  · rw [if_pos h]
    split
    · show (addN S t).1.failed = 0
      rw [addN_failed, h]
    · rfl
  · rw [if_neg h]
theorem takeN_none (S : Bs) (t : Tok) (h : (takeN S t).2.2 ≠ 0) : (takeN S t).2.1 = none := by
  unfold takeN at h ⊢
  by_cases hf : S.failed = 0
  · rw [if_pos hf] at h ⊢
    by_cases hc : faultN S t = 0
    · rw [if_pos hc] at h
      exact absurd rfl h
    · rw [if_neg hc]
  · rw [if_neg hf]
theorem takeN_stuck (S : Bs) (t : Tok) (h : S.failed ≠ 0) : (takeN S t).2.2 = S.failed := by
  unfold takeN
  rw [if_neg h]
theorem depthN_le {S : Bs} (h : BOk S) : 0 ≤ depthN S ∧ depthN S ≤ 5 := by
  have := h.opn
  unfold depthN
  split <;> omega
theorem depthN_failed {S : Bs} (h : S.failed ≠ 0) : depthN S = 0 := by
  unfold depthN
  rw [if_neg fun q => h q.1]
set_option maxRecDepth 100000 in
theorem few_any (ao : Option Addr) (n cap : Nat) (hn : n ≤ cap) (w : World) : Calls Tryd.prog 9 #[.slice ao n cap] w fun e w' => e = .returned (.slice ao (min n 100) cap) ∧ w' = w := by
  have hi : (n : Int) ≤ (cap : Int) := by omega
  have hi0 : (0 : Int) ≤ (n : Int) := Int.natCast_nonneg _
  by_cases h : (100 : Int) < (n : Int)
  · have hc : (100 : Int) ≤ (cap : Int) := by omega
    have e : min n 100 = 100 := by omega
    rw [e]
    clear e
    go_enter Tryd.func9, Tryd.ntmps9
    go_wp2
    go_ret
    exact ⟨by simp; omega, rfl⟩
  · have e : min n 100 = n := by omega
    rw [e]
    clear e
    go_enter Tryd.func9, Tryd.ntmps9
    go_wp2
    go_ret
    exact ⟨by simp; omega, rfl⟩
end Go.Proofs.YthekdgnikkjpdaaDoor
/-
  A row of tokens that a statement is handed: how it lies in memory, and how long its names are.
-/
namespace Go.Proofs.YthekdgnikkjpdaaDoor
open Go Go.ChangeShapes Go.WideShapes Go.ChangeAt Go.RowKit
section
variable {H : Type} {enc : TypeId × Value → H} {P : Program} {w : World} {base : Nat} {sp : Nat → Bool} {held : Bool}
/-- A row of tokens, as an argument's reading has it. -/
theorem open_toks2 {fuel : Nat} {v : Value} {x : DataW H × List MemPlace} (h : DataW.trod enc Tryd.prog w base sp held fuel 22 [v] = some x) :
    ∃ ao cap, ∃ ts : List Tok, v = .slice ao ts.length cap ∧ ts.length ≤ cap ∧ ArgToks w ao ts ∧ ts.length ≤ Rows.uptoBulk x.1 ∧ ∀ t ∈ ts, t.text.length ≤ Rows.uptoBulk x.1 ∧ t.attrs.length ≤ Rows.uptoBulk x.1 ∧ t.nm.length ≤ Rows.uptoBulk x.1 := by
  obtain ⟨ao, n, cap, els, hv, hnc, hn, hx, hall⟩ := open_rows Tryd.underlying22 h
  obtain rfl : v = .slice ao n cap := by simpa using hv
  have hb := bulk_els hx
  have hln := bulk_len els
  have h4 : Tryd.prog.cellsOf 38 = 4 := by kernel_rfl
  have hone : ∀ i, i < n → ∃ t : Tok, ∃ d ad va, els[i]? = some d ∧ t.text.length ≤ Rows.uptoBulk d ∧ t.attrs.length ≤ Rows.uptoBulk d ∧ t.nm.length ≤ Rows.uptoBulk d ∧ ao = some ad ∧ w.cell? (ad.add (i * 4 + 0)) = some (.int .i64 t.kind) ∧ w.cell? (ad.add (i * 4 + 1)) = some (.string ⟨t.nm.toArray⟩) ∧ w.cell? (ad.add (i * 4 + 2)) = some va ∧ w.cell? (ad.add (i * 4 + 3)) = some (.string ⟨t.text.toArray⟩) ∧ Row (fun k => k < w.heap.size) w va t.attrs.length (pairCells t.attrs) := fun i hi => by
    obtain ⟨d, hd⟩ : ∃ d, els[i]? = some d := ⟨_, List.getElem?_eq_getElem (by omega)⟩
    obtain ⟨ad, c1, m, q, e1, e2, e3, e4⟩ := hall i d hd
    rw [h4] at e2 e3
    obtain ⟨k, a, va, b, dA, m', q', rfl, r2, r3⟩ := open_quad Tryd.underlying38 rfl h4 Tryd.underlying3 (by kernel_rfl) Tryd.underlying9 (by kernel_rfl) (by kernel_rfl) ⟨rfl, rfl⟩ ⟨rfl, rfl⟩ ⟨rfl, rfl⟩ ⟨rfl, rfl⟩ e4
    obtain ⟨l, hl1, hl2, _⟩ := open_attrs r3
    have r2' : d = .agg [.lit (.int .i64 k), .lit (.string a.data.toList), dA, .lit (.string b.data.toList)] := r2
    have hl2' : l.length ≤ Rows.uptoBulk dA := hl2
    refine ⟨⟨k, a.data.toList, l, b.data.toList⟩, d, ad, va, hd, ?_, ?_, ?_, e1, e3 0 _ rfl, e3 1 _ rfl, e3 2 _ rfl, e3 3 _ rfl, hl1⟩
    · show b.data.toList.length ≤ _
      rw [r2']
      simp only [Rows.uptoBulk, Rows.uptoBulkAll]
      omega
    · show l.length ≤ _
      rw [r2']
      simp only [Rows.uptoBulk, Rows.uptoBulkAll]
      omega
    · show a.data.toList.length ≤ _
      rw [r2']
      simp only [Rows.uptoBulk, Rows.uptoBulkAll]
      omega
  obtain ⟨ts, hl, hQ⟩ := list_of _ n hone
  subst hl
  refine ⟨ao, cap, ts, rfl, hnc, fun i t ht => ?_, by omega, fun t ht => ?_⟩
  · obtain ⟨d, ad, va, q1, _, _, _, rfl, k0, k1, k2, k3, kr⟩ := hQ i t ht
    have hs : ad.spot = none := by
      have hi := (List.getElem?_eq_some_iff.1 ht).1
      obtain ⟨t0, _, ad0, _, _, _, _, _, q3, q4, _⟩ := hone 0 (by omega)
      obtain rfl := Option.some.inj q3
      exact spot_of_cell q4
    rw [add_flat hs] at k0 k1 k2 k3
    obtain ⟨g, off, s⟩ := ad
    simp only at hs k0 k1 k2 k3
    subst hs
    exact ⟨g, off, va, rfl, lt_of_cell k1, by simpa [Nat.add_assoc] using k0, by simpa [Nat.add_assoc] using k1, by simpa [Nat.add_assoc] using k2, by simpa [Nat.add_assoc] using k3, kr⟩
  · obtain ⟨j, hj⟩ := List.mem_iff_getElem?.1 ht
    obtain ⟨d, ad, va, q1, q2, q3, q5, _⟩ := hQ j t hj
    have := bulk_mem (List.mem_of_getElem? q1)
    omega
end
end Go.Proofs.YthekdgnikkjpdaaDoor
/-
  The walk of the statement TreesBuild over this program: for every row of tokens, each of a bounded size, it returns true.
-/
namespace Go.Proofs.YthekdgnikkjpdaaDoor
open Go Go.RowKit
theorem ArgToks.below {w w' : World} {ao : Option Addr} {ts : List Tok} (h : ArgToks w ao ts) (hb : Below w.heap.size w w') : ArgToks w' ao ts := fun i t ht => by
  obtain ⟨g, off, va, e, hg, k0, k1, k2, k3, hr⟩ := h i t ht
  have hc : ∀ o, w'.cell? ⟨g, o, none⟩ = w.cell? ⟨g, o, none⟩ := fun o => World.cell?_of_block (w := w) (hb.block g hg)
  exact ⟨g, off, va, e, Nat.lt_of_lt_of_le hg hb.size, (hc _).trans k0, (hc _).trans k1, (hc _).trans k2, (hc _).trans k3, hr.step fun k hk hl => ⟨Nat.lt_of_lt_of_le hk hb.size, hb.block k hl⟩⟩
set_option maxHeartbeats 8000000 in
set_option maxRecDepth 100000 in
theorem build_walk (ao : Option Addr) (cap : Nat) (ts : List Tok) (w : World) (hT : Tabs w) (hcap : ts.length ≤ cap) (hA : ArgToks w ao ts) (htk : ∀ t ∈ ts, t.text.length ≤ 2000000 ∧ t.attrs.length ≤ 2000000 ∧ t.nm.length ≤ 2000000) :
    Calls Tryd.prog 3 #[.slice ao ts.length cap] w fun e w' => e = .returned (.bool true) ∧ Below w.heap.size w w' := by
  have H0 := livesT_any w hT
  obtain ⟨i0, hi, hz0, hz1, hz2⟩ := info_parts info40
  obtain ⟨us, hus⟩ : ∃ us, ts.take 100 = us := ⟨_, rfl⟩
  have hul : us.length = min ts.length 100 := by rw [← hus, List.length_take, Nat.min_comm]
  have hul' : us.length ≤ 100 := by omega
  have HA : Hid (ArgToks w ao us) := by rw [← hus]; exact hA.take 100
  have HTK : Hid (∀ t ∈ us, t.text.length ≤ 2000000 ∧ t.attrs.length ≤ 2000000 ∧ t.nm.length ≤ 2000000) := fun t ht => htk t (by rw [← hus] at ht; exact List.mem_of_mem_take ht)
  have HF : ∀ W, Calls Tryd.prog 9 #[.slice ao ts.length cap] W fun e w' => e = .returned (.slice ao us.length cap) ∧ w' = W := fun W => by rw [hul]; exact few_any ao ts.length cap hcap W
  obtain ⟨N, hN⟩ : ∃ N, us.length = N := ⟨_, rfl⟩
  have HN : Hid _ := hN
  rw [hN] at hul' HF
  clear htk hA hus hul hN
  go_enter Tryd.func3, Tryd.ntmps3
  go_wp2_with (first | (go_at_call 8; refine H0.mono ?_; rintro e w1 ⟨rfl, hb1⟩) | (go_at_call 9; refine (HF _).mono ?_; rintro e w' ⟨rfl, hw⟩; rw [hw]) | (go_at_call 10; refine (newB_any _).mono ?_; rintro e w' ⟨rfl, hw⟩; rw [hw]))
  have hbld : At w1.heap.size #[.int .i64 0, .string ⟨#[]⟩, .slice none 0 0, .int .i64 0, .int .i64 0] 59 (w1.alloc (.cells #[.int .i64 0, .string ⟨#[]⟩, .slice none 0 0, .int .i64 0, .int .i64 0] 59)) := heap_alloc_new _ _
  have hK3 : BAt w.heap.size w1.heap.size [w1.heap.size] bs0 (w1.alloc (.cells #[.int .i64 0, .string ⟨#[]⟩, .slice none 0 0, .int .i64 0, .int .i64 0] 59)) := bat_none hb1.size rfl hbld
  have hB3 : Below w.heap.size w (w1.alloc (.cells #[.int .i64 0, .string ⟨#[]⟩, .slice none 0 0, .int .i64 0, .int .i64 0] 59)) := hb1.alloc hb1.size _
  have hbB : w.heap.size ≤ w1.heap.size := hb1.size
  have hbw := lt_of_heap hbld
  generalize w1.alloc (.cells #[.int .i64 0, .string ⟨#[]⟩, .slice none 0 0, .int .i64 0, .int .i64 0] 59) = w3 at *
  generalize w1.heap.size = b at *
  have HB3 : Hid (Below _ _ _) := hB3
  have HK3 : Hid (BAt _ _ _ _ _) := hK3
  clear H0 HF hbld hK3 hB3 hb1 hT
  go_loopw [4, 5, 6, 7, 8, 9] (fun v f i _ _ _ wr => ∃ (j : Nat) (S : Bs) (evs : List (Int × El)) (F : List Nat) (ao' : Option Addr) (cap' : Nat) (xs : List Value), j ≤ N ∧ i = .int .i64 (j : Int) ∧ v = .slice ao' evs.length cap' ∧ f = .int .i64 S.failed ∧ (S.failed = 0 → soFar us j S evs) ∧ (S.failed ≠ 0 → runB bs0 us = (S, evs, S.failed)) ∧ BOk2 S ∧ textsLe S (j * 2000000) ∧ (∀ e ∈ S.opn, LenA e) ∧ (∀ p ∈ evs, LenA p.2) ∧ evs.length ≤ j ∧
      BAt w.heap.size b F S wr ∧ wr.ownsRow w3.heap.size 40 5 (.slice ao' evs.length cap') evs.length xs ∧ EvCells (Pf F wr) wr evs xs ∧ (∀ k, (Value.slice ao' evs.length cap').ownBlock = some k → k ∉ F) ∧ Wr [b] w3 wr ∧ ∀ k ∈ F, k = b ∨ w3.heap.size ≤ k) (fun _ _ i _ _ _ _ => N - (intOf i).toNat)
  case atStart => exact ⟨0, bs0, [], [b], none, 0, [], Nat.zero_le _, rfl, rfl, rfl, fun _ => soFar0 us, fun h => absurd rfl h, bok20, by simp [textsLe, bs0], by simp [bs0], by simp, Nat.le_refl _, HK3.out, World.ownsRow_nil _ _ _ _, rfl, fun k hk => by simp [Value.ownBlock] at hk, Wr.refl _ _, by simp⟩
  case round =>
    obtain ⟨j, S, evs, F, ao', cap', xs, hj, rfl, rfl, rfl, hso, hsf, hok, htx, hln, hle, hel, hB, hown, hev, hnF, hW, hFn⟩ := hrel
    have hwz := hW.size
    have hB3z := HB3.out.size
    have HSO : Hid _ := hso
    have HSF : Hid _ := hsf
    have HOK : Hid (BOk2 S) := hok
    have HTX : Hid (textsLe _ _) := htx
    have HLN : Hid _ := hln
    have HLE : Hid _ := hle
    have HBT : Hid (BAt _ _ _ _ _) := hB
    have HOW : Hid (World.ownsRow _ _ _ _ _ _ _) := hown
    have HEV : Hid (EvCells _ _ _ _) := hev
    have HNF : Hid _ := hnF
    have HWR : Hid (Wr _ _ _) := hW
    have HFN : Hid _ := hFn
    have hbelow : Below w.heap.size w wr := HB3.out.trans (hW.below (by omega) (by simp; omega))
    have HBE : Hid (Below w.heap.size w wr) := hbelow
    obtain ⟨L, hL⟩ : ∃ L, evs.length = L := ⟨_, rfl⟩
    have HL : Hid _ := hL
    rw [hL] at hel ⊢
    clear hso hsf hok htx hln hle hB hown hev hnF hW hFn hbelow hL
    by_cases hgo : j < N ∧ S.failed = 0
    · obtain ⟨hlt, hf0⟩ := hgo
      obtain ⟨t, ht⟩ : ∃ t, us[j]? = some t := ⟨_, List.getElem?_eq_getElem (by rw [HN.out]; exact hlt)⟩
      have htt := HTK.out t (List.mem_of_getElem? ht)
      obtain ⟨g, off, va, rfl, hg, k0, k1, k2, k3, hrow0⟩ := HA.out j t ht
      have hcell : ∀ o, wr.cell? ⟨g, o, none⟩ = w.cell? ⟨g, o, none⟩ := fun o => World.cell?_of_block (w := w) (HBE.out.block g hg)
      have hrow : Row (fun k => k ∉ F) wr va t.attrs.length (pairCells t.attrs) := hrow0.step fun k hk _ => ⟨fun hf => by rcases HFN.out k hf with h | h <;> omega, HBE.out.block k hk⟩
      obtain ⟨aoa, capa, rfl, _⟩ := hrow0
      rw [← hcell] at k0 k1 k2 k3
      have hgr : g < wr.heap.size := by omega
      have hgF : g ∉ F := fun hf => by rcases HFN.out g hf with h | h <;> omega
      have hFl : ∀ k ∈ F, k < wr.heap.size := fun k hk => (HBT.out.lt k hk).2
      have HT11 : ∀ W, Below wr.heap.size wr W → Calls Tryd.prog 11 #[.pointer (some ⟨b, 0, none⟩), .agg #[.int .i64 t.kind, .string ⟨t.nm.toArray⟩, .slice aoa t.attrs.length capa, .string ⟨t.text.toArray⟩]] W (TakeRes w.heap.size b F (takeN S t) W) := fun W hb => takeB_any (BAt.below HBT.out hb) HOK.out.1 t aoa capa htt.1 (hrow.step (row_below hb)) (by omega) (fun e he => by have := HTX.out e he; omega)
      have hok2 := takeN_ok S t HOK.out
      have htx2 := takeN_text S t _ HTX.out
      have hfa := takeN_failed S t
      have hno := takeN_none S t
      have hlen2 := takeN_len S t HLN.out HOK.out.1 (by omega)
      have hst1 : Hid (∀ (h : (takeN S t).2.2 = 0), soFar us (j + 1) (takeN S t).1 (evs ++ (takeN S t).2.1.toList)) := fun h => soFar_step (HSO.out hf0) ht h
      have hst2 : Hid (∀ (h : (takeN S t).2.2 ≠ 0), runB bs0 us = ((takeN S t).1, evs, (takeN S t).2.2)) := fun h => soFar_err (HSO.out hf0) ht h
      obtain ⟨⟨S', o, f⟩, hTk⟩ : ∃ q, takeN S t = q := ⟨_, rfl⟩
      rw [hTk] at HT11 hok2 htx2 hfa hno hst1 hst2 hlen2
      simp only at hok2 htx2 hfa hno hst1 hst2 hlen2
      have hi0 : (0 : Int) ≤ (j : Int) := Int.natCast_nonneg _
      have hi1 : (j : Int) < (N : Int) := by omega
      have HOK2 : Hid (BOk2 S') := hok2
      have HTX2 : Hid (textsLe S' ((j + 1) * 2000000)) := fun e he => by have := htx2 e he; omega
      have HFA : Hid _ := hfa
      have HNO : Hid _ := hno
      have HLN2 : Hid _ := hlen2
      rw [hf0]
      clear hok2 htx2 hfa hno hlen2 hrow hcell hTk ht
      go_wp2_with fail
      refine reg3b w.heap.size b g off N cap j _ _ F _ _ _ _ _ wr _ _ _ _ _ _ _ _ _ _ _ _ _ _ _ _ _ _ _ _ _ _ _ _ _ _ _ _ _ _ _ _ _ _ _ _ _ _ _ _ _ _ _ _ _ _ _ _ _ _ _ _ _ _ _ _ _ _ _ _ _ _ _ _ _ _ _ _ _ _ _ _ _ _ _ _ _ _ _ _ _ _ hi0 hi1 hgr hgF hFl k0 k1 k2 k3 HT11 _ _ (fun u28 u29 u30 u31 u32 u33 u34 u35 u36 u37 u38 u39 u40 u41 u42 u43 u44 u45 u46 u47 u48 u49 u50 u51 u52 u53 u54 x ok w' h7 => ?_)
      obtain ⟨F', kk, s1, ao1, n1, cap1, s2, ao2, n2, cap2, e2, hat, e3, e4, e5, hxF, hxw⟩ := h7
      have hW' : Wr [b] w3 w' := wr_cat HWR.out e4 fun x hx => by rcases HFN.out x hx with h | h; (exact .inl (by simp [h])); exact .inr h
      have hown' : w'.ownsRow w3.heap.size 40 5 (.slice ao' L cap') L xs := by rw [← HL.out]; exact owns_same HOW.out fun k hk => e4.block k (World.ownsRow.lt HOW.out k hk).2 (HNF.out k hk)
      have hev' := EvCells.step (e4.stp e5).rows HEV.out
      have hFn' : ∀ k ∈ F', k = b ∨ w3.heap.size ≤ k := fun k hk => by
        rcases e5 k hk with h | h
        · exact HFN.out k h
        · exact .inr (Nat.le_trans hwz h)
      have hnF' : ∀ k, (Value.slice ao' L cap').ownBlock = some k → k ∉ F' := fun k hk h => by
        rw [← HL.out] at hk
        rcases e5 k h with h | h
        · exact HNF.out k hk h
        · have := (World.ownsRow.lt HOW.out k hk).2
          omega
      have hz' := e4.size
      have y0 := (ev5 hat).1
      have y1 := (ev5 hat).2.1
      have y2 := (ev5 hat).2.2.1
      have y3 := (ev5 hat).2.2.2.1
      have y4 := (ev5 hat).2.2.2.2
      have HOW1 : Hid (World.ownsRow _ _ _ _ _ _ _) := hown'
      have HEV1 : Hid (EvCells _ _ _ _) := hev'
      have HWP : Hid (Wr _ _ _) := hW'
      have E2 : Hid (EvOk _ _ _ _ _ _ _ _ _) := e2
      have E3 : Hid (BAt _ _ _ _ _) := e3
      have HNF1 : Hid _ := hnF'
      have HFN1 : Hid _ := hFn'
      clear e2 e3 e4 e5 hown' hev' hW' hnF' hFn' hat HT11 k0 k1 k2 k3
      simp only at E2
      cases o with
      | none =>
        obtain ⟨rfl, o1, o2, o3, o4, rfl⟩ := E2.out
        cases o1
        cases o2
        cases o3
        cases o4
        go_wp2_with fail
        go_roundw
        case rel =>
          refine ⟨j + 1, S', evs, F', ao', cap', xs, by omega, by go_num, by rw [HL.out], by rw [HFA.out], fun h => ?_, fun h => ?_, HOK2.out, HTX2.out, HLN2.out.1, HLE.out, by rw [HL.out]; omega, E3.out, by rw [HL.out]; exact HOW1.out, HEV1.out, by rw [HL.out]; exact HNF1.out, HWP.out, HFN1.out⟩
          · have := hst1.out (by rw [← HFA.out]; exact h)
            simpa using this
          · have := hst2.out (by rw [← HFA.out]; exact h)
            rw [HFA.out]
            exact this
        case measure => simp [intOf]; omega
      | some p =>
        obtain ⟨kp, el⟩ := p
        obtain ⟨rfl, hEl, rfl⟩ := E2.out
        have hf : f = 0 := Classical.byContradiction fun h => by have := HNO.out h; cases this
        subst hf
        have HEL : Hid (ElE _ _ _ _ _ _ _) := hEl
        clear hEl
        go_wp2_with (at_builtin; refine wpList_append_own_at _ rfl (.tmp 57) (.tmp 63) 27 rfl w3.heap.size 40 i0 _ 5 88 Tryd.underlying27 hi hz0 hz1 hz2 rfl (by decide) _ L xs rfl (World.ownsRow.alloc HOW1.out _) ⟨w'.heap.size, 0, none⟩ 1 1 [.int .i64 kk, .string s1, .slice ao1 n1 cap1, .string s2, .slice ao2 n2 cap2] rfl rfl (World.news_of_block (cs := #[.int .i64 kk, .string s1, .slice ao1 n1 cap1, .string s2, .slice ao2 n2 cap2]) (t := 40) (fr := (0, 0)) (heap_alloc_new w' _)) evs_one ?c3 ?c4 ?c5 ?_)
        case c3 => unfold maxLen; omega
        case c4 => omega
        case c5 => (try simp); omega
        intro v1 w4 hown4 hgrow4 _ hloc
        obtain ⟨aoN, capN, rfl⟩ := owns_shape hown4
        have al : Below w'.heap.size w' (w'.alloc (.cells #[.int .i64 kk, .string s1, .slice ao1 n1 cap1, .string s2, .slice ao2 n2 cap2] 40)) := (Below.refl _ _).alloc (Nat.le_refl _) _
        have hoZ := owns_below HOW1.out al
        have hL4 : ∀ r ∈ (Value.slice ao' L cap').ownBlock.toList, r < (w'.alloc (.cells #[.int .i64 kk, .string s1, .slice ao1 n1 cap1, .string s2, .slice ao2 n2 cap2] 40)).heap.size → ∃ cs fz, (w'.alloc (.cells #[.int .i64 kk, .string s1, .slice ao1 n1 cap1, .string s2, .slice ao2 n2 cap2] 40)).heap[r]? = some (.cells cs 40 fz) := fun r hr _ => by
          have hr' : (Value.slice ao' L cap').ownBlock = some r := by simpa using hr
          rcases hoZ.2 with ⟨q1, _⟩ | ⟨g, cp, cur, q1, _, q3, _⟩
          · rw [q1] at hr'; simp [Value.ownBlock] at hr'
          · rw [q1] at hr'; simp [Value.ownBlock] at hr'; subst hr'; exact ⟨_, _, q3⟩
        have hw4 : Wr (Value.slice ao' L cap').ownBlock.toList (w'.alloc (.cells #[.int .i64 kk, .string s1, .slice ao1 n1 cap1, .string s2, .slice ao2 n2 cap2] 40)) w4 := (Wr.refl _ _).grown hgrow4 fun k hk => .inl (by simp [hk])
        have B4 : Hid (BAt w.heap.size b F' S' w4) := bat_wr40 (BAt.below E3.out al) hL4 hw4 fun r hr => HNF1.out r (by simpa using hr)
        have EV4 : Hid (EvCells (Pf F' w4) w4 evs xs) := EvCells.step (rows_wr40 hL4 hw4) (EvCells.step (Stp.of_below al).rows HEV1.out)
        have EL4 : Hid (ElE (Pf F' w4) w4 el (.string s1) (.slice ao1 n1 cap1) (.string s2) (.slice ao2 n2 cap2)) := (HEL.out.step (Stp.of_below al).rows).step (rows_wr40 hL4 hw4)
        have W4 : Hid (Wr [b] w3 w4) := wr_cat (wr_cat HWP.out (Wr.of_below (L := []) al) (by simp)) hw4 fun x hx => .inr (by have := (hoZ.lt x (by simpa using hx)).1; exact this)
        have HLF : Hid (∀ k, (Value.slice aoN (L + 1) capN).ownBlock = some k → k ∉ F') := fun k hk hf => by
          rcases hloc with h | h
          · exact HNF1.out k (h.symm.trans hk) hf
          · have e := Option.some.inj (h.symm.trans hk)
            have h1 := (BAt.lt E3.out k hf).2
            (try simp at e)
            omega
        have HO4 : Hid (World.ownsRow _ _ _ _ _ _ _) := hown4
        clear hown4 hgrow4 hloc hoZ hL4 hw4 al
        go_wp2_with fail
        go_roundw
        case rel =>
          refine ⟨j + 1, S', evs ++ [(kk, el)], F', aoN, capN, _, by omega, by go_num, by rw [List.length_append, HL.out]; rfl, by rw [HFA.out], fun h => ?_, fun h => absurd HFA.out h, HOK2.out, HTX2.out, HLN2.out.1, fun p hp => ?_, by rw [List.length_append, HL.out]; simp; omega, B4.out, by rw [List.length_append, HL.out]; exact HO4.out, EvCells.app EV4.out ⟨_, _, _, _, [], rfl, EL4.out, rfl⟩, by rw [List.length_append, HL.out]; exact HLF.out, W4.out, HFN1.out⟩
          · first | exact hst1.out rfl | exact hst1.out trivial
          · rcases List.mem_append.1 hp with hp | hp
            · exact HLE.out p hp
            · rw [List.mem_singleton] at hp
              subst hp
              exact HLN2.out.2 _ rfl
        case measure => simp [intOf]; omega
    · have hfin : runB bs0 us = (S, evs, S.failed) := by
        by_cases hs : S.failed = 0
        · have hjn : j = us.length := by rw [HN.out]; omega
          have h := HSO.out hs
          rw [hjn] at h
          rw [hs]
          exact soFar_end h
        · exact HSF.out hs
      have hrd : runD rs0 us = (evs, S.failed, depthN S) := by rw [build_eq us bok20, hfin]
      have hbd := HOK.out.1.failed
      have hDP := (depthN_le HOK.out.1)
      have HRD : ∀ W, Below wr.heap.size wr W → Calls Tryd.prog 12 #[.slice ao N cap] W (RdRes W evs S.failed (depthN S)) := fun W hb => by
        have h := readD_any ao cap us W (ArgToks.below (ArgToks.below HA.out HBE.out) hb) HTK.out (by rw [HN.out]; exact hul') evs S.failed (depthN S) hrd
        rw [HN.out] at h
        exact h
      have hD := fun W hb => depth_any w.heap.size b F S W (BAt.below HBT.out hb) HOK.out.1.opn
      obtain ⟨fl, hfl⟩ : ∃ fl, S.failed = fl := ⟨_, rfl⟩
      obtain ⟨dn, hdn⟩ : ∃ dn, depthN S = dn := ⟨_, rfl⟩
      simp only [hfl, hdn] at HRD hD
      rw [hfl] at hgo ⊢
      have hstop : ¬ (j : Int) < (N : Int) ∨ ¬ fl = 0 := by
        rcases Classical.em (j < N) with h | h
        · exact .inr fun e => hgo ⟨h, e⟩
        · exact .inl (by omega)
      clear hfin hrd hbd hgo hfl hdn hDP
      have hend := HEV.out
      obtain ⟨nd, hnd⟩ := evs_deep hend
      have HSE : ∀ (W : World) (aoy : Option Addr) (cy : Nat) (ys : List Value), Below wr.heap.size wr W → W.ownsRow wr.heap.size 40 5 (.slice aoy L cy) evs.length ys → EvCells (fun _ => True) W evs ys → Calls Tryd.prog 13 #[.slice ao' L cap', .slice aoy L cy] W fun e w' => e = .returned (.bool true) ∧ Below W.heap.size W w' := fun W aoy cy ys hb ho he => by
        have h1 := owns_below HOW.out hb
        rw [← HL.out] at ho ⊢
        exact sameEvs_eq evs nd ao' aoy cap' cy xs ys W (fun p hp => ⟨hnd p hp, HLE.out p hp nd⟩) (by rw [HL.out]; omega) (row_owns (P := fun _ => True) h1 (fun _ _ => trivial)) (row_owns (P := fun _ => True) ho (fun _ _ => trivial)) (HEV.out.step fun k hk hl => ⟨hk, hb.block k hl⟩) he
      have HND : Hid _ := hnd
      clear hend hnd
      by_cases hjl : (j : Int) < (N : Int)
      · have hfl0 : (fl == 0) = false := by
          rcases hstop with h | h
          · exact absurd hjl h
          · simpa using h
        clear hstop
        go_wp2_with (first
          | (go_at_call 12; refine (HRD _ (Below.refl _ _)).mono ?_; rintro e w5 ⟨ao5, n5, cap5, ys, rfl, ho5, hev5, hb5'⟩; obtain rfl := owns_n ho5; rw [HL.out] at ho5 ⊢; have hb5 : Below wr.heap.size wr w5 := hb5'; have HO5 : Hid (World.ownsRow _ _ _ _ _ _ _) := ho5; have HE5 : Hid (EvCells _ _ _ _) := hev5; have HB5 : Hid (Below wr.heap.size wr w5) := hb5; clear ho5 hev5 hb5' hb5)
          | (go_at_call 13; refine (HSE _ _ _ ys HB5.out (by rw [HL.out]; exact HO5.out) HE5.out).mono ?_; rintro e w6 ⟨rfl, hb6'⟩; have HB6 : Hid (Below wr.heap.size wr w6) := Below.trans HB5.out (hb6'.mono (Below.size HB5.out)); clear hb6')
          | (go_at_call 14; refine (hD _ HB6.out).mono ?_; rintro e w'' ⟨rfl, hw⟩; rw [hw]))
        go_ret
        exact ⟨rfl, HBE.out.trans (Below.mono HB6.out (Below.size HBE.out))⟩
      · clear hstop
        go_wp2_with (first
          | (go_at_call 12; refine (HRD _ (Below.refl _ _)).mono ?_; rintro e w5 ⟨ao5, n5, cap5, ys, rfl, ho5, hev5, hb5'⟩; obtain rfl := owns_n ho5; rw [HL.out] at ho5 ⊢; have hb5 : Below wr.heap.size wr w5 := hb5'; have HO5 : Hid (World.ownsRow _ _ _ _ _ _ _) := ho5; have HE5 : Hid (EvCells _ _ _ _) := hev5; have HB5 : Hid (Below wr.heap.size wr w5) := hb5; clear ho5 hev5 hb5' hb5)
          | (go_at_call 13; refine (HSE _ _ _ ys HB5.out (by rw [HL.out]; exact HO5.out) HE5.out).mono ?_; rintro e w6 ⟨rfl, hb6'⟩; have HB6 : Hid (Below wr.heap.size wr w6) := Below.trans HB5.out (hb6'.mono (Below.size HB5.out)); clear hb6')
          | (go_at_call 14; refine (hD _ HB6.out).mono ?_; rintro e w'' ⟨rfl, hw⟩; rw [hw]))
        go_ret
        exact ⟨rfl, HBE.out.trans (Below.mono HB6.out (Below.size HBE.out))⟩
end Go.Proofs.YthekdgnikkjpdaaDoor
