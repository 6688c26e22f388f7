/-
  The contracts of (*trees.Builder).add and Take over this program: for every builder that was made and has taken, and every token whose texts are of at most 2000000 bytes.
-/
import Derived.Test.YthekdgnikkjpdaaGreatDoorBelf
import Derived.Test.YthekdgnikkjpdaaGreatDoorBelj
namespace Go.Proofs.YthekdgnikkjpdaaGreatDoor
open Go.RowKit
theorem rows_wr {F : List Nat} {r : Nat} {cs : Array Value} {w w' : World} (hr : At r cs 69 w) (hw : Wr [r] w w') : ∀ k, Pf F w k → k < w.heap.size → Pf F w' k ∧ w'.heap[k]? = w.heap[k]? := fun k hk hl => by
  have e : w'.heap[k]? = w.heap[k]? := hw.block k hl fun e => by
    rw [List.mem_singleton] at e
    subst e
    exact (hk.2 _ _ _ hr).1 rfl
  exact ⟨⟨hk.1, hk.2.same e⟩, e⟩
theorem bat_wr {B b r : Nat} {F : List Nat} {S : Bs} {cs : Array Value} {w w' : World} (h : BAt B b F S w) (hr : At r cs 69 w) (hw : Wr [r] w w') (hF : r ∉ F) : BAt B b F S w' := by
  have hl := h.lt
  obtain ⟨v, xs, bl, h1, h2, h3, h4, h5⟩ := h.at_
  have same : ∀ k ∈ F, w'.heap[k]? = w.heap[k]? := fun k hk => hw.block k (hl k hk).2 fun e => by
    rw [List.mem_singleton] at e
    exact hF (e ▸ hk)
  refine ⟨h.base, v, xs, bl, (same b (by rw [h4]; simp)).trans h1, owns_same h2 fun k hk => same k (by rw [h4, hk]; simp), h3.step (rows_wr hr hw) fun k hk => same k (by rw [h4]; simp [hk]), h4, h5⟩
theorem evOk_wr {F : List Nat} {r : Nat} {cs : Array Value} {w w' : World} {k : Int} {a b c d : Value} {ok : Bool} (hr : At r cs 69 w) (hw : Wr [r] w w') : ∀ {o : Option (Int × El)}, EvOk F w k a b c d ok o → EvOk F w' k a b c d ok o
  | none, h => h
  | some (_, _), ⟨h1, h2, h3⟩ => ⟨h1, h2.step (rows_wr hr hw), h3⟩
/-- The call's result, put into a block of the caller's own. -/
theorem addRes_put {B b : Nat} {F F' : List Nat} {q : Bs × Option (Int × El)} {w Y w' : World} {r : Nat} {cs : Array Value} {k : Int} {s1 s2 : ByteArray} {ao1 ao2 : Option Addr} {n1 cap1 n2 cap2 : Nat} {ok : Bool} (hY : Wr F w Y)
    (h2 : EvOk F' w' k (.string s1) (.slice ao1 n1 cap1) (.string s2) (.slice ao2 n2 cap2) ok q.2) (h3 : BAt B b F' q.1 w') (h4 : Wr F Y w') (h5 : ∀ k ∈ F', k ∈ F ∨ Y.heap.size ≤ k) (hr : w.heap.size ≤ r) (hrY : At r cs 69 Y) (hrF : r ∉ F) (u0 u1 u2 u3 u4 : Value) :
    AddRes B b F q w (.returned (.tuple #[.agg #[.int .i64 k, .string s1, .slice ao1 n1 cap1, .string s2, .slice ao2 n2 cap2], .bool ok])) (((((w'.setCell ⟨r, 0, none⟩ u0).setCell ⟨r, 1, none⟩ u1).setCell ⟨r, 2, none⟩ u2).setCell ⟨r, 3, none⟩ u3).setCell ⟨r, 4, none⟩ u4) := by
  have hlt := lt_of_heap hrY
  have hrF' : r ∉ F' := fun h => by
    rcases h5 r h with h | h
    · exact hrF h
    · omega
  have hr' : At r cs 69 w' := (h4.block r hlt hrF).trans hrY
  have hs := (Wr.refl [r] w').set5 (r := r) (.inl (by simp)) u0 u1 u2 u3 u4
  exact ⟨F', k, s1, ao1, n1, cap1, s2, ao2, n2, cap2, ok, rfl, evOk_wr hr' hs h2, bat_wr h3 hr' hs hrF', (hY.trans h4).set5 (.inr hr) u0 u1 u2 u3 u4, fun k hk => (h5 k hk).imp id fun h => Nat.le_trans hY.size h⟩
set_option maxHeartbeats 2000000 in
set_option maxRecDepth 100000 in
/-- add between items: what addBetween answers. -/
theorem add_between {B b : Nat} {F : List Nat} {S : Bs} {w : World} (k : BAt B b F S w) (ho : S.opn = []) (q : Bs × Option (Int × El)) (kd : Int) (nm x : ByteArray) (ao : Option Addr) (n cp : Nat)
    (H : ∀ W, Below w.heap.size w W → Calls Tryz.prog 58 #[.pointer (some ⟨b, 0, none⟩), .agg #[.int .i64 kd, .string nm, .slice ao n cp, .string x]] W (AddRes B b F q W)) :
    Calls Tryz.prog 43 #[.pointer (some ⟨b, 0, none⟩), .agg #[.int .i64 kd, .string nm, .slice ao n cp, .string x]] w (AddRes B b F q w) := by
  have hlt := k.lt
  obtain ⟨v, xs, bl, h1, h2, _⟩ := k.at_
  obtain ⟨ao', cap', rfl⟩ := owns_shape h2
  obtain ⟨c0, c1, c2, c3, c4, fz⟩ := bldCells h1
  have hb := lt_of_heap h1
  rw [ho] at c2
  have hbn : ¬ b = w.heap.size := by omega
  clear h1 h2 k
  have hw : ∀ o1 o2, Below w.heap.size w ((w.alloc o1).alloc o2) := fun o1 o2 => ((Below.refl _ _).alloc (Nat.le_refl _) _).alloc (by simp) _
  have hrY : ∀ o1, At (w.heap.size + 1) #[.int .i64 0, .string ⟨#[]⟩, .slice none 0 0, .string ⟨#[]⟩, .slice none 0 0] 69 ((w.alloc o1).alloc (.cells #[.int .i64 0, .string ⟨#[]⟩, .slice none 0 0, .string ⟨#[]⟩, .slice none 0 0] 69)) := fun o1 => by
    have := heap_alloc_new (w.alloc o1) (.cells #[.int .i64 0, .string ⟨#[]⟩, .slice none 0 0, .string ⟨#[]⟩, .slice none 0 0] 69)
    simp only [World.size_alloc] at this
    exact this
  have HW : Hid _ := hw
  have HR : Hid _ := hrY
  clear hw hrY
  go_enter Tryz.func43, Tryz.ntmps43
  go_wp2_with (go_at_call 58; refine (H _ (HW.out _ _)).mono ?_)
  rintro e w' ⟨F', k', s1, ao1, n1, cap1, s2, ao2, n2, cap2, ok, rfl, e2, e3, e4, e5⟩
  have r0 := HR.out (.cells #[.int .i64 kd, .string nm, .slice ao n cp, .string x] 73)
  have hrF : w.heap.size + 1 ∉ F := fun h => by have := (hlt _ h).2; omega
  have r1 : At (w.heap.size + 1) #[.int .i64 0, .string ⟨#[]⟩, .slice none 0 0, .string ⟨#[]⟩, .slice none 0 0] 69 w' := (e4.block _ (lt_of_heap r0) hrF).trans r0
  obtain ⟨d0, d1, d2, d3, d4⟩ := ev_cells r1
  have df : ∀ o, w'.frozen? ⟨w.heap.size + 1, o, none⟩ = false := fun o => Lib.frozen_of_heap r1 o
  have hz : w.heap.size + 1 < w'.heap.size := lt_of_heap r1
  have E2 : Hid (EvOk _ _ _ _ _ _ _ _ _) := e2
  have E3 : Hid (BAt _ _ _ _ _) := e3
  have E4 : Hid (Wr _ _ _) := e4
  have R0 : Hid (At _ _ _ _) := r0
  have E5 : Hid _ := e5
  clear e2 e3 e4 e5 r0 r1
  go_wp2_with fail
  exact bodyPost_ret (v := .tuple #[.agg #[.int .i64 k', .string s1, .slice ao1 n1 cap1, .string s2, .slice ao2 n2 cap2], .bool ok]) (by simp [results, Tryz.results43, go_sem, d0, d1, d2, d3, d4]) rfl
    (addRes_put (Wr.of_below (HW.out _ _)) E2.out E3.out E4.out E5.out (by omega) R0.out hrF _ _ _ _ _)
set_option maxHeartbeats 2000000 in
set_option maxRecDepth 100000 in
/-- add at an end within an item: what shut answers. -/
theorem add_end {B b : Nat} {F : List Nat} {S : Bs} {w : World} (k : BAt B b F S w) (hl0 : 0 < S.opn.length) (hl : S.opn.length < 10) (ht : 0 ≤ S.taken ∧ S.taken ≤ 64) (q : Bs × Option (Int × El)) (nm x : ByteArray) (ao : Option Addr) (n cp : Nat)
    (H : ∀ W, BAt B b F ⟨S.stage, S.stream, S.opn, S.taken + 1, S.failed⟩ W → Calls Tryz.prog 60 #[.pointer (some ⟨b, 0, none⟩)] W (AddRes B b F q W)) :
    Calls Tryz.prog 43 #[.pointer (some ⟨b, 0, none⟩), .agg #[.int .i64 2, .string nm, .slice ao n cp, .string x]] w (AddRes B b F q w) := by
  have K : Hid (BAt B b F S w) := k
  have hlt := k.lt
  have hbF := F_head k
  obtain ⟨v, xs, bl, h1, h2, h4, h8, h9⟩ := k.at_
  obtain ⟨g, cap, rfl⟩ := owns_form h2 hl0
  replace h8 : F = b :: g :: bl := h8
  obtain ⟨c0, c1, c2, c3, c4, fz⟩ := bldCells h1
  have hb := lt_of_heap h1
  have hg := (h2.lt g rfl).2
  have hfg : ∀ o, w.frozen? ⟨g, o, none⟩ = false := fun o => World.ownsRow.frozenAt h2 o
  have hgb' : ¬ g = b := by
    intro e
    rw [h8, e] at h9
    exact (List.nodup_cons.1 h9).1 (by simp)
  have hle : ((S.opn.length : Int) == 0) = false := by rw [beq_eq_false_iff_ne]; omega
  have A : Hid (At b _ 86 w) := h1
  clear h1 h2 h4 h8 h9 k
  go_enter Tryz.func43, Tryz.ntmps43
  go_wp2_with fail
  obtain ⟨Y, hY, y1, y2, y3, y4, y5, yG, yF⟩ := add_world (vt := #[.int .i64 2, .string nm, .slice ao n cp, .string x]) A.out hg hgb' hfg
  rw [← hY]
  have hK : BAt B b F ⟨S.stage, S.stream, S.opn, S.taken + 1, S.failed⟩ Y := bat_keep K.out y1 rfl fun v h => by
    have he := h.symm.trans A.out
    simp at he
    subst he
    exact y2
  have hrF : w.heap.size + 1 ∉ F := fun h => by have := (hlt _ h).2; omega
  clear hY yG yF c0 c1 c2 c3 c4 fz hfg y2 y3
  refine (H Y hK).mono ?_
  rintro e w' ⟨F', k', s1, ao1, n1, cap1, s2, ao2, n2, cap2, ok, rfl, e2, e3, e4, e5⟩
  have r1 : At (w.heap.size + 1) #[.int .i64 0, .string ⟨#[]⟩, .slice none 0 0, .string ⟨#[]⟩, .slice none 0 0] 69 w' := (e4.block _ (lt_of_heap y4) hrF).trans y4
  obtain ⟨d0, d1, d2, d3, d4⟩ := ev_cells r1
  have df : ∀ o, w'.frozen? ⟨w.heap.size + 1, o, none⟩ = false := fun o => Lib.frozen_of_heap r1 o
  have hz : w.heap.size + 1 < w'.heap.size := lt_of_heap r1
  have E2 : Hid (EvOk _ _ _ _ _ _ _ _ _) := e2
  have E3 : Hid (BAt _ _ _ _ _) := e3
  have E4 : Hid (Wr _ _ _) := e4
  have R0 : Hid (At _ _ _ _) := y4
  have Y1 : Hid (Wr _ _ _) := y1
  have E5 : Hid _ := e5
  clear e2 e3 e4 e5 y4 y1 r1 y5
  go_wp2_with fail
  exact bodyPost_ret (v := .tuple #[.agg #[.int .i64 k', .string s1, .slice ao1 n1 cap1, .string s2, .slice ao2 n2 cap2], .bool ok]) (by simp [results, Tryz.results43, go_sem, d0, d1, d2, d3, d4]) rfl
    (addRes_put (Wr.mono Y1.out (by simp [hbF])) E2.out E3.out E4.out E5.out (by omega) R0.out hrF _ _ _ _ _)
/-- add at a token with no fault. -/
theorem add_any {B b : Nat} {F : List Nat} {S : Bs} {w : World} (k : BAt B b F S w) (hO : BOk S) (t : Tok) (hf : faultN S t = 0) (ao : Option Addr) (cp : Nat) (hr : Row (fun k => k ∉ F) w (.slice ao t.attrs.length cp) t.attrs.length (pairCells t.attrs)) (hbig : t.attrs.length * 32 ≤ 140737488355328)
    (hx : ∀ e ∈ S.opn, e.text.length + t.text.length ≤ 4611686018427387904) :
    Calls Tryz.prog 43 #[.pointer (some ⟨b, 0, none⟩), .agg #[.int .i64 t.kind, .string ⟨t.nm.toArray⟩, .slice ao t.attrs.length cp, .string ⟨t.text.toArray⟩]] w (AddRes B b F (addN S t) w) := by
  unfold faultN at hf
  have hA : ¬ ((S.stage = 0 ∧ t.kind ≠ 1) ∨ S.stage = 2 ∨ t.kind < 1 ∨ 3 < t.kind) := fun h => by rw [if_pos h] at hf; cases hf
  rw [if_neg hA] at hf
  have hs2 : S.stage ≠ 2 := fun e => hA (.inr (.inl e))
  have hkk : t.kind = 1 ∨ t.kind = 2 ∨ t.kind = 3 := by
    have h1 : ¬ t.kind < 1 := fun e => hA (.inr (.inr (.inl e)))
    have h3 : ¬ 3 < t.kind := fun e => hA (.inr (.inr (.inr e)))
    omega
  have hs1 : t.kind ≠ 1 → S.stage = 1 := fun e => by
    rcases hO.stage with h | h | h
    · exact absurd (.inl ⟨h, e⟩) hA
    · exact h
    · exact absurd h hs2
  by_cases ho : S.opn = []
  · have he : S.opn.isEmpty = true := by rw [ho]; rfl
    refine add_between k ho _ t.kind _ _ ao _ cp fun W hW => ?_
    have kW := k.below hW
    have rW := hr.step (P' := fun k => k ∉ F) (w' := W) fun k h1 h2 => ⟨h1, hW.block k h2⟩
    unfold addN
    rw [if_pos he]
    by_cases h0 : S.stage = 0
    · have e1 : t.kind = 1 := by
        rcases hkk with e | e | e
        · exact e
        · exact absurd (hs1 (by omega)) (by omega)
        · exact absurd (hs1 (by omega)) (by omega)
      rw [if_pos h0, e1]
      exact between_head kW ho h0 t _ ao cp rW hbig
    · have h1 : S.stage = 1 := by rcases hO.stage with h | h | h <;> omega
      rw [if_neg h0]
      rcases hkk with e | e | e
      · rw [e, if_pos rfl]
        exact between_begin kW ho h1 t _ ao cp rW hbig
      · rw [e, if_neg (by omega), if_pos rfl]
        exact between_end kW h1 _ _ ao _ cp
      · rw [e, if_neg (by omega), if_neg (by omega)]
        exact between_text kW h1 _ _ ao _ cp
  · have he : S.opn.isEmpty = false := by simpa using ho
    obtain ⟨l, e, hle⟩ : ∃ l e, S.opn = l ++ [e] := ⟨_, _, (List.dropLast_concat_getLast ho).symm⟩
    have hlen : l.length < 4 := by have := hO.opn; rw [hle] at this; simp at this; omega
    have hlast : lastE S.opn = e := by unfold lastE; rw [hle]; simp
    have hdl : S.opn.dropLast = l := by rw [hle]; simp
    unfold addN
    rw [if_neg (by rw [he]; simp)]
    rcases hkk with q | q | q
    · rw [q, if_pos rfl]
      exact add_begin k rfl (by rw [hle]; simp) (by have := hO.opn; omega) hO.taken t _ ao cp hr hbig
    · rw [q, if_neg (by omega), if_neg (by omega), if_pos rfl]
      refine add_end k (by rw [hle]; simp) (by have := hO.opn; omega) hO.taken _ _ _ ao _ cp fun W kW => ?_
      by_cases hl : l = []
      · rw [hl] at hle
        have es : shutN S.opn = ([], some e) := by
          unfold shutN
          rw [hle]
          rfl
        rw [es]
        exact shut_item kW hle
      · obtain ⟨l', p, hlp⟩ : ∃ l' p, l = l' ++ [p] := ⟨_, _, (List.dropLast_concat_getLast hl).symm⟩
        have es : shutN S.opn = (l' ++ [p.put e], none) := by
          unfold shutN
          rw [hle, hlp]
          rw [if_neg (by simp)]
          simp [lastE]
        rw [es]
        rw [hlp] at hle
        exact shut_kid kW hle (by rw [hlp] at hlen; simp at hlen; omega) (hO.kids p (by rw [hle]; simp))
    · rw [q, if_neg (by omega), if_pos rfl, hlast, hdl]
      exact add_text k hle (by omega) hO.taken _ t.text ao _ cp (hx e (by rw [hle]; simp))
end Go.Proofs.YthekdgnikkjpdaaGreatDoor
