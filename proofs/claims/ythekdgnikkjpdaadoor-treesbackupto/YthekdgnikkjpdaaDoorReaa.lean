/-
  Plain mathematics, of no program: a row of tokens taken by a builder.
-/
import Derived.Test.YthekdgnikkjpdaaDoorPtree
import Derived.Test.YthekdgnikkjpdaaDoorBell
namespace Go.Proofs.YthekdgnikkjpdaaDoor
def runB : Bs → List Tok → Bs × List (Int × El) × Int
  | S, [] => (S, [], 0)
  | S, t :: ts => if (takeN S t).2.2 = 0 then ((runB (takeN S t).1 ts).1, (takeN S t).2.1.toList ++ (runB (takeN S t).1 ts).2.1, (runB (takeN S t).1 ts).2.2) else ((takeN S t).1, [], (takeN S t).2.2)
theorem faultN_cases (S : Bs) (t : Tok) : faultN S t = 0 ∨ faultN S t = 3 ∨ faultN S t = 4 ∨ faultN S t = 5 := by
  unfold faultN
  repeat' split
  all_goals simp
theorem bok0 : BOk bs0 := ⟨.inl rfl, by simp [bs0], fun h => absurd rfl h, by simp [bs0], .inl rfl, fun h => absurd rfl h, by simp [bs0]⟩
end Go.Proofs.YthekdgnikkjpdaaDoor
/-
  Plain mathematics, of no program: what holds of every builder that was made and has taken.
-/
namespace Go.Proofs.YthekdgnikkjpdaaDoor
/-- .. and one more element may be in each but the innermost one. -/
def BOk2 (S : Bs) : Prop := BOk S ∧ ∀ e ∈ S.opn.dropLast, e.kids.length ≤ 15
theorem takeN_ok (S : Bs) (t : Tok) (hh : BOk2 S) : BOk2 (takeN S t).1 := by
  obtain ⟨h, h15⟩ := hh
  unfold takeN
  by_cases hf : S.failed = 0
  · rw [if_pos hf]
    have hfc := faultN_cases S t
    by_cases hc : faultN S t = 0
    · rw [if_pos hc]
      show BOk2 (addN S t).1
      unfold faultN at hc
      have hA : ¬ ((S.stage = 0 ∧ t.kind ≠ 1) ∨ S.stage = 2 ∨ t.kind < 1 ∨ 3 < t.kind) := fun q => by rw [if_pos q] at hc; cases hc
      rw [if_neg hA] at hc
      have h64 : ¬ (S.opn ≠ [] ∧ S.taken = 64) := fun q => by rw [if_pos q] at hc; cases hc
      rw [if_neg h64] at hc
      have hs1 : S.stage ≠ 0 → S.stage = 1 := fun q => by
        rcases h.stage with e | e | e
        · exact absurd e q
        · exact e
        · exact absurd (.inr (.inl e)) hA
      have htk := h.taken
      unfold addN
      by_cases ho : S.opn = []
      · rw [if_pos (by rw [ho]; rfl)]
        by_cases h0 : S.stage = 0
        · rw [if_pos h0]
          exact ⟨⟨.inr (.inl rfl), h.opn, fun q => absurd ho q, htk, h.failed, h.nofail, h.kids⟩, h15⟩
        · rw [if_neg h0]
          by_cases k1 : t.kind = 1
          · rw [if_pos k1]
            exact ⟨⟨h.stage, by simp, fun _ => hs1 h0, by simp, h.failed, fun q => absurd hf q, by simp [elOf]⟩, by simp⟩
          · rw [if_neg k1]
            by_cases k2 : t.kind = 2
            · rw [if_pos k2]
              exact ⟨⟨.inr (.inr rfl), h.opn, fun q => absurd ho q, htk, h.failed, h.nofail, h.kids⟩, h15⟩
            · rw [if_neg k2]
              exact ⟨h, h15⟩
      · have ht : 0 ≤ S.taken + 1 ∧ S.taken + 1 ≤ 64 := by
          have : S.taken ≠ 64 := fun q => h64 ⟨ho, q⟩
          omega
        obtain ⟨l, e, hle⟩ : ∃ l e, S.opn = l ++ [e] := ⟨_, _, (List.dropLast_concat_getLast ho).symm⟩
        have hlast : lastE S.opn = e := by unfold lastE; rw [hle]; simp
        have hdl : S.opn.dropLast = l := by rw [hle]; simp
        have hol := h.opn
        have hst := h.open1 ho
        rw [if_neg (by rw [hle]; simp)]
        by_cases k1 : t.kind = 1
        · rw [if_pos k1]
          have h2 : ¬ (t.kind = 2 ∧ t.nm ≠ innerN S) := by omega
          have h3 : ¬ (t.kind = 3 ∧ S.opn = [] ∧ blankT t.text = false) := fun q => ho q.2.1
          rw [if_neg h2, if_neg h3] at hc
          have h4 : ¬ (t.kind = 1 ∧ S.opn.length = 4) := fun q => by rw [if_pos q] at hc; cases hc
          have h16 : ¬ (t.kind = 1 ∧ S.opn ≠ [] ∧ (lastE S.opn).kids.length = 16) := fun q => by rw [if_neg h4, if_pos q] at hc; cases hc
          have h16' : e.kids.length ≤ 15 := by
            have a := h.kids e (by rw [hle]; simp)
            have b : e.kids.length ≠ 16 := fun q => h16 ⟨k1, ho, by rw [hlast]; exact q⟩
            omega
          refine ⟨⟨h.stage, ?_, fun _ => hst, ht, h.failed, fun q => absurd hf q, ?_⟩, ?_⟩
          · have : S.opn.length ≠ 4 := fun q => h4 ⟨k1, q⟩
            simp
            omega
          · intro x hx
            rcases List.mem_append.1 hx with hx | hx
            · exact h.kids x hx
            · rw [List.mem_singleton] at hx
              subst hx
              simp [elOf]
          · intro x hx
            rw [List.dropLast_concat, hle] at hx
            rcases List.mem_append.1 hx with hx | hx
            · exact h15 x (by rw [hdl]; exact hx)
            · rw [List.mem_singleton] at hx
              subst hx
              exact h16'
        · rw [if_neg k1]
          by_cases k3 : t.kind = 3
          · rw [if_pos k3, hlast, hdl]
            refine ⟨⟨h.stage, ?_, fun _ => hst, ht, h.failed, fun q => absurd hf q, ?_⟩, ?_⟩
            · rw [hle] at hol
              simpa using hol
            · intro x hx
              rcases List.mem_append.1 hx with hx | hx
              · exact h.kids x (by rw [hle]; simp [hx])
              · rw [List.mem_singleton] at hx
                subst hx
                exact h.kids e (by rw [hle]; simp)
            · rw [List.dropLast_concat, ← hdl]
              exact h15
          · rw [if_neg k3]
            by_cases k2 : t.kind = 2
            · rw [if_pos k2]
              by_cases hl : l = []
              · have es : shutN S.opn = ([], some e) := by
                  unfold shutN
                  rw [hle, hl]
                  rfl
                rw [es]
                exact ⟨⟨h.stage, by simp, fun q => absurd rfl q, ht, h.failed, fun _ => rfl, by simp⟩, by simp⟩
              · obtain ⟨l', p, hlp⟩ : ∃ l' p, l = l' ++ [p] := ⟨_, _, (List.dropLast_concat_getLast hl).symm⟩
                have es : shutN S.opn = (l' ++ [p.put e], none) := by
                  unfold shutN
                  rw [hle, hlp]
                  rw [if_neg (by simp)]
                  simp [lastE]
                rw [es]
                rw [hdl, hlp] at h15
                refine ⟨⟨h.stage, ?_, fun _ => hst, ht, h.failed, fun q => absurd hf q, ?_⟩, ?_⟩
                · rw [hle, hlp] at hol
                  simp at hol ⊢
                  omega
                · intro x hx
                  rcases List.mem_append.1 hx with hx | hx
                  · exact h.kids x (by rw [hle, hlp]; simp [hx])
                  · rw [List.mem_singleton] at hx
                    subst hx
                    have := h15 p (by simp)
                    simp [El.put]
                    omega
                · intro x hx
                  rw [List.dropLast_concat] at hx
                  exact h15 x (by simp [hx])
            · rw [if_neg k2]
              exact ⟨⟨h.stage, hol, fun _ => hst, ht, h.failed, h.nofail, h.kids⟩, h15⟩
    · rw [if_neg hc]
      refine ⟨⟨h.stage, by simp, fun q => absurd rfl q, h.taken, ?_, fun _ => rfl, by simp⟩, by simp⟩
      rcases hfc with e | e | e | e
      · exact absurd e hc
      · exact .inr (.inl e)
      · exact .inr (.inr (.inl e))
      · exact .inr (.inr (.inr e))
  · rw [if_neg hf]
    exact ⟨⟨h.stage, by simp, fun q => absurd rfl q, h.taken, h.failed, fun _ => rfl, by simp⟩, by simp⟩
theorem bok20 : BOk2 bs0 := ⟨bok0, by simp [bs0]⟩
end Go.Proofs.YthekdgnikkjpdaaDoor
/-
  Plain mathematics, of no program: how long the texts of the open elements are; a row of tokens, one by one.
-/
namespace Go.Proofs.YthekdgnikkjpdaaDoor
def textsLe (S : Bs) (m : Nat) : Prop := ∀ e ∈ S.opn, e.text.length ≤ m
theorem takeN_text (S : Bs) (t : Tok) (m : Nat) (h : textsLe S m) : textsLe (takeN S t).1 (m + t.text.length) := by
  have mono : textsLe S (m + t.text.length) := fun e he => Nat.le_trans (h e he) (by omega)
  have nil : ∀ a b c d, textsLe ⟨a, b, [], c, d⟩ (m + t.text.length) := fun _ _ _ _ e he => by simp at he
  unfold takeN
  split
  · split
    · show textsLe (addN S t).1 _
      unfold addN
      split
      · split
        · exact mono
        · split
          · intro e he
            simp at he
            subst he
            simp [elOf]
          · split
            · exact mono
            · exact mono
      · rename_i ho
        have ho' : S.opn ≠ [] := by simpa using ho
        obtain ⟨l, e, hle⟩ : ∃ l e, S.opn = l ++ [e] := ⟨_, _, (List.dropLast_concat_getLast ho').symm⟩
        have hlast : lastE S.opn = e := by unfold lastE; rw [hle]; simp
        have hdl : S.opn.dropLast = l := by rw [hle]; simp
        split
        · intro x hx
          rcases List.mem_append.1 hx with hx | hx
          · exact mono x hx
          · rw [List.mem_singleton] at hx
            subst hx
            simp [elOf]
        · split
          · rw [hlast, hdl]
            intro x hx
            rcases List.mem_append.1 hx with hx | hx
            · exact mono x (by rw [hle]; simp [hx])
            · rw [List.mem_singleton] at hx
              subst hx
              have := h e (by rw [hle]; simp)
              simp [El.say]
              omega
          · split
            · by_cases hl : l = []
              · have es : shutN S.opn = ([], some e) := by
                  unfold shutN
                  rw [hle, hl]
                  rfl
                rw [es]
                exact nil _ _ _ _
              · obtain ⟨l', p, hlp⟩ : ∃ l' p, l = l' ++ [p] := ⟨_, _, (List.dropLast_concat_getLast hl).symm⟩
                have es : shutN S.opn = (l' ++ [p.put e], none) := by
                  unfold shutN
                  rw [hle, hlp]
                  rw [if_neg (by simp)]
                  simp [lastE]
                rw [es]
                intro x hx
                rcases List.mem_append.1 hx with hx | hx
                · exact mono x (by rw [hle, hlp]; simp [hx])
                · rw [List.mem_singleton] at hx
                  subst hx
                  exact mono p (by rw [hle, hlp]; simp)
            · exact mono
    · exact nil _ _ _ _
  · exact nil _ _ _ _
/-- The tokens so far: the state and the events, and what is left says the rest. -/
def soFar (ts : List Tok) (j : Nat) (S : Bs) (evs : List (Int × El)) : Prop :=
  runB bs0 ts = ((runB S (ts.drop j)).1, evs ++ (runB S (ts.drop j)).2.1, (runB S (ts.drop j)).2.2)
theorem soFar0 (ts : List Tok) : soFar ts 0 bs0 [] := by simp [soFar]
theorem soFar_step {ts : List Tok} {j : Nat} {S : Bs} {evs : List (Int × El)} {t : Tok} (h : soFar ts j S evs) (ht : ts[j]? = some t) (h0 : (takeN S t).2.2 = 0) : soFar ts (j + 1) (takeN S t).1 (evs ++ (takeN S t).2.1.toList) := by
  obtain ⟨hj, e⟩ := List.getElem?_eq_some_iff.1 ht
  unfold soFar at h ⊢
  rw [h, List.drop_eq_getElem_cons hj, e]
  simp only [runB, h0, if_true, List.append_assoc]
theorem soFar_err {ts : List Tok} {j : Nat} {S : Bs} {evs : List (Int × El)} {t : Tok} (h : soFar ts j S evs) (ht : ts[j]? = some t) (h0 : (takeN S t).2.2 ≠ 0) : runB bs0 ts = ((takeN S t).1, evs, (takeN S t).2.2) := by
  obtain ⟨hj, e⟩ := List.getElem?_eq_some_iff.1 ht
  unfold soFar at h
  rw [h, List.drop_eq_getElem_cons hj, e]
  simp only [runB, h0, if_false, List.append_nil]
theorem soFar_end {ts : List Tok} {S : Bs} {evs : List (Int × El)} (h : soFar ts ts.length S evs) : runB bs0 ts = (S, evs, 0) := by
  unfold soFar at h
  rw [h, List.drop_length]
  simp [runB]
end Go.Proofs.YthekdgnikkjpdaaDoor
/-
  How a row of events lies in memory, and what stays of a builder beside it.
-/
namespace Go.Proofs.YthekdgnikkjpdaaDoor
open Go.RowKit
def EvCells (P : Nat → Prop) (w : World) : List (Int × El) → List Value → Prop
  | [], xs => xs = []
  | p :: r, xs => ∃ a b c d ys, xs = .int .i64 p.1 :: a :: b :: c :: d :: ys ∧ ElE P w p.2 a b c d ∧ EvCells P w r ys
theorem EvCells.step {P P' : Nat → Prop} {w w' : World} (hp : ∀ k, P k → k < w.heap.size → P' k ∧ w'.heap[k]? = w.heap[k]?) : ∀ {l : List (Int × El)} {xs : List Value}, EvCells P w l xs → EvCells P' w' l xs
  | [], _, h => h
  | _ :: _, _, ⟨a, b, c, d, ys, h1, h2, h3⟩ => ⟨a, b, c, d, ys, h1, h2.step hp, EvCells.step hp h3⟩
theorem EvCells.app {P : Nat → Prop} {w : World} : ∀ {l m : List (Int × El)} {xs ys : List Value}, EvCells P w l xs → EvCells P w m ys → EvCells P w (l ++ m) (xs ++ ys)
  | [], _, xs, _, h, k => by rw [show xs = [] from h]; exact k
  | _ :: _, _, _, _, ⟨a, b, c, d, zs, e, k1, k2⟩, k => ⟨a, b, c, d, _, by rw [e]; rfl, k1, EvCells.app k2 k⟩
theorem info40 : (Tryd.prog.info? 40).map (fun i => (i.zero, i.size, i.bytes)) = some (some (.agg #[.int .i64 0, .string ⟨#[]⟩, .slice none 0 0, .string ⟨#[]⟩, .slice none 0 0]), 5, 88) := by kernel_rfl
/-- Blocks of events' rows may be written: elements and builders stay. -/
theorem rows_wr40 {F : List Nat} {w w' : World} {L : List Nat} (hL : ∀ r ∈ L, r < w.heap.size → ∃ cs fz, w.heap[r]? = some (.cells cs 40 fz)) (hw : Wr L w w') : ∀ k, Pf F w k → k < w.heap.size → Pf F w' k ∧ w'.heap[k]? = w.heap[k]? := fun k hk hl => by
  have e : w'.heap[k]? = w.heap[k]? := hw.block k hl fun e => by
    obtain ⟨cs, fz, h⟩ := hL k e hl
    exact (hk.2 _ _ _ h).2 rfl
  exact ⟨⟨hk.1, hk.2.same e⟩, e⟩
theorem bat_wr40 {B b : Nat} {F L : List Nat} {S : Bs} {w w' : World} (h : BAt B b F S w) (hL : ∀ r ∈ L, r < w.heap.size → ∃ cs fz, w.heap[r]? = some (.cells cs 40 fz)) (hw : Wr L w w') (hF : ∀ r ∈ L, r ∉ F) : BAt B b F S w' := by
  have hl := h.lt
  obtain ⟨v, xs, bl, h1, h2, h3, h4, h5⟩ := h.at_
  have same : ∀ k ∈ F, w'.heap[k]? = w.heap[k]? := fun k hk => hw.block k (hl k hk).2 fun e => hF k e hk
  refine ⟨h.base, v, xs, bl, (same b (by rw [h4]; simp)).trans h1, owns_same h2 fun k hk => same k (by rw [h4, hk]; simp), h3.step (rows_wr40 hL hw) fun k hk => same k (by rw [h4]; simp [hk]), h4, h5⟩
theorem toks_get {B : Nat} {w : World} : ∀ {l : List Tok} {xs : List Value} (j : Nat) {t : Tok}, TokCells B w l xs → l[j]? = some t → ∃ v, xs[j * 4]? = some (.int .i64 t.kind) ∧ xs[j * 4 + 1]? = some (.string ⟨t.nm.toArray⟩) ∧ xs[j * 4 + 2]? = some v ∧ xs[j * 4 + 3]? = some (.string ⟨t.text.toArray⟩) ∧ AttrsAt B v t.attrs w
  | [], _, _, _, _, h => by simp at h
  | _ :: _, _, 0, _, ⟨v, ys, e, k1, k2⟩, h => by
    simp at h
    subst h
    exact ⟨v, by rw [e]; rfl, by rw [e]; rfl, by rw [e]; rfl, by rw [e]; rfl, k1⟩
  | _ :: l, _, j + 1, _, ⟨v, ys, e, k1, k2⟩, h => by
    obtain ⟨v', h0, h1, h2, h3, h4⟩ := toks_get j k2 (by simpa using h)
    have e4 : ∀ (a b c d : Value) i, (a :: b :: c :: d :: ys)[(j + 1) * 4 + i]? = ys[j * 4 + i]? := fun a b c d i => by rw [show (j + 1) * 4 + i = j * 4 + i + 1 + 1 + 1 + 1 by omega]; rfl
    rw [e]
    exact ⟨v', (e4 _ _ _ _ 0).trans h0, (e4 _ _ _ _ 1).trans h1, (e4 _ _ _ _ 2).trans h2, (e4 _ _ _ _ 3).trans h3, h4⟩
theorem wr_cat {L F : List Nat} {a b c : World} (h : Wr L a b) (k : Wr F b c) (hF : ∀ x ∈ F, x ∈ L ∨ a.heap.size ≤ x) : Wr L a c :=
  ⟨k.os.trans h.os, k.tape.trans h.tape, k.output.trans h.output, Nat.le_trans h.size k.size, fun i hi hl => (k.block i (Nat.lt_of_lt_of_le hi h.size) fun e => by
    rcases hF i e with q | q
    · exact hl q
    · omega).trans (h.block i hi hl)⟩
/-- What read answers. -/
def RdRes (w : World) (evs : List (Int × El)) (c d : Int) (e : Ending) (w' : World) : Prop :=
  ∃ ao n cap xs, e = .returned (.tuple #[.slice ao n cap, .int .i64 c, .int .i64 d]) ∧ w'.ownsRow w.heap.size 40 5 (.slice ao n cap) evs.length xs ∧ EvCells (fun _ => True) w' evs xs ∧ Below w.heap.size w w'
def readT (s : List UInt8) : List (Int × El) × Int × Int :=
  ((runB bs0 (feedN st0 s).2).2.1, if (runB bs0 (feedN st0 s).2).2.2 = 0 then (feedN st0 s).1.err else (runB bs0 (feedN st0 s).2).2.2, depthN (runB bs0 (feedN st0 s).2).1)
end Go.Proofs.YthekdgnikkjpdaaDoor
