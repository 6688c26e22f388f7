/-
  Plain mathematics, of no program: a row of tokens taken by a builder.
-/
import Derived.Test.YthekdgnikkjpdaaGreatDoorPtree
import Derived.Test.YthekdgnikkjpdaaGreatDoorBell
namespace Go.Proofs.YthekdgnikkjpdaaGreatDoor
def runB : Bs → List Tok → Bs × List (Int × El) × Int
  | S, [] => (S, [], 0)
  | S, t :: ts => if (takeN S t).2.2 = 0 then ((runB (takeN S t).1 ts).1, (takeN S t).2.1.toList ++ (runB (takeN S t).1 ts).2.1, (runB (takeN S t).1 ts).2.2) else ((takeN S t).1, [], (takeN S t).2.2)
theorem faultN_cases (S : Bs) (t : Tok) : faultN S t = 0 ∨ faultN S t = 3 ∨ faultN S t = 4 ∨ faultN S t = 5 := by
  unfold faultN
  repeat' split
  all_goals simp
theorem bok0 : BOk bs0 := ⟨.inl rfl, by simp [bs0], fun h => absurd rfl h, by simp [bs0], .inl rfl, fun h => absurd rfl h, by simp [bs0]⟩
end Go.Proofs.YthekdgnikkjpdaaGreatDoor
/-
  Plain mathematics, of no program: what holds of every builder that was made and has taken.
-/
namespace Go.Proofs.YthekdgnikkjpdaaGreatDoor
/-- .. and one more element may be in each but the innermost one. -/
def BOk2 (S : Bs) : Prop := BOk S ∧ ∀ e ∈ S.opn.dropLast, e.kids.length ≤ 15
theorem takeN_ok (S : Bs) (t : Tok) (hh : BOk2 S) : BOk2 (takeN S t).1 := by
  obtain ⟨h, h15⟩ := hh
  unfold takeN
  by_cases hf : S.failed = 0
  · rw [if_pos hf]
    have hfc := faultN_cases S t
    by_cases hc : faultN S t = 0
    · rw [if_pos hc]
      show BOk2 (addN S t).1
      unfold faultN at hc
      have hA : ¬ ((S.stage = 0 ∧ t.kind ≠ 1) ∨ S.stage = 2 ∨ t.kind < 1 ∨ 3 < t.kind) := fun q => by rw [if_pos q] at hc; cases hc
      rw [if_neg hA] at hc
      have h64 : ¬ (S.opn ≠ [] ∧ S.taken = 64) := fun q => by rw [if_pos q] at hc; cases hc
      rw [if_neg h64] at hc
      have hs1 : S.stage ≠ 0 → S.stage = 1 := fun q => by
        rcases h.stage with e | e | e
        · exact absurd e q
        · exact e
        · exact absurd (.inr (.inl e)) hA
      have htk := h.taken
      unfold addN
      by_cases ho : S.opn = []
      · rw [if_pos (by rw [ho]; rfl)]
        by_cases h0 : S.stage = 0
        · rw [if_pos h0]
          exact ⟨⟨.inr (.inl rfl), h.opn, fun q => absurd ho q, htk, h.failed, h.nofail, h.kids⟩, h15⟩
        · rw [if_neg h0]
          by_cases k1 : t.kind = 1
          · rw [if_pos k1]
            exact ⟨⟨h.stage, by simp, fun _ => hs1 h0, by simp, h.failed, fun q => absurd hf q, by simp [elOf]⟩, by simp⟩
          · rw [if_neg k1]
            by_cases k2 : t.kind = 2
            · rw [if_pos k2]
              exact ⟨⟨.inr (.inr rfl), h.opn, fun q => absurd ho q, htk, h.failed, h.nofail, h.kids⟩, h15⟩
            · rw [if_neg k2]
              exact ⟨h, h15⟩
      · have ht : 0 ≤ S.taken + 1 ∧ S.taken + 1 ≤ 64 := by
          have : S.taken ≠ 64 := fun q => h64 ⟨ho, q⟩
          omega
        obtain ⟨l, e, hle⟩ : ∃ l e, S.opn = l ++ [e] := ⟨_, _, (List.dropLast_concat_getLast ho).symm⟩
        have hlast : lastE S.opn = e := by unfold lastE; rw [hle]; simp
        have hdl : S.opn.dropLast = l := by rw [hle]; simp
        have hol := h.opn
        have hst := h.open1 ho
        rw [if_neg (by rw [hle]; simp)]
        by_cases k1 : t.kind = 1
        · rw [if_pos k1]
          have h2 : ¬ (t.kind = 2 ∧ t.nm ≠ innerN S) := by omega
          have h3 : ¬ (t.kind = 3 ∧ S.opn = [] ∧ blankT t.text = false) := fun q => ho q.2.1
          rw [if_neg h2, if_neg h3] at hc
          have h4 : ¬ (t.kind = 1 ∧ S.opn.length = 4) := fun q => by rw [if_pos q] at hc; cases hc
          have h16 : ¬ (t.kind = 1 ∧ S.opn ≠ [] ∧ (lastE S.opn).kids.length = 16) := fun q => by rw [if_neg h4, if_pos q] at hc; cases hc
          have h16' : e.kids.length ≤ 15 := by
            have a := h.kids e (by rw [hle]; simp)
            have b : e.kids.length ≠ 16 := fun q => h16 ⟨k1, ho, by rw [hlast]; exact q⟩
            omega
          refine ⟨⟨h.stage, ?_, fun _ => hst, ht, h.failed, fun q => absurd hf q, ?_⟩, ?_⟩
          · have : S.opn.length ≠ 4 := fun q => h4 ⟨k1, q⟩
            simp
            omega
          · intro x hx
            rcases List.mem_append.1 hx with hx | hx
            · exact h.kids x hx
            · rw [List.mem_singleton] at hx
              subst hx
              simp [elOf]
          · intro x hx
            rw [List.dropLast_concat, hle] at hx
            rcases List.mem_append.1 hx with hx | hx
            · exact h15 x (by rw [hdl]; exact hx)
            · rw [List.mem_singleton] at hx
              subst hx
              exact h16'
        · rw [if_neg k1]
          by_cases k3 : t.kind = 3
          · rw [if_pos k3, hlast, hdl]
            refine ⟨⟨h.stage, ?_, fun _ => hst, ht, h.failed, fun q => absurd hf q, ?_⟩, ?_⟩
            · rw [hle] at hol
              simpa using hol
            · intro x hx
              rcases List.mem_append.1 hx with hx | hx
              · exact h.kids x (by rw [hle]; simp [hx])
              · rw [List.mem_singleton] at hx
                subst hx
                exact h.kids e (by rw [hle]; simp)
            · rw [List.dropLast_concat, ← hdl]
              exact h15
          · rw [if_neg k3]
            by_cases k2 : t.kind = 2
            · rw [if_pos k2]
              by_cases hl : l = []
              · have es : shutN S.opn = ([], some e) := by
                  unfold shutN
                  rw [hle, hl]
                  rfl
                rw [es]
                exact ⟨⟨h.stage, by simp, fun q => absurd rfl q, ht, h.failed, fun _ => rfl, by simp⟩, by simp⟩
              · obtain ⟨l', p, hlp⟩ : ∃ l' p, l = l' ++ [p] := ⟨_, _, (List.dropLast_concat_getLast hl).symm⟩
                have es : shutN S.opn = (l' ++ [p.put e], none) := by
                  unfold shutN
                  rw [hle, hlp]
                  rw [if_neg (by simp)]
                  simp [lastE]
                rw [es]
                rw [hdl, hlp] at h15
                refine ⟨⟨h.stage, ?_, fun _ => hst, ht, h.failed, fun q => absurd hf q, ?_⟩, ?_⟩
                · rw [hle, hlp] at hol
                  simp at hol ⊢
                  omega
                · intro x hx
                  rcases List.mem_append.1 hx with hx | hx
                  · exact h.kids x (by rw [hle, hlp]; simp [hx])
                  · rw [List.mem_singleton] at hx
                    subst hx
                    have := h15 p (by simp)
                    simp [El.put]
                    omega
                · intro x hx
                  rw [List.dropLast_concat] at hx
                  exact h15 x (by simp [hx])
            · rw [if_neg k2]
              exact ⟨⟨h.stage, hol, fun _ => hst, ht, h.failed, h.nofail, h.kids⟩, h15⟩
    · rw [if_neg hc]
      refine ⟨⟨h.stage, by simp, fun q => absurd rfl q, h.taken, ?_, fun _ => rfl, by simp⟩, by simp⟩
      rcases hfc with e | e | e | e
      · exact absurd e hc
      · exact .inr (.inl e)
      · exact .inr (.inr (.inl e))
      · exact .inr (.inr (.inr e))
  · rw [if_neg hf]
    exact ⟨⟨h.stage, by simp, fun q => absurd rfl q, h.taken, h.failed, fun _ => rfl, by simp⟩, by simp⟩
theorem bok20 : BOk2 bs0 := ⟨bok0, by simp [bs0]⟩
end Go.Proofs.YthekdgnikkjpdaaGreatDoor
/-
  Plain mathematics, of no program: how long the texts of the open elements are; a row of tokens, one by one.
-/
namespace Go.Proofs.YthekdgnikkjpdaaGreatDoor
def textsLe (S : Bs) (m : Nat) : Prop := ∀ e ∈ S.opn, e.text.length ≤ m
theorem takeN_text (S : Bs) (t : Tok) (m : Nat) (h : textsLe S m) : textsLe (takeN S t).1 (m + t.text.length) := by
  have mono : textsLe S (m + t.text.length) := fun e he => Nat.le_trans (h e he) (by omega)
  have nil : ∀ a b c d, textsLe ⟨a, b, [], c, d⟩ (m + t.text.length) := fun _ _ _ _ e he => by simp at he
  unfold takeN
  split
  · split
    · show textsLe (addN S t).1 _
      unfold addN
      split
      · split
        · exact mono
        · split
          · intro e he
            simp at he
            subst he
            simp [elOf]
          · split
            · exact mono
            · exact mono
      · rename_i ho
        have ho' : S.opn ≠ [] := by simpa using ho
        obtain ⟨l, e, hle⟩ : ∃ l e, S.opn = l ++ [e] := ⟨_, _, (List.dropLast_concat_getLast ho').symm⟩
        have hlast : lastE S.opn = e := by unfold lastE; rw [hle]; simp
        have hdl : S.opn.dropLast = l := by rw [hle]; simp
        split
        · intro x hx
          rcases List.mem_append.1 hx with hx | hx
          · exact mono x hx
          · rw [List.mem_singleton] at hx
            subst hx
            simp [elOf]
        · split
          · rw [hlast, hdl]
            intro x hx
            rcases List.mem_append.1 hx with hx | hx
            · exact mono x (by rw [hle]; simp [hx])
            · rw [List.mem_singleton] at hx
              subst hx
              have := h e (by rw [hle]; simp)
              simp [El.say]
              omega
          · split
            · by_cases hl : l = []
              · have es : shutN S.opn = ([], some e) := by
                  unfold shutN
                  rw [hle, hl]
                  rfl
                rw [es]
                exact nil _ _ _ _
              · obtain ⟨l', p, hlp⟩ : ∃ l' p, l = l' ++ [p] := ⟨_, _, (List.dropLast_concat_getLast hl).symm⟩
                have es : shutN S.opn = (l' ++ [p.put e], none) := by
                  unfold shutN
                  rw [hle, hlp]
                  rw [if_neg (by simp)]
                  simp [lastE]
                rw [es]
                intro x hx
                rcases List.mem_append.1 hx with hx | hx
                · exact mono x (by rw [hle, hlp]; simp [hx])
                · rw [List.mem_singleton] at hx
                  subst hx
                  exact mono p (by rw [hle, hlp]; simp)
            · exact mono
    · exact nil _ _ _ _
  · exact nil _ _ _ _
/-- The tokens so far: the state and the events, and what is left says the rest. -/
def soFar (ts : List Tok) (j : Nat) (S : Bs) (evs : List (Int × El)) : Prop :=
  runB bs0 ts = ((runB S (ts.drop j)).1, evs ++ (runB S (ts.drop j)).2.1, (runB S (ts.drop j)).2.2)
theorem soFar0 (ts : List Tok) : soFar ts 0 bs0 [] := by simp [soFar]
theorem soFar_step {ts : List Tok} {j : Nat} {S : Bs} {evs : List (Int × El)} {t : Tok} (h : soFar ts j S evs) (ht : ts[j]? = some t) (h0 : (takeN S t).2.2 = 0) : soFar ts (j + 1) (takeN S t).1 (evs ++ (takeN S t).2.1.toList) := by
  obtain ⟨hj, e⟩ := List.getElem?_eq_some_iff.1 ht
  unfold soFar at h ⊢
  rw [h, List.drop_eq_getElem_cons hj, e]
  simp only [runB, h0, if_true, List.append_assoc]
theorem soFar_err {ts : List Tok} {j : Nat} {S : Bs} {evs : List (Int × El)} {t : Tok} (h : soFar ts j S evs) (ht : ts[j]? = some t) (h0 : (takeN S t).2.2 ≠ 0) : runB bs0 ts = ((takeN S t).1, evs, (takeN S t).2.2) := by
  obtain ⟨hj, e⟩ := List.getElem?_eq_some_iff.1 ht
  unfold soFar at h
  rw [h, List.drop_eq_getElem_cons hj, e]
  simp only [runB, h0, if_false, List.append_nil]
theorem soFar_end {ts : List Tok} {S : Bs} {evs : List (Int × El)} (h : soFar ts ts.length S evs) : runB bs0 ts = (S, evs, 0) := by
  unfold soFar at h
  rw [h, List.drop_length]
  simp [runB]
end Go.Proofs.YthekdgnikkjpdaaGreatDoor
/-
  How a row of events lies in memory, and what stays of a builder beside it.
-/
namespace Go.Proofs.YthekdgnikkjpdaaGreatDoor
open Go.RowKit
def EvCells (P : Nat → Prop) (w : World) : List (Int × El) → List Value → Prop
  | [], xs => xs = []
  | p :: r, xs => ∃ a b c d ys, xs = .int .i64 p.1 :: a :: b :: c :: d :: ys ∧ ElE P w p.2 a b c d ∧ EvCells P w r ys
theorem EvCells.step {P P' : Nat → Prop} {w w' : World} (hp : ∀ k, P k → k < w.heap.size → P' k ∧ w'.heap[k]? = w.heap[k]?) : ∀ {l : List (Int × El)} {xs : List Value}, EvCells P w l xs → EvCells P' w' l xs
  | [], _, h => h
  | _ :: _, _, ⟨a, b, c, d, ys, h1, h2, h3⟩ => ⟨a, b, c, d, ys, h1, h2.step hp, EvCells.step hp h3⟩
theorem EvCells.app {P : Nat → Prop} {w : World} : ∀ {l m : List (Int × El)} {xs ys : List Value}, EvCells P w l xs → EvCells P w m ys → EvCells P w (l ++ m) (xs ++ ys)
  | [], _, xs, _, h, k => by rw [show xs = [] from h]; exact k
  | _ :: _, _, _, _, ⟨a, b, c, d, zs, e, k1, k2⟩, k => ⟨a, b, c, d, _, by rw [e]; rfl, k1, EvCells.app k2 k⟩
theorem info40 : (Tryz.prog.info? 42).map (fun i => (i.zero, i.size, i.bytes)) = some (some (.agg #[.int .i64 0, .string ⟨#[]⟩, .slice none 0 0, .string ⟨#[]⟩, .slice none 0 0]), 5, 88) := by kernel_rfl
/-- Blocks of events' rows may be written: elements and builders stay. -/
theorem rows_wr40 {F : List Nat} {w w' : World} {L : List Nat} (hL : ∀ r ∈ L, r < w.heap.size → ∃ cs fz, w.heap[r]? = some (.cells cs 42 fz)) (hw : Wr L w w') : ∀ k, Pf F w k → k < w.heap.size → Pf F w' k ∧ w'.heap[k]? = w.heap[k]? := fun k hk hl => by
  have e : w'.heap[k]? = w.heap[k]? := hw.block k hl fun e => by
    obtain ⟨cs, fz, h⟩ := hL k e hl
    exact (hk.2 _ _ _ h).2 rfl
  exact ⟨⟨hk.1, hk.2.same e⟩, e⟩
theorem bat_wr40 {B b : Nat} {F L : List Nat} {S : Bs} {w w' : World} (h : BAt B b F S w) (hL : ∀ r ∈ L, r < w.heap.size → ∃ cs fz, w.heap[r]? = some (.cells cs 42 fz)) (hw : Wr L w w') (hF : ∀ r ∈ L, r ∉ F) : BAt B b F S w' := by
  have hl := h.lt
  obtain ⟨v, xs, bl, h1, h2, h3, h4, h5⟩ := h.at_
  have same : ∀ k ∈ F, w'.heap[k]? = w.heap[k]? := fun k hk => hw.block k (hl k hk).2 fun e => hF k e hk
  refine ⟨h.base, v, xs, bl, (same b (by rw [h4]; simp)).trans h1, owns_same h2 fun k hk => same k (by rw [h4, hk]; simp), h3.step (rows_wr40 hL hw) fun k hk => same k (by rw [h4]; simp [hk]), h4, h5⟩
theorem toks_get {B : Nat} {w : World} : ∀ {l : List Tok} {xs : List Value} (j : Nat) {t : Tok}, TokCells B w l xs → l[j]? = some t → ∃ v, xs[j * 4]? = some (.int .i64 t.kind) ∧ xs[j * 4 + 1]? = some (.string ⟨t.nm.toArray⟩) ∧ xs[j * 4 + 2]? = some v ∧ xs[j * 4 + 3]? = some (.string ⟨t.text.toArray⟩) ∧ AttrsAt B v t.attrs w
  | [], _, _, _, _, h => by simp at h
  | _ :: _, _, 0, _, ⟨v, ys, e, k1, k2⟩, h => by
    simp at h
    subst h
    exact ⟨v, by rw [e]; rfl, by rw [e]; rfl, by rw [e]; rfl, by rw [e]; rfl, k1⟩
  | _ :: l, _, j + 1, _, ⟨v, ys, e, k1, k2⟩, h => by
    obtain ⟨v', h0, h1, h2, h3, h4⟩ := toks_get j k2 (by simpa using h)
    have e4 : ∀ (a b c d : Value) i, (a :: b :: c :: d :: ys)[(j + 1) * 4 + i]? = ys[j * 4 + i]? := fun a b c d i => by rw [show (j + 1) * 4 + i = j * 4 + i + 1 + 1 + 1 + 1 by omega]; rfl
    rw [e]
    exact ⟨v', (e4 _ _ _ _ 0).trans h0, (e4 _ _ _ _ 1).trans h1, (e4 _ _ _ _ 2).trans h2, (e4 _ _ _ _ 3).trans h3, h4⟩
theorem wr_cat {L F : List Nat} {a b c : World} (h : Wr L a b) (k : Wr F b c) (hF : ∀ x ∈ F, x ∈ L ∨ a.heap.size ≤ x) : Wr L a c :=
  ⟨k.os.trans h.os, k.tape.trans h.tape, k.output.trans h.output, Nat.le_trans h.size k.size, fun i hi hl => (k.block i (Nat.lt_of_lt_of_le hi h.size) fun e => by
    rcases hF i e with q | q
    · exact hl q
    · omega).trans (h.block i hi hl)⟩
/-- What read answers. -/
def RdRes (w : World) (evs : List (Int × El)) (c d : Int) (e : Ending) (w' : World) : Prop :=
  ∃ ao n cap xs, e = .returned (.tuple #[.slice ao n cap, .int .i64 c, .int .i64 d]) ∧ w'.ownsRow w.heap.size 42 5 (.slice ao n cap) evs.length xs ∧ EvCells (fun _ => True) w' evs xs ∧ Below w.heap.size w w'
def readT (s : List UInt8) : List (Int × El) × Int × Int :=
  ((runB bs0 (feedN st0 s).2).2.1, if (runB bs0 (feedN st0 s).2).2.2 = 0 then (feedN st0 s).1.err else (runB bs0 (feedN st0 s).2).2.2, depthN (runB bs0 (feedN st0 s).2).1)
end Go.Proofs.YthekdgnikkjpdaaGreatDoor

/-
  The contract of the statements' own read over this program.
-/
namespace Go.Proofs.YthekdgnikkjpdaaGreatDoor
open Go.RowKit
set_option maxHeartbeats 4000000 in
set_option maxRecDepth 100000 in
theorem read_walk (s : ByteArray) (w : World) (hT : Tabs w) (hs : s.size ≤ 2000000) (ts : List Tok) (hh : List UInt8) (tg : Bool) (er : Int) (hF : feedN st0 s.data.toList = (⟨hh, tg, er⟩, ts)) (htk : ∀ t ∈ ts, t.attrs.length ≤ 1000 ∧ t.text.length ≤ 2000000) (hn : ts.length ≤ 4000000) (S2 : Bs) (evs2 : List (Int × El)) (c2 : Int) (hR : runB bs0 ts = (S2, evs2, c2)) (c3 : Int) (hc3 : c3 = if c2 = 0 then er else c2) :
    Calls Tryz.prog 13 #[.string s] w (RdRes w evs2 c3 (depthN S2)) := by
  have hT3 := hT.size
  have hrdr := rdr_new w w.heap.size (Nat.le_refl _)
  have hb0 : Below w.heap.size w ((w.alloc (.cells #[.slice none 0 0, .bool false, .int .i64 0] 84)).alloc (.cells #[.int .i64 0, .string ⟨#[]⟩, .slice none 0 0, .int .i64 0, .int .i64 0] 86)) := ((Below.refl _ _).alloc (Nat.le_refl _) _).alloc (by simp) _
  have H3 := feed_at w.heap.size w.heap.size st0 _ _ s hF ((w.alloc (.cells #[.slice none 0 0, .bool false, .int .i64 0] 84)).alloc (.cells #[.int .i64 0, .string ⟨#[]⟩, .slice none 0 0, .int .i64 0, .int .i64 0] 86)) (hrdr.below ((Below.refl _ _).alloc (Nat.le_refl _) _)) ok_st0 (hT.below hT3 hb0) hT3 hs
  have HF : Hid _ := hF
  have HC3 : Hid _ := hc3
  have HR : Hid _ := hR
  have HTK : Hid _ := htk
  clear hF hR htk hc3
  obtain ⟨i0, hi, hz0, hz1, hz2⟩ := info_parts info40
  go_enter Tryz.func13, Tryz.ntmps13
  go_wp2_with (first | (go_at_call 28; refine (new_any _).mono ?_; rintro e w' ⟨rfl, hw⟩; rw [hw]) | (go_at_call 29; refine (newB_any _).mono ?_; rintro e w' ⟨rfl, hw⟩; rw [hw]) | (go_at_call 30; refine H3.mono ?_))
  rintro e w3 ⟨⟨aoT, nT, capT, rfl, xsT, hoT, hcT⟩, _, hfr⟩
  have hB3 : Below w.heap.size w w3 := hb0.trans hfr.1
  have hz3 := hfr.1.size
  simp at hz3
  have hbld : At (w.heap.size + 1) #[.int .i64 0, .string ⟨#[]⟩, .slice none 0 0, .int .i64 0, .int .i64 0] 86 w3 := by
    have := heap_alloc_new (w.alloc (.cells #[.slice none 0 0, .bool false, .int .i64 0] 84)) (.cells #[.int .i64 0, .string ⟨#[]⟩, .slice none 0 0, .int .i64 0, .int .i64 0] 86)
    simp only [World.size_alloc] at this
    exact hfr.2 _ _ this (by omega) (fun _ _ e => by simp at e)
  have hK3 : BAt w.heap.size (w.heap.size + 1) [w.heap.size + 1] bs0 w3 := bat_none (by omega) rfl hbld
  obtain rfl := owns_n hoT
  obtain ⟨b, hbe⟩ : ∃ b, w.heap.size + 1 = b := ⟨_, rfl⟩
  rw [hbe] at hbld hK3 ⊢
  have HOT : Hid (World.ownsRow _ _ _ _ _ _ _) := hoT
  have HCT : Hid (TokCells _ _ _ _) := hcT
  have HB3 : Hid (Below _ _ _) := hB3
  have HK3 : Hid (BAt _ _ _ _ _) := hK3
  have hbw : b < w3.heap.size := lt_of_heap hbld
  have hbT : b < w.heap.size + 2 := by omega
  clear H3 hoT hcT hfr hbld hrdr hb0 hB3 hK3
  go_wp2_with fail
  go_loopw [9, 10] (fun v i wr => ∃ (j : Nat) (S : Bs) (evs : List (Int × El)) (F : List Nat) (ao : Option Addr) (n cap : Nat) (xs : List Value), j ≤ ts.length ∧ i = .int .i64 j ∧ v = .slice ao n cap ∧ soFar ts j S evs ∧ BOk2 S ∧ textsLe S (j * 2000000) ∧ evs.length ≤ j ∧
      BAt w.heap.size b F S wr ∧ wr.ownsRow w3.heap.size 42 5 (.slice ao n cap) evs.length xs ∧ EvCells (Pf F wr) wr evs xs ∧ (∀ k, (Value.slice ao n cap).ownBlock = some k → k ∉ F) ∧ Wr [b] w3 wr ∧ ∀ k ∈ F, k = b ∨ w3.heap.size ≤ k) (fun _ i _ => ts.length - (intOf i).toNat)
  case atStart => exact ⟨0, bs0, [], [b], none, 0, 0, [], Nat.zero_le _, rfl, rfl, soFar0 ts, bok20, by simp [textsLe, bs0], Nat.le_refl _, HK3.out, World.ownsRow_nil _ _ _ _, rfl, fun k hk => by simp [Value.ownBlock] at hk, Wr.refl _ _, by simp⟩
  case round =>
    obtain ⟨j, S, evs, F, ao, n, cap, xs, hj, rfl, rfl, hso, hok, htx, hel, hB, hown, hev, hnF, hW, hFn⟩ := hrel
    obtain rfl := owns_n hown
    have HSO : Hid (soFar _ _ _ _) := hso
    by_cases hlt : j < ts.length
    · obtain ⟨t, ht⟩ : ∃ t, ts[j]? = some t := ⟨_, List.getElem?_eq_getElem hlt⟩
      have htt := HTK.out t (List.mem_of_getElem? ht)
      obtain ⟨va, x0, x1, x2, x3, hat⟩ := toks_get j HCT.out ht
      obtain ⟨aoa, capa, rfl⟩ := owns_shape hat
      obtain ⟨gT, capT', hvT⟩ := owns_form HOT.out (by omega)
      obtain ⟨rfl, _, rfl⟩ := Value.slice.inj hvT
      have hgT := World.ownsRow.lt HOT.out gT rfl
      simp at hgT
      have sm : wr.heap[gT]? = w3.heap[gT]? := hW.block gT hgT.2 (by simp; omega)
      have y : ∀ o, wr.cell? ⟨gT, o, none⟩ = w3.cell? ⟨gT, o, none⟩ := fun o => World.cell?_of_block (w := w3) sm
      have k0 : wr.cell? ⟨gT, j * 4, none⟩ = some (.int .i64 t.kind) := by rw [y, World.ownsRow.cellAt HOT.out _ (by omega)]; exact x0
      have k1 : wr.cell? ⟨gT, j * 4 + 1, none⟩ = some (.string ⟨t.nm.toArray⟩) := by rw [y, World.ownsRow.cellAt HOT.out _ (by omega)]; exact x1
      have k2 : wr.cell? ⟨gT, j * 4 + 2, none⟩ = some (.slice aoa t.attrs.length capa) := by rw [y, World.ownsRow.cellAt HOT.out _ (by omega)]; exact x2
      have k3 : wr.cell? ⟨gT, j * 4 + 3, none⟩ = some (.string ⟨t.text.toArray⟩) := by rw [y, World.ownsRow.cellAt HOT.out _ (by omega)]; exact x3
      have hrow : Row (fun k => k ∉ F) wr (.slice aoa t.attrs.length capa) t.attrs.length (pairCells t.attrs) := by
        have hl := fun k hk => hat.lt k hk
        simp only [World.size_alloc] at hl
        refine row_owns (owns_same hat fun k hk => hW.block k (hl k hk).2 (by have := hl k hk; simp; omega)) fun k hk hf => ?_
        have h1 := hl k hk
        rcases hFn k hf with h | h <;> omega
      have HT11 := takeB_any hB hok.1 t aoa capa htt.2 hrow (by omega) (fun e he => by have := htx e he; omega)
      have hok2 := takeN_ok S t hok
      have htx2 := takeN_text S t _ htx
      obtain ⟨⟨S', o, f⟩, hTk⟩ : ∃ q, takeN S t = q := ⟨_, rfl⟩
      rw [hTk] at HT11 hok2 htx2
      have hi0 : (0 : Int) ≤ (j : Int) := Int.natCast_nonneg _
      have hi1 : (j : Int) < (ts.length : Int) := by omega
      have HTKN : Hid _ := hTk
      have HT' : Hid _ := ht
      have hle2 := hok2.1.opn
      clear x0 x1 x2 x3 hat hrow sm y hTk ht hso htx hvT
      go_wp2_with (go_at_call 31; refine HT11.mono ?_)
      rintro e w' ⟨F', kk, s1, ao1, n1, cap1, s2, ao2, n2, cap2, ok, rfl, e2, e3, e4, e5⟩
      have hW' : Wr [b] w3 w' := wr_cat hW e4 fun x hx => by rcases hFn x hx with h | h; (exact .inl (by simp [h])); exact .inr h
      have hown' : w'.ownsRow w3.heap.size 42 5 (.slice ao evs.length cap) evs.length xs := owns_same hown fun k hk => e4.block k (hown.lt k hk).2 (hnF k hk)
      have hev' := hev.step (e4.stp e5).rows
      have hFn' : ∀ k ∈ F', k = b ∨ w3.heap.size ≤ k := fun k hk => by
        rcases e5 k hk with h | h
        · exact hFn k h
        · exact .inr (Nat.le_trans hW.size h)
      have hnF' : ∀ k, (Value.slice ao evs.length cap).ownBlock = some k → k ∉ F' := fun k hk h => by
        rcases e5 k h with h | h
        · exact hnF k hk h
        · have := (hown.lt k hk).2
          omega
      have hz' := e4.size
      have hwz := hW.size
      have al : ∀ ob, Below w'.heap.size w' (w'.alloc ob) := fun ob => (Below.refl _ _).alloc (Nat.le_refl _) ob
      have e3a := fun ob => e3.below (al ob)
      have hD := fun ob => depth_any w.heap.size b F' S' (w'.alloc ob) (e3a ob) hle2
      have fin : ∀ W, Wr [b] w3 W → Below w.heap.size w W := fun W h => (Below.trans HB3.out (h.below (by have := HB3.out.size; omega) (by simp; omega)))
      have FIN : Hid _ := fin
      have E3 : Hid (∀ ob, BAt w.heap.size b F' S' (w'.alloc ob)) := e3a
      have HOW : Hid (World.ownsRow _ _ _ _ _ _ _) := hown'
      have HEV : Hid (EvCells _ _ _ _) := hev'
      have HWP : Hid (Wr _ _ _) := hW'
      have E2 : Hid (EvOk _ _ _ _ _ _ _ _ _) := e2
      have HOK2 : Hid (BOk2 S') := hok2
      have HTX2 : Hid (textsLe _ _) := htx2
      have HNF : Hid _ := hnF'
      have HFN : Hid _ := hFn'
      clear e2 e3 e3a e4 e5 hown' hev' hW' hown hev hW hnF hFn hnF' hFn' fin hok2 htx2 HT11 hB hok
      by_cases hf : f = 0
      · subst hf
        cases o with
        | none =>
          obtain ⟨rfl, o1, o2, o3, o4, rfl⟩ := E2.out
          cases o1
          cases o2
          cases o3
          cases o4
          go_wp2_with fail
          go_roundw
          case rel =>
            refine ⟨j + 1, S', evs, F', ao, evs.length, cap, xs, by omega, by go_num, rfl, ?_, HOK2.out, fun e he => by have := HTX2.out e he; omega, by omega, E3.out _, World.ownsRow.alloc HOW.out _, EvCells.step (Stp.of_below (al _)).rows HEV.out, HNF.out, Wr.alloc HWP.out _, HFN.out⟩
            have := soFar_step HSO.out HT'.out (by rw [HTKN.out])
            rw [HTKN.out] at this
            simpa using this
          case measure => simp [intOf]; omega
        | some p =>
          obtain ⟨kp, el⟩ := p
          obtain ⟨rfl, hEl, rfl⟩ := E2.out
          go_wp2_with (at_builtin; refine wpList_append_own_at _ rfl _ _ 38 rfl w3.heap.size 42 i0 _ 5 88 Tryz.underlying38 hi hz0 hz1 hz2 rfl (by decide) _ _ _ rfl (World.ownsRow.alloc (World.ownsRow.alloc HOW.out _) _) ⟨w'.heap.size + 1, 0, none⟩ 1 1 [.int .i64 kk, .string s1, .slice ao1 n1 cap1, .string s2, .slice ao2 n2 cap2] rfl rfl ?c1 ?c2 ?c3 ?c4 ?c5 ?_)
          case c1 => exact World.news_of_block (cs := #[.int .i64 kk, .string s1, .slice ao1 n1 cap1, .string s2, .slice ao2 n2 cap2]) (t := 42) (fr := (0, 0)) (by have := heap_alloc_new (w'.alloc (.cells #[.int .i64 kk, .string s1, .slice ao1 n1 cap1, .string s2, .slice ao2 n2 cap2] 69)) (.cells #[.int .i64 kk, .string s1, .slice ao1 n1 cap1, .string s2, .slice ao2 n2 cap2] 42); simp only [World.size_alloc] at this; exact this)
          case c2 =>
            intro u hu
            simp at hu
            rcases hu with rfl | rfl | rfl | rfl | rfl <;> rfl
          case c3 => unfold maxLen; omega
          case c4 => omega
          case c5 => simp; omega
          intro v1 w4 hown4 hgrow4 _ hloc
          obtain ⟨aoN, capN, rfl⟩ := owns_shape hown4
          obtain ⟨Z, hZ⟩ : ∃ Z, Z = (w'.alloc (.cells #[.int .i64 kk, .string s1, .slice ao1 n1 cap1, .string s2, .slice ao2 n2 cap2] 69)).alloc (.cells #[.int .i64 kk, .string s1, .slice ao1 n1 cap1, .string s2, .slice ao2 n2 cap2] 42) := ⟨_, rfl⟩
          have hbZ : Below w'.heap.size w' Z := by rw [hZ]; exact (al _).alloc (by simp) _
          have hZs : Z.heap.size = w'.heap.size + 2 := by rw [hZ]; simp
          rw [← hZ] at hgrow4
          have hoZ : Z.ownsRow w3.heap.size 42 5 (.slice ao evs.length cap) evs.length xs := owns_below HOW.out hbZ
          have eB : BAt w.heap.size b F' S' Z := by rw [hZ]; exact (E3.out _).below ((Below.refl _ _).alloc (Nat.le_refl _) _)
          have hL : ∀ r ∈ (Value.slice ao evs.length cap).ownBlock.toList, r < Z.heap.size → ∃ cs fz, Z.heap[r]? = some (.cells cs 42 fz) := fun r hr _ => by
            have hr' : (Value.slice ao evs.length cap).ownBlock = some r := by simpa using hr
            rcases hoZ.2 with ⟨q1, _⟩ | ⟨g, cp, cur, q1, _, q3, _⟩
            · rw [q1] at hr'; simp [Value.ownBlock] at hr'
            · rw [q1] at hr'; simp [Value.ownBlock] at hr'; subst hr'; exact ⟨_, _, q3⟩
          have hw4 : Wr (Value.slice ao evs.length cap).ownBlock.toList Z w4 := (Wr.refl _ Z).grown hgrow4 fun k hk => .inl (by simp [hk])
          have b4 := bat_wr40 eB hL hw4 fun r hr => HNF.out r (by simpa using hr)
          have ev4 : EvCells (Pf F' w4) w4 evs xs := EvCells.step (rows_wr40 hL hw4) (EvCells.step (Stp.of_below hbZ).rows HEV.out)
          have el4' : ElE (Pf F' w4) w4 el (.string s1) (.slice ao1 n1 cap1) (.string s2) (.slice ao2 n2 cap2) := (hEl.step (Stp.of_below hbZ).rows).step (rows_wr40 hL hw4)
          have W4 : Wr [b] w3 w4 := wr_cat (wr_cat HWP.out (Wr.of_below (L := []) hbZ) (by simp)) hw4 fun x hx => .inr (by have := (hoZ.lt x (by simpa using hx)).1; exact this)
          have HO4 : Hid (World.ownsRow _ _ _ _ _ _ _) := hown4
          have hlocF : ∀ k, (Value.slice aoN (evs.length + 1) capN).ownBlock = some k → k ∉ F' := fun k hk hf => by
            rcases hloc with h | h
            · exact HNF.out k (h.symm.trans hk) hf
            · have e := Option.some.inj (h.symm.trans hk)
              have h1 := ((E3.out (.cells #[] 69)).lt k hf).2
              simp at h1 e
              omega
          have B4 : Hid (BAt _ _ _ _ _) := b4
          have EV4 : Hid (EvCells _ _ _ _) := ev4
          have EL4 : Hid (ElE _ _ _ _ _ _ _) := el4'
          have W4' : Hid (Wr _ _ _) := W4
          have HLF : Hid _ := hlocF
          clear b4 ev4 el4' W4 hlocF hown4 hgrow4 hloc hoZ eB hL hw4 hbZ hZ
          go_wp2_with fail
          go_roundw
          case rel =>
            refine ⟨j + 1, S', evs ++ [(kk, el)], F', aoN, _, capN, _, by omega, by go_num, rfl, ?_, HOK2.out, fun e he => by have := HTX2.out e he; omega, by simp; omega, B4.out, by rw [List.length_append]; exact HO4.out, EvCells.app EV4.out ⟨_, _, _, _, [], rfl, EL4.out, rfl⟩, HLF.out, W4'.out, HFN.out⟩
            have := soFar_step HSO.out HT'.out (by rw [HTKN.out])
            rw [HTKN.out] at this
            exact this
          case measure => simp [intOf]; omega
      · have hf' : (f != 0) = true := by simpa using hf
        have hrb := soFar_err HSO.out HT'.out (by rw [HTKN.out]; exact hf)
        rw [HTKN.out, HR.out] at hrb
        simp only [Prod.mk.injEq] at hrb
        obtain ⟨rfl, rfl, rfl⟩ := hrb
        have hc3 : c3 = c2 := by rw [HC3.out, if_neg hf]
        subst hc3
        go_wp2_with (go_at_call 32; refine (hD _).mono ?_; rintro e w'' ⟨rfl, hw⟩; rw [hw])
        exact bodyPost_ret (v := .tuple #[.slice ao evs2.length cap, .int .i64 c3, .int .i64 (depthN S2)]) (by simp [results, Tryz.results13, go_sem]) rfl
          ⟨ao, _, cap, xs, rfl, owns_base (World.ownsRow.alloc HOW.out _) (by have := HB3.out.size; omega), EvCells.step (fun k _ hl => ⟨trivial, (al _).block k hl⟩) HEV.out, FIN.out _ (Wr.alloc HWP.out _)⟩
    · have hjn : j = ts.length := by omega
      subst hjn
      have hrb := soFar_end HSO.out
      rw [HR.out] at hrb
      simp only [Prod.mk.injEq] at hrb
      obtain ⟨rfl, rfl, rfl⟩ := hrb
      have hc3 : c3 = er := by rw [HC3.out, if_pos rfl]
      subst hc3
      have hD := depth_any w.heap.size b F S2 wr hB hok.1.opn
      have HOW : Hid (World.ownsRow _ _ _ _ _ _ _) := hown
      have HEV : Hid (EvCells _ _ _ _) := hev
      have HWP : Hid (Wr _ _ _) := hW
      have hwz := hW.size
      clear hown hev hW hB hso
      go_wp2_with (go_at_call 32; refine hD.mono ?_; rintro e w'' ⟨rfl, hw⟩; rw [hw])
      exact bodyPost_ret (v := .tuple #[.slice ao evs2.length cap, .int .i64 c3, .int .i64 (depthN S2)]) (by simp [results, Tryz.results13, go_sem]) rfl
        ⟨ao, _, cap, xs, rfl, owns_base HOW.out (by have := HB3.out.size; omega), EvCells.step (fun k _ _ => ⟨trivial, rfl⟩) HEV.out, Below.trans HB3.out (Wr.below HWP.out (by have := HB3.out.size; omega) (by simp; omega))⟩
end Go.Proofs.YthekdgnikkjpdaaGreatDoor
