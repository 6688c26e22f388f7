/-
  Plain mathematics, of no program: what the bytes of a text and of a tag make, and what a reader's state becomes behind each byte.
-/
import Derived.Test.YthekdgnikkjpdaaGreatDoorAnyb
namespace Go.Proofs.YthekdgnikkjpdaaGreatDoor
structure Tok where
  kind : Int
  nm : List UInt8
  attrs : List (List UInt8 × List UInt8)
  text : List UInt8
/-- What others stand for: the text, and the error (0: none). -/
def un (l : List UInt8) : List UInt8 × Int := if right l then (match unesc l with | some r => (r, 0) | none => ([], 3)) else ([], 2)
def textN (l : List UInt8) : List Tok × Int :=
  if l.isEmpty then ([], 0) else if (un l).2 = 0 then ([⟨3, [], [], (un l).1⟩], 0) else ([], (un l).2)
def endN (l : List UInt8) : List Tok × Int := if name (trimR l) then ([⟨2, trimR l, [], []⟩], 0) else ([], 3)
def quo (q : UInt8) : Bool := q == 34 || q == 39
/-- An attribute at the beginning: its name and value, what stands behind it, and the error. -/
def attrN (l : List UInt8) : (List UInt8 × List UInt8) × List UInt8 × Int :=
  if name (cutA 61 l) then
    match cutZ 61 l with
    | [] => (([], []), [], 3)
    | q :: t =>
      if quo q then
        if cutB q t then
          if (un (cutA q t)).2 = 0 then ((cutA 61 l, (un (cutA q t)).1), cutZ q t, 0) else (([], []), [], (un (cutA q t)).2)
        else (([], []), [], 3)
      else (([], []), [], 3)
  else (([], []), [], 3)
def known (n : List UInt8) (acc : List (List UInt8 × List UInt8)) : Bool := acc.any fun p => p.1 == n
def attrsN : Nat → List (List UInt8 × List UInt8) → List UInt8 → List (List UInt8 × List UInt8) × Int
  | 0, _, _ => ([], 3)
  | f + 1, acc, s =>
    if (trimL s).isEmpty then (acc, 0)
    else if (trimL s).length = s.length ∨ acc.length = 6 then ([], 3)
    else if (attrN (trimL s)).2.2 = 0 then
      if known (attrN (trimL s)).1.1 acc then ([], 3) else attrsN f (acc ++ [(attrN (trimL s)).1]) (attrN (trimL s)).2.1
    else ([], (attrN (trimL s)).2.2)
def noBl (l : List UInt8) : List UInt8 := l.takeWhile fun c => !bl c
def beginN (l : List UInt8) : Tok × Int :=
  if name (noBl l) then
    if (attrsN (l.length + 1) [] (l.drop (noBl l).length)).2 = 0 then (⟨1, noBl l, (attrsN (l.length + 1) [] (l.drop (noBl l).length)).1, []⟩, 0)
    else (⟨0, [], [], []⟩, (attrsN (l.length + 1) [] (l.drop (noBl l).length)).2)
  else (⟨0, [], [], []⟩, 3)
def bareN (l : List UInt8) : List Tok × Int := if (beginN l).2 = 0 then ([(beginN l).1], 0) else ([], (beginN l).2)
def bothN (l : List UInt8) : List Tok × Int := if (beginN l).2 = 0 then ([(beginN l).1, ⟨2, (beginN l).1.nm, [], []⟩], 0) else ([], (beginN l).2)
def tagN (l : List UInt8) : List Tok × Int :=
  if right l then
    if Lib.hasPrefix l [47] then endN (Lib.trimPrefix l [47])
    else if Lib.hasSuffix l [47] then bothN (Lib.trimSuffix l [47]) else bareN (Lib.trimSuffix l [47])
  else ([], 2)
/-- A reader: the bytes that it holds, whether it is within a tag, its error. -/
structure St where
  held : List UInt8
  tag : Bool
  err : Int
def st0 : St := ⟨[], false, 0⟩
/-- One byte, read by a reader without an error, as the reader's own call leaves it: the held bytes, the mark, the tokens, and the error. -/
def readN (h : List UInt8) (t : Bool) (c : UInt8) : List UInt8 × Bool × List Tok × Int :=
  if c = 60 then
    if t then (h, t, [], 3) else ([], true, textN h)
  else if c = 62 ∧ t = true then ([], false, tagN h)
  else if h.length = 512 then (h, t, [], 4) else (h ++ [c], t, [], 0)
def stepN (s : St) (c : UInt8) : St × List Tok :=
  if s.err = 0 then
    (⟨if (readN s.held s.tag c).2.2.2 = 0 then (readN s.held s.tag c).1 else [], (readN s.held s.tag c).2.1, (readN s.held s.tag c).2.2.2⟩, (readN s.held s.tag c).2.2.1)
  else (s, [])
def feedN : St → List UInt8 → St × List Tok
  | s, [] => (s, [])
  | s, c :: l => ((feedN (stepN s c).1 l).1, (stepN s c).2 ++ (feedN (stepN s c).1 l).2)
theorem feedN_app (a b : List UInt8) : ∀ s, feedN s (a ++ b) = ((feedN (feedN s a).1 b).1, (feedN s a).2 ++ (feedN (feedN s a).1 b).2) := by
  induction a with
  | nil => intro s; rfl
  | cons c a ih => intro s; simp [feedN, ih]
theorem stepN_err (s : St) (c : UInt8) (h : s.err ≠ 0) : stepN s c = (s, []) := by simp [stepN, h]
theorem feedN_err (l : List UInt8) (s : St) (h : s.err ≠ 0) : feedN s l = (s, []) := by
  induction l with
  | nil => rfl
  | cons c l ih => simp [feedN, stepN_err s c h, ih]
theorem un_err (l : List UInt8) : (un l).2 = 0 ∨ (un l).2 = 2 ∨ (un l).2 = 3 := by
  unfold un
  split
  · cases unesc l <;> simp
  · simp
theorem textN_err (l : List UInt8) : (textN l).2 = 0 ∨ (textN l).2 = 2 ∨ (textN l).2 = 3 := by
  unfold textN
  split
  · simp
  · split
    · simp
    · exact un_err l
theorem attrN_err (l : List UInt8) : (attrN l).2.2 = 0 ∨ (attrN l).2.2 = 2 ∨ (attrN l).2.2 = 3 := by
  unfold attrN
  split
  · split
    · simp
    · split
      · split
        · split
          · simp
          · exact un_err _
        · simp
      · simp
  · simp
theorem attrsN_err : ∀ f acc l, (attrsN f acc l).2 = 0 ∨ (attrsN f acc l).2 = 2 ∨ (attrsN f acc l).2 = 3
  | 0, _, _ => .inr (.inr rfl)
  | f + 1, acc, l => by
    unfold attrsN
    split
    · simp
    · split
      · simp
      · split
        · split
          · simp
          · exact attrsN_err f _ _
        · exact attrN_err _
theorem beginN_err (l : List UInt8) : (beginN l).2 = 0 ∨ (beginN l).2 = 2 ∨ (beginN l).2 = 3 := by
  unfold beginN
  split
  · split
    · simp
    · exact attrsN_err _ _ _
  · simp
theorem tagN_err (l : List UInt8) : (tagN l).2 = 0 ∨ (tagN l).2 = 2 ∨ (tagN l).2 = 3 := by
  unfold tagN
  split
  · split
    · unfold endN; split <;> simp
    · split
      · unfold bothN; split
        · simp
        · exact beginN_err _
      · unfold bareN; split
        · simp
        · exact beginN_err _
  · simp
/-- What holds of every reader that was made and fed. -/
structure Ok (s : St) : Prop where
  held : s.held.length ≤ 512
  err : s.err = 0 ∨ s.err = 2 ∨ s.err = 3 ∨ s.err = 4
  none : s.err ≠ 0 → s.held = []
theorem ok_st0 : Ok st0 := ⟨by simp [st0], .inl rfl, fun _ => rfl⟩
theorem readN_ok (h : List UInt8) (t : Bool) (c : UInt8) (hl : h.length ≤ 512) :
    (readN h t c).1.length ≤ 512 ∧ ((readN h t c).2.2.2 = 0 ∨ (readN h t c).2.2.2 = 2 ∨ (readN h t c).2.2.2 = 3 ∨ (readN h t c).2.2.2 = 4) := by
  unfold readN
  split
  · split
    · exact ⟨hl, by simp⟩
    · have := textN_err h
      exact ⟨by simp, by rcases this with e | e | e <;> simp [e]⟩
  · split
    · have := tagN_err h
      exact ⟨by simp, by rcases this with e | e | e <;> simp [e]⟩
    · split
      · exact ⟨hl, by simp⟩
      · exact ⟨by simp; omega, by simp⟩
theorem ok_step (s : St) (c : UInt8) (h : Ok s) : Ok (stepN s c).1 := by
  have k := readN_ok s.held s.tag c h.held
  unfold stepN
  split
  · refine ⟨?_, k.2, fun e => if_neg e⟩
    show (if _ then _ else _ : List UInt8).length ≤ 512
    split
    · exact k.1
    · simp
  · exact h
theorem ok_feed (l : List UInt8) : ∀ s, Ok s → Ok (feedN s l).1 := by
  induction l with
  | nil => intro s h; exact h
  | cons c l ih => intro s h; exact ih _ (ok_step s c h)
theorem feedN_snoc (l : List UInt8) (c : UInt8) (s : St) : feedN s (l ++ [c]) = ((stepN (feedN s l).1 c).1, (feedN s l).2 ++ (stepN (feedN s l).1 c).2) := by
  rw [feedN_app]
  simp [feedN]
end Go.Proofs.YthekdgnikkjpdaaGreatDoor
