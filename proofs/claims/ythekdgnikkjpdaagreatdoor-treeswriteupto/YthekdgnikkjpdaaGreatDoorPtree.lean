/-
  Plain mathematics, of no program: elements, and what a builder's state becomes behind each token.
-/
import Derived.Test.YthekdgnikkjpdaaGreatDoorPtag
namespace Go.Proofs.YthekdgnikkjpdaaGreatDoor
structure El where
  nm : List UInt8
  attrs : List (List UInt8 × List UInt8)
  text : List UInt8
  kids : List El
def el0 : El := ⟨[], [], [], []⟩
def elOf (t : Tok) : El := ⟨t.nm, t.attrs, [], []⟩
/-- At most n deep. -/
def deepN : Nat → El → Prop
  | 0, _ => False
  | n + 1, e => ∀ k ∈ e.kids, deepN n k
theorem deepN_mono : ∀ {n m : Nat} {e : El}, n ≤ m → deepN n e → deepN m e
  | 0, _, _, _, h => h.elim
  | n + 1, 0, _, h, _ => by omega
  | n + 1, m + 1, _, h, k => fun x hx => deepN_mono (Nat.le_of_succ_le_succ h) (k x hx)
/-- A builder: how far it has come, the stream's name, the open elements (the innermost last), the item's tokens, its error. -/
structure Bs where
  stage : Int
  stream : List UInt8
  opn : List El
  taken : Int
  failed : Int
def bs0 : Bs := ⟨0, [], [], 0, 0⟩
def lastE (l : List El) : El := l.getLastD el0
def blankT (l : List UInt8) : Bool := l.all bl
def innerN (S : Bs) : List UInt8 := if S.opn.isEmpty then S.stream else (lastE S.opn).nm
def faultN (S : Bs) (t : Tok) : Int :=
  if (S.stage = 0 ∧ t.kind ≠ 1) ∨ S.stage = 2 ∨ t.kind < 1 ∨ 3 < t.kind then 3
  else if S.opn ≠ [] ∧ S.taken = 64 then 4
  else if t.kind = 2 ∧ t.nm ≠ innerN S then 3
  else if t.kind = 3 ∧ S.opn = [] ∧ blankT t.text = false then 3
  else if t.kind = 1 ∧ S.opn.length = 4 then 5
  else if t.kind = 1 ∧ S.opn ≠ [] ∧ (lastE S.opn).kids.length = 16 then 4
  else 0
/-- An element with a text more. -/
def El.say (e : El) (x : List UInt8) : El := ⟨e.nm, e.attrs, e.text ++ x, e.kids⟩
def El.put (e k : El) : El := ⟨e.nm, e.attrs, e.text, e.kids ++ [k]⟩
/-- The innermost element shut: what is open then, and the item, if it is whole. -/
def shutN (l : List El) : List El × Option El :=
  if l.length ≤ 1 then ([], some (lastE l)) else (l.dropLast.dropLast ++ [(lastE l.dropLast).put (lastE l)], none)
def addN (S : Bs) (t : Tok) : Bs × Option (Int × El) :=
  if S.opn.isEmpty then
    if S.stage = 0 then (⟨1, t.nm, S.opn, S.taken, S.failed⟩, some (1, elOf t))
    else if t.kind = 1 then (⟨S.stage, S.stream, [elOf t], 1, S.failed⟩, none)
    else if t.kind = 2 then (⟨2, [], S.opn, S.taken, S.failed⟩, some (3, el0))
    else (S, none)
  else if t.kind = 1 then (⟨S.stage, S.stream, S.opn ++ [elOf t], S.taken + 1, S.failed⟩, none)
  else if t.kind = 3 then (⟨S.stage, S.stream, S.opn.dropLast ++ [(lastE S.opn).say t.text], S.taken + 1, S.failed⟩, none)
  else if t.kind = 2 then (⟨S.stage, S.stream, (shutN S.opn).1, S.taken + 1, S.failed⟩, (shutN S.opn).2.map fun e => (2, e))
  else (⟨S.stage, S.stream, S.opn, S.taken + 1, S.failed⟩, none)
/-- A token taken: the state, the event, the error. -/
def takeN (S : Bs) (t : Tok) : Bs × Option (Int × El) × Int :=
  if S.failed = 0 then
    if faultN S t = 0 then ((addN S t).1, (addN S t).2, 0) else (⟨S.stage, [], [], S.taken, faultN S t⟩, none, faultN S t)
  else (⟨S.stage, [], [], S.taken, S.failed⟩, none, S.failed)
def depthN (S : Bs) : Int := if S.failed = 0 ∧ S.stage = 1 then 1 + S.opn.length else 0
/-- What holds of every builder that was made and has taken. -/
structure BOk (S : Bs) : Prop where
  stage : S.stage = 0 ∨ S.stage = 1 ∨ S.stage = 2
  opn : S.opn.length ≤ 4
  open1 : S.opn ≠ [] → S.stage = 1
  taken : 0 ≤ S.taken ∧ S.taken ≤ 64
  failed : S.failed = 0 ∨ S.failed = 3 ∨ S.failed = 4 ∨ S.failed = 5
  nofail : S.failed ≠ 0 → S.opn = []
  kids : ∀ e ∈ S.opn, e.kids.length ≤ 16
end Go.Proofs.YthekdgnikkjpdaaGreatDoor
