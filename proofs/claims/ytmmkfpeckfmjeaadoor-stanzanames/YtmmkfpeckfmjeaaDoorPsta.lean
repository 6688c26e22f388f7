/-
  Plain mathematics, no program: users, addresses, words, and the shapes of the elements that are stanzas.
-/
import Derived.Test.YtmmkfpeckfmjeaaDoorTst
import Derived.Test.YtmmkfpeckfmjeaaDoorMathb
import Derived.Test.YtmmkfpeckfmjeaaDoorNumb
namespace Go.Proofs.YtmmkfpeckfmjeaaDoor
def lowB (b : UInt8) : Bool := decide (97 ≤ b.toNat ∧ b.toNat ≤ 122) || decide (48 ≤ b.toNat ∧ b.toNat ≤ 57)
def userN (s : List UInt8) : Bool := decide (1 ≤ s.length) && (decide (s.length ≤ 16) && s.all lowB)
/-- What lies ahead of the first stroke, what lies behind it, and whether there is one. -/
def cutN : List UInt8 → List UInt8 × List UInt8 × Bool
  | [] => ([], [], false)
  | b :: r => if b == 47 then ([], r, true) else (b :: (cutN r).1, (cutN r).2.1, (cutN r).2.2)
def addrOk (s : List UInt8) : Bool := userN (cutN s).1 && (!(cutN s).2.2 || userN (cutN s).2.1)
def wordN (s : List UInt8) : Bool := decide (1 ≤ s.length) && (decide (s.length ≤ 40) && right s)
def numN (s : List UInt8) : Bool := (readN s).isSome
def verN (s : List UInt8) : Bool := match readN s with
  | some n => decide (1 ≤ n) && decide (n ≤ 1000000)
  | none => false
structure Fd where
  nm : List UInt8
  p : List UInt8 → Bool
  must : Bool
structure Nst where
  nm : List UInt8
  fds : List Fd
  text : List UInt8 → Bool
  least : Nat
  most : Nat
  kids : List Nst
def oneN (l : List (List UInt8)) (s : List UInt8) : Bool := l.contains s
def bareS (nm : List UInt8) (fds : List Fd) : Nst := ⟨nm, fds, oneN [[]], 0, 0, []⟩
def sayS (nm : List UInt8) (t : List UInt8 → Bool) : Nst := ⟨nm, [], t, 0, 0, []⟩
def Nst.around (s : Nst) (least most : Nat) (k : Nst) : Nst := ⟨s.nm, s.fds, s.text, least, most, [k]⟩
def iqS (kind : List UInt8) : Nst := bareS [105, 113] [⟨[116, 121, 112, 101], oneN [kind], true⟩, ⟨[105, 100], wordN, true⟩]
def itemS (subs : List (List UInt8)) : Nst := bareS [105, 116, 101, 109] [⟨[106, 105, 100], userN, true⟩, ⟨[110, 97, 109, 101], wordN, false⟩, ⟨[115, 117, 98, 115, 99, 114, 105, 112, 116, 105, 111, 110], oneN subs, false⟩, ⟨[97, 115, 107], oneN [[115, 117, 98, 115, 99, 114, 105, 98, 101]], false⟩]
def verF : Fd := ⟨[118, 101, 114], verN, true⟩
def maybeVerF : Fd := ⟨[118, 101, 114], verN, false⟩
def hF : Fd := ⟨[104], numN, true⟩
def prevF : Fd := ⟨[112, 114, 101, 118, 105, 100], wordN, true⟩
def typeL : List (List UInt8) := [[117, 110, 97, 118, 97, 105, 108, 97, 98, 108, 101], [115, 117, 98, 115, 99, 114, 105, 98, 101], [115, 117, 98, 115, 99, 114, 105, 98, 101, 100], [117, 110, 115, 117, 98, 115, 99, 114, 105, 98, 101], [117, 110, 115, 117, 98, 115, 99, 114, 105, 98, 101, 100]]
def showL : List (List UInt8) := [[97, 119, 97, 121], [99, 104, 97, 116], [100, 110, 100], [120, 97]]
def subL : List (List UInt8) := [[116, 111], [102, 114, 111, 109], [98, 111, 116, 104]]
def setL : List (List UInt8) := [[116, 111], [102, 114, 111, 109], [98, 111, 116, 104], [114, 101, 109, 111, 118, 101]]
def queryNm : List UInt8 := [113, 117, 101, 114, 121]
/-- The chapter's table, by kinds. -/
def shapeN : Nat → Nst
  | 1 => (bareS [112, 114, 101, 115, 101, 110, 99, 101] [⟨[116, 121, 112, 101], oneN typeL, false⟩, ⟨[102, 114, 111, 109], addrOk, false⟩, ⟨[116, 111], addrOk, false⟩]).around 0 1 (sayS [115, 104, 111, 119] (oneN showL))
  | 2 => (iqS [103, 101, 116]).around 1 1 (bareS queryNm [maybeVerF])
  | 3 => (iqS [115, 101, 116]).around 1 1 ((bareS queryNm [maybeVerF]).around 1 1 (itemS setL))
  | 4 => (iqS [114, 101, 115, 117, 108, 116]).around 0 1 ((bareS queryNm [verF]).around 0 16 (itemS subL))
  | 5 => (iqS [101, 114, 114, 111, 114]).around 1 1 (sayS [101, 114, 114, 111, 114] wordN)
  | 6 => bareS [101, 110, 97, 98, 108, 101] []
  | 7 => bareS [101, 110, 97, 98, 108, 101, 100] [⟨[105, 100], wordN, true⟩]
  | 8 => bareS [114] []
  | 9 => bareS [97] [hF]
  | 10 => bareS [114, 101, 115, 117, 109, 101] [hF, prevF]
  | 11 => bareS [114, 101, 115, 117, 109, 101, 100] [hF, prevF]
  | 12 => bareS [102, 97, 105, 108, 101, 100] []
  | 13 => bareS [97, 99, 116, 105, 118, 101] []
  | _ => bareS [105, 110, 97, 99, 116, 105, 118, 101] []
/-- The value of the first attribute of a name. -/
def attrN (l : List (List UInt8 × List UInt8)) (n : List UInt8) : Option (List UInt8) := match l with
  | [] => none
  | p :: r => if p.1 == n then some p.2 else attrN r n
def fdOk (l : List (List UInt8 × List UInt8)) (f : Fd) : Bool := match attrN l f.nm with
  | some v => f.p v
  | none => !f.must
def knownN (l : List (List UInt8 × List UInt8)) : List Fd → Nat
  | [] => 0
  | f :: r => (if (attrN l f.nm).isSome then 1 else 0) + knownN l r
def fitsN (s : Nst) (e : El) : Bool := (e.nm == s.nm) && (s.text e.text && (s.fds.all (fdOk e.attrs) && (knownN e.attrs s.fds == e.attrs.length)))
def fitsW : Nat → Nst → El → Bool
  | 0, _, _ => false
  | n + 1, s, e => fitsN s e && (decide (s.least ≤ e.kids.length) && (decide (e.kids.length ≤ s.most) && s.kids.all fun k => e.kids.all (fitsW n k)))
end Go.Proofs.YtmmkfpeckfmjeaaDoor
