/-
  NARROWER THAN 'FOR EVERY INPUT', by the rows' own cells (each row's printed sentence says how): SignsRight: laid · SignsEscape: laid · SignsBack: laid · SignsPieces: laid · SignsWhole: laid · SignsNames: laid.
  DERIVED. THE GIVEN ROWS OF THIS SEAT. 6 by the template 'for every input the law returns true; each argument reads behind the call as it read before'; 0 by the template 'total and deterministic' (their statements: YtjhiebpehpaapaaDoorTotals.lean).
  GIVEN WITH THE SEED: the statements are not yours to turn. If you find one false, say at which input.
  Laid BY PROGRAM, IN A SANDBOX (cutbox-rows.mjs): the forced cells as the released guide's own fill.sh prints them over the translation edf421f46bf91715… (all of the seat's roots in one cut). By AI agents, Wed Nov 11 2026. No macro, syntax, notation, axiom, sorry.
-/
import Derived.Test.YtjhiebpehpaapaaDoorChecked
import GoSem.PinnedTables
import GoSem.Claim
import GoSem.ClaimJoined
import GoSem.ClaimMapViews
import Derived.JoinedTies
import Derived.KernelRfl
namespace Go.Proofs.YtjhiebpehpaapaaDoor
/- THE CELL 'sum', in the pinned program and in every row, IS THE sha256 OF THE DUMP (.gsa) THAT YtjhiebpehpaapaaDoorProg.lean LOADS. Nothing in Lean hashes anything: it is a label: what it is worth is what the hold of that sum in a sandbox is worth. -/
noncomputable def Tryd.pinned : Pinned := { name := "ytjhiebpehpaapaadoor", sum := "edf421f46bf917159ecc1cd8fed39c65c2e0916b86b2f9ffe4788f83a4806365", checked := Tryd.checked }
namespace Rows
def none {H : Type} : Left H := { results := [], args := [] }

/- WHAT THE LISTED PACKAGE-LEVEL VARIABLES READ AS WHEN THE CALL BEGINS. Each datum BY PROGRAM (the guide's laid-datum.mjs) off the statement by which the dump's own 'gosem.cut.vars' lays the variable. In a bare row this is a premise. The card (YtjhiebpehpaapaaDoorCards.lean) ties it to the program's text. -/
def laid_unicode_utf8_acceptRanges {H : Type} : DataW H := .agg [.agg [.lit (.int .u8 128), .lit (.int .u8 191)], .agg [.lit (.int .u8 160), .lit (.int .u8 191)], .agg [.lit (.int .u8 128), .lit (.int .u8 159)], .agg [.lit (.int .u8 144), .lit (.int .u8 191)], .agg [.lit (.int .u8 128), .lit (.int .u8 143)], .agg [.lit (.int .u8 0), .lit (.int .u8 0)], .agg [.lit (.int .u8 0), .lit (.int .u8 0)], .agg [.lit (.int .u8 0), .lit (.int .u8 0)], .agg [.lit (.int .u8 0), .lit (.int .u8 0)], .agg [.lit (.int .u8 0), .lit (.int .u8 0)], .agg [.lit (.int .u8 0), .lit (.int .u8 0)], .agg [.lit (.int .u8 0), .lit (.int .u8 0)], .agg [.lit (.int .u8 0), .lit (.int .u8 0)], .agg [.lit (.int .u8 0), .lit (.int .u8 0)], .agg [.lit (.int .u8 0), .lit (.int .u8 0)], .agg [.lit (.int .u8 0), .lit (.int .u8 0)]]
def laid_tidewater_signs_standIns {H : Type} : DataW H := .agg [.agg [.lit (.int .i32 38), .lit (.string [38, 97, 109, 112, 59])], .agg [.lit (.int .i32 60), .lit (.string [38, 108, 116, 59])], .agg [.lit (.int .i32 62), .lit (.string [38, 103, 116, 59])], .agg [.lit (.int .i32 34), .lit (.string [38, 113, 117, 111, 116, 59])], .agg [.lit (.int .i32 39), .lit (.string [38, 97, 112, 111, 115, 59])]]
/-- One of Go's own tables, pinned by name: the form's constant. -/
def laid_unicode_utf8_first : DataW Unit := Go.Pinned.utf8First

/-- 'tidewaterlaw01.SignsRight': WHATEVER THE INPUT: true; the input reads as it did. -/
def signsRightSpec : ChangeSpec := { name := "signsRight", fn := fun _ => fun
  | [d] => { results := [.lit (.bool true)], args := [d] }
  | _ => none }
def signsRightRow : OpenClaim := { program := "ytjhiebpehpaapaadoor", sum := "edf421f46bf917159ecc1cd8fed39c65c2e0916b86b2f9ffe4788f83a4806365", func := "tidewater/tidewaterlaw01.SignsRight", spec := "signsRight", inPlace := ["internal/abi.NoEscape"], named := ["unicode/utf8.first", "unicode/utf8.acceptRanges", "tidewater/signs.standIns"], apart := false, laid := [("unicode/utf8.acceptRanges", laid_unicode_utf8_acceptRanges), ("tidewater/signs.standIns", laid_tidewater_signs_standIns), ("unicode/utf8.first", laid_unicode_utf8_first)] }
def SignsRightSaid : Prop := signsRightRow.holds Tryd.pinned (OpenSpec.ofChange signsRightSpec)

/-- ITS FALSE NEIGHBOUR: 'it returns false'. Refute it at one input. -/
def signsRightWrong : ChangeSpec := { name := "signsRight", fn := fun _ => fun
  | [d] => { results := [.lit (.bool false)], args := [d] }
  | _ => none }
def SignsRightWrongFalsely : Prop := signsRightRow.holds Tryd.pinned (OpenSpec.ofChange signsRightWrong)

/-- 'tidewaterlaw01.SignsEscape': WHATEVER THE INPUT: true; the input reads as it did. -/
def signsEscapeSpec : ChangeSpec := { name := "signsEscape", fn := fun _ => fun
  | [d1, d2] => { results := [.lit (.bool true)], args := [d1, d2] }
  | _ => none }
def signsEscapeRow : OpenClaim := { program := "ytjhiebpehpaapaadoor", sum := "edf421f46bf917159ecc1cd8fed39c65c2e0916b86b2f9ffe4788f83a4806365", func := "tidewater/tidewaterlaw01.SignsEscape", spec := "signsEscape", inPlace := ["internal/abi.NoEscape"], named := ["unicode/utf8.first", "unicode/utf8.acceptRanges", "tidewater/signs.standIns"], apart := false, laid := [("unicode/utf8.acceptRanges", laid_unicode_utf8_acceptRanges), ("tidewater/signs.standIns", laid_tidewater_signs_standIns), ("unicode/utf8.first", laid_unicode_utf8_first)] }
def SignsEscapeSaid : Prop := signsEscapeRow.holds Tryd.pinned (OpenSpec.ofChange signsEscapeSpec)

/-- ITS FALSE NEIGHBOUR: 'it returns false'. Refute it at one input. -/
def signsEscapeWrong : ChangeSpec := { name := "signsEscape", fn := fun _ => fun
  | [d1, d2] => { results := [.lit (.bool false)], args := [d1, d2] }
  | _ => none }
def SignsEscapeWrongFalsely : Prop := signsEscapeRow.holds Tryd.pinned (OpenSpec.ofChange signsEscapeWrong)

/-- 'tidewaterlaw01.SignsBack': WHATEVER THE INPUT: true; the input reads as it did. -/
def signsBackSpec : ChangeSpec := { name := "signsBack", fn := fun _ => fun
  | [d] => { results := [.lit (.bool true)], args := [d] }
  | _ => none }
def signsBackRow : OpenClaim := { program := "ytjhiebpehpaapaadoor", sum := "edf421f46bf917159ecc1cd8fed39c65c2e0916b86b2f9ffe4788f83a4806365", func := "tidewater/tidewaterlaw01.SignsBack", spec := "signsBack", inPlace := ["internal/abi.NoEscape"], named := ["unicode/utf8.first", "unicode/utf8.acceptRanges", "tidewater/signs.standIns"], apart := false, laid := [("unicode/utf8.acceptRanges", laid_unicode_utf8_acceptRanges), ("tidewater/signs.standIns", laid_tidewater_signs_standIns), ("unicode/utf8.first", laid_unicode_utf8_first)] }
def SignsBackSaid : Prop := signsBackRow.holds Tryd.pinned (OpenSpec.ofChange signsBackSpec)

/-- ITS FALSE NEIGHBOUR: 'it returns false'. Refute it at one input. -/
def signsBackWrong : ChangeSpec := { name := "signsBack", fn := fun _ => fun
  | [d] => { results := [.lit (.bool false)], args := [d] }
  | _ => none }
def SignsBackWrongFalsely : Prop := signsBackRow.holds Tryd.pinned (OpenSpec.ofChange signsBackWrong)

/-- 'tidewaterlaw01.SignsPieces': WHATEVER THE INPUT: true; the input reads as it did. -/
def signsPiecesSpec : ChangeSpec := { name := "signsPieces", fn := fun _ => fun
  | [d1, d2] => { results := [.lit (.bool true)], args := [d1, d2] }
  | _ => none }
def signsPiecesRow : OpenClaim := { program := "ytjhiebpehpaapaadoor", sum := "edf421f46bf917159ecc1cd8fed39c65c2e0916b86b2f9ffe4788f83a4806365", func := "tidewater/tidewaterlaw01.SignsPieces", spec := "signsPieces", inPlace := ["internal/abi.NoEscape"], named := ["unicode/utf8.first", "unicode/utf8.acceptRanges", "tidewater/signs.standIns"], apart := false, laid := [("unicode/utf8.acceptRanges", laid_unicode_utf8_acceptRanges), ("tidewater/signs.standIns", laid_tidewater_signs_standIns), ("unicode/utf8.first", laid_unicode_utf8_first)] }
def SignsPiecesSaid : Prop := signsPiecesRow.holds Tryd.pinned (OpenSpec.ofChange signsPiecesSpec)

/-- ITS FALSE NEIGHBOUR: 'it returns false'. Refute it at one input. -/
def signsPiecesWrong : ChangeSpec := { name := "signsPieces", fn := fun _ => fun
  | [d1, d2] => { results := [.lit (.bool false)], args := [d1, d2] }
  | _ => none }
def SignsPiecesWrongFalsely : Prop := signsPiecesRow.holds Tryd.pinned (OpenSpec.ofChange signsPiecesWrong)

/-- 'tidewaterlaw01.SignsWhole': WHATEVER THE INPUT: true; the input reads as it did. -/
def signsWholeSpec : ChangeSpec := { name := "signsWhole", fn := fun _ => fun
  | [d] => { results := [.lit (.bool true)], args := [d] }
  | _ => none }
def signsWholeRow : OpenClaim := { program := "ytjhiebpehpaapaadoor", sum := "edf421f46bf917159ecc1cd8fed39c65c2e0916b86b2f9ffe4788f83a4806365", func := "tidewater/tidewaterlaw01.SignsWhole", spec := "signsWhole", inPlace := ["internal/abi.NoEscape"], named := ["unicode/utf8.first", "unicode/utf8.acceptRanges", "tidewater/signs.standIns"], apart := false, laid := [("unicode/utf8.acceptRanges", laid_unicode_utf8_acceptRanges), ("tidewater/signs.standIns", laid_tidewater_signs_standIns), ("unicode/utf8.first", laid_unicode_utf8_first)] }
def SignsWholeSaid : Prop := signsWholeRow.holds Tryd.pinned (OpenSpec.ofChange signsWholeSpec)

/-- ITS FALSE NEIGHBOUR: 'it returns false'. Refute it at one input. -/
def signsWholeWrong : ChangeSpec := { name := "signsWhole", fn := fun _ => fun
  | [d] => { results := [.lit (.bool false)], args := [d] }
  | _ => none }
def SignsWholeWrongFalsely : Prop := signsWholeRow.holds Tryd.pinned (OpenSpec.ofChange signsWholeWrong)

/-- 'tidewaterlaw01.SignsNames': WHATEVER THE INPUT: true; the input reads as it did. -/
def signsNamesSpec : ChangeSpec := { name := "signsNames", fn := fun _ => fun
  | [d] => { results := [.lit (.bool true)], args := [d] }
  | _ => none }
def signsNamesRow : OpenClaim := { program := "ytjhiebpehpaapaadoor", sum := "edf421f46bf917159ecc1cd8fed39c65c2e0916b86b2f9ffe4788f83a4806365", func := "tidewater/tidewaterlaw01.SignsNames", spec := "signsNames", inPlace := ["internal/abi.NoEscape"], named := ["unicode/utf8.first", "unicode/utf8.acceptRanges", "tidewater/signs.standIns"], apart := false, laid := [("unicode/utf8.acceptRanges", laid_unicode_utf8_acceptRanges), ("tidewater/signs.standIns", laid_tidewater_signs_standIns), ("unicode/utf8.first", laid_unicode_utf8_first)] }
def SignsNamesSaid : Prop := signsNamesRow.holds Tryd.pinned (OpenSpec.ofChange signsNamesSpec)

/-- ITS FALSE NEIGHBOUR: 'it returns false'. Refute it at one input. -/
def signsNamesWrong : ChangeSpec := { name := "signsNames", fn := fun _ => fun
  | [d] => { results := [.lit (.bool false)], args := [d] }
  | _ => none }
def SignsNamesWrongFalsely : Prop := signsNamesRow.holds Tryd.pinned (OpenSpec.ofChange signsNamesWrong)

/- THE SECOND FORM. 'bulk': how many values and letters a reading holds, each counted each time it is reached (what is shared counts as often as it is met; a slice's spare places count too). A statement '..UptoSaid' is the law's where the arguments, and the package variables that the reading takes, are together of bulk at most 1048576: NARROWER than '..Said'. Prove '..Said' where nothing that the law and all that it calls make is longer than what came in: it says more and counts as full. Else prove '..UptoSaid'. A law counts once. -/
mutual
def uptoBulk {H : Type} : DataW H → Nat
  | .lit (.string bytes) => bytes.length + 1
  | .lit _ => 1
  | .nil => 1
  | .ptr d => uptoBulk d + 1
  | .slice elems spare => uptoBulkAll elems + uptoBulkAll spare + 1
  | .agg parts => uptoBulkAll parts + 1
  | .iface _ d => uptoBulk d + 1
  | .map entries => uptoBulkEntries entries + 1
  | .held _ => 1
def uptoBulkAll {H : Type} : List (DataW H) → Nat
  | [] => 0
  | d :: r => uptoBulk d + uptoBulkAll r
def uptoBulkEntries {H : Type} : List (Lit × DataW H) → Nat
  | [] => 0
  | x :: r => uptoBulkEntry x + uptoBulkEntries r
def uptoBulkEntry {H : Type} : Lit × DataW H → Nat
  | (.string bytes, d) => bytes.length + uptoBulk d + 1
  | (_, d) => uptoBulk d + 1
 end
def uptoSmall : (H : Type) → List (DataW H) → Bool := fun _ ds => decide (uptoBulkAll ds ≤ 1048576)
def OpenSpec.upto (s : _root_.Go.ChangeSpec) : _root_.Go.OpenSpec := { _root_.Go.OpenSpec.ofChange s with cond := some uptoSmall }

/-- 'tidewaterlaw01.SignsRight', WHERE WHAT IT READS IS OF BULK AT MOST 1048576: true; the input reads as it did. -/
def signsRightUptoRow : OpenClaim := { program := "ytjhiebpehpaapaadoor", sum := "edf421f46bf917159ecc1cd8fed39c65c2e0916b86b2f9ffe4788f83a4806365", func := "tidewater/tidewaterlaw01.SignsRight", spec := "signsRight", inPlace := ["internal/abi.NoEscape"], named := ["unicode/utf8.first", "unicode/utf8.acceptRanges", "tidewater/signs.standIns"], apart := false, laid := [("unicode/utf8.acceptRanges", laid_unicode_utf8_acceptRanges), ("tidewater/signs.standIns", laid_tidewater_signs_standIns), ("unicode/utf8.first", laid_unicode_utf8_first)], narrowed := true }
def SignsRightUptoSaid : Prop := signsRightUptoRow.holds Tryd.pinned (OpenSpec.upto signsRightSpec)

/-- 'tidewaterlaw01.SignsEscape', WHERE WHAT IT READS IS OF BULK AT MOST 1048576: true; the input reads as it did. -/
def signsEscapeUptoRow : OpenClaim := { program := "ytjhiebpehpaapaadoor", sum := "edf421f46bf917159ecc1cd8fed39c65c2e0916b86b2f9ffe4788f83a4806365", func := "tidewater/tidewaterlaw01.SignsEscape", spec := "signsEscape", inPlace := ["internal/abi.NoEscape"], named := ["unicode/utf8.first", "unicode/utf8.acceptRanges", "tidewater/signs.standIns"], apart := false, laid := [("unicode/utf8.acceptRanges", laid_unicode_utf8_acceptRanges), ("tidewater/signs.standIns", laid_tidewater_signs_standIns), ("unicode/utf8.first", laid_unicode_utf8_first)], narrowed := true }
def SignsEscapeUptoSaid : Prop := signsEscapeUptoRow.holds Tryd.pinned (OpenSpec.upto signsEscapeSpec)

/-- 'tidewaterlaw01.SignsBack', WHERE WHAT IT READS IS OF BULK AT MOST 1048576: true; the input reads as it did. -/
def signsBackUptoRow : OpenClaim := { program := "ytjhiebpehpaapaadoor", sum := "edf421f46bf917159ecc1cd8fed39c65c2e0916b86b2f9ffe4788f83a4806365", func := "tidewater/tidewaterlaw01.SignsBack", spec := "signsBack", inPlace := ["internal/abi.NoEscape"], named := ["unicode/utf8.first", "unicode/utf8.acceptRanges", "tidewater/signs.standIns"], apart := false, laid := [("unicode/utf8.acceptRanges", laid_unicode_utf8_acceptRanges), ("tidewater/signs.standIns", laid_tidewater_signs_standIns), ("unicode/utf8.first", laid_unicode_utf8_first)], narrowed := true }
def SignsBackUptoSaid : Prop := signsBackUptoRow.holds Tryd.pinned (OpenSpec.upto signsBackSpec)

/-- 'tidewaterlaw01.SignsPieces', WHERE WHAT IT READS IS OF BULK AT MOST 1048576: true; the input reads as it did. -/
def signsPiecesUptoRow : OpenClaim := { program := "ytjhiebpehpaapaadoor", sum := "edf421f46bf917159ecc1cd8fed39c65c2e0916b86b2f9ffe4788f83a4806365", func := "tidewater/tidewaterlaw01.SignsPieces", spec := "signsPieces", inPlace := ["internal/abi.NoEscape"], named := ["unicode/utf8.first", "unicode/utf8.acceptRanges", "tidewater/signs.standIns"], apart := false, laid := [("unicode/utf8.acceptRanges", laid_unicode_utf8_acceptRanges), ("tidewater/signs.standIns", laid_tidewater_signs_standIns), ("unicode/utf8.first", laid_unicode_utf8_first)], narrowed := true }
def SignsPiecesUptoSaid : Prop := signsPiecesUptoRow.holds Tryd.pinned (OpenSpec.upto signsPiecesSpec)

/-- 'tidewaterlaw01.SignsWhole', WHERE WHAT IT READS IS OF BULK AT MOST 1048576: true; the input reads as it did. -/
def signsWholeUptoRow : OpenClaim := { program := "ytjhiebpehpaapaadoor", sum := "edf421f46bf917159ecc1cd8fed39c65c2e0916b86b2f9ffe4788f83a4806365", func := "tidewater/tidewaterlaw01.SignsWhole", spec := "signsWhole", inPlace := ["internal/abi.NoEscape"], named := ["unicode/utf8.first", "unicode/utf8.acceptRanges", "tidewater/signs.standIns"], apart := false, laid := [("unicode/utf8.acceptRanges", laid_unicode_utf8_acceptRanges), ("tidewater/signs.standIns", laid_tidewater_signs_standIns), ("unicode/utf8.first", laid_unicode_utf8_first)], narrowed := true }
def SignsWholeUptoSaid : Prop := signsWholeUptoRow.holds Tryd.pinned (OpenSpec.upto signsWholeSpec)

/-- 'tidewaterlaw01.SignsNames', WHERE WHAT IT READS IS OF BULK AT MOST 1048576: true; the input reads as it did. -/
def signsNamesUptoRow : OpenClaim := { program := "ytjhiebpehpaapaadoor", sum := "edf421f46bf917159ecc1cd8fed39c65c2e0916b86b2f9ffe4788f83a4806365", func := "tidewater/tidewaterlaw01.SignsNames", spec := "signsNames", inPlace := ["internal/abi.NoEscape"], named := ["unicode/utf8.first", "unicode/utf8.acceptRanges", "tidewater/signs.standIns"], apart := false, laid := [("unicode/utf8.acceptRanges", laid_unicode_utf8_acceptRanges), ("tidewater/signs.standIns", laid_tidewater_signs_standIns), ("unicode/utf8.first", laid_unicode_utf8_first)], narrowed := true }
def SignsNamesUptoSaid : Prop := signsNamesUptoRow.holds Tryd.pinned (OpenSpec.upto signsNamesSpec)

end Rows
end Go.Proofs.YtjhiebpehpaapaaDoor
