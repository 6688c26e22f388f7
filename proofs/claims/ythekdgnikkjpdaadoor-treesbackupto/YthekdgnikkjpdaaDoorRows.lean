/-
  NARROWER THAN 'FOR EVERY INPUT', by the rows' own cells (each row's printed sentence says how): TreesBuild: laid · TreesBack: loops, laid · TreesStuck: laid · TreesSame: loops, laid · TreesDeep: laid.
  DERIVED. THE GIVEN ROWS OF THIS SEAT. 5 by the template 'for every input the law returns true; each argument reads behind the call as it read before'; 0 by the template 'total and deterministic' (their statements: YthekdgnikkjpdaaDoorTotals.lean).
  GIVEN WITH THE SEED: the statements are not yours to turn. If you find one false, say at which input.
  Laid BY PROGRAM, IN A SANDBOX (cutbox-rows.mjs): the forced cells as the released guide's own fill.sh prints them over the translation 079cdae42f6352cd… (all of the seat's roots in one cut). By AI agents, Wed Nov 11 2026. No macro, syntax, notation, axiom, sorry.
-/
import Derived.Test.YthekdgnikkjpdaaDoorChecked
import GoSem.PinnedTables
import GoSem.Claim
import GoSem.ClaimJoined
import GoSem.ClaimMapViews
import Derived.JoinedTies
import Derived.KernelRfl
namespace Go.Proofs.YthekdgnikkjpdaaDoor
/- THE CELL 'sum', in the pinned program and in every row, IS THE sha256 OF THE DUMP (.gsa) THAT YthekdgnikkjpdaaDoorProg.lean LOADS. Nothing in Lean hashes anything: it is a label: what it is worth is what the hold of that sum in a sandbox is worth. -/
noncomputable def Tryd.pinned : Pinned := { name := "ythekdgnikkjpdaadoor", sum := "079cdae42f6352cd1e266d7e167d14f43b06b4fa1a96e27f31c3bb631e39f85c", checked := Tryd.checked }
namespace Rows
def none {H : Type} : Left H := { results := [], args := [] }

/- WHAT THE LISTED PACKAGE-LEVEL VARIABLES READ AS WHEN THE CALL BEGINS. Each datum BY PROGRAM (the guide's laid-datum.mjs) off the statement by which the dump's own 'gosem.cut.vars' lays the variable. In a bare row this is a premise. The card (YthekdgnikkjpdaaDoorCards.lean) ties it to the program's text. -/
def laid_unicode_utf8_acceptRanges {H : Type} : DataW H := .agg [.agg [.lit (.int .u8 128), .lit (.int .u8 191)], .agg [.lit (.int .u8 160), .lit (.int .u8 191)], .agg [.lit (.int .u8 128), .lit (.int .u8 159)], .agg [.lit (.int .u8 144), .lit (.int .u8 191)], .agg [.lit (.int .u8 128), .lit (.int .u8 143)], .agg [.lit (.int .u8 0), .lit (.int .u8 0)], .agg [.lit (.int .u8 0), .lit (.int .u8 0)], .agg [.lit (.int .u8 0), .lit (.int .u8 0)], .agg [.lit (.int .u8 0), .lit (.int .u8 0)], .agg [.lit (.int .u8 0), .lit (.int .u8 0)], .agg [.lit (.int .u8 0), .lit (.int .u8 0)], .agg [.lit (.int .u8 0), .lit (.int .u8 0)], .agg [.lit (.int .u8 0), .lit (.int .u8 0)], .agg [.lit (.int .u8 0), .lit (.int .u8 0)], .agg [.lit (.int .u8 0), .lit (.int .u8 0)], .agg [.lit (.int .u8 0), .lit (.int .u8 0)]]
def laid_tidewater_signs_standIns {H : Type} : DataW H := .agg [.agg [.lit (.int .i32 38), .lit (.string [38, 97, 109, 112, 59])], .agg [.lit (.int .i32 60), .lit (.string [38, 108, 116, 59])], .agg [.lit (.int .i32 62), .lit (.string [38, 103, 116, 59])], .agg [.lit (.int .i32 34), .lit (.string [38, 113, 117, 111, 116, 59])], .agg [.lit (.int .i32 39), .lit (.string [38, 97, 112, 111, 115, 59])]]
/-- One of Go's own tables, pinned by name: the form's constant. -/
def laid_unicode_utf8_first : DataW Unit := Go.Pinned.utf8First

/-- 'tidewaterlaw03.TreesBuild': WHATEVER THE INPUT: true; the input reads as it did. -/
def treesBuildSpec : ChangeSpec := { name := "treesBuild", fn := fun _ => fun
  | [d] => { results := [.lit (.bool true)], args := [d] }
  | _ => none }
def treesBuildRow : OpenClaim := { program := "ythekdgnikkjpdaadoor", sum := "079cdae42f6352cd1e266d7e167d14f43b06b4fa1a96e27f31c3bb631e39f85c", func := "tidewater/tidewaterlaw03.TreesBuild", spec := "treesBuild", inPlace := ["internal/abi.NoEscape", "internal/bytealg.IndexByteString", "internal/bytealg.IndexString"], unfollowed := true, recurses := true, named := ["unicode/utf8.first", "unicode/utf8.acceptRanges", "tidewater/signs.standIns", "internal/bytealg.MaxLen"], apart := false, laid := [("unicode/utf8.acceptRanges", laid_unicode_utf8_acceptRanges), ("tidewater/signs.standIns", laid_tidewater_signs_standIns), ("unicode/utf8.first", laid_unicode_utf8_first)] }
def TreesBuildSaid : Prop := treesBuildRow.holds Tryd.pinned (OpenSpec.ofChange treesBuildSpec)

/-- ITS FALSE NEIGHBOUR: 'it returns false'. Refute it at one input. -/
def treesBuildWrong : ChangeSpec := { name := "treesBuild", fn := fun _ => fun
  | [d] => { results := [.lit (.bool false)], args := [d] }
  | _ => none }
def TreesBuildWrongFalsely : Prop := treesBuildRow.holds Tryd.pinned (OpenSpec.ofChange treesBuildWrong)

/-- 'tidewaterlaw03.TreesBack': WHATEVER THE INPUT: true; the input reads as it did. -/
def treesBackSpec : ChangeSpec := { name := "treesBack", fn := fun _ => fun
  | [d] => { results := [.lit (.bool true)], args := [d] }
  | _ => none }
def treesBackRow : OpenClaim := { program := "ythekdgnikkjpdaadoor", sum := "079cdae42f6352cd1e266d7e167d14f43b06b4fa1a96e27f31c3bb631e39f85c", func := "tidewater/tidewaterlaw03.TreesBack", spec := "treesBack", inPlace := ["internal/abi.NoEscape", "internal/bytealg.IndexByteString", "internal/bytealg.IndexString"], unfollowed := true, recurses := true, named := ["unicode/utf8.first", "unicode/utf8.acceptRanges", "tidewater/signs.standIns", "internal/bytealg.MaxLen"], loops := true, apart := false, laid := [("unicode/utf8.acceptRanges", laid_unicode_utf8_acceptRanges), ("tidewater/signs.standIns", laid_tidewater_signs_standIns), ("unicode/utf8.first", laid_unicode_utf8_first)] }
def TreesBackSaid : Prop := treesBackRow.holds Tryd.pinned (OpenSpec.ofChange treesBackSpec)

/-- ITS FALSE NEIGHBOUR: 'it returns false'. Refute it at one input. -/
def treesBackWrong : ChangeSpec := { name := "treesBack", fn := fun _ => fun
  | [d] => { results := [.lit (.bool false)], args := [d] }
  | _ => none }
def TreesBackWrongFalsely : Prop := treesBackRow.holds Tryd.pinned (OpenSpec.ofChange treesBackWrong)

/-- 'tidewaterlaw03.TreesStuck': WHATEVER THE INPUT: true; the input reads as it did. -/
def treesStuckSpec : ChangeSpec := { name := "treesStuck", fn := fun _ => fun
  | [d] => { results := [.lit (.bool true)], args := [d] }
  | _ => none }
def treesStuckRow : OpenClaim := { program := "ythekdgnikkjpdaadoor", sum := "079cdae42f6352cd1e266d7e167d14f43b06b4fa1a96e27f31c3bb631e39f85c", func := "tidewater/tidewaterlaw03.TreesStuck", spec := "treesStuck", inPlace := ["internal/abi.NoEscape", "internal/bytealg.IndexByteString", "internal/bytealg.IndexString"], unfollowed := true, recurses := true, named := ["unicode/utf8.first", "unicode/utf8.acceptRanges", "tidewater/signs.standIns", "internal/bytealg.MaxLen"], apart := false, laid := [("unicode/utf8.acceptRanges", laid_unicode_utf8_acceptRanges), ("tidewater/signs.standIns", laid_tidewater_signs_standIns), ("unicode/utf8.first", laid_unicode_utf8_first)] }
def TreesStuckSaid : Prop := treesStuckRow.holds Tryd.pinned (OpenSpec.ofChange treesStuckSpec)

/-- ITS FALSE NEIGHBOUR: 'it returns false'. Refute it at one input. -/
def treesStuckWrong : ChangeSpec := { name := "treesStuck", fn := fun _ => fun
  | [d] => { results := [.lit (.bool false)], args := [d] }
  | _ => none }
def TreesStuckWrongFalsely : Prop := treesStuckRow.holds Tryd.pinned (OpenSpec.ofChange treesStuckWrong)

/-- 'tidewaterlaw03.TreesSame': WHATEVER THE INPUT: true; the input reads as it did. -/
def treesSameSpec : ChangeSpec := { name := "treesSame", fn := fun _ => fun
  | [d] => { results := [.lit (.bool true)], args := [d] }
  | _ => none }
def treesSameRow : OpenClaim := { program := "ythekdgnikkjpdaadoor", sum := "079cdae42f6352cd1e266d7e167d14f43b06b4fa1a96e27f31c3bb631e39f85c", func := "tidewater/tidewaterlaw03.TreesSame", spec := "treesSame", inPlace := ["internal/abi.NoEscape", "internal/bytealg.IndexByteString", "internal/bytealg.IndexString"], unfollowed := true, recurses := true, named := ["unicode/utf8.first", "unicode/utf8.acceptRanges", "tidewater/signs.standIns", "internal/bytealg.MaxLen"], loops := true, apart := false, laid := [("unicode/utf8.acceptRanges", laid_unicode_utf8_acceptRanges), ("tidewater/signs.standIns", laid_tidewater_signs_standIns), ("unicode/utf8.first", laid_unicode_utf8_first)] }
def TreesSameSaid : Prop := treesSameRow.holds Tryd.pinned (OpenSpec.ofChange treesSameSpec)

/-- ITS FALSE NEIGHBOUR: 'it returns false'. Refute it at one input. -/
def treesSameWrong : ChangeSpec := { name := "treesSame", fn := fun _ => fun
  | [d] => { results := [.lit (.bool false)], args := [d] }
  | _ => none }
def TreesSameWrongFalsely : Prop := treesSameRow.holds Tryd.pinned (OpenSpec.ofChange treesSameWrong)

/-- 'tidewaterlaw03.TreesDeep': WHATEVER THE INPUT: true; the input reads as it did. -/
def treesDeepSpec : ChangeSpec := { name := "treesDeep", fn := fun _ => fun
  | [d] => { results := [.lit (.bool true)], args := [d] }
  | _ => none }
def treesDeepRow : OpenClaim := { program := "ythekdgnikkjpdaadoor", sum := "079cdae42f6352cd1e266d7e167d14f43b06b4fa1a96e27f31c3bb631e39f85c", func := "tidewater/tidewaterlaw03.TreesDeep", spec := "treesDeep", inPlace := ["internal/abi.NoEscape", "internal/bytealg.IndexByteString", "internal/bytealg.IndexString"], unfollowed := true, recurses := true, named := ["unicode/utf8.first", "unicode/utf8.acceptRanges", "tidewater/signs.standIns", "internal/bytealg.MaxLen"], apart := false, laid := [("unicode/utf8.acceptRanges", laid_unicode_utf8_acceptRanges), ("tidewater/signs.standIns", laid_tidewater_signs_standIns), ("unicode/utf8.first", laid_unicode_utf8_first)] }
def TreesDeepSaid : Prop := treesDeepRow.holds Tryd.pinned (OpenSpec.ofChange treesDeepSpec)

/-- ITS FALSE NEIGHBOUR: 'it returns false'. Refute it at one input. -/
def treesDeepWrong : ChangeSpec := { name := "treesDeep", fn := fun _ => fun
  | [d] => { results := [.lit (.bool false)], args := [d] }
  | _ => none }
def TreesDeepWrongFalsely : Prop := treesDeepRow.holds Tryd.pinned (OpenSpec.ofChange treesDeepWrong)

/- THE SECOND FORM. 'bulk': how many values and letters a reading holds, each counted each time it is reached (what is shared counts as often as it is met; a slice's spare places count too). A statement '..UptoSaid' is the law's where the arguments, and the package variables that the reading takes, are together of bulk at most 1048576: NARROWER than '..Said'. Prove '..Said' where nothing that the law and all that it calls make is longer than what came in: it says more and counts as full. Else prove '..UptoSaid'. A law counts once. -/
mutual
def uptoBulk {H : Type} : DataW H → Nat
  | .lit (.string bytes) => bytes.length + 1
  | .lit _ => 1
  | .nil => 1
  | .ptr d => uptoBulk d + 1
  | .slice elems spare => uptoBulkAll elems + uptoBulkAll spare + 1
  | .agg parts => uptoBulkAll parts + 1
  | .iface _ d => uptoBulk d + 1
  | .map entries => uptoBulkEntries entries + 1
  | .held _ => 1
def uptoBulkAll {H : Type} : List (DataW H) → Nat
  | [] => 0
  | d :: r => uptoBulk d + uptoBulkAll r
def uptoBulkEntries {H : Type} : List (Lit × DataW H) → Nat
  | [] => 0
  | x :: r => uptoBulkEntry x + uptoBulkEntries r
def uptoBulkEntry {H : Type} : Lit × DataW H → Nat
  | (.string bytes, d) => bytes.length + uptoBulk d + 1
  | (_, d) => uptoBulk d + 1
 end
def uptoSmall : (H : Type) → List (DataW H) → Bool := fun _ ds => decide (uptoBulkAll ds ≤ 1048576)
def OpenSpec.upto (s : _root_.Go.ChangeSpec) : _root_.Go.OpenSpec := { _root_.Go.OpenSpec.ofChange s with cond := some uptoSmall }

/-- 'tidewaterlaw03.TreesBuild', WHERE WHAT IT READS IS OF BULK AT MOST 1048576: true; the input reads as it did. -/
def treesBuildUptoRow : OpenClaim := { program := "ythekdgnikkjpdaadoor", sum := "079cdae42f6352cd1e266d7e167d14f43b06b4fa1a96e27f31c3bb631e39f85c", func := "tidewater/tidewaterlaw03.TreesBuild", spec := "treesBuild", inPlace := ["internal/abi.NoEscape", "internal/bytealg.IndexByteString", "internal/bytealg.IndexString"], unfollowed := true, recurses := true, named := ["unicode/utf8.first", "unicode/utf8.acceptRanges", "tidewater/signs.standIns", "internal/bytealg.MaxLen"], apart := false, laid := [("unicode/utf8.acceptRanges", laid_unicode_utf8_acceptRanges), ("tidewater/signs.standIns", laid_tidewater_signs_standIns), ("unicode/utf8.first", laid_unicode_utf8_first)], narrowed := true }
def TreesBuildUptoSaid : Prop := treesBuildUptoRow.holds Tryd.pinned (OpenSpec.upto treesBuildSpec)

/-- 'tidewaterlaw03.TreesBack', WHERE WHAT IT READS IS OF BULK AT MOST 1048576: true; the input reads as it did. -/
def treesBackUptoRow : OpenClaim := { program := "ythekdgnikkjpdaadoor", sum := "079cdae42f6352cd1e266d7e167d14f43b06b4fa1a96e27f31c3bb631e39f85c", func := "tidewater/tidewaterlaw03.TreesBack", spec := "treesBack", inPlace := ["internal/abi.NoEscape", "internal/bytealg.IndexByteString", "internal/bytealg.IndexString"], unfollowed := true, recurses := true, named := ["unicode/utf8.first", "unicode/utf8.acceptRanges", "tidewater/signs.standIns", "internal/bytealg.MaxLen"], loops := true, apart := false, laid := [("unicode/utf8.acceptRanges", laid_unicode_utf8_acceptRanges), ("tidewater/signs.standIns", laid_tidewater_signs_standIns), ("unicode/utf8.first", laid_unicode_utf8_first)], narrowed := true }
def TreesBackUptoSaid : Prop := treesBackUptoRow.holds Tryd.pinned (OpenSpec.upto treesBackSpec)

/-- 'tidewaterlaw03.TreesStuck', WHERE WHAT IT READS IS OF BULK AT MOST 1048576: true; the input reads as it did. -/
def treesStuckUptoRow : OpenClaim := { program := "ythekdgnikkjpdaadoor", sum := "079cdae42f6352cd1e266d7e167d14f43b06b4fa1a96e27f31c3bb631e39f85c", func := "tidewater/tidewaterlaw03.TreesStuck", spec := "treesStuck", inPlace := ["internal/abi.NoEscape", "internal/bytealg.IndexByteString", "internal/bytealg.IndexString"], unfollowed := true, recurses := true, named := ["unicode/utf8.first", "unicode/utf8.acceptRanges", "tidewater/signs.standIns", "internal/bytealg.MaxLen"], apart := false, laid := [("unicode/utf8.acceptRanges", laid_unicode_utf8_acceptRanges), ("tidewater/signs.standIns", laid_tidewater_signs_standIns), ("unicode/utf8.first", laid_unicode_utf8_first)], narrowed := true }
def TreesStuckUptoSaid : Prop := treesStuckUptoRow.holds Tryd.pinned (OpenSpec.upto treesStuckSpec)

/-- 'tidewaterlaw03.TreesSame', WHERE WHAT IT READS IS OF BULK AT MOST 1048576: true; the input reads as it did. -/
def treesSameUptoRow : OpenClaim := { program := "ythekdgnikkjpdaadoor", sum := "079cdae42f6352cd1e266d7e167d14f43b06b4fa1a96e27f31c3bb631e39f85c", func := "tidewater/tidewaterlaw03.TreesSame", spec := "treesSame", inPlace := ["internal/abi.NoEscape", "internal/bytealg.IndexByteString", "internal/bytealg.IndexString"], unfollowed := true, recurses := true, named := ["unicode/utf8.first", "unicode/utf8.acceptRanges", "tidewater/signs.standIns", "internal/bytealg.MaxLen"], loops := true, apart := false, laid := [("unicode/utf8.acceptRanges", laid_unicode_utf8_acceptRanges), ("tidewater/signs.standIns", laid_tidewater_signs_standIns), ("unicode/utf8.first", laid_unicode_utf8_first)], narrowed := true }
def TreesSameUptoSaid : Prop := treesSameUptoRow.holds Tryd.pinned (OpenSpec.upto treesSameSpec)

/-- 'tidewaterlaw03.TreesDeep', WHERE WHAT IT READS IS OF BULK AT MOST 1048576: true; the input reads as it did. -/
def treesDeepUptoRow : OpenClaim := { program := "ythekdgnikkjpdaadoor", sum := "079cdae42f6352cd1e266d7e167d14f43b06b4fa1a96e27f31c3bb631e39f85c", func := "tidewater/tidewaterlaw03.TreesDeep", spec := "treesDeep", inPlace := ["internal/abi.NoEscape", "internal/bytealg.IndexByteString", "internal/bytealg.IndexString"], unfollowed := true, recurses := true, named := ["unicode/utf8.first", "unicode/utf8.acceptRanges", "tidewater/signs.standIns", "internal/bytealg.MaxLen"], apart := false, laid := [("unicode/utf8.acceptRanges", laid_unicode_utf8_acceptRanges), ("tidewater/signs.standIns", laid_tidewater_signs_standIns), ("unicode/utf8.first", laid_unicode_utf8_first)], narrowed := true }
def TreesDeepUptoSaid : Prop := treesDeepUptoRow.holds Tryd.pinned (OpenSpec.upto treesDeepSpec)

end Rows
end Go.Proofs.YthekdgnikkjpdaaDoor
