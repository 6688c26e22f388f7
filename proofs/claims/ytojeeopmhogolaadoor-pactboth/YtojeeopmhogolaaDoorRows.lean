/-
  NARROWER THAN 'FOR EVERY INPUT', by the rows' own cells (each row's printed sentence says how): PactSteps: laid · PactBoth: laid · PactFits: laid · PactUndo: laid · PactNames: laid · PactStill: laid.
  DERIVED. THE GIVEN ROWS OF THIS SEAT. 6 by the template 'for every input the law returns true; each argument reads behind the call as it read before'; 0 by the template 'total and deterministic' (their statements: YtojeeopmhogolaaDoorTotals.lean).
  GIVEN WITH THE SEED: the statements are not yours to turn. If you find one false, say at which input.
  Laid BY PROGRAM, IN A SANDBOX (cutbox-rows.mjs): the forced cells as the released guide's own fill.sh prints them over the translation e1af5a77eb239eab… (all of the seat's roots in one cut). By AI agents, Wed Nov 11 2026. No macro, syntax, notation, axiom, sorry.
-/
import Derived.Test.YtojeeopmhogolaaDoorChecked
import GoSem.Claim
import GoSem.ClaimJoined
import GoSem.ClaimMapViews
import Derived.JoinedTies
import Derived.KernelRfl
namespace Go.Proofs.YtojeeopmhogolaaDoor
/- THE CELL 'sum', in the pinned program and in every row, IS THE sha256 OF THE DUMP (.gsa) THAT YtojeeopmhogolaaDoorProg.lean LOADS. Nothing in Lean hashes anything: it is a label: what it is worth is what the hold of that sum in a sandbox is worth. -/
noncomputable def Tryd.pinned : Pinned := { name := "ytojeeopmhogolaadoor", sum := "e1af5a77eb239eab0e44edeaef70b0553cd58ae92516668c5be59ea0f9a55ea2", checked := Tryd.checked }
namespace Rows
def none {H : Type} : Left H := { results := [], args := [] }

/- WHAT THE LISTED PACKAGE-LEVEL VARIABLES READ AS WHEN THE CALL BEGINS. Each datum BY PROGRAM (the guide's laid-datum.mjs) off the statement by which the dump's own 'gosem.cut.vars' lays the variable. In a bare row this is a premise. The card (YtojeeopmhogolaaDoorCards.lean) ties it to the program's text. -/
def laid_tidewater_pact_names {H : Type} : DataW H := .agg [.lit (.string []), .lit (.string [115, 117, 98, 115, 99, 114, 105, 98, 101]), .lit (.string [115, 117, 98, 115, 99, 114, 105, 98, 101, 100]), .lit (.string [117, 110, 115, 117, 98, 115, 99, 114, 105, 98, 101]), .lit (.string [117, 110, 115, 117, 98, 115, 99, 114, 105, 98, 101, 100])]

/-- 'tidewaterlaw11.PactSteps': WHATEVER THE INPUT: true; the input reads as it did. -/
def pactStepsSpec : ChangeSpec := { name := "pactSteps", fn := fun _ => fun
  | [d1, d2] => { results := [.lit (.bool true)], args := [d1, d2] }
  | _ => none }
def pactStepsRow : OpenClaim := { program := "ytojeeopmhogolaadoor", sum := "e1af5a77eb239eab0e44edeaef70b0553cd58ae92516668c5be59ea0f9a55ea2", func := "tidewater/tidewaterlaw11.PactSteps", spec := "pactSteps", named := ["tidewater/pact.names"], apart := false, laid := [("tidewater/pact.names", laid_tidewater_pact_names)] }
def PactStepsSaid : Prop := pactStepsRow.holds Tryd.pinned (OpenSpec.ofChange pactStepsSpec)

/-- ITS FALSE NEIGHBOUR: 'it returns false'. Refute it at one input. -/
def pactStepsWrong : ChangeSpec := { name := "pactSteps", fn := fun _ => fun
  | [d1, d2] => { results := [.lit (.bool false)], args := [d1, d2] }
  | _ => none }
def PactStepsWrongFalsely : Prop := pactStepsRow.holds Tryd.pinned (OpenSpec.ofChange pactStepsWrong)

/-- 'tidewaterlaw11.PactBoth': WHATEVER THE INPUT: true; the input reads as it did. -/
def pactBothSpec : ChangeSpec := { name := "pactBoth", fn := fun _ => fun
  | [d1, d2, d3] => { results := [.lit (.bool true)], args := [d1, d2, d3] }
  | _ => none }
def pactBothRow : OpenClaim := { program := "ytojeeopmhogolaadoor", sum := "e1af5a77eb239eab0e44edeaef70b0553cd58ae92516668c5be59ea0f9a55ea2", func := "tidewater/tidewaterlaw11.PactBoth", spec := "pactBoth", named := ["tidewater/pact.names"], apart := false, laid := [("tidewater/pact.names", laid_tidewater_pact_names)] }
def PactBothSaid : Prop := pactBothRow.holds Tryd.pinned (OpenSpec.ofChange pactBothSpec)

/-- ITS FALSE NEIGHBOUR: 'it returns false'. Refute it at one input. -/
def pactBothWrong : ChangeSpec := { name := "pactBoth", fn := fun _ => fun
  | [d1, d2, d3] => { results := [.lit (.bool false)], args := [d1, d2, d3] }
  | _ => none }
def PactBothWrongFalsely : Prop := pactBothRow.holds Tryd.pinned (OpenSpec.ofChange pactBothWrong)

/-- 'tidewaterlaw11.PactFits': WHATEVER THE INPUT: true; the input reads as it did. -/
def pactFitsSpec : ChangeSpec := { name := "pactFits", fn := fun _ => fun
  | [d1, d2] => { results := [.lit (.bool true)], args := [d1, d2] }
  | _ => none }
def pactFitsRow : OpenClaim := { program := "ytojeeopmhogolaadoor", sum := "e1af5a77eb239eab0e44edeaef70b0553cd58ae92516668c5be59ea0f9a55ea2", func := "tidewater/tidewaterlaw11.PactFits", spec := "pactFits", named := ["tidewater/pact.names"], apart := false, laid := [("tidewater/pact.names", laid_tidewater_pact_names)] }
def PactFitsSaid : Prop := pactFitsRow.holds Tryd.pinned (OpenSpec.ofChange pactFitsSpec)

/-- ITS FALSE NEIGHBOUR: 'it returns false'. Refute it at one input. -/
def pactFitsWrong : ChangeSpec := { name := "pactFits", fn := fun _ => fun
  | [d1, d2] => { results := [.lit (.bool false)], args := [d1, d2] }
  | _ => none }
def PactFitsWrongFalsely : Prop := pactFitsRow.holds Tryd.pinned (OpenSpec.ofChange pactFitsWrong)

/-- 'tidewaterlaw11.PactUndo': WHATEVER THE INPUT: true; the input reads as it did. -/
def pactUndoSpec : ChangeSpec := { name := "pactUndo", fn := fun _ => fun
  | [d1, d2] => { results := [.lit (.bool true)], args := [d1, d2] }
  | _ => none }
def pactUndoRow : OpenClaim := { program := "ytojeeopmhogolaadoor", sum := "e1af5a77eb239eab0e44edeaef70b0553cd58ae92516668c5be59ea0f9a55ea2", func := "tidewater/tidewaterlaw11.PactUndo", spec := "pactUndo", named := ["tidewater/pact.names"], apart := false, laid := [("tidewater/pact.names", laid_tidewater_pact_names)] }
def PactUndoSaid : Prop := pactUndoRow.holds Tryd.pinned (OpenSpec.ofChange pactUndoSpec)

/-- ITS FALSE NEIGHBOUR: 'it returns false'. Refute it at one input. -/
def pactUndoWrong : ChangeSpec := { name := "pactUndo", fn := fun _ => fun
  | [d1, d2] => { results := [.lit (.bool false)], args := [d1, d2] }
  | _ => none }
def PactUndoWrongFalsely : Prop := pactUndoRow.holds Tryd.pinned (OpenSpec.ofChange pactUndoWrong)

/-- 'tidewaterlaw11.PactNames': WHATEVER THE INPUT: true; the input reads as it did. -/
def pactNamesSpec : ChangeSpec := { name := "pactNames", fn := fun _ => fun
  | [d1, d2] => { results := [.lit (.bool true)], args := [d1, d2] }
  | _ => none }
def pactNamesRow : OpenClaim := { program := "ytojeeopmhogolaadoor", sum := "e1af5a77eb239eab0e44edeaef70b0553cd58ae92516668c5be59ea0f9a55ea2", func := "tidewater/tidewaterlaw11.PactNames", spec := "pactNames", named := ["tidewater/pact.names"], apart := false, laid := [("tidewater/pact.names", laid_tidewater_pact_names)] }
def PactNamesSaid : Prop := pactNamesRow.holds Tryd.pinned (OpenSpec.ofChange pactNamesSpec)

/-- ITS FALSE NEIGHBOUR: 'it returns false'. Refute it at one input. -/
def pactNamesWrong : ChangeSpec := { name := "pactNames", fn := fun _ => fun
  | [d1, d2] => { results := [.lit (.bool false)], args := [d1, d2] }
  | _ => none }
def PactNamesWrongFalsely : Prop := pactNamesRow.holds Tryd.pinned (OpenSpec.ofChange pactNamesWrong)

/-- 'tidewaterlaw11.PactStill': WHATEVER THE INPUT: true; the input reads as it did. -/
def pactStillSpec : ChangeSpec := { name := "pactStill", fn := fun _ => fun
  | [d1, d2] => { results := [.lit (.bool true)], args := [d1, d2] }
  | _ => none }
def pactStillRow : OpenClaim := { program := "ytojeeopmhogolaadoor", sum := "e1af5a77eb239eab0e44edeaef70b0553cd58ae92516668c5be59ea0f9a55ea2", func := "tidewater/tidewaterlaw11.PactStill", spec := "pactStill", named := ["tidewater/pact.names"], apart := false, laid := [("tidewater/pact.names", laid_tidewater_pact_names)] }
def PactStillSaid : Prop := pactStillRow.holds Tryd.pinned (OpenSpec.ofChange pactStillSpec)

/-- ITS FALSE NEIGHBOUR: 'it returns false'. Refute it at one input. -/
def pactStillWrong : ChangeSpec := { name := "pactStill", fn := fun _ => fun
  | [d1, d2] => { results := [.lit (.bool false)], args := [d1, d2] }
  | _ => none }
def PactStillWrongFalsely : Prop := pactStillRow.holds Tryd.pinned (OpenSpec.ofChange pactStillWrong)

/- THE SECOND FORM. 'bulk': how many values and letters a reading holds, each counted each time it is reached (what is shared counts as often as it is met; a slice's spare places count too). A statement '..UptoSaid' is the law's where the arguments, and the package variables that the reading takes, are together of bulk at most 1048576: NARROWER than '..Said'. Prove '..Said' where nothing that the law and all that it calls make is longer than what came in: it says more and counts as full. Else prove '..UptoSaid'. A law counts once. -/
mutual
def uptoBulk {H : Type} : DataW H → Nat
  | .lit (.string bytes) => bytes.length + 1
  | .lit _ => 1
  | .nil => 1
  | .ptr d => uptoBulk d + 1
  | .slice elems spare => uptoBulkAll elems + uptoBulkAll spare + 1
  | .agg parts => uptoBulkAll parts + 1
  | .iface _ d => uptoBulk d + 1
  | .map entries => uptoBulkEntries entries + 1
  | .held _ => 1
def uptoBulkAll {H : Type} : List (DataW H) → Nat
  | [] => 0
  | d :: r => uptoBulk d + uptoBulkAll r
def uptoBulkEntries {H : Type} : List (Lit × DataW H) → Nat
  | [] => 0
  | x :: r => uptoBulkEntry x + uptoBulkEntries r
def uptoBulkEntry {H : Type} : Lit × DataW H → Nat
  | (.string bytes, d) => bytes.length + uptoBulk d + 1
  | (_, d) => uptoBulk d + 1
 end
def uptoSmall : (H : Type) → List (DataW H) → Bool := fun _ ds => decide (uptoBulkAll ds ≤ 1048576)
def OpenSpec.upto (s : _root_.Go.ChangeSpec) : _root_.Go.OpenSpec := { _root_.Go.OpenSpec.ofChange s with cond := some uptoSmall }

/-- 'tidewaterlaw11.PactSteps', WHERE WHAT IT READS IS OF BULK AT MOST 1048576: true; the input reads as it did. -/
def pactStepsUptoRow : OpenClaim := { program := "ytojeeopmhogolaadoor", sum := "e1af5a77eb239eab0e44edeaef70b0553cd58ae92516668c5be59ea0f9a55ea2", func := "tidewater/tidewaterlaw11.PactSteps", spec := "pactSteps", named := ["tidewater/pact.names"], apart := false, laid := [("tidewater/pact.names", laid_tidewater_pact_names)], narrowed := true }
def PactStepsUptoSaid : Prop := pactStepsUptoRow.holds Tryd.pinned (OpenSpec.upto pactStepsSpec)

/-- 'tidewaterlaw11.PactBoth', WHERE WHAT IT READS IS OF BULK AT MOST 1048576: true; the input reads as it did. -/
def pactBothUptoRow : OpenClaim := { program := "ytojeeopmhogolaadoor", sum := "e1af5a77eb239eab0e44edeaef70b0553cd58ae92516668c5be59ea0f9a55ea2", func := "tidewater/tidewaterlaw11.PactBoth", spec := "pactBoth", named := ["tidewater/pact.names"], apart := false, laid := [("tidewater/pact.names", laid_tidewater_pact_names)], narrowed := true }
def PactBothUptoSaid : Prop := pactBothUptoRow.holds Tryd.pinned (OpenSpec.upto pactBothSpec)

/-- 'tidewaterlaw11.PactFits', WHERE WHAT IT READS IS OF BULK AT MOST 1048576: true; the input reads as it did. -/
def pactFitsUptoRow : OpenClaim := { program := "ytojeeopmhogolaadoor", sum := "e1af5a77eb239eab0e44edeaef70b0553cd58ae92516668c5be59ea0f9a55ea2", func := "tidewater/tidewaterlaw11.PactFits", spec := "pactFits", named := ["tidewater/pact.names"], apart := false, laid := [("tidewater/pact.names", laid_tidewater_pact_names)], narrowed := true }
def PactFitsUptoSaid : Prop := pactFitsUptoRow.holds Tryd.pinned (OpenSpec.upto pactFitsSpec)

/-- 'tidewaterlaw11.PactUndo', WHERE WHAT IT READS IS OF BULK AT MOST 1048576: true; the input reads as it did. -/
def pactUndoUptoRow : OpenClaim := { program := "ytojeeopmhogolaadoor", sum := "e1af5a77eb239eab0e44edeaef70b0553cd58ae92516668c5be59ea0f9a55ea2", func := "tidewater/tidewaterlaw11.PactUndo", spec := "pactUndo", named := ["tidewater/pact.names"], apart := false, laid := [("tidewater/pact.names", laid_tidewater_pact_names)], narrowed := true }
def PactUndoUptoSaid : Prop := pactUndoUptoRow.holds Tryd.pinned (OpenSpec.upto pactUndoSpec)

/-- 'tidewaterlaw11.PactNames', WHERE WHAT IT READS IS OF BULK AT MOST 1048576: true; the input reads as it did. -/
def pactNamesUptoRow : OpenClaim := { program := "ytojeeopmhogolaadoor", sum := "e1af5a77eb239eab0e44edeaef70b0553cd58ae92516668c5be59ea0f9a55ea2", func := "tidewater/tidewaterlaw11.PactNames", spec := "pactNames", named := ["tidewater/pact.names"], apart := false, laid := [("tidewater/pact.names", laid_tidewater_pact_names)], narrowed := true }
def PactNamesUptoSaid : Prop := pactNamesUptoRow.holds Tryd.pinned (OpenSpec.upto pactNamesSpec)

/-- 'tidewaterlaw11.PactStill', WHERE WHAT IT READS IS OF BULK AT MOST 1048576: true; the input reads as it did. -/
def pactStillUptoRow : OpenClaim := { program := "ytojeeopmhogolaadoor", sum := "e1af5a77eb239eab0e44edeaef70b0553cd58ae92516668c5be59ea0f9a55ea2", func := "tidewater/tidewaterlaw11.PactStill", spec := "pactStill", named := ["tidewater/pact.names"], apart := false, laid := [("tidewater/pact.names", laid_tidewater_pact_names)], narrowed := true }
def PactStillUptoSaid : Prop := pactStillUptoRow.holds Tryd.pinned (OpenSpec.upto pactStillSpec)

end Rows
end Go.Proofs.YtojeeopmhogolaaDoor
