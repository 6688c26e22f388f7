/-
  DERIVED. GIVEN WITH THE SEED: THE CARDS: each row of YtojeeopmhogolaaDoorRows.lean that lists a variable, with what it lists TIED to the program's text (the seventh form; the later family's looks); each row that meets fmt, with fmt's text TOLD by the authors' own Lean function (tested against real Go, not proved from fmt's source: count such statements apart). THE CARD IS WHAT COUNTS. Prove the row's statement (the work); the ties are given (YtojeeopmhogolaaDoorTie.lean); close each card by the builder's one call (the guide's Derived/Test/ToyasCard.lean, 'card_holds'). Laid BY PROGRAM, IN A SANDBOX (cutbox-door.mjs). By AI agents, Wed Nov 11 2026. No macro, syntax, notation, axiom, sorry.
-/
import Derived.Test.YtojeeopmhogolaaDoorRows
import GoSem.ClaimSeven
namespace Go.Proofs.YtojeeopmhogolaaDoor
namespace Rows

/-- THE TIED CARD OF 'tidewaterlaw11.PactSteps'. -/
def pactStepsCard : Claim7 := { stood := { row := pactStepsRow, standIns := [], harness := (true, "8bc3f9aae661ac74e6166b15adf2e46d0d1dcd41d1c75cea534994391499d620"), looks := false }, kinds := [], alts := [], laidByText := true, laidKinds := [.data], laidTests := true, laidLooks := .later }
def PactStepsCardSaid : Prop := Claim7.holds Tryd.pinned (.plain (OpenSpec.ofChange pactStepsSpec)) pactStepsCard

/-- THE TIED CARD OF 'tidewaterlaw11.PactBoth'. -/
def pactBothCard : Claim7 := { stood := { row := pactBothRow, standIns := [], harness := (true, "8bc3f9aae661ac74e6166b15adf2e46d0d1dcd41d1c75cea534994391499d620"), looks := false }, kinds := [], alts := [], laidByText := true, laidKinds := [.data], laidTests := true, laidLooks := .later }
def PactBothCardSaid : Prop := Claim7.holds Tryd.pinned (.plain (OpenSpec.ofChange pactBothSpec)) pactBothCard

/-- THE TIED CARD OF 'tidewaterlaw11.PactFits'. -/
def pactFitsCard : Claim7 := { stood := { row := pactFitsRow, standIns := [], harness := (true, "8bc3f9aae661ac74e6166b15adf2e46d0d1dcd41d1c75cea534994391499d620"), looks := false }, kinds := [], alts := [], laidByText := true, laidKinds := [.data], laidTests := true, laidLooks := .later }
def PactFitsCardSaid : Prop := Claim7.holds Tryd.pinned (.plain (OpenSpec.ofChange pactFitsSpec)) pactFitsCard

/-- THE TIED CARD OF 'tidewaterlaw11.PactUndo'. -/
def pactUndoCard : Claim7 := { stood := { row := pactUndoRow, standIns := [], harness := (true, "8bc3f9aae661ac74e6166b15adf2e46d0d1dcd41d1c75cea534994391499d620"), looks := false }, kinds := [], alts := [], laidByText := true, laidKinds := [.data], laidTests := true, laidLooks := .later }
def PactUndoCardSaid : Prop := Claim7.holds Tryd.pinned (.plain (OpenSpec.ofChange pactUndoSpec)) pactUndoCard

/-- THE TIED CARD OF 'tidewaterlaw11.PactNames'. -/
def pactNamesCard : Claim7 := { stood := { row := pactNamesRow, standIns := [], harness := (true, "8bc3f9aae661ac74e6166b15adf2e46d0d1dcd41d1c75cea534994391499d620"), looks := false }, kinds := [], alts := [], laidByText := true, laidKinds := [.data], laidTests := true, laidLooks := .later }
def PactNamesCardSaid : Prop := Claim7.holds Tryd.pinned (.plain (OpenSpec.ofChange pactNamesSpec)) pactNamesCard

/-- THE TIED CARD OF 'tidewaterlaw11.PactStill'. -/
def pactStillCard : Claim7 := { stood := { row := pactStillRow, standIns := [], harness := (true, "8bc3f9aae661ac74e6166b15adf2e46d0d1dcd41d1c75cea534994391499d620"), looks := false }, kinds := [], alts := [], laidByText := true, laidKinds := [.data], laidTests := true, laidLooks := .later }
def PactStillCardSaid : Prop := Claim7.holds Tryd.pinned (.plain (OpenSpec.ofChange pactStillSpec)) pactStillCard

/-- THE SECOND FORM's CARD OF 'tidewaterlaw11.PactSteps'. -/
def pactStepsUptoCard : Claim7 := { stood := { row := pactStepsUptoRow, standIns := [], harness := (true, "8bc3f9aae661ac74e6166b15adf2e46d0d1dcd41d1c75cea534994391499d620"), looks := false }, kinds := [], alts := [], laidByText := true, laidKinds := [.data], laidTests := true, laidLooks := .later }
def PactStepsUptoCardSaid : Prop := Claim7.holds Tryd.pinned (.plain (OpenSpec.upto pactStepsSpec)) pactStepsUptoCard

/-- THE SECOND FORM's CARD OF 'tidewaterlaw11.PactBoth'. -/
def pactBothUptoCard : Claim7 := { stood := { row := pactBothUptoRow, standIns := [], harness := (true, "8bc3f9aae661ac74e6166b15adf2e46d0d1dcd41d1c75cea534994391499d620"), looks := false }, kinds := [], alts := [], laidByText := true, laidKinds := [.data], laidTests := true, laidLooks := .later }
def PactBothUptoCardSaid : Prop := Claim7.holds Tryd.pinned (.plain (OpenSpec.upto pactBothSpec)) pactBothUptoCard

/-- THE SECOND FORM's CARD OF 'tidewaterlaw11.PactFits'. -/
def pactFitsUptoCard : Claim7 := { stood := { row := pactFitsUptoRow, standIns := [], harness := (true, "8bc3f9aae661ac74e6166b15adf2e46d0d1dcd41d1c75cea534994391499d620"), looks := false }, kinds := [], alts := [], laidByText := true, laidKinds := [.data], laidTests := true, laidLooks := .later }
def PactFitsUptoCardSaid : Prop := Claim7.holds Tryd.pinned (.plain (OpenSpec.upto pactFitsSpec)) pactFitsUptoCard

/-- THE SECOND FORM's CARD OF 'tidewaterlaw11.PactUndo'. -/
def pactUndoUptoCard : Claim7 := { stood := { row := pactUndoUptoRow, standIns := [], harness := (true, "8bc3f9aae661ac74e6166b15adf2e46d0d1dcd41d1c75cea534994391499d620"), looks := false }, kinds := [], alts := [], laidByText := true, laidKinds := [.data], laidTests := true, laidLooks := .later }
def PactUndoUptoCardSaid : Prop := Claim7.holds Tryd.pinned (.plain (OpenSpec.upto pactUndoSpec)) pactUndoUptoCard

/-- THE SECOND FORM's CARD OF 'tidewaterlaw11.PactNames'. -/
def pactNamesUptoCard : Claim7 := { stood := { row := pactNamesUptoRow, standIns := [], harness := (true, "8bc3f9aae661ac74e6166b15adf2e46d0d1dcd41d1c75cea534994391499d620"), looks := false }, kinds := [], alts := [], laidByText := true, laidKinds := [.data], laidTests := true, laidLooks := .later }
def PactNamesUptoCardSaid : Prop := Claim7.holds Tryd.pinned (.plain (OpenSpec.upto pactNamesSpec)) pactNamesUptoCard

/-- THE SECOND FORM's CARD OF 'tidewaterlaw11.PactStill'. -/
def pactStillUptoCard : Claim7 := { stood := { row := pactStillUptoRow, standIns := [], harness := (true, "8bc3f9aae661ac74e6166b15adf2e46d0d1dcd41d1c75cea534994391499d620"), looks := false }, kinds := [], alts := [], laidByText := true, laidKinds := [.data], laidTests := true, laidLooks := .later }
def PactStillUptoCardSaid : Prop := Claim7.holds Tryd.pinned (.plain (OpenSpec.upto pactStillSpec)) pactStillUptoCard
end Rows
end Go.Proofs.YtojeeopmhogolaaDoor
