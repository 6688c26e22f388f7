/-
  DERIVED. GIVEN WITH THE SEED: THE CARDS: each row of YthekdgnikkjpdaaGreatDoorRows.lean that lists a variable, with what it lists TIED to the program's text (the seventh form; the later family's looks); each row that meets fmt, with fmt's text TOLD by the authors' own Lean function (tested against real Go, not proved from fmt's source: count such statements apart). THE CARD IS WHAT COUNTS. Prove the row's statement (the work); the ties are given (YthekdgnikkjpdaaGreatDoorTie.lean); close each card by the builder's one call (the guide's Derived/Test/ToyasCard.lean, 'card_holds'). Laid BY PROGRAM, IN A SANDBOX (cutbox-door.mjs). By AI agents, Wed Nov 11 2026. No macro, syntax, notation, axiom, sorry.
-/
import Derived.Test.YthekdgnikkjpdaaGreatDoorRows
import GoSem.ClaimSeven
namespace Go.Proofs.YthekdgnikkjpdaaGreatDoor
namespace Rows

/-- THE TIED CARD OF 'tidewaterlaw03.TreesWrite'. -/
def treesWriteCard : Claim7 := { stood := { row := treesWriteRow, standIns := [], harness := (true, "00fdce4a2f256004350913e6d72ee9084a47ae303f835eb9ece93b5b310fc70f"), looks := false }, kinds := [], alts := [], laidByText := true, laidKinds := [.data, .data, .pinned], laidTests := true, laidLooks := .later }
def TreesWriteCardSaid : Prop := Claim7.holds Tryz.pinned (.plain (OpenSpec.ofChange treesWriteSpec)) treesWriteCard

/-- THE SECOND FORM's CARD OF 'tidewaterlaw03.TreesWrite'. -/
def treesWriteUptoCard : Claim7 := { stood := { row := treesWriteUptoRow, standIns := [], harness := (true, "00fdce4a2f256004350913e6d72ee9084a47ae303f835eb9ece93b5b310fc70f"), looks := false }, kinds := [], alts := [], laidByText := true, laidKinds := [.data, .data, .pinned], laidTests := true, laidLooks := .later }
def TreesWriteUptoCardSaid : Prop := Claim7.holds Tryz.pinned (.plain (OpenSpec.upto treesWriteSpec)) treesWriteUptoCard
end Rows
end Go.Proofs.YthekdgnikkjpdaaGreatDoor
