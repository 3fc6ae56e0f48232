/-
  DERIVED. GIVEN WITH THE SEED: THE CARDS: each row of YthfimpangfhliaaGreatDoorRows.lean that lists a variable, with what it lists TIED to the program's text (the seventh form; the later family's looks); each row that meets fmt, with fmt's text TOLD by the authors' own Lean function (tested against real Go, not proved from fmt's source: count such statements apart). THE CARD IS WHAT COUNTS. Prove the row's statement (the work); the ties are given (YthfimpangfhliaaGreatDoorTie.lean); close each card by the builder's one call (the guide's Derived/Test/ToyasCard.lean, 'card_holds'). Laid BY PROGRAM, IN A SANDBOX (cutbox-door.mjs). By AI agents, Wed Nov 11 2026. No macro, syntax, notation, axiom, sorry.
-/
import Derived.Test.YthfimpangfhliaaGreatDoorRows
import GoSem.ClaimSeven
namespace Go.Proofs.YthfimpangfhliaaGreatDoor
namespace Rows

/-- THE TIED CARD OF 'wigmakerlaw08.CardFolds'. -/
def cardFoldsCard : Claim7 := { stood := { row := cardFoldsRow, standIns := [], harness := (true, "55ea0f1c786562eb7cf55d38d40fa60f9b5fe97dd3669e8e6e95ded9a750dfe1"), looks := true }, kinds := [], alts := [], laidByText := true, laidKinds := [.data, .data, .data, .sentinel, .sentinel], laidTests := true, laidLooks := .later }
def CardFoldsCardSaid : Prop := Claim7.holds Tryz.pinned (.plain (OpenSpec.ofChange cardFoldsSpec)) cardFoldsCard

/-- THE SECOND FORM's CARD OF 'wigmakerlaw08.CardFolds'. -/
def cardFoldsUptoCard : Claim7 := { stood := { row := cardFoldsUptoRow, standIns := [], harness := (true, "55ea0f1c786562eb7cf55d38d40fa60f9b5fe97dd3669e8e6e95ded9a750dfe1"), looks := true }, kinds := [], alts := [], laidByText := true, laidKinds := [.data, .data, .data, .sentinel, .sentinel], laidTests := true, laidLooks := .later }
def CardFoldsUptoCardSaid : Prop := Claim7.holds Tryz.pinned (.plain (OpenSpec.upto cardFoldsSpec)) cardFoldsUptoCard
end Rows
end Go.Proofs.YthfimpangfhliaaGreatDoor
