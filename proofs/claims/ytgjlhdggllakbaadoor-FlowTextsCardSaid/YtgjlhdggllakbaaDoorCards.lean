/-
  DERIVED. GIVEN WITH THE SEED: THE CARDS: each row of YtgjlhdggllakbaaDoorRows.lean that lists a variable, with what it lists TIED to the program's text (the seventh form; the later family's looks); each row that meets fmt, with fmt's text TOLD by the authors' own Lean function (tested against real Go, not proved from fmt's source: count such statements apart). THE CARD IS WHAT COUNTS. Prove the row's statement (the work); the ties are given (YtgjlhdggllakbaaDoorTie.lean); close each card by the builder's one call (the guide's Derived/Test/ToyasCard.lean, 'card_holds'). Laid BY PROGRAM, IN A SANDBOX (cutbox-door.mjs). By AI agents, Wed Nov 11 2026. No macro, syntax, notation, axiom, sorry.
-/
import Derived.Test.YtgjlhdggllakbaaDoorRows
import GoSem.ClaimSeven
namespace Go.Proofs.YtgjlhdggllakbaaDoor
namespace Rows

/-- THE TIED CARD OF 'wigmakerlaw01.HairTexts'. -/
def hairTextsCard : Claim7 := { stood := { row := hairTextsRow, standIns := [], harness := (true, "ae383dce3959c8f50166de20c15cfb2a2fd7a864f60882b4a85090a9b3c2c529"), looks := true }, kinds := [], alts := [], laidByText := true, laidKinds := [.data, .data, .data, .data, .sentinel, .sentinel, .pinned], laidTests := true, laidLooks := .later }
def HairTextsCardSaid : Prop := Claim7.holds Tryd.pinned (.plain (OpenSpec.ofChange hairTextsSpec)) hairTextsCard

/-- THE TIED CARD OF 'wigmakerlaw03.FlowTexts'. -/
def flowTextsCard : Claim7 := { stood := { row := flowTextsRow, standIns := [], harness := (true, "ae383dce3959c8f50166de20c15cfb2a2fd7a864f60882b4a85090a9b3c2c529"), looks := true }, kinds := [], alts := [], laidByText := true, laidKinds := [.data, .data, .data, .data, .sentinel, .sentinel, .pinned], laidTests := true, laidLooks := .later }
def FlowTextsCardSaid : Prop := Claim7.holds Tryd.pinned (.plain (OpenSpec.ofChange flowTextsSpec)) flowTextsCard

/-- THE SECOND FORM's CARD OF 'wigmakerlaw01.HairTexts'. -/
def hairTextsUptoCard : Claim7 := { stood := { row := hairTextsUptoRow, standIns := [], harness := (true, "ae383dce3959c8f50166de20c15cfb2a2fd7a864f60882b4a85090a9b3c2c529"), looks := true }, kinds := [], alts := [], laidByText := true, laidKinds := [.data, .data, .data, .data, .sentinel, .sentinel, .pinned], laidTests := true, laidLooks := .later }
def HairTextsUptoCardSaid : Prop := Claim7.holds Tryd.pinned (.plain (OpenSpec.upto hairTextsSpec)) hairTextsUptoCard

/-- THE SECOND FORM's CARD OF 'wigmakerlaw03.FlowTexts'. -/
def flowTextsUptoCard : Claim7 := { stood := { row := flowTextsUptoRow, standIns := [], harness := (true, "ae383dce3959c8f50166de20c15cfb2a2fd7a864f60882b4a85090a9b3c2c529"), looks := true }, kinds := [], alts := [], laidByText := true, laidKinds := [.data, .data, .data, .data, .sentinel, .sentinel, .pinned], laidTests := true, laidLooks := .later }
def FlowTextsUptoCardSaid : Prop := Claim7.holds Tryd.pinned (.plain (OpenSpec.upto flowTextsSpec)) flowTextsUptoCard
end Rows
end Go.Proofs.YtgjlhdggllakbaaDoor
