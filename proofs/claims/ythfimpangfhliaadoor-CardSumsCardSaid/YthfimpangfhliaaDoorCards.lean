/-
  DERIVED. GIVEN WITH THE SEED: THE CARDS: each row of YthfimpangfhliaaDoorRows.lean that lists a variable, with what it lists TIED to the program's text (the seventh form; the later family's looks); each row that meets fmt, with fmt's text TOLD by the authors' own Lean function (tested against real Go, not proved from fmt's source: count such statements apart). THE CARD IS WHAT COUNTS. Prove the row's statement (the work); the ties are given (YthfimpangfhliaaDoorTie.lean); close each card by the builder's one call (the guide's Derived/Test/ToyasCard.lean, 'card_holds'). Laid BY PROGRAM, IN A SANDBOX (cutbox-door.mjs). By AI agents, Wed Nov 11 2026. No macro, syntax, notation, axiom, sorry.
-/
import Derived.Test.YthfimpangfhliaaDoorRows
import GoSem.ClaimSeven
namespace Go.Proofs.YthfimpangfhliaaDoor
namespace Rows

/-- THE TIED CARD OF 'wigmakerlaw08.CardSums'. -/
def cardSumsCard : Claim7 := { stood := { row := cardSumsRow, standIns := [], harness := (true, "082dacc9ff17303e01d00f751f25f80a6206b0503aebf53c09765489f4775c92"), looks := true }, kinds := [], alts := [], laidByText := true, laidKinds := [.data, .data, .data, .sentinel, .sentinel], laidTests := true, laidLooks := .later }
def CardSumsCardSaid : Prop := Claim7.holds Tryd.pinned (.plain (OpenSpec.ofChange cardSumsSpec)) cardSumsCard

/-- THE SECOND FORM's CARD OF 'wigmakerlaw08.CardSums'. -/
def cardSumsUptoCard : Claim7 := { stood := { row := cardSumsUptoRow, standIns := [], harness := (true, "082dacc9ff17303e01d00f751f25f80a6206b0503aebf53c09765489f4775c92"), looks := true }, kinds := [], alts := [], laidByText := true, laidKinds := [.data, .data, .data, .sentinel, .sentinel], laidTests := true, laidLooks := .later }
def CardSumsUptoCardSaid : Prop := Claim7.holds Tryd.pinned (.plain (OpenSpec.upto cardSumsSpec)) cardSumsUptoCard
end Rows
end Go.Proofs.YthfimpangfhliaaDoor
