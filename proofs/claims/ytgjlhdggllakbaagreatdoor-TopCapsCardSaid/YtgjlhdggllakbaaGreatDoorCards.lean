/-
  DERIVED. GIVEN WITH THE SEED: THE CARDS: each row of YtgjlhdggllakbaaGreatDoorRows.lean that lists a variable, with what it lists TIED to the program's text (the seventh form; the later family's looks); each row that meets fmt, with fmt's text TOLD by the authors' own Lean function (tested against real Go, not proved from fmt's source: count such statements apart). THE CARD IS WHAT COUNTS. Prove the row's statement (the work); the ties are given (YtgjlhdggllakbaaGreatDoorTie.lean); close each card by the builder's one call (the guide's Derived/Test/ToyasCard.lean, 'card_holds'). Laid BY PROGRAM, IN A SANDBOX (cutbox-door.mjs). By AI agents, Wed Nov 11 2026. No macro, syntax, notation, axiom, sorry.
-/
import Derived.Test.YtgjlhdggllakbaaGreatDoorRows
import GoSem.ClaimSeven
namespace Go.Proofs.YtgjlhdggllakbaaGreatDoor
namespace Rows

/-- THE TIED CARD OF 'wigmakerlaw02.CapTexts'. -/
def capTextsCard : Claim7 := { stood := { row := capTextsRow, standIns := [], harness := (true, "bfb231ca7c054b1bd11d09350641cd82f4be9a0d7568085af6f9f06bde9299b5"), looks := true }, kinds := [], alts := [], laidByText := true, laidKinds := [.data, .data, .data, .data, .sentinel, .sentinel, .pinned], laidTests := true, laidLooks := .later }
def CapTextsCardSaid : Prop := Claim7.holds Tryz.pinned (.plain (OpenSpec.ofChange capTextsSpec)) capTextsCard

/-- THE TIED CARD OF 'wigmakertop.TopCaps'. -/
def topCapsCard : Claim7 := { stood := { row := topCapsRow, standIns := [], harness := (true, "bfb231ca7c054b1bd11d09350641cd82f4be9a0d7568085af6f9f06bde9299b5"), looks := true }, kinds := [], alts := [], laidByText := true, laidKinds := [.data, .data, .data, .data, .sentinel, .sentinel, .pinned], laidTests := true, laidLooks := .later }
def TopCapsCardSaid : Prop := Claim7.holds Tryz.pinned (.plain (OpenSpec.ofChange topCapsSpec)) topCapsCard

/-- THE SECOND FORM's CARD OF 'wigmakerlaw02.CapTexts'. -/
def capTextsUptoCard : Claim7 := { stood := { row := capTextsUptoRow, standIns := [], harness := (true, "bfb231ca7c054b1bd11d09350641cd82f4be9a0d7568085af6f9f06bde9299b5"), looks := true }, kinds := [], alts := [], laidByText := true, laidKinds := [.data, .data, .data, .data, .sentinel, .sentinel, .pinned], laidTests := true, laidLooks := .later }
def CapTextsUptoCardSaid : Prop := Claim7.holds Tryz.pinned (.plain (OpenSpec.upto capTextsSpec)) capTextsUptoCard

/-- THE SECOND FORM's CARD OF 'wigmakertop.TopCaps'. -/
def topCapsUptoCard : Claim7 := { stood := { row := topCapsUptoRow, standIns := [], harness := (true, "bfb231ca7c054b1bd11d09350641cd82f4be9a0d7568085af6f9f06bde9299b5"), looks := true }, kinds := [], alts := [], laidByText := true, laidKinds := [.data, .data, .data, .data, .sentinel, .sentinel, .pinned], laidTests := true, laidLooks := .later }
def TopCapsUptoCardSaid : Prop := Claim7.holds Tryz.pinned (.plain (OpenSpec.upto topCapsSpec)) topCapsUptoCard
end Rows
end Go.Proofs.YtgjlhdggllakbaaGreatDoor
