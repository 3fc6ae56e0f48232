/-
  DERIVED. GIVEN WITH THE SEED: THE CARDS: each row of YtjchpgkibhdoiaaDoorRows.lean that lists a variable, with what it lists TIED to the program's text (the seventh form; the later family's looks); each row that meets fmt, with fmt's text TOLD by the authors' own Lean function (tested against real Go, not proved from fmt's source: count such statements apart). THE CARD IS WHAT COUNTS. Prove the row's statement (the work); the ties are given (YtjchpgkibhdoiaaDoorTie.lean); close each card by the builder's one call (the guide's Derived/Test/ToyasCard.lean, 'card_holds'). Laid BY PROGRAM, IN A SANDBOX (cutbox-door.mjs). By AI agents, Wed Nov 11 2026. No macro, syntax, notation, axiom, sorry.
-/
import Derived.Test.YtjchpgkibhdoiaaDoorRows
import GoSem.ClaimSeven
namespace Go.Proofs.YtjchpgkibhdoiaaDoor
namespace Rows

/-- THE TIED CARD OF 'wigmakerlaw03.FlowWalks'. -/
def flowWalksCard : Claim7 := { stood := { row := flowWalksRow, standIns := [], harness := (true, "6e37420ceb0a2ce97671e15fa9f33e92128767cd8efe177d07e69e431fbeb6b6"), looks := true }, kinds := [], alts := [], laidByText := true, laidKinds := [.data], laidTests := true, laidLooks := .later }
def FlowWalksCardSaid : Prop := Claim7.holds Tryd.pinned (.plain (OpenSpec.ofChange flowWalksSpec)) flowWalksCard

/-- THE TIED CARD OF 'wigmakerlaw03.FlowWalksBack'. -/
def flowWalksBackCard : Claim7 := { stood := { row := flowWalksBackRow, standIns := [], harness := (true, "6e37420ceb0a2ce97671e15fa9f33e92128767cd8efe177d07e69e431fbeb6b6"), looks := true }, kinds := [], alts := [], laidByText := true, laidKinds := [.data], laidTests := true, laidLooks := .later }
def FlowWalksBackCardSaid : Prop := Claim7.holds Tryd.pinned (.plain (OpenSpec.ofChange flowWalksBackSpec)) flowWalksBackCard

/-- THE TIED CARD OF 'wigmakerlaw03.FlowSpins'. -/
def flowSpinsCard : Claim7 := { stood := { row := flowSpinsRow, standIns := [], harness := (true, "6e37420ceb0a2ce97671e15fa9f33e92128767cd8efe177d07e69e431fbeb6b6"), looks := true }, kinds := [], alts := [], laidByText := true, laidKinds := [.data], laidTests := true, laidLooks := .later }
def FlowSpinsCardSaid : Prop := Claim7.holds Tryd.pinned (.plain (OpenSpec.ofChange flowSpinsSpec)) flowSpinsCard

/-- THE TIED CARD OF 'wigmakerlaw03.FlowGroup'. -/
def flowGroupCard : Claim7 := { stood := { row := flowGroupRow, standIns := [], harness := (true, "6e37420ceb0a2ce97671e15fa9f33e92128767cd8efe177d07e69e431fbeb6b6"), looks := true }, kinds := [], alts := [], laidByText := true, laidKinds := [.data], laidTests := true, laidLooks := .later }
def FlowGroupCardSaid : Prop := Claim7.holds Tryd.pinned (.plain (OpenSpec.ofChange flowGroupSpec)) flowGroupCard

/-- THE TIED CARD OF 'wigmakerlaw03.FlowCombs'. -/
def flowCombsCard : Claim7 := { stood := { row := flowCombsRow, standIns := [], harness := (true, "6e37420ceb0a2ce97671e15fa9f33e92128767cd8efe177d07e69e431fbeb6b6"), looks := true }, kinds := [], alts := [], laidByText := true, laidKinds := [.data], laidTests := true, laidLooks := .later }
def FlowCombsCardSaid : Prop := Claim7.holds Tryd.pinned (.plain (OpenSpec.ofChange flowCombsSpec)) flowCombsCard

/-- THE TIED CARD OF 'wigmakerlaw03.FlowCombsOn'. -/
def flowCombsOnCard : Claim7 := { stood := { row := flowCombsOnRow, standIns := [], harness := (true, "6e37420ceb0a2ce97671e15fa9f33e92128767cd8efe177d07e69e431fbeb6b6"), looks := true }, kinds := [], alts := [], laidByText := true, laidKinds := [.data], laidTests := true, laidLooks := .later }
def FlowCombsOnCardSaid : Prop := Claim7.holds Tryd.pinned (.plain (OpenSpec.ofChange flowCombsOnSpec)) flowCombsOnCard

/-- THE TIED CARD OF 'wigmakerlaw03.FlowTexts'. -/
def flowTextsCard : Claim7 := { stood := { row := flowTextsRow, standIns := [], harness := (true, "6e37420ceb0a2ce97671e15fa9f33e92128767cd8efe177d07e69e431fbeb6b6"), looks := true }, kinds := [], alts := [], laidByText := true, laidKinds := [.data, .data, .data, .data, .sentinel, .sentinel, .pinned], laidTests := true, laidLooks := .later }
def FlowTextsCardSaid : Prop := Claim7.holds Tryd.pinned (.plain (OpenSpec.ofChange flowTextsSpec)) flowTextsCard

/-- THE TIED CARD OF 'wigmakertop.TopWhorls'. -/
def topWhorlsCard : Claim7 := { stood := { row := topWhorlsRow, standIns := [], harness := (true, "6e37420ceb0a2ce97671e15fa9f33e92128767cd8efe177d07e69e431fbeb6b6"), looks := true }, kinds := [], alts := [], laidByText := true, laidKinds := [.data], laidTests := true, laidLooks := .later }
def TopWhorlsCardSaid : Prop := Claim7.holds Tryd.pinned (.plain (OpenSpec.ofChange topWhorlsSpec)) topWhorlsCard

/-- THE SECOND FORM's CARD OF 'wigmakerlaw03.FlowWalks'. -/
def flowWalksUptoCard : Claim7 := { stood := { row := flowWalksUptoRow, standIns := [], harness := (true, "6e37420ceb0a2ce97671e15fa9f33e92128767cd8efe177d07e69e431fbeb6b6"), looks := true }, kinds := [], alts := [], laidByText := true, laidKinds := [.data], laidTests := true, laidLooks := .later }
def FlowWalksUptoCardSaid : Prop := Claim7.holds Tryd.pinned (.plain (OpenSpec.upto flowWalksSpec)) flowWalksUptoCard

/-- THE SECOND FORM's CARD OF 'wigmakerlaw03.FlowWalksBack'. -/
def flowWalksBackUptoCard : Claim7 := { stood := { row := flowWalksBackUptoRow, standIns := [], harness := (true, "6e37420ceb0a2ce97671e15fa9f33e92128767cd8efe177d07e69e431fbeb6b6"), looks := true }, kinds := [], alts := [], laidByText := true, laidKinds := [.data], laidTests := true, laidLooks := .later }
def FlowWalksBackUptoCardSaid : Prop := Claim7.holds Tryd.pinned (.plain (OpenSpec.upto flowWalksBackSpec)) flowWalksBackUptoCard

/-- THE SECOND FORM's CARD OF 'wigmakerlaw03.FlowSpins'. -/
def flowSpinsUptoCard : Claim7 := { stood := { row := flowSpinsUptoRow, standIns := [], harness := (true, "6e37420ceb0a2ce97671e15fa9f33e92128767cd8efe177d07e69e431fbeb6b6"), looks := true }, kinds := [], alts := [], laidByText := true, laidKinds := [.data], laidTests := true, laidLooks := .later }
def FlowSpinsUptoCardSaid : Prop := Claim7.holds Tryd.pinned (.plain (OpenSpec.upto flowSpinsSpec)) flowSpinsUptoCard

/-- THE SECOND FORM's CARD OF 'wigmakerlaw03.FlowGroup'. -/
def flowGroupUptoCard : Claim7 := { stood := { row := flowGroupUptoRow, standIns := [], harness := (true, "6e37420ceb0a2ce97671e15fa9f33e92128767cd8efe177d07e69e431fbeb6b6"), looks := true }, kinds := [], alts := [], laidByText := true, laidKinds := [.data], laidTests := true, laidLooks := .later }
def FlowGroupUptoCardSaid : Prop := Claim7.holds Tryd.pinned (.plain (OpenSpec.upto flowGroupSpec)) flowGroupUptoCard

/-- THE SECOND FORM's CARD OF 'wigmakerlaw03.FlowCombs'. -/
def flowCombsUptoCard : Claim7 := { stood := { row := flowCombsUptoRow, standIns := [], harness := (true, "6e37420ceb0a2ce97671e15fa9f33e92128767cd8efe177d07e69e431fbeb6b6"), looks := true }, kinds := [], alts := [], laidByText := true, laidKinds := [.data], laidTests := true, laidLooks := .later }
def FlowCombsUptoCardSaid : Prop := Claim7.holds Tryd.pinned (.plain (OpenSpec.upto flowCombsSpec)) flowCombsUptoCard

/-- THE SECOND FORM's CARD OF 'wigmakerlaw03.FlowCombsOn'. -/
def flowCombsOnUptoCard : Claim7 := { stood := { row := flowCombsOnUptoRow, standIns := [], harness := (true, "6e37420ceb0a2ce97671e15fa9f33e92128767cd8efe177d07e69e431fbeb6b6"), looks := true }, kinds := [], alts := [], laidByText := true, laidKinds := [.data], laidTests := true, laidLooks := .later }
def FlowCombsOnUptoCardSaid : Prop := Claim7.holds Tryd.pinned (.plain (OpenSpec.upto flowCombsOnSpec)) flowCombsOnUptoCard

/-- THE SECOND FORM's CARD OF 'wigmakerlaw03.FlowTexts'. -/
def flowTextsUptoCard : Claim7 := { stood := { row := flowTextsUptoRow, standIns := [], harness := (true, "6e37420ceb0a2ce97671e15fa9f33e92128767cd8efe177d07e69e431fbeb6b6"), looks := true }, kinds := [], alts := [], laidByText := true, laidKinds := [.data, .data, .data, .data, .sentinel, .sentinel, .pinned], laidTests := true, laidLooks := .later }
def FlowTextsUptoCardSaid : Prop := Claim7.holds Tryd.pinned (.plain (OpenSpec.upto flowTextsSpec)) flowTextsUptoCard

/-- THE SECOND FORM's CARD OF 'wigmakertop.TopWhorls'. -/
def topWhorlsUptoCard : Claim7 := { stood := { row := topWhorlsUptoRow, standIns := [], harness := (true, "6e37420ceb0a2ce97671e15fa9f33e92128767cd8efe177d07e69e431fbeb6b6"), looks := true }, kinds := [], alts := [], laidByText := true, laidKinds := [.data], laidTests := true, laidLooks := .later }
def TopWhorlsUptoCardSaid : Prop := Claim7.holds Tryd.pinned (.plain (OpenSpec.upto topWhorlsSpec)) topWhorlsUptoCard
end Rows
end Go.Proofs.YtjchpgkibhdoiaaDoor
