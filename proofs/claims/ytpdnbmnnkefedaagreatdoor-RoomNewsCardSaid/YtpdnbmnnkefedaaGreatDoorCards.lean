/-
  DERIVED. GIVEN WITH THE SEED: THE CARDS: each row of YtpdnbmnnkefedaaGreatDoorRows.lean that lists a variable, with what it lists TIED to the program's text (the seventh form; the later family's looks); each row that meets fmt, with fmt's text TOLD by the authors' own Lean function (tested against real Go, not proved from fmt's source: count such statements apart). THE CARD IS WHAT COUNTS. Prove the row's statement (the work); the ties are given (YtpdnbmnnkefedaaGreatDoorTie.lean); close each card by the builder's one call (the guide's Derived/Test/ToyasCard.lean, 'card_holds'). Laid BY PROGRAM, IN A SANDBOX (cutbox-door.mjs). By AI agents, Wed Nov 11 2026. No macro, syntax, notation, axiom, sorry.
-/
import Derived.Test.YtpdnbmnnkefedaaGreatDoorRows
import GoSem.ClaimSeven
namespace Go.Proofs.YtpdnbmnnkefedaaGreatDoor
namespace Rows

/-- THE TIED CARD OF 'wigmakerlaw09.RoomNews'. -/
def roomNewsCard : Claim7 := { stood := { row := roomNewsRow, standIns := [], harness := (true, "d8ee236f38234cd62fe68ffcee79ac8e97cc0af3f1fa519a3a6f08a756ba1892"), looks := true }, kinds := [], alts := [], laidByText := true, laidKinds := [.data, .data, .data, .data, .sentinel, .sentinel, .pinned], laidTests := true, laidLooks := .later }
def RoomNewsCardSaid : Prop := Claim7.holds Tryz.pinned (.plain (OpenSpec.ofChange roomNewsSpec)) roomNewsCard

/-- THE TIED CARD OF 'wigmakerlaw09.RoomBalances'. -/
def roomBalancesCard : Claim7 := { stood := { row := roomBalancesRow, standIns := [], harness := (true, "d8ee236f38234cd62fe68ffcee79ac8e97cc0af3f1fa519a3a6f08a756ba1892"), looks := true }, kinds := [], alts := [], laidByText := true, laidKinds := [.data, .data, .data, .data, .sentinel, .sentinel, .pinned], laidTests := true, laidLooks := .later }
def RoomBalancesCardSaid : Prop := Claim7.holds Tryz.pinned (.plain (OpenSpec.ofChange roomBalancesSpec)) roomBalancesCard

/-- THE TIED CARD OF 'wigmakerlaw09.RoomAudits'. -/
def roomAuditsCard : Claim7 := { stood := { row := roomAuditsRow, standIns := [], harness := (true, "d8ee236f38234cd62fe68ffcee79ac8e97cc0af3f1fa519a3a6f08a756ba1892"), looks := true }, kinds := [], alts := [], laidByText := true, laidKinds := [.data, .data, .data, .data, .sentinel, .sentinel, .pinned], laidTests := true, laidLooks := .later }
def RoomAuditsCardSaid : Prop := Claim7.holds Tryz.pinned (.plain (OpenSpec.ofChange roomAuditsSpec)) roomAuditsCard

/-- THE TIED CARD OF 'wigmakerlaw09.RoomRuns'. -/
def roomRunsCard : Claim7 := { stood := { row := roomRunsRow, standIns := [], harness := (true, "d8ee236f38234cd62fe68ffcee79ac8e97cc0af3f1fa519a3a6f08a756ba1892"), looks := true }, kinds := [], alts := [], laidByText := true, laidKinds := [.data, .data, .data, .data, .sentinel, .sentinel, .pinned], laidTests := true, laidLooks := .later }
def RoomRunsCardSaid : Prop := Claim7.holds Tryz.pinned (.plain (OpenSpec.ofChange roomRunsSpec)) roomRunsCard

/-- THE TIED CARD OF 'wigmakertop.TopRoom'. -/
def topRoomCard : Claim7 := { stood := { row := topRoomRow, standIns := [], harness := (true, "d8ee236f38234cd62fe68ffcee79ac8e97cc0af3f1fa519a3a6f08a756ba1892"), looks := true }, kinds := [], alts := [], laidByText := true, laidKinds := [.data, .data, .data, .data, .sentinel, .sentinel, .pinned], laidTests := true, laidLooks := .later }
def TopRoomCardSaid : Prop := Claim7.holds Tryz.pinned (.plain (OpenSpec.ofChange topRoomSpec)) topRoomCard

/-- THE TIED CARD OF 'wigmakertop.TopReplay'. -/
def topReplayCard : Claim7 := { stood := { row := topReplayRow, standIns := [], harness := (true, "d8ee236f38234cd62fe68ffcee79ac8e97cc0af3f1fa519a3a6f08a756ba1892"), looks := true }, kinds := [], alts := [], laidByText := true, laidKinds := [.data, .data, .data, .data, .sentinel, .sentinel, .pinned], laidTests := true, laidLooks := .later }
def TopReplayCardSaid : Prop := Claim7.holds Tryz.pinned (.plain (OpenSpec.ofChange topReplaySpec)) topReplayCard

/-- THE SECOND FORM's CARD OF 'wigmakerlaw09.RoomNews'. -/
def roomNewsUptoCard : Claim7 := { stood := { row := roomNewsUptoRow, standIns := [], harness := (true, "d8ee236f38234cd62fe68ffcee79ac8e97cc0af3f1fa519a3a6f08a756ba1892"), looks := true }, kinds := [], alts := [], laidByText := true, laidKinds := [.data, .data, .data, .data, .sentinel, .sentinel, .pinned], laidTests := true, laidLooks := .later }
def RoomNewsUptoCardSaid : Prop := Claim7.holds Tryz.pinned (.plain (OpenSpec.upto roomNewsSpec)) roomNewsUptoCard

/-- THE SECOND FORM's CARD OF 'wigmakerlaw09.RoomBalances'. -/
def roomBalancesUptoCard : Claim7 := { stood := { row := roomBalancesUptoRow, standIns := [], harness := (true, "d8ee236f38234cd62fe68ffcee79ac8e97cc0af3f1fa519a3a6f08a756ba1892"), looks := true }, kinds := [], alts := [], laidByText := true, laidKinds := [.data, .data, .data, .data, .sentinel, .sentinel, .pinned], laidTests := true, laidLooks := .later }
def RoomBalancesUptoCardSaid : Prop := Claim7.holds Tryz.pinned (.plain (OpenSpec.upto roomBalancesSpec)) roomBalancesUptoCard

/-- THE SECOND FORM's CARD OF 'wigmakerlaw09.RoomAudits'. -/
def roomAuditsUptoCard : Claim7 := { stood := { row := roomAuditsUptoRow, standIns := [], harness := (true, "d8ee236f38234cd62fe68ffcee79ac8e97cc0af3f1fa519a3a6f08a756ba1892"), looks := true }, kinds := [], alts := [], laidByText := true, laidKinds := [.data, .data, .data, .data, .sentinel, .sentinel, .pinned], laidTests := true, laidLooks := .later }
def RoomAuditsUptoCardSaid : Prop := Claim7.holds Tryz.pinned (.plain (OpenSpec.upto roomAuditsSpec)) roomAuditsUptoCard

/-- THE SECOND FORM's CARD OF 'wigmakerlaw09.RoomRuns'. -/
def roomRunsUptoCard : Claim7 := { stood := { row := roomRunsUptoRow, standIns := [], harness := (true, "d8ee236f38234cd62fe68ffcee79ac8e97cc0af3f1fa519a3a6f08a756ba1892"), looks := true }, kinds := [], alts := [], laidByText := true, laidKinds := [.data, .data, .data, .data, .sentinel, .sentinel, .pinned], laidTests := true, laidLooks := .later }
def RoomRunsUptoCardSaid : Prop := Claim7.holds Tryz.pinned (.plain (OpenSpec.upto roomRunsSpec)) roomRunsUptoCard

/-- THE SECOND FORM's CARD OF 'wigmakertop.TopRoom'. -/
def topRoomUptoCard : Claim7 := { stood := { row := topRoomUptoRow, standIns := [], harness := (true, "d8ee236f38234cd62fe68ffcee79ac8e97cc0af3f1fa519a3a6f08a756ba1892"), looks := true }, kinds := [], alts := [], laidByText := true, laidKinds := [.data, .data, .data, .data, .sentinel, .sentinel, .pinned], laidTests := true, laidLooks := .later }
def TopRoomUptoCardSaid : Prop := Claim7.holds Tryz.pinned (.plain (OpenSpec.upto topRoomSpec)) topRoomUptoCard

/-- THE SECOND FORM's CARD OF 'wigmakertop.TopReplay'. -/
def topReplayUptoCard : Claim7 := { stood := { row := topReplayUptoRow, standIns := [], harness := (true, "d8ee236f38234cd62fe68ffcee79ac8e97cc0af3f1fa519a3a6f08a756ba1892"), looks := true }, kinds := [], alts := [], laidByText := true, laidKinds := [.data, .data, .data, .data, .sentinel, .sentinel, .pinned], laidTests := true, laidLooks := .later }
def TopReplayUptoCardSaid : Prop := Claim7.holds Tryz.pinned (.plain (OpenSpec.upto topReplaySpec)) topReplayUptoCard
end Rows
end Go.Proofs.YtpdnbmnnkefedaaGreatDoor
