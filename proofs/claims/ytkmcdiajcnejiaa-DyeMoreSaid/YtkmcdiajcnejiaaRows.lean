/-
  No cell of these rows narrows 'for every input' (looked for: loops, veiled, ifaces, maps, wideKeys, modest, calm, conditions, laid).
  DERIVED. THE GIVEN ROWS OF THIS SEAT. 9 by the template 'for every input the law returns true; each argument reads behind the call as it read before'; 0 by the template 'total and deterministic' (their statements: YtkmcdiajcnejiaaTotals.lean).
  GIVEN WITH THE SEED: the statements are not yours to turn. If you find one false, say at which input.
  Laid BY PROGRAM, IN A SANDBOX (cutbox-rows.mjs): the forced cells as the released guide's own fill.sh prints them over the translation 81e8370f90674091… (all of the seat's roots in one cut). By AI agents, Wed Nov 11 2026. No macro, syntax, notation, axiom, sorry.
-/
import Derived.Test.YtkmcdiajcnejiaaChecked
import GoSem.Claim
import GoSem.ClaimJoined
import GoSem.ClaimMapViews
import Derived.JoinedTies
import Derived.KernelRfl
namespace Go.Proofs.Ytkmcdiajcnejiaa
/- THE CELL 'sum', in the pinned program and in every row, IS THE sha256 OF THE DUMP (.gsa) THAT YtkmcdiajcnejiaaProg.lean LOADS. Nothing in Lean hashes anything: it is a label: what it is worth is what the hold of that sum in a sandbox is worth. -/
noncomputable def Try.pinned : Pinned := { name := "ytkmcdiajcnejiaa", sum := "81e8370f90674091b919e00de32155828c536c18d9e237e5293f8ed120e00524", checked := Try.checked }
namespace Rows
def none {H : Type} : Left H := { results := [], args := [] }

/-- 'wigmakerlaw05.DyeBlends': WHATEVER THE INPUT: true; the input reads as it did. -/
def dyeBlendsSpec : ChangeSpec := { name := "dyeBlends", fn := fun _ => fun
  | [d] => { results := [.lit (.bool true)], args := [d] }
  | _ => none }
def dyeBlendsRow : OpenClaim := { program := "ytkmcdiajcnejiaa", sum := "81e8370f90674091b919e00de32155828c536c18d9e237e5293f8ed120e00524", func := "wigmaker/wigmakerlaw05.DyeBlends", spec := "dyeBlends", unfollowed := true, recurses := true, apart := false }
def DyeBlendsSaid : Prop := dyeBlendsRow.holds Try.pinned (OpenSpec.ofChange dyeBlendsSpec)

/-- ITS FALSE NEIGHBOUR: 'it returns false'. Refute it at one input. -/
def dyeBlendsWrong : ChangeSpec := { name := "dyeBlends", fn := fun _ => fun
  | [d] => { results := [.lit (.bool false)], args := [d] }
  | _ => none }
def DyeBlendsWrongFalsely : Prop := dyeBlendsRow.holds Try.pinned (OpenSpec.ofChange dyeBlendsWrong)

/-- 'wigmakerlaw05.DyeMixes': WHATEVER THE INPUT: true; the input reads as it did. -/
def dyeMixesSpec : ChangeSpec := { name := "dyeMixes", fn := fun _ => fun
  | [d] => { results := [.lit (.bool true)], args := [d] }
  | _ => none }
def dyeMixesRow : OpenClaim := { program := "ytkmcdiajcnejiaa", sum := "81e8370f90674091b919e00de32155828c536c18d9e237e5293f8ed120e00524", func := "wigmaker/wigmakerlaw05.DyeMixes", spec := "dyeMixes", unfollowed := true, recurses := true, apart := false }
def DyeMixesSaid : Prop := dyeMixesRow.holds Try.pinned (OpenSpec.ofChange dyeMixesSpec)

/-- ITS FALSE NEIGHBOUR: 'it returns false'. Refute it at one input. -/
def dyeMixesWrong : ChangeSpec := { name := "dyeMixes", fn := fun _ => fun
  | [d] => { results := [.lit (.bool false)], args := [d] }
  | _ => none }
def DyeMixesWrongFalsely : Prop := dyeMixesRow.holds Try.pinned (OpenSpec.ofChange dyeMixesWrong)

/-- 'wigmakerlaw05.DyeAparts': WHATEVER THE INPUT: true; the input reads as it did. -/
def dyeApartsSpec : ChangeSpec := { name := "dyeAparts", fn := fun _ => fun
  | [d1, d2] => { results := [.lit (.bool true)], args := [d1, d2] }
  | _ => none }
def dyeApartsRow : OpenClaim := { program := "ytkmcdiajcnejiaa", sum := "81e8370f90674091b919e00de32155828c536c18d9e237e5293f8ed120e00524", func := "wigmaker/wigmakerlaw05.DyeAparts", spec := "dyeAparts", unfollowed := true, recurses := true, apart := false }
def DyeApartsSaid : Prop := dyeApartsRow.holds Try.pinned (OpenSpec.ofChange dyeApartsSpec)

/-- ITS FALSE NEIGHBOUR: 'it returns false'. Refute it at one input. -/
def dyeApartsWrong : ChangeSpec := { name := "dyeAparts", fn := fun _ => fun
  | [d1, d2] => { results := [.lit (.bool false)], args := [d1, d2] }
  | _ => none }
def DyeApartsWrongFalsely : Prop := dyeApartsRow.holds Try.pinned (OpenSpec.ofChange dyeApartsWrong)

/-- 'wigmakerlaw05.DyeMatches': WHATEVER THE INPUT: true; the input reads as it did. -/
def dyeMatchesSpec : ChangeSpec := { name := "dyeMatches", fn := fun _ => fun
  | [d1, d2, d3] => { results := [.lit (.bool true)], args := [d1, d2, d3] }
  | _ => none }
def dyeMatchesRow : OpenClaim := { program := "ytkmcdiajcnejiaa", sum := "81e8370f90674091b919e00de32155828c536c18d9e237e5293f8ed120e00524", func := "wigmaker/wigmakerlaw05.DyeMatches", spec := "dyeMatches", unfollowed := true, recurses := true, apart := false }
def DyeMatchesSaid : Prop := dyeMatchesRow.holds Try.pinned (OpenSpec.ofChange dyeMatchesSpec)

/-- ITS FALSE NEIGHBOUR: 'it returns false'. Refute it at one input. -/
def dyeMatchesWrong : ChangeSpec := { name := "dyeMatches", fn := fun _ => fun
  | [d1, d2, d3] => { results := [.lit (.bool false)], args := [d1, d2, d3] }
  | _ => none }
def DyeMatchesWrongFalsely : Prop := dyeMatchesRow.holds Try.pinned (OpenSpec.ofChange dyeMatchesWrong)

/-- 'wigmakerlaw05.DyeHalves': WHATEVER THE INPUT: true; the input reads as it did. -/
def dyeHalvesSpec : ChangeSpec := { name := "dyeHalves", fn := fun _ => fun
  | [d1, d2] => { results := [.lit (.bool true)], args := [d1, d2] }
  | _ => none }
def dyeHalvesRow : OpenClaim := { program := "ytkmcdiajcnejiaa", sum := "81e8370f90674091b919e00de32155828c536c18d9e237e5293f8ed120e00524", func := "wigmaker/wigmakerlaw05.DyeHalves", spec := "dyeHalves", unfollowed := true, recurses := true, apart := false }
def DyeHalvesSaid : Prop := dyeHalvesRow.holds Try.pinned (OpenSpec.ofChange dyeHalvesSpec)

/-- ITS FALSE NEIGHBOUR: 'it returns false'. Refute it at one input. -/
def dyeHalvesWrong : ChangeSpec := { name := "dyeHalves", fn := fun _ => fun
  | [d1, d2] => { results := [.lit (.bool false)], args := [d1, d2] }
  | _ => none }
def DyeHalvesWrongFalsely : Prop := dyeHalvesRow.holds Try.pinned (OpenSpec.ofChange dyeHalvesWrong)

/-- 'wigmakerlaw05.DyeMore': WHATEVER THE INPUT: true; the input reads as it did. -/
def dyeMoreSpec : ChangeSpec := { name := "dyeMore", fn := fun _ => fun
  | [d1, d2] => { results := [.lit (.bool true)], args := [d1, d2] }
  | _ => none }
def dyeMoreRow : OpenClaim := { program := "ytkmcdiajcnejiaa", sum := "81e8370f90674091b919e00de32155828c536c18d9e237e5293f8ed120e00524", func := "wigmaker/wigmakerlaw05.DyeMore", spec := "dyeMore", unfollowed := true, recurses := true, apart := false }
def DyeMoreSaid : Prop := dyeMoreRow.holds Try.pinned (OpenSpec.ofChange dyeMoreSpec)

/-- ITS FALSE NEIGHBOUR: 'it returns false'. Refute it at one input. -/
def dyeMoreWrong : ChangeSpec := { name := "dyeMore", fn := fun _ => fun
  | [d1, d2] => { results := [.lit (.bool false)], args := [d1, d2] }
  | _ => none }
def DyeMoreWrongFalsely : Prop := dyeMoreRow.holds Try.pinned (OpenSpec.ofChange dyeMoreWrong)

/-- 'wigmakerlaw07.PlotChecks': WHATEVER THE INPUT: true; the input reads as it did. -/
def plotChecksSpec : ChangeSpec := { name := "plotChecks", fn := fun _ => fun
  | [d1, d2] => { results := [.lit (.bool true)], args := [d1, d2] }
  | _ => none }
def plotChecksRow : OpenClaim := { program := "ytkmcdiajcnejiaa", sum := "81e8370f90674091b919e00de32155828c536c18d9e237e5293f8ed120e00524", func := "wigmaker/wigmakerlaw07.PlotChecks", spec := "plotChecks", unfollowed := true, recurses := true, apart := false }
def PlotChecksSaid : Prop := plotChecksRow.holds Try.pinned (OpenSpec.ofChange plotChecksSpec)

/-- ITS FALSE NEIGHBOUR: 'it returns false'. Refute it at one input. -/
def plotChecksWrong : ChangeSpec := { name := "plotChecks", fn := fun _ => fun
  | [d1, d2] => { results := [.lit (.bool false)], args := [d1, d2] }
  | _ => none }
def PlotChecksWrongFalsely : Prop := plotChecksRow.holds Try.pinned (OpenSpec.ofChange plotChecksWrong)

/-- 'wigmakerlaw07.PlotFewer': WHATEVER THE INPUT: true; the input reads as it did. -/
def plotFewerSpec : ChangeSpec := { name := "plotFewer", fn := fun _ => fun
  | [d1, d2] => { results := [.lit (.bool true)], args := [d1, d2] }
  | _ => none }
def plotFewerRow : OpenClaim := { program := "ytkmcdiajcnejiaa", sum := "81e8370f90674091b919e00de32155828c536c18d9e237e5293f8ed120e00524", func := "wigmaker/wigmakerlaw07.PlotFewer", spec := "plotFewer", unfollowed := true, recurses := true, apart := false }
def PlotFewerSaid : Prop := plotFewerRow.holds Try.pinned (OpenSpec.ofChange plotFewerSpec)

/-- ITS FALSE NEIGHBOUR: 'it returns false'. Refute it at one input. -/
def plotFewerWrong : ChangeSpec := { name := "plotFewer", fn := fun _ => fun
  | [d1, d2] => { results := [.lit (.bool false)], args := [d1, d2] }
  | _ => none }
def PlotFewerWrongFalsely : Prop := plotFewerRow.holds Try.pinned (OpenSpec.ofChange plotFewerWrong)

/-- 'wigmakertop.TopWigs': WHATEVER THE INPUT: true; the input reads as it did. -/
def topWigsSpec : ChangeSpec := { name := "topWigs", fn := fun _ => fun
  | [d1, d2, d3] => { results := [.lit (.bool true)], args := [d1, d2, d3] }
  | _ => none }
def topWigsRow : OpenClaim := { program := "ytkmcdiajcnejiaa", sum := "81e8370f90674091b919e00de32155828c536c18d9e237e5293f8ed120e00524", func := "wigmaker/wigmakertop.TopWigs", spec := "topWigs", unfollowed := true, recurses := true, apart := false }
def TopWigsSaid : Prop := topWigsRow.holds Try.pinned (OpenSpec.ofChange topWigsSpec)

/-- ITS FALSE NEIGHBOUR: 'it returns false'. Refute it at one input. -/
def topWigsWrong : ChangeSpec := { name := "topWigs", fn := fun _ => fun
  | [d1, d2, d3] => { results := [.lit (.bool false)], args := [d1, d2, d3] }
  | _ => none }
def TopWigsWrongFalsely : Prop := topWigsRow.holds Try.pinned (OpenSpec.ofChange topWigsWrong)

/- THE SECOND FORM. 'bulk': how many values and letters a reading holds, each counted each time it is reached (what is shared counts as often as it is met; a slice's spare places count too). A statement '..UptoSaid' is the law's where the arguments, and the package variables that the reading takes, are together of bulk at most 1048576: NARROWER than '..Said'. Prove '..Said' where nothing that the law and all that it calls make is longer than what came in: it says more and counts as full. Else prove '..UptoSaid'. A law counts once. -/
mutual
def uptoBulk {H : Type} : DataW H → Nat
  | .lit (.string bytes) => bytes.length + 1
  | .lit _ => 1
  | .nil => 1
  | .ptr d => uptoBulk d + 1
  | .slice elems spare => uptoBulkAll elems + uptoBulkAll spare + 1
  | .agg parts => uptoBulkAll parts + 1
  | .iface _ d => uptoBulk d + 1
  | .map entries => uptoBulkEntries entries + 1
  | .held _ => 1
def uptoBulkAll {H : Type} : List (DataW H) → Nat
  | [] => 0
  | d :: r => uptoBulk d + uptoBulkAll r
def uptoBulkEntries {H : Type} : List (Lit × DataW H) → Nat
  | [] => 0
  | x :: r => uptoBulkEntry x + uptoBulkEntries r
def uptoBulkEntry {H : Type} : Lit × DataW H → Nat
  | (.string bytes, d) => bytes.length + uptoBulk d + 1
  | (_, d) => uptoBulk d + 1
 end
def uptoSmall : (H : Type) → List (DataW H) → Bool := fun _ ds => decide (uptoBulkAll ds ≤ 1048576)
def OpenSpec.upto (s : _root_.Go.ChangeSpec) : _root_.Go.OpenSpec := { _root_.Go.OpenSpec.ofChange s with cond := some uptoSmall }

/-- 'wigmakerlaw05.DyeBlends', WHERE WHAT IT READS IS OF BULK AT MOST 1048576: true; the input reads as it did. -/
def dyeBlendsUptoRow : OpenClaim := { program := "ytkmcdiajcnejiaa", sum := "81e8370f90674091b919e00de32155828c536c18d9e237e5293f8ed120e00524", func := "wigmaker/wigmakerlaw05.DyeBlends", spec := "dyeBlends", unfollowed := true, recurses := true, apart := false, narrowed := true }
def DyeBlendsUptoSaid : Prop := dyeBlendsUptoRow.holds Try.pinned (OpenSpec.upto dyeBlendsSpec)

/-- 'wigmakerlaw05.DyeMixes', WHERE WHAT IT READS IS OF BULK AT MOST 1048576: true; the input reads as it did. -/
def dyeMixesUptoRow : OpenClaim := { program := "ytkmcdiajcnejiaa", sum := "81e8370f90674091b919e00de32155828c536c18d9e237e5293f8ed120e00524", func := "wigmaker/wigmakerlaw05.DyeMixes", spec := "dyeMixes", unfollowed := true, recurses := true, apart := false, narrowed := true }
def DyeMixesUptoSaid : Prop := dyeMixesUptoRow.holds Try.pinned (OpenSpec.upto dyeMixesSpec)

/-- 'wigmakerlaw05.DyeAparts', WHERE WHAT IT READS IS OF BULK AT MOST 1048576: true; the input reads as it did. -/
def dyeApartsUptoRow : OpenClaim := { program := "ytkmcdiajcnejiaa", sum := "81e8370f90674091b919e00de32155828c536c18d9e237e5293f8ed120e00524", func := "wigmaker/wigmakerlaw05.DyeAparts", spec := "dyeAparts", unfollowed := true, recurses := true, apart := false, narrowed := true }
def DyeApartsUptoSaid : Prop := dyeApartsUptoRow.holds Try.pinned (OpenSpec.upto dyeApartsSpec)

/-- 'wigmakerlaw05.DyeMatches', WHERE WHAT IT READS IS OF BULK AT MOST 1048576: true; the input reads as it did. -/
def dyeMatchesUptoRow : OpenClaim := { program := "ytkmcdiajcnejiaa", sum := "81e8370f90674091b919e00de32155828c536c18d9e237e5293f8ed120e00524", func := "wigmaker/wigmakerlaw05.DyeMatches", spec := "dyeMatches", unfollowed := true, recurses := true, apart := false, narrowed := true }
def DyeMatchesUptoSaid : Prop := dyeMatchesUptoRow.holds Try.pinned (OpenSpec.upto dyeMatchesSpec)

/-- 'wigmakerlaw05.DyeHalves', WHERE WHAT IT READS IS OF BULK AT MOST 1048576: true; the input reads as it did. -/
def dyeHalvesUptoRow : OpenClaim := { program := "ytkmcdiajcnejiaa", sum := "81e8370f90674091b919e00de32155828c536c18d9e237e5293f8ed120e00524", func := "wigmaker/wigmakerlaw05.DyeHalves", spec := "dyeHalves", unfollowed := true, recurses := true, apart := false, narrowed := true }
def DyeHalvesUptoSaid : Prop := dyeHalvesUptoRow.holds Try.pinned (OpenSpec.upto dyeHalvesSpec)

/-- 'wigmakerlaw05.DyeMore', WHERE WHAT IT READS IS OF BULK AT MOST 1048576: true; the input reads as it did. -/
def dyeMoreUptoRow : OpenClaim := { program := "ytkmcdiajcnejiaa", sum := "81e8370f90674091b919e00de32155828c536c18d9e237e5293f8ed120e00524", func := "wigmaker/wigmakerlaw05.DyeMore", spec := "dyeMore", unfollowed := true, recurses := true, apart := false, narrowed := true }
def DyeMoreUptoSaid : Prop := dyeMoreUptoRow.holds Try.pinned (OpenSpec.upto dyeMoreSpec)

/-- 'wigmakerlaw07.PlotChecks', WHERE WHAT IT READS IS OF BULK AT MOST 1048576: true; the input reads as it did. -/
def plotChecksUptoRow : OpenClaim := { program := "ytkmcdiajcnejiaa", sum := "81e8370f90674091b919e00de32155828c536c18d9e237e5293f8ed120e00524", func := "wigmaker/wigmakerlaw07.PlotChecks", spec := "plotChecks", unfollowed := true, recurses := true, apart := false, narrowed := true }
def PlotChecksUptoSaid : Prop := plotChecksUptoRow.holds Try.pinned (OpenSpec.upto plotChecksSpec)

/-- 'wigmakerlaw07.PlotFewer', WHERE WHAT IT READS IS OF BULK AT MOST 1048576: true; the input reads as it did. -/
def plotFewerUptoRow : OpenClaim := { program := "ytkmcdiajcnejiaa", sum := "81e8370f90674091b919e00de32155828c536c18d9e237e5293f8ed120e00524", func := "wigmaker/wigmakerlaw07.PlotFewer", spec := "plotFewer", unfollowed := true, recurses := true, apart := false, narrowed := true }
def PlotFewerUptoSaid : Prop := plotFewerUptoRow.holds Try.pinned (OpenSpec.upto plotFewerSpec)

/-- 'wigmakertop.TopWigs', WHERE WHAT IT READS IS OF BULK AT MOST 1048576: true; the input reads as it did. -/
def topWigsUptoRow : OpenClaim := { program := "ytkmcdiajcnejiaa", sum := "81e8370f90674091b919e00de32155828c536c18d9e237e5293f8ed120e00524", func := "wigmaker/wigmakertop.TopWigs", spec := "topWigs", unfollowed := true, recurses := true, apart := false, narrowed := true }
def TopWigsUptoSaid : Prop := topWigsUptoRow.holds Try.pinned (OpenSpec.upto topWigsSpec)

end Rows
end Go.Proofs.Ytkmcdiajcnejiaa
