/-
  NARROWER THAN 'FOR EVERY INPUT', by the rows' own cells (each row's printed sentence says how): FlowWalks: laid · FlowWalksBack: laid · FlowSpins: laid · FlowGroup: laid · FlowCombs: laid · FlowCombsOn: laid · FlowTexts: laid · TopWhorls: laid.
  DERIVED. THE GIVEN ROWS OF THIS SEAT. 8 by the template 'for every input the law returns true; each argument reads behind the call as it read before'; 0 by the template 'total and deterministic' (their statements: YtjchpgkibhdoiaaDoorTotals.lean).
  GIVEN WITH THE SEED: the statements are not yours to turn. If you find one false, say at which input.
  Laid BY PROGRAM, IN A SANDBOX (cutbox-rows.mjs): the forced cells as the released guide's own fill.sh prints them over the translation 434abcc40318b70a… (all of the seat's roots in one cut). By AI agents, Wed Nov 11 2026. No macro, syntax, notation, axiom, sorry.
-/
import Derived.Test.YtjchpgkibhdoiaaDoorChecked
import GoSem.PinnedTables
import GoSem.Claim
import GoSem.ClaimJoined
import GoSem.ClaimMapViews
import Derived.JoinedTies
import Derived.KernelRfl
namespace Go.Proofs.YtjchpgkibhdoiaaDoor
/- THE CELL 'sum', in the pinned program and in every row, IS THE sha256 OF THE DUMP (.gsa) THAT YtjchpgkibhdoiaaDoorProg.lean LOADS. Nothing in Lean hashes anything: it is a label: what it is worth is what the hold of that sum in a sandbox is worth. -/
noncomputable def Tryd.pinned : Pinned := { name := "ytjchpgkibhdoiaadoor", sum := "434abcc40318b70a2b12f9c81dc5bd0c526077abd13b289460f6131484a84353", checked := Tryd.checked }
namespace Rows
def none {H : Type} : Left H := { results := [], args := [] }

/- WHAT THE LISTED PACKAGE-LEVEL VARIABLES READ AS WHEN THE CALL BEGINS. Each datum BY PROGRAM (the guide's laid-datum.mjs) off the statement by which the dump's own 'gosem.cut.vars' lays the variable. In a bare row this is a premise. The card (YtjchpgkibhdoiaaDoorCards.lean) ties it to the program's text. -/
def laid_wigmaker_flow_steps {H : Type} : DataW H := .agg [.agg [.lit (.int .i64 1), .lit (.int .i64 0)], .agg [.lit (.int .i64 1), .lit (.int .i64 1)], .agg [.lit (.int .i64 0), .lit (.int .i64 1)], .agg [.lit (.int .i64 (-1)), .lit (.int .i64 1)], .agg [.lit (.int .i64 (-1)), .lit (.int .i64 0)], .agg [.lit (.int .i64 (-1)), .lit (.int .i64 (-1))], .agg [.lit (.int .i64 0), .lit (.int .i64 (-1))], .agg [.lit (.int .i64 1), .lit (.int .i64 (-1))]]
def laid_math_bits_deBruijn32tab {H : Type} : DataW H := .agg [.lit (.int .u8 0), .lit (.int .u8 1), .lit (.int .u8 28), .lit (.int .u8 2), .lit (.int .u8 29), .lit (.int .u8 14), .lit (.int .u8 24), .lit (.int .u8 3), .lit (.int .u8 30), .lit (.int .u8 22), .lit (.int .u8 20), .lit (.int .u8 15), .lit (.int .u8 25), .lit (.int .u8 17), .lit (.int .u8 4), .lit (.int .u8 8), .lit (.int .u8 31), .lit (.int .u8 27), .lit (.int .u8 13), .lit (.int .u8 23), .lit (.int .u8 21), .lit (.int .u8 19), .lit (.int .u8 16), .lit (.int .u8 7), .lit (.int .u8 26), .lit (.int .u8 12), .lit (.int .u8 18), .lit (.int .u8 6), .lit (.int .u8 11), .lit (.int .u8 5), .lit (.int .u8 10), .lit (.int .u8 9)]
def laid_math_bits_deBruijn64tab {H : Type} : DataW H := .agg [.lit (.int .u8 0), .lit (.int .u8 1), .lit (.int .u8 56), .lit (.int .u8 2), .lit (.int .u8 57), .lit (.int .u8 49), .lit (.int .u8 28), .lit (.int .u8 3), .lit (.int .u8 61), .lit (.int .u8 58), .lit (.int .u8 42), .lit (.int .u8 50), .lit (.int .u8 38), .lit (.int .u8 29), .lit (.int .u8 17), .lit (.int .u8 4), .lit (.int .u8 62), .lit (.int .u8 47), .lit (.int .u8 59), .lit (.int .u8 36), .lit (.int .u8 45), .lit (.int .u8 43), .lit (.int .u8 51), .lit (.int .u8 22), .lit (.int .u8 53), .lit (.int .u8 39), .lit (.int .u8 33), .lit (.int .u8 30), .lit (.int .u8 24), .lit (.int .u8 18), .lit (.int .u8 12), .lit (.int .u8 5), .lit (.int .u8 63), .lit (.int .u8 55), .lit (.int .u8 48), .lit (.int .u8 27), .lit (.int .u8 60), .lit (.int .u8 41), .lit (.int .u8 37), .lit (.int .u8 16), .lit (.int .u8 46), .lit (.int .u8 35), .lit (.int .u8 44), .lit (.int .u8 21), .lit (.int .u8 52), .lit (.int .u8 32), .lit (.int .u8 23), .lit (.int .u8 11), .lit (.int .u8 54), .lit (.int .u8 26), .lit (.int .u8 40), .lit (.int .u8 15), .lit (.int .u8 34), .lit (.int .u8 20), .lit (.int .u8 31), .lit (.int .u8 10), .lit (.int .u8 25), .lit (.int .u8 14), .lit (.int .u8 19), .lit (.int .u8 9), .lit (.int .u8 13), .lit (.int .u8 8), .lit (.int .u8 7), .lit (.int .u8 6)]
def laid_internal_strconv_uint64pow10 {H : Type} : DataW H := .agg [.lit (.int .u64 1), .lit (.int .u64 10), .lit (.int .u64 100), .lit (.int .u64 1000), .lit (.int .u64 10000), .lit (.int .u64 100000), .lit (.int .u64 1000000), .lit (.int .u64 10000000), .lit (.int .u64 100000000), .lit (.int .u64 1000000000), .lit (.int .u64 10000000000), .lit (.int .u64 100000000000), .lit (.int .u64 1000000000000), .lit (.int .u64 10000000000000), .lit (.int .u64 100000000000000), .lit (.int .u64 1000000000000000), .lit (.int .u64 10000000000000000), .lit (.int .u64 100000000000000000), .lit (.int .u64 1000000000000000000), .lit (.int .u64 10000000000000000000)]
def laid_unicode_utf8_acceptRanges {H : Type} : DataW H := .agg [.agg [.lit (.int .u8 128), .lit (.int .u8 191)], .agg [.lit (.int .u8 160), .lit (.int .u8 191)], .agg [.lit (.int .u8 128), .lit (.int .u8 159)], .agg [.lit (.int .u8 144), .lit (.int .u8 191)], .agg [.lit (.int .u8 128), .lit (.int .u8 143)], .agg [.lit (.int .u8 0), .lit (.int .u8 0)], .agg [.lit (.int .u8 0), .lit (.int .u8 0)], .agg [.lit (.int .u8 0), .lit (.int .u8 0)], .agg [.lit (.int .u8 0), .lit (.int .u8 0)], .agg [.lit (.int .u8 0), .lit (.int .u8 0)], .agg [.lit (.int .u8 0), .lit (.int .u8 0)], .agg [.lit (.int .u8 0), .lit (.int .u8 0)], .agg [.lit (.int .u8 0), .lit (.int .u8 0)], .agg [.lit (.int .u8 0), .lit (.int .u8 0)], .agg [.lit (.int .u8 0), .lit (.int .u8 0)], .agg [.lit (.int .u8 0), .lit (.int .u8 0)]]
def laid_strconv_ErrRange {H : Type} : DataW H := .iface "*errors.errorString" (.ptr (.agg [.lit (.string [118, 97, 108, 117, 101, 32, 111, 117, 116, 32, 111, 102, 32, 114, 97, 110, 103, 101])]))
def laid_strconv_ErrSyntax {H : Type} : DataW H := .iface "*errors.errorString" (.ptr (.agg [.lit (.string [105, 110, 118, 97, 108, 105, 100, 32, 115, 121, 110, 116, 97, 120])]))
/-- One of Go's own tables, pinned by name: the form's constant. -/
def laid_unicode_utf8_first : DataW Unit := Go.Pinned.utf8First

/-- 'wigmakerlaw03.FlowWalks': WHATEVER THE INPUT: true; the input reads as it did. -/
def flowWalksSpec : ChangeSpec := { name := "flowWalks", fn := fun _ => fun
  | [d1, d2] => { results := [.lit (.bool true)], args := [d1, d2] }
  | _ => none }
def flowWalksRow : OpenClaim := { program := "ytjchpgkibhdoiaadoor", sum := "434abcc40318b70a2b12f9c81dc5bd0c526077abd13b289460f6131484a84353", func := "wigmaker/wigmakerlaw03.FlowWalks", spec := "flowWalks", named := ["wigmaker/flow.steps"], plainKeys := false, apart := false, laid := [("wigmaker/flow.steps", laid_wigmaker_flow_steps)] }
def FlowWalksSaid : Prop := flowWalksRow.holds Tryd.pinned (OpenSpec.ofChange flowWalksSpec)

/-- ITS FALSE NEIGHBOUR: 'it returns false'. Refute it at one input. -/
def flowWalksWrong : ChangeSpec := { name := "flowWalks", fn := fun _ => fun
  | [d1, d2] => { results := [.lit (.bool false)], args := [d1, d2] }
  | _ => none }
def FlowWalksWrongFalsely : Prop := flowWalksRow.holds Tryd.pinned (OpenSpec.ofChange flowWalksWrong)

/-- 'wigmakerlaw03.FlowWalksBack': WHATEVER THE INPUT: true; the input reads as it did. -/
def flowWalksBackSpec : ChangeSpec := { name := "flowWalksBack", fn := fun _ => fun
  | [d1, d2, d3] => { results := [.lit (.bool true)], args := [d1, d2, d3] }
  | _ => none }
def flowWalksBackRow : OpenClaim := { program := "ytjchpgkibhdoiaadoor", sum := "434abcc40318b70a2b12f9c81dc5bd0c526077abd13b289460f6131484a84353", func := "wigmaker/wigmakerlaw03.FlowWalksBack", spec := "flowWalksBack", named := ["wigmaker/flow.steps"], plainKeys := false, apart := false, laid := [("wigmaker/flow.steps", laid_wigmaker_flow_steps)] }
def FlowWalksBackSaid : Prop := flowWalksBackRow.holds Tryd.pinned (OpenSpec.ofChange flowWalksBackSpec)

/-- ITS FALSE NEIGHBOUR: 'it returns false'. Refute it at one input. -/
def flowWalksBackWrong : ChangeSpec := { name := "flowWalksBack", fn := fun _ => fun
  | [d1, d2, d3] => { results := [.lit (.bool false)], args := [d1, d2, d3] }
  | _ => none }
def FlowWalksBackWrongFalsely : Prop := flowWalksBackRow.holds Tryd.pinned (OpenSpec.ofChange flowWalksBackWrong)

/-- 'wigmakerlaw03.FlowSpins': WHATEVER THE INPUT: true; the input reads as it did. -/
def flowSpinsSpec : ChangeSpec := { name := "flowSpins", fn := fun _ => fun
  | [d1, d2] => { results := [.lit (.bool true)], args := [d1, d2] }
  | _ => none }
def flowSpinsRow : OpenClaim := { program := "ytjchpgkibhdoiaadoor", sum := "434abcc40318b70a2b12f9c81dc5bd0c526077abd13b289460f6131484a84353", func := "wigmaker/wigmakerlaw03.FlowSpins", spec := "flowSpins", unfollowed := true, recurses := true, named := ["wigmaker/flow.steps"], plainKeys := false, apart := false, laid := [("wigmaker/flow.steps", laid_wigmaker_flow_steps)] }
def FlowSpinsSaid : Prop := flowSpinsRow.holds Tryd.pinned (OpenSpec.ofChange flowSpinsSpec)

/-- ITS FALSE NEIGHBOUR: 'it returns false'. Refute it at one input. -/
def flowSpinsWrong : ChangeSpec := { name := "flowSpins", fn := fun _ => fun
  | [d1, d2] => { results := [.lit (.bool false)], args := [d1, d2] }
  | _ => none }
def FlowSpinsWrongFalsely : Prop := flowSpinsRow.holds Tryd.pinned (OpenSpec.ofChange flowSpinsWrong)

/-- 'wigmakerlaw03.FlowGroup': WHATEVER THE INPUT: true; the input reads as it did. -/
def flowGroupSpec : ChangeSpec := { name := "flowGroup", fn := fun _ => fun
  | [d1, d2] => { results := [.lit (.bool true)], args := [d1, d2] }
  | _ => none }
def flowGroupRow : OpenClaim := { program := "ytjchpgkibhdoiaadoor", sum := "434abcc40318b70a2b12f9c81dc5bd0c526077abd13b289460f6131484a84353", func := "wigmaker/wigmakerlaw03.FlowGroup", spec := "flowGroup", unfollowed := true, recurses := true, named := ["wigmaker/flow.steps"], plainKeys := false, apart := false, laid := [("wigmaker/flow.steps", laid_wigmaker_flow_steps)] }
def FlowGroupSaid : Prop := flowGroupRow.holds Tryd.pinned (OpenSpec.ofChange flowGroupSpec)

/-- ITS FALSE NEIGHBOUR: 'it returns false'. Refute it at one input. -/
def flowGroupWrong : ChangeSpec := { name := "flowGroup", fn := fun _ => fun
  | [d1, d2] => { results := [.lit (.bool false)], args := [d1, d2] }
  | _ => none }
def FlowGroupWrongFalsely : Prop := flowGroupRow.holds Tryd.pinned (OpenSpec.ofChange flowGroupWrong)

/-- 'wigmakerlaw03.FlowCombs': WHATEVER THE INPUT: true; the input reads as it did. -/
def flowCombsSpec : ChangeSpec := { name := "flowCombs", fn := fun _ => fun
  | [d1, d2] => { results := [.lit (.bool true)], args := [d1, d2] }
  | _ => none }
def flowCombsRow : OpenClaim := { program := "ytjchpgkibhdoiaadoor", sum := "434abcc40318b70a2b12f9c81dc5bd0c526077abd13b289460f6131484a84353", func := "wigmaker/wigmakerlaw03.FlowCombs", spec := "flowCombs", named := ["wigmaker/flow.steps"], plainKeys := false, apart := false, laid := [("wigmaker/flow.steps", laid_wigmaker_flow_steps)] }
def FlowCombsSaid : Prop := flowCombsRow.holds Tryd.pinned (OpenSpec.ofChange flowCombsSpec)

/-- ITS FALSE NEIGHBOUR: 'it returns false'. Refute it at one input. -/
def flowCombsWrong : ChangeSpec := { name := "flowCombs", fn := fun _ => fun
  | [d1, d2] => { results := [.lit (.bool false)], args := [d1, d2] }
  | _ => none }
def FlowCombsWrongFalsely : Prop := flowCombsRow.holds Tryd.pinned (OpenSpec.ofChange flowCombsWrong)

/-- 'wigmakerlaw03.FlowCombsOn': WHATEVER THE INPUT: true; the input reads as it did. -/
def flowCombsOnSpec : ChangeSpec := { name := "flowCombsOn", fn := fun _ => fun
  | [d1, d2, d3] => { results := [.lit (.bool true)], args := [d1, d2, d3] }
  | _ => none }
def flowCombsOnRow : OpenClaim := { program := "ytjchpgkibhdoiaadoor", sum := "434abcc40318b70a2b12f9c81dc5bd0c526077abd13b289460f6131484a84353", func := "wigmaker/wigmakerlaw03.FlowCombsOn", spec := "flowCombsOn", named := ["wigmaker/flow.steps"], plainKeys := false, apart := false, laid := [("wigmaker/flow.steps", laid_wigmaker_flow_steps)] }
def FlowCombsOnSaid : Prop := flowCombsOnRow.holds Tryd.pinned (OpenSpec.ofChange flowCombsOnSpec)

/-- ITS FALSE NEIGHBOUR: 'it returns false'. Refute it at one input. -/
def flowCombsOnWrong : ChangeSpec := { name := "flowCombsOn", fn := fun _ => fun
  | [d1, d2, d3] => { results := [.lit (.bool false)], args := [d1, d2, d3] }
  | _ => none }
def FlowCombsOnWrongFalsely : Prop := flowCombsOnRow.holds Tryd.pinned (OpenSpec.ofChange flowCombsOnWrong)

/-- 'wigmakerlaw03.FlowTexts': WHATEVER THE INPUT: true; the input reads as it did. -/
def flowTextsSpec : ChangeSpec := { name := "flowTexts", fn := fun _ => fun
  | [d1, d2] => { results := [.lit (.bool true)], args := [d1, d2] }
  | _ => none }
def flowTextsRow : OpenClaim := { program := "ytjchpgkibhdoiaadoor", sum := "434abcc40318b70a2b12f9c81dc5bd0c526077abd13b289460f6131484a84353", func := "wigmaker/wigmakerlaw03.FlowTexts", spec := "flowTexts", inPlace := ["internal/bytealg.CountString", "internal/bytealg.IndexByteString", "internal/bytealg.IndexString"], recurses := true, named := ["internal/strconv.uint64pow10", "math/bits.deBruijn32tab", "math/bits.deBruijn64tab", "unicode/utf8.first", "unicode/utf8.acceptRanges", "internal/bytealg.MaxLen", "strconv.ErrSyntax", "strconv.ErrRange"], plainKeys := false, apart := false, laid := [("math/bits.deBruijn32tab", laid_math_bits_deBruijn32tab), ("math/bits.deBruijn64tab", laid_math_bits_deBruijn64tab), ("internal/strconv.uint64pow10", laid_internal_strconv_uint64pow10), ("unicode/utf8.acceptRanges", laid_unicode_utf8_acceptRanges), ("strconv.ErrRange", laid_strconv_ErrRange), ("strconv.ErrSyntax", laid_strconv_ErrSyntax), ("unicode/utf8.first", laid_unicode_utf8_first)] }
def FlowTextsSaid : Prop := flowTextsRow.holds Tryd.pinned (OpenSpec.ofChange flowTextsSpec)

/-- ITS FALSE NEIGHBOUR: 'it returns false'. Refute it at one input. -/
def flowTextsWrong : ChangeSpec := { name := "flowTexts", fn := fun _ => fun
  | [d1, d2] => { results := [.lit (.bool false)], args := [d1, d2] }
  | _ => none }
def FlowTextsWrongFalsely : Prop := flowTextsRow.holds Tryd.pinned (OpenSpec.ofChange flowTextsWrong)

/-- 'wigmakertop.TopWhorls': WHATEVER THE INPUT: true; the input reads as it did. -/
def topWhorlsSpec : ChangeSpec := { name := "topWhorls", fn := fun _ => fun
  | [d1, d2, d3] => { results := [.lit (.bool true)], args := [d1, d2, d3] }
  | _ => none }
def topWhorlsRow : OpenClaim := { program := "ytjchpgkibhdoiaadoor", sum := "434abcc40318b70a2b12f9c81dc5bd0c526077abd13b289460f6131484a84353", func := "wigmaker/wigmakertop.TopWhorls", spec := "topWhorls", unfollowed := true, recurses := true, named := ["wigmaker/flow.steps"], plainKeys := false, apart := false, laid := [("wigmaker/flow.steps", laid_wigmaker_flow_steps)] }
def TopWhorlsSaid : Prop := topWhorlsRow.holds Tryd.pinned (OpenSpec.ofChange topWhorlsSpec)

/-- ITS FALSE NEIGHBOUR: 'it returns false'. Refute it at one input. -/
def topWhorlsWrong : ChangeSpec := { name := "topWhorls", fn := fun _ => fun
  | [d1, d2, d3] => { results := [.lit (.bool false)], args := [d1, d2, d3] }
  | _ => none }
def TopWhorlsWrongFalsely : Prop := topWhorlsRow.holds Tryd.pinned (OpenSpec.ofChange topWhorlsWrong)

/- THE SECOND FORM. 'bulk': how many values and letters a reading holds, each counted each time it is reached (what is shared counts as often as it is met; a slice's spare places count too). A statement '..UptoSaid' is the law's where the arguments, and the package variables that the reading takes, are together of bulk at most 1048576: NARROWER than '..Said'. Prove '..Said' where nothing that the law and all that it calls make is longer than what came in: it says more and counts as full. Else prove '..UptoSaid'. A law counts once. -/
mutual
def uptoBulk {H : Type} : DataW H → Nat
  | .lit (.string bytes) => bytes.length + 1
  | .lit _ => 1
  | .nil => 1
  | .ptr d => uptoBulk d + 1
  | .slice elems spare => uptoBulkAll elems + uptoBulkAll spare + 1
  | .agg parts => uptoBulkAll parts + 1
  | .iface _ d => uptoBulk d + 1
  | .map entries => uptoBulkEntries entries + 1
  | .held _ => 1
def uptoBulkAll {H : Type} : List (DataW H) → Nat
  | [] => 0
  | d :: r => uptoBulk d + uptoBulkAll r
def uptoBulkEntries {H : Type} : List (Lit × DataW H) → Nat
  | [] => 0
  | x :: r => uptoBulkEntry x + uptoBulkEntries r
def uptoBulkEntry {H : Type} : Lit × DataW H → Nat
  | (.string bytes, d) => bytes.length + uptoBulk d + 1
  | (_, d) => uptoBulk d + 1
 end
def uptoSmall : (H : Type) → List (DataW H) → Bool := fun _ ds => decide (uptoBulkAll ds ≤ 1048576)
def OpenSpec.upto (s : _root_.Go.ChangeSpec) : _root_.Go.OpenSpec := { _root_.Go.OpenSpec.ofChange s with cond := some uptoSmall }

/-- 'wigmakerlaw03.FlowWalks', WHERE WHAT IT READS IS OF BULK AT MOST 1048576: true; the input reads as it did. -/
def flowWalksUptoRow : OpenClaim := { program := "ytjchpgkibhdoiaadoor", sum := "434abcc40318b70a2b12f9c81dc5bd0c526077abd13b289460f6131484a84353", func := "wigmaker/wigmakerlaw03.FlowWalks", spec := "flowWalks", named := ["wigmaker/flow.steps"], plainKeys := false, apart := false, laid := [("wigmaker/flow.steps", laid_wigmaker_flow_steps)], narrowed := true }
def FlowWalksUptoSaid : Prop := flowWalksUptoRow.holds Tryd.pinned (OpenSpec.upto flowWalksSpec)

/-- 'wigmakerlaw03.FlowWalksBack', WHERE WHAT IT READS IS OF BULK AT MOST 1048576: true; the input reads as it did. -/
def flowWalksBackUptoRow : OpenClaim := { program := "ytjchpgkibhdoiaadoor", sum := "434abcc40318b70a2b12f9c81dc5bd0c526077abd13b289460f6131484a84353", func := "wigmaker/wigmakerlaw03.FlowWalksBack", spec := "flowWalksBack", named := ["wigmaker/flow.steps"], plainKeys := false, apart := false, laid := [("wigmaker/flow.steps", laid_wigmaker_flow_steps)], narrowed := true }
def FlowWalksBackUptoSaid : Prop := flowWalksBackUptoRow.holds Tryd.pinned (OpenSpec.upto flowWalksBackSpec)

/-- 'wigmakerlaw03.FlowSpins', WHERE WHAT IT READS IS OF BULK AT MOST 1048576: true; the input reads as it did. -/
def flowSpinsUptoRow : OpenClaim := { program := "ytjchpgkibhdoiaadoor", sum := "434abcc40318b70a2b12f9c81dc5bd0c526077abd13b289460f6131484a84353", func := "wigmaker/wigmakerlaw03.FlowSpins", spec := "flowSpins", unfollowed := true, recurses := true, named := ["wigmaker/flow.steps"], plainKeys := false, apart := false, laid := [("wigmaker/flow.steps", laid_wigmaker_flow_steps)], narrowed := true }
def FlowSpinsUptoSaid : Prop := flowSpinsUptoRow.holds Tryd.pinned (OpenSpec.upto flowSpinsSpec)

/-- 'wigmakerlaw03.FlowGroup', WHERE WHAT IT READS IS OF BULK AT MOST 1048576: true; the input reads as it did. -/
def flowGroupUptoRow : OpenClaim := { program := "ytjchpgkibhdoiaadoor", sum := "434abcc40318b70a2b12f9c81dc5bd0c526077abd13b289460f6131484a84353", func := "wigmaker/wigmakerlaw03.FlowGroup", spec := "flowGroup", unfollowed := true, recurses := true, named := ["wigmaker/flow.steps"], plainKeys := false, apart := false, laid := [("wigmaker/flow.steps", laid_wigmaker_flow_steps)], narrowed := true }
def FlowGroupUptoSaid : Prop := flowGroupUptoRow.holds Tryd.pinned (OpenSpec.upto flowGroupSpec)

/-- 'wigmakerlaw03.FlowCombs', WHERE WHAT IT READS IS OF BULK AT MOST 1048576: true; the input reads as it did. -/
def flowCombsUptoRow : OpenClaim := { program := "ytjchpgkibhdoiaadoor", sum := "434abcc40318b70a2b12f9c81dc5bd0c526077abd13b289460f6131484a84353", func := "wigmaker/wigmakerlaw03.FlowCombs", spec := "flowCombs", named := ["wigmaker/flow.steps"], plainKeys := false, apart := false, laid := [("wigmaker/flow.steps", laid_wigmaker_flow_steps)], narrowed := true }
def FlowCombsUptoSaid : Prop := flowCombsUptoRow.holds Tryd.pinned (OpenSpec.upto flowCombsSpec)

/-- 'wigmakerlaw03.FlowCombsOn', WHERE WHAT IT READS IS OF BULK AT MOST 1048576: true; the input reads as it did. -/
def flowCombsOnUptoRow : OpenClaim := { program := "ytjchpgkibhdoiaadoor", sum := "434abcc40318b70a2b12f9c81dc5bd0c526077abd13b289460f6131484a84353", func := "wigmaker/wigmakerlaw03.FlowCombsOn", spec := "flowCombsOn", named := ["wigmaker/flow.steps"], plainKeys := false, apart := false, laid := [("wigmaker/flow.steps", laid_wigmaker_flow_steps)], narrowed := true }
def FlowCombsOnUptoSaid : Prop := flowCombsOnUptoRow.holds Tryd.pinned (OpenSpec.upto flowCombsOnSpec)

/-- 'wigmakerlaw03.FlowTexts', WHERE WHAT IT READS IS OF BULK AT MOST 1048576: true; the input reads as it did. -/
def flowTextsUptoRow : OpenClaim := { program := "ytjchpgkibhdoiaadoor", sum := "434abcc40318b70a2b12f9c81dc5bd0c526077abd13b289460f6131484a84353", func := "wigmaker/wigmakerlaw03.FlowTexts", spec := "flowTexts", inPlace := ["internal/bytealg.CountString", "internal/bytealg.IndexByteString", "internal/bytealg.IndexString"], recurses := true, named := ["internal/strconv.uint64pow10", "math/bits.deBruijn32tab", "math/bits.deBruijn64tab", "unicode/utf8.first", "unicode/utf8.acceptRanges", "internal/bytealg.MaxLen", "strconv.ErrSyntax", "strconv.ErrRange"], plainKeys := false, apart := false, laid := [("math/bits.deBruijn32tab", laid_math_bits_deBruijn32tab), ("math/bits.deBruijn64tab", laid_math_bits_deBruijn64tab), ("internal/strconv.uint64pow10", laid_internal_strconv_uint64pow10), ("unicode/utf8.acceptRanges", laid_unicode_utf8_acceptRanges), ("strconv.ErrRange", laid_strconv_ErrRange), ("strconv.ErrSyntax", laid_strconv_ErrSyntax), ("unicode/utf8.first", laid_unicode_utf8_first)], narrowed := true }
def FlowTextsUptoSaid : Prop := flowTextsUptoRow.holds Tryd.pinned (OpenSpec.upto flowTextsSpec)

/-- 'wigmakertop.TopWhorls', WHERE WHAT IT READS IS OF BULK AT MOST 1048576: true; the input reads as it did. -/
def topWhorlsUptoRow : OpenClaim := { program := "ytjchpgkibhdoiaadoor", sum := "434abcc40318b70a2b12f9c81dc5bd0c526077abd13b289460f6131484a84353", func := "wigmaker/wigmakertop.TopWhorls", spec := "topWhorls", unfollowed := true, recurses := true, named := ["wigmaker/flow.steps"], plainKeys := false, apart := false, laid := [("wigmaker/flow.steps", laid_wigmaker_flow_steps)], narrowed := true }
def TopWhorlsUptoSaid : Prop := topWhorlsUptoRow.holds Tryd.pinned (OpenSpec.upto topWhorlsSpec)

end Rows
end Go.Proofs.YtjchpgkibhdoiaaDoor
