/-
  NARROWER THAN 'FOR EVERY INPUT', by the rows' own cells (each row's printed sentence says how): WalScripts: laid · GroupScripts: laid · GroupCrashes: laid · GroupArrives: laid · AllocScripts: laid · AllocTakes: laid.
  DERIVED. THE GIVEN ROWS OF THIS SEAT. 6 by the template 'for every input the law returns true; each argument reads behind the call as it read before'; 0 by the template 'total and deterministic' (their statements: YtdfanhjnkjdngaaGreatDoorTotals.lean).
  GIVEN WITH THE SEED: the statements are not yours to turn. If you find one false, say at which input.
  Laid BY PROGRAM, IN A SANDBOX (cutbox-rows.mjs): the forced cells as the released guide's own fill.sh prints them over the translation 5b67ceb92a9bbe2c… (all of the seat's roots in one cut). By AI agents, Wed Nov 11 2026. No macro, syntax, notation, axiom, sorry.
-/
import Derived.Test.YtdfanhjnkjdngaaGreatDoorChecked
import GoSem.Claim
import GoSem.ClaimJoined
import GoSem.ClaimMapViews
import Derived.JoinedTies
import Derived.KernelRfl
namespace Go.Proofs.YtdfanhjnkjdngaaGreatDoor
/- THE CELL 'sum', in the pinned program and in every row, IS THE sha256 OF THE DUMP (.gsa) THAT YtdfanhjnkjdngaaGreatDoorProg.lean LOADS. Nothing in Lean hashes anything: it is a label: what it is worth is what the hold of that sum in a sandbox is worth. -/
noncomputable def Tryz.pinned : Pinned := { name := "ytdfanhjnkjdngaagreatdoor", sum := "5b67ceb92a9bbe2ceccc6d4279da1ae50d9229be0abf0b62158d7fdb405b70c0", checked := Tryz.checked }
namespace Rows
def none {H : Type} : Left H := { results := [], args := [] }

/- WHAT THE LISTED PACKAGE-LEVEL VARIABLES READ AS WHEN THE CALL BEGINS. Each datum BY PROGRAM (the guide's laid-datum.mjs) off the statement by which the dump's own 'gosem.cut.vars' lays the variable. In a bare row this is a premise. The card (YtdfanhjnkjdngaaGreatDoorCards.lean) ties it to the program's text. -/
def laid_skerry_crc_fourSteps {H : Type} : DataW H := .agg [.lit (.int .u32 0), .lit (.int .u32 498536548), .lit (.int .u32 997073096), .lit (.int .u32 651767980), .lit (.int .u32 1994146192), .lit (.int .u32 1802195444), .lit (.int .u32 1303535960), .lit (.int .u32 1342533948), .lit (.int .u32 3988292384), .lit (.int .u32 4027552580), .lit (.int .u32 3604390888), .lit (.int .u32 3412177804), .lit (.int .u32 2607071920), .lit (.int .u32 2262029012), .lit (.int .u32 2685067896), .lit (.int .u32 3183342108)]

/-- 'skerrylaw09.WalScripts': WHATEVER THE INPUT: true; the input reads as it did. -/
def walScriptsSpec : ChangeSpec := { name := "walScripts", fn := fun _ => fun
  | [d] => { results := [.lit (.bool true)], args := [d] }
  | _ => none }
def walScriptsRow : OpenClaim := { program := "ytdfanhjnkjdngaagreatdoor", sum := "5b67ceb92a9bbe2ceccc6d4279da1ae50d9229be0abf0b62158d7fdb405b70c0", func := "skerry/skerrylaw09.WalScripts", spec := "walScripts", unfollowed := true, recurses := true, named := ["skerry/crc.fourSteps"], apart := false, laid := [("skerry/crc.fourSteps", laid_skerry_crc_fourSteps)] }
def WalScriptsSaid : Prop := walScriptsRow.holds Tryz.pinned (OpenSpec.ofChange walScriptsSpec)

/-- ITS FALSE NEIGHBOUR: 'it returns false'. Refute it at one input. -/
def walScriptsWrong : ChangeSpec := { name := "walScripts", fn := fun _ => fun
  | [d] => { results := [.lit (.bool false)], args := [d] }
  | _ => none }
def WalScriptsWrongFalsely : Prop := walScriptsRow.holds Tryz.pinned (OpenSpec.ofChange walScriptsWrong)

/-- 'skerrylaw11.GroupScripts': WHATEVER THE INPUT: true; the input reads as it did. -/
def groupScriptsSpec : ChangeSpec := { name := "groupScripts", fn := fun _ => fun
  | [d1, d2, d3] => { results := [.lit (.bool true)], args := [d1, d2, d3] }
  | _ => none }
def groupScriptsRow : OpenClaim := { program := "ytdfanhjnkjdngaagreatdoor", sum := "5b67ceb92a9bbe2ceccc6d4279da1ae50d9229be0abf0b62158d7fdb405b70c0", func := "skerry/skerrylaw11.GroupScripts", spec := "groupScripts", unfollowed := true, recurses := true, named := ["skerry/crc.fourSteps"], apart := false, laid := [("skerry/crc.fourSteps", laid_skerry_crc_fourSteps)] }
def GroupScriptsSaid : Prop := groupScriptsRow.holds Tryz.pinned (OpenSpec.ofChange groupScriptsSpec)

/-- ITS FALSE NEIGHBOUR: 'it returns false'. Refute it at one input. -/
def groupScriptsWrong : ChangeSpec := { name := "groupScripts", fn := fun _ => fun
  | [d1, d2, d3] => { results := [.lit (.bool false)], args := [d1, d2, d3] }
  | _ => none }
def GroupScriptsWrongFalsely : Prop := groupScriptsRow.holds Tryz.pinned (OpenSpec.ofChange groupScriptsWrong)

/-- 'skerrylaw11.GroupCrashes': WHATEVER THE INPUT: true; the input reads as it did. -/
def groupCrashesSpec : ChangeSpec := { name := "groupCrashes", fn := fun _ => fun
  | [d1, d2, d3, d4] => { results := [.lit (.bool true)], args := [d1, d2, d3, d4] }
  | _ => none }
def groupCrashesRow : OpenClaim := { program := "ytdfanhjnkjdngaagreatdoor", sum := "5b67ceb92a9bbe2ceccc6d4279da1ae50d9229be0abf0b62158d7fdb405b70c0", func := "skerry/skerrylaw11.GroupCrashes", spec := "groupCrashes", unfollowed := true, recurses := true, named := ["skerry/crc.fourSteps"], apart := false, laid := [("skerry/crc.fourSteps", laid_skerry_crc_fourSteps)] }
def GroupCrashesSaid : Prop := groupCrashesRow.holds Tryz.pinned (OpenSpec.ofChange groupCrashesSpec)

/-- ITS FALSE NEIGHBOUR: 'it returns false'. Refute it at one input. -/
def groupCrashesWrong : ChangeSpec := { name := "groupCrashes", fn := fun _ => fun
  | [d1, d2, d3, d4] => { results := [.lit (.bool false)], args := [d1, d2, d3, d4] }
  | _ => none }
def GroupCrashesWrongFalsely : Prop := groupCrashesRow.holds Tryz.pinned (OpenSpec.ofChange groupCrashesWrong)

/-- 'skerrylaw11.GroupArrives': WHATEVER THE INPUT: true; the input reads as it did. -/
def groupArrivesSpec : ChangeSpec := { name := "groupArrives", fn := fun _ => fun
  | [d1, d2, d3, d4] => { results := [.lit (.bool true)], args := [d1, d2, d3, d4] }
  | _ => none }
def groupArrivesRow : OpenClaim := { program := "ytdfanhjnkjdngaagreatdoor", sum := "5b67ceb92a9bbe2ceccc6d4279da1ae50d9229be0abf0b62158d7fdb405b70c0", func := "skerry/skerrylaw11.GroupArrives", spec := "groupArrives", unfollowed := true, recurses := true, named := ["skerry/crc.fourSteps"], apart := false, laid := [("skerry/crc.fourSteps", laid_skerry_crc_fourSteps)] }
def GroupArrivesSaid : Prop := groupArrivesRow.holds Tryz.pinned (OpenSpec.ofChange groupArrivesSpec)

/-- ITS FALSE NEIGHBOUR: 'it returns false'. Refute it at one input. -/
def groupArrivesWrong : ChangeSpec := { name := "groupArrives", fn := fun _ => fun
  | [d1, d2, d3, d4] => { results := [.lit (.bool false)], args := [d1, d2, d3, d4] }
  | _ => none }
def GroupArrivesWrongFalsely : Prop := groupArrivesRow.holds Tryz.pinned (OpenSpec.ofChange groupArrivesWrong)

/-- 'skerrylaw12.AllocScripts': WHATEVER THE INPUT: true; the input reads as it did. -/
def allocScriptsSpec : ChangeSpec := { name := "allocScripts", fn := fun _ => fun
  | [d] => { results := [.lit (.bool true)], args := [d] }
  | _ => none }
def allocScriptsRow : OpenClaim := { program := "ytdfanhjnkjdngaagreatdoor", sum := "5b67ceb92a9bbe2ceccc6d4279da1ae50d9229be0abf0b62158d7fdb405b70c0", func := "skerry/skerrylaw12.AllocScripts", spec := "allocScripts", unfollowed := true, recurses := true, named := ["skerry/crc.fourSteps"], apart := false, laid := [("skerry/crc.fourSteps", laid_skerry_crc_fourSteps)] }
def AllocScriptsSaid : Prop := allocScriptsRow.holds Tryz.pinned (OpenSpec.ofChange allocScriptsSpec)

/-- ITS FALSE NEIGHBOUR: 'it returns false'. Refute it at one input. -/
def allocScriptsWrong : ChangeSpec := { name := "allocScripts", fn := fun _ => fun
  | [d] => { results := [.lit (.bool false)], args := [d] }
  | _ => none }
def AllocScriptsWrongFalsely : Prop := allocScriptsRow.holds Tryz.pinned (OpenSpec.ofChange allocScriptsWrong)

/-- 'skerrylaw12.AllocTakes': WHATEVER THE INPUT: true; the input reads as it did. -/
def allocTakesSpec : ChangeSpec := { name := "allocTakes", fn := fun _ => fun
  | [d] => { results := [.lit (.bool true)], args := [d] }
  | _ => none }
def allocTakesRow : OpenClaim := { program := "ytdfanhjnkjdngaagreatdoor", sum := "5b67ceb92a9bbe2ceccc6d4279da1ae50d9229be0abf0b62158d7fdb405b70c0", func := "skerry/skerrylaw12.AllocTakes", spec := "allocTakes", unfollowed := true, recurses := true, named := ["skerry/crc.fourSteps"], apart := false, laid := [("skerry/crc.fourSteps", laid_skerry_crc_fourSteps)] }
def AllocTakesSaid : Prop := allocTakesRow.holds Tryz.pinned (OpenSpec.ofChange allocTakesSpec)

/-- ITS FALSE NEIGHBOUR: 'it returns false'. Refute it at one input. -/
def allocTakesWrong : ChangeSpec := { name := "allocTakes", fn := fun _ => fun
  | [d] => { results := [.lit (.bool false)], args := [d] }
  | _ => none }
def AllocTakesWrongFalsely : Prop := allocTakesRow.holds Tryz.pinned (OpenSpec.ofChange allocTakesWrong)

/- THE SECOND FORM. 'bulk': how many values and letters a reading holds, each counted each time it is reached (what is shared counts as often as it is met; a slice's spare places count too). A statement '..UptoSaid' is the law's where the arguments, and the package variables that the reading takes, are together of bulk at most 1048576: NARROWER than '..Said'. Prove '..Said' where nothing that the law and all that it calls make is longer than what came in: it says more and counts as full. Else prove '..UptoSaid'. A law counts once. -/
mutual
def uptoBulk {H : Type} : DataW H → Nat
  | .lit (.string bytes) => bytes.length + 1
  | .lit _ => 1
  | .nil => 1
  | .ptr d => uptoBulk d + 1
  | .slice elems spare => uptoBulkAll elems + uptoBulkAll spare + 1
  | .agg parts => uptoBulkAll parts + 1
  | .iface _ d => uptoBulk d + 1
  | .map entries => uptoBulkEntries entries + 1
  | .held _ => 1
def uptoBulkAll {H : Type} : List (DataW H) → Nat
  | [] => 0
  | d :: r => uptoBulk d + uptoBulkAll r
def uptoBulkEntries {H : Type} : List (Lit × DataW H) → Nat
  | [] => 0
  | x :: r => uptoBulkEntry x + uptoBulkEntries r
def uptoBulkEntry {H : Type} : Lit × DataW H → Nat
  | (.string bytes, d) => bytes.length + uptoBulk d + 1
  | (_, d) => uptoBulk d + 1
 end
def uptoSmall : (H : Type) → List (DataW H) → Bool := fun _ ds => decide (uptoBulkAll ds ≤ 1048576)
def OpenSpec.upto (s : _root_.Go.ChangeSpec) : _root_.Go.OpenSpec := { _root_.Go.OpenSpec.ofChange s with cond := some uptoSmall }

/-- 'skerrylaw09.WalScripts', WHERE WHAT IT READS IS OF BULK AT MOST 1048576: true; the input reads as it did. -/
def walScriptsUptoRow : OpenClaim := { program := "ytdfanhjnkjdngaagreatdoor", sum := "5b67ceb92a9bbe2ceccc6d4279da1ae50d9229be0abf0b62158d7fdb405b70c0", func := "skerry/skerrylaw09.WalScripts", spec := "walScripts", unfollowed := true, recurses := true, named := ["skerry/crc.fourSteps"], apart := false, laid := [("skerry/crc.fourSteps", laid_skerry_crc_fourSteps)], narrowed := true }
def WalScriptsUptoSaid : Prop := walScriptsUptoRow.holds Tryz.pinned (OpenSpec.upto walScriptsSpec)

/-- 'skerrylaw11.GroupScripts', WHERE WHAT IT READS IS OF BULK AT MOST 1048576: true; the input reads as it did. -/
def groupScriptsUptoRow : OpenClaim := { program := "ytdfanhjnkjdngaagreatdoor", sum := "5b67ceb92a9bbe2ceccc6d4279da1ae50d9229be0abf0b62158d7fdb405b70c0", func := "skerry/skerrylaw11.GroupScripts", spec := "groupScripts", unfollowed := true, recurses := true, named := ["skerry/crc.fourSteps"], apart := false, laid := [("skerry/crc.fourSteps", laid_skerry_crc_fourSteps)], narrowed := true }
def GroupScriptsUptoSaid : Prop := groupScriptsUptoRow.holds Tryz.pinned (OpenSpec.upto groupScriptsSpec)

/-- 'skerrylaw11.GroupCrashes', WHERE WHAT IT READS IS OF BULK AT MOST 1048576: true; the input reads as it did. -/
def groupCrashesUptoRow : OpenClaim := { program := "ytdfanhjnkjdngaagreatdoor", sum := "5b67ceb92a9bbe2ceccc6d4279da1ae50d9229be0abf0b62158d7fdb405b70c0", func := "skerry/skerrylaw11.GroupCrashes", spec := "groupCrashes", unfollowed := true, recurses := true, named := ["skerry/crc.fourSteps"], apart := false, laid := [("skerry/crc.fourSteps", laid_skerry_crc_fourSteps)], narrowed := true }
def GroupCrashesUptoSaid : Prop := groupCrashesUptoRow.holds Tryz.pinned (OpenSpec.upto groupCrashesSpec)

/-- 'skerrylaw11.GroupArrives', WHERE WHAT IT READS IS OF BULK AT MOST 1048576: true; the input reads as it did. -/
def groupArrivesUptoRow : OpenClaim := { program := "ytdfanhjnkjdngaagreatdoor", sum := "5b67ceb92a9bbe2ceccc6d4279da1ae50d9229be0abf0b62158d7fdb405b70c0", func := "skerry/skerrylaw11.GroupArrives", spec := "groupArrives", unfollowed := true, recurses := true, named := ["skerry/crc.fourSteps"], apart := false, laid := [("skerry/crc.fourSteps", laid_skerry_crc_fourSteps)], narrowed := true }
def GroupArrivesUptoSaid : Prop := groupArrivesUptoRow.holds Tryz.pinned (OpenSpec.upto groupArrivesSpec)

/-- 'skerrylaw12.AllocScripts', WHERE WHAT IT READS IS OF BULK AT MOST 1048576: true; the input reads as it did. -/
def allocScriptsUptoRow : OpenClaim := { program := "ytdfanhjnkjdngaagreatdoor", sum := "5b67ceb92a9bbe2ceccc6d4279da1ae50d9229be0abf0b62158d7fdb405b70c0", func := "skerry/skerrylaw12.AllocScripts", spec := "allocScripts", unfollowed := true, recurses := true, named := ["skerry/crc.fourSteps"], apart := false, laid := [("skerry/crc.fourSteps", laid_skerry_crc_fourSteps)], narrowed := true }
def AllocScriptsUptoSaid : Prop := allocScriptsUptoRow.holds Tryz.pinned (OpenSpec.upto allocScriptsSpec)

/-- 'skerrylaw12.AllocTakes', WHERE WHAT IT READS IS OF BULK AT MOST 1048576: true; the input reads as it did. -/
def allocTakesUptoRow : OpenClaim := { program := "ytdfanhjnkjdngaagreatdoor", sum := "5b67ceb92a9bbe2ceccc6d4279da1ae50d9229be0abf0b62158d7fdb405b70c0", func := "skerry/skerrylaw12.AllocTakes", spec := "allocTakes", unfollowed := true, recurses := true, named := ["skerry/crc.fourSteps"], apart := false, laid := [("skerry/crc.fourSteps", laid_skerry_crc_fourSteps)], narrowed := true }
def AllocTakesUptoSaid : Prop := allocTakesUptoRow.holds Tryz.pinned (OpenSpec.upto allocTakesSpec)

end Rows
end Go.Proofs.YtdfanhjnkjdngaaGreatDoor
