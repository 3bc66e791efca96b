/-
  NARROWER THAN 'FOR EVERY INPUT', by the rows' own cells (each row's printed sentence says how): GroupScripts: laid · GroupReads: laid · GroupCrashes: laid · GroupNil: laid · GroupKeeps: laid · GroupArrives: laid.
  DERIVED. THE GIVEN ROWS OF THIS SEAT. 6 by the template 'for every input the law returns true; each argument reads behind the call as it read before'; 0 by the template 'total and deterministic' (their statements: YtdkicniciciobaaGreatDoorTotals.lean).
  GIVEN WITH THE SEED: the statements are not yours to turn. If you find one false, say at which input.
  Laid BY PROGRAM, IN A SANDBOX (cutbox-rows.mjs): the forced cells as the released guide's own fill.sh prints them over the translation c1282b1eb9ecbc76… (all of the seat's roots in one cut). By AI agents, Wed Nov 11 2026. No macro, syntax, notation, axiom, sorry.
-/
import Derived.Test.YtdkicniciciobaaGreatDoorChecked
import GoSem.Claim
import GoSem.ClaimJoined
import GoSem.ClaimMapViews
import Derived.JoinedTies
import Derived.KernelRfl
namespace Go.Proofs.YtdkicniciciobaaGreatDoor
/- THE CELL 'sum', in the pinned program and in every row, IS THE sha256 OF THE DUMP (.gsa) THAT YtdkicniciciobaaGreatDoorProg.lean LOADS. Nothing in Lean hashes anything: it is a label: what it is worth is what the hold of that sum in a sandbox is worth. -/
noncomputable def Tryz.pinned : Pinned := { name := "ytdkicniciciobaagreatdoor", sum := "c1282b1eb9ecbc76417d9b266551e5168772dd1e661db0b6eea566eb2a229867", checked := Tryz.checked }
namespace Rows
def none {H : Type} : Left H := { results := [], args := [] }

/- WHAT THE LISTED PACKAGE-LEVEL VARIABLES READ AS WHEN THE CALL BEGINS. Each datum BY PROGRAM (the guide's laid-datum.mjs) off the statement by which the dump's own 'gosem.cut.vars' lays the variable. In a bare row this is a premise. The card (YtdkicniciciobaaGreatDoorCards.lean) ties it to the program's text. -/
def laid_skerry_crc_fourSteps {H : Type} : DataW H := .agg [.lit (.int .u32 0), .lit (.int .u32 498536548), .lit (.int .u32 997073096), .lit (.int .u32 651767980), .lit (.int .u32 1994146192), .lit (.int .u32 1802195444), .lit (.int .u32 1303535960), .lit (.int .u32 1342533948), .lit (.int .u32 3988292384), .lit (.int .u32 4027552580), .lit (.int .u32 3604390888), .lit (.int .u32 3412177804), .lit (.int .u32 2607071920), .lit (.int .u32 2262029012), .lit (.int .u32 2685067896), .lit (.int .u32 3183342108)]

/-- 'skerrylaw11.GroupScripts': WHATEVER THE INPUT: true; the input reads as it did. -/
def groupScriptsSpec : ChangeSpec := { name := "groupScripts", fn := fun _ => fun
  | [d1, d2, d3] => { results := [.lit (.bool true)], args := [d1, d2, d3] }
  | _ => none }
def groupScriptsRow : OpenClaim := { program := "ytdkicniciciobaagreatdoor", sum := "c1282b1eb9ecbc76417d9b266551e5168772dd1e661db0b6eea566eb2a229867", func := "skerry/skerrylaw11.GroupScripts", spec := "groupScripts", unfollowed := true, recurses := true, named := ["skerry/crc.fourSteps"], apart := false, laid := [("skerry/crc.fourSteps", laid_skerry_crc_fourSteps)] }
def GroupScriptsSaid : Prop := groupScriptsRow.holds Tryz.pinned (OpenSpec.ofChange groupScriptsSpec)

/-- ITS FALSE NEIGHBOUR: 'it returns false'. Refute it at one input. -/
def groupScriptsWrong : ChangeSpec := { name := "groupScripts", fn := fun _ => fun
  | [d1, d2, d3] => { results := [.lit (.bool false)], args := [d1, d2, d3] }
  | _ => none }
def GroupScriptsWrongFalsely : Prop := groupScriptsRow.holds Tryz.pinned (OpenSpec.ofChange groupScriptsWrong)

/-- 'skerrylaw11.GroupReads': WHATEVER THE INPUT: true; the input reads as it did. -/
def groupReadsSpec : ChangeSpec := { name := "groupReads", fn := fun _ => fun
  | [d1, d2, d3] => { results := [.lit (.bool true)], args := [d1, d2, d3] }
  | _ => none }
def groupReadsRow : OpenClaim := { program := "ytdkicniciciobaagreatdoor", sum := "c1282b1eb9ecbc76417d9b266551e5168772dd1e661db0b6eea566eb2a229867", func := "skerry/skerrylaw11.GroupReads", spec := "groupReads", unfollowed := true, recurses := true, named := ["skerry/crc.fourSteps"], apart := false, laid := [("skerry/crc.fourSteps", laid_skerry_crc_fourSteps)] }
def GroupReadsSaid : Prop := groupReadsRow.holds Tryz.pinned (OpenSpec.ofChange groupReadsSpec)

/-- ITS FALSE NEIGHBOUR: 'it returns false'. Refute it at one input. -/
def groupReadsWrong : ChangeSpec := { name := "groupReads", fn := fun _ => fun
  | [d1, d2, d3] => { results := [.lit (.bool false)], args := [d1, d2, d3] }
  | _ => none }
def GroupReadsWrongFalsely : Prop := groupReadsRow.holds Tryz.pinned (OpenSpec.ofChange groupReadsWrong)

/-- 'skerrylaw11.GroupCrashes': WHATEVER THE INPUT: true; the input reads as it did. -/
def groupCrashesSpec : ChangeSpec := { name := "groupCrashes", fn := fun _ => fun
  | [d1, d2, d3, d4] => { results := [.lit (.bool true)], args := [d1, d2, d3, d4] }
  | _ => none }
def groupCrashesRow : OpenClaim := { program := "ytdkicniciciobaagreatdoor", sum := "c1282b1eb9ecbc76417d9b266551e5168772dd1e661db0b6eea566eb2a229867", func := "skerry/skerrylaw11.GroupCrashes", spec := "groupCrashes", unfollowed := true, recurses := true, named := ["skerry/crc.fourSteps"], apart := false, laid := [("skerry/crc.fourSteps", laid_skerry_crc_fourSteps)] }
def GroupCrashesSaid : Prop := groupCrashesRow.holds Tryz.pinned (OpenSpec.ofChange groupCrashesSpec)

/-- ITS FALSE NEIGHBOUR: 'it returns false'. Refute it at one input. -/
def groupCrashesWrong : ChangeSpec := { name := "groupCrashes", fn := fun _ => fun
  | [d1, d2, d3, d4] => { results := [.lit (.bool false)], args := [d1, d2, d3, d4] }
  | _ => none }
def GroupCrashesWrongFalsely : Prop := groupCrashesRow.holds Tryz.pinned (OpenSpec.ofChange groupCrashesWrong)

/-- 'skerrylaw11.GroupNil': WHATEVER THE INPUT: true; the input reads as it did. -/
def groupNilSpec : ChangeSpec := { name := "groupNil", fn := fun _ => fun
  | [] => { results := [.lit (.bool true)], args := [] }
  | _ => none }
def groupNilRow : OpenClaim := { program := "ytdkicniciciobaagreatdoor", sum := "c1282b1eb9ecbc76417d9b266551e5168772dd1e661db0b6eea566eb2a229867", func := "skerry/skerrylaw11.GroupNil", spec := "groupNil", unfollowed := true, recurses := true, named := ["skerry/crc.fourSteps"], apart := false, laid := [("skerry/crc.fourSteps", laid_skerry_crc_fourSteps)] }
def GroupNilSaid : Prop := groupNilRow.holds Tryz.pinned (OpenSpec.ofChange groupNilSpec)

/-- ITS FALSE NEIGHBOUR: 'it returns false'. Refute it at one input. -/
def groupNilWrong : ChangeSpec := { name := "groupNil", fn := fun _ => fun
  | [] => { results := [.lit (.bool false)], args := [] }
  | _ => none }
def GroupNilWrongFalsely : Prop := groupNilRow.holds Tryz.pinned (OpenSpec.ofChange groupNilWrong)

/-- 'skerrylaw11.GroupKeeps': WHATEVER THE INPUT: true; the input reads as it did. -/
def groupKeepsSpec : ChangeSpec := { name := "groupKeeps", fn := fun _ => fun
  | [d1, d2] => { results := [.lit (.bool true)], args := [d1, d2] }
  | _ => none }
def groupKeepsRow : OpenClaim := { program := "ytdkicniciciobaagreatdoor", sum := "c1282b1eb9ecbc76417d9b266551e5168772dd1e661db0b6eea566eb2a229867", func := "skerry/skerrylaw11.GroupKeeps", spec := "groupKeeps", unfollowed := true, recurses := true, named := ["skerry/crc.fourSteps"], apart := false, laid := [("skerry/crc.fourSteps", laid_skerry_crc_fourSteps)] }
def GroupKeepsSaid : Prop := groupKeepsRow.holds Tryz.pinned (OpenSpec.ofChange groupKeepsSpec)

/-- ITS FALSE NEIGHBOUR: 'it returns false'. Refute it at one input. -/
def groupKeepsWrong : ChangeSpec := { name := "groupKeeps", fn := fun _ => fun
  | [d1, d2] => { results := [.lit (.bool false)], args := [d1, d2] }
  | _ => none }
def GroupKeepsWrongFalsely : Prop := groupKeepsRow.holds Tryz.pinned (OpenSpec.ofChange groupKeepsWrong)

/-- 'skerrylaw11.GroupArrives': WHATEVER THE INPUT: true; the input reads as it did. -/
def groupArrivesSpec : ChangeSpec := { name := "groupArrives", fn := fun _ => fun
  | [d1, d2, d3, d4] => { results := [.lit (.bool true)], args := [d1, d2, d3, d4] }
  | _ => none }
def groupArrivesRow : OpenClaim := { program := "ytdkicniciciobaagreatdoor", sum := "c1282b1eb9ecbc76417d9b266551e5168772dd1e661db0b6eea566eb2a229867", func := "skerry/skerrylaw11.GroupArrives", spec := "groupArrives", unfollowed := true, recurses := true, named := ["skerry/crc.fourSteps"], apart := false, laid := [("skerry/crc.fourSteps", laid_skerry_crc_fourSteps)] }
def GroupArrivesSaid : Prop := groupArrivesRow.holds Tryz.pinned (OpenSpec.ofChange groupArrivesSpec)

/-- ITS FALSE NEIGHBOUR: 'it returns false'. Refute it at one input. -/
def groupArrivesWrong : ChangeSpec := { name := "groupArrives", fn := fun _ => fun
  | [d1, d2, d3, d4] => { results := [.lit (.bool false)], args := [d1, d2, d3, d4] }
  | _ => none }
def GroupArrivesWrongFalsely : Prop := groupArrivesRow.holds Tryz.pinned (OpenSpec.ofChange groupArrivesWrong)

/- THE SECOND FORM. 'bulk': how many values and letters a reading holds, each counted each time it is reached (what is shared counts as often as it is met; a slice's spare places count too). A statement '..UptoSaid' is the law's where the arguments, and the package variables that the reading takes, are together of bulk at most 1048576: NARROWER than '..Said'. Prove '..Said' where nothing that the law and all that it calls make is longer than what came in: it says more and counts as full. Else prove '..UptoSaid'. A law counts once. -/
mutual
def uptoBulk {H : Type} : DataW H → Nat
  | .lit (.string bytes) => bytes.length + 1
  | .lit _ => 1
  | .nil => 1
  | .ptr d => uptoBulk d + 1
  | .slice elems spare => uptoBulkAll elems + uptoBulkAll spare + 1
  | .agg parts => uptoBulkAll parts + 1
  | .iface _ d => uptoBulk d + 1
  | .map entries => uptoBulkEntries entries + 1
  | .held _ => 1
def uptoBulkAll {H : Type} : List (DataW H) → Nat
  | [] => 0
  | d :: r => uptoBulk d + uptoBulkAll r
def uptoBulkEntries {H : Type} : List (Lit × DataW H) → Nat
  | [] => 0
  | x :: r => uptoBulkEntry x + uptoBulkEntries r
def uptoBulkEntry {H : Type} : Lit × DataW H → Nat
  | (.string bytes, d) => bytes.length + uptoBulk d + 1
  | (_, d) => uptoBulk d + 1
 end
def uptoSmall : (H : Type) → List (DataW H) → Bool := fun _ ds => decide (uptoBulkAll ds ≤ 1048576)
def OpenSpec.upto (s : _root_.Go.ChangeSpec) : _root_.Go.OpenSpec := { _root_.Go.OpenSpec.ofChange s with cond := some uptoSmall }

/-- 'skerrylaw11.GroupScripts', WHERE WHAT IT READS IS OF BULK AT MOST 1048576: true; the input reads as it did. -/
def groupScriptsUptoRow : OpenClaim := { program := "ytdkicniciciobaagreatdoor", sum := "c1282b1eb9ecbc76417d9b266551e5168772dd1e661db0b6eea566eb2a229867", func := "skerry/skerrylaw11.GroupScripts", spec := "groupScripts", unfollowed := true, recurses := true, named := ["skerry/crc.fourSteps"], apart := false, laid := [("skerry/crc.fourSteps", laid_skerry_crc_fourSteps)], narrowed := true }
def GroupScriptsUptoSaid : Prop := groupScriptsUptoRow.holds Tryz.pinned (OpenSpec.upto groupScriptsSpec)

/-- 'skerrylaw11.GroupReads', WHERE WHAT IT READS IS OF BULK AT MOST 1048576: true; the input reads as it did. -/
def groupReadsUptoRow : OpenClaim := { program := "ytdkicniciciobaagreatdoor", sum := "c1282b1eb9ecbc76417d9b266551e5168772dd1e661db0b6eea566eb2a229867", func := "skerry/skerrylaw11.GroupReads", spec := "groupReads", unfollowed := true, recurses := true, named := ["skerry/crc.fourSteps"], apart := false, laid := [("skerry/crc.fourSteps", laid_skerry_crc_fourSteps)], narrowed := true }
def GroupReadsUptoSaid : Prop := groupReadsUptoRow.holds Tryz.pinned (OpenSpec.upto groupReadsSpec)

/-- 'skerrylaw11.GroupCrashes', WHERE WHAT IT READS IS OF BULK AT MOST 1048576: true; the input reads as it did. -/
def groupCrashesUptoRow : OpenClaim := { program := "ytdkicniciciobaagreatdoor", sum := "c1282b1eb9ecbc76417d9b266551e5168772dd1e661db0b6eea566eb2a229867", func := "skerry/skerrylaw11.GroupCrashes", spec := "groupCrashes", unfollowed := true, recurses := true, named := ["skerry/crc.fourSteps"], apart := false, laid := [("skerry/crc.fourSteps", laid_skerry_crc_fourSteps)], narrowed := true }
def GroupCrashesUptoSaid : Prop := groupCrashesUptoRow.holds Tryz.pinned (OpenSpec.upto groupCrashesSpec)

/-- 'skerrylaw11.GroupNil', WHERE WHAT IT READS IS OF BULK AT MOST 1048576: true; the input reads as it did. -/
def groupNilUptoRow : OpenClaim := { program := "ytdkicniciciobaagreatdoor", sum := "c1282b1eb9ecbc76417d9b266551e5168772dd1e661db0b6eea566eb2a229867", func := "skerry/skerrylaw11.GroupNil", spec := "groupNil", unfollowed := true, recurses := true, named := ["skerry/crc.fourSteps"], apart := false, laid := [("skerry/crc.fourSteps", laid_skerry_crc_fourSteps)], narrowed := true }
def GroupNilUptoSaid : Prop := groupNilUptoRow.holds Tryz.pinned (OpenSpec.upto groupNilSpec)

/-- 'skerrylaw11.GroupKeeps', WHERE WHAT IT READS IS OF BULK AT MOST 1048576: true; the input reads as it did. -/
def groupKeepsUptoRow : OpenClaim := { program := "ytdkicniciciobaagreatdoor", sum := "c1282b1eb9ecbc76417d9b266551e5168772dd1e661db0b6eea566eb2a229867", func := "skerry/skerrylaw11.GroupKeeps", spec := "groupKeeps", unfollowed := true, recurses := true, named := ["skerry/crc.fourSteps"], apart := false, laid := [("skerry/crc.fourSteps", laid_skerry_crc_fourSteps)], narrowed := true }
def GroupKeepsUptoSaid : Prop := groupKeepsUptoRow.holds Tryz.pinned (OpenSpec.upto groupKeepsSpec)

/-- 'skerrylaw11.GroupArrives', WHERE WHAT IT READS IS OF BULK AT MOST 1048576: true; the input reads as it did. -/
def groupArrivesUptoRow : OpenClaim := { program := "ytdkicniciciobaagreatdoor", sum := "c1282b1eb9ecbc76417d9b266551e5168772dd1e661db0b6eea566eb2a229867", func := "skerry/skerrylaw11.GroupArrives", spec := "groupArrives", unfollowed := true, recurses := true, named := ["skerry/crc.fourSteps"], apart := false, laid := [("skerry/crc.fourSteps", laid_skerry_crc_fourSteps)], narrowed := true }
def GroupArrivesUptoSaid : Prop := groupArrivesUptoRow.holds Tryz.pinned (OpenSpec.upto groupArrivesSpec)

end Rows
end Go.Proofs.YtdkicniciciobaaGreatDoor
