/-
  NARROWER THAN 'FOR EVERY INPUT', by the rows' own cells (each row's printed sentence says how): WalScripts: laid · WalOpens: laid · WalCrashes: laid · WalNeeds: laid · WalNil: laid · WalKeeps: laid.
  DERIVED. THE GIVEN ROWS OF THIS SEAT. 6 by the template 'for every input the law returns true; each argument reads behind the call as it read before'; 0 by the template 'total and deterministic' (their statements: YtadnlljknocbbaaGreatDoorTotals.lean).
  GIVEN WITH THE SEED: the statements are not yours to turn. If you find one false, say at which input.
  Laid BY PROGRAM, IN A SANDBOX (cutbox-rows.mjs): the forced cells as the released guide's own fill.sh prints them over the translation 262de220074e8202… (all of the seat's roots in one cut). By AI agents, Wed Nov 11 2026. No macro, syntax, notation, axiom, sorry.
-/
import Derived.Test.YtadnlljknocbbaaGreatDoorChecked
import GoSem.Claim
import GoSem.ClaimJoined
import GoSem.ClaimMapViews
import Derived.JoinedTies
import Derived.KernelRfl
namespace Go.Proofs.YtadnlljknocbbaaGreatDoor
/- THE CELL 'sum', in the pinned program and in every row, IS THE sha256 OF THE DUMP (.gsa) THAT YtadnlljknocbbaaGreatDoorProg.lean LOADS. Nothing in Lean hashes anything: it is a label: what it is worth is what the hold of that sum in a sandbox is worth. -/
noncomputable def Tryz.pinned : Pinned := { name := "ytadnlljknocbbaagreatdoor", sum := "262de220074e8202b56818909ab0edf47b16f5a6955d2952dd3826677f5c23c5", checked := Tryz.checked }
namespace Rows
def none {H : Type} : Left H := { results := [], args := [] }

/- WHAT THE LISTED PACKAGE-LEVEL VARIABLES READ AS WHEN THE CALL BEGINS. Each datum BY PROGRAM (the guide's laid-datum.mjs) off the statement by which the dump's own 'gosem.cut.vars' lays the variable. In a bare row this is a premise. The card (YtadnlljknocbbaaGreatDoorCards.lean) ties it to the program's text. -/
def laid_skerry_crc_fourSteps {H : Type} : DataW H := .agg [.lit (.int .u32 0), .lit (.int .u32 498536548), .lit (.int .u32 997073096), .lit (.int .u32 651767980), .lit (.int .u32 1994146192), .lit (.int .u32 1802195444), .lit (.int .u32 1303535960), .lit (.int .u32 1342533948), .lit (.int .u32 3988292384), .lit (.int .u32 4027552580), .lit (.int .u32 3604390888), .lit (.int .u32 3412177804), .lit (.int .u32 2607071920), .lit (.int .u32 2262029012), .lit (.int .u32 2685067896), .lit (.int .u32 3183342108)]

/-- 'skerrylaw09.WalScripts': WHATEVER THE INPUT: true; the input reads as it did. -/
def walScriptsSpec : ChangeSpec := { name := "walScripts", fn := fun _ => fun
  | [d] => { results := [.lit (.bool true)], args := [d] }
  | _ => none }
def walScriptsRow : OpenClaim := { program := "ytadnlljknocbbaagreatdoor", sum := "262de220074e8202b56818909ab0edf47b16f5a6955d2952dd3826677f5c23c5", func := "skerry/skerrylaw09.WalScripts", spec := "walScripts", unfollowed := true, recurses := true, named := ["skerry/crc.fourSteps"], apart := false, laid := [("skerry/crc.fourSteps", laid_skerry_crc_fourSteps)] }
def WalScriptsSaid : Prop := walScriptsRow.holds Tryz.pinned (OpenSpec.ofChange walScriptsSpec)

/-- ITS FALSE NEIGHBOUR: 'it returns false'. Refute it at one input. -/
def walScriptsWrong : ChangeSpec := { name := "walScripts", fn := fun _ => fun
  | [d] => { results := [.lit (.bool false)], args := [d] }
  | _ => none }
def WalScriptsWrongFalsely : Prop := walScriptsRow.holds Tryz.pinned (OpenSpec.ofChange walScriptsWrong)

/-- 'skerrylaw09.WalOpens': WHATEVER THE INPUT: true; the input reads as it did. -/
def walOpensSpec : ChangeSpec := { name := "walOpens", fn := fun _ => fun
  | [d1, d2, d3] => { results := [.lit (.bool true)], args := [d1, d2, d3] }
  | _ => none }
def walOpensRow : OpenClaim := { program := "ytadnlljknocbbaagreatdoor", sum := "262de220074e8202b56818909ab0edf47b16f5a6955d2952dd3826677f5c23c5", func := "skerry/skerrylaw09.WalOpens", spec := "walOpens", unfollowed := true, recurses := true, named := ["skerry/crc.fourSteps"], apart := false, laid := [("skerry/crc.fourSteps", laid_skerry_crc_fourSteps)] }
def WalOpensSaid : Prop := walOpensRow.holds Tryz.pinned (OpenSpec.ofChange walOpensSpec)

/-- ITS FALSE NEIGHBOUR: 'it returns false'. Refute it at one input. -/
def walOpensWrong : ChangeSpec := { name := "walOpens", fn := fun _ => fun
  | [d1, d2, d3] => { results := [.lit (.bool false)], args := [d1, d2, d3] }
  | _ => none }
def WalOpensWrongFalsely : Prop := walOpensRow.holds Tryz.pinned (OpenSpec.ofChange walOpensWrong)

/-- 'skerrylaw09.WalCrashes': WHATEVER THE INPUT: true; the input reads as it did. -/
def walCrashesSpec : ChangeSpec := { name := "walCrashes", fn := fun _ => fun
  | [d1, d2, d3, d4] => { results := [.lit (.bool true)], args := [d1, d2, d3, d4] }
  | _ => none }
def walCrashesRow : OpenClaim := { program := "ytadnlljknocbbaagreatdoor", sum := "262de220074e8202b56818909ab0edf47b16f5a6955d2952dd3826677f5c23c5", func := "skerry/skerrylaw09.WalCrashes", spec := "walCrashes", unfollowed := true, recurses := true, named := ["skerry/crc.fourSteps"], apart := false, laid := [("skerry/crc.fourSteps", laid_skerry_crc_fourSteps)] }
def WalCrashesSaid : Prop := walCrashesRow.holds Tryz.pinned (OpenSpec.ofChange walCrashesSpec)

/-- ITS FALSE NEIGHBOUR: 'it returns false'. Refute it at one input. -/
def walCrashesWrong : ChangeSpec := { name := "walCrashes", fn := fun _ => fun
  | [d1, d2, d3, d4] => { results := [.lit (.bool false)], args := [d1, d2, d3, d4] }
  | _ => none }
def WalCrashesWrongFalsely : Prop := walCrashesRow.holds Tryz.pinned (OpenSpec.ofChange walCrashesWrong)

/-- 'skerrylaw09.WalNeeds': WHATEVER THE INPUT: true; the input reads as it did. -/
def walNeedsSpec : ChangeSpec := { name := "walNeeds", fn := fun _ => fun
  | [d1, d2] => { results := [.lit (.bool true)], args := [d1, d2] }
  | _ => none }
def walNeedsRow : OpenClaim := { program := "ytadnlljknocbbaagreatdoor", sum := "262de220074e8202b56818909ab0edf47b16f5a6955d2952dd3826677f5c23c5", func := "skerry/skerrylaw09.WalNeeds", spec := "walNeeds", unfollowed := true, recurses := true, named := ["skerry/crc.fourSteps"], apart := false, laid := [("skerry/crc.fourSteps", laid_skerry_crc_fourSteps)] }
def WalNeedsSaid : Prop := walNeedsRow.holds Tryz.pinned (OpenSpec.ofChange walNeedsSpec)

/-- ITS FALSE NEIGHBOUR: 'it returns false'. Refute it at one input. -/
def walNeedsWrong : ChangeSpec := { name := "walNeeds", fn := fun _ => fun
  | [d1, d2] => { results := [.lit (.bool false)], args := [d1, d2] }
  | _ => none }
def WalNeedsWrongFalsely : Prop := walNeedsRow.holds Tryz.pinned (OpenSpec.ofChange walNeedsWrong)

/-- 'skerrylaw09.WalNil': WHATEVER THE INPUT: true; the input reads as it did. -/
def walNilSpec : ChangeSpec := { name := "walNil", fn := fun _ => fun
  | [] => { results := [.lit (.bool true)], args := [] }
  | _ => none }
def walNilRow : OpenClaim := { program := "ytadnlljknocbbaagreatdoor", sum := "262de220074e8202b56818909ab0edf47b16f5a6955d2952dd3826677f5c23c5", func := "skerry/skerrylaw09.WalNil", spec := "walNil", unfollowed := true, recurses := true, named := ["skerry/crc.fourSteps"], apart := false, laid := [("skerry/crc.fourSteps", laid_skerry_crc_fourSteps)] }
def WalNilSaid : Prop := walNilRow.holds Tryz.pinned (OpenSpec.ofChange walNilSpec)

/-- ITS FALSE NEIGHBOUR: 'it returns false'. Refute it at one input. -/
def walNilWrong : ChangeSpec := { name := "walNil", fn := fun _ => fun
  | [] => { results := [.lit (.bool false)], args := [] }
  | _ => none }
def WalNilWrongFalsely : Prop := walNilRow.holds Tryz.pinned (OpenSpec.ofChange walNilWrong)

/-- 'skerrylaw09.WalKeeps': WHATEVER THE INPUT: true; the input reads as it did. -/
def walKeepsSpec : ChangeSpec := { name := "walKeeps", fn := fun _ => fun
  | [d1, d2] => { results := [.lit (.bool true)], args := [d1, d2] }
  | _ => none }
def walKeepsRow : OpenClaim := { program := "ytadnlljknocbbaagreatdoor", sum := "262de220074e8202b56818909ab0edf47b16f5a6955d2952dd3826677f5c23c5", func := "skerry/skerrylaw09.WalKeeps", spec := "walKeeps", unfollowed := true, recurses := true, named := ["skerry/crc.fourSteps"], apart := false, laid := [("skerry/crc.fourSteps", laid_skerry_crc_fourSteps)] }
def WalKeepsSaid : Prop := walKeepsRow.holds Tryz.pinned (OpenSpec.ofChange walKeepsSpec)

/-- ITS FALSE NEIGHBOUR: 'it returns false'. Refute it at one input. -/
def walKeepsWrong : ChangeSpec := { name := "walKeeps", fn := fun _ => fun
  | [d1, d2] => { results := [.lit (.bool false)], args := [d1, d2] }
  | _ => none }
def WalKeepsWrongFalsely : Prop := walKeepsRow.holds Tryz.pinned (OpenSpec.ofChange walKeepsWrong)

/- THE SECOND FORM. 'bulk': how many values and letters a reading holds, each counted each time it is reached (what is shared counts as often as it is met; a slice's spare places count too). A statement '..UptoSaid' is the law's where the arguments, and the package variables that the reading takes, are together of bulk at most 1048576: NARROWER than '..Said'. Prove '..Said' where nothing that the law and all that it calls make is longer than what came in: it says more and counts as full. Else prove '..UptoSaid'. A law counts once. -/
mutual
def uptoBulk {H : Type} : DataW H → Nat
  | .lit (.string bytes) => bytes.length + 1
  | .lit _ => 1
  | .nil => 1
  | .ptr d => uptoBulk d + 1
  | .slice elems spare => uptoBulkAll elems + uptoBulkAll spare + 1
  | .agg parts => uptoBulkAll parts + 1
  | .iface _ d => uptoBulk d + 1
  | .map entries => uptoBulkEntries entries + 1
  | .held _ => 1
def uptoBulkAll {H : Type} : List (DataW H) → Nat
  | [] => 0
  | d :: r => uptoBulk d + uptoBulkAll r
def uptoBulkEntries {H : Type} : List (Lit × DataW H) → Nat
  | [] => 0
  | x :: r => uptoBulkEntry x + uptoBulkEntries r
def uptoBulkEntry {H : Type} : Lit × DataW H → Nat
  | (.string bytes, d) => bytes.length + uptoBulk d + 1
  | (_, d) => uptoBulk d + 1
 end
def uptoSmall : (H : Type) → List (DataW H) → Bool := fun _ ds => decide (uptoBulkAll ds ≤ 1048576)
def OpenSpec.upto (s : _root_.Go.ChangeSpec) : _root_.Go.OpenSpec := { _root_.Go.OpenSpec.ofChange s with cond := some uptoSmall }

/-- 'skerrylaw09.WalScripts', WHERE WHAT IT READS IS OF BULK AT MOST 1048576: true; the input reads as it did. -/
def walScriptsUptoRow : OpenClaim := { program := "ytadnlljknocbbaagreatdoor", sum := "262de220074e8202b56818909ab0edf47b16f5a6955d2952dd3826677f5c23c5", func := "skerry/skerrylaw09.WalScripts", spec := "walScripts", unfollowed := true, recurses := true, named := ["skerry/crc.fourSteps"], apart := false, laid := [("skerry/crc.fourSteps", laid_skerry_crc_fourSteps)], narrowed := true }
def WalScriptsUptoSaid : Prop := walScriptsUptoRow.holds Tryz.pinned (OpenSpec.upto walScriptsSpec)

/-- 'skerrylaw09.WalOpens', WHERE WHAT IT READS IS OF BULK AT MOST 1048576: true; the input reads as it did. -/
def walOpensUptoRow : OpenClaim := { program := "ytadnlljknocbbaagreatdoor", sum := "262de220074e8202b56818909ab0edf47b16f5a6955d2952dd3826677f5c23c5", func := "skerry/skerrylaw09.WalOpens", spec := "walOpens", unfollowed := true, recurses := true, named := ["skerry/crc.fourSteps"], apart := false, laid := [("skerry/crc.fourSteps", laid_skerry_crc_fourSteps)], narrowed := true }
def WalOpensUptoSaid : Prop := walOpensUptoRow.holds Tryz.pinned (OpenSpec.upto walOpensSpec)

/-- 'skerrylaw09.WalCrashes', WHERE WHAT IT READS IS OF BULK AT MOST 1048576: true; the input reads as it did. -/
def walCrashesUptoRow : OpenClaim := { program := "ytadnlljknocbbaagreatdoor", sum := "262de220074e8202b56818909ab0edf47b16f5a6955d2952dd3826677f5c23c5", func := "skerry/skerrylaw09.WalCrashes", spec := "walCrashes", unfollowed := true, recurses := true, named := ["skerry/crc.fourSteps"], apart := false, laid := [("skerry/crc.fourSteps", laid_skerry_crc_fourSteps)], narrowed := true }
def WalCrashesUptoSaid : Prop := walCrashesUptoRow.holds Tryz.pinned (OpenSpec.upto walCrashesSpec)

/-- 'skerrylaw09.WalNeeds', WHERE WHAT IT READS IS OF BULK AT MOST 1048576: true; the input reads as it did. -/
def walNeedsUptoRow : OpenClaim := { program := "ytadnlljknocbbaagreatdoor", sum := "262de220074e8202b56818909ab0edf47b16f5a6955d2952dd3826677f5c23c5", func := "skerry/skerrylaw09.WalNeeds", spec := "walNeeds", unfollowed := true, recurses := true, named := ["skerry/crc.fourSteps"], apart := false, laid := [("skerry/crc.fourSteps", laid_skerry_crc_fourSteps)], narrowed := true }
def WalNeedsUptoSaid : Prop := walNeedsUptoRow.holds Tryz.pinned (OpenSpec.upto walNeedsSpec)

/-- 'skerrylaw09.WalNil', WHERE WHAT IT READS IS OF BULK AT MOST 1048576: true; the input reads as it did. -/
def walNilUptoRow : OpenClaim := { program := "ytadnlljknocbbaagreatdoor", sum := "262de220074e8202b56818909ab0edf47b16f5a6955d2952dd3826677f5c23c5", func := "skerry/skerrylaw09.WalNil", spec := "walNil", unfollowed := true, recurses := true, named := ["skerry/crc.fourSteps"], apart := false, laid := [("skerry/crc.fourSteps", laid_skerry_crc_fourSteps)], narrowed := true }
def WalNilUptoSaid : Prop := walNilUptoRow.holds Tryz.pinned (OpenSpec.upto walNilSpec)

/-- 'skerrylaw09.WalKeeps', WHERE WHAT IT READS IS OF BULK AT MOST 1048576: true; the input reads as it did. -/
def walKeepsUptoRow : OpenClaim := { program := "ytadnlljknocbbaagreatdoor", sum := "262de220074e8202b56818909ab0edf47b16f5a6955d2952dd3826677f5c23c5", func := "skerry/skerrylaw09.WalKeeps", spec := "walKeeps", unfollowed := true, recurses := true, named := ["skerry/crc.fourSteps"], apart := false, laid := [("skerry/crc.fourSteps", laid_skerry_crc_fourSteps)], narrowed := true }
def WalKeepsUptoSaid : Prop := walKeepsUptoRow.holds Tryz.pinned (OpenSpec.upto walKeepsSpec)

end Rows
end Go.Proofs.YtadnlljknocbbaaGreatDoor
