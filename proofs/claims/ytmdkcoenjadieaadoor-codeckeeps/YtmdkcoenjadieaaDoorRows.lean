/-
  NARROWER THAN 'FOR EVERY INPUT', by the rows' own cells (each row's printed sentence says how): CodecHeads: laid · CodecDescs: laid · CodecRecords: laid · CodecBack: laid · CodecKeeps: laid.
  DERIVED. THE GIVEN ROWS OF THIS SEAT. 5 by the template 'for every input the law returns true; each argument reads behind the call as it read before'; 0 by the template 'total and deterministic' (their statements: YtmdkcoenjadieaaDoorTotals.lean).
  GIVEN WITH THE SEED: the statements are not yours to turn. If you find one false, say at which input.
  Laid BY PROGRAM, IN A SANDBOX (cutbox-rows.mjs): the forced cells as the released guide's own fill.sh prints them over the translation fc5106161a6a2537… (all of the seat's roots in one cut). By AI agents, Wed Nov 11 2026. No macro, syntax, notation, axiom, sorry.
-/
import Derived.Test.YtmdkcoenjadieaaDoorChecked
import GoSem.Claim
import GoSem.ClaimJoined
import GoSem.ClaimMapViews
import Derived.JoinedTies
import Derived.KernelRfl
namespace Go.Proofs.YtmdkcoenjadieaaDoor
/- THE CELL 'sum', in the pinned program and in every row, IS THE sha256 OF THE DUMP (.gsa) THAT YtmdkcoenjadieaaDoorProg.lean LOADS. Nothing in Lean hashes anything: it is a label: what it is worth is what the hold of that sum in a sandbox is worth. -/
noncomputable def Tryd.pinned : Pinned := { name := "ytmdkcoenjadieaadoor", sum := "fc5106161a6a2537b51bf8d2acaf219bba87980307ee138106ebdeb0359fa751", checked := Tryd.checked }
namespace Rows
def none {H : Type} : Left H := { results := [], args := [] }

/- WHAT THE LISTED PACKAGE-LEVEL VARIABLES READ AS WHEN THE CALL BEGINS. Each datum BY PROGRAM (the guide's laid-datum.mjs) off the statement by which the dump's own 'gosem.cut.vars' lays the variable. In a bare row this is a premise. The card (YtmdkcoenjadieaaDoorCards.lean) ties it to the program's text. -/
def laid_skerry_crc_fourSteps {H : Type} : DataW H := .agg [.lit (.int .u32 0), .lit (.int .u32 498536548), .lit (.int .u32 997073096), .lit (.int .u32 651767980), .lit (.int .u32 1994146192), .lit (.int .u32 1802195444), .lit (.int .u32 1303535960), .lit (.int .u32 1342533948), .lit (.int .u32 3988292384), .lit (.int .u32 4027552580), .lit (.int .u32 3604390888), .lit (.int .u32 3412177804), .lit (.int .u32 2607071920), .lit (.int .u32 2262029012), .lit (.int .u32 2685067896), .lit (.int .u32 3183342108)]

/-- 'skerrylaw06.CodecHeads': WHATEVER THE INPUT: true; the input reads as it did. -/
def codecHeadsSpec : ChangeSpec := { name := "codecHeads", fn := fun _ => fun
  | [d1, d2, d3, d4] => { results := [.lit (.bool true)], args := [d1, d2, d3, d4] }
  | _ => none }
def codecHeadsRow : OpenClaim := { program := "ytmdkcoenjadieaadoor", sum := "fc5106161a6a2537b51bf8d2acaf219bba87980307ee138106ebdeb0359fa751", func := "skerry/skerrylaw06.CodecHeads", spec := "codecHeads", unfollowed := true, recurses := true, named := ["skerry/crc.fourSteps"], apart := false, laid := [("skerry/crc.fourSteps", laid_skerry_crc_fourSteps)] }
def CodecHeadsSaid : Prop := codecHeadsRow.holds Tryd.pinned (OpenSpec.ofChange codecHeadsSpec)

/-- ITS FALSE NEIGHBOUR: 'it returns false'. Refute it at one input. -/
def codecHeadsWrong : ChangeSpec := { name := "codecHeads", fn := fun _ => fun
  | [d1, d2, d3, d4] => { results := [.lit (.bool false)], args := [d1, d2, d3, d4] }
  | _ => none }
def CodecHeadsWrongFalsely : Prop := codecHeadsRow.holds Tryd.pinned (OpenSpec.ofChange codecHeadsWrong)

/-- 'skerrylaw06.CodecDescs': WHATEVER THE INPUT: true; the input reads as it did. -/
def codecDescsSpec : ChangeSpec := { name := "codecDescs", fn := fun _ => fun
  | [d1, d2, d3, d4] => { results := [.lit (.bool true)], args := [d1, d2, d3, d4] }
  | _ => none }
def codecDescsRow : OpenClaim := { program := "ytmdkcoenjadieaadoor", sum := "fc5106161a6a2537b51bf8d2acaf219bba87980307ee138106ebdeb0359fa751", func := "skerry/skerrylaw06.CodecDescs", spec := "codecDescs", unfollowed := true, recurses := true, named := ["skerry/crc.fourSteps"], apart := false, laid := [("skerry/crc.fourSteps", laid_skerry_crc_fourSteps)] }
def CodecDescsSaid : Prop := codecDescsRow.holds Tryd.pinned (OpenSpec.ofChange codecDescsSpec)

/-- ITS FALSE NEIGHBOUR: 'it returns false'. Refute it at one input. -/
def codecDescsWrong : ChangeSpec := { name := "codecDescs", fn := fun _ => fun
  | [d1, d2, d3, d4] => { results := [.lit (.bool false)], args := [d1, d2, d3, d4] }
  | _ => none }
def CodecDescsWrongFalsely : Prop := codecDescsRow.holds Tryd.pinned (OpenSpec.ofChange codecDescsWrong)

/-- 'skerrylaw06.CodecRecords': WHATEVER THE INPUT: true; the input reads as it did. -/
def codecRecordsSpec : ChangeSpec := { name := "codecRecords", fn := fun _ => fun
  | [d1, d2, d3] => { results := [.lit (.bool true)], args := [d1, d2, d3] }
  | _ => none }
def codecRecordsRow : OpenClaim := { program := "ytmdkcoenjadieaadoor", sum := "fc5106161a6a2537b51bf8d2acaf219bba87980307ee138106ebdeb0359fa751", func := "skerry/skerrylaw06.CodecRecords", spec := "codecRecords", unfollowed := true, recurses := true, named := ["skerry/crc.fourSteps"], apart := false, laid := [("skerry/crc.fourSteps", laid_skerry_crc_fourSteps)] }
def CodecRecordsSaid : Prop := codecRecordsRow.holds Tryd.pinned (OpenSpec.ofChange codecRecordsSpec)

/-- ITS FALSE NEIGHBOUR: 'it returns false'. Refute it at one input. -/
def codecRecordsWrong : ChangeSpec := { name := "codecRecords", fn := fun _ => fun
  | [d1, d2, d3] => { results := [.lit (.bool false)], args := [d1, d2, d3] }
  | _ => none }
def CodecRecordsWrongFalsely : Prop := codecRecordsRow.holds Tryd.pinned (OpenSpec.ofChange codecRecordsWrong)

/-- 'skerrylaw06.CodecBack': WHATEVER THE INPUT: true; the input reads as it did. -/
def codecBackSpec : ChangeSpec := { name := "codecBack", fn := fun _ => fun
  | [d1, d2, d3, d4, d5] => { results := [.lit (.bool true)], args := [d1, d2, d3, d4, d5] }
  | _ => none }
def codecBackRow : OpenClaim := { program := "ytmdkcoenjadieaadoor", sum := "fc5106161a6a2537b51bf8d2acaf219bba87980307ee138106ebdeb0359fa751", func := "skerry/skerrylaw06.CodecBack", spec := "codecBack", unfollowed := true, recurses := true, named := ["skerry/crc.fourSteps"], apart := false, laid := [("skerry/crc.fourSteps", laid_skerry_crc_fourSteps)] }
def CodecBackSaid : Prop := codecBackRow.holds Tryd.pinned (OpenSpec.ofChange codecBackSpec)

/-- ITS FALSE NEIGHBOUR: 'it returns false'. Refute it at one input. -/
def codecBackWrong : ChangeSpec := { name := "codecBack", fn := fun _ => fun
  | [d1, d2, d3, d4, d5] => { results := [.lit (.bool false)], args := [d1, d2, d3, d4, d5] }
  | _ => none }
def CodecBackWrongFalsely : Prop := codecBackRow.holds Tryd.pinned (OpenSpec.ofChange codecBackWrong)

/-- 'skerrylaw06.CodecKeeps': WHATEVER THE INPUT: true; the input reads as it did. -/
def codecKeepsSpec : ChangeSpec := { name := "codecKeeps", fn := fun _ => fun
  | [d1, d2] => { results := [.lit (.bool true)], args := [d1, d2] }
  | _ => none }
def codecKeepsRow : OpenClaim := { program := "ytmdkcoenjadieaadoor", sum := "fc5106161a6a2537b51bf8d2acaf219bba87980307ee138106ebdeb0359fa751", func := "skerry/skerrylaw06.CodecKeeps", spec := "codecKeeps", unfollowed := true, recurses := true, named := ["skerry/crc.fourSteps"], apart := false, laid := [("skerry/crc.fourSteps", laid_skerry_crc_fourSteps)] }
def CodecKeepsSaid : Prop := codecKeepsRow.holds Tryd.pinned (OpenSpec.ofChange codecKeepsSpec)

/-- ITS FALSE NEIGHBOUR: 'it returns false'. Refute it at one input. -/
def codecKeepsWrong : ChangeSpec := { name := "codecKeeps", fn := fun _ => fun
  | [d1, d2] => { results := [.lit (.bool false)], args := [d1, d2] }
  | _ => none }
def CodecKeepsWrongFalsely : Prop := codecKeepsRow.holds Tryd.pinned (OpenSpec.ofChange codecKeepsWrong)

/- THE SECOND FORM. 'bulk': how many values and letters a reading holds, each counted each time it is reached (what is shared counts as often as it is met; a slice's spare places count too). A statement '..UptoSaid' is the law's where the arguments, and the package variables that the reading takes, are together of bulk at most 1048576: NARROWER than '..Said'. Prove '..Said' where nothing that the law and all that it calls make is longer than what came in: it says more and counts as full. Else prove '..UptoSaid'. A law counts once. -/
mutual
def uptoBulk {H : Type} : DataW H → Nat
  | .lit (.string bytes) => bytes.length + 1
  | .lit _ => 1
  | .nil => 1
  | .ptr d => uptoBulk d + 1
  | .slice elems spare => uptoBulkAll elems + uptoBulkAll spare + 1
  | .agg parts => uptoBulkAll parts + 1
  | .iface _ d => uptoBulk d + 1
  | .map entries => uptoBulkEntries entries + 1
  | .held _ => 1
def uptoBulkAll {H : Type} : List (DataW H) → Nat
  | [] => 0
  | d :: r => uptoBulk d + uptoBulkAll r
def uptoBulkEntries {H : Type} : List (Lit × DataW H) → Nat
  | [] => 0
  | x :: r => uptoBulkEntry x + uptoBulkEntries r
def uptoBulkEntry {H : Type} : Lit × DataW H → Nat
  | (.string bytes, d) => bytes.length + uptoBulk d + 1
  | (_, d) => uptoBulk d + 1
 end
def uptoSmall : (H : Type) → List (DataW H) → Bool := fun _ ds => decide (uptoBulkAll ds ≤ 1048576)
def OpenSpec.upto (s : _root_.Go.ChangeSpec) : _root_.Go.OpenSpec := { _root_.Go.OpenSpec.ofChange s with cond := some uptoSmall }

/-- 'skerrylaw06.CodecHeads', WHERE WHAT IT READS IS OF BULK AT MOST 1048576: true; the input reads as it did. -/
def codecHeadsUptoRow : OpenClaim := { program := "ytmdkcoenjadieaadoor", sum := "fc5106161a6a2537b51bf8d2acaf219bba87980307ee138106ebdeb0359fa751", func := "skerry/skerrylaw06.CodecHeads", spec := "codecHeads", unfollowed := true, recurses := true, named := ["skerry/crc.fourSteps"], apart := false, laid := [("skerry/crc.fourSteps", laid_skerry_crc_fourSteps)], narrowed := true }
def CodecHeadsUptoSaid : Prop := codecHeadsUptoRow.holds Tryd.pinned (OpenSpec.upto codecHeadsSpec)

/-- 'skerrylaw06.CodecDescs', WHERE WHAT IT READS IS OF BULK AT MOST 1048576: true; the input reads as it did. -/
def codecDescsUptoRow : OpenClaim := { program := "ytmdkcoenjadieaadoor", sum := "fc5106161a6a2537b51bf8d2acaf219bba87980307ee138106ebdeb0359fa751", func := "skerry/skerrylaw06.CodecDescs", spec := "codecDescs", unfollowed := true, recurses := true, named := ["skerry/crc.fourSteps"], apart := false, laid := [("skerry/crc.fourSteps", laid_skerry_crc_fourSteps)], narrowed := true }
def CodecDescsUptoSaid : Prop := codecDescsUptoRow.holds Tryd.pinned (OpenSpec.upto codecDescsSpec)

/-- 'skerrylaw06.CodecRecords', WHERE WHAT IT READS IS OF BULK AT MOST 1048576: true; the input reads as it did. -/
def codecRecordsUptoRow : OpenClaim := { program := "ytmdkcoenjadieaadoor", sum := "fc5106161a6a2537b51bf8d2acaf219bba87980307ee138106ebdeb0359fa751", func := "skerry/skerrylaw06.CodecRecords", spec := "codecRecords", unfollowed := true, recurses := true, named := ["skerry/crc.fourSteps"], apart := false, laid := [("skerry/crc.fourSteps", laid_skerry_crc_fourSteps)], narrowed := true }
def CodecRecordsUptoSaid : Prop := codecRecordsUptoRow.holds Tryd.pinned (OpenSpec.upto codecRecordsSpec)

/-- 'skerrylaw06.CodecBack', WHERE WHAT IT READS IS OF BULK AT MOST 1048576: true; the input reads as it did. -/
def codecBackUptoRow : OpenClaim := { program := "ytmdkcoenjadieaadoor", sum := "fc5106161a6a2537b51bf8d2acaf219bba87980307ee138106ebdeb0359fa751", func := "skerry/skerrylaw06.CodecBack", spec := "codecBack", unfollowed := true, recurses := true, named := ["skerry/crc.fourSteps"], apart := false, laid := [("skerry/crc.fourSteps", laid_skerry_crc_fourSteps)], narrowed := true }
def CodecBackUptoSaid : Prop := codecBackUptoRow.holds Tryd.pinned (OpenSpec.upto codecBackSpec)

/-- 'skerrylaw06.CodecKeeps', WHERE WHAT IT READS IS OF BULK AT MOST 1048576: true; the input reads as it did. -/
def codecKeepsUptoRow : OpenClaim := { program := "ytmdkcoenjadieaadoor", sum := "fc5106161a6a2537b51bf8d2acaf219bba87980307ee138106ebdeb0359fa751", func := "skerry/skerrylaw06.CodecKeeps", spec := "codecKeeps", unfollowed := true, recurses := true, named := ["skerry/crc.fourSteps"], apart := false, laid := [("skerry/crc.fourSteps", laid_skerry_crc_fourSteps)], narrowed := true }
def CodecKeepsUptoSaid : Prop := codecKeepsUptoRow.holds Tryd.pinned (OpenSpec.upto codecKeepsSpec)

end Rows
end Go.Proofs.YtmdkcoenjadieaaDoor
