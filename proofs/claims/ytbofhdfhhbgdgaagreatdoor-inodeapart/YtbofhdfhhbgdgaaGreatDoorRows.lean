/-
  NARROWER THAN 'FOR EVERY INPUT', by the rows' own cells (each row's printed sentence says how): InodeApart: laid · InodeFrees: laid · InodeKeeps: laid · FileBytes: laid · FileHoles: laid · FileNone: laid.
  DERIVED. THE GIVEN ROWS OF THIS SEAT. 6 by the template 'for every input the law returns true; each argument reads behind the call as it read before'; 0 by the template 'total and deterministic' (their statements: YtbofhdfhhbgdgaaGreatDoorTotals.lean).
  GIVEN WITH THE SEED: the statements are not yours to turn. If you find one false, say at which input.
  Laid BY PROGRAM, IN A SANDBOX (cutbox-rows.mjs): the forced cells as the released guide's own fill.sh prints them over the translation 7e8aad3d91094acd… (all of the seat's roots in one cut). By AI agents, Wed Nov 11 2026. No macro, syntax, notation, axiom, sorry.
-/
import Derived.Test.YtbofhdfhhbgdgaaGreatDoorChecked
import GoSem.Claim
import GoSem.ClaimJoined
import GoSem.ClaimMapViews
import Derived.JoinedTies
import Derived.KernelRfl
namespace Go.Proofs.YtbofhdfhhbgdgaaGreatDoor
/- THE CELL 'sum', in the pinned program and in every row, IS THE sha256 OF THE DUMP (.gsa) THAT YtbofhdfhhbgdgaaGreatDoorProg.lean LOADS. Nothing in Lean hashes anything: it is a label: what it is worth is what the hold of that sum in a sandbox is worth. -/
noncomputable def Tryz.pinned : Pinned := { name := "ytbofhdfhhbgdgaagreatdoor", sum := "7e8aad3d91094acdd2c6fbb83cd64c43ce87baede84c726261f223f5b8b6a9f5", checked := Tryz.checked }
namespace Rows
def none {H : Type} : Left H := { results := [], args := [] }

/- WHAT THE LISTED PACKAGE-LEVEL VARIABLES READ AS WHEN THE CALL BEGINS. Each datum BY PROGRAM (the guide's laid-datum.mjs) off the statement by which the dump's own 'gosem.cut.vars' lays the variable. In a bare row this is a premise. The card (YtbofhdfhhbgdgaaGreatDoorCards.lean) ties it to the program's text. -/
def laid_skerry_crc_fourSteps {H : Type} : DataW H := .agg [.lit (.int .u32 0), .lit (.int .u32 498536548), .lit (.int .u32 997073096), .lit (.int .u32 651767980), .lit (.int .u32 1994146192), .lit (.int .u32 1802195444), .lit (.int .u32 1303535960), .lit (.int .u32 1342533948), .lit (.int .u32 3988292384), .lit (.int .u32 4027552580), .lit (.int .u32 3604390888), .lit (.int .u32 3412177804), .lit (.int .u32 2607071920), .lit (.int .u32 2262029012), .lit (.int .u32 2685067896), .lit (.int .u32 3183342108)]

/-- 'skerrylaw13.InodeApart': WHATEVER THE INPUT: true; the input reads as it did. -/
def inodeApartSpec : ChangeSpec := { name := "inodeApart", fn := fun _ => fun
  | [d1, d2] => { results := [.lit (.bool true)], args := [d1, d2] }
  | _ => none }
def inodeApartRow : OpenClaim := { program := "ytbofhdfhhbgdgaagreatdoor", sum := "7e8aad3d91094acdd2c6fbb83cd64c43ce87baede84c726261f223f5b8b6a9f5", func := "skerry/skerrylaw13.InodeApart", spec := "inodeApart", unfollowed := true, recurses := true, named := ["skerry/crc.fourSteps"], plainKeys := false, apart := false, laid := [("skerry/crc.fourSteps", laid_skerry_crc_fourSteps)] }
def InodeApartSaid : Prop := inodeApartRow.holds Tryz.pinned (OpenSpec.ofChange inodeApartSpec)

/-- ITS FALSE NEIGHBOUR: 'it returns false'. Refute it at one input. -/
def inodeApartWrong : ChangeSpec := { name := "inodeApart", fn := fun _ => fun
  | [d1, d2] => { results := [.lit (.bool false)], args := [d1, d2] }
  | _ => none }
def InodeApartWrongFalsely : Prop := inodeApartRow.holds Tryz.pinned (OpenSpec.ofChange inodeApartWrong)

/-- 'skerrylaw13.InodeFrees': WHATEVER THE INPUT: true; the input reads as it did. -/
def inodeFreesSpec : ChangeSpec := { name := "inodeFrees", fn := fun _ => fun
  | [d1, d2] => { results := [.lit (.bool true)], args := [d1, d2] }
  | _ => none }
def inodeFreesRow : OpenClaim := { program := "ytbofhdfhhbgdgaagreatdoor", sum := "7e8aad3d91094acdd2c6fbb83cd64c43ce87baede84c726261f223f5b8b6a9f5", func := "skerry/skerrylaw13.InodeFrees", spec := "inodeFrees", unfollowed := true, recurses := true, named := ["skerry/crc.fourSteps"], plainKeys := false, apart := false, laid := [("skerry/crc.fourSteps", laid_skerry_crc_fourSteps)] }
def InodeFreesSaid : Prop := inodeFreesRow.holds Tryz.pinned (OpenSpec.ofChange inodeFreesSpec)

/-- ITS FALSE NEIGHBOUR: 'it returns false'. Refute it at one input. -/
def inodeFreesWrong : ChangeSpec := { name := "inodeFrees", fn := fun _ => fun
  | [d1, d2] => { results := [.lit (.bool false)], args := [d1, d2] }
  | _ => none }
def InodeFreesWrongFalsely : Prop := inodeFreesRow.holds Tryz.pinned (OpenSpec.ofChange inodeFreesWrong)

/-- 'skerrylaw13.InodeKeeps': WHATEVER THE INPUT: true; the input reads as it did. -/
def inodeKeepsSpec : ChangeSpec := { name := "inodeKeeps", fn := fun _ => fun
  | [d] => { results := [.lit (.bool true)], args := [d] }
  | _ => none }
def inodeKeepsRow : OpenClaim := { program := "ytbofhdfhhbgdgaagreatdoor", sum := "7e8aad3d91094acdd2c6fbb83cd64c43ce87baede84c726261f223f5b8b6a9f5", func := "skerry/skerrylaw13.InodeKeeps", spec := "inodeKeeps", unfollowed := true, recurses := true, named := ["skerry/crc.fourSteps"], plainKeys := false, apart := false, laid := [("skerry/crc.fourSteps", laid_skerry_crc_fourSteps)] }
def InodeKeepsSaid : Prop := inodeKeepsRow.holds Tryz.pinned (OpenSpec.ofChange inodeKeepsSpec)

/-- ITS FALSE NEIGHBOUR: 'it returns false'. Refute it at one input. -/
def inodeKeepsWrong : ChangeSpec := { name := "inodeKeeps", fn := fun _ => fun
  | [d] => { results := [.lit (.bool false)], args := [d] }
  | _ => none }
def InodeKeepsWrongFalsely : Prop := inodeKeepsRow.holds Tryz.pinned (OpenSpec.ofChange inodeKeepsWrong)

/-- 'skerrylaw14.FileBytes': WHATEVER THE INPUT: true; the input reads as it did. -/
def fileBytesSpec : ChangeSpec := { name := "fileBytes", fn := fun _ => fun
  | [d1, d2, d3] => { results := [.lit (.bool true)], args := [d1, d2, d3] }
  | _ => none }
def fileBytesRow : OpenClaim := { program := "ytbofhdfhhbgdgaagreatdoor", sum := "7e8aad3d91094acdd2c6fbb83cd64c43ce87baede84c726261f223f5b8b6a9f5", func := "skerry/skerrylaw14.FileBytes", spec := "fileBytes", unfollowed := true, recurses := true, named := ["skerry/crc.fourSteps"], plainKeys := false, apart := false, laid := [("skerry/crc.fourSteps", laid_skerry_crc_fourSteps)] }
def FileBytesSaid : Prop := fileBytesRow.holds Tryz.pinned (OpenSpec.ofChange fileBytesSpec)

/-- ITS FALSE NEIGHBOUR: 'it returns false'. Refute it at one input. -/
def fileBytesWrong : ChangeSpec := { name := "fileBytes", fn := fun _ => fun
  | [d1, d2, d3] => { results := [.lit (.bool false)], args := [d1, d2, d3] }
  | _ => none }
def FileBytesWrongFalsely : Prop := fileBytesRow.holds Tryz.pinned (OpenSpec.ofChange fileBytesWrong)

/-- 'skerrylaw14.FileHoles': WHATEVER THE INPUT: true; the input reads as it did. -/
def fileHolesSpec : ChangeSpec := { name := "fileHoles", fn := fun _ => fun
  | [d1, d2, d3] => { results := [.lit (.bool true)], args := [d1, d2, d3] }
  | _ => none }
def fileHolesRow : OpenClaim := { program := "ytbofhdfhhbgdgaagreatdoor", sum := "7e8aad3d91094acdd2c6fbb83cd64c43ce87baede84c726261f223f5b8b6a9f5", func := "skerry/skerrylaw14.FileHoles", spec := "fileHoles", unfollowed := true, recurses := true, named := ["skerry/crc.fourSteps"], plainKeys := false, apart := false, laid := [("skerry/crc.fourSteps", laid_skerry_crc_fourSteps)] }
def FileHolesSaid : Prop := fileHolesRow.holds Tryz.pinned (OpenSpec.ofChange fileHolesSpec)

/-- ITS FALSE NEIGHBOUR: 'it returns false'. Refute it at one input. -/
def fileHolesWrong : ChangeSpec := { name := "fileHoles", fn := fun _ => fun
  | [d1, d2, d3] => { results := [.lit (.bool false)], args := [d1, d2, d3] }
  | _ => none }
def FileHolesWrongFalsely : Prop := fileHolesRow.holds Tryz.pinned (OpenSpec.ofChange fileHolesWrong)

/-- 'skerrylaw14.FileNone': WHATEVER THE INPUT: true; the input reads as it did. -/
def fileNoneSpec : ChangeSpec := { name := "fileNone", fn := fun _ => fun
  | [] => { results := [.lit (.bool true)], args := [] }
  | _ => none }
def fileNoneRow : OpenClaim := { program := "ytbofhdfhhbgdgaagreatdoor", sum := "7e8aad3d91094acdd2c6fbb83cd64c43ce87baede84c726261f223f5b8b6a9f5", func := "skerry/skerrylaw14.FileNone", spec := "fileNone", unfollowed := true, recurses := true, named := ["skerry/crc.fourSteps"], plainKeys := false, apart := false, laid := [("skerry/crc.fourSteps", laid_skerry_crc_fourSteps)] }
def FileNoneSaid : Prop := fileNoneRow.holds Tryz.pinned (OpenSpec.ofChange fileNoneSpec)

/-- ITS FALSE NEIGHBOUR: 'it returns false'. Refute it at one input. -/
def fileNoneWrong : ChangeSpec := { name := "fileNone", fn := fun _ => fun
  | [] => { results := [.lit (.bool false)], args := [] }
  | _ => none }
def FileNoneWrongFalsely : Prop := fileNoneRow.holds Tryz.pinned (OpenSpec.ofChange fileNoneWrong)

/- THE SECOND FORM. 'bulk': how many values and letters a reading holds, each counted each time it is reached (what is shared counts as often as it is met; a slice's spare places count too). A statement '..UptoSaid' is the law's where the arguments, and the package variables that the reading takes, are together of bulk at most 1048576: NARROWER than '..Said'. Prove '..Said' where nothing that the law and all that it calls make is longer than what came in: it says more and counts as full. Else prove '..UptoSaid'. A law counts once. -/
mutual
def uptoBulk {H : Type} : DataW H → Nat
  | .lit (.string bytes) => bytes.length + 1
  | .lit _ => 1
  | .nil => 1
  | .ptr d => uptoBulk d + 1
  | .slice elems spare => uptoBulkAll elems + uptoBulkAll spare + 1
  | .agg parts => uptoBulkAll parts + 1
  | .iface _ d => uptoBulk d + 1
  | .map entries => uptoBulkEntries entries + 1
  | .held _ => 1
def uptoBulkAll {H : Type} : List (DataW H) → Nat
  | [] => 0
  | d :: r => uptoBulk d + uptoBulkAll r
def uptoBulkEntries {H : Type} : List (Lit × DataW H) → Nat
  | [] => 0
  | x :: r => uptoBulkEntry x + uptoBulkEntries r
def uptoBulkEntry {H : Type} : Lit × DataW H → Nat
  | (.string bytes, d) => bytes.length + uptoBulk d + 1
  | (_, d) => uptoBulk d + 1
 end
def uptoSmall : (H : Type) → List (DataW H) → Bool := fun _ ds => decide (uptoBulkAll ds ≤ 1048576)
def OpenSpec.upto (s : _root_.Go.ChangeSpec) : _root_.Go.OpenSpec := { _root_.Go.OpenSpec.ofChange s with cond := some uptoSmall }

/-- 'skerrylaw13.InodeApart', WHERE WHAT IT READS IS OF BULK AT MOST 1048576: true; the input reads as it did. -/
def inodeApartUptoRow : OpenClaim := { program := "ytbofhdfhhbgdgaagreatdoor", sum := "7e8aad3d91094acdd2c6fbb83cd64c43ce87baede84c726261f223f5b8b6a9f5", func := "skerry/skerrylaw13.InodeApart", spec := "inodeApart", unfollowed := true, recurses := true, named := ["skerry/crc.fourSteps"], plainKeys := false, apart := false, laid := [("skerry/crc.fourSteps", laid_skerry_crc_fourSteps)], narrowed := true }
def InodeApartUptoSaid : Prop := inodeApartUptoRow.holds Tryz.pinned (OpenSpec.upto inodeApartSpec)

/-- 'skerrylaw13.InodeFrees', WHERE WHAT IT READS IS OF BULK AT MOST 1048576: true; the input reads as it did. -/
def inodeFreesUptoRow : OpenClaim := { program := "ytbofhdfhhbgdgaagreatdoor", sum := "7e8aad3d91094acdd2c6fbb83cd64c43ce87baede84c726261f223f5b8b6a9f5", func := "skerry/skerrylaw13.InodeFrees", spec := "inodeFrees", unfollowed := true, recurses := true, named := ["skerry/crc.fourSteps"], plainKeys := false, apart := false, laid := [("skerry/crc.fourSteps", laid_skerry_crc_fourSteps)], narrowed := true }
def InodeFreesUptoSaid : Prop := inodeFreesUptoRow.holds Tryz.pinned (OpenSpec.upto inodeFreesSpec)

/-- 'skerrylaw13.InodeKeeps', WHERE WHAT IT READS IS OF BULK AT MOST 1048576: true; the input reads as it did. -/
def inodeKeepsUptoRow : OpenClaim := { program := "ytbofhdfhhbgdgaagreatdoor", sum := "7e8aad3d91094acdd2c6fbb83cd64c43ce87baede84c726261f223f5b8b6a9f5", func := "skerry/skerrylaw13.InodeKeeps", spec := "inodeKeeps", unfollowed := true, recurses := true, named := ["skerry/crc.fourSteps"], plainKeys := false, apart := false, laid := [("skerry/crc.fourSteps", laid_skerry_crc_fourSteps)], narrowed := true }
def InodeKeepsUptoSaid : Prop := inodeKeepsUptoRow.holds Tryz.pinned (OpenSpec.upto inodeKeepsSpec)

/-- 'skerrylaw14.FileBytes', WHERE WHAT IT READS IS OF BULK AT MOST 1048576: true; the input reads as it did. -/
def fileBytesUptoRow : OpenClaim := { program := "ytbofhdfhhbgdgaagreatdoor", sum := "7e8aad3d91094acdd2c6fbb83cd64c43ce87baede84c726261f223f5b8b6a9f5", func := "skerry/skerrylaw14.FileBytes", spec := "fileBytes", unfollowed := true, recurses := true, named := ["skerry/crc.fourSteps"], plainKeys := false, apart := false, laid := [("skerry/crc.fourSteps", laid_skerry_crc_fourSteps)], narrowed := true }
def FileBytesUptoSaid : Prop := fileBytesUptoRow.holds Tryz.pinned (OpenSpec.upto fileBytesSpec)

/-- 'skerrylaw14.FileHoles', WHERE WHAT IT READS IS OF BULK AT MOST 1048576: true; the input reads as it did. -/
def fileHolesUptoRow : OpenClaim := { program := "ytbofhdfhhbgdgaagreatdoor", sum := "7e8aad3d91094acdd2c6fbb83cd64c43ce87baede84c726261f223f5b8b6a9f5", func := "skerry/skerrylaw14.FileHoles", spec := "fileHoles", unfollowed := true, recurses := true, named := ["skerry/crc.fourSteps"], plainKeys := false, apart := false, laid := [("skerry/crc.fourSteps", laid_skerry_crc_fourSteps)], narrowed := true }
def FileHolesUptoSaid : Prop := fileHolesUptoRow.holds Tryz.pinned (OpenSpec.upto fileHolesSpec)

/-- 'skerrylaw14.FileNone', WHERE WHAT IT READS IS OF BULK AT MOST 1048576: true; the input reads as it did. -/
def fileNoneUptoRow : OpenClaim := { program := "ytbofhdfhhbgdgaagreatdoor", sum := "7e8aad3d91094acdd2c6fbb83cd64c43ce87baede84c726261f223f5b8b6a9f5", func := "skerry/skerrylaw14.FileNone", spec := "fileNone", unfollowed := true, recurses := true, named := ["skerry/crc.fourSteps"], plainKeys := false, apart := false, laid := [("skerry/crc.fourSteps", laid_skerry_crc_fourSteps)], narrowed := true }
def FileNoneUptoSaid : Prop := fileNoneUptoRow.holds Tryz.pinned (OpenSpec.upto fileNoneSpec)

end Rows
end Go.Proofs.YtbofhdfhhbgdgaaGreatDoor
