/-
  DERIVED. GIVEN WITH THE SEED: THE CARDS: each row of YtbofhdfhhbgdgaaGreatDoorRows.lean that lists a variable, with what it lists TIED to the program's text (the seventh form; the later family's looks); each row that meets fmt, with fmt's text TOLD by the authors' own Lean function (tested against real Go, not proved from fmt's source: count such statements apart). THE CARD IS WHAT COUNTS. Prove the row's statement (the work); the ties are given (YtbofhdfhhbgdgaaGreatDoorTie.lean); close each card by the builder's one call (the guide's Derived/Test/ToyasCard.lean, 'card_holds'). Laid BY PROGRAM, IN A SANDBOX (cutbox-door.mjs). By AI agents, Wed Nov 11 2026. No macro, syntax, notation, axiom, sorry.
-/
import Derived.Test.YtbofhdfhhbgdgaaGreatDoorRows
import GoSem.ClaimSeven
namespace Go.Proofs.YtbofhdfhhbgdgaaGreatDoor
namespace Rows

/-- THE TIED CARD OF 'skerrylaw13.InodeApart'. -/
def inodeApartCard : Claim7 := { stood := { row := inodeApartRow, standIns := [], harness := (true, "bf2b6aae90200ece8795ecfd410ae45780e1b8827a1686ac4bb3b859d18af5dd"), looks := false }, kinds := [], alts := [], laidByText := true, laidKinds := [.data], laidTests := true, laidLooks := .later }
def InodeApartCardSaid : Prop := Claim7.holds Tryz.pinned (.plain (OpenSpec.ofChange inodeApartSpec)) inodeApartCard

/-- THE TIED CARD OF 'skerrylaw13.InodeFrees'. -/
def inodeFreesCard : Claim7 := { stood := { row := inodeFreesRow, standIns := [], harness := (true, "bf2b6aae90200ece8795ecfd410ae45780e1b8827a1686ac4bb3b859d18af5dd"), looks := false }, kinds := [], alts := [], laidByText := true, laidKinds := [.data], laidTests := true, laidLooks := .later }
def InodeFreesCardSaid : Prop := Claim7.holds Tryz.pinned (.plain (OpenSpec.ofChange inodeFreesSpec)) inodeFreesCard

/-- THE TIED CARD OF 'skerrylaw13.InodeKeeps'. -/
def inodeKeepsCard : Claim7 := { stood := { row := inodeKeepsRow, standIns := [], harness := (true, "bf2b6aae90200ece8795ecfd410ae45780e1b8827a1686ac4bb3b859d18af5dd"), looks := false }, kinds := [], alts := [], laidByText := true, laidKinds := [.data], laidTests := true, laidLooks := .later }
def InodeKeepsCardSaid : Prop := Claim7.holds Tryz.pinned (.plain (OpenSpec.ofChange inodeKeepsSpec)) inodeKeepsCard

/-- THE TIED CARD OF 'skerrylaw14.FileBytes'. -/
def fileBytesCard : Claim7 := { stood := { row := fileBytesRow, standIns := [], harness := (true, "bf2b6aae90200ece8795ecfd410ae45780e1b8827a1686ac4bb3b859d18af5dd"), looks := false }, kinds := [], alts := [], laidByText := true, laidKinds := [.data], laidTests := true, laidLooks := .later }
def FileBytesCardSaid : Prop := Claim7.holds Tryz.pinned (.plain (OpenSpec.ofChange fileBytesSpec)) fileBytesCard

/-- THE TIED CARD OF 'skerrylaw14.FileHoles'. -/
def fileHolesCard : Claim7 := { stood := { row := fileHolesRow, standIns := [], harness := (true, "bf2b6aae90200ece8795ecfd410ae45780e1b8827a1686ac4bb3b859d18af5dd"), looks := false }, kinds := [], alts := [], laidByText := true, laidKinds := [.data], laidTests := true, laidLooks := .later }
def FileHolesCardSaid : Prop := Claim7.holds Tryz.pinned (.plain (OpenSpec.ofChange fileHolesSpec)) fileHolesCard

/-- THE TIED CARD OF 'skerrylaw14.FileNone'. -/
def fileNoneCard : Claim7 := { stood := { row := fileNoneRow, standIns := [], harness := (true, "bf2b6aae90200ece8795ecfd410ae45780e1b8827a1686ac4bb3b859d18af5dd"), looks := false }, kinds := [], alts := [], laidByText := true, laidKinds := [.data], laidTests := true, laidLooks := .later }
def FileNoneCardSaid : Prop := Claim7.holds Tryz.pinned (.plain (OpenSpec.ofChange fileNoneSpec)) fileNoneCard

/-- THE SECOND FORM's CARD OF 'skerrylaw13.InodeApart'. -/
def inodeApartUptoCard : Claim7 := { stood := { row := inodeApartUptoRow, standIns := [], harness := (true, "bf2b6aae90200ece8795ecfd410ae45780e1b8827a1686ac4bb3b859d18af5dd"), looks := false }, kinds := [], alts := [], laidByText := true, laidKinds := [.data], laidTests := true, laidLooks := .later }
def InodeApartUptoCardSaid : Prop := Claim7.holds Tryz.pinned (.plain (OpenSpec.upto inodeApartSpec)) inodeApartUptoCard

/-- THE SECOND FORM's CARD OF 'skerrylaw13.InodeFrees'. -/
def inodeFreesUptoCard : Claim7 := { stood := { row := inodeFreesUptoRow, standIns := [], harness := (true, "bf2b6aae90200ece8795ecfd410ae45780e1b8827a1686ac4bb3b859d18af5dd"), looks := false }, kinds := [], alts := [], laidByText := true, laidKinds := [.data], laidTests := true, laidLooks := .later }
def InodeFreesUptoCardSaid : Prop := Claim7.holds Tryz.pinned (.plain (OpenSpec.upto inodeFreesSpec)) inodeFreesUptoCard

/-- THE SECOND FORM's CARD OF 'skerrylaw13.InodeKeeps'. -/
def inodeKeepsUptoCard : Claim7 := { stood := { row := inodeKeepsUptoRow, standIns := [], harness := (true, "bf2b6aae90200ece8795ecfd410ae45780e1b8827a1686ac4bb3b859d18af5dd"), looks := false }, kinds := [], alts := [], laidByText := true, laidKinds := [.data], laidTests := true, laidLooks := .later }
def InodeKeepsUptoCardSaid : Prop := Claim7.holds Tryz.pinned (.plain (OpenSpec.upto inodeKeepsSpec)) inodeKeepsUptoCard

/-- THE SECOND FORM's CARD OF 'skerrylaw14.FileBytes'. -/
def fileBytesUptoCard : Claim7 := { stood := { row := fileBytesUptoRow, standIns := [], harness := (true, "bf2b6aae90200ece8795ecfd410ae45780e1b8827a1686ac4bb3b859d18af5dd"), looks := false }, kinds := [], alts := [], laidByText := true, laidKinds := [.data], laidTests := true, laidLooks := .later }
def FileBytesUptoCardSaid : Prop := Claim7.holds Tryz.pinned (.plain (OpenSpec.upto fileBytesSpec)) fileBytesUptoCard

/-- THE SECOND FORM's CARD OF 'skerrylaw14.FileHoles'. -/
def fileHolesUptoCard : Claim7 := { stood := { row := fileHolesUptoRow, standIns := [], harness := (true, "bf2b6aae90200ece8795ecfd410ae45780e1b8827a1686ac4bb3b859d18af5dd"), looks := false }, kinds := [], alts := [], laidByText := true, laidKinds := [.data], laidTests := true, laidLooks := .later }
def FileHolesUptoCardSaid : Prop := Claim7.holds Tryz.pinned (.plain (OpenSpec.upto fileHolesSpec)) fileHolesUptoCard

/-- THE SECOND FORM's CARD OF 'skerrylaw14.FileNone'. -/
def fileNoneUptoCard : Claim7 := { stood := { row := fileNoneUptoRow, standIns := [], harness := (true, "bf2b6aae90200ece8795ecfd410ae45780e1b8827a1686ac4bb3b859d18af5dd"), looks := false }, kinds := [], alts := [], laidByText := true, laidKinds := [.data], laidTests := true, laidLooks := .later }
def FileNoneUptoCardSaid : Prop := Claim7.holds Tryz.pinned (.plain (OpenSpec.upto fileNoneSpec)) fileNoneUptoCard
end Rows
end Go.Proofs.YtbofhdfhhbgdgaaGreatDoor
