/-
  DERIVED. GIVEN WITH THE SEED: THE CARDS: each row of YtokngjcfkkceiaaGreatDoorRows.lean that lists a variable, with what it lists TIED to the program's text (the seventh form; the later family's looks); each row that meets fmt, with fmt's text TOLD by the authors' own Lean function (tested against real Go, not proved from fmt's source: count such statements apart). THE CARD IS WHAT COUNTS. Prove the row's statement (the work); the ties are given (YtokngjcfkkceiaaGreatDoorTie.lean); close each card by the builder's one call (the guide's Derived/Test/ToyasCard.lean, 'card_holds'). Laid BY PROGRAM, IN A SANDBOX (cutbox-door.mjs). By AI agents, Wed Nov 11 2026. No macro, syntax, notation, axiom, sorry.
-/
import Derived.Test.YtokngjcfkkceiaaGreatDoorRows
import GoSem.ClaimSeven
namespace Go.Proofs.YtokngjcfkkceiaaGreatDoor
namespace Rows

/-- THE TIED CARD OF 'skerrylaw13.InodeApart'. -/
def inodeApartCard : Claim7 := { stood := { row := inodeApartRow, standIns := [], harness := (true, "c5b70d94f6940fd2658de557f3723cf78995b9c412920ad32dd0ac938df69492"), looks := false }, kinds := [], alts := [], laidByText := true, laidKinds := [.data], laidTests := true, laidLooks := .later }
def InodeApartCardSaid : Prop := Claim7.holds Tryz.pinned (.plain (OpenSpec.ofChange inodeApartSpec)) inodeApartCard

/-- THE TIED CARD OF 'skerrylaw13.InodeFrees'. -/
def inodeFreesCard : Claim7 := { stood := { row := inodeFreesRow, standIns := [], harness := (true, "c5b70d94f6940fd2658de557f3723cf78995b9c412920ad32dd0ac938df69492"), looks := false }, kinds := [], alts := [], laidByText := true, laidKinds := [.data], laidTests := true, laidLooks := .later }
def InodeFreesCardSaid : Prop := Claim7.holds Tryz.pinned (.plain (OpenSpec.ofChange inodeFreesSpec)) inodeFreesCard

/-- THE TIED CARD OF 'skerrylaw13.InodeNil'. -/
def inodeNilCard : Claim7 := { stood := { row := inodeNilRow, standIns := [], harness := (true, "c5b70d94f6940fd2658de557f3723cf78995b9c412920ad32dd0ac938df69492"), looks := false }, kinds := [], alts := [], laidByText := true, laidKinds := [.data], laidTests := true, laidLooks := .later }
def InodeNilCardSaid : Prop := Claim7.holds Tryz.pinned (.plain (OpenSpec.ofChange inodeNilSpec)) inodeNilCard

/-- THE TIED CARD OF 'skerrylaw13.InodeKeeps'. -/
def inodeKeepsCard : Claim7 := { stood := { row := inodeKeepsRow, standIns := [], harness := (true, "c5b70d94f6940fd2658de557f3723cf78995b9c412920ad32dd0ac938df69492"), looks := false }, kinds := [], alts := [], laidByText := true, laidKinds := [.data], laidTests := true, laidLooks := .later }
def InodeKeepsCardSaid : Prop := Claim7.holds Tryz.pinned (.plain (OpenSpec.ofChange inodeKeepsSpec)) inodeKeepsCard

/-- THE SECOND FORM's CARD OF 'skerrylaw13.InodeApart'. -/
def inodeApartUptoCard : Claim7 := { stood := { row := inodeApartUptoRow, standIns := [], harness := (true, "c5b70d94f6940fd2658de557f3723cf78995b9c412920ad32dd0ac938df69492"), looks := false }, kinds := [], alts := [], laidByText := true, laidKinds := [.data], laidTests := true, laidLooks := .later }
def InodeApartUptoCardSaid : Prop := Claim7.holds Tryz.pinned (.plain (OpenSpec.upto inodeApartSpec)) inodeApartUptoCard

/-- THE SECOND FORM's CARD OF 'skerrylaw13.InodeFrees'. -/
def inodeFreesUptoCard : Claim7 := { stood := { row := inodeFreesUptoRow, standIns := [], harness := (true, "c5b70d94f6940fd2658de557f3723cf78995b9c412920ad32dd0ac938df69492"), looks := false }, kinds := [], alts := [], laidByText := true, laidKinds := [.data], laidTests := true, laidLooks := .later }
def InodeFreesUptoCardSaid : Prop := Claim7.holds Tryz.pinned (.plain (OpenSpec.upto inodeFreesSpec)) inodeFreesUptoCard

/-- THE SECOND FORM's CARD OF 'skerrylaw13.InodeNil'. -/
def inodeNilUptoCard : Claim7 := { stood := { row := inodeNilUptoRow, standIns := [], harness := (true, "c5b70d94f6940fd2658de557f3723cf78995b9c412920ad32dd0ac938df69492"), looks := false }, kinds := [], alts := [], laidByText := true, laidKinds := [.data], laidTests := true, laidLooks := .later }
def InodeNilUptoCardSaid : Prop := Claim7.holds Tryz.pinned (.plain (OpenSpec.upto inodeNilSpec)) inodeNilUptoCard

/-- THE SECOND FORM's CARD OF 'skerrylaw13.InodeKeeps'. -/
def inodeKeepsUptoCard : Claim7 := { stood := { row := inodeKeepsUptoRow, standIns := [], harness := (true, "c5b70d94f6940fd2658de557f3723cf78995b9c412920ad32dd0ac938df69492"), looks := false }, kinds := [], alts := [], laidByText := true, laidKinds := [.data], laidTests := true, laidLooks := .later }
def InodeKeepsUptoCardSaid : Prop := Claim7.holds Tryz.pinned (.plain (OpenSpec.upto inodeKeepsSpec)) inodeKeepsUptoCard
end Rows
end Go.Proofs.YtokngjcfkkceiaaGreatDoor
