/-
  DERIVED. GIVEN WITH THE SEED: THE CARDS: each row of YtlpgfigbpjpdhaaGreatDoorRows.lean that lists a variable, with what it lists TIED to the program's text (the seventh form; the later family's looks); each row that meets fmt, with fmt's text TOLD by the authors' own Lean function (tested against real Go, not proved from fmt's source: count such statements apart). THE CARD IS WHAT COUNTS. Prove the row's statement (the work); the ties are given (YtlpgfigbpjpdhaaGreatDoorTie.lean); close each card by the builder's one call (the guide's Derived/Test/ToyasCard.lean, 'card_holds'). Laid BY PROGRAM, IN A SANDBOX (cutbox-door.mjs). By AI agents, Wed Nov 11 2026. No macro, syntax, notation, axiom, sorry.
-/
import Derived.Test.YtlpgfigbpjpdhaaGreatDoorRows
import GoSem.ClaimSeven
namespace Go.Proofs.YtlpgfigbpjpdhaaGreatDoor
namespace Rows

/-- THE TIED CARD OF 'skerrylaw14.FileHoles'. -/
def fileHolesCard : Claim7 := { stood := { row := fileHolesRow, standIns := [], harness := (true, "b15e22c4b25d0ff341ffa67ca9a1c61942a8016db34facd9369aa78d73d67cd5"), looks := false }, kinds := [], alts := [], laidByText := true, laidKinds := [.data], laidTests := true, laidLooks := .later }
def FileHolesCardSaid : Prop := Claim7.holds Tryz.pinned (.plain (OpenSpec.ofChange fileHolesSpec)) fileHolesCard

/-- THE TIED CARD OF 'skerrylaw14.FileNone'. -/
def fileNoneCard : Claim7 := { stood := { row := fileNoneRow, standIns := [], harness := (true, "b15e22c4b25d0ff341ffa67ca9a1c61942a8016db34facd9369aa78d73d67cd5"), looks := false }, kinds := [], alts := [], laidByText := true, laidKinds := [.data], laidTests := true, laidLooks := .later }
def FileNoneCardSaid : Prop := Claim7.holds Tryz.pinned (.plain (OpenSpec.ofChange fileNoneSpec)) fileNoneCard

/-- THE TIED CARD OF 'skerrylaw14.FileKeeps'. -/
def fileKeepsCard : Claim7 := { stood := { row := fileKeepsRow, standIns := [], harness := (true, "b15e22c4b25d0ff341ffa67ca9a1c61942a8016db34facd9369aa78d73d67cd5"), looks := false }, kinds := [], alts := [], laidByText := true, laidKinds := [.data], laidTests := true, laidLooks := .later }
def FileKeepsCardSaid : Prop := Claim7.holds Tryz.pinned (.plain (OpenSpec.ofChange fileKeepsSpec)) fileKeepsCard

/-- THE SECOND FORM's CARD OF 'skerrylaw14.FileHoles'. -/
def fileHolesUptoCard : Claim7 := { stood := { row := fileHolesUptoRow, standIns := [], harness := (true, "b15e22c4b25d0ff341ffa67ca9a1c61942a8016db34facd9369aa78d73d67cd5"), looks := false }, kinds := [], alts := [], laidByText := true, laidKinds := [.data], laidTests := true, laidLooks := .later }
def FileHolesUptoCardSaid : Prop := Claim7.holds Tryz.pinned (.plain (OpenSpec.upto fileHolesSpec)) fileHolesUptoCard

/-- THE SECOND FORM's CARD OF 'skerrylaw14.FileNone'. -/
def fileNoneUptoCard : Claim7 := { stood := { row := fileNoneUptoRow, standIns := [], harness := (true, "b15e22c4b25d0ff341ffa67ca9a1c61942a8016db34facd9369aa78d73d67cd5"), looks := false }, kinds := [], alts := [], laidByText := true, laidKinds := [.data], laidTests := true, laidLooks := .later }
def FileNoneUptoCardSaid : Prop := Claim7.holds Tryz.pinned (.plain (OpenSpec.upto fileNoneSpec)) fileNoneUptoCard

/-- THE SECOND FORM's CARD OF 'skerrylaw14.FileKeeps'. -/
def fileKeepsUptoCard : Claim7 := { stood := { row := fileKeepsUptoRow, standIns := [], harness := (true, "b15e22c4b25d0ff341ffa67ca9a1c61942a8016db34facd9369aa78d73d67cd5"), looks := false }, kinds := [], alts := [], laidByText := true, laidKinds := [.data], laidTests := true, laidLooks := .later }
def FileKeepsUptoCardSaid : Prop := Claim7.holds Tryz.pinned (.plain (OpenSpec.upto fileKeepsSpec)) fileKeepsUptoCard
end Rows
end Go.Proofs.YtlpgfigbpjpdhaaGreatDoor
