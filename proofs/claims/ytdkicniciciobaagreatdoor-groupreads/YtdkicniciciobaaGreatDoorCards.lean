/-
  DERIVED. GIVEN WITH THE SEED: THE CARDS: each row of YtdkicniciciobaaGreatDoorRows.lean that lists a variable, with what it lists TIED to the program's text (the seventh form; the later family's looks); each row that meets fmt, with fmt's text TOLD by the authors' own Lean function (tested against real Go, not proved from fmt's source: count such statements apart). THE CARD IS WHAT COUNTS. Prove the row's statement (the work); the ties are given (YtdkicniciciobaaGreatDoorTie.lean); close each card by the builder's one call (the guide's Derived/Test/ToyasCard.lean, 'card_holds'). Laid BY PROGRAM, IN A SANDBOX (cutbox-door.mjs). By AI agents, Wed Nov 11 2026. No macro, syntax, notation, axiom, sorry.
-/
import Derived.Test.YtdkicniciciobaaGreatDoorRows
import GoSem.ClaimSeven
namespace Go.Proofs.YtdkicniciciobaaGreatDoor
namespace Rows

/-- THE TIED CARD OF 'skerrylaw11.GroupScripts'. -/
def groupScriptsCard : Claim7 := { stood := { row := groupScriptsRow, standIns := [], harness := (true, "e29e713e5ad3d0f4f35576347f0a435f26bb8e6ca89f38d3b52042d2ec9cc1ad"), looks := false }, kinds := [], alts := [], laidByText := true, laidKinds := [.data], laidTests := true, laidLooks := .later }
def GroupScriptsCardSaid : Prop := Claim7.holds Tryz.pinned (.plain (OpenSpec.ofChange groupScriptsSpec)) groupScriptsCard

/-- THE TIED CARD OF 'skerrylaw11.GroupReads'. -/
def groupReadsCard : Claim7 := { stood := { row := groupReadsRow, standIns := [], harness := (true, "e29e713e5ad3d0f4f35576347f0a435f26bb8e6ca89f38d3b52042d2ec9cc1ad"), looks := false }, kinds := [], alts := [], laidByText := true, laidKinds := [.data], laidTests := true, laidLooks := .later }
def GroupReadsCardSaid : Prop := Claim7.holds Tryz.pinned (.plain (OpenSpec.ofChange groupReadsSpec)) groupReadsCard

/-- THE TIED CARD OF 'skerrylaw11.GroupCrashes'. -/
def groupCrashesCard : Claim7 := { stood := { row := groupCrashesRow, standIns := [], harness := (true, "e29e713e5ad3d0f4f35576347f0a435f26bb8e6ca89f38d3b52042d2ec9cc1ad"), looks := false }, kinds := [], alts := [], laidByText := true, laidKinds := [.data], laidTests := true, laidLooks := .later }
def GroupCrashesCardSaid : Prop := Claim7.holds Tryz.pinned (.plain (OpenSpec.ofChange groupCrashesSpec)) groupCrashesCard

/-- THE TIED CARD OF 'skerrylaw11.GroupNil'. -/
def groupNilCard : Claim7 := { stood := { row := groupNilRow, standIns := [], harness := (true, "e29e713e5ad3d0f4f35576347f0a435f26bb8e6ca89f38d3b52042d2ec9cc1ad"), looks := false }, kinds := [], alts := [], laidByText := true, laidKinds := [.data], laidTests := true, laidLooks := .later }
def GroupNilCardSaid : Prop := Claim7.holds Tryz.pinned (.plain (OpenSpec.ofChange groupNilSpec)) groupNilCard

/-- THE TIED CARD OF 'skerrylaw11.GroupKeeps'. -/
def groupKeepsCard : Claim7 := { stood := { row := groupKeepsRow, standIns := [], harness := (true, "e29e713e5ad3d0f4f35576347f0a435f26bb8e6ca89f38d3b52042d2ec9cc1ad"), looks := false }, kinds := [], alts := [], laidByText := true, laidKinds := [.data], laidTests := true, laidLooks := .later }
def GroupKeepsCardSaid : Prop := Claim7.holds Tryz.pinned (.plain (OpenSpec.ofChange groupKeepsSpec)) groupKeepsCard

/-- THE TIED CARD OF 'skerrylaw11.GroupArrives'. -/
def groupArrivesCard : Claim7 := { stood := { row := groupArrivesRow, standIns := [], harness := (true, "e29e713e5ad3d0f4f35576347f0a435f26bb8e6ca89f38d3b52042d2ec9cc1ad"), looks := false }, kinds := [], alts := [], laidByText := true, laidKinds := [.data], laidTests := true, laidLooks := .later }
def GroupArrivesCardSaid : Prop := Claim7.holds Tryz.pinned (.plain (OpenSpec.ofChange groupArrivesSpec)) groupArrivesCard

/-- THE SECOND FORM's CARD OF 'skerrylaw11.GroupScripts'. -/
def groupScriptsUptoCard : Claim7 := { stood := { row := groupScriptsUptoRow, standIns := [], harness := (true, "e29e713e5ad3d0f4f35576347f0a435f26bb8e6ca89f38d3b52042d2ec9cc1ad"), looks := false }, kinds := [], alts := [], laidByText := true, laidKinds := [.data], laidTests := true, laidLooks := .later }
def GroupScriptsUptoCardSaid : Prop := Claim7.holds Tryz.pinned (.plain (OpenSpec.upto groupScriptsSpec)) groupScriptsUptoCard

/-- THE SECOND FORM's CARD OF 'skerrylaw11.GroupReads'. -/
def groupReadsUptoCard : Claim7 := { stood := { row := groupReadsUptoRow, standIns := [], harness := (true, "e29e713e5ad3d0f4f35576347f0a435f26bb8e6ca89f38d3b52042d2ec9cc1ad"), looks := false }, kinds := [], alts := [], laidByText := true, laidKinds := [.data], laidTests := true, laidLooks := .later }
def GroupReadsUptoCardSaid : Prop := Claim7.holds Tryz.pinned (.plain (OpenSpec.upto groupReadsSpec)) groupReadsUptoCard

/-- THE SECOND FORM's CARD OF 'skerrylaw11.GroupCrashes'. -/
def groupCrashesUptoCard : Claim7 := { stood := { row := groupCrashesUptoRow, standIns := [], harness := (true, "e29e713e5ad3d0f4f35576347f0a435f26bb8e6ca89f38d3b52042d2ec9cc1ad"), looks := false }, kinds := [], alts := [], laidByText := true, laidKinds := [.data], laidTests := true, laidLooks := .later }
def GroupCrashesUptoCardSaid : Prop := Claim7.holds Tryz.pinned (.plain (OpenSpec.upto groupCrashesSpec)) groupCrashesUptoCard

/-- THE SECOND FORM's CARD OF 'skerrylaw11.GroupNil'. -/
def groupNilUptoCard : Claim7 := { stood := { row := groupNilUptoRow, standIns := [], harness := (true, "e29e713e5ad3d0f4f35576347f0a435f26bb8e6ca89f38d3b52042d2ec9cc1ad"), looks := false }, kinds := [], alts := [], laidByText := true, laidKinds := [.data], laidTests := true, laidLooks := .later }
def GroupNilUptoCardSaid : Prop := Claim7.holds Tryz.pinned (.plain (OpenSpec.upto groupNilSpec)) groupNilUptoCard

/-- THE SECOND FORM's CARD OF 'skerrylaw11.GroupKeeps'. -/
def groupKeepsUptoCard : Claim7 := { stood := { row := groupKeepsUptoRow, standIns := [], harness := (true, "e29e713e5ad3d0f4f35576347f0a435f26bb8e6ca89f38d3b52042d2ec9cc1ad"), looks := false }, kinds := [], alts := [], laidByText := true, laidKinds := [.data], laidTests := true, laidLooks := .later }
def GroupKeepsUptoCardSaid : Prop := Claim7.holds Tryz.pinned (.plain (OpenSpec.upto groupKeepsSpec)) groupKeepsUptoCard

/-- THE SECOND FORM's CARD OF 'skerrylaw11.GroupArrives'. -/
def groupArrivesUptoCard : Claim7 := { stood := { row := groupArrivesUptoRow, standIns := [], harness := (true, "e29e713e5ad3d0f4f35576347f0a435f26bb8e6ca89f38d3b52042d2ec9cc1ad"), looks := false }, kinds := [], alts := [], laidByText := true, laidKinds := [.data], laidTests := true, laidLooks := .later }
def GroupArrivesUptoCardSaid : Prop := Claim7.holds Tryz.pinned (.plain (OpenSpec.upto groupArrivesSpec)) groupArrivesUptoCard
end Rows
end Go.Proofs.YtdkicniciciobaaGreatDoor
