/-
  DERIVED. GIVEN WITH THE SEED: THE CARDS: each row of YtdfanhjnkjdngaaGreatDoorRows.lean that lists a variable, with what it lists TIED to the program's text (the seventh form; the later family's looks); each row that meets fmt, with fmt's text TOLD by the authors' own Lean function (tested against real Go, not proved from fmt's source: count such statements apart). THE CARD IS WHAT COUNTS. Prove the row's statement (the work); the ties are given (YtdfanhjnkjdngaaGreatDoorTie.lean); close each card by the builder's one call (the guide's Derived/Test/ToyasCard.lean, 'card_holds'). Laid BY PROGRAM, IN A SANDBOX (cutbox-door.mjs). By AI agents, Wed Nov 11 2026. No macro, syntax, notation, axiom, sorry.
-/
import Derived.Test.YtdfanhjnkjdngaaGreatDoorRows
import GoSem.ClaimSeven
namespace Go.Proofs.YtdfanhjnkjdngaaGreatDoor
namespace Rows

/-- THE TIED CARD OF 'skerrylaw09.WalScripts'. -/
def walScriptsCard : Claim7 := { stood := { row := walScriptsRow, standIns := [], harness := (true, "84a6bde0d86e894f4a534739fea4e7b7f312edbbfdb0932144d71b6b854c0c32"), looks := false }, kinds := [], alts := [], laidByText := true, laidKinds := [.data], laidTests := true, laidLooks := .later }
def WalScriptsCardSaid : Prop := Claim7.holds Tryz.pinned (.plain (OpenSpec.ofChange walScriptsSpec)) walScriptsCard

/-- THE TIED CARD OF 'skerrylaw11.GroupScripts'. -/
def groupScriptsCard : Claim7 := { stood := { row := groupScriptsRow, standIns := [], harness := (true, "84a6bde0d86e894f4a534739fea4e7b7f312edbbfdb0932144d71b6b854c0c32"), looks := false }, kinds := [], alts := [], laidByText := true, laidKinds := [.data], laidTests := true, laidLooks := .later }
def GroupScriptsCardSaid : Prop := Claim7.holds Tryz.pinned (.plain (OpenSpec.ofChange groupScriptsSpec)) groupScriptsCard

/-- THE TIED CARD OF 'skerrylaw11.GroupCrashes'. -/
def groupCrashesCard : Claim7 := { stood := { row := groupCrashesRow, standIns := [], harness := (true, "84a6bde0d86e894f4a534739fea4e7b7f312edbbfdb0932144d71b6b854c0c32"), looks := false }, kinds := [], alts := [], laidByText := true, laidKinds := [.data], laidTests := true, laidLooks := .later }
def GroupCrashesCardSaid : Prop := Claim7.holds Tryz.pinned (.plain (OpenSpec.ofChange groupCrashesSpec)) groupCrashesCard

/-- THE TIED CARD OF 'skerrylaw11.GroupArrives'. -/
def groupArrivesCard : Claim7 := { stood := { row := groupArrivesRow, standIns := [], harness := (true, "84a6bde0d86e894f4a534739fea4e7b7f312edbbfdb0932144d71b6b854c0c32"), looks := false }, kinds := [], alts := [], laidByText := true, laidKinds := [.data], laidTests := true, laidLooks := .later }
def GroupArrivesCardSaid : Prop := Claim7.holds Tryz.pinned (.plain (OpenSpec.ofChange groupArrivesSpec)) groupArrivesCard

/-- THE TIED CARD OF 'skerrylaw12.AllocScripts'. -/
def allocScriptsCard : Claim7 := { stood := { row := allocScriptsRow, standIns := [], harness := (true, "84a6bde0d86e894f4a534739fea4e7b7f312edbbfdb0932144d71b6b854c0c32"), looks := false }, kinds := [], alts := [], laidByText := true, laidKinds := [.data], laidTests := true, laidLooks := .later }
def AllocScriptsCardSaid : Prop := Claim7.holds Tryz.pinned (.plain (OpenSpec.ofChange allocScriptsSpec)) allocScriptsCard

/-- THE TIED CARD OF 'skerrylaw12.AllocTakes'. -/
def allocTakesCard : Claim7 := { stood := { row := allocTakesRow, standIns := [], harness := (true, "84a6bde0d86e894f4a534739fea4e7b7f312edbbfdb0932144d71b6b854c0c32"), looks := false }, kinds := [], alts := [], laidByText := true, laidKinds := [.data], laidTests := true, laidLooks := .later }
def AllocTakesCardSaid : Prop := Claim7.holds Tryz.pinned (.plain (OpenSpec.ofChange allocTakesSpec)) allocTakesCard

/-- THE SECOND FORM's CARD OF 'skerrylaw09.WalScripts'. -/
def walScriptsUptoCard : Claim7 := { stood := { row := walScriptsUptoRow, standIns := [], harness := (true, "84a6bde0d86e894f4a534739fea4e7b7f312edbbfdb0932144d71b6b854c0c32"), looks := false }, kinds := [], alts := [], laidByText := true, laidKinds := [.data], laidTests := true, laidLooks := .later }
def WalScriptsUptoCardSaid : Prop := Claim7.holds Tryz.pinned (.plain (OpenSpec.upto walScriptsSpec)) walScriptsUptoCard

/-- THE SECOND FORM's CARD OF 'skerrylaw11.GroupScripts'. -/
def groupScriptsUptoCard : Claim7 := { stood := { row := groupScriptsUptoRow, standIns := [], harness := (true, "84a6bde0d86e894f4a534739fea4e7b7f312edbbfdb0932144d71b6b854c0c32"), looks := false }, kinds := [], alts := [], laidByText := true, laidKinds := [.data], laidTests := true, laidLooks := .later }
def GroupScriptsUptoCardSaid : Prop := Claim7.holds Tryz.pinned (.plain (OpenSpec.upto groupScriptsSpec)) groupScriptsUptoCard

/-- THE SECOND FORM's CARD OF 'skerrylaw11.GroupCrashes'. -/
def groupCrashesUptoCard : Claim7 := { stood := { row := groupCrashesUptoRow, standIns := [], harness := (true, "84a6bde0d86e894f4a534739fea4e7b7f312edbbfdb0932144d71b6b854c0c32"), looks := false }, kinds := [], alts := [], laidByText := true, laidKinds := [.data], laidTests := true, laidLooks := .later }
def GroupCrashesUptoCardSaid : Prop := Claim7.holds Tryz.pinned (.plain (OpenSpec.upto groupCrashesSpec)) groupCrashesUptoCard

/-- THE SECOND FORM's CARD OF 'skerrylaw11.GroupArrives'. -/
def groupArrivesUptoCard : Claim7 := { stood := { row := groupArrivesUptoRow, standIns := [], harness := (true, "84a6bde0d86e894f4a534739fea4e7b7f312edbbfdb0932144d71b6b854c0c32"), looks := false }, kinds := [], alts := [], laidByText := true, laidKinds := [.data], laidTests := true, laidLooks := .later }
def GroupArrivesUptoCardSaid : Prop := Claim7.holds Tryz.pinned (.plain (OpenSpec.upto groupArrivesSpec)) groupArrivesUptoCard

/-- THE SECOND FORM's CARD OF 'skerrylaw12.AllocScripts'. -/
def allocScriptsUptoCard : Claim7 := { stood := { row := allocScriptsUptoRow, standIns := [], harness := (true, "84a6bde0d86e894f4a534739fea4e7b7f312edbbfdb0932144d71b6b854c0c32"), looks := false }, kinds := [], alts := [], laidByText := true, laidKinds := [.data], laidTests := true, laidLooks := .later }
def AllocScriptsUptoCardSaid : Prop := Claim7.holds Tryz.pinned (.plain (OpenSpec.upto allocScriptsSpec)) allocScriptsUptoCard

/-- THE SECOND FORM's CARD OF 'skerrylaw12.AllocTakes'. -/
def allocTakesUptoCard : Claim7 := { stood := { row := allocTakesUptoRow, standIns := [], harness := (true, "84a6bde0d86e894f4a534739fea4e7b7f312edbbfdb0932144d71b6b854c0c32"), looks := false }, kinds := [], alts := [], laidByText := true, laidKinds := [.data], laidTests := true, laidLooks := .later }
def AllocTakesUptoCardSaid : Prop := Claim7.holds Tryz.pinned (.plain (OpenSpec.upto allocTakesSpec)) allocTakesUptoCard
end Rows
end Go.Proofs.YtdfanhjnkjdngaaGreatDoor
