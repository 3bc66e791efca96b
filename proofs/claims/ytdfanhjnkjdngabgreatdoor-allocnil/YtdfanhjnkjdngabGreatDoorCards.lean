/-
  DERIVED. GIVEN WITH THE SEED: THE CARDS: each row of YtdfanhjnkjdngabGreatDoorRows.lean that lists a variable, with what it lists TIED to the program's text (the seventh form; the later family's looks); each row that meets fmt, with fmt's text TOLD by the authors' own Lean function (tested against real Go, not proved from fmt's source: count such statements apart). THE CARD IS WHAT COUNTS. Prove the row's statement (the work); the ties are given (YtdfanhjnkjdngabGreatDoorTie.lean); close each card by the builder's one call (the guide's Derived/Test/ToyasCard.lean, 'card_holds'). Laid BY PROGRAM, IN A SANDBOX (cutbox-door.mjs). By AI agents, Wed Nov 11 2026. No macro, syntax, notation, axiom, sorry.
-/
import Derived.Test.YtdfanhjnkjdngabGreatDoorRows
import GoSem.ClaimSeven
namespace Go.Proofs.YtdfanhjnkjdngabGreatDoor
namespace Rows

/-- THE TIED CARD OF 'skerrylaw12.AllocGives'. -/
def allocGivesCard : Claim7 := { stood := { row := allocGivesRow, standIns := [], harness := (true, "107314fd6da6c092dbab5fe145b36ef9808281212c1495a56f6c7a0d80c6383e"), looks := false }, kinds := [], alts := [], laidByText := true, laidKinds := [.data], laidTests := true, laidLooks := .later }
def AllocGivesCardSaid : Prop := Claim7.holds Tryz.pinned (.plain (OpenSpec.ofChange allocGivesSpec)) allocGivesCard

/-- THE TIED CARD OF 'skerrylaw12.AllocNil'. -/
def allocNilCard : Claim7 := { stood := { row := allocNilRow, standIns := [], harness := (true, "107314fd6da6c092dbab5fe145b36ef9808281212c1495a56f6c7a0d80c6383e"), looks := false }, kinds := [], alts := [], laidByText := true, laidKinds := [.data], laidTests := true, laidLooks := .later }
def AllocNilCardSaid : Prop := Claim7.holds Tryz.pinned (.plain (OpenSpec.ofChange allocNilSpec)) allocNilCard

/-- THE TIED CARD OF 'skerrylaw12.AllocKeeps'. -/
def allocKeepsCard : Claim7 := { stood := { row := allocKeepsRow, standIns := [], harness := (true, "107314fd6da6c092dbab5fe145b36ef9808281212c1495a56f6c7a0d80c6383e"), looks := false }, kinds := [], alts := [], laidByText := true, laidKinds := [.data], laidTests := true, laidLooks := .later }
def AllocKeepsCardSaid : Prop := Claim7.holds Tryz.pinned (.plain (OpenSpec.ofChange allocKeepsSpec)) allocKeepsCard

/-- THE SECOND FORM's CARD OF 'skerrylaw12.AllocGives'. -/
def allocGivesUptoCard : Claim7 := { stood := { row := allocGivesUptoRow, standIns := [], harness := (true, "107314fd6da6c092dbab5fe145b36ef9808281212c1495a56f6c7a0d80c6383e"), looks := false }, kinds := [], alts := [], laidByText := true, laidKinds := [.data], laidTests := true, laidLooks := .later }
def AllocGivesUptoCardSaid : Prop := Claim7.holds Tryz.pinned (.plain (OpenSpec.upto allocGivesSpec)) allocGivesUptoCard

/-- THE SECOND FORM's CARD OF 'skerrylaw12.AllocNil'. -/
def allocNilUptoCard : Claim7 := { stood := { row := allocNilUptoRow, standIns := [], harness := (true, "107314fd6da6c092dbab5fe145b36ef9808281212c1495a56f6c7a0d80c6383e"), looks := false }, kinds := [], alts := [], laidByText := true, laidKinds := [.data], laidTests := true, laidLooks := .later }
def AllocNilUptoCardSaid : Prop := Claim7.holds Tryz.pinned (.plain (OpenSpec.upto allocNilSpec)) allocNilUptoCard

/-- THE SECOND FORM's CARD OF 'skerrylaw12.AllocKeeps'. -/
def allocKeepsUptoCard : Claim7 := { stood := { row := allocKeepsUptoRow, standIns := [], harness := (true, "107314fd6da6c092dbab5fe145b36ef9808281212c1495a56f6c7a0d80c6383e"), looks := false }, kinds := [], alts := [], laidByText := true, laidKinds := [.data], laidTests := true, laidLooks := .later }
def AllocKeepsUptoCardSaid : Prop := Claim7.holds Tryz.pinned (.plain (OpenSpec.upto allocKeepsSpec)) allocKeepsUptoCard
end Rows
end Go.Proofs.YtdfanhjnkjdngabGreatDoor
