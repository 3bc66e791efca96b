/-
  DERIVED. GIVEN WITH THE SEED: THE CARDS: each row of YtefdkpbmeoakgaaGreatDoorRows.lean that lists a variable, with what it lists TIED to the program's text (the seventh form; the later family's looks); each row that meets fmt, with fmt's text TOLD by the authors' own Lean function (tested against real Go, not proved from fmt's source: count such statements apart). THE CARD IS WHAT COUNTS. Prove the row's statement (the work); the ties are given (YtefdkpbmeoakgaaGreatDoorTie.lean); close each card by the builder's one call (the guide's Derived/Test/ToyasCard.lean, 'card_holds'). Laid BY PROGRAM, IN A SANDBOX (cutbox-door.mjs). By AI agents, Wed Nov 11 2026. No macro, syntax, notation, axiom, sorry.
-/
import Derived.Test.YtefdkpbmeoakgaaGreatDoorRows
import GoSem.ClaimSeven
namespace Go.Proofs.YtefdkpbmeoakgaaGreatDoor
namespace Rows

/-- THE TIED CARD OF 'skerrylaw15.DirNone'. -/
def dirNoneCard : Claim7 := { stood := { row := dirNoneRow, standIns := [], harness := (true, "98d0c3934a9951a7f4305c319a0d76f8f969d30380d2b2b79ae9bc4819885ec4"), looks := false }, kinds := [], alts := [], laidByText := true, laidKinds := [.data], laidTests := true, laidLooks := .later }
def DirNoneCardSaid : Prop := Claim7.holds Tryz.pinned (.plain (OpenSpec.ofChange dirNoneSpec)) dirNoneCard

/-- THE SECOND FORM's CARD OF 'skerrylaw15.DirNone'. -/
def dirNoneUptoCard : Claim7 := { stood := { row := dirNoneUptoRow, standIns := [], harness := (true, "98d0c3934a9951a7f4305c319a0d76f8f969d30380d2b2b79ae9bc4819885ec4"), looks := false }, kinds := [], alts := [], laidByText := true, laidKinds := [.data], laidTests := true, laidLooks := .later }
def DirNoneUptoCardSaid : Prop := Claim7.holds Tryz.pinned (.plain (OpenSpec.upto dirNoneSpec)) dirNoneUptoCard
end Rows
end Go.Proofs.YtefdkpbmeoakgaaGreatDoor
