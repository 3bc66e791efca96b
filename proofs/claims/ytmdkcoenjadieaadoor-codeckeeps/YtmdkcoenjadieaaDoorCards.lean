/-
  DERIVED. GIVEN WITH THE SEED: THE CARDS: each row of YtmdkcoenjadieaaDoorRows.lean that lists a variable, with what it lists TIED to the program's text (the seventh form; the later family's looks); each row that meets fmt, with fmt's text TOLD by the authors' own Lean function (tested against real Go, not proved from fmt's source: count such statements apart). THE CARD IS WHAT COUNTS. Prove the row's statement (the work); the ties are given (YtmdkcoenjadieaaDoorTie.lean); close each card by the builder's one call (the guide's Derived/Test/ToyasCard.lean, 'card_holds'). Laid BY PROGRAM, IN A SANDBOX (cutbox-door.mjs). By AI agents, Wed Nov 11 2026. No macro, syntax, notation, axiom, sorry.
-/
import Derived.Test.YtmdkcoenjadieaaDoorRows
import GoSem.ClaimSeven
namespace Go.Proofs.YtmdkcoenjadieaaDoor
namespace Rows

/-- THE TIED CARD OF 'skerrylaw06.CodecHeads'. -/
def codecHeadsCard : Claim7 := { stood := { row := codecHeadsRow, standIns := [], harness := (true, "c0466b02ed612591edc6514246d5f08b278bd5baf813dd962af931bfeaecd8f8"), looks := false }, kinds := [], alts := [], laidByText := true, laidKinds := [.data], laidTests := true, laidLooks := .later }
def CodecHeadsCardSaid : Prop := Claim7.holds Tryd.pinned (.plain (OpenSpec.ofChange codecHeadsSpec)) codecHeadsCard

/-- THE TIED CARD OF 'skerrylaw06.CodecDescs'. -/
def codecDescsCard : Claim7 := { stood := { row := codecDescsRow, standIns := [], harness := (true, "c0466b02ed612591edc6514246d5f08b278bd5baf813dd962af931bfeaecd8f8"), looks := false }, kinds := [], alts := [], laidByText := true, laidKinds := [.data], laidTests := true, laidLooks := .later }
def CodecDescsCardSaid : Prop := Claim7.holds Tryd.pinned (.plain (OpenSpec.ofChange codecDescsSpec)) codecDescsCard

/-- THE TIED CARD OF 'skerrylaw06.CodecRecords'. -/
def codecRecordsCard : Claim7 := { stood := { row := codecRecordsRow, standIns := [], harness := (true, "c0466b02ed612591edc6514246d5f08b278bd5baf813dd962af931bfeaecd8f8"), looks := false }, kinds := [], alts := [], laidByText := true, laidKinds := [.data], laidTests := true, laidLooks := .later }
def CodecRecordsCardSaid : Prop := Claim7.holds Tryd.pinned (.plain (OpenSpec.ofChange codecRecordsSpec)) codecRecordsCard

/-- THE TIED CARD OF 'skerrylaw06.CodecBack'. -/
def codecBackCard : Claim7 := { stood := { row := codecBackRow, standIns := [], harness := (true, "c0466b02ed612591edc6514246d5f08b278bd5baf813dd962af931bfeaecd8f8"), looks := false }, kinds := [], alts := [], laidByText := true, laidKinds := [.data], laidTests := true, laidLooks := .later }
def CodecBackCardSaid : Prop := Claim7.holds Tryd.pinned (.plain (OpenSpec.ofChange codecBackSpec)) codecBackCard

/-- THE TIED CARD OF 'skerrylaw06.CodecKeeps'. -/
def codecKeepsCard : Claim7 := { stood := { row := codecKeepsRow, standIns := [], harness := (true, "c0466b02ed612591edc6514246d5f08b278bd5baf813dd962af931bfeaecd8f8"), looks := false }, kinds := [], alts := [], laidByText := true, laidKinds := [.data], laidTests := true, laidLooks := .later }
def CodecKeepsCardSaid : Prop := Claim7.holds Tryd.pinned (.plain (OpenSpec.ofChange codecKeepsSpec)) codecKeepsCard

/-- THE SECOND FORM's CARD OF 'skerrylaw06.CodecHeads'. -/
def codecHeadsUptoCard : Claim7 := { stood := { row := codecHeadsUptoRow, standIns := [], harness := (true, "c0466b02ed612591edc6514246d5f08b278bd5baf813dd962af931bfeaecd8f8"), looks := false }, kinds := [], alts := [], laidByText := true, laidKinds := [.data], laidTests := true, laidLooks := .later }
def CodecHeadsUptoCardSaid : Prop := Claim7.holds Tryd.pinned (.plain (OpenSpec.upto codecHeadsSpec)) codecHeadsUptoCard

/-- THE SECOND FORM's CARD OF 'skerrylaw06.CodecDescs'. -/
def codecDescsUptoCard : Claim7 := { stood := { row := codecDescsUptoRow, standIns := [], harness := (true, "c0466b02ed612591edc6514246d5f08b278bd5baf813dd962af931bfeaecd8f8"), looks := false }, kinds := [], alts := [], laidByText := true, laidKinds := [.data], laidTests := true, laidLooks := .later }
def CodecDescsUptoCardSaid : Prop := Claim7.holds Tryd.pinned (.plain (OpenSpec.upto codecDescsSpec)) codecDescsUptoCard

/-- THE SECOND FORM's CARD OF 'skerrylaw06.CodecRecords'. -/
def codecRecordsUptoCard : Claim7 := { stood := { row := codecRecordsUptoRow, standIns := [], harness := (true, "c0466b02ed612591edc6514246d5f08b278bd5baf813dd962af931bfeaecd8f8"), looks := false }, kinds := [], alts := [], laidByText := true, laidKinds := [.data], laidTests := true, laidLooks := .later }
def CodecRecordsUptoCardSaid : Prop := Claim7.holds Tryd.pinned (.plain (OpenSpec.upto codecRecordsSpec)) codecRecordsUptoCard

/-- THE SECOND FORM's CARD OF 'skerrylaw06.CodecBack'. -/
def codecBackUptoCard : Claim7 := { stood := { row := codecBackUptoRow, standIns := [], harness := (true, "c0466b02ed612591edc6514246d5f08b278bd5baf813dd962af931bfeaecd8f8"), looks := false }, kinds := [], alts := [], laidByText := true, laidKinds := [.data], laidTests := true, laidLooks := .later }
def CodecBackUptoCardSaid : Prop := Claim7.holds Tryd.pinned (.plain (OpenSpec.upto codecBackSpec)) codecBackUptoCard

/-- THE SECOND FORM's CARD OF 'skerrylaw06.CodecKeeps'. -/
def codecKeepsUptoCard : Claim7 := { stood := { row := codecKeepsUptoRow, standIns := [], harness := (true, "c0466b02ed612591edc6514246d5f08b278bd5baf813dd962af931bfeaecd8f8"), looks := false }, kinds := [], alts := [], laidByText := true, laidKinds := [.data], laidTests := true, laidLooks := .later }
def CodecKeepsUptoCardSaid : Prop := Claim7.holds Tryd.pinned (.plain (OpenSpec.upto codecKeepsSpec)) codecKeepsUptoCard
end Rows
end Go.Proofs.YtmdkcoenjadieaaDoor
