/-
  DERIVED. GIVEN WITH THE SEED: THE CARDS: each row of YtefkclbaflkheaaGreatDoorRows.lean that lists a variable, with what it lists TIED to the program's text (the seventh form; the later family's looks); each row that meets fmt, with fmt's text TOLD by the authors' own Lean function (tested against real Go, not proved from fmt's source: count such statements apart). THE CARD IS WHAT COUNTS. Prove the row's statement (the work); the ties are given (YtefkclbaflkheaaGreatDoorTie.lean); close each card by the builder's one call (the guide's Derived/Test/ToyasCard.lean, 'card_holds'). Laid BY PROGRAM, IN A SANDBOX (cutbox-door.mjs). By AI agents, Wed Nov 11 2026. No macro, syntax, notation, axiom, sorry.
-/
import Derived.Test.YtefkclbaflkheaaGreatDoorRows
import GoSem.ClaimSeven
namespace Go.Proofs.YtefkclbaflkheaaGreatDoor
namespace Rows

/-- THE TIED CARD OF 'whittlelaw8.CodeFlattens'. -/
def codeFlattensCard : Claim7 := { stood := { row := codeFlattensRow, standIns := [], harness := (true, "62063a4b5c77ef78067099308491ba53fad3a265dcd4a156a49ac408d8e93315"), looks := false }, kinds := [], alts := [], laidByText := true, laidKinds := [.data, .data], laidTests := true, laidLooks := .later }
def CodeFlattensCardSaid : Prop := Claim7.holds Tryz.pinned (.plain (OpenSpec.ofChange codeFlattensSpec)) codeFlattensCard

/-- THE TIED CARD OF 'whittlelaw8.CodeChecks'. -/
def codeChecksCard : Claim7 := { stood := { row := codeChecksRow, standIns := [], harness := (true, "62063a4b5c77ef78067099308491ba53fad3a265dcd4a156a49ac408d8e93315"), looks := false }, kinds := [], alts := [], laidByText := true, laidKinds := [.data, .data], laidTests := true, laidLooks := .later }
def CodeChecksCardSaid : Prop := Claim7.holds Tryz.pinned (.plain (OpenSpec.ofChange codeChecksSpec)) codeChecksCard

/-- THE TIED CARD OF 'whittlelaw8.CodeAsks'. -/
def codeAsksCard : Claim7 := { stood := { row := codeAsksRow, standIns := [], harness := (true, "62063a4b5c77ef78067099308491ba53fad3a265dcd4a156a49ac408d8e93315"), looks := false }, kinds := [], alts := [], laidByText := true, laidKinds := [.data, .data], laidTests := true, laidLooks := .later }
def CodeAsksCardSaid : Prop := Claim7.holds Tryz.pinned (.plain (OpenSpec.ofChange codeAsksSpec)) codeAsksCard

/-- THE SECOND FORM's CARD OF 'whittlelaw8.CodeFlattens'. -/
def codeFlattensUptoCard : Claim7 := { stood := { row := codeFlattensUptoRow, standIns := [], harness := (true, "62063a4b5c77ef78067099308491ba53fad3a265dcd4a156a49ac408d8e93315"), looks := false }, kinds := [], alts := [], laidByText := true, laidKinds := [.data, .data], laidTests := true, laidLooks := .later }
def CodeFlattensUptoCardSaid : Prop := Claim7.holds Tryz.pinned (.plain (OpenSpec.upto codeFlattensSpec)) codeFlattensUptoCard

/-- THE SECOND FORM's CARD OF 'whittlelaw8.CodeChecks'. -/
def codeChecksUptoCard : Claim7 := { stood := { row := codeChecksUptoRow, standIns := [], harness := (true, "62063a4b5c77ef78067099308491ba53fad3a265dcd4a156a49ac408d8e93315"), looks := false }, kinds := [], alts := [], laidByText := true, laidKinds := [.data, .data], laidTests := true, laidLooks := .later }
def CodeChecksUptoCardSaid : Prop := Claim7.holds Tryz.pinned (.plain (OpenSpec.upto codeChecksSpec)) codeChecksUptoCard

/-- THE SECOND FORM's CARD OF 'whittlelaw8.CodeAsks'. -/
def codeAsksUptoCard : Claim7 := { stood := { row := codeAsksUptoRow, standIns := [], harness := (true, "62063a4b5c77ef78067099308491ba53fad3a265dcd4a156a49ac408d8e93315"), looks := false }, kinds := [], alts := [], laidByText := true, laidKinds := [.data, .data], laidTests := true, laidLooks := .later }
def CodeAsksUptoCardSaid : Prop := Claim7.holds Tryz.pinned (.plain (OpenSpec.upto codeAsksSpec)) codeAsksUptoCard
end Rows
end Go.Proofs.YtefkclbaflkheaaGreatDoor
