/-
  DERIVED. GIVEN WITH THE SEED: THE CARDS: each row of YtfilmomndhlmbabDoorRows.lean that lists a variable, with what it lists TIED to the program's text (the seventh form; the later family's looks); each row that meets fmt, with fmt's text TOLD by the authors' own Lean function (tested against real Go, not proved from fmt's source: count such statements apart). THE CARD IS WHAT COUNTS. Prove the row's statement (the work); the ties are given (YtfilmomndhlmbabDoorTie.lean); close each card by the builder's one call (the guide's Derived/Test/ToyasCard.lean, 'card_holds'). Laid BY PROGRAM, IN A SANDBOX (cutbox-door.mjs). By AI agents, Wed Nov 11 2026. No macro, syntax, notation, axiom, sorry.
-/
import Derived.Test.YtfilmomndhlmbabDoorRows
import GoSem.ClaimSeven
namespace Go.Proofs.YtfilmomndhlmbabDoor
namespace Rows

/-- THE TIED CARD OF 'whittlelaw1.NumTexts'. -/
def numTextsCard : Claim7 := { stood := { row := numTextsRow, standIns := [], harness := (true, "85c7da9e718ca5c6aebb76b6b7280925a197b8f016ceba99db43fd74d1866251"), looks := false }, kinds := [], alts := [], laidByText := true, laidKinds := [.data, .data, .data], laidTests := true, laidLooks := .later }
def NumTextsCardSaid : Prop := Claim7.holds Tryd.pinned (.plain (OpenSpec.ofChange numTextsSpec)) numTextsCard

/-- THE TIED CARD OF 'whittlelaw1.NumReads'. -/
def numReadsCard : Claim7 := { stood := { row := numReadsRow, standIns := [], harness := (true, "85c7da9e718ca5c6aebb76b6b7280925a197b8f016ceba99db43fd74d1866251"), looks := false }, kinds := [], alts := [], laidByText := true, laidKinds := [.data, .data, .data], laidTests := true, laidLooks := .later }
def NumReadsCardSaid : Prop := Claim7.holds Tryd.pinned (.plain (OpenSpec.ofChange numReadsSpec)) numReadsCard

/-- THE TIED CARD OF 'whittlelaw1.NumWritten'. -/
def numWrittenCard : Claim7 := { stood := { row := numWrittenRow, standIns := [], harness := (true, "85c7da9e718ca5c6aebb76b6b7280925a197b8f016ceba99db43fd74d1866251"), looks := false }, kinds := [], alts := [], laidByText := true, laidKinds := [.data, .data, .data], laidTests := true, laidLooks := .later }
def NumWrittenCardSaid : Prop := Claim7.holds Tryd.pinned (.plain (OpenSpec.ofChange numWrittenSpec)) numWrittenCard

/-- THE SECOND FORM's CARD OF 'whittlelaw1.NumTexts'. -/
def numTextsUptoCard : Claim7 := { stood := { row := numTextsUptoRow, standIns := [], harness := (true, "85c7da9e718ca5c6aebb76b6b7280925a197b8f016ceba99db43fd74d1866251"), looks := false }, kinds := [], alts := [], laidByText := true, laidKinds := [.data, .data, .data], laidTests := true, laidLooks := .later }
def NumTextsUptoCardSaid : Prop := Claim7.holds Tryd.pinned (.plain (OpenSpec.upto numTextsSpec)) numTextsUptoCard

/-- THE SECOND FORM's CARD OF 'whittlelaw1.NumReads'. -/
def numReadsUptoCard : Claim7 := { stood := { row := numReadsUptoRow, standIns := [], harness := (true, "85c7da9e718ca5c6aebb76b6b7280925a197b8f016ceba99db43fd74d1866251"), looks := false }, kinds := [], alts := [], laidByText := true, laidKinds := [.data, .data, .data], laidTests := true, laidLooks := .later }
def NumReadsUptoCardSaid : Prop := Claim7.holds Tryd.pinned (.plain (OpenSpec.upto numReadsSpec)) numReadsUptoCard

/-- THE SECOND FORM's CARD OF 'whittlelaw1.NumWritten'. -/
def numWrittenUptoCard : Claim7 := { stood := { row := numWrittenUptoRow, standIns := [], harness := (true, "85c7da9e718ca5c6aebb76b6b7280925a197b8f016ceba99db43fd74d1866251"), looks := false }, kinds := [], alts := [], laidByText := true, laidKinds := [.data, .data, .data], laidTests := true, laidLooks := .later }
def NumWrittenUptoCardSaid : Prop := Claim7.holds Tryd.pinned (.plain (OpenSpec.upto numWrittenSpec)) numWrittenUptoCard
end Rows
end Go.Proofs.YtfilmomndhlmbabDoor
