/-
  DERIVED. GIVEN WITH THE SEED: THE CARDS: each row of YtloponhikiddmaaGreatDoorRows.lean that lists a variable, with what it lists TIED to the program's text (the seventh form; the later family's looks); each row that meets fmt, with fmt's text TOLD by the authors' own Lean function (tested against real Go, not proved from fmt's source: count such statements apart). THE CARD IS WHAT COUNTS. Prove the row's statement (the work); the ties are given (YtloponhikiddmaaGreatDoorTie.lean); close each card by the builder's one call (the guide's Derived/Test/ToyasCard.lean, 'card_holds'). Laid BY PROGRAM, IN A SANDBOX (cutbox-door.mjs). By AI agents, Wed Nov 11 2026. No macro, syntax, notation, axiom, sorry.
-/
import Derived.Test.YtloponhikiddmaaGreatDoorRows
import GoSem.ClaimSeven
namespace Go.Proofs.YtloponhikiddmaaGreatDoor
namespace Rows

/-- THE TIED CARD OF 'whittlelaw11.BookKeeps'. -/
def bookKeepsCard : Claim7 := { stood := { row := bookKeepsRow, standIns := [], harness := (true, "b26ef98bbf3da4facaf9e171c6ef73d89f487a43771a874ecb1e2a92bbacf6a7"), looks := true }, kinds := [], alts := [], laidByText := true, laidKinds := [.data, .data, .data, .data, .data, .data, .data, .pinned], laidTests := true, laidLooks := .later }
def BookKeepsCardSaid : Prop := Claim7.holds Tryz.pinned (.plain (OpenSpec.ofChange bookKeepsSpec)) bookKeepsCard

/-- THE TIED CARD OF 'whittlelaw11.BookParts'. -/
def bookPartsCard : Claim7 := { stood := { row := bookPartsRow, standIns := [], harness := (true, "b26ef98bbf3da4facaf9e171c6ef73d89f487a43771a874ecb1e2a92bbacf6a7"), looks := true }, kinds := [], alts := [], laidByText := true, laidKinds := [.data, .data, .data, .data, .data, .data, .data, .pinned], laidTests := true, laidLooks := .later }
def BookPartsCardSaid : Prop := Claim7.holds Tryz.pinned (.plain (OpenSpec.ofChange bookPartsSpec)) bookPartsCard

/-- THE TIED CARD OF 'whittlelaw11.BookLays'. -/
def bookLaysCard : Claim7 := { stood := { row := bookLaysRow, standIns := [], harness := (true, "b26ef98bbf3da4facaf9e171c6ef73d89f487a43771a874ecb1e2a92bbacf6a7"), looks := true }, kinds := [], alts := [], laidByText := true, laidKinds := [.data, .data, .data, .data, .data, .data, .data, .pinned], laidTests := true, laidLooks := .later }
def BookLaysCardSaid : Prop := Claim7.holds Tryz.pinned (.plain (OpenSpec.ofChange bookLaysSpec)) bookLaysCard

/-- THE SECOND FORM's CARD OF 'whittlelaw11.BookKeeps'. -/
def bookKeepsUptoCard : Claim7 := { stood := { row := bookKeepsUptoRow, standIns := [], harness := (true, "b26ef98bbf3da4facaf9e171c6ef73d89f487a43771a874ecb1e2a92bbacf6a7"), looks := true }, kinds := [], alts := [], laidByText := true, laidKinds := [.data, .data, .data, .data, .data, .data, .data, .pinned], laidTests := true, laidLooks := .later }
def BookKeepsUptoCardSaid : Prop := Claim7.holds Tryz.pinned (.plain (OpenSpec.upto bookKeepsSpec)) bookKeepsUptoCard

/-- THE SECOND FORM's CARD OF 'whittlelaw11.BookParts'. -/
def bookPartsUptoCard : Claim7 := { stood := { row := bookPartsUptoRow, standIns := [], harness := (true, "b26ef98bbf3da4facaf9e171c6ef73d89f487a43771a874ecb1e2a92bbacf6a7"), looks := true }, kinds := [], alts := [], laidByText := true, laidKinds := [.data, .data, .data, .data, .data, .data, .data, .pinned], laidTests := true, laidLooks := .later }
def BookPartsUptoCardSaid : Prop := Claim7.holds Tryz.pinned (.plain (OpenSpec.upto bookPartsSpec)) bookPartsUptoCard

/-- THE SECOND FORM's CARD OF 'whittlelaw11.BookLays'. -/
def bookLaysUptoCard : Claim7 := { stood := { row := bookLaysUptoRow, standIns := [], harness := (true, "b26ef98bbf3da4facaf9e171c6ef73d89f487a43771a874ecb1e2a92bbacf6a7"), looks := true }, kinds := [], alts := [], laidByText := true, laidKinds := [.data, .data, .data, .data, .data, .data, .data, .pinned], laidTests := true, laidLooks := .later }
def BookLaysUptoCardSaid : Prop := Claim7.holds Tryz.pinned (.plain (OpenSpec.upto bookLaysSpec)) bookLaysUptoCard
end Rows
end Go.Proofs.YtloponhikiddmaaGreatDoor
