/-
  DERIVED. GIVEN WITH THE SEED: THE CARDS: each row of YtedifblompcdkaaGreatDoorRows.lean that lists a variable, with what it lists TIED to the program's text (the seventh form; the later family's looks); each row that meets fmt, with fmt's text TOLD by the authors' own Lean function (tested against real Go, not proved from fmt's source: count such statements apart). THE CARD IS WHAT COUNTS. Prove the row's statement (the work); the ties are given (YtedifblompcdkaaGreatDoorTie.lean); close each card by the builder's one call (the guide's Derived/Test/ToyasCard.lean, 'card_holds'). Laid BY PROGRAM, IN A SANDBOX (cutbox-door.mjs). By AI agents, Wed Nov 11 2026. No macro, syntax, notation, axiom, sorry.
-/
import Derived.Test.YtedifblompcdkaaGreatDoorRows
import GoSem.ClaimSeven
namespace Go.Proofs.YtedifblompcdkaaGreatDoor
namespace Rows

/-- THE TIED CARD OF 'whittlelaw11.BookKinds'. -/
def bookKindsCard : Claim7 := { stood := { row := bookKindsRow, standIns := [], harness := (true, "7b040fcc10ea11f011dec9acfeeae5dcf12e43542bc146bff5e36dfd8ee54594"), looks := true }, kinds := [], alts := [], laidByText := true, laidKinds := [.data, .data, .data, .data, .data, .data, .data, .pinned], laidTests := true, laidLooks := .later }
def BookKindsCardSaid : Prop := Claim7.holds Tryz.pinned (.plain (OpenSpec.ofChange bookKindsSpec)) bookKindsCard

/-- THE SECOND FORM's CARD OF 'whittlelaw11.BookKinds'. -/
def bookKindsUptoCard : Claim7 := { stood := { row := bookKindsUptoRow, standIns := [], harness := (true, "7b040fcc10ea11f011dec9acfeeae5dcf12e43542bc146bff5e36dfd8ee54594"), looks := true }, kinds := [], alts := [], laidByText := true, laidKinds := [.data, .data, .data, .data, .data, .data, .data, .pinned], laidTests := true, laidLooks := .later }
def BookKindsUptoCardSaid : Prop := Claim7.holds Tryz.pinned (.plain (OpenSpec.upto bookKindsSpec)) bookKindsUptoCard
end Rows
end Go.Proofs.YtedifblompcdkaaGreatDoor
