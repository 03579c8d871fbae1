/-
  DERIVED. GIVEN WITH THE SEED: THE CARDS: each row of YtdghjlmnlodnlaaGreatDoorRows.lean that lists a variable, with what it lists TIED to the program's text (the seventh form; the later family's looks); each row that meets fmt, with fmt's text TOLD by the authors' own Lean function (tested against real Go, not proved from fmt's source: count such statements apart). THE CARD IS WHAT COUNTS. Prove the row's statement (the work); the ties are given (YtdghjlmnlodnlaaGreatDoorTie.lean); close each card by the builder's one call (the guide's Derived/Test/ToyasCard.lean, 'card_holds'). Laid BY PROGRAM, IN A SANDBOX (cutbox-door.mjs). By AI agents, Wed Nov 11 2026. No macro, syntax, notation, axiom, sorry.
-/
import Derived.Test.YtdghjlmnlodnlaaGreatDoorRows
import GoSem.ClaimSeven
namespace Go.Proofs.YtdghjlmnlodnlaaGreatDoor
namespace Rows

/-- THE TIED CARD OF 'whittlelaw6.MoveShifts'. -/
def moveShiftsCard : Claim7 := { stood := { row := moveShiftsRow, standIns := [], harness := (true, "1d68e141d5e583b9c60dd2b7394b70e82680e3a821295001e206220b4e50aa6f"), looks := true }, kinds := [], alts := [], laidByText := true, laidKinds := [.data, .data, .data, .data, .data, .data, .pinned], laidTests := true, laidLooks := .later }
def MoveShiftsCardSaid : Prop := Claim7.holds Tryz.pinned (.plain (OpenSpec.ofChange moveShiftsSpec)) moveShiftsCard

/-- THE TIED CARD OF 'whittlelaw6.MoveCopies'. -/
def moveCopiesCard : Claim7 := { stood := { row := moveCopiesRow, standIns := [], harness := (true, "1d68e141d5e583b9c60dd2b7394b70e82680e3a821295001e206220b4e50aa6f"), looks := true }, kinds := [], alts := [], laidByText := true, laidKinds := [.data, .data, .data, .data, .data, .data, .pinned], laidTests := true, laidLooks := .later }
def MoveCopiesCardSaid : Prop := Claim7.holds Tryz.pinned (.plain (OpenSpec.ofChange moveCopiesSpec)) moveCopiesCard

/-- THE TIED CARD OF 'whittlelaw6.MoveFills'. -/
def moveFillsCard : Claim7 := { stood := { row := moveFillsRow, standIns := [], harness := (true, "1d68e141d5e583b9c60dd2b7394b70e82680e3a821295001e206220b4e50aa6f"), looks := true }, kinds := [], alts := [], laidByText := true, laidKinds := [.data, .data, .data, .data, .data, .data, .pinned], laidTests := true, laidLooks := .later }
def MoveFillsCardSaid : Prop := Claim7.holds Tryz.pinned (.plain (OpenSpec.ofChange moveFillsSpec)) moveFillsCard

/-- THE SECOND FORM's CARD OF 'whittlelaw6.MoveShifts'. -/
def moveShiftsUptoCard : Claim7 := { stood := { row := moveShiftsUptoRow, standIns := [], harness := (true, "1d68e141d5e583b9c60dd2b7394b70e82680e3a821295001e206220b4e50aa6f"), looks := true }, kinds := [], alts := [], laidByText := true, laidKinds := [.data, .data, .data, .data, .data, .data, .pinned], laidTests := true, laidLooks := .later }
def MoveShiftsUptoCardSaid : Prop := Claim7.holds Tryz.pinned (.plain (OpenSpec.upto moveShiftsSpec)) moveShiftsUptoCard

/-- THE SECOND FORM's CARD OF 'whittlelaw6.MoveCopies'. -/
def moveCopiesUptoCard : Claim7 := { stood := { row := moveCopiesUptoRow, standIns := [], harness := (true, "1d68e141d5e583b9c60dd2b7394b70e82680e3a821295001e206220b4e50aa6f"), looks := true }, kinds := [], alts := [], laidByText := true, laidKinds := [.data, .data, .data, .data, .data, .data, .pinned], laidTests := true, laidLooks := .later }
def MoveCopiesUptoCardSaid : Prop := Claim7.holds Tryz.pinned (.plain (OpenSpec.upto moveCopiesSpec)) moveCopiesUptoCard

/-- THE SECOND FORM's CARD OF 'whittlelaw6.MoveFills'. -/
def moveFillsUptoCard : Claim7 := { stood := { row := moveFillsUptoRow, standIns := [], harness := (true, "1d68e141d5e583b9c60dd2b7394b70e82680e3a821295001e206220b4e50aa6f"), looks := true }, kinds := [], alts := [], laidByText := true, laidKinds := [.data, .data, .data, .data, .data, .data, .pinned], laidTests := true, laidLooks := .later }
def MoveFillsUptoCardSaid : Prop := Claim7.holds Tryz.pinned (.plain (OpenSpec.upto moveFillsSpec)) moveFillsUptoCard
end Rows
end Go.Proofs.YtdghjlmnlodnlaaGreatDoor
