/-
  DERIVED. GIVEN WITH THE SEED: THE CARDS: each row of YtdjhegmkmopnfabDoorRows.lean that lists a variable, with what it lists TIED to the program's text (the seventh form; the later family's looks); each row that meets fmt, with fmt's text TOLD by the authors' own Lean function (tested against real Go, not proved from fmt's source: count such statements apart). THE CARD IS WHAT COUNTS. Prove the row's statement (the work); the ties are given (YtdjhegmkmopnfabDoorTie.lean); close each card by the builder's one call (the guide's Derived/Test/ToyasCard.lean, 'card_holds'). Laid BY PROGRAM, IN A SANDBOX (cutbox-door.mjs). By AI agents, Wed Nov 11 2026. No macro, syntax, notation, axiom, sorry.
-/
import Derived.Test.YtdjhegmkmopnfabDoorRows
import GoSem.ClaimSeven
namespace Go.Proofs.YtdjhegmkmopnfabDoor
namespace Rows

/-- THE TIED CARD OF 'whittlelaw3.PlaceBack'. -/
def placeBackCard : Claim7 := { stood := { row := placeBackRow, standIns := [], harness := (true, "3c4055bab4d0cb6fb521083e0da71649fefa1b0fdbf79320972e4a55a3b75cec"), looks := false }, kinds := [], alts := [], laidByText := true, laidKinds := [.data, .data, .data], laidTests := true, laidLooks := .later }
def PlaceBackCardSaid : Prop := Claim7.holds Tryd.pinned (.plain (OpenSpec.ofChange placeBackSpec)) placeBackCard

/-- THE TIED CARD OF 'whittlelaw3.PlaceCount'. -/
def placeCountCard : Claim7 := { stood := { row := placeCountRow, standIns := [], harness := (true, "3c4055bab4d0cb6fb521083e0da71649fefa1b0fdbf79320972e4a55a3b75cec"), looks := false }, kinds := [], alts := [], laidByText := true, laidKinds := [.data, .data, .data], laidTests := true, laidLooks := .later }
def PlaceCountCardSaid : Prop := Claim7.holds Tryd.pinned (.plain (OpenSpec.ofChange placeCountSpec)) placeCountCard

/-- THE TIED CARD OF 'whittlelaw3.PlaceMeets'. -/
def placeMeetsCard : Claim7 := { stood := { row := placeMeetsRow, standIns := [], harness := (true, "3c4055bab4d0cb6fb521083e0da71649fefa1b0fdbf79320972e4a55a3b75cec"), looks := false }, kinds := [], alts := [], laidByText := true, laidKinds := [.data, .data, .data], laidTests := true, laidLooks := .later }
def PlaceMeetsCardSaid : Prop := Claim7.holds Tryd.pinned (.plain (OpenSpec.ofChange placeMeetsSpec)) placeMeetsCard

/-- THE TIED CARD OF 'whittlelaw3.PlaceHold'. -/
def placeHoldCard : Claim7 := { stood := { row := placeHoldRow, standIns := [], harness := (true, "3c4055bab4d0cb6fb521083e0da71649fefa1b0fdbf79320972e4a55a3b75cec"), looks := false }, kinds := [], alts := [], laidByText := true, laidKinds := [.data, .data, .data], laidTests := true, laidLooks := .later }
def PlaceHoldCardSaid : Prop := Claim7.holds Tryd.pinned (.plain (OpenSpec.ofChange placeHoldSpec)) placeHoldCard

/-- THE TIED CARD OF 'whittlelaw3.PlaceOrder'. -/
def placeOrderCard : Claim7 := { stood := { row := placeOrderRow, standIns := [], harness := (true, "3c4055bab4d0cb6fb521083e0da71649fefa1b0fdbf79320972e4a55a3b75cec"), looks := false }, kinds := [], alts := [], laidByText := true, laidKinds := [.data, .data, .data], laidTests := true, laidLooks := .later }
def PlaceOrderCardSaid : Prop := Claim7.holds Tryd.pinned (.plain (OpenSpec.ofChange placeOrderSpec)) placeOrderCard

/-- THE TIED CARD OF 'whittlelaw3.PlaceThere'. -/
def placeThereCard : Claim7 := { stood := { row := placeThereRow, standIns := [], harness := (true, "3c4055bab4d0cb6fb521083e0da71649fefa1b0fdbf79320972e4a55a3b75cec"), looks := false }, kinds := [], alts := [], laidByText := true, laidKinds := [.data, .data, .data], laidTests := true, laidLooks := .later }
def PlaceThereCardSaid : Prop := Claim7.holds Tryd.pinned (.plain (OpenSpec.ofChange placeThereSpec)) placeThereCard

/-- THE SECOND FORM's CARD OF 'whittlelaw3.PlaceBack'. -/
def placeBackUptoCard : Claim7 := { stood := { row := placeBackUptoRow, standIns := [], harness := (true, "3c4055bab4d0cb6fb521083e0da71649fefa1b0fdbf79320972e4a55a3b75cec"), looks := false }, kinds := [], alts := [], laidByText := true, laidKinds := [.data, .data, .data], laidTests := true, laidLooks := .later }
def PlaceBackUptoCardSaid : Prop := Claim7.holds Tryd.pinned (.plain (OpenSpec.upto placeBackSpec)) placeBackUptoCard

/-- THE SECOND FORM's CARD OF 'whittlelaw3.PlaceCount'. -/
def placeCountUptoCard : Claim7 := { stood := { row := placeCountUptoRow, standIns := [], harness := (true, "3c4055bab4d0cb6fb521083e0da71649fefa1b0fdbf79320972e4a55a3b75cec"), looks := false }, kinds := [], alts := [], laidByText := true, laidKinds := [.data, .data, .data], laidTests := true, laidLooks := .later }
def PlaceCountUptoCardSaid : Prop := Claim7.holds Tryd.pinned (.plain (OpenSpec.upto placeCountSpec)) placeCountUptoCard

/-- THE SECOND FORM's CARD OF 'whittlelaw3.PlaceMeets'. -/
def placeMeetsUptoCard : Claim7 := { stood := { row := placeMeetsUptoRow, standIns := [], harness := (true, "3c4055bab4d0cb6fb521083e0da71649fefa1b0fdbf79320972e4a55a3b75cec"), looks := false }, kinds := [], alts := [], laidByText := true, laidKinds := [.data, .data, .data], laidTests := true, laidLooks := .later }
def PlaceMeetsUptoCardSaid : Prop := Claim7.holds Tryd.pinned (.plain (OpenSpec.upto placeMeetsSpec)) placeMeetsUptoCard

/-- THE SECOND FORM's CARD OF 'whittlelaw3.PlaceHold'. -/
def placeHoldUptoCard : Claim7 := { stood := { row := placeHoldUptoRow, standIns := [], harness := (true, "3c4055bab4d0cb6fb521083e0da71649fefa1b0fdbf79320972e4a55a3b75cec"), looks := false }, kinds := [], alts := [], laidByText := true, laidKinds := [.data, .data, .data], laidTests := true, laidLooks := .later }
def PlaceHoldUptoCardSaid : Prop := Claim7.holds Tryd.pinned (.plain (OpenSpec.upto placeHoldSpec)) placeHoldUptoCard

/-- THE SECOND FORM's CARD OF 'whittlelaw3.PlaceOrder'. -/
def placeOrderUptoCard : Claim7 := { stood := { row := placeOrderUptoRow, standIns := [], harness := (true, "3c4055bab4d0cb6fb521083e0da71649fefa1b0fdbf79320972e4a55a3b75cec"), looks := false }, kinds := [], alts := [], laidByText := true, laidKinds := [.data, .data, .data], laidTests := true, laidLooks := .later }
def PlaceOrderUptoCardSaid : Prop := Claim7.holds Tryd.pinned (.plain (OpenSpec.upto placeOrderSpec)) placeOrderUptoCard

/-- THE SECOND FORM's CARD OF 'whittlelaw3.PlaceThere'. -/
def placeThereUptoCard : Claim7 := { stood := { row := placeThereUptoRow, standIns := [], harness := (true, "3c4055bab4d0cb6fb521083e0da71649fefa1b0fdbf79320972e4a55a3b75cec"), looks := false }, kinds := [], alts := [], laidByText := true, laidKinds := [.data, .data, .data], laidTests := true, laidLooks := .later }
def PlaceThereUptoCardSaid : Prop := Claim7.holds Tryd.pinned (.plain (OpenSpec.upto placeThereSpec)) placeThereUptoCard
end Rows
end Go.Proofs.YtdjhegmkmopnfabDoor
