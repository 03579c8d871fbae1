/-
  DERIVED. GIVEN WITH THE SEED: THE CARDS: each row of YtalkiggclckcdaaGreatDoorRows.lean that lists a variable, with what it lists TIED to the program's text (the seventh form; the later family's looks); each row that meets fmt, with fmt's text TOLD by the authors' own Lean function (tested against real Go, not proved from fmt's source: count such statements apart). THE CARD IS WHAT COUNTS. Prove the row's statement (the work); the ties are given (YtalkiggclckcdaaGreatDoorTie.lean); close each card by the builder's one call (the guide's Derived/Test/ToyasCard.lean, 'card_holds'). Laid BY PROGRAM, IN A SANDBOX (cutbox-door.mjs). By AI agents, Wed Nov 11 2026. No macro, syntax, notation, axiom, sorry.
-/
import Derived.Test.YtalkiggclckcdaaGreatDoorRows
import GoSem.ClaimSeven
namespace Go.Proofs.YtalkiggclckcdaaGreatDoor
namespace Rows

/-- THE TIED CARD OF 'whittlelaw6.MoveThere'. -/
def moveThereCard : Claim7 := { stood := { row := moveThereRow, standIns := [], harness := (true, "4869dee143958ca7787a65aab7be6ffa7e80056515aa401c89434bb0312c6455"), looks := true }, kinds := [], alts := [], laidByText := true, laidKinds := [.data, .data, .data, .data, .data, .data, .pinned], laidTests := true, laidLooks := .later }
def MoveThereCardSaid : Prop := Claim7.holds Tryz.pinned (.plain (OpenSpec.ofChange moveThereSpec)) moveThereCard

/-- THE TIED CARD OF 'whittlelaw6.MoveTwice'. -/
def moveTwiceCard : Claim7 := { stood := { row := moveTwiceRow, standIns := [], harness := (true, "4869dee143958ca7787a65aab7be6ffa7e80056515aa401c89434bb0312c6455"), looks := true }, kinds := [], alts := [], laidByText := true, laidKinds := [.data, .data, .data, .data, .data, .data, .pinned], laidTests := true, laidLooks := .later }
def MoveTwiceCardSaid : Prop := Claim7.holds Tryz.pinned (.plain (OpenSpec.ofChange moveTwiceSpec)) moveTwiceCard

/-- THE TIED CARD OF 'whittlelaw6.MoveRefs'. -/
def moveRefsCard : Claim7 := { stood := { row := moveRefsRow, standIns := [], harness := (true, "4869dee143958ca7787a65aab7be6ffa7e80056515aa401c89434bb0312c6455"), looks := true }, kinds := [], alts := [], laidByText := true, laidKinds := [.data, .data, .data, .data, .data, .data, .pinned], laidTests := true, laidLooks := .later }
def MoveRefsCardSaid : Prop := Claim7.holds Tryz.pinned (.plain (OpenSpec.ofChange moveRefsSpec)) moveRefsCard

/-- THE TIED CARD OF 'whittlelaw6.MoveTexts'. -/
def moveTextsCard : Claim7 := { stood := { row := moveTextsRow, standIns := [], harness := (true, "4869dee143958ca7787a65aab7be6ffa7e80056515aa401c89434bb0312c6455"), looks := true }, kinds := [], alts := [], laidByText := true, laidKinds := [.data, .data, .data, .data, .data, .data, .pinned], laidTests := true, laidLooks := .later }
def MoveTextsCardSaid : Prop := Claim7.holds Tryz.pinned (.plain (OpenSpec.ofChange moveTextsSpec)) moveTextsCard

/-- THE TIED CARD OF 'whittlelaw6.MoveEach'. -/
def moveEachCard : Claim7 := { stood := { row := moveEachRow, standIns := [], harness := (true, "4869dee143958ca7787a65aab7be6ffa7e80056515aa401c89434bb0312c6455"), looks := true }, kinds := [], alts := [], laidByText := true, laidKinds := [.data, .data, .data, .data, .data, .data, .pinned], laidTests := true, laidLooks := .later }
def MoveEachCardSaid : Prop := Claim7.holds Tryz.pinned (.plain (OpenSpec.ofChange moveEachSpec)) moveEachCard

/-- THE SECOND FORM's CARD OF 'whittlelaw6.MoveThere'. -/
def moveThereUptoCard : Claim7 := { stood := { row := moveThereUptoRow, standIns := [], harness := (true, "4869dee143958ca7787a65aab7be6ffa7e80056515aa401c89434bb0312c6455"), looks := true }, kinds := [], alts := [], laidByText := true, laidKinds := [.data, .data, .data, .data, .data, .data, .pinned], laidTests := true, laidLooks := .later }
def MoveThereUptoCardSaid : Prop := Claim7.holds Tryz.pinned (.plain (OpenSpec.upto moveThereSpec)) moveThereUptoCard

/-- THE SECOND FORM's CARD OF 'whittlelaw6.MoveTwice'. -/
def moveTwiceUptoCard : Claim7 := { stood := { row := moveTwiceUptoRow, standIns := [], harness := (true, "4869dee143958ca7787a65aab7be6ffa7e80056515aa401c89434bb0312c6455"), looks := true }, kinds := [], alts := [], laidByText := true, laidKinds := [.data, .data, .data, .data, .data, .data, .pinned], laidTests := true, laidLooks := .later }
def MoveTwiceUptoCardSaid : Prop := Claim7.holds Tryz.pinned (.plain (OpenSpec.upto moveTwiceSpec)) moveTwiceUptoCard

/-- THE SECOND FORM's CARD OF 'whittlelaw6.MoveRefs'. -/
def moveRefsUptoCard : Claim7 := { stood := { row := moveRefsUptoRow, standIns := [], harness := (true, "4869dee143958ca7787a65aab7be6ffa7e80056515aa401c89434bb0312c6455"), looks := true }, kinds := [], alts := [], laidByText := true, laidKinds := [.data, .data, .data, .data, .data, .data, .pinned], laidTests := true, laidLooks := .later }
def MoveRefsUptoCardSaid : Prop := Claim7.holds Tryz.pinned (.plain (OpenSpec.upto moveRefsSpec)) moveRefsUptoCard

/-- THE SECOND FORM's CARD OF 'whittlelaw6.MoveTexts'. -/
def moveTextsUptoCard : Claim7 := { stood := { row := moveTextsUptoRow, standIns := [], harness := (true, "4869dee143958ca7787a65aab7be6ffa7e80056515aa401c89434bb0312c6455"), looks := true }, kinds := [], alts := [], laidByText := true, laidKinds := [.data, .data, .data, .data, .data, .data, .pinned], laidTests := true, laidLooks := .later }
def MoveTextsUptoCardSaid : Prop := Claim7.holds Tryz.pinned (.plain (OpenSpec.upto moveTextsSpec)) moveTextsUptoCard

/-- THE SECOND FORM's CARD OF 'whittlelaw6.MoveEach'. -/
def moveEachUptoCard : Claim7 := { stood := { row := moveEachUptoRow, standIns := [], harness := (true, "4869dee143958ca7787a65aab7be6ffa7e80056515aa401c89434bb0312c6455"), looks := true }, kinds := [], alts := [], laidByText := true, laidKinds := [.data, .data, .data, .data, .data, .data, .pinned], laidTests := true, laidLooks := .later }
def MoveEachUptoCardSaid : Prop := Claim7.holds Tryz.pinned (.plain (OpenSpec.upto moveEachSpec)) moveEachUptoCard
end Rows
end Go.Proofs.YtalkiggclckcdaaGreatDoor
