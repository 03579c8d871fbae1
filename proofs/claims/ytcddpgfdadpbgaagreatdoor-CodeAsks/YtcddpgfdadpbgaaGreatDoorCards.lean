/-
  DERIVED. GIVEN WITH THE SEED: THE CARDS: each row of YtcddpgfdadpbgaaGreatDoorRows.lean that lists a variable, with what it lists TIED to the program's text (the seventh form; the later family's looks); each row that meets fmt, with fmt's text TOLD by the authors' own Lean function (tested against real Go, not proved from fmt's source: count such statements apart). THE CARD IS WHAT COUNTS. Prove the row's statement (the work); the ties are given (YtcddpgfdadpbgaaGreatDoorTie.lean); close each card by the builder's one call (the guide's Derived/Test/ToyasCard.lean, 'card_holds'). Laid BY PROGRAM, IN A SANDBOX (cutbox-door.mjs). By AI agents, Wed Nov 11 2026. No macro, syntax, notation, axiom, sorry.
-/
import Derived.Test.YtcddpgfdadpbgaaGreatDoorRows
import GoSem.ClaimSeven
namespace Go.Proofs.YtcddpgfdadpbgaaGreatDoor
namespace Rows

/-- THE TIED CARD OF 'whittlelaw8.CodeChecks'. -/
def codeChecksCard : Claim7 := { stood := { row := codeChecksRow, standIns := [], harness := (true, "0946120e5d8c18fd0a3b81e4b719097b1cd93cfb788eb9c4e0b1185b292e3e46"), looks := false }, kinds := [], alts := [], laidByText := true, laidKinds := [.data, .data], laidTests := true, laidLooks := .later }
def CodeChecksCardSaid : Prop := Claim7.holds Tryz.pinned (.plain (OpenSpec.ofChange codeChecksSpec)) codeChecksCard

/-- THE TIED CARD OF 'whittlelaw8.CodeAsks'. -/
def codeAsksCard : Claim7 := { stood := { row := codeAsksRow, standIns := [], harness := (true, "0946120e5d8c18fd0a3b81e4b719097b1cd93cfb788eb9c4e0b1185b292e3e46"), looks := false }, kinds := [], alts := [], laidByText := true, laidKinds := [.data, .data], laidTests := true, laidLooks := .later }
def CodeAsksCardSaid : Prop := Claim7.holds Tryz.pinned (.plain (OpenSpec.ofChange codeAsksSpec)) codeAsksCard

/-- THE SECOND FORM's CARD OF 'whittlelaw8.CodeChecks'. -/
def codeChecksUptoCard : Claim7 := { stood := { row := codeChecksUptoRow, standIns := [], harness := (true, "0946120e5d8c18fd0a3b81e4b719097b1cd93cfb788eb9c4e0b1185b292e3e46"), looks := false }, kinds := [], alts := [], laidByText := true, laidKinds := [.data, .data], laidTests := true, laidLooks := .later }
def CodeChecksUptoCardSaid : Prop := Claim7.holds Tryz.pinned (.plain (OpenSpec.upto codeChecksSpec)) codeChecksUptoCard

/-- THE SECOND FORM's CARD OF 'whittlelaw8.CodeAsks'. -/
def codeAsksUptoCard : Claim7 := { stood := { row := codeAsksUptoRow, standIns := [], harness := (true, "0946120e5d8c18fd0a3b81e4b719097b1cd93cfb788eb9c4e0b1185b292e3e46"), looks := false }, kinds := [], alts := [], laidByText := true, laidKinds := [.data, .data], laidTests := true, laidLooks := .later }
def CodeAsksUptoCardSaid : Prop := Claim7.holds Tryz.pinned (.plain (OpenSpec.upto codeAsksSpec)) codeAsksUptoCard
end Rows
end Go.Proofs.YtcddpgfdadpbgaaGreatDoor
