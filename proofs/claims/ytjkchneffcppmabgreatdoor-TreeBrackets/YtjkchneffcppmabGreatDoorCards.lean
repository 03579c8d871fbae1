/-
  DERIVED. GIVEN WITH THE SEED: THE CARDS: each row of YtjkchneffcppmabGreatDoorRows.lean that lists a variable, with what it lists TIED to the program's text (the seventh form; the later family's looks); each row that meets fmt, with fmt's text TOLD by the authors' own Lean function (tested against real Go, not proved from fmt's source: count such statements apart). THE CARD IS WHAT COUNTS. Prove the row's statement (the work); the ties are given (YtjkchneffcppmabGreatDoorTie.lean); close each card by the builder's one call (the guide's Derived/Test/ToyasCard.lean, 'card_holds'). Laid BY PROGRAM, IN A SANDBOX (cutbox-door.mjs). By AI agents, Wed Nov 11 2026. No macro, syntax, notation, axiom, sorry.
-/
import Derived.Test.YtjkchneffcppmabGreatDoorRows
import GoSem.ClaimSeven
namespace Go.Proofs.YtjkchneffcppmabGreatDoor
namespace Rows

/-- THE TIED CARD OF 'whittlelaw5.TreeBrackets'. -/
def treeBracketsCard : Claim7 := { stood := { row := treeBracketsRow, standIns := [], harness := (true, "54df494aec59295a24c6fbf8f9fe08fa758558afdf93ec3f587136bddf84b2ed"), looks := true }, kinds := [], alts := [], laidByText := true, laidKinds := [.data, .data, .data, .data, .data, .data, .pinned], laidTests := true, laidLooks := .later }
def TreeBracketsCardSaid : Prop := Claim7.holds Tryz.pinned (.plain (OpenSpec.ofChange treeBracketsSpec)) treeBracketsCard

/-- THE TIED CARD OF 'whittlelaw5.TreeJoined'. -/
def treeJoinedCard : Claim7 := { stood := { row := treeJoinedRow, standIns := [], harness := (true, "54df494aec59295a24c6fbf8f9fe08fa758558afdf93ec3f587136bddf84b2ed"), looks := true }, kinds := [], alts := [], laidByText := true, laidKinds := [.data, .data, .data, .data, .data, .data, .pinned], laidTests := true, laidLooks := .later }
def TreeJoinedCardSaid : Prop := Claim7.holds Tryz.pinned (.plain (OpenSpec.ofChange treeJoinedSpec)) treeJoinedCard

/-- THE TIED CARD OF 'whittlelaw5.TreeNeeded'. -/
def treeNeededCard : Claim7 := { stood := { row := treeNeededRow, standIns := [], harness := (true, "54df494aec59295a24c6fbf8f9fe08fa758558afdf93ec3f587136bddf84b2ed"), looks := true }, kinds := [], alts := [], laidByText := true, laidKinds := [.data, .data, .data, .data, .data, .data, .pinned], laidTests := true, laidLooks := .later }
def TreeNeededCardSaid : Prop := Claim7.holds Tryz.pinned (.plain (OpenSpec.ofChange treeNeededSpec)) treeNeededCard

/-- THE TIED CARD OF 'whittlelaw5.TreeParts'. -/
def treePartsCard : Claim7 := { stood := { row := treePartsRow, standIns := [], harness := (true, "54df494aec59295a24c6fbf8f9fe08fa758558afdf93ec3f587136bddf84b2ed"), looks := true }, kinds := [], alts := [], laidByText := true, laidKinds := [.data, .data, .data, .data, .data, .data, .pinned], laidTests := true, laidLooks := .later }
def TreePartsCardSaid : Prop := Claim7.holds Tryz.pinned (.plain (OpenSpec.ofChange treePartsSpec)) treePartsCard

/-- THE SECOND FORM's CARD OF 'whittlelaw5.TreeBrackets'. -/
def treeBracketsUptoCard : Claim7 := { stood := { row := treeBracketsUptoRow, standIns := [], harness := (true, "54df494aec59295a24c6fbf8f9fe08fa758558afdf93ec3f587136bddf84b2ed"), looks := true }, kinds := [], alts := [], laidByText := true, laidKinds := [.data, .data, .data, .data, .data, .data, .pinned], laidTests := true, laidLooks := .later }
def TreeBracketsUptoCardSaid : Prop := Claim7.holds Tryz.pinned (.plain (OpenSpec.upto treeBracketsSpec)) treeBracketsUptoCard

/-- THE SECOND FORM's CARD OF 'whittlelaw5.TreeJoined'. -/
def treeJoinedUptoCard : Claim7 := { stood := { row := treeJoinedUptoRow, standIns := [], harness := (true, "54df494aec59295a24c6fbf8f9fe08fa758558afdf93ec3f587136bddf84b2ed"), looks := true }, kinds := [], alts := [], laidByText := true, laidKinds := [.data, .data, .data, .data, .data, .data, .pinned], laidTests := true, laidLooks := .later }
def TreeJoinedUptoCardSaid : Prop := Claim7.holds Tryz.pinned (.plain (OpenSpec.upto treeJoinedSpec)) treeJoinedUptoCard

/-- THE SECOND FORM's CARD OF 'whittlelaw5.TreeNeeded'. -/
def treeNeededUptoCard : Claim7 := { stood := { row := treeNeededUptoRow, standIns := [], harness := (true, "54df494aec59295a24c6fbf8f9fe08fa758558afdf93ec3f587136bddf84b2ed"), looks := true }, kinds := [], alts := [], laidByText := true, laidKinds := [.data, .data, .data, .data, .data, .data, .pinned], laidTests := true, laidLooks := .later }
def TreeNeededUptoCardSaid : Prop := Claim7.holds Tryz.pinned (.plain (OpenSpec.upto treeNeededSpec)) treeNeededUptoCard

/-- THE SECOND FORM's CARD OF 'whittlelaw5.TreeParts'. -/
def treePartsUptoCard : Claim7 := { stood := { row := treePartsUptoRow, standIns := [], harness := (true, "54df494aec59295a24c6fbf8f9fe08fa758558afdf93ec3f587136bddf84b2ed"), looks := true }, kinds := [], alts := [], laidByText := true, laidKinds := [.data, .data, .data, .data, .data, .data, .pinned], laidTests := true, laidLooks := .later }
def TreePartsUptoCardSaid : Prop := Claim7.holds Tryz.pinned (.plain (OpenSpec.upto treePartsSpec)) treePartsUptoCard
end Rows
end Go.Proofs.YtjkchneffcppmabGreatDoor
