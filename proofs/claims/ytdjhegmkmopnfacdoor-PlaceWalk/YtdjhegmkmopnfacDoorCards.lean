/-
  DERIVED. GIVEN WITH THE SEED: THE CARDS: each row of YtdjhegmkmopnfacDoorRows.lean that lists a variable, with what it lists TIED to the program's text (the seventh form; the later family's looks); each row that meets fmt, with fmt's text TOLD by the authors' own Lean function (tested against real Go, not proved from fmt's source: count such statements apart). THE CARD IS WHAT COUNTS. Prove the row's statement (the work); the ties are given (YtdjhegmkmopnfacDoorTie.lean); close each card by the builder's one call (the guide's Derived/Test/ToyasCard.lean, 'card_holds'). Laid BY PROGRAM, IN A SANDBOX (cutbox-door.mjs). By AI agents, Wed Nov 11 2026. No macro, syntax, notation, axiom, sorry.
-/
import Derived.Test.YtdjhegmkmopnfacDoorRows
import GoSem.ClaimSeven
namespace Go.Proofs.YtdjhegmkmopnfacDoor
namespace Rows

/-- THE TIED CARD OF 'whittlelaw3.PlaceWalk'. -/
def placeWalkCard : Claim7 := { stood := { row := placeWalkRow, standIns := [], harness := (true, "1f81613d2ce67f3938d484862b9856a04adece3957cbc81988cbc36b0cdb8001"), looks := false }, kinds := [], alts := [], laidByText := true, laidKinds := [.data, .data, .data], laidTests := true, laidLooks := .later }
def PlaceWalkCardSaid : Prop := Claim7.holds Tryd.pinned (.plain (OpenSpec.ofChange placeWalkSpec)) placeWalkCard

/-- THE SECOND FORM's CARD OF 'whittlelaw3.PlaceWalk'. -/
def placeWalkUptoCard : Claim7 := { stood := { row := placeWalkUptoRow, standIns := [], harness := (true, "1f81613d2ce67f3938d484862b9856a04adece3957cbc81988cbc36b0cdb8001"), looks := false }, kinds := [], alts := [], laidByText := true, laidKinds := [.data, .data, .data], laidTests := true, laidLooks := .later }
def PlaceWalkUptoCardSaid : Prop := Claim7.holds Tryd.pinned (.plain (OpenSpec.upto placeWalkSpec)) placeWalkUptoCard
end Rows
end Go.Proofs.YtdjhegmkmopnfacDoor
