/-
  DERIVED. GIVEN WITH THE SEED: THE CARDS: each row of YtdjhegmkmopnfaaDoorRows.lean that lists a variable, with what it lists TIED to the program's text (the seventh form; the later family's looks); each row that meets fmt, with fmt's text TOLD by the authors' own Lean function (tested against real Go, not proved from fmt's source: count such statements apart). THE CARD IS WHAT COUNTS. Prove the row's statement (the work); the ties are given (YtdjhegmkmopnfaaDoorTie.lean); close each card by the builder's one call (the guide's Derived/Test/ToyasCard.lean, 'card_holds'). Laid BY PROGRAM, IN A SANDBOX (cutbox-door.mjs). By AI agents, Wed Nov 11 2026. No macro, syntax, notation, axiom, sorry.
-/
import Derived.Test.YtdjhegmkmopnfaaDoorRows
import GoSem.ClaimSeven
namespace Go.Proofs.YtdjhegmkmopnfaaDoor
namespace Rows

/-- THE TIED CARD OF 'whittlelaw3.PlaceNames'. -/
def placeNamesCard : Claim7 := { stood := { row := placeNamesRow, standIns := [], harness := (true, "5bde1ac1adfaee23599f4da371cdaa8a8a4e15b5886b9f7c7d0c1f619ff7cf0e"), looks := false }, kinds := [], alts := [], laidByText := true, laidKinds := [.data, .data, .data], laidTests := true, laidLooks := .later }
def PlaceNamesCardSaid : Prop := Claim7.holds Tryd.pinned (.plain (OpenSpec.ofChange placeNamesSpec)) placeNamesCard

/-- THE TIED CARD OF 'whittlelaw3.PlaceReads'. -/
def placeReadsCard : Claim7 := { stood := { row := placeReadsRow, standIns := [], harness := (true, "5bde1ac1adfaee23599f4da371cdaa8a8a4e15b5886b9f7c7d0c1f619ff7cf0e"), looks := false }, kinds := [], alts := [], laidByText := true, laidKinds := [.data, .data, .data], laidTests := true, laidLooks := .later }
def PlaceReadsCardSaid : Prop := Claim7.holds Tryd.pinned (.plain (OpenSpec.ofChange placeReadsSpec)) placeReadsCard

/-- THE TIED CARD OF 'whittlelaw3.PlaceAreas'. -/
def placeAreasCard : Claim7 := { stood := { row := placeAreasRow, standIns := [], harness := (true, "5bde1ac1adfaee23599f4da371cdaa8a8a4e15b5886b9f7c7d0c1f619ff7cf0e"), looks := false }, kinds := [], alts := [], laidByText := true, laidKinds := [.data, .data, .data], laidTests := true, laidLooks := .later }
def PlaceAreasCardSaid : Prop := Claim7.holds Tryd.pinned (.plain (OpenSpec.ofChange placeAreasSpec)) placeAreasCard

/-- THE TIED CARD OF 'whittlelaw3.PlaceHulls'. -/
def placeHullsCard : Claim7 := { stood := { row := placeHullsRow, standIns := [], harness := (true, "5bde1ac1adfaee23599f4da371cdaa8a8a4e15b5886b9f7c7d0c1f619ff7cf0e"), looks := false }, kinds := [], alts := [], laidByText := true, laidKinds := [.data, .data, .data], laidTests := true, laidLooks := .later }
def PlaceHullsCardSaid : Prop := Claim7.holds Tryd.pinned (.plain (OpenSpec.ofChange placeHullsSpec)) placeHullsCard

/-- THE TIED CARD OF 'whittlelaw3.PlaceShifts'. -/
def placeShiftsCard : Claim7 := { stood := { row := placeShiftsRow, standIns := [], harness := (true, "5bde1ac1adfaee23599f4da371cdaa8a8a4e15b5886b9f7c7d0c1f619ff7cf0e"), looks := false }, kinds := [], alts := [], laidByText := true, laidKinds := [.data, .data, .data], laidTests := true, laidLooks := .later }
def PlaceShiftsCardSaid : Prop := Claim7.holds Tryd.pinned (.plain (OpenSpec.ofChange placeShiftsSpec)) placeShiftsCard

/-- THE TIED CARD OF 'whittlelaw3.PlaceCursors'. -/
def placeCursorsCard : Claim7 := { stood := { row := placeCursorsRow, standIns := [], harness := (true, "5bde1ac1adfaee23599f4da371cdaa8a8a4e15b5886b9f7c7d0c1f619ff7cf0e"), looks := false }, kinds := [], alts := [], laidByText := true, laidKinds := [.data, .data, .data], laidTests := true, laidLooks := .later }
def PlaceCursorsCardSaid : Prop := Claim7.holds Tryd.pinned (.plain (OpenSpec.ofChange placeCursorsSpec)) placeCursorsCard

/-- THE SECOND FORM's CARD OF 'whittlelaw3.PlaceNames'. -/
def placeNamesUptoCard : Claim7 := { stood := { row := placeNamesUptoRow, standIns := [], harness := (true, "5bde1ac1adfaee23599f4da371cdaa8a8a4e15b5886b9f7c7d0c1f619ff7cf0e"), looks := false }, kinds := [], alts := [], laidByText := true, laidKinds := [.data, .data, .data], laidTests := true, laidLooks := .later }
def PlaceNamesUptoCardSaid : Prop := Claim7.holds Tryd.pinned (.plain (OpenSpec.upto placeNamesSpec)) placeNamesUptoCard

/-- THE SECOND FORM's CARD OF 'whittlelaw3.PlaceReads'. -/
def placeReadsUptoCard : Claim7 := { stood := { row := placeReadsUptoRow, standIns := [], harness := (true, "5bde1ac1adfaee23599f4da371cdaa8a8a4e15b5886b9f7c7d0c1f619ff7cf0e"), looks := false }, kinds := [], alts := [], laidByText := true, laidKinds := [.data, .data, .data], laidTests := true, laidLooks := .later }
def PlaceReadsUptoCardSaid : Prop := Claim7.holds Tryd.pinned (.plain (OpenSpec.upto placeReadsSpec)) placeReadsUptoCard

/-- THE SECOND FORM's CARD OF 'whittlelaw3.PlaceAreas'. -/
def placeAreasUptoCard : Claim7 := { stood := { row := placeAreasUptoRow, standIns := [], harness := (true, "5bde1ac1adfaee23599f4da371cdaa8a8a4e15b5886b9f7c7d0c1f619ff7cf0e"), looks := false }, kinds := [], alts := [], laidByText := true, laidKinds := [.data, .data, .data], laidTests := true, laidLooks := .later }
def PlaceAreasUptoCardSaid : Prop := Claim7.holds Tryd.pinned (.plain (OpenSpec.upto placeAreasSpec)) placeAreasUptoCard

/-- THE SECOND FORM's CARD OF 'whittlelaw3.PlaceHulls'. -/
def placeHullsUptoCard : Claim7 := { stood := { row := placeHullsUptoRow, standIns := [], harness := (true, "5bde1ac1adfaee23599f4da371cdaa8a8a4e15b5886b9f7c7d0c1f619ff7cf0e"), looks := false }, kinds := [], alts := [], laidByText := true, laidKinds := [.data, .data, .data], laidTests := true, laidLooks := .later }
def PlaceHullsUptoCardSaid : Prop := Claim7.holds Tryd.pinned (.plain (OpenSpec.upto placeHullsSpec)) placeHullsUptoCard

/-- THE SECOND FORM's CARD OF 'whittlelaw3.PlaceShifts'. -/
def placeShiftsUptoCard : Claim7 := { stood := { row := placeShiftsUptoRow, standIns := [], harness := (true, "5bde1ac1adfaee23599f4da371cdaa8a8a4e15b5886b9f7c7d0c1f619ff7cf0e"), looks := false }, kinds := [], alts := [], laidByText := true, laidKinds := [.data, .data, .data], laidTests := true, laidLooks := .later }
def PlaceShiftsUptoCardSaid : Prop := Claim7.holds Tryd.pinned (.plain (OpenSpec.upto placeShiftsSpec)) placeShiftsUptoCard

/-- THE SECOND FORM's CARD OF 'whittlelaw3.PlaceCursors'. -/
def placeCursorsUptoCard : Claim7 := { stood := { row := placeCursorsUptoRow, standIns := [], harness := (true, "5bde1ac1adfaee23599f4da371cdaa8a8a4e15b5886b9f7c7d0c1f619ff7cf0e"), looks := false }, kinds := [], alts := [], laidByText := true, laidKinds := [.data, .data, .data], laidTests := true, laidLooks := .later }
def PlaceCursorsUptoCardSaid : Prop := Claim7.holds Tryd.pinned (.plain (OpenSpec.upto placeCursorsSpec)) placeCursorsUptoCard
end Rows
end Go.Proofs.YtdjhegmkmopnfaaDoor
