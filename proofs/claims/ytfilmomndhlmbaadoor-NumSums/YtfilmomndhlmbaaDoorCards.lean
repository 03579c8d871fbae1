/-
  DERIVED. GIVEN WITH THE SEED: THE CARDS: each row of YtfilmomndhlmbaaDoorRows.lean that lists a variable, with what it lists TIED to the program's text (the seventh form; the later family's looks); each row that meets fmt, with fmt's text TOLD by the authors' own Lean function (tested against real Go, not proved from fmt's source: count such statements apart). THE CARD IS WHAT COUNTS. Prove the row's statement (the work); the ties are given (YtfilmomndhlmbaaDoorTie.lean); close each card by the builder's one call (the guide's Derived/Test/ToyasCard.lean, 'card_holds'). Laid BY PROGRAM, IN A SANDBOX (cutbox-door.mjs). By AI agents, Wed Nov 11 2026. No macro, syntax, notation, axiom, sorry.
-/
import Derived.Test.YtfilmomndhlmbaaDoorRows
import GoSem.ClaimSeven
namespace Go.Proofs.YtfilmomndhlmbaaDoor
namespace Rows

/-- THE TIED CARD OF 'whittlelaw1.NumPows'. -/
def numPowsCard : Claim7 := { stood := { row := numPowsRow, standIns := [], harness := (true, "f61f0f436464aaa62379d598ce2255e3605fdef7166496ade2efdf5aa1eac2ac"), looks := false }, kinds := [], alts := [], laidByText := true, laidKinds := [.data, .data, .data], laidTests := true, laidLooks := .later }
def NumPowsCardSaid : Prop := Claim7.holds Tryd.pinned (.plain (OpenSpec.ofChange numPowsSpec)) numPowsCard

/-- THE TIED CARD OF 'whittlelaw1.NumPowers'. -/
def numPowersCard : Claim7 := { stood := { row := numPowersRow, standIns := [], harness := (true, "f61f0f436464aaa62379d598ce2255e3605fdef7166496ade2efdf5aa1eac2ac"), looks := false }, kinds := [], alts := [], laidByText := true, laidKinds := [.data, .data, .data], laidTests := true, laidLooks := .later }
def NumPowersCardSaid : Prop := Claim7.holds Tryd.pinned (.plain (OpenSpec.ofChange numPowersSpec)) numPowersCard

/-- THE TIED CARD OF 'whittlelaw1.NumSums'. -/
def numSumsCard : Claim7 := { stood := { row := numSumsRow, standIns := [], harness := (true, "f61f0f436464aaa62379d598ce2255e3605fdef7166496ade2efdf5aa1eac2ac"), looks := false }, kinds := [], alts := [], laidByText := true, laidKinds := [.data, .data, .data], laidTests := true, laidLooks := .later }
def NumSumsCardSaid : Prop := Claim7.holds Tryd.pinned (.plain (OpenSpec.ofChange numSumsSpec)) numSumsCard

/-- THE TIED CARD OF 'whittlelaw1.NumFloors'. -/
def numFloorsCard : Claim7 := { stood := { row := numFloorsRow, standIns := [], harness := (true, "f61f0f436464aaa62379d598ce2255e3605fdef7166496ade2efdf5aa1eac2ac"), looks := false }, kinds := [], alts := [], laidByText := true, laidKinds := [.data, .data, .data], laidTests := true, laidLooks := .later }
def NumFloorsCardSaid : Prop := Claim7.holds Tryd.pinned (.plain (OpenSpec.ofChange numFloorsSpec)) numFloorsCard

/-- THE TIED CARD OF 'whittlelaw1.NumRounds'. -/
def numRoundsCard : Claim7 := { stood := { row := numRoundsRow, standIns := [], harness := (true, "f61f0f436464aaa62379d598ce2255e3605fdef7166496ade2efdf5aa1eac2ac"), looks := false }, kinds := [], alts := [], laidByText := true, laidKinds := [.data, .data, .data], laidTests := true, laidLooks := .later }
def NumRoundsCardSaid : Prop := Claim7.holds Tryd.pinned (.plain (OpenSpec.ofChange numRoundsSpec)) numRoundsCard

/-- THE TIED CARD OF 'whittlelaw1.NumWrong'. -/
def numWrongCard : Claim7 := { stood := { row := numWrongRow, standIns := [], harness := (true, "f61f0f436464aaa62379d598ce2255e3605fdef7166496ade2efdf5aa1eac2ac"), looks := false }, kinds := [], alts := [], laidByText := true, laidKinds := [.data, .data, .data], laidTests := true, laidLooks := .later }
def NumWrongCardSaid : Prop := Claim7.holds Tryd.pinned (.plain (OpenSpec.ofChange numWrongSpec)) numWrongCard

/-- THE SECOND FORM's CARD OF 'whittlelaw1.NumPows'. -/
def numPowsUptoCard : Claim7 := { stood := { row := numPowsUptoRow, standIns := [], harness := (true, "f61f0f436464aaa62379d598ce2255e3605fdef7166496ade2efdf5aa1eac2ac"), looks := false }, kinds := [], alts := [], laidByText := true, laidKinds := [.data, .data, .data], laidTests := true, laidLooks := .later }
def NumPowsUptoCardSaid : Prop := Claim7.holds Tryd.pinned (.plain (OpenSpec.upto numPowsSpec)) numPowsUptoCard

/-- THE SECOND FORM's CARD OF 'whittlelaw1.NumPowers'. -/
def numPowersUptoCard : Claim7 := { stood := { row := numPowersUptoRow, standIns := [], harness := (true, "f61f0f436464aaa62379d598ce2255e3605fdef7166496ade2efdf5aa1eac2ac"), looks := false }, kinds := [], alts := [], laidByText := true, laidKinds := [.data, .data, .data], laidTests := true, laidLooks := .later }
def NumPowersUptoCardSaid : Prop := Claim7.holds Tryd.pinned (.plain (OpenSpec.upto numPowersSpec)) numPowersUptoCard

/-- THE SECOND FORM's CARD OF 'whittlelaw1.NumSums'. -/
def numSumsUptoCard : Claim7 := { stood := { row := numSumsUptoRow, standIns := [], harness := (true, "f61f0f436464aaa62379d598ce2255e3605fdef7166496ade2efdf5aa1eac2ac"), looks := false }, kinds := [], alts := [], laidByText := true, laidKinds := [.data, .data, .data], laidTests := true, laidLooks := .later }
def NumSumsUptoCardSaid : Prop := Claim7.holds Tryd.pinned (.plain (OpenSpec.upto numSumsSpec)) numSumsUptoCard

/-- THE SECOND FORM's CARD OF 'whittlelaw1.NumFloors'. -/
def numFloorsUptoCard : Claim7 := { stood := { row := numFloorsUptoRow, standIns := [], harness := (true, "f61f0f436464aaa62379d598ce2255e3605fdef7166496ade2efdf5aa1eac2ac"), looks := false }, kinds := [], alts := [], laidByText := true, laidKinds := [.data, .data, .data], laidTests := true, laidLooks := .later }
def NumFloorsUptoCardSaid : Prop := Claim7.holds Tryd.pinned (.plain (OpenSpec.upto numFloorsSpec)) numFloorsUptoCard

/-- THE SECOND FORM's CARD OF 'whittlelaw1.NumRounds'. -/
def numRoundsUptoCard : Claim7 := { stood := { row := numRoundsUptoRow, standIns := [], harness := (true, "f61f0f436464aaa62379d598ce2255e3605fdef7166496ade2efdf5aa1eac2ac"), looks := false }, kinds := [], alts := [], laidByText := true, laidKinds := [.data, .data, .data], laidTests := true, laidLooks := .later }
def NumRoundsUptoCardSaid : Prop := Claim7.holds Tryd.pinned (.plain (OpenSpec.upto numRoundsSpec)) numRoundsUptoCard

/-- THE SECOND FORM's CARD OF 'whittlelaw1.NumWrong'. -/
def numWrongUptoCard : Claim7 := { stood := { row := numWrongUptoRow, standIns := [], harness := (true, "f61f0f436464aaa62379d598ce2255e3605fdef7166496ade2efdf5aa1eac2ac"), looks := false }, kinds := [], alts := [], laidByText := true, laidKinds := [.data, .data, .data], laidTests := true, laidLooks := .later }
def NumWrongUptoCardSaid : Prop := Claim7.holds Tryd.pinned (.plain (OpenSpec.upto numWrongSpec)) numWrongUptoCard
end Rows
end Go.Proofs.YtfilmomndhlmbaaDoor
