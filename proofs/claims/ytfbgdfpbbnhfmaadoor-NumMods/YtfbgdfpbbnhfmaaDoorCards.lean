/-
  DERIVED. GIVEN WITH THE SEED: THE CARDS: each row of YtfbgdfpbbnhfmaaDoorRows.lean that lists a variable, with what it lists TIED to the program's text (the seventh form; the later family's looks); each row that meets fmt, with fmt's text TOLD by the authors' own Lean function (tested against real Go, not proved from fmt's source: count such statements apart). THE CARD IS WHAT COUNTS. Prove the row's statement (the work); the ties are given (YtfbgdfpbbnhfmaaDoorTie.lean); close each card by the builder's one call (the guide's Derived/Test/ToyasCard.lean, 'card_holds'). Laid BY PROGRAM, IN A SANDBOX (cutbox-door.mjs). By AI agents, Wed Nov 11 2026. No macro, syntax, notation, axiom, sorry.
-/
import Derived.Test.YtfbgdfpbbnhfmaaDoorRows
import GoSem.ClaimSeven
namespace Go.Proofs.YtfbgdfpbbnhfmaaDoor
namespace Rows

/-- THE TIED CARD OF 'whittlelaw1.NumMakes'. -/
def numMakesCard : Claim7 := { stood := { row := numMakesRow, standIns := [], harness := (true, "625f20d6d98208d0767584dd8796d995fc80025cba7411a77ca9358153e5ed54"), looks := false }, kinds := [], alts := [], laidByText := true, laidKinds := [.data, .data, .data], laidTests := true, laidLooks := .later }
def NumMakesCardSaid : Prop := Claim7.holds Tryd.pinned (.plain (OpenSpec.ofChange numMakesSpec)) numMakesCard

/-- THE TIED CARD OF 'whittlelaw1.NumAdds'. -/
def numAddsCard : Claim7 := { stood := { row := numAddsRow, standIns := [], harness := (true, "625f20d6d98208d0767584dd8796d995fc80025cba7411a77ca9358153e5ed54"), looks := false }, kinds := [], alts := [], laidByText := true, laidKinds := [.data, .data, .data], laidTests := true, laidLooks := .later }
def NumAddsCardSaid : Prop := Claim7.holds Tryd.pinned (.plain (OpenSpec.ofChange numAddsSpec)) numAddsCard

/-- THE TIED CARD OF 'whittlelaw1.NumMuls'. -/
def numMulsCard : Claim7 := { stood := { row := numMulsRow, standIns := [], harness := (true, "625f20d6d98208d0767584dd8796d995fc80025cba7411a77ca9358153e5ed54"), looks := false }, kinds := [], alts := [], laidByText := true, laidKinds := [.data, .data, .data], laidTests := true, laidLooks := .later }
def NumMulsCardSaid : Prop := Claim7.holds Tryd.pinned (.plain (OpenSpec.ofChange numMulsSpec)) numMulsCard

/-- THE TIED CARD OF 'whittlelaw1.NumMods'. -/
def numModsCard : Claim7 := { stood := { row := numModsRow, standIns := [], harness := (true, "625f20d6d98208d0767584dd8796d995fc80025cba7411a77ca9358153e5ed54"), looks := false }, kinds := [], alts := [], laidByText := true, laidKinds := [.data, .data, .data], laidTests := true, laidLooks := .later }
def NumModsCardSaid : Prop := Claim7.holds Tryd.pinned (.plain (OpenSpec.ofChange numModsSpec)) numModsCard

/-- THE TIED CARD OF 'whittlelaw1.NumPows'. -/
def numPowsCard : Claim7 := { stood := { row := numPowsRow, standIns := [], harness := (true, "625f20d6d98208d0767584dd8796d995fc80025cba7411a77ca9358153e5ed54"), looks := false }, kinds := [], alts := [], laidByText := true, laidKinds := [.data, .data, .data], laidTests := true, laidLooks := .later }
def NumPowsCardSaid : Prop := Claim7.holds Tryd.pinned (.plain (OpenSpec.ofChange numPowsSpec)) numPowsCard

/-- THE TIED CARD OF 'whittlelaw1.NumCmps'. -/
def numCmpsCard : Claim7 := { stood := { row := numCmpsRow, standIns := [], harness := (true, "625f20d6d98208d0767584dd8796d995fc80025cba7411a77ca9358153e5ed54"), looks := false }, kinds := [], alts := [], laidByText := true, laidKinds := [.data, .data, .data], laidTests := true, laidLooks := .later }
def NumCmpsCardSaid : Prop := Claim7.holds Tryd.pinned (.plain (OpenSpec.ofChange numCmpsSpec)) numCmpsCard

/-- THE SECOND FORM's CARD OF 'whittlelaw1.NumMakes'. -/
def numMakesUptoCard : Claim7 := { stood := { row := numMakesUptoRow, standIns := [], harness := (true, "625f20d6d98208d0767584dd8796d995fc80025cba7411a77ca9358153e5ed54"), looks := false }, kinds := [], alts := [], laidByText := true, laidKinds := [.data, .data, .data], laidTests := true, laidLooks := .later }
def NumMakesUptoCardSaid : Prop := Claim7.holds Tryd.pinned (.plain (OpenSpec.upto numMakesSpec)) numMakesUptoCard

/-- THE SECOND FORM's CARD OF 'whittlelaw1.NumAdds'. -/
def numAddsUptoCard : Claim7 := { stood := { row := numAddsUptoRow, standIns := [], harness := (true, "625f20d6d98208d0767584dd8796d995fc80025cba7411a77ca9358153e5ed54"), looks := false }, kinds := [], alts := [], laidByText := true, laidKinds := [.data, .data, .data], laidTests := true, laidLooks := .later }
def NumAddsUptoCardSaid : Prop := Claim7.holds Tryd.pinned (.plain (OpenSpec.upto numAddsSpec)) numAddsUptoCard

/-- THE SECOND FORM's CARD OF 'whittlelaw1.NumMuls'. -/
def numMulsUptoCard : Claim7 := { stood := { row := numMulsUptoRow, standIns := [], harness := (true, "625f20d6d98208d0767584dd8796d995fc80025cba7411a77ca9358153e5ed54"), looks := false }, kinds := [], alts := [], laidByText := true, laidKinds := [.data, .data, .data], laidTests := true, laidLooks := .later }
def NumMulsUptoCardSaid : Prop := Claim7.holds Tryd.pinned (.plain (OpenSpec.upto numMulsSpec)) numMulsUptoCard

/-- THE SECOND FORM's CARD OF 'whittlelaw1.NumMods'. -/
def numModsUptoCard : Claim7 := { stood := { row := numModsUptoRow, standIns := [], harness := (true, "625f20d6d98208d0767584dd8796d995fc80025cba7411a77ca9358153e5ed54"), looks := false }, kinds := [], alts := [], laidByText := true, laidKinds := [.data, .data, .data], laidTests := true, laidLooks := .later }
def NumModsUptoCardSaid : Prop := Claim7.holds Tryd.pinned (.plain (OpenSpec.upto numModsSpec)) numModsUptoCard

/-- THE SECOND FORM's CARD OF 'whittlelaw1.NumPows'. -/
def numPowsUptoCard : Claim7 := { stood := { row := numPowsUptoRow, standIns := [], harness := (true, "625f20d6d98208d0767584dd8796d995fc80025cba7411a77ca9358153e5ed54"), looks := false }, kinds := [], alts := [], laidByText := true, laidKinds := [.data, .data, .data], laidTests := true, laidLooks := .later }
def NumPowsUptoCardSaid : Prop := Claim7.holds Tryd.pinned (.plain (OpenSpec.upto numPowsSpec)) numPowsUptoCard

/-- THE SECOND FORM's CARD OF 'whittlelaw1.NumCmps'. -/
def numCmpsUptoCard : Claim7 := { stood := { row := numCmpsUptoRow, standIns := [], harness := (true, "625f20d6d98208d0767584dd8796d995fc80025cba7411a77ca9358153e5ed54"), looks := false }, kinds := [], alts := [], laidByText := true, laidKinds := [.data, .data, .data], laidTests := true, laidLooks := .later }
def NumCmpsUptoCardSaid : Prop := Claim7.holds Tryd.pinned (.plain (OpenSpec.upto numCmpsSpec)) numCmpsUptoCard
end Rows
end Go.Proofs.YtfbgdfpbbnhfmaaDoor
