/-
  DERIVED. GIVEN WITH THE SEED: THE CARDS: each row of YtnloiaoogofklaaGreatDoorRows.lean that lists a variable, with what it lists TIED to the program's text (the seventh form; the later family's looks); each row that meets fmt, with fmt's text TOLD by the authors' own Lean function (tested against real Go, not proved from fmt's source: count such statements apart). THE CARD IS WHAT COUNTS. Prove the row's statement (the work); the ties are given (YtnloiaoogofklaaGreatDoorTie.lean); close each card by the builder's one call (the guide's Derived/Test/ToyasCard.lean, 'card_holds'). Laid BY PROGRAM, IN A SANDBOX (cutbox-door.mjs). By AI agents, Wed Nov 11 2026. No macro, syntax, notation, axiom, sorry.
-/
import Derived.Test.YtnloiaoogofklaaGreatDoorRows
import GoSem.ClaimSeven
namespace Go.Proofs.YtnloiaoogofklaaGreatDoor
namespace Rows

/-- THE TIED CARD OF 'whittlelaw8.CodeFresh'. -/
def codeFreshCard : Claim7 := { stood := { row := codeFreshRow, standIns := [], harness := (true, "66ad75f4bf0afc83984c07aa77d5cc1e913b47e6e8e213f87de8c8449a34eaf2"), looks := false }, kinds := [], alts := [], laidByText := true, laidKinds := [.data, .data], laidTests := true, laidLooks := .later }
def CodeFreshCardSaid : Prop := Claim7.holds Tryz.pinned (.plain (OpenSpec.ofChange codeFreshSpec)) codeFreshCard

/-- THE TIED CARD OF 'whittlelaw8.CodeIs'. -/
def codeIsCard : Claim7 := { stood := { row := codeIsRow, standIns := [], harness := (true, "66ad75f4bf0afc83984c07aa77d5cc1e913b47e6e8e213f87de8c8449a34eaf2"), looks := false }, kinds := [], alts := [], laidByText := true, laidKinds := [.data, .data], laidTests := true, laidLooks := .later }
def CodeIsCardSaid : Prop := Claim7.holds Tryz.pinned (.plain (OpenSpec.ofChange codeIsSpec)) codeIsCard

/-- THE TIED CARD OF 'whittlelaw8.CodeJoins'. -/
def codeJoinsCard : Claim7 := { stood := { row := codeJoinsRow, standIns := [], harness := (true, "66ad75f4bf0afc83984c07aa77d5cc1e913b47e6e8e213f87de8c8449a34eaf2"), looks := false }, kinds := [], alts := [], laidByText := true, laidKinds := [.data, .data], laidTests := true, laidLooks := .later }
def CodeJoinsCardSaid : Prop := Claim7.holds Tryz.pinned (.plain (OpenSpec.ofChange codeJoinsSpec)) codeJoinsCard

/-- THE TIED CARD OF 'whittlelaw8.CodeTells'. -/
def codeTellsCard : Claim7 := { stood := { row := codeTellsRow, standIns := [], harness := (true, "66ad75f4bf0afc83984c07aa77d5cc1e913b47e6e8e213f87de8c8449a34eaf2"), looks := false }, kinds := [], alts := [], laidByText := true, laidKinds := [.data, .data], laidTests := true, laidLooks := .later }
def CodeTellsCardSaid : Prop := Claim7.holds Tryz.pinned (.plain (OpenSpec.ofChange codeTellsSpec)) codeTellsCard

/-- THE TIED CARD OF 'whittlelaw8.CodeTaken'. -/
def codeTakenCard : Claim7 := { stood := { row := codeTakenRow, standIns := [], harness := (true, "66ad75f4bf0afc83984c07aa77d5cc1e913b47e6e8e213f87de8c8449a34eaf2"), looks := false }, kinds := [], alts := [], laidByText := true, laidKinds := [.data, .data], laidTests := true, laidLooks := .later }
def CodeTakenCardSaid : Prop := Claim7.holds Tryz.pinned (.plain (OpenSpec.ofChange codeTakenSpec)) codeTakenCard

/-- THE TIED CARD OF 'whittlelaw8.CodeHomes'. -/
def codeHomesCard : Claim7 := { stood := { row := codeHomesRow, standIns := [], harness := (true, "66ad75f4bf0afc83984c07aa77d5cc1e913b47e6e8e213f87de8c8449a34eaf2"), looks := false }, kinds := [], alts := [], laidByText := true, laidKinds := [.data, .data], laidTests := true, laidLooks := .later }
def CodeHomesCardSaid : Prop := Claim7.holds Tryz.pinned (.plain (OpenSpec.ofChange codeHomesSpec)) codeHomesCard

/-- THE SECOND FORM's CARD OF 'whittlelaw8.CodeFresh'. -/
def codeFreshUptoCard : Claim7 := { stood := { row := codeFreshUptoRow, standIns := [], harness := (true, "66ad75f4bf0afc83984c07aa77d5cc1e913b47e6e8e213f87de8c8449a34eaf2"), looks := false }, kinds := [], alts := [], laidByText := true, laidKinds := [.data, .data], laidTests := true, laidLooks := .later }
def CodeFreshUptoCardSaid : Prop := Claim7.holds Tryz.pinned (.plain (OpenSpec.upto codeFreshSpec)) codeFreshUptoCard

/-- THE SECOND FORM's CARD OF 'whittlelaw8.CodeIs'. -/
def codeIsUptoCard : Claim7 := { stood := { row := codeIsUptoRow, standIns := [], harness := (true, "66ad75f4bf0afc83984c07aa77d5cc1e913b47e6e8e213f87de8c8449a34eaf2"), looks := false }, kinds := [], alts := [], laidByText := true, laidKinds := [.data, .data], laidTests := true, laidLooks := .later }
def CodeIsUptoCardSaid : Prop := Claim7.holds Tryz.pinned (.plain (OpenSpec.upto codeIsSpec)) codeIsUptoCard

/-- THE SECOND FORM's CARD OF 'whittlelaw8.CodeJoins'. -/
def codeJoinsUptoCard : Claim7 := { stood := { row := codeJoinsUptoRow, standIns := [], harness := (true, "66ad75f4bf0afc83984c07aa77d5cc1e913b47e6e8e213f87de8c8449a34eaf2"), looks := false }, kinds := [], alts := [], laidByText := true, laidKinds := [.data, .data], laidTests := true, laidLooks := .later }
def CodeJoinsUptoCardSaid : Prop := Claim7.holds Tryz.pinned (.plain (OpenSpec.upto codeJoinsSpec)) codeJoinsUptoCard

/-- THE SECOND FORM's CARD OF 'whittlelaw8.CodeTells'. -/
def codeTellsUptoCard : Claim7 := { stood := { row := codeTellsUptoRow, standIns := [], harness := (true, "66ad75f4bf0afc83984c07aa77d5cc1e913b47e6e8e213f87de8c8449a34eaf2"), looks := false }, kinds := [], alts := [], laidByText := true, laidKinds := [.data, .data], laidTests := true, laidLooks := .later }
def CodeTellsUptoCardSaid : Prop := Claim7.holds Tryz.pinned (.plain (OpenSpec.upto codeTellsSpec)) codeTellsUptoCard

/-- THE SECOND FORM's CARD OF 'whittlelaw8.CodeTaken'. -/
def codeTakenUptoCard : Claim7 := { stood := { row := codeTakenUptoRow, standIns := [], harness := (true, "66ad75f4bf0afc83984c07aa77d5cc1e913b47e6e8e213f87de8c8449a34eaf2"), looks := false }, kinds := [], alts := [], laidByText := true, laidKinds := [.data, .data], laidTests := true, laidLooks := .later }
def CodeTakenUptoCardSaid : Prop := Claim7.holds Tryz.pinned (.plain (OpenSpec.upto codeTakenSpec)) codeTakenUptoCard

/-- THE SECOND FORM's CARD OF 'whittlelaw8.CodeHomes'. -/
def codeHomesUptoCard : Claim7 := { stood := { row := codeHomesUptoRow, standIns := [], harness := (true, "66ad75f4bf0afc83984c07aa77d5cc1e913b47e6e8e213f87de8c8449a34eaf2"), looks := false }, kinds := [], alts := [], laidByText := true, laidKinds := [.data, .data], laidTests := true, laidLooks := .later }
def CodeHomesUptoCardSaid : Prop := Claim7.holds Tryz.pinned (.plain (OpenSpec.upto codeHomesSpec)) codeHomesUptoCard
end Rows
end Go.Proofs.YtnloiaoogofklaaGreatDoor
