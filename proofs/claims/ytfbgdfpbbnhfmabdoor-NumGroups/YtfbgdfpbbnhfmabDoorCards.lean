/-
  DERIVED. GIVEN WITH THE SEED: THE CARDS: each row of YtfbgdfpbbnhfmabDoorRows.lean that lists a variable, with what it lists TIED to the program's text (the seventh form; the later family's looks); each row that meets fmt, with fmt's text TOLD by the authors' own Lean function (tested against real Go, not proved from fmt's source: count such statements apart). THE CARD IS WHAT COUNTS. Prove the row's statement (the work); the ties are given (YtfbgdfpbbnhfmabDoorTie.lean); close each card by the builder's one call (the guide's Derived/Test/ToyasCard.lean, 'card_holds'). Laid BY PROGRAM, IN A SANDBOX (cutbox-door.mjs). By AI agents, Wed Nov 11 2026. No macro, syntax, notation, axiom, sorry.
-/
import Derived.Test.YtfbgdfpbbnhfmabDoorRows
import GoSem.ClaimSeven
namespace Go.Proofs.YtfbgdfpbbnhfmabDoor
namespace Rows

/-- THE TIED CARD OF 'whittlelaw1.NumTexts'. -/
def numTextsCard : Claim7 := { stood := { row := numTextsRow, standIns := [], harness := (true, "bded80d721d12a0180997ca08528ac273e7a286e59494d2e71267a309a021f14"), looks := false }, kinds := [], alts := [], laidByText := true, laidKinds := [.data, .data, .data], laidTests := true, laidLooks := .later }
def NumTextsCardSaid : Prop := Claim7.holds Tryd.pinned (.plain (OpenSpec.ofChange numTextsSpec)) numTextsCard

/-- THE TIED CARD OF 'whittlelaw1.NumReads'. -/
def numReadsCard : Claim7 := { stood := { row := numReadsRow, standIns := [], harness := (true, "bded80d721d12a0180997ca08528ac273e7a286e59494d2e71267a309a021f14"), looks := false }, kinds := [], alts := [], laidByText := true, laidKinds := [.data, .data, .data], laidTests := true, laidLooks := .later }
def NumReadsCardSaid : Prop := Claim7.holds Tryd.pinned (.plain (OpenSpec.ofChange numReadsSpec)) numReadsCard

/-- THE TIED CARD OF 'whittlelaw1.NumSums'. -/
def numSumsCard : Claim7 := { stood := { row := numSumsRow, standIns := [], harness := (true, "bded80d721d12a0180997ca08528ac273e7a286e59494d2e71267a309a021f14"), looks := false }, kinds := [], alts := [], laidByText := true, laidKinds := [.data, .data, .data], laidTests := true, laidLooks := .later }
def NumSumsCardSaid : Prop := Claim7.holds Tryd.pinned (.plain (OpenSpec.ofChange numSumsSpec)) numSumsCard

/-- THE TIED CARD OF 'whittlelaw1.NumGroups'. -/
def numGroupsCard : Claim7 := { stood := { row := numGroupsRow, standIns := [], harness := (true, "bded80d721d12a0180997ca08528ac273e7a286e59494d2e71267a309a021f14"), looks := false }, kinds := [], alts := [], laidByText := true, laidKinds := [.data, .data, .data], laidTests := true, laidLooks := .later }
def NumGroupsCardSaid : Prop := Claim7.holds Tryd.pinned (.plain (OpenSpec.ofChange numGroupsSpec)) numGroupsCard

/-- THE TIED CARD OF 'whittlelaw1.NumBacks'. -/
def numBacksCard : Claim7 := { stood := { row := numBacksRow, standIns := [], harness := (true, "bded80d721d12a0180997ca08528ac273e7a286e59494d2e71267a309a021f14"), looks := false }, kinds := [], alts := [], laidByText := true, laidKinds := [.data, .data, .data], laidTests := true, laidLooks := .later }
def NumBacksCardSaid : Prop := Claim7.holds Tryd.pinned (.plain (OpenSpec.ofChange numBacksSpec)) numBacksCard

/-- THE TIED CARD OF 'whittlelaw1.NumOrder'. -/
def numOrderCard : Claim7 := { stood := { row := numOrderRow, standIns := [], harness := (true, "bded80d721d12a0180997ca08528ac273e7a286e59494d2e71267a309a021f14"), looks := false }, kinds := [], alts := [], laidByText := true, laidKinds := [.data, .data, .data], laidTests := true, laidLooks := .later }
def NumOrderCardSaid : Prop := Claim7.holds Tryd.pinned (.plain (OpenSpec.ofChange numOrderSpec)) numOrderCard

/-- THE SECOND FORM's CARD OF 'whittlelaw1.NumTexts'. -/
def numTextsUptoCard : Claim7 := { stood := { row := numTextsUptoRow, standIns := [], harness := (true, "bded80d721d12a0180997ca08528ac273e7a286e59494d2e71267a309a021f14"), looks := false }, kinds := [], alts := [], laidByText := true, laidKinds := [.data, .data, .data], laidTests := true, laidLooks := .later }
def NumTextsUptoCardSaid : Prop := Claim7.holds Tryd.pinned (.plain (OpenSpec.upto numTextsSpec)) numTextsUptoCard

/-- THE SECOND FORM's CARD OF 'whittlelaw1.NumReads'. -/
def numReadsUptoCard : Claim7 := { stood := { row := numReadsUptoRow, standIns := [], harness := (true, "bded80d721d12a0180997ca08528ac273e7a286e59494d2e71267a309a021f14"), looks := false }, kinds := [], alts := [], laidByText := true, laidKinds := [.data, .data, .data], laidTests := true, laidLooks := .later }
def NumReadsUptoCardSaid : Prop := Claim7.holds Tryd.pinned (.plain (OpenSpec.upto numReadsSpec)) numReadsUptoCard

/-- THE SECOND FORM's CARD OF 'whittlelaw1.NumSums'. -/
def numSumsUptoCard : Claim7 := { stood := { row := numSumsUptoRow, standIns := [], harness := (true, "bded80d721d12a0180997ca08528ac273e7a286e59494d2e71267a309a021f14"), looks := false }, kinds := [], alts := [], laidByText := true, laidKinds := [.data, .data, .data], laidTests := true, laidLooks := .later }
def NumSumsUptoCardSaid : Prop := Claim7.holds Tryd.pinned (.plain (OpenSpec.upto numSumsSpec)) numSumsUptoCard

/-- THE SECOND FORM's CARD OF 'whittlelaw1.NumGroups'. -/
def numGroupsUptoCard : Claim7 := { stood := { row := numGroupsUptoRow, standIns := [], harness := (true, "bded80d721d12a0180997ca08528ac273e7a286e59494d2e71267a309a021f14"), looks := false }, kinds := [], alts := [], laidByText := true, laidKinds := [.data, .data, .data], laidTests := true, laidLooks := .later }
def NumGroupsUptoCardSaid : Prop := Claim7.holds Tryd.pinned (.plain (OpenSpec.upto numGroupsSpec)) numGroupsUptoCard

/-- THE SECOND FORM's CARD OF 'whittlelaw1.NumBacks'. -/
def numBacksUptoCard : Claim7 := { stood := { row := numBacksUptoRow, standIns := [], harness := (true, "bded80d721d12a0180997ca08528ac273e7a286e59494d2e71267a309a021f14"), looks := false }, kinds := [], alts := [], laidByText := true, laidKinds := [.data, .data, .data], laidTests := true, laidLooks := .later }
def NumBacksUptoCardSaid : Prop := Claim7.holds Tryd.pinned (.plain (OpenSpec.upto numBacksSpec)) numBacksUptoCard

/-- THE SECOND FORM's CARD OF 'whittlelaw1.NumOrder'. -/
def numOrderUptoCard : Claim7 := { stood := { row := numOrderUptoRow, standIns := [], harness := (true, "bded80d721d12a0180997ca08528ac273e7a286e59494d2e71267a309a021f14"), looks := false }, kinds := [], alts := [], laidByText := true, laidKinds := [.data, .data, .data], laidTests := true, laidLooks := .later }
def NumOrderUptoCardSaid : Prop := Claim7.holds Tryd.pinned (.plain (OpenSpec.upto numOrderSpec)) numOrderUptoCard
end Rows
end Go.Proofs.YtfbgdfpbbnhfmabDoor
