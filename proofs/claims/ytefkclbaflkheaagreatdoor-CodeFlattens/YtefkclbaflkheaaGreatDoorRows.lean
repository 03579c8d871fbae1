/-
  NARROWER THAN 'FOR EVERY INPUT', by the rows' own cells (each row's printed sentence says how): CodeFlattens: laid · CodeChecks: laid · CodeAsks: laid.
  DERIVED. THE GIVEN ROWS OF THIS SEAT. 3 by the template 'for every input the law returns true; each argument reads behind the call as it read before'; 0 by the template 'total and deterministic' (their statements: YtefkclbaflkheaaGreatDoorTotals.lean).
  GIVEN WITH THE SEED: the statements are not yours to turn. If you find one false, say at which input.
  Laid BY PROGRAM, IN A SANDBOX (cutbox-rows.mjs): the forced cells as the released guide's own fill.sh prints them over the translation 72bedc4e9b96f47b… (all of the seat's roots in one cut). By AI agents, Wed Nov 11 2026. No macro, syntax, notation, axiom, sorry.
-/
import Derived.Test.YtefkclbaflkheaaGreatDoorChecked
import GoSem.Claim
import GoSem.ClaimJoined
import GoSem.ClaimMapViews
import Derived.JoinedTies
import Derived.KernelRfl
namespace Go.Proofs.YtefkclbaflkheaaGreatDoor
/- THE CELL 'sum', in the pinned program and in every row, IS THE sha256 OF THE DUMP (.gsa) THAT YtefkclbaflkheaaGreatDoorProg.lean LOADS. Nothing in Lean hashes anything: it is a label: what it is worth is what the hold of that sum in a sandbox is worth. -/
noncomputable def Tryz.pinned : Pinned := { name := "ytefkclbaflkheaagreatdoor", sum := "72bedc4e9b96f47bbbe6a19bbc711073bbe8843ba5bbbf484aaf48fc852e442b", checked := Tryz.checked }
namespace Rows
def none {H : Type} : Left H := { results := [], args := [] }

/- WHAT THE LISTED PACKAGE-LEVEL VARIABLES READ AS WHEN THE CALL BEGINS. Each datum BY PROGRAM (the guide's laid-datum.mjs) off the statement by which the dump's own 'gosem.cut.vars' lays the variable. In a bare row this is a premise. The card (YtefkclbaflkheaaGreatDoorCards.lean) ties it to the program's text. -/
def laid_whittle_funcs_names {H : Type} : DataW H := .agg [.lit (.string []), .lit (.string [83, 85, 77]), .lit (.string [80, 82, 79, 68, 85, 67, 84]), .lit (.string [67, 79, 85, 78, 84]), .lit (.string [67, 79, 85, 78, 84, 65]), .lit (.string [77, 73, 78]), .lit (.string [77, 65, 88]), .lit (.string [65, 86, 69, 82, 65, 71, 69]), .lit (.string [65, 78, 68]), .lit (.string [79, 82]), .lit (.string [88, 79, 82]), .lit (.string [67, 79, 78, 67, 65, 84]), .lit (.string [83, 85, 77, 83, 81]), .lit (.string [71, 67, 68]), .lit (.string [70, 73, 82, 83, 84]), .lit (.string [76, 65, 83, 84]), .lit (.string []), .lit (.string []), .lit (.string []), .lit (.string []), .lit (.string [77, 65, 84, 67, 72]), .lit (.string [67, 79, 85, 78, 84, 73, 70]), .lit (.string [83, 85, 77, 73, 70]), .lit (.string [76, 79, 79, 75, 85, 80]), .lit (.string [83, 85, 77, 80, 82, 79, 68, 85, 67, 84]), .lit (.string [73, 78, 68, 69, 88]), .lit (.string [82, 79, 87, 83]), .lit (.string [67, 79, 76, 85, 77, 78, 83]), .lit (.string []), .lit (.string []), .lit (.string [73, 70]), .lit (.string [73, 70, 69, 82, 82, 79, 82]), .lit (.string [67, 72, 79, 79, 83, 69]), .lit (.string []), .lit (.string []), .lit (.string []), .lit (.string []), .lit (.string []), .lit (.string []), .lit (.string []), .lit (.string [65, 66, 83]), .lit (.string [83, 73, 71, 78]), .lit (.string [73, 78, 84]), .lit (.string [82, 79, 85, 78, 68]), .lit (.string [77, 79, 68]), .lit (.string [81, 85, 79, 84, 73, 69, 78, 84]), .lit (.string [80, 79, 87, 69, 82]), .lit (.string [78, 79, 84]), .lit (.string [76, 69, 78]), .lit (.string [76, 69, 70, 84]), .lit (.string [82, 73, 71, 72, 84]), .lit (.string [77, 73, 68]), .lit (.string [82, 69, 80, 84]), .lit (.string [70, 73, 78, 68]), .lit (.string [85, 80, 80, 69, 82]), .lit (.string [76, 79, 87, 69, 82]), .lit (.string [84, 82, 73, 77]), .lit (.string [86, 65, 76, 85, 69]), .lit (.string [73, 83, 78, 85, 77, 66, 69, 82]), .lit (.string [73, 83, 84, 69, 88, 84]), .lit (.string [73, 83, 66, 76, 65, 78, 75]), .lit (.string [73, 83, 69, 82, 82, 79, 82]), .lit (.string [78, 65])]
def laid_whittle_tree_operators {H : Type} : DataW H := .agg [.agg [.lit (.int .i64 21), .lit (.string [61]), .lit (.int .i64 0)], .agg [.lit (.int .i64 22), .lit (.string [60, 62]), .lit (.int .i64 0)], .agg [.lit (.int .i64 23), .lit (.string [60]), .lit (.int .i64 0)], .agg [.lit (.int .i64 24), .lit (.string [60, 61]), .lit (.int .i64 0)], .agg [.lit (.int .i64 25), .lit (.string [62]), .lit (.int .i64 0)], .agg [.lit (.int .i64 26), .lit (.string [62, 61]), .lit (.int .i64 0)], .agg [.lit (.int .i64 16), .lit (.string [38]), .lit (.int .i64 1)], .agg [.lit (.int .i64 11), .lit (.string [43]), .lit (.int .i64 2)], .agg [.lit (.int .i64 12), .lit (.string [45]), .lit (.int .i64 2)], .agg [.lit (.int .i64 13), .lit (.string [42]), .lit (.int .i64 3)], .agg [.lit (.int .i64 14), .lit (.string [47]), .lit (.int .i64 3)], .agg [.lit (.int .i64 15), .lit (.string [94]), .lit (.int .i64 4)], .agg [.lit (.int .i64 1), .lit (.string [45]), .lit (.int .i64 5)], .agg [.lit (.int .i64 2), .lit (.string [43]), .lit (.int .i64 5)], .agg [.lit (.int .i64 3), .lit (.string [37]), .lit (.int .i64 6)]]

/-- 'whittlelaw8.CodeFlattens': WHATEVER THE INPUT: true; the input reads as it did. -/
def codeFlattensSpec : ChangeSpec := { name := "codeFlattens", fn := fun _ => fun
  | [d1, d2, d3] => { results := [.lit (.bool true)], args := [d1, d2, d3] }
  | _ => none }
def codeFlattensRow : OpenClaim := { program := "ytefkclbaflkheaagreatdoor", sum := "72bedc4e9b96f47bbbe6a19bbc711073bbe8843ba5bbbf484aaf48fc852e442b", func := "whittle/whittlelaw8.CodeFlattens", spec := "codeFlattens", unfollowed := true, recurses := true, named := ["whittle/tree.operators", "whittle/funcs.names"], plainKeys := false, apart := false, laid := [("whittle/funcs.names", laid_whittle_funcs_names), ("whittle/tree.operators", laid_whittle_tree_operators)] }
def CodeFlattensSaid : Prop := codeFlattensRow.holds Tryz.pinned (OpenSpec.ofChange codeFlattensSpec)

/-- ITS FALSE NEIGHBOUR: 'it returns false'. Refute it at one input. -/
def codeFlattensWrong : ChangeSpec := { name := "codeFlattens", fn := fun _ => fun
  | [d1, d2, d3] => { results := [.lit (.bool false)], args := [d1, d2, d3] }
  | _ => none }
def CodeFlattensWrongFalsely : Prop := codeFlattensRow.holds Tryz.pinned (OpenSpec.ofChange codeFlattensWrong)

/-- 'whittlelaw8.CodeChecks': WHATEVER THE INPUT: true; the input reads as it did. -/
def codeChecksSpec : ChangeSpec := { name := "codeChecks", fn := fun _ => fun
  | [d] => { results := [.lit (.bool true)], args := [d] }
  | _ => none }
def codeChecksRow : OpenClaim := { program := "ytefkclbaflkheaagreatdoor", sum := "72bedc4e9b96f47bbbe6a19bbc711073bbe8843ba5bbbf484aaf48fc852e442b", func := "whittle/whittlelaw8.CodeChecks", spec := "codeChecks", unfollowed := true, recurses := true, named := ["whittle/tree.operators", "whittle/funcs.names"], plainKeys := false, apart := false, laid := [("whittle/funcs.names", laid_whittle_funcs_names), ("whittle/tree.operators", laid_whittle_tree_operators)] }
def CodeChecksSaid : Prop := codeChecksRow.holds Tryz.pinned (OpenSpec.ofChange codeChecksSpec)

/-- ITS FALSE NEIGHBOUR: 'it returns false'. Refute it at one input. -/
def codeChecksWrong : ChangeSpec := { name := "codeChecks", fn := fun _ => fun
  | [d] => { results := [.lit (.bool false)], args := [d] }
  | _ => none }
def CodeChecksWrongFalsely : Prop := codeChecksRow.holds Tryz.pinned (OpenSpec.ofChange codeChecksWrong)

/-- 'whittlelaw8.CodeAsks': WHATEVER THE INPUT: true; the input reads as it did. -/
def codeAsksSpec : ChangeSpec := { name := "codeAsks", fn := fun _ => fun
  | [d] => { results := [.lit (.bool true)], args := [d] }
  | _ => none }
def codeAsksRow : OpenClaim := { program := "ytefkclbaflkheaagreatdoor", sum := "72bedc4e9b96f47bbbe6a19bbc711073bbe8843ba5bbbf484aaf48fc852e442b", func := "whittle/whittlelaw8.CodeAsks", spec := "codeAsks", unfollowed := true, recurses := true, named := ["whittle/tree.operators", "whittle/funcs.names"], plainKeys := false, apart := false, laid := [("whittle/funcs.names", laid_whittle_funcs_names), ("whittle/tree.operators", laid_whittle_tree_operators)] }
def CodeAsksSaid : Prop := codeAsksRow.holds Tryz.pinned (OpenSpec.ofChange codeAsksSpec)

/-- ITS FALSE NEIGHBOUR: 'it returns false'. Refute it at one input. -/
def codeAsksWrong : ChangeSpec := { name := "codeAsks", fn := fun _ => fun
  | [d] => { results := [.lit (.bool false)], args := [d] }
  | _ => none }
def CodeAsksWrongFalsely : Prop := codeAsksRow.holds Tryz.pinned (OpenSpec.ofChange codeAsksWrong)

/- THE SECOND FORM. 'bulk': how many values and letters a reading holds, each counted each time it is reached (what is shared counts as often as it is met; a slice's spare places count too). A statement '..UptoSaid' is the law's where the arguments, and the package variables that the reading takes, are together of bulk at most 1048576: NARROWER than '..Said'. Prove '..Said' where nothing that the law and all that it calls make is longer than what came in: it says more and counts as full. Else prove '..UptoSaid'. A law counts once. -/
mutual
def uptoBulk {H : Type} : DataW H → Nat
  | .lit (.string bytes) => bytes.length + 1
  | .lit _ => 1
  | .nil => 1
  | .ptr d => uptoBulk d + 1
  | .slice elems spare => uptoBulkAll elems + uptoBulkAll spare + 1
  | .agg parts => uptoBulkAll parts + 1
  | .iface _ d => uptoBulk d + 1
  | .map entries => uptoBulkEntries entries + 1
  | .held _ => 1
def uptoBulkAll {H : Type} : List (DataW H) → Nat
  | [] => 0
  | d :: r => uptoBulk d + uptoBulkAll r
def uptoBulkEntries {H : Type} : List (Lit × DataW H) → Nat
  | [] => 0
  | x :: r => uptoBulkEntry x + uptoBulkEntries r
def uptoBulkEntry {H : Type} : Lit × DataW H → Nat
  | (.string bytes, d) => bytes.length + uptoBulk d + 1
  | (_, d) => uptoBulk d + 1
 end
def uptoSmall : (H : Type) → List (DataW H) → Bool := fun _ ds => decide (uptoBulkAll ds ≤ 1048576)
def OpenSpec.upto (s : _root_.Go.ChangeSpec) : _root_.Go.OpenSpec := { _root_.Go.OpenSpec.ofChange s with cond := some uptoSmall }

/-- 'whittlelaw8.CodeFlattens', WHERE WHAT IT READS IS OF BULK AT MOST 1048576: true; the input reads as it did. -/
def codeFlattensUptoRow : OpenClaim := { program := "ytefkclbaflkheaagreatdoor", sum := "72bedc4e9b96f47bbbe6a19bbc711073bbe8843ba5bbbf484aaf48fc852e442b", func := "whittle/whittlelaw8.CodeFlattens", spec := "codeFlattens", unfollowed := true, recurses := true, named := ["whittle/tree.operators", "whittle/funcs.names"], plainKeys := false, apart := false, laid := [("whittle/funcs.names", laid_whittle_funcs_names), ("whittle/tree.operators", laid_whittle_tree_operators)], narrowed := true }
def CodeFlattensUptoSaid : Prop := codeFlattensUptoRow.holds Tryz.pinned (OpenSpec.upto codeFlattensSpec)

/-- 'whittlelaw8.CodeChecks', WHERE WHAT IT READS IS OF BULK AT MOST 1048576: true; the input reads as it did. -/
def codeChecksUptoRow : OpenClaim := { program := "ytefkclbaflkheaagreatdoor", sum := "72bedc4e9b96f47bbbe6a19bbc711073bbe8843ba5bbbf484aaf48fc852e442b", func := "whittle/whittlelaw8.CodeChecks", spec := "codeChecks", unfollowed := true, recurses := true, named := ["whittle/tree.operators", "whittle/funcs.names"], plainKeys := false, apart := false, laid := [("whittle/funcs.names", laid_whittle_funcs_names), ("whittle/tree.operators", laid_whittle_tree_operators)], narrowed := true }
def CodeChecksUptoSaid : Prop := codeChecksUptoRow.holds Tryz.pinned (OpenSpec.upto codeChecksSpec)

/-- 'whittlelaw8.CodeAsks', WHERE WHAT IT READS IS OF BULK AT MOST 1048576: true; the input reads as it did. -/
def codeAsksUptoRow : OpenClaim := { program := "ytefkclbaflkheaagreatdoor", sum := "72bedc4e9b96f47bbbe6a19bbc711073bbe8843ba5bbbf484aaf48fc852e442b", func := "whittle/whittlelaw8.CodeAsks", spec := "codeAsks", unfollowed := true, recurses := true, named := ["whittle/tree.operators", "whittle/funcs.names"], plainKeys := false, apart := false, laid := [("whittle/funcs.names", laid_whittle_funcs_names), ("whittle/tree.operators", laid_whittle_tree_operators)], narrowed := true }
def CodeAsksUptoSaid : Prop := codeAsksUptoRow.holds Tryz.pinned (OpenSpec.upto codeAsksSpec)

end Rows
end Go.Proofs.YtefkclbaflkheaaGreatDoor
