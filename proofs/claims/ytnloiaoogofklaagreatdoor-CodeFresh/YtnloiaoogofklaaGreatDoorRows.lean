/-
  NARROWER THAN 'FOR EVERY INPUT', by the rows' own cells (each row's printed sentence says how): CodeFresh: laid · CodeIs: laid · CodeJoins: laid · CodeTells: laid · CodeTaken: laid · CodeHomes: laid.
  DERIVED. THE GIVEN ROWS OF THIS SEAT. 6 by the template 'for every input the law returns true; each argument reads behind the call as it read before'; 0 by the template 'total and deterministic' (their statements: YtnloiaoogofklaaGreatDoorTotals.lean).
  GIVEN WITH THE SEED: the statements are not yours to turn. If you find one false, say at which input.
  Laid BY PROGRAM, IN A SANDBOX (cutbox-rows.mjs): the forced cells as the released guide's own fill.sh prints them over the translation 03623e9fdfd4a42f… (all of the seat's roots in one cut). By AI agents, Wed Nov 11 2026. No macro, syntax, notation, axiom, sorry.
-/
import Derived.Test.YtnloiaoogofklaaGreatDoorChecked
import GoSem.Claim
import GoSem.ClaimJoined
import GoSem.ClaimMapViews
import Derived.JoinedTies
import Derived.KernelRfl
namespace Go.Proofs.YtnloiaoogofklaaGreatDoor
/- THE CELL 'sum', in the pinned program and in every row, IS THE sha256 OF THE DUMP (.gsa) THAT YtnloiaoogofklaaGreatDoorProg.lean LOADS. Nothing in Lean hashes anything: it is a label: what it is worth is what the hold of that sum in a sandbox is worth. -/
noncomputable def Tryz.pinned : Pinned := { name := "ytnloiaoogofklaagreatdoor", sum := "03623e9fdfd4a42f9b9b206925d8bb160f507fb1f1265d1066f01a514cab97b5", checked := Tryz.checked }
namespace Rows
def none {H : Type} : Left H := { results := [], args := [] }

/- WHAT THE LISTED PACKAGE-LEVEL VARIABLES READ AS WHEN THE CALL BEGINS. Each datum BY PROGRAM (the guide's laid-datum.mjs) off the statement by which the dump's own 'gosem.cut.vars' lays the variable. In a bare row this is a premise. The card (YtnloiaoogofklaaGreatDoorCards.lean) ties it to the program's text. -/
def laid_whittle_funcs_names {H : Type} : DataW H := .agg [.lit (.string []), .lit (.string [83, 85, 77]), .lit (.string [80, 82, 79, 68, 85, 67, 84]), .lit (.string [67, 79, 85, 78, 84]), .lit (.string [67, 79, 85, 78, 84, 65]), .lit (.string [77, 73, 78]), .lit (.string [77, 65, 88]), .lit (.string [65, 86, 69, 82, 65, 71, 69]), .lit (.string [65, 78, 68]), .lit (.string [79, 82]), .lit (.string [88, 79, 82]), .lit (.string [67, 79, 78, 67, 65, 84]), .lit (.string [83, 85, 77, 83, 81]), .lit (.string [71, 67, 68]), .lit (.string [70, 73, 82, 83, 84]), .lit (.string [76, 65, 83, 84]), .lit (.string []), .lit (.string []), .lit (.string []), .lit (.string []), .lit (.string [77, 65, 84, 67, 72]), .lit (.string [67, 79, 85, 78, 84, 73, 70]), .lit (.string [83, 85, 77, 73, 70]), .lit (.string [76, 79, 79, 75, 85, 80]), .lit (.string [83, 85, 77, 80, 82, 79, 68, 85, 67, 84]), .lit (.string [73, 78, 68, 69, 88]), .lit (.string [82, 79, 87, 83]), .lit (.string [67, 79, 76, 85, 77, 78, 83]), .lit (.string []), .lit (.string []), .lit (.string [73, 70]), .lit (.string [73, 70, 69, 82, 82, 79, 82]), .lit (.string [67, 72, 79, 79, 83, 69]), .lit (.string []), .lit (.string []), .lit (.string []), .lit (.string []), .lit (.string []), .lit (.string []), .lit (.string []), .lit (.string [65, 66, 83]), .lit (.string [83, 73, 71, 78]), .lit (.string [73, 78, 84]), .lit (.string [82, 79, 85, 78, 68]), .lit (.string [77, 79, 68]), .lit (.string [81, 85, 79, 84, 73, 69, 78, 84]), .lit (.string [80, 79, 87, 69, 82]), .lit (.string [78, 79, 84]), .lit (.string [76, 69, 78]), .lit (.string [76, 69, 70, 84]), .lit (.string [82, 73, 71, 72, 84]), .lit (.string [77, 73, 68]), .lit (.string [82, 69, 80, 84]), .lit (.string [70, 73, 78, 68]), .lit (.string [85, 80, 80, 69, 82]), .lit (.string [76, 79, 87, 69, 82]), .lit (.string [84, 82, 73, 77]), .lit (.string [86, 65, 76, 85, 69]), .lit (.string [73, 83, 78, 85, 77, 66, 69, 82]), .lit (.string [73, 83, 84, 69, 88, 84]), .lit (.string [73, 83, 66, 76, 65, 78, 75]), .lit (.string [73, 83, 69, 82, 82, 79, 82]), .lit (.string [78, 65])]
def laid_whittle_tree_operators {H : Type} : DataW H := .agg [.agg [.lit (.int .i64 21), .lit (.string [61]), .lit (.int .i64 0)], .agg [.lit (.int .i64 22), .lit (.string [60, 62]), .lit (.int .i64 0)], .agg [.lit (.int .i64 23), .lit (.string [60]), .lit (.int .i64 0)], .agg [.lit (.int .i64 24), .lit (.string [60, 61]), .lit (.int .i64 0)], .agg [.lit (.int .i64 25), .lit (.string [62]), .lit (.int .i64 0)], .agg [.lit (.int .i64 26), .lit (.string [62, 61]), .lit (.int .i64 0)], .agg [.lit (.int .i64 16), .lit (.string [38]), .lit (.int .i64 1)], .agg [.lit (.int .i64 11), .lit (.string [43]), .lit (.int .i64 2)], .agg [.lit (.int .i64 12), .lit (.string [45]), .lit (.int .i64 2)], .agg [.lit (.int .i64 13), .lit (.string [42]), .lit (.int .i64 3)], .agg [.lit (.int .i64 14), .lit (.string [47]), .lit (.int .i64 3)], .agg [.lit (.int .i64 15), .lit (.string [94]), .lit (.int .i64 4)], .agg [.lit (.int .i64 1), .lit (.string [45]), .lit (.int .i64 5)], .agg [.lit (.int .i64 2), .lit (.string [43]), .lit (.int .i64 5)], .agg [.lit (.int .i64 3), .lit (.string [37]), .lit (.int .i64 6)]]

/-- 'whittlelaw8.CodeFresh': WHATEVER THE INPUT: true; the input reads as it did. -/
def codeFreshSpec : ChangeSpec := { name := "codeFresh", fn := fun _ => fun
  | [d1, d2, d3] => { results := [.lit (.bool true)], args := [d1, d2, d3] }
  | _ => none }
def codeFreshRow : OpenClaim := { program := "ytnloiaoogofklaagreatdoor", sum := "03623e9fdfd4a42f9b9b206925d8bb160f507fb1f1265d1066f01a514cab97b5", func := "whittle/whittlelaw8.CodeFresh", spec := "codeFresh", unfollowed := true, recurses := true, named := ["whittle/tree.operators", "whittle/funcs.names"], plainKeys := false, apart := false, laid := [("whittle/funcs.names", laid_whittle_funcs_names), ("whittle/tree.operators", laid_whittle_tree_operators)] }
def CodeFreshSaid : Prop := codeFreshRow.holds Tryz.pinned (OpenSpec.ofChange codeFreshSpec)

/-- ITS FALSE NEIGHBOUR: 'it returns false'. Refute it at one input. -/
def codeFreshWrong : ChangeSpec := { name := "codeFresh", fn := fun _ => fun
  | [d1, d2, d3] => { results := [.lit (.bool false)], args := [d1, d2, d3] }
  | _ => none }
def CodeFreshWrongFalsely : Prop := codeFreshRow.holds Tryz.pinned (OpenSpec.ofChange codeFreshWrong)

/-- 'whittlelaw8.CodeIs': WHATEVER THE INPUT: true; the input reads as it did. -/
def codeIsSpec : ChangeSpec := { name := "codeIs", fn := fun _ => fun
  | [d1, d2, d3] => { results := [.lit (.bool true)], args := [d1, d2, d3] }
  | _ => none }
def codeIsRow : OpenClaim := { program := "ytnloiaoogofklaagreatdoor", sum := "03623e9fdfd4a42f9b9b206925d8bb160f507fb1f1265d1066f01a514cab97b5", func := "whittle/whittlelaw8.CodeIs", spec := "codeIs", unfollowed := true, recurses := true, named := ["whittle/tree.operators", "whittle/funcs.names"], plainKeys := false, apart := false, laid := [("whittle/funcs.names", laid_whittle_funcs_names), ("whittle/tree.operators", laid_whittle_tree_operators)] }
def CodeIsSaid : Prop := codeIsRow.holds Tryz.pinned (OpenSpec.ofChange codeIsSpec)

/-- ITS FALSE NEIGHBOUR: 'it returns false'. Refute it at one input. -/
def codeIsWrong : ChangeSpec := { name := "codeIs", fn := fun _ => fun
  | [d1, d2, d3] => { results := [.lit (.bool false)], args := [d1, d2, d3] }
  | _ => none }
def CodeIsWrongFalsely : Prop := codeIsRow.holds Tryz.pinned (OpenSpec.ofChange codeIsWrong)

/-- 'whittlelaw8.CodeJoins': WHATEVER THE INPUT: true; the input reads as it did. -/
def codeJoinsSpec : ChangeSpec := { name := "codeJoins", fn := fun _ => fun
  | [d1, d2, d3, d4, d5] => { results := [.lit (.bool true)], args := [d1, d2, d3, d4, d5] }
  | _ => none }
def codeJoinsRow : OpenClaim := { program := "ytnloiaoogofklaagreatdoor", sum := "03623e9fdfd4a42f9b9b206925d8bb160f507fb1f1265d1066f01a514cab97b5", func := "whittle/whittlelaw8.CodeJoins", spec := "codeJoins", unfollowed := true, recurses := true, named := ["whittle/tree.operators", "whittle/funcs.names"], plainKeys := false, apart := false, laid := [("whittle/funcs.names", laid_whittle_funcs_names), ("whittle/tree.operators", laid_whittle_tree_operators)] }
def CodeJoinsSaid : Prop := codeJoinsRow.holds Tryz.pinned (OpenSpec.ofChange codeJoinsSpec)

/-- ITS FALSE NEIGHBOUR: 'it returns false'. Refute it at one input. -/
def codeJoinsWrong : ChangeSpec := { name := "codeJoins", fn := fun _ => fun
  | [d1, d2, d3, d4, d5] => { results := [.lit (.bool false)], args := [d1, d2, d3, d4, d5] }
  | _ => none }
def CodeJoinsWrongFalsely : Prop := codeJoinsRow.holds Tryz.pinned (OpenSpec.ofChange codeJoinsWrong)

/-- 'whittlelaw8.CodeTells': WHATEVER THE INPUT: true; the input reads as it did. -/
def codeTellsSpec : ChangeSpec := { name := "codeTells", fn := fun _ => fun
  | [d1, d2, d3] => { results := [.lit (.bool true)], args := [d1, d2, d3] }
  | _ => none }
def codeTellsRow : OpenClaim := { program := "ytnloiaoogofklaagreatdoor", sum := "03623e9fdfd4a42f9b9b206925d8bb160f507fb1f1265d1066f01a514cab97b5", func := "whittle/whittlelaw8.CodeTells", spec := "codeTells", unfollowed := true, recurses := true, named := ["whittle/tree.operators", "whittle/funcs.names"], plainKeys := false, apart := false, laid := [("whittle/funcs.names", laid_whittle_funcs_names), ("whittle/tree.operators", laid_whittle_tree_operators)] }
def CodeTellsSaid : Prop := codeTellsRow.holds Tryz.pinned (OpenSpec.ofChange codeTellsSpec)

/-- ITS FALSE NEIGHBOUR: 'it returns false'. Refute it at one input. -/
def codeTellsWrong : ChangeSpec := { name := "codeTells", fn := fun _ => fun
  | [d1, d2, d3] => { results := [.lit (.bool false)], args := [d1, d2, d3] }
  | _ => none }
def CodeTellsWrongFalsely : Prop := codeTellsRow.holds Tryz.pinned (OpenSpec.ofChange codeTellsWrong)

/-- 'whittlelaw8.CodeTaken': WHATEVER THE INPUT: true; the input reads as it did. -/
def codeTakenSpec : ChangeSpec := { name := "codeTaken", fn := fun _ => fun
  | [d1, d2, d3] => { results := [.lit (.bool true)], args := [d1, d2, d3] }
  | _ => none }
def codeTakenRow : OpenClaim := { program := "ytnloiaoogofklaagreatdoor", sum := "03623e9fdfd4a42f9b9b206925d8bb160f507fb1f1265d1066f01a514cab97b5", func := "whittle/whittlelaw8.CodeTaken", spec := "codeTaken", unfollowed := true, recurses := true, named := ["whittle/tree.operators", "whittle/funcs.names"], plainKeys := false, apart := false, laid := [("whittle/funcs.names", laid_whittle_funcs_names), ("whittle/tree.operators", laid_whittle_tree_operators)] }
def CodeTakenSaid : Prop := codeTakenRow.holds Tryz.pinned (OpenSpec.ofChange codeTakenSpec)

/-- ITS FALSE NEIGHBOUR: 'it returns false'. Refute it at one input. -/
def codeTakenWrong : ChangeSpec := { name := "codeTaken", fn := fun _ => fun
  | [d1, d2, d3] => { results := [.lit (.bool false)], args := [d1, d2, d3] }
  | _ => none }
def CodeTakenWrongFalsely : Prop := codeTakenRow.holds Tryz.pinned (OpenSpec.ofChange codeTakenWrong)

/-- 'whittlelaw8.CodeHomes': WHATEVER THE INPUT: true; the input reads as it did. -/
def codeHomesSpec : ChangeSpec := { name := "codeHomes", fn := fun _ => fun
  | [d1, d2, d3, d4] => { results := [.lit (.bool true)], args := [d1, d2, d3, d4] }
  | _ => none }
def codeHomesRow : OpenClaim := { program := "ytnloiaoogofklaagreatdoor", sum := "03623e9fdfd4a42f9b9b206925d8bb160f507fb1f1265d1066f01a514cab97b5", func := "whittle/whittlelaw8.CodeHomes", spec := "codeHomes", unfollowed := true, recurses := true, named := ["whittle/tree.operators", "whittle/funcs.names"], plainKeys := false, apart := false, laid := [("whittle/funcs.names", laid_whittle_funcs_names), ("whittle/tree.operators", laid_whittle_tree_operators)] }
def CodeHomesSaid : Prop := codeHomesRow.holds Tryz.pinned (OpenSpec.ofChange codeHomesSpec)

/-- ITS FALSE NEIGHBOUR: 'it returns false'. Refute it at one input. -/
def codeHomesWrong : ChangeSpec := { name := "codeHomes", fn := fun _ => fun
  | [d1, d2, d3, d4] => { results := [.lit (.bool false)], args := [d1, d2, d3, d4] }
  | _ => none }
def CodeHomesWrongFalsely : Prop := codeHomesRow.holds Tryz.pinned (OpenSpec.ofChange codeHomesWrong)

/- THE SECOND FORM. 'bulk': how many values and letters a reading holds, each counted each time it is reached (what is shared counts as often as it is met; a slice's spare places count too). A statement '..UptoSaid' is the law's where the arguments, and the package variables that the reading takes, are together of bulk at most 1048576: NARROWER than '..Said'. Prove '..Said' where nothing that the law and all that it calls make is longer than what came in: it says more and counts as full. Else prove '..UptoSaid'. A law counts once. -/
mutual
def uptoBulk {H : Type} : DataW H → Nat
  | .lit (.string bytes) => bytes.length + 1
  | .lit _ => 1
  | .nil => 1
  | .ptr d => uptoBulk d + 1
  | .slice elems spare => uptoBulkAll elems + uptoBulkAll spare + 1
  | .agg parts => uptoBulkAll parts + 1
  | .iface _ d => uptoBulk d + 1
  | .map entries => uptoBulkEntries entries + 1
  | .held _ => 1
def uptoBulkAll {H : Type} : List (DataW H) → Nat
  | [] => 0
  | d :: r => uptoBulk d + uptoBulkAll r
def uptoBulkEntries {H : Type} : List (Lit × DataW H) → Nat
  | [] => 0
  | x :: r => uptoBulkEntry x + uptoBulkEntries r
def uptoBulkEntry {H : Type} : Lit × DataW H → Nat
  | (.string bytes, d) => bytes.length + uptoBulk d + 1
  | (_, d) => uptoBulk d + 1
 end
def uptoSmall : (H : Type) → List (DataW H) → Bool := fun _ ds => decide (uptoBulkAll ds ≤ 1048576)
def OpenSpec.upto (s : _root_.Go.ChangeSpec) : _root_.Go.OpenSpec := { _root_.Go.OpenSpec.ofChange s with cond := some uptoSmall }

/-- 'whittlelaw8.CodeFresh', WHERE WHAT IT READS IS OF BULK AT MOST 1048576: true; the input reads as it did. -/
def codeFreshUptoRow : OpenClaim := { program := "ytnloiaoogofklaagreatdoor", sum := "03623e9fdfd4a42f9b9b206925d8bb160f507fb1f1265d1066f01a514cab97b5", func := "whittle/whittlelaw8.CodeFresh", spec := "codeFresh", unfollowed := true, recurses := true, named := ["whittle/tree.operators", "whittle/funcs.names"], plainKeys := false, apart := false, laid := [("whittle/funcs.names", laid_whittle_funcs_names), ("whittle/tree.operators", laid_whittle_tree_operators)], narrowed := true }
def CodeFreshUptoSaid : Prop := codeFreshUptoRow.holds Tryz.pinned (OpenSpec.upto codeFreshSpec)

/-- 'whittlelaw8.CodeIs', WHERE WHAT IT READS IS OF BULK AT MOST 1048576: true; the input reads as it did. -/
def codeIsUptoRow : OpenClaim := { program := "ytnloiaoogofklaagreatdoor", sum := "03623e9fdfd4a42f9b9b206925d8bb160f507fb1f1265d1066f01a514cab97b5", func := "whittle/whittlelaw8.CodeIs", spec := "codeIs", unfollowed := true, recurses := true, named := ["whittle/tree.operators", "whittle/funcs.names"], plainKeys := false, apart := false, laid := [("whittle/funcs.names", laid_whittle_funcs_names), ("whittle/tree.operators", laid_whittle_tree_operators)], narrowed := true }
def CodeIsUptoSaid : Prop := codeIsUptoRow.holds Tryz.pinned (OpenSpec.upto codeIsSpec)

/-- 'whittlelaw8.CodeJoins', WHERE WHAT IT READS IS OF BULK AT MOST 1048576: true; the input reads as it did. -/
def codeJoinsUptoRow : OpenClaim := { program := "ytnloiaoogofklaagreatdoor", sum := "03623e9fdfd4a42f9b9b206925d8bb160f507fb1f1265d1066f01a514cab97b5", func := "whittle/whittlelaw8.CodeJoins", spec := "codeJoins", unfollowed := true, recurses := true, named := ["whittle/tree.operators", "whittle/funcs.names"], plainKeys := false, apart := false, laid := [("whittle/funcs.names", laid_whittle_funcs_names), ("whittle/tree.operators", laid_whittle_tree_operators)], narrowed := true }
def CodeJoinsUptoSaid : Prop := codeJoinsUptoRow.holds Tryz.pinned (OpenSpec.upto codeJoinsSpec)

/-- 'whittlelaw8.CodeTells', WHERE WHAT IT READS IS OF BULK AT MOST 1048576: true; the input reads as it did. -/
def codeTellsUptoRow : OpenClaim := { program := "ytnloiaoogofklaagreatdoor", sum := "03623e9fdfd4a42f9b9b206925d8bb160f507fb1f1265d1066f01a514cab97b5", func := "whittle/whittlelaw8.CodeTells", spec := "codeTells", unfollowed := true, recurses := true, named := ["whittle/tree.operators", "whittle/funcs.names"], plainKeys := false, apart := false, laid := [("whittle/funcs.names", laid_whittle_funcs_names), ("whittle/tree.operators", laid_whittle_tree_operators)], narrowed := true }
def CodeTellsUptoSaid : Prop := codeTellsUptoRow.holds Tryz.pinned (OpenSpec.upto codeTellsSpec)

/-- 'whittlelaw8.CodeTaken', WHERE WHAT IT READS IS OF BULK AT MOST 1048576: true; the input reads as it did. -/
def codeTakenUptoRow : OpenClaim := { program := "ytnloiaoogofklaagreatdoor", sum := "03623e9fdfd4a42f9b9b206925d8bb160f507fb1f1265d1066f01a514cab97b5", func := "whittle/whittlelaw8.CodeTaken", spec := "codeTaken", unfollowed := true, recurses := true, named := ["whittle/tree.operators", "whittle/funcs.names"], plainKeys := false, apart := false, laid := [("whittle/funcs.names", laid_whittle_funcs_names), ("whittle/tree.operators", laid_whittle_tree_operators)], narrowed := true }
def CodeTakenUptoSaid : Prop := codeTakenUptoRow.holds Tryz.pinned (OpenSpec.upto codeTakenSpec)

/-- 'whittlelaw8.CodeHomes', WHERE WHAT IT READS IS OF BULK AT MOST 1048576: true; the input reads as it did. -/
def codeHomesUptoRow : OpenClaim := { program := "ytnloiaoogofklaagreatdoor", sum := "03623e9fdfd4a42f9b9b206925d8bb160f507fb1f1265d1066f01a514cab97b5", func := "whittle/whittlelaw8.CodeHomes", spec := "codeHomes", unfollowed := true, recurses := true, named := ["whittle/tree.operators", "whittle/funcs.names"], plainKeys := false, apart := false, laid := [("whittle/funcs.names", laid_whittle_funcs_names), ("whittle/tree.operators", laid_whittle_tree_operators)], narrowed := true }
def CodeHomesUptoSaid : Prop := codeHomesUptoRow.holds Tryz.pinned (OpenSpec.upto codeHomesSpec)

end Rows
end Go.Proofs.YtnloiaoogofklaaGreatDoor
