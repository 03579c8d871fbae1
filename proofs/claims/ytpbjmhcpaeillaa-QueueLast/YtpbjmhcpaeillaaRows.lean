/-
  No cell of these rows narrows 'for every input' (looked for: loops, veiled, ifaces, maps, wideKeys, modest, calm, conditions, laid).
  DERIVED. THE GIVEN ROWS OF THIS SEAT. 5 by the template 'for every input the law returns true; each argument reads behind the call as it read before'; 0 by the template 'total and deterministic' (their statements: YtpbjmhcpaeillaaTotals.lean).
  GIVEN WITH THE SEED: the statements are not yours to turn. If you find one false, say at which input.
  Laid BY PROGRAM, IN A SANDBOX (cutbox-rows.mjs): the forced cells as the released guide's own fill.sh prints them over the translation a1aeab3b6c0ac8d5… (all of the seat's roots in one cut). By AI agents, Wed Nov 11 2026. No macro, syntax, notation, axiom, sorry.
-/
import Derived.Test.YtpbjmhcpaeillaaChecked
import GoSem.Claim
import GoSem.ClaimJoined
import GoSem.ClaimMapViews
import Derived.JoinedTies
import Derived.KernelRfl
namespace Go.Proofs.Ytpbjmhcpaeillaa
/- THE CELL 'sum', in the pinned program and in every row, IS THE sha256 OF THE DUMP (.gsa) THAT YtpbjmhcpaeillaaProg.lean LOADS. Nothing in Lean hashes anything: it is a label: what it is worth is what the hold of that sum in a sandbox is worth. -/
noncomputable def Try.pinned : Pinned := { name := "ytpbjmhcpaeillaa", sum := "a1aeab3b6c0ac8d5aa8b6678866ee10054dbace142bdbf401115fca5d19dc5ed", checked := Try.checked }
namespace Rows
def none {H : Type} : Left H := { results := [], args := [] }

/-- 'whittlelaw14.QueuePlays': WHATEVER THE INPUT: true; the input reads as it did. -/
def queuePlaysSpec : ChangeSpec := { name := "queuePlays", fn := fun _ => fun
  | [d] => { results := [.lit (.bool true)], args := [d] }
  | _ => none }
def queuePlaysRow : OpenClaim := { program := "ytpbjmhcpaeillaa", sum := "a1aeab3b6c0ac8d5aa8b6678866ee10054dbace142bdbf401115fca5d19dc5ed", func := "whittle/whittlelaw14.QueuePlays", spec := "queuePlays", unfollowed := true, recurses := true, plainKeys := false, apart := false }
def QueuePlaysSaid : Prop := queuePlaysRow.holds Try.pinned (OpenSpec.ofChange queuePlaysSpec)

/-- ITS FALSE NEIGHBOUR: 'it returns false'. Refute it at one input. -/
def queuePlaysWrong : ChangeSpec := { name := "queuePlays", fn := fun _ => fun
  | [d] => { results := [.lit (.bool false)], args := [d] }
  | _ => none }
def QueuePlaysWrongFalsely : Prop := queuePlaysRow.holds Try.pinned (OpenSpec.ofChange queuePlaysWrong)

/-- 'whittlelaw14.QueueRises': WHATEVER THE INPUT: true; the input reads as it did. -/
def queueRisesSpec : ChangeSpec := { name := "queueRises", fn := fun _ => fun
  | [d1, d2] => { results := [.lit (.bool true)], args := [d1, d2] }
  | _ => none }
def queueRisesRow : OpenClaim := { program := "ytpbjmhcpaeillaa", sum := "a1aeab3b6c0ac8d5aa8b6678866ee10054dbace142bdbf401115fca5d19dc5ed", func := "whittle/whittlelaw14.QueueRises", spec := "queueRises", unfollowed := true, recurses := true, plainKeys := false, apart := false }
def QueueRisesSaid : Prop := queueRisesRow.holds Try.pinned (OpenSpec.ofChange queueRisesSpec)

/-- ITS FALSE NEIGHBOUR: 'it returns false'. Refute it at one input. -/
def queueRisesWrong : ChangeSpec := { name := "queueRises", fn := fun _ => fun
  | [d1, d2] => { results := [.lit (.bool false)], args := [d1, d2] }
  | _ => none }
def QueueRisesWrongFalsely : Prop := queueRisesRow.holds Try.pinned (OpenSpec.ofChange queueRisesWrong)

/-- 'whittlelaw14.QueueDrains': WHATEVER THE INPUT: true; the input reads as it did. -/
def queueDrainsSpec : ChangeSpec := { name := "queueDrains", fn := fun _ => fun
  | [d] => { results := [.lit (.bool true)], args := [d] }
  | _ => none }
def queueDrainsRow : OpenClaim := { program := "ytpbjmhcpaeillaa", sum := "a1aeab3b6c0ac8d5aa8b6678866ee10054dbace142bdbf401115fca5d19dc5ed", func := "whittle/whittlelaw14.QueueDrains", spec := "queueDrains", unfollowed := true, recurses := true, plainKeys := false, apart := false }
def QueueDrainsSaid : Prop := queueDrainsRow.holds Try.pinned (OpenSpec.ofChange queueDrainsSpec)

/-- ITS FALSE NEIGHBOUR: 'it returns false'. Refute it at one input. -/
def queueDrainsWrong : ChangeSpec := { name := "queueDrains", fn := fun _ => fun
  | [d] => { results := [.lit (.bool false)], args := [d] }
  | _ => none }
def QueueDrainsWrongFalsely : Prop := queueDrainsRow.holds Try.pinned (OpenSpec.ofChange queueDrainsWrong)

/-- 'whittlelaw14.QueueLast': WHATEVER THE INPUT: true; the input reads as it did. -/
def queueLastSpec : ChangeSpec := { name := "queueLast", fn := fun _ => fun
  | [d1, d2] => { results := [.lit (.bool true)], args := [d1, d2] }
  | _ => none }
def queueLastRow : OpenClaim := { program := "ytpbjmhcpaeillaa", sum := "a1aeab3b6c0ac8d5aa8b6678866ee10054dbace142bdbf401115fca5d19dc5ed", func := "whittle/whittlelaw14.QueueLast", spec := "queueLast", unfollowed := true, recurses := true, plainKeys := false, apart := false }
def QueueLastSaid : Prop := queueLastRow.holds Try.pinned (OpenSpec.ofChange queueLastSpec)

/-- ITS FALSE NEIGHBOUR: 'it returns false'. Refute it at one input. -/
def queueLastWrong : ChangeSpec := { name := "queueLast", fn := fun _ => fun
  | [d1, d2] => { results := [.lit (.bool false)], args := [d1, d2] }
  | _ => none }
def QueueLastWrongFalsely : Prop := queueLastRow.holds Try.pinned (OpenSpec.ofChange queueLastWrong)

/-- 'whittlelaw14.QueueFresh': WHATEVER THE INPUT: true; the input reads as it did. -/
def queueFreshSpec : ChangeSpec := { name := "queueFresh", fn := fun _ => fun
  | [d] => { results := [.lit (.bool true)], args := [d] }
  | _ => none }
def queueFreshRow : OpenClaim := { program := "ytpbjmhcpaeillaa", sum := "a1aeab3b6c0ac8d5aa8b6678866ee10054dbace142bdbf401115fca5d19dc5ed", func := "whittle/whittlelaw14.QueueFresh", spec := "queueFresh", unfollowed := true, recurses := true, plainKeys := false, apart := false }
def QueueFreshSaid : Prop := queueFreshRow.holds Try.pinned (OpenSpec.ofChange queueFreshSpec)

/-- ITS FALSE NEIGHBOUR: 'it returns false'. Refute it at one input. -/
def queueFreshWrong : ChangeSpec := { name := "queueFresh", fn := fun _ => fun
  | [d] => { results := [.lit (.bool false)], args := [d] }
  | _ => none }
def QueueFreshWrongFalsely : Prop := queueFreshRow.holds Try.pinned (OpenSpec.ofChange queueFreshWrong)

/- THE SECOND FORM. 'bulk': how many values and letters a reading holds, each counted each time it is reached (what is shared counts as often as it is met; a slice's spare places count too). A statement '..UptoSaid' is the law's where the arguments, and the package variables that the reading takes, are together of bulk at most 1048576: NARROWER than '..Said'. Prove '..Said' where nothing that the law and all that it calls make is longer than what came in: it says more and counts as full. Else prove '..UptoSaid'. A law counts once. -/
mutual
def uptoBulk {H : Type} : DataW H → Nat
  | .lit (.string bytes) => bytes.length + 1
  | .lit _ => 1
  | .nil => 1
  | .ptr d => uptoBulk d + 1
  | .slice elems spare => uptoBulkAll elems + uptoBulkAll spare + 1
  | .agg parts => uptoBulkAll parts + 1
  | .iface _ d => uptoBulk d + 1
  | .map entries => uptoBulkEntries entries + 1
  | .held _ => 1
def uptoBulkAll {H : Type} : List (DataW H) → Nat
  | [] => 0
  | d :: r => uptoBulk d + uptoBulkAll r
def uptoBulkEntries {H : Type} : List (Lit × DataW H) → Nat
  | [] => 0
  | x :: r => uptoBulkEntry x + uptoBulkEntries r
def uptoBulkEntry {H : Type} : Lit × DataW H → Nat
  | (.string bytes, d) => bytes.length + uptoBulk d + 1
  | (_, d) => uptoBulk d + 1
 end
def uptoSmall : (H : Type) → List (DataW H) → Bool := fun _ ds => decide (uptoBulkAll ds ≤ 1048576)
def OpenSpec.upto (s : _root_.Go.ChangeSpec) : _root_.Go.OpenSpec := { _root_.Go.OpenSpec.ofChange s with cond := some uptoSmall }

/-- 'whittlelaw14.QueuePlays', WHERE WHAT IT READS IS OF BULK AT MOST 1048576: true; the input reads as it did. -/
def queuePlaysUptoRow : OpenClaim := { program := "ytpbjmhcpaeillaa", sum := "a1aeab3b6c0ac8d5aa8b6678866ee10054dbace142bdbf401115fca5d19dc5ed", func := "whittle/whittlelaw14.QueuePlays", spec := "queuePlays", unfollowed := true, recurses := true, plainKeys := false, apart := false, narrowed := true }
def QueuePlaysUptoSaid : Prop := queuePlaysUptoRow.holds Try.pinned (OpenSpec.upto queuePlaysSpec)

/-- 'whittlelaw14.QueueRises', WHERE WHAT IT READS IS OF BULK AT MOST 1048576: true; the input reads as it did. -/
def queueRisesUptoRow : OpenClaim := { program := "ytpbjmhcpaeillaa", sum := "a1aeab3b6c0ac8d5aa8b6678866ee10054dbace142bdbf401115fca5d19dc5ed", func := "whittle/whittlelaw14.QueueRises", spec := "queueRises", unfollowed := true, recurses := true, plainKeys := false, apart := false, narrowed := true }
def QueueRisesUptoSaid : Prop := queueRisesUptoRow.holds Try.pinned (OpenSpec.upto queueRisesSpec)

/-- 'whittlelaw14.QueueDrains', WHERE WHAT IT READS IS OF BULK AT MOST 1048576: true; the input reads as it did. -/
def queueDrainsUptoRow : OpenClaim := { program := "ytpbjmhcpaeillaa", sum := "a1aeab3b6c0ac8d5aa8b6678866ee10054dbace142bdbf401115fca5d19dc5ed", func := "whittle/whittlelaw14.QueueDrains", spec := "queueDrains", unfollowed := true, recurses := true, plainKeys := false, apart := false, narrowed := true }
def QueueDrainsUptoSaid : Prop := queueDrainsUptoRow.holds Try.pinned (OpenSpec.upto queueDrainsSpec)

/-- 'whittlelaw14.QueueLast', WHERE WHAT IT READS IS OF BULK AT MOST 1048576: true; the input reads as it did. -/
def queueLastUptoRow : OpenClaim := { program := "ytpbjmhcpaeillaa", sum := "a1aeab3b6c0ac8d5aa8b6678866ee10054dbace142bdbf401115fca5d19dc5ed", func := "whittle/whittlelaw14.QueueLast", spec := "queueLast", unfollowed := true, recurses := true, plainKeys := false, apart := false, narrowed := true }
def QueueLastUptoSaid : Prop := queueLastUptoRow.holds Try.pinned (OpenSpec.upto queueLastSpec)

/-- 'whittlelaw14.QueueFresh', WHERE WHAT IT READS IS OF BULK AT MOST 1048576: true; the input reads as it did. -/
def queueFreshUptoRow : OpenClaim := { program := "ytpbjmhcpaeillaa", sum := "a1aeab3b6c0ac8d5aa8b6678866ee10054dbace142bdbf401115fca5d19dc5ed", func := "whittle/whittlelaw14.QueueFresh", spec := "queueFresh", unfollowed := true, recurses := true, plainKeys := false, apart := false, narrowed := true }
def QueueFreshUptoSaid : Prop := queueFreshUptoRow.holds Try.pinned (OpenSpec.upto queueFreshSpec)

end Rows
end Go.Proofs.Ytpbjmhcpaeillaa
