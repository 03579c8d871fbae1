/- The contract of the reference's Mod. -/
import Derived.Test.YtfilmomndhlmbabDoorWalkP
namespace Go.Proofs.YtfilmomndhlmbabDoor
open Go.RowKit
set_option linter.unusedVariables false

theorem left_bd {x y : Int} (hy : 1 ≤ y) (h1 : -1000000000000000000 ≤ x) (h2 : x ≤ 1000000000000000000) (hy2 : y ≤ 1000000000000000000) :
    -2000000000000000000 ≤ y * (x / y) ∧ y * (x / y) ≤ 2000000000000000000 ∧ 0 ≤ x - y * (x / y) ∧ x - y * (x / y) ≤ 1000000000000000000 := by
  have e := Int.emod_def x y
  have h3 := Int.emod_nonneg x (show y ≠ 0 by omega)
  have h4 := Int.emod_lt_of_pos x (show 0 < y by omega)
  omega

end Go.Proofs.YtfilmomndhlmbabDoor