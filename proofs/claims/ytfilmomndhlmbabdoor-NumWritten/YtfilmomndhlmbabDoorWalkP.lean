/- The contracts of Mod. -/
import Derived.Test.YtfilmomndhlmbabDoorWalkO
import Derived.Test.YtfilmomndhlmbabDoorWalkH
import Derived.Test.YtfilmomndhlmbabDoorPlainE
namespace Go.Proofs.YtfilmomndhlmbabDoor
open Go.RowKit
set_option linter.unusedVariables false

theorem y_zero (a b c d : Int) : Wnum.cN c d * Wnum.cD a b = 0 ↔ Wnum.cN c d = 0 := by
  have := Wnum.cD_bd a b
  rw [Int.mul_eq_zero]
  omega

end Go.Proofs.YtfilmomndhlmbabDoor