/- The contracts of product, Mul and Div. -/
import Derived.Test.YtfilmomndhlmbabDoorWalkJ
import Derived.Test.YtfilmomndhlmbabDoorPlainD
namespace Go.Proofs.YtfilmomndhlmbabDoor
open Go.RowKit
set_option linter.unusedVariables false

def pB (p q m : Int) : Bool := decide ((p * q).natAbs ≤ m.natAbs)
def pN (p q m : Int) : Int := if pB p q m = true then p * q else 0
theorem pB_zero (p m : Int) : pB p 0 m = true := by unfold pB; simp
theorem pB_over {p q m : Int} (hm : 0 ≤ m) (hq : q ≠ 0) : (m / (q.natAbs : Int) < (p.natAbs : Int)) ↔ pB p q m = false := by
  rw [Int.ediv_lt_iff_lt_mul (by omega)]
  unfold pB
  rw [decide_eq_false_iff_not, Int.natAbs_mul]
  have e : (p.natAbs : Int) * (q.natAbs : Int) = ((p.natAbs * q.natAbs : Nat) : Int) := by simp
  rw [e]
  omega

end Go.Proofs.YtfilmomndhlmbabDoor