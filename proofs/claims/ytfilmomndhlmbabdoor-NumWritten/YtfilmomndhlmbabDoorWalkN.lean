/- The contracts of Neg, Abs, Whole, Floor. -/
import Derived.Test.YtfilmomndhlmbabDoorAtKit
import Derived.Test.YtfilmomndhlmbabDoorPlainD
namespace Go.Proofs.YtfilmomndhlmbabDoor
open Go.RowKit
set_option linter.unusedVariables false

theorem floor_tdiv {n d : Int} (hd : 1 ≤ d) (hn : n < 0) : (n.tmod d < 0 ∧ n.tdiv d - 1 = n / d) ∨ (n.tmod d = 0 ∧ n.tdiv d = n / d) := by
  by_cases h : d ∣ n
  · right
    exact ⟨Int.tmod_eq_zero_of_dvd h, Int.tdiv_eq_ediv_of_dvd h⟩
  · left
    have h0 : ¬ (0 ≤ n ∨ d ∣ n) := fun k => k.elim (by omega) h
    have hs : d.sign = 1 := Int.sign_eq_one_of_pos (by omega)
    have e1 := Int.tdiv_eq_ediv (a := n) (b := d)
    have e2 := Int.tmod_eq_emod (a := n) (b := d)
    rw [if_neg h0, hs] at e1
    rw [if_neg h0] at e2
    have e3 := Int.emod_lt_of_pos n (show 0 < d by omega)
    refine ⟨?_, by omega⟩
    rw [e2]
    omega
theorem tdiv_bd {n d : Int} (h1 : -1000000000000000000 ≤ n) (h2 : n ≤ 1000000000000000000) : -1000000000000000000 ≤ n.tdiv d ∧ n.tdiv d ≤ 1000000000000000000 := by
  have : (n.tdiv d).natAbs ≤ n.natAbs := Int.natAbs_tdiv_le_natAbs ..
  omega
theorem ediv_bd {n d : Int} (hd : 1 ≤ d) (h1 : -1000000000000000000 ≤ n) (h2 : n ≤ 1000000000000000000) : -1000000000000000000 ≤ n / d ∧ n / d ≤ 1000000000000000000 := by
  constructor
  · rw [Int.le_ediv_iff_mul_le (by omega)]
    have := Int.mul_le_mul_of_nonneg_left hd (show (0 : Int) ≤ 1000000000000000000 by omega)
    omega
  · have := Int.ediv_le_ediv (show 0 < d by omega) h2
    have := Int.ediv_le_self (a := 1000000000000000000) d (by omega)
    omega

end Go.Proofs.YtfilmomndhlmbabDoor