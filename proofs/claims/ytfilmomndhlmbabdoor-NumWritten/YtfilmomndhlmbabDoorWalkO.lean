/- The contracts of the reference's Abs, Whole, floored, Floor. -/
import Derived.Test.YtfilmomndhlmbabDoorWalkN
import Derived.Test.YtfilmomndhlmbabDoorWalkG
namespace Go.Proofs.YtfilmomndhlmbabDoor
open Go.RowKit
set_option linter.unusedVariables false

theorem tdiv_mul {n d : Int} : n.tdiv d * d = n - n.tmod d := by
  have := Int.tdiv_mul_add_tmod n d
  omega
theorem tmod_abs (n d : Int) : (n.tmod d).natAbs ≤ n.natAbs := by
  rw [Int.natAbs_tmod]; exact Nat.mod_le _ _
/-- The two ways of floored. -/
theorem floored_cases {n d : Int} (hd : 1 ≤ d) : (decide (n < n.tdiv d * d) = true ∧ n.tdiv d - 1 = n / d) ∨ (decide (n < n.tdiv d * d) = false ∧ n.tdiv d = n / d) := by
  rw [tdiv_mul]
  by_cases hn : 0 ≤ n
  · right
    have := Int.tmod_nonneg d hn
    exact ⟨by simp; omega, Int.tdiv_eq_ediv_of_nonneg hn⟩
  · rcases floor_tdiv hd (show n < 0 by omega) with ⟨h1, h2⟩ | ⟨h1, h2⟩
    · exact Or.inl ⟨by simp; omega, h2⟩
    · exact Or.inr ⟨by simp; omega, h2⟩

end Go.Proofs.YtfilmomndhlmbabDoor