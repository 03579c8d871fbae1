/- Plain facts on what is left by a division. -/
import Derived.Test.YtfilmomndhlmbabDoorPlainD
namespace Go.Proofs.YtfilmomndhlmbabDoor.Wnum

theorem mod_cases {x y : Int} (hy : y ≠ 0) : (x.tmod y = 0 ∧ x.fmod y = x.tmod y) ∨ (x.tmod y < 0 ∧ y < 0 ∧ x.fmod y = x.tmod y) ∨ (0 < x.tmod y ∧ 0 < y ∧ x.fmod y = x.tmod y) ∨ (x.tmod y < 0 ∧ 0 < y ∧ x.fmod y = x.tmod y + y) ∨ (0 < x.tmod y ∧ y < 0 ∧ x.fmod y = x.tmod y + y) := by
  have e := Int.fmod_eq_tmod (a := x) (b := y)
  by_cases h : y ∣ x
  · have h0 := Int.tmod_eq_zero_of_dvd h
    rw [if_pos h] at e
    exact Or.inl ⟨h0, by omega⟩
  · rw [if_neg h] at e
    have hT : x.tmod y ≠ 0 := fun k => h (Int.dvd_of_tmod_eq_zero k)
    by_cases hx : 0 ≤ x
    · have := Int.tmod_nonneg y hx
      rw [if_pos hx] at e
      by_cases hy0 : 0 ≤ y
      · rw [if_pos hy0] at e; omega
      · rw [if_neg hy0] at e; omega
    · have h1 := Int.tmod_nonneg y (show 0 ≤ -x by omega)
      rw [Int.neg_tmod] at h1
      rw [if_neg hx] at e
      by_cases hy0 : 0 ≤ y
      · rw [if_pos hy0] at e; omega
      · rw [if_neg hy0] at e; omega
theorem fmod_pos {x y : Int} (hy : 0 < y) : x - y * (x / y) = x.fmod y := by
  rw [Int.fmod_eq_emod_of_nonneg x (by omega), Int.emod_def]
theorem fmod_neg {x y : Int} (hy : y < 0) : -(-x - -y * (-x / -y)) = x.fmod y := by
  have := fmod_pos (x := -x) (y := -y) (by omega)
  rw [this, Int.neg_fmod_neg]; omega
/-- Mod's answer. -/
def modO (a b c d : Int) : Option Rat := if cN c d = 0 then none else some (Rat.divInt ((cN a b * cD c d).fmod (cN c d * cD a b)) (cD a b * cD c d))
theorem modO_zero {a b c d : Int} (h : cN c d = 0) : modO a b c d = none := if_pos h
theorem modO_some {a b c d : Int} (h : cN c d ≠ 0) : modO a b c d = some (Rat.divInt ((cN a b * cD c d).fmod (cN c d * cD a b)) (cD a b * cD c d)) := if_neg h
end Go.Proofs.YtfilmomndhlmbabDoor.Wnum
