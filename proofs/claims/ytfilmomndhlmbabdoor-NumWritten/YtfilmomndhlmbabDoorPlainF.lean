/- Plain facts on rounding. -/
import Derived.Test.YtfilmomndhlmbabDoorPlainE
namespace Go.Proofs.YtfilmomndhlmbabDoor.Wnum

/-- 10^k. -/
def tenP (k : Nat) : Int := 10 ^ k
theorem tenP_zero : tenP 0 = 1 := rfl
theorem tenP_succ (k : Nat) : tenP (k + 1) = tenP k * 10 := by unfold tenP; exact Int.pow_succ 10 k
theorem tenP_pos (k : Nat) : 1 ≤ tenP k := by
  induction k with
  | zero => exact Int.le_refl _
  | succ k ih => rw [tenP_succ]; omega
theorem tenP_mono (k n : Nat) : tenP k ≤ tenP (k + n) := by
  induction n with
  | zero => exact Int.le_refl _
  | succ n ih => rw [← Nat.add_assoc, tenP_succ]; have := tenP_pos (k + n); omega
theorem tenP_twelve : tenP 12 = 1000000000000 := by decide
theorem tenP_six : tenP 6 = 1000000 := by decide
theorem tenP_le12 {k : Nat} (h : k ≤ 12) : tenP k ≤ 1000000000000 := by
  have := tenP_mono k (12 - k)
  rw [show k + (12 - k) = 12 by omega, tenP_twelve] at this
  exact this
theorem tenP_le6 {k : Nat} (h : k ≤ 6) : tenP k ≤ 1000000 := by
  have := tenP_mono k (6 - k)
  rw [show k + (6 - k) = 6 by omega, tenP_six] at this
  exact this
/-- The units to which W / P is rounded. -/
def rq (W P : Int) : Int := if P - W % P ≤ W % P then W / P + 1 else W / P
/-- Round's answer. -/
def roundO (a b k : Int) : Option Rat :=
  if k < -12 ∨ 6 < k then none
  else if k < 0 then some (Rat.divInt ((cN a b).sign * rq ((cN a b).natAbs : Int) (cD a b * tenP (-k).toNat) * tenP (-k).toNat) 1)
  else some (Rat.divInt ((cN a b).sign * rq (((cN a b).natAbs : Int) * tenP k.toNat) (cD a b)) (tenP k.toNat))
theorem sign_bd (n : Int) : -1 ≤ n.sign ∧ n.sign ≤ 1 := by
  rcases Int.lt_trichotomy n 0 with h | h | h
  · rw [Int.sign_eq_neg_one_of_neg h]; omega
  · subst h; decide
  · rw [Int.sign_eq_one_of_pos h]; omega
theorem sgn_mul {s q B : Int} (h1 : -1 ≤ s) (h2 : s ≤ 1) (h3 : 0 ≤ q) (h4 : q ≤ B) : -B ≤ s * q ∧ s * q ≤ B := by
  obtain h | h | h : s = -1 ∨ s = 0 ∨ s = 1 := by omega
  · subst h; omega
  · subst h; omega
  · subst h; omega
theorem quo_facts {W P : Int} (hW : 0 ≤ W) (hP : 1 ≤ P) : 0 ≤ W / P ∧ W / P * P ≤ W ∧ 0 ≤ W % P ∧ W % P < P ∧ W / P ≤ W := by
  have h1 := Int.ediv_nonneg hW (show 0 ≤ P by omega)
  have h2 := Int.emod_nonneg W (show P ≠ 0 by omega)
  have h3 := Int.emod_lt_of_pos W (show 0 < P by omega)
  have h4 := Int.ediv_mul_add_emod W P
  have h5 := Int.ediv_le_self P hW
  omega
theorem rq_pos {W P : Int} (h : P - W % P ≤ W % P) : rq W P = W / P + 1 := if_pos h
theorem rq_neg {W P : Int} (h : ¬ P - W % P ≤ W % P) : rq W P = W / P := if_neg h
end Go.Proofs.YtfilmomndhlmbabDoor.Wnum
