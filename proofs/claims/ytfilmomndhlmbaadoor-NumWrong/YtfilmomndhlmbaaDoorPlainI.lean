/- Plain facts on powers of whole numbers. -/
import Derived.Test.YtfilmomndhlmbaaDoorPlainF
namespace Go.Proofs.YtfilmomndhlmbaaDoor.Wnum

/-- p^k, under a name. -/
def pw (p : Int) (k : Nat) : Int := p ^ k
theorem pw_zero (p : Int) : pw p 0 = 1 := by unfold pw; exact Int.pow_zero p
theorem pw_succ (p : Int) (k : Nat) : pw p (k + 1) = pw p k * p := Int.pow_succ p k
theorem pw_abs_mono {p : Int} (hp : p ≠ 0) (k n : Nat) : (pw p k).natAbs ≤ (pw p (k + n)).natAbs := by
  induction n with
  | zero => exact Nat.le_refl _
  | succ n ih =>
    rw [← Nat.add_assoc, pw_succ, Int.natAbs_mul]
    have h1 : 1 ≤ p.natAbs := by omega
    exact Nat.le_trans ih (Nat.le_mul_of_pos_right _ h1)
/-- Does p^k fit below m? And what is told then. -/
def wB (p : Int) (k : Nat) (m : Int) : Bool := decide ((pw p k).natAbs ≤ m.natAbs)
def wN (p : Int) (k : Nat) (m : Int) : Int := if wB p k m = true then pw p k else 0
theorem wB_over {p m : Int} {j K : Nat} (hp : p ≠ 0) (hj : j ≤ K) (h : ¬ (pw p j).natAbs ≤ m.natAbs) : wB p K m = false ∧ wN p K m = 0 := by
  have h1 := pw_abs_mono hp j (K - j)
  rw [show j + (K - j) = K by omega] at h1
  have h2 : wB p K m = false := by unfold wB; rw [decide_eq_false_iff_not]; omega
  exact ⟨h2, by unfold wN; rw [h2]; rfl⟩
theorem wB_in {p m : Int} {K : Nat} (h : (pw p K).natAbs ≤ m.natAbs) : wB p K m = true ∧ wN p K m = pw p K := by
  have h2 : wB p K m = true := by unfold wB; exact decide_eq_true h
  exact ⟨h2, by unfold wN; rw [h2]; rfl⟩
end Go.Proofs.YtfilmomndhlmbaaDoor.Wnum
