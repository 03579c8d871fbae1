/- Plain facts on a power as many products. -/
import Derived.Test.YtfilmomndhlmbaaDoorPlainG
import Derived.Test.YtfilmomndhlmbaaDoorPlainJ
namespace Go.Proofs.YtfilmomndhlmbaaDoor.Wnum

theorem pow_ok_zero (q : Rat) : okQ (q ^ 0) = true := by rw [Rat.pow_zero]; decide +kernel
theorem null_pow (k : Nat) : okQ ((0 : Rat) ^ k) = true := by
  cases k with
  | zero => exact pow_ok_zero 0
  | succ k => rw [Rat.pow_succ, Rat.mul_zero]; decide +kernel
theorem pow_mono {q : Rat} {i k : Nat} (h : i ≤ k) (hb : okQ (q ^ i) = false) : okQ (q ^ k) = false := by
  by_cases hq : q = 0
  · subst hq; rw [null_pow] at hb; cases hb
  · have hn : q.num ≠ 0 := fun e => hq (Rat.num_eq_zero.1 e)
    have hd := q.den_pos
    cases hk : okQ (q ^ k) with
    | false => rfl
    | true =>
      exfalso
      have h1 := ok_iff.1 hk
      rw [pow_num rfl, pow_den rfl] at h1
      have m1 := pw_abs_mono hn i (k - i)
      have m2 := pw_abs_mono (p := (q.den : Int)) (by omega) i (k - i)
      rw [show i + (k - i) = k by omega] at m1 m2
      have p1 := pw_pos (d := (q.den : Int)) (by omega) i
      have p2 := pw_pos (d := (q.den : Int)) (by omega) k
      have : okQ (q ^ i) = true := ok_iff.2 (by rw [pow_num rfl, pow_den rfl]; omega)
      rw [hb] at this; cases this
theorem pow_same {q : Rat} {i k : Nat} (h : i ≤ k) (hb : oB (some (q ^ i)) = false) : oN (some (q ^ i)) = oN (some (q ^ k)) ∧ oD (some (q ^ i)) = oD (some (q ^ k)) ∧ oB (some (q ^ i)) = oB (some (q ^ k)) := by
  obtain ⟨a1, a2, a3⟩ := oNn (r := q ^ i) hb
  obtain ⟨b1, b2, b3⟩ := oNn (r := q ^ k) (pow_mono h hb)
  rw [a1, a2, a3, b1, b2, b3]
  exact ⟨rfl, rfl, rfl⟩
theorem inv_pow (q : Rat) (k : Nat) : q⁻¹ ^ k = (q ^ k)⁻¹ := by
  induction k with
  | zero => rw [Rat.pow_zero, Rat.pow_zero]; decide +kernel
  | succ k ih => rw [Rat.pow_succ, ih, Rat.pow_succ, Rat.inv_mul_rev, Rat.mul_comm]
theorem pow_ne {q : Rat} (hq : q ≠ 0) (k : Nat) : q ^ k ≠ 0 := by
  intro e
  have h := congrArg Rat.num e
  rw [pow_num rfl] at h
  have h2 := pw_abs_mono (p := q.num) (fun x => hq (Rat.num_eq_zero.1 x)) 0 k
  rw [pw_zero, Nat.zero_add, h] at h2
  exact absurd h2 (by decide)
theorem powO_back {q : Rat} (hq : q ≠ 0) (k : Nat) : powO q (-(k : Int)) = some (1 / q ^ k) := by
  cases k with
  | zero => rw [show (-((0 : Nat) : Int)) = 0 by rfl, powO_zero, Rat.pow_zero, show (1 : Rat) / 1 = 1 by decide +kernel]
  | succ k =>
    rw [powO_neg (by omega) hq, inv_pow, Rat.div_def, Rat.one_mul]
    rw [show (-((k + 1 : Nat) : Int)).natAbs = k + 1 by omega]
theorem powO_nat (q : Rat) (k : Nat) : powO q (k : Int) = some (q ^ k) := by
  rw [powO_pos (by omega), Int.natAbs_natCast]
theorem qu_11 : qu 1 1 = 1 := by decide +kernel
/-- One round: the product with one factor more. -/
theorem pow_step {a b : Int} {q : Rat} (hq : qu a b = q) {j : Nat} (h : oB (some (q ^ j)) = true) : qu (oN (some (q ^ j))) (oD (some (q ^ j))) * qu a b = q ^ (j + 1) := by
  rw [qu_o h, hq, Rat.pow_succ]
/-- One through a power. -/
theorem one_over {q : Rat} (hq : q ≠ 0) {k : Nat} (h : oB (some (q ^ k)) = true) :
    mk (cN 1 1 * cD (oN (some (q ^ k))) (oD (some (q ^ k)))) (cN (oN (some (q ^ k))) (oD (some (q ^ k))) * cD 1 1) = powO q (-(k : Int)) := by
  rw [powO_back hq, div_qu, qu_11, qu_o h]
  intro e
  have := qu_eq_zero.2 e
  rw [qu_o h] at this
  exact pow_ne hq k this
end Go.Proofs.YtfilmomndhlmbaaDoor.Wnum
