/- Plain facts on powers of fractions. -/
import Derived.Test.YtfilmomndhlmbaaDoorPlainI
namespace Go.Proofs.YtfilmomndhlmbaaDoor.Wnum

/-- q^k, if there is one. -/
def powO (q : Rat) (k : Int) : Option Rat := if k < 0 then (if q = 0 then none else some (q⁻¹ ^ k.natAbs)) else some (q ^ k.natAbs)
theorem powO_zero (q : Rat) : powO q 0 = some 1 := by unfold powO; rw [if_neg (by omega)]; simp
theorem powO_none {k : Int} (h : k < 0) : powO 0 k = none := by unfold powO; rw [if_pos h, if_pos rfl]
theorem powO_neg {q : Rat} {k : Int} (h : k < 0) (hq : q ≠ 0) : powO q k = some (q⁻¹ ^ k.natAbs) := by unfold powO; rw [if_pos h, if_neg hq]
theorem powO_pos {q : Rat} {k : Int} (h : 0 ≤ k) : powO q k = some (q ^ k.natAbs) := by unfold powO; rw [if_neg (by omega)]
theorem powO_null {k : Int} (h : 0 < k) : powO 0 k = some 0 := by
  rw [powO_pos (by omega)]
  obtain ⟨n, hn⟩ : ∃ n, k.natAbs = n + 1 := ⟨k.natAbs - 1, by omega⟩
  rw [hn, Rat.pow_succ, Rat.mul_zero]
theorem pow_num {r : Rat} {n : Int} (h : r.num = n) (K : Nat) : (r ^ K).num = pw n K := by rw [Rat.num_pow, h]; rfl
theorem pow_den {r : Rat} {d : Int} (h : (r.den : Int) = d) (K : Nat) : (((r ^ K).den : Nat) : Int) = pw d K := by
  rw [Rat.den_pow, ← h]; unfold pw; exact Int.natCast_pow ..
theorem pw_pos {d : Int} (h : 1 ≤ d) (K : Nat) : 1 ≤ pw d K := by
  induction K with
  | zero => rw [pw_zero]; omega
  | succ K ih => rw [pw_succ]; have := Int.mul_le_mul ih h (by omega) (by omega); omega
theorem pow_ok {r : Rat} {n d : Int} (hn : r.num = n) (hd : (r.den : Int) = d) (h1 : 1 ≤ d) (K : Nat) : okQ (r ^ K) = (wB n K 1000000000000 && wB d K 1000000) := by
  have e1 := pow_num hn K
  have e2 := pow_den hd K
  have e3 := pw_pos h1 K
  cases h : okQ (r ^ K) with
  | true =>
    have := ok_iff.1 h
    rw [(wB_in (p := n) (m := 1000000000000) (K := K) (by omega)).1, (wB_in (p := d) (m := 1000000) (K := K) (by omega)).1]; rfl
  | false =>
    by_cases c1 : (pw n K).natAbs ≤ 1000000000000
    · by_cases c2 : (pw d K).natAbs ≤ 1000000
      · exfalso
        have : okQ (r ^ K) = true := ok_iff.2 (by omega)
        rw [h] at this; cases this
      · have : wB d K 1000000 = false := by unfold wB; rw [decide_eq_false_iff_not]; omega
        rw [this, Bool.and_false]
    · have : wB n K 1000000000000 = false := by unfold wB; rw [decide_eq_false_iff_not]; omega
      rw [this, Bool.false_and]
theorem pow_over {r : Rat} {n d : Int} {K : Nat} (hn : r.num = n) (hd : (r.den : Int) = d) (h1 : 1 ≤ d) (h : (wB n K 1000000000000 && wB d K 1000000) = false) :
    oN (some (r ^ K)) = 0 ∧ oD (some (r ^ K)) = 0 ∧ oB (some (r ^ K)) = false := oNn (by rw [pow_ok hn hd h1, h])
theorem pow_in {r : Rat} {n d : Int} {K : Nat} (hn : r.num = n) (hd : (r.den : Int) = d) (h1 : 1 ≤ d) (h2 : wB n K 1000000000000 = true) (h3 : wB d K 1000000 = true) :
    oN (some (r ^ K)) = wN n K 1000000000000 ∧ oD (some (r ^ K)) = wN d K 1000000 ∧ oB (some (r ^ K)) = true := by
  obtain ⟨e1, e2, e3⟩ := oNs (r := r ^ K) (by rw [pow_ok hn hd h1, h2, h3]; rfl)
  rw [e1, e2, e3, pow_num hn, pow_den hd]
  unfold wN
  rw [if_pos h2, if_pos h3]
  exact ⟨rfl, rfl, rfl⟩
theorem pw_much {p : Int} {K : Nat} (hp : 2 ≤ p.natAbs) (hK : 40 ≤ K) : 1099511627776 ≤ (pw p K).natAbs := by
  have h0 := pw_abs_mono (p := p) (by omega) 40 (K - 40)
  rw [show 40 + (K - 40) = K by omega] at h0
  refine Nat.le_trans ?_ h0
  unfold pw
  rw [Int.natAbs_pow]
  exact Nat.le_trans (by decide : 1099511627776 ≤ 2 ^ 40) (Nat.pow_le_pow_left hp 40)
theorem pow_far {r : Rat} {n d : Int} {K : Nat} (hn : r.num = n) (hd : (r.den : Int) = d) (h1 : 1 ≤ d) (h : 2 ≤ n.natAbs ∨ 2 ≤ d) (hK : 40 ≤ K) :
    oN (some (r ^ K)) = 0 ∧ oD (some (r ^ K)) = 0 ∧ oB (some (r ^ K)) = false := by
  refine pow_over hn hd h1 ?_
  rcases h with h | h
  · have := pw_much h hK
    have e : wB n K 1000000000000 = false := by unfold wB; rw [decide_eq_false_iff_not]; omega
    rw [e, Bool.false_and]
  · have := pw_much (p := d) (by omega) hK
    have e : wB d K 1000000 = false := by unfold wB; rw [decide_eq_false_iff_not]; omega
    rw [e, Bool.and_false]
theorem pw_one_even {p : Int} (hp : p.natAbs = 1) (n : Nat) : pw p (2 * n) = 1 := by
  induction n with
  | zero => exact pw_zero p
  | succ n ih =>
    rw [show 2 * (n + 1) = 2 * n + 1 + 1 by omega, pw_succ, pw_succ, ih]
    rcases (by omega : p = 1 ∨ p = -1) with h | h <;> rw [h] <;> rfl
theorem pw_one_odd {p : Int} (hp : p.natAbs = 1) (n : Nat) : pw p (2 * n + 1) = p := by
  rw [pw_succ, pw_one_even hp, Int.one_mul]
theorem qu_eq_zero {a b : Int} : qu a b = 0 ↔ cN a b = 0 := by
  rw [← qu_num]; exact Rat.num_eq_zero.symm
theorem c_null {a b : Int} (h : cN a b = 0) : cD a b = 1 := by
  have := c_gcd a b
  have h2 := cD_bd a b
  rw [h, Int.gcd_zero_left] at this; omega
/-- The base of a power. -/
theorem inv_parts {a b : Int} (h : cN a b ≠ 0) : (qu a b)⁻¹.num = (cN a b).sign * cD a b ∧ (((qu a b)⁻¹.den : Nat) : Int) = (cN a b).natAbs := by
  rw [Rat.num_inv, Rat.den_inv, qu_num, qu_den, if_neg h]
  exact ⟨rfl, rfl⟩
end Go.Proofs.YtfilmomndhlmbaaDoor.Wnum
