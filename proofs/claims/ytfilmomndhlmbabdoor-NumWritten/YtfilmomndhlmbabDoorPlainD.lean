/- Plain facts on products and quotients, told by parts. -/
import Derived.Test.YtfilmomndhlmbabDoorPlainC
namespace Go.Proofs.YtfilmomndhlmbabDoor.Wnum

theorem quo_pos {x g : Int} (hx : 1 ≤ x) (hg : g ∣ x) (h1 : 1 ≤ g) : 1 ≤ x / g ∧ x / g ≤ x := by
  obtain ⟨k, rfl⟩ := hg
  rw [Int.mul_ediv_cancel_left _ (by omega)]
  have hk : 1 ≤ k := by
    rcases Int.lt_or_le 0 k with h | h
    · omega
    · have : g * k ≤ g * 0 := Int.mul_le_mul_of_nonneg_left h (by omega)
      omega
  refine ⟨hk, ?_⟩
  have : 1 * k ≤ g * k := Int.mul_le_mul_of_nonneg_right h1 (by omega)
  omega

/-- The facts of a product by parts, all above 0. -/
theorem crossN {x1 y1 x2 y2 : Int} (hx1 : 1 ≤ x1) (hy1 : 1 ≤ y1) (hx2 : 1 ≤ x2) (hy2 : 1 ≤ y2) (h1 : Int.gcd x1 y1 = 1) (h2 : Int.gcd x2 y2 = 1) :
    1 ≤ ((Int.gcd x1 y2 : Nat) : Int) ∧ 1 ≤ ((Int.gcd x2 y1 : Nat) : Int) ∧
    (1 ≤ x1 / ((Int.gcd x1 y2 : Nat) : Int) ∧ x1 / ((Int.gcd x1 y2 : Nat) : Int) ≤ x1) ∧ (1 ≤ x2 / ((Int.gcd x2 y1 : Nat) : Int) ∧ x2 / ((Int.gcd x2 y1 : Nat) : Int) ≤ x2) ∧
    (1 ≤ y1 / ((Int.gcd x2 y1 : Nat) : Int) ∧ y1 / ((Int.gcd x2 y1 : Nat) : Int) ≤ y1) ∧ (1 ≤ y2 / ((Int.gcd x1 y2 : Nat) : Int) ∧ y2 / ((Int.gcd x1 y2 : Nat) : Int) ≤ y2) ∧
    (Rat.divInt x1 y1 * Rat.divInt x2 y2).num = x1 / ((Int.gcd x1 y2 : Nat) : Int) * (x2 / ((Int.gcd x2 y1 : Nat) : Int)) ∧
    (((Rat.divInt x1 y1 * Rat.divInt x2 y2).den : Nat) : Int) = y1 / ((Int.gcd x2 y1 : Nat) : Int) * (y2 / ((Int.gcd x1 y2 : Nat) : Int)) := by
  obtain ⟨g1, g2, g3, g4, _, _, _, _⟩ := cross hy1 hy2 h1 h2
  exact ⟨g1, g2, quo_pos hx1 (Int.gcd_dvd_left ..) g1, quo_pos hx2 (Int.gcd_dvd_left ..) g2, quo_pos hy1 (Int.gcd_dvd_right ..) g2, quo_pos hy2 (Int.gcd_dvd_right ..) g1, g3, g4⟩

theorem over_iff {m p q : Int} (hq : 1 ≤ q) : m / q < p ↔ m < p * q := Int.ediv_lt_iff_lt_mul (by omega)

theorem abs_qu (a b : Int) : Rat.divInt ((cN a b).natAbs : Int) (cD a b) = if cN a b < 0 then - qu a b else qu a b := by
  unfold qu
  split
  · rw [show ((cN a b).natAbs : Int) = -(cN a b) by omega, ← Rat.neg_divInt]
  · rw [show ((cN a b).natAbs : Int) = cN a b by omega]
theorem abs_gcd (a b : Int) : Int.gcd ((cN a b).natAbs : Int) (cD a b) = 1 := by
  have := c_gcd a b
  rw [← this]; simp [Int.gcd]

/-- A product by the sizes, with its sign. -/
theorem sized {p q x y : Rat} {s t : Prop} [Decidable s] [Decidable t] (hp : p = if s then -x else x) (hq : q = if t then -y else y) : (if (decide s != decide t) = true then -(p * q) else p * q) = x * y := by
  by_cases h1 : s <;> by_cases h2 : t <;> simp [hp, hq, h1, h2, Rat.neg_mul, Rat.mul_neg, Rat.neg_neg]
theorem signed_num {m : Bool} {n d : Int} : Rat.divInt (if m = true then -n else n) d = if m = true then -(Rat.divInt n d) else Rat.divInt n d := by
  cases m <;> simp [Rat.neg_divInt]
theorem ok_signed {m : Bool} {r : Rat} : okQ (if m = true then -r else r) = okQ r := by
  cases m with
  | false => rfl
  | true =>
    unfold okQ
    simp only [if_true, Rat.neg_num, Rat.neg_den]
    congr 1
    simp only [eq_iff_iff]
    omega
theorem rat_self (r : Rat) : Rat.divInt r.num (r.den : Int) = r := Rat.num_divInt_den r
theorem qu_zero {a b : Int} (h : cN a b = 0) : qu a b = 0 := by unfold qu; rw [h]; exact Rat.zero_divInt _
theorem o_zero : oN (some 0) = 0 ∧ oD (some 0) = 1 ∧ oB (some 0) = true := by decide +kernel
end Go.Proofs.YtfilmomndhlmbabDoor.Wnum
