/- The contracts of the reference's Mul and Div. -/
import Derived.Test.YtfilmomndhlmbabDoorWalkJ
import Derived.Test.YtfilmomndhlmbabDoorPlainD
namespace Go.Proofs.YtfilmomndhlmbabDoor
open Go.RowKit
set_option linter.unusedVariables false

theorem made_any (m : Bool) (n d : Int) (w : World) (h1 : 0 ≤ n) (h2 : n ≤ 18446744073709551615) (h3 : 1 ≤ d) (h4 : d ≤ 18446744073709551615) :
    Calls Tryd.prog 27 #[.bool m, .int .u64 n, .int .u64 d] w fun e w' => e = .returned (.tuple #[.agg #[.int .i64 (Wnum.oN (some (Rat.divInt (if m = true then -n else n) d))), .int .i64 (Wnum.oD (some (Rat.divInt (if m = true then -n else n) d)))], .bool (Wnum.oB (some (Rat.divInt (if m = true then -n else n) d)))]) ∧ Below w.heap.size w w' := by
  cases m
  · exact made_pos n d w h1 h2 h3 h4
  · exact made_neg n d w h1 h2 h3 h4

/-- What both reckon with, by the sizes of their parts. -/
theorem by_parts {x1 y1 x2 y2 : Int} {r : Rat} {m : Bool} (hx1 : 1 ≤ x1) (hy1 : 1 ≤ y1) (hx2 : 1 ≤ x2) (hy2 : 1 ≤ y2) (l1 : x1 ≤ 1000000000000) (l2 : y1 ≤ 1000000000000) (l3 : x2 ≤ 1000000000000) (l4 : y2 ≤ 1000000000000)
    (h1 : Int.gcd x1 y1 = 1) (h2 : Int.gcd x2 y2 = 1) (hr : (if m = true then -(Rat.divInt x1 y1 * Rat.divInt x2 y2) else Rat.divInt x1 y1 * Rat.divInt x2 y2) = r) :
    1 ≤ ((Int.gcd x1 y2 : Nat) : Int) ∧ 1 ≤ ((Int.gcd x2 y1 : Nat) : Int) ∧ ∃ p1 p2 s1 s2 : Int,
    x1 / ((Int.gcd x1 y2 : Nat) : Int) = p1 ∧ x2 / ((Int.gcd x2 y1 : Nat) : Int) = p2 ∧ y1 / ((Int.gcd x2 y1 : Nat) : Int) = s1 ∧ y2 / ((Int.gcd x1 y2 : Nat) : Int) = s2 ∧
    (1 ≤ p1 ∧ p1 ≤ 1000000000000) ∧ (1 ≤ p2 ∧ p2 ≤ 1000000000000) ∧ (1 ≤ s1 ∧ s1 ≤ 1000000000000) ∧ (1 ≤ s2 ∧ s2 ≤ 1000000000000) ∧
    ((decide (1000000000000 / p2 < p1) = true ∨ decide (1000000 / s2 < s1) = true) → Wnum.okQ r = false) ∧
    (decide (1000000000000 / p2 < p1) = false → decide (1000000 / s2 < s1) = false → 1 ≤ p1 * p2 ∧ p1 * p2 ≤ 1000000000000 ∧ 1 ≤ s1 * s2 ∧ s1 * s2 ≤ 1000000 ∧ Rat.divInt (if m = true then -(p1 * p2) else p1 * p2) (s1 * s2) = r) := by
  obtain ⟨q1, q2, ⟨q3, q4⟩, ⟨q5, q6⟩, ⟨q7, q8⟩, ⟨q9, q10⟩, q11, q12⟩ := Wnum.crossN hx1 hy1 hx2 hy2 h1 h2
  refine ⟨q1, q2, _, _, _, _, rfl, rfl, rfl, rfl, ⟨q3, by omega⟩, ⟨q5, by omega⟩, ⟨q7, by omega⟩, ⟨q9, by omega⟩, ?_, ?_⟩
  · intro h
    rw [← hr, Wnum.ok_signed]
    refine Wnum.ok_not ?_
    rw [q11, q12]
    rcases h with h | h
    · rw [decide_eq_true_iff, Wnum.over_iff q5] at h; omega
    · rw [decide_eq_true_iff, Wnum.over_iff q9] at h; omega
  · intro g1 g2
    rw [decide_eq_false_iff_not, Wnum.over_iff q5] at g1
    rw [decide_eq_false_iff_not, Wnum.over_iff q9] at g2
    have k1 := Int.mul_le_mul q3 q5 (by omega) (by omega)
    have k2 := Int.mul_le_mul q7 q9 (by omega) (by omega)
    refine ⟨by omega, by omega, by omega, by omega, ?_⟩
    rw [Wnum.signed_num, ← q11, ← q12, Wnum.rat_self]
    exact hr

theorem div_sized {a b c d : Int} (h : Wnum.cN c d ≠ 0) :
    (if (!(decide (Wnum.cN a b < 0) == decide (Wnum.cN c d < 0))) = true then -(Rat.divInt ((Wnum.cN a b).natAbs : Int) (Wnum.cD a b) * Rat.divInt (Wnum.cD c d) ((Wnum.cN c d).natAbs : Int)) else Rat.divInt ((Wnum.cN a b).natAbs : Int) (Wnum.cD a b) * Rat.divInt (Wnum.cD c d) ((Wnum.cN c d).natAbs : Int))
      = Rat.divInt (Wnum.cN a b * Wnum.cD c d) (Wnum.cN c d * Wnum.cD a b) := by
  have hq : Rat.divInt (Wnum.cD c d) ((Wnum.cN c d).natAbs : Int) = if Wnum.cN c d < 0 then -(Rat.divInt (Wnum.cD c d) (Wnum.cN c d)) else Rat.divInt (Wnum.cD c d) (Wnum.cN c d) := by
    split
    · rw [show ((Wnum.cN c d).natAbs : Int) = -(Wnum.cN c d) by omega, Rat.divInt_neg', ← Rat.neg_divInt]
    · rw [show ((Wnum.cN c d).natAbs : Int) = Wnum.cN c d by omega]
  have := Wnum.sized (Wnum.abs_qu a b) hq
  refine this.trans ?_
  unfold Wnum.qu
  rw [Rat.divInt_mul_divInt, Int.mul_comm (Wnum.cD a b)]

end Go.Proofs.YtfilmomndhlmbabDoor