/- The contract of Mul. -/
import Derived.Test.YtfilmomndhlmbabDoorWalkK
namespace Go.Proofs.YtfilmomndhlmbabDoor
open Go.RowKit
set_option linter.unusedVariables false

/-- What Mul reckons with, by its parts. -/
theorem mul_facts (a b c d : Int) : ∃ p1 p2 s1 s2 : Int,
    1 ≤ ((Int.gcd (Wnum.cN a b) (Wnum.cD c d) : Nat) : Int) ∧ 1 ≤ ((Int.gcd (Wnum.cN c d) (Wnum.cD a b) : Nat) : Int) ∧
    (Wnum.cN a b).tdiv ((Int.gcd (Wnum.cN a b) (Wnum.cD c d) : Nat) : Int) = p1 ∧ (Wnum.cN c d).tdiv ((Int.gcd (Wnum.cN c d) (Wnum.cD a b) : Nat) : Int) = p2 ∧ (Wnum.cD a b).tdiv ((Int.gcd (Wnum.cN c d) (Wnum.cD a b) : Nat) : Int) = s1 ∧ (Wnum.cD c d).tdiv ((Int.gcd (Wnum.cN a b) (Wnum.cD c d) : Nat) : Int) = s2 ∧
    (-1000000000000 ≤ p1 ∧ p1 ≤ 1000000000000) ∧ (-1000000000000 ≤ p2 ∧ p2 ≤ 1000000000000) ∧ (1 ≤ s1 ∧ s1 ≤ 1000000) ∧ (1 ≤ s2 ∧ s2 ≤ 1000000) ∧
    (Wnum.qu a b * Wnum.qu c d).num = p1 * p2 ∧ (((Wnum.qu a b * Wnum.qu c d).den : Nat) : Int) = s1 * s2 := by
  obtain ⟨n1, n2⟩ := Wnum.cN_bd a b
  obtain ⟨n3, n4⟩ := Wnum.cN_bd c d
  obtain ⟨m1, m2⟩ := Wnum.cD_bd a b
  obtain ⟨m3, m4⟩ := Wnum.cD_bd c d
  obtain ⟨q1, q2, q3, q4, q5, q6, q7, q8⟩ := Wnum.cross m1 m3 (Wnum.c_gcd a b) (Wnum.c_gcd c d)
  have t1 : (Wnum.cN a b).tdiv ((Int.gcd (Wnum.cN a b) (Wnum.cD c d) : Nat) : Int) = Wnum.cN a b / ((Int.gcd (Wnum.cN a b) (Wnum.cD c d) : Nat) : Int) := Int.tdiv_eq_ediv_of_dvd (Int.gcd_dvd_left ..)
  have t2 : (Wnum.cN c d).tdiv ((Int.gcd (Wnum.cN c d) (Wnum.cD a b) : Nat) : Int) = Wnum.cN c d / ((Int.gcd (Wnum.cN c d) (Wnum.cD a b) : Nat) : Int) := Int.tdiv_eq_ediv_of_dvd (Int.gcd_dvd_left ..)
  have t3 : (Wnum.cD a b).tdiv ((Int.gcd (Wnum.cN c d) (Wnum.cD a b) : Nat) : Int) = Wnum.cD a b / ((Int.gcd (Wnum.cN c d) (Wnum.cD a b) : Nat) : Int) := Int.tdiv_eq_ediv_of_dvd (Int.gcd_dvd_right ..)
  have t4 : (Wnum.cD c d).tdiv ((Int.gcd (Wnum.cN a b) (Wnum.cD c d) : Nat) : Int) = Wnum.cD c d / ((Int.gcd (Wnum.cN a b) (Wnum.cD c d) : Nat) : Int) := Int.tdiv_eq_ediv_of_dvd (Int.gcd_dvd_right ..)
  have b1 : ((Wnum.cN a b).tdiv ((Int.gcd (Wnum.cN a b) (Wnum.cD c d) : Nat) : Int)).natAbs ≤ (Wnum.cN a b).natAbs := Int.natAbs_tdiv_le_natAbs ..
  have b2 : ((Wnum.cN c d).tdiv ((Int.gcd (Wnum.cN c d) (Wnum.cD a b) : Nat) : Int)).natAbs ≤ (Wnum.cN c d).natAbs := Int.natAbs_tdiv_le_natAbs ..
  refine ⟨_, _, _, _, q1, q2, rfl, rfl, rfl, rfl, by omega, by omega, by omega, by omega, ?_, ?_⟩
  · rw [t1, t2]; exact q3
  · rw [t3, t4]; exact q4

theorem mul_over {r : Rat} {p q : Int} (h : r.num = p * q) (hb : pB p q 1000000000000 = false) : Wnum.okQ r = false := by
  refine Wnum.ok_not ?_
  rw [h]
  unfold pB at hb
  rw [decide_eq_false_iff_not] at hb
  omega
theorem mul_in {r : Rat} {p q : Int} (h : r.num = p * q) (hb : pB p q 1000000000000 = true) : pN p q 1000000000000 = r.num ∧ (-9223372036854775807 ≤ r.num ∧ r.num ≤ 9223372036854775807) := by
  have e : pN p q 1000000000000 = p * q := by unfold pN; rw [hb]; rfl
  rw [e, h]
  unfold pB at hb
  have := of_decide_eq_true hb
  exact ⟨rfl, by omega, by omega⟩

theorem keepD {W W' : World} {k j : Nat} {x y : Value} (hb : Below W.heap.size W W') (h : W.cell? ⟨k, 1, none⟩ = some x ∧ W.cell? ⟨j, 1, none⟩ = some y) : W'.cell? ⟨k, 1, none⟩ = some x ∧ W'.cell? ⟨j, 1, none⟩ = some y :=
  ⟨(hb.cell (p := ⟨k, 1, none⟩) (World.block_lt_of_cell? W _ h.1)).trans h.1, (hb.cell (p := ⟨j, 1, none⟩) (World.block_lt_of_cell? W _ h.2)).trans h.2⟩
theorem keepD_set {W : World} {k j i : Nat} {x y u0 u1 : Value} (hk : i ≠ k) (hj : i ≠ j) (h : W.cell? ⟨k, 1, none⟩ = some x ∧ W.cell? ⟨j, 1, none⟩ = some y) :
    ((W.setCell ⟨i, 0, none⟩ u0).setCell ⟨i, 1, none⟩ u1).cell? ⟨k, 1, none⟩ = some x ∧ ((W.setCell ⟨i, 0, none⟩ u0).setCell ⟨i, 1, none⟩ u1).cell? ⟨j, 1, none⟩ = some y := by
  refine ⟨?_, ?_⟩
  · rw [World.cell?_setCell_far _ _ _ _ (by simpa using hk), World.cell?_setCell_far _ _ _ _ (by simpa using hk)]; exact h.1
  · rw [World.cell?_setCell_far _ _ _ _ (by simpa using hj), World.cell?_setCell_far _ _ _ _ (by simpa using hj)]; exact h.2

end Go.Proofs.YtfilmomndhlmbabDoor