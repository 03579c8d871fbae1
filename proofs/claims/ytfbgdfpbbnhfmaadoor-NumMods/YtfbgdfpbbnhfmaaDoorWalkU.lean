/- The contract of the reference's Round, of any places. -/
import Derived.Test.YtfbgdfpbbnhfmaaDoorWalkT
namespace Go.Proofs.YtfbgdfpbbnhfmaaDoor
open Go.RowKit
set_option linter.unusedVariables false

theorem sgn_if {N x : Int} (h : N = 0 → x = 0) : (if decide (N < 0) = true then -x else x) = N.sign * x := by
  rcases Int.lt_trichotomy N 0 with c | c | c
  · rw [if_pos (decide_eq_true c), Int.sign_eq_neg_one_of_neg c]; omega
  · rw [h c]; simp
  · rw [if_neg (by simp; omega), Int.sign_eq_one_of_pos c]; omega

/-- What the reference's parts come to. -/
theorem rround_facts {W P : Int} (hW : 0 ≤ W) (hP : 1 ≤ P) : 0 ≤ W / P * P ∧ W / P * P ≤ W ∧ W - W / P * P = W % P ∧ (decide (P ≤ 2 * (W % P)) = decide (P - W % P ≤ W % P)) := by
  obtain ⟨q1, q2, q3, q4, q5⟩ := Wnum.quo_facts hW hP
  have h4 := Int.ediv_mul_add_emod W P
  refine ⟨Int.mul_nonneg q1 (by omega), q2, by omega, ?_⟩
  by_cases h : P ≤ 2 * (W % P)
  · rw [decide_eq_true h, decide_eq_true (by omega)]
  · rw [decide_eq_false h, decide_eq_false (by omega)]
theorem zero_up {P : Int} (hP : 1 ≤ P) : ¬ P - 0 % P ≤ 0 % P := by simp; omega

/-- Of no places or fewer. -/
theorem rround_neg (a b k : Int) (w : World) (h1 : -9223372036854775808 ≤ a) (h2 : a ≤ 9223372036854775807) (h3 : -9223372036854775808 ≤ b) (h4 : b ≤ 9223372036854775807) (c1 : -12 ≤ k) (c3 : k ≤ 0) :
    Calls Tryd.prog 25 #[.agg #[.int .i64 a, .int .i64 b], .int .i64 k] w fun e w' => e = .returned (.tuple #[.agg #[.int .i64 (Wnum.oN (some (Rat.divInt ((Wnum.cN a b).sign * Wnum.rq ((Wnum.cN a b).natAbs : Int) (Wnum.cD a b * Wnum.tenP (-k).toNat) * Wnum.tenP (-k).toNat) 1))), .int .i64 (Wnum.oD (some (Rat.divInt ((Wnum.cN a b).sign * Wnum.rq ((Wnum.cN a b).natAbs : Int) (Wnum.cD a b * Wnum.tenP (-k).toNat) * Wnum.tenP (-k).toNat) 1)))], .bool (Wnum.oB (some (Rat.divInt ((Wnum.cN a b).sign * Wnum.rq ((Wnum.cN a b).natAbs : Int) (Wnum.cD a b * Wnum.tenP (-k).toNat) * Wnum.tenP (-k).toNat) 1)))]) ∧ Below w.heap.size w w' := by
  obtain ⟨n1, n2⟩ := Wnum.cN_bd a b
  obtain ⟨n3, n4⟩ := Wnum.cD_bd a b
  have t1 := Wnum.tenP_pos (-k).toNat
  have t2 := Wnum.tenP_le12 (k := (-k).toNat) (by omega)
  have p1 : 1 ≤ Wnum.cD a b * Wnum.tenP (-k).toNat := by have := Int.mul_le_mul n3 t1 (by omega) (by omega); omega
  have p2 : Wnum.cD a b * Wnum.tenP (-k).toNat ≤ 1000000000000000000 := by have := Int.mul_le_mul n4 t2 (by omega) (by omega); omega
  obtain ⟨f1, f2, f3, f4, f5, f6, ⟨f7, f8⟩, ⟨f9, f10⟩⟩ := round_facts (n := Wnum.cN a b) (W := ((Wnum.cN a b).natAbs : Int)) rfl (by omega) (by omega) p1
  obtain ⟨_, q2, _, _, q5⟩ := Wnum.quo_facts (W := ((Wnum.cN a b).natAbs : Int)) (by omega) p1
  obtain ⟨s1, s2⟩ := Wnum.sign_bd (Wnum.cN a b)
  obtain ⟨⟨u1, u2⟩, ⟨u3, u4⟩⟩ := unit_bd s1 s2 (W := ((Wnum.cN a b).natAbs : Int)) (by omega) (by omega) n3 t1 t2 f3 q2
  obtain ⟨⟨_, j2⟩, ⟨_, j4⟩⟩ := unit_bd (s := 1) (by omega) (by omega) (W := ((Wnum.cN a b).natAbs : Int)) (by omega) (by omega) n3 t1 t2 f3 q2
  rw [Int.one_mul] at j2 j4
  obtain ⟨v1, v2, v3, v4⟩ := rround_facts (W := ((Wnum.cN a b).natAbs : Int)) (by omega) p1
  have e10 : ((Wnum.cN a b).natAbs : Int) / (Wnum.cD a b * Wnum.tenP (-k).toNat) * Wnum.cD a b * Wnum.tenP (-k).toNat = ((Wnum.cN a b).natAbs : Int) / (Wnum.cD a b * Wnum.tenP (-k).toNat) * (Wnum.cD a b * Wnum.tenP (-k).toNat) := Int.mul_assoc ..
  have k4 : 0 ≤ ((Wnum.cN a b).natAbs : Int) / (Wnum.cD a b * Wnum.tenP (-k).toNat) * Wnum.cD a b := Int.mul_nonneg f3 (by omega)
  have k5 : ((Wnum.cN a b).natAbs : Int) / (Wnum.cD a b * Wnum.tenP (-k).toNat) * Wnum.cD a b ≤ 1000000000000000000 := by
    have := Int.mul_le_mul (show ((Wnum.cN a b).natAbs : Int) / (Wnum.cD a b * Wnum.tenP (-k).toNat) ≤ 1000000000000 by omega) n4 (by omega) (by omega)
    omega
  by_cases hr : Wnum.cD a b * Wnum.tenP (-k).toNat - ((Wnum.cN a b).natAbs : Int) % (Wnum.cD a b * Wnum.tenP (-k).toNat) ≤ ((Wnum.cN a b).natAbs : Int) % (Wnum.cD a b * Wnum.tenP (-k).toNat)
  · rw [Wnum.rq_pos hr]
    refine rround_c1 a b k _ _ _ _ _ _ w h1 h2 h3 h4 c1 c3 (rfl : Wnum.tenP (-k).toNat = _) rfl rfl t1 t2 u3 u4 f1 rfl f2 rfl rfl (by omega) (by omega) p1 p2 f3 f4 f5 f6 f9 f10 (decide_eq_true hr) _ v1 v2 v3 (v4.trans (decide_eq_true hr)) e10 k4 k5 (Int.mul_nonneg (by omega) (by omega)) j4 ?_
    show _ = _
    rw [sgn_if, Int.mul_assoc]
    intro h0
    rw [h0] at hr
    exact absurd hr (zero_up p1)
  · rw [Wnum.rq_neg hr]
    refine rround_c2 a b k _ _ _ _ _ _ w h1 h2 h3 h4 c1 c3 (rfl : Wnum.tenP (-k).toNat = _) rfl rfl t1 t2 u1 u2 f1 rfl f2 rfl rfl (by omega) (by omega) p1 p2 f3 f4 f5 f6 f7 f8 (decide_eq_false hr) _ v1 v2 v3 (v4.trans (decide_eq_false hr)) e10 k4 k5 (Int.mul_nonneg (by omega) (by omega)) j2 ?_
    show _ = _
    rw [sgn_if, Int.mul_assoc]
    intro h0
    rw [h0]
    simp

theorem rround_any (a b k : Int) (w : World) (h1 : -9223372036854775808 ≤ a) (h2 : a ≤ 9223372036854775807) (h3 : -9223372036854775808 ≤ b) (h4 : b ≤ 9223372036854775807) :
    Calls Tryd.prog 25 #[.agg #[.int .i64 a, .int .i64 b], .int .i64 k] w fun e w' => e = .returned (.tuple #[.agg #[.int .i64 (Wnum.oN (Wnum.roundO a b k)), .int .i64 (Wnum.oD (Wnum.roundO a b k))], .bool (Wnum.oB (Wnum.roundO a b k))]) ∧ Below w.heap.size w w' := by
  obtain ⟨n1, n2⟩ := Wnum.cN_bd a b
  obtain ⟨n3, n4⟩ := Wnum.cD_bd a b
  by_cases c1 : k < -12
  · rw [show Wnum.roundO a b k = none from if_pos (Or.inl c1)]
    exact rround_z1 a b k w h1 h2 h3 h4 (decide_eq_true c1)
  by_cases c2 : 6 < k
  · rw [show Wnum.roundO a b k = none from if_pos (Or.inr c2)]
    exact rround_z2 a b k w h1 h2 h3 h4 (decide_eq_false c1) (decide_eq_true c2)
  by_cases c3 : k < 0
  · rw [show Wnum.roundO a b k = _ from (if_neg (by omega)).trans (if_pos c3)]
    exact rround_neg a b k w h1 h2 h3 h4 (by omega) (by omega)
  by_cases c4 : k = 0
  · subst c4
    have := rround_neg a b 0 w h1 h2 h3 h4 (by omega) (by omega)
    rw [show Wnum.roundO a b 0 = _ from (if_neg (by omega)).trans (if_neg (by omega))]
    have e0 : (-(0 : Int)).toNat = 0 := rfl
    have e1 : (0 : Int).toNat = 0 := rfl
    rw [e0, Wnum.tenP_zero, Int.mul_one, Int.mul_one] at this
    rw [e1, Wnum.tenP_zero, Int.mul_one]
    exact this
  · have t1 := Wnum.tenP_pos k.toNat
    have t2 := Wnum.tenP_le6 (k := k.toNat) (by omega)
    rw [show Wnum.roundO a b k = _ from (if_neg (by omega)).trans (if_neg c3)]
    have w1 : 0 ≤ ((Wnum.cN a b).natAbs : Int) * Wnum.tenP k.toNat := Int.mul_nonneg (by omega) (by omega)
    have w2 : ((Wnum.cN a b).natAbs : Int) * Wnum.tenP k.toNat ≤ 1000000000000000000 := by have := Int.mul_le_mul (show ((Wnum.cN a b).natAbs : Int) ≤ 1000000000000 by omega) t2 (by omega) (by omega); omega
    obtain ⟨f1, f2, f3, f4, f5, f6, ⟨f7, f8⟩, ⟨f9, f10⟩⟩ := round_facts (n := Wnum.cN a b) rfl w1 w2 n3
    obtain ⟨v1, v2, v3, v4⟩ := rround_facts w1 n3
    by_cases hr : Wnum.cD a b - ((Wnum.cN a b).natAbs : Int) * Wnum.tenP k.toNat % Wnum.cD a b ≤ ((Wnum.cN a b).natAbs : Int) * Wnum.tenP k.toNat % Wnum.cD a b
    · rw [Wnum.rq_pos hr]
      refine rround_c3 a b k _ _ _ _ _ _ w h1 h2 h3 h4 (by omega) (by omega) (rfl : Wnum.tenP k.toNat = _) rfl rfl t1 t2 f1 rfl f2 rfl rfl w1 w2 n3 (by omega) f3 f4 f5 f6 f9 f10 (decide_eq_true hr) _ v1 v2 v3 (v4.trans (decide_eq_true hr)) rfl ?_
      show _ = _
      rw [sgn_if]
      intro h0
      rw [h0] at hr
      simp only [Int.natAbs_zero, Int.natCast_zero, Int.zero_mul] at hr
      exact absurd hr (zero_up n3)
    · rw [Wnum.rq_neg hr]
      refine rround_c4 a b k _ _ _ _ _ _ w h1 h2 h3 h4 (by omega) (by omega) (rfl : Wnum.tenP k.toNat = _) rfl rfl t1 t2 f1 rfl f2 rfl rfl w1 w2 n3 (by omega) f3 f4 f5 f6 f7 f8 (decide_eq_false hr) _ v1 v2 v3 (v4.trans (decide_eq_false hr)) rfl ?_
      show _ = _
      rw [sgn_if]
      intro h0
      rw [h0]
      simp
end Go.Proofs.YtfbgdfpbbnhfmaaDoor
