/- The contracts of the reference's Mul and Div. -/
import Derived.Test.YtfbgdfpbbnhfmaaDoorWalkJ
import Derived.Test.YtfbgdfpbbnhfmaaDoorPlainD
namespace Go.Proofs.YtfbgdfpbbnhfmaaDoor
open Go.RowKit
set_option linter.unusedVariables false

theorem made_any (m : Bool) (n d : Int) (w : World) (h1 : 0 ≤ n) (h2 : n ≤ 18446744073709551615) (h3 : 1 ≤ d) (h4 : d ≤ 18446744073709551615) :
    Calls Tryd.prog 40 #[.bool m, .int .u64 n, .int .u64 d] w fun e w' => e = .returned (.tuple #[.agg #[.int .i64 (Wnum.oN (some (Rat.divInt (if m = true then -n else n) d))), .int .i64 (Wnum.oD (some (Rat.divInt (if m = true then -n else n) d)))], .bool (Wnum.oB (some (Rat.divInt (if m = true then -n else n) d)))]) ∧ Below w.heap.size w w' := by
  cases m
  · exact made_pos n d w h1 h2 h3 h4
  · exact made_neg n d w h1 h2 h3 h4

/-- What both reckon with, by the sizes of their parts. -/
theorem by_parts {x1 y1 x2 y2 : Int} {r : Rat} {m : Bool} (hx1 : 1 ≤ x1) (hy1 : 1 ≤ y1) (hx2 : 1 ≤ x2) (hy2 : 1 ≤ y2) (l1 : x1 ≤ 1000000000000) (l2 : y1 ≤ 1000000000000) (l3 : x2 ≤ 1000000000000) (l4 : y2 ≤ 1000000000000)
    (h1 : Int.gcd x1 y1 = 1) (h2 : Int.gcd x2 y2 = 1) (hr : (if m = true then -(Rat.divInt x1 y1 * Rat.divInt x2 y2) else Rat.divInt x1 y1 * Rat.divInt x2 y2) = r) :
    1 ≤ ((Int.gcd x1 y2 : Nat) : Int) ∧ 1 ≤ ((Int.gcd x2 y1 : Nat) : Int) ∧ ∃ p1 p2 s1 s2 : Int,
    x1 / ((Int.gcd x1 y2 : Nat) : Int) = p1 ∧ x2 / ((Int.gcd x2 y1 : Nat) : Int) = p2 ∧ y1 / ((Int.gcd x2 y1 : Nat) : Int) = s1 ∧ y2 / ((Int.gcd x1 y2 : Nat) : Int) = s2 ∧
    (1 ≤ p1 ∧ p1 ≤ 1000000000000) ∧ (1 ≤ p2 ∧ p2 ≤ 1000000000000) ∧ (1 ≤ s1 ∧ s1 ≤ 1000000000000) ∧ (1 ≤ s2 ∧ s2 ≤ 1000000000000) ∧
    ((decide (1000000000000 / p2 < p1) = true ∨ decide (1000000 / s2 < s1) = true) → Wnum.okQ r = false) ∧
    (decide (1000000000000 / p2 < p1) = false → decide (1000000 / s2 < s1) = false → 1 ≤ p1 * p2 ∧ p1 * p2 ≤ 1000000000000 ∧ 1 ≤ s1 * s2 ∧ s1 * s2 ≤ 1000000 ∧ Rat.divInt (if m = true then -(p1 * p2) else p1 * p2) (s1 * s2) = r) := by
  obtain ⟨q1, q2, ⟨q3, q4⟩, ⟨q5, q6⟩, ⟨q7, q8⟩, ⟨q9, q10⟩, q11, q12⟩ := Wnum.crossN hx1 hy1 hx2 hy2 h1 h2
  refine ⟨q1, q2, _, _, _, _, rfl, rfl, rfl, rfl, ⟨q3, by omega⟩, ⟨q5, by omega⟩, ⟨q7, by omega⟩, ⟨q9, by omega⟩, ?_, ?_⟩
  · intro h
    rw [← hr, Wnum.ok_signed]
    refine Wnum.ok_not ?_
    rw [q11, q12]
    rcases h with h | h
    · rw [decide_eq_true_iff, Wnum.over_iff q5] at h; omega
    · rw [decide_eq_true_iff, Wnum.over_iff q9] at h; omega
  · intro g1 g2
    rw [decide_eq_false_iff_not, Wnum.over_iff q5] at g1
    rw [decide_eq_false_iff_not, Wnum.over_iff q9] at g2
    have k1 := Int.mul_le_mul q3 q5 (by omega) (by omega)
    have k2 := Int.mul_le_mul q7 q9 (by omega) (by omega)
    refine ⟨by omega, by omega, by omega, by omega, ?_⟩
    rw [Wnum.signed_num, ← q11, ← q12, Wnum.rat_self]
    exact hr

set_option maxHeartbeats 1600000 in
theorem rmul_core (a b c d x1 y1 x2 y2 : Int) (r : Rat) (m : Bool) (w : World) (h1 : -9223372036854775808 ≤ a) (h2 : a ≤ 9223372036854775807) (h3 : -9223372036854775808 ≤ b) (h4 : b ≤ 9223372036854775807)
    (g1 : -9223372036854775808 ≤ c) (g2 : c ≤ 9223372036854775807) (g3 : -9223372036854775808 ≤ d) (g4 : d ≤ 9223372036854775807)
    (X1 : Hid (((Wnum.cN a b).natAbs : Int) = x1)) (Y1 : Hid (Wnum.cD a b = y1)) (X2 : Hid (((Wnum.cN c d).natAbs : Int) = x2)) (Y2 : Hid (Wnum.cD c d = y2)) (M : Hid ((!(decide (Wnum.cN a b < 0) == decide (Wnum.cN c d < 0))) = m))
    (t1 : (Wnum.cN a b == 0) = false) (t2 : (Wnum.cN c d == 0) = false)
    (hx1 : 1 ≤ x1) (hy1 : 1 ≤ y1) (hx2 : 1 ≤ x2) (hy2 : 1 ≤ y2) (l1 : x1 ≤ 1000000000000) (l2 : y1 ≤ 1000000000000) (l3 : x2 ≤ 1000000000000) (l4 : y2 ≤ 1000000000000)
    (k1 : Int.gcd x1 y1 = 1) (k2 : Int.gcd x2 y2 = 1) (hr : (if m = true then -(Rat.divInt x1 y1 * Rat.divInt x2 y2) else Rat.divInt x1 y1 * Rat.divInt x2 y2) = r) :
    Calls Tryd.prog 19 #[.agg #[.int .i64 a, .int .i64 b], .agg #[.int .i64 c, .int .i64 d]] w fun e w' => e = .returned (.tuple #[.agg #[.int .i64 (Wnum.oN (some r)), .int .i64 (Wnum.oD (some r))], .bool (Wnum.oB (some r))]) ∧ Below w.heap.size w w' := by
  obtain ⟨n1, n2⟩ := Wnum.cN_bd a b
  obtain ⟨n3, n4⟩ := Wnum.cN_bd c d
  obtain ⟨j1, j2, p1, p2, s1, s2, e1, e2, e3, e4, ⟨u1, u2⟩, ⟨u3, u4⟩, ⟨v1, v2⟩, ⟨v3, v4⟩, bad, good⟩ := by_parts hx1 hy1 hx2 hy2 l1 l2 l3 l4 k1 k2 hr
  have BAD : Hid ((decide (1000000000000 / p2 < p1) = true ∨ decide (1000000 / s2 < s1) = true) → Wnum.okQ r = false) := bad
  have GOOD : Hid (decide (1000000000000 / p2 < p1) = false → decide (1000000 / s2 < s1) = false → 1 ≤ p1 * p2 ∧ p1 * p2 ≤ 1000000000000 ∧ 1 ≤ s1 * s2 ∧ s1 * s2 ≤ 1000000 ∧ Rat.divInt (if m = true then -(p1 * p2) else p1 * p2) (s1 * s2) = r) := good
  clear bad good hr k1 k2
  go_enter Tryd.func19, Tryd.ntmps19
  go_wp2_with fail
  refine (of_any _ _ _ h1 h2 h3 h4).mono ?_
  rintro e w1 ⟨rfl, hb1⟩
  have pA : At w1 w.heap.size (.int .i64 a) (.int .i64 b) := At.below hb1 (((At.new w _ rfl _ _).alloc _).alloc _)
  have pB : At w1 (w.heap.size + 1) (.int .i64 c) (.int .i64 d) := At.below hb1 ((At.new (w.alloc _) _ (by simp) _ _).alloc _)
  have pC : At w1 (w.heap.size + 2) (.int .i64 0) (.int .i64 0) := At.below hb1 (At.new ((w.alloc _).alloc _) _ (by simp) _ _)
  have hB : Below w.heap.size w w1 := by with_reducible repeat (first | exact Below.refl _ _ | refine below_drewN ?_ _ | refine Below.setCell ?_ (by first | (simp; done) | (simp; omega) | omega) _ | refine Below.drew ?_ | refine below_end ?_ (by assumption) | refine ball ?_ _)
  clear hb1
  have pA' := pA
  obtain ⟨a1, a2, a3, a4⟩ := pA'
  go_upto_region 2 with fail
  have qA := pA.put (.int .i64 (Wnum.cN a b)) (.int .i64 (Wnum.cD a b))
  have qB := pB.far2 (j := w.heap.size) (by omega) (.int .i64 (Wnum.cN a b)) (.int .i64 (Wnum.cD a b))
  have qC := pC.far2 (j := w.heap.size) (by omega) (.int .i64 (Wnum.cN a b)) (.int .i64 (Wnum.cD a b))
  have qD := put_below hB (k := w.heap.size) (by omega) (.int .i64 (Wnum.cN a b)) (.int .i64 (Wnum.cD a b))
  clear pA pB pC hB a1 a2 a3 a4
  generalize (w1.setCell ⟨w.heap.size, 0, none⟩ (.int .i64 (Wnum.cN a b))).setCell ⟨w.heap.size, 1, none⟩ (.int .i64 (Wnum.cD a b)) = W1 at *
  clear w1
  have pB' := qB
  obtain ⟨b1, b2, b3, b4⟩ := pB'
  go_wp2_with fail
  refine (of_any _ _ _ g1 g2 g3 g4).mono ?_
  rintro e w2 ⟨rfl, hb2⟩
  have pA := At.below hb2 qA
  have pB := At.below hb2 qB
  have pC := At.below hb2 qC
  have hB := below_end qD hb2
  clear hb2 qA qB qC qD b1 b2 b3 b4
  have pB' := pB
  obtain ⟨b1, b2, b3, b4⟩ := pB'
  go_upto_region 3 with fail
  have qA := pA.far2 (j := w.heap.size + 1) (by omega) (.int .i64 (Wnum.cN c d)) (.int .i64 (Wnum.cD c d))
  have qB := pB.put (.int .i64 (Wnum.cN c d)) (.int .i64 (Wnum.cD c d))
  have qC := pC.far2 (j := w.heap.size + 1) (by omega) (.int .i64 (Wnum.cN c d)) (.int .i64 (Wnum.cD c d))
  have qD := put_below hB (k := w.heap.size + 1) (by omega) (.int .i64 (Wnum.cN c d)) (.int .i64 (Wnum.cD c d))
  clear pA pB pC hB b1 b2 b3 b4
  generalize (w2.setCell ⟨w.heap.size + 1, 0, none⟩ (.int .i64 (Wnum.cN c d))).setCell ⟨w.heap.size + 1, 1, none⟩ (.int .i64 (Wnum.cD c d)) = W2 at *
  clear w2
  obtain ⟨a1, a2, a3, a4⟩ := qA
  obtain ⟨b1, b2, b3, b4⟩ := qB
  obtain ⟨c1, c2, c3, c4⟩ := qC
  rw [Y1.out] at a2
  rw [Y2.out] at b2
  go_wp2_with fail
  refine (far_any _ _ (by omega) (by omega)).mono ?_
  rintro e w9 ⟨rfl, rfl⟩
  rw [X1.out]
  go_wp2_with fail
  refine (far_any _ _ (by omega) (by omega)).mono ?_
  rintro e w9 ⟨rfl, rfl⟩
  rw [X2.out]
  go_wp2_with fail
  refine (rgcd_int _ _ _ (by omega) (by omega) (by omega) (by omega)).mono ?_
  rintro e w9 ⟨rfl, rfl⟩
  go_wp2_with fail
  refine (rgcd_int _ _ _ (by omega) (by omega) (by omega) (by omega)).mono ?_
  rintro e w9 ⟨rfl, rfl⟩
  cases g1 : decide (1000000000000 / p2 < p1) with
  | true =>
    obtain ⟨z1, z2, z3⟩ := Wnum.oNn (BAD.out (Or.inl g1))
    have Z1 : Hid (Wnum.oN (some r) = 0) := z1
    have Z2 : Hid (Wnum.oD (some r) = 0) := z2
    have Z3 : Hid (Wnum.oB (some r) = false) := z3
    clear z1 z2 z3
    go_wp2_with fail
    refine bodyPost_ret (v := .tuple #[.agg #[.int .i64 0, .int .i64 0], .bool false]) (by simp [results, Tryd.results19, go_sem, c1, c2]) rfl ⟨by rw [Z1.out, Z2.out, Z3.out], ?_⟩
    exact put_below qD (by omega) _ _
  | false =>
    cases g2 : decide (1000000 / s2 < s1) with
    | true =>
      obtain ⟨z1, z2, z3⟩ := Wnum.oNn (BAD.out (Or.inr g2))
      have Z1 : Hid (Wnum.oN (some r) = 0) := z1
      have Z2 : Hid (Wnum.oD (some r) = 0) := z2
      have Z3 : Hid (Wnum.oB (some r) = false) := z3
      clear z1 z2 z3
      go_wp2_with fail
      refine bodyPost_ret (v := .tuple #[.agg #[.int .i64 0, .int .i64 0], .bool false]) (by simp [results, Tryd.results19, go_sem, c1, c2]) rfl ⟨by rw [Z1.out, Z2.out, Z3.out], ?_⟩
      exact put_below qD (by omega) _ _
    | false =>
      obtain ⟨z1, z2, z3, z4, z5⟩ := GOOD.out g1 g2
      have Z5 : Hid (Rat.divInt (if m = true then -(p1 * p2) else p1 * p2) (s1 * s2) = r) := z5
      clear z5
      go_wp2_with fail
      rw [M.out]
      refine (made_any m _ _ _ (by omega) (by omega) (by omega) (by omega)).mono ?_
      rintro e w3 ⟨rfl, hb3⟩
      rw [Z5.out]
      obtain ⟨k1, k2, k3, k4⟩ := At.below hb3 ⟨c1, c2, c3, c4⟩
      go_wp2
      refine bodyPost_ret (v := .tuple #[.agg #[.int .i64 (Wnum.oN (some r)), .int .i64 (Wnum.oD (some r))], .bool (Wnum.oB (some r))]) (by simp [results, Tryd.results19, go_sem, k1, k2]) rfl ⟨rfl, ?_⟩
      exact put_below (below_end qD hb3) (by omega) _ _

set_option maxHeartbeats 1600000 in
theorem rdiv_core (a b c d x1 y1 x2 y2 : Int) (r : Rat) (m : Bool) (w : World) (h1 : -9223372036854775808 ≤ a) (h2 : a ≤ 9223372036854775807) (h3 : -9223372036854775808 ≤ b) (h4 : b ≤ 9223372036854775807)
    (g1 : -9223372036854775808 ≤ c) (g2 : c ≤ 9223372036854775807) (g3 : -9223372036854775808 ≤ d) (g4 : d ≤ 9223372036854775807)
    (X1 : Hid (((Wnum.cN a b).natAbs : Int) = x1)) (Y1 : Hid (Wnum.cD a b = y1)) (X2 : Hid (Wnum.cD c d = x2)) (Y2 : Hid (((Wnum.cN c d).natAbs : Int) = y2)) (M : Hid ((!(decide (Wnum.cN a b < 0) == decide (Wnum.cN c d < 0))) = m))
    (t1 : (Wnum.cN a b == 0) = false) (t2 : (Wnum.cN c d == 0) = false)
    (hx1 : 1 ≤ x1) (hy1 : 1 ≤ y1) (hx2 : 1 ≤ x2) (hy2 : 1 ≤ y2) (l1 : x1 ≤ 1000000000000) (l2 : y1 ≤ 1000000000000) (l3 : x2 ≤ 1000000000000) (l4 : y2 ≤ 1000000000000)
    (k1 : Int.gcd x1 y1 = 1) (k2 : Int.gcd x2 y2 = 1) (hr : (if m = true then -(Rat.divInt x1 y1 * Rat.divInt x2 y2) else Rat.divInt x1 y1 * Rat.divInt x2 y2) = r) :
    Calls Tryd.prog 21 #[.agg #[.int .i64 a, .int .i64 b], .agg #[.int .i64 c, .int .i64 d]] w fun e w' => e = .returned (.tuple #[.agg #[.int .i64 (Wnum.oN (some r)), .int .i64 (Wnum.oD (some r))], .bool (Wnum.oB (some r))]) ∧ Below w.heap.size w w' := by
  obtain ⟨n1, n2⟩ := Wnum.cN_bd a b
  obtain ⟨n3, n4⟩ := Wnum.cN_bd c d
  obtain ⟨j1, j2, p1, p2, s1, s2, e1, e2, e3, e4, ⟨u1, u2⟩, ⟨u3, u4⟩, ⟨v1, v2⟩, ⟨v3, v4⟩, bad, good⟩ := by_parts hx1 hy1 hx2 hy2 l1 l2 l3 l4 k1 k2 hr
  have BAD : Hid ((decide (1000000000000 / p2 < p1) = true ∨ decide (1000000 / s2 < s1) = true) → Wnum.okQ r = false) := bad
  have GOOD : Hid (decide (1000000000000 / p2 < p1) = false → decide (1000000 / s2 < s1) = false → 1 ≤ p1 * p2 ∧ p1 * p2 ≤ 1000000000000 ∧ 1 ≤ s1 * s2 ∧ s1 * s2 ≤ 1000000 ∧ Rat.divInt (if m = true then -(p1 * p2) else p1 * p2) (s1 * s2) = r) := good
  clear bad good hr k1 k2
  go_enter Tryd.func21, Tryd.ntmps21
  go_wp2_with fail
  refine (of_any _ _ _ h1 h2 h3 h4).mono ?_
  rintro e w1 ⟨rfl, hb1⟩
  have pA : At w1 w.heap.size (.int .i64 a) (.int .i64 b) := At.below hb1 (((At.new w _ rfl _ _).alloc _).alloc _)
  have pB : At w1 (w.heap.size + 1) (.int .i64 c) (.int .i64 d) := At.below hb1 ((At.new (w.alloc _) _ (by simp) _ _).alloc _)
  have pC : At w1 (w.heap.size + 2) (.int .i64 0) (.int .i64 0) := At.below hb1 (At.new ((w.alloc _).alloc _) _ (by simp) _ _)
  have hB : Below w.heap.size w w1 := by with_reducible repeat (first | exact Below.refl _ _ | refine below_drewN ?_ _ | refine Below.setCell ?_ (by first | (simp; done) | (simp; omega) | omega) _ | refine Below.drew ?_ | refine below_end ?_ (by assumption) | refine ball ?_ _)
  clear hb1
  have pA' := pA
  obtain ⟨a1, a2, a3, a4⟩ := pA'
  go_upto_region 2 with fail
  have qA := pA.put (.int .i64 (Wnum.cN a b)) (.int .i64 (Wnum.cD a b))
  have qB := pB.far2 (j := w.heap.size) (by omega) (.int .i64 (Wnum.cN a b)) (.int .i64 (Wnum.cD a b))
  have qC := pC.far2 (j := w.heap.size) (by omega) (.int .i64 (Wnum.cN a b)) (.int .i64 (Wnum.cD a b))
  have qD := put_below hB (k := w.heap.size) (by omega) (.int .i64 (Wnum.cN a b)) (.int .i64 (Wnum.cD a b))
  clear pA pB pC hB a1 a2 a3 a4
  generalize (w1.setCell ⟨w.heap.size, 0, none⟩ (.int .i64 (Wnum.cN a b))).setCell ⟨w.heap.size, 1, none⟩ (.int .i64 (Wnum.cD a b)) = W1 at *
  clear w1
  have pB' := qB
  obtain ⟨b1, b2, b3, b4⟩ := pB'
  go_wp2_with fail
  refine (of_any _ _ _ g1 g2 g3 g4).mono ?_
  rintro e w2 ⟨rfl, hb2⟩
  have pA := At.below hb2 qA
  have pB := At.below hb2 qB
  have pC := At.below hb2 qC
  have hB := below_end qD hb2
  clear hb2 qA qB qC qD b1 b2 b3 b4
  have pB' := pB
  obtain ⟨b1, b2, b3, b4⟩ := pB'
  go_upto_region 3 with fail
  have qA := pA.far2 (j := w.heap.size + 1) (by omega) (.int .i64 (Wnum.cN c d)) (.int .i64 (Wnum.cD c d))
  have qB := pB.put (.int .i64 (Wnum.cN c d)) (.int .i64 (Wnum.cD c d))
  have qC := pC.far2 (j := w.heap.size + 1) (by omega) (.int .i64 (Wnum.cN c d)) (.int .i64 (Wnum.cD c d))
  have qD := put_below hB (k := w.heap.size + 1) (by omega) (.int .i64 (Wnum.cN c d)) (.int .i64 (Wnum.cD c d))
  clear pA pB pC hB b1 b2 b3 b4
  generalize (w2.setCell ⟨w.heap.size + 1, 0, none⟩ (.int .i64 (Wnum.cN c d))).setCell ⟨w.heap.size + 1, 1, none⟩ (.int .i64 (Wnum.cD c d)) = W2 at *
  clear w2
  obtain ⟨a1, a2, a3, a4⟩ := qA
  obtain ⟨b1, b2, b3, b4⟩ := qB
  obtain ⟨c1, c2, c3, c4⟩ := qC
  rw [Y1.out] at a2
  rw [X2.out] at b2
  go_wp2_with fail
  refine (far_any _ _ (by omega) (by omega)).mono ?_
  rintro e w9 ⟨rfl, rfl⟩
  rw [X1.out]
  go_wp2_with fail
  refine (far_any _ _ (by omega) (by omega)).mono ?_
  rintro e w9 ⟨rfl, rfl⟩
  rw [Y2.out]
  go_wp2_with fail
  refine (rgcd_int _ _ _ (by omega) (by omega) (by omega) (by omega)).mono ?_
  rintro e w9 ⟨rfl, rfl⟩
  go_wp2_with fail
  refine (rgcd_int _ _ _ (by omega) (by omega) (by omega) (by omega)).mono ?_
  rintro e w9 ⟨rfl, rfl⟩
  cases g1 : decide (1000000000000 / p2 < p1) with
  | true =>
    obtain ⟨z1, z2, z3⟩ := Wnum.oNn (BAD.out (Or.inl g1))
    have Z1 : Hid (Wnum.oN (some r) = 0) := z1
    have Z2 : Hid (Wnum.oD (some r) = 0) := z2
    have Z3 : Hid (Wnum.oB (some r) = false) := z3
    clear z1 z2 z3
    go_wp2_with fail
    refine bodyPost_ret (v := .tuple #[.agg #[.int .i64 0, .int .i64 0], .bool false]) (by simp [results, Tryd.results21, go_sem, c1, c2]) rfl ⟨by rw [Z1.out, Z2.out, Z3.out], ?_⟩
    exact put_below qD (by omega) _ _
  | false =>
    cases g2 : decide (1000000 / s2 < s1) with
    | true =>
      obtain ⟨z1, z2, z3⟩ := Wnum.oNn (BAD.out (Or.inr g2))
      have Z1 : Hid (Wnum.oN (some r) = 0) := z1
      have Z2 : Hid (Wnum.oD (some r) = 0) := z2
      have Z3 : Hid (Wnum.oB (some r) = false) := z3
      clear z1 z2 z3
      go_wp2_with fail
      refine bodyPost_ret (v := .tuple #[.agg #[.int .i64 0, .int .i64 0], .bool false]) (by simp [results, Tryd.results21, go_sem, c1, c2]) rfl ⟨by rw [Z1.out, Z2.out, Z3.out], ?_⟩
      exact put_below qD (by omega) _ _
    | false =>
      obtain ⟨z1, z2, z3, z4, z5⟩ := GOOD.out g1 g2
      have Z5 : Hid (Rat.divInt (if m = true then -(p1 * p2) else p1 * p2) (s1 * s2) = r) := z5
      clear z5
      go_wp2_with fail
      rw [M.out]
      refine (made_any m _ _ _ (by omega) (by omega) (by omega) (by omega)).mono ?_
      rintro e w3 ⟨rfl, hb3⟩
      rw [Z5.out]
      obtain ⟨k1, k2, k3, k4⟩ := At.below hb3 ⟨c1, c2, c3, c4⟩
      go_wp2
      refine bodyPost_ret (v := .tuple #[.agg #[.int .i64 (Wnum.oN (some r)), .int .i64 (Wnum.oD (some r))], .bool (Wnum.oB (some r))]) (by simp [results, Tryd.results21, go_sem, k1, k2]) rfl ⟨rfl, ?_⟩
      exact put_below (below_end qD hb3) (by omega) _ _

set_option maxHeartbeats 800000 in
theorem rmul_z1 (a b c d : Int) (w : World) (h1 : -9223372036854775808 ≤ a) (h2 : a ≤ 9223372036854775807) (h3 : -9223372036854775808 ≤ b) (h4 : b ≤ 9223372036854775807)
    (g1 : -9223372036854775808 ≤ c) (g2 : c ≤ 9223372036854775807) (g3 : -9223372036854775808 ≤ d) (g4 : d ≤ 9223372036854775807) (t1 : (Wnum.cN a b == 0) = true) :
    Calls Tryd.prog 19 #[.agg #[.int .i64 a, .int .i64 b], .agg #[.int .i64 c, .int .i64 d]] w fun e w' => e = .returned (.tuple #[.agg #[.int .i64 0, .int .i64 1], .bool true]) ∧ Below w.heap.size w w' := by
  go_enter Tryd.func19, Tryd.ntmps19
  go_wp2_with fail
  refine (of_any _ _ _ h1 h2 h3 h4).mono ?_
  rintro e w1 ⟨rfl, hb1⟩
  have pA : At w1 w.heap.size (.int .i64 a) (.int .i64 b) := At.below hb1 (((At.new w _ rfl _ _).alloc _).alloc _)
  have pB : At w1 (w.heap.size + 1) (.int .i64 c) (.int .i64 d) := At.below hb1 ((At.new (w.alloc _) _ (by simp) _ _).alloc _)
  have pC : At w1 (w.heap.size + 2) (.int .i64 0) (.int .i64 0) := At.below hb1 (At.new ((w.alloc _).alloc _) _ (by simp) _ _)
  have hB : Below w.heap.size w w1 := by with_reducible repeat (first | exact Below.refl _ _ | refine below_drewN ?_ _ | refine Below.setCell ?_ (by first | (simp; done) | (simp; omega) | omega) _ | refine Below.drew ?_ | refine below_end ?_ (by assumption) | refine ball ?_ _)
  clear hb1
  have pA' := pA
  obtain ⟨a1, a2, a3, a4⟩ := pA'
  go_upto_region 2 with fail
  have qA := pA.put (.int .i64 (Wnum.cN a b)) (.int .i64 (Wnum.cD a b))
  have qB := pB.far2 (j := w.heap.size) (by omega) (.int .i64 (Wnum.cN a b)) (.int .i64 (Wnum.cD a b))
  have qC := pC.far2 (j := w.heap.size) (by omega) (.int .i64 (Wnum.cN a b)) (.int .i64 (Wnum.cD a b))
  have qD := put_below hB (k := w.heap.size) (by omega) (.int .i64 (Wnum.cN a b)) (.int .i64 (Wnum.cD a b))
  clear pA pB pC hB a1 a2 a3 a4
  generalize (w1.setCell ⟨w.heap.size, 0, none⟩ (.int .i64 (Wnum.cN a b))).setCell ⟨w.heap.size, 1, none⟩ (.int .i64 (Wnum.cD a b)) = W1 at *
  clear w1
  have pB' := qB
  obtain ⟨b1, b2, b3, b4⟩ := pB'
  go_wp2_with fail
  refine (of_any _ _ _ g1 g2 g3 g4).mono ?_
  rintro e w2 ⟨rfl, hb2⟩
  have pA := At.below hb2 qA
  have pB := At.below hb2 qB
  have pC := At.below hb2 qC
  have hB := below_end qD hb2
  clear hb2 qA qB qC qD b1 b2 b3 b4
  have pB' := pB
  obtain ⟨b1, b2, b3, b4⟩ := pB'
  go_upto_region 3 with fail
  have qA := pA.far2 (j := w.heap.size + 1) (by omega) (.int .i64 (Wnum.cN c d)) (.int .i64 (Wnum.cD c d))
  have qB := pB.put (.int .i64 (Wnum.cN c d)) (.int .i64 (Wnum.cD c d))
  have qC := pC.far2 (j := w.heap.size + 1) (by omega) (.int .i64 (Wnum.cN c d)) (.int .i64 (Wnum.cD c d))
  have qD := put_below hB (k := w.heap.size + 1) (by omega) (.int .i64 (Wnum.cN c d)) (.int .i64 (Wnum.cD c d))
  clear pA pB pC hB b1 b2 b3 b4
  generalize (w2.setCell ⟨w.heap.size + 1, 0, none⟩ (.int .i64 (Wnum.cN c d))).setCell ⟨w.heap.size + 1, 1, none⟩ (.int .i64 (Wnum.cD c d)) = W2 at *
  clear w2
  obtain ⟨a1, a2, a3, a4⟩ := qA
  obtain ⟨b1, b2, b3, b4⟩ := qB
  obtain ⟨c1, c2, c3, c4⟩ := qC
  go_wp2_with fail
  refine bodyPost_ret (v := .tuple #[.agg #[.int .i64 0, .int .i64 1], .bool true]) (by simp [results, Tryd.results19, go_sem, c1, c2]) rfl ⟨rfl, ?_⟩
  exact put_below qD (by omega) _ _

set_option maxHeartbeats 800000 in
theorem rmul_z2 (a b c d : Int) (w : World) (h1 : -9223372036854775808 ≤ a) (h2 : a ≤ 9223372036854775807) (h3 : -9223372036854775808 ≤ b) (h4 : b ≤ 9223372036854775807)
    (g1 : -9223372036854775808 ≤ c) (g2 : c ≤ 9223372036854775807) (g3 : -9223372036854775808 ≤ d) (g4 : d ≤ 9223372036854775807) (t1 : (Wnum.cN a b == 0) = false) (t2 : (Wnum.cN c d == 0) = true) :
    Calls Tryd.prog 19 #[.agg #[.int .i64 a, .int .i64 b], .agg #[.int .i64 c, .int .i64 d]] w fun e w' => e = .returned (.tuple #[.agg #[.int .i64 0, .int .i64 1], .bool true]) ∧ Below w.heap.size w w' := by
  go_enter Tryd.func19, Tryd.ntmps19
  go_wp2_with fail
  refine (of_any _ _ _ h1 h2 h3 h4).mono ?_
  rintro e w1 ⟨rfl, hb1⟩
  have pA : At w1 w.heap.size (.int .i64 a) (.int .i64 b) := At.below hb1 (((At.new w _ rfl _ _).alloc _).alloc _)
  have pB : At w1 (w.heap.size + 1) (.int .i64 c) (.int .i64 d) := At.below hb1 ((At.new (w.alloc _) _ (by simp) _ _).alloc _)
  have pC : At w1 (w.heap.size + 2) (.int .i64 0) (.int .i64 0) := At.below hb1 (At.new ((w.alloc _).alloc _) _ (by simp) _ _)
  have hB : Below w.heap.size w w1 := by with_reducible repeat (first | exact Below.refl _ _ | refine below_drewN ?_ _ | refine Below.setCell ?_ (by first | (simp; done) | (simp; omega) | omega) _ | refine Below.drew ?_ | refine below_end ?_ (by assumption) | refine ball ?_ _)
  clear hb1
  have pA' := pA
  obtain ⟨a1, a2, a3, a4⟩ := pA'
  go_upto_region 2 with fail
  have qA := pA.put (.int .i64 (Wnum.cN a b)) (.int .i64 (Wnum.cD a b))
  have qB := pB.far2 (j := w.heap.size) (by omega) (.int .i64 (Wnum.cN a b)) (.int .i64 (Wnum.cD a b))
  have qC := pC.far2 (j := w.heap.size) (by omega) (.int .i64 (Wnum.cN a b)) (.int .i64 (Wnum.cD a b))
  have qD := put_below hB (k := w.heap.size) (by omega) (.int .i64 (Wnum.cN a b)) (.int .i64 (Wnum.cD a b))
  clear pA pB pC hB a1 a2 a3 a4
  generalize (w1.setCell ⟨w.heap.size, 0, none⟩ (.int .i64 (Wnum.cN a b))).setCell ⟨w.heap.size, 1, none⟩ (.int .i64 (Wnum.cD a b)) = W1 at *
  clear w1
  have pB' := qB
  obtain ⟨b1, b2, b3, b4⟩ := pB'
  go_wp2_with fail
  refine (of_any _ _ _ g1 g2 g3 g4).mono ?_
  rintro e w2 ⟨rfl, hb2⟩
  have pA := At.below hb2 qA
  have pB := At.below hb2 qB
  have pC := At.below hb2 qC
  have hB := below_end qD hb2
  clear hb2 qA qB qC qD b1 b2 b3 b4
  have pB' := pB
  obtain ⟨b1, b2, b3, b4⟩ := pB'
  go_upto_region 3 with fail
  have qA := pA.far2 (j := w.heap.size + 1) (by omega) (.int .i64 (Wnum.cN c d)) (.int .i64 (Wnum.cD c d))
  have qB := pB.put (.int .i64 (Wnum.cN c d)) (.int .i64 (Wnum.cD c d))
  have qC := pC.far2 (j := w.heap.size + 1) (by omega) (.int .i64 (Wnum.cN c d)) (.int .i64 (Wnum.cD c d))
  have qD := put_below hB (k := w.heap.size + 1) (by omega) (.int .i64 (Wnum.cN c d)) (.int .i64 (Wnum.cD c d))
  clear pA pB pC hB b1 b2 b3 b4
  generalize (w2.setCell ⟨w.heap.size + 1, 0, none⟩ (.int .i64 (Wnum.cN c d))).setCell ⟨w.heap.size + 1, 1, none⟩ (.int .i64 (Wnum.cD c d)) = W2 at *
  clear w2
  obtain ⟨a1, a2, a3, a4⟩ := qA
  obtain ⟨b1, b2, b3, b4⟩ := qB
  obtain ⟨c1, c2, c3, c4⟩ := qC
  go_wp2_with fail
  refine bodyPost_ret (v := .tuple #[.agg #[.int .i64 0, .int .i64 1], .bool true]) (by simp [results, Tryd.results19, go_sem, c1, c2]) rfl ⟨rfl, ?_⟩
  exact put_below qD (by omega) _ _

set_option maxHeartbeats 800000 in
theorem rdiv_z1 (a b c d : Int) (w : World) (h1 : -9223372036854775808 ≤ a) (h2 : a ≤ 9223372036854775807) (h3 : -9223372036854775808 ≤ b) (h4 : b ≤ 9223372036854775807)
    (g1 : -9223372036854775808 ≤ c) (g2 : c ≤ 9223372036854775807) (g3 : -9223372036854775808 ≤ d) (g4 : d ≤ 9223372036854775807) (t2 : (Wnum.cN c d == 0) = true) :
    Calls Tryd.prog 21 #[.agg #[.int .i64 a, .int .i64 b], .agg #[.int .i64 c, .int .i64 d]] w fun e w' => e = .returned (.tuple #[.agg #[.int .i64 0, .int .i64 0], .bool false]) ∧ Below w.heap.size w w' := by
  go_enter Tryd.func21, Tryd.ntmps21
  go_wp2_with fail
  refine (of_any _ _ _ h1 h2 h3 h4).mono ?_
  rintro e w1 ⟨rfl, hb1⟩
  have pA : At w1 w.heap.size (.int .i64 a) (.int .i64 b) := At.below hb1 (((At.new w _ rfl _ _).alloc _).alloc _)
  have pB : At w1 (w.heap.size + 1) (.int .i64 c) (.int .i64 d) := At.below hb1 ((At.new (w.alloc _) _ (by simp) _ _).alloc _)
  have pC : At w1 (w.heap.size + 2) (.int .i64 0) (.int .i64 0) := At.below hb1 (At.new ((w.alloc _).alloc _) _ (by simp) _ _)
  have hB : Below w.heap.size w w1 := by with_reducible repeat (first | exact Below.refl _ _ | refine below_drewN ?_ _ | refine Below.setCell ?_ (by first | (simp; done) | (simp; omega) | omega) _ | refine Below.drew ?_ | refine below_end ?_ (by assumption) | refine ball ?_ _)
  clear hb1
  have pA' := pA
  obtain ⟨a1, a2, a3, a4⟩ := pA'
  go_upto_region 2 with fail
  have qA := pA.put (.int .i64 (Wnum.cN a b)) (.int .i64 (Wnum.cD a b))
  have qB := pB.far2 (j := w.heap.size) (by omega) (.int .i64 (Wnum.cN a b)) (.int .i64 (Wnum.cD a b))
  have qC := pC.far2 (j := w.heap.size) (by omega) (.int .i64 (Wnum.cN a b)) (.int .i64 (Wnum.cD a b))
  have qD := put_below hB (k := w.heap.size) (by omega) (.int .i64 (Wnum.cN a b)) (.int .i64 (Wnum.cD a b))
  clear pA pB pC hB a1 a2 a3 a4
  generalize (w1.setCell ⟨w.heap.size, 0, none⟩ (.int .i64 (Wnum.cN a b))).setCell ⟨w.heap.size, 1, none⟩ (.int .i64 (Wnum.cD a b)) = W1 at *
  clear w1
  have pB' := qB
  obtain ⟨b1, b2, b3, b4⟩ := pB'
  go_wp2_with fail
  refine (of_any _ _ _ g1 g2 g3 g4).mono ?_
  rintro e w2 ⟨rfl, hb2⟩
  have pA := At.below hb2 qA
  have pB := At.below hb2 qB
  have pC := At.below hb2 qC
  have hB := below_end qD hb2
  clear hb2 qA qB qC qD b1 b2 b3 b4
  have pB' := pB
  obtain ⟨b1, b2, b3, b4⟩ := pB'
  go_upto_region 3 with fail
  have qA := pA.far2 (j := w.heap.size + 1) (by omega) (.int .i64 (Wnum.cN c d)) (.int .i64 (Wnum.cD c d))
  have qB := pB.put (.int .i64 (Wnum.cN c d)) (.int .i64 (Wnum.cD c d))
  have qC := pC.far2 (j := w.heap.size + 1) (by omega) (.int .i64 (Wnum.cN c d)) (.int .i64 (Wnum.cD c d))
  have qD := put_below hB (k := w.heap.size + 1) (by omega) (.int .i64 (Wnum.cN c d)) (.int .i64 (Wnum.cD c d))
  clear pA pB pC hB b1 b2 b3 b4
  generalize (w2.setCell ⟨w.heap.size + 1, 0, none⟩ (.int .i64 (Wnum.cN c d))).setCell ⟨w.heap.size + 1, 1, none⟩ (.int .i64 (Wnum.cD c d)) = W2 at *
  clear w2
  obtain ⟨a1, a2, a3, a4⟩ := qA
  obtain ⟨b1, b2, b3, b4⟩ := qB
  obtain ⟨c1, c2, c3, c4⟩ := qC
  go_wp2_with fail
  refine bodyPost_ret (v := .tuple #[.agg #[.int .i64 0, .int .i64 0], .bool false]) (by simp [results, Tryd.results21, go_sem, c1, c2]) rfl ⟨rfl, ?_⟩
  exact put_below qD (by omega) _ _

set_option maxHeartbeats 800000 in
theorem rdiv_z2 (a b c d : Int) (w : World) (h1 : -9223372036854775808 ≤ a) (h2 : a ≤ 9223372036854775807) (h3 : -9223372036854775808 ≤ b) (h4 : b ≤ 9223372036854775807)
    (g1 : -9223372036854775808 ≤ c) (g2 : c ≤ 9223372036854775807) (g3 : -9223372036854775808 ≤ d) (g4 : d ≤ 9223372036854775807) (t2 : (Wnum.cN c d == 0) = false) (t1 : (Wnum.cN a b == 0) = true) :
    Calls Tryd.prog 21 #[.agg #[.int .i64 a, .int .i64 b], .agg #[.int .i64 c, .int .i64 d]] w fun e w' => e = .returned (.tuple #[.agg #[.int .i64 (Wnum.cN a b), .int .i64 (Wnum.cD a b)], .bool true]) ∧ Below w.heap.size w w' := by
  go_enter Tryd.func21, Tryd.ntmps21
  go_wp2_with fail
  refine (of_any _ _ _ h1 h2 h3 h4).mono ?_
  rintro e w1 ⟨rfl, hb1⟩
  have pA : At w1 w.heap.size (.int .i64 a) (.int .i64 b) := At.below hb1 (((At.new w _ rfl _ _).alloc _).alloc _)
  have pB : At w1 (w.heap.size + 1) (.int .i64 c) (.int .i64 d) := At.below hb1 ((At.new (w.alloc _) _ (by simp) _ _).alloc _)
  have pC : At w1 (w.heap.size + 2) (.int .i64 0) (.int .i64 0) := At.below hb1 (At.new ((w.alloc _).alloc _) _ (by simp) _ _)
  have hB : Below w.heap.size w w1 := by with_reducible repeat (first | exact Below.refl _ _ | refine below_drewN ?_ _ | refine Below.setCell ?_ (by first | (simp; done) | (simp; omega) | omega) _ | refine Below.drew ?_ | refine below_end ?_ (by assumption) | refine ball ?_ _)
  clear hb1
  have pA' := pA
  obtain ⟨a1, a2, a3, a4⟩ := pA'
  go_upto_region 2 with fail
  have qA := pA.put (.int .i64 (Wnum.cN a b)) (.int .i64 (Wnum.cD a b))
  have qB := pB.far2 (j := w.heap.size) (by omega) (.int .i64 (Wnum.cN a b)) (.int .i64 (Wnum.cD a b))
  have qC := pC.far2 (j := w.heap.size) (by omega) (.int .i64 (Wnum.cN a b)) (.int .i64 (Wnum.cD a b))
  have qD := put_below hB (k := w.heap.size) (by omega) (.int .i64 (Wnum.cN a b)) (.int .i64 (Wnum.cD a b))
  clear pA pB pC hB a1 a2 a3 a4
  generalize (w1.setCell ⟨w.heap.size, 0, none⟩ (.int .i64 (Wnum.cN a b))).setCell ⟨w.heap.size, 1, none⟩ (.int .i64 (Wnum.cD a b)) = W1 at *
  clear w1
  have pB' := qB
  obtain ⟨b1, b2, b3, b4⟩ := pB'
  go_wp2_with fail
  refine (of_any _ _ _ g1 g2 g3 g4).mono ?_
  rintro e w2 ⟨rfl, hb2⟩
  have pA := At.below hb2 qA
  have pB := At.below hb2 qB
  have pC := At.below hb2 qC
  have hB := below_end qD hb2
  clear hb2 qA qB qC qD b1 b2 b3 b4
  have pB' := pB
  obtain ⟨b1, b2, b3, b4⟩ := pB'
  go_upto_region 3 with fail
  have qA := pA.far2 (j := w.heap.size + 1) (by omega) (.int .i64 (Wnum.cN c d)) (.int .i64 (Wnum.cD c d))
  have qB := pB.put (.int .i64 (Wnum.cN c d)) (.int .i64 (Wnum.cD c d))
  have qC := pC.far2 (j := w.heap.size + 1) (by omega) (.int .i64 (Wnum.cN c d)) (.int .i64 (Wnum.cD c d))
  have qD := put_below hB (k := w.heap.size + 1) (by omega) (.int .i64 (Wnum.cN c d)) (.int .i64 (Wnum.cD c d))
  clear pA pB pC hB b1 b2 b3 b4
  generalize (w2.setCell ⟨w.heap.size + 1, 0, none⟩ (.int .i64 (Wnum.cN c d))).setCell ⟨w.heap.size + 1, 1, none⟩ (.int .i64 (Wnum.cD c d)) = W2 at *
  clear w2
  obtain ⟨a1, a2, a3, a4⟩ := qA
  obtain ⟨b1, b2, b3, b4⟩ := qB
  obtain ⟨c1, c2, c3, c4⟩ := qC
  go_wp2_with fail
  refine bodyPost_ret (v := .tuple #[.agg #[.int .i64 (Wnum.cN a b), .int .i64 (Wnum.cD a b)], .bool true]) (by simp [results, Tryd.results21, go_sem, c1, c2]) rfl ⟨rfl, ?_⟩
  exact put_below qD (by omega) _ _

theorem rmul_any (a b c d : Int) (w : World) (h1 : -9223372036854775808 ≤ a) (h2 : a ≤ 9223372036854775807) (h3 : -9223372036854775808 ≤ b) (h4 : b ≤ 9223372036854775807)
    (g1 : -9223372036854775808 ≤ c) (g2 : c ≤ 9223372036854775807) (g3 : -9223372036854775808 ≤ d) (g4 : d ≤ 9223372036854775807) :
    Calls Tryd.prog 19 #[.agg #[.int .i64 a, .int .i64 b], .agg #[.int .i64 c, .int .i64 d]] w fun e w' => e = .returned (.tuple #[.agg #[.int .i64 (Wnum.oN (some (Wnum.qu a b * Wnum.qu c d))), .int .i64 (Wnum.oD (some (Wnum.qu a b * Wnum.qu c d)))], .bool (Wnum.oB (some (Wnum.qu a b * Wnum.qu c d)))]) ∧ Below w.heap.size w w' := by
  obtain ⟨n1, n2⟩ := Wnum.cN_bd a b
  obtain ⟨n3, n4⟩ := Wnum.cN_bd c d
  obtain ⟨m1, m2⟩ := Wnum.cD_bd a b
  obtain ⟨m3, m4⟩ := Wnum.cD_bd c d
  by_cases c1 : Wnum.cN a b = 0
  · rw [Wnum.qu_zero c1, Rat.zero_mul, Wnum.o_zero.1, Wnum.o_zero.2.1, Wnum.o_zero.2.2]
    exact rmul_z1 a b c d w h1 h2 h3 h4 g1 g2 g3 g4 (beq_iff_eq.2 c1)
  have t1 : (Wnum.cN a b == 0) = false := beq_eq_false_iff_ne.2 c1
  by_cases c2 : Wnum.cN c d = 0
  · rw [Wnum.qu_zero c2, Rat.mul_zero, Wnum.o_zero.1, Wnum.o_zero.2.1, Wnum.o_zero.2.2]
    exact rmul_z2 a b c d w h1 h2 h3 h4 g1 g2 g3 g4 t1 (beq_iff_eq.2 c2)
  have t2 : (Wnum.cN c d == 0) = false := beq_eq_false_iff_ne.2 c2
  exact rmul_core a b c d _ _ _ _ _ _ w h1 h2 h3 h4 g1 g2 g3 g4 (rfl : ((Wnum.cN a b).natAbs : Int) = _) (rfl : Wnum.cD a b = _) (rfl : ((Wnum.cN c d).natAbs : Int) = _) (rfl : Wnum.cD c d = _) (rfl : (!(decide (Wnum.cN a b < 0) == decide (Wnum.cN c d < 0))) = _) t1 t2
    (by omega) (by omega) (by omega) (by omega) (by omega) (by omega) (by omega) (by omega) (Wnum.abs_gcd a b) (Wnum.abs_gcd c d) (Wnum.sized (Wnum.abs_qu a b) (Wnum.abs_qu c d))

theorem div_sized {a b c d : Int} (h : Wnum.cN c d ≠ 0) :
    (if (!(decide (Wnum.cN a b < 0) == decide (Wnum.cN c d < 0))) = true then -(Rat.divInt ((Wnum.cN a b).natAbs : Int) (Wnum.cD a b) * Rat.divInt (Wnum.cD c d) ((Wnum.cN c d).natAbs : Int)) else Rat.divInt ((Wnum.cN a b).natAbs : Int) (Wnum.cD a b) * Rat.divInt (Wnum.cD c d) ((Wnum.cN c d).natAbs : Int))
      = Rat.divInt (Wnum.cN a b * Wnum.cD c d) (Wnum.cN c d * Wnum.cD a b) := by
  have hq : Rat.divInt (Wnum.cD c d) ((Wnum.cN c d).natAbs : Int) = if Wnum.cN c d < 0 then -(Rat.divInt (Wnum.cD c d) (Wnum.cN c d)) else Rat.divInt (Wnum.cD c d) (Wnum.cN c d) := by
    split
    · rw [show ((Wnum.cN c d).natAbs : Int) = -(Wnum.cN c d) by omega, Rat.divInt_neg', ← Rat.neg_divInt]
    · rw [show ((Wnum.cN c d).natAbs : Int) = Wnum.cN c d by omega]
  have := Wnum.sized (Wnum.abs_qu a b) hq
  refine this.trans ?_
  unfold Wnum.qu
  rw [Rat.divInt_mul_divInt, Int.mul_comm (Wnum.cD a b)]

theorem rdiv_any (a b c d : Int) (w : World) (h1 : -9223372036854775808 ≤ a) (h2 : a ≤ 9223372036854775807) (h3 : -9223372036854775808 ≤ b) (h4 : b ≤ 9223372036854775807)
    (g1 : -9223372036854775808 ≤ c) (g2 : c ≤ 9223372036854775807) (g3 : -9223372036854775808 ≤ d) (g4 : d ≤ 9223372036854775807) :
    Calls Tryd.prog 21 #[.agg #[.int .i64 a, .int .i64 b], .agg #[.int .i64 c, .int .i64 d]] w fun e w' => e = .returned (.tuple #[.agg #[.int .i64 (Wnum.oN (Wnum.mk (Wnum.cN a b * Wnum.cD c d) (Wnum.cN c d * Wnum.cD a b))), .int .i64 (Wnum.oD (Wnum.mk (Wnum.cN a b * Wnum.cD c d) (Wnum.cN c d * Wnum.cD a b)))], .bool (Wnum.oB (Wnum.mk (Wnum.cN a b * Wnum.cD c d) (Wnum.cN c d * Wnum.cD a b)))]) ∧ Below w.heap.size w w' := by
  obtain ⟨n1, n2⟩ := Wnum.cN_bd a b
  obtain ⟨n3, n4⟩ := Wnum.cN_bd c d
  obtain ⟨m1, m2⟩ := Wnum.cD_bd a b
  obtain ⟨m3, m4⟩ := Wnum.cD_bd c d
  by_cases c2 : Wnum.cN c d = 0
  · rw [c2, Int.zero_mul, Wnum.mk_zero]
    exact rdiv_z1 a b c d w h1 h2 h3 h4 g1 g2 g3 g4 (beq_iff_eq.2 c2)
  have t2 : (Wnum.cN c d == 0) = false := beq_eq_false_iff_ne.2 c2
  have c3 : Wnum.cN c d * Wnum.cD a b ≠ 0 := by simp; omega
  by_cases c1 : Wnum.cN a b = 0
  · have e1 : Wnum.cD a b = 1 := by
      have := Wnum.c_gcd a b
      rw [c1, Int.gcd_zero_left] at this
      omega
    have e2 := rdiv_z2 a b c d w h1 h2 h3 h4 g1 g2 g3 g4 t2 (beq_iff_eq.2 c1)
    rw [Wnum.mk_pos c3]
    rw [c1, e1] at e2 ⊢
    rw [Int.zero_mul, Rat.zero_divInt, Wnum.o_zero.1, Wnum.o_zero.2.1, Wnum.o_zero.2.2]
    exact e2
  have t1 : (Wnum.cN a b == 0) = false := beq_eq_false_iff_ne.2 c1
  rw [Wnum.mk_pos c3]
  exact rdiv_core a b c d _ _ _ _ _ _ w h1 h2 h3 h4 g1 g2 g3 g4 (rfl : ((Wnum.cN a b).natAbs : Int) = _) (rfl : Wnum.cD a b = _) (rfl : Wnum.cD c d = _) (rfl : ((Wnum.cN c d).natAbs : Int) = _) (rfl : (!(decide (Wnum.cN a b < 0) == decide (Wnum.cN c d < 0))) = _) t1 t2
    (by omega) (by omega) (by omega) (by omega) (by omega) (by omega) (by omega) (by omega) (Wnum.abs_gcd a b) (by rw [Int.gcd_comm]; exact Wnum.abs_gcd c d) (div_sized c2)
end Go.Proofs.YtfbgdfpbbnhfmaaDoor
