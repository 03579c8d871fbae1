/- The contract of the reference's Mod. -/
import Derived.Test.YtfbgdfpbbnhfmaaDoorWalkP
namespace Go.Proofs.YtfbgdfpbbnhfmaaDoor
open Go.RowKit
set_option linter.unusedVariables false

theorem left_bd {x y : Int} (hy : 1 ≤ y) (h1 : -1000000000000000000 ≤ x) (h2 : x ≤ 1000000000000000000) (hy2 : y ≤ 1000000000000000000) :
    -2000000000000000000 ≤ y * (x / y) ∧ y * (x / y) ≤ 2000000000000000000 ∧ 0 ≤ x - y * (x / y) ∧ x - y * (x / y) ≤ 1000000000000000000 := by
  have e := Int.emod_def x y
  have h3 := Int.emod_nonneg x (show y ≠ 0 by omega)
  have h4 := Int.emod_lt_of_pos x (show 0 < y by omega)
  omega

set_option maxHeartbeats 800000 in
theorem rmod_zero (a b c d : Int) (w : World) (h1 : -9223372036854775808 ≤ a) (h2 : a ≤ 9223372036854775807) (h3 : -9223372036854775808 ≤ b) (h4 : b ≤ 9223372036854775807)
    (g1 : -9223372036854775808 ≤ c) (g2 : c ≤ 9223372036854775807) (g3 : -9223372036854775808 ≤ d) (g4 : d ≤ 9223372036854775807) (t1 : (Wnum.cN c d == 0) = true) :
    Calls Tryd.prog 23 #[.agg #[.int .i64 a, .int .i64 b], .agg #[.int .i64 c, .int .i64 d]] w fun e w' => e = .returned (.tuple #[.agg #[.int .i64 0, .int .i64 0], .bool false]) ∧ Below w.heap.size w w' := by
  go_enter Tryd.func23, Tryd.ntmps23
  go_wp2_with fail
  refine (of_any _ _ _ h1 h2 h3 h4).mono ?_
  rintro e w1 ⟨rfl, hb1⟩
  have pA : At w1 w.heap.size (.int .i64 a) (.int .i64 b) := At.below hb1 (((At.new w _ rfl _ _).alloc _).alloc _)
  have pB : At w1 (w.heap.size + 1) (.int .i64 c) (.int .i64 d) := At.below hb1 ((At.new (w.alloc _) _ (by simp) _ _).alloc _)
  have pC : At w1 (w.heap.size + 2) (.int .i64 0) (.int .i64 0) := At.below hb1 (At.new ((w.alloc _).alloc _) _ (by simp) _ _)
  have hB : Below w.heap.size w w1 := by with_reducible repeat (first | exact Below.refl _ _ | refine below_drewN ?_ _ | refine Below.setCell ?_ (by first | (simp; done) | (simp; omega) | omega) _ | refine Below.drew ?_ | refine below_end ?_ (by assumption) | refine ball ?_ _)
  clear hb1
  have pA' := pA
  obtain ⟨a1, a2, a3, a4⟩ := pA'
  go_upto_region 2 with fail
  have qA := pA.put (.int .i64 (Wnum.cN a b)) (.int .i64 (Wnum.cD a b))
  have qB := pB.far2 (j := w.heap.size) (by omega) (.int .i64 (Wnum.cN a b)) (.int .i64 (Wnum.cD a b))
  have qC := pC.far2 (j := w.heap.size) (by omega) (.int .i64 (Wnum.cN a b)) (.int .i64 (Wnum.cD a b))
  have qD := put_below hB (k := w.heap.size) (by omega) (.int .i64 (Wnum.cN a b)) (.int .i64 (Wnum.cD a b))
  clear pA pB pC hB a1 a2 a3 a4
  generalize (w1.setCell ⟨w.heap.size, 0, none⟩ (.int .i64 (Wnum.cN a b))).setCell ⟨w.heap.size, 1, none⟩ (.int .i64 (Wnum.cD a b)) = W1 at *
  clear w1
  have pB' := qB
  obtain ⟨b1, b2, b3, b4⟩ := pB'
  go_wp2_with fail
  refine (of_any _ _ _ g1 g2 g3 g4).mono ?_
  rintro e w2 ⟨rfl, hb2⟩
  have pA := At.below hb2 qA
  have pB := At.below hb2 qB
  have pC := At.below hb2 qC
  have hB := below_end qD hb2
  clear hb2 qA qB qC qD b1 b2 b3 b4
  have pB' := pB
  obtain ⟨b1, b2, b3, b4⟩ := pB'
  go_upto_region 3 with fail
  have qA := pA.far2 (j := w.heap.size + 1) (by omega) (.int .i64 (Wnum.cN c d)) (.int .i64 (Wnum.cD c d))
  have qB := pB.put (.int .i64 (Wnum.cN c d)) (.int .i64 (Wnum.cD c d))
  have qC := pC.far2 (j := w.heap.size + 1) (by omega) (.int .i64 (Wnum.cN c d)) (.int .i64 (Wnum.cD c d))
  have qD := put_below hB (k := w.heap.size + 1) (by omega) (.int .i64 (Wnum.cN c d)) (.int .i64 (Wnum.cD c d))
  clear pA pB pC hB b1 b2 b3 b4
  generalize (w2.setCell ⟨w.heap.size + 1, 0, none⟩ (.int .i64 (Wnum.cN c d))).setCell ⟨w.heap.size + 1, 1, none⟩ (.int .i64 (Wnum.cD c d)) = W2 at *
  clear w2
  obtain ⟨a1, a2, a3, a4⟩ := qA
  obtain ⟨b1, b2, b3, b4⟩ := qB
  obtain ⟨c1, c2, c3, c4⟩ := qC
  go_wp2_with fail
  refine bodyPost_ret (v := .tuple #[.agg #[.int .i64 0, .int .i64 0], .bool false]) (by simp [results, Tryd.results23, go_sem, c1, c2]) rfl ⟨rfl, ?_⟩
  exact put_below qD (by omega) _ _

set_option maxHeartbeats 800000 in
theorem rmod_pos (a b c d : Int) (w : World) (h1 : -9223372036854775808 ≤ a) (h2 : a ≤ 9223372036854775807) (h3 : -9223372036854775808 ≤ b) (h4 : b ≤ 9223372036854775807)
    (g1 : -9223372036854775808 ≤ c) (g2 : c ≤ 9223372036854775807) (g3 : -9223372036854775808 ≤ d) (g4 : d ≤ 9223372036854775807) (hz : 0 < Wnum.cN c d) :
    Calls Tryd.prog 23 #[.agg #[.int .i64 a, .int .i64 b], .agg #[.int .i64 c, .int .i64 d]] w fun e w' => e = .returned (.tuple #[.agg #[.int .i64 (Wnum.oN (Wnum.modO a b c d)), .int .i64 (Wnum.oD (Wnum.modO a b c d))], .bool (Wnum.oB (Wnum.modO a b c d))]) ∧ Below w.heap.size w w' := by
  obtain ⟨m1, m2⟩ := mul_bd (Wnum.cN_bd a b).1 (Wnum.cN_bd a b).2 (Wnum.cD_bd c d).1 (Wnum.cD_bd c d).2
  obtain ⟨m3, m4⟩ := mul_bd (Wnum.cN_bd c d).1 (Wnum.cN_bd c d).2 (Wnum.cD_bd a b).1 (Wnum.cD_bd a b).2
  obtain ⟨m5, m6⟩ := den_bd (a := a) (b := b) (c := c) (d := d)
  obtain ⟨p1, p2⟩ := Wnum.cD_bd a b
  have hy : 0 < Wnum.cN c d * Wnum.cD a b := Int.mul_pos hz (by omega)
  rw [Wnum.modO_some (by omega), ← Wnum.fmod_pos hy, ← Wnum.mk_pos (show Wnum.cD a b * Wnum.cD c d ≠ 0 by omega)]
  have t1 : (Wnum.cN c d == 0) = false := beq_eq_false_iff_ne.2 (by omega)
  have t2 : decide (Wnum.cN c d * Wnum.cD a b < 0) = false := by simp only [decide_eq_false_iff_not]; omega
  have t3 : decide (Wnum.cN c d < 0) = false := by simp only [decide_eq_false_iff_not]; omega
  obtain ⟨b5, b6, b7, b8⟩ := left_bd (x := Wnum.cN a b * Wnum.cD c d) (y := Wnum.cN c d * Wnum.cD a b) (by omega) (by omega) (by omega) (by omega)
  go_enter Tryd.func23, Tryd.ntmps23
  go_wp2_with fail
  refine (of_any _ _ _ h1 h2 h3 h4).mono ?_
  rintro e w1 ⟨rfl, hb1⟩
  have pA : At w1 w.heap.size (.int .i64 a) (.int .i64 b) := At.below hb1 (((At.new w _ rfl _ _).alloc _).alloc _)
  have pB : At w1 (w.heap.size + 1) (.int .i64 c) (.int .i64 d) := At.below hb1 ((At.new (w.alloc _) _ (by simp) _ _).alloc _)
  have pC : At w1 (w.heap.size + 2) (.int .i64 0) (.int .i64 0) := At.below hb1 (At.new ((w.alloc _).alloc _) _ (by simp) _ _)
  have hB : Below w.heap.size w w1 := by with_reducible repeat (first | exact Below.refl _ _ | refine below_drewN ?_ _ | refine Below.setCell ?_ (by first | (simp; done) | (simp; omega) | omega) _ | refine Below.drew ?_ | refine below_end ?_ (by assumption) | refine ball ?_ _)
  clear hb1
  have pA' := pA
  obtain ⟨a1, a2, a3, a4⟩ := pA'
  go_upto_region 2 with fail
  have qA := pA.put (.int .i64 (Wnum.cN a b)) (.int .i64 (Wnum.cD a b))
  have qB := pB.far2 (j := w.heap.size) (by omega) (.int .i64 (Wnum.cN a b)) (.int .i64 (Wnum.cD a b))
  have qC := pC.far2 (j := w.heap.size) (by omega) (.int .i64 (Wnum.cN a b)) (.int .i64 (Wnum.cD a b))
  have qD := put_below hB (k := w.heap.size) (by omega) (.int .i64 (Wnum.cN a b)) (.int .i64 (Wnum.cD a b))
  clear pA pB pC hB a1 a2 a3 a4
  generalize (w1.setCell ⟨w.heap.size, 0, none⟩ (.int .i64 (Wnum.cN a b))).setCell ⟨w.heap.size, 1, none⟩ (.int .i64 (Wnum.cD a b)) = W1 at *
  clear w1
  have pB' := qB
  obtain ⟨b1, b2, b3, b4⟩ := pB'
  go_wp2_with fail
  refine (of_any _ _ _ g1 g2 g3 g4).mono ?_
  rintro e w2 ⟨rfl, hb2⟩
  have pA := At.below hb2 qA
  have pB := At.below hb2 qB
  have pC := At.below hb2 qC
  have hB := below_end qD hb2
  clear hb2 qA qB qC qD b1 b2 b3 b4
  have pB' := pB
  obtain ⟨b1, b2, b3, b4⟩ := pB'
  go_upto_region 3 with fail
  have qA := pA.far2 (j := w.heap.size + 1) (by omega) (.int .i64 (Wnum.cN c d)) (.int .i64 (Wnum.cD c d))
  have qB := pB.put (.int .i64 (Wnum.cN c d)) (.int .i64 (Wnum.cD c d))
  have qC := pC.far2 (j := w.heap.size + 1) (by omega) (.int .i64 (Wnum.cN c d)) (.int .i64 (Wnum.cD c d))
  have qD := put_below hB (k := w.heap.size + 1) (by omega) (.int .i64 (Wnum.cN c d)) (.int .i64 (Wnum.cD c d))
  clear pA pB pC hB b1 b2 b3 b4
  generalize (w2.setCell ⟨w.heap.size + 1, 0, none⟩ (.int .i64 (Wnum.cN c d))).setCell ⟨w.heap.size + 1, 1, none⟩ (.int .i64 (Wnum.cD c d)) = W2 at *
  clear w2
  obtain ⟨a1, a2, a3, a4⟩ := qA
  obtain ⟨b1, b2, b3, b4⟩ := qB
  obtain ⟨c1, c2, c3, c4⟩ := qC
  go_wp2_with fail
  refine (floored_any _ _ _ (by omega) (by omega) (by omega) (by omega)).mono ?_
  rintro e w9 ⟨rfl, rfl⟩
  go_wp2_with fail
  refine (rmake_any _ _ _ (by omega) (by omega) (by omega) (by omega)).mono ?_
  rintro e w3 ⟨rfl, hb3⟩
  obtain ⟨k1, k2, k3, k4⟩ := At.below hb3 ⟨c1, c2, c3, c4⟩
  go_wp2
  refine bodyPost_ret (v := .tuple #[.agg #[.int .i64 (Wnum.oN (Wnum.mk (Wnum.cN a b * Wnum.cD c d - Wnum.cN c d * Wnum.cD a b * ((Wnum.cN a b * Wnum.cD c d) / (Wnum.cN c d * Wnum.cD a b))) (Wnum.cD a b * Wnum.cD c d))), .int .i64 (Wnum.oD (Wnum.mk (Wnum.cN a b * Wnum.cD c d - Wnum.cN c d * Wnum.cD a b * ((Wnum.cN a b * Wnum.cD c d) / (Wnum.cN c d * Wnum.cD a b))) (Wnum.cD a b * Wnum.cD c d)))], .bool (Wnum.oB (Wnum.mk (Wnum.cN a b * Wnum.cD c d - Wnum.cN c d * Wnum.cD a b * ((Wnum.cN a b * Wnum.cD c d) / (Wnum.cN c d * Wnum.cD a b))) (Wnum.cD a b * Wnum.cD c d)))]) (by simp [results, Tryd.results23, go_sem, k1, k2]) rfl ⟨rfl, ?_⟩
  exact put_below (below_end qD hb3) (by omega) _ _

set_option maxHeartbeats 800000 in
theorem rmod_neg' (a b c d x y : Int) (w : World) (h1 : -9223372036854775808 ≤ a) (h2 : a ≤ 9223372036854775807) (h3 : -9223372036854775808 ≤ b) (h4 : b ≤ 9223372036854775807)
    (g1 : -9223372036854775808 ≤ c) (g2 : c ≤ 9223372036854775807) (g3 : -9223372036854775808 ≤ d) (g4 : d ≤ 9223372036854775807) (eX : Hid (-(Wnum.cN a b * Wnum.cD c d) = x)) (eY : Hid (-(Wnum.cN c d * Wnum.cD a b) = y)) (hz : Wnum.cN c d < 0) (x1 : -1000000000000000000 ≤ x) (x2 : x ≤ 1000000000000000000) (y1 : 1 ≤ y) (y2 : y ≤ 1000000000000000000) :
    Calls Tryd.prog 23 #[.agg #[.int .i64 a, .int .i64 b], .agg #[.int .i64 c, .int .i64 d]] w fun e w' => e = .returned (.tuple #[.agg #[.int .i64 (Wnum.oN (Wnum.mk (-(x - y * (x / y))) (Wnum.cD a b * Wnum.cD c d))), .int .i64 (Wnum.oD (Wnum.mk (-(x - y * (x / y))) (Wnum.cD a b * Wnum.cD c d)))], .bool (Wnum.oB (Wnum.mk (-(x - y * (x / y))) (Wnum.cD a b * Wnum.cD c d)))]) ∧ Below w.heap.size w w' := by
  obtain ⟨m1, m2⟩ := mul_bd (Wnum.cN_bd a b).1 (Wnum.cN_bd a b).2 (Wnum.cD_bd c d).1 (Wnum.cD_bd c d).2
  obtain ⟨m3, m4⟩ := mul_bd (Wnum.cN_bd c d).1 (Wnum.cN_bd c d).2 (Wnum.cD_bd a b).1 (Wnum.cD_bd a b).2
  obtain ⟨m5, m6⟩ := den_bd (a := a) (b := b) (c := c) (d := d)
  obtain ⟨p1, p2⟩ := Wnum.cD_bd a b
  have hy : Wnum.cN c d * Wnum.cD a b < 0 := Int.mul_neg_of_neg_of_pos hz (by omega)
  have t1 : (Wnum.cN c d == 0) = false := beq_eq_false_iff_ne.2 (by omega)
  have t2 : decide (Wnum.cN c d * Wnum.cD a b < 0) = true := by simp only [decide_eq_true_eq]; omega
  have t3 : decide (Wnum.cN c d < 0) = true := by simp only [decide_eq_true_eq]; omega
  obtain ⟨b5, b6, b7, b8⟩ := left_bd y1 x1 x2 y2
  go_enter Tryd.func23, Tryd.ntmps23
  go_wp2_with fail
  refine (of_any _ _ _ h1 h2 h3 h4).mono ?_
  rintro e w1 ⟨rfl, hb1⟩
  have pA : At w1 w.heap.size (.int .i64 a) (.int .i64 b) := At.below hb1 (((At.new w _ rfl _ _).alloc _).alloc _)
  have pB : At w1 (w.heap.size + 1) (.int .i64 c) (.int .i64 d) := At.below hb1 ((At.new (w.alloc _) _ (by simp) _ _).alloc _)
  have pC : At w1 (w.heap.size + 2) (.int .i64 0) (.int .i64 0) := At.below hb1 (At.new ((w.alloc _).alloc _) _ (by simp) _ _)
  have hB : Below w.heap.size w w1 := by with_reducible repeat (first | exact Below.refl _ _ | refine below_drewN ?_ _ | refine Below.setCell ?_ (by first | (simp; done) | (simp; omega) | omega) _ | refine Below.drew ?_ | refine below_end ?_ (by assumption) | refine ball ?_ _)
  clear hb1
  have pA' := pA
  obtain ⟨a1, a2, a3, a4⟩ := pA'
  go_upto_region 2 with fail
  have qA := pA.put (.int .i64 (Wnum.cN a b)) (.int .i64 (Wnum.cD a b))
  have qB := pB.far2 (j := w.heap.size) (by omega) (.int .i64 (Wnum.cN a b)) (.int .i64 (Wnum.cD a b))
  have qC := pC.far2 (j := w.heap.size) (by omega) (.int .i64 (Wnum.cN a b)) (.int .i64 (Wnum.cD a b))
  have qD := put_below hB (k := w.heap.size) (by omega) (.int .i64 (Wnum.cN a b)) (.int .i64 (Wnum.cD a b))
  clear pA pB pC hB a1 a2 a3 a4
  generalize (w1.setCell ⟨w.heap.size, 0, none⟩ (.int .i64 (Wnum.cN a b))).setCell ⟨w.heap.size, 1, none⟩ (.int .i64 (Wnum.cD a b)) = W1 at *
  clear w1
  have pB' := qB
  obtain ⟨b1, b2, b3, b4⟩ := pB'
  go_wp2_with fail
  refine (of_any _ _ _ g1 g2 g3 g4).mono ?_
  rintro e w2 ⟨rfl, hb2⟩
  have pA := At.below hb2 qA
  have pB := At.below hb2 qB
  have pC := At.below hb2 qC
  have hB := below_end qD hb2
  clear hb2 qA qB qC qD b1 b2 b3 b4
  have pB' := pB
  obtain ⟨b1, b2, b3, b4⟩ := pB'
  go_upto_region 3 with fail
  have qA := pA.far2 (j := w.heap.size + 1) (by omega) (.int .i64 (Wnum.cN c d)) (.int .i64 (Wnum.cD c d))
  have qB := pB.put (.int .i64 (Wnum.cN c d)) (.int .i64 (Wnum.cD c d))
  have qC := pC.far2 (j := w.heap.size + 1) (by omega) (.int .i64 (Wnum.cN c d)) (.int .i64 (Wnum.cD c d))
  have qD := put_below hB (k := w.heap.size + 1) (by omega) (.int .i64 (Wnum.cN c d)) (.int .i64 (Wnum.cD c d))
  clear pA pB pC hB b1 b2 b3 b4
  generalize (w2.setCell ⟨w.heap.size + 1, 0, none⟩ (.int .i64 (Wnum.cN c d))).setCell ⟨w.heap.size + 1, 1, none⟩ (.int .i64 (Wnum.cD c d)) = W2 at *
  clear w2
  obtain ⟨a1, a2, a3, a4⟩ := qA
  obtain ⟨b1, b2, b3, b4⟩ := qB
  obtain ⟨c1, c2, c3, c4⟩ := qC
  go_wp2_with fail
  rw [eX.out, eY.out]
  refine (floored_any _ _ _ (by omega) (by omega) (by omega) (by omega)).mono ?_
  rintro e w9 ⟨rfl, rfl⟩
  go_wp2_with fail
  refine (rmake_any _ _ _ (by omega) (by omega) (by omega) (by omega)).mono ?_
  rintro e w3 ⟨rfl, hb3⟩
  obtain ⟨k1, k2, k3, k4⟩ := At.below hb3 ⟨c1, c2, c3, c4⟩
  go_wp2
  refine bodyPost_ret (v := .tuple #[.agg #[.int .i64 (Wnum.oN (Wnum.mk (-(x - y * (x / y))) (Wnum.cD a b * Wnum.cD c d))), .int .i64 (Wnum.oD (Wnum.mk (-(x - y * (x / y))) (Wnum.cD a b * Wnum.cD c d)))], .bool (Wnum.oB (Wnum.mk (-(x - y * (x / y))) (Wnum.cD a b * Wnum.cD c d)))]) (by simp [results, Tryd.results23, go_sem, k1, k2]) rfl ⟨rfl, ?_⟩
  exact put_below (below_end qD hb3) (by omega) _ _
theorem rmod_neg (a b c d : Int) (w : World) (h1 : -9223372036854775808 ≤ a) (h2 : a ≤ 9223372036854775807) (h3 : -9223372036854775808 ≤ b) (h4 : b ≤ 9223372036854775807)
    (g1 : -9223372036854775808 ≤ c) (g2 : c ≤ 9223372036854775807) (g3 : -9223372036854775808 ≤ d) (g4 : d ≤ 9223372036854775807) (hz : Wnum.cN c d < 0) :
    Calls Tryd.prog 23 #[.agg #[.int .i64 a, .int .i64 b], .agg #[.int .i64 c, .int .i64 d]] w fun e w' => e = .returned (.tuple #[.agg #[.int .i64 (Wnum.oN (Wnum.modO a b c d)), .int .i64 (Wnum.oD (Wnum.modO a b c d))], .bool (Wnum.oB (Wnum.modO a b c d))]) ∧ Below w.heap.size w w' := by
  obtain ⟨m1, m2⟩ := mul_bd (Wnum.cN_bd a b).1 (Wnum.cN_bd a b).2 (Wnum.cD_bd c d).1 (Wnum.cD_bd c d).2
  obtain ⟨m3, m4⟩ := mul_bd (Wnum.cN_bd c d).1 (Wnum.cN_bd c d).2 (Wnum.cD_bd a b).1 (Wnum.cD_bd a b).2
  obtain ⟨m5, m6⟩ := den_bd (a := a) (b := b) (c := c) (d := d)
  obtain ⟨p1, p2⟩ := Wnum.cD_bd a b
  have hy : Wnum.cN c d * Wnum.cD a b < 0 := Int.mul_neg_of_neg_of_pos hz (by omega)
  rw [Wnum.modO_some (by omega), ← Wnum.fmod_neg hy, ← Wnum.mk_pos (show Wnum.cD a b * Wnum.cD c d ≠ 0 by omega)]
  exact rmod_neg' a b c d _ _ w h1 h2 h3 h4 g1 g2 g3 g4 (rfl : -(Wnum.cN a b * Wnum.cD c d) = _) (rfl : -(Wnum.cN c d * Wnum.cD a b) = _) hz (by omega) (by omega) (by omega) (by omega)

theorem rmod_any (a b c d : Int) (w : World) (h1 : -9223372036854775808 ≤ a) (h2 : a ≤ 9223372036854775807) (h3 : -9223372036854775808 ≤ b) (h4 : b ≤ 9223372036854775807)
    (g1 : -9223372036854775808 ≤ c) (g2 : c ≤ 9223372036854775807) (g3 : -9223372036854775808 ≤ d) (g4 : d ≤ 9223372036854775807) :
    Calls Tryd.prog 23 #[.agg #[.int .i64 a, .int .i64 b], .agg #[.int .i64 c, .int .i64 d]] w fun e w' => e = .returned (.tuple #[.agg #[.int .i64 (Wnum.oN (Wnum.modO a b c d)), .int .i64 (Wnum.oD (Wnum.modO a b c d))], .bool (Wnum.oB (Wnum.modO a b c d))]) ∧ Below w.heap.size w w' := by
  rcases Int.lt_trichotomy (Wnum.cN c d) 0 with h | h | h
  · exact rmod_neg a b c d w h1 h2 h3 h4 g1 g2 g3 g4 h
  · rw [Wnum.modO_zero h]
    exact rmod_zero a b c d w h1 h2 h3 h4 g1 g2 g3 g4 (beq_iff_eq.2 h)
  · exact rmod_pos a b c d w h1 h2 h3 h4 g1 g2 g3 g4 h
end Go.Proofs.YtfbgdfpbbnhfmaaDoor
