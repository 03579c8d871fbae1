/- The contracts of Mod. -/
import Derived.Test.YtfilmomndhlmbaaDoorWalkO
import Derived.Test.YtfilmomndhlmbaaDoorWalkH
import Derived.Test.YtfilmomndhlmbaaDoorPlainE
namespace Go.Proofs.YtfilmomndhlmbaaDoor
open Go.RowKit
set_option linter.unusedVariables false

set_option maxHeartbeats 400000 in
theorem mod_w1 (a b c d x y z : Int) (w : World) (h1 : -9223372036854775808 ≤ a) (h2 : a ≤ 9223372036854775807) (h3 : -9223372036854775808 ≤ b) (h4 : b ≤ 9223372036854775807)
    (g1 : -9223372036854775808 ≤ c) (g2 : c ≤ 9223372036854775807) (g3 : -9223372036854775808 ≤ d) (g4 : d ≤ 9223372036854775807) (eX : Hid (Wnum.cN a b * Wnum.cD c d = x)) (eY : Hid (Wnum.cN c d * Wnum.cD a b = y)) (eD : Hid (Wnum.cD a b * Wnum.cD c d = z)) (m1 : -1000000000000000000 ≤ x) (m2 : x ≤ 1000000000000000000) (m3 : -1000000000000000000 ≤ y) (m4 : y ≤ 1000000000000000000) (m5 : 1 ≤ z) (m6 : z ≤ 1000000000000) (ty : (y == 0) = false) (t0 : (x.tmod y != 0) = false) :
    Calls Tryd.prog 22 #[.agg #[.int .i64 a, .int .i64 b], .agg #[.int .i64 c, .int .i64 d]] w fun e w' => e = .returned (.tuple #[.agg #[.int .i64 (Wnum.oN (some (Rat.divInt (x.tmod y) z))), .int .i64 (Wnum.oD (some (Rat.divInt (x.tmod y) z)))], .bool (Wnum.oB (some (Rat.divInt (x.tmod y) z)))]) ∧ Below w.heap.size w w' := by
  have hy0 : ¬ y = 0 := beq_eq_false_iff_ne.1 ty
  have q4 := tmod_abs x y
  have q5 : -1000000000000000000 ≤ x.tmod y := by omega
  have q6 : x.tmod y ≤ 1000000000000000000 := by omega
  clear q4
  go_enter Tryd.func22, Tryd.ntmps22
  go_wp2_with fail
  refine (alike_any _ _ _ _ _ h1 h2 h3 h4 g1 g2 g3 g4).mono ?_
  rintro e w1 ⟨rfl, hb⟩
  rw [eX.out, eY.out, eD.out]
  have pC : At w1 (w.heap.size + 2) (.int .i64 0) (.int .i64 0) := At.below hb (At.new ((w.alloc _).alloc _) _ (by simp) _ _)
  have hB : Below w.heap.size w w1 := by with_reducible repeat (first | exact Below.refl _ _ | refine below_drewN ?_ _ | refine Below.setCell ?_ (by first | (simp; done) | (simp; omega) | omega) _ | refine Below.drew ?_ | refine below_end ?_ (by assumption) | refine ball ?_ _)
  clear hb
  go_wp2_with fail
  refine (make_pos _ _ _ (by omega) (by omega) (by omega) (by omega)).mono ?_
  rintro e w2 ⟨rfl, hb2⟩
  obtain ⟨k1, k2, k3, k4⟩ := At.below hb2 pC
  go_wp2
  refine bodyPost_ret (v := .tuple #[.agg #[.int .i64 (Wnum.oN (some (Rat.divInt (x.tmod y) z))), .int .i64 (Wnum.oD (some (Rat.divInt (x.tmod y) z)))], .bool (Wnum.oB (some (Rat.divInt (x.tmod y) z)))]) (by simp [results, Tryd.results22, go_sem, k1, k2]) rfl ⟨rfl, ?_⟩
  exact put_below (below_end hB hb2) (by omega) _ _

set_option maxHeartbeats 400000 in
theorem mod_w2 (a b c d x y z : Int) (w : World) (h1 : -9223372036854775808 ≤ a) (h2 : a ≤ 9223372036854775807) (h3 : -9223372036854775808 ≤ b) (h4 : b ≤ 9223372036854775807)
    (g1 : -9223372036854775808 ≤ c) (g2 : c ≤ 9223372036854775807) (g3 : -9223372036854775808 ≤ d) (g4 : d ≤ 9223372036854775807) (eX : Hid (Wnum.cN a b * Wnum.cD c d = x)) (eY : Hid (Wnum.cN c d * Wnum.cD a b = y)) (eD : Hid (Wnum.cD a b * Wnum.cD c d = z)) (m1 : -1000000000000000000 ≤ x) (m2 : x ≤ 1000000000000000000) (m3 : -1000000000000000000 ≤ y) (m4 : y ≤ 1000000000000000000) (m5 : 1 ≤ z) (m6 : z ≤ 1000000000000) (ty : (y == 0) = false) (t0 : (x.tmod y != 0) = true) (t1 : decide (x.tmod y < 0) = true) (t2 : decide (y < 0) = true) :
    Calls Tryd.prog 22 #[.agg #[.int .i64 a, .int .i64 b], .agg #[.int .i64 c, .int .i64 d]] w fun e w' => e = .returned (.tuple #[.agg #[.int .i64 (Wnum.oN (some (Rat.divInt (x.tmod y) z))), .int .i64 (Wnum.oD (some (Rat.divInt (x.tmod y) z)))], .bool (Wnum.oB (some (Rat.divInt (x.tmod y) z)))]) ∧ Below w.heap.size w w' := by
  have hy0 : ¬ y = 0 := beq_eq_false_iff_ne.1 ty
  have q4 := tmod_abs x y
  have q5 : -1000000000000000000 ≤ x.tmod y := by omega
  have q6 : x.tmod y ≤ 1000000000000000000 := by omega
  clear q4
  go_enter Tryd.func22, Tryd.ntmps22
  go_wp2_with fail
  refine (alike_any _ _ _ _ _ h1 h2 h3 h4 g1 g2 g3 g4).mono ?_
  rintro e w1 ⟨rfl, hb⟩
  rw [eX.out, eY.out, eD.out]
  have pC : At w1 (w.heap.size + 2) (.int .i64 0) (.int .i64 0) := At.below hb (At.new ((w.alloc _).alloc _) _ (by simp) _ _)
  have hB : Below w.heap.size w w1 := by with_reducible repeat (first | exact Below.refl _ _ | refine below_drewN ?_ _ | refine Below.setCell ?_ (by first | (simp; done) | (simp; omega) | omega) _ | refine Below.drew ?_ | refine below_end ?_ (by assumption) | refine ball ?_ _)
  clear hb
  go_wp2_with fail
  refine (make_pos _ _ _ (by omega) (by omega) (by omega) (by omega)).mono ?_
  rintro e w2 ⟨rfl, hb2⟩
  obtain ⟨k1, k2, k3, k4⟩ := At.below hb2 pC
  go_wp2
  refine bodyPost_ret (v := .tuple #[.agg #[.int .i64 (Wnum.oN (some (Rat.divInt (x.tmod y) z))), .int .i64 (Wnum.oD (some (Rat.divInt (x.tmod y) z)))], .bool (Wnum.oB (some (Rat.divInt (x.tmod y) z)))]) (by simp [results, Tryd.results22, go_sem, k1, k2]) rfl ⟨rfl, ?_⟩
  exact put_below (below_end hB hb2) (by omega) _ _

set_option maxHeartbeats 400000 in
theorem mod_w3 (a b c d x y z : Int) (w : World) (h1 : -9223372036854775808 ≤ a) (h2 : a ≤ 9223372036854775807) (h3 : -9223372036854775808 ≤ b) (h4 : b ≤ 9223372036854775807)
    (g1 : -9223372036854775808 ≤ c) (g2 : c ≤ 9223372036854775807) (g3 : -9223372036854775808 ≤ d) (g4 : d ≤ 9223372036854775807) (eX : Hid (Wnum.cN a b * Wnum.cD c d = x)) (eY : Hid (Wnum.cN c d * Wnum.cD a b = y)) (eD : Hid (Wnum.cD a b * Wnum.cD c d = z)) (m1 : -1000000000000000000 ≤ x) (m2 : x ≤ 1000000000000000000) (m3 : -1000000000000000000 ≤ y) (m4 : y ≤ 1000000000000000000) (m5 : 1 ≤ z) (m6 : z ≤ 1000000000000) (ty : (y == 0) = false) (t0 : (x.tmod y != 0) = true) (t1 : decide (x.tmod y < 0) = false) (t2 : decide (y < 0) = false) :
    Calls Tryd.prog 22 #[.agg #[.int .i64 a, .int .i64 b], .agg #[.int .i64 c, .int .i64 d]] w fun e w' => e = .returned (.tuple #[.agg #[.int .i64 (Wnum.oN (some (Rat.divInt (x.tmod y) z))), .int .i64 (Wnum.oD (some (Rat.divInt (x.tmod y) z)))], .bool (Wnum.oB (some (Rat.divInt (x.tmod y) z)))]) ∧ Below w.heap.size w w' := by
  have hy0 : ¬ y = 0 := beq_eq_false_iff_ne.1 ty
  have q4 := tmod_abs x y
  have q5 : -1000000000000000000 ≤ x.tmod y := by omega
  have q6 : x.tmod y ≤ 1000000000000000000 := by omega
  clear q4
  go_enter Tryd.func22, Tryd.ntmps22
  go_wp2_with fail
  refine (alike_any _ _ _ _ _ h1 h2 h3 h4 g1 g2 g3 g4).mono ?_
  rintro e w1 ⟨rfl, hb⟩
  rw [eX.out, eY.out, eD.out]
  have pC : At w1 (w.heap.size + 2) (.int .i64 0) (.int .i64 0) := At.below hb (At.new ((w.alloc _).alloc _) _ (by simp) _ _)
  have hB : Below w.heap.size w w1 := by with_reducible repeat (first | exact Below.refl _ _ | refine below_drewN ?_ _ | refine Below.setCell ?_ (by first | (simp; done) | (simp; omega) | omega) _ | refine Below.drew ?_ | refine below_end ?_ (by assumption) | refine ball ?_ _)
  clear hb
  go_wp2_with fail
  refine (make_pos _ _ _ (by omega) (by omega) (by omega) (by omega)).mono ?_
  rintro e w2 ⟨rfl, hb2⟩
  obtain ⟨k1, k2, k3, k4⟩ := At.below hb2 pC
  go_wp2
  refine bodyPost_ret (v := .tuple #[.agg #[.int .i64 (Wnum.oN (some (Rat.divInt (x.tmod y) z))), .int .i64 (Wnum.oD (some (Rat.divInt (x.tmod y) z)))], .bool (Wnum.oB (some (Rat.divInt (x.tmod y) z)))]) (by simp [results, Tryd.results22, go_sem, k1, k2]) rfl ⟨rfl, ?_⟩
  exact put_below (below_end hB hb2) (by omega) _ _

set_option maxHeartbeats 400000 in
theorem mod_w4 (a b c d x y z : Int) (w : World) (h1 : -9223372036854775808 ≤ a) (h2 : a ≤ 9223372036854775807) (h3 : -9223372036854775808 ≤ b) (h4 : b ≤ 9223372036854775807)
    (g1 : -9223372036854775808 ≤ c) (g2 : c ≤ 9223372036854775807) (g3 : -9223372036854775808 ≤ d) (g4 : d ≤ 9223372036854775807) (eX : Hid (Wnum.cN a b * Wnum.cD c d = x)) (eY : Hid (Wnum.cN c d * Wnum.cD a b = y)) (eD : Hid (Wnum.cD a b * Wnum.cD c d = z)) (m1 : -1000000000000000000 ≤ x) (m2 : x ≤ 1000000000000000000) (m3 : -1000000000000000000 ≤ y) (m4 : y ≤ 1000000000000000000) (m5 : 1 ≤ z) (m6 : z ≤ 1000000000000) (ty : (y == 0) = false) (t0 : (x.tmod y != 0) = true) (t1 : decide (x.tmod y < 0) = true) (t2 : decide (y < 0) = false) :
    Calls Tryd.prog 22 #[.agg #[.int .i64 a, .int .i64 b], .agg #[.int .i64 c, .int .i64 d]] w fun e w' => e = .returned (.tuple #[.agg #[.int .i64 (Wnum.oN (some (Rat.divInt (x.tmod y + y) z))), .int .i64 (Wnum.oD (some (Rat.divInt (x.tmod y + y) z)))], .bool (Wnum.oB (some (Rat.divInt (x.tmod y + y) z)))]) ∧ Below w.heap.size w w' := by
  have hy0 : ¬ y = 0 := beq_eq_false_iff_ne.1 ty
  have q4 := tmod_abs x y
  have q5 : -1000000000000000000 ≤ x.tmod y := by omega
  have q6 : x.tmod y ≤ 1000000000000000000 := by omega
  clear q4
  go_enter Tryd.func22, Tryd.ntmps22
  go_wp2_with fail
  refine (alike_any _ _ _ _ _ h1 h2 h3 h4 g1 g2 g3 g4).mono ?_
  rintro e w1 ⟨rfl, hb⟩
  rw [eX.out, eY.out, eD.out]
  have pC : At w1 (w.heap.size + 2) (.int .i64 0) (.int .i64 0) := At.below hb (At.new ((w.alloc _).alloc _) _ (by simp) _ _)
  have hB : Below w.heap.size w w1 := by with_reducible repeat (first | exact Below.refl _ _ | refine below_drewN ?_ _ | refine Below.setCell ?_ (by first | (simp; done) | (simp; omega) | omega) _ | refine Below.drew ?_ | refine below_end ?_ (by assumption) | refine ball ?_ _)
  clear hb
  go_wp2_with fail
  refine (make_pos _ _ _ (by omega) (by omega) (by omega) (by omega)).mono ?_
  rintro e w2 ⟨rfl, hb2⟩
  obtain ⟨k1, k2, k3, k4⟩ := At.below hb2 pC
  go_wp2
  refine bodyPost_ret (v := .tuple #[.agg #[.int .i64 (Wnum.oN (some (Rat.divInt (x.tmod y + y) z))), .int .i64 (Wnum.oD (some (Rat.divInt (x.tmod y + y) z)))], .bool (Wnum.oB (some (Rat.divInt (x.tmod y + y) z)))]) (by simp [results, Tryd.results22, go_sem, k1, k2]) rfl ⟨rfl, ?_⟩
  exact put_below (below_end hB hb2) (by omega) _ _

set_option maxHeartbeats 400000 in
theorem mod_w5 (a b c d x y z : Int) (w : World) (h1 : -9223372036854775808 ≤ a) (h2 : a ≤ 9223372036854775807) (h3 : -9223372036854775808 ≤ b) (h4 : b ≤ 9223372036854775807)
    (g1 : -9223372036854775808 ≤ c) (g2 : c ≤ 9223372036854775807) (g3 : -9223372036854775808 ≤ d) (g4 : d ≤ 9223372036854775807) (eX : Hid (Wnum.cN a b * Wnum.cD c d = x)) (eY : Hid (Wnum.cN c d * Wnum.cD a b = y)) (eD : Hid (Wnum.cD a b * Wnum.cD c d = z)) (m1 : -1000000000000000000 ≤ x) (m2 : x ≤ 1000000000000000000) (m3 : -1000000000000000000 ≤ y) (m4 : y ≤ 1000000000000000000) (m5 : 1 ≤ z) (m6 : z ≤ 1000000000000) (ty : (y == 0) = false) (t0 : (x.tmod y != 0) = true) (t1 : decide (x.tmod y < 0) = false) (t2 : decide (y < 0) = true) :
    Calls Tryd.prog 22 #[.agg #[.int .i64 a, .int .i64 b], .agg #[.int .i64 c, .int .i64 d]] w fun e w' => e = .returned (.tuple #[.agg #[.int .i64 (Wnum.oN (some (Rat.divInt (x.tmod y + y) z))), .int .i64 (Wnum.oD (some (Rat.divInt (x.tmod y + y) z)))], .bool (Wnum.oB (some (Rat.divInt (x.tmod y + y) z)))]) ∧ Below w.heap.size w w' := by
  have hy0 : ¬ y = 0 := beq_eq_false_iff_ne.1 ty
  have q4 := tmod_abs x y
  have q5 : -1000000000000000000 ≤ x.tmod y := by omega
  have q6 : x.tmod y ≤ 1000000000000000000 := by omega
  clear q4
  go_enter Tryd.func22, Tryd.ntmps22
  go_wp2_with fail
  refine (alike_any _ _ _ _ _ h1 h2 h3 h4 g1 g2 g3 g4).mono ?_
  rintro e w1 ⟨rfl, hb⟩
  rw [eX.out, eY.out, eD.out]
  have pC : At w1 (w.heap.size + 2) (.int .i64 0) (.int .i64 0) := At.below hb (At.new ((w.alloc _).alloc _) _ (by simp) _ _)
  have hB : Below w.heap.size w w1 := by with_reducible repeat (first | exact Below.refl _ _ | refine below_drewN ?_ _ | refine Below.setCell ?_ (by first | (simp; done) | (simp; omega) | omega) _ | refine Below.drew ?_ | refine below_end ?_ (by assumption) | refine ball ?_ _)
  clear hb
  go_wp2_with fail
  refine (make_pos _ _ _ (by omega) (by omega) (by omega) (by omega)).mono ?_
  rintro e w2 ⟨rfl, hb2⟩
  obtain ⟨k1, k2, k3, k4⟩ := At.below hb2 pC
  go_wp2
  refine bodyPost_ret (v := .tuple #[.agg #[.int .i64 (Wnum.oN (some (Rat.divInt (x.tmod y + y) z))), .int .i64 (Wnum.oD (some (Rat.divInt (x.tmod y + y) z)))], .bool (Wnum.oB (some (Rat.divInt (x.tmod y + y) z)))]) (by simp [results, Tryd.results22, go_sem, k1, k2]) rfl ⟨rfl, ?_⟩
  exact put_below (below_end hB hb2) (by omega) _ _

theorem mod_zero (a b c d x y z : Int) (w : World) (h1 : -9223372036854775808 ≤ a) (h2 : a ≤ 9223372036854775807) (h3 : -9223372036854775808 ≤ b) (h4 : b ≤ 9223372036854775807)
    (g1 : -9223372036854775808 ≤ c) (g2 : c ≤ 9223372036854775807) (g3 : -9223372036854775808 ≤ d) (g4 : d ≤ 9223372036854775807) (eX : Hid (Wnum.cN a b * Wnum.cD c d = x)) (eY : Hid (Wnum.cN c d * Wnum.cD a b = y)) (eD : Hid (Wnum.cD a b * Wnum.cD c d = z)) (ty : (y == 0) = true) :
    Calls Tryd.prog 22 #[.agg #[.int .i64 a, .int .i64 b], .agg #[.int .i64 c, .int .i64 d]] w fun e w' => e = .returned (.tuple #[.agg #[.int .i64 0, .int .i64 0], .bool false]) ∧ Below w.heap.size w w' := by
  go_enter Tryd.func22, Tryd.ntmps22
  go_wp2_with fail
  refine (alike_any _ _ _ _ _ h1 h2 h3 h4 g1 g2 g3 g4).mono ?_
  rintro e w1 ⟨rfl, hb⟩
  rw [eX.out, eY.out, eD.out]
  obtain ⟨k1, k2, k3, k4⟩ : At w1 (w.heap.size + 2) (.int .i64 0) (.int .i64 0) := At.below hb (At.new ((w.alloc _).alloc _) _ (by simp) _ _)
  have hB : Below w.heap.size w w1 := by with_reducible repeat (first | exact Below.refl _ _ | refine below_drewN ?_ _ | refine Below.setCell ?_ (by first | (simp; done) | (simp; omega) | omega) _ | refine Below.drew ?_ | refine below_end ?_ (by assumption) | refine ball ?_ _)
  clear hb
  go_wp2
  refine bodyPost_ret (v := .tuple #[.agg #[.int .i64 0, .int .i64 0], .bool false]) (by simp [results, Tryd.results22, go_sem, k1, k2]) rfl ⟨rfl, ?_⟩
  exact put_below hB (by omega) _ _

theorem y_zero (a b c d : Int) : Wnum.cN c d * Wnum.cD a b = 0 ↔ Wnum.cN c d = 0 := by
  have := Wnum.cD_bd a b
  rw [Int.mul_eq_zero]
  omega

theorem mod_any (a b c d : Int) (w : World) (h1 : -9223372036854775808 ≤ a) (h2 : a ≤ 9223372036854775807) (h3 : -9223372036854775808 ≤ b) (h4 : b ≤ 9223372036854775807)
    (g1 : -9223372036854775808 ≤ c) (g2 : c ≤ 9223372036854775807) (g3 : -9223372036854775808 ≤ d) (g4 : d ≤ 9223372036854775807) :
    Calls Tryd.prog 22 #[.agg #[.int .i64 a, .int .i64 b], .agg #[.int .i64 c, .int .i64 d]] w fun e w' => e = .returned (.tuple #[.agg #[.int .i64 (Wnum.oN (Wnum.modO a b c d)), .int .i64 (Wnum.oD (Wnum.modO a b c d))], .bool (Wnum.oB (Wnum.modO a b c d))]) ∧ Below w.heap.size w w' := by
  obtain ⟨m1, m2⟩ := mul_bd (Wnum.cN_bd a b).1 (Wnum.cN_bd a b).2 (Wnum.cD_bd c d).1 (Wnum.cD_bd c d).2
  obtain ⟨m3, m4⟩ := mul_bd (Wnum.cN_bd c d).1 (Wnum.cN_bd c d).2 (Wnum.cD_bd a b).1 (Wnum.cD_bd a b).2
  obtain ⟨m5, m6⟩ := den_bd (a := a) (b := b) (c := c) (d := d)
  by_cases hz : Wnum.cN c d = 0
  · rw [Wnum.modO_zero hz]
    exact mod_zero a b c d _ _ _ w h1 h2 h3 h4 g1 g2 g3 g4 (rfl : Wnum.cN a b * Wnum.cD c d = _) (rfl : Wnum.cN c d * Wnum.cD a b = _) (rfl : Wnum.cD a b * Wnum.cD c d = _) (beq_iff_eq.2 ((y_zero a b c d).2 hz))
  · rw [Wnum.modO_some hz]
    have hy : Wnum.cN c d * Wnum.cD a b ≠ 0 := fun h => hz ((y_zero a b c d).1 h)
    have ty : (Wnum.cN c d * Wnum.cD a b == 0) = false := beq_eq_false_iff_ne.2 hy
    rcases Wnum.mod_cases (x := Wnum.cN a b * Wnum.cD c d) hy with ⟨h, e⟩ | ⟨h, h', e⟩ | ⟨h, h', e⟩ | ⟨h, h', e⟩ | ⟨h, h', e⟩ <;> rw [e]
    · exact mod_w1 a b c d _ _ _ w h1 h2 h3 h4 g1 g2 g3 g4 (rfl : Wnum.cN a b * Wnum.cD c d = _) (rfl : Wnum.cN c d * Wnum.cD a b = _) (rfl : Wnum.cD a b * Wnum.cD c d = _) m1 m2 m3 m4 m5 m6 ty (by simp [h])
    · exact mod_w2 a b c d _ _ _ w h1 h2 h3 h4 g1 g2 g3 g4 (rfl : Wnum.cN a b * Wnum.cD c d = _) (rfl : Wnum.cN c d * Wnum.cD a b = _) (rfl : Wnum.cD a b * Wnum.cD c d = _) m1 m2 m3 m4 m5 m6 ty (by rw [bne_iff_ne]; omega) (decide_eq_true h) (decide_eq_true h')
    · exact mod_w3 a b c d _ _ _ w h1 h2 h3 h4 g1 g2 g3 g4 (rfl : Wnum.cN a b * Wnum.cD c d = _) (rfl : Wnum.cN c d * Wnum.cD a b = _) (rfl : Wnum.cD a b * Wnum.cD c d = _) m1 m2 m3 m4 m5 m6 ty (by rw [bne_iff_ne]; omega) (decide_eq_false (by omega)) (decide_eq_false (by omega))
    · exact mod_w4 a b c d _ _ _ w h1 h2 h3 h4 g1 g2 g3 g4 (rfl : Wnum.cN a b * Wnum.cD c d = _) (rfl : Wnum.cN c d * Wnum.cD a b = _) (rfl : Wnum.cD a b * Wnum.cD c d = _) m1 m2 m3 m4 m5 m6 ty (by rw [bne_iff_ne]; omega) (decide_eq_true h) (decide_eq_false (by omega))
    · exact mod_w5 a b c d _ _ _ w h1 h2 h3 h4 g1 g2 g3 g4 (rfl : Wnum.cN a b * Wnum.cD c d = _) (rfl : Wnum.cN c d * Wnum.cD a b = _) (rfl : Wnum.cD a b * Wnum.cD c d = _) m1 m2 m3 m4 m5 m6 ty (by rw [bne_iff_ne]; omega) (decide_eq_false (by omega)) (decide_eq_true h')

end Go.Proofs.YtfilmomndhlmbaaDoor
