/- NumWrong answers true, whatever it is asked. -/
import Derived.Test.YtfilmomndhlmbaaDoorWalkV
import Derived.Test.YtfilmomndhlmbaaDoorWalkW
import Derived.Test.YtfilmomndhlmbaaDoorWalkN
import Derived.Test.YtfilmomndhlmbaaDoorWalkP
import Derived.Test.YtfilmomndhlmbaaDoorWalkYb
import Derived.Test.YtfilmomndhlmbaaDoorWalkSum
import Derived.Test.YtfilmomndhlmbaaDoorKeepKit
import Derived.Test.YtfilmomndhlmbaaDoorPlainM
import Derived.Deep.DeepCutAuto
namespace Go.Proofs.YtfilmomndhlmbaaDoor
open Go.RowKit
set_option linter.unusedVariables false

theorem itoa0 (w : World) : Calls Tryd.prog 45 #[.int .i64 0] w fun e w' => e = .returned (.string ⟨#[48]⟩) ∧ w = w' := by
  go_enter Tryd.func45, Tryd.ntmps45
  go_wp2
  go_ret
  exact ⟨rfl, rfl⟩
theorem text_wrong (a b : Int) (w : World) (h1 : -9223372036854775808 ≤ a) (h2 : a ≤ 9223372036854775807) (h3 : -9223372036854775808 ≤ b) (h4 : b ≤ 9223372036854775807) (RA : Hid (Wnum.rightB a b = false)) :
    Calls Tryd.prog 28 #[.agg #[.int .i64 a, .int .i64 b]] w fun e w' => e = .returned (.string ⟨#[48]⟩) ∧ Below w.heap.size w w' := by
  have t1 : Hid (Wnum.cN a b = 0) := by show _ = _; unfold Wnum.cN; rw [RA.out]; rfl
  have t2 : Hid (Wnum.cD a b = 1) := by show _ = _; unfold Wnum.cD; rw [RA.out]; rfl
  go_enter Tryd.func28, Tryd.ntmps28
  go_wp2_with fail
  refine (counted_any _ _ _ h1 h2 h3 h4).mono ?_
  rintro e w1 ⟨rfl, hb1⟩
  rw [t1.out, t2.out]
  have pA : At w1 w.heap.size (.int .i64 a) (.int .i64 b) := At.below hb1 (At.new w _ rfl _ _)
  have hB : Below w.heap.size w w1 := by with_reducible repeat (first | exact Below.refl _ _ | refine below_drewN ?_ _ | refine Below.setCell ?_ (by first | (simp; done) | (simp; omega) | omega) _ | refine Below.drew ?_ | refine below_end ?_ (by assumption) | refine ball ?_ _)
  clear hb1
  have pA' := pA
  obtain ⟨a1, a2, a3, a4⟩ := pA'
  go_upto_region 2 with fail
  have qA := pA.put (.int .i64 0) (.int .i64 1)
  have qD := put_below hB (k := w.heap.size) (by omega) (.int .i64 0) (.int .i64 1)
  clear pA hB a1 a2 a3 a4
  generalize (w1.setCell ⟨w.heap.size, 0, none⟩ (.int .i64 0)).setCell ⟨w.heap.size, 1, none⟩ (.int .i64 1) = W1 at *
  clear w1
  obtain ⟨a1, a2, a3, a4⟩ := qA
  go_wp2_with (go_at_call 45; refine (itoa0 _).mono ?_; rintro e w2 ⟨rfl, rfl⟩)
  go_ret
  exact ⟨rfl, qD⟩

set_option maxRecDepth 100000 in
set_option maxHeartbeats 12800000 in
theorem wrong_main (n d p q k u n1 d1 n2 d2 n3 d3 n4 d4 n5 d5 n6 d6 : Int) (b1 b2 b3 b4 b5 b6 : Bool) (w : World) (h1 : -9223372036854775808 ≤ n) (h2 : n ≤ 9223372036854775807) (h3 : -9223372036854775808 ≤ d) (h4 : d ≤ 9223372036854775807)
    (g1 : -9223372036854775808 ≤ p) (g2 : p ≤ 9223372036854775807) (g3 : -9223372036854775808 ≤ q) (g4 : q ≤ 9223372036854775807)
    (z1 : -9223372036854775808 ≤ (0 : Int)) (z2 : (0 : Int) ≤ 9223372036854775807) (z3 : -9223372036854775808 ≤ (1 : Int)) (z4 : (1 : Int) ≤ 9223372036854775807)
    (kb1 : -9223372036854775808 ≤ k) (kb2 : k ≤ 9223372036854775807) (RA : Hid (Wnum.rightB n d = false)) (HQ : Hid (Wnum.qu n d = Wnum.qu 0 1)) (HN : Hid (Wnum.cN n d = Wnum.cN 0 1)) (HD : Hid (Wnum.cD n d = Wnum.cD 0 1))
    (E11 : Hid (Wnum.oN (some (Wnum.qu 0 1 + Wnum.qu p q)) = n1)) (E12 : Hid (Wnum.oD (some (Wnum.qu 0 1 + Wnum.qu p q)) = d1)) (E13 : Hid (Wnum.oB (some (Wnum.qu 0 1 + Wnum.qu p q)) = b1))
    (E21 : Hid (Wnum.oN (some (Wnum.qu p q - Wnum.qu 0 1)) = n2)) (E22 : Hid (Wnum.oD (some (Wnum.qu p q - Wnum.qu 0 1)) = d2)) (E23 : Hid (Wnum.oB (some (Wnum.qu p q - Wnum.qu 0 1)) = b2))
    (E31 : Hid (Wnum.oN (some (Wnum.qu 0 1 * Wnum.qu p q)) = n3)) (E32 : Hid (Wnum.oD (some (Wnum.qu 0 1 * Wnum.qu p q)) = d3)) (E33 : Hid (Wnum.oB (some (Wnum.qu 0 1 * Wnum.qu p q)) = b3))
    (E41 : Hid (Wnum.oN (Wnum.mk (Wnum.cN 0 1 * Wnum.cD p q) (Wnum.cN p q * Wnum.cD 0 1)) = n4)) (E42 : Hid (Wnum.oD (Wnum.mk (Wnum.cN 0 1 * Wnum.cD p q) (Wnum.cN p q * Wnum.cD 0 1)) = d4)) (E43 : Hid (Wnum.oB (Wnum.mk (Wnum.cN 0 1 * Wnum.cD p q) (Wnum.cN p q * Wnum.cD 0 1)) = b4))
    (E51 : Hid (Wnum.oN (Wnum.powO (Wnum.qu 0 1) k) = n5)) (E52 : Hid (Wnum.oD (Wnum.powO (Wnum.qu 0 1) k) = d5)) (E53 : Hid (Wnum.oB (Wnum.powO (Wnum.qu 0 1) k) = b5))
    (E61 : Hid (Wnum.oN (some (Wnum.qu p q)) = n6)) (E62 : Hid (Wnum.oD (some (Wnum.qu p q)) = d6)) (E63 : Hid (Wnum.oB (some (Wnum.qu p q)) = b6))
    (DN : Hid (Wnum.mk (Wnum.cN p q * Wnum.cD n d) (Wnum.cN n d * Wnum.cD p q) = none)) (MN : Hid (Wnum.modO p q n d = none))
    (S1 : Hid (Wnum.sumQ 0 (Wnum.els (fun i => if i = 0 then p else n) (fun i => if i = 0 then q else d) 1) = some (Wnum.qu p q))) (S2 : Hid (Wnum.sumQ 0 (Wnum.els (fun i => if i = 0 then p else n) (fun i => if i = 0 then q else d) 2) = some (Wnum.qu p q)))
    (O1 : Hid (Wnum.oN none = 0)) (O2 : Hid (Wnum.oD none = 0)) (O3 : Hid (Wnum.oB none = false)) (F0 : Hid (Wnum.cN n d / Wnum.cD n d = 0)) (N0 : Hid (-(Wnum.cN n d) = 0)) (D0 : Hid (Wnum.cD n d = 1)) (B0 : Hid (((Wnum.cN n d).natAbs : Int) = 0)) (HU : Hid (Wnum.cs (Wnum.qu 0 1) (Wnum.qu p q) = u)) :
    Calls Tryd.prog 8 #[.int .i64 n, .int .i64 d, .agg #[.int .i64 p, .int .i64 q], .int .i64 k] w fun e w' => e = .returned (.bool true) ∧ Below w.heap.size w w' := by
  go_enter Tryd.func8, Tryd.ntmps8
  go_wp2_with fail
  refine (able_any _).mono ?_
  rintro e w1 ⟨rfl, hb1⟩
  have pB1 : At w1 w.heap.size (.int .i64 p) (.int .i64 q) := At.below hb1 ((At.new w _ rfl _ _).alloc _)
  have pA1 : At w1 (w.heap.size + 1) (.int .i64 n) (.int .i64 d) := At.below hb1 (At.new (w.alloc _) _ (by simp) _ _)
  have hB1 : Below w.heap.size w w1 := by with_reducible repeat (first | exact Below.refl _ _ | refine below_drewN ?_ _ | refine Below.setCell ?_ (by first | (simp; done) | (simp; omega) | omega) _ | refine Below.drew ?_ | refine below_end ?_ (by assumption) | refine ball ?_ _)
  clear hb1
  have tpA := pA1
  obtain ⟨a1, a2, a3, a4⟩ := tpA
  go_wp2_with fail
  clear a1 a2 a3 a4
  refine (lright_any n d _ h1 h2 h3 h4).mono ?_
  rintro e w2 ⟨rfl, hb2⟩
  rw [RA.out]
  have pA2 := At.below hb2 pA1
  have pB2 := At.below hb2 pB1
  have hB2 := below_end hB1 hb2
  clear hb2 pA1 pB1 hB1
  go_wp2_with fail
  refine (zero_any _).mono ?_
  rintro e w3 ⟨rfl, hb3⟩
  have pA3 := At.below hb3 pA2
  have pB3 := At.below hb3 pB2
  have hB3 := below_end hB2 hb3
  clear hb3 pA2 pB2 hB2
  have pA4 := pA3.alloc (.cells #[.int .i64 0, .int .i64 1] 23)
  have pB4 := pB3.alloc (.cells #[.int .i64 0, .int .i64 1] 23)
  have pZ4 := At.new w3 23 rfl (.int .i64 0) (.int .i64 1)
  have hB4 := ball hB3 (.cells #[.int .i64 0, .int .i64 1] 23)
  go_upto_region 5 with fail
  clear pA3 pB3 hB3
  generalize w3.heap.size = kZ at *
  generalize w3.alloc (.cells #[.int .i64 0, .int .i64 1] 23) = w4 at *
  clear w3
  have tpA := pA4
  obtain ⟨a1, a2, a3, a4⟩ := tpA
  have tpB := pB4
  obtain ⟨b1, b2, b3, b4⟩ := tpB
  go_wp2_with fail
  clear a1 a2 a3 a4 b1 b2 b3 b4
  refine (add_any n d p q _ h1 h2 h3 h4 g1 g2 g3 g4).mono ?_
  rintro e w5 ⟨rfl, hb5⟩
  rw [HQ.out, E11.out, E12.out, E13.out]
  have pA5 := At.below hb5 pA4
  have pB5 := At.below hb5 pB4
  have pZ5 := At.below hb5 pZ4
  have hB5 := below_end hB4 hb5
  clear hb5 pA4 pB4 pZ4 hB4
  have pA6 := pA5.alloc (.cells #[.int .i64 n1, .int .i64 d1] 23)
  have pB6 := pB5.alloc (.cells #[.int .i64 n1, .int .i64 d1] 23)
  have pZ6 := pZ5.alloc (.cells #[.int .i64 n1, .int .i64 d1] 23)
  have pX16 := At.new w5 23 rfl (.int .i64 n1) (.int .i64 d1)
  have hB6 := ball hB5 (.cells #[.int .i64 n1, .int .i64 d1] 23)
  go_upto_region 6 with fail
  clear pA5 pB5 pZ5 hB5
  generalize w5.heap.size = kX1 at *
  generalize w5.alloc (.cells #[.int .i64 n1, .int .i64 d1] 23) = w6 at *
  clear w5
  have tpZ := pZ6
  obtain ⟨z1, z2, z3, z4⟩ := tpZ
  have tpB := pB6
  obtain ⟨b1, b2, b3, b4⟩ := tpB
  go_wp2_with fail
  clear z1 z2 z3 z4 b1 b2 b3 b4
  refine (add_any 0 1 p q _ z1 z2 z3 z4 g1 g2 g3 g4).mono ?_
  rintro e w7 ⟨rfl, hb7⟩
  rw [E11.out, E12.out, E13.out]
  have pA7 := At.below hb7 pA6
  have pB7 := At.below hb7 pB6
  have pZ7 := At.below hb7 pZ6
  have pX17 := At.below hb7 pX16
  have hB7 := below_end hB6 hb7
  clear hb7 pA6 pB6 pZ6 pX16 hB6
  have pA8 := pA7.alloc (.cells #[.int .i64 n1, .int .i64 d1] 23)
  have pB8 := pB7.alloc (.cells #[.int .i64 n1, .int .i64 d1] 23)
  have pZ8 := pZ7.alloc (.cells #[.int .i64 n1, .int .i64 d1] 23)
  have pX18 := pX17.alloc (.cells #[.int .i64 n1, .int .i64 d1] 23)
  have pY18 := At.new w7 23 rfl (.int .i64 n1) (.int .i64 d1)
  have hB8 := ball hB7 (.cells #[.int .i64 n1, .int .i64 d1] 23)
  go_upto_region 7 with fail
  clear pA7 pB7 pZ7 pX17 hB7
  generalize w7.heap.size = kY1 at *
  generalize w7.alloc (.cells #[.int .i64 n1, .int .i64 d1] 23) = w8 at *
  clear w7
  have tpB := pB8
  obtain ⟨b1, b2, b3, b4⟩ := tpB
  have tpA := pA8
  obtain ⟨a1, a2, a3, a4⟩ := tpA
  go_wp2_with fail
  clear b1 b2 b3 b4 a1 a2 a3 a4
  refine (sub_any p q n d _ g1 g2 g3 g4 h1 h2 h3 h4).mono ?_
  rintro e w9 ⟨rfl, hb9⟩
  rw [HQ.out, E21.out, E22.out, E23.out]
  have pA9 := At.below hb9 pA8
  have pB9 := At.below hb9 pB8
  have pZ9 := At.below hb9 pZ8
  have pX19 := At.below hb9 pX18
  have pY19 := At.below hb9 pY18
  have hB9 := below_end hB8 hb9
  clear hb9 pA8 pB8 pZ8 pX18 pY18 hB8
  have pA10 := pA9.alloc (.cells #[.int .i64 n2, .int .i64 d2] 23)
  have pB10 := pB9.alloc (.cells #[.int .i64 n2, .int .i64 d2] 23)
  have pZ10 := pZ9.alloc (.cells #[.int .i64 n2, .int .i64 d2] 23)
  have pX110 := pX19.alloc (.cells #[.int .i64 n2, .int .i64 d2] 23)
  have pY110 := pY19.alloc (.cells #[.int .i64 n2, .int .i64 d2] 23)
  have pX210 := At.new w9 23 rfl (.int .i64 n2) (.int .i64 d2)
  have hB10 := ball hB9 (.cells #[.int .i64 n2, .int .i64 d2] 23)
  go_upto_region 8 with fail
  clear pA9 pB9 pZ9 pX19 pY19 hB9
  generalize w9.heap.size = kX2 at *
  generalize w9.alloc (.cells #[.int .i64 n2, .int .i64 d2] 23) = w10 at *
  clear w9
  have tpB := pB10
  obtain ⟨b1, b2, b3, b4⟩ := tpB
  have tpZ := pZ10
  obtain ⟨z1, z2, z3, z4⟩ := tpZ
  go_wp2_with fail
  clear b1 b2 b3 b4 z1 z2 z3 z4
  refine (sub_any p q 0 1 _ g1 g2 g3 g4 z1 z2 z3 z4).mono ?_
  rintro e w11 ⟨rfl, hb11⟩
  rw [E21.out, E22.out, E23.out]
  have pA11 := At.below hb11 pA10
  have pB11 := At.below hb11 pB10
  have pZ11 := At.below hb11 pZ10
  have pX111 := At.below hb11 pX110
  have pY111 := At.below hb11 pY110
  have pX211 := At.below hb11 pX210
  have hB11 := below_end hB10 hb11
  clear hb11 pA10 pB10 pZ10 pX110 pY110 pX210 hB10
  have pA12 := pA11.alloc (.cells #[.int .i64 n2, .int .i64 d2] 23)
  have pB12 := pB11.alloc (.cells #[.int .i64 n2, .int .i64 d2] 23)
  have pZ12 := pZ11.alloc (.cells #[.int .i64 n2, .int .i64 d2] 23)
  have pX112 := pX111.alloc (.cells #[.int .i64 n2, .int .i64 d2] 23)
  have pY112 := pY111.alloc (.cells #[.int .i64 n2, .int .i64 d2] 23)
  have pX212 := pX211.alloc (.cells #[.int .i64 n2, .int .i64 d2] 23)
  have pY212 := At.new w11 23 rfl (.int .i64 n2) (.int .i64 d2)
  have hB12 := ball hB11 (.cells #[.int .i64 n2, .int .i64 d2] 23)
  go_upto_region 9 with fail
  clear pA11 pB11 pZ11 pX111 pY111 pX211 hB11
  generalize w11.heap.size = kY2 at *
  generalize w11.alloc (.cells #[.int .i64 n2, .int .i64 d2] 23) = w12 at *
  clear w11
  have tpA := pA12
  obtain ⟨a1, a2, a3, a4⟩ := tpA
  have tpB := pB12
  obtain ⟨b1, b2, b3, b4⟩ := tpB
  go_wp2_with fail
  clear a1 a2 a3 a4 b1 b2 b3 b4
  refine (mul_any n d p q _ h1 h2 h3 h4 g1 g2 g3 g4).mono ?_
  rintro e w13 ⟨rfl, hb13⟩
  rw [HQ.out, E31.out, E32.out, E33.out]
  have pA13 := At.below hb13 pA12
  have pB13 := At.below hb13 pB12
  have pZ13 := At.below hb13 pZ12
  have pX113 := At.below hb13 pX112
  have pY113 := At.below hb13 pY112
  have pX213 := At.below hb13 pX212
  have pY213 := At.below hb13 pY212
  have hB13 := below_end hB12 hb13
  clear hb13 pA12 pB12 pZ12 pX112 pY112 pX212 pY212 hB12
  have pA14 := pA13.alloc (.cells #[.int .i64 n3, .int .i64 d3] 23)
  have pB14 := pB13.alloc (.cells #[.int .i64 n3, .int .i64 d3] 23)
  have pZ14 := pZ13.alloc (.cells #[.int .i64 n3, .int .i64 d3] 23)
  have pX114 := pX113.alloc (.cells #[.int .i64 n3, .int .i64 d3] 23)
  have pY114 := pY113.alloc (.cells #[.int .i64 n3, .int .i64 d3] 23)
  have pX214 := pX213.alloc (.cells #[.int .i64 n3, .int .i64 d3] 23)
  have pY214 := pY213.alloc (.cells #[.int .i64 n3, .int .i64 d3] 23)
  have pX314 := At.new w13 23 rfl (.int .i64 n3) (.int .i64 d3)
  have hB14 := ball hB13 (.cells #[.int .i64 n3, .int .i64 d3] 23)
  go_upto_region 10 with fail
  clear pA13 pB13 pZ13 pX113 pY113 pX213 pY213 hB13
  generalize w13.heap.size = kX3 at *
  generalize w13.alloc (.cells #[.int .i64 n3, .int .i64 d3] 23) = w14 at *
  clear w13
  have tpZ := pZ14
  obtain ⟨z1, z2, z3, z4⟩ := tpZ
  have tpB := pB14
  obtain ⟨b1, b2, b3, b4⟩ := tpB
  go_wp2_with fail
  clear z1 z2 z3 z4 b1 b2 b3 b4
  refine (mul_any 0 1 p q _ z1 z2 z3 z4 g1 g2 g3 g4).mono ?_
  rintro e w15 ⟨rfl, hb15⟩
  rw [E31.out, E32.out, E33.out]
  have pA15 := At.below hb15 pA14
  have pB15 := At.below hb15 pB14
  have pZ15 := At.below hb15 pZ14
  have pX115 := At.below hb15 pX114
  have pY115 := At.below hb15 pY114
  have pX215 := At.below hb15 pX214
  have pY215 := At.below hb15 pY214
  have pX315 := At.below hb15 pX314
  have hB15 := below_end hB14 hb15
  clear hb15 pA14 pB14 pZ14 pX114 pY114 pX214 pY214 pX314 hB14
  have pA16 := pA15.alloc (.cells #[.int .i64 n3, .int .i64 d3] 23)
  have pB16 := pB15.alloc (.cells #[.int .i64 n3, .int .i64 d3] 23)
  have pZ16 := pZ15.alloc (.cells #[.int .i64 n3, .int .i64 d3] 23)
  have pX116 := pX115.alloc (.cells #[.int .i64 n3, .int .i64 d3] 23)
  have pY116 := pY115.alloc (.cells #[.int .i64 n3, .int .i64 d3] 23)
  have pX216 := pX215.alloc (.cells #[.int .i64 n3, .int .i64 d3] 23)
  have pY216 := pY215.alloc (.cells #[.int .i64 n3, .int .i64 d3] 23)
  have pX316 := pX315.alloc (.cells #[.int .i64 n3, .int .i64 d3] 23)
  have pY316 := At.new w15 23 rfl (.int .i64 n3) (.int .i64 d3)
  have hB16 := ball hB15 (.cells #[.int .i64 n3, .int .i64 d3] 23)
  go_upto_region 11 with fail
  clear pA15 pB15 pZ15 pX115 pY115 pX215 pY215 pX315 hB15
  generalize w15.heap.size = kY3 at *
  generalize w15.alloc (.cells #[.int .i64 n3, .int .i64 d3] 23) = w16 at *
  clear w15
  have tpA := pA16
  obtain ⟨a1, a2, a3, a4⟩ := tpA
  have tpB := pB16
  obtain ⟨b1, b2, b3, b4⟩ := tpB
  go_wp2_with fail
  clear a1 a2 a3 a4 b1 b2 b3 b4
  refine (div_any n d p q _ h1 h2 h3 h4 g1 g2 g3 g4).mono ?_
  rintro e w17 ⟨rfl, hb17⟩
  rw [HN.out, HD.out, E41.out, E42.out, E43.out]
  have pA17 := At.below hb17 pA16
  have pB17 := At.below hb17 pB16
  have pZ17 := At.below hb17 pZ16
  have pX117 := At.below hb17 pX116
  have pY117 := At.below hb17 pY116
  have pX217 := At.below hb17 pX216
  have pY217 := At.below hb17 pY216
  have pX317 := At.below hb17 pX316
  have pY317 := At.below hb17 pY316
  have hB17 := below_end hB16 hb17
  clear hb17 pA16 pB16 pZ16 pX116 pY116 pX216 pY216 pX316 pY316 hB16
  have pA18 := pA17.alloc (.cells #[.int .i64 n4, .int .i64 d4] 23)
  have pB18 := pB17.alloc (.cells #[.int .i64 n4, .int .i64 d4] 23)
  have pZ18 := pZ17.alloc (.cells #[.int .i64 n4, .int .i64 d4] 23)
  have pX118 := pX117.alloc (.cells #[.int .i64 n4, .int .i64 d4] 23)
  have pY118 := pY117.alloc (.cells #[.int .i64 n4, .int .i64 d4] 23)
  have pX218 := pX217.alloc (.cells #[.int .i64 n4, .int .i64 d4] 23)
  have pY218 := pY217.alloc (.cells #[.int .i64 n4, .int .i64 d4] 23)
  have pX318 := pX317.alloc (.cells #[.int .i64 n4, .int .i64 d4] 23)
  have pY318 := pY317.alloc (.cells #[.int .i64 n4, .int .i64 d4] 23)
  have pX418 := At.new w17 23 rfl (.int .i64 n4) (.int .i64 d4)
  have hB18 := ball hB17 (.cells #[.int .i64 n4, .int .i64 d4] 23)
  go_upto_region 12 with fail
  clear pA17 pB17 pZ17 pX117 pY117 pX217 pY217 pX317 pY317 hB17
  generalize w17.heap.size = kX4 at *
  generalize w17.alloc (.cells #[.int .i64 n4, .int .i64 d4] 23) = w18 at *
  clear w17
  have tpZ := pZ18
  obtain ⟨z1, z2, z3, z4⟩ := tpZ
  have tpB := pB18
  obtain ⟨b1, b2, b3, b4⟩ := tpB
  go_wp2_with fail
  clear z1 z2 z3 z4 b1 b2 b3 b4
  refine (div_any 0 1 p q _ z1 z2 z3 z4 g1 g2 g3 g4).mono ?_
  rintro e w19 ⟨rfl, hb19⟩
  rw [E41.out, E42.out, E43.out]
  have pA19 := At.below hb19 pA18
  have pB19 := At.below hb19 pB18
  have pZ19 := At.below hb19 pZ18
  have pX119 := At.below hb19 pX118
  have pY119 := At.below hb19 pY118
  have pX219 := At.below hb19 pX218
  have pY219 := At.below hb19 pY218
  have pX319 := At.below hb19 pX318
  have pY319 := At.below hb19 pY318
  have pX419 := At.below hb19 pX418
  have hB19 := below_end hB18 hb19
  clear hb19 pA18 pB18 pZ18 pX118 pY118 pX218 pY218 pX318 pY318 pX418 hB18
  have pA20 := pA19.alloc (.cells #[.int .i64 n4, .int .i64 d4] 23)
  have pB20 := pB19.alloc (.cells #[.int .i64 n4, .int .i64 d4] 23)
  have pZ20 := pZ19.alloc (.cells #[.int .i64 n4, .int .i64 d4] 23)
  have pX120 := pX119.alloc (.cells #[.int .i64 n4, .int .i64 d4] 23)
  have pY120 := pY119.alloc (.cells #[.int .i64 n4, .int .i64 d4] 23)
  have pX220 := pX219.alloc (.cells #[.int .i64 n4, .int .i64 d4] 23)
  have pY220 := pY219.alloc (.cells #[.int .i64 n4, .int .i64 d4] 23)
  have pX320 := pX319.alloc (.cells #[.int .i64 n4, .int .i64 d4] 23)
  have pY320 := pY319.alloc (.cells #[.int .i64 n4, .int .i64 d4] 23)
  have pX420 := pX419.alloc (.cells #[.int .i64 n4, .int .i64 d4] 23)
  have pY420 := At.new w19 23 rfl (.int .i64 n4) (.int .i64 d4)
  have hB20 := ball hB19 (.cells #[.int .i64 n4, .int .i64 d4] 23)
  go_upto_region 13 with fail
  clear pA19 pB19 pZ19 pX119 pY119 pX219 pY219 pX319 pY319 pX419 hB19
  generalize w19.heap.size = kY4 at *
  generalize w19.alloc (.cells #[.int .i64 n4, .int .i64 d4] 23) = w20 at *
  clear w19
  have tpA := pA20
  obtain ⟨a1, a2, a3, a4⟩ := tpA
  go_wp2_with fail
  clear a1 a2 a3 a4
  refine (pow_any n d k _ h1 h2 h3 h4 kb1 kb2).mono ?_
  rintro e w21 ⟨rfl, hb21⟩
  rw [HQ.out, E51.out, E52.out, E53.out]
  have pA21 := At.below hb21 pA20
  have pB21 := At.below hb21 pB20
  have pZ21 := At.below hb21 pZ20
  have pX121 := At.below hb21 pX120
  have pY121 := At.below hb21 pY120
  have pX221 := At.below hb21 pX220
  have pY221 := At.below hb21 pY220
  have pX321 := At.below hb21 pX320
  have pY321 := At.below hb21 pY320
  have pX421 := At.below hb21 pX420
  have pY421 := At.below hb21 pY420
  have hB21 := below_end hB20 hb21
  clear hb21 pA20 pB20 pZ20 pX120 pY120 pX220 pY220 pX320 pY320 pX420 pY420 hB20
  have pA22 := pA21.alloc (.cells #[.int .i64 n5, .int .i64 d5] 23)
  have pB22 := pB21.alloc (.cells #[.int .i64 n5, .int .i64 d5] 23)
  have pZ22 := pZ21.alloc (.cells #[.int .i64 n5, .int .i64 d5] 23)
  have pX122 := pX121.alloc (.cells #[.int .i64 n5, .int .i64 d5] 23)
  have pY122 := pY121.alloc (.cells #[.int .i64 n5, .int .i64 d5] 23)
  have pX222 := pX221.alloc (.cells #[.int .i64 n5, .int .i64 d5] 23)
  have pY222 := pY221.alloc (.cells #[.int .i64 n5, .int .i64 d5] 23)
  have pX322 := pX321.alloc (.cells #[.int .i64 n5, .int .i64 d5] 23)
  have pY322 := pY321.alloc (.cells #[.int .i64 n5, .int .i64 d5] 23)
  have pX422 := pX421.alloc (.cells #[.int .i64 n5, .int .i64 d5] 23)
  have pY422 := pY421.alloc (.cells #[.int .i64 n5, .int .i64 d5] 23)
  have pX522 := At.new w21 23 rfl (.int .i64 n5) (.int .i64 d5)
  have hB22 := ball hB21 (.cells #[.int .i64 n5, .int .i64 d5] 23)
  go_upto_region 14 with fail
  clear pA21 pB21 pZ21 pX121 pY121 pX221 pY221 pX321 pY321 pX421 pY421 hB21
  generalize w21.heap.size = kX5 at *
  generalize w21.alloc (.cells #[.int .i64 n5, .int .i64 d5] 23) = w22 at *
  clear w21
  have tpZ := pZ22
  obtain ⟨z1, z2, z3, z4⟩ := tpZ
  go_wp2_with fail
  clear z1 z2 z3 z4
  refine (pow_any 0 1 k _ z1 z2 z3 z4 kb1 kb2).mono ?_
  rintro e w23 ⟨rfl, hb23⟩
  rw [E51.out, E52.out, E53.out]
  have pA23 := At.below hb23 pA22
  have pB23 := At.below hb23 pB22
  have pZ23 := At.below hb23 pZ22
  have pX123 := At.below hb23 pX122
  have pY123 := At.below hb23 pY122
  have pX223 := At.below hb23 pX222
  have pY223 := At.below hb23 pY222
  have pX323 := At.below hb23 pX322
  have pY323 := At.below hb23 pY322
  have pX423 := At.below hb23 pX422
  have pY423 := At.below hb23 pY422
  have pX523 := At.below hb23 pX522
  have hB23 := below_end hB22 hb23
  clear hb23 pA22 pB22 pZ22 pX122 pY122 pX222 pY222 pX322 pY322 pX422 pY422 pX522 hB22
  have pA24 := pA23.alloc (.cells #[.int .i64 n5, .int .i64 d5] 23)
  have pB24 := pB23.alloc (.cells #[.int .i64 n5, .int .i64 d5] 23)
  have pZ24 := pZ23.alloc (.cells #[.int .i64 n5, .int .i64 d5] 23)
  have pX124 := pX123.alloc (.cells #[.int .i64 n5, .int .i64 d5] 23)
  have pY124 := pY123.alloc (.cells #[.int .i64 n5, .int .i64 d5] 23)
  have pX224 := pX223.alloc (.cells #[.int .i64 n5, .int .i64 d5] 23)
  have pY224 := pY223.alloc (.cells #[.int .i64 n5, .int .i64 d5] 23)
  have pX324 := pX323.alloc (.cells #[.int .i64 n5, .int .i64 d5] 23)
  have pY324 := pY323.alloc (.cells #[.int .i64 n5, .int .i64 d5] 23)
  have pX424 := pX423.alloc (.cells #[.int .i64 n5, .int .i64 d5] 23)
  have pY424 := pY423.alloc (.cells #[.int .i64 n5, .int .i64 d5] 23)
  have pX524 := pX523.alloc (.cells #[.int .i64 n5, .int .i64 d5] 23)
  have pY524 := At.new w23 23 rfl (.int .i64 n5) (.int .i64 d5)
  have hB24 := ball hB23 (.cells #[.int .i64 n5, .int .i64 d5] 23)
  go_upto_region 15 with fail
  clear pA23 pB23 pZ23 pX123 pY123 pX223 pY223 pX323 pY323 pX423 pY423 pX523 hB23
  generalize w23.heap.size = kY5 at *
  generalize w23.alloc (.cells #[.int .i64 n5, .int .i64 d5] 23) = w24 at *
  clear w23
  have tpB := pB24
  obtain ⟨b1, b2, b3, b4⟩ := tpB
  have tpA := pA24
  obtain ⟨a1, a2, a3, a4⟩ := tpA
  go_wp2_with fail
  clear b1 b2 b3 b4 a1 a2 a3 a4
  refine (div_any p q n d _ g1 g2 g3 g4 h1 h2 h3 h4).mono ?_
  rintro e w25 ⟨rfl, hb25⟩
  rw [DN.out, O1.out, O2.out, O3.out]
  have pA25 := At.below hb25 pA24
  have pB25 := At.below hb25 pB24
  have pZ25 := At.below hb25 pZ24
  have pX125 := At.below hb25 pX124
  have pY125 := At.below hb25 pY124
  have pX225 := At.below hb25 pX224
  have pY225 := At.below hb25 pY224
  have pX325 := At.below hb25 pX324
  have pY325 := At.below hb25 pY324
  have pX425 := At.below hb25 pX424
  have pY425 := At.below hb25 pY424
  have pX525 := At.below hb25 pX524
  have pY525 := At.below hb25 pY524
  have hB25 := below_end hB24 hb25
  clear hb25 pA24 pB24 pZ24 pX124 pY124 pX224 pY224 pX324 pY324 pX424 pY424 pX524 pY524 hB24
  have pA26 := pA25.alloc (.cells #[.int .i64 0, .int .i64 0] 23)
  have pB26 := pB25.alloc (.cells #[.int .i64 0, .int .i64 0] 23)
  have pZ26 := pZ25.alloc (.cells #[.int .i64 0, .int .i64 0] 23)
  have pX126 := pX125.alloc (.cells #[.int .i64 0, .int .i64 0] 23)
  have pY126 := pY125.alloc (.cells #[.int .i64 0, .int .i64 0] 23)
  have pX226 := pX225.alloc (.cells #[.int .i64 0, .int .i64 0] 23)
  have pY226 := pY225.alloc (.cells #[.int .i64 0, .int .i64 0] 23)
  have pX326 := pX325.alloc (.cells #[.int .i64 0, .int .i64 0] 23)
  have pY326 := pY325.alloc (.cells #[.int .i64 0, .int .i64 0] 23)
  have pX426 := pX425.alloc (.cells #[.int .i64 0, .int .i64 0] 23)
  have pY426 := pY425.alloc (.cells #[.int .i64 0, .int .i64 0] 23)
  have pX526 := pX525.alloc (.cells #[.int .i64 0, .int .i64 0] 23)
  have pY526 := pY525.alloc (.cells #[.int .i64 0, .int .i64 0] 23)
  have pU26 := At.new w25 23 rfl (.int .i64 0) (.int .i64 0)
  have hB26 := ball hB25 (.cells #[.int .i64 0, .int .i64 0] 23)
  go_upto_region 16 with fail
  clear pA25 pB25 pZ25 pX125 pY125 pX225 pY225 pX325 pY325 pX425 pY425 pX525 pY525 hB25
  generalize w25.heap.size = kU at *
  generalize w25.alloc (.cells #[.int .i64 0, .int .i64 0] 23) = w26 at *
  clear w25
  clear pU26
  have tpB := pB26
  obtain ⟨b1, b2, b3, b4⟩ := tpB
  have tpA := pA26
  obtain ⟨a1, a2, a3, a4⟩ := tpA
  go_wp2_with fail
  clear b1 b2 b3 b4 a1 a2 a3 a4
  refine (mod_any p q n d _ g1 g2 g3 g4 h1 h2 h3 h4).mono ?_
  rintro e w27 ⟨rfl, hb27⟩
  rw [MN.out, O1.out, O2.out, O3.out]
  have pA27 := At.below hb27 pA26
  have pB27 := At.below hb27 pB26
  have pZ27 := At.below hb27 pZ26
  have pX127 := At.below hb27 pX126
  have pY127 := At.below hb27 pY126
  have pX227 := At.below hb27 pX226
  have pY227 := At.below hb27 pY226
  have pX327 := At.below hb27 pX326
  have pY327 := At.below hb27 pY326
  have pX427 := At.below hb27 pX426
  have pY427 := At.below hb27 pY426
  have pX527 := At.below hb27 pX526
  have pY527 := At.below hb27 pY526
  have hB27 := below_end hB26 hb27
  clear hb27 pA26 pB26 pZ26 pX126 pY126 pX226 pY226 pX326 pY326 pX426 pY426 pX526 pY526 hB26
  have pA28 := pA27.alloc (.cells #[.int .i64 0, .int .i64 0] 23)
  have pB28 := pB27.alloc (.cells #[.int .i64 0, .int .i64 0] 23)
  have pZ28 := pZ27.alloc (.cells #[.int .i64 0, .int .i64 0] 23)
  have pX128 := pX127.alloc (.cells #[.int .i64 0, .int .i64 0] 23)
  have pY128 := pY127.alloc (.cells #[.int .i64 0, .int .i64 0] 23)
  have pX228 := pX227.alloc (.cells #[.int .i64 0, .int .i64 0] 23)
  have pY228 := pY227.alloc (.cells #[.int .i64 0, .int .i64 0] 23)
  have pX328 := pX327.alloc (.cells #[.int .i64 0, .int .i64 0] 23)
  have pY328 := pY327.alloc (.cells #[.int .i64 0, .int .i64 0] 23)
  have pX428 := pX427.alloc (.cells #[.int .i64 0, .int .i64 0] 23)
  have pY428 := pY427.alloc (.cells #[.int .i64 0, .int .i64 0] 23)
  have pX528 := pX527.alloc (.cells #[.int .i64 0, .int .i64 0] 23)
  have pY528 := pY527.alloc (.cells #[.int .i64 0, .int .i64 0] 23)
  have pU28 := At.new w27 23 rfl (.int .i64 0) (.int .i64 0)
  have hB28 := ball hB27 (.cells #[.int .i64 0, .int .i64 0] 23)
  go_upto_region 17 with fail
  clear pA27 pB27 pZ27 pX127 pY127 pX227 pY227 pX327 pY327 pX427 pY427 pX527 pY527 hB27
  generalize w27.heap.size = kU at *
  generalize w27.alloc (.cells #[.int .i64 0, .int .i64 0] 23) = w28 at *
  clear w27
  clear pU28
  have tpB := pB28
  obtain ⟨b1, b2, b3, b4⟩ := tpB
  have tpA := pA28
  obtain ⟨a1, a2, a3, a4⟩ := tpA
  go_wp2_with fail
  clear b1 b2 b3 b4 a1 a2 a3 a4
  refine (sum_any _ 0 2 2 (fun i => if i = 0 then p else n) (fun i => if i = 0 then q else d) _ (by omega) (fun _ => by simp) ?_ ?_ ?_ ?_).mono ?_
  · intro i hi
    rcases (by omega : i = 0 ∨ i = 1) with rfl | rfl <;> simp [go_sem]
  · intro i hi
    rcases (by omega : i = 0 ∨ i = 1) with rfl | rfl <;> simp [go_sem]
  · intro i hi
    show -9223372036854775808 ≤ (if i = 0 then p else n) ∧ (if i = 0 then p else n) ≤ 9223372036854775807
    split <;> omega
  · intro i hi
    show -9223372036854775808 ≤ (if i = 0 then q else d) ∧ (if i = 0 then q else d) ≤ 9223372036854775807
    split <;> omega
  rintro e w29 ⟨rfl, hb29⟩
  rw [S2.out, E61.out, E62.out, E63.out]
  have pA29 := At.below hb29 (pA28.alloc _)
  have pB29 := At.below hb29 (pB28.alloc _)
  have pZ29 := At.below hb29 (pZ28.alloc _)
  have pX129 := At.below hb29 (pX128.alloc _)
  have pY129 := At.below hb29 (pY128.alloc _)
  have pX229 := At.below hb29 (pX228.alloc _)
  have pY229 := At.below hb29 (pY228.alloc _)
  have pX329 := At.below hb29 (pX328.alloc _)
  have pY329 := At.below hb29 (pY328.alloc _)
  have pX429 := At.below hb29 (pX428.alloc _)
  have pY429 := At.below hb29 (pY428.alloc _)
  have pX529 := At.below hb29 (pX528.alloc _)
  have pY529 := At.below hb29 (pY528.alloc _)
  have hB29 := below_end (ball hB28 _) hb29
  clear hb29 pA28 pB28 pZ28 pX128 pY128 pX228 pY228 pX328 pY328 pX428 pY428 pX528 pY528 hB28
  have pA30 := pA29.alloc (.cells #[.int .i64 n6, .int .i64 d6] 23)
  have pB30 := pB29.alloc (.cells #[.int .i64 n6, .int .i64 d6] 23)
  have pZ30 := pZ29.alloc (.cells #[.int .i64 n6, .int .i64 d6] 23)
  have pX130 := pX129.alloc (.cells #[.int .i64 n6, .int .i64 d6] 23)
  have pY130 := pY129.alloc (.cells #[.int .i64 n6, .int .i64 d6] 23)
  have pX230 := pX229.alloc (.cells #[.int .i64 n6, .int .i64 d6] 23)
  have pY230 := pY229.alloc (.cells #[.int .i64 n6, .int .i64 d6] 23)
  have pX330 := pX329.alloc (.cells #[.int .i64 n6, .int .i64 d6] 23)
  have pY330 := pY329.alloc (.cells #[.int .i64 n6, .int .i64 d6] 23)
  have pX430 := pX429.alloc (.cells #[.int .i64 n6, .int .i64 d6] 23)
  have pY430 := pY429.alloc (.cells #[.int .i64 n6, .int .i64 d6] 23)
  have pX530 := pX529.alloc (.cells #[.int .i64 n6, .int .i64 d6] 23)
  have pY530 := pY529.alloc (.cells #[.int .i64 n6, .int .i64 d6] 23)
  have pX630 := At.new w29 23 rfl (.int .i64 n6) (.int .i64 d6)
  have hB30 := ball hB29 (.cells #[.int .i64 n6, .int .i64 d6] 23)
  go_upto_region 18 with fail
  clear pA29 pB29 pZ29 pX129 pY129 pX229 pY229 pX329 pY329 pX429 pY429 pX529 pY529 hB29
  generalize w29.heap.size = kX6 at *
  generalize w29.alloc (.cells #[.int .i64 n6, .int .i64 d6] 23) = w30 at *
  clear w29
  have tpB := pB30
  obtain ⟨b1, b2, b3, b4⟩ := tpB
  go_wp2_with fail
  clear b1 b2 b3 b4
  refine (sum_any _ 0 1 1 (fun i => if i = 0 then p else n) (fun i => if i = 0 then q else d) _ (by omega) (fun _ => by simp) ?_ ?_ ?_ ?_).mono ?_
  · intro i hi
    obtain rfl : i = 0 := by omega
    simp [go_sem]
  · intro i hi
    obtain rfl : i = 0 := by omega
    simp [go_sem]
  · intro i hi
    show -9223372036854775808 ≤ (if i = 0 then p else n) ∧ (if i = 0 then p else n) ≤ 9223372036854775807
    split <;> omega
  · intro i hi
    show -9223372036854775808 ≤ (if i = 0 then q else d) ∧ (if i = 0 then q else d) ≤ 9223372036854775807
    split <;> omega
  rintro e w31 ⟨rfl, hb31⟩
  rw [S1.out, E61.out, E62.out, E63.out]
  have pA31 := At.below hb31 (pA30.alloc _)
  have pB31 := At.below hb31 (pB30.alloc _)
  have pZ31 := At.below hb31 (pZ30.alloc _)
  have pX131 := At.below hb31 (pX130.alloc _)
  have pY131 := At.below hb31 (pY130.alloc _)
  have pX231 := At.below hb31 (pX230.alloc _)
  have pY231 := At.below hb31 (pY230.alloc _)
  have pX331 := At.below hb31 (pX330.alloc _)
  have pY331 := At.below hb31 (pY330.alloc _)
  have pX431 := At.below hb31 (pX430.alloc _)
  have pY431 := At.below hb31 (pY430.alloc _)
  have pX531 := At.below hb31 (pX530.alloc _)
  have pY531 := At.below hb31 (pY530.alloc _)
  have pX631 := At.below hb31 (pX630.alloc _)
  have hB31 := below_end (ball hB30 _) hb31
  clear hb31 pA30 pB30 pZ30 pX130 pY130 pX230 pY230 pX330 pY330 pX430 pY430 pX530 pY530 pX630 hB30
  have pA32 := pA31.alloc (.cells #[.int .i64 n6, .int .i64 d6] 23)
  have pB32 := pB31.alloc (.cells #[.int .i64 n6, .int .i64 d6] 23)
  have pZ32 := pZ31.alloc (.cells #[.int .i64 n6, .int .i64 d6] 23)
  have pX132 := pX131.alloc (.cells #[.int .i64 n6, .int .i64 d6] 23)
  have pY132 := pY131.alloc (.cells #[.int .i64 n6, .int .i64 d6] 23)
  have pX232 := pX231.alloc (.cells #[.int .i64 n6, .int .i64 d6] 23)
  have pY232 := pY231.alloc (.cells #[.int .i64 n6, .int .i64 d6] 23)
  have pX332 := pX331.alloc (.cells #[.int .i64 n6, .int .i64 d6] 23)
  have pY332 := pY331.alloc (.cells #[.int .i64 n6, .int .i64 d6] 23)
  have pX432 := pX431.alloc (.cells #[.int .i64 n6, .int .i64 d6] 23)
  have pY432 := pY431.alloc (.cells #[.int .i64 n6, .int .i64 d6] 23)
  have pX532 := pX531.alloc (.cells #[.int .i64 n6, .int .i64 d6] 23)
  have pY532 := pY531.alloc (.cells #[.int .i64 n6, .int .i64 d6] 23)
  have pX632 := pX631.alloc (.cells #[.int .i64 n6, .int .i64 d6] 23)
  have pY632 := At.new w31 23 rfl (.int .i64 n6) (.int .i64 d6)
  have hB32 := ball hB31 (.cells #[.int .i64 n6, .int .i64 d6] 23)
  go_upto_region 19 with fail
  clear pA31 pB31 pZ31 pX131 pY131 pX231 pY231 pX331 pY331 pX431 pY431 pX531 pY531 pX631 hB31
  generalize w31.heap.size = kY6 at *
  generalize w31.alloc (.cells #[.int .i64 n6, .int .i64 d6] 23) = w32 at *
  clear w31
  have tpX1 := pX132
  obtain ⟨x11, x12, x13, x14⟩ := tpX1
  have tpY1 := pY132
  obtain ⟨y11, y12, y13, y14⟩ := tpY1
  have tpX2 := pX232
  obtain ⟨x21, x22, x23, x24⟩ := tpX2
  have tpY2 := pY232
  obtain ⟨y21, y22, y23, y24⟩ := tpY2
  have tpX3 := pX332
  obtain ⟨x31, x32, x33, x34⟩ := tpX3
  have tpY3 := pY332
  obtain ⟨y31, y32, y33, y34⟩ := tpY3
  have tpX4 := pX432
  obtain ⟨x41, x42, x43, x44⟩ := tpX4
  have tpY4 := pY432
  obtain ⟨y41, y42, y43, y44⟩ := tpY4
  have tpX5 := pX532
  obtain ⟨x51, x52, x53, x54⟩ := tpX5
  have tpY5 := pY532
  obtain ⟨y51, y52, y53, y54⟩ := tpY5
  have tpX6 := pX632
  obtain ⟨x61, x62, x63, x64⟩ := tpX6
  have tpY6 := pY632
  obtain ⟨y61, y62, y63, y64⟩ := tpY6
  go_upto_region 21 with fail
  clear x11 x12 x13 x14 y11 y12 y13 y14 x21 x22 x23 x24 y21 y22 y23 y24 x31 x32 x33 x34 y31 y32 y33 y34 x41 x42 x43 x44 y41 y42 y43 y44 x51 x52 x53 x54 y51 y52 y53 y54 x61 x62 x63 x64 y61 y62 y63 y64
  clear pX132 pY132 pX232 pY232 pX332 pY332 pX432 pY432 pX532 pY532 pX632 pY632
  clear E11 E12 E13 E21 E22 E23 E31 E32 E33 E41 E42 E43 E51 E52 E53 E61 E62 E63 S1 S2 DN MN O1 O2 O3 HN HD z1 z2 z3 z4 kb1 kb2
  have tpA := pA32
  obtain ⟨a1, a2, a3, a4⟩ := tpA
  have tpZ := pZ32
  obtain ⟨z1, z2, z3, z4⟩ := tpZ
  have tpB := pB32
  obtain ⟨b1, b2, b3, b4⟩ := tpB
  clear pA32 pZ32 pB32
  have qE := hB32.drew
  clear hB32 a3 a4 z3 z4 b3 b4
  go_region_held3 (fun W => W.cell? ⟨(w.heap.size + 1), 0, none⟩ = some (.int .i64 n) ∧ W.cell? ⟨(w.heap.size + 1), 1, none⟩ = some (.int .i64 d) ∧ W.cell? ⟨kZ, 0, none⟩ = some (.int .i64 0) ∧ W.cell? ⟨kZ, 1, none⟩ = some (.int .i64 1) ∧ W.cell? ⟨w.heap.size, 0, none⟩ = some (.int .i64 p) ∧ W.cell? ⟨w.heap.size, 1, none⟩ = some (.int .i64 q)) (first | exact ⟨a1, a2, z1, z2, b1, b2⟩ | exact keep6 hbq (by assumption) | assumption)
    (first
      | (go_at_call 27; refine (right_any n d _ h1 h2 h3 h4).mono ?_; rintro e wq ⟨rfl, hbq⟩; rw [RA.out]; have qE := below_end qE hbq)
      | (go_at_call 28; refine (text_wrong n d _ h1 h2 h3 h4 RA).mono ?_; rintro e wq ⟨rfl, hbq⟩; have qE := below_end qE hbq)
      | (go_at_call 18; refine (floor_any n d _ h1 h2 h3 h4).mono ?_; rintro e wq ⟨rfl, hbq⟩; rw [F0.out]; have qE := below_end qE hbq)
      | (go_at_call 26; refine (neg_any n d _ h1 h2 h3 h4).mono ?_; rintro e wq ⟨rfl, hbq⟩; rw [N0.out, D0.out]; have qE := below_end qE hbq)
      | (go_at_call 29; refine (abs_any n d _ h1 h2 h3 h4).mono ?_; rintro e wq ⟨rfl, hbq⟩; rw [B0.out, D0.out]; have qE := below_end qE hbq)
      | (go_at_call 20; refine (cmpq_any _ _ _ _ _ (by omega) (by omega) (by omega) (by omega) (by omega) (by omega) (by omega) (by omega)).mono ?_; rintro e wq ⟨rfl, hbq⟩; (first | rw [HQ.out, HU.out] | rw [HU.out]); have qE := below_end qE hbq))
  all_goals
    go_wp2
    go_ret
    exact ⟨rfl, qE⟩

set_option maxRecDepth 100000 in
set_option maxHeartbeats 1600000 in
theorem wrong_walk (n d p q k : Int) (w : World) (h1 : -9223372036854775808 ≤ n) (h2 : n ≤ 9223372036854775807) (h3 : -9223372036854775808 ≤ d) (h4 : d ≤ 9223372036854775807)
    (g1 : -9223372036854775808 ≤ p) (g2 : p ≤ 9223372036854775807) (g3 : -9223372036854775808 ≤ q) (g4 : q ≤ 9223372036854775807)
    (kb1 : -9223372036854775808 ≤ k) (kb2 : k ≤ 9223372036854775807) :
    Calls Tryd.prog 8 #[.int .i64 n, .int .i64 d, .agg #[.int .i64 p, .int .i64 q], .int .i64 k] w fun e w' => e = .returned (.bool true) ∧ Below w.heap.size w w' := by
  cases ra : Wnum.rightB n d with
  | true =>
    have RA : Hid (Wnum.rightB n d = true) := ra
    clear ra
    go_enter Tryd.func8, Tryd.ntmps8
    go_wp2_with fail
    refine (able_any _).mono ?_
    rintro e w1 ⟨rfl, hb1⟩
    have pB1 : At w1 w.heap.size (.int .i64 p) (.int .i64 q) := At.below hb1 ((At.new w _ rfl _ _).alloc _)
    have pA1 : At w1 (w.heap.size + 1) (.int .i64 n) (.int .i64 d) := At.below hb1 (At.new (w.alloc _) _ (by simp) _ _)
    have hB1 : Below w.heap.size w w1 := by with_reducible repeat (first | exact Below.refl _ _ | refine below_drewN ?_ _ | refine Below.setCell ?_ (by first | (simp; done) | (simp; omega) | omega) _ | refine Below.drew ?_ | refine below_end ?_ (by assumption) | refine ball ?_ _)
    clear hb1
    have tpA := pA1
    obtain ⟨a1, a2, a3, a4⟩ := tpA
    go_wp2_with fail
    clear a1 a2 a3 a4
    refine (lright_any n d _ h1 h2 h3 h4).mono ?_
    rintro e w2 ⟨rfl, hb2⟩
    rw [RA.out]
    have pA2 := At.below hb2 pA1
    have pB2 := At.below hb2 pB1
    have hB2 := below_end hB1 hb2
    clear hb2 pA1 pB1 hB1
    go_wp2_with fail
    refine (able_any _).mono ?_
    rintro e w3 ⟨rfl, hb3⟩
    have pA3 := At.below hb3 pA2
    have pB3 := At.below hb3 pB2
    have hB3 := below_end hB2 hb3
    clear hb3 pA2 pB2 hB2
    go_wp2
    go_ret
    exact ⟨rfl, hB3⟩
  | false =>
    have cn : Wnum.cN n d = 0 := by unfold Wnum.cN; rw [ra]; rfl
    have cd : Wnum.cD n d = 1 := by unfold Wnum.cD; rw [ra]; rfl
    have cn0 : Wnum.cN 0 1 = 0 := by decide +kernel
    have cd0 : Wnum.cD 0 1 = 1 := by decide +kernel
    have hq : Wnum.qu n d = Wnum.qu 0 1 := by unfold Wnum.qu; rw [cn, cd, cn0, cd0]
    have hq0 : Wnum.qu n d = 0 := by rw [hq]; decide +kernel
    have ok1 : Wnum.okQ (0 + Wnum.qu p q) = true := by rw [Rat.zero_add]; exact Wnum.qu_ok p q
    have ok2 : Wnum.okQ (0 + Wnum.qu p q + Wnum.qu n d) = true := by rw [hq0, Rat.add_zero]; exact ok1
    refine wrong_main n d p q k _ _ _ _ _ _ _ _ _ _ _ _ _ _ _ _ _ _ _ w h1 h2 h3 h4 g1 g2 g3 g4 (by omega) (by omega) (by omega) (by omega) kb1 kb2 ra hq (show Wnum.cN n d = Wnum.cN 0 1 by rw [cn, cn0]) (show Wnum.cD n d = Wnum.cD 0 1 by rw [cd, cd0]) (rfl : Wnum.oN (some (Wnum.qu 0 1 + Wnum.qu p q)) = _) (rfl : Wnum.oD (some (Wnum.qu 0 1 + Wnum.qu p q)) = _) (rfl : Wnum.oB (some (Wnum.qu 0 1 + Wnum.qu p q)) = _) (rfl : Wnum.oN (some (Wnum.qu p q - Wnum.qu 0 1)) = _) (rfl : Wnum.oD (some (Wnum.qu p q - Wnum.qu 0 1)) = _) (rfl : Wnum.oB (some (Wnum.qu p q - Wnum.qu 0 1)) = _) (rfl : Wnum.oN (some (Wnum.qu 0 1 * Wnum.qu p q)) = _) (rfl : Wnum.oD (some (Wnum.qu 0 1 * Wnum.qu p q)) = _) (rfl : Wnum.oB (some (Wnum.qu 0 1 * Wnum.qu p q)) = _) (rfl : Wnum.oN (Wnum.mk (Wnum.cN 0 1 * Wnum.cD p q) (Wnum.cN p q * Wnum.cD 0 1)) = _) (rfl : Wnum.oD (Wnum.mk (Wnum.cN 0 1 * Wnum.cD p q) (Wnum.cN p q * Wnum.cD 0 1)) = _) (rfl : Wnum.oB (Wnum.mk (Wnum.cN 0 1 * Wnum.cD p q) (Wnum.cN p q * Wnum.cD 0 1)) = _) (rfl : Wnum.oN (Wnum.powO (Wnum.qu 0 1) k) = _) (rfl : Wnum.oD (Wnum.powO (Wnum.qu 0 1) k) = _) (rfl : Wnum.oB (Wnum.powO (Wnum.qu 0 1) k) = _) (rfl : Wnum.oN (some (Wnum.qu p q)) = _) (rfl : Wnum.oD (some (Wnum.qu p q)) = _) (rfl : Wnum.oB (some (Wnum.qu p q)) = _) (show _ = _ by rw [cn, Int.zero_mul]; exact Wnum.mk_zero _) (Wnum.modO_zero cn) ?_ ?_ (rfl : Wnum.oN none = 0) (rfl : Wnum.oD none = 0) (rfl : Wnum.oB none = false) (show _ = _ by rw [cn, cd]; rfl) (show _ = _ by rw [cn]; rfl) cd (show _ = _ by rw [cn]; rfl) (rfl : Wnum.cs (Wnum.qu 0 1) (Wnum.qu p q) = _)
    · show Wnum.sumQ 0 [Wnum.qu p q] = _
      rw [Wnum.sumQ_in ok1, Rat.zero_add]; rfl
    · show Wnum.sumQ 0 [Wnum.qu p q, Wnum.qu n d] = _
      rw [Wnum.sumQ_in ok1, Wnum.sumQ_in ok2, hq0, Rat.zero_add, Rat.add_zero]; rfl
end Go.Proofs.YtfilmomndhlmbaaDoor
