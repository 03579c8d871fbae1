/- NumMuls answers true, whatever it is asked. -/
import Derived.Test.YtfbgdfpbbnhfmaaDoorWalkE
import Derived.Test.YtfbgdfpbbnhfmaaDoorWalkL
import Derived.Test.YtfbgdfpbbnhfmaaDoorWalkM
namespace Go.Proofs.YtfbgdfpbbnhfmaaDoor
open Go.RowKit
set_option linter.unusedVariables false

set_option maxHeartbeats 1600000 in
theorem muls_walk (a b c d : Int) (w : World) (h1 : -9223372036854775808 ≤ a) (h2 : a ≤ 9223372036854775807) (h3 : -9223372036854775808 ≤ b) (h4 : b ≤ 9223372036854775807)
    (g1 : -9223372036854775808 ≤ c) (g2 : c ≤ 9223372036854775807) (g3 : -9223372036854775808 ≤ d) (g4 : d ≤ 9223372036854775807) :
    Calls Tryd.prog 5 #[.agg #[.int .i64 a, .int .i64 b], .agg #[.int .i64 c, .int .i64 d]] w fun e w' => e = .returned (.bool true) ∧ Below w.heap.size w w' := by
  go_enter Tryd.func5, Tryd.ntmps5
  go_wp2_with fail
  refine (mul_any a b c d _ h1 h2 h3 h4 g1 g2 g3 g4).mono ?_
  rintro e w1 ⟨rfl, hb1⟩
  have pA1 : At w1 w.heap.size (.int .i64 a) (.int .i64 b) := At.below hb1 ((At.new w _ rfl _ _).alloc _)
  have pB1 : At w1 (w.heap.size + 1) (.int .i64 c) (.int .i64 d) := At.below hb1 (At.new (w.alloc _) _ (by simp) _ _)
  have hB1 : Below w.heap.size w w1 := by with_reducible repeat (first | exact Below.refl _ _ | refine below_drewN ?_ _ | refine Below.setCell ?_ (by first | (simp; done) | (simp; omega) | omega) _ | refine Below.drew ?_ | refine below_end ?_ (by assumption) | refine ball ?_ _)
  clear hb1
  obtain ⟨a1, a2, a3, a4⟩ := pA1.alloc (.cells #[.int .i64 (Wnum.oN (some (Wnum.qu a b * Wnum.qu c d))), .int .i64 (Wnum.oD (some (Wnum.qu a b * Wnum.qu c d)))] 23)
  obtain ⟨b1, b2, b3, b4⟩ := pB1.alloc (.cells #[.int .i64 (Wnum.oN (some (Wnum.qu a b * Wnum.qu c d))), .int .i64 (Wnum.oD (some (Wnum.qu a b * Wnum.qu c d)))] 23)
  go_wp2_with fail
  clear a1 a2 a3 a4 b1 b2 b3 b4
  refine (rmul_any a b c d _ h1 h2 h3 h4 g1 g2 g3 g4).mono ?_
  rintro e w2 ⟨rfl, hb2⟩
  have pA2 := At.below hb2 (pA1.alloc (.cells #[.int .i64 (Wnum.oN (some (Wnum.qu a b * Wnum.qu c d))), .int .i64 (Wnum.oD (some (Wnum.qu a b * Wnum.qu c d)))] 23))
  have pB2 := At.below hb2 (pB1.alloc (.cells #[.int .i64 (Wnum.oN (some (Wnum.qu a b * Wnum.qu c d))), .int .i64 (Wnum.oD (some (Wnum.qu a b * Wnum.qu c d)))] 23))
  have pX02 : At w2 w1.heap.size (.int .i64 (Wnum.oN (some (Wnum.qu a b * Wnum.qu c d)))) (.int .i64 (Wnum.oD (some (Wnum.qu a b * Wnum.qu c d)))) := At.below hb2 (At.new w1 23 rfl _ _)
  have hB2 := below_end (ball hB1 (.cells #[.int .i64 (Wnum.oN (some (Wnum.qu a b * Wnum.qu c d))), .int .i64 (Wnum.oD (some (Wnum.qu a b * Wnum.qu c d)))] 23)) hb2
  clear hb2 pA1 pB1 hB1
  obtain ⟨a1, a2, a3, a4⟩ := pA2.alloc (.cells #[.int .i64 (Wnum.oN (some (Wnum.qu a b * Wnum.qu c d))), .int .i64 (Wnum.oD (some (Wnum.qu a b * Wnum.qu c d)))] 23)
  obtain ⟨b1, b2, b3, b4⟩ := pB2.alloc (.cells #[.int .i64 (Wnum.oN (some (Wnum.qu a b * Wnum.qu c d))), .int .i64 (Wnum.oD (some (Wnum.qu a b * Wnum.qu c d)))] 23)
  go_wp2_with fail
  clear a1 a2 a3 a4 b1 b2 b3 b4
  refine (div_any a b c d _ h1 h2 h3 h4 g1 g2 g3 g4).mono ?_
  rintro e w3 ⟨rfl, hb3⟩
  have pA3 := At.below hb3 (pA2.alloc (.cells #[.int .i64 (Wnum.oN (some (Wnum.qu a b * Wnum.qu c d))), .int .i64 (Wnum.oD (some (Wnum.qu a b * Wnum.qu c d)))] 23))
  have pB3 := At.below hb3 (pB2.alloc (.cells #[.int .i64 (Wnum.oN (some (Wnum.qu a b * Wnum.qu c d))), .int .i64 (Wnum.oD (some (Wnum.qu a b * Wnum.qu c d)))] 23))
  have pX03 := At.below hb3 (pX02.alloc (.cells #[.int .i64 (Wnum.oN (some (Wnum.qu a b * Wnum.qu c d))), .int .i64 (Wnum.oD (some (Wnum.qu a b * Wnum.qu c d)))] 23))
  have pX13 : At w3 w2.heap.size (.int .i64 (Wnum.oN (some (Wnum.qu a b * Wnum.qu c d)))) (.int .i64 (Wnum.oD (some (Wnum.qu a b * Wnum.qu c d)))) := At.below hb3 (At.new w2 23 rfl _ _)
  have hB3 := below_end (ball hB2 (.cells #[.int .i64 (Wnum.oN (some (Wnum.qu a b * Wnum.qu c d))), .int .i64 (Wnum.oD (some (Wnum.qu a b * Wnum.qu c d)))] 23)) hb3
  clear hb3 pA2 pB2 pX02 hB2
  obtain ⟨a1, a2, a3, a4⟩ := pA3.alloc (.cells #[.int .i64 (Wnum.oN (Wnum.mk (Wnum.cN a b * Wnum.cD c d) (Wnum.cN c d * Wnum.cD a b))), .int .i64 (Wnum.oD (Wnum.mk (Wnum.cN a b * Wnum.cD c d) (Wnum.cN c d * Wnum.cD a b)))] 23)
  obtain ⟨b1, b2, b3, b4⟩ := pB3.alloc (.cells #[.int .i64 (Wnum.oN (Wnum.mk (Wnum.cN a b * Wnum.cD c d) (Wnum.cN c d * Wnum.cD a b))), .int .i64 (Wnum.oD (Wnum.mk (Wnum.cN a b * Wnum.cD c d) (Wnum.cN c d * Wnum.cD a b)))] 23)
  go_wp2_with fail
  clear a1 a2 a3 a4 b1 b2 b3 b4
  refine (rdiv_any a b c d _ h1 h2 h3 h4 g1 g2 g3 g4).mono ?_
  rintro e w4 ⟨rfl, hb4⟩
  have pA4 := At.below hb4 (pA3.alloc (.cells #[.int .i64 (Wnum.oN (Wnum.mk (Wnum.cN a b * Wnum.cD c d) (Wnum.cN c d * Wnum.cD a b))), .int .i64 (Wnum.oD (Wnum.mk (Wnum.cN a b * Wnum.cD c d) (Wnum.cN c d * Wnum.cD a b)))] 23))
  have pB4 := At.below hb4 (pB3.alloc (.cells #[.int .i64 (Wnum.oN (Wnum.mk (Wnum.cN a b * Wnum.cD c d) (Wnum.cN c d * Wnum.cD a b))), .int .i64 (Wnum.oD (Wnum.mk (Wnum.cN a b * Wnum.cD c d) (Wnum.cN c d * Wnum.cD a b)))] 23))
  have pX04 := At.below hb4 (pX03.alloc (.cells #[.int .i64 (Wnum.oN (Wnum.mk (Wnum.cN a b * Wnum.cD c d) (Wnum.cN c d * Wnum.cD a b))), .int .i64 (Wnum.oD (Wnum.mk (Wnum.cN a b * Wnum.cD c d) (Wnum.cN c d * Wnum.cD a b)))] 23))
  have pX14 := At.below hb4 (pX13.alloc (.cells #[.int .i64 (Wnum.oN (Wnum.mk (Wnum.cN a b * Wnum.cD c d) (Wnum.cN c d * Wnum.cD a b))), .int .i64 (Wnum.oD (Wnum.mk (Wnum.cN a b * Wnum.cD c d) (Wnum.cN c d * Wnum.cD a b)))] 23))
  have pX24 : At w4 w3.heap.size (.int .i64 (Wnum.oN (Wnum.mk (Wnum.cN a b * Wnum.cD c d) (Wnum.cN c d * Wnum.cD a b)))) (.int .i64 (Wnum.oD (Wnum.mk (Wnum.cN a b * Wnum.cD c d) (Wnum.cN c d * Wnum.cD a b)))) := At.below hb4 (At.new w3 23 rfl _ _)
  have hB4 := below_end (ball hB3 (.cells #[.int .i64 (Wnum.oN (Wnum.mk (Wnum.cN a b * Wnum.cD c d) (Wnum.cN c d * Wnum.cD a b))), .int .i64 (Wnum.oD (Wnum.mk (Wnum.cN a b * Wnum.cD c d) (Wnum.cN c d * Wnum.cD a b)))] 23)) hb4
  clear hb4 pA3 pB3 pX03 pX13 hB3
  go_wp2_with fail
  refine (able_any _).mono ?_
  rintro e w5 ⟨rfl, hb5⟩
  obtain ⟨x01, x02, _, _⟩ := At.below hb5 (pX04.alloc (.cells #[.int .i64 (Wnum.oN (Wnum.mk (Wnum.cN a b * Wnum.cD c d) (Wnum.cN c d * Wnum.cD a b))), .int .i64 (Wnum.oD (Wnum.mk (Wnum.cN a b * Wnum.cD c d) (Wnum.cN c d * Wnum.cD a b)))] 23))
  obtain ⟨x11, x12, _, _⟩ := At.below hb5 (pX14.alloc (.cells #[.int .i64 (Wnum.oN (Wnum.mk (Wnum.cN a b * Wnum.cD c d) (Wnum.cN c d * Wnum.cD a b))), .int .i64 (Wnum.oD (Wnum.mk (Wnum.cN a b * Wnum.cD c d) (Wnum.cN c d * Wnum.cD a b)))] 23))
  obtain ⟨x21, x22, _, _⟩ := At.below hb5 (pX24.alloc (.cells #[.int .i64 (Wnum.oN (Wnum.mk (Wnum.cN a b * Wnum.cD c d) (Wnum.cN c d * Wnum.cD a b))), .int .i64 (Wnum.oD (Wnum.mk (Wnum.cN a b * Wnum.cD c d) (Wnum.cN c d * Wnum.cD a b)))] 23))
  obtain ⟨x31, x32, _, _⟩ := At.below hb5 (At.new w4 23 rfl (.int .i64 (Wnum.oN (Wnum.mk (Wnum.cN a b * Wnum.cD c d) (Wnum.cN c d * Wnum.cD a b)))) (.int .i64 (Wnum.oD (Wnum.mk (Wnum.cN a b * Wnum.cD c d) (Wnum.cN c d * Wnum.cD a b)))))
  have hB5 := below_end (ball hB4 (.cells #[.int .i64 (Wnum.oN (Wnum.mk (Wnum.cN a b * Wnum.cD c d) (Wnum.cN c d * Wnum.cD a b))), .int .i64 (Wnum.oD (Wnum.mk (Wnum.cN a b * Wnum.cD c d) (Wnum.cN c d * Wnum.cD a b)))] 23)) hb5
  clear pA4 pB4 pX04 pX14 pX24 hB4 hb5
  go_wp2
  go_ret
  exact ⟨rfl, hB5⟩
end Go.Proofs.YtfbgdfpbbnhfmaaDoor
