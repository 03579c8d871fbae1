/- The contracts of the reference's Add, Sub, Cmp. -/
import Derived.Test.YtfilmomndhlmbaaDoorWalkG
import Derived.Test.YtfilmomndhlmbaaDoorAtKit
namespace Go.Proofs.YtfilmomndhlmbaaDoor
open Go.RowKit
set_option linter.unusedVariables false

set_option maxHeartbeats 800000 in
theorem radd_any (a b c d : Int) (w : World) (h1 : -9223372036854775808 ≤ a) (h2 : a ≤ 9223372036854775807) (h3 : -9223372036854775808 ≤ b) (h4 : b ≤ 9223372036854775807)
    (g1 : -9223372036854775808 ≤ c) (g2 : c ≤ 9223372036854775807) (g3 : -9223372036854775808 ≤ d) (g4 : d ≤ 9223372036854775807) :
    Calls Tryd.prog 43 #[.agg #[.int .i64 a, .int .i64 b], .agg #[.int .i64 c, .int .i64 d]] w fun e w' => e = .returned (.tuple #[.agg #[.int .i64 (Wnum.oN (some (Wnum.qu a b + Wnum.qu c d))), .int .i64 (Wnum.oD (some (Wnum.qu a b + Wnum.qu c d)))], .bool (Wnum.oB (some (Wnum.qu a b + Wnum.qu c d)))]) ∧ Below w.heap.size w w' := by
  obtain ⟨m1, m2⟩ := mul_bd (Wnum.cN_bd a b).1 (Wnum.cN_bd a b).2 (Wnum.cD_bd c d).1 (Wnum.cD_bd c d).2
  obtain ⟨m3, m4⟩ := mul_bd (Wnum.cN_bd c d).1 (Wnum.cN_bd c d).2 (Wnum.cD_bd a b).1 (Wnum.cD_bd a b).2
  obtain ⟨m5, m6⟩ := den_bd (a := a) (b := b) (c := c) (d := d)
  rw [← Wnum.qu_add a b c d]
  go_enter Tryd.func43, Tryd.ntmps43
  go_wp2_with fail
  refine (of_any _ _ _ h1 h2 h3 h4).mono ?_
  rintro e w1 ⟨rfl, hb1⟩
  have pA : At w1 w.heap.size (.int .i64 a) (.int .i64 b) := At.below hb1 (((At.new w _ rfl _ _).alloc _).alloc _)
  have pB : At w1 (w.heap.size + 1) (.int .i64 c) (.int .i64 d) := At.below hb1 ((At.new (w.alloc _) _ (by simp) _ _).alloc _)
  have pC : At w1 (w.heap.size + 2) (.int .i64 0) (.int .i64 0) := At.below hb1 (At.new ((w.alloc _).alloc _) _ (by simp) _ _)
  have hB : Below w.heap.size w w1 := by with_reducible repeat (first | exact Below.refl _ _ | refine below_drewN ?_ _ | refine Below.setCell ?_ (by first | (simp; done) | (simp; omega) | omega) _ | refine Below.drew ?_ | refine below_end ?_ (by assumption) | refine ball ?_ _)
  clear hb1
  have pA' := pA
  obtain ⟨a1, a2, a3, a4⟩ := pA'
  go_upto_region 2 with fail
  have qA := pA.put (.int .i64 (Wnum.cN a b)) (.int .i64 (Wnum.cD a b))
  have qB := pB.far2 (j := w.heap.size) (by omega) (.int .i64 (Wnum.cN a b)) (.int .i64 (Wnum.cD a b))
  have qC := pC.far2 (j := w.heap.size) (by omega) (.int .i64 (Wnum.cN a b)) (.int .i64 (Wnum.cD a b))
  have qD := put_below hB (k := w.heap.size) (by omega) (.int .i64 (Wnum.cN a b)) (.int .i64 (Wnum.cD a b))
  clear pA pB pC hB a1 a2 a3 a4
  generalize (w1.setCell ⟨w.heap.size, 0, none⟩ (.int .i64 (Wnum.cN a b))).setCell ⟨w.heap.size, 1, none⟩ (.int .i64 (Wnum.cD a b)) = W1 at *
  clear w1
  have pB' := qB
  obtain ⟨b1, b2, b3, b4⟩ := pB'
  go_wp2_with fail
  refine (of_any _ _ _ g1 g2 g3 g4).mono ?_
  rintro e w2 ⟨rfl, hb2⟩
  have pA := At.below hb2 qA
  have pB := At.below hb2 qB
  have pC := At.below hb2 qC
  have hB := below_end qD hb2
  clear hb2 qA qB qC qD b1 b2 b3 b4
  have pB' := pB
  obtain ⟨b1, b2, b3, b4⟩ := pB'
  go_upto_region 3 with fail
  have qA := pA.far2 (j := w.heap.size + 1) (by omega) (.int .i64 (Wnum.cN c d)) (.int .i64 (Wnum.cD c d))
  have qB := pB.put (.int .i64 (Wnum.cN c d)) (.int .i64 (Wnum.cD c d))
  have qC := pC.far2 (j := w.heap.size + 1) (by omega) (.int .i64 (Wnum.cN c d)) (.int .i64 (Wnum.cD c d))
  have qD := put_below hB (k := w.heap.size + 1) (by omega) (.int .i64 (Wnum.cN c d)) (.int .i64 (Wnum.cD c d))
  clear pA pB pC hB b1 b2 b3 b4
  generalize (w2.setCell ⟨w.heap.size + 1, 0, none⟩ (.int .i64 (Wnum.cN c d))).setCell ⟨w.heap.size + 1, 1, none⟩ (.int .i64 (Wnum.cD c d)) = W2 at *
  clear w2
  obtain ⟨a1, a2, a3, a4⟩ := qA
  obtain ⟨b1, b2, b3, b4⟩ := qB
  obtain ⟨c1, c2, c3, c4⟩ := qC
  go_wp2_with fail
  refine (rmake_any _ _ _ (by omega) (by omega) (by omega) (by omega)).mono ?_
  rintro e w3 ⟨rfl, hb3⟩
  obtain ⟨k1, k2, k3, k4⟩ := At.below hb3 ⟨c1, c2, c3, c4⟩
  go_wp2
  refine bodyPost_ret (v := .tuple #[.agg #[.int .i64 (Wnum.oN (Wnum.mk (Wnum.cN a b * Wnum.cD c d + Wnum.cN c d * Wnum.cD a b) (Wnum.cD a b * Wnum.cD c d))), .int .i64 (Wnum.oD (Wnum.mk (Wnum.cN a b * Wnum.cD c d + Wnum.cN c d * Wnum.cD a b) (Wnum.cD a b * Wnum.cD c d)))], .bool (Wnum.oB (Wnum.mk (Wnum.cN a b * Wnum.cD c d + Wnum.cN c d * Wnum.cD a b) (Wnum.cD a b * Wnum.cD c d)))]) (by simp [results, Tryd.results43, go_sem, k1, k2]) rfl ⟨rfl, ?_⟩
  exact put_below (below_end qD hb3) (by omega) _ _
end Go.Proofs.YtfilmomndhlmbaaDoor
