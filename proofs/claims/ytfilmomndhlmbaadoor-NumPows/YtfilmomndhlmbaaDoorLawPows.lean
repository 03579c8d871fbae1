/- NumPows answers true, whatever it is asked. -/
import Derived.Test.YtfilmomndhlmbaaDoorWalkE
import Derived.Test.YtfilmomndhlmbaaDoorWalkYb
import Derived.Test.YtfilmomndhlmbaaDoorWalkZb
namespace Go.Proofs.YtfilmomndhlmbaaDoor
open Go.RowKit
set_option linter.unusedVariables false

set_option maxHeartbeats 1600000 in
theorem pows_walk (a b k : Int) (w : World) (h1 : -9223372036854775808 ≤ a) (h2 : a ≤ 9223372036854775807) (h3 : -9223372036854775808 ≤ b) (h4 : b ≤ 9223372036854775807) (kb1 : -9223372036854775808 ≤ k) (kb2 : k ≤ 9223372036854775807) :
    Calls Tryd.prog 3 #[.agg #[.int .i64 a, .int .i64 b], .int .i64 k] w fun e w' => e = .returned (.bool true) ∧ Below w.heap.size w w' := by
  go_enter Tryd.func3, Tryd.ntmps3
  go_wp2_with fail
  refine (pow_any a b k _ h1 h2 h3 h4 kb1 kb2).mono ?_
  rintro e w1 ⟨rfl, hb1⟩
  have pA1 : At w1 w.heap.size (.int .i64 a) (.int .i64 b) := At.below hb1 (At.new w _ rfl _ _)
  have hB1 : Below w.heap.size w w1 := by with_reducible repeat (first | exact Below.refl _ _ | refine below_drewN ?_ _ | refine Below.setCell ?_ (by first | (simp; done) | (simp; omega) | omega) _ | refine Below.drew ?_ | refine below_end ?_ (by assumption) | refine ball ?_ _)
  clear hb1
  obtain ⟨a1, a2, a3, a4⟩ := pA1.alloc (.cells #[.int .i64 (Wnum.oN (Wnum.powO (Wnum.qu a b) k)), .int .i64 (Wnum.oD (Wnum.powO (Wnum.qu a b) k))] 23)
  go_wp2_with fail
  clear a1 a2 a3 a4
  refine (rpow_any a b k _ h1 h2 h3 h4 kb1 kb2).mono ?_
  rintro e w2 ⟨rfl, hb2⟩
  have pX02 : At w2 w1.heap.size (.int .i64 (Wnum.oN (Wnum.powO (Wnum.qu a b) k))) (.int .i64 (Wnum.oD (Wnum.powO (Wnum.qu a b) k))) := At.below hb2 (At.new w1 23 rfl _ _)
  have hB2 := below_end (ball hB1 (.cells #[.int .i64 (Wnum.oN (Wnum.powO (Wnum.qu a b) k)), .int .i64 (Wnum.oD (Wnum.powO (Wnum.qu a b) k))] 23)) hb2
  clear hb2 pA1 hB1
  go_wp2_with fail
  refine (able_any _).mono ?_
  rintro e w3 ⟨rfl, hb3⟩
  obtain ⟨x01, x02, _, _⟩ := At.below hb3 (pX02.alloc (.cells #[.int .i64 (Wnum.oN (Wnum.powO (Wnum.qu a b) k)), .int .i64 (Wnum.oD (Wnum.powO (Wnum.qu a b) k))] 23))
  obtain ⟨x11, x12, _, _⟩ := At.below hb3 (At.new w2 23 rfl (.int .i64 (Wnum.oN (Wnum.powO (Wnum.qu a b) k))) (.int .i64 (Wnum.oD (Wnum.powO (Wnum.qu a b) k))))
  have hB3 := below_end (ball hB2 (.cells #[.int .i64 (Wnum.oN (Wnum.powO (Wnum.qu a b) k)), .int .i64 (Wnum.oD (Wnum.powO (Wnum.qu a b) k))] 23)) hb3
  clear pX02 hB2 hb3
  go_wp2
  go_ret
  exact ⟨rfl, hB3⟩
end Go.Proofs.YtfilmomndhlmbaaDoor
