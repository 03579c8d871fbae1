/- Cmp by the order of two fractions. -/
import Derived.Test.YtfilmomndhlmbaaDoorWalkV
import Derived.Test.YtfilmomndhlmbaaDoorPlainH
namespace Go.Proofs.YtfilmomndhlmbaaDoor
open Go.RowKit
set_option linter.unusedVariables false

theorem cmpq_any (a b c d : Int) (w : World) (h1 : -9223372036854775808 ≤ a) (h2 : a ≤ 9223372036854775807) (h3 : -9223372036854775808 ≤ b) (h4 : b ≤ 9223372036854775807)
    (g1 : -9223372036854775808 ≤ c) (g2 : c ≤ 9223372036854775807) (g3 : -9223372036854775808 ≤ d) (g4 : d ≤ 9223372036854775807) :
    Calls Tryd.prog 20 #[.agg #[.int .i64 a, .int .i64 b], .agg #[.int .i64 c, .int .i64 d]] w fun e w' => e = .returned (.int .i64 (Wnum.cs (Wnum.qu a b) (Wnum.qu c d))) ∧ Below w.heap.size w w' := by
  rw [← Wnum.cmp_cs]
  exact cmp_any a b c d w h1 h2 h3 h4 g1 g2 g3 g4
end Go.Proofs.YtfilmomndhlmbaaDoor
