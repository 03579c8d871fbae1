/- NumMakes answers true, whatever it is asked. -/
import Derived.Test.YtfbgdfpbbnhfmaaDoorWalkE
import Derived.Test.YtfbgdfpbbnhfmaaDoorWalkJ
import Derived.Test.YtfbgdfpbbnhfmaaDoorKeepKit
namespace Go.Proofs.YtfbgdfpbbnhfmaaDoor
open Go.RowKit
set_option linter.unusedVariables false

set_option maxHeartbeats 800000 in
theorem makes_walk (n d : Int) (w : World) (h1 : -9223372036854775808 ≤ n) (h2 : n ≤ 9223372036854775807) (h3 : -9223372036854775808 ≤ d) (h4 : d ≤ 9223372036854775807) :
    Calls Tryd.prog 3 #[.int .i64 n, .int .i64 d] w fun e w' => e = .returned (.bool true) ∧ Below w.heap.size w w' := by
  go_enter Tryd.func3, Tryd.ntmps3
  go_wp2_with fail
  refine (make_any _ _ _ h1 h2 h3 h4).mono ?_
  rintro e w1 ⟨rfl, hb1⟩
  go_wp2_with fail
  refine (rmake_any _ _ _ h1 h2 h3 h4).mono ?_
  rintro e w2 ⟨rfl, hb2⟩
  have pX : At w2 w1.heap.size (.int .i64 (Wnum.oN (Wnum.mk n d))) (.int .i64 (Wnum.oD (Wnum.mk n d))) := At.below hb2 (At.new w1 _ rfl _ _)
  have pX' := (pX.alloc (.cells #[.int .i64 (Wnum.oN (Wnum.mk n d)), .int .i64 (Wnum.oD (Wnum.mk n d))] 23)).alloc (.cells #[.int .i64 n, .int .i64 d] 23)
  have pY' := (At.new w2 23 rfl (.int .i64 (Wnum.oN (Wnum.mk n d))) (.int .i64 (Wnum.oD (Wnum.mk n d)))).alloc (.cells #[.int .i64 n, .int .i64 d] 23)
  have pA' := At.new (w2.alloc (.cells #[.int .i64 (Wnum.oN (Wnum.mk n d)), .int .i64 (Wnum.oD (Wnum.mk n d))] 23)) 23 (k := w2.heap.size + 1) (by simp) (.int .i64 n) (.int .i64 d)
  go_wp2_with fail
  go_region_held3 (fun W => W.cell? ⟨w1.heap.size, 0, none⟩ = some (.int .i64 (Wnum.oN (Wnum.mk n d))) ∧ W.cell? ⟨w1.heap.size, 1, none⟩ = some (.int .i64 (Wnum.oD (Wnum.mk n d))) ∧ W.cell? ⟨w2.heap.size, 0, none⟩ = some (.int .i64 (Wnum.oN (Wnum.mk n d))) ∧ W.cell? ⟨w2.heap.size, 1, none⟩ = some (.int .i64 (Wnum.oD (Wnum.mk n d))) ∧ W.cell? ⟨w2.heap.size + 1, 0, none⟩ = some (.int .i64 n) ∧ W.cell? ⟨w2.heap.size + 1, 1, none⟩ = some (.int .i64 d)) (first | exact ⟨pX'.1, pX'.2.1, pY'.1, pY'.2.1, pA'.1, pA'.2.1⟩ | exact keep6 hb (by assumption))
    (first
      | (go_at_call 11; refine (able_any _).mono ?_; rintro e w3 ⟨rfl, hb⟩)
      | (go_at_call 12; refine (right_any _ _ _ h1 h2 h3 h4).mono ?_; rintro e w3 ⟨rfl, hb⟩)
      | (go_at_call 13; refine (rright_any _ _ _ h1 h2 h3 h4).mono ?_; rintro e w3 ⟨rfl, hb⟩))
  go_wp2
  go_ret
  exact ⟨rfl, by with_reducible repeat (first | exact Below.refl _ _ | refine below_drewN ?_ _ | refine Below.setCell ?_ (by first | (simp; done) | (simp; omega) | omega) _ | refine Below.drew ?_ | refine below_end ?_ (by assumption) | refine ball ?_ _)⟩
end Go.Proofs.YtfbgdfpbbnhfmaaDoor
