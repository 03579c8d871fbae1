/- The contracts of Shift and of the document's Right, Before, Shift. -/
import Derived.Test.YtpbjmhcpaeillaaPWalkC
namespace Go.Proofs.Ytpbjmhcpaeillaa
open Go.RowKit
set_option linter.unusedVariables false

/-- the document's Before -/
theorem rbefore_any (s r c s' r' c' : Int) (w : World) :
    Calls Try.prog 58 #[.agg #[.int .i64 s, .int .i64 r, .int .i64 c], .agg #[.int .i64 s', .int .i64 r', .int .i64 c']] w fun e w' => e = .returned (.bool (Wpl.before s r c s' r' c')) ∧ Below w.heap.size w w' := by
  unfold Wpl.before
  by_cases h : s = s'
  · rw [if_neg (not_not_intro h)]
    by_cases k : r = r'
    · rw [if_neg (not_not_intro k)]
      subst h k
      go_enter Try.func58, Try.ntmps58
      go_wp2
      go_ret
      exact ⟨rfl, by with_reducible repeat (first | exact Below.refl _ _ | refine x3_below_drewN ?_ _ | refine Below.setCell ?_ (by first | (simp; done) | (simp; omega) | omega) _ | refine Below.drew ?_ | refine x3_below_end ?_ (by assumption) | refine x3_ball ?_ _)⟩
    · rw [if_pos k]
      subst h
      go_enter Try.func58, Try.ntmps58
      go_wp2
      go_ret
      exact ⟨rfl, by with_reducible repeat (first | exact Below.refl _ _ | refine x3_below_drewN ?_ _ | refine Below.setCell ?_ (by first | (simp; done) | (simp; omega) | omega) _ | refine Below.drew ?_ | refine x3_below_end ?_ (by assumption) | refine x3_ball ?_ _)⟩
  · rw [if_pos h]
    go_enter Try.func58, Try.ntmps58
    go_wp2
    go_ret
    exact ⟨rfl, by with_reducible repeat (first | exact Below.refl _ _ | refine x3_below_drewN ?_ _ | refine Below.setCell ?_ (by first | (simp; done) | (simp; omega) | omega) _ | refine Below.drew ?_ | refine x3_below_end ?_ (by assumption) | refine x3_ball ?_ _)⟩
end Go.Proofs.Ytpbjmhcpaeillaa
