/- The contracts of Before and Shift, and of the document's own. -/
import Derived.Test.YtdjhegmkmopnfabDoorPWalkA
namespace Go.Proofs.YtdjhegmkmopnfabDoor
open Go.RowKit
set_option linter.unusedVariables false

/-- Before -/
theorem before_any (s r c s' r' c' : Int) (w : World) :
    Calls Tryd.prog 21 #[.agg #[.int .i64 s, .int .i64 r, .int .i64 c], .agg #[.int .i64 s', .int .i64 r', .int .i64 c']] w fun e w' => e = .returned (.bool (Wpl.before s r c s' r' c')) ∧ Below w.heap.size w w' := by
  unfold Wpl.before
  by_cases h : s = s'
  · rw [if_neg (not_not_intro h)]
    by_cases k : r = r'
    · rw [if_neg (not_not_intro k)]
      subst h k
      go_enter Tryd.func21, Tryd.ntmps21
      go_wp2
      go_ret
      exact ⟨rfl, by with_reducible repeat (first | exact Below.refl _ _ | refine x3_below_drewN ?_ _ | refine Below.setCell ?_ (by first | (simp; done) | (simp; omega) | omega) _ | refine Below.drew ?_ | refine x3_below_end ?_ (by assumption) | refine x3_ball ?_ _)⟩
    · rw [if_pos k]
      subst h
      go_enter Tryd.func21, Tryd.ntmps21
      go_wp2
      go_ret
      exact ⟨rfl, by with_reducible repeat (first | exact Below.refl _ _ | refine x3_below_drewN ?_ _ | refine Below.setCell ?_ (by first | (simp; done) | (simp; omega) | omega) _ | refine Below.drew ?_ | refine x3_below_end ?_ (by assumption) | refine x3_ball ?_ _)⟩
  · rw [if_pos h]
    go_enter Tryd.func21, Tryd.ntmps21
    go_wp2
    go_ret
    exact ⟨rfl, by with_reducible repeat (first | exact Below.refl _ _ | refine x3_below_drewN ?_ _ | refine Below.setCell ?_ (by first | (simp; done) | (simp; omega) | omega) _ | refine Below.drew ?_ | refine x3_below_end ?_ (by assumption) | refine x3_ball ?_ _)⟩

/-- stays -/
theorem stays_any (n x m : Int) (w : World) (h0 : 0 ≤ n) (h1 : n < m) (h2 : m ≤ 65536) :
    Calls Tryd.prog 36 #[.int .i64 n, .int .i64 x, .int .i64 m] w fun e w' => e = .returned (.bool (Wpl.inB (n + x) m)) ∧ w = w' := by
  have e : Wpl.inB (n + x) m = (decide (-n ≤ x) && decide (x < m - n)) := by
    rw [Bool.eq_iff_iff, Wpl.inB_iff]; simp; omega
  rw [e]; clear e
  by_cases h : -n ≤ x
  · rw [decide_eq_true h]
    go_enter Tryd.func36, Tryd.ntmps36
    go_wp2
    go_ret
    exact ⟨by simp, rfl⟩
  · rw [decide_eq_false h]
    go_enter Tryd.func36, Tryd.ntmps36
    go_wp2
    go_ret
    exact ⟨by simp, rfl⟩
end Go.Proofs.YtdjhegmkmopnfabDoor
