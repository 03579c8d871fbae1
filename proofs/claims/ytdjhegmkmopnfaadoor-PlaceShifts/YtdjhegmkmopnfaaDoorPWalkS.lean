/- The contracts of Shift and of the document's Right, Before, Shift. -/
import Derived.Test.YtdjhegmkmopnfaaDoorPWalkC
namespace Go.Proofs.YtdjhegmkmopnfaaDoor
open Go.RowKit
set_option linter.unusedVariables false

/-- the document's Right -/
theorem x3_rright_any (s r c : Int) (w : World) :
    Calls Tryd.prog 11 #[.agg #[.int .i64 s, .int .i64 r, .int .i64 c]] w fun e w' => e = .returned (.bool (Wpl.rightC s r c)) ∧ Below w.heap.size w w' := by
  by_cases h0 : 0 ≤ s
  · by_cases h1 : s < 16
    · by_cases h2 : 0 ≤ r
      · by_cases h3 : r < 65536
        · by_cases h4 : 0 ≤ c
          · have e : Hid (Wpl.rightC s r c = decide (c < 256)) := by
              show _ = _; rw [Bool.eq_iff_iff, Wpl.rightC_iff]; simp; omega
            go_enter Tryd.func11, Tryd.ntmps11
            go_wp2
            go_ret
            exact ⟨by rw [e.out]; rfl, by with_reducible repeat (first | exact Below.refl _ _ | refine x3_below_drewN ?_ _ | refine Below.setCell ?_ (by first | (simp; done) | (simp; omega) | omega) _ | refine Below.drew ?_ | refine x3_below_end ?_ (by assumption) | refine x3_ball ?_ _)⟩
          · have e : Hid (Wpl.rightC s r c = false) := by show _ = _; rw [Wpl.rightC_not]; omega
            go_enter Tryd.func11, Tryd.ntmps11
            go_wp2
            go_ret
            exact ⟨by rw [e.out]; rfl, by with_reducible repeat (first | exact Below.refl _ _ | refine x3_below_drewN ?_ _ | refine Below.setCell ?_ (by first | (simp; done) | (simp; omega) | omega) _ | refine Below.drew ?_ | refine x3_below_end ?_ (by assumption) | refine x3_ball ?_ _)⟩
        · have e : Hid (Wpl.rightC s r c = false) := by show _ = _; rw [Wpl.rightC_not]; omega
          go_enter Tryd.func11, Tryd.ntmps11
          go_wp2
          go_ret
          exact ⟨by rw [e.out]; rfl, by with_reducible repeat (first | exact Below.refl _ _ | refine x3_below_drewN ?_ _ | refine Below.setCell ?_ (by first | (simp; done) | (simp; omega) | omega) _ | refine Below.drew ?_ | refine x3_below_end ?_ (by assumption) | refine x3_ball ?_ _)⟩
      · have e : Hid (Wpl.rightC s r c = false) := by show _ = _; rw [Wpl.rightC_not]; omega
        go_enter Tryd.func11, Tryd.ntmps11
        go_wp2
        go_ret
        exact ⟨by rw [e.out]; rfl, by with_reducible repeat (first | exact Below.refl _ _ | refine x3_below_drewN ?_ _ | refine Below.setCell ?_ (by first | (simp; done) | (simp; omega) | omega) _ | refine Below.drew ?_ | refine x3_below_end ?_ (by assumption) | refine x3_ball ?_ _)⟩
    · have e : Hid (Wpl.rightC s r c = false) := by show _ = _; rw [Wpl.rightC_not]; omega
      go_enter Tryd.func11, Tryd.ntmps11
      go_wp2
      go_ret
      exact ⟨by rw [e.out]; rfl, by with_reducible repeat (first | exact Below.refl _ _ | refine x3_below_drewN ?_ _ | refine Below.setCell ?_ (by first | (simp; done) | (simp; omega) | omega) _ | refine Below.drew ?_ | refine x3_below_end ?_ (by assumption) | refine x3_ball ?_ _)⟩
  · have e : Hid (Wpl.rightC s r c = false) := by show _ = _; rw [Wpl.rightC_not]; omega
    go_enter Tryd.func11, Tryd.ntmps11
    go_wp2
    go_ret
    exact ⟨by rw [e.out]; rfl, by with_reducible repeat (first | exact Below.refl _ _ | refine x3_below_drewN ?_ _ | refine Below.setCell ?_ (by first | (simp; done) | (simp; omega) | omega) _ | refine Below.drew ?_ | refine x3_below_end ?_ (by assumption) | refine x3_ball ?_ _)⟩

/-- the document's Before -/
theorem rbefore_any (s r c s' r' c' : Int) (w : World) :
    Calls Tryd.prog 41 #[.agg #[.int .i64 s, .int .i64 r, .int .i64 c], .agg #[.int .i64 s', .int .i64 r', .int .i64 c']] w fun e w' => e = .returned (.bool (Wpl.before s r c s' r' c')) ∧ Below w.heap.size w w' := by
  unfold Wpl.before
  by_cases h : s = s'
  · rw [if_neg (not_not_intro h)]
    by_cases k : r = r'
    · rw [if_neg (not_not_intro k)]
      subst h k
      go_enter Tryd.func41, Tryd.ntmps41
      go_wp2
      go_ret
      exact ⟨rfl, by with_reducible repeat (first | exact Below.refl _ _ | refine x3_below_drewN ?_ _ | refine Below.setCell ?_ (by first | (simp; done) | (simp; omega) | omega) _ | refine Below.drew ?_ | refine x3_below_end ?_ (by assumption) | refine x3_ball ?_ _)⟩
    · rw [if_pos k]
      subst h
      go_enter Tryd.func41, Tryd.ntmps41
      go_wp2
      go_ret
      exact ⟨rfl, by with_reducible repeat (first | exact Below.refl _ _ | refine x3_below_drewN ?_ _ | refine Below.setCell ?_ (by first | (simp; done) | (simp; omega) | omega) _ | refine Below.drew ?_ | refine x3_below_end ?_ (by assumption) | refine x3_ball ?_ _)⟩
  · rw [if_pos h]
    go_enter Tryd.func41, Tryd.ntmps41
    go_wp2
    go_ret
    exact ⟨rfl, by with_reducible repeat (first | exact Below.refl _ _ | refine x3_below_drewN ?_ _ | refine Below.setCell ?_ (by first | (simp; done) | (simp; omega) | omega) _ | refine Below.drew ?_ | refine x3_below_end ?_ (by assumption) | refine x3_ball ?_ _)⟩
end Go.Proofs.YtdjhegmkmopnfaaDoor
