/- place.Has, as it is written since the graph. -/
import Derived.Test.YtpbjmhcpaeillaaPWalkC
import Derived.Test.YtpbjmhcpaeillaaWalkB
namespace Go.Proofs.Ytpbjmhcpaeillaa
open Go.RowKit
set_option linter.unusedVariables false

set_option maxHeartbeats 1600000 in
theorem hasQ (s t l b r cs cr cc : Int) (w : World) :
    Calls Try.prog 41 #[.agg #[.int .i64 s, .int .i64 t, .int .i64 l, .int .i64 b, .int .i64 r], .agg #[.int .i64 cs, .int .i64 cr, .int .i64 cc]] w fun e w' => e = .returned (.bool (Wpl.hasA s t l b r cs cr cc)) ∧ Below w.heap.size w w' := by
  have R := fun w => rightArea_any s t l b r w
  generalize HH0 : Wpl.hasA s t l b r cs cr cc = H
  by_cases h0 : cs = s
  case neg =>
    have HH : Hid (H = false) := by show _ = _; rw [← HH0]; simp [Wpl.hasA]; intros; first | contradiction | omega
    clear HH0 R
    go_enter Try.func41, Try.ntmps41
    go_wp2
    go_ret
    exact ⟨by rw [HH.out]; rfl, by with_reducible repeat (first | exact Below.refl _ _ | refine below_drewN ?_ _ | refine Below.setCell ?_ (by first | (simp; done) | (simp; omega) | omega) _ | refine Below.drew ?_ | refine below_end ?_ (by assumption) | refine ball ?_ _)⟩
  by_cases h1 : t ≤ cr
  case neg =>
    have HH : Hid (H = false) := by show _ = _; rw [← HH0]; simp [Wpl.hasA]; intros; first | contradiction | omega
    subst h0
    have g1 : decide (t ≤ cr) = false := by simpa using h1
    clear HH0 R
    go_enter Try.func41, Try.ntmps41
    go_wp2
    go_ret
    exact ⟨by rw [HH.out]; rfl, by with_reducible repeat (first | exact Below.refl _ _ | refine below_drewN ?_ _ | refine Below.setCell ?_ (by first | (simp; done) | (simp; omega) | omega) _ | refine Below.drew ?_ | refine below_end ?_ (by assumption) | refine ball ?_ _)⟩
  by_cases h2 : cr ≤ b
  case neg =>
    have HH : Hid (H = false) := by show _ = _; rw [← HH0]; simp [Wpl.hasA]; intros; first | contradiction | omega
    subst h0
    have g2 : decide (cr ≤ b) = false := by simpa using h2
    clear HH0 R
    go_enter Try.func41, Try.ntmps41
    go_wp2
    go_ret
    exact ⟨by rw [HH.out]; rfl, by with_reducible repeat (first | exact Below.refl _ _ | refine below_drewN ?_ _ | refine Below.setCell ?_ (by first | (simp; done) | (simp; omega) | omega) _ | refine Below.drew ?_ | refine below_end ?_ (by assumption) | refine ball ?_ _)⟩
  by_cases h3 : l ≤ cc
  case neg =>
    have HH : Hid (H = false) := by show _ = _; rw [← HH0]; simp [Wpl.hasA]; intros; first | contradiction | omega
    subst h0
    have g3 : decide (l ≤ cc) = false := by simpa using h3
    clear HH0 R
    go_enter Try.func41, Try.ntmps41
    go_wp2
    go_ret
    exact ⟨by rw [HH.out]; rfl, by with_reducible repeat (first | exact Below.refl _ _ | refine below_drewN ?_ _ | refine Below.setCell ?_ (by first | (simp; done) | (simp; omega) | omega) _ | refine Below.drew ?_ | refine below_end ?_ (by assumption) | refine ball ?_ _)⟩
  by_cases h4 : cc ≤ r
  case neg =>
    have HH : Hid (H = false) := by show _ = _; rw [← HH0]; simp [Wpl.hasA]; intros; first | contradiction | omega
    subst h0
    have g4 : decide (cc ≤ r) = false := by simpa using h4
    clear HH0 R
    go_enter Try.func41, Try.ntmps41
    go_wp2
    go_ret
    exact ⟨by rw [HH.out]; rfl, by with_reducible repeat (first | exact Below.refl _ _ | refine below_drewN ?_ _ | refine Below.setCell ?_ (by first | (simp; done) | (simp; omega) | omega) _ | refine Below.drew ?_ | refine below_end ?_ (by assumption) | refine ball ?_ _)⟩
  have HH : Hid (H = Wpl.rightA s t l b r) := by show _ = _; rw [← HH0]; simp [Wpl.hasA, h0, h1, h2, h3, h4]
  subst h0
  clear HH0
  go_enter Try.func41, Try.ntmps41
  go_wp2_with fail
  refine (R _).mono ?_
  rintro e w1 ⟨rfl, hb1⟩
  go_wp2
  go_ret
  exact ⟨by rw [HH.out]; rfl, by with_reducible repeat (first | exact Below.refl _ _ | refine below_drewN ?_ _ | refine Below.setCell ?_ (by first | (simp; done) | (simp; omega) | omega) _ | refine Below.drew ?_ | refine below_end ?_ (by assumption) | refine ball ?_ _)⟩
end Go.Proofs.Ytpbjmhcpaeillaa
