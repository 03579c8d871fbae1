/- The contracts of the document's RightArea, Size, Has. -/
import Derived.Test.YtpbjmhcpaeillaaPWalkB
import Derived.Test.YtpbjmhcpaeillaaPPlainB
namespace Go.Proofs.Ytpbjmhcpaeillaa
open Go.RowKit
set_option linter.unusedVariables false

set_option maxHeartbeats 1600000 in
theorem rrightArea_any (s t l b r : Int) (w : World) :
    Calls Try.prog 77 #[.agg #[.int .i64 s, .int .i64 t, .int .i64 l, .int .i64 b, .int .i64 r]] w fun e w' => e = .returned (.bool (Wpl.rightA s t l b r)) ∧ Below w.heap.size w w' := by
  have E : Hid (Wpl.rightA s t l b r = decide (0 ≤ s ∧ s < 16 ∧ 0 ≤ t ∧ t ≤ b ∧ b < 65536 ∧ 0 ≤ l ∧ l ≤ r ∧ r < 256)) := (rfl : Wpl.rightA s t l b r = _)
  go_enter Try.func77, Try.ntmps77
  go_wp2
  all_goals
    go_ret
    refine ⟨?_, by with_reducible repeat (first | exact Below.refl _ _ | refine x3_below_drewN ?_ _ | refine Below.setCell ?_ (by first | (simp; done) | (simp; omega) | omega) _ | refine Below.drew ?_ | refine x3_below_end ?_ (by assumption) | refine x3_ball ?_ _)⟩
    rw [E.out]
    refine x3_ret_bool ?_
    first | (simp [*]; done) | (rw [Bool.eq_iff_iff]; simp; omega)

set_option maxHeartbeats 1600000 in
theorem rhas_any (s t l b r cs cr cc : Int) (w : World) :
    Calls Try.prog 65 #[.agg #[.int .i64 s, .int .i64 t, .int .i64 l, .int .i64 b, .int .i64 r], .agg #[.int .i64 cs, .int .i64 cr, .int .i64 cc]] w fun e w' => e = .returned (.bool (Wpl.hasA s t l b r cs cr cc)) ∧ Below w.heap.size w w' := by
  have R := fun w => rrightArea_any s t l b r w
  generalize HH0 : Wpl.hasA s t l b r cs cr cc = H
  cases hA0 : Wpl.rightA s t l b r with
  | false =>
    have HH : Hid (H = false) := by show _ = _; rw [← HH0]; simp [Wpl.hasA, hA0]
    rw [hA0] at R
    clear hA0 HH0
    go_enter Try.func65, Try.ntmps65
    go_wp2_with fail
    refine (R _).mono ?_
    rintro e w1 ⟨rfl, hb1⟩
    go_wp2
    go_ret
    exact ⟨by rw [HH.out]; rfl, by with_reducible repeat (first | exact Below.refl _ _ | refine x3_below_drewN ?_ _ | refine Below.setCell ?_ (by first | (simp; done) | (simp; omega) | omega) _ | refine Below.drew ?_ | refine x3_below_end ?_ (by assumption) | refine x3_ball ?_ _)⟩
  | true =>
    have HH : Hid (H = decide (cs = s ∧ t ≤ cr ∧ cr ≤ b ∧ l ≤ cc ∧ cc ≤ r)) := by show _ = _; rw [← HH0]; simp [Wpl.hasA, hA0]
    rw [hA0] at R
    clear hA0 HH0
    go_enter Try.func65, Try.ntmps65
    go_wp2_with fail
    refine (R _).mono ?_
    rintro e w1 ⟨rfl, hb1⟩
    have pA : AtL w1 w.heap.size [.int .i64 s, .int .i64 t, .int .i64 l, .int .i64 b, .int .i64 r] := AtL.below hb1 ((AtL.new0 w 39 _).alloc _)
    have pC : AtL w1 (w.heap.size + 1) [.int .i64 cs, .int .i64 cr, .int .i64 cc] := AtL.below hb1 (AtL.new1 w _ 33 _)
    have hB : Below w.heap.size w w1 := by with_reducible repeat (first | exact Below.refl _ _ | refine x3_below_drewN ?_ _ | refine Below.setCell ?_ (by first | (simp; done) | (simp; omega) | omega) _ | refine Below.drew ?_ | refine x3_below_end ?_ (by assumption) | refine x3_ball ?_ _)
    clear hb1
    obtain ⟨a0, a1, a2, a3, a4⟩ := pA.f5
    obtain ⟨c0, c1, c2⟩ := pC.f3
    go_wp2
    all_goals
      go_ret
      refine ⟨?_, by with_reducible repeat (first | exact Below.refl _ _ | refine x3_below_drewN ?_ _ | refine Below.setCell ?_ (by first | (simp; done) | (simp; omega) | omega) _ | refine Below.drew ?_ | refine x3_below_end ?_ (by assumption) | refine x3_ball ?_ _)⟩
      rw [HH.out]
      refine x3_ret_bool ?_
      clear a0 a1 a2 a3 a4 c0 c1 c2 R pA pC
      first | (simp [*]; done) | (rw [Bool.eq_iff_iff]; simp; omega)
end Go.Proofs.Ytpbjmhcpaeillaa
