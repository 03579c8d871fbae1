/- The contracts of Has and Size. -/
import Derived.Test.YtdjhegmkmopnfabDoorPWalkR
namespace Go.Proofs.YtdjhegmkmopnfabDoor
open Go.RowKit
set_option linter.unusedVariables false

theorem width_any (s t l b r : Int) (w : World) (h0 : 0 ≤ l) (h1 : l ≤ r) (h2 : r < 256) :
    Calls Tryd.prog 31 #[.agg #[.int .i64 s, .int .i64 t, .int .i64 l, .int .i64 b, .int .i64 r]] w fun e w' => e = .returned (.int .i64 (r - l + 1)) ∧ Below w.heap.size w w' := by
  go_enter Tryd.func31, Tryd.ntmps31
  go_wp2
  go_ret
  exact ⟨rfl, by with_reducible repeat (first | exact Below.refl _ _ | refine x3_below_drewN ?_ _ | refine Below.setCell ?_ (by first | (simp; done) | (simp; omega) | omega) _ | refine Below.drew ?_ | refine x3_below_end ?_ (by assumption) | refine x3_ball ?_ _)⟩

set_option maxHeartbeats 800000 in
theorem x3_size_any (s t l b r : Int) (w : World) :
    Calls Tryd.prog 16 #[.agg #[.int .i64 s, .int .i64 t, .int .i64 l, .int .i64 b, .int .i64 r]] w fun e w' => e = .returned (.int .i64 (Wpl.sizeA s t l b r)) ∧ Below w.heap.size w w' := by
  have R := fun w => rightArea_any s t l b r w
  cases h : Wpl.rightA s t l b r with
  | false =>
    have e1 : Hid (Wpl.sizeA s t l b r = 0) := by show _ = _; unfold Wpl.sizeA; rw [h]; rfl
    rw [h] at R; clear h
    go_enter Tryd.func16, Tryd.ntmps16
    go_wp2_with fail
    refine (R _).mono ?_
    rintro e w1 ⟨rfl, hb1⟩
    go_wp2
    go_ret
    exact ⟨by rw [e1.out]; rfl, by with_reducible repeat (first | exact Below.refl _ _ | refine x3_below_drewN ?_ _ | refine Below.setCell ?_ (by first | (simp; done) | (simp; omega) | omega) _ | refine Below.drew ?_ | refine x3_below_end ?_ (by assumption) | refine x3_ball ?_ _)⟩
  | true =>
    have hh := Wpl.rightA_iff.1 h
    have e1 : Hid (Wpl.sizeA s t l b r = (b - t + 1) * (r - l + 1)) := by show _ = _; unfold Wpl.sizeA; rw [h]; rfl
    have m0 : 0 ≤ (b - t + 1) * (r - l + 1) := Int.mul_nonneg (by omega) (by omega)
    have m1 : (b - t + 1) * (r - l + 1) ≤ 65536 * 256 := Int.mul_le_mul (by omega) (by omega) (by omega) (by omega)
    have wa : IntKind.i64.wrap (b - t) = b - t := IntWalk.i64_in _ (by omega)
    have wb : IntKind.i64.wrap (b - t + 1) = b - t + 1 := IntWalk.i64_in _ (by omega)
    have wc : IntKind.i64.wrap ((b - t + 1) * (r - l + 1)) = (b - t + 1) * (r - l + 1) := IntWalk.i64_in _ (by omega)
    rw [h] at R; clear h
    have Wd := fun w => width_any s t l b r w (by omega) (by omega) (by omega)
    go_enter Tryd.func16, Tryd.ntmps16
    go_wp2_with fail
    refine (R _).mono ?_
    rintro e w1 ⟨rfl, hb1⟩
    have pA : AtL w1 w.heap.size [.int .i64 s, .int .i64 t, .int .i64 l, .int .i64 b, .int .i64 r] := AtL.below hb1 (AtL.new0 w 25 _)
    have hB : Below w.heap.size w w1 := by with_reducible repeat (first | exact Below.refl _ _ | refine x3_below_drewN ?_ _ | refine Below.setCell ?_ (by first | (simp; done) | (simp; omega) | omega) _ | refine Below.drew ?_ | refine x3_below_end ?_ (by assumption) | refine x3_ball ?_ _)
    clear hb1
    obtain ⟨a0, a1, a2, a3, a4, _, _, _, _, _⟩ := pA.five
    go_wp2_with fail
    go_region_held3 (fun W => W.cell? ⟨w.heap.size, 0, none⟩ = some (.int .i64 s) ∧ W.cell? ⟨w.heap.size, 1, none⟩ = some (.int .i64 t) ∧ W.cell? ⟨w.heap.size, 2, none⟩ = some (.int .i64 l) ∧ W.cell? ⟨w.heap.size, 3, none⟩ = some (.int .i64 b) ∧ W.cell? ⟨w.heap.size, 4, none⟩ = some (.int .i64 r))
      (with_reducible first | exact ⟨a0, a1, a2, a3, a4⟩ | assumption | exact five_drew ⟨a0, a1, a2, a3, a4⟩ | exact five_below hb4 (by assumption))
      (first
      | (go_at_call 31; refine (Wd _).mono ?_; rintro e w4 ⟨rfl, hb4⟩))
    all_goals
      go_wp2
      go_ret
      refine ⟨by rw [e1.out, ← wc, ← wb, ← wa]; first | rfl | (rw [wa, wb, wc]; rfl), by with_reducible repeat (first | exact Below.refl _ _ | refine x3_below_drewN ?_ _ | refine Below.setCell ?_ (by first | (simp; done) | (simp; omega) | omega) _ | refine Below.drew ?_ | refine x3_below_end ?_ (by assumption) | refine x3_ball ?_ _)⟩

set_option maxHeartbeats 1600000 in
theorem has_any (s t l b r cs cr cc : Int) (w : World) :
    Calls Tryd.prog 20 #[.agg #[.int .i64 s, .int .i64 t, .int .i64 l, .int .i64 b, .int .i64 r], .agg #[.int .i64 cs, .int .i64 cr, .int .i64 cc]] w fun e w' => e = .returned (.bool (Wpl.hasA s t l b r cs cr cc)) ∧ Below w.heap.size w w' := by
  have R := fun w => rightArea_any s t l b r w
  generalize HH0 : Wpl.hasA s t l b r cs cr cc = H
  by_cases h0 : cs = s
  case neg =>
    have HH : Hid (H = false) := by show _ = _; rw [← HH0]; simp [Wpl.hasA]; intros; first | contradiction | omega
    clear HH0 R
    go_enter Tryd.func20, Tryd.ntmps20
    go_wp2
    go_ret
    exact ⟨by rw [HH.out]; rfl, by with_reducible repeat (first | exact Below.refl _ _ | refine x3_below_drewN ?_ _ | refine Below.setCell ?_ (by first | (simp; done) | (simp; omega) | omega) _ | refine Below.drew ?_ | refine x3_below_end ?_ (by assumption) | refine x3_ball ?_ _)⟩
  by_cases h1 : t ≤ cr
  case neg =>
    have HH : Hid (H = false) := by show _ = _; rw [← HH0]; simp [Wpl.hasA]; intros; first | contradiction | omega
    subst h0
    have g1 : decide (t ≤ cr) = false := by simpa using h1
    clear HH0 R
    go_enter Tryd.func20, Tryd.ntmps20
    go_wp2
    go_ret
    exact ⟨by rw [HH.out]; rfl, by with_reducible repeat (first | exact Below.refl _ _ | refine x3_below_drewN ?_ _ | refine Below.setCell ?_ (by first | (simp; done) | (simp; omega) | omega) _ | refine Below.drew ?_ | refine x3_below_end ?_ (by assumption) | refine x3_ball ?_ _)⟩
  by_cases h2 : cr ≤ b
  case neg =>
    have HH : Hid (H = false) := by show _ = _; rw [← HH0]; simp [Wpl.hasA]; intros; first | contradiction | omega
    subst h0
    have g2 : decide (cr ≤ b) = false := by simpa using h2
    clear HH0 R
    go_enter Tryd.func20, Tryd.ntmps20
    go_wp2
    go_ret
    exact ⟨by rw [HH.out]; rfl, by with_reducible repeat (first | exact Below.refl _ _ | refine x3_below_drewN ?_ _ | refine Below.setCell ?_ (by first | (simp; done) | (simp; omega) | omega) _ | refine Below.drew ?_ | refine x3_below_end ?_ (by assumption) | refine x3_ball ?_ _)⟩
  by_cases h3 : l ≤ cc
  case neg =>
    have HH : Hid (H = false) := by show _ = _; rw [← HH0]; simp [Wpl.hasA]; intros; first | contradiction | omega
    subst h0
    have g3 : decide (l ≤ cc) = false := by simpa using h3
    clear HH0 R
    go_enter Tryd.func20, Tryd.ntmps20
    go_wp2
    go_ret
    exact ⟨by rw [HH.out]; rfl, by with_reducible repeat (first | exact Below.refl _ _ | refine x3_below_drewN ?_ _ | refine Below.setCell ?_ (by first | (simp; done) | (simp; omega) | omega) _ | refine Below.drew ?_ | refine x3_below_end ?_ (by assumption) | refine x3_ball ?_ _)⟩
  by_cases h4 : cc ≤ r
  case neg =>
    have HH : Hid (H = false) := by show _ = _; rw [← HH0]; simp [Wpl.hasA]; intros; first | contradiction | omega
    subst h0
    have g4 : decide (cc ≤ r) = false := by simpa using h4
    clear HH0 R
    go_enter Tryd.func20, Tryd.ntmps20
    go_wp2
    go_ret
    exact ⟨by rw [HH.out]; rfl, by with_reducible repeat (first | exact Below.refl _ _ | refine x3_below_drewN ?_ _ | refine Below.setCell ?_ (by first | (simp; done) | (simp; omega) | omega) _ | refine Below.drew ?_ | refine x3_below_end ?_ (by assumption) | refine x3_ball ?_ _)⟩
  have HH : Hid (H = Wpl.rightA s t l b r) := by show _ = _; rw [← HH0]; simp [Wpl.hasA, h0, h1, h2, h3, h4]
  subst h0
  clear HH0
  go_enter Tryd.func20, Tryd.ntmps20
  go_wp2_with fail
  refine (R _).mono ?_
  rintro e w1 ⟨rfl, hb1⟩
  go_wp2
  go_ret
  exact ⟨by rw [HH.out]; rfl, by with_reducible repeat (first | exact Below.refl _ _ | refine x3_below_drewN ?_ _ | refine Below.setCell ?_ (by first | (simp; done) | (simp; omega) | omega) _ | refine Below.drew ?_ | refine x3_below_end ?_ (by assumption) | refine x3_ball ?_ _)⟩
end Go.Proofs.YtdjhegmkmopnfabDoor
