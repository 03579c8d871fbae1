/- PlaceThere: there and back. -/
import Derived.Test.YtdjhegmkmopnfabDoorPWalkT
import Derived.Test.YtdjhegmkmopnfabDoorPWalkF
namespace Go.Proofs.YtdjhegmkmopnfabDoor
open Go.RowKit
set_option linter.unusedVariables false

set_option maxHeartbeats 1600000 in
theorem there_main (s r c x y m : Int) (w : World) :
    Calls Tryd.prog 8 #[.agg #[.int .i64 s, .int .i64 r, .int .i64 c], .int .i64 x, .int .i64 y, .int .i64 m] w fun e w' => e = .returned (.bool true) ∧ Below w.heap.size w w' := by
  have S1 := fun w => shift_any s r c x y w
  cases ok : Wpl.shiftOk s r c x y with
  | false =>
    have e1 : Wpl.shiftV s r c x y = ⟨0, 0, 0⟩ := by unfold Wpl.shiftV; rw [ok]; rfl
    rw [ok, e1] at S1
    clear e1 ok
    go_enter Tryd.func8, Tryd.ntmps8
    go_wp2_with fail
    refine (x3_able_any _).mono ?_
    rintro e w1 ⟨rfl, hb1⟩
    have pc : AtL w1 w.heap.size [.int .i64 s, .int .i64 r, .int .i64 c] := AtL.below hb1 (AtL.new0 w 23 _)
    obtain ⟨c0, c1, c2, _, _, _⟩ := pc.three
    go_wp2_with fail
    refine (S1 _).mono ?_
    rintro e w2 ⟨rfl, hb2⟩
    go_wp2
    go_ret
    exact ⟨rfl, by with_reducible repeat (first | exact Below.refl _ _ | refine x3_below_drewN ?_ _ | refine Below.setCell ?_ (by first | (simp; done) | (simp; omega) | omega) _ | refine Below.drew ?_ | refine x3_below_end ?_ (by assumption) | refine x3_ball ?_ _)⟩
  | true =>
    have hh : Wpl.rightC s r c = true ∧ Wpl.inB (r + x) 65536 = true ∧ Wpl.inB (c + y) 256 = true := by
      unfold Wpl.shiftOk at ok; rw [Bool.and_eq_true, Bool.and_eq_true] at ok; exact ok
    have e1 : Wpl.shiftV s r c x y = ⟨s, r + x, c + y⟩ := by unfold Wpl.shiftV; rw [ok]; rfl
    rw [ok, e1] at S1
    clear e1 ok
    obtain ⟨h1, h2, h3⟩ := hh
    have g1 := Wpl.rightC_iff.1 h1
    have g2 := Wpl.inB_iff.1 h2
    have g3 := Wpl.inB_iff.1 h3
    have hr : Wpl.rightC s (r + x) (c + y) = true := by rw [Wpl.rightC_iff]; omega
    have RR := fun w => x3_right_any s (r + x) (c + y) w
    rw [hr] at RR
    have S2 := fun w => shift_any s (r + x) (c + y) (-x) (-y) w
    have k2 : Wpl.shiftOk s (r + x) (c + y) (-x) (-y) = true := by
      unfold Wpl.shiftOk; rw [hr, Wpl.inB_iff.2 (by omega), Wpl.inB_iff.2 (by omega)]; rfl
    have v2 : Wpl.shiftV s (r + x) (c + y) (-x) (-y) = ⟨s, r, c⟩ := by
      unfold Wpl.shiftV; rw [k2]; simp only [if_true, Wpl.Cl.mk.injEq, true_and]; omega
    rw [k2, v2] at S2
    have S3 := fun w => shift_any s (r + x) (c + y) m 0 w
    have S4 := fun w => shift_any s r c (x + m) y w
    have k3 : Wpl.shiftOk s r c (x + m) y = Wpl.shiftOk s (r + x) (c + y) m 0 := by
      unfold Wpl.shiftOk; rw [hr, h1, h3, show c + y + 0 = c + y by omega, h3, show r + (x + m) = r + x + m by omega]
    have v3 : Wpl.shiftV s r c (x + m) y = Wpl.shiftV s (r + x) (c + y) m 0 := by
      unfold Wpl.shiftV; rw [k3, show c + y + 0 = c + y by omega, show r + (x + m) = r + x + m by omega]
    have k4 : ¬ (-200000 < m ∧ m < 200000) → Wpl.shiftOk s (r + x) (c + y) m 0 = false ∧ Wpl.shiftV s (r + x) (c + y) m 0 = ⟨0, 0, 0⟩ := by
      intro hm
      have e : Wpl.shiftOk s (r + x) (c + y) m 0 = false := by
        unfold Wpl.shiftOk; rw [Wpl.inB_not.2 (show ¬ (0 ≤ r + x + m ∧ r + x + m < 65536) by omega)]; simp
      exact ⟨e, by unfold Wpl.shiftV; rw [e]; rfl⟩
    rw [k3, v3] at S4
    clear h1 h2 h3 hr k2 v2 k3 v3
    generalize Wpl.shiftOk s (r + x) (c + y) m 0 = ok3 at *
    generalize Wpl.shiftV s (r + x) (c + y) m 0 = V3 at *
    obtain ⟨u0, u1, u2⟩ := V3
    have k4' : Hid (¬ (-200000 < m ∧ m < 200000) → ok3 = false ∧ (⟨u0, u1, u2⟩ : Wpl.Cl) = ⟨0, 0, 0⟩) := k4
    clear k4
    go_enter Tryd.func8, Tryd.ntmps8
    go_wp2_with fail
    refine (x3_able_any _).mono ?_
    rintro e w1 ⟨rfl, hb1⟩
    have pc : AtL w1 w.heap.size [.int .i64 s, .int .i64 r, .int .i64 c] := AtL.below hb1 (AtL.new0 w 23 _)
    have hB1 : Below w.heap.size w w1 := by with_reducible repeat (first | exact Below.refl _ _ | refine x3_below_drewN ?_ _ | refine Below.setCell ?_ (by first | (simp; done) | (simp; omega) | omega) _ | refine Below.drew ?_ | refine x3_below_end ?_ (by assumption) | refine x3_ball ?_ _)
    clear hb1
    obtain ⟨c0, c1, c2, _, _, _⟩ := pc.three
    go_wp2_with fail
    refine (S1 _).mono ?_
    rintro e w2 ⟨rfl, hb2⟩
    replace pc := AtL.below hb2 pc
    have hB2 := x3_below_end hB1 hb2
    clear hb2 hB1 c0 c1 c2
    obtain ⟨c0, c1, c2, _, _, _⟩ := pc.three
    have l0 := pc.lt
    go_wp2_with fail
    refine (RR _).mono ?_
    rintro e w3 ⟨rfl, hb3⟩
    replace pc := AtL.below hb3 (AtL.alloc pc _)
    have px : AtL w3 w2.heap.size [.int .i64 s, .int .i64 (r + x), .int .i64 (c + y)] := AtL.below hb3 (AtL.new0 w2 _ _)
    have hB3 := x3_below_end (x3_ball hB2 _) hb3
    clear hb3 hB2 c0 c1 c2 l0
    obtain ⟨c0, c1, c2, _, _, _⟩ := pc.three
    obtain ⟨x0, x1, x2, _, _, _⟩ := px.three
    generalize w2.heap.size = kx at *
    go_wp2_with fail
    refine (S2 _).mono ?_
    rintro e w4 ⟨rfl, hb4⟩
    replace pc := AtL.below hb4 pc
    replace px := AtL.below hb4 px
    have hB4 := x3_below_end hB3 hb4
    clear hb4 hB3 c0 c1 c2 x0 x1 x2
    obtain ⟨c0, c1, c2, _, _, _⟩ := pc.three
    obtain ⟨x0, x1, x2, _, _, _⟩ := px.three
    have l1 := pc.lt
    have l2 := px.lt
    go_wp2_with fail
    refine (S3 _).mono ?_
    rintro e w5 ⟨rfl, hb5⟩
    replace pc := AtL.below hb5 (AtL.alloc pc _)
    replace px := AtL.below hb5 (AtL.alloc px _)
    have py : AtL w5 w4.heap.size [.int .i64 s, .int .i64 r, .int .i64 c] := AtL.below hb5 (AtL.new0 w4 _ _)
    have hB5 := x3_below_end (x3_ball hB4 _) hb5
    clear hb5 hB4 c0 c1 c2 x0 x1 x2 l1 l2
    generalize w4.heap.size = ky at *
    obtain ⟨c0, c1, c2, _, _, _⟩ := pc.three
    obtain ⟨y0, y1, y2, _, _, _⟩ := py.three
    have l1 := pc.lt
    have l2 := py.lt
    by_cases hm : -200000 < m ∧ m < 200000
    · obtain ⟨m1, m2⟩ := hm
      clear k4' 
      go_wp2_with fail
      refine (S4 _).mono ?_
      rintro e w6 ⟨rfl, hb6⟩
      replace pc := AtL.below hb6 ((AtL.alloc pc _).alloc _)
      replace py := AtL.below hb6 ((AtL.alloc py _).alloc _)
      have pz : AtL w6 w5.heap.size [.int .i64 u0, .int .i64 u1, .int .i64 u2] := AtL.below hb6 ((AtL.new0 w5 _ _).alloc _)
      have pw : AtL w6 (w5.heap.size + 1) [.int .i64 0, .int .i64 0, .int .i64 0] := AtL.below hb6 (AtL.new1 w5 _ _ _)
      have hB6 := x3_below_end (x3_ball (x3_ball hB5 _) _) hb6
      clear hb6 hB5 c0 c1 c2 y0 y1 y2
      generalize w5.heap.size = kz at *
      obtain ⟨c0, c1, c2, _, _, _⟩ := pc.three
      obtain ⟨y0, y1, y2, _, _, _⟩ := py.three
      obtain ⟨z0, z1, z2, _, _, _⟩ := pz.three
      obtain ⟨q0, q1, q2, f0, f1, f2⟩ := pw.three
      have n1 : ¬ w.heap.size = kz + 1 := by omega
      have n2 : ¬ ky = kz + 1 := by omega
      go_wp2
      go_ret
      refine ⟨by simp, ?_⟩
      exact put3_below hB6 (by omega) _ _ _
    · obtain ⟨rfl, hv⟩ := k4'.out hm
      simp only [Wpl.Cl.mk.injEq] at hv
      obtain ⟨rfl, rfl, rfl⟩ := hv
      clear k4'
      by_cases m1 : -200000 < m
      · have m2 : ¬ m < 200000 := by omega
        go_wp2
        go_ret
        refine ⟨by simp, ?_⟩
        exact x3_ball (x3_ball hB5 _) _
      · go_wp2
        go_ret
        refine ⟨by simp, ?_⟩
        exact x3_ball (x3_ball hB5 _) _
end Go.Proofs.YtdjhegmkmopnfabDoor
