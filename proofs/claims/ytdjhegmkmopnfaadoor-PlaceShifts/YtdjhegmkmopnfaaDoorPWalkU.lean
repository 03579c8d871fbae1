/- The contract of the document's Shift. -/
import Derived.Test.YtdjhegmkmopnfaaDoorPWalkS
namespace Go.Proofs.YtdjhegmkmopnfaaDoor
open Go.RowKit
set_option linter.unusedVariables false

set_option maxHeartbeats 800000 in
theorem rshift_any (s r c x y : Int) (w : World) :
    Calls Tryd.prog 39 #[.agg #[.int .i64 s, .int .i64 r, .int .i64 c], .int .i64 x, .int .i64 y] w fun e w' => e = .returned (.tuple #[.agg #[.int .i64 (Wpl.shiftV s r c x y).s, .int .i64 (Wpl.shiftV s r c x y).r, .int .i64 (Wpl.shiftV s r c x y).c], .bool (Wpl.shiftOk s r c x y)]) ∧ Below w.heap.size w w' := by
  have R := fun w => x3_rright_any s r c w
  cases h1 : Wpl.rightC s r c with
  | false =>
    have e1 : Hid (Wpl.shiftOk s r c x y = false) := by show _ = _; unfold Wpl.shiftOk; rw [h1]; rfl
    have e2 : Hid (Wpl.shiftV s r c x y = ⟨0, 0, 0⟩) := by show _ = _; unfold Wpl.shiftV; rw [e1.out]; rfl
    rw [h1] at R; clear h1
    go_enter Tryd.func39, Tryd.ntmps39
    go_wp2_with fail
    refine (R _).mono ?_
    rintro e w1 ⟨rfl, hb1⟩
    have pC : AtL w1 (w.heap.size + 1) [.int .i64 0, .int .i64 0, .int .i64 0] := AtL.below hb1 (AtL.new1 w _ 23 _)
    have hB : Below w.heap.size w w1 := by with_reducible repeat (first | exact Below.refl _ _ | refine x3_below_drewN ?_ _ | refine Below.setCell ?_ (by first | (simp; done) | (simp; omega) | omega) _ | refine Below.drew ?_ | refine x3_below_end ?_ (by assumption) | refine x3_ball ?_ _)
    clear hb1
    obtain ⟨c0, c1, c2, f0, f1, f2⟩ := pC.three
    go_wp2
    refine bodyPost_ret (v := .tuple #[.agg #[.int .i64 0, .int .i64 0, .int .i64 0], .bool false]) (by simp [results, Tryd.results39, go_sem, c0, c1, c2]) rfl ⟨by rw [e1.out, e2.out], ?_⟩
    exact put3_below hB (by omega) _ _ _
  | true =>
    have hh := Wpl.rightC_iff.1 h1
    rw [h1] at R
    have e0 : Hid (Wpl.shiftOk s r c x y = (Wpl.inB (r + x) 65536 && Wpl.inB (c + y) 256)) := by show _ = _; unfold Wpl.shiftOk; rw [h1]; rfl
    clear h1
    by_cases k118 : x < -65536
    · have e1 : Hid (Wpl.shiftOk s r c x y = false) := by show _ = _; rw [e0.out, Bool.and_eq_false_iff, Wpl.inB_not, Wpl.inB_not]; omega
      have e2 : Hid (Wpl.shiftV s r c x y = ⟨0, 0, 0⟩) := by show _ = _; unfold Wpl.shiftV; rw [e1.out]; rfl
      clear e0
      go_enter Tryd.func39, Tryd.ntmps39
      go_wp2_with fail
      refine (R _).mono ?_
      rintro e w1 ⟨rfl, hb1⟩
      have pA : AtL w1 w.heap.size [.int .i64 s, .int .i64 r, .int .i64 c] := AtL.below hb1 ((AtL.new0 w 23 _).alloc _)
      have pC : AtL w1 (w.heap.size + 1) [.int .i64 0, .int .i64 0, .int .i64 0] := AtL.below hb1 (AtL.new1 w _ 23 _)
      have hB : Below w.heap.size w w1 := by with_reducible repeat (first | exact Below.refl _ _ | refine x3_below_drewN ?_ _ | refine Below.setCell ?_ (by first | (simp; done) | (simp; omega) | omega) _ | refine Below.drew ?_ | refine x3_below_end ?_ (by assumption) | refine x3_ball ?_ _)
      clear hb1
      obtain ⟨c0, c1, c2, f0, f1, f2⟩ := pC.three
      obtain ⟨a0, a1, a2, g0, g1, g2⟩ := pA.three
      go_wp2
      refine bodyPost_ret (v := .tuple #[.agg #[.int .i64 0, .int .i64 0, .int .i64 0], .bool false]) (by simp [results, Tryd.results39, go_sem, c0, c1, c2]) rfl ⟨by rw [e1.out, e2.out], ?_⟩
      exact put3_below hB (by omega) _ _ _
    by_cases k271 : 65536 < x
    · have e1 : Hid (Wpl.shiftOk s r c x y = false) := by show _ = _; rw [e0.out, Bool.and_eq_false_iff, Wpl.inB_not, Wpl.inB_not]; omega
      have e2 : Hid (Wpl.shiftV s r c x y = ⟨0, 0, 0⟩) := by show _ = _; unfold Wpl.shiftV; rw [e1.out]; rfl
      clear e0
      go_enter Tryd.func39, Tryd.ntmps39
      go_wp2_with fail
      refine (R _).mono ?_
      rintro e w1 ⟨rfl, hb1⟩
      have pA : AtL w1 w.heap.size [.int .i64 s, .int .i64 r, .int .i64 c] := AtL.below hb1 ((AtL.new0 w 23 _).alloc _)
      have pC : AtL w1 (w.heap.size + 1) [.int .i64 0, .int .i64 0, .int .i64 0] := AtL.below hb1 (AtL.new1 w _ 23 _)
      have hB : Below w.heap.size w w1 := by with_reducible repeat (first | exact Below.refl _ _ | refine x3_below_drewN ?_ _ | refine Below.setCell ?_ (by first | (simp; done) | (simp; omega) | omega) _ | refine Below.drew ?_ | refine x3_below_end ?_ (by assumption) | refine x3_ball ?_ _)
      clear hb1
      obtain ⟨c0, c1, c2, f0, f1, f2⟩ := pC.three
      obtain ⟨a0, a1, a2, g0, g1, g2⟩ := pA.three
      go_wp2
      refine bodyPost_ret (v := .tuple #[.agg #[.int .i64 0, .int .i64 0, .int .i64 0], .bool false]) (by simp [results, Tryd.results39, go_sem, c0, c1, c2]) rfl ⟨by rw [e1.out, e2.out], ?_⟩
      exact put3_below hB (by omega) _ _ _
    by_cases k139 : y < -256
    · have e1 : Hid (Wpl.shiftOk s r c x y = false) := by show _ = _; rw [e0.out, Bool.and_eq_false_iff, Wpl.inB_not, Wpl.inB_not]; omega
      have e2 : Hid (Wpl.shiftV s r c x y = ⟨0, 0, 0⟩) := by show _ = _; unfold Wpl.shiftV; rw [e1.out]; rfl
      clear e0
      go_enter Tryd.func39, Tryd.ntmps39
      go_wp2_with fail
      refine (R _).mono ?_
      rintro e w1 ⟨rfl, hb1⟩
      have pA : AtL w1 w.heap.size [.int .i64 s, .int .i64 r, .int .i64 c] := AtL.below hb1 ((AtL.new0 w 23 _).alloc _)
      have pC : AtL w1 (w.heap.size + 1) [.int .i64 0, .int .i64 0, .int .i64 0] := AtL.below hb1 (AtL.new1 w _ 23 _)
      have hB : Below w.heap.size w w1 := by with_reducible repeat (first | exact Below.refl _ _ | refine x3_below_drewN ?_ _ | refine Below.setCell ?_ (by first | (simp; done) | (simp; omega) | omega) _ | refine Below.drew ?_ | refine x3_below_end ?_ (by assumption) | refine x3_ball ?_ _)
      clear hb1
      obtain ⟨c0, c1, c2, f0, f1, f2⟩ := pC.three
      obtain ⟨a0, a1, a2, g0, g1, g2⟩ := pA.three
      go_wp2
      refine bodyPost_ret (v := .tuple #[.agg #[.int .i64 0, .int .i64 0, .int .i64 0], .bool false]) (by simp [results, Tryd.results39, go_sem, c0, c1, c2]) rfl ⟨by rw [e1.out, e2.out], ?_⟩
      exact put3_below hB (by omega) _ _ _
    by_cases k895 : 256 < y
    · have e1 : Hid (Wpl.shiftOk s r c x y = false) := by show _ = _; rw [e0.out, Bool.and_eq_false_iff, Wpl.inB_not, Wpl.inB_not]; omega
      have e2 : Hid (Wpl.shiftV s r c x y = ⟨0, 0, 0⟩) := by show _ = _; unfold Wpl.shiftV; rw [e1.out]; rfl
      clear e0
      go_enter Tryd.func39, Tryd.ntmps39
      go_wp2_with fail
      refine (R _).mono ?_
      rintro e w1 ⟨rfl, hb1⟩
      have pA : AtL w1 w.heap.size [.int .i64 s, .int .i64 r, .int .i64 c] := AtL.below hb1 ((AtL.new0 w 23 _).alloc _)
      have pC : AtL w1 (w.heap.size + 1) [.int .i64 0, .int .i64 0, .int .i64 0] := AtL.below hb1 (AtL.new1 w _ 23 _)
      have hB : Below w.heap.size w w1 := by with_reducible repeat (first | exact Below.refl _ _ | refine x3_below_drewN ?_ _ | refine Below.setCell ?_ (by first | (simp; done) | (simp; omega) | omega) _ | refine Below.drew ?_ | refine x3_below_end ?_ (by assumption) | refine x3_ball ?_ _)
      clear hb1
      obtain ⟨c0, c1, c2, f0, f1, f2⟩ := pC.three
      obtain ⟨a0, a1, a2, g0, g1, g2⟩ := pA.three
      go_wp2
      refine bodyPost_ret (v := .tuple #[.agg #[.int .i64 0, .int .i64 0, .int .i64 0], .bool false]) (by simp [results, Tryd.results39, go_sem, c0, c1, c2]) rfl ⟨by rw [e1.out, e2.out], ?_⟩
      exact put3_below hB (by omega) _ _ _
    have R2 := fun w => x3_rright_any s (r + x) (c + y) w
    have e3 : Hid (Wpl.rightC s (r + x) (c + y) = Wpl.shiftOk s r c x y) := by
      show _ = _
      rw [e0.out]; unfold Wpl.rightC; rw [Wpl.inB_iff.2 (show 0 ≤ s ∧ s < 16 by omega)]; rfl
    have e4 : Hid (Wpl.shiftV s r c x y = if Wpl.shiftOk s r c x y then ⟨s, r + x, c + y⟩ else ⟨0, 0, 0⟩) := (rfl : Wpl.shiftV s r c x y = if Wpl.shiftOk s r c x y then ⟨s, r + x, c + y⟩ else ⟨0, 0, 0⟩)
    rw [e3.out] at R2
    clear e0 e3
    generalize Wpl.shiftOk s r c x y = ok at *
    generalize Wpl.shiftV s r c x y = V at *
    go_enter Tryd.func39, Tryd.ntmps39
    go_wp2_with fail
    refine (R _).mono ?_
    rintro e w1 ⟨rfl, hb1⟩
    have pA : AtL w1 w.heap.size [.int .i64 s, .int .i64 r, .int .i64 c] := AtL.below hb1 ((AtL.new0 w 23 _).alloc _)
    have pC : AtL w1 (w.heap.size + 1) [.int .i64 0, .int .i64 0, .int .i64 0] := AtL.below hb1 (AtL.new1 w _ 23 _)
    have hB : Below w.heap.size w w1 := by with_reducible repeat (first | exact Below.refl _ _ | refine x3_below_drewN ?_ _ | refine Below.setCell ?_ (by first | (simp; done) | (simp; omega) | omega) _ | refine Below.drew ?_ | refine x3_below_end ?_ (by assumption) | refine x3_ball ?_ _)
    clear hb1
    obtain ⟨c0, c1, c2, f0, f1, f2⟩ := pC.three
    obtain ⟨a0, a1, a2, g0, g1, g2⟩ := pA.three
    go_wp2_with fail
    refine (R2 _).mono ?_
    rintro e w2 ⟨rfl, hb2⟩
    have sA := (pA.set 1 (.int .i64 (r + x))).set 2 (.int .i64 (c + y))
    have sC := (pC.far (j := w.heap.size) (by omega) 1 (.int .i64 (r + x))).far (j := w.heap.size) (by omega) 2 (.int .i64 (c + y))
    have sB := (hB.setCell (p := ⟨w.heap.size, 1, none⟩) (Nat.le_refl _) (.int .i64 (r + x))).setCell (p := ⟨w.heap.size, 2, none⟩) (Nat.le_refl _) (.int .i64 (c + y))
    have tA : AtL w2 w.heap.size [.int .i64 s, .int .i64 (r + x), .int .i64 (c + y)] := AtL.below hb2 sA
    have tC := AtL.below hb2 sC
    have tB := x3_below_end sB hb2
    clear hb2 sA sC sB pA pC hB c0 c1 c2 f0 f1 f2 a0 a1 a2 g0 g1 g2
    obtain ⟨c0, c1, c2, f0, f1, f2⟩ := tC.three
    obtain ⟨a0, a1, a2, g0, g1, g2⟩ := tA.three
    cases ok with
    | false =>
      go_wp2
      refine bodyPost_ret (v := .tuple #[.agg #[.int .i64 0, .int .i64 0, .int .i64 0], .bool false]) (by simp [results, Tryd.results39, go_sem, c0, c1, c2]) rfl ⟨by rw [e4.out]; rfl, ?_⟩
      exact put3_below tB (by omega) _ _ _
    | true =>
      go_wp2
      refine bodyPost_ret (v := .tuple #[.agg #[.int .i64 s, .int .i64 (r + x), .int .i64 (c + y)], .bool true]) (by simp [results, Tryd.results39, go_sem, c0, c1, c2]) rfl ⟨by rw [e4.out]; rfl, ?_⟩
      exact put3_below tB (by omega) _ _ _
end Go.Proofs.YtdjhegmkmopnfaaDoor
