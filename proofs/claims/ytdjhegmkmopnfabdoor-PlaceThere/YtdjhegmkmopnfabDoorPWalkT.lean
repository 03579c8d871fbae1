/- The contract of Shift. -/
import Derived.Test.YtdjhegmkmopnfabDoorPWalkC
namespace Go.Proofs.YtdjhegmkmopnfabDoor
open Go.RowKit
set_option linter.unusedVariables false

set_option maxHeartbeats 800000 in
theorem shift_any (s r c x y : Int) (w : World) :
    Calls Tryd.prog 24 #[.agg #[.int .i64 s, .int .i64 r, .int .i64 c], .int .i64 x, .int .i64 y] w fun e w' => e = .returned (.tuple #[.agg #[.int .i64 (Wpl.shiftV s r c x y).s, .int .i64 (Wpl.shiftV s r c x y).r, .int .i64 (Wpl.shiftV s r c x y).c], .bool (Wpl.shiftOk s r c x y)]) ∧ Below w.heap.size w w' := by
  have R := fun w => x3_right_any s r c w
  cases h1 : Wpl.rightC s r c with
  | false =>
    have e1 : Hid (Wpl.shiftOk s r c x y = false) := by show _ = _; unfold Wpl.shiftOk; rw [h1]; rfl
    have e2 : Hid (Wpl.shiftV s r c x y = ⟨0, 0, 0⟩) := by show _ = _; unfold Wpl.shiftV; rw [e1.out]; rfl
    rw [h1] at R; clear h1
    go_enter Tryd.func24, Tryd.ntmps24
    go_wp2_with fail
    refine (R _).mono ?_
    rintro e w1 ⟨rfl, hb1⟩
    have pC : AtL w1 (w.heap.size + 1) [.int .i64 0, .int .i64 0, .int .i64 0] := AtL.below hb1 (AtL.new1 w _ 23 _)
    have hB : Below w.heap.size w w1 := by with_reducible repeat (first | exact Below.refl _ _ | refine x3_below_drewN ?_ _ | refine Below.setCell ?_ (by first | (simp; done) | (simp; omega) | omega) _ | refine Below.drew ?_ | refine x3_below_end ?_ (by assumption) | refine x3_ball ?_ _)
    clear hb1
    obtain ⟨c0, c1, c2, f0, f1, f2⟩ := pC.three
    go_wp2
    refine bodyPost_ret (v := .tuple #[.agg #[.int .i64 0, .int .i64 0, .int .i64 0], .bool false]) (by simp [results, Tryd.results24, go_sem, c0, c1, c2]) rfl ⟨by rw [e1.out, e2.out], ?_⟩
    exact put3_below hB (by omega) _ _ _
  | true =>
    have hh := Wpl.rightC_iff.1 h1
    rw [h1] at R
    have S1 := fun w => stays_any r x 65536 w (by omega) (by omega) (by omega)
    have S2 := fun w => stays_any c y 256 w (by omega) (by omega) (by omega)
    have e0 : Hid (Wpl.shiftOk s r c x y = (Wpl.inB (r + x) 65536 && Wpl.inB (c + y) 256)) := by show _ = _; unfold Wpl.shiftOk; rw [h1]; rfl
    clear h1
    cases h2 : Wpl.inB (r + x) 65536 with
    | false =>
      have e1 : Hid (Wpl.shiftOk s r c x y = false) := by show _ = _; rw [e0.out, h2]; rfl
      have e2 : Hid (Wpl.shiftV s r c x y = ⟨0, 0, 0⟩) := by show _ = _; unfold Wpl.shiftV; rw [e1.out]; rfl
      rw [h2] at S1; clear h2 e0
      go_enter Tryd.func24, Tryd.ntmps24
      go_wp2_with fail
      refine (R _).mono ?_
      rintro e w1 ⟨rfl, hb1⟩
      have pA : AtL w1 w.heap.size [.int .i64 s, .int .i64 r, .int .i64 c] := AtL.below hb1 ((AtL.new0 w 23 _).alloc _)
      have pC : AtL w1 (w.heap.size + 1) [.int .i64 0, .int .i64 0, .int .i64 0] := AtL.below hb1 (AtL.new1 w _ 23 _)
      have hB : Below w.heap.size w w1 := by with_reducible repeat (first | exact Below.refl _ _ | refine x3_below_drewN ?_ _ | refine Below.setCell ?_ (by first | (simp; done) | (simp; omega) | omega) _ | refine Below.drew ?_ | refine x3_below_end ?_ (by assumption) | refine x3_ball ?_ _)
      clear hb1
      obtain ⟨c0, c1, c2, f0, f1, f2⟩ := pC.three
      obtain ⟨a0, a1, a2, g0, g1, g2⟩ := pA.three
      go_wp2_with fail
      refine (S1 _).mono ?_
      rintro e w2 ⟨rfl, rfl⟩
      go_wp2
      refine bodyPost_ret (v := .tuple #[.agg #[.int .i64 0, .int .i64 0, .int .i64 0], .bool false]) (by simp [results, Tryd.results24, go_sem, c0, c1, c2]) rfl ⟨by rw [e1.out, e2.out], ?_⟩
      exact put3_below hB (by omega) _ _ _
    | true =>
      rw [h2] at S1
      cases h3 : Wpl.inB (c + y) 256 with
      | false =>
        have e1 : Hid (Wpl.shiftOk s r c x y = false) := by show _ = _; rw [e0.out, h2, h3]; rfl
        have e2 : Hid (Wpl.shiftV s r c x y = ⟨0, 0, 0⟩) := by show _ = _; unfold Wpl.shiftV; rw [e1.out]; rfl
        rw [h3] at S2; clear h2 h3 e0
        go_enter Tryd.func24, Tryd.ntmps24
        go_wp2_with fail
        refine (R _).mono ?_
        rintro e w1 ⟨rfl, hb1⟩
        have pA : AtL w1 w.heap.size [.int .i64 s, .int .i64 r, .int .i64 c] := AtL.below hb1 ((AtL.new0 w 23 _).alloc _)
        have pC : AtL w1 (w.heap.size + 1) [.int .i64 0, .int .i64 0, .int .i64 0] := AtL.below hb1 (AtL.new1 w _ 23 _)
        have hB : Below w.heap.size w w1 := by with_reducible repeat (first | exact Below.refl _ _ | refine x3_below_drewN ?_ _ | refine Below.setCell ?_ (by first | (simp; done) | (simp; omega) | omega) _ | refine Below.drew ?_ | refine x3_below_end ?_ (by assumption) | refine x3_ball ?_ _)
        clear hb1
        obtain ⟨c0, c1, c2, f0, f1, f2⟩ := pC.three
        obtain ⟨a0, a1, a2, g0, g1, g2⟩ := pA.three
        go_wp2_with fail
        refine (S1 _).mono ?_
        rintro e w2 ⟨rfl, rfl⟩
        go_wp2_with fail
        refine (S2 _).mono ?_
        rintro e w2 ⟨rfl, rfl⟩
        go_wp2
        refine bodyPost_ret (v := .tuple #[.agg #[.int .i64 0, .int .i64 0, .int .i64 0], .bool false]) (by simp [results, Tryd.results24, go_sem, c0, c1, c2]) rfl ⟨by rw [e1.out, e2.out], ?_⟩
        exact put3_below hB (by omega) _ _ _
      | true =>
        have e1 : Hid (Wpl.shiftOk s r c x y = true) := by show _ = _; rw [e0.out, h2, h3]; rfl
        have e2 : Hid (Wpl.shiftV s r c x y = ⟨s, r + x, c + y⟩) := by show _ = _; unfold Wpl.shiftV; rw [e1.out]; rfl
        have b2 := Wpl.inB_iff.1 h2
        have b3 := Wpl.inB_iff.1 h3
        rw [h3] at S2; clear h2 h3 e0
        go_enter Tryd.func24, Tryd.ntmps24
        go_wp2_with fail
        refine (R _).mono ?_
        rintro e w1 ⟨rfl, hb1⟩
        have pA : AtL w1 w.heap.size [.int .i64 s, .int .i64 r, .int .i64 c] := AtL.below hb1 ((AtL.new0 w 23 _).alloc _)
        have pC : AtL w1 (w.heap.size + 1) [.int .i64 0, .int .i64 0, .int .i64 0] := AtL.below hb1 (AtL.new1 w _ 23 _)
        have hB : Below w.heap.size w w1 := by with_reducible repeat (first | exact Below.refl _ _ | refine x3_below_drewN ?_ _ | refine Below.setCell ?_ (by first | (simp; done) | (simp; omega) | omega) _ | refine Below.drew ?_ | refine x3_below_end ?_ (by assumption) | refine x3_ball ?_ _)
        clear hb1
        obtain ⟨c0, c1, c2, f0, f1, f2⟩ := pC.three
        obtain ⟨a0, a1, a2, g0, g1, g2⟩ := pA.three
        go_wp2_with fail
        refine (S1 _).mono ?_
        rintro e w2 ⟨rfl, rfl⟩
        go_wp2_with fail
        refine (S2 _).mono ?_
        rintro e w2 ⟨rfl, rfl⟩
        have hne : ¬ w.heap.size = w.heap.size + 1 := by omega
        go_wp2
        refine bodyPost_ret (v := .tuple #[.agg #[.int .i64 s, .int .i64 (r + x), .int .i64 (c + y)], .bool true]) (by simp [results, Tryd.results24, go_sem, c0, c1, c2]) rfl ⟨by rw [e1.out, e2.out], ?_⟩
        with_reducible exact put3_below ((hB.setCell (p := ⟨w.heap.size, 1, none⟩) (Nat.le_refl _) _).setCell (p := ⟨w.heap.size, 2, none⟩) (Nat.le_refl _) _) (by omega) _ _ _
end Go.Proofs.YtdjhegmkmopnfabDoor
