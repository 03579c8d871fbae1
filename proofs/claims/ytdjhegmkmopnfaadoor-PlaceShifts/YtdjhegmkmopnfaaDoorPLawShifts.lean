/- PlaceShifts: Shift by any numbers, Before of any cells, against the document's own. -/
import Derived.Test.YtdjhegmkmopnfaaDoorPWalkT
import Derived.Test.YtdjhegmkmopnfaaDoorPWalkU
import Derived.Test.YtdjhegmkmopnfaaDoorPWalkF
namespace Go.Proofs.YtdjhegmkmopnfaaDoor
open Go.RowKit
set_option linter.unusedVariables false

abbrev ShS (ka kb kx ky : Nat) (s0 r0 c0 s1 r1 c1 v0 v1 v2 : Int) (W : World) : Prop :=
  W.cell? ⟨ka, 0, none⟩ = some (.int .i64 s0) ∧ W.cell? ⟨ka, 1, none⟩ = some (.int .i64 r0) ∧ W.cell? ⟨ka, 2, none⟩ = some (.int .i64 c0) ∧ W.cell? ⟨kb, 0, none⟩ = some (.int .i64 s1) ∧ W.cell? ⟨kb, 1, none⟩ = some (.int .i64 r1) ∧ W.cell? ⟨kb, 2, none⟩ = some (.int .i64 c1) ∧ W.cell? ⟨kx, 0, none⟩ = some (.int .i64 v0) ∧ W.cell? ⟨kx, 1, none⟩ = some (.int .i64 v1) ∧ W.cell? ⟨kx, 2, none⟩ = some (.int .i64 v2) ∧ W.cell? ⟨ky, 0, none⟩ = some (.int .i64 v0) ∧ W.cell? ⟨ky, 1, none⟩ = some (.int .i64 v1) ∧ W.cell? ⟨ky, 2, none⟩ = some (.int .i64 v2)
theorem ShS_below {ka kb kx ky : Nat} {s0 r0 c0 s1 r1 c1 v0 v1 v2 : Int} {W W' : World} (hb : Below W.heap.size W W') (h : ShS ka kb kx ky  s0 r0 c0 s1 r1 c1 v0 v1 v2  W) : ShS ka kb kx ky  s0 r0 c0 s1 r1 c1 v0 v1 v2  W' :=
  ⟨cell_below hb (h.1), cell_below hb (h.2.1), cell_below hb (h.2.2.1), cell_below hb (h.2.2.2.1), cell_below hb (h.2.2.2.2.1), cell_below hb (h.2.2.2.2.2.1), cell_below hb (h.2.2.2.2.2.2.1), cell_below hb (h.2.2.2.2.2.2.2.1), cell_below hb (h.2.2.2.2.2.2.2.2.1), cell_below hb (h.2.2.2.2.2.2.2.2.2.1), cell_below hb (h.2.2.2.2.2.2.2.2.2.2.1), cell_below hb (h.2.2.2.2.2.2.2.2.2.2.2)⟩
theorem ShS_drew {ka kb kx ky : Nat} {s0 r0 c0 s1 r1 c1 v0 v1 v2 : Int} {W : World} (h : ShS ka kb kx ky  s0 r0 c0 s1 r1 c1 v0 v1 v2  W) : ShS ka kb kx ky  s0 r0 c0 s1 r1 c1 v0 v1 v2  W.drew := ShS_below (Below.refl _ _).drew h
theorem ShS_alloc {ka kb kx ky : Nat} {s0 r0 c0 s1 r1 c1 v0 v1 v2 : Int} {W : World} (h : ShS ka kb kx ky  s0 r0 c0 s1 r1 c1 v0 v1 v2  W) (o : Obj) : ShS ka kb kx ky  s0 r0 c0 s1 r1 c1 v0 v1 v2  (W.alloc o) := ShS_below ((Below.refl _ _).alloc (Nat.le_refl _) _) h

set_option maxHeartbeats 1600000 in
theorem shifts_main (s0 r0 c0 s1 r1 c1 x y : Int) (w : World) :
    Calls Tryd.prog 7 #[.agg #[.int .i64 s0, .int .i64 r0, .int .i64 c0], .agg #[.int .i64 s1, .int .i64 r1, .int .i64 c1], .int .i64 x, .int .i64 y] w fun e w' => e = .returned (.bool true) ∧ Below w.heap.size w w' := by
  have S := fun w => shift_any s0 r0 c0 x y w
  have R := fun w => rshift_any s0 r0 c0 x y w
  generalize Wpl.shiftOk s0 r0 c0 x y = ok at *
  generalize Wpl.shiftV s0 r0 c0 x y = V at *
  obtain ⟨v0, v1, v2⟩ := V
  go_enter Tryd.func7, Tryd.ntmps7
  go_wp2_with fail
  refine (S _).mono ?_
  rintro e w1 ⟨rfl, hb1⟩
  have pa : AtL w1 w.heap.size [.int .i64 s0, .int .i64 r0, .int .i64 c0] := AtL.below hb1 ((AtL.new0 w 23 _).alloc _)
  have pb : AtL w1 (w.heap.size + 1) [.int .i64 s1, .int .i64 r1, .int .i64 c1] := AtL.below hb1 (AtL.new1 w _ 23 _)
  have hB1 : Below w.heap.size w w1 := by with_reducible repeat (first | exact Below.refl _ _ | refine x3_below_drewN ?_ _ | refine Below.setCell ?_ (by first | (simp; done) | (simp; omega) | omega) _ | refine Below.drew ?_ | refine x3_below_end ?_ (by assumption) | refine x3_ball ?_ _)
  clear hb1
  obtain ⟨a0, a1, a2⟩ := pa.f3
  have l0 := pa.lt
  go_wp2_with fail
  refine (R _).mono ?_
  rintro e w2 ⟨rfl, hb2⟩
  replace pa := AtL.below hb2 (AtL.alloc pa _)
  replace pb := AtL.below hb2 (AtL.alloc pb _)
  have px : AtL w2 w1.heap.size [.int .i64 v0, .int .i64 v1, .int .i64 v2] := AtL.below hb2 (AtL.new0 w1 _ _)
  have hB2 := x3_below_end (x3_ball hB1 _) hb2
  clear hb2 hB1 a0 a1 a2 l0
  generalize w1.heap.size = kx at *
  obtain ⟨a0, a1, a2⟩ := pa.f3
  obtain ⟨x0, x1, x2⟩ := px.f3
  have l0 := pa.lt
  have l1 := px.lt
  go_wp2_with fail
  replace pa := AtL.alloc pa (.cells #[.int .i64 v0, .int .i64 v1, .int .i64 v2] 23)
  replace pb := AtL.alloc pb (.cells #[.int .i64 v0, .int .i64 v1, .int .i64 v2] 23)
  replace px := AtL.alloc px (.cells #[.int .i64 v0, .int .i64 v1, .int .i64 v2] 23)
  have py := AtL.new0 w2 23 [.int .i64 v0, .int .i64 v1, .int .i64 v2]
  have hB3 := x3_ball hB2 (.cells #[.int .i64 v0, .int .i64 v1, .int .i64 v2] 23)
  clear hB2 a0 a1 a2 l0 x0 x1 x2 l1
  generalize w2.heap.size = ky at *
  generalize w2.alloc (.cells #[.int .i64 v0, .int .i64 v1, .int .i64 v2] 23) = w3 at *

  obtain ⟨a0, a1, a2⟩ := pa.f3
  obtain ⟨b0, b1', b2'⟩ := pb.f3
  obtain ⟨x0, x1, x2⟩ := px.f3
  obtain ⟨y0, y1, y2⟩ := py.f3
  generalize w.heap.size + 1 = kb at *
  have hS : ShS w.heap.size kb kx ky s0 r0 c0 s1 r1 c1 v0 v1 v2 w3 := ⟨a0, a1, a2, b0, b1', b2', x0, x1, x2, y0, y1, y2⟩
  clear S R pa pb px py a0 a1 a2 b0 b1' b2' x0 x1 x2 y0 y1 y2
  go_region_held3 (ShS w.heap.size kb kx ky s0 r0 c0 s1 r1 c1 v0 v1 v2)
    (with_reducible first | exact hS | assumption | exact ShS_drew hS | exact ShS_below hb (by assumption))
    (first
    | (go_at_call 9; refine (x3_able_any _).mono ?_; rintro e w4 ⟨rfl, hb⟩; have hB4 := x3_below_end hB3.drew hb)
    | (go_at_call 40; refine (before_any _ _ _ _ _ _ _).mono ?_; rintro e w4 ⟨rfl, hb⟩; replace hB4 := x3_below_end hB4 hb)
    | (go_at_call 41; refine (rbefore_any _ _ _ _ _ _ _).mono ?_; rintro e w4 ⟨rfl, hb⟩; replace hB4 := x3_below_end hB4 hb))
  all_goals
    go_wp2
    go_ret
    exact ⟨by simp, hB4⟩
end Go.Proofs.YtdjhegmkmopnfaaDoor
