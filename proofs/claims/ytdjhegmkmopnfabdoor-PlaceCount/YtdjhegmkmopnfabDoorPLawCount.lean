/- PlaceCount: At and Index undo one another, and tell the order of cells. -/
import Derived.Test.YtdjhegmkmopnfabDoorPWalkI
import Derived.Test.YtdjhegmkmopnfabDoorPWalkC
import Derived.Test.YtdjhegmkmopnfabDoorPWalkG
import Derived.Test.YtdjhegmkmopnfabDoorPWalkF
namespace Go.Proofs.YtdjhegmkmopnfabDoor
open Go.RowKit
set_option linter.unusedVariables false

set_option maxHeartbeats 3200000 in
theorem count_low_yes (s t l b r cs cr cc k iv : Int) (w : World) (h1 : Hid (Wpl.hasA s t l b r cs cr cc = true)) (h2 : Hid (Wpl.indexV s t l b r cs cr cc = iv)) (h3 : Hid (Wpl.atOk s t l b r iv = true)) (h4 : Hid (Wpl.atV s t l b r iv = ⟨cs, cr, cc⟩)) (hk : k < 0) (g1 : Hid (Wpl.atOk s t l b r k = false)) (g2 : Hid (Wpl.atV s t l b r k = ⟨0, 0, 0⟩)) :
    Calls Tryd.prog 4 #[.agg #[.int .i64 s, .int .i64 t, .int .i64 l, .int .i64 b, .int .i64 r], .int .i64 k, .agg #[.int .i64 cs, .int .i64 cr, .int .i64 cc]] w fun e w' => e = .returned (.bool true) ∧ Below w.heap.size w w' := by
  have S := fun w => x3_size_any s t l b r w
  have A1 := fun w => at_any s t l b r k w
  have J1 := fun w => pindex_any s t l b r cs cr cc w
  have H1 := fun w => has_any s t l b r cs cr cc w
  have A3 := fun w => at_any s t l b r iv w
  rw [h1.out, h2.out] at J1
  rw [h1.out] at H1
  rw [h3.out, h4.out] at A3
  clear h3 h4
  clear h1 h2
  rw [g1.out, g2.out] at A1
  clear g1 g2 S
  have hk0 : ¬ 0 ≤ k := by omega
  go_enter Tryd.func4, Tryd.ntmps4
  go_wp2_with fail
  refine (x3_able_any _).mono ?_
  rintro e w1 ⟨rfl, hb1⟩
  have pa : AtL w1 (w.heap.size) [.int .i64 s, .int .i64 t, .int .i64 l, .int .i64 b, .int .i64 r] := AtL.below hb1 ((AtL.new0 w _ _).alloc _)
  have pc : AtL w1 (w.heap.size + 1) [.int .i64 cs, .int .i64 cr, .int .i64 cc] := AtL.below hb1 (AtL.new1 w _ _ _)
  have hB1 : Below w.heap.size w w1 := by with_reducible repeat (first | exact Below.refl _ _ | refine x3_below_drewN ?_ _ | refine Below.setCell ?_ (by first | (simp; done) | (simp; omega) | omega) _ | refine Below.drew ?_ | refine x3_below_end ?_ (by assumption) | refine x3_ball ?_ _)
  clear hb1
  obtain ⟨pac0, pac1, pac2, pac3, pac4⟩ := pa.f5
  go_wp2_with fail
  refine (A1 _).mono ?_
  rintro e w2 ⟨rfl, hb2⟩
  replace pa := AtL.below hb2 pa
  replace pc := AtL.below hb2 pc
  have hB2 := x3_below_end hB1 hb2
  clear pac0 pac1 pac2 pac3 pac4
  clear hb2 hB1
  obtain ⟨pac0, pac1, pac2, pac3, pac4⟩ := pa.f5
  have lpa := pa.lt
  obtain ⟨pcc0, pcc1, pcc2⟩ := pc.f3
  have lpc := pc.lt
  go_wp2_with fail
  refine (J1 _).mono ?_
  rintro e w3 ⟨rfl, hb3⟩
  replace pa := AtL.below hb3 (AtL.alloc pa _)
  replace pc := AtL.below hb3 (AtL.alloc pc _)
  have px : AtL w3 w2.heap.size [.int .i64 0, .int .i64 0, .int .i64 0] := AtL.below hb3 (AtL.new0 w2 _ _)
  have hB3 := x3_below_end (x3_ball hB2 _) hb3
  clear pac0 pac1 pac2 pac3 pac4 lpa pcc0 pcc1 pcc2 lpc
  clear hb3 hB2
  generalize w2.heap.size = kpx at *
  obtain ⟨pac0, pac1, pac2, pac3, pac4⟩ := pa.f5
  obtain ⟨pcc0, pcc1, pcc2⟩ := pc.f3
  go_wp2_with fail
  refine (H1 _).mono ?_
  rintro e w4 ⟨rfl, hb4⟩
  replace pa := AtL.below hb4 pa
  replace pc := AtL.below hb4 pc
  replace px := AtL.below hb4 px
  have hB4 := x3_below_end hB3 hb4
  clear pac0 pac1 pac2 pac3 pac4 pcc0 pcc1 pcc2
  clear hb4 hB3
  obtain ⟨pac0, pac1, pac2, pac3, pac4⟩ := pa.f5
  go_wp2_with fail
  refine (A3 _).mono ?_
  rintro e w5 ⟨rfl, hb5⟩
  replace pa := AtL.below hb5 pa
  replace pc := AtL.below hb5 pc
  replace px := AtL.below hb5 px
  have hB5 := x3_below_end hB4 hb5
  clear pac0 pac1 pac2 pac3 pac4
  clear hb5 hB4
  obtain ⟨pcc0, pcc1, pcc2⟩ := pc.f3
  have lpc := pc.lt
  go_wp2
  go_ret
  exact ⟨by simp, x3_ball hB5 _⟩

set_option maxHeartbeats 3200000 in
theorem count_high_yes (s t l b r cs cr cc k iv : Int) (w : World) (h1 : Hid (Wpl.hasA s t l b r cs cr cc = true)) (h2 : Hid (Wpl.indexV s t l b r cs cr cc = iv)) (h3 : Hid (Wpl.atOk s t l b r iv = true)) (h4 : Hid (Wpl.atV s t l b r iv = ⟨cs, cr, cc⟩)) (z : Int) (hk : 0 ≤ k) (hz : ¬ k < z) (g0 : Hid (Wpl.sizeA s t l b r = z)) (g1 : Hid (Wpl.atOk s t l b r k = false)) (g2 : Hid (Wpl.atV s t l b r k = ⟨0, 0, 0⟩)) :
    Calls Tryd.prog 4 #[.agg #[.int .i64 s, .int .i64 t, .int .i64 l, .int .i64 b, .int .i64 r], .int .i64 k, .agg #[.int .i64 cs, .int .i64 cr, .int .i64 cc]] w fun e w' => e = .returned (.bool true) ∧ Below w.heap.size w w' := by
  have S := fun w => x3_size_any s t l b r w
  have A1 := fun w => at_any s t l b r k w
  have J1 := fun w => pindex_any s t l b r cs cr cc w
  have H1 := fun w => has_any s t l b r cs cr cc w
  have A3 := fun w => at_any s t l b r iv w
  rw [h1.out, h2.out] at J1
  rw [h1.out] at H1
  rw [h3.out, h4.out] at A3
  clear h3 h4
  clear h1 h2
  rw [g1.out, g2.out] at A1
  rw [g0.out] at S
  clear g0 g1 g2
  go_enter Tryd.func4, Tryd.ntmps4
  go_wp2_with fail
  refine (x3_able_any _).mono ?_
  rintro e w1 ⟨rfl, hb1⟩
  have pa : AtL w1 (w.heap.size) [.int .i64 s, .int .i64 t, .int .i64 l, .int .i64 b, .int .i64 r] := AtL.below hb1 ((AtL.new0 w _ _).alloc _)
  have pc : AtL w1 (w.heap.size + 1) [.int .i64 cs, .int .i64 cr, .int .i64 cc] := AtL.below hb1 (AtL.new1 w _ _ _)
  have hB1 : Below w.heap.size w w1 := by with_reducible repeat (first | exact Below.refl _ _ | refine x3_below_drewN ?_ _ | refine Below.setCell ?_ (by first | (simp; done) | (simp; omega) | omega) _ | refine Below.drew ?_ | refine x3_below_end ?_ (by assumption) | refine x3_ball ?_ _)
  clear hb1
  obtain ⟨pac0, pac1, pac2, pac3, pac4⟩ := pa.f5
  go_wp2_with fail
  refine (A1 _).mono ?_
  rintro e w2 ⟨rfl, hb2⟩
  replace pa := AtL.below hb2 pa
  replace pc := AtL.below hb2 pc
  have hB2 := x3_below_end hB1 hb2
  clear pac0 pac1 pac2 pac3 pac4
  clear hb2 hB1
  obtain ⟨pac0, pac1, pac2, pac3, pac4⟩ := pa.f5
  have lpa := pa.lt
  go_wp2_with fail
  refine (S _).mono ?_
  rintro e w3 ⟨rfl, hb3⟩
  replace pa := AtL.below hb3 (AtL.alloc pa _)
  replace pc := AtL.below hb3 (AtL.alloc pc _)
  have px : AtL w3 w2.heap.size [.int .i64 0, .int .i64 0, .int .i64 0] := AtL.below hb3 (AtL.new0 w2 _ _)
  have hB3 := x3_below_end (x3_ball hB2 _) hb3
  clear pac0 pac1 pac2 pac3 pac4 lpa
  clear hb3 hB2
  generalize w2.heap.size = kpx at *
  obtain ⟨pac0, pac1, pac2, pac3, pac4⟩ := pa.f5
  obtain ⟨pcc0, pcc1, pcc2⟩ := pc.f3
  go_wp2_with fail
  refine (J1 _).mono ?_
  rintro e w4 ⟨rfl, hb4⟩
  replace pa := AtL.below hb4 pa
  replace pc := AtL.below hb4 pc
  replace px := AtL.below hb4 px
  have hB4 := x3_below_end hB3 hb4
  clear pac0 pac1 pac2 pac3 pac4 pcc0 pcc1 pcc2
  clear hb4 hB3
  obtain ⟨pac0, pac1, pac2, pac3, pac4⟩ := pa.f5
  obtain ⟨pcc0, pcc1, pcc2⟩ := pc.f3
  go_wp2_with fail
  refine (H1 _).mono ?_
  rintro e w5 ⟨rfl, hb5⟩
  replace pa := AtL.below hb5 pa
  replace pc := AtL.below hb5 pc
  replace px := AtL.below hb5 px
  have hB5 := x3_below_end hB4 hb5
  clear pac0 pac1 pac2 pac3 pac4 pcc0 pcc1 pcc2
  clear hb5 hB4
  obtain ⟨pac0, pac1, pac2, pac3, pac4⟩ := pa.f5
  go_wp2_with fail
  refine (A3 _).mono ?_
  rintro e w6 ⟨rfl, hb6⟩
  replace pa := AtL.below hb6 pa
  replace pc := AtL.below hb6 pc
  replace px := AtL.below hb6 px
  have hB6 := x3_below_end hB5 hb6
  clear pac0 pac1 pac2 pac3 pac4
  clear hb6 hB5
  obtain ⟨pcc0, pcc1, pcc2⟩ := pc.f3
  have lpc := pc.lt
  go_wp2
  go_ret
  exact ⟨by simp, x3_ball hB6 _⟩

set_option maxHeartbeats 3200000 in
theorem count_okm_yes (s t l b r cs cr cc k iv : Int) (w : World) (h1 : Hid (Wpl.hasA s t l b r cs cr cc = true)) (h2 : Hid (Wpl.indexV s t l b r cs cr cc = iv)) (h3 : Hid (Wpl.atOk s t l b r iv = true)) (h4 : Hid (Wpl.atV s t l b r iv = ⟨cs, cr, cc⟩)) (z x0 x1 x2 y0 y1 y2 : Int) (hk : 0 ≤ k) (hz : k < z) (hz2 : z ≤ 16777216) (g0 : Hid (Wpl.sizeA s t l b r = z)) (g1 : Hid (Wpl.atOk s t l b r k = true)) (g2 : Hid (Wpl.atV s t l b r k = ⟨x0, x1, x2⟩)) (g3 : Hid (Wpl.hasA s t l b r x0 x1 x2 = true)) (g4 : Hid (Wpl.indexV s t l b r x0 x1 x2 = k)) (g5 : Hid (Wpl.rightC x0 x1 x2 = true)) (g6 : Hid (Wpl.atOk s t l b r (k + 1) = true)) (g7 : Hid (Wpl.atV s t l b r (k + 1) = ⟨y0, y1, y2⟩)) (g8 : Hid (Wpl.before x0 x1 x2 y0 y1 y2 = true)) :
    Calls Tryd.prog 4 #[.agg #[.int .i64 s, .int .i64 t, .int .i64 l, .int .i64 b, .int .i64 r], .int .i64 k, .agg #[.int .i64 cs, .int .i64 cr, .int .i64 cc]] w fun e w' => e = .returned (.bool true) ∧ Below w.heap.size w w' := by
  have S := fun w => x3_size_any s t l b r w
  have A1 := fun w => at_any s t l b r k w
  have J1 := fun w => pindex_any s t l b r cs cr cc w
  have H1 := fun w => has_any s t l b r cs cr cc w
  have A3 := fun w => at_any s t l b r iv w
  rw [h1.out, h2.out] at J1
  rw [h1.out] at H1
  rw [h3.out, h4.out] at A3
  clear h3 h4
  clear h1 h2
  have J2 := fun w => pindex_any s t l b r x0 x1 x2 w
  have H2 := fun w => has_any s t l b r x0 x1 x2 w
  have R2 := fun w => x3_right_any x0 x1 x2 w
  have A2 := fun w => at_any s t l b r (k + 1) w
  have B2 := fun w => before_any x0 x1 x2 y0 y1 y2 w
  rw [g8.out] at B2
  clear g8
  rw [g1.out, g2.out] at A1
  rw [g0.out] at S
  rw [g3.out, g4.out] at J2
  rw [g3.out] at H2
  rw [g5.out] at R2
  rw [g6.out, g7.out] at A2
  clear g0 g1 g2 g3 g4 g5 g6 g7
  go_enter Tryd.func4, Tryd.ntmps4
  go_wp2_with fail
  refine (x3_able_any _).mono ?_
  rintro e w1 ⟨rfl, hb1⟩
  have pa : AtL w1 (w.heap.size) [.int .i64 s, .int .i64 t, .int .i64 l, .int .i64 b, .int .i64 r] := AtL.below hb1 ((AtL.new0 w _ _).alloc _)
  have pc : AtL w1 (w.heap.size + 1) [.int .i64 cs, .int .i64 cr, .int .i64 cc] := AtL.below hb1 (AtL.new1 w _ _ _)
  have hB1 : Below w.heap.size w w1 := by with_reducible repeat (first | exact Below.refl _ _ | refine x3_below_drewN ?_ _ | refine Below.setCell ?_ (by first | (simp; done) | (simp; omega) | omega) _ | refine Below.drew ?_ | refine x3_below_end ?_ (by assumption) | refine x3_ball ?_ _)
  clear hb1
  obtain ⟨pac0, pac1, pac2, pac3, pac4⟩ := pa.f5
  go_wp2_with fail
  refine (A1 _).mono ?_
  rintro e w2 ⟨rfl, hb2⟩
  replace pa := AtL.below hb2 pa
  replace pc := AtL.below hb2 pc
  have hB2 := x3_below_end hB1 hb2
  clear pac0 pac1 pac2 pac3 pac4
  clear hb2 hB1
  obtain ⟨pac0, pac1, pac2, pac3, pac4⟩ := pa.f5
  have lpa := pa.lt
  go_wp2_with fail
  refine (S _).mono ?_
  rintro e w3 ⟨rfl, hb3⟩
  replace pa := AtL.below hb3 (AtL.alloc pa _)
  replace pc := AtL.below hb3 (AtL.alloc pc _)
  have px : AtL w3 w2.heap.size [.int .i64 x0, .int .i64 x1, .int .i64 x2] := AtL.below hb3 (AtL.new0 w2 _ _)
  have hB3 := x3_below_end (x3_ball hB2 _) hb3
  clear pac0 pac1 pac2 pac3 pac4 lpa
  clear hb3 hB2
  generalize w2.heap.size = kpx at *
  obtain ⟨pac0, pac1, pac2, pac3, pac4⟩ := pa.f5
  obtain ⟨pxc0, pxc1, pxc2⟩ := px.f3
  go_wp2_with fail
  refine (J2 _).mono ?_
  rintro e w4 ⟨rfl, hb4⟩
  replace pa := AtL.below hb4 pa
  replace pc := AtL.below hb4 pc
  replace px := AtL.below hb4 px
  have hB4 := x3_below_end hB3 hb4
  clear pac0 pac1 pac2 pac3 pac4 pxc0 pxc1 pxc2
  clear hb4 hB3
  obtain ⟨pac0, pac1, pac2, pac3, pac4⟩ := pa.f5
  go_wp2_with fail
  refine (A2 _).mono ?_
  rintro e w5 ⟨rfl, hb5⟩
  replace pa := AtL.below hb5 pa
  replace pc := AtL.below hb5 pc
  replace px := AtL.below hb5 px
  have hB5 := x3_below_end hB4 hb5
  clear pac0 pac1 pac2 pac3 pac4
  clear hb5 hB4
  obtain ⟨pac0, pac1, pac2, pac3, pac4⟩ := pa.f5
  have lpa := pa.lt
  obtain ⟨pxc0, pxc1, pxc2⟩ := px.f3
  have lpx := px.lt
  go_wp2_with fail
  refine (H2 _).mono ?_
  rintro e w6 ⟨rfl, hb6⟩
  replace pa := AtL.below hb6 (AtL.alloc pa _)
  replace pc := AtL.below hb6 (AtL.alloc pc _)
  replace px := AtL.below hb6 (AtL.alloc px _)
  have py : AtL w6 w5.heap.size [.int .i64 y0, .int .i64 y1, .int .i64 y2] := AtL.below hb6 (AtL.new0 w5 _ _)
  have hB6 := x3_below_end (x3_ball hB5 _) hb6
  clear pac0 pac1 pac2 pac3 pac4 lpa pxc0 pxc1 pxc2 lpx
  clear hb6 hB5
  generalize w5.heap.size = kpy at *
  obtain ⟨pxc0, pxc1, pxc2⟩ := px.f3
  go_wp2_with fail
  refine (R2 _).mono ?_
  rintro e w7 ⟨rfl, hb7⟩
  replace pa := AtL.below hb7 pa
  replace pc := AtL.below hb7 pc
  replace px := AtL.below hb7 px
  replace py := AtL.below hb7 py
  have hB7 := x3_below_end hB6 hb7
  clear pxc0 pxc1 pxc2
  clear hb7 hB6
  obtain ⟨pxc0, pxc1, pxc2⟩ := px.f3
  obtain ⟨pyc0, pyc1, pyc2⟩ := py.f3
  go_wp2_with fail
  refine (B2 _).mono ?_
  rintro e w8 ⟨rfl, hb8⟩
  replace pa := AtL.below hb8 pa
  replace pc := AtL.below hb8 pc
  replace px := AtL.below hb8 px
  replace py := AtL.below hb8 py
  have hB8 := x3_below_end hB7 hb8
  clear pxc0 pxc1 pxc2 pyc0 pyc1 pyc2
  clear hb8 hB7
  obtain ⟨pac0, pac1, pac2, pac3, pac4⟩ := pa.f5
  obtain ⟨pcc0, pcc1, pcc2⟩ := pc.f3
  go_wp2_with fail
  refine (J1 _).mono ?_
  rintro e w9 ⟨rfl, hb9⟩
  replace pa := AtL.below hb9 pa
  replace pc := AtL.below hb9 pc
  replace px := AtL.below hb9 px
  replace py := AtL.below hb9 py
  have hB9 := x3_below_end hB8 hb9
  clear pac0 pac1 pac2 pac3 pac4 pcc0 pcc1 pcc2
  clear hb9 hB8
  obtain ⟨pac0, pac1, pac2, pac3, pac4⟩ := pa.f5
  obtain ⟨pcc0, pcc1, pcc2⟩ := pc.f3
  go_wp2_with fail
  refine (H1 _).mono ?_
  rintro e w10 ⟨rfl, hb10⟩
  replace pa := AtL.below hb10 pa
  replace pc := AtL.below hb10 pc
  replace px := AtL.below hb10 px
  replace py := AtL.below hb10 py
  have hB10 := x3_below_end hB9 hb10
  clear pac0 pac1 pac2 pac3 pac4 pcc0 pcc1 pcc2
  clear hb10 hB9
  obtain ⟨pac0, pac1, pac2, pac3, pac4⟩ := pa.f5
  go_wp2_with fail
  refine (A3 _).mono ?_
  rintro e w11 ⟨rfl, hb11⟩
  replace pa := AtL.below hb11 pa
  replace pc := AtL.below hb11 pc
  replace px := AtL.below hb11 px
  replace py := AtL.below hb11 py
  have hB11 := x3_below_end hB10 hb11
  clear pac0 pac1 pac2 pac3 pac4
  clear hb11 hB10
  obtain ⟨pcc0, pcc1, pcc2⟩ := pc.f3
  have lpc := pc.lt
  go_wp2
  go_ret
  exact ⟨by simp, x3_ball hB11 _⟩

set_option maxHeartbeats 3200000 in
theorem count_okl_yes (s t l b r cs cr cc k iv : Int) (w : World) (h1 : Hid (Wpl.hasA s t l b r cs cr cc = true)) (h2 : Hid (Wpl.indexV s t l b r cs cr cc = iv)) (h3 : Hid (Wpl.atOk s t l b r iv = true)) (h4 : Hid (Wpl.atV s t l b r iv = ⟨cs, cr, cc⟩)) (z x0 x1 x2 y0 y1 y2 : Int) (hk : 0 ≤ k) (hz : k < z) (hz2 : z ≤ 16777216) (g0 : Hid (Wpl.sizeA s t l b r = z)) (g1 : Hid (Wpl.atOk s t l b r k = true)) (g2 : Hid (Wpl.atV s t l b r k = ⟨x0, x1, x2⟩)) (g3 : Hid (Wpl.hasA s t l b r x0 x1 x2 = true)) (g4 : Hid (Wpl.indexV s t l b r x0 x1 x2 = k)) (g5 : Hid (Wpl.rightC x0 x1 x2 = true)) (g6 : Hid (Wpl.atOk s t l b r (k + 1) = false)) (g7 : Hid (Wpl.atV s t l b r (k + 1) = ⟨y0, y1, y2⟩)) :
    Calls Tryd.prog 4 #[.agg #[.int .i64 s, .int .i64 t, .int .i64 l, .int .i64 b, .int .i64 r], .int .i64 k, .agg #[.int .i64 cs, .int .i64 cr, .int .i64 cc]] w fun e w' => e = .returned (.bool true) ∧ Below w.heap.size w w' := by
  have S := fun w => x3_size_any s t l b r w
  have A1 := fun w => at_any s t l b r k w
  have J1 := fun w => pindex_any s t l b r cs cr cc w
  have H1 := fun w => has_any s t l b r cs cr cc w
  have A3 := fun w => at_any s t l b r iv w
  rw [h1.out, h2.out] at J1
  rw [h1.out] at H1
  rw [h3.out, h4.out] at A3
  clear h3 h4
  clear h1 h2
  have J2 := fun w => pindex_any s t l b r x0 x1 x2 w
  have H2 := fun w => has_any s t l b r x0 x1 x2 w
  have R2 := fun w => x3_right_any x0 x1 x2 w
  have A2 := fun w => at_any s t l b r (k + 1) w
  rw [g1.out, g2.out] at A1
  rw [g0.out] at S
  rw [g3.out, g4.out] at J2
  rw [g3.out] at H2
  rw [g5.out] at R2
  rw [g6.out, g7.out] at A2
  clear g0 g1 g2 g3 g4 g5 g6 g7
  go_enter Tryd.func4, Tryd.ntmps4
  go_wp2_with fail
  refine (x3_able_any _).mono ?_
  rintro e w1 ⟨rfl, hb1⟩
  have pa : AtL w1 (w.heap.size) [.int .i64 s, .int .i64 t, .int .i64 l, .int .i64 b, .int .i64 r] := AtL.below hb1 ((AtL.new0 w _ _).alloc _)
  have pc : AtL w1 (w.heap.size + 1) [.int .i64 cs, .int .i64 cr, .int .i64 cc] := AtL.below hb1 (AtL.new1 w _ _ _)
  have hB1 : Below w.heap.size w w1 := by with_reducible repeat (first | exact Below.refl _ _ | refine x3_below_drewN ?_ _ | refine Below.setCell ?_ (by first | (simp; done) | (simp; omega) | omega) _ | refine Below.drew ?_ | refine x3_below_end ?_ (by assumption) | refine x3_ball ?_ _)
  clear hb1
  obtain ⟨pac0, pac1, pac2, pac3, pac4⟩ := pa.f5
  go_wp2_with fail
  refine (A1 _).mono ?_
  rintro e w2 ⟨rfl, hb2⟩
  replace pa := AtL.below hb2 pa
  replace pc := AtL.below hb2 pc
  have hB2 := x3_below_end hB1 hb2
  clear pac0 pac1 pac2 pac3 pac4
  clear hb2 hB1
  obtain ⟨pac0, pac1, pac2, pac3, pac4⟩ := pa.f5
  have lpa := pa.lt
  go_wp2_with fail
  refine (S _).mono ?_
  rintro e w3 ⟨rfl, hb3⟩
  replace pa := AtL.below hb3 (AtL.alloc pa _)
  replace pc := AtL.below hb3 (AtL.alloc pc _)
  have px : AtL w3 w2.heap.size [.int .i64 x0, .int .i64 x1, .int .i64 x2] := AtL.below hb3 (AtL.new0 w2 _ _)
  have hB3 := x3_below_end (x3_ball hB2 _) hb3
  clear pac0 pac1 pac2 pac3 pac4 lpa
  clear hb3 hB2
  generalize w2.heap.size = kpx at *
  obtain ⟨pac0, pac1, pac2, pac3, pac4⟩ := pa.f5
  obtain ⟨pxc0, pxc1, pxc2⟩ := px.f3
  go_wp2_with fail
  refine (J2 _).mono ?_
  rintro e w4 ⟨rfl, hb4⟩
  replace pa := AtL.below hb4 pa
  replace pc := AtL.below hb4 pc
  replace px := AtL.below hb4 px
  have hB4 := x3_below_end hB3 hb4
  clear pac0 pac1 pac2 pac3 pac4 pxc0 pxc1 pxc2
  clear hb4 hB3
  obtain ⟨pac0, pac1, pac2, pac3, pac4⟩ := pa.f5
  go_wp2_with fail
  refine (A2 _).mono ?_
  rintro e w5 ⟨rfl, hb5⟩
  replace pa := AtL.below hb5 pa
  replace pc := AtL.below hb5 pc
  replace px := AtL.below hb5 px
  have hB5 := x3_below_end hB4 hb5
  clear pac0 pac1 pac2 pac3 pac4
  clear hb5 hB4
  obtain ⟨pac0, pac1, pac2, pac3, pac4⟩ := pa.f5
  have lpa := pa.lt
  obtain ⟨pxc0, pxc1, pxc2⟩ := px.f3
  have lpx := px.lt
  go_wp2_with fail
  refine (H2 _).mono ?_
  rintro e w6 ⟨rfl, hb6⟩
  replace pa := AtL.below hb6 (AtL.alloc pa _)
  replace pc := AtL.below hb6 (AtL.alloc pc _)
  replace px := AtL.below hb6 (AtL.alloc px _)
  have py : AtL w6 w5.heap.size [.int .i64 y0, .int .i64 y1, .int .i64 y2] := AtL.below hb6 (AtL.new0 w5 _ _)
  have hB6 := x3_below_end (x3_ball hB5 _) hb6
  clear pac0 pac1 pac2 pac3 pac4 lpa pxc0 pxc1 pxc2 lpx
  clear hb6 hB5
  generalize w5.heap.size = kpy at *
  obtain ⟨pxc0, pxc1, pxc2⟩ := px.f3
  go_wp2_with fail
  refine (R2 _).mono ?_
  rintro e w7 ⟨rfl, hb7⟩
  replace pa := AtL.below hb7 pa
  replace pc := AtL.below hb7 pc
  replace px := AtL.below hb7 px
  replace py := AtL.below hb7 py
  have hB7 := x3_below_end hB6 hb7
  clear pxc0 pxc1 pxc2
  clear hb7 hB6
  obtain ⟨pac0, pac1, pac2, pac3, pac4⟩ := pa.f5
  obtain ⟨pcc0, pcc1, pcc2⟩ := pc.f3
  go_wp2_with fail
  refine (J1 _).mono ?_
  rintro e w8 ⟨rfl, hb8⟩
  replace pa := AtL.below hb8 pa
  replace pc := AtL.below hb8 pc
  replace px := AtL.below hb8 px
  replace py := AtL.below hb8 py
  have hB8 := x3_below_end hB7 hb8
  clear pac0 pac1 pac2 pac3 pac4 pcc0 pcc1 pcc2
  clear hb8 hB7
  obtain ⟨pac0, pac1, pac2, pac3, pac4⟩ := pa.f5
  obtain ⟨pcc0, pcc1, pcc2⟩ := pc.f3
  go_wp2_with fail
  refine (H1 _).mono ?_
  rintro e w9 ⟨rfl, hb9⟩
  replace pa := AtL.below hb9 pa
  replace pc := AtL.below hb9 pc
  replace px := AtL.below hb9 px
  replace py := AtL.below hb9 py
  have hB9 := x3_below_end hB8 hb9
  clear pac0 pac1 pac2 pac3 pac4 pcc0 pcc1 pcc2
  clear hb9 hB8
  obtain ⟨pac0, pac1, pac2, pac3, pac4⟩ := pa.f5
  go_wp2_with fail
  refine (A3 _).mono ?_
  rintro e w10 ⟨rfl, hb10⟩
  replace pa := AtL.below hb10 pa
  replace pc := AtL.below hb10 pc
  replace px := AtL.below hb10 px
  replace py := AtL.below hb10 py
  have hB10 := x3_below_end hB9 hb10
  clear pac0 pac1 pac2 pac3 pac4
  clear hb10 hB9
  obtain ⟨pcc0, pcc1, pcc2⟩ := pc.f3
  have lpc := pc.lt
  go_wp2
  go_ret
  exact ⟨by simp, x3_ball hB10 _⟩

set_option maxHeartbeats 3200000 in
theorem count_low_no (s t l b r cs cr cc k iv : Int) (w : World) (h1 : Hid (Wpl.hasA s t l b r cs cr cc = false)) (h2 : Hid (Wpl.indexV s t l b r cs cr cc = 0)) (hk : k < 0) (g1 : Hid (Wpl.atOk s t l b r k = false)) (g2 : Hid (Wpl.atV s t l b r k = ⟨0, 0, 0⟩)) :
    Calls Tryd.prog 4 #[.agg #[.int .i64 s, .int .i64 t, .int .i64 l, .int .i64 b, .int .i64 r], .int .i64 k, .agg #[.int .i64 cs, .int .i64 cr, .int .i64 cc]] w fun e w' => e = .returned (.bool true) ∧ Below w.heap.size w w' := by
  have S := fun w => x3_size_any s t l b r w
  have A1 := fun w => at_any s t l b r k w
  have J1 := fun w => pindex_any s t l b r cs cr cc w
  have H1 := fun w => has_any s t l b r cs cr cc w
  have A3 := fun w => at_any s t l b r iv w
  rw [h1.out, h2.out] at J1
  rw [h1.out] at H1
  clear A3
  clear h1 h2
  rw [g1.out, g2.out] at A1
  clear g1 g2 S
  have hk0 : ¬ 0 ≤ k := by omega
  go_enter Tryd.func4, Tryd.ntmps4
  go_wp2_with fail
  refine (x3_able_any _).mono ?_
  rintro e w1 ⟨rfl, hb1⟩
  have pa : AtL w1 (w.heap.size) [.int .i64 s, .int .i64 t, .int .i64 l, .int .i64 b, .int .i64 r] := AtL.below hb1 ((AtL.new0 w _ _).alloc _)
  have pc : AtL w1 (w.heap.size + 1) [.int .i64 cs, .int .i64 cr, .int .i64 cc] := AtL.below hb1 (AtL.new1 w _ _ _)
  have hB1 : Below w.heap.size w w1 := by with_reducible repeat (first | exact Below.refl _ _ | refine x3_below_drewN ?_ _ | refine Below.setCell ?_ (by first | (simp; done) | (simp; omega) | omega) _ | refine Below.drew ?_ | refine x3_below_end ?_ (by assumption) | refine x3_ball ?_ _)
  clear hb1
  obtain ⟨pac0, pac1, pac2, pac3, pac4⟩ := pa.f5
  go_wp2_with fail
  refine (A1 _).mono ?_
  rintro e w2 ⟨rfl, hb2⟩
  replace pa := AtL.below hb2 pa
  replace pc := AtL.below hb2 pc
  have hB2 := x3_below_end hB1 hb2
  clear pac0 pac1 pac2 pac3 pac4
  clear hb2 hB1
  obtain ⟨pac0, pac1, pac2, pac3, pac4⟩ := pa.f5
  have lpa := pa.lt
  obtain ⟨pcc0, pcc1, pcc2⟩ := pc.f3
  have lpc := pc.lt
  go_wp2_with fail
  refine (J1 _).mono ?_
  rintro e w3 ⟨rfl, hb3⟩
  replace pa := AtL.below hb3 (AtL.alloc pa _)
  replace pc := AtL.below hb3 (AtL.alloc pc _)
  have px : AtL w3 w2.heap.size [.int .i64 0, .int .i64 0, .int .i64 0] := AtL.below hb3 (AtL.new0 w2 _ _)
  have hB3 := x3_below_end (x3_ball hB2 _) hb3
  clear pac0 pac1 pac2 pac3 pac4 lpa pcc0 pcc1 pcc2 lpc
  clear hb3 hB2
  generalize w2.heap.size = kpx at *
  obtain ⟨pac0, pac1, pac2, pac3, pac4⟩ := pa.f5
  obtain ⟨pcc0, pcc1, pcc2⟩ := pc.f3
  go_wp2_with fail
  refine (H1 _).mono ?_
  rintro e w4 ⟨rfl, hb4⟩
  replace pa := AtL.below hb4 pa
  replace pc := AtL.below hb4 pc
  replace px := AtL.below hb4 px
  have hB4 := x3_below_end hB3 hb4
  clear pac0 pac1 pac2 pac3 pac4 pcc0 pcc1 pcc2
  clear hb4 hB3
  go_wp2
  go_ret
  exact ⟨rfl, hB4⟩

set_option maxHeartbeats 3200000 in
theorem count_high_no (s t l b r cs cr cc k iv : Int) (w : World) (h1 : Hid (Wpl.hasA s t l b r cs cr cc = false)) (h2 : Hid (Wpl.indexV s t l b r cs cr cc = 0)) (z : Int) (hk : 0 ≤ k) (hz : ¬ k < z) (g0 : Hid (Wpl.sizeA s t l b r = z)) (g1 : Hid (Wpl.atOk s t l b r k = false)) (g2 : Hid (Wpl.atV s t l b r k = ⟨0, 0, 0⟩)) :
    Calls Tryd.prog 4 #[.agg #[.int .i64 s, .int .i64 t, .int .i64 l, .int .i64 b, .int .i64 r], .int .i64 k, .agg #[.int .i64 cs, .int .i64 cr, .int .i64 cc]] w fun e w' => e = .returned (.bool true) ∧ Below w.heap.size w w' := by
  have S := fun w => x3_size_any s t l b r w
  have A1 := fun w => at_any s t l b r k w
  have J1 := fun w => pindex_any s t l b r cs cr cc w
  have H1 := fun w => has_any s t l b r cs cr cc w
  have A3 := fun w => at_any s t l b r iv w
  rw [h1.out, h2.out] at J1
  rw [h1.out] at H1
  clear A3
  clear h1 h2
  rw [g1.out, g2.out] at A1
  rw [g0.out] at S
  clear g0 g1 g2
  go_enter Tryd.func4, Tryd.ntmps4
  go_wp2_with fail
  refine (x3_able_any _).mono ?_
  rintro e w1 ⟨rfl, hb1⟩
  have pa : AtL w1 (w.heap.size) [.int .i64 s, .int .i64 t, .int .i64 l, .int .i64 b, .int .i64 r] := AtL.below hb1 ((AtL.new0 w _ _).alloc _)
  have pc : AtL w1 (w.heap.size + 1) [.int .i64 cs, .int .i64 cr, .int .i64 cc] := AtL.below hb1 (AtL.new1 w _ _ _)
  have hB1 : Below w.heap.size w w1 := by with_reducible repeat (first | exact Below.refl _ _ | refine x3_below_drewN ?_ _ | refine Below.setCell ?_ (by first | (simp; done) | (simp; omega) | omega) _ | refine Below.drew ?_ | refine x3_below_end ?_ (by assumption) | refine x3_ball ?_ _)
  clear hb1
  obtain ⟨pac0, pac1, pac2, pac3, pac4⟩ := pa.f5
  go_wp2_with fail
  refine (A1 _).mono ?_
  rintro e w2 ⟨rfl, hb2⟩
  replace pa := AtL.below hb2 pa
  replace pc := AtL.below hb2 pc
  have hB2 := x3_below_end hB1 hb2
  clear pac0 pac1 pac2 pac3 pac4
  clear hb2 hB1
  obtain ⟨pac0, pac1, pac2, pac3, pac4⟩ := pa.f5
  have lpa := pa.lt
  go_wp2_with fail
  refine (S _).mono ?_
  rintro e w3 ⟨rfl, hb3⟩
  replace pa := AtL.below hb3 (AtL.alloc pa _)
  replace pc := AtL.below hb3 (AtL.alloc pc _)
  have px : AtL w3 w2.heap.size [.int .i64 0, .int .i64 0, .int .i64 0] := AtL.below hb3 (AtL.new0 w2 _ _)
  have hB3 := x3_below_end (x3_ball hB2 _) hb3
  clear pac0 pac1 pac2 pac3 pac4 lpa
  clear hb3 hB2
  generalize w2.heap.size = kpx at *
  obtain ⟨pac0, pac1, pac2, pac3, pac4⟩ := pa.f5
  obtain ⟨pcc0, pcc1, pcc2⟩ := pc.f3
  go_wp2_with fail
  refine (J1 _).mono ?_
  rintro e w4 ⟨rfl, hb4⟩
  replace pa := AtL.below hb4 pa
  replace pc := AtL.below hb4 pc
  replace px := AtL.below hb4 px
  have hB4 := x3_below_end hB3 hb4
  clear pac0 pac1 pac2 pac3 pac4 pcc0 pcc1 pcc2
  clear hb4 hB3
  obtain ⟨pac0, pac1, pac2, pac3, pac4⟩ := pa.f5
  obtain ⟨pcc0, pcc1, pcc2⟩ := pc.f3
  go_wp2_with fail
  refine (H1 _).mono ?_
  rintro e w5 ⟨rfl, hb5⟩
  replace pa := AtL.below hb5 pa
  replace pc := AtL.below hb5 pc
  replace px := AtL.below hb5 px
  have hB5 := x3_below_end hB4 hb5
  clear pac0 pac1 pac2 pac3 pac4 pcc0 pcc1 pcc2
  clear hb5 hB4
  go_wp2
  go_ret
  exact ⟨rfl, hB5⟩

set_option maxHeartbeats 3200000 in
theorem count_okm_no (s t l b r cs cr cc k iv : Int) (w : World) (h1 : Hid (Wpl.hasA s t l b r cs cr cc = false)) (h2 : Hid (Wpl.indexV s t l b r cs cr cc = 0)) (z x0 x1 x2 y0 y1 y2 : Int) (hk : 0 ≤ k) (hz : k < z) (hz2 : z ≤ 16777216) (g0 : Hid (Wpl.sizeA s t l b r = z)) (g1 : Hid (Wpl.atOk s t l b r k = true)) (g2 : Hid (Wpl.atV s t l b r k = ⟨x0, x1, x2⟩)) (g3 : Hid (Wpl.hasA s t l b r x0 x1 x2 = true)) (g4 : Hid (Wpl.indexV s t l b r x0 x1 x2 = k)) (g5 : Hid (Wpl.rightC x0 x1 x2 = true)) (g6 : Hid (Wpl.atOk s t l b r (k + 1) = true)) (g7 : Hid (Wpl.atV s t l b r (k + 1) = ⟨y0, y1, y2⟩)) (g8 : Hid (Wpl.before x0 x1 x2 y0 y1 y2 = true)) :
    Calls Tryd.prog 4 #[.agg #[.int .i64 s, .int .i64 t, .int .i64 l, .int .i64 b, .int .i64 r], .int .i64 k, .agg #[.int .i64 cs, .int .i64 cr, .int .i64 cc]] w fun e w' => e = .returned (.bool true) ∧ Below w.heap.size w w' := by
  have S := fun w => x3_size_any s t l b r w
  have A1 := fun w => at_any s t l b r k w
  have J1 := fun w => pindex_any s t l b r cs cr cc w
  have H1 := fun w => has_any s t l b r cs cr cc w
  have A3 := fun w => at_any s t l b r iv w
  rw [h1.out, h2.out] at J1
  rw [h1.out] at H1
  clear A3
  clear h1 h2
  have J2 := fun w => pindex_any s t l b r x0 x1 x2 w
  have H2 := fun w => has_any s t l b r x0 x1 x2 w
  have R2 := fun w => x3_right_any x0 x1 x2 w
  have A2 := fun w => at_any s t l b r (k + 1) w
  have B2 := fun w => before_any x0 x1 x2 y0 y1 y2 w
  rw [g8.out] at B2
  clear g8
  rw [g1.out, g2.out] at A1
  rw [g0.out] at S
  rw [g3.out, g4.out] at J2
  rw [g3.out] at H2
  rw [g5.out] at R2
  rw [g6.out, g7.out] at A2
  clear g0 g1 g2 g3 g4 g5 g6 g7
  go_enter Tryd.func4, Tryd.ntmps4
  go_wp2_with fail
  refine (x3_able_any _).mono ?_
  rintro e w1 ⟨rfl, hb1⟩
  have pa : AtL w1 (w.heap.size) [.int .i64 s, .int .i64 t, .int .i64 l, .int .i64 b, .int .i64 r] := AtL.below hb1 ((AtL.new0 w _ _).alloc _)
  have pc : AtL w1 (w.heap.size + 1) [.int .i64 cs, .int .i64 cr, .int .i64 cc] := AtL.below hb1 (AtL.new1 w _ _ _)
  have hB1 : Below w.heap.size w w1 := by with_reducible repeat (first | exact Below.refl _ _ | refine x3_below_drewN ?_ _ | refine Below.setCell ?_ (by first | (simp; done) | (simp; omega) | omega) _ | refine Below.drew ?_ | refine x3_below_end ?_ (by assumption) | refine x3_ball ?_ _)
  clear hb1
  obtain ⟨pac0, pac1, pac2, pac3, pac4⟩ := pa.f5
  go_wp2_with fail
  refine (A1 _).mono ?_
  rintro e w2 ⟨rfl, hb2⟩
  replace pa := AtL.below hb2 pa
  replace pc := AtL.below hb2 pc
  have hB2 := x3_below_end hB1 hb2
  clear pac0 pac1 pac2 pac3 pac4
  clear hb2 hB1
  obtain ⟨pac0, pac1, pac2, pac3, pac4⟩ := pa.f5
  have lpa := pa.lt
  go_wp2_with fail
  refine (S _).mono ?_
  rintro e w3 ⟨rfl, hb3⟩
  replace pa := AtL.below hb3 (AtL.alloc pa _)
  replace pc := AtL.below hb3 (AtL.alloc pc _)
  have px : AtL w3 w2.heap.size [.int .i64 x0, .int .i64 x1, .int .i64 x2] := AtL.below hb3 (AtL.new0 w2 _ _)
  have hB3 := x3_below_end (x3_ball hB2 _) hb3
  clear pac0 pac1 pac2 pac3 pac4 lpa
  clear hb3 hB2
  generalize w2.heap.size = kpx at *
  obtain ⟨pac0, pac1, pac2, pac3, pac4⟩ := pa.f5
  obtain ⟨pxc0, pxc1, pxc2⟩ := px.f3
  go_wp2_with fail
  refine (J2 _).mono ?_
  rintro e w4 ⟨rfl, hb4⟩
  replace pa := AtL.below hb4 pa
  replace pc := AtL.below hb4 pc
  replace px := AtL.below hb4 px
  have hB4 := x3_below_end hB3 hb4
  clear pac0 pac1 pac2 pac3 pac4 pxc0 pxc1 pxc2
  clear hb4 hB3
  obtain ⟨pac0, pac1, pac2, pac3, pac4⟩ := pa.f5
  go_wp2_with fail
  refine (A2 _).mono ?_
  rintro e w5 ⟨rfl, hb5⟩
  replace pa := AtL.below hb5 pa
  replace pc := AtL.below hb5 pc
  replace px := AtL.below hb5 px
  have hB5 := x3_below_end hB4 hb5
  clear pac0 pac1 pac2 pac3 pac4
  clear hb5 hB4
  obtain ⟨pac0, pac1, pac2, pac3, pac4⟩ := pa.f5
  have lpa := pa.lt
  obtain ⟨pxc0, pxc1, pxc2⟩ := px.f3
  have lpx := px.lt
  go_wp2_with fail
  refine (H2 _).mono ?_
  rintro e w6 ⟨rfl, hb6⟩
  replace pa := AtL.below hb6 (AtL.alloc pa _)
  replace pc := AtL.below hb6 (AtL.alloc pc _)
  replace px := AtL.below hb6 (AtL.alloc px _)
  have py : AtL w6 w5.heap.size [.int .i64 y0, .int .i64 y1, .int .i64 y2] := AtL.below hb6 (AtL.new0 w5 _ _)
  have hB6 := x3_below_end (x3_ball hB5 _) hb6
  clear pac0 pac1 pac2 pac3 pac4 lpa pxc0 pxc1 pxc2 lpx
  clear hb6 hB5
  generalize w5.heap.size = kpy at *
  obtain ⟨pxc0, pxc1, pxc2⟩ := px.f3
  go_wp2_with fail
  refine (R2 _).mono ?_
  rintro e w7 ⟨rfl, hb7⟩
  replace pa := AtL.below hb7 pa
  replace pc := AtL.below hb7 pc
  replace px := AtL.below hb7 px
  replace py := AtL.below hb7 py
  have hB7 := x3_below_end hB6 hb7
  clear pxc0 pxc1 pxc2
  clear hb7 hB6
  obtain ⟨pxc0, pxc1, pxc2⟩ := px.f3
  obtain ⟨pyc0, pyc1, pyc2⟩ := py.f3
  go_wp2_with fail
  refine (B2 _).mono ?_
  rintro e w8 ⟨rfl, hb8⟩
  replace pa := AtL.below hb8 pa
  replace pc := AtL.below hb8 pc
  replace px := AtL.below hb8 px
  replace py := AtL.below hb8 py
  have hB8 := x3_below_end hB7 hb8
  clear pxc0 pxc1 pxc2 pyc0 pyc1 pyc2
  clear hb8 hB7
  obtain ⟨pac0, pac1, pac2, pac3, pac4⟩ := pa.f5
  obtain ⟨pcc0, pcc1, pcc2⟩ := pc.f3
  go_wp2_with fail
  refine (J1 _).mono ?_
  rintro e w9 ⟨rfl, hb9⟩
  replace pa := AtL.below hb9 pa
  replace pc := AtL.below hb9 pc
  replace px := AtL.below hb9 px
  replace py := AtL.below hb9 py
  have hB9 := x3_below_end hB8 hb9
  clear pac0 pac1 pac2 pac3 pac4 pcc0 pcc1 pcc2
  clear hb9 hB8
  obtain ⟨pac0, pac1, pac2, pac3, pac4⟩ := pa.f5
  obtain ⟨pcc0, pcc1, pcc2⟩ := pc.f3
  go_wp2_with fail
  refine (H1 _).mono ?_
  rintro e w10 ⟨rfl, hb10⟩
  replace pa := AtL.below hb10 pa
  replace pc := AtL.below hb10 pc
  replace px := AtL.below hb10 px
  replace py := AtL.below hb10 py
  have hB10 := x3_below_end hB9 hb10
  clear pac0 pac1 pac2 pac3 pac4 pcc0 pcc1 pcc2
  clear hb10 hB9
  go_wp2
  go_ret
  exact ⟨rfl, hB10⟩

set_option maxHeartbeats 3200000 in
theorem count_okl_no (s t l b r cs cr cc k iv : Int) (w : World) (h1 : Hid (Wpl.hasA s t l b r cs cr cc = false)) (h2 : Hid (Wpl.indexV s t l b r cs cr cc = 0)) (z x0 x1 x2 y0 y1 y2 : Int) (hk : 0 ≤ k) (hz : k < z) (hz2 : z ≤ 16777216) (g0 : Hid (Wpl.sizeA s t l b r = z)) (g1 : Hid (Wpl.atOk s t l b r k = true)) (g2 : Hid (Wpl.atV s t l b r k = ⟨x0, x1, x2⟩)) (g3 : Hid (Wpl.hasA s t l b r x0 x1 x2 = true)) (g4 : Hid (Wpl.indexV s t l b r x0 x1 x2 = k)) (g5 : Hid (Wpl.rightC x0 x1 x2 = true)) (g6 : Hid (Wpl.atOk s t l b r (k + 1) = false)) (g7 : Hid (Wpl.atV s t l b r (k + 1) = ⟨y0, y1, y2⟩)) :
    Calls Tryd.prog 4 #[.agg #[.int .i64 s, .int .i64 t, .int .i64 l, .int .i64 b, .int .i64 r], .int .i64 k, .agg #[.int .i64 cs, .int .i64 cr, .int .i64 cc]] w fun e w' => e = .returned (.bool true) ∧ Below w.heap.size w w' := by
  have S := fun w => x3_size_any s t l b r w
  have A1 := fun w => at_any s t l b r k w
  have J1 := fun w => pindex_any s t l b r cs cr cc w
  have H1 := fun w => has_any s t l b r cs cr cc w
  have A3 := fun w => at_any s t l b r iv w
  rw [h1.out, h2.out] at J1
  rw [h1.out] at H1
  clear A3
  clear h1 h2
  have J2 := fun w => pindex_any s t l b r x0 x1 x2 w
  have H2 := fun w => has_any s t l b r x0 x1 x2 w
  have R2 := fun w => x3_right_any x0 x1 x2 w
  have A2 := fun w => at_any s t l b r (k + 1) w
  rw [g1.out, g2.out] at A1
  rw [g0.out] at S
  rw [g3.out, g4.out] at J2
  rw [g3.out] at H2
  rw [g5.out] at R2
  rw [g6.out, g7.out] at A2
  clear g0 g1 g2 g3 g4 g5 g6 g7
  go_enter Tryd.func4, Tryd.ntmps4
  go_wp2_with fail
  refine (x3_able_any _).mono ?_
  rintro e w1 ⟨rfl, hb1⟩
  have pa : AtL w1 (w.heap.size) [.int .i64 s, .int .i64 t, .int .i64 l, .int .i64 b, .int .i64 r] := AtL.below hb1 ((AtL.new0 w _ _).alloc _)
  have pc : AtL w1 (w.heap.size + 1) [.int .i64 cs, .int .i64 cr, .int .i64 cc] := AtL.below hb1 (AtL.new1 w _ _ _)
  have hB1 : Below w.heap.size w w1 := by with_reducible repeat (first | exact Below.refl _ _ | refine x3_below_drewN ?_ _ | refine Below.setCell ?_ (by first | (simp; done) | (simp; omega) | omega) _ | refine Below.drew ?_ | refine x3_below_end ?_ (by assumption) | refine x3_ball ?_ _)
  clear hb1
  obtain ⟨pac0, pac1, pac2, pac3, pac4⟩ := pa.f5
  go_wp2_with fail
  refine (A1 _).mono ?_
  rintro e w2 ⟨rfl, hb2⟩
  replace pa := AtL.below hb2 pa
  replace pc := AtL.below hb2 pc
  have hB2 := x3_below_end hB1 hb2
  clear pac0 pac1 pac2 pac3 pac4
  clear hb2 hB1
  obtain ⟨pac0, pac1, pac2, pac3, pac4⟩ := pa.f5
  have lpa := pa.lt
  go_wp2_with fail
  refine (S _).mono ?_
  rintro e w3 ⟨rfl, hb3⟩
  replace pa := AtL.below hb3 (AtL.alloc pa _)
  replace pc := AtL.below hb3 (AtL.alloc pc _)
  have px : AtL w3 w2.heap.size [.int .i64 x0, .int .i64 x1, .int .i64 x2] := AtL.below hb3 (AtL.new0 w2 _ _)
  have hB3 := x3_below_end (x3_ball hB2 _) hb3
  clear pac0 pac1 pac2 pac3 pac4 lpa
  clear hb3 hB2
  generalize w2.heap.size = kpx at *
  obtain ⟨pac0, pac1, pac2, pac3, pac4⟩ := pa.f5
  obtain ⟨pxc0, pxc1, pxc2⟩ := px.f3
  go_wp2_with fail
  refine (J2 _).mono ?_
  rintro e w4 ⟨rfl, hb4⟩
  replace pa := AtL.below hb4 pa
  replace pc := AtL.below hb4 pc
  replace px := AtL.below hb4 px
  have hB4 := x3_below_end hB3 hb4
  clear pac0 pac1 pac2 pac3 pac4 pxc0 pxc1 pxc2
  clear hb4 hB3
  obtain ⟨pac0, pac1, pac2, pac3, pac4⟩ := pa.f5
  go_wp2_with fail
  refine (A2 _).mono ?_
  rintro e w5 ⟨rfl, hb5⟩
  replace pa := AtL.below hb5 pa
  replace pc := AtL.below hb5 pc
  replace px := AtL.below hb5 px
  have hB5 := x3_below_end hB4 hb5
  clear pac0 pac1 pac2 pac3 pac4
  clear hb5 hB4
  obtain ⟨pac0, pac1, pac2, pac3, pac4⟩ := pa.f5
  have lpa := pa.lt
  obtain ⟨pxc0, pxc1, pxc2⟩ := px.f3
  have lpx := px.lt
  go_wp2_with fail
  refine (H2 _).mono ?_
  rintro e w6 ⟨rfl, hb6⟩
  replace pa := AtL.below hb6 (AtL.alloc pa _)
  replace pc := AtL.below hb6 (AtL.alloc pc _)
  replace px := AtL.below hb6 (AtL.alloc px _)
  have py : AtL w6 w5.heap.size [.int .i64 y0, .int .i64 y1, .int .i64 y2] := AtL.below hb6 (AtL.new0 w5 _ _)
  have hB6 := x3_below_end (x3_ball hB5 _) hb6
  clear pac0 pac1 pac2 pac3 pac4 lpa pxc0 pxc1 pxc2 lpx
  clear hb6 hB5
  generalize w5.heap.size = kpy at *
  obtain ⟨pxc0, pxc1, pxc2⟩ := px.f3
  go_wp2_with fail
  refine (R2 _).mono ?_
  rintro e w7 ⟨rfl, hb7⟩
  replace pa := AtL.below hb7 pa
  replace pc := AtL.below hb7 pc
  replace px := AtL.below hb7 px
  replace py := AtL.below hb7 py
  have hB7 := x3_below_end hB6 hb7
  clear pxc0 pxc1 pxc2
  clear hb7 hB6
  obtain ⟨pac0, pac1, pac2, pac3, pac4⟩ := pa.f5
  obtain ⟨pcc0, pcc1, pcc2⟩ := pc.f3
  go_wp2_with fail
  refine (J1 _).mono ?_
  rintro e w8 ⟨rfl, hb8⟩
  replace pa := AtL.below hb8 pa
  replace pc := AtL.below hb8 pc
  replace px := AtL.below hb8 px
  replace py := AtL.below hb8 py
  have hB8 := x3_below_end hB7 hb8
  clear pac0 pac1 pac2 pac3 pac4 pcc0 pcc1 pcc2
  clear hb8 hB7
  obtain ⟨pac0, pac1, pac2, pac3, pac4⟩ := pa.f5
  obtain ⟨pcc0, pcc1, pcc2⟩ := pc.f3
  go_wp2_with fail
  refine (H1 _).mono ?_
  rintro e w9 ⟨rfl, hb9⟩
  replace pa := AtL.below hb9 pa
  replace pc := AtL.below hb9 pc
  replace px := AtL.below hb9 px
  replace py := AtL.below hb9 py
  have hB9 := x3_below_end hB8 hb9
  clear pac0 pac1 pac2 pac3 pac4 pcc0 pcc1 pcc2
  clear hb9 hB8
  go_wp2
  go_ret
  exact ⟨rfl, hB9⟩

theorem count_main (s t l b r cs cr cc k : Int) (w : World) :
    Calls Tryd.prog 4 #[.agg #[.int .i64 s, .int .i64 t, .int .i64 l, .int .i64 b, .int .i64 r], .int .i64 k, .agg #[.int .i64 cs, .int .i64 cr, .int .i64 cc]] w fun e w' => e = .returned (.bool true) ∧ Below w.heap.size w w' := by
  have hz := Wpl.sizeA_le s t l b r
  cases h : Wpl.hasA s t l b r cs cr cc with
  | true =>
    have hat := Wpl.at_index h
    cases g : Wpl.atOk s t l b r k with
    | false =>
      have gv : Wpl.atV s t l b r k = ⟨0, 0, 0⟩ := by unfold Wpl.atV; rw [g]; rfl
      by_cases hk : k < 0
      · exact count_low_yes s t l b r cs cr cc k (Wpl.indexV s t l b r cs cr cc) w h rfl hat.1 hat.2 hk g gv
      · have g' := g
        unfold Wpl.atOk at g'
        rw [Wpl.inB_not] at g'
        exact count_high_yes s t l b r cs cr cc k (Wpl.indexV s t l b r cs cr cc) w h rfl hat.1 hat.2 (Wpl.sizeA s t l b r) (by omega) (by omega) rfl g gv
    | true =>
      have g' := g
      unfold Wpl.atOk at g'
      rw [Wpl.inB_iff] at g'
      have i := Wpl.index_at g
      have j := Wpl.num_right g
      cases m : Wpl.atOk s t l b r (k + 1) with
      | true =>
        have i2 := Wpl.index_at m
        exact count_okm_yes s t l b r cs cr cc k (Wpl.indexV s t l b r cs cr cc) w h rfl hat.1 hat.2 (Wpl.sizeA s t l b r) _ _ _ _ _ _ g'.1 g'.2 hz.2 rfl g i.1 i.2.1 i.2.2 j m i2.1 (Wpl.num_next g m)
      | false =>
        have mv : Wpl.atV s t l b r (k + 1) = ⟨0, 0, 0⟩ := by unfold Wpl.atV; rw [m]; rfl
        exact count_okl_yes s t l b r cs cr cc k (Wpl.indexV s t l b r cs cr cc) w h rfl hat.1 hat.2 (Wpl.sizeA s t l b r) _ _ _ _ _ _ g'.1 g'.2 hz.2 rfl g i.1 i.2.1 i.2.2 j m mv
  | false =>
    have hat : Wpl.indexV s t l b r cs cr cc = 0 := by unfold Wpl.indexV; rw [h]; rfl
    cases g : Wpl.atOk s t l b r k with
    | false =>
      have gv : Wpl.atV s t l b r k = ⟨0, 0, 0⟩ := by unfold Wpl.atV; rw [g]; rfl
      by_cases hk : k < 0
      · exact count_low_no s t l b r cs cr cc k 0 w h hat hk g gv
      · have g' := g
        unfold Wpl.atOk at g'
        rw [Wpl.inB_not] at g'
        exact count_high_no s t l b r cs cr cc k 0 w h hat (Wpl.sizeA s t l b r) (by omega) (by omega) rfl g gv
    | true =>
      have g' := g
      unfold Wpl.atOk at g'
      rw [Wpl.inB_iff] at g'
      have i := Wpl.index_at g
      have j := Wpl.num_right g
      cases m : Wpl.atOk s t l b r (k + 1) with
      | true =>
        have i2 := Wpl.index_at m
        exact count_okm_no s t l b r cs cr cc k 0 w h hat (Wpl.sizeA s t l b r) _ _ _ _ _ _ g'.1 g'.2 hz.2 rfl g i.1 i.2.1 i.2.2 j m i2.1 (Wpl.num_next g m)
      | false =>
        have mv : Wpl.atV s t l b r (k + 1) = ⟨0, 0, 0⟩ := by unfold Wpl.atV; rw [m]; rfl
        exact count_okl_no s t l b r cs cr cc k 0 w h hat (Wpl.sizeA s t l b r) _ _ _ _ _ _ g'.1 g'.2 hz.2 rfl g i.1 i.2.1 i.2.2 j m mv
end Go.Proofs.YtdjhegmkmopnfabDoor
