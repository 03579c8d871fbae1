/- PlaceAreas: One, Meet, Size, Has, At, Index against the document's own. -/
import Derived.Test.YtdjhegmkmopnfaaDoorPWalkO
import Derived.Test.YtdjhegmkmopnfaaDoorPWalkQ
import Derived.Test.YtdjhegmkmopnfaaDoorPWalkM
import Derived.Test.YtdjhegmkmopnfaaDoorPWalkG
import Derived.Test.YtdjhegmkmopnfaaDoorPWalkF
namespace Go.Proofs.YtdjhegmkmopnfaaDoor
open Go.RowKit
set_option linter.unusedVariables false

abbrev ArS (ka kc : Nat) (s t l b r cs cr cc : Int) (W : World) : Prop :=
  W.cell? ⟨ka, 0, none⟩ = some (.int .i64 s) ∧ W.cell? ⟨ka, 1, none⟩ = some (.int .i64 t) ∧ W.cell? ⟨ka, 2, none⟩ = some (.int .i64 l) ∧ W.cell? ⟨ka, 3, none⟩ = some (.int .i64 b) ∧ W.cell? ⟨ka, 4, none⟩ = some (.int .i64 r) ∧ W.cell? ⟨kc, 0, none⟩ = some (.int .i64 cs) ∧ W.cell? ⟨kc, 1, none⟩ = some (.int .i64 cr) ∧ W.cell? ⟨kc, 2, none⟩ = some (.int .i64 cc)
theorem ArS_below {ka kc : Nat} {s t l b r cs cr cc : Int} {W W' : World} (hb : Below W.heap.size W W') (h : ArS ka kc  s t l b r cs cr cc  W) : ArS ka kc  s t l b r cs cr cc  W' :=
  ⟨cell_below hb (h.1), cell_below hb (h.2.1), cell_below hb (h.2.2.1), cell_below hb (h.2.2.2.1), cell_below hb (h.2.2.2.2.1), cell_below hb (h.2.2.2.2.2.1), cell_below hb (h.2.2.2.2.2.2.1), cell_below hb (h.2.2.2.2.2.2.2)⟩
theorem ArS_drew {ka kc : Nat} {s t l b r cs cr cc : Int} {W : World} (h : ArS ka kc  s t l b r cs cr cc  W) : ArS ka kc  s t l b r cs cr cc  W.drew := ArS_below (Below.refl _ _).drew h
theorem ArS_alloc {ka kc : Nat} {s t l b r cs cr cc : Int} {W : World} (h : ArS ka kc  s t l b r cs cr cc  W) (o : Obj) : ArS ka kc  s t l b r cs cr cc  (W.alloc o) := ArS_below ((Below.refl _ _).alloc (Nat.le_refl _) _) h
theorem ArS_mk {ka kc : Nat} {s t l b r cs cr cc : Int} {W : World} (h0 : AtL W (ka) [.int .i64 s, .int .i64 t, .int .i64 l, .int .i64 b, .int .i64 r]) (h1 : AtL W (kc) [.int .i64 cs, .int .i64 cr, .int .i64 cc]) : ArS ka kc  s t l b r cs cr cc  W :=
  ⟨h0.2.1 0 _ rfl, h0.2.1 1 _ rfl, h0.2.1 2 _ rfl, h0.2.1 3 _ rfl, h0.2.1 4 _ rfl, h1.2.1 0 _ rfl, h1.2.1 1 _ rfl, h1.2.1 2 _ rfl⟩

set_option maxHeartbeats 3200000 in
theorem areas_main (s t l b r s' t' l' b' r' cs cr cc k : Int) (w : World) :
    Calls Tryd.prog 5 #[.agg #[.int .i64 s, .int .i64 t, .int .i64 l, .int .i64 b, .int .i64 r], .agg #[.int .i64 s', .int .i64 t', .int .i64 l', .int .i64 b', .int .i64 r'], .agg #[.int .i64 cs, .int .i64 cr, .int .i64 cc], .int .i64 k] w fun e w' => e = .returned (.bool true) ∧ Below w.heap.size w w' := by
  have C1 := fun w => x3_one_any cs cr cc w
  have C2 := fun w => rone_any cs cr cc w
  have C3 := fun w => meet_any s t l b r s' t' l' b' r' w
  have C4 := fun w => rmeet_any s t l b r s' t' l' b' r' w
  have C5 := fun w => at_any s t l b r k w
  have C6 := fun w => rat_any s t l b r k w
  have C7 := fun w => pindex_any s t l b r cs cr cc w
  have C8 := fun w => rindex_any s t l b r cs cr cc w
  have C9 := fun w => x3_size_any s t l b r w
  have C10 := fun w => rsize_any s t l b r w
  have C11 := fun w => has_any s t l b r cs cr cc w
  have C12 := fun w => rhas_any s t l b r cs cr cc w
  generalize oneV cs cr cc = V1 at *
  generalize Wpl.rightC cs cr cc = o1 at *
  generalize Wpl.meetV ⟨s, t, l, b, r⟩ ⟨s', t', l', b', r'⟩ = V2 at *
  generalize Wpl.meetOk ⟨s, t, l, b, r⟩ ⟨s', t', l', b', r'⟩ = o2 at *
  generalize Wpl.atV s t l b r k = V3 at *
  generalize Wpl.atOk s t l b r k = o3 at *
  generalize Wpl.indexV s t l b r cs cr cc = V4 at *
  generalize Wpl.hasA s t l b r cs cr cc = o4 at *
  generalize Wpl.sizeA s t l b r = V5 at *
  obtain ⟨x0, x1, x2, x3, x4⟩ := V1
  obtain ⟨u0, u1, u2, u3, u4⟩ := V2
  obtain ⟨d0, d1, d2⟩ := V3
  go_enter Tryd.func5, Tryd.ntmps5
  go_wp2_with fail
  refine (C1 _).mono ?_
  rintro e w1 ⟨rfl, hb1⟩
  have pa : AtL w1 (w.heap.size) [.int .i64 s, .int .i64 t, .int .i64 l, .int .i64 b, .int .i64 r] := AtL.below hb1 (((AtL.new0 w _ _).alloc _).alloc _)
  have pb : AtL w1 (w.heap.size + 1) [.int .i64 s', .int .i64 t', .int .i64 l', .int .i64 b', .int .i64 r'] := AtL.below hb1 ((AtL.new1 w _ _ _).alloc _)
  have pc : AtL w1 (w.heap.size + 2) [.int .i64 cs, .int .i64 cr, .int .i64 cc] := AtL.below hb1 (AtL.new ((w.alloc _).alloc _) _ (by simp only [World.size_alloc]) _)
  have hB1 : Below w.heap.size w w1 := by with_reducible repeat (first | exact Below.refl _ _ | refine x3_below_drewN ?_ _ | refine Below.setCell ?_ (by first | (simp; done) | (simp; omega) | omega) _ | refine Below.drew ?_ | refine x3_below_end ?_ (by assumption) | refine x3_ball ?_ _)
  clear hb1
  obtain ⟨pcc0, pcc1, pcc2⟩ := pc.f3
  have lpc := pc.lt
  go_wp2_with fail
  refine (C2 _).mono ?_
  rintro e w2 ⟨rfl, hb2⟩
  replace pa := AtL.below hb2 (AtL.alloc pa _)
  replace pb := AtL.below hb2 (AtL.alloc pb _)
  replace pc := AtL.below hb2 (AtL.alloc pc _)
  have px : AtL w2 w1.heap.size [.int .i64 x0, .int .i64 x1, .int .i64 x2, .int .i64 x3, .int .i64 x4] := AtL.below hb2 (AtL.new0 w1 _ _)
  have hB2 := x3_below_end (x3_ball hB1 _) hb2
  clear pcc0 pcc1 pcc2 lpc
  clear hb2 hB1
  generalize w1.heap.size = kpx at *
  obtain ⟨pac0, pac1, pac2, pac3, pac4⟩ := pa.f5
  have lpa := pa.lt
  obtain ⟨pbc0, pbc1, pbc2, pbc3, pbc4⟩ := pb.f5
  have lpb := pb.lt
  go_wp2_with fail
  refine (C3 _).mono ?_
  rintro e w3 ⟨rfl, hb3⟩
  replace pa := AtL.below hb3 (AtL.alloc pa _)
  replace pb := AtL.below hb3 (AtL.alloc pb _)
  replace pc := AtL.below hb3 (AtL.alloc pc _)
  replace px := AtL.below hb3 (AtL.alloc px _)
  have py : AtL w3 w2.heap.size [.int .i64 x0, .int .i64 x1, .int .i64 x2, .int .i64 x3, .int .i64 x4] := AtL.below hb3 (AtL.new0 w2 _ _)
  have hB3 := x3_below_end (x3_ball hB2 _) hb3
  clear pac0 pac1 pac2 pac3 pac4 lpa pbc0 pbc1 pbc2 pbc3 pbc4 lpb
  clear hb3 hB2
  generalize w2.heap.size = kpy at *
  obtain ⟨pac0, pac1, pac2, pac3, pac4⟩ := pa.f5
  have lpa := pa.lt
  obtain ⟨pbc0, pbc1, pbc2, pbc3, pbc4⟩ := pb.f5
  have lpb := pb.lt
  go_wp2_with fail
  refine (C4 _).mono ?_
  rintro e w4 ⟨rfl, hb4⟩
  replace pa := AtL.below hb4 (AtL.alloc pa _)
  replace pb := AtL.below hb4 (AtL.alloc pb _)
  replace pc := AtL.below hb4 (AtL.alloc pc _)
  replace px := AtL.below hb4 (AtL.alloc px _)
  replace py := AtL.below hb4 (AtL.alloc py _)
  have pu : AtL w4 w3.heap.size [.int .i64 u0, .int .i64 u1, .int .i64 u2, .int .i64 u3, .int .i64 u4] := AtL.below hb4 (AtL.new0 w3 _ _)
  have hB4 := x3_below_end (x3_ball hB3 _) hb4
  clear pac0 pac1 pac2 pac3 pac4 lpa pbc0 pbc1 pbc2 pbc3 pbc4 lpb
  clear hb4 hB3
  generalize w3.heap.size = kpu at *
  obtain ⟨pac0, pac1, pac2, pac3, pac4⟩ := pa.f5
  have lpa := pa.lt
  go_wp2_with fail
  refine (C5 _).mono ?_
  rintro e w5 ⟨rfl, hb5⟩
  replace pa := AtL.below hb5 (AtL.alloc pa _)
  replace pb := AtL.below hb5 (AtL.alloc pb _)
  replace pc := AtL.below hb5 (AtL.alloc pc _)
  replace px := AtL.below hb5 (AtL.alloc px _)
  replace py := AtL.below hb5 (AtL.alloc py _)
  replace pu := AtL.below hb5 (AtL.alloc pu _)
  have pv : AtL w5 w4.heap.size [.int .i64 u0, .int .i64 u1, .int .i64 u2, .int .i64 u3, .int .i64 u4] := AtL.below hb5 (AtL.new0 w4 _ _)
  have hB5 := x3_below_end (x3_ball hB4 _) hb5
  clear pac0 pac1 pac2 pac3 pac4 lpa
  clear hb5 hB4
  generalize w4.heap.size = kpv at *
  obtain ⟨pac0, pac1, pac2, pac3, pac4⟩ := pa.f5
  have lpa := pa.lt
  go_wp2_with fail
  refine (C6 _).mono ?_
  rintro e w6 ⟨rfl, hb6⟩
  replace pa := AtL.below hb6 (AtL.alloc pa _)
  replace pb := AtL.below hb6 (AtL.alloc pb _)
  replace pc := AtL.below hb6 (AtL.alloc pc _)
  replace px := AtL.below hb6 (AtL.alloc px _)
  replace py := AtL.below hb6 (AtL.alloc py _)
  replace pu := AtL.below hb6 (AtL.alloc pu _)
  replace pv := AtL.below hb6 (AtL.alloc pv _)
  have pd : AtL w6 w5.heap.size [.int .i64 d0, .int .i64 d1, .int .i64 d2] := AtL.below hb6 (AtL.new0 w5 _ _)
  have hB6 := x3_below_end (x3_ball hB5 _) hb6
  clear pac0 pac1 pac2 pac3 pac4 lpa
  clear hb6 hB5
  generalize w5.heap.size = kpd at *
  obtain ⟨pac0, pac1, pac2, pac3, pac4⟩ := pa.f5
  have lpa := pa.lt
  obtain ⟨pcc0, pcc1, pcc2⟩ := pc.f3
  have lpc := pc.lt
  go_wp2_with fail
  refine (C7 _).mono ?_
  rintro e w7 ⟨rfl, hb7⟩
  replace pa := AtL.below hb7 (AtL.alloc pa _)
  replace pb := AtL.below hb7 (AtL.alloc pb _)
  replace pc := AtL.below hb7 (AtL.alloc pc _)
  replace px := AtL.below hb7 (AtL.alloc px _)
  replace py := AtL.below hb7 (AtL.alloc py _)
  replace pu := AtL.below hb7 (AtL.alloc pu _)
  replace pv := AtL.below hb7 (AtL.alloc pv _)
  replace pd := AtL.below hb7 (AtL.alloc pd _)
  have pe : AtL w7 w6.heap.size [.int .i64 d0, .int .i64 d1, .int .i64 d2] := AtL.below hb7 (AtL.new0 w6 _ _)
  have hB7 := x3_below_end (x3_ball hB6 _) hb7
  clear pac0 pac1 pac2 pac3 pac4 lpa pcc0 pcc1 pcc2 lpc
  clear hb7 hB6
  generalize w6.heap.size = kpe at *
  obtain ⟨pac0, pac1, pac2, pac3, pac4⟩ := pa.f5
  obtain ⟨pcc0, pcc1, pcc2⟩ := pc.f3
  go_wp2_with fail
  refine (C8 _).mono ?_
  rintro e w8 ⟨rfl, hb8⟩
  replace pa := AtL.below hb8 pa
  replace pb := AtL.below hb8 pb
  replace pc := AtL.below hb8 pc
  replace px := AtL.below hb8 px
  replace py := AtL.below hb8 py
  replace pu := AtL.below hb8 pu
  replace pv := AtL.below hb8 pv
  replace pd := AtL.below hb8 pd
  replace pe := AtL.below hb8 pe
  have hB8 := x3_below_end hB7 hb8
  clear pac0 pac1 pac2 pac3 pac4 pcc0 pcc1 pcc2
  clear hb8 hB7
  obtain ⟨pxc0, pxc1, pxc2, pxc3, pxc4⟩ := px.f5
  obtain ⟨pyc0, pyc1, pyc2, pyc3, pyc4⟩ := py.f5
  obtain ⟨puc0, puc1, puc2, puc3, puc4⟩ := pu.f5
  obtain ⟨pvc0, pvc1, pvc2, pvc3, pvc4⟩ := pv.f5
  obtain ⟨pdc0, pdc1, pdc2⟩ := pd.f3
  obtain ⟨pec0, pec1, pec2⟩ := pe.f3
  go_upto_region 11 with fail
  clear pxc0 pxc1 pxc2 pxc3 pxc4 pyc0 pyc1 pyc2 pyc3 pyc4 puc0 puc1 puc2 puc3 puc4 pvc0 pvc1 pvc2 pvc3 pvc4 pdc0 pdc1 pdc2 pec0 pec1 pec2
  have hS := ArS_mk pa pc
  clear C1 C2 C3 C4 C5 C6 C7 C8 pa pb pc px py pu pv pd pe
  generalize w.heap.size + 2 = kc at *
  go_region_held3 (ArS w.heap.size kc s t l b r cs cr cc)
    (with_reducible first | exact hS | assumption | exact ArS_drew hS | exact ArS_below hb (by assumption))
    (first
    | (go_at_call 9; refine (x3_able_any _).mono ?_; rintro e w9 ⟨rfl, hb⟩; have hB9 := x3_below_end hB8.drew hb)
    | (go_at_call 32; refine (C9 _).mono ?_; rintro e w9 ⟨rfl, hb⟩; replace hB9 := x3_below_end hB9 hb)
    | (go_at_call 33; refine (C10 _).mono ?_; rintro e w9 ⟨rfl, hb⟩; replace hB9 := x3_below_end hB9 hb)
    | (go_at_call 34; refine (C11 _).mono ?_; rintro e w9 ⟨rfl, hb⟩; replace hB9 := x3_below_end hB9 hb)
    | (go_at_call 35; refine (C12 _).mono ?_; rintro e w9 ⟨rfl, hb⟩; replace hB9 := x3_below_end hB9 hb))
  all_goals
    go_wp2
    go_ret
    exact ⟨by simp, hB9⟩
end Go.Proofs.YtdjhegmkmopnfaaDoor
