/- PlaceMeets: what two areas have in common, the order of two, three of them. -/

import Derived.Test.YtdjhegmkmopnfabDoorPWalkM
import Derived.Test.YtdjhegmkmopnfabDoorPWalkF
namespace Go.Proofs.YtdjhegmkmopnfabDoor
open Go.RowKit
set_option linter.unusedVariables false

abbrev MeS (ka kb kc kx : Nat) (a_s a_t a_l a_b a_r b_s b_t b_l b_b b_r cs cr cc x0 x1 x2 x3 x4 : Int) (W : World) : Prop :=
  W.cell? ⟨ka, 0, none⟩ = some (.int .i64 a_s) ∧ W.cell? ⟨ka, 1, none⟩ = some (.int .i64 a_t) ∧ W.cell? ⟨ka, 2, none⟩ = some (.int .i64 a_l) ∧ W.cell? ⟨ka, 3, none⟩ = some (.int .i64 a_b) ∧ W.cell? ⟨ka, 4, none⟩ = some (.int .i64 a_r) ∧ W.cell? ⟨kb, 0, none⟩ = some (.int .i64 b_s) ∧ W.cell? ⟨kb, 1, none⟩ = some (.int .i64 b_t) ∧ W.cell? ⟨kb, 2, none⟩ = some (.int .i64 b_l) ∧ W.cell? ⟨kb, 3, none⟩ = some (.int .i64 b_b) ∧ W.cell? ⟨kb, 4, none⟩ = some (.int .i64 b_r) ∧ W.cell? ⟨kc, 0, none⟩ = some (.int .i64 cs) ∧ W.cell? ⟨kc, 1, none⟩ = some (.int .i64 cr) ∧ W.cell? ⟨kc, 2, none⟩ = some (.int .i64 cc) ∧ W.cell? ⟨kx, 0, none⟩ = some (.int .i64 x0) ∧ W.cell? ⟨kx, 1, none⟩ = some (.int .i64 x1) ∧ W.cell? ⟨kx, 2, none⟩ = some (.int .i64 x2) ∧ W.cell? ⟨kx, 3, none⟩ = some (.int .i64 x3) ∧ W.cell? ⟨kx, 4, none⟩ = some (.int .i64 x4)
theorem MeS_below {ka kb kc kx : Nat} {a_s a_t a_l a_b a_r b_s b_t b_l b_b b_r cs cr cc x0 x1 x2 x3 x4 : Int} {W W' : World} (hb : Below W.heap.size W W') (h : MeS ka kb kc kx  a_s a_t a_l a_b a_r b_s b_t b_l b_b b_r cs cr cc x0 x1 x2 x3 x4  W) : MeS ka kb kc kx  a_s a_t a_l a_b a_r b_s b_t b_l b_b b_r cs cr cc x0 x1 x2 x3 x4  W' :=
  ⟨cell_below hb (h.1), cell_below hb (h.2.1), cell_below hb (h.2.2.1), cell_below hb (h.2.2.2.1), cell_below hb (h.2.2.2.2.1), cell_below hb (h.2.2.2.2.2.1), cell_below hb (h.2.2.2.2.2.2.1), cell_below hb (h.2.2.2.2.2.2.2.1), cell_below hb (h.2.2.2.2.2.2.2.2.1), cell_below hb (h.2.2.2.2.2.2.2.2.2.1), cell_below hb (h.2.2.2.2.2.2.2.2.2.2.1), cell_below hb (h.2.2.2.2.2.2.2.2.2.2.2.1), cell_below hb (h.2.2.2.2.2.2.2.2.2.2.2.2.1), cell_below hb (h.2.2.2.2.2.2.2.2.2.2.2.2.2.1), cell_below hb (h.2.2.2.2.2.2.2.2.2.2.2.2.2.2.1), cell_below hb (h.2.2.2.2.2.2.2.2.2.2.2.2.2.2.2.1), cell_below hb (h.2.2.2.2.2.2.2.2.2.2.2.2.2.2.2.2.1), cell_below hb (h.2.2.2.2.2.2.2.2.2.2.2.2.2.2.2.2.2)⟩
theorem MeS_drew {ka kb kc kx : Nat} {a_s a_t a_l a_b a_r b_s b_t b_l b_b b_r cs cr cc x0 x1 x2 x3 x4 : Int} {W : World} (h : MeS ka kb kc kx  a_s a_t a_l a_b a_r b_s b_t b_l b_b b_r cs cr cc x0 x1 x2 x3 x4  W) : MeS ka kb kc kx  a_s a_t a_l a_b a_r b_s b_t b_l b_b b_r cs cr cc x0 x1 x2 x3 x4  W.drew := MeS_below (Below.refl _ _).drew h
theorem MeS_alloc {ka kb kc kx : Nat} {a_s a_t a_l a_b a_r b_s b_t b_l b_b b_r cs cr cc x0 x1 x2 x3 x4 : Int} {W : World} (h : MeS ka kb kc kx  a_s a_t a_l a_b a_r b_s b_t b_l b_b b_r cs cr cc x0 x1 x2 x3 x4  W) (o : Obj) : MeS ka kb kc kx  a_s a_t a_l a_b a_r b_s b_t b_l b_b b_r cs cr cc x0 x1 x2 x3 x4  (W.alloc o) := MeS_below ((Below.refl _ _).alloc (Nat.le_refl _) _) h
theorem MeS_mk {ka kb kc kx : Nat} {a_s a_t a_l a_b a_r b_s b_t b_l b_b b_r cs cr cc x0 x1 x2 x3 x4 : Int} {W : World} (h0 : AtL W (ka) [.int .i64 a_s, .int .i64 a_t, .int .i64 a_l, .int .i64 a_b, .int .i64 a_r]) (h1 : AtL W (kb) [.int .i64 b_s, .int .i64 b_t, .int .i64 b_l, .int .i64 b_b, .int .i64 b_r]) (h2 : AtL W (kc) [.int .i64 cs, .int .i64 cr, .int .i64 cc]) (h3 : AtL W (kx) [.int .i64 x0, .int .i64 x1, .int .i64 x2, .int .i64 x3, .int .i64 x4]) : MeS ka kb kc kx  a_s a_t a_l a_b a_r b_s b_t b_l b_b b_r cs cr cc x0 x1 x2 x3 x4  W :=
  ⟨h0.2.1 0 _ rfl, h0.2.1 1 _ rfl, h0.2.1 2 _ rfl, h0.2.1 3 _ rfl, h0.2.1 4 _ rfl, h1.2.1 0 _ rfl, h1.2.1 1 _ rfl, h1.2.1 2 _ rfl, h1.2.1 3 _ rfl, h1.2.1 4 _ rfl, h2.2.1 0 _ rfl, h2.2.1 1 _ rfl, h2.2.1 2 _ rfl, h3.2.1 0 _ rfl, h3.2.1 1 _ rfl, h3.2.1 2 _ rfl, h3.2.1 3 _ rfl, h3.2.1 4 _ rfl⟩

set_option maxRecDepth 100000 in
set_option maxHeartbeats 6400000 in
theorem meets_core (a_s a_t a_l a_b a_r b_s b_t b_l b_b b_r d_s d_t d_l d_b d_r cs cr cc x0 x1 x2 x3 x4 l0 l1 l2 l3 l4 m0 m1 m2 m3 m4 r0 r1 r2 r3 r4 f0 f1 f2 f3 f4 : Int) (ok hx ha hb p q sv whole : Bool) (w : World)
    (M1 : ∀ w, Calls Tryd.prog 22 #[.agg #[.int .i64 a_s, .int .i64 a_t, .int .i64 a_l, .int .i64 a_b, .int .i64 a_r], .agg #[.int .i64 b_s, .int .i64 b_t, .int .i64 b_l, .int .i64 b_b, .int .i64 b_r]] w fun e w' => e = .returned (.tuple #[.agg #[.int .i64 x0, .int .i64 x1, .int .i64 x2, .int .i64 x3, .int .i64 x4], .bool ok]) ∧ Below w.heap.size w w')
    (M2 : ∀ w, Calls Tryd.prog 22 #[.agg #[.int .i64 b_s, .int .i64 b_t, .int .i64 b_l, .int .i64 b_b, .int .i64 b_r], .agg #[.int .i64 a_s, .int .i64 a_t, .int .i64 a_l, .int .i64 a_b, .int .i64 a_r]] w fun e w' => e = .returned (.tuple #[.agg #[.int .i64 x0, .int .i64 x1, .int .i64 x2, .int .i64 x3, .int .i64 x4], .bool ok]) ∧ Below w.heap.size w w')
    (M3 : ∀ w, Calls Tryd.prog 22 #[.agg #[.int .i64 x0, .int .i64 x1, .int .i64 x2, .int .i64 x3, .int .i64 x4], .agg #[.int .i64 d_s, .int .i64 d_t, .int .i64 d_l, .int .i64 d_b, .int .i64 d_r]] w fun e w' => e = .returned (.tuple #[.agg #[.int .i64 l0, .int .i64 l1, .int .i64 l2, .int .i64 l3, .int .i64 l4], .bool p]) ∧ Below w.heap.size w w')
    (M4 : ∀ w, Calls Tryd.prog 22 #[.agg #[.int .i64 b_s, .int .i64 b_t, .int .i64 b_l, .int .i64 b_b, .int .i64 b_r], .agg #[.int .i64 d_s, .int .i64 d_t, .int .i64 d_l, .int .i64 d_b, .int .i64 d_r]] w fun e w' => e = .returned (.tuple #[.agg #[.int .i64 m0, .int .i64 m1, .int .i64 m2, .int .i64 m3, .int .i64 m4], .bool q]) ∧ Below w.heap.size w w')
    (M5 : ∀ w, Calls Tryd.prog 22 #[.agg #[.int .i64 a_s, .int .i64 a_t, .int .i64 a_l, .int .i64 a_b, .int .i64 a_r], .agg #[.int .i64 m0, .int .i64 m1, .int .i64 m2, .int .i64 m3, .int .i64 m4]] w fun e w' => e = .returned (.tuple #[.agg #[.int .i64 r0, .int .i64 r1, .int .i64 r2, .int .i64 r3, .int .i64 r4], .bool sv]) ∧ Below w.heap.size w w')
    (M6 : ∀ w, Calls Tryd.prog 22 #[.agg #[.int .i64 a_s, .int .i64 a_t, .int .i64 a_l, .int .i64 a_b, .int .i64 a_r], .agg #[.int .i64 a_s, .int .i64 a_t, .int .i64 a_l, .int .i64 a_b, .int .i64 a_r]] w fun e w' => e = .returned (.tuple #[.agg #[.int .i64 f0, .int .i64 f1, .int .i64 f2, .int .i64 f3, .int .i64 f4], .bool whole]) ∧ Below w.heap.size w w')
    (RA : ∀ w, Calls Tryd.prog 14 #[.agg #[.int .i64 a_s, .int .i64 a_t, .int .i64 a_l, .int .i64 a_b, .int .i64 a_r]] w fun e w' => e = .returned (.bool whole) ∧ Below w.heap.size w w')
    (HX : ∀ w, Calls Tryd.prog 20 #[.agg #[.int .i64 x0, .int .i64 x1, .int .i64 x2, .int .i64 x3, .int .i64 x4], .agg #[.int .i64 cs, .int .i64 cr, .int .i64 cc]] w fun e w' => e = .returned (.bool hx) ∧ Below w.heap.size w w')
    (HA : ∀ w, Calls Tryd.prog 20 #[.agg #[.int .i64 a_s, .int .i64 a_t, .int .i64 a_l, .int .i64 a_b, .int .i64 a_r], .agg #[.int .i64 cs, .int .i64 cr, .int .i64 cc]] w fun e w' => e = .returned (.bool ha) ∧ Below w.heap.size w w')
    (HB : ∀ w, Calls Tryd.prog 20 #[.agg #[.int .i64 b_s, .int .i64 b_t, .int .i64 b_l, .int .i64 b_b, .int .i64 b_r], .agg #[.int .i64 cs, .int .i64 cr, .int .i64 cc]] w fun e w' => e = .returned (.bool hb) ∧ Below w.heap.size w w')
    (F1 : Hid (ok = true → hx = (ha && hb))) (F2 : Hid (ok = false → (ha && hb) = false)) (F3 : Hid ((p && ok) = (sv && q))) (F4 : Hid ((p && ok) = true → l0 = r0 ∧ l1 = r1 ∧ l2 = r2 ∧ l3 = r3 ∧ l4 = r4)) (F5 : Hid (whole = true → f0 = a_s ∧ f1 = a_t ∧ f2 = a_l ∧ f3 = a_b ∧ f4 = a_r)) :
    Calls Tryd.prog 5 #[.agg #[.int .i64 a_s, .int .i64 a_t, .int .i64 a_l, .int .i64 a_b, .int .i64 a_r], .agg #[.int .i64 b_s, .int .i64 b_t, .int .i64 b_l, .int .i64 b_b, .int .i64 b_r], .agg #[.int .i64 d_s, .int .i64 d_t, .int .i64 d_l, .int .i64 d_b, .int .i64 d_r], .agg #[.int .i64 cs, .int .i64 cr, .int .i64 cc]] w fun e w' => e = .returned (.bool true) ∧ Below w.heap.size w w' := by
  go_enter Tryd.func5, Tryd.ntmps5
  go_wp2_with fail
  refine (x3_able_any _).mono ?_
  rintro e w1 ⟨rfl, hb1⟩
  have pa : AtL w1 (w.heap.size) [.int .i64 a_s, .int .i64 a_t, .int .i64 a_l, .int .i64 a_b, .int .i64 a_r] := AtL.below hb1 ((((AtL.new0 w _ _).alloc _).alloc _).alloc _)
  have pb : AtL w1 (w.heap.size + 1) [.int .i64 b_s, .int .i64 b_t, .int .i64 b_l, .int .i64 b_b, .int .i64 b_r] := AtL.below hb1 (((AtL.new1 w _ _ _).alloc _).alloc _)
  have pd : AtL w1 (w.heap.size + 2) [.int .i64 d_s, .int .i64 d_t, .int .i64 d_l, .int .i64 d_b, .int .i64 d_r] := AtL.below hb1 ((AtL.new ((w.alloc _).alloc _) _ (by simp only [World.size_alloc]) _).alloc _)
  have pc : AtL w1 (w.heap.size + 3) [.int .i64 cs, .int .i64 cr, .int .i64 cc] := AtL.below hb1 (AtL.new (((w.alloc _).alloc _).alloc _) _ (by simp only [World.size_alloc]) _)
  have hB1 : Below w.heap.size w w1 := by with_reducible repeat (first | exact Below.refl _ _ | refine x3_below_drewN ?_ _ | refine Below.setCell ?_ (by first | (simp; done) | (simp; omega) | omega) _ | refine Below.drew ?_ | refine x3_below_end ?_ (by assumption) | refine x3_ball ?_ _)
  clear hb1
  obtain ⟨pac0, pac1, pac2, pac3, pac4⟩ := pa.f5
  obtain ⟨pbc0, pbc1, pbc2, pbc3, pbc4⟩ := pb.f5
  go_wp2_with fail
  refine (M1 _).mono ?_
  rintro e w2 ⟨rfl, hb2⟩
  replace pa := AtL.below hb2 pa
  replace pb := AtL.below hb2 pb
  replace pd := AtL.below hb2 pd
  replace pc := AtL.below hb2 pc
  have hB2 := x3_below_end hB1 hb2
  clear pac0 pac1 pac2 pac3 pac4 pbc0 pbc1 pbc2 pbc3 pbc4
  clear hb2 hB1
  obtain ⟨pac0, pac1, pac2, pac3, pac4⟩ := pa.f5
  have lpa := pa.lt
  obtain ⟨pbc0, pbc1, pbc2, pbc3, pbc4⟩ := pb.f5
  have lpb := pb.lt
  go_wp2_with fail
  refine (M2 _).mono ?_
  rintro e w3 ⟨rfl, hb3⟩
  replace pa := AtL.below hb3 (AtL.alloc pa _)
  replace pb := AtL.below hb3 (AtL.alloc pb _)
  replace pd := AtL.below hb3 (AtL.alloc pd _)
  replace pc := AtL.below hb3 (AtL.alloc pc _)
  have px : AtL w3 w2.heap.size [.int .i64 x0, .int .i64 x1, .int .i64 x2, .int .i64 x3, .int .i64 x4] := AtL.below hb3 (AtL.new0 w2 _ _)
  have hB3 := x3_below_end (x3_ball hB2 _) hb3
  clear pac0 pac1 pac2 pac3 pac4 lpa pbc0 pbc1 pbc2 pbc3 pbc4 lpb
  clear hb3 hB2
  generalize w2.heap.size = kpx at *
  go_upto_region 5 with fail
  replace pa := AtL.alloc pa (.cells #[.int .i64 x0, .int .i64 x1, .int .i64 x2, .int .i64 x3, .int .i64 x4] 25)
  replace pb := AtL.alloc pb (.cells #[.int .i64 x0, .int .i64 x1, .int .i64 x2, .int .i64 x3, .int .i64 x4] 25)
  replace pd := AtL.alloc pd (.cells #[.int .i64 x0, .int .i64 x1, .int .i64 x2, .int .i64 x3, .int .i64 x4] 25)
  replace pc := AtL.alloc pc (.cells #[.int .i64 x0, .int .i64 x1, .int .i64 x2, .int .i64 x3, .int .i64 x4] 25)
  replace px := AtL.alloc px (.cells #[.int .i64 x0, .int .i64 x1, .int .i64 x2, .int .i64 x3, .int .i64 x4] 25)
  have py := AtL.new0 w3 25 [.int .i64 x0, .int .i64 x1, .int .i64 x2, .int .i64 x3, .int .i64 x4]
  have hB4 := x3_ball hB3 (.cells #[.int .i64 x0, .int .i64 x1, .int .i64 x2, .int .i64 x3, .int .i64 x4] 25)
  clear hB3
  generalize w3.heap.size = kpy at *
  generalize w3.alloc (.cells #[.int .i64 x0, .int .i64 x1, .int .i64 x2, .int .i64 x3, .int .i64 x4] 25) = w4 at *
  generalize w.heap.size + 3 = kc at *
  generalize w.heap.size + 2 = kd at *
  generalize w.heap.size + 1 = kb at *
  go_cut [59] (fun sc wx => sc = .bool false ∧ Below w.heap.size w wx ∧ AtL wx w.heap.size [.int .i64 a_s, .int .i64 a_t, .int .i64 a_l, .int .i64 a_b, .int .i64 a_r] ∧ AtL wx kb [.int .i64 b_s, .int .i64 b_t, .int .i64 b_l, .int .i64 b_b, .int .i64 b_r] ∧ AtL wx kd [.int .i64 d_s, .int .i64 d_t, .int .i64 d_l, .int .i64 d_b, .int .i64 d_r] ∧ AtL wx kc [.int .i64 cs, .int .i64 cr, .int .i64 cc] ∧ AtL wx kpx [.int .i64 x0, .int .i64 x1, .int .i64 x2, .int .i64 x3, .int .i64 x4])
  case first =>
    clear M1 M2 M3 M4 M5 M6 RA F3 F4 F5
    obtain ⟨pac0, pac1, pac2, pac3, pac4⟩ := pa.f5
    obtain ⟨pbc0, pbc1, pbc2, pbc3, pbc4⟩ := pb.f5
    obtain ⟨pcc0, pcc1, pcc2⟩ := pc.f3
    obtain ⟨pxc0, pxc1, pxc2, pxc3, pxc4⟩ := px.f5
    obtain ⟨pyc0, pyc1, pyc2, pyc3, pyc4⟩ := py.f5
    cases ok with
    | true =>
      have F := F1.out rfl
      clear F1 F2
      subst F
      cases ha with
      | false =>
        go_wp2_with fail
        refine (HX _).mono ?_
        rintro e v0 ⟨rfl, hb0⟩
        replace pa := AtL.below hb0 pa
        replace pb := AtL.below hb0 pb
        replace pd := AtL.below hb0 pd
        replace pc := AtL.below hb0 pc
        replace px := AtL.below hb0 px
        have qB0 := x3_below_end hB4 hb0
        clear pac0 pac1 pac2 pac3 pac4 pbc0 pbc1 pbc2 pbc3 pbc4 pcc0 pcc1 pcc2
        obtain ⟨pac0, pac1, pac2, pac3, pac4⟩ := pa.f5
        obtain ⟨pbc0, pbc1, pbc2, pbc3, pbc4⟩ := pb.f5
        obtain ⟨pcc0, pcc1, pcc2⟩ := pc.f3
        go_wp2_with fail
        go_meet
        case rel => exact ⟨rfl, qB0, pa, pb, pd, pc, px⟩
      | true =>
        cases hb with
        | false =>
          go_wp2_with fail
          refine (HX _).mono ?_
          rintro e v0 ⟨rfl, hb0⟩
          replace pa := AtL.below hb0 pa
          replace pb := AtL.below hb0 pb
          replace pd := AtL.below hb0 pd
          replace pc := AtL.below hb0 pc
          replace px := AtL.below hb0 px
          have qB0 := x3_below_end hB4 hb0
          clear pac0 pac1 pac2 pac3 pac4 pbc0 pbc1 pbc2 pbc3 pbc4 pcc0 pcc1 pcc2
          obtain ⟨pac0, pac1, pac2, pac3, pac4⟩ := pa.f5
          obtain ⟨pbc0, pbc1, pbc2, pbc3, pbc4⟩ := pb.f5
          obtain ⟨pcc0, pcc1, pcc2⟩ := pc.f3
          go_wp2_with fail
          go_meet
          case rel => exact ⟨rfl, qB0, pa, pb, pd, pc, px⟩
        | true =>
          go_wp2_with fail
          refine (HX _).mono ?_
          rintro e v0 ⟨rfl, hb0⟩
          replace pa := AtL.below hb0 pa
          replace pb := AtL.below hb0 pb
          replace pd := AtL.below hb0 pd
          replace pc := AtL.below hb0 pc
          replace px := AtL.below hb0 px
          have qB0 := x3_below_end hB4 hb0
          clear pac0 pac1 pac2 pac3 pac4 pbc0 pbc1 pbc2 pbc3 pbc4 pcc0 pcc1 pcc2
          obtain ⟨pac0, pac1, pac2, pac3, pac4⟩ := pa.f5
          obtain ⟨pbc0, pbc1, pbc2, pbc3, pbc4⟩ := pb.f5
          obtain ⟨pcc0, pcc1, pcc2⟩ := pc.f3
          go_wp2_with fail
          refine (HA _).mono ?_
          rintro e v1 ⟨rfl, hb1⟩
          replace pa := AtL.below hb1 pa
          replace pb := AtL.below hb1 pb
          replace pd := AtL.below hb1 pd
          replace pc := AtL.below hb1 pc
          replace px := AtL.below hb1 px
          have qB1 := x3_below_end qB0 hb1
          clear pac0 pac1 pac2 pac3 pac4 pbc0 pbc1 pbc2 pbc3 pbc4 pcc0 pcc1 pcc2
          obtain ⟨pac0, pac1, pac2, pac3, pac4⟩ := pa.f5
          obtain ⟨pbc0, pbc1, pbc2, pbc3, pbc4⟩ := pb.f5
          obtain ⟨pcc0, pcc1, pcc2⟩ := pc.f3
          go_wp2_with fail
          refine (HB _).mono ?_
          rintro e v2 ⟨rfl, hb2⟩
          replace pa := AtL.below hb2 pa
          replace pb := AtL.below hb2 pb
          replace pd := AtL.below hb2 pd
          replace pc := AtL.below hb2 pc
          replace px := AtL.below hb2 px
          have qB2 := x3_below_end qB1 hb2
          clear pac0 pac1 pac2 pac3 pac4 pbc0 pbc1 pbc2 pbc3 pbc4 pcc0 pcc1 pcc2
          obtain ⟨pac0, pac1, pac2, pac3, pac4⟩ := pa.f5
          obtain ⟨pbc0, pbc1, pbc2, pbc3, pbc4⟩ := pb.f5
          obtain ⟨pcc0, pcc1, pcc2⟩ := pc.f3
          go_wp2_with fail
          go_meet
          case rel => exact ⟨rfl, qB2, pa, pb, pd, pc, px⟩
    | false =>
      have F := F2.out rfl
      clear F1 F2
      cases hx with
      | false =>
        go_wp2_with fail
        refine (HX _).mono ?_
        rintro e v0 ⟨rfl, hb0⟩
        replace pa := AtL.below hb0 pa
        replace pb := AtL.below hb0 pb
        replace pd := AtL.below hb0 pd
        replace pc := AtL.below hb0 pc
        replace px := AtL.below hb0 px
        have qB0 := x3_below_end hB4 hb0
        clear pac0 pac1 pac2 pac3 pac4 pbc0 pbc1 pbc2 pbc3 pbc4 pcc0 pcc1 pcc2
        obtain ⟨pac0, pac1, pac2, pac3, pac4⟩ := pa.f5
        obtain ⟨pbc0, pbc1, pbc2, pbc3, pbc4⟩ := pb.f5
        obtain ⟨pcc0, pcc1, pcc2⟩ := pc.f3
        go_wp2_with fail
        go_meet
        case rel => exact ⟨rfl, qB0, pa, pb, pd, pc, px⟩
      | true =>
        cases ha with
        | false =>
          go_wp2_with fail
          refine (HX _).mono ?_
          rintro e v0 ⟨rfl, hb0⟩
          replace pa := AtL.below hb0 pa
          replace pb := AtL.below hb0 pb
          replace pd := AtL.below hb0 pd
          replace pc := AtL.below hb0 pc
          replace px := AtL.below hb0 px
          have qB0 := x3_below_end hB4 hb0
          clear pac0 pac1 pac2 pac3 pac4 pbc0 pbc1 pbc2 pbc3 pbc4 pcc0 pcc1 pcc2
          obtain ⟨pac0, pac1, pac2, pac3, pac4⟩ := pa.f5
          obtain ⟨pbc0, pbc1, pbc2, pbc3, pbc4⟩ := pb.f5
          obtain ⟨pcc0, pcc1, pcc2⟩ := pc.f3
          go_wp2_with fail
          refine (HA _).mono ?_
          rintro e v1 ⟨rfl, hb1⟩
          replace pa := AtL.below hb1 pa
          replace pb := AtL.below hb1 pb
          replace pd := AtL.below hb1 pd
          replace pc := AtL.below hb1 pc
          replace px := AtL.below hb1 px
          have qB1 := x3_below_end qB0 hb1
          clear pac0 pac1 pac2 pac3 pac4 pbc0 pbc1 pbc2 pbc3 pbc4 pcc0 pcc1 pcc2
          obtain ⟨pac0, pac1, pac2, pac3, pac4⟩ := pa.f5
          obtain ⟨pbc0, pbc1, pbc2, pbc3, pbc4⟩ := pb.f5
          obtain ⟨pcc0, pcc1, pcc2⟩ := pc.f3
          go_wp2_with fail
          go_meet
          case rel => exact ⟨rfl, qB1, pa, pb, pd, pc, px⟩
        | true =>
          cases hb with
          | true => cases F
          | false =>
            go_wp2_with fail
            refine (HX _).mono ?_
            rintro e v0 ⟨rfl, hb0⟩
            replace pa := AtL.below hb0 pa
            replace pb := AtL.below hb0 pb
            replace pd := AtL.below hb0 pd
            replace pc := AtL.below hb0 pc
            replace px := AtL.below hb0 px
            have qB0 := x3_below_end hB4 hb0
            clear pac0 pac1 pac2 pac3 pac4 pbc0 pbc1 pbc2 pbc3 pbc4 pcc0 pcc1 pcc2
            obtain ⟨pac0, pac1, pac2, pac3, pac4⟩ := pa.f5
            obtain ⟨pbc0, pbc1, pbc2, pbc3, pbc4⟩ := pb.f5
            obtain ⟨pcc0, pcc1, pcc2⟩ := pc.f3
            go_wp2_with fail
            refine (HA _).mono ?_
            rintro e v1 ⟨rfl, hb1⟩
            replace pa := AtL.below hb1 pa
            replace pb := AtL.below hb1 pb
            replace pd := AtL.below hb1 pd
            replace pc := AtL.below hb1 pc
            replace px := AtL.below hb1 px
            have qB1 := x3_below_end qB0 hb1
            clear pac0 pac1 pac2 pac3 pac4 pbc0 pbc1 pbc2 pbc3 pbc4 pcc0 pcc1 pcc2
            obtain ⟨pac0, pac1, pac2, pac3, pac4⟩ := pa.f5
            obtain ⟨pbc0, pbc1, pbc2, pbc3, pbc4⟩ := pb.f5
            obtain ⟨pcc0, pcc1, pcc2⟩ := pc.f3
            go_wp2_with fail
            refine (HB _).mono ?_
            rintro e v2 ⟨rfl, hb2⟩
            replace pa := AtL.below hb2 pa
            replace pb := AtL.below hb2 pb
            replace pd := AtL.below hb2 pd
            replace pc := AtL.below hb2 pc
            replace px := AtL.below hb2 px
            have qB2 := x3_below_end qB1 hb2
            clear pac0 pac1 pac2 pac3 pac4 pbc0 pbc1 pbc2 pbc3 pbc4 pcc0 pcc1 pcc2
            obtain ⟨pac0, pac1, pac2, pac3, pac4⟩ := pa.f5
            obtain ⟨pbc0, pbc1, pbc2, pbc3, pbc4⟩ := pb.f5
            obtain ⟨pcc0, pcc1, pcc2⟩ := pc.f3
            go_wp2_with fail
            go_meet
            case rel => exact ⟨rfl, qB2, pa, pb, pd, pc, px⟩
  case rest =>
    clear pa pb pd pc px py hB4
    obtain ⟨rfl, hB, pa, pb, pd, pc, px⟩ := hcut
    go_upto_region 7 with fail
    go_cut [88] (fun sc wx => sc = .bool false ∧ Below w.heap.size w wx ∧ AtL wx w.heap.size [.int .i64 a_s, .int .i64 a_t, .int .i64 a_l, .int .i64 a_b, .int .i64 a_r] ∧ AtL wx kb [.int .i64 b_s, .int .i64 b_t, .int .i64 b_l, .int .i64 b_b, .int .i64 b_r] ∧ AtL wx kd [.int .i64 d_s, .int .i64 d_t, .int .i64 d_l, .int .i64 d_b, .int .i64 d_r] ∧ AtL wx kc [.int .i64 cs, .int .i64 cr, .int .i64 cc] ∧ AtL wx kpx [.int .i64 x0, .int .i64 x1, .int .i64 x2, .int .i64 x3, .int .i64 x4])
    case first =>
      clear M1 M2 M3 M4 M5 M6 RA F3 F4 F5
      have hU : undef = Value.tuple #[] := rfl
      have hS := MeS_mk pa pb pc px
      cases ok with
      | true =>
        have F := F1.out rfl
        clear F1 F2
        subst F
        cases ha with
        | false =>
          refine wp_region_held_drew (S := (MeS w.heap.size kb kc kpx a_s a_t a_l a_b a_r b_s b_t b_l b_b b_r cs cr cc x0 x1 x2 x3 x4)) (by kernel_rfl) (MeS_drew hS) (fun hHeld => ?_)
          refine wpAnyH_take (i := 0) (oi := { dst := Option.some 60, op := Op.move (Operand.tmp 10), type := 4, pos := "outright.go:66", after := #[], guard := Option.none }) (v := ?_) rfl (by kernel_rfl) (by kernel_rfl) (by kernel_rfl) (fun _ _ _ h => h) (Or.inl ⟨by rfl, ?_⟩) (by assumption) ?_
          rotate_left
          · intro w hSw
            (try dsimp only at hSw)
            go_simp
            try with_reducible rfl
          try simp only [Act.put, List.setIfInBounds_toArray, List.set_cons_zero, List.set_cons_succ]
          refine wpAnyH_take (i := 1) (oi := { dst := Option.some 61, op := Op.move (Operand.tmp 60), type := 4, pos := "outright.go:66", after := #[{ on := 0, ground := Ground.data }], guard := Option.none }) (v := ?_) rfl (by kernel_rfl) (by kernel_rfl) (by kernel_rfl) (fun _ _ _ h => h) (Or.inl ⟨by rfl, ?_⟩) (by assumption) ?_
          rotate_left
          · intro w hSw
            (try dsimp only at hSw)
            go_simp
            try with_reducible rfl
          try simp only [Act.put, List.setIfInBounds_toArray, List.set_cons_zero, List.set_cons_succ]
          refine wpAnyH_take (i := 2) (oi := { dst := Option.some 62, op := Op.load 25 (Operand.tmp 9), type := 25, pos := "outright.go:66", after := #[{ on := 1, ground := Ground.guard }], guard := Option.some (1, Bool.true) }) (v := ?_) rfl (by kernel_rfl) (by kernel_rfl) (by kernel_rfl) (fun _ _ _ h => h) (Or.inl ⟨by rfl, ?_⟩) (by assumption) ?_
          rotate_left
          · intro w hSw
            (try dsimp only at hSw)
            go_simp
            try with_reducible rfl
          try simp only [Act.put, List.setIfInBounds_toArray, List.set_cons_zero, List.set_cons_succ]
          refine wpAnyH_take (i := 3) (oi := { dst := Option.some 63, op := Op.load 23 (Operand.tmp 7), type := 23, pos := "outright.go:66", after := #[{ on := 1, ground := Ground.guard }], guard := Option.some (1, Bool.true) }) (v := ?_) rfl (by kernel_rfl) (by kernel_rfl) (by kernel_rfl) (fun _ _ _ h => h) (Or.inl ⟨by rfl, ?_⟩) (by assumption) ?_
          rotate_left
          · intro w hSw
            (try dsimp only at hSw)
            go_simp
            try with_reducible rfl
          try simp only [Act.put, List.setIfInBounds_toArray, List.set_cons_zero, List.set_cons_succ]
          refine wpAnyH_take (i := 5) (oi := { dst := Option.some 65, op := Op.load 25 (Operand.tmp 4), type := 25, pos := "outright.go:66", after := #[{ on := 1, ground := Ground.guard }], guard := Option.some (1, Bool.true) }) (v := ?_) rfl (by kernel_rfl) (by kernel_rfl) (by kernel_rfl) (fun _ _ _ h => h) (Or.inl ⟨by rfl, ?_⟩) (by assumption) ?_
          rotate_left
          · intro w hSw
            (try dsimp only at hSw)
            go_simp
            try with_reducible rfl
          try simp only [Act.put, List.setIfInBounds_toArray, List.set_cons_zero, List.set_cons_succ]
          refine wpAnyH_take (i := 6) (oi := { dst := Option.some 66, op := Op.load 23 (Operand.tmp 7), type := 23, pos := "outright.go:66", after := #[{ on := 1, ground := Ground.guard }], guard := Option.some (1, Bool.true) }) (v := ?_) rfl (by kernel_rfl) (by kernel_rfl) (by kernel_rfl) (fun _ _ _ h => h) (Or.inl ⟨by rfl, ?_⟩) (by assumption) ?_
          rotate_left
          · intro w hSw
            (try dsimp only at hSw)
            go_simp
            try with_reducible rfl
          try simp only [Act.put, List.setIfInBounds_toArray, List.set_cons_zero, List.set_cons_succ]
          refine wpAnyH_ready (rs := [4]) (by kernel_rfl) (by simp) ?_
          refine AllReadyH.cons (o := { dst := Option.some 64, op := Op.call { callee := Callee.value (Operand.func 20), args := #[Operand.tmp 62, Operand.tmp 63], argTypes := #[25, 23] }, type := 4, pos := "outright.go:66", after := #[{ on := 2, ground := Ground.data }, { on := 3, ground := Ground.data }, { on := 1, ground := Ground.chain }, { on := 1, ground := Ground.guard }], guard := Option.some (1, Bool.true) }) rfl (fun K hK => ?_) AllReadyH.nil
          go_simp
          refine (HX _).mono ?_
          rintro e v ⟨rfl, hb⟩
          (with_reducible first | replace hB := x3_below_end hB hb | replace hB := x3_below_end hB.drew hb)
          (with_reducible first | replace pa := AtL.below hb pa | replace pa := AtL.below hb (AtL.drew pa))
          (with_reducible first | replace pb := AtL.below hb pb | replace pb := AtL.below hb (AtL.drew pb))
          (with_reducible first | replace pd := AtL.below hb pd | replace pd := AtL.below hb (AtL.drew pd))
          (with_reducible first | replace pc := AtL.below hb pc | replace pc := AtL.below hb (AtL.drew pc))
          (with_reducible first | replace px := AtL.below hb px | replace px := AtL.below hb (AtL.drew px))
          go_wp2_with fail
          refine hK.out _ _ (MeS_below hb hHeld) (fun hHeld => ?_)
          clear hK K
          try simp only [Act.put, List.setIfInBounds_toArray, List.set_cons_zero, List.set_cons_succ]
          refine wpAnyH_ready (rs := [7]) (by kernel_rfl) (by simp) ?_
          refine AllReadyH.cons (o := { dst := Option.some 67, op := Op.call { callee := Callee.value (Operand.func 20), args := #[Operand.tmp 65, Operand.tmp 66], argTypes := #[25, 23] }, type := 4, pos := "outright.go:66", after := #[{ on := 5, ground := Ground.data }, { on := 6, ground := Ground.data }, { on := 4, ground := Ground.chain }, { on := 1, ground := Ground.guard }], guard := Option.some (1, Bool.true) }) rfl (fun K hK => ?_) AllReadyH.nil
          go_simp
          refine (HA _).mono ?_
          rintro e v ⟨rfl, hb⟩
          (with_reducible first | replace hB := x3_below_end hB hb | replace hB := x3_below_end hB.drew hb)
          (with_reducible first | replace pa := AtL.below hb pa | replace pa := AtL.below hb (AtL.drew pa))
          (with_reducible first | replace pb := AtL.below hb pb | replace pb := AtL.below hb (AtL.drew pb))
          (with_reducible first | replace pd := AtL.below hb pd | replace pd := AtL.below hb (AtL.drew pd))
          (with_reducible first | replace pc := AtL.below hb pc | replace pc := AtL.below hb (AtL.drew pc))
          (with_reducible first | replace px := AtL.below hb px | replace px := AtL.below hb (AtL.drew px))
          go_wp2_with fail
          refine hK.out _ _ (MeS_below hb hHeld) (fun hHeld => ?_)
          clear hK K
          try simp only [Act.put, List.setIfInBounds_toArray, List.set_cons_zero, List.set_cons_succ]
          refine wpAnyH_take (i := 8) (oi := { dst := Option.some 68, op := Op.move (Operand.tmp 67), type := 4, pos := "outright.go:66", after := #[{ on := 7, ground := Ground.data }, { on := 7, ground := Ground.chain }, { on := 1, ground := Ground.guard }], guard := Option.some (1, Bool.true) }) (v := ?_) rfl (by kernel_rfl) (by kernel_rfl) (by kernel_rfl) (fun _ _ _ h => h) (Or.inl ⟨by rfl, ?_⟩) (by assumption) ?_
          rotate_left
          · intro w hSw
            (try dsimp only at hSw)
            go_simp
            try with_reducible rfl
          try simp only [Act.put, List.setIfInBounds_toArray, List.set_cons_zero, List.set_cons_succ]
          refine wpAnyH_take (i := 9) (oi := { dst := Option.some 69, op := Op.load 25 (Operand.tmp 5), type := 25, pos := "outright.go:66", after := #[{ on := 8, ground := Ground.guard }], guard := Option.some (8, Bool.true) }) (v := undef) rfl (by kernel_rfl) (by kernel_rfl) (by kernel_rfl) (fun _ _ _ h => h) (Or.inr ⟨by rfl, rfl⟩) (by assumption) ?_
          try simp only [Act.put, List.setIfInBounds_toArray, List.set_cons_zero, List.set_cons_succ]
          refine wpAnyH_take (i := 10) (oi := { dst := Option.some 70, op := Op.load 23 (Operand.tmp 7), type := 23, pos := "outright.go:66", after := #[{ on := 8, ground := Ground.guard }], guard := Option.some (8, Bool.true) }) (v := undef) rfl (by kernel_rfl) (by kernel_rfl) (by kernel_rfl) (fun _ _ _ h => h) (Or.inr ⟨by rfl, rfl⟩) (by assumption) ?_
          try simp only [Act.put, List.setIfInBounds_toArray, List.set_cons_zero, List.set_cons_succ]
          refine wpAnyH_take (i := 11) (oi := { dst := Option.some 71, op := Op.call { callee := Callee.value (Operand.func 20), args := #[Operand.tmp 69, Operand.tmp 70], argTypes := #[25, 23] }, type := 4, pos := "outright.go:66", after := #[{ on := 9, ground := Ground.data }, { on := 10, ground := Ground.data }, { on := 8, ground := Ground.chain }, { on := 8, ground := Ground.guard }], guard := Option.some (8, Bool.true) }) (v := undef) rfl (by kernel_rfl) (by kernel_rfl) (by kernel_rfl) (fun _ _ _ h => h) (Or.inr ⟨by rfl, rfl⟩) (by assumption) ?_
          try simp only [Act.put, List.setIfInBounds_toArray, List.set_cons_zero, List.set_cons_succ]
          refine wpAnyH_take (i := 12) (oi := { dst := Option.some 72, op := Op.pick (Operand.tmp 68) (Operand.tmp 71) (Operand.const (Value.bool Bool.false)), type := 4, pos := "outright.go:66", after := #[{ on := 8, ground := Ground.data }, { on := 11, ground := Ground.data }, { on := 1, ground := Ground.guard }], guard := Option.some (1, Bool.true) }) (v := ?_) rfl (by kernel_rfl) (by kernel_rfl) (by kernel_rfl) (fun _ _ _ h => h) (Or.inl ⟨by rfl, ?_⟩) (by assumption) ?_
          rotate_left
          · intro w hSw
            (try dsimp only at hSw)
            go_simp
            try with_reducible rfl
          try simp only [Act.put, List.setIfInBounds_toArray, List.set_cons_zero, List.set_cons_succ]
          refine wpAnyH_take (i := 13) (oi := { dst := Option.some 73, op := Op.binOp BinOp.neq 4 (Operand.tmp 64) (Operand.tmp 72) 4, type := 4, pos := "outright.go:66", after := #[{ on := 4, ground := Ground.data }, { on := 12, ground := Ground.data }, { on := 1, ground := Ground.guard }], guard := Option.some (1, Bool.true) }) (v := ?_) rfl (by kernel_rfl) (by kernel_rfl) (by kernel_rfl) (fun _ _ _ h => h) (Or.inl ⟨by rfl, ?_⟩) (by assumption) ?_
          rotate_left
          · intro w hSw
            (try dsimp only at hSw)
            go_simp
            try with_reducible rfl
          try simp only [Act.put, List.setIfInBounds_toArray, List.set_cons_zero, List.set_cons_succ]
          refine wpAnyH_take (i := 14) (oi := { dst := Option.some 74, op := Op.pick (Operand.tmp 61) (Operand.tmp 73) (Operand.const (Value.bool Bool.false)), type := 4, pos := "outright.go:66", after := #[{ on := 1, ground := Ground.data }, { on := 13, ground := Ground.data }], guard := Option.none }) (v := ?_) rfl (by kernel_rfl) (by kernel_rfl) (by kernel_rfl) (fun _ _ _ h => h) (Or.inl ⟨by rfl, ?_⟩) (by assumption) ?_
          rotate_left
          · intro w hSw
            (try dsimp only at hSw)
            go_simp
            try with_reducible rfl
          try simp only [Act.put, List.setIfInBounds_toArray, List.set_cons_zero, List.set_cons_succ]
          refine wpAnyH_take (i := 15) (oi := { dst := Option.some 75, op := Op.move (Operand.tmp 74), type := 4, pos := "outright.go:66", after := #[{ on := 14, ground := Ground.data }, { on := 11, ground := Ground.chain }], guard := Option.none }) (v := ?_) rfl (by kernel_rfl) (by kernel_rfl) (by kernel_rfl) (fun _ _ _ h => h) (Or.inl ⟨by rfl, ?_⟩) (by assumption) ?_
          rotate_left
          · intro w hSw
            (try dsimp only at hSw)
            go_simp
            try with_reducible rfl
          try simp only [Act.put, List.setIfInBounds_toArray, List.set_cons_zero, List.set_cons_succ]
          refine wpAnyH_take (i := 16) (oi := { dst := Option.some 76, op := Op.move (Operand.tmp 10), type := 4, pos := "outright.go:66", after := #[{ on := 15, ground := Ground.guard }], guard := Option.some (15, Bool.false) }) (v := ?_) rfl (by kernel_rfl) (by kernel_rfl) (by kernel_rfl) (fun _ _ _ h => h) (Or.inl ⟨by rfl, ?_⟩) (by assumption) ?_
          rotate_left
          · intro w hSw
            (try dsimp only at hSw)
            go_simp
            try with_reducible rfl
          try simp only [Act.put, List.setIfInBounds_toArray, List.set_cons_zero, List.set_cons_succ]
          refine wpAnyH_take (i := 17) (oi := { dst := Option.some 77, op := Op.unOp UnOp.not 4 (Operand.tmp 76), type := 4, pos := "outright.go:66", after := #[{ on := 16, ground := Ground.data }, { on := 15, ground := Ground.guard }], guard := Option.some (15, Bool.false) }) (v := ?_) rfl (by kernel_rfl) (by kernel_rfl) (by kernel_rfl) (fun _ _ _ h => h) (Or.inl ⟨by rfl, ?_⟩) (by assumption) ?_
          rotate_left
          · intro w hSw
            (try dsimp only at hSw)
            go_simp
            try with_reducible rfl
          try simp only [Act.put, List.setIfInBounds_toArray, List.set_cons_zero, List.set_cons_succ]
          refine wpAnyH_take (i := 18) (oi := { dst := Option.some 78, op := Op.move (Operand.tmp 77), type := 4, pos := "outright.go:66", after := #[{ on := 17, ground := Ground.data }, { on := 15, ground := Ground.chain }, { on := 15, ground := Ground.guard }], guard := Option.some (15, Bool.false) }) (v := ?_) rfl (by kernel_rfl) (by kernel_rfl) (by kernel_rfl) (fun _ _ _ h => h) (Or.inl ⟨by rfl, ?_⟩) (by assumption) ?_
          rotate_left
          · intro w hSw
            (try dsimp only at hSw)
            go_simp
            try with_reducible rfl
          try simp only [Act.put, List.setIfInBounds_toArray, List.set_cons_zero, List.set_cons_succ]
          refine wpAnyH_take (i := 19) (oi := { dst := Option.some 79, op := Op.load 25 (Operand.tmp 4), type := 25, pos := "outright.go:66", after := #[{ on := 18, ground := Ground.guard }], guard := Option.some (18, Bool.true) }) (v := undef) rfl (by kernel_rfl) (by kernel_rfl) (by kernel_rfl) (fun _ _ _ h => h) (Or.inr ⟨by rfl, rfl⟩) (by assumption) ?_
          try simp only [Act.put, List.setIfInBounds_toArray, List.set_cons_zero, List.set_cons_succ]
          refine wpAnyH_take (i := 20) (oi := { dst := Option.some 80, op := Op.load 23 (Operand.tmp 7), type := 23, pos := "outright.go:66", after := #[{ on := 18, ground := Ground.guard }], guard := Option.some (18, Bool.true) }) (v := undef) rfl (by kernel_rfl) (by kernel_rfl) (by kernel_rfl) (fun _ _ _ h => h) (Or.inr ⟨by rfl, rfl⟩) (by assumption) ?_
          try simp only [Act.put, List.setIfInBounds_toArray, List.set_cons_zero, List.set_cons_succ]
          refine wpAnyH_take (i := 21) (oi := { dst := Option.some 81, op := Op.call { callee := Callee.value (Operand.func 20), args := #[Operand.tmp 79, Operand.tmp 80], argTypes := #[25, 23] }, type := 4, pos := "outright.go:66", after := #[{ on := 19, ground := Ground.data }, { on := 20, ground := Ground.data }, { on := 18, ground := Ground.chain }, { on := 18, ground := Ground.guard }], guard := Option.some (18, Bool.true) }) (v := undef) rfl (by kernel_rfl) (by kernel_rfl) (by kernel_rfl) (fun _ _ _ h => h) (Or.inr ⟨by rfl, rfl⟩) (by assumption) ?_
          try simp only [Act.put, List.setIfInBounds_toArray, List.set_cons_zero, List.set_cons_succ]
          refine wpAnyH_take (i := 22) (oi := { dst := Option.some 82, op := Op.pick (Operand.tmp 78) (Operand.tmp 81) (Operand.const (Value.bool Bool.false)), type := 4, pos := "outright.go:66", after := #[{ on := 18, ground := Ground.data }, { on := 21, ground := Ground.data }, { on := 15, ground := Ground.guard }], guard := Option.some (15, Bool.false) }) (v := ?_) rfl (by kernel_rfl) (by kernel_rfl) (by kernel_rfl) (fun _ _ _ h => h) (Or.inl ⟨by rfl, ?_⟩) (by assumption) ?_
          rotate_left
          · intro w hSw
            (try dsimp only at hSw)
            go_simp
            try with_reducible rfl
          try simp only [Act.put, List.setIfInBounds_toArray, List.set_cons_zero, List.set_cons_succ]
          refine wpAnyH_take (i := 23) (oi := { dst := Option.some 83, op := Op.move (Operand.tmp 82), type := 4, pos := "outright.go:66", after := #[{ on := 22, ground := Ground.data }, { on := 21, ground := Ground.chain }, { on := 15, ground := Ground.guard }], guard := Option.some (15, Bool.false) }) (v := ?_) rfl (by kernel_rfl) (by kernel_rfl) (by kernel_rfl) (fun _ _ _ h => h) (Or.inl ⟨by rfl, ?_⟩) (by assumption) ?_
          rotate_left
          · intro w hSw
            (try dsimp only at hSw)
            go_simp
            try with_reducible rfl
          try simp only [Act.put, List.setIfInBounds_toArray, List.set_cons_zero, List.set_cons_succ]
          refine wpAnyH_take (i := 24) (oi := { dst := Option.some 84, op := Op.load 25 (Operand.tmp 5), type := 25, pos := "outright.go:66", after := #[{ on := 23, ground := Ground.guard }], guard := Option.some (23, Bool.true) }) (v := undef) rfl (by kernel_rfl) (by kernel_rfl) (by kernel_rfl) (fun _ _ _ h => h) (Or.inr ⟨by rfl, rfl⟩) (by assumption) ?_
          try simp only [Act.put, List.setIfInBounds_toArray, List.set_cons_zero, List.set_cons_succ]
          refine wpAnyH_take (i := 25) (oi := { dst := Option.some 85, op := Op.load 23 (Operand.tmp 7), type := 23, pos := "outright.go:66", after := #[{ on := 23, ground := Ground.guard }], guard := Option.some (23, Bool.true) }) (v := undef) rfl (by kernel_rfl) (by kernel_rfl) (by kernel_rfl) (fun _ _ _ h => h) (Or.inr ⟨by rfl, rfl⟩) (by assumption) ?_
          try simp only [Act.put, List.setIfInBounds_toArray, List.set_cons_zero, List.set_cons_succ]
          refine wpAnyH_take (i := 26) (oi := { dst := Option.some 86, op := Op.call { callee := Callee.value (Operand.func 20), args := #[Operand.tmp 84, Operand.tmp 85], argTypes := #[25, 23] }, type := 4, pos := "outright.go:66", after := #[{ on := 24, ground := Ground.data }, { on := 25, ground := Ground.data }, { on := 23, ground := Ground.chain }, { on := 23, ground := Ground.guard }], guard := Option.some (23, Bool.true) }) (v := undef) rfl (by kernel_rfl) (by kernel_rfl) (by kernel_rfl) (fun _ _ _ h => h) (Or.inr ⟨by rfl, rfl⟩) (by assumption) ?_
          try simp only [Act.put, List.setIfInBounds_toArray, List.set_cons_zero, List.set_cons_succ]
          refine wpAnyH_take (i := 27) (oi := { dst := Option.some 87, op := Op.pick (Operand.tmp 83) (Operand.tmp 86) (Operand.const (Value.bool Bool.false)), type := 4, pos := "outright.go:66", after := #[{ on := 23, ground := Ground.data }, { on := 26, ground := Ground.data }, { on := 15, ground := Ground.guard }], guard := Option.some (15, Bool.false) }) (v := ?_) rfl (by kernel_rfl) (by kernel_rfl) (by kernel_rfl) (fun _ _ _ h => h) (Or.inl ⟨by rfl, ?_⟩) (by assumption) ?_
          rotate_left
          · intro w hSw
            (try dsimp only at hSw)
            go_simp
            try with_reducible rfl
          try simp only [Act.put, List.setIfInBounds_toArray, List.set_cons_zero, List.set_cons_succ]
          refine wpAnyH_take (i := 28) (oi := { dst := Option.some 88, op := Op.pick (Operand.tmp 75) (Operand.const (Value.bool Bool.true)) (Operand.tmp 87), type := 4, pos := "outright.go:66", after := #[{ on := 15, ground := Ground.data }, { on := 27, ground := Ground.data }], guard := Option.none }) (v := ?_) rfl (by kernel_rfl) (by kernel_rfl) (by kernel_rfl) (fun _ _ _ h => h) (Or.inl ⟨by rfl, ?_⟩) (by assumption) ?_
          rotate_left
          · intro w hSw
            (try dsimp only at hSw)
            go_simp
            try with_reducible rfl
          try simp only [Act.put, List.setIfInBounds_toArray, List.set_cons_zero, List.set_cons_succ]
          refine wpAnyH_done (by kernel_rfl) ?_ _
          go_wp2_with fail
          go_meet
          case rel => first | exact ⟨rfl, hB, pa, pb, pd, pc, px⟩ | exact ⟨rfl, hB.drew, AtL.drew pa, AtL.drew pb, AtL.drew pd, AtL.drew pc, AtL.drew px⟩
        | true =>
          cases hb with
          | false =>
            refine wp_region_held_drew (S := (MeS w.heap.size kb kc kpx a_s a_t a_l a_b a_r b_s b_t b_l b_b b_r cs cr cc x0 x1 x2 x3 x4)) (by kernel_rfl) (MeS_drew hS) (fun hHeld => ?_)
            refine wpAnyH_take (i := 0) (oi := { dst := Option.some 60, op := Op.move (Operand.tmp 10), type := 4, pos := "outright.go:66", after := #[], guard := Option.none }) (v := ?_) rfl (by kernel_rfl) (by kernel_rfl) (by kernel_rfl) (fun _ _ _ h => h) (Or.inl ⟨by rfl, ?_⟩) (by assumption) ?_
            rotate_left
            · intro w hSw
              (try dsimp only at hSw)
              go_simp
              try with_reducible rfl
            try simp only [Act.put, List.setIfInBounds_toArray, List.set_cons_zero, List.set_cons_succ]
            refine wpAnyH_take (i := 1) (oi := { dst := Option.some 61, op := Op.move (Operand.tmp 60), type := 4, pos := "outright.go:66", after := #[{ on := 0, ground := Ground.data }], guard := Option.none }) (v := ?_) rfl (by kernel_rfl) (by kernel_rfl) (by kernel_rfl) (fun _ _ _ h => h) (Or.inl ⟨by rfl, ?_⟩) (by assumption) ?_
            rotate_left
            · intro w hSw
              (try dsimp only at hSw)
              go_simp
              try with_reducible rfl
            try simp only [Act.put, List.setIfInBounds_toArray, List.set_cons_zero, List.set_cons_succ]
            refine wpAnyH_take (i := 2) (oi := { dst := Option.some 62, op := Op.load 25 (Operand.tmp 9), type := 25, pos := "outright.go:66", after := #[{ on := 1, ground := Ground.guard }], guard := Option.some (1, Bool.true) }) (v := ?_) rfl (by kernel_rfl) (by kernel_rfl) (by kernel_rfl) (fun _ _ _ h => h) (Or.inl ⟨by rfl, ?_⟩) (by assumption) ?_
            rotate_left
            · intro w hSw
              (try dsimp only at hSw)
              go_simp
              try with_reducible rfl
            try simp only [Act.put, List.setIfInBounds_toArray, List.set_cons_zero, List.set_cons_succ]
            refine wpAnyH_take (i := 3) (oi := { dst := Option.some 63, op := Op.load 23 (Operand.tmp 7), type := 23, pos := "outright.go:66", after := #[{ on := 1, ground := Ground.guard }], guard := Option.some (1, Bool.true) }) (v := ?_) rfl (by kernel_rfl) (by kernel_rfl) (by kernel_rfl) (fun _ _ _ h => h) (Or.inl ⟨by rfl, ?_⟩) (by assumption) ?_
            rotate_left
            · intro w hSw
              (try dsimp only at hSw)
              go_simp
              try with_reducible rfl
            try simp only [Act.put, List.setIfInBounds_toArray, List.set_cons_zero, List.set_cons_succ]
            refine wpAnyH_take (i := 5) (oi := { dst := Option.some 65, op := Op.load 25 (Operand.tmp 4), type := 25, pos := "outright.go:66", after := #[{ on := 1, ground := Ground.guard }], guard := Option.some (1, Bool.true) }) (v := ?_) rfl (by kernel_rfl) (by kernel_rfl) (by kernel_rfl) (fun _ _ _ h => h) (Or.inl ⟨by rfl, ?_⟩) (by assumption) ?_
            rotate_left
            · intro w hSw
              (try dsimp only at hSw)
              go_simp
              try with_reducible rfl
            try simp only [Act.put, List.setIfInBounds_toArray, List.set_cons_zero, List.set_cons_succ]
            refine wpAnyH_take (i := 6) (oi := { dst := Option.some 66, op := Op.load 23 (Operand.tmp 7), type := 23, pos := "outright.go:66", after := #[{ on := 1, ground := Ground.guard }], guard := Option.some (1, Bool.true) }) (v := ?_) rfl (by kernel_rfl) (by kernel_rfl) (by kernel_rfl) (fun _ _ _ h => h) (Or.inl ⟨by rfl, ?_⟩) (by assumption) ?_
            rotate_left
            · intro w hSw
              (try dsimp only at hSw)
              go_simp
              try with_reducible rfl
            try simp only [Act.put, List.setIfInBounds_toArray, List.set_cons_zero, List.set_cons_succ]
            refine wpAnyH_ready (rs := [4]) (by kernel_rfl) (by simp) ?_
            refine AllReadyH.cons (o := { dst := Option.some 64, op := Op.call { callee := Callee.value (Operand.func 20), args := #[Operand.tmp 62, Operand.tmp 63], argTypes := #[25, 23] }, type := 4, pos := "outright.go:66", after := #[{ on := 2, ground := Ground.data }, { on := 3, ground := Ground.data }, { on := 1, ground := Ground.chain }, { on := 1, ground := Ground.guard }], guard := Option.some (1, Bool.true) }) rfl (fun K hK => ?_) AllReadyH.nil
            go_simp
            refine (HX _).mono ?_
            rintro e v ⟨rfl, hb⟩
            (with_reducible first | replace hB := x3_below_end hB hb | replace hB := x3_below_end hB.drew hb)
            (with_reducible first | replace pa := AtL.below hb pa | replace pa := AtL.below hb (AtL.drew pa))
            (with_reducible first | replace pb := AtL.below hb pb | replace pb := AtL.below hb (AtL.drew pb))
            (with_reducible first | replace pd := AtL.below hb pd | replace pd := AtL.below hb (AtL.drew pd))
            (with_reducible first | replace pc := AtL.below hb pc | replace pc := AtL.below hb (AtL.drew pc))
            (with_reducible first | replace px := AtL.below hb px | replace px := AtL.below hb (AtL.drew px))
            go_wp2_with fail
            refine hK.out _ _ (MeS_below hb hHeld) (fun hHeld => ?_)
            clear hK K
            try simp only [Act.put, List.setIfInBounds_toArray, List.set_cons_zero, List.set_cons_succ]
            refine wpAnyH_ready (rs := [7]) (by kernel_rfl) (by simp) ?_
            refine AllReadyH.cons (o := { dst := Option.some 67, op := Op.call { callee := Callee.value (Operand.func 20), args := #[Operand.tmp 65, Operand.tmp 66], argTypes := #[25, 23] }, type := 4, pos := "outright.go:66", after := #[{ on := 5, ground := Ground.data }, { on := 6, ground := Ground.data }, { on := 4, ground := Ground.chain }, { on := 1, ground := Ground.guard }], guard := Option.some (1, Bool.true) }) rfl (fun K hK => ?_) AllReadyH.nil
            go_simp
            refine (HA _).mono ?_
            rintro e v ⟨rfl, hb⟩
            (with_reducible first | replace hB := x3_below_end hB hb | replace hB := x3_below_end hB.drew hb)
            (with_reducible first | replace pa := AtL.below hb pa | replace pa := AtL.below hb (AtL.drew pa))
            (with_reducible first | replace pb := AtL.below hb pb | replace pb := AtL.below hb (AtL.drew pb))
            (with_reducible first | replace pd := AtL.below hb pd | replace pd := AtL.below hb (AtL.drew pd))
            (with_reducible first | replace pc := AtL.below hb pc | replace pc := AtL.below hb (AtL.drew pc))
            (with_reducible first | replace px := AtL.below hb px | replace px := AtL.below hb (AtL.drew px))
            go_wp2_with fail
            refine hK.out _ _ (MeS_below hb hHeld) (fun hHeld => ?_)
            clear hK K
            try simp only [Act.put, List.setIfInBounds_toArray, List.set_cons_zero, List.set_cons_succ]
            refine wpAnyH_take (i := 8) (oi := { dst := Option.some 68, op := Op.move (Operand.tmp 67), type := 4, pos := "outright.go:66", after := #[{ on := 7, ground := Ground.data }, { on := 7, ground := Ground.chain }, { on := 1, ground := Ground.guard }], guard := Option.some (1, Bool.true) }) (v := ?_) rfl (by kernel_rfl) (by kernel_rfl) (by kernel_rfl) (fun _ _ _ h => h) (Or.inl ⟨by rfl, ?_⟩) (by assumption) ?_
            rotate_left
            · intro w hSw
              (try dsimp only at hSw)
              go_simp
              try with_reducible rfl
            try simp only [Act.put, List.setIfInBounds_toArray, List.set_cons_zero, List.set_cons_succ]
            refine wpAnyH_take (i := 9) (oi := { dst := Option.some 69, op := Op.load 25 (Operand.tmp 5), type := 25, pos := "outright.go:66", after := #[{ on := 8, ground := Ground.guard }], guard := Option.some (8, Bool.true) }) (v := ?_) rfl (by kernel_rfl) (by kernel_rfl) (by kernel_rfl) (fun _ _ _ h => h) (Or.inl ⟨by rfl, ?_⟩) (by assumption) ?_
            rotate_left
            · intro w hSw
              (try dsimp only at hSw)
              go_simp
              try with_reducible rfl
            try simp only [Act.put, List.setIfInBounds_toArray, List.set_cons_zero, List.set_cons_succ]
            refine wpAnyH_take (i := 10) (oi := { dst := Option.some 70, op := Op.load 23 (Operand.tmp 7), type := 23, pos := "outright.go:66", after := #[{ on := 8, ground := Ground.guard }], guard := Option.some (8, Bool.true) }) (v := ?_) rfl (by kernel_rfl) (by kernel_rfl) (by kernel_rfl) (fun _ _ _ h => h) (Or.inl ⟨by rfl, ?_⟩) (by assumption) ?_
            rotate_left
            · intro w hSw
              (try dsimp only at hSw)
              go_simp
              try with_reducible rfl
            try simp only [Act.put, List.setIfInBounds_toArray, List.set_cons_zero, List.set_cons_succ]
            refine wpAnyH_ready (rs := [11]) (by kernel_rfl) (by simp) ?_
            refine AllReadyH.cons (o := { dst := Option.some 71, op := Op.call { callee := Callee.value (Operand.func 20), args := #[Operand.tmp 69, Operand.tmp 70], argTypes := #[25, 23] }, type := 4, pos := "outright.go:66", after := #[{ on := 9, ground := Ground.data }, { on := 10, ground := Ground.data }, { on := 8, ground := Ground.chain }, { on := 8, ground := Ground.guard }], guard := Option.some (8, Bool.true) }) rfl (fun K hK => ?_) AllReadyH.nil
            go_simp
            refine (HB _).mono ?_
            rintro e v ⟨rfl, hb⟩
            (with_reducible first | replace hB := x3_below_end hB hb | replace hB := x3_below_end hB.drew hb)
            (with_reducible first | replace pa := AtL.below hb pa | replace pa := AtL.below hb (AtL.drew pa))
            (with_reducible first | replace pb := AtL.below hb pb | replace pb := AtL.below hb (AtL.drew pb))
            (with_reducible first | replace pd := AtL.below hb pd | replace pd := AtL.below hb (AtL.drew pd))
            (with_reducible first | replace pc := AtL.below hb pc | replace pc := AtL.below hb (AtL.drew pc))
            (with_reducible first | replace px := AtL.below hb px | replace px := AtL.below hb (AtL.drew px))
            go_wp2_with fail
            refine hK.out _ _ (MeS_below hb hHeld) (fun hHeld => ?_)
            clear hK K
            try simp only [Act.put, List.setIfInBounds_toArray, List.set_cons_zero, List.set_cons_succ]
            refine wpAnyH_take (i := 12) (oi := { dst := Option.some 72, op := Op.pick (Operand.tmp 68) (Operand.tmp 71) (Operand.const (Value.bool Bool.false)), type := 4, pos := "outright.go:66", after := #[{ on := 8, ground := Ground.data }, { on := 11, ground := Ground.data }, { on := 1, ground := Ground.guard }], guard := Option.some (1, Bool.true) }) (v := ?_) rfl (by kernel_rfl) (by kernel_rfl) (by kernel_rfl) (fun _ _ _ h => h) (Or.inl ⟨by rfl, ?_⟩) (by assumption) ?_
            rotate_left
            · intro w hSw
              (try dsimp only at hSw)
              go_simp
              try with_reducible rfl
            try simp only [Act.put, List.setIfInBounds_toArray, List.set_cons_zero, List.set_cons_succ]
            refine wpAnyH_take (i := 13) (oi := { dst := Option.some 73, op := Op.binOp BinOp.neq 4 (Operand.tmp 64) (Operand.tmp 72) 4, type := 4, pos := "outright.go:66", after := #[{ on := 4, ground := Ground.data }, { on := 12, ground := Ground.data }, { on := 1, ground := Ground.guard }], guard := Option.some (1, Bool.true) }) (v := ?_) rfl (by kernel_rfl) (by kernel_rfl) (by kernel_rfl) (fun _ _ _ h => h) (Or.inl ⟨by rfl, ?_⟩) (by assumption) ?_
            rotate_left
            · intro w hSw
              (try dsimp only at hSw)
              go_simp
              try with_reducible rfl
            try simp only [Act.put, List.setIfInBounds_toArray, List.set_cons_zero, List.set_cons_succ]
            refine wpAnyH_take (i := 14) (oi := { dst := Option.some 74, op := Op.pick (Operand.tmp 61) (Operand.tmp 73) (Operand.const (Value.bool Bool.false)), type := 4, pos := "outright.go:66", after := #[{ on := 1, ground := Ground.data }, { on := 13, ground := Ground.data }], guard := Option.none }) (v := ?_) rfl (by kernel_rfl) (by kernel_rfl) (by kernel_rfl) (fun _ _ _ h => h) (Or.inl ⟨by rfl, ?_⟩) (by assumption) ?_
            rotate_left
            · intro w hSw
              (try dsimp only at hSw)
              go_simp
              try with_reducible rfl
            try simp only [Act.put, List.setIfInBounds_toArray, List.set_cons_zero, List.set_cons_succ]
            refine wpAnyH_take (i := 15) (oi := { dst := Option.some 75, op := Op.move (Operand.tmp 74), type := 4, pos := "outright.go:66", after := #[{ on := 14, ground := Ground.data }, { on := 11, ground := Ground.chain }], guard := Option.none }) (v := ?_) rfl (by kernel_rfl) (by kernel_rfl) (by kernel_rfl) (fun _ _ _ h => h) (Or.inl ⟨by rfl, ?_⟩) (by assumption) ?_
            rotate_left
            · intro w hSw
              (try dsimp only at hSw)
              go_simp
              try with_reducible rfl
            try simp only [Act.put, List.setIfInBounds_toArray, List.set_cons_zero, List.set_cons_succ]
            refine wpAnyH_take (i := 16) (oi := { dst := Option.some 76, op := Op.move (Operand.tmp 10), type := 4, pos := "outright.go:66", after := #[{ on := 15, ground := Ground.guard }], guard := Option.some (15, Bool.false) }) (v := ?_) rfl (by kernel_rfl) (by kernel_rfl) (by kernel_rfl) (fun _ _ _ h => h) (Or.inl ⟨by rfl, ?_⟩) (by assumption) ?_
            rotate_left
            · intro w hSw
              (try dsimp only at hSw)
              go_simp
              try with_reducible rfl
            try simp only [Act.put, List.setIfInBounds_toArray, List.set_cons_zero, List.set_cons_succ]
            refine wpAnyH_take (i := 17) (oi := { dst := Option.some 77, op := Op.unOp UnOp.not 4 (Operand.tmp 76), type := 4, pos := "outright.go:66", after := #[{ on := 16, ground := Ground.data }, { on := 15, ground := Ground.guard }], guard := Option.some (15, Bool.false) }) (v := ?_) rfl (by kernel_rfl) (by kernel_rfl) (by kernel_rfl) (fun _ _ _ h => h) (Or.inl ⟨by rfl, ?_⟩) (by assumption) ?_
            rotate_left
            · intro w hSw
              (try dsimp only at hSw)
              go_simp
              try with_reducible rfl
            try simp only [Act.put, List.setIfInBounds_toArray, List.set_cons_zero, List.set_cons_succ]
            refine wpAnyH_take (i := 18) (oi := { dst := Option.some 78, op := Op.move (Operand.tmp 77), type := 4, pos := "outright.go:66", after := #[{ on := 17, ground := Ground.data }, { on := 15, ground := Ground.chain }, { on := 15, ground := Ground.guard }], guard := Option.some (15, Bool.false) }) (v := ?_) rfl (by kernel_rfl) (by kernel_rfl) (by kernel_rfl) (fun _ _ _ h => h) (Or.inl ⟨by rfl, ?_⟩) (by assumption) ?_
            rotate_left
            · intro w hSw
              (try dsimp only at hSw)
              go_simp
              try with_reducible rfl
            try simp only [Act.put, List.setIfInBounds_toArray, List.set_cons_zero, List.set_cons_succ]
            refine wpAnyH_take (i := 19) (oi := { dst := Option.some 79, op := Op.load 25 (Operand.tmp 4), type := 25, pos := "outright.go:66", after := #[{ on := 18, ground := Ground.guard }], guard := Option.some (18, Bool.true) }) (v := undef) rfl (by kernel_rfl) (by kernel_rfl) (by kernel_rfl) (fun _ _ _ h => h) (Or.inr ⟨by rfl, rfl⟩) (by assumption) ?_
            try simp only [Act.put, List.setIfInBounds_toArray, List.set_cons_zero, List.set_cons_succ]
            refine wpAnyH_take (i := 20) (oi := { dst := Option.some 80, op := Op.load 23 (Operand.tmp 7), type := 23, pos := "outright.go:66", after := #[{ on := 18, ground := Ground.guard }], guard := Option.some (18, Bool.true) }) (v := undef) rfl (by kernel_rfl) (by kernel_rfl) (by kernel_rfl) (fun _ _ _ h => h) (Or.inr ⟨by rfl, rfl⟩) (by assumption) ?_
            try simp only [Act.put, List.setIfInBounds_toArray, List.set_cons_zero, List.set_cons_succ]
            refine wpAnyH_take (i := 21) (oi := { dst := Option.some 81, op := Op.call { callee := Callee.value (Operand.func 20), args := #[Operand.tmp 79, Operand.tmp 80], argTypes := #[25, 23] }, type := 4, pos := "outright.go:66", after := #[{ on := 19, ground := Ground.data }, { on := 20, ground := Ground.data }, { on := 18, ground := Ground.chain }, { on := 18, ground := Ground.guard }], guard := Option.some (18, Bool.true) }) (v := undef) rfl (by kernel_rfl) (by kernel_rfl) (by kernel_rfl) (fun _ _ _ h => h) (Or.inr ⟨by rfl, rfl⟩) (by assumption) ?_
            try simp only [Act.put, List.setIfInBounds_toArray, List.set_cons_zero, List.set_cons_succ]
            refine wpAnyH_take (i := 22) (oi := { dst := Option.some 82, op := Op.pick (Operand.tmp 78) (Operand.tmp 81) (Operand.const (Value.bool Bool.false)), type := 4, pos := "outright.go:66", after := #[{ on := 18, ground := Ground.data }, { on := 21, ground := Ground.data }, { on := 15, ground := Ground.guard }], guard := Option.some (15, Bool.false) }) (v := ?_) rfl (by kernel_rfl) (by kernel_rfl) (by kernel_rfl) (fun _ _ _ h => h) (Or.inl ⟨by rfl, ?_⟩) (by assumption) ?_
            rotate_left
            · intro w hSw
              (try dsimp only at hSw)
              go_simp
              try with_reducible rfl
            try simp only [Act.put, List.setIfInBounds_toArray, List.set_cons_zero, List.set_cons_succ]
            refine wpAnyH_take (i := 23) (oi := { dst := Option.some 83, op := Op.move (Operand.tmp 82), type := 4, pos := "outright.go:66", after := #[{ on := 22, ground := Ground.data }, { on := 21, ground := Ground.chain }, { on := 15, ground := Ground.guard }], guard := Option.some (15, Bool.false) }) (v := ?_) rfl (by kernel_rfl) (by kernel_rfl) (by kernel_rfl) (fun _ _ _ h => h) (Or.inl ⟨by rfl, ?_⟩) (by assumption) ?_
            rotate_left
            · intro w hSw
              (try dsimp only at hSw)
              go_simp
              try with_reducible rfl
            try simp only [Act.put, List.setIfInBounds_toArray, List.set_cons_zero, List.set_cons_succ]
            refine wpAnyH_take (i := 24) (oi := { dst := Option.some 84, op := Op.load 25 (Operand.tmp 5), type := 25, pos := "outright.go:66", after := #[{ on := 23, ground := Ground.guard }], guard := Option.some (23, Bool.true) }) (v := undef) rfl (by kernel_rfl) (by kernel_rfl) (by kernel_rfl) (fun _ _ _ h => h) (Or.inr ⟨by rfl, rfl⟩) (by assumption) ?_
            try simp only [Act.put, List.setIfInBounds_toArray, List.set_cons_zero, List.set_cons_succ]
            refine wpAnyH_take (i := 25) (oi := { dst := Option.some 85, op := Op.load 23 (Operand.tmp 7), type := 23, pos := "outright.go:66", after := #[{ on := 23, ground := Ground.guard }], guard := Option.some (23, Bool.true) }) (v := undef) rfl (by kernel_rfl) (by kernel_rfl) (by kernel_rfl) (fun _ _ _ h => h) (Or.inr ⟨by rfl, rfl⟩) (by assumption) ?_
            try simp only [Act.put, List.setIfInBounds_toArray, List.set_cons_zero, List.set_cons_succ]
            refine wpAnyH_take (i := 26) (oi := { dst := Option.some 86, op := Op.call { callee := Callee.value (Operand.func 20), args := #[Operand.tmp 84, Operand.tmp 85], argTypes := #[25, 23] }, type := 4, pos := "outright.go:66", after := #[{ on := 24, ground := Ground.data }, { on := 25, ground := Ground.data }, { on := 23, ground := Ground.chain }, { on := 23, ground := Ground.guard }], guard := Option.some (23, Bool.true) }) (v := undef) rfl (by kernel_rfl) (by kernel_rfl) (by kernel_rfl) (fun _ _ _ h => h) (Or.inr ⟨by rfl, rfl⟩) (by assumption) ?_
            try simp only [Act.put, List.setIfInBounds_toArray, List.set_cons_zero, List.set_cons_succ]
            refine wpAnyH_take (i := 27) (oi := { dst := Option.some 87, op := Op.pick (Operand.tmp 83) (Operand.tmp 86) (Operand.const (Value.bool Bool.false)), type := 4, pos := "outright.go:66", after := #[{ on := 23, ground := Ground.data }, { on := 26, ground := Ground.data }, { on := 15, ground := Ground.guard }], guard := Option.some (15, Bool.false) }) (v := ?_) rfl (by kernel_rfl) (by kernel_rfl) (by kernel_rfl) (fun _ _ _ h => h) (Or.inl ⟨by rfl, ?_⟩) (by assumption) ?_
            rotate_left
            · intro w hSw
              (try dsimp only at hSw)
              go_simp
              try with_reducible rfl
            try simp only [Act.put, List.setIfInBounds_toArray, List.set_cons_zero, List.set_cons_succ]
            refine wpAnyH_take (i := 28) (oi := { dst := Option.some 88, op := Op.pick (Operand.tmp 75) (Operand.const (Value.bool Bool.true)) (Operand.tmp 87), type := 4, pos := "outright.go:66", after := #[{ on := 15, ground := Ground.data }, { on := 27, ground := Ground.data }], guard := Option.none }) (v := ?_) rfl (by kernel_rfl) (by kernel_rfl) (by kernel_rfl) (fun _ _ _ h => h) (Or.inl ⟨by rfl, ?_⟩) (by assumption) ?_
            rotate_left
            · intro w hSw
              (try dsimp only at hSw)
              go_simp
              try with_reducible rfl
            try simp only [Act.put, List.setIfInBounds_toArray, List.set_cons_zero, List.set_cons_succ]
            refine wpAnyH_done (by kernel_rfl) ?_ _
            go_wp2_with fail
            go_meet
            case rel => first | exact ⟨rfl, hB, pa, pb, pd, pc, px⟩ | exact ⟨rfl, hB.drew, AtL.drew pa, AtL.drew pb, AtL.drew pd, AtL.drew pc, AtL.drew px⟩
          | true =>
            refine wp_region_held_drew (S := (MeS w.heap.size kb kc kpx a_s a_t a_l a_b a_r b_s b_t b_l b_b b_r cs cr cc x0 x1 x2 x3 x4)) (by kernel_rfl) (MeS_drew hS) (fun hHeld => ?_)
            refine wpAnyH_take (i := 0) (oi := { dst := Option.some 60, op := Op.move (Operand.tmp 10), type := 4, pos := "outright.go:66", after := #[], guard := Option.none }) (v := ?_) rfl (by kernel_rfl) (by kernel_rfl) (by kernel_rfl) (fun _ _ _ h => h) (Or.inl ⟨by rfl, ?_⟩) (by assumption) ?_
            rotate_left
            · intro w hSw
              (try dsimp only at hSw)
              go_simp
              try with_reducible rfl
            try simp only [Act.put, List.setIfInBounds_toArray, List.set_cons_zero, List.set_cons_succ]
            refine wpAnyH_take (i := 1) (oi := { dst := Option.some 61, op := Op.move (Operand.tmp 60), type := 4, pos := "outright.go:66", after := #[{ on := 0, ground := Ground.data }], guard := Option.none }) (v := ?_) rfl (by kernel_rfl) (by kernel_rfl) (by kernel_rfl) (fun _ _ _ h => h) (Or.inl ⟨by rfl, ?_⟩) (by assumption) ?_
            rotate_left
            · intro w hSw
              (try dsimp only at hSw)
              go_simp
              try with_reducible rfl
            try simp only [Act.put, List.setIfInBounds_toArray, List.set_cons_zero, List.set_cons_succ]
            refine wpAnyH_take (i := 2) (oi := { dst := Option.some 62, op := Op.load 25 (Operand.tmp 9), type := 25, pos := "outright.go:66", after := #[{ on := 1, ground := Ground.guard }], guard := Option.some (1, Bool.true) }) (v := ?_) rfl (by kernel_rfl) (by kernel_rfl) (by kernel_rfl) (fun _ _ _ h => h) (Or.inl ⟨by rfl, ?_⟩) (by assumption) ?_
            rotate_left
            · intro w hSw
              (try dsimp only at hSw)
              go_simp
              try with_reducible rfl
            try simp only [Act.put, List.setIfInBounds_toArray, List.set_cons_zero, List.set_cons_succ]
            refine wpAnyH_take (i := 3) (oi := { dst := Option.some 63, op := Op.load 23 (Operand.tmp 7), type := 23, pos := "outright.go:66", after := #[{ on := 1, ground := Ground.guard }], guard := Option.some (1, Bool.true) }) (v := ?_) rfl (by kernel_rfl) (by kernel_rfl) (by kernel_rfl) (fun _ _ _ h => h) (Or.inl ⟨by rfl, ?_⟩) (by assumption) ?_
            rotate_left
            · intro w hSw
              (try dsimp only at hSw)
              go_simp
              try with_reducible rfl
            try simp only [Act.put, List.setIfInBounds_toArray, List.set_cons_zero, List.set_cons_succ]
            refine wpAnyH_take (i := 5) (oi := { dst := Option.some 65, op := Op.load 25 (Operand.tmp 4), type := 25, pos := "outright.go:66", after := #[{ on := 1, ground := Ground.guard }], guard := Option.some (1, Bool.true) }) (v := ?_) rfl (by kernel_rfl) (by kernel_rfl) (by kernel_rfl) (fun _ _ _ h => h) (Or.inl ⟨by rfl, ?_⟩) (by assumption) ?_
            rotate_left
            · intro w hSw
              (try dsimp only at hSw)
              go_simp
              try with_reducible rfl
            try simp only [Act.put, List.setIfInBounds_toArray, List.set_cons_zero, List.set_cons_succ]
            refine wpAnyH_take (i := 6) (oi := { dst := Option.some 66, op := Op.load 23 (Operand.tmp 7), type := 23, pos := "outright.go:66", after := #[{ on := 1, ground := Ground.guard }], guard := Option.some (1, Bool.true) }) (v := ?_) rfl (by kernel_rfl) (by kernel_rfl) (by kernel_rfl) (fun _ _ _ h => h) (Or.inl ⟨by rfl, ?_⟩) (by assumption) ?_
            rotate_left
            · intro w hSw
              (try dsimp only at hSw)
              go_simp
              try with_reducible rfl
            try simp only [Act.put, List.setIfInBounds_toArray, List.set_cons_zero, List.set_cons_succ]
            refine wpAnyH_ready (rs := [4]) (by kernel_rfl) (by simp) ?_
            refine AllReadyH.cons (o := { dst := Option.some 64, op := Op.call { callee := Callee.value (Operand.func 20), args := #[Operand.tmp 62, Operand.tmp 63], argTypes := #[25, 23] }, type := 4, pos := "outright.go:66", after := #[{ on := 2, ground := Ground.data }, { on := 3, ground := Ground.data }, { on := 1, ground := Ground.chain }, { on := 1, ground := Ground.guard }], guard := Option.some (1, Bool.true) }) rfl (fun K hK => ?_) AllReadyH.nil
            go_simp
            refine (HX _).mono ?_
            rintro e v ⟨rfl, hb⟩
            (with_reducible first | replace hB := x3_below_end hB hb | replace hB := x3_below_end hB.drew hb)
            (with_reducible first | replace pa := AtL.below hb pa | replace pa := AtL.below hb (AtL.drew pa))
            (with_reducible first | replace pb := AtL.below hb pb | replace pb := AtL.below hb (AtL.drew pb))
            (with_reducible first | replace pd := AtL.below hb pd | replace pd := AtL.below hb (AtL.drew pd))
            (with_reducible first | replace pc := AtL.below hb pc | replace pc := AtL.below hb (AtL.drew pc))
            (with_reducible first | replace px := AtL.below hb px | replace px := AtL.below hb (AtL.drew px))
            go_wp2_with fail
            refine hK.out _ _ (MeS_below hb hHeld) (fun hHeld => ?_)
            clear hK K
            try simp only [Act.put, List.setIfInBounds_toArray, List.set_cons_zero, List.set_cons_succ]
            refine wpAnyH_ready (rs := [7]) (by kernel_rfl) (by simp) ?_
            refine AllReadyH.cons (o := { dst := Option.some 67, op := Op.call { callee := Callee.value (Operand.func 20), args := #[Operand.tmp 65, Operand.tmp 66], argTypes := #[25, 23] }, type := 4, pos := "outright.go:66", after := #[{ on := 5, ground := Ground.data }, { on := 6, ground := Ground.data }, { on := 4, ground := Ground.chain }, { on := 1, ground := Ground.guard }], guard := Option.some (1, Bool.true) }) rfl (fun K hK => ?_) AllReadyH.nil
            go_simp
            refine (HA _).mono ?_
            rintro e v ⟨rfl, hb⟩
            (with_reducible first | replace hB := x3_below_end hB hb | replace hB := x3_below_end hB.drew hb)
            (with_reducible first | replace pa := AtL.below hb pa | replace pa := AtL.below hb (AtL.drew pa))
            (with_reducible first | replace pb := AtL.below hb pb | replace pb := AtL.below hb (AtL.drew pb))
            (with_reducible first | replace pd := AtL.below hb pd | replace pd := AtL.below hb (AtL.drew pd))
            (with_reducible first | replace pc := AtL.below hb pc | replace pc := AtL.below hb (AtL.drew pc))
            (with_reducible first | replace px := AtL.below hb px | replace px := AtL.below hb (AtL.drew px))
            go_wp2_with fail
            refine hK.out _ _ (MeS_below hb hHeld) (fun hHeld => ?_)
            clear hK K
            try simp only [Act.put, List.setIfInBounds_toArray, List.set_cons_zero, List.set_cons_succ]
            refine wpAnyH_take (i := 8) (oi := { dst := Option.some 68, op := Op.move (Operand.tmp 67), type := 4, pos := "outright.go:66", after := #[{ on := 7, ground := Ground.data }, { on := 7, ground := Ground.chain }, { on := 1, ground := Ground.guard }], guard := Option.some (1, Bool.true) }) (v := ?_) rfl (by kernel_rfl) (by kernel_rfl) (by kernel_rfl) (fun _ _ _ h => h) (Or.inl ⟨by rfl, ?_⟩) (by assumption) ?_
            rotate_left
            · intro w hSw
              (try dsimp only at hSw)
              go_simp
              try with_reducible rfl
            try simp only [Act.put, List.setIfInBounds_toArray, List.set_cons_zero, List.set_cons_succ]
            refine wpAnyH_take (i := 9) (oi := { dst := Option.some 69, op := Op.load 25 (Operand.tmp 5), type := 25, pos := "outright.go:66", after := #[{ on := 8, ground := Ground.guard }], guard := Option.some (8, Bool.true) }) (v := ?_) rfl (by kernel_rfl) (by kernel_rfl) (by kernel_rfl) (fun _ _ _ h => h) (Or.inl ⟨by rfl, ?_⟩) (by assumption) ?_
            rotate_left
            · intro w hSw
              (try dsimp only at hSw)
              go_simp
              try with_reducible rfl
            try simp only [Act.put, List.setIfInBounds_toArray, List.set_cons_zero, List.set_cons_succ]
            refine wpAnyH_take (i := 10) (oi := { dst := Option.some 70, op := Op.load 23 (Operand.tmp 7), type := 23, pos := "outright.go:66", after := #[{ on := 8, ground := Ground.guard }], guard := Option.some (8, Bool.true) }) (v := ?_) rfl (by kernel_rfl) (by kernel_rfl) (by kernel_rfl) (fun _ _ _ h => h) (Or.inl ⟨by rfl, ?_⟩) (by assumption) ?_
            rotate_left
            · intro w hSw
              (try dsimp only at hSw)
              go_simp
              try with_reducible rfl
            try simp only [Act.put, List.setIfInBounds_toArray, List.set_cons_zero, List.set_cons_succ]
            refine wpAnyH_ready (rs := [11]) (by kernel_rfl) (by simp) ?_
            refine AllReadyH.cons (o := { dst := Option.some 71, op := Op.call { callee := Callee.value (Operand.func 20), args := #[Operand.tmp 69, Operand.tmp 70], argTypes := #[25, 23] }, type := 4, pos := "outright.go:66", after := #[{ on := 9, ground := Ground.data }, { on := 10, ground := Ground.data }, { on := 8, ground := Ground.chain }, { on := 8, ground := Ground.guard }], guard := Option.some (8, Bool.true) }) rfl (fun K hK => ?_) AllReadyH.nil
            go_simp
            refine (HB _).mono ?_
            rintro e v ⟨rfl, hb⟩
            (with_reducible first | replace hB := x3_below_end hB hb | replace hB := x3_below_end hB.drew hb)
            (with_reducible first | replace pa := AtL.below hb pa | replace pa := AtL.below hb (AtL.drew pa))
            (with_reducible first | replace pb := AtL.below hb pb | replace pb := AtL.below hb (AtL.drew pb))
            (with_reducible first | replace pd := AtL.below hb pd | replace pd := AtL.below hb (AtL.drew pd))
            (with_reducible first | replace pc := AtL.below hb pc | replace pc := AtL.below hb (AtL.drew pc))
            (with_reducible first | replace px := AtL.below hb px | replace px := AtL.below hb (AtL.drew px))
            go_wp2_with fail
            refine hK.out _ _ (MeS_below hb hHeld) (fun hHeld => ?_)
            clear hK K
            try simp only [Act.put, List.setIfInBounds_toArray, List.set_cons_zero, List.set_cons_succ]
            refine wpAnyH_take (i := 12) (oi := { dst := Option.some 72, op := Op.pick (Operand.tmp 68) (Operand.tmp 71) (Operand.const (Value.bool Bool.false)), type := 4, pos := "outright.go:66", after := #[{ on := 8, ground := Ground.data }, { on := 11, ground := Ground.data }, { on := 1, ground := Ground.guard }], guard := Option.some (1, Bool.true) }) (v := ?_) rfl (by kernel_rfl) (by kernel_rfl) (by kernel_rfl) (fun _ _ _ h => h) (Or.inl ⟨by rfl, ?_⟩) (by assumption) ?_
            rotate_left
            · intro w hSw
              (try dsimp only at hSw)
              go_simp
              try with_reducible rfl
            try simp only [Act.put, List.setIfInBounds_toArray, List.set_cons_zero, List.set_cons_succ]
            refine wpAnyH_take (i := 13) (oi := { dst := Option.some 73, op := Op.binOp BinOp.neq 4 (Operand.tmp 64) (Operand.tmp 72) 4, type := 4, pos := "outright.go:66", after := #[{ on := 4, ground := Ground.data }, { on := 12, ground := Ground.data }, { on := 1, ground := Ground.guard }], guard := Option.some (1, Bool.true) }) (v := ?_) rfl (by kernel_rfl) (by kernel_rfl) (by kernel_rfl) (fun _ _ _ h => h) (Or.inl ⟨by rfl, ?_⟩) (by assumption) ?_
            rotate_left
            · intro w hSw
              (try dsimp only at hSw)
              go_simp
              try with_reducible rfl
            try simp only [Act.put, List.setIfInBounds_toArray, List.set_cons_zero, List.set_cons_succ]
            refine wpAnyH_take (i := 14) (oi := { dst := Option.some 74, op := Op.pick (Operand.tmp 61) (Operand.tmp 73) (Operand.const (Value.bool Bool.false)), type := 4, pos := "outright.go:66", after := #[{ on := 1, ground := Ground.data }, { on := 13, ground := Ground.data }], guard := Option.none }) (v := ?_) rfl (by kernel_rfl) (by kernel_rfl) (by kernel_rfl) (fun _ _ _ h => h) (Or.inl ⟨by rfl, ?_⟩) (by assumption) ?_
            rotate_left
            · intro w hSw
              (try dsimp only at hSw)
              go_simp
              try with_reducible rfl
            try simp only [Act.put, List.setIfInBounds_toArray, List.set_cons_zero, List.set_cons_succ]
            refine wpAnyH_take (i := 15) (oi := { dst := Option.some 75, op := Op.move (Operand.tmp 74), type := 4, pos := "outright.go:66", after := #[{ on := 14, ground := Ground.data }, { on := 11, ground := Ground.chain }], guard := Option.none }) (v := ?_) rfl (by kernel_rfl) (by kernel_rfl) (by kernel_rfl) (fun _ _ _ h => h) (Or.inl ⟨by rfl, ?_⟩) (by assumption) ?_
            rotate_left
            · intro w hSw
              (try dsimp only at hSw)
              go_simp
              try with_reducible rfl
            try simp only [Act.put, List.setIfInBounds_toArray, List.set_cons_zero, List.set_cons_succ]
            refine wpAnyH_take (i := 16) (oi := { dst := Option.some 76, op := Op.move (Operand.tmp 10), type := 4, pos := "outright.go:66", after := #[{ on := 15, ground := Ground.guard }], guard := Option.some (15, Bool.false) }) (v := ?_) rfl (by kernel_rfl) (by kernel_rfl) (by kernel_rfl) (fun _ _ _ h => h) (Or.inl ⟨by rfl, ?_⟩) (by assumption) ?_
            rotate_left
            · intro w hSw
              (try dsimp only at hSw)
              go_simp
              try with_reducible rfl
            try simp only [Act.put, List.setIfInBounds_toArray, List.set_cons_zero, List.set_cons_succ]
            refine wpAnyH_take (i := 17) (oi := { dst := Option.some 77, op := Op.unOp UnOp.not 4 (Operand.tmp 76), type := 4, pos := "outright.go:66", after := #[{ on := 16, ground := Ground.data }, { on := 15, ground := Ground.guard }], guard := Option.some (15, Bool.false) }) (v := ?_) rfl (by kernel_rfl) (by kernel_rfl) (by kernel_rfl) (fun _ _ _ h => h) (Or.inl ⟨by rfl, ?_⟩) (by assumption) ?_
            rotate_left
            · intro w hSw
              (try dsimp only at hSw)
              go_simp
              try with_reducible rfl
            try simp only [Act.put, List.setIfInBounds_toArray, List.set_cons_zero, List.set_cons_succ]
            refine wpAnyH_take (i := 18) (oi := { dst := Option.some 78, op := Op.move (Operand.tmp 77), type := 4, pos := "outright.go:66", after := #[{ on := 17, ground := Ground.data }, { on := 15, ground := Ground.chain }, { on := 15, ground := Ground.guard }], guard := Option.some (15, Bool.false) }) (v := ?_) rfl (by kernel_rfl) (by kernel_rfl) (by kernel_rfl) (fun _ _ _ h => h) (Or.inl ⟨by rfl, ?_⟩) (by assumption) ?_
            rotate_left
            · intro w hSw
              (try dsimp only at hSw)
              go_simp
              try with_reducible rfl
            try simp only [Act.put, List.setIfInBounds_toArray, List.set_cons_zero, List.set_cons_succ]
            refine wpAnyH_take (i := 19) (oi := { dst := Option.some 79, op := Op.load 25 (Operand.tmp 4), type := 25, pos := "outright.go:66", after := #[{ on := 18, ground := Ground.guard }], guard := Option.some (18, Bool.true) }) (v := undef) rfl (by kernel_rfl) (by kernel_rfl) (by kernel_rfl) (fun _ _ _ h => h) (Or.inr ⟨by rfl, rfl⟩) (by assumption) ?_
            try simp only [Act.put, List.setIfInBounds_toArray, List.set_cons_zero, List.set_cons_succ]
            refine wpAnyH_take (i := 20) (oi := { dst := Option.some 80, op := Op.load 23 (Operand.tmp 7), type := 23, pos := "outright.go:66", after := #[{ on := 18, ground := Ground.guard }], guard := Option.some (18, Bool.true) }) (v := undef) rfl (by kernel_rfl) (by kernel_rfl) (by kernel_rfl) (fun _ _ _ h => h) (Or.inr ⟨by rfl, rfl⟩) (by assumption) ?_
            try simp only [Act.put, List.setIfInBounds_toArray, List.set_cons_zero, List.set_cons_succ]
            refine wpAnyH_take (i := 21) (oi := { dst := Option.some 81, op := Op.call { callee := Callee.value (Operand.func 20), args := #[Operand.tmp 79, Operand.tmp 80], argTypes := #[25, 23] }, type := 4, pos := "outright.go:66", after := #[{ on := 19, ground := Ground.data }, { on := 20, ground := Ground.data }, { on := 18, ground := Ground.chain }, { on := 18, ground := Ground.guard }], guard := Option.some (18, Bool.true) }) (v := undef) rfl (by kernel_rfl) (by kernel_rfl) (by kernel_rfl) (fun _ _ _ h => h) (Or.inr ⟨by rfl, rfl⟩) (by assumption) ?_
            try simp only [Act.put, List.setIfInBounds_toArray, List.set_cons_zero, List.set_cons_succ]
            refine wpAnyH_take (i := 22) (oi := { dst := Option.some 82, op := Op.pick (Operand.tmp 78) (Operand.tmp 81) (Operand.const (Value.bool Bool.false)), type := 4, pos := "outright.go:66", after := #[{ on := 18, ground := Ground.data }, { on := 21, ground := Ground.data }, { on := 15, ground := Ground.guard }], guard := Option.some (15, Bool.false) }) (v := ?_) rfl (by kernel_rfl) (by kernel_rfl) (by kernel_rfl) (fun _ _ _ h => h) (Or.inl ⟨by rfl, ?_⟩) (by assumption) ?_
            rotate_left
            · intro w hSw
              (try dsimp only at hSw)
              go_simp
              try with_reducible rfl
            try simp only [Act.put, List.setIfInBounds_toArray, List.set_cons_zero, List.set_cons_succ]
            refine wpAnyH_take (i := 23) (oi := { dst := Option.some 83, op := Op.move (Operand.tmp 82), type := 4, pos := "outright.go:66", after := #[{ on := 22, ground := Ground.data }, { on := 21, ground := Ground.chain }, { on := 15, ground := Ground.guard }], guard := Option.some (15, Bool.false) }) (v := ?_) rfl (by kernel_rfl) (by kernel_rfl) (by kernel_rfl) (fun _ _ _ h => h) (Or.inl ⟨by rfl, ?_⟩) (by assumption) ?_
            rotate_left
            · intro w hSw
              (try dsimp only at hSw)
              go_simp
              try with_reducible rfl
            try simp only [Act.put, List.setIfInBounds_toArray, List.set_cons_zero, List.set_cons_succ]
            refine wpAnyH_take (i := 24) (oi := { dst := Option.some 84, op := Op.load 25 (Operand.tmp 5), type := 25, pos := "outright.go:66", after := #[{ on := 23, ground := Ground.guard }], guard := Option.some (23, Bool.true) }) (v := undef) rfl (by kernel_rfl) (by kernel_rfl) (by kernel_rfl) (fun _ _ _ h => h) (Or.inr ⟨by rfl, rfl⟩) (by assumption) ?_
            try simp only [Act.put, List.setIfInBounds_toArray, List.set_cons_zero, List.set_cons_succ]
            refine wpAnyH_take (i := 25) (oi := { dst := Option.some 85, op := Op.load 23 (Operand.tmp 7), type := 23, pos := "outright.go:66", after := #[{ on := 23, ground := Ground.guard }], guard := Option.some (23, Bool.true) }) (v := undef) rfl (by kernel_rfl) (by kernel_rfl) (by kernel_rfl) (fun _ _ _ h => h) (Or.inr ⟨by rfl, rfl⟩) (by assumption) ?_
            try simp only [Act.put, List.setIfInBounds_toArray, List.set_cons_zero, List.set_cons_succ]
            refine wpAnyH_take (i := 26) (oi := { dst := Option.some 86, op := Op.call { callee := Callee.value (Operand.func 20), args := #[Operand.tmp 84, Operand.tmp 85], argTypes := #[25, 23] }, type := 4, pos := "outright.go:66", after := #[{ on := 24, ground := Ground.data }, { on := 25, ground := Ground.data }, { on := 23, ground := Ground.chain }, { on := 23, ground := Ground.guard }], guard := Option.some (23, Bool.true) }) (v := undef) rfl (by kernel_rfl) (by kernel_rfl) (by kernel_rfl) (fun _ _ _ h => h) (Or.inr ⟨by rfl, rfl⟩) (by assumption) ?_
            try simp only [Act.put, List.setIfInBounds_toArray, List.set_cons_zero, List.set_cons_succ]
            refine wpAnyH_take (i := 27) (oi := { dst := Option.some 87, op := Op.pick (Operand.tmp 83) (Operand.tmp 86) (Operand.const (Value.bool Bool.false)), type := 4, pos := "outright.go:66", after := #[{ on := 23, ground := Ground.data }, { on := 26, ground := Ground.data }, { on := 15, ground := Ground.guard }], guard := Option.some (15, Bool.false) }) (v := ?_) rfl (by kernel_rfl) (by kernel_rfl) (by kernel_rfl) (fun _ _ _ h => h) (Or.inl ⟨by rfl, ?_⟩) (by assumption) ?_
            rotate_left
            · intro w hSw
              (try dsimp only at hSw)
              go_simp
              try with_reducible rfl
            try simp only [Act.put, List.setIfInBounds_toArray, List.set_cons_zero, List.set_cons_succ]
            refine wpAnyH_take (i := 28) (oi := { dst := Option.some 88, op := Op.pick (Operand.tmp 75) (Operand.const (Value.bool Bool.true)) (Operand.tmp 87), type := 4, pos := "outright.go:66", after := #[{ on := 15, ground := Ground.data }, { on := 27, ground := Ground.data }], guard := Option.none }) (v := ?_) rfl (by kernel_rfl) (by kernel_rfl) (by kernel_rfl) (fun _ _ _ h => h) (Or.inl ⟨by rfl, ?_⟩) (by assumption) ?_
            rotate_left
            · intro w hSw
              (try dsimp only at hSw)
              go_simp
              try with_reducible rfl
            try simp only [Act.put, List.setIfInBounds_toArray, List.set_cons_zero, List.set_cons_succ]
            refine wpAnyH_done (by kernel_rfl) ?_ _
            go_wp2_with fail
            go_meet
            case rel => first | exact ⟨rfl, hB, pa, pb, pd, pc, px⟩ | exact ⟨rfl, hB.drew, AtL.drew pa, AtL.drew pb, AtL.drew pd, AtL.drew pc, AtL.drew px⟩
      | false =>
        have F := F2.out rfl
        clear F1 F2
        cases ha with
        | false =>
          refine wp_region_held_drew (S := (MeS w.heap.size kb kc kpx a_s a_t a_l a_b a_r b_s b_t b_l b_b b_r cs cr cc x0 x1 x2 x3 x4)) (by kernel_rfl) (MeS_drew hS) (fun hHeld => ?_)
          refine wpAnyH_take (i := 0) (oi := { dst := Option.some 60, op := Op.move (Operand.tmp 10), type := 4, pos := "outright.go:66", after := #[], guard := Option.none }) (v := ?_) rfl (by kernel_rfl) (by kernel_rfl) (by kernel_rfl) (fun _ _ _ h => h) (Or.inl ⟨by rfl, ?_⟩) (by assumption) ?_
          rotate_left
          · intro w hSw
            (try dsimp only at hSw)
            go_simp
            try with_reducible rfl
          try simp only [Act.put, List.setIfInBounds_toArray, List.set_cons_zero, List.set_cons_succ]
          refine wpAnyH_take (i := 1) (oi := { dst := Option.some 61, op := Op.move (Operand.tmp 60), type := 4, pos := "outright.go:66", after := #[{ on := 0, ground := Ground.data }], guard := Option.none }) (v := ?_) rfl (by kernel_rfl) (by kernel_rfl) (by kernel_rfl) (fun _ _ _ h => h) (Or.inl ⟨by rfl, ?_⟩) (by assumption) ?_
          rotate_left
          · intro w hSw
            (try dsimp only at hSw)
            go_simp
            try with_reducible rfl
          try simp only [Act.put, List.setIfInBounds_toArray, List.set_cons_zero, List.set_cons_succ]
          refine wpAnyH_take (i := 2) (oi := { dst := Option.some 62, op := Op.load 25 (Operand.tmp 9), type := 25, pos := "outright.go:66", after := #[{ on := 1, ground := Ground.guard }], guard := Option.some (1, Bool.true) }) (v := undef) rfl (by kernel_rfl) (by kernel_rfl) (by kernel_rfl) (fun _ _ _ h => h) (Or.inr ⟨by rfl, rfl⟩) (by assumption) ?_
          try simp only [Act.put, List.setIfInBounds_toArray, List.set_cons_zero, List.set_cons_succ]
          refine wpAnyH_take (i := 3) (oi := { dst := Option.some 63, op := Op.load 23 (Operand.tmp 7), type := 23, pos := "outright.go:66", after := #[{ on := 1, ground := Ground.guard }], guard := Option.some (1, Bool.true) }) (v := undef) rfl (by kernel_rfl) (by kernel_rfl) (by kernel_rfl) (fun _ _ _ h => h) (Or.inr ⟨by rfl, rfl⟩) (by assumption) ?_
          try simp only [Act.put, List.setIfInBounds_toArray, List.set_cons_zero, List.set_cons_succ]
          refine wpAnyH_take (i := 5) (oi := { dst := Option.some 65, op := Op.load 25 (Operand.tmp 4), type := 25, pos := "outright.go:66", after := #[{ on := 1, ground := Ground.guard }], guard := Option.some (1, Bool.true) }) (v := undef) rfl (by kernel_rfl) (by kernel_rfl) (by kernel_rfl) (fun _ _ _ h => h) (Or.inr ⟨by rfl, rfl⟩) (by assumption) ?_
          try simp only [Act.put, List.setIfInBounds_toArray, List.set_cons_zero, List.set_cons_succ]
          refine wpAnyH_take (i := 6) (oi := { dst := Option.some 66, op := Op.load 23 (Operand.tmp 7), type := 23, pos := "outright.go:66", after := #[{ on := 1, ground := Ground.guard }], guard := Option.some (1, Bool.true) }) (v := undef) rfl (by kernel_rfl) (by kernel_rfl) (by kernel_rfl) (fun _ _ _ h => h) (Or.inr ⟨by rfl, rfl⟩) (by assumption) ?_
          try simp only [Act.put, List.setIfInBounds_toArray, List.set_cons_zero, List.set_cons_succ]
          refine wpAnyH_take (i := 4) (oi := { dst := Option.some 64, op := Op.call { callee := Callee.value (Operand.func 20), args := #[Operand.tmp 62, Operand.tmp 63], argTypes := #[25, 23] }, type := 4, pos := "outright.go:66", after := #[{ on := 2, ground := Ground.data }, { on := 3, ground := Ground.data }, { on := 1, ground := Ground.chain }, { on := 1, ground := Ground.guard }], guard := Option.some (1, Bool.true) }) (v := undef) rfl (by kernel_rfl) (by kernel_rfl) (by kernel_rfl) (fun _ _ _ h => h) (Or.inr ⟨by rfl, rfl⟩) (by assumption) ?_
          try simp only [Act.put, List.setIfInBounds_toArray, List.set_cons_zero, List.set_cons_succ]
          refine wpAnyH_take (i := 7) (oi := { dst := Option.some 67, op := Op.call { callee := Callee.value (Operand.func 20), args := #[Operand.tmp 65, Operand.tmp 66], argTypes := #[25, 23] }, type := 4, pos := "outright.go:66", after := #[{ on := 5, ground := Ground.data }, { on := 6, ground := Ground.data }, { on := 4, ground := Ground.chain }, { on := 1, ground := Ground.guard }], guard := Option.some (1, Bool.true) }) (v := undef) rfl (by kernel_rfl) (by kernel_rfl) (by kernel_rfl) (fun _ _ _ h => h) (Or.inr ⟨by rfl, rfl⟩) (by assumption) ?_
          try simp only [Act.put, List.setIfInBounds_toArray, List.set_cons_zero, List.set_cons_succ]
          refine wpAnyH_take (i := 8) (oi := { dst := Option.some 68, op := Op.move (Operand.tmp 67), type := 4, pos := "outright.go:66", after := #[{ on := 7, ground := Ground.data }, { on := 7, ground := Ground.chain }, { on := 1, ground := Ground.guard }], guard := Option.some (1, Bool.true) }) (v := undef) rfl (by kernel_rfl) (by kernel_rfl) (by kernel_rfl) (fun _ _ _ h => h) (Or.inr ⟨by rfl, rfl⟩) (by assumption) ?_
          try simp only [Act.put, List.setIfInBounds_toArray, List.set_cons_zero, List.set_cons_succ]
          refine wpAnyH_take (i := 9) (oi := { dst := Option.some 69, op := Op.load 25 (Operand.tmp 5), type := 25, pos := "outright.go:66", after := #[{ on := 8, ground := Ground.guard }], guard := Option.some (8, Bool.true) }) (v := undef) rfl (by kernel_rfl) (by kernel_rfl) (by kernel_rfl) (fun _ _ _ h => h) (Or.inr ⟨by rfl, rfl⟩) (by assumption) ?_
          try simp only [Act.put, List.setIfInBounds_toArray, List.set_cons_zero, List.set_cons_succ]
          refine wpAnyH_take (i := 10) (oi := { dst := Option.some 70, op := Op.load 23 (Operand.tmp 7), type := 23, pos := "outright.go:66", after := #[{ on := 8, ground := Ground.guard }], guard := Option.some (8, Bool.true) }) (v := undef) rfl (by kernel_rfl) (by kernel_rfl) (by kernel_rfl) (fun _ _ _ h => h) (Or.inr ⟨by rfl, rfl⟩) (by assumption) ?_
          try simp only [Act.put, List.setIfInBounds_toArray, List.set_cons_zero, List.set_cons_succ]
          refine wpAnyH_take (i := 11) (oi := { dst := Option.some 71, op := Op.call { callee := Callee.value (Operand.func 20), args := #[Operand.tmp 69, Operand.tmp 70], argTypes := #[25, 23] }, type := 4, pos := "outright.go:66", after := #[{ on := 9, ground := Ground.data }, { on := 10, ground := Ground.data }, { on := 8, ground := Ground.chain }, { on := 8, ground := Ground.guard }], guard := Option.some (8, Bool.true) }) (v := undef) rfl (by kernel_rfl) (by kernel_rfl) (by kernel_rfl) (fun _ _ _ h => h) (Or.inr ⟨by rfl, rfl⟩) (by assumption) ?_
          try simp only [Act.put, List.setIfInBounds_toArray, List.set_cons_zero, List.set_cons_succ]
          refine wpAnyH_take (i := 12) (oi := { dst := Option.some 72, op := Op.pick (Operand.tmp 68) (Operand.tmp 71) (Operand.const (Value.bool Bool.false)), type := 4, pos := "outright.go:66", after := #[{ on := 8, ground := Ground.data }, { on := 11, ground := Ground.data }, { on := 1, ground := Ground.guard }], guard := Option.some (1, Bool.true) }) (v := undef) rfl (by kernel_rfl) (by kernel_rfl) (by kernel_rfl) (fun _ _ _ h => h) (Or.inr ⟨by rfl, rfl⟩) (by assumption) ?_
          try simp only [Act.put, List.setIfInBounds_toArray, List.set_cons_zero, List.set_cons_succ]
          refine wpAnyH_take (i := 13) (oi := { dst := Option.some 73, op := Op.binOp BinOp.neq 4 (Operand.tmp 64) (Operand.tmp 72) 4, type := 4, pos := "outright.go:66", after := #[{ on := 4, ground := Ground.data }, { on := 12, ground := Ground.data }, { on := 1, ground := Ground.guard }], guard := Option.some (1, Bool.true) }) (v := undef) rfl (by kernel_rfl) (by kernel_rfl) (by kernel_rfl) (fun _ _ _ h => h) (Or.inr ⟨by rfl, rfl⟩) (by assumption) ?_
          try simp only [Act.put, List.setIfInBounds_toArray, List.set_cons_zero, List.set_cons_succ]
          refine wpAnyH_take (i := 14) (oi := { dst := Option.some 74, op := Op.pick (Operand.tmp 61) (Operand.tmp 73) (Operand.const (Value.bool Bool.false)), type := 4, pos := "outright.go:66", after := #[{ on := 1, ground := Ground.data }, { on := 13, ground := Ground.data }], guard := Option.none }) (v := ?_) rfl (by kernel_rfl) (by kernel_rfl) (by kernel_rfl) (fun _ _ _ h => h) (Or.inl ⟨by rfl, ?_⟩) (by assumption) ?_
          rotate_left
          · intro w hSw
            (try dsimp only at hSw)
            go_simp
            try with_reducible rfl
          try simp only [Act.put, List.setIfInBounds_toArray, List.set_cons_zero, List.set_cons_succ]
          refine wpAnyH_take (i := 15) (oi := { dst := Option.some 75, op := Op.move (Operand.tmp 74), type := 4, pos := "outright.go:66", after := #[{ on := 14, ground := Ground.data }, { on := 11, ground := Ground.chain }], guard := Option.none }) (v := ?_) rfl (by kernel_rfl) (by kernel_rfl) (by kernel_rfl) (fun _ _ _ h => h) (Or.inl ⟨by rfl, ?_⟩) (by assumption) ?_
          rotate_left
          · intro w hSw
            (try dsimp only at hSw)
            go_simp
            try with_reducible rfl
          try simp only [Act.put, List.setIfInBounds_toArray, List.set_cons_zero, List.set_cons_succ]
          refine wpAnyH_take (i := 16) (oi := { dst := Option.some 76, op := Op.move (Operand.tmp 10), type := 4, pos := "outright.go:66", after := #[{ on := 15, ground := Ground.guard }], guard := Option.some (15, Bool.false) }) (v := ?_) rfl (by kernel_rfl) (by kernel_rfl) (by kernel_rfl) (fun _ _ _ h => h) (Or.inl ⟨by rfl, ?_⟩) (by assumption) ?_
          rotate_left
          · intro w hSw
            (try dsimp only at hSw)
            go_simp
            try with_reducible rfl
          try simp only [Act.put, List.setIfInBounds_toArray, List.set_cons_zero, List.set_cons_succ]
          refine wpAnyH_take (i := 17) (oi := { dst := Option.some 77, op := Op.unOp UnOp.not 4 (Operand.tmp 76), type := 4, pos := "outright.go:66", after := #[{ on := 16, ground := Ground.data }, { on := 15, ground := Ground.guard }], guard := Option.some (15, Bool.false) }) (v := ?_) rfl (by kernel_rfl) (by kernel_rfl) (by kernel_rfl) (fun _ _ _ h => h) (Or.inl ⟨by rfl, ?_⟩) (by assumption) ?_
          rotate_left
          · intro w hSw
            (try dsimp only at hSw)
            go_simp
            try with_reducible rfl
          try simp only [Act.put, List.setIfInBounds_toArray, List.set_cons_zero, List.set_cons_succ]
          refine wpAnyH_take (i := 18) (oi := { dst := Option.some 78, op := Op.move (Operand.tmp 77), type := 4, pos := "outright.go:66", after := #[{ on := 17, ground := Ground.data }, { on := 15, ground := Ground.chain }, { on := 15, ground := Ground.guard }], guard := Option.some (15, Bool.false) }) (v := ?_) rfl (by kernel_rfl) (by kernel_rfl) (by kernel_rfl) (fun _ _ _ h => h) (Or.inl ⟨by rfl, ?_⟩) (by assumption) ?_
          rotate_left
          · intro w hSw
            (try dsimp only at hSw)
            go_simp
            try with_reducible rfl
          try simp only [Act.put, List.setIfInBounds_toArray, List.set_cons_zero, List.set_cons_succ]
          refine wpAnyH_take (i := 19) (oi := { dst := Option.some 79, op := Op.load 25 (Operand.tmp 4), type := 25, pos := "outright.go:66", after := #[{ on := 18, ground := Ground.guard }], guard := Option.some (18, Bool.true) }) (v := ?_) rfl (by kernel_rfl) (by kernel_rfl) (by kernel_rfl) (fun _ _ _ h => h) (Or.inl ⟨by rfl, ?_⟩) (by assumption) ?_
          rotate_left
          · intro w hSw
            (try dsimp only at hSw)
            go_simp
            try with_reducible rfl
          try simp only [Act.put, List.setIfInBounds_toArray, List.set_cons_zero, List.set_cons_succ]
          refine wpAnyH_take (i := 20) (oi := { dst := Option.some 80, op := Op.load 23 (Operand.tmp 7), type := 23, pos := "outright.go:66", after := #[{ on := 18, ground := Ground.guard }], guard := Option.some (18, Bool.true) }) (v := ?_) rfl (by kernel_rfl) (by kernel_rfl) (by kernel_rfl) (fun _ _ _ h => h) (Or.inl ⟨by rfl, ?_⟩) (by assumption) ?_
          rotate_left
          · intro w hSw
            (try dsimp only at hSw)
            go_simp
            try with_reducible rfl
          try simp only [Act.put, List.setIfInBounds_toArray, List.set_cons_zero, List.set_cons_succ]
          refine wpAnyH_ready (rs := [21]) (by kernel_rfl) (by simp) ?_
          refine AllReadyH.cons (o := { dst := Option.some 81, op := Op.call { callee := Callee.value (Operand.func 20), args := #[Operand.tmp 79, Operand.tmp 80], argTypes := #[25, 23] }, type := 4, pos := "outright.go:66", after := #[{ on := 19, ground := Ground.data }, { on := 20, ground := Ground.data }, { on := 18, ground := Ground.chain }, { on := 18, ground := Ground.guard }], guard := Option.some (18, Bool.true) }) rfl (fun K hK => ?_) AllReadyH.nil
          go_simp
          refine (HA _).mono ?_
          rintro e v ⟨rfl, hb⟩
          (with_reducible first | replace hB := x3_below_end hB hb | replace hB := x3_below_end hB.drew hb)
          (with_reducible first | replace pa := AtL.below hb pa | replace pa := AtL.below hb (AtL.drew pa))
          (with_reducible first | replace pb := AtL.below hb pb | replace pb := AtL.below hb (AtL.drew pb))
          (with_reducible first | replace pd := AtL.below hb pd | replace pd := AtL.below hb (AtL.drew pd))
          (with_reducible first | replace pc := AtL.below hb pc | replace pc := AtL.below hb (AtL.drew pc))
          (with_reducible first | replace px := AtL.below hb px | replace px := AtL.below hb (AtL.drew px))
          go_wp2_with fail
          refine hK.out _ _ (MeS_below hb hHeld) (fun hHeld => ?_)
          clear hK K
          try simp only [Act.put, List.setIfInBounds_toArray, List.set_cons_zero, List.set_cons_succ]
          refine wpAnyH_take (i := 22) (oi := { dst := Option.some 82, op := Op.pick (Operand.tmp 78) (Operand.tmp 81) (Operand.const (Value.bool Bool.false)), type := 4, pos := "outright.go:66", after := #[{ on := 18, ground := Ground.data }, { on := 21, ground := Ground.data }, { on := 15, ground := Ground.guard }], guard := Option.some (15, Bool.false) }) (v := ?_) rfl (by kernel_rfl) (by kernel_rfl) (by kernel_rfl) (fun _ _ _ h => h) (Or.inl ⟨by rfl, ?_⟩) (by assumption) ?_
          rotate_left
          · intro w hSw
            (try dsimp only at hSw)
            go_simp
            try with_reducible rfl
          try simp only [Act.put, List.setIfInBounds_toArray, List.set_cons_zero, List.set_cons_succ]
          refine wpAnyH_take (i := 23) (oi := { dst := Option.some 83, op := Op.move (Operand.tmp 82), type := 4, pos := "outright.go:66", after := #[{ on := 22, ground := Ground.data }, { on := 21, ground := Ground.chain }, { on := 15, ground := Ground.guard }], guard := Option.some (15, Bool.false) }) (v := ?_) rfl (by kernel_rfl) (by kernel_rfl) (by kernel_rfl) (fun _ _ _ h => h) (Or.inl ⟨by rfl, ?_⟩) (by assumption) ?_
          rotate_left
          · intro w hSw
            (try dsimp only at hSw)
            go_simp
            try with_reducible rfl
          try simp only [Act.put, List.setIfInBounds_toArray, List.set_cons_zero, List.set_cons_succ]
          refine wpAnyH_take (i := 24) (oi := { dst := Option.some 84, op := Op.load 25 (Operand.tmp 5), type := 25, pos := "outright.go:66", after := #[{ on := 23, ground := Ground.guard }], guard := Option.some (23, Bool.true) }) (v := undef) rfl (by kernel_rfl) (by kernel_rfl) (by kernel_rfl) (fun _ _ _ h => h) (Or.inr ⟨by rfl, rfl⟩) (by assumption) ?_
          try simp only [Act.put, List.setIfInBounds_toArray, List.set_cons_zero, List.set_cons_succ]
          refine wpAnyH_take (i := 25) (oi := { dst := Option.some 85, op := Op.load 23 (Operand.tmp 7), type := 23, pos := "outright.go:66", after := #[{ on := 23, ground := Ground.guard }], guard := Option.some (23, Bool.true) }) (v := undef) rfl (by kernel_rfl) (by kernel_rfl) (by kernel_rfl) (fun _ _ _ h => h) (Or.inr ⟨by rfl, rfl⟩) (by assumption) ?_
          try simp only [Act.put, List.setIfInBounds_toArray, List.set_cons_zero, List.set_cons_succ]
          refine wpAnyH_take (i := 26) (oi := { dst := Option.some 86, op := Op.call { callee := Callee.value (Operand.func 20), args := #[Operand.tmp 84, Operand.tmp 85], argTypes := #[25, 23] }, type := 4, pos := "outright.go:66", after := #[{ on := 24, ground := Ground.data }, { on := 25, ground := Ground.data }, { on := 23, ground := Ground.chain }, { on := 23, ground := Ground.guard }], guard := Option.some (23, Bool.true) }) (v := undef) rfl (by kernel_rfl) (by kernel_rfl) (by kernel_rfl) (fun _ _ _ h => h) (Or.inr ⟨by rfl, rfl⟩) (by assumption) ?_
          try simp only [Act.put, List.setIfInBounds_toArray, List.set_cons_zero, List.set_cons_succ]
          refine wpAnyH_take (i := 27) (oi := { dst := Option.some 87, op := Op.pick (Operand.tmp 83) (Operand.tmp 86) (Operand.const (Value.bool Bool.false)), type := 4, pos := "outright.go:66", after := #[{ on := 23, ground := Ground.data }, { on := 26, ground := Ground.data }, { on := 15, ground := Ground.guard }], guard := Option.some (15, Bool.false) }) (v := ?_) rfl (by kernel_rfl) (by kernel_rfl) (by kernel_rfl) (fun _ _ _ h => h) (Or.inl ⟨by rfl, ?_⟩) (by assumption) ?_
          rotate_left
          · intro w hSw
            (try dsimp only at hSw)
            go_simp
            try with_reducible rfl
          try simp only [Act.put, List.setIfInBounds_toArray, List.set_cons_zero, List.set_cons_succ]
          refine wpAnyH_take (i := 28) (oi := { dst := Option.some 88, op := Op.pick (Operand.tmp 75) (Operand.const (Value.bool Bool.true)) (Operand.tmp 87), type := 4, pos := "outright.go:66", after := #[{ on := 15, ground := Ground.data }, { on := 27, ground := Ground.data }], guard := Option.none }) (v := ?_) rfl (by kernel_rfl) (by kernel_rfl) (by kernel_rfl) (fun _ _ _ h => h) (Or.inl ⟨by rfl, ?_⟩) (by assumption) ?_
          rotate_left
          · intro w hSw
            (try dsimp only at hSw)
            go_simp
            try with_reducible rfl
          try simp only [Act.put, List.setIfInBounds_toArray, List.set_cons_zero, List.set_cons_succ]
          refine wpAnyH_done (by kernel_rfl) ?_ _
          go_wp2_with fail
          go_meet
          case rel => first | exact ⟨rfl, hB, pa, pb, pd, pc, px⟩ | exact ⟨rfl, hB.drew, AtL.drew pa, AtL.drew pb, AtL.drew pd, AtL.drew pc, AtL.drew px⟩
        | true =>
          cases hb with
          | true => cases F
          | false =>
            refine wp_region_held_drew (S := (MeS w.heap.size kb kc kpx a_s a_t a_l a_b a_r b_s b_t b_l b_b b_r cs cr cc x0 x1 x2 x3 x4)) (by kernel_rfl) (MeS_drew hS) (fun hHeld => ?_)
            refine wpAnyH_take (i := 0) (oi := { dst := Option.some 60, op := Op.move (Operand.tmp 10), type := 4, pos := "outright.go:66", after := #[], guard := Option.none }) (v := ?_) rfl (by kernel_rfl) (by kernel_rfl) (by kernel_rfl) (fun _ _ _ h => h) (Or.inl ⟨by rfl, ?_⟩) (by assumption) ?_
            rotate_left
            · intro w hSw
              (try dsimp only at hSw)
              go_simp
              try with_reducible rfl
            try simp only [Act.put, List.setIfInBounds_toArray, List.set_cons_zero, List.set_cons_succ]
            refine wpAnyH_take (i := 1) (oi := { dst := Option.some 61, op := Op.move (Operand.tmp 60), type := 4, pos := "outright.go:66", after := #[{ on := 0, ground := Ground.data }], guard := Option.none }) (v := ?_) rfl (by kernel_rfl) (by kernel_rfl) (by kernel_rfl) (fun _ _ _ h => h) (Or.inl ⟨by rfl, ?_⟩) (by assumption) ?_
            rotate_left
            · intro w hSw
              (try dsimp only at hSw)
              go_simp
              try with_reducible rfl
            try simp only [Act.put, List.setIfInBounds_toArray, List.set_cons_zero, List.set_cons_succ]
            refine wpAnyH_take (i := 2) (oi := { dst := Option.some 62, op := Op.load 25 (Operand.tmp 9), type := 25, pos := "outright.go:66", after := #[{ on := 1, ground := Ground.guard }], guard := Option.some (1, Bool.true) }) (v := undef) rfl (by kernel_rfl) (by kernel_rfl) (by kernel_rfl) (fun _ _ _ h => h) (Or.inr ⟨by rfl, rfl⟩) (by assumption) ?_
            try simp only [Act.put, List.setIfInBounds_toArray, List.set_cons_zero, List.set_cons_succ]
            refine wpAnyH_take (i := 3) (oi := { dst := Option.some 63, op := Op.load 23 (Operand.tmp 7), type := 23, pos := "outright.go:66", after := #[{ on := 1, ground := Ground.guard }], guard := Option.some (1, Bool.true) }) (v := undef) rfl (by kernel_rfl) (by kernel_rfl) (by kernel_rfl) (fun _ _ _ h => h) (Or.inr ⟨by rfl, rfl⟩) (by assumption) ?_
            try simp only [Act.put, List.setIfInBounds_toArray, List.set_cons_zero, List.set_cons_succ]
            refine wpAnyH_take (i := 5) (oi := { dst := Option.some 65, op := Op.load 25 (Operand.tmp 4), type := 25, pos := "outright.go:66", after := #[{ on := 1, ground := Ground.guard }], guard := Option.some (1, Bool.true) }) (v := undef) rfl (by kernel_rfl) (by kernel_rfl) (by kernel_rfl) (fun _ _ _ h => h) (Or.inr ⟨by rfl, rfl⟩) (by assumption) ?_
            try simp only [Act.put, List.setIfInBounds_toArray, List.set_cons_zero, List.set_cons_succ]
            refine wpAnyH_take (i := 6) (oi := { dst := Option.some 66, op := Op.load 23 (Operand.tmp 7), type := 23, pos := "outright.go:66", after := #[{ on := 1, ground := Ground.guard }], guard := Option.some (1, Bool.true) }) (v := undef) rfl (by kernel_rfl) (by kernel_rfl) (by kernel_rfl) (fun _ _ _ h => h) (Or.inr ⟨by rfl, rfl⟩) (by assumption) ?_
            try simp only [Act.put, List.setIfInBounds_toArray, List.set_cons_zero, List.set_cons_succ]
            refine wpAnyH_take (i := 4) (oi := { dst := Option.some 64, op := Op.call { callee := Callee.value (Operand.func 20), args := #[Operand.tmp 62, Operand.tmp 63], argTypes := #[25, 23] }, type := 4, pos := "outright.go:66", after := #[{ on := 2, ground := Ground.data }, { on := 3, ground := Ground.data }, { on := 1, ground := Ground.chain }, { on := 1, ground := Ground.guard }], guard := Option.some (1, Bool.true) }) (v := undef) rfl (by kernel_rfl) (by kernel_rfl) (by kernel_rfl) (fun _ _ _ h => h) (Or.inr ⟨by rfl, rfl⟩) (by assumption) ?_
            try simp only [Act.put, List.setIfInBounds_toArray, List.set_cons_zero, List.set_cons_succ]
            refine wpAnyH_take (i := 7) (oi := { dst := Option.some 67, op := Op.call { callee := Callee.value (Operand.func 20), args := #[Operand.tmp 65, Operand.tmp 66], argTypes := #[25, 23] }, type := 4, pos := "outright.go:66", after := #[{ on := 5, ground := Ground.data }, { on := 6, ground := Ground.data }, { on := 4, ground := Ground.chain }, { on := 1, ground := Ground.guard }], guard := Option.some (1, Bool.true) }) (v := undef) rfl (by kernel_rfl) (by kernel_rfl) (by kernel_rfl) (fun _ _ _ h => h) (Or.inr ⟨by rfl, rfl⟩) (by assumption) ?_
            try simp only [Act.put, List.setIfInBounds_toArray, List.set_cons_zero, List.set_cons_succ]
            refine wpAnyH_take (i := 8) (oi := { dst := Option.some 68, op := Op.move (Operand.tmp 67), type := 4, pos := "outright.go:66", after := #[{ on := 7, ground := Ground.data }, { on := 7, ground := Ground.chain }, { on := 1, ground := Ground.guard }], guard := Option.some (1, Bool.true) }) (v := undef) rfl (by kernel_rfl) (by kernel_rfl) (by kernel_rfl) (fun _ _ _ h => h) (Or.inr ⟨by rfl, rfl⟩) (by assumption) ?_
            try simp only [Act.put, List.setIfInBounds_toArray, List.set_cons_zero, List.set_cons_succ]
            refine wpAnyH_take (i := 9) (oi := { dst := Option.some 69, op := Op.load 25 (Operand.tmp 5), type := 25, pos := "outright.go:66", after := #[{ on := 8, ground := Ground.guard }], guard := Option.some (8, Bool.true) }) (v := undef) rfl (by kernel_rfl) (by kernel_rfl) (by kernel_rfl) (fun _ _ _ h => h) (Or.inr ⟨by rfl, rfl⟩) (by assumption) ?_
            try simp only [Act.put, List.setIfInBounds_toArray, List.set_cons_zero, List.set_cons_succ]
            refine wpAnyH_take (i := 10) (oi := { dst := Option.some 70, op := Op.load 23 (Operand.tmp 7), type := 23, pos := "outright.go:66", after := #[{ on := 8, ground := Ground.guard }], guard := Option.some (8, Bool.true) }) (v := undef) rfl (by kernel_rfl) (by kernel_rfl) (by kernel_rfl) (fun _ _ _ h => h) (Or.inr ⟨by rfl, rfl⟩) (by assumption) ?_
            try simp only [Act.put, List.setIfInBounds_toArray, List.set_cons_zero, List.set_cons_succ]
            refine wpAnyH_take (i := 11) (oi := { dst := Option.some 71, op := Op.call { callee := Callee.value (Operand.func 20), args := #[Operand.tmp 69, Operand.tmp 70], argTypes := #[25, 23] }, type := 4, pos := "outright.go:66", after := #[{ on := 9, ground := Ground.data }, { on := 10, ground := Ground.data }, { on := 8, ground := Ground.chain }, { on := 8, ground := Ground.guard }], guard := Option.some (8, Bool.true) }) (v := undef) rfl (by kernel_rfl) (by kernel_rfl) (by kernel_rfl) (fun _ _ _ h => h) (Or.inr ⟨by rfl, rfl⟩) (by assumption) ?_
            try simp only [Act.put, List.setIfInBounds_toArray, List.set_cons_zero, List.set_cons_succ]
            refine wpAnyH_take (i := 12) (oi := { dst := Option.some 72, op := Op.pick (Operand.tmp 68) (Operand.tmp 71) (Operand.const (Value.bool Bool.false)), type := 4, pos := "outright.go:66", after := #[{ on := 8, ground := Ground.data }, { on := 11, ground := Ground.data }, { on := 1, ground := Ground.guard }], guard := Option.some (1, Bool.true) }) (v := undef) rfl (by kernel_rfl) (by kernel_rfl) (by kernel_rfl) (fun _ _ _ h => h) (Or.inr ⟨by rfl, rfl⟩) (by assumption) ?_
            try simp only [Act.put, List.setIfInBounds_toArray, List.set_cons_zero, List.set_cons_succ]
            refine wpAnyH_take (i := 13) (oi := { dst := Option.some 73, op := Op.binOp BinOp.neq 4 (Operand.tmp 64) (Operand.tmp 72) 4, type := 4, pos := "outright.go:66", after := #[{ on := 4, ground := Ground.data }, { on := 12, ground := Ground.data }, { on := 1, ground := Ground.guard }], guard := Option.some (1, Bool.true) }) (v := undef) rfl (by kernel_rfl) (by kernel_rfl) (by kernel_rfl) (fun _ _ _ h => h) (Or.inr ⟨by rfl, rfl⟩) (by assumption) ?_
            try simp only [Act.put, List.setIfInBounds_toArray, List.set_cons_zero, List.set_cons_succ]
            refine wpAnyH_take (i := 14) (oi := { dst := Option.some 74, op := Op.pick (Operand.tmp 61) (Operand.tmp 73) (Operand.const (Value.bool Bool.false)), type := 4, pos := "outright.go:66", after := #[{ on := 1, ground := Ground.data }, { on := 13, ground := Ground.data }], guard := Option.none }) (v := ?_) rfl (by kernel_rfl) (by kernel_rfl) (by kernel_rfl) (fun _ _ _ h => h) (Or.inl ⟨by rfl, ?_⟩) (by assumption) ?_
            rotate_left
            · intro w hSw
              (try dsimp only at hSw)
              go_simp
              try with_reducible rfl
            try simp only [Act.put, List.setIfInBounds_toArray, List.set_cons_zero, List.set_cons_succ]
            refine wpAnyH_take (i := 15) (oi := { dst := Option.some 75, op := Op.move (Operand.tmp 74), type := 4, pos := "outright.go:66", after := #[{ on := 14, ground := Ground.data }, { on := 11, ground := Ground.chain }], guard := Option.none }) (v := ?_) rfl (by kernel_rfl) (by kernel_rfl) (by kernel_rfl) (fun _ _ _ h => h) (Or.inl ⟨by rfl, ?_⟩) (by assumption) ?_
            rotate_left
            · intro w hSw
              (try dsimp only at hSw)
              go_simp
              try with_reducible rfl
            try simp only [Act.put, List.setIfInBounds_toArray, List.set_cons_zero, List.set_cons_succ]
            refine wpAnyH_take (i := 16) (oi := { dst := Option.some 76, op := Op.move (Operand.tmp 10), type := 4, pos := "outright.go:66", after := #[{ on := 15, ground := Ground.guard }], guard := Option.some (15, Bool.false) }) (v := ?_) rfl (by kernel_rfl) (by kernel_rfl) (by kernel_rfl) (fun _ _ _ h => h) (Or.inl ⟨by rfl, ?_⟩) (by assumption) ?_
            rotate_left
            · intro w hSw
              (try dsimp only at hSw)
              go_simp
              try with_reducible rfl
            try simp only [Act.put, List.setIfInBounds_toArray, List.set_cons_zero, List.set_cons_succ]
            refine wpAnyH_take (i := 17) (oi := { dst := Option.some 77, op := Op.unOp UnOp.not 4 (Operand.tmp 76), type := 4, pos := "outright.go:66", after := #[{ on := 16, ground := Ground.data }, { on := 15, ground := Ground.guard }], guard := Option.some (15, Bool.false) }) (v := ?_) rfl (by kernel_rfl) (by kernel_rfl) (by kernel_rfl) (fun _ _ _ h => h) (Or.inl ⟨by rfl, ?_⟩) (by assumption) ?_
            rotate_left
            · intro w hSw
              (try dsimp only at hSw)
              go_simp
              try with_reducible rfl
            try simp only [Act.put, List.setIfInBounds_toArray, List.set_cons_zero, List.set_cons_succ]
            refine wpAnyH_take (i := 18) (oi := { dst := Option.some 78, op := Op.move (Operand.tmp 77), type := 4, pos := "outright.go:66", after := #[{ on := 17, ground := Ground.data }, { on := 15, ground := Ground.chain }, { on := 15, ground := Ground.guard }], guard := Option.some (15, Bool.false) }) (v := ?_) rfl (by kernel_rfl) (by kernel_rfl) (by kernel_rfl) (fun _ _ _ h => h) (Or.inl ⟨by rfl, ?_⟩) (by assumption) ?_
            rotate_left
            · intro w hSw
              (try dsimp only at hSw)
              go_simp
              try with_reducible rfl
            try simp only [Act.put, List.setIfInBounds_toArray, List.set_cons_zero, List.set_cons_succ]
            refine wpAnyH_take (i := 19) (oi := { dst := Option.some 79, op := Op.load 25 (Operand.tmp 4), type := 25, pos := "outright.go:66", after := #[{ on := 18, ground := Ground.guard }], guard := Option.some (18, Bool.true) }) (v := ?_) rfl (by kernel_rfl) (by kernel_rfl) (by kernel_rfl) (fun _ _ _ h => h) (Or.inl ⟨by rfl, ?_⟩) (by assumption) ?_
            rotate_left
            · intro w hSw
              (try dsimp only at hSw)
              go_simp
              try with_reducible rfl
            try simp only [Act.put, List.setIfInBounds_toArray, List.set_cons_zero, List.set_cons_succ]
            refine wpAnyH_take (i := 20) (oi := { dst := Option.some 80, op := Op.load 23 (Operand.tmp 7), type := 23, pos := "outright.go:66", after := #[{ on := 18, ground := Ground.guard }], guard := Option.some (18, Bool.true) }) (v := ?_) rfl (by kernel_rfl) (by kernel_rfl) (by kernel_rfl) (fun _ _ _ h => h) (Or.inl ⟨by rfl, ?_⟩) (by assumption) ?_
            rotate_left
            · intro w hSw
              (try dsimp only at hSw)
              go_simp
              try with_reducible rfl
            try simp only [Act.put, List.setIfInBounds_toArray, List.set_cons_zero, List.set_cons_succ]
            refine wpAnyH_ready (rs := [21]) (by kernel_rfl) (by simp) ?_
            refine AllReadyH.cons (o := { dst := Option.some 81, op := Op.call { callee := Callee.value (Operand.func 20), args := #[Operand.tmp 79, Operand.tmp 80], argTypes := #[25, 23] }, type := 4, pos := "outright.go:66", after := #[{ on := 19, ground := Ground.data }, { on := 20, ground := Ground.data }, { on := 18, ground := Ground.chain }, { on := 18, ground := Ground.guard }], guard := Option.some (18, Bool.true) }) rfl (fun K hK => ?_) AllReadyH.nil
            go_simp
            refine (HA _).mono ?_
            rintro e v ⟨rfl, hb⟩
            (with_reducible first | replace hB := x3_below_end hB hb | replace hB := x3_below_end hB.drew hb)
            (with_reducible first | replace pa := AtL.below hb pa | replace pa := AtL.below hb (AtL.drew pa))
            (with_reducible first | replace pb := AtL.below hb pb | replace pb := AtL.below hb (AtL.drew pb))
            (with_reducible first | replace pd := AtL.below hb pd | replace pd := AtL.below hb (AtL.drew pd))
            (with_reducible first | replace pc := AtL.below hb pc | replace pc := AtL.below hb (AtL.drew pc))
            (with_reducible first | replace px := AtL.below hb px | replace px := AtL.below hb (AtL.drew px))
            go_wp2_with fail
            refine hK.out _ _ (MeS_below hb hHeld) (fun hHeld => ?_)
            clear hK K
            try simp only [Act.put, List.setIfInBounds_toArray, List.set_cons_zero, List.set_cons_succ]
            refine wpAnyH_take (i := 22) (oi := { dst := Option.some 82, op := Op.pick (Operand.tmp 78) (Operand.tmp 81) (Operand.const (Value.bool Bool.false)), type := 4, pos := "outright.go:66", after := #[{ on := 18, ground := Ground.data }, { on := 21, ground := Ground.data }, { on := 15, ground := Ground.guard }], guard := Option.some (15, Bool.false) }) (v := ?_) rfl (by kernel_rfl) (by kernel_rfl) (by kernel_rfl) (fun _ _ _ h => h) (Or.inl ⟨by rfl, ?_⟩) (by assumption) ?_
            rotate_left
            · intro w hSw
              (try dsimp only at hSw)
              go_simp
              try with_reducible rfl
            try simp only [Act.put, List.setIfInBounds_toArray, List.set_cons_zero, List.set_cons_succ]
            refine wpAnyH_take (i := 23) (oi := { dst := Option.some 83, op := Op.move (Operand.tmp 82), type := 4, pos := "outright.go:66", after := #[{ on := 22, ground := Ground.data }, { on := 21, ground := Ground.chain }, { on := 15, ground := Ground.guard }], guard := Option.some (15, Bool.false) }) (v := ?_) rfl (by kernel_rfl) (by kernel_rfl) (by kernel_rfl) (fun _ _ _ h => h) (Or.inl ⟨by rfl, ?_⟩) (by assumption) ?_
            rotate_left
            · intro w hSw
              (try dsimp only at hSw)
              go_simp
              try with_reducible rfl
            try simp only [Act.put, List.setIfInBounds_toArray, List.set_cons_zero, List.set_cons_succ]
            refine wpAnyH_take (i := 24) (oi := { dst := Option.some 84, op := Op.load 25 (Operand.tmp 5), type := 25, pos := "outright.go:66", after := #[{ on := 23, ground := Ground.guard }], guard := Option.some (23, Bool.true) }) (v := ?_) rfl (by kernel_rfl) (by kernel_rfl) (by kernel_rfl) (fun _ _ _ h => h) (Or.inl ⟨by rfl, ?_⟩) (by assumption) ?_
            rotate_left
            · intro w hSw
              (try dsimp only at hSw)
              go_simp
              try with_reducible rfl
            try simp only [Act.put, List.setIfInBounds_toArray, List.set_cons_zero, List.set_cons_succ]
            refine wpAnyH_take (i := 25) (oi := { dst := Option.some 85, op := Op.load 23 (Operand.tmp 7), type := 23, pos := "outright.go:66", after := #[{ on := 23, ground := Ground.guard }], guard := Option.some (23, Bool.true) }) (v := ?_) rfl (by kernel_rfl) (by kernel_rfl) (by kernel_rfl) (fun _ _ _ h => h) (Or.inl ⟨by rfl, ?_⟩) (by assumption) ?_
            rotate_left
            · intro w hSw
              (try dsimp only at hSw)
              go_simp
              try with_reducible rfl
            try simp only [Act.put, List.setIfInBounds_toArray, List.set_cons_zero, List.set_cons_succ]
            refine wpAnyH_ready (rs := [26]) (by kernel_rfl) (by simp) ?_
            refine AllReadyH.cons (o := { dst := Option.some 86, op := Op.call { callee := Callee.value (Operand.func 20), args := #[Operand.tmp 84, Operand.tmp 85], argTypes := #[25, 23] }, type := 4, pos := "outright.go:66", after := #[{ on := 24, ground := Ground.data }, { on := 25, ground := Ground.data }, { on := 23, ground := Ground.chain }, { on := 23, ground := Ground.guard }], guard := Option.some (23, Bool.true) }) rfl (fun K hK => ?_) AllReadyH.nil
            go_simp
            refine (HB _).mono ?_
            rintro e v ⟨rfl, hb⟩
            (with_reducible first | replace hB := x3_below_end hB hb | replace hB := x3_below_end hB.drew hb)
            (with_reducible first | replace pa := AtL.below hb pa | replace pa := AtL.below hb (AtL.drew pa))
            (with_reducible first | replace pb := AtL.below hb pb | replace pb := AtL.below hb (AtL.drew pb))
            (with_reducible first | replace pd := AtL.below hb pd | replace pd := AtL.below hb (AtL.drew pd))
            (with_reducible first | replace pc := AtL.below hb pc | replace pc := AtL.below hb (AtL.drew pc))
            (with_reducible first | replace px := AtL.below hb px | replace px := AtL.below hb (AtL.drew px))
            go_wp2_with fail
            refine hK.out _ _ (MeS_below hb hHeld) (fun hHeld => ?_)
            clear hK K
            try simp only [Act.put, List.setIfInBounds_toArray, List.set_cons_zero, List.set_cons_succ]
            refine wpAnyH_take (i := 27) (oi := { dst := Option.some 87, op := Op.pick (Operand.tmp 83) (Operand.tmp 86) (Operand.const (Value.bool Bool.false)), type := 4, pos := "outright.go:66", after := #[{ on := 23, ground := Ground.data }, { on := 26, ground := Ground.data }, { on := 15, ground := Ground.guard }], guard := Option.some (15, Bool.false) }) (v := ?_) rfl (by kernel_rfl) (by kernel_rfl) (by kernel_rfl) (fun _ _ _ h => h) (Or.inl ⟨by rfl, ?_⟩) (by assumption) ?_
            rotate_left
            · intro w hSw
              (try dsimp only at hSw)
              go_simp
              try with_reducible rfl
            try simp only [Act.put, List.setIfInBounds_toArray, List.set_cons_zero, List.set_cons_succ]
            refine wpAnyH_take (i := 28) (oi := { dst := Option.some 88, op := Op.pick (Operand.tmp 75) (Operand.const (Value.bool Bool.true)) (Operand.tmp 87), type := 4, pos := "outright.go:66", after := #[{ on := 15, ground := Ground.data }, { on := 27, ground := Ground.data }], guard := Option.none }) (v := ?_) rfl (by kernel_rfl) (by kernel_rfl) (by kernel_rfl) (fun _ _ _ h => h) (Or.inl ⟨by rfl, ?_⟩) (by assumption) ?_
            rotate_left
            · intro w hSw
              (try dsimp only at hSw)
              go_simp
              try with_reducible rfl
            try simp only [Act.put, List.setIfInBounds_toArray, List.set_cons_zero, List.set_cons_succ]
            refine wpAnyH_done (by kernel_rfl) ?_ _
            go_wp2_with fail
            go_meet
            case rel => first | exact ⟨rfl, hB, pa, pb, pd, pc, px⟩ | exact ⟨rfl, hB.drew, AtL.drew pa, AtL.drew pb, AtL.drew pd, AtL.drew pc, AtL.drew px⟩
    case rest =>
      clear pa pb pd pc px hB HX HA HB F1 F2
      obtain ⟨rfl, hB, pa, pb, pd, pc, px⟩ := hcut
      clear pc
      obtain ⟨pdc0, pdc1, pdc2, pdc3, pdc4⟩ := pd.f5
      obtain ⟨pxc0, pxc1, pxc2, pxc3, pxc4⟩ := px.f5
      go_wp2_with fail
      refine (M3 _).mono ?_
      rintro e w5 ⟨rfl, hb5⟩
      replace pa := AtL.below hb5 pa
      replace pb := AtL.below hb5 pb
      replace pd := AtL.below hb5 pd
      replace px := AtL.below hb5 px
      have hB5 := x3_below_end hB hb5
      clear pdc0 pdc1 pdc2 pdc3 pdc4 pxc0 pxc1 pxc2 pxc3 pxc4
      clear hb5 hB
      obtain ⟨pbc0, pbc1, pbc2, pbc3, pbc4⟩ := pb.f5
      have lpb := pb.lt
      obtain ⟨pdc0, pdc1, pdc2, pdc3, pdc4⟩ := pd.f5
      have lpd := pd.lt
      go_wp2_with fail
      refine (M4 _).mono ?_
      rintro e w6 ⟨rfl, hb6⟩
      replace pa := AtL.below hb6 (AtL.alloc pa _)
      replace pb := AtL.below hb6 (AtL.alloc pb _)
      replace pd := AtL.below hb6 (AtL.alloc pd _)
      replace px := AtL.below hb6 (AtL.alloc px _)
      have pl : AtL w6 w5.heap.size [.int .i64 l0, .int .i64 l1, .int .i64 l2, .int .i64 l3, .int .i64 l4] := AtL.below hb6 (AtL.new0 w5 _ _)
      have hB6 := x3_below_end (x3_ball hB5 _) hb6
      clear pbc0 pbc1 pbc2 pbc3 pbc4 lpb pdc0 pdc1 pdc2 pdc3 pdc4 lpd
      clear hb6 hB5
      generalize w5.heap.size = kpl at *
      obtain ⟨pac0, pac1, pac2, pac3, pac4⟩ := pa.f5
      have lpa := pa.lt
      go_wp2_with fail
      refine (M5 _).mono ?_
      rintro e w7 ⟨rfl, hb7⟩
      replace pa := AtL.below hb7 (AtL.alloc pa _)
      replace pb := AtL.below hb7 (AtL.alloc pb _)
      replace pd := AtL.below hb7 (AtL.alloc pd _)
      replace px := AtL.below hb7 (AtL.alloc px _)
      replace pl := AtL.below hb7 (AtL.alloc pl _)
      have pm : AtL w7 w6.heap.size [.int .i64 m0, .int .i64 m1, .int .i64 m2, .int .i64 m3, .int .i64 m4] := AtL.below hb7 (AtL.new0 w6 _ _)
      have hB7 := x3_below_end (x3_ball hB6 _) hb7
      clear pac0 pac1 pac2 pac3 pac4 lpa
      clear hb7 hB6
      generalize w6.heap.size = kpm at *
      go_upto_region 12 with fail
      replace pa := AtL.alloc pa (.cells #[.int .i64 r0, .int .i64 r1, .int .i64 r2, .int .i64 r3, .int .i64 r4] 25)
      replace pb := AtL.alloc pb (.cells #[.int .i64 r0, .int .i64 r1, .int .i64 r2, .int .i64 r3, .int .i64 r4] 25)
      replace pd := AtL.alloc pd (.cells #[.int .i64 r0, .int .i64 r1, .int .i64 r2, .int .i64 r3, .int .i64 r4] 25)
      replace px := AtL.alloc px (.cells #[.int .i64 r0, .int .i64 r1, .int .i64 r2, .int .i64 r3, .int .i64 r4] 25)
      replace pl := AtL.alloc pl (.cells #[.int .i64 r0, .int .i64 r1, .int .i64 r2, .int .i64 r3, .int .i64 r4] 25)
      replace pm := AtL.alloc pm (.cells #[.int .i64 r0, .int .i64 r1, .int .i64 r2, .int .i64 r3, .int .i64 r4] 25)
      have pr := AtL.new0 w7 25 [.int .i64 r0, .int .i64 r1, .int .i64 r2, .int .i64 r3, .int .i64 r4]
      have hB8 := x3_ball hB7 (.cells #[.int .i64 r0, .int .i64 r1, .int .i64 r2, .int .i64 r3, .int .i64 r4] 25)
      clear hB7
      generalize w7.heap.size = kpr at *
      generalize w7.alloc (.cells #[.int .i64 r0, .int .i64 r1, .int .i64 r2, .int .i64 r3, .int .i64 r4] 25) = w8 at *
      clear pb pd px pm
      clear M3 M4 M5
      generalize hpp : (p && ok) = pp at F3 F4
      have HP : Hid ((p && ok) = pp) := hpp
      clear hpp
      go_cut [14] (fun sc wx => sc = .bool pp ∧ Below w.heap.size w wx ∧ AtL wx w.heap.size [.int .i64 a_s, .int .i64 a_t, .int .i64 a_l, .int .i64 a_b, .int .i64 a_r] ∧ AtL wx kpl [.int .i64 l0, .int .i64 l1, .int .i64 l2, .int .i64 l3, .int .i64 l4] ∧ AtL wx kpr [.int .i64 r0, .int .i64 r1, .int .i64 r2, .int .i64 r3, .int .i64 r4])
      case first =>
        clear F3 F4 F5 M6 RA
        cases p
        all_goals
          go_wp2_with fail
          go_meet
          case rel => exact ⟨by rw [← HP.out]; rfl, hB8, pa, pl, pr⟩
      case rest =>
        clear pa pl pr HP hB8
        obtain ⟨rfl, hB, pa, pl, pr⟩ := hcut
        go_upto_region 13 with fail
        go_cut [18] (fun sc wx => sc = .bool pp ∧ Below w.heap.size w wx ∧ AtL wx w.heap.size [.int .i64 a_s, .int .i64 a_t, .int .i64 a_l, .int .i64 a_b, .int .i64 a_r] ∧ AtL wx kpl [.int .i64 l0, .int .i64 l1, .int .i64 l2, .int .i64 l3, .int .i64 l4] ∧ AtL wx kpr [.int .i64 r0, .int .i64 r1, .int .i64 r2, .int .i64 r3, .int .i64 r4])
        case first =>
          clear F4 F5 M6 RA
          cases sv
          all_goals
            go_wp2_with fail
            go_meet
            case rel => exact ⟨by rw [F3.out]; rfl, hB, pa, pl, pr⟩
        case rest =>
          clear pa pl pr F3 hB
          obtain ⟨rfl, hB, pa, pl, pr⟩ := hcut
          obtain ⟨pac0, pac1, pac2, pac3, pac4⟩ := pa.f5
          go_wp2_with fail
          refine (M6 _).mono ?_
          rintro e w9 ⟨rfl, hb9⟩
          replace pa := AtL.below hb9 pa
          replace pl := AtL.below hb9 pl
          replace pr := AtL.below hb9 pr
          have hB9 := x3_below_end hB hb9
          clear pac0 pac1 pac2 pac3 pac4
          clear hb9 hB
          go_upto_region 15 with fail
          replace pa := AtL.alloc pa (.cells #[.int .i64 f0, .int .i64 f1, .int .i64 f2, .int .i64 f3, .int .i64 f4] 25)
          replace pl := AtL.alloc pl (.cells #[.int .i64 f0, .int .i64 f1, .int .i64 f2, .int .i64 f3, .int .i64 f4] 25)
          replace pr := AtL.alloc pr (.cells #[.int .i64 f0, .int .i64 f1, .int .i64 f2, .int .i64 f3, .int .i64 f4] 25)
          have pf := AtL.new0 w9 25 [.int .i64 f0, .int .i64 f1, .int .i64 f2, .int .i64 f3, .int .i64 f4]
          have hB10 := x3_ball hB9 (.cells #[.int .i64 f0, .int .i64 f1, .int .i64 f2, .int .i64 f3, .int .i64 f4] 25)
          clear hB9
          generalize w9.heap.size = kpf at *
          generalize w9.alloc (.cells #[.int .i64 f0, .int .i64 f1, .int .i64 f2, .int .i64 f3, .int .i64 f4] 25) = w10 at *
          clear M6
          cases pp with
          | true =>
            obtain ⟨rfl, rfl, rfl, rfl, rfl⟩ := F4.out rfl
            clear F4
            cases whole with
            | true =>
              obtain ⟨rfl, rfl, rfl, rfl, rfl⟩ := F5.out rfl
              clear F5
              obtain ⟨pac0, pac1, pac2, pac3, pac4⟩ := pa.f5
              obtain ⟨plc0, plc1, plc2, plc3, plc4⟩ := pl.f5
              obtain ⟨prc0, prc1, prc2, prc3, prc4⟩ := pr.f5
              obtain ⟨pfc0, pfc1, pfc2, pfc3, pfc4⟩ := pf.f5
              go_wp2_with fail
              refine (RA _).mono ?_
              rintro e wz ⟨rfl, hb⟩
              replace pa := AtL.below hb pa
              replace pf := AtL.below hb pf
              have hBz := x3_below_end hB10 hb
              clear pac0 pac1 pac2 pac3 pac4 plc0 plc1 plc2 plc3 plc4 prc0 prc1 prc2 prc3 prc4 pfc0 pfc1 pfc2 pfc3 pfc4
              obtain ⟨pac0, pac1, pac2, pac3, pac4⟩ := pa.f5
              obtain ⟨pfc0, pfc1, pfc2, pfc3, pfc4⟩ := pf.f5
              go_wp2
              go_ret
              exact ⟨by simp, hBz⟩
            | false =>
              clear F5
              obtain ⟨pac0, pac1, pac2, pac3, pac4⟩ := pa.f5
              obtain ⟨plc0, plc1, plc2, plc3, plc4⟩ := pl.f5
              obtain ⟨prc0, prc1, prc2, prc3, prc4⟩ := pr.f5
              obtain ⟨pfc0, pfc1, pfc2, pfc3, pfc4⟩ := pf.f5
              go_wp2_with fail
              refine (RA _).mono ?_
              rintro e wz ⟨rfl, hb⟩
              replace pa := AtL.below hb pa
              replace pf := AtL.below hb pf
              have hBz := x3_below_end hB10 hb
              clear pac0 pac1 pac2 pac3 pac4 plc0 plc1 plc2 plc3 plc4 prc0 prc1 prc2 prc3 prc4 pfc0 pfc1 pfc2 pfc3 pfc4
              obtain ⟨pac0, pac1, pac2, pac3, pac4⟩ := pa.f5
              obtain ⟨pfc0, pfc1, pfc2, pfc3, pfc4⟩ := pf.f5
              go_wp2
              go_ret
              exact ⟨by simp, hBz⟩
          | false =>
            clear F4
            cases whole with
            | true =>
              obtain ⟨rfl, rfl, rfl, rfl, rfl⟩ := F5.out rfl
              clear F5
              obtain ⟨pac0, pac1, pac2, pac3, pac4⟩ := pa.f5
              obtain ⟨plc0, plc1, plc2, plc3, plc4⟩ := pl.f5
              obtain ⟨prc0, prc1, prc2, prc3, prc4⟩ := pr.f5
              obtain ⟨pfc0, pfc1, pfc2, pfc3, pfc4⟩ := pf.f5
              go_wp2_with fail
              refine (RA _).mono ?_
              rintro e wz ⟨rfl, hb⟩
              replace pa := AtL.below hb pa
              replace pf := AtL.below hb pf
              have hBz := x3_below_end hB10 hb
              clear pac0 pac1 pac2 pac3 pac4 plc0 plc1 plc2 plc3 plc4 prc0 prc1 prc2 prc3 prc4 pfc0 pfc1 pfc2 pfc3 pfc4
              obtain ⟨pac0, pac1, pac2, pac3, pac4⟩ := pa.f5
              obtain ⟨pfc0, pfc1, pfc2, pfc3, pfc4⟩ := pf.f5
              go_wp2
              go_ret
              exact ⟨by simp, hBz⟩
            | false =>
              clear F5
              obtain ⟨pac0, pac1, pac2, pac3, pac4⟩ := pa.f5
              obtain ⟨plc0, plc1, plc2, plc3, plc4⟩ := pl.f5
              obtain ⟨prc0, prc1, prc2, prc3, prc4⟩ := pr.f5
              obtain ⟨pfc0, pfc1, pfc2, pfc3, pfc4⟩ := pf.f5
              go_wp2_with fail
              refine (RA _).mono ?_
              rintro e wz ⟨rfl, hb⟩
              replace pa := AtL.below hb pa
              replace pf := AtL.below hb pf
              have hBz := x3_below_end hB10 hb
              clear pac0 pac1 pac2 pac3 pac4 plc0 plc1 plc2 plc3 plc4 prc0 prc1 prc2 prc3 prc4 pfc0 pfc1 pfc2 pfc3 pfc4
              obtain ⟨pac0, pac1, pac2, pac3, pac4⟩ := pa.f5
              obtain ⟨pfc0, pfc1, pfc2, pfc3, pfc4⟩ := pf.f5
              go_wp2
              go_ret
              exact ⟨by simp, hBz⟩

theorem meets_main (a_s a_t a_l a_b a_r b_s b_t b_l b_b b_r d_s d_t d_l d_b d_r cs cr cc : Int) (w : World) :
    Calls Tryd.prog 5 #[.agg #[.int .i64 a_s, .int .i64 a_t, .int .i64 a_l, .int .i64 a_b, .int .i64 a_r], .agg #[.int .i64 b_s, .int .i64 b_t, .int .i64 b_l, .int .i64 b_b, .int .i64 b_r], .agg #[.int .i64 d_s, .int .i64 d_t, .int .i64 d_l, .int .i64 d_b, .int .i64 d_r], .agg #[.int .i64 cs, .int .i64 cr, .int .i64 cc]] w fun e w' => e = .returned (.bool true) ∧ Below w.heap.size w w' := by
  have V := fun (x : Wpl.Ar) => (rfl : (⟨x.s, x.t, x.l, x.b, x.r⟩ : Wpl.Ar) = x)
  refine meets_core a_s a_t a_l a_b a_r b_s b_t b_l b_b b_r d_s d_t d_l d_b d_r cs cr cc (Wpl.meetV ⟨a_s, a_t, a_l, a_b, a_r⟩ ⟨b_s, b_t, b_l, b_b, b_r⟩).s (Wpl.meetV ⟨a_s, a_t, a_l, a_b, a_r⟩ ⟨b_s, b_t, b_l, b_b, b_r⟩).t (Wpl.meetV ⟨a_s, a_t, a_l, a_b, a_r⟩ ⟨b_s, b_t, b_l, b_b, b_r⟩).l (Wpl.meetV ⟨a_s, a_t, a_l, a_b, a_r⟩ ⟨b_s, b_t, b_l, b_b, b_r⟩).b (Wpl.meetV ⟨a_s, a_t, a_l, a_b, a_r⟩ ⟨b_s, b_t, b_l, b_b, b_r⟩).r
    _ _ _ _ _ (Wpl.meetV ⟨b_s, b_t, b_l, b_b, b_r⟩ ⟨d_s, d_t, d_l, d_b, d_r⟩).s (Wpl.meetV ⟨b_s, b_t, b_l, b_b, b_r⟩ ⟨d_s, d_t, d_l, d_b, d_r⟩).t (Wpl.meetV ⟨b_s, b_t, b_l, b_b, b_r⟩ ⟨d_s, d_t, d_l, d_b, d_r⟩).l (Wpl.meetV ⟨b_s, b_t, b_l, b_b, b_r⟩ ⟨d_s, d_t, d_l, d_b, d_r⟩).b (Wpl.meetV ⟨b_s, b_t, b_l, b_b, b_r⟩ ⟨d_s, d_t, d_l, d_b, d_r⟩).r _ _ _ _ _ _ _ _ _ _
    _ _ _ _ _ _ _ _ w (fun w => meet_any _ _ _ _ _ _ _ _ _ _ w) (fun w => ?_) (fun w => meet_any _ _ _ _ _ _ _ _ _ _ w) (fun w => meet_any _ _ _ _ _ _ _ _ _ _ w) (fun w => meet_any _ _ _ _ _ _ _ _ _ _ w) (fun w => meet_any _ _ _ _ _ _ _ _ _ _ w) (fun w => ?_)
    (fun w => has_any _ _ _ _ _ _ _ _ w) (fun w => has_any _ _ _ _ _ _ _ _ w) (fun w => has_any _ _ _ _ _ _ _ _ w) ?_ ?_ ?_ ?_ ?_
  · rw [Wpl.meetV_comm, Wpl.meetOk_comm]
    exact meet_any _ _ _ _ _ _ _ _ _ _ w
  · have h := rightArea_any a_s a_t a_l a_b a_r w
    rw [show Wpl.rightA a_s a_t a_l a_b a_r = Wpl.meetOk ⟨a_s, a_t, a_l, a_b, a_r⟩ ⟨a_s, a_t, a_l, a_b, a_r⟩ from (Wpl.meet_self ⟨a_s, a_t, a_l, a_b, a_r⟩).symm] at h
    exact h
  · exact fun h => Wpl.meet_has _ _ _ h
  · exact fun h => Wpl.meet_hasnt _ _ _ h
  · exact Wpl.three_ok _ _ _
  · intro h
    have e := Wpl.three_V h
    exact ⟨congrArg Wpl.Ar.s e, congrArg Wpl.Ar.t e, congrArg Wpl.Ar.l e, congrArg Wpl.Ar.b e, congrArg Wpl.Ar.r e⟩
  · intro h
    rw [Wpl.meet_self] at h
    have e := Wpl.meet_selfV _ h
    exact ⟨congrArg Wpl.Ar.s e, congrArg Wpl.Ar.t e, congrArg Wpl.Ar.l e, congrArg Wpl.Ar.b e, congrArg Wpl.Ar.r e⟩
end Go.Proofs.YtdjhegmkmopnfabDoor
