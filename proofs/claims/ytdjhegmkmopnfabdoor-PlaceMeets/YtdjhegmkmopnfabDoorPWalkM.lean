/- The contract of Meet. -/
import Derived.Test.YtdjhegmkmopnfabDoorPWalkR
import Derived.Test.YtdjhegmkmopnfabDoorPPlainC
namespace Go.Proofs.YtdjhegmkmopnfabDoor
open Go.RowKit
set_option linter.unusedVariables false

set_option maxHeartbeats 1600000 in
theorem meet_any (s t l b r s' t' l' b' r' : Int) (w : World) :
    Calls Tryd.prog 22 #[.agg #[.int .i64 s, .int .i64 t, .int .i64 l, .int .i64 b, .int .i64 r], .agg #[.int .i64 s', .int .i64 t', .int .i64 l', .int .i64 b', .int .i64 r']] w fun e w' => e = .returned (.tuple #[.agg #[.int .i64 (Wpl.meetV ⟨s, t, l, b, r⟩ ⟨s', t', l', b', r'⟩).s, .int .i64 (Wpl.meetV ⟨s, t, l, b, r⟩ ⟨s', t', l', b', r'⟩).t, .int .i64 (Wpl.meetV ⟨s, t, l, b, r⟩ ⟨s', t', l', b', r'⟩).l, .int .i64 (Wpl.meetV ⟨s, t, l, b, r⟩ ⟨s', t', l', b', r'⟩).b, .int .i64 (Wpl.meetV ⟨s, t, l, b, r⟩ ⟨s', t', l', b', r'⟩).r], .bool (Wpl.meetOk ⟨s, t, l, b, r⟩ ⟨s', t', l', b', r'⟩)]) ∧ Below w.heap.size w w' := by
  have R1 := fun w => rightArea_any s t l b r w
  have R2 := fun w => rightArea_any s' t' l' b' r' w
  have R3 := fun w => rightArea_any s (max t t') (max l l') (min b b') (min r r') w
  have EO : Hid (Wpl.meetOk ⟨s, t, l, b, r⟩ ⟨s', t', l', b', r'⟩ = (Wpl.rightA s t l b r && Wpl.rightA s' t' l' b' r' && decide (s = s') && Wpl.rightA s (max t t') (max l l') (min b b') (min r r'))) := (rfl : Wpl.meetOk ⟨s, t, l, b, r⟩ ⟨s', t', l', b', r'⟩ = _)
  have EV : Hid (Wpl.meetV ⟨s, t, l, b, r⟩ ⟨s', t', l', b', r'⟩ = if Wpl.meetOk ⟨s, t, l, b, r⟩ ⟨s', t', l', b', r'⟩ then ⟨s, max t t', max l l', min b b', min r r'⟩ else Wpl.nullA) := (rfl : Wpl.meetV ⟨s, t, l, b, r⟩ ⟨s', t', l', b', r'⟩ = _)
  generalize Wpl.meetOk ⟨s, t, l, b, r⟩ ⟨s', t', l', b', r'⟩ = ok at *
  generalize Wpl.meetV ⟨s, t, l, b, r⟩ ⟨s', t', l', b', r'⟩ = V at *
  generalize Wpl.rightA s t l b r = o1 at *
  generalize Wpl.rightA s' t' l' b' r' = o2 at *
  generalize Wpl.rightA s (max t t') (max l l') (min b b') (min r r') = o3 at *
  go_enter Tryd.func22, Tryd.ntmps22
  go_upto_region 1 with fail
  have pA : AtL (((w.alloc (.cells #[.int .i64 s, .int .i64 t, .int .i64 l, .int .i64 b, .int .i64 r] 25)).alloc (.cells #[.int .i64 s', .int .i64 t', .int .i64 l', .int .i64 b', .int .i64 r'] 25)).alloc (.cells #[.int .i64 0, .int .i64 0, .int .i64 0, .int .i64 0, .int .i64 0] 25)) w.heap.size [.int .i64 s, .int .i64 t, .int .i64 l, .int .i64 b, .int .i64 r] := ((AtL.new0 w _ _).alloc _).alloc _
  have pB : AtL (((w.alloc (.cells #[.int .i64 s, .int .i64 t, .int .i64 l, .int .i64 b, .int .i64 r] 25)).alloc (.cells #[.int .i64 s', .int .i64 t', .int .i64 l', .int .i64 b', .int .i64 r'] 25)).alloc (.cells #[.int .i64 0, .int .i64 0, .int .i64 0, .int .i64 0, .int .i64 0] 25)) (w.heap.size + 1) [.int .i64 s', .int .i64 t', .int .i64 l', .int .i64 b', .int .i64 r'] := (AtL.new1 w _ _ _).alloc _
  have pR : AtL (((w.alloc (.cells #[.int .i64 s, .int .i64 t, .int .i64 l, .int .i64 b, .int .i64 r] 25)).alloc (.cells #[.int .i64 s', .int .i64 t', .int .i64 l', .int .i64 b', .int .i64 r'] 25)).alloc (.cells #[.int .i64 0, .int .i64 0, .int .i64 0, .int .i64 0, .int .i64 0] 25)) (w.heap.size + 2) [.int .i64 0, .int .i64 0, .int .i64 0, .int .i64 0, .int .i64 0] := AtL.new ((w.alloc _).alloc _) _ (by simp only [World.size_alloc]) _
  have hB : Below w.heap.size w (((w.alloc (.cells #[.int .i64 s, .int .i64 t, .int .i64 l, .int .i64 b, .int .i64 r] 25)).alloc (.cells #[.int .i64 s', .int .i64 t', .int .i64 l', .int .i64 b', .int .i64 r'] 25)).alloc (.cells #[.int .i64 0, .int .i64 0, .int .i64 0, .int .i64 0, .int .i64 0] 25)) := x3_ball (x3_ball (x3_ball (Below.refl _ _) _) _) _
  generalize ((w.alloc (.cells #[.int .i64 s, .int .i64 t, .int .i64 l, .int .i64 b, .int .i64 r] 25)).alloc (.cells #[.int .i64 s', .int .i64 t', .int .i64 l', .int .i64 b', .int .i64 r'] 25)).alloc (.cells #[.int .i64 0, .int .i64 0, .int .i64 0, .int .i64 0, .int .i64 0] 25) = W at *
  go_cut [6] (fun s6 wx => ∃ K : Nat, s6 = .pointer (some ⟨K, 0, none⟩) ∧ Below w.heap.size w wx ∧ AtL wx w.heap.size [.int .i64 s, .int .i64 t, .int .i64 l, .int .i64 b, .int .i64 r] ∧ AtL wx (w.heap.size + 1) [.int .i64 s', .int .i64 t', .int .i64 l', .int .i64 b', .int .i64 r'] ∧ AtL wx (w.heap.size + 2) [.int .i64 0, .int .i64 0, .int .i64 0, .int .i64 0, .int .i64 0] ∧ AtL wx K [.int .i64 s, .int .i64 (max t t'), .int .i64 (max l l'), .int .i64 (min b b'), .int .i64 (min r r')])
  case first =>
    clear R1 R2 R3 EO EV
    have e1 := Wpl.max_if t t'
    have e2 := Wpl.max_if l l'
    have e3 := Wpl.min_if b b'
    have e4 := Wpl.min_if r r'
    obtain ⟨a0, a1, a2, a3, a4⟩ := pA.f5
    obtain ⟨b0, b1, b2, b3, b4⟩ := pB.f5
    go_wp2_with fail
    all_goals
      go_meet
      case rel =>
        clear a0 a1 a2 a3 a4 b0 b1 b2 b3 b4 e1 e2 e3 e4
        refine ⟨_, rfl, x3_ball hB _, AtL.alloc pA _, AtL.alloc pB _, AtL.alloc pR _, ?_⟩
        (first | rw [show max t t' = t' by omega] | rw [show max t t' = t by omega])
        (first | rw [show max l l' = l' by omega] | rw [show max l l' = l by omega])
        (first | rw [show min b b' = b' by omega] | rw [show min b b' = b by omega])
        (first | rw [show min r r' = r' by omega] | rw [show min r r' = r by omega])
        exact AtL.new0 _ _ _
  case rest =>
    clear pA pB pR hB
    obtain ⟨K, rfl, hB, pA, pB, pR, pC⟩ := hcut
    generalize max t t' = t2 at *
    generalize max l l' = l2 at *
    generalize min b b' = b2 at *
    generalize min r r' = r2 at *
    obtain ⟨a0, a1, a2, a3, a4⟩ := pA.f5
    obtain ⟨b0, b1, b2', b3, b4⟩ := pB.f5
    obtain ⟨z0, z1, z2, z3, z4, f0, f1, f2, f3, f4⟩ := pR.five
    by_cases hs : s = s'
    · subst hs
      cases o1 with
      | false =>
        have F : Hid (ok = false) := by show _ = _; rw [EO.out]; simp
        have G : Hid (V = ⟨0, 0, 0, 0, 0⟩) := by show _ = _; rw [EV.out, F.out]; rfl
        clear EO EV
        go_wp2_with fail
        refine (R1 _).mono ?_
        rintro e w1 ⟨rfl, hb1⟩
        replace pR := AtL.below hb1 pR
        have hB1 := x3_below_end hB hb1
        clear z0 z1 z2 z3 z4 f0 f1 f2 f3 f4
        obtain ⟨z0, z1, z2, z3, z4, f0, f1, f2, f3, f4⟩ := pR.five
        go_wp2
        refine bodyPost_ret (v := .tuple #[.agg #[.int .i64 0, .int .i64 0, .int .i64 0, .int .i64 0, .int .i64 0], .bool false]) (by simp [results, Tryd.results22, go_sem, z0, z1, z2, z3, z4]) rfl ⟨by rw [F.out, G.out], ?_⟩
        exact put5_below hB1 (by omega) _ _ _ _ _
      | true =>
        cases o2 with
        | false =>
          have F : Hid (ok = false) := by show _ = _; rw [EO.out]; simp
          have G : Hid (V = ⟨0, 0, 0, 0, 0⟩) := by show _ = _; rw [EV.out, F.out]; rfl
          clear EO EV
          go_wp2_with fail
          refine (R1 _).mono ?_
          rintro e w1 ⟨rfl, hb1⟩
          replace pR := AtL.below hb1 pR
          replace pB := AtL.below hb1 pB
          have hB1 := x3_below_end hB hb1
          clear z0 z1 z2 z3 z4 f0 f1 f2 f3 f4 b0 b1 b2' b3 b4
          obtain ⟨b0, b1, b2', b3, b4⟩ := pB.f5
          go_wp2_with fail
          refine (R2 _).mono ?_
          rintro e w2 ⟨rfl, hb2⟩
          replace pR := AtL.below hb2 pR
          have hB2 := x3_below_end hB1 hb2
          obtain ⟨z0, z1, z2, z3, z4, f0, f1, f2, f3, f4⟩ := pR.five
          go_wp2
          refine bodyPost_ret (v := .tuple #[.agg #[.int .i64 0, .int .i64 0, .int .i64 0, .int .i64 0, .int .i64 0], .bool false]) (by simp [results, Tryd.results22, go_sem, z0, z1, z2, z3, z4]) rfl ⟨by rw [F.out, G.out], ?_⟩
          exact put5_below hB2 (by omega) _ _ _ _ _
        | true =>
          have F : Hid (ok = o3) := by show _ = _; rw [EO.out]; simp
          have G : Hid (V = if o3 = true then ⟨s, t2, l2, b2, r2⟩ else ⟨0, 0, 0, 0, 0⟩) := by show _ = _; rw [EV.out, F.out]; rfl
          clear EO EV
          go_wp2_with fail
          refine (R1 _).mono ?_
          rintro e w1 ⟨rfl, hb1⟩
          replace pR := AtL.below hb1 pR
          replace pB := AtL.below hb1 pB
          replace pC := AtL.below hb1 pC
          have hB1 := x3_below_end hB hb1
          clear z0 z1 z2 z3 z4 f0 f1 f2 f3 f4 b0 b1 b2' b3 b4
          obtain ⟨b0, b1, b2', b3, b4⟩ := pB.f5
          go_wp2_with fail
          refine (R2 _).mono ?_
          rintro e w2 ⟨rfl, hb2⟩
          replace pR := AtL.below hb2 pR
          replace pC := AtL.below hb2 pC
          have hB2 := x3_below_end hB1 hb2
          obtain ⟨c0, c1, c2, c3, c4⟩ := pC.f5
          go_wp2_with fail
          refine (R3 _).mono ?_
          rintro e w3 ⟨rfl, hb3⟩
          replace pR := AtL.below hb3 pR
          replace pC := AtL.below hb3 pC
          have hB3 := x3_below_end hB2 hb3
          clear c0 c1 c2 c3 c4
          obtain ⟨c0, c1, c2, c3, c4⟩ := pC.f5
          obtain ⟨z0, z1, z2, z3, z4, f0, f1, f2, f3, f4⟩ := pR.five
          cases o3 with
          | false =>
            go_wp2
            refine bodyPost_ret (v := .tuple #[.agg #[.int .i64 0, .int .i64 0, .int .i64 0, .int .i64 0, .int .i64 0], .bool false]) (by simp [results, Tryd.results22, go_sem, z0, z1, z2, z3, z4]) rfl ⟨by rw [F.out, G.out]; rfl, ?_⟩
            exact put5_below hB3 (by omega) _ _ _ _ _
          | true =>
            go_wp2
            refine bodyPost_ret (v := .tuple #[.agg #[.int .i64 s, .int .i64 t2, .int .i64 l2, .int .i64 b2, .int .i64 r2], .bool true]) (by simp [results, Tryd.results22, go_sem, z0, z1, z2, z3, z4]) rfl ⟨by rw [F.out, G.out]; rfl, ?_⟩
            exact put5_below hB3 (by omega) _ _ _ _ _
    · have F : Hid (ok = false) := by show _ = _; rw [EO.out, decide_eq_false hs]; simp
      have G : Hid (V = ⟨0, 0, 0, 0, 0⟩) := by show _ = _; rw [EV.out, F.out]; rfl
      clear EO EV
      go_wp2
      refine bodyPost_ret (v := .tuple #[.agg #[.int .i64 0, .int .i64 0, .int .i64 0, .int .i64 0, .int .i64 0], .bool false]) (by simp [results, Tryd.results22, go_sem, z0, z1, z2, z3, z4]) rfl ⟨by rw [F.out, G.out], ?_⟩
      exact put5_below hB (by omega) _ _ _ _ _
end Go.Proofs.YtdjhegmkmopnfabDoor
