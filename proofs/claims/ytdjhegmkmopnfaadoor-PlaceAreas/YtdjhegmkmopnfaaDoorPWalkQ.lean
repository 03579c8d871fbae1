/- The contract of the document's Meet. -/
import Derived.Test.YtdjhegmkmopnfaaDoorPWalkN
import Derived.Test.YtdjhegmkmopnfaaDoorPPlainC
namespace Go.Proofs.YtdjhegmkmopnfaaDoor
open Go.RowKit
set_option linter.unusedVariables false

set_option maxHeartbeats 1600000 in
theorem rmeet_any (s t l b r s' t' l' b' r' : Int) (w : World) :
    Calls Tryd.prog 27 #[.agg #[.int .i64 s, .int .i64 t, .int .i64 l, .int .i64 b, .int .i64 r], .agg #[.int .i64 s', .int .i64 t', .int .i64 l', .int .i64 b', .int .i64 r']] w fun e w' => e = .returned (.tuple #[.agg #[.int .i64 (Wpl.meetV ⟨s, t, l, b, r⟩ ⟨s', t', l', b', r'⟩).s, .int .i64 (Wpl.meetV ⟨s, t, l, b, r⟩ ⟨s', t', l', b', r'⟩).t, .int .i64 (Wpl.meetV ⟨s, t, l, b, r⟩ ⟨s', t', l', b', r'⟩).l, .int .i64 (Wpl.meetV ⟨s, t, l, b, r⟩ ⟨s', t', l', b', r'⟩).b, .int .i64 (Wpl.meetV ⟨s, t, l, b, r⟩ ⟨s', t', l', b', r'⟩).r], .bool (Wpl.meetOk ⟨s, t, l, b, r⟩ ⟨s', t', l', b', r'⟩)]) ∧ Below w.heap.size w w' := by
  have R1 := fun w => rrightArea_any s t l b r w
  have R2 := fun w => rrightArea_any s' t' l' b' r' w
  have h1 := @Wpl.rightA_iff s t l b r
  have h2 := @Wpl.rightA_iff s' t' l' b' r'
  have EO : Hid (Wpl.meetOk ⟨s, t, l, b, r⟩ ⟨s', t', l', b', r'⟩ = (Wpl.rightA s t l b r && Wpl.rightA s' t' l' b' r' && decide (s = s') && Wpl.rightA s (max t t') (max l l') (min b b') (min r r'))) := (rfl : Wpl.meetOk ⟨s, t, l, b, r⟩ ⟨s', t', l', b', r'⟩ = _)
  have EV : Hid (Wpl.meetV ⟨s, t, l, b, r⟩ ⟨s', t', l', b', r'⟩ = if Wpl.meetOk ⟨s, t, l, b, r⟩ ⟨s', t', l', b', r'⟩ then ⟨s, max t t', max l l', min b b', min r r'⟩ else Wpl.nullA) := (rfl : Wpl.meetV ⟨s, t, l, b, r⟩ ⟨s', t', l', b', r'⟩ = _)
  have M : Hid (Wpl.meetOk ⟨s, t, l, b, r⟩ ⟨s', t', l', b', r'⟩ = true ↔ Wpl.rightA s t l b r = true ∧ Wpl.rightA s' t' l' b' r' = true ∧ s = s' ∧ max t t' ≤ min b b' ∧ max l l' ≤ min r r') := (Wpl.meetOk_iff : Wpl.meetOk ⟨s, t, l, b, r⟩ ⟨s', t', l', b', r'⟩ = true ↔ _)
  generalize Wpl.meetOk ⟨s, t, l, b, r⟩ ⟨s', t', l', b', r'⟩ = ok at *
  generalize Wpl.meetV ⟨s, t, l, b, r⟩ ⟨s', t', l', b', r'⟩ = V at *
  generalize Wpl.rightA s t l b r = o1 at *
  generalize Wpl.rightA s' t' l' b' r' = o2 at *
  cases o1 with
  | false =>
    clear h1 h2 M
    have F : Hid (ok = false) := by show _ = _; rw [EO.out]; simp
    have G : Hid (V = ⟨0, 0, 0, 0, 0⟩) := by show _ = _; rw [EV.out, F.out]; rfl
    clear EO EV
    go_enter Tryd.func27, Tryd.ntmps27
    go_wp2_with fail
    refine (R1 _).mono ?_
    rintro e w1 ⟨rfl, hb1⟩
    have pA : AtL w1 w.heap.size [.int .i64 s, .int .i64 t, .int .i64 l, .int .i64 b, .int .i64 r] := AtL.below hb1 (((AtL.new0 w _ _).alloc _).alloc _)
    have pB : AtL w1 (w.heap.size + 1) [.int .i64 s', .int .i64 t', .int .i64 l', .int .i64 b', .int .i64 r'] := AtL.below hb1 ((AtL.new1 w _ _ _).alloc _)
    have pR : AtL w1 (w.heap.size + 2) [.int .i64 0, .int .i64 0, .int .i64 0, .int .i64 0, .int .i64 0] := AtL.below hb1 (AtL.new ((w.alloc _).alloc _) _ (by simp only [World.size_alloc]) _)
    have hB1 : Below w.heap.size w w1 := by with_reducible repeat (first | exact Below.refl _ _ | refine x3_below_drewN ?_ _ | refine Below.setCell ?_ (by first | (simp; done) | (simp; omega) | omega) _ | refine Below.drew ?_ | refine x3_below_end ?_ (by assumption) | refine x3_ball ?_ _)
    clear hb1
    obtain ⟨b0, b1, b2', b3, b4⟩ := pB.f5
    go_wp2_with fail
    refine (R2 _).mono ?_
    rintro e w2 ⟨rfl, hb2⟩
    replace pA := AtL.below hb2 pA
    replace pB := AtL.below hb2 pB
    replace pR := AtL.below hb2 pR
    have hB := x3_below_end hB1 hb2
    clear hb2 hB1 b0 b1 b2' b3 b4
    obtain ⟨a0, a1, a2, a3, a4⟩ := pA.f5
    obtain ⟨b0, b1, b2', b3, b4⟩ := pB.f5
    obtain ⟨z0, z1, z2, z3, z4, f0, f1, f2, f3, f4⟩ := pR.five
    go_wp2
    refine bodyPost_ret (v := .tuple #[.agg #[.int .i64 0, .int .i64 0, .int .i64 0, .int .i64 0, .int .i64 0], .bool false]) (by simp [results, Tryd.results27, go_sem, z0, z1, z2, z3, z4]) rfl ⟨by rw [F.out, G.out], ?_⟩
    exact put5_below hB (by omega) _ _ _ _ _
  | true =>
    replace h1 := h1.1 rfl
    cases o2 with
    | false =>
      clear h1 h2 M
      have F : Hid (ok = false) := by show _ = _; rw [EO.out]; simp
      have G : Hid (V = ⟨0, 0, 0, 0, 0⟩) := by show _ = _; rw [EV.out, F.out]; rfl
      clear EO EV
      go_enter Tryd.func27, Tryd.ntmps27
      go_wp2_with fail
      refine (R1 _).mono ?_
      rintro e w1 ⟨rfl, hb1⟩
      have pA : AtL w1 w.heap.size [.int .i64 s, .int .i64 t, .int .i64 l, .int .i64 b, .int .i64 r] := AtL.below hb1 (((AtL.new0 w _ _).alloc _).alloc _)
      have pB : AtL w1 (w.heap.size + 1) [.int .i64 s', .int .i64 t', .int .i64 l', .int .i64 b', .int .i64 r'] := AtL.below hb1 ((AtL.new1 w _ _ _).alloc _)
      have pR : AtL w1 (w.heap.size + 2) [.int .i64 0, .int .i64 0, .int .i64 0, .int .i64 0, .int .i64 0] := AtL.below hb1 (AtL.new ((w.alloc _).alloc _) _ (by simp only [World.size_alloc]) _)
      have hB1 : Below w.heap.size w w1 := by with_reducible repeat (first | exact Below.refl _ _ | refine x3_below_drewN ?_ _ | refine Below.setCell ?_ (by first | (simp; done) | (simp; omega) | omega) _ | refine Below.drew ?_ | refine x3_below_end ?_ (by assumption) | refine x3_ball ?_ _)
      clear hb1
      obtain ⟨b0, b1, b2', b3, b4⟩ := pB.f5
      go_wp2_with fail
      refine (R2 _).mono ?_
      rintro e w2 ⟨rfl, hb2⟩
      replace pA := AtL.below hb2 pA
      replace pB := AtL.below hb2 pB
      replace pR := AtL.below hb2 pR
      have hB := x3_below_end hB1 hb2
      clear hb2 hB1 b0 b1 b2' b3 b4
      obtain ⟨a0, a1, a2, a3, a4⟩ := pA.f5
      obtain ⟨b0, b1, b2', b3, b4⟩ := pB.f5
      obtain ⟨z0, z1, z2, z3, z4, f0, f1, f2, f3, f4⟩ := pR.five
      go_wp2
      refine bodyPost_ret (v := .tuple #[.agg #[.int .i64 0, .int .i64 0, .int .i64 0, .int .i64 0, .int .i64 0], .bool false]) (by simp [results, Tryd.results27, go_sem, z0, z1, z2, z3, z4]) rfl ⟨by rw [F.out, G.out], ?_⟩
      exact put5_below hB (by omega) _ _ _ _ _
    | true =>
      replace h2 := h2.1 rfl
      by_cases hs : s = s'
      · subst hs
        have F : Hid (ok = decide (max t t' ≤ min b b' ∧ max l l' ≤ min r r')) := by
          show _ = _; rw [Bool.eq_iff_iff, M.out]; simp only [decide_eq_true_eq, true_and]
        have G : Hid (V = if ok = true then ⟨s, max t t', max l l', min b b', min r r'⟩ else ⟨0, 0, 0, 0, 0⟩) := by show _ = _; rw [EV.out]; rfl
        clear EO EV M
        go_enter Tryd.func27, Tryd.ntmps27
        go_wp2_with fail
        refine (R1 _).mono ?_
        rintro e w1 ⟨rfl, hb1⟩
        have pA : AtL w1 w.heap.size [.int .i64 s, .int .i64 t, .int .i64 l, .int .i64 b, .int .i64 r] := AtL.below hb1 (((AtL.new0 w _ _).alloc _).alloc _)
        have pB : AtL w1 (w.heap.size + 1) [.int .i64 s, .int .i64 t', .int .i64 l', .int .i64 b', .int .i64 r'] := AtL.below hb1 ((AtL.new1 w _ _ _).alloc _)
        have pR : AtL w1 (w.heap.size + 2) [.int .i64 0, .int .i64 0, .int .i64 0, .int .i64 0, .int .i64 0] := AtL.below hb1 (AtL.new ((w.alloc _).alloc _) _ (by simp only [World.size_alloc]) _)
        have hB1 : Below w.heap.size w w1 := by with_reducible repeat (first | exact Below.refl _ _ | refine x3_below_drewN ?_ _ | refine Below.setCell ?_ (by first | (simp; done) | (simp; omega) | omega) _ | refine Below.drew ?_ | refine x3_below_end ?_ (by assumption) | refine x3_ball ?_ _)
        clear hb1
        obtain ⟨b0, b1, b2', b3, b4⟩ := pB.f5
        go_wp2_with fail
        refine (R2 _).mono ?_
        rintro e w2 ⟨rfl, hb2⟩
        replace pA := AtL.below hb2 pA
        replace pB := AtL.below hb2 pB
        replace pR := AtL.below hb2 pR
        have hB := x3_below_end hB1 hb2
        clear hb2 hB1 b0 b1 b2' b3 b4
        obtain ⟨a0, a1, a2, a3, a4⟩ := pA.f5
        obtain ⟨b0, b1, b2', b3, b4⟩ := pB.f5
        obtain ⟨z0, z1, z2, z3, z4, f0, f1, f2, f3, f4⟩ := pR.five
        go_upto_region 5 with fail
        go_cut [8] (fun s8 wx => ∃ K : Nat, s8 = .pointer (some ⟨K, 0, none⟩) ∧ Below w.heap.size w wx ∧ AtL wx (w.heap.size + 2) [.int .i64 0, .int .i64 0, .int .i64 0, .int .i64 0, .int .i64 0] ∧ AtL wx K [.int .i64 s, .int .i64 (max t t'), .int .i64 (max l l'), .int .i64 (min b b'), .int .i64 (min r r')])
        case first =>
          clear R1 R2 F G
          go_wp2_with fail
          all_goals
            go_meet
            case rel =>
              clear a0 a1 a2 a3 a4 b0 b1 b2' b3 b4 z0 z1 z2 z3 z4 f0 f1 f2 f3 f4
              refine ⟨_, rfl, x3_ball hB _, AtL.alloc pR _, ?_⟩
              (first | rw [show max t t' = t' by omega] | rw [show max t t' = t by omega])
              (first | rw [show max l l' = l' by omega] | rw [show max l l' = l by omega])
              (first | rw [show min b b' = b' by omega] | rw [show min b b' = b by omega])
              (first | rw [show min r r' = r' by omega] | rw [show min r r' = r by omega])
              exact AtL.new0 _ _ _
        case rest =>
          clear pA pB pR hB a0 a1 a2 a3 a4 b0 b1 b2' b3 b4 z0 z1 z2 z3 z4 f0 f1 f2 f3 f4 h1 h2
          obtain ⟨K, rfl, hB, pR, pC⟩ := hcut
          generalize max t t' = t2 at *
          generalize max l l' = l2 at *
          generalize min b b' = b2 at *
          generalize min r r' = r2 at *
          obtain ⟨c0, c1, c2, c3, c4⟩ := pC.f5
          obtain ⟨z0, z1, z2, z3, z4, f0, f1, f2, f3, f4⟩ := pR.five
          by_cases k1 : t2 ≤ b2
          · by_cases k2 : l2 ≤ r2
            · have F' : Hid (ok = true) := by show _ = _; rw [F.out]; simp; omega
              have G' : Hid (V = ⟨s, t2, l2, b2, r2⟩) := by show _ = _; rw [G.out, F'.out]; rfl
              have k1' : ¬ b2 < t2 := by omega
              have k2' : ¬ r2 < l2 := by omega
              clear F G
              go_wp2
              refine bodyPost_ret (v := .tuple #[.agg #[.int .i64 s, .int .i64 t2, .int .i64 l2, .int .i64 b2, .int .i64 r2], .bool true]) (by simp [results, Tryd.results27, go_sem, z0, z1, z2, z3, z4]) rfl ⟨by rw [F'.out, G'.out], ?_⟩
              exact put5_below hB (by omega) _ _ _ _ _
            · have F' : Hid (ok = false) := by show _ = _; rw [F.out]; simp; omega
              have G' : Hid (V = ⟨0, 0, 0, 0, 0⟩) := by show _ = _; rw [G.out, F'.out]; rfl
              have k1' : ¬ b2 < t2 := by omega
              have k2' : r2 < l2 := by omega
              clear F G
              go_wp2
              refine bodyPost_ret (v := .tuple #[.agg #[.int .i64 0, .int .i64 0, .int .i64 0, .int .i64 0, .int .i64 0], .bool false]) (by simp [results, Tryd.results27, go_sem, z0, z1, z2, z3, z4]) rfl ⟨by rw [F'.out, G'.out], ?_⟩
              exact put5_below hB (by omega) _ _ _ _ _
          · have F' : Hid (ok = false) := by show _ = _; rw [F.out]; simp; omega
            have G' : Hid (V = ⟨0, 0, 0, 0, 0⟩) := by show _ = _; rw [G.out, F'.out]; rfl
            have k1' : b2 < t2 := by omega
            clear F G
            go_wp2
            refine bodyPost_ret (v := .tuple #[.agg #[.int .i64 0, .int .i64 0, .int .i64 0, .int .i64 0, .int .i64 0], .bool false]) (by simp [results, Tryd.results27, go_sem, z0, z1, z2, z3, z4]) rfl ⟨by rw [F'.out, G'.out], ?_⟩
            exact put5_below hB (by omega) _ _ _ _ _
      · have F : Hid (ok = false) := by show _ = _; rw [EO.out, decide_eq_false hs]; simp
        have G : Hid (V = ⟨0, 0, 0, 0, 0⟩) := by show _ = _; rw [EV.out, F.out]; rfl
        clear EO EV h1 h2 M
        go_enter Tryd.func27, Tryd.ntmps27
        go_wp2_with fail
        refine (R1 _).mono ?_
        rintro e w1 ⟨rfl, hb1⟩
        have pA : AtL w1 w.heap.size [.int .i64 s, .int .i64 t, .int .i64 l, .int .i64 b, .int .i64 r] := AtL.below hb1 (((AtL.new0 w _ _).alloc _).alloc _)
        have pB : AtL w1 (w.heap.size + 1) [.int .i64 s', .int .i64 t', .int .i64 l', .int .i64 b', .int .i64 r'] := AtL.below hb1 ((AtL.new1 w _ _ _).alloc _)
        have pR : AtL w1 (w.heap.size + 2) [.int .i64 0, .int .i64 0, .int .i64 0, .int .i64 0, .int .i64 0] := AtL.below hb1 (AtL.new ((w.alloc _).alloc _) _ (by simp only [World.size_alloc]) _)
        have hB1 : Below w.heap.size w w1 := by with_reducible repeat (first | exact Below.refl _ _ | refine x3_below_drewN ?_ _ | refine Below.setCell ?_ (by first | (simp; done) | (simp; omega) | omega) _ | refine Below.drew ?_ | refine x3_below_end ?_ (by assumption) | refine x3_ball ?_ _)
        clear hb1
        obtain ⟨b0, b1, b2', b3, b4⟩ := pB.f5
        go_wp2_with fail
        refine (R2 _).mono ?_
        rintro e w2 ⟨rfl, hb2⟩
        replace pA := AtL.below hb2 pA
        replace pB := AtL.below hb2 pB
        replace pR := AtL.below hb2 pR
        have hB := x3_below_end hB1 hb2
        clear hb2 hB1 b0 b1 b2' b3 b4
        obtain ⟨a0, a1, a2, a3, a4⟩ := pA.f5
        obtain ⟨b0, b1, b2', b3, b4⟩ := pB.f5
        obtain ⟨z0, z1, z2, z3, z4, f0, f1, f2, f3, f4⟩ := pR.five
        go_wp2
        refine bodyPost_ret (v := .tuple #[.agg #[.int .i64 0, .int .i64 0, .int .i64 0, .int .i64 0, .int .i64 0], .bool false]) (by simp [results, Tryd.results27, go_sem, z0, z1, z2, z3, z4]) rfl ⟨by rw [F.out, G.out], ?_⟩
        exact put5_below hB (by omega) _ _ _ _ _
end Go.Proofs.YtdjhegmkmopnfaaDoor
