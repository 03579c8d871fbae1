/- PlaceCursors answers true. -/
import Derived.Test.YtdjhegmkmopnfaaDoorPLawCurA
namespace Go.Proofs.YtdjhegmkmopnfaaDoor
open Go.RowKit
set_option linter.unusedVariables false

set_option maxRecDepth 100000 in
set_option maxHeartbeats 6400000 in
theorem cursors_main (s t l b r : Int) (av : Option Addr) (len cap : Nat) (G : Nat → Nat → Int) (w : World) (hlen : len ≤ 1000000000000000)
    (hc : Hid (∀ i, i < len → ∃ bb off, av = some ⟨bb, off, none⟩ ∧ bb < w.heap.size ∧ w.cell? ⟨bb, off + i * 2, none⟩ = some (.int .i64 (G i 0)) ∧ w.cell? ⟨bb, off + i * 2 + 1, none⟩ = some (.int .i64 (G i 1)))) :
    Calls Tryd.prog 8 #[.agg #[.int .i64 s, .int .i64 t, .int .i64 l, .int .i64 b, .int .i64 r], .slice av len cap] w fun e w' => e = .returned (.bool true) ∧ Below w.heap.size w w' := by
  have O := fun w => over_any s t l b r w
  have RO := fun w => rover_any s t l b r w
  obtain ⟨o0, o1, o2, o3, o4, e1, HO⟩ := over_is s t l b r
  rw [e1] at O
  clear e1
  have hz := Wpl.sizeA_le s t l b r
  obtain ⟨z, HT, hz2⟩ : ∃ z, Hid (Tells o0 o1 o2 o3 o4 s t l b r z) ∧ Hid (Wpl.sizeA s t l b r = z) := ⟨_, (⟨rfl, HO⟩ : Tells o0 o1 o2 o3 o4 s t l b r _), (rfl : Wpl.sizeA s t l b r = _)⟩
  rw [hz2.out] at O hz
  clear HO hz2
  obtain ⟨hz0, hz1⟩ := hz
  have LK := fun kc kd n w h0 h1 => looks_any kc kd o0 o1 o2 o3 o4 s t l b r n z w HT h0 h1 hz1
  go_enter Tryd.func8, Tryd.ntmps8
  go_wp2_with fail
  refine (O _).mono ?_
  rintro e w1 ⟨rfl, hb1⟩
  have pa : AtL w1 w.heap.size [.int .i64 s, .int .i64 t, .int .i64 l, .int .i64 b, .int .i64 r] := AtL.below hb1 (AtL.new0 w _ _)
  have hB1 : Below w.heap.size w w1 := by with_reducible repeat (first | exact Below.refl _ _ | refine x3_below_drewN ?_ _ | refine Below.setCell ?_ (by first | (simp; done) | (simp; omega) | omega) _ | refine Below.drew ?_ | refine x3_below_end ?_ (by assumption) | refine x3_ball ?_ _)
  clear hb1
  obtain ⟨a0, a1, a2, a3, a4⟩ := pa.f5
  have l1 := pa.lt
  go_wp2_with fail
  refine (RO _).mono ?_
  rintro e w2 ⟨kd, rfl, hkd, pd, hb2⟩
  have pc : AtL w2 w1.heap.size [.int .i64 o0, .int .i64 o1, .int .i64 o2, .int .i64 o3, .int .i64 o4, .int .i64 0, .int .i64 z] := AtL.below hb2 (AtL.new0 w1 _ _)
  have hB2 := x3_below_end (x3_ball hB1 _) hb2
  have hkc : w.heap.size ≤ w1.heap.size := hB1.size
  have hkcd : w1.heap.size < kd := by simp only [World.size_alloc] at hkd; omega
  clear hb2 hB1 a0 a1 a2 a3 a4 pa l1 O RO hkd
  generalize w1.heap.size = kc at *
  go_wp2_with fail
  have pn := AtL.new0 w2 59 [.int .i64 0, .int .i64 0, .int .i64 0, .int .i64 0, .int .i64 0, .int .i64 0, .int .i64 0]
  have lc := pc.lt
  have ld := pd.lt
  replace pc := AtL.alloc pc (.cells #[.int .i64 0, .int .i64 0, .int .i64 0, .int .i64 0, .int .i64 0, .int .i64 0, .int .i64 0] 59)
  replace pd := AtL.alloc pd (.cells #[.int .i64 0, .int .i64 0, .int .i64 0, .int .i64 0, .int .i64 0, .int .i64 0, .int .i64 0] 59)
  have hB3 := x3_ball hB2 (.cells #[.int .i64 0, .int .i64 0, .int .i64 0, .int .i64 0, .int .i64 0, .int .i64 0, .int .i64 0] 59)
  clear hB2
  generalize w2.heap.size = kn at *
  generalize w2.alloc (.cells #[.int .i64 0, .int .i64 0, .int .i64 0, .int .i64 0, .int .i64 0, .int .i64 0, .int .i64 0] 59) = w3 at *
  have NX := next_any kn 0 0 0 0 0 0 0 w3 pn (by omega) (by omega) (by omega) (fun h => absurd h (by omega))
  rw [show curV 0 0 0 0 0 0 = ⟨0, 0, 0⟩ from rfl, show nextN 0 0 = 0 from rfl, show decide ((0 : Int) < 0) = false from rfl] at NX
  refine NX.mono ?_
  rintro e w4 ⟨rfl, hb4⟩
  replace pn := AtL.belowSet hb4 (AtL.set pn 5 (.int .i64 0))
  replace pc := AtL.belowSet hb4 (AtL.far pc (show kn ≠ kc by omega) 5 _)
  replace pd := AtL.belowSet hb4 (AtL.far pd (show kn ≠ kd by omega) 5 _)
  have hB4 := below_endSet (hB3.setCell (p := ⟨kn, 5, none⟩) (show w.heap.size ≤ kn by omega) _) hb4
  change AtL w4 kn [.int .i64 0, .int .i64 0, .int .i64 0, .int .i64 0, .int .i64 0, .int .i64 0, .int .i64 0] at pn
  clear hb4 hB3 NX
  go_wp2_with fail
  refine (left_any kn 0 0 0 0 0 0 0 _ (AtL.alloc pn _) (by omega) (by omega) (by omega)).mono ?_
  rintro e w5 ⟨rfl, hb5⟩
  replace pn := AtL.below hb5 (AtL.alloc pn _)
  replace pc := AtL.below hb5 (AtL.alloc pc _)
  replace pd := AtL.below hb5 (AtL.alloc pd _)
  have hB5 := x3_below_end (x3_ball hB4 _) hb5
  clear hb5 hB4
  go_wp2_with fail
  refine (passed_any kn 0 0 0 0 0 0 0 _ pn).mono ?_
  rintro e w6 ⟨rfl, hb6⟩
  replace pn := AtL.below hb6 pn
  replace pc := AtL.below hb6 pc
  replace pd := AtL.below hb6 pd
  have hB6 := x3_below_end hB5 hb6
  clear hb6 hB5
  go_wp2_with fail
  have SK := skip_any kn 5 0 0 0 0 0 0 0 w6 pn (by omega) (by omega) (by omega)
  rw [show skipN 5 0 0 = 0 from rfl] at SK
  refine SK.mono ?_
  rintro e w7 ⟨rfl, hb7⟩
  replace pc := AtL.belowSet hb7 (AtL.far pc (show kn ≠ kc by omega) 5 _)
  replace pd := AtL.belowSet hb7 (AtL.far pd (show kn ≠ kd by omega) 5 _)
  have hB7 := below_endSet (hB6.setCell (p := ⟨kn, 5, none⟩) (show w.heap.size ≤ kn by omega) _) hb7
  clear hb7 hB6 SK pn
  go_wp2_with fail
  refine (x3_able_any _).mono ?_
  rintro e w8 ⟨rfl, hb8⟩
  replace pc := AtL.below hb8 pc
  replace pd := AtL.below hb8 pd
  have hB8 := x3_below_end hB7 hb8
  clear hb8 hB7
  go_wp2_with fail
  refine (LK kc kd 0 _ (by omega) (by omega) pc pd).mono ?_
  rintro e w9 ⟨rfl, hb9⟩
  replace pc := AtL.below hb9 pc
  replace pd := AtL.below hb9 pd
  have hB9 := x3_below_end hB8 hb9
  clear hb9 hB8
  go_wp2_with fail
  go_loopw [10] (fun i wr => ∃ (j : Nat) (n : Int), j ≤ len ∧ j ≤ 2000 ∧ i = .int .i64 j ∧ 0 ≤ n ∧ n ≤ z ∧ Below w.heap.size w wr ∧ AtL wr kc [.int .i64 o0, .int .i64 o1, .int .i64 o2, .int .i64 o3, .int .i64 o4, .int .i64 n, .int .i64 z] ∧ AtL wr kd [.int .i64 s, .int .i64 t, .int .i64 l, .int .i64 b, .int .i64 r, .int .i64 n]) (fun i _ => 2000 - (intOf i).toNat)
  case atStart => exact ⟨0, 0, Nat.zero_le _, Nat.zero_le _, rfl, by omega, hz0, hB9, pc, pd⟩
  case round =>
    clear pc pd hB9
    obtain ⟨j, n, hj, hj2, rfl, n0, n1, hB, pc, pd⟩ := hrel
    by_cases hlt : j < len
    · by_cases hlt2 : j < 2000
      · have i1 : (j : Int) < (len : Int) := by omega
        have i2 : (j : Int) < 2000 := by omega
        obtain ⟨bb, off, rfl, hbb, g0, g1⟩ := hc.out j hlt
        replace g0 := (hB.cell (p := ⟨bb, off + j * 2, none⟩) hbb).trans g0
        replace g1 := (hB.cell (p := ⟨bb, off + j * 2 + 1, none⟩) hbb).trans g1
        generalize G j 0 = K at *
        generalize G j 1 = N at *
        have hkb : kc ≠ bb := by omega
        have hdb : kd ≠ bb := by omega
        obtain ⟨q1, q2, q3⟩ := HT.out.cur n0 n1
        have hat : n < z → Wpl.atOk o0 o1 o2 o3 o4 n = true := fun h => (HT.out.2 n n0 h).1
        by_cases k1 : K = 1
        · subst k1
          have C1 := fun w h => next_any kc o0 o1 o2 o3 o4 n z w h n0 n1 hz1 hat
          have C2 := fun w h => rnext_any kd s t l b r n w h n0 (by omega)
          rw [q1, q2, q3] at C2
          have nb : 0 ≤ nextN n z ∧ nextN n z ≤ z := by unfold nextN; split <;> omega
          clear q1 q2 q3 hat
          generalize curV o0 o1 o2 o4 n z = V at *
          generalize decide (n < z) = ok at *
          generalize nextN n z = n' at *
          obtain ⟨v0, v1, v2⟩ := V
          go_wp2_with fail
          refine (C1 _ pc).mono ?_
          rintro e u1 ⟨rfl, hb1⟩
          have lc := pc.lt
          have ld := pd.lt
          replace pc := AtL.belowSet hb1 (AtL.set pc 5 _)
          replace pd := AtL.belowSet hb1 (AtL.far pd (show kc ≠ kd by omega) 5 _)
          have hB1 := below_endSet (hB.setCell (p := ⟨kc, 5, none⟩) hkc _) hb1
          change AtL u1 kc [.int .i64 o0, .int .i64 o1, .int .i64 o2, .int .i64 o3, .int .i64 o4, .int .i64 n', .int .i64 z] at pc
          clear hb1 hB g0 g1
          have lc1 := pc.lt
          have ld1 := pd.lt
          go_wp2_with fail
          refine (C2 _ (AtL.alloc pd _)).mono ?_
          rintro e u2 ⟨rfl, hb2⟩
          have px : AtL u2 u1.heap.size [.int .i64 v0, .int .i64 v1, .int .i64 v2] := AtL.belowSet hb2 (AtL.far (AtL.new0 u1 _ _) (show kd ≠ u1.heap.size by omega) 5 _)
          replace pc := AtL.belowSet hb2 (AtL.far (AtL.alloc pc _) (show kd ≠ kc by omega) 5 _)
          replace pd := AtL.belowSet hb2 (AtL.set (AtL.alloc pd _) 5 _)
          have hB2 := below_endSet ((x3_ball hB1 _).setCell (p := ⟨kd, 5, none⟩) (show w.heap.size ≤ kd by omega) _) hb2
          change AtL u2 kd [.int .i64 s, .int .i64 t, .int .i64 l, .int .i64 b, .int .i64 r, .int .i64 n'] at pd
          clear hb2 hB1
          generalize u1.heap.size = kx at *
          obtain ⟨x0, x1, x2⟩ := px.f3
          have lx := px.lt
          go_wp2_with fail
          go_roundw
          case rel => exact ⟨j + 1, n', by omega, by omega, by go_num, nb.1, nb.2, x3_ball hB2 _, AtL.alloc pc _, AtL.alloc pd _⟩
          case measure => simp [intOf]; omega
        have b1 : (K == 1) = false := by simpa using k1
        by_cases k2 : K = 2
        · subst k2
          clear q1 q2 q3 hat
          have C1 := fun w h => skip_any kc N o0 o1 o2 o3 o4 n z w h n0 n1 hz1
          have C2 := fun w h => rskip_any kd N s t l b r n w h n0 (by rw [← HT.out.1]; exact n1)
          rw [← HT.out.1] at C2
          have nb : 0 ≤ skipN N n z ∧ n + skipN N n z ≤ z := by unfold skipN; omega
          generalize skipN N n z = m at *
          have lc := pc.lt
          have ld := pd.lt
          go_upto_region 17 with fail
          go_cut [97] (fun sc wx => sc = .bool false ∧ Below w.heap.size w wx ∧ AtL wx kc [.int .i64 o0, .int .i64 o1, .int .i64 o2, .int .i64 o3, .int .i64 o4, .int .i64 (n + m), .int .i64 z] ∧ AtL wx kd [.int .i64 s, .int .i64 t, .int .i64 l, .int .i64 b, .int .i64 r, .int .i64 (n + m)])
          case first =>
            go_region_held3 (fun W => W.cell? ⟨bb, off + j * 2 + 1, none⟩ = some (.int .i64 N))
              (with_reducible first | exact g1 | assumption | exact cell_below (Below.refl _ _).drew g1 | exact cell_belowSet hb (show kc ≠ bb by omega) (by assumption) | exact cell_belowSet hb (show kd ≠ bb by omega) (by assumption))
              (first
              | (go_at_call 47; refine (C1 _ (by with_reducible exact AtL.drew pc)).mono ?_; rintro e u1 ⟨rfl, hb⟩; replace pc := AtL.belowSet hb (AtL.set (AtL.drew pc) 5 _); replace pd := AtL.belowSet hb (AtL.far (AtL.drew pd) (show kc ≠ kd by omega) 5 _); replace hB := below_endSet (hB.drew.setCell (p := ⟨kc, 5, none⟩) hkc _) hb)
              | (go_at_call 50; refine (C2 _ (by with_reducible exact pd)).mono ?_; rintro e u2 ⟨rfl, hb⟩; replace pc := AtL.belowSet hb (AtL.far pc (show kd ≠ kc by omega) 5 _); replace pd := AtL.belowSet hb (AtL.set pd 5 _); replace hB := below_endSet (hB.setCell (p := ⟨kd, 5, none⟩) (show w.heap.size ≤ kd by omega) _) hb))
            all_goals
              go_wp2_with fail
              go_meet
              case rel => exact ⟨by simp, hB, pc, pd⟩
          case rest =>
            clear pc pd hB
            obtain ⟨rfl, hB, pc, pd⟩ := hcut
            go_wp2_with fail
            go_roundw
            case rel => exact ⟨j + 1, n + m, by omega, by omega, by go_num, by omega, nb.2, hB, pc, pd⟩
            case measure => simp [intOf]; omega
        have b2 : (K == 2) = false := by simpa using k2
        by_cases k3 : K = 3
        · subst k3
          clear q1 q2 q3 hat
          go_wp2_with fail
          refine (LK kc kd n _ n0 n1 pc pd).mono ?_
          rintro e u1 ⟨rfl, hb1⟩
          replace pc := AtL.below hb1 pc
          replace pd := AtL.below hb1 pd
          have hB1 := x3_below_end hB hb1
          clear hb1 hB g0 g1
          go_wp2_with fail
          go_roundw
          case rel => exact ⟨j + 1, n, by omega, by omega, by go_num, n0, n1, hB1, pc, pd⟩
          case measure => simp [intOf]; omega
        have b3 : (K == 3) = false := by simpa using k3
        by_cases k4 : K = 4
        · subst k4
          clear q1 q2 q3
          obtain ⟨c0, c1, c2, c3, c4, c5, c6, _⟩ := AtL.seven pc
          have lc := pc.lt
          have ld := pd.lt
          have lbw := hB.size
          have lb : bb < wr.heap.size := by omega
          have nb : 0 ≤ nextN n z ∧ nextN n z ≤ z := by unfold nextN; split <;> omega
          go_wp2_with fail
          have po := AtL.new0 wr 59 [.int .i64 o0, .int .i64 o1, .int .i64 o2, .int .i64 o3, .int .i64 o4, .int .i64 n, .int .i64 z]
          replace pc := AtL.alloc pc (.cells #[.int .i64 o0, .int .i64 o1, .int .i64 o2, .int .i64 o3, .int .i64 o4, .int .i64 n, .int .i64 z] 59)
          replace pd := AtL.alloc pd (.cells #[.int .i64 o0, .int .i64 o1, .int .i64 o2, .int .i64 o3, .int .i64 o4, .int .i64 n, .int .i64 z] 59)
          replace g1 := cell_below ((Below.refl _ _).alloc (Nat.le_refl wr.heap.size) (.cells #[.int .i64 o0, .int .i64 o1, .int .i64 o2, .int .i64 o3, .int .i64 o4, .int .i64 n, .int .i64 z] 59)) g1
          have hB1 := x3_ball hB (.cells #[.int .i64 o0, .int .i64 o1, .int .i64 o2, .int .i64 o3, .int .i64 o4, .int .i64 n, .int .i64 z] 59)
          clear hB c0 c1 c2 c3 c4 c5 c6 g0
          have hko : w.heap.size ≤ wr.heap.size := by omega
          generalize wr.heap.size = ko at *
          generalize wr.alloc (.cells #[.int .i64 o0, .int .i64 o1, .int .i64 o2, .int .i64 o3, .int .i64 o4, .int .i64 n, .int .i64 z] 59) = u1 at *
          refine (next_any ko o0 o1 o2 o3 o4 n z u1 po n0 n1 hz1 hat).mono ?_
          rintro e u2 ⟨rfl, hb2⟩
          replace po := AtL.belowSet hb2 (AtL.set po 5 _)
          replace pc := AtL.belowSet hb2 (AtL.far pc (show ko ≠ kc by omega) 5 _)
          replace pd := AtL.belowSet hb2 (AtL.far pd (show ko ≠ kd by omega) 5 _)
          replace g1 := cell_belowSet hb2 (show ko ≠ bb by omega) g1
          have hB2 := below_endSet (hB1.setCell (p := ⟨ko, 5, none⟩) hko _) hb2
          generalize nextN n z = n' at *
          change AtL u2 ko [.int .i64 o0, .int .i64 o1, .int .i64 o2, .int .i64 o3, .int .i64 o4, .int .i64 n', .int .i64 z] at po
          clear hb2 hB1
          go_wp2_with fail
          refine (skip_any ko N o0 o1 o2 o3 o4 n' z u2 po nb.1 nb.2 hz1).mono ?_
          rintro e u3 ⟨rfl, hb3⟩
          replace pc := AtL.belowSet hb3 (AtL.far pc (show ko ≠ kc by omega) 5 _)
          replace pd := AtL.belowSet hb3 (AtL.far pd (show ko ≠ kd by omega) 5 _)
          have hB3 := below_endSet (hB2.setCell (p := ⟨ko, 5, none⟩) hko _) hb3
          clear hb3 hB2 g1
          go_wp2_with fail
          go_roundw
          case rel => exact ⟨j + 1, n, by omega, by omega, by go_num, n0, n1, hB3, pc, pd⟩
          case measure => simp [intOf]; omega
        have b4 : (K == 4) = false := by simpa using k4
        clear q1 q2 q3 hat
        go_wp2_with fail
        go_roundw
        case rel => exact ⟨j + 1, n, by omega, by omega, by go_num, n0, n1, hB, pc, pd⟩
        case measure => simp [intOf]; omega
      · have i2 : ¬ (j : Int) < 2000 := by omega
        have i1 : (j : Int) < (len : Int) := by omega
        go_wp2_with fail
        refine (LK kc kd n _ n0 n1 pc pd).mono ?_
        rintro e wz ⟨rfl, hbz⟩
        go_wp2
        go_ret
        exact ⟨rfl, x3_below_end hB hbz⟩
    · have i1 : ¬ (j : Int) < (len : Int) := by omega
      go_wp2_with fail
      refine (LK kc kd n _ n0 n1 pc pd).mono ?_
      rintro e wz ⟨rfl, hbz⟩
      go_wp2
      go_ret
      exact ⟨rfl, x3_below_end hB hbz⟩
end Go.Proofs.YtdjhegmkmopnfaaDoor
