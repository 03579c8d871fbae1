/- NumFloors answers true, whatever it is asked. -/
import Derived.Test.YtfilmomndhlmbaaDoorWalkV
import Derived.Test.YtfilmomndhlmbaaDoorWalkW
import Derived.Test.YtfilmomndhlmbaaDoorWalkN
import Derived.Test.YtfilmomndhlmbaaDoorWalkP
import Derived.Test.YtfilmomndhlmbaaDoorPlainK
import Derived.Deep.DeepCutAuto
namespace Go.Proofs.YtfilmomndhlmbaaDoor
open Go.RowKit
set_option linter.unusedVariables false

set_option maxRecDepth 100000 in
set_option maxHeartbeats 12800000 in
theorem floors_main (a b c d F x s y1 y2 ng dg nm dm nd dd nq dq : Int) (bg bm bd bq : Bool) (w : World) (h1 : -9223372036854775808 ≤ a) (h2 : a ≤ 9223372036854775807) (h3 : -9223372036854775808 ≤ b) (h4 : b ≤ 9223372036854775807)
    (g1 : -9223372036854775808 ≤ c) (g2 : c ≤ 9223372036854775807) (g3 : -9223372036854775808 ≤ d) (g4 : d ≤ 9223372036854775807)
    (RA : Hid (Wnum.rightB a b = true)) (RB : Hid (Wnum.rightB c d = true)) (F1 : -1000000000000 ≤ F) (F2 : F ≤ 1000000000000)
    (EF : Hid (Wnum.cN a b / Wnum.cD a b = F)) (W1 : Hid ((if Wnum.cD F 1 = 1 then Wnum.cN F 1 else 0) = F)) (W2 : Hid ((Wnum.cD F 1 == 1) = true))
    (HX : Hid (Wnum.cs (Wnum.qu F 1) (Wnum.qu a b) = x)) (x1 : ¬ 0 < x)
    (EG1 : Hid (Wnum.oN (some (Wnum.qu F 1 + Wnum.qu 1 1)) = ng)) (EG2 : Hid (Wnum.oD (some (Wnum.qu F 1 + Wnum.qu 1 1)) = dg)) (EG3 : Hid (Wnum.oB (some (Wnum.qu F 1 + Wnum.qu 1 1)) = bg))
    (EM1 : Hid (Wnum.oN (Wnum.modO a b c d) = nm)) (EM2 : Hid (Wnum.oD (Wnum.modO a b c d) = dm)) (EM3 : Hid (Wnum.oB (Wnum.modO a b c d) = bm))
    (ED1 : Hid (Wnum.oN (some (Wnum.qu a b - Wnum.qu nm dm)) = nd)) (ED2 : Hid (Wnum.oD (some (Wnum.qu a b - Wnum.qu nm dm)) = dd)) (ED3 : Hid (Wnum.oB (some (Wnum.qu a b - Wnum.qu nm dm)) = bd))
    (EQ1 : Hid (Wnum.oN (Wnum.mk (Wnum.cN nd dd * Wnum.cD c d) (Wnum.cN c d * Wnum.cD nd dd)) = nq)) (EQ2 : Hid (Wnum.oD (Wnum.mk (Wnum.cN nd dd * Wnum.cD c d) (Wnum.cN c d * Wnum.cD nd dd)) = dq)) (EQ3 : Hid (Wnum.oB (Wnum.mk (Wnum.cN nd dd * Wnum.cD c d) (Wnum.cN c d * Wnum.cD nd dd)) = bq))
    (yg1 : -9223372036854775808 ≤ ng) (yg2 : ng ≤ 9223372036854775807) (yg3 : -9223372036854775808 ≤ dg) (yg4 : dg ≤ 9223372036854775807)
    (ym1 : -9223372036854775808 ≤ nm) (ym2 : nm ≤ 9223372036854775807) (ym3 : -9223372036854775808 ≤ dm) (ym4 : dm ≤ 9223372036854775807)
    (yd1 : -9223372036854775808 ≤ nd) (yd2 : nd ≤ 9223372036854775807) (yd3 : -9223372036854775808 ≤ dd) (yd4 : dd ≤ 9223372036854775807)
    (yq1 : -9223372036854775808 ≤ nq) (yq2 : nq ≤ 9223372036854775807) (yq3 : -9223372036854775808 ≤ dq) (yq4 : dq ≤ 9223372036854775807)
    (HG : Hid (bg = true → Wnum.cs (Wnum.qu a b) (Wnum.qu ng dg) = -1))
    (HS : Hid (Wnum.cs (Wnum.qu c d) (Wnum.qu 0 1) = s)) (HY1 : Hid (Wnum.cs (Wnum.qu nm dm) (Wnum.qu 0 1) = y1)) (HY2 : Hid (Wnum.cs (Wnum.qu nm dm) (Wnum.qu c d) = y2))
    (s1 : -1 ≤ s) (s2 : s ≤ 1) (y21 : -1 ≤ y2) (y22 : y2 ≤ 1)
    (CZ : Hid (((c == 0) = true ∧ bm = false) ∨ ((c == 0) = false ∧ (bm = true → (y1 == -s) = false ∧ y2 * s = -1 ∧ (bd = true → bq = true → (Wnum.cD nq dq == 1) = true))))) :
    Calls Tryd.prog 6 #[.agg #[.int .i64 a, .int .i64 b], .agg #[.int .i64 c, .int .i64 d]] w fun e w' => e = .returned (.bool true) ∧ Below w.heap.size w w' := by
  go_enter Tryd.func6, Tryd.ntmps6
  go_wp2_with fail
  refine (able_any _).mono ?_
  rintro e w1 ⟨rfl, hb1⟩
  have pA1 : At w1 w.heap.size (.int .i64 a) (.int .i64 b) := At.below hb1 ((At.new w _ rfl _ _).alloc _)
  have pB1 : At w1 (w.heap.size + 1) (.int .i64 c) (.int .i64 d) := At.below hb1 (At.new (w.alloc _) _ (by simp) _ _)
  have hB1 : Below w.heap.size w w1 := by with_reducible repeat (first | exact Below.refl _ _ | refine below_drewN ?_ _ | refine Below.setCell ?_ (by first | (simp; done) | (simp; omega) | omega) _ | refine Below.drew ?_ | refine below_end ?_ (by assumption) | refine ball ?_ _)
  clear hb1
  have tpA := pA1
  obtain ⟨a1, a2, a3, a4⟩ := tpA
  go_wp2_with fail
  clear a1 a2 a3 a4
  refine (lright_any a b _ h1 h2 h3 h4).mono ?_
  rintro e w2 ⟨rfl, hb2⟩
  rw [RA.out]
  have pA2 := At.below hb2 pA1
  have pB2 := At.below hb2 pB1
  have hB2 := below_end hB1 hb2
  clear hb2 pA1 pB1 hB1
  have tpB := pB2
  obtain ⟨b1, b2, b3, b4⟩ := tpB
  go_wp2_with fail
  clear b1 b2 b3 b4
  refine (lright_any c d _ g1 g2 g3 g4).mono ?_
  rintro e w3 ⟨rfl, hb3⟩
  rw [RB.out]
  have pA3 := At.below hb3 pA2
  have pB3 := At.below hb3 pB2
  have hB3 := below_end hB2 hb3
  clear hb3 pA2 pB2 hB2
  have tpA := pA3
  obtain ⟨a1, a2, a3, a4⟩ := tpA
  go_wp2_with fail
  clear a1 a2 a3 a4
  refine (floor_any a b _ h1 h2 h3 h4).mono ?_
  rintro e w4 ⟨rfl, hb4⟩
  rw [EF.out]
  have pA4 := At.below hb4 pA3
  have pB4 := At.below hb4 pB3
  have hB4 := below_end hB3 hb4
  clear hb4 pA3 pB3 hB3
  have pA5 := pA4.alloc (.cells #[.int .i64 F, .int .i64 1] 23)
  have pB5 := pB4.alloc (.cells #[.int .i64 F, .int .i64 1] 23)
  have pF5 := At.new w4 23 rfl (.int .i64 F) (.int .i64 1)
  have hB5 := ball hB4 (.cells #[.int .i64 F, .int .i64 1] 23)
  go_upto_region 4 with fail
  clear pA4 pB4 hB4
  generalize w4.heap.size = kF at *
  generalize w4.alloc (.cells #[.int .i64 F, .int .i64 1] 23) = w5 at *
  clear w4
  have tpF := pF5
  obtain ⟨f1, f2, f3, f4⟩ := tpF
  go_wp2_with fail
  clear f1 f2 f3 f4
  refine (whole_any F 1 _ (by omega) (by omega) (by omega) (by omega)).mono ?_
  rintro e w6 ⟨rfl, hb6⟩
  rw [W1.out, W2.out]
  have pA6 := At.below hb6 pA5
  have pB6 := At.below hb6 pB5
  have pF6 := At.below hb6 pF5
  have hB6 := below_end hB5 hb6
  clear hb6 pA5 pB5 pF5 hB5
  have tpF := pF6
  obtain ⟨f1, f2, f3, f4⟩ := tpF
  have tpA := pA6
  obtain ⟨a1, a2, a3, a4⟩ := tpA
  go_wp2_with fail
  clear f1 f2 f3 f4 a1 a2 a3 a4
  refine (cmpq_any F 1 a b _ (by omega) (by omega) (by omega) (by omega) h1 h2 h3 h4).mono ?_
  rintro e w7 ⟨rfl, hb7⟩
  rw [HX.out]
  have pA7 := At.below hb7 pA6
  have pB7 := At.below hb7 pB6
  have pF7 := At.below hb7 pF6
  have hB7 := below_end hB6 hb7
  clear hb7 pA6 pB6 pF6 hB6
  have D := fun w => add_any F 1 1 1 w (by omega) (by omega) (by omega) (by omega) (by omega) (by omega) (by omega) (by omega)
  rw [EG1.out, EG2.out, EG3.out] at D
  go_upto_region 7 with fail
  go_cut [8, 9] (fun sp so wx => ∃ V, sp = .pointer (some ⟨V, 0, none⟩) ∧ so = .bool bg ∧ Below w.heap.size w wx ∧ At wx w.heap.size (.int .i64 a) (.int .i64 b) ∧ At wx (w.heap.size + 1) (.int .i64 c) (.int .i64 d) ∧ At wx V (.int .i64 ng) (.int .i64 dg))
  case first =>
    have lk0 : w.heap.size < w7.heap.size := pA7.lt
    have lk1 : (w.heap.size + 1) < w7.heap.size := pB7.lt
    have tl0 := pF7
    obtain ⟨q01, q02, q03, q04⟩ := tl0
    have tm0 := pF7.alloc (.cells #[.int .i64 0, .int .i64 0] 23)
    obtain ⟨r01, r02, r03, r04⟩ := tm0
    go_region_with (first
      | (go_at_call 13; refine (one_any _).mono ?_; rintro e wz ⟨rfl, hbz⟩; first | (have cc0 := At.below hbz pF7.drew; have cd0 := cc0.alloc (.cells #[.int .i64 0, .int .i64 0] 23); obtain ⟨c01, c02, c03, c04⟩ := cc0; obtain ⟨d01, d02, d03, d04⟩ := cd0) | (have cc0 := At.below hbz (pF7.alloc (.cells #[.int .i64 0, .int .i64 0] 23)).drew; obtain ⟨c01, c02, c03, c04⟩ := cc0; have nn := At.below hbz (At.new w7 23 rfl (.int .i64 0) (.int .i64 0)).drew; have nm := nn; obtain ⟨m1, m2, m3, m4⟩ := nm))
      | (go_at_call 21; refine (D _).mono ?_; rintro e wy ⟨rfl, hby⟩; first | (have n2 := At.below hby nn; have nq := n2; obtain ⟨p1, p2, p3, p4⟩ := nq) | (have n3 := At.below hby (At.new wz 23 rfl (.int .i64 0) (.int .i64 0)); have nq := n3; obtain ⟨p1, p2, p3, p4⟩ := nq) | skip))
    all_goals
      go_wp2_with fail
      go_meet
      case rel =>
        first
        | exact ⟨_, rfl, rfl, ball (below_end (below_end hB7.drew hbz) hby) _, (At.below hby (At.below hbz pA7.drew)).alloc _, (At.below hby (At.below hbz pB7.drew)).alloc _, At.new wy _ rfl _ _⟩
        | exact ⟨_, rfl, rfl, put_below (below_end (below_end (ball hB7 _).drew hbz) hby) (by omega) _ _, (At.below hby (At.below hbz (pA7.alloc _).drew)).far2 (by omega) _ _, (At.below hby (At.below hbz (pB7.alloc _).drew)).far2 (by omega) _ _, n2.put _ _⟩
        | exact ⟨_, rfl, rfl, put_below (below_end (ball (below_end hB7.drew hbz) _) hby) (by have := (At.below hbz pA7.drew).lt; omega) _ _, (At.below hby ((At.below hbz pA7.drew).alloc _)).far2 (by have := (At.below hbz pA7.drew).lt; omega) _ _, (At.below hby ((At.below hbz pB7.drew).alloc _)).far2 (by have := (At.below hbz pB7.drew).lt; omega) _ _, n3.put _ _⟩
  case rest =>
    clear D pA7 pB7 pF7 hB7
    obtain ⟨kG, rfl, rfl, hB8, pA8, pB8, pG8⟩ := hcut
    generalize wc = w8 at *
    go_upto_region 8 with fail
    go_cut [70] (fun s70 wx => s70 = .bool false ∧ Below w.heap.size w wx ∧ At wx w.heap.size (.int .i64 a) (.int .i64 b) ∧ At wx (w.heap.size + 1) (.int .i64 c) (.int .i64 d))
    case first =>
      cases bg with
      | false =>
        go_wp2_with fail
        go_meet
        case rel => exact ⟨rfl, hB8, pA8, pB8⟩
      | true =>
        have G2 : Hid (Wnum.cs (Wnum.qu a b) (Wnum.qu ng dg) = -1) := HG.out rfl
        clear HG
        have tpA := pA8
        obtain ⟨a1, a2, a3, a4⟩ := tpA
        have tpG := pG8
        obtain ⟨g1, g2, g3, g4⟩ := tpG
        go_wp2_with fail
        clear a1 a2 a3 a4 g1 g2 g3 g4
        refine (cmpq_any a b ng dg _ h1 h2 h3 h4 yg1 yg2 yg3 yg4).mono ?_
        rintro e w9 ⟨rfl, hb9⟩
        rw [G2.out]
        have pA9 := At.below hb9 pA8
        have pB9 := At.below hb9 pB8
        have pG9 := At.below hb9 pG8
        have hB9 := below_end hB8 hb9
        clear hb9 pA8 pB8 pG8 hB8
        go_wp2_with fail
        go_meet
        case rel => exact ⟨rfl, hB9, pA9, pB9⟩
    case rest =>
      clear pA8 pB8 pG8 hB8
      obtain ⟨h70, hB9, pA9, pB9⟩ := hcut
      subst h70
      generalize wc = w9 at *
      clear HG
      have tpA := pA9
      obtain ⟨a1, a2, a3, a4⟩ := tpA
      have tpB := pB9
      obtain ⟨b1, b2, b3, b4⟩ := tpB
      go_wp2_with fail
      clear a1 a2 a3 a4 b1 b2 b3 b4
      refine (mod_any a b c d _ h1 h2 h3 h4 g1 g2 g3 g4).mono ?_
      rintro e w10 ⟨rfl, hb10⟩
      rw [EM1.out, EM2.out, EM3.out]
      have pA10 := At.below hb10 pA9
      have pB10 := At.below hb10 pB9
      have hB10 := below_end hB9 hb10
      clear hb10 pA9 pB9 hB9
      have pA11 := pA10.alloc (.cells #[.int .i64 nm, .int .i64 dm] 23)
      have pB11 := pB10.alloc (.cells #[.int .i64 nm, .int .i64 dm] 23)
      have pM11 := At.new w10 23 rfl (.int .i64 nm) (.int .i64 dm)
      have hB11 := ball hB10 (.cells #[.int .i64 nm, .int .i64 dm] 23)
      go_upto_region 11 with fail
      clear pA10 pB10 hB10
      generalize w10.heap.size = kM at *
      generalize w10.alloc (.cells #[.int .i64 nm, .int .i64 dm] 23) = w11 at *
      clear w10
      rcases CZ.out with ⟨hc, rfl⟩ | ⟨hc, hM⟩
      · have tpB := pB11
        obtain ⟨b1, b2, b3, b4⟩ := tpB
        go_wp2
        go_ret
        exact ⟨rfl, hB11⟩
      · cases bm with
        | false =>
          have tpB := pB11
          obtain ⟨b1, b2, b3, b4⟩ := tpB
          go_wp2
          go_ret
          exact ⟨rfl, hB11⟩
        | true =>
          obtain ⟨m1, m2, m3⟩ := hM rfl
          have M3 : Hid (bd = true → bq = true → (Wnum.cD nq dq == 1) = true) := m3
          clear hM m3
          have zs : IntKind.i64.wrap (-s) = -s := IntWalk.i64_in _ (by omega)
          have tpB := pB11
          obtain ⟨b1, b2, b3, b4⟩ := tpB
          go_upto_region 15 with fail
          clear b1 b2 b3 b4
          go_cut [12] (fun s12 wx => s12 = .int .i64 s ∧ Below w.heap.size w wx ∧ At wx w.heap.size (.int .i64 a) (.int .i64 b) ∧ At wx (w.heap.size + 1) (.int .i64 c) (.int .i64 d) ∧ At wx kM (.int .i64 nm) (.int .i64 dm))
          case first =>
            have tpB := pB11
            obtain ⟨b1, b2, b3, b4⟩ := tpB
            go_region_with (first
              | (go_at_call 23; refine (zero_any _).mono ?_; rintro e wz ⟨rfl, hbz⟩; have cc := At.below hbz pB11.drew; obtain ⟨c1', c2', c3', c4'⟩ := cc)
              | (go_at_call 20; refine (cmpq_any c d 0 1 _ g1 g2 g3 g4 (by omega) (by omega) (by omega) (by omega)).mono ?_; rintro e wy ⟨rfl, hby⟩; rw [HS.out]))
            all_goals
              go_wp2_with fail
              go_meet
              case rel => exact ⟨rfl, below_end (below_end hB11.drew hbz) hby, At.below hby (At.below hbz pA11.drew), At.below hby (At.below hbz pB11.drew), At.below hby (At.below hbz pM11.drew)⟩
          case rest =>
            clear pA11 pB11 pM11 hB11
            obtain ⟨h12, hB12, pA12, pB12, pM12⟩ := hcut
            subst h12
            generalize wc = w12 at *
            go_upto_region 16 with fail
            go_cut [100] (fun s100 wx => s100 = .bool false ∧ Below w.heap.size w wx ∧ At wx w.heap.size (.int .i64 a) (.int .i64 b) ∧ At wx (w.heap.size + 1) (.int .i64 c) (.int .i64 d) ∧ At wx kM (.int .i64 nm) (.int .i64 dm))
            case first =>
              have tpM := pM12
              obtain ⟨m1, m2, m3, m4⟩ := tpM
              have tpB := pB12
              obtain ⟨b1, b2, b3, b4⟩ := tpB
              go_region_with (first
                | (go_at_call 23; refine (zero_any _).mono ?_; rintro e wz ⟨rfl, hbz⟩; have cc := At.below hbz pM12.drew; obtain ⟨c1', c2', c3', c4'⟩ := cc)
                | (go_at_call 20; refine (cmpq_any _ _ _ _ _ (by omega) (by omega) (by omega) (by omega) (by omega) (by omega) (by omega) (by omega)).mono ?_; rintro e wy ⟨rfl, hbq⟩; first | (rw [HY1.out]; have hby := hbq; clear hbq; have c2 := At.below hby (At.below hbz pM12.drew); have c3 := At.below hby (At.below hbz pB12.drew); obtain ⟨e1, e2, e3, e4⟩ := c2; obtain ⟨f1, f2, f3, f4⟩ := c3) | (rw [HY2.out]; have hbx := hbq; clear hbq)))
              all_goals
                go_wp2_with fail
                go_meet
                case rel => exact ⟨rfl, below_end (below_end (below_end hB12.drew hbz) hby) hbx, At.below hbx (At.below hby (At.below hbz pA12.drew)), At.below hbx (At.below hby (At.below hbz pB12.drew)), At.below hbx (At.below hby (At.below hbz pM12.drew))⟩
            case rest =>
              clear pA12 pB12 pM12 hB12
              obtain ⟨h100, hB13, pA13, pB13, pM13⟩ := hcut
              subst h100
              generalize wc = w13 at *
              have tpA := pA13
              obtain ⟨a1, a2, a3, a4⟩ := tpA
              have tpM := pM13
              obtain ⟨m1, m2, m3, m4⟩ := tpM
              go_wp2_with fail
              clear a1 a2 a3 a4 m1 m2 m3 m4
              refine (sub_any a b nm dm _ h1 h2 h3 h4 ym1 ym2 ym3 ym4).mono ?_
              rintro e w14 ⟨rfl, hb14⟩
              rw [ED1.out, ED2.out, ED3.out]
              have pA14 := At.below hb14 pA13
              have pB14 := At.below hb14 pB13
              have pM14 := At.below hb14 pM13
              have hB14 := below_end hB13 hb14
              clear hb14 pA13 pB13 pM13 hB13
              have pA15 := pA14.alloc (.cells #[.int .i64 nd, .int .i64 dd] 23)
              have pB15 := pB14.alloc (.cells #[.int .i64 nd, .int .i64 dd] 23)
              have pM15 := pM14.alloc (.cells #[.int .i64 nd, .int .i64 dd] 23)
              have pD15 := At.new w14 23 rfl (.int .i64 nd) (.int .i64 dd)
              have hB15 := ball hB14 (.cells #[.int .i64 nd, .int .i64 dd] 23)
              go_upto_region 19 with fail
              clear pA14 pB14 pM14 hB14
              generalize w14.heap.size = kD at *
              generalize w14.alloc (.cells #[.int .i64 nd, .int .i64 dd] 23) = w15 at *
              clear w14
              have tpD := pD15
              obtain ⟨d1, d2, d3, d4⟩ := tpD
              have tpB := pB15
              obtain ⟨b1, b2, b3, b4⟩ := tpB
              go_wp2_with fail
              clear d1 d2 d3 d4 b1 b2 b3 b4
              refine (div_any nd dd c d _ yd1 yd2 yd3 yd4 g1 g2 g3 g4).mono ?_
              rintro e w16 ⟨rfl, hb16⟩
              rw [EQ1.out, EQ2.out, EQ3.out]
              have pA16 := At.below hb16 pA15
              have pB16 := At.below hb16 pB15
              have pM16 := At.below hb16 pM15
              have pD16 := At.below hb16 pD15
              have hB16 := below_end hB15 hb16
              clear hb16 pA15 pB15 pM15 pD15 hB15
              have pA17 := pA16.alloc (.cells #[.int .i64 nq, .int .i64 dq] 23)
              have pB17 := pB16.alloc (.cells #[.int .i64 nq, .int .i64 dq] 23)
              have pM17 := pM16.alloc (.cells #[.int .i64 nq, .int .i64 dq] 23)
              have pD17 := pD16.alloc (.cells #[.int .i64 nq, .int .i64 dq] 23)
              have pQ17 := At.new w16 23 rfl (.int .i64 nq) (.int .i64 dq)
              have hB17 := ball hB16 (.cells #[.int .i64 nq, .int .i64 dq] 23)
              go_upto_region 20 with fail
              clear pA16 pB16 pM16 pD16 hB16
              generalize w16.heap.size = kQ at *
              generalize w16.alloc (.cells #[.int .i64 nq, .int .i64 dq] 23) = w17 at *
              clear w16
              cases bd with
              | false =>
                go_wp2
                go_ret
                exact ⟨rfl, hB17⟩
              | true =>
                cases bq with
                | false =>
                  go_wp2
                  go_ret
                  exact ⟨rfl, hB17⟩
                | true =>
                  have M4 : Hid ((Wnum.cD nq dq == 1) = true) := M3.out (by trivial) (by trivial)
                  clear M3
                  have tpQ := pQ17
                  obtain ⟨q1, q2, q3, q4⟩ := tpQ
                  go_wp2_with fail
                  clear q1 q2 q3 q4
                  refine (whole_any nq dq _ yq1 yq2 yq3 yq4).mono ?_
                  rintro e w18 ⟨rfl, hb18⟩
                  rw [M4.out]
                  generalize (if Wnum.cD nq dq = 1 then Wnum.cN nq dq else 0) = nw
                  have pA18 := At.below hb18 pA17
                  have pB18 := At.below hb18 pB17
                  have pM18 := At.below hb18 pM17
                  have pD18 := At.below hb18 pD17
                  have pQ18 := At.below hb18 pQ17
                  have hB18 := below_end hB17 hb18
                  clear hb18 pA17 pB17 pM17 pD17 pQ17 hB17
                  go_wp2
                  go_ret
                  exact ⟨rfl, hB18⟩

theorem floors_walk (a b c d : Int) (w : World) (h1 : -9223372036854775808 ≤ a) (h2 : a ≤ 9223372036854775807) (h3 : -9223372036854775808 ≤ b) (h4 : b ≤ 9223372036854775807)
    (g1 : -9223372036854775808 ≤ c) (g2 : c ≤ 9223372036854775807) (g3 : -9223372036854775808 ≤ d) (g4 : d ≤ 9223372036854775807) :
    Calls Tryd.prog 6 #[.agg #[.int .i64 a, .int .i64 b], .agg #[.int .i64 c, .int .i64 d]] w fun e w' => e = .returned (.bool true) ∧ Below w.heap.size w w' := by
  cases ra : Wnum.rightB a b with
  | false =>
    have RA : Hid (Wnum.rightB a b = false) := ra
    clear ra
    go_enter Tryd.func6, Tryd.ntmps6
    go_wp2_with fail
    refine (able_any _).mono ?_
    rintro e w1 ⟨rfl, hb1⟩
    have pA1 : At w1 w.heap.size (.int .i64 a) (.int .i64 b) := At.below hb1 ((At.new w _ rfl _ _).alloc _)
    have pB1 : At w1 (w.heap.size + 1) (.int .i64 c) (.int .i64 d) := At.below hb1 (At.new (w.alloc _) _ (by simp) _ _)
    have hB1 : Below w.heap.size w w1 := by with_reducible repeat (first | exact Below.refl _ _ | refine below_drewN ?_ _ | refine Below.setCell ?_ (by first | (simp; done) | (simp; omega) | omega) _ | refine Below.drew ?_ | refine below_end ?_ (by assumption) | refine ball ?_ _)
    clear hb1
    have tpA := pA1
    obtain ⟨a1, a2, a3, a4⟩ := tpA
    go_wp2_with fail
    clear a1 a2 a3 a4
    refine (lright_any a b _ h1 h2 h3 h4).mono ?_
    rintro e w2 ⟨rfl, hb2⟩
    rw [RA.out]
    have pA2 := At.below hb2 pA1
    have pB2 := At.below hb2 pB1
    have hB2 := below_end hB1 hb2
    clear hb2 pA1 pB1 hB1
    go_wp2_with fail
    refine (able_any _).mono ?_
    rintro e w3 ⟨rfl, hb3⟩
    have pA3 := At.below hb3 pA2
    have pB3 := At.below hb3 pB2
    have hB3 := below_end hB2 hb3
    clear hb3 pA2 pB2 hB2
    go_wp2
    go_ret
    exact ⟨rfl, hB3⟩
  | true =>
    cases rb : Wnum.rightB c d with
    | false =>
      have RA : Hid (Wnum.rightB a b = true) := ra
      have RB : Hid (Wnum.rightB c d = false) := rb
      clear ra rb
      go_enter Tryd.func6, Tryd.ntmps6
      go_wp2_with fail
      refine (able_any _).mono ?_
      rintro e w1 ⟨rfl, hb1⟩
      have pA1 : At w1 w.heap.size (.int .i64 a) (.int .i64 b) := At.below hb1 ((At.new w _ rfl _ _).alloc _)
      have pB1 : At w1 (w.heap.size + 1) (.int .i64 c) (.int .i64 d) := At.below hb1 (At.new (w.alloc _) _ (by simp) _ _)
      have hB1 : Below w.heap.size w w1 := by with_reducible repeat (first | exact Below.refl _ _ | refine below_drewN ?_ _ | refine Below.setCell ?_ (by first | (simp; done) | (simp; omega) | omega) _ | refine Below.drew ?_ | refine below_end ?_ (by assumption) | refine ball ?_ _)
      clear hb1
      have tpA := pA1
      obtain ⟨a1, a2, a3, a4⟩ := tpA
      go_wp2_with fail
      clear a1 a2 a3 a4
      refine (lright_any a b _ h1 h2 h3 h4).mono ?_
      rintro e w2 ⟨rfl, hb2⟩
      rw [RA.out]
      have pA2 := At.below hb2 pA1
      have pB2 := At.below hb2 pB1
      have hB2 := below_end hB1 hb2
      clear hb2 pA1 pB1 hB1
      have tpB := pB2
      obtain ⟨b1, b2, b3, b4⟩ := tpB
      go_wp2_with fail
      clear b1 b2 b3 b4
      refine (lright_any c d _ g1 g2 g3 g4).mono ?_
      rintro e w3 ⟨rfl, hb3⟩
      rw [RB.out]
      have pA3 := At.below hb3 pA2
      have pB3 := At.below hb3 pB2
      have hB3 := below_end hB2 hb3
      clear hb3 pA2 pB2 hB2
      go_wp2_with fail
      refine (able_any _).mono ?_
      rintro e w4 ⟨rfl, hb4⟩
      have pA4 := At.below hb4 pA3
      have pB4 := At.below hb4 pB3
      have hB4 := below_end hB3 hb4
      clear hb4 pA3 pB3 hB3
      go_wp2
      go_ret
      exact ⟨rfl, hB4⟩
    | true =>
      obtain ⟨F1, F2⟩ := Wnum.floor_in ra
      have rF := Wnum.right_whole F1 F2
      have qF := Wnum.qu_whole F1 F2
      have cF := Wnum.cN_right rF
      have dF := Wnum.cD_right rF
      obtain ⟨s1, s2⟩ := Wnum.cs_bd (Wnum.qu c d) (Wnum.qu 0 1)
      obtain ⟨u1, u2⟩ := Wnum.cs_bd (Wnum.qu (Wnum.oN (Wnum.modO a b c d)) (Wnum.oD (Wnum.modO a b c d))) (Wnum.qu c d)
      refine floors_main a b c d (a / b) _ _ _ _ _ _ _ _ _ _ _ _ _ _ _ _ w h1 h2 h3 h4 g1 g2 g3 g4 ra rb F1 F2 (show Wnum.cN a b / Wnum.cD a b = a / b by rw [Wnum.cN_right ra, Wnum.cD_right ra]) (show (if Wnum.cD (a / b) 1 = 1 then Wnum.cN (a / b) 1 else 0) = a / b by rw [dF, cF, if_pos rfl]) (show (Wnum.cD (a / b) 1 == 1) = true by rw [dF]; rfl) (rfl : Wnum.cs (Wnum.qu (a / b) 1) (Wnum.qu a b) = _) ?_ (rfl : Wnum.oN (some (Wnum.qu (a / b) 1 + Wnum.qu 1 1)) = _) (rfl : Wnum.oD (some (Wnum.qu (a / b) 1 + Wnum.qu 1 1)) = _) (rfl : Wnum.oB (some (Wnum.qu (a / b) 1 + Wnum.qu 1 1)) = _) (rfl : Wnum.oN (Wnum.modO a b c d) = _) (rfl : Wnum.oD (Wnum.modO a b c d) = _) (rfl : Wnum.oB (Wnum.modO a b c d) = _) (rfl : Wnum.oN (some (Wnum.qu a b - Wnum.qu (Wnum.oN (Wnum.modO a b c d)) (Wnum.oD (Wnum.modO a b c d)))) = _) (rfl : Wnum.oD (some (Wnum.qu a b - Wnum.qu (Wnum.oN (Wnum.modO a b c d)) (Wnum.oD (Wnum.modO a b c d)))) = _) (rfl : Wnum.oB (some (Wnum.qu a b - Wnum.qu (Wnum.oN (Wnum.modO a b c d)) (Wnum.oD (Wnum.modO a b c d)))) = _) (rfl : Wnum.oN (Wnum.mk (Wnum.cN (Wnum.oN (some (Wnum.qu a b - Wnum.qu (Wnum.oN (Wnum.modO a b c d)) (Wnum.oD (Wnum.modO a b c d))))) (Wnum.oD (some (Wnum.qu a b - Wnum.qu (Wnum.oN (Wnum.modO a b c d)) (Wnum.oD (Wnum.modO a b c d))))) * Wnum.cD c d) (Wnum.cN c d * Wnum.cD (Wnum.oN (some (Wnum.qu a b - Wnum.qu (Wnum.oN (Wnum.modO a b c d)) (Wnum.oD (Wnum.modO a b c d))))) (Wnum.oD (some (Wnum.qu a b - Wnum.qu (Wnum.oN (Wnum.modO a b c d)) (Wnum.oD (Wnum.modO a b c d))))))) = _) (rfl : Wnum.oD (Wnum.mk (Wnum.cN (Wnum.oN (some (Wnum.qu a b - Wnum.qu (Wnum.oN (Wnum.modO a b c d)) (Wnum.oD (Wnum.modO a b c d))))) (Wnum.oD (some (Wnum.qu a b - Wnum.qu (Wnum.oN (Wnum.modO a b c d)) (Wnum.oD (Wnum.modO a b c d))))) * Wnum.cD c d) (Wnum.cN c d * Wnum.cD (Wnum.oN (some (Wnum.qu a b - Wnum.qu (Wnum.oN (Wnum.modO a b c d)) (Wnum.oD (Wnum.modO a b c d))))) (Wnum.oD (some (Wnum.qu a b - Wnum.qu (Wnum.oN (Wnum.modO a b c d)) (Wnum.oD (Wnum.modO a b c d))))))) = _) (rfl : Wnum.oB (Wnum.mk (Wnum.cN (Wnum.oN (some (Wnum.qu a b - Wnum.qu (Wnum.oN (Wnum.modO a b c d)) (Wnum.oD (Wnum.modO a b c d))))) (Wnum.oD (some (Wnum.qu a b - Wnum.qu (Wnum.oN (Wnum.modO a b c d)) (Wnum.oD (Wnum.modO a b c d))))) * Wnum.cD c d) (Wnum.cN c d * Wnum.cD (Wnum.oN (some (Wnum.qu a b - Wnum.qu (Wnum.oN (Wnum.modO a b c d)) (Wnum.oD (Wnum.modO a b c d))))) (Wnum.oD (some (Wnum.qu a b - Wnum.qu (Wnum.oN (Wnum.modO a b c d)) (Wnum.oD (Wnum.modO a b c d))))))) = _) (by have := Wnum.oN_bd (some (Wnum.qu (a / b) 1 + Wnum.qu 1 1)); omega) (by have := Wnum.oN_bd (some (Wnum.qu (a / b) 1 + Wnum.qu 1 1)); omega) (by have := Wnum.oN_bd (some (Wnum.qu (a / b) 1 + Wnum.qu 1 1)); omega) (by have := Wnum.oN_bd (some (Wnum.qu (a / b) 1 + Wnum.qu 1 1)); omega) (by have := Wnum.oN_bd (Wnum.modO a b c d); omega) (by have := Wnum.oN_bd (Wnum.modO a b c d); omega) (by have := Wnum.oN_bd (Wnum.modO a b c d); omega) (by have := Wnum.oN_bd (Wnum.modO a b c d); omega) (by have := Wnum.oN_bd (some (Wnum.qu a b - Wnum.qu (Wnum.oN (Wnum.modO a b c d)) (Wnum.oD (Wnum.modO a b c d)))); omega) (by have := Wnum.oN_bd (some (Wnum.qu a b - Wnum.qu (Wnum.oN (Wnum.modO a b c d)) (Wnum.oD (Wnum.modO a b c d)))); omega) (by have := Wnum.oN_bd (some (Wnum.qu a b - Wnum.qu (Wnum.oN (Wnum.modO a b c d)) (Wnum.oD (Wnum.modO a b c d)))); omega) (by have := Wnum.oN_bd (some (Wnum.qu a b - Wnum.qu (Wnum.oN (Wnum.modO a b c d)) (Wnum.oD (Wnum.modO a b c d)))); omega) (by have := Wnum.oN_bd (Wnum.mk (Wnum.cN (Wnum.oN (some (Wnum.qu a b - Wnum.qu (Wnum.oN (Wnum.modO a b c d)) (Wnum.oD (Wnum.modO a b c d))))) (Wnum.oD (some (Wnum.qu a b - Wnum.qu (Wnum.oN (Wnum.modO a b c d)) (Wnum.oD (Wnum.modO a b c d))))) * Wnum.cD c d) (Wnum.cN c d * Wnum.cD (Wnum.oN (some (Wnum.qu a b - Wnum.qu (Wnum.oN (Wnum.modO a b c d)) (Wnum.oD (Wnum.modO a b c d))))) (Wnum.oD (some (Wnum.qu a b - Wnum.qu (Wnum.oN (Wnum.modO a b c d)) (Wnum.oD (Wnum.modO a b c d))))))); omega) (by have := Wnum.oN_bd (Wnum.mk (Wnum.cN (Wnum.oN (some (Wnum.qu a b - Wnum.qu (Wnum.oN (Wnum.modO a b c d)) (Wnum.oD (Wnum.modO a b c d))))) (Wnum.oD (some (Wnum.qu a b - Wnum.qu (Wnum.oN (Wnum.modO a b c d)) (Wnum.oD (Wnum.modO a b c d))))) * Wnum.cD c d) (Wnum.cN c d * Wnum.cD (Wnum.oN (some (Wnum.qu a b - Wnum.qu (Wnum.oN (Wnum.modO a b c d)) (Wnum.oD (Wnum.modO a b c d))))) (Wnum.oD (some (Wnum.qu a b - Wnum.qu (Wnum.oN (Wnum.modO a b c d)) (Wnum.oD (Wnum.modO a b c d))))))); omega) (by have := Wnum.oN_bd (Wnum.mk (Wnum.cN (Wnum.oN (some (Wnum.qu a b - Wnum.qu (Wnum.oN (Wnum.modO a b c d)) (Wnum.oD (Wnum.modO a b c d))))) (Wnum.oD (some (Wnum.qu a b - Wnum.qu (Wnum.oN (Wnum.modO a b c d)) (Wnum.oD (Wnum.modO a b c d))))) * Wnum.cD c d) (Wnum.cN c d * Wnum.cD (Wnum.oN (some (Wnum.qu a b - Wnum.qu (Wnum.oN (Wnum.modO a b c d)) (Wnum.oD (Wnum.modO a b c d))))) (Wnum.oD (some (Wnum.qu a b - Wnum.qu (Wnum.oN (Wnum.modO a b c d)) (Wnum.oD (Wnum.modO a b c d))))))); omega) (by have := Wnum.oN_bd (Wnum.mk (Wnum.cN (Wnum.oN (some (Wnum.qu a b - Wnum.qu (Wnum.oN (Wnum.modO a b c d)) (Wnum.oD (Wnum.modO a b c d))))) (Wnum.oD (some (Wnum.qu a b - Wnum.qu (Wnum.oN (Wnum.modO a b c d)) (Wnum.oD (Wnum.modO a b c d))))) * Wnum.cD c d) (Wnum.cN c d * Wnum.cD (Wnum.oN (some (Wnum.qu a b - Wnum.qu (Wnum.oN (Wnum.modO a b c d)) (Wnum.oD (Wnum.modO a b c d))))) (Wnum.oD (some (Wnum.qu a b - Wnum.qu (Wnum.oN (Wnum.modO a b c d)) (Wnum.oD (Wnum.modO a b c d))))))); omega) ?_ (rfl : Wnum.cs (Wnum.qu c d) (Wnum.qu 0 1) = _) (rfl : Wnum.cs (Wnum.qu (Wnum.oN (Wnum.modO a b c d)) (Wnum.oD (Wnum.modO a b c d))) (Wnum.qu 0 1) = _) (rfl : Wnum.cs (Wnum.qu (Wnum.oN (Wnum.modO a b c d)) (Wnum.oD (Wnum.modO a b c d))) (Wnum.qu c d) = _) s1 s2 u1 u2 ?_
      · rw [qF]
        have := Wnum.floor_le ra
        rcases Wnum.cs_three (((a / b : Int) : Rat)) (Wnum.qu a b) with ⟨h, _⟩ | ⟨h, _⟩ | ⟨_, h⟩
        · omega
        · omega
        · exact absurd h (Rat.not_lt.2 this)
      · show _ → _
        intro hb
        rw [Wnum.qu_o hb, qF, show Wnum.qu 1 1 = 1 by decide +kernel]
        exact Wnum.cs_lt (Wnum.lt_floor ra)
      · show _ ∨ _
        by_cases hc : c = 0
        · left
          refine ⟨beq_iff_eq.2 hc, ?_⟩
          rw [Wnum.modO_zero (by rw [Wnum.cN_right rb]; exact hc)]; rfl
        · right
          refine ⟨beq_eq_false_iff_ne.2 hc, ?_⟩
          intro hb
          have hc' : Wnum.cN c d ≠ 0 := by rw [Wnum.cN_right rb]; exact hc
          obtain ⟨M, hM, hs, hw⟩ := Wnum.mod_sides (a := a) (b := b) hc'
          rw [hM] at hb ⊢
          have qM := Wnum.qu_o hb
          rw [qM, show Wnum.qu 0 1 = 0 by decide +kernel]
          refine ⟨?_, ?_, ?_⟩
          · rw [beq_eq_false_iff_ne]
            rcases hs with ⟨p1, p2, p3⟩ | ⟨p1, p2, p3⟩
            · rw [Wnum.cs_gt p1]
              rcases Wnum.cs_three M 0 with ⟨_, h⟩ | ⟨h, _⟩ | ⟨h, _⟩
              · exact absurd h (Rat.not_lt.2 p2)
              · omega
              · omega
            · rw [Wnum.cs_lt p1]
              rcases Wnum.cs_three M 0 with ⟨h, _⟩ | ⟨h, _⟩ | ⟨_, h⟩
              · omega
              · omega
              · exact absurd h (Rat.not_lt.2 p3)
          · rcases hs with ⟨p1, p2, p3⟩ | ⟨p1, p2, p3⟩
            · rw [Wnum.cs_gt p1, Wnum.cs_lt p3]; rfl
            · rw [Wnum.cs_lt p1, Wnum.cs_gt p2]; rfl
          · intro hd hq
            have qD := Wnum.qu_o hd
            rw [Wnum.div_qu hc', qD] at hq ⊢
            exact Wnum.whole_den hw hq
end Go.Proofs.YtfilmomndhlmbaaDoor
