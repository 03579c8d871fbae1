/- NumRounds answers true, whatever it is asked. -/
import Derived.Test.YtfilmomndhlmbaaDoorWalkV
import Derived.Test.YtfilmomndhlmbaaDoorWalkW
import Derived.Test.YtfilmomndhlmbaaDoorWalkN
import Derived.Test.YtfilmomndhlmbaaDoorWalkS
import Derived.Test.YtfilmomndhlmbaaDoorPlainL
import Derived.Deep.DeepCutAuto
namespace Go.Proofs.YtfilmomndhlmbaaDoor
open Go.RowKit
set_option linter.unusedVariables false

set_option maxRecDepth 100000 in
set_option maxHeartbeats 12800000 in
theorem rounds_main (a b c d k F ma nn u v nx dx ny dy ng dg : Int) (bx by_ bg : Bool) (w : World) (h1 : -9223372036854775808 ≤ a) (h2 : a ≤ 9223372036854775807) (h3 : -9223372036854775808 ≤ b) (h4 : b ≤ 9223372036854775807)
    (g1 : -9223372036854775808 ≤ c) (g2 : c ≤ 9223372036854775807) (g3 : -9223372036854775808 ≤ d) (g4 : d ≤ 9223372036854775807)
    (k1 : -12 ≤ k) (k2 : k ≤ 6)
    (RA : Hid (Wnum.rightB a b = true)) (RB : Hid (Wnum.rightB c d = true)) (F1 : -1000000000000 ≤ F) (F2 : F ≤ 1000000000000)
    (NA1 : Hid (-(Wnum.cN a b) = ma)) (NA2 : Hid (Wnum.cD a b = b)) (hm1 : -9223372036854775808 ≤ ma) (hm2 : ma ≤ 9223372036854775807)
    (EF : Hid (Wnum.cN a b / Wnum.cD a b = F))
    (EX1 : Hid (Wnum.oN (Wnum.roundO a b k) = nx)) (EX2 : Hid (Wnum.oD (Wnum.roundO a b k) = dx)) (EX3 : Hid (Wnum.oB (Wnum.roundO a b k) = bx))
    (EY1 : Hid (Wnum.oN (Wnum.roundO c d k) = ny)) (EY2 : Hid (Wnum.oD (Wnum.roundO c d k) = dy)) (EY3 : Hid (Wnum.oB (Wnum.roundO c d k) = by_))
    (EN1 : Hid (Wnum.oN (Wnum.roundO ma b k) = nn)) (EN2 : Hid (Wnum.oD (Wnum.roundO ma b k) = dx)) (EN3 : Hid (Wnum.oB (Wnum.roundO ma b k) = bx))
    (EG1 : Hid (Wnum.oN (some (Wnum.qu F 1 + Wnum.qu 1 1)) = ng)) (EG2 : Hid (Wnum.oD (some (Wnum.qu F 1 + Wnum.qu 1 1)) = dg)) (EG3 : Hid (Wnum.oB (some (Wnum.qu F 1 + Wnum.qu 1 1)) = bg))
    (yx1 : -9223372036854775808 ≤ nx) (yx2 : nx ≤ 9223372036854775807) (yx3 : -9223372036854775808 ≤ dx) (yx4 : dx ≤ 9223372036854775807)
    (yy1 : -9223372036854775808 ≤ ny) (yy2 : ny ≤ 9223372036854775807) (yy3 : -9223372036854775808 ≤ dy) (yy4 : dy ≤ 9223372036854775807)
    (yg1 : -9223372036854775808 ≤ ng) (yg2 : ng ≤ 9223372036854775807) (yg3 : -9223372036854775808 ≤ dg) (yg4 : dg ≤ 9223372036854775807)
    (NX : Hid (bx = true → -(Wnum.cN nx dx) = nn ∧ Wnum.cD nx dx = dx))
    (XX : Hid (bx = true → Wnum.oN (Wnum.roundO nx dx k) = nx ∧ Wnum.oD (Wnum.roundO nx dx k) = dx ∧ Wnum.oB (Wnum.roundO nx dx k) = true ∧ Wnum.rightB nx dx = true))
    (HU : Hid (Wnum.cs (Wnum.qu a b) (Wnum.qu c d) = u)) (HV : Hid (Wnum.cs (Wnum.qu nx dx) (Wnum.qu ny dy) = v))
    (OO : Hid (bx = true → by_ = true → u ≤ 0 → v ≤ 0))
    (ZZ : Hid (k = 0 → bx = true ∧ dx = 1 ∧ ((nx == F) = true ∨ (nx == F) = false ∧ bg = true ∧ (nx == ng) = true ∧ ((1 : Int) == dg) = true) ∧ (1 < b ∨ ¬ 1 < b ∧ nx = a ∧ b = 1))) :
    Calls Tryd.prog 7 #[.agg #[.int .i64 a, .int .i64 b], .agg #[.int .i64 c, .int .i64 d], .int .i64 k] w fun e w' => e = .returned (.bool true) ∧ Below w.heap.size w w' := by
  go_enter Tryd.func7, Tryd.ntmps7
  go_wp2_with fail
  refine (able_any _).mono ?_
  rintro e w1 ⟨rfl, hb1⟩
  have pA1 : At w1 w.heap.size (.int .i64 a) (.int .i64 b) := At.below hb1 ((At.new w _ rfl _ _).alloc _)
  have pB1 : At w1 (w.heap.size + 1) (.int .i64 c) (.int .i64 d) := At.below hb1 (At.new (w.alloc _) _ (by simp) _ _)
  have hB1 : Below w.heap.size w w1 := by with_reducible repeat (first | exact Below.refl _ _ | refine below_drewN ?_ _ | refine Below.setCell ?_ (by first | (simp; done) | (simp; omega) | omega) _ | refine Below.drew ?_ | refine below_end ?_ (by assumption) | refine ball ?_ _)
  clear hb1
  have tpA := pA1
  obtain ⟨a1, a2, a3, a4⟩ := tpA
  go_wp2_with fail
  clear a1 a2 a3 a4
  refine (lright_any a b _ h1 h2 h3 h4).mono ?_
  rintro e w2 ⟨rfl, hb2⟩
  rw [RA.out]
  have pA2 := At.below hb2 pA1
  have pB2 := At.below hb2 pB1
  have hB2 := below_end hB1 hb2
  clear hb2 pA1 pB1 hB1
  have tpB := pB2
  obtain ⟨b1, b2, b3, b4⟩ := tpB
  go_wp2_with fail
  clear b1 b2 b3 b4
  refine (lright_any c d _ g1 g2 g3 g4).mono ?_
  rintro e w3 ⟨rfl, hb3⟩
  rw [RB.out]
  have pA3 := At.below hb3 pA2
  have pB3 := At.below hb3 pB2
  have hB3 := below_end hB2 hb3
  clear hb3 pA2 pB2 hB2
  have tpA := pA3
  obtain ⟨a1, a2, a3, a4⟩ := tpA
  go_wp2_with fail
  clear a1 a2 a3 a4
  refine (round_any a b k _ h1 h2 h3 h4).mono ?_
  rintro e w4 ⟨rfl, hb4⟩
  rw [EX1.out, EX2.out, EX3.out]
  have pA4 := At.below hb4 pA3
  have pB4 := At.below hb4 pB3
  have hB4 := below_end hB3 hb4
  clear hb4 pA3 pB3 hB3
  have pA5 := pA4.alloc (.cells #[.int .i64 nx, .int .i64 dx] 23)
  have pB5 := pB4.alloc (.cells #[.int .i64 nx, .int .i64 dx] 23)
  have pX5 := At.new w4 23 rfl (.int .i64 nx) (.int .i64 dx)
  have hB5 := ball hB4 (.cells #[.int .i64 nx, .int .i64 dx] 23)
  go_upto_region 4 with fail
  clear pA4 pB4 hB4
  generalize w4.heap.size = kX at *
  generalize w4.alloc (.cells #[.int .i64 nx, .int .i64 dx] 23) = w5 at *
  clear w4
  have tpB := pB5
  obtain ⟨b1, b2, b3, b4⟩ := tpB
  go_wp2_with fail
  clear b1 b2 b3 b4
  refine (round_any c d k _ g1 g2 g3 g4).mono ?_
  rintro e w6 ⟨rfl, hb6⟩
  rw [EY1.out, EY2.out, EY3.out]
  have pA6 := At.below hb6 pA5
  have pB6 := At.below hb6 pB5
  have pX6 := At.below hb6 pX5
  have hB6 := below_end hB5 hb6
  clear hb6 pA5 pB5 pX5 hB5
  have pA7 := pA6.alloc (.cells #[.int .i64 ny, .int .i64 dy] 23)
  have pB7 := pB6.alloc (.cells #[.int .i64 ny, .int .i64 dy] 23)
  have pX7 := pX6.alloc (.cells #[.int .i64 ny, .int .i64 dy] 23)
  have pY7 := At.new w6 23 rfl (.int .i64 ny) (.int .i64 dy)
  have hB7 := ball hB6 (.cells #[.int .i64 ny, .int .i64 dy] 23)
  go_upto_region 5 with fail
  clear pA6 pB6 pX6 hB6
  generalize w6.heap.size = kY at *
  generalize w6.alloc (.cells #[.int .i64 ny, .int .i64 dy] 23) = w7 at *
  clear w6
  have kn1 : ¬ k < -12 := by omega
  have kn2 : ¬ 6 < k := by omega
  have tpA := pA7
  obtain ⟨a1, a2, a3, a4⟩ := tpA
  go_wp2_with fail
  clear a1 a2 a3 a4
  refine (neg_any a b _ h1 h2 h3 h4).mono ?_
  rintro e w8 ⟨rfl, hb8⟩
  rw [NA1.out, NA2.out]
  have pA8 := At.below hb8 pA7
  have pB8 := At.below hb8 pB7
  have pX8 := At.below hb8 pX7
  have pY8 := At.below hb8 pY7
  have hB8 := below_end hB7 hb8
  clear hb8 pA7 pB7 pX7 pY7 hB7
  go_wp2_with fail
  refine (round_any ma b k _ hm1 hm2 h3 h4).mono ?_
  rintro e w9 ⟨rfl, hb9⟩
  rw [EN1.out, EN2.out, EN3.out]
  have pA9 := At.below hb9 pA8
  have pB9 := At.below hb9 pB8
  have pX9 := At.below hb9 pX8
  have pY9 := At.below hb9 pY8
  have hB9 := below_end hB8 hb9
  clear hb9 pA8 pB8 pX8 pY8 hB8
  have pA10 := pA9.alloc (.cells #[.int .i64 nn, .int .i64 dx] 23)
  have pB10 := pB9.alloc (.cells #[.int .i64 nn, .int .i64 dx] 23)
  have pX10 := pX9.alloc (.cells #[.int .i64 nn, .int .i64 dx] 23)
  have pY10 := pY9.alloc (.cells #[.int .i64 nn, .int .i64 dx] 23)
  have pN10 := At.new w9 23 rfl (.int .i64 nn) (.int .i64 dx)
  have hB10 := ball hB9 (.cells #[.int .i64 nn, .int .i64 dx] 23)
  go_upto_region 8 with fail
  clear pA9 pB9 pX9 pY9 hB9
  generalize w9.heap.size = kN at *
  generalize w9.alloc (.cells #[.int .i64 nn, .int .i64 dx] 23) = w10 at *
  clear w9
  go_cut [73] (fun s73 wx => s73 = .bool false ∧ Below w.heap.size w wx ∧ At wx w.heap.size (.int .i64 a) (.int .i64 b) ∧ At wx (w.heap.size + 1) (.int .i64 c) (.int .i64 d) ∧ At wx kX (.int .i64 nx) (.int .i64 dx) ∧ At wx kY (.int .i64 ny) (.int .i64 dy))
  case first =>
    cases bx with
    | false =>
      go_quiet (fail)
      go_wp2_with fail
      go_meet
      case rel => exact ⟨rfl, below_drewN hB10 nq, pA10.drewN nq, pB10.drewN nq, pX10.drewN nq, pY10.drewN nq⟩
    | true =>
      have N2 : Hid (-(Wnum.cN nx dx) = nn ∧ Wnum.cD nx dx = dx) := NX.out rfl
      clear NX
      have tpN := pN10
      obtain ⟨n1, n2, n3, n4⟩ := tpN
      have tpX := pX10
      obtain ⟨x1, x2, x3, x4⟩ := tpX
      go_region_with (first
        | (go_at_call 26; refine (neg_any nx dx _ yx1 yx2 yx3 yx4).mono ?_; rintro e wz ⟨rfl, hbz⟩; rw [N2.out.1, N2.out.2]; have cc := At.below hbz pN10.drew; obtain ⟨c1', c2', c3', c4'⟩ := cc))
      all_goals
        go_wp2_with fail
        go_meet
        case rel => exact ⟨rfl, below_end hB10.drew hbz, At.below hbz pA10.drew, At.below hbz pB10.drew, At.below hbz pX10.drew, At.below hbz pY10.drew⟩
  case rest =>
    clear pA10 pB10 pX10 pY10 pN10 hB10
    obtain ⟨h73, hB11, pA11, pB11, pX11, pY11⟩ := hcut
    subst h73
    generalize wc = w11 at *
    clear NX
    go_upto_if 74 with fail
    go_cut [] (fun wx => Below w.heap.size w wx ∧ At wx w.heap.size (.int .i64 a) (.int .i64 b) ∧ At wx (w.heap.size + 1) (.int .i64 c) (.int .i64 d) ∧ At wx kX (.int .i64 nx) (.int .i64 dx) ∧ At wx kY (.int .i64 ny) (.int .i64 dy))
    case first =>
      cases bx with
      | false =>
        go_wp2_with fail
        go_meet
        case rel => exact ⟨hB11, pA11, pB11, pX11, pY11⟩
      | true =>
        have X2 : Hid (Wnum.oN (Wnum.roundO nx dx k) = nx ∧ Wnum.oD (Wnum.roundO nx dx k) = dx ∧ Wnum.oB (Wnum.roundO nx dx k) = true ∧ Wnum.rightB nx dx = true) := XX.out rfl
        clear XX
        have tpX := pX11
        obtain ⟨x1, x2, x3, x4⟩ := tpX
        go_wp2_with fail
        clear x1 x2 x3 x4
        refine (round_any nx dx k _ yx1 yx2 yx3 yx4).mono ?_
        rintro e w12 ⟨rfl, hb12⟩
        rw [X2.out.1, X2.out.2.1, X2.out.2.2.1]
        have pA12 := At.below hb12 pA11
        have pB12 := At.below hb12 pB11
        have pX12 := At.below hb12 pX11
        have pY12 := At.below hb12 pY11
        have hB12 := below_end hB11 hb12
        clear hb12 pA11 pB11 pX11 pY11 hB11
        have pA13 := pA12.alloc (.cells #[.int .i64 nx, .int .i64 dx] 23)
        have pB13 := pB12.alloc (.cells #[.int .i64 nx, .int .i64 dx] 23)
        have pX13 := pX12.alloc (.cells #[.int .i64 nx, .int .i64 dx] 23)
        have pY13 := pY12.alloc (.cells #[.int .i64 nx, .int .i64 dx] 23)
        have pW13 := At.new w12 23 rfl (.int .i64 nx) (.int .i64 dx)
        have hB13 := ball hB12 (.cells #[.int .i64 nx, .int .i64 dx] 23)
        go_upto_region 12 with fail
        clear pA12 pB12 pX12 pY12 hB12
        generalize w12.heap.size = kW at *
        generalize w12.alloc (.cells #[.int .i64 nx, .int .i64 dx] 23) = w13 at *
        clear w12
        have tpX := pX13
        obtain ⟨x1, x2, x3, x4⟩ := tpX
        have tpW := pW13
        obtain ⟨w1, w2, w3, w4⟩ := tpW
        go_wp2_with fail
        clear x1 x2 x3 x4 w1 w2 w3 w4
        refine (lright_any nx dx _ yx1 yx2 yx3 yx4).mono ?_
        rintro e w14 ⟨rfl, hb14⟩
        rw [X2.out.2.2.2]
        have pA14 := At.below hb14 pA13
        have pB14 := At.below hb14 pB13
        have pX14 := At.below hb14 pX13
        have pY14 := At.below hb14 pY13
        have pW14 := At.below hb14 pW13
        have hB14 := below_end hB13 hb14
        clear hb14 pA13 pB13 pX13 pY13 pW13 hB13
        go_wp2_with fail
        go_meet
        case rel => exact ⟨hB14, pA14, pB14, pX14, pY14⟩
    case rest =>
      clear XX pA11 pB11 pX11 pY11 hB11
      obtain ⟨hB12, pA12, pB12, pX12, pY12⟩ := hcut
      generalize wc = w12 at *
      go_upto_region 14 with fail
      go_cut [108] (fun s108 wx => s108 = .bool false ∧ Below w.heap.size w wx ∧ At wx w.heap.size (.int .i64 a) (.int .i64 b) ∧ At wx kX (.int .i64 nx) (.int .i64 dx))
      case first =>
        cases bx with
        | false =>
          go_wp2_with fail
          go_meet
          case rel => exact ⟨rfl, hB12, pA12, pX12⟩
        | true =>
          cases by_ with
          | false =>
            go_wp2_with fail
            go_meet
            case rel => exact ⟨rfl, hB12, pA12, pX12⟩
          | true =>
            have O2 : Hid (u ≤ 0 → v ≤ 0) := OO.out rfl rfl
            clear OO
            have tpA := pA12
            obtain ⟨a1, a2, a3, a4⟩ := tpA
            have tpB := pB12
            obtain ⟨b1, b2, b3, b4⟩ := tpB
            go_wp2_with fail
            clear a1 a2 a3 a4 b1 b2 b3 b4
            refine (cmpq_any a b c d _ h1 h2 h3 h4 g1 g2 g3 g4).mono ?_
            rintro e w13 ⟨rfl, hb13⟩
            rw [HU.out]
            have pA13 := At.below hb13 pA12
            have pB13 := At.below hb13 pB12
            have pX13 := At.below hb13 pX12
            have pY13 := At.below hb13 pY12
            have hB13 := below_end hB12 hb13
            clear hb13 pA12 pB12 pX12 pY12 hB12
            by_cases hu : u ≤ 0
            · have hv : decide (0 < v) = false := decide_eq_false (by have := O2.out hu; omega)
              clear O2
              have tpX := pX13
              obtain ⟨x1, x2, x3, x4⟩ := tpX
              have tpY := pY13
              obtain ⟨y1, y2, y3, y4⟩ := tpY
              go_wp2_with fail
              clear x1 x2 x3 x4 y1 y2 y3 y4
              refine (cmpq_any nx dx ny dy _ yx1 yx2 yx3 yx4 yy1 yy2 yy3 yy4).mono ?_
              rintro e w14 ⟨rfl, hb14⟩
              rw [HV.out]
              have pA14 := At.below hb14 pA13
              have pB14 := At.below hb14 pB13
              have pX14 := At.below hb14 pX13
              have pY14 := At.below hb14 pY13
              have hB14 := below_end hB13 hb14
              clear hb14 pA13 pB13 pX13 pY13 hB13
              go_wp2_with fail
              go_meet
              case rel => exact ⟨rfl, hB14, pA14, pX14⟩
            · clear O2
              go_wp2_with fail
              go_meet
              case rel => exact ⟨rfl, hB13, pA13, pX13⟩
      case rest =>
        clear pA12 pB12 pX12 pY12 hB12
        obtain ⟨h108, hB13, pA13, pX13⟩ := hcut
        subst h108
        generalize wc = w13 at *
        clear OO
        by_cases hk : k = 0
        · obtain ⟨rfl, rfl, zF, zD⟩ := ZZ.out hk
          subst hk
          have ZF : Hid ((nx == F) = true ∨ (nx == F) = false ∧ bg = true ∧ (nx == ng) = true ∧ ((1 : Int) == dg) = true) := zF
          clear zF ZZ
          have tpA := pA13
          obtain ⟨a1, a2, a3, a4⟩ := tpA
          go_wp2_with fail
          clear a1 a2 a3 a4
          refine (floor_any a b _ h1 h2 h3 h4).mono ?_
          rintro e w14 ⟨rfl, hb14⟩
          rw [EF.out]
          have pA14 := At.below hb14 pA13
          have pX14 := At.below hb14 pX13
          have hB14 := below_end hB13 hb14
          clear hb14 pA13 pX13 hB13
          have pA15 := pA14.alloc (.cells #[.int .i64 F, .int .i64 1] 23)
          have pX15 := pX14.alloc (.cells #[.int .i64 F, .int .i64 1] 23)
          have pF15 := At.new w14 23 rfl (.int .i64 F) (.int .i64 1)
          have hB15 := ball hB14 (.cells #[.int .i64 F, .int .i64 1] 23)
          go_upto_region 19 with fail
          clear pA14 pX14 hB14
          generalize w14.heap.size = kF at *
          generalize w14.alloc (.cells #[.int .i64 F, .int .i64 1] 23) = w15 at *
          clear w14
          have D := fun w => add_any F 1 1 1 w (by omega) (by omega) (by omega) (by omega) (by omega) (by omega) (by omega) (by omega)
          rw [EG1.out, EG2.out, EG3.out] at D
          go_upto_region 19 with fail
          go_cut [16, 17] (fun sp so wx => ∃ V, sp = .pointer (some ⟨V, 0, none⟩) ∧ so = .bool bg ∧ Below w.heap.size w wx ∧ At wx w.heap.size (.int .i64 a) (.int .i64 b) ∧ At wx kX (.int .i64 nx) (.int .i64 1) ∧ At wx kF (.int .i64 F) (.int .i64 1) ∧ At wx V (.int .i64 ng) (.int .i64 dg))
          case first =>
            have lk0 : w.heap.size < w15.heap.size := pA15.lt
            have lk1 : kX < w15.heap.size := pX15.lt
            have lk2 : kF < w15.heap.size := pF15.lt
            have tl0 := pF15
            obtain ⟨q01, q02, q03, q04⟩ := tl0
            have tm0 := pF15.alloc (.cells #[.int .i64 0, .int .i64 0] 23)
            obtain ⟨r01, r02, r03, r04⟩ := tm0
            go_region_with (first
              | (go_at_call 13; refine (one_any _).mono ?_; rintro e wz ⟨rfl, hbz⟩; first | (have cc0 := At.below hbz pF15.drew; have cd0 := cc0.alloc (.cells #[.int .i64 0, .int .i64 0] 23); obtain ⟨c01, c02, c03, c04⟩ := cc0; obtain ⟨d01, d02, d03, d04⟩ := cd0) | (have cc0 := At.below hbz (pF15.alloc (.cells #[.int .i64 0, .int .i64 0] 23)).drew; obtain ⟨c01, c02, c03, c04⟩ := cc0; have nn := At.below hbz (At.new w15 23 rfl (.int .i64 0) (.int .i64 0)).drew; have nm := nn; obtain ⟨m1, m2, m3, m4⟩ := nm))
              | (go_at_call 21; refine (D _).mono ?_; rintro e wy ⟨rfl, hby⟩; first | (have n2 := At.below hby nn; have nq := n2; obtain ⟨p1, p2, p3, p4⟩ := nq) | (have n3 := At.below hby (At.new wz 23 rfl (.int .i64 0) (.int .i64 0)); have nq := n3; obtain ⟨p1, p2, p3, p4⟩ := nq) | skip))
            all_goals
              go_wp2_with fail
              go_meet
              case rel =>
                first
                | exact ⟨_, rfl, rfl, ball (below_end (below_end hB15.drew hbz) hby) _, (At.below hby (At.below hbz pA15.drew)).alloc _, (At.below hby (At.below hbz pX15.drew)).alloc _, (At.below hby (At.below hbz pF15.drew)).alloc _, At.new wy _ rfl _ _⟩
                | exact ⟨_, rfl, rfl, put_below (below_end (below_end (ball hB15 _).drew hbz) hby) (by omega) _ _, (At.below hby (At.below hbz (pA15.alloc _).drew)).far2 (by omega) _ _, (At.below hby (At.below hbz (pX15.alloc _).drew)).far2 (by omega) _ _, (At.below hby (At.below hbz (pF15.alloc _).drew)).far2 (by omega) _ _, n2.put _ _⟩
                | exact ⟨_, rfl, rfl, put_below (below_end (ball (below_end hB15.drew hbz) _) hby) (by have := (At.below hbz pA15.drew).lt; omega) _ _, (At.below hby ((At.below hbz pA15.drew).alloc _)).far2 (by have := (At.below hbz pA15.drew).lt; omega) _ _, (At.below hby ((At.below hbz pX15.drew).alloc _)).far2 (by have := (At.below hbz pX15.drew).lt; omega) _ _, (At.below hby ((At.below hbz pF15.drew).alloc _)).far2 (by have := (At.below hbz pF15.drew).lt; omega) _ _, n3.put _ _⟩
          case rest =>
            clear D pA15 pX15 pF15 hB15
            obtain ⟨kG, rfl, rfl, hB16, pA16, pX16, pF16, pG16⟩ := hcut
            generalize wc = w16 at *
            have tpA := pA16
            obtain ⟨a1, a2, a3, a4⟩ := tpA
            have tpX := pX16
            obtain ⟨x1, x2, x3, x4⟩ := tpX
            have tpF := pF16
            obtain ⟨f1, f2, f3, f4⟩ := tpF
            have tpG := pG16
            obtain ⟨g1, g2, g3, g4⟩ := tpG
            rcases ZF.out with z1 | ⟨z1, rfl, z2, z3⟩
            · rcases zD with zd | ⟨zd, zx, zb⟩
              · go_wp2
                go_ret
                exact ⟨rfl, hB16⟩
              · have zx2 : (nx == a) = true := beq_iff_eq.2 zx
                have zb2 : ((1 : Int) == b) = true := by rw [zb]; rfl
                clear zx zb
                go_wp2
                go_ret
                exact ⟨rfl, hB16⟩
            · rcases zD with zd | ⟨zd, zx, zb⟩
              · go_wp2
                go_ret
                exact ⟨rfl, hB16⟩
              · have zx2 : (nx == a) = true := beq_iff_eq.2 zx
                have zb2 : ((1 : Int) == b) = true := by rw [zb]; rfl
                clear zx zb
                go_wp2
                go_ret
                exact ⟨rfl, hB16⟩
        · have hk2 : (k != 0) = true := bne_iff_ne.2 hk
          go_wp2
          go_ret
          exact ⟨rfl, hB13⟩

set_option maxHeartbeats 3200000 in
theorem rounds_out (a b c d k nx dx ny dy : Int) (bx by_ : Bool) (w : World) (h1 : -9223372036854775808 ≤ a) (h2 : a ≤ 9223372036854775807) (h3 : -9223372036854775808 ≤ b) (h4 : b ≤ 9223372036854775807)
    (g1 : -9223372036854775808 ≤ c) (g2 : c ≤ 9223372036854775807) (g3 : -9223372036854775808 ≤ d) (g4 : d ≤ 9223372036854775807)
    (KO : k < -12 ∨ 6 < k) (RA : Hid (Wnum.rightB a b = true)) (RB : Hid (Wnum.rightB c d = true))
    (EX1 : Hid (Wnum.oN (Wnum.roundO a b k) = nx)) (EX2 : Hid (Wnum.oD (Wnum.roundO a b k) = dx)) (EX3 : Hid (Wnum.oB (Wnum.roundO a b k) = bx))
    (EY1 : Hid (Wnum.oN (Wnum.roundO c d k) = ny)) (EY2 : Hid (Wnum.oD (Wnum.roundO c d k) = dy)) (EY3 : Hid (Wnum.oB (Wnum.roundO c d k) = by_)) (B1 : bx = false) (B2 : by_ = false) :
    Calls Tryd.prog 7 #[.agg #[.int .i64 a, .int .i64 b], .agg #[.int .i64 c, .int .i64 d], .int .i64 k] w fun e w' => e = .returned (.bool true) ∧ Below w.heap.size w w' := by
  subst B1 B2
  go_enter Tryd.func7, Tryd.ntmps7
  go_wp2_with fail
  refine (able_any _).mono ?_
  rintro e w1 ⟨rfl, hb1⟩
  have pA1 : At w1 w.heap.size (.int .i64 a) (.int .i64 b) := At.below hb1 ((At.new w _ rfl _ _).alloc _)
  have pB1 : At w1 (w.heap.size + 1) (.int .i64 c) (.int .i64 d) := At.below hb1 (At.new (w.alloc _) _ (by simp) _ _)
  have hB1 : Below w.heap.size w w1 := by with_reducible repeat (first | exact Below.refl _ _ | refine below_drewN ?_ _ | refine Below.setCell ?_ (by first | (simp; done) | (simp; omega) | omega) _ | refine Below.drew ?_ | refine below_end ?_ (by assumption) | refine ball ?_ _)
  clear hb1
  have tpA := pA1
  obtain ⟨a1, a2, a3, a4⟩ := tpA
  go_wp2_with fail
  clear a1 a2 a3 a4
  refine (lright_any a b _ h1 h2 h3 h4).mono ?_
  rintro e w2 ⟨rfl, hb2⟩
  rw [RA.out]
  have pA2 := At.below hb2 pA1
  have pB2 := At.below hb2 pB1
  have hB2 := below_end hB1 hb2
  clear hb2 pA1 pB1 hB1
  have tpB := pB2
  obtain ⟨b1, b2, b3, b4⟩ := tpB
  go_wp2_with fail
  clear b1 b2 b3 b4
  refine (lright_any c d _ g1 g2 g3 g4).mono ?_
  rintro e w3 ⟨rfl, hb3⟩
  rw [RB.out]
  have pA3 := At.below hb3 pA2
  have pB3 := At.below hb3 pB2
  have hB3 := below_end hB2 hb3
  clear hb3 pA2 pB2 hB2
  have tpA := pA3
  obtain ⟨a1, a2, a3, a4⟩ := tpA
  go_wp2_with fail
  clear a1 a2 a3 a4
  refine (round_any a b k _ h1 h2 h3 h4).mono ?_
  rintro e w4 ⟨rfl, hb4⟩
  rw [EX1.out, EX2.out, EX3.out]
  have pA4 := At.below hb4 pA3
  have pB4 := At.below hb4 pB3
  have hB4 := below_end hB3 hb4
  clear hb4 pA3 pB3 hB3
  have pA5 := pA4.alloc (.cells #[.int .i64 nx, .int .i64 dx] 23)
  have pB5 := pB4.alloc (.cells #[.int .i64 nx, .int .i64 dx] 23)
  have pX5 := At.new w4 23 rfl (.int .i64 nx) (.int .i64 dx)
  have hB5 := ball hB4 (.cells #[.int .i64 nx, .int .i64 dx] 23)
  go_upto_region 4 with fail
  clear pA4 pB4 hB4
  generalize w4.heap.size = kX at *
  generalize w4.alloc (.cells #[.int .i64 nx, .int .i64 dx] 23) = w5 at *
  clear w4
  have tpB := pB5
  obtain ⟨b1, b2, b3, b4⟩ := tpB
  go_wp2_with fail
  clear b1 b2 b3 b4
  refine (round_any c d k _ g1 g2 g3 g4).mono ?_
  rintro e w6 ⟨rfl, hb6⟩
  rw [EY1.out, EY2.out, EY3.out]
  have pA6 := At.below hb6 pA5
  have pB6 := At.below hb6 pB5
  have pX6 := At.below hb6 pX5
  have hB6 := below_end hB5 hb6
  clear hb6 pA5 pB5 pX5 hB5
  have pA7 := pA6.alloc (.cells #[.int .i64 ny, .int .i64 dy] 23)
  have pB7 := pB6.alloc (.cells #[.int .i64 ny, .int .i64 dy] 23)
  have pX7 := pX6.alloc (.cells #[.int .i64 ny, .int .i64 dy] 23)
  have pY7 := At.new w6 23 rfl (.int .i64 ny) (.int .i64 dy)
  have hB7 := ball hB6 (.cells #[.int .i64 ny, .int .i64 dy] 23)
  go_upto_region 5 with fail
  clear pA6 pB6 pX6 hB6
  generalize w6.heap.size = kY at *
  generalize w6.alloc (.cells #[.int .i64 ny, .int .i64 dy] 23) = w7 at *
  clear w6
  rcases KO with ko | ko
  · go_wp2
    go_ret
    exact ⟨rfl, hB7⟩
  · have ko2 : ¬ k < -12 := by omega
    go_wp2
    go_ret
    exact ⟨rfl, hB7⟩

theorem rounds_walk (a b c d k : Int) (w : World) (h1 : -9223372036854775808 ≤ a) (h2 : a ≤ 9223372036854775807) (h3 : -9223372036854775808 ≤ b) (h4 : b ≤ 9223372036854775807)
    (g1 : -9223372036854775808 ≤ c) (g2 : c ≤ 9223372036854775807) (g3 : -9223372036854775808 ≤ d) (g4 : d ≤ 9223372036854775807) (kb1 : -9223372036854775808 ≤ k) (kb2 : k ≤ 9223372036854775807) :
    Calls Tryd.prog 7 #[.agg #[.int .i64 a, .int .i64 b], .agg #[.int .i64 c, .int .i64 d], .int .i64 k] w fun e w' => e = .returned (.bool true) ∧ Below w.heap.size w w' := by
  cases ra : Wnum.rightB a b with
  | false =>
    have RA : Hid (Wnum.rightB a b = false) := ra
    clear ra
    go_enter Tryd.func7, Tryd.ntmps7
    go_wp2_with fail
    refine (able_any _).mono ?_
    rintro e w1 ⟨rfl, hb1⟩
    have pA1 : At w1 w.heap.size (.int .i64 a) (.int .i64 b) := At.below hb1 ((At.new w _ rfl _ _).alloc _)
    have pB1 : At w1 (w.heap.size + 1) (.int .i64 c) (.int .i64 d) := At.below hb1 (At.new (w.alloc _) _ (by simp) _ _)
    have hB1 : Below w.heap.size w w1 := by with_reducible repeat (first | exact Below.refl _ _ | refine below_drewN ?_ _ | refine Below.setCell ?_ (by first | (simp; done) | (simp; omega) | omega) _ | refine Below.drew ?_ | refine below_end ?_ (by assumption) | refine ball ?_ _)
    clear hb1
    have tpA := pA1
    obtain ⟨a1, a2, a3, a4⟩ := tpA
    go_wp2_with fail
    clear a1 a2 a3 a4
    refine (lright_any a b _ h1 h2 h3 h4).mono ?_
    rintro e w2 ⟨rfl, hb2⟩
    rw [RA.out]
    have pA2 := At.below hb2 pA1
    have pB2 := At.below hb2 pB1
    have hB2 := below_end hB1 hb2
    clear hb2 pA1 pB1 hB1
    go_wp2_with fail
    refine (able_any _).mono ?_
    rintro e w3 ⟨rfl, hb3⟩
    have pA3 := At.below hb3 pA2
    have pB3 := At.below hb3 pB2
    have hB3 := below_end hB2 hb3
    clear hb3 pA2 pB2 hB2
    go_wp2
    go_ret
    exact ⟨rfl, hB3⟩
  | true =>
    cases rb : Wnum.rightB c d with
    | false =>
      have RA : Hid (Wnum.rightB a b = true) := ra
      have RB : Hid (Wnum.rightB c d = false) := rb
      clear ra rb
      go_enter Tryd.func7, Tryd.ntmps7
      go_wp2_with fail
      refine (able_any _).mono ?_
      rintro e w1 ⟨rfl, hb1⟩
      have pA1 : At w1 w.heap.size (.int .i64 a) (.int .i64 b) := At.below hb1 ((At.new w _ rfl _ _).alloc _)
      have pB1 : At w1 (w.heap.size + 1) (.int .i64 c) (.int .i64 d) := At.below hb1 (At.new (w.alloc _) _ (by simp) _ _)
      have hB1 : Below w.heap.size w w1 := by with_reducible repeat (first | exact Below.refl _ _ | refine below_drewN ?_ _ | refine Below.setCell ?_ (by first | (simp; done) | (simp; omega) | omega) _ | refine Below.drew ?_ | refine below_end ?_ (by assumption) | refine ball ?_ _)
      clear hb1
      have tpA := pA1
      obtain ⟨a1, a2, a3, a4⟩ := tpA
      go_wp2_with fail
      clear a1 a2 a3 a4
      refine (lright_any a b _ h1 h2 h3 h4).mono ?_
      rintro e w2 ⟨rfl, hb2⟩
      rw [RA.out]
      have pA2 := At.below hb2 pA1
      have pB2 := At.below hb2 pB1
      have hB2 := below_end hB1 hb2
      clear hb2 pA1 pB1 hB1
      have tpB := pB2
      obtain ⟨b1, b2, b3, b4⟩ := tpB
      go_wp2_with fail
      clear b1 b2 b3 b4
      refine (lright_any c d _ g1 g2 g3 g4).mono ?_
      rintro e w3 ⟨rfl, hb3⟩
      rw [RB.out]
      have pA3 := At.below hb3 pA2
      have pB3 := At.below hb3 pB2
      have hB3 := below_end hB2 hb3
      clear hb3 pA2 pB2 hB2
      go_wp2_with fail
      refine (able_any _).mono ?_
      rintro e w4 ⟨rfl, hb4⟩
      have pA4 := At.below hb4 pA3
      have pB4 := At.below hb4 pB3
      have hB4 := below_end hB3 hb4
      clear hb4 pA3 pB3 hB3
      go_wp2
      go_ret
      exact ⟨rfl, hB4⟩
    | true =>
      by_cases ko : k < -12 ∨ 6 < k
      · exact rounds_out a b c d k _ _ _ _ _ _ w h1 h2 h3 h4 g1 g2 g3 g4 ko ra rb (rfl : Wnum.oN (Wnum.roundO a b k) = _) (rfl : Wnum.oD (Wnum.roundO a b k) = _) (rfl : Wnum.oB (Wnum.roundO a b k) = _) (rfl : Wnum.oN (Wnum.roundO c d k) = _) (rfl : Wnum.oD (Wnum.roundO c d k) = _) (rfl : Wnum.oB (Wnum.roundO c d k) = _) (by rw [Wnum.roundO_out ko]; rfl) (by rw [Wnum.roundO_out ko]; rfl)
      have k1 : -12 ≤ k := by omega
      have k2 : k ≤ 6 := by omega
      obtain ⟨r1, r2, r3, r4, r5⟩ := Wnum.right_iff.1 ra
      have cA := Wnum.cN_right ra
      have dA := Wnum.cD_right ra
      have rM : Wnum.rightB (-a) b = true := by have := Wnum.right_neg a b; rw [cA, dA] at this; exact this
      obtain ⟨F1, F2⟩ := Wnum.floor_in ra
      have qF := Wnum.qu_whole F1 F2
      have hX : Wnum.roundO a b k = some (Wnum.rR a b k) := by rw [Wnum.roundO_in k1 k2, cA, dA]
      have hY : Wnum.roundO c d k = some (Wnum.rR c d k) := by rw [Wnum.roundO_in k1 k2, Wnum.cN_right rb, Wnum.cD_right rb]
      have hN : Wnum.roundO (-a) b k = some (-(Wnum.rR a b k)) := by rw [Wnum.roundO_in k1 k2, Wnum.cN_right rM, Wnum.cD_right rM, Wnum.rR_neg]
      have okN : Wnum.okQ (-(Wnum.rR a b k)) = Wnum.okQ (Wnum.rR a b k) := Wnum.ok_signed (m := true)
      refine rounds_main a b c d k (a / b) (-a) (-(Wnum.oN (Wnum.roundO a b k))) _ _ _ _ _ _ _ _ _ _ _ w h1 h2 h3 h4 g1 g2 g3 g4 k1 k2 ra rb F1 F2 (show -(Wnum.cN a b) = -a by rw [cA]) dA (by omega) (by omega) (show Wnum.cN a b / Wnum.cD a b = a / b by rw [cA, dA]) (rfl : Wnum.oN (Wnum.roundO a b k) = _) (rfl : Wnum.oD (Wnum.roundO a b k) = _) (rfl : Wnum.oB (Wnum.roundO a b k) = _) (rfl : Wnum.oN (Wnum.roundO c d k) = _) (rfl : Wnum.oD (Wnum.roundO c d k) = _) (rfl : Wnum.oB (Wnum.roundO c d k) = _) ?_ ?_ ?_ (rfl : Wnum.oN (some (Wnum.qu (a / b) 1 + Wnum.qu 1 1)) = _) (rfl : Wnum.oD (some (Wnum.qu (a / b) 1 + Wnum.qu 1 1)) = _) (rfl : Wnum.oB (some (Wnum.qu (a / b) 1 + Wnum.qu 1 1)) = _) (by have := Wnum.oN_bd (Wnum.roundO a b k); omega) (by have := Wnum.oN_bd (Wnum.roundO a b k); omega) (by have := Wnum.oN_bd (Wnum.roundO a b k); omega) (by have := Wnum.oN_bd (Wnum.roundO a b k); omega) (by have := Wnum.oN_bd (Wnum.roundO c d k); omega) (by have := Wnum.oN_bd (Wnum.roundO c d k); omega) (by have := Wnum.oN_bd (Wnum.roundO c d k); omega) (by have := Wnum.oN_bd (Wnum.roundO c d k); omega) (by have := Wnum.oN_bd (some (Wnum.qu (a / b) 1 + Wnum.qu 1 1)); omega) (by have := Wnum.oN_bd (some (Wnum.qu (a / b) 1 + Wnum.qu 1 1)); omega) (by have := Wnum.oN_bd (some (Wnum.qu (a / b) 1 + Wnum.qu 1 1)); omega) (by have := Wnum.oN_bd (some (Wnum.qu (a / b) 1 + Wnum.qu 1 1)); omega) ?_ ?_ (rfl : Wnum.cs (Wnum.qu a b) (Wnum.qu c d) = _) (rfl : Wnum.cs (Wnum.qu (Wnum.oN (Wnum.roundO a b k)) (Wnum.oD (Wnum.roundO a b k))) (Wnum.qu (Wnum.oN (Wnum.roundO c d k)) (Wnum.oD (Wnum.roundO c d k))) = _) ?_ ?_
      · show _ = _
        rw [hN, hX]
        cases ho : Wnum.okQ (Wnum.rR a b k) with
        | true => rw [(Wnum.oNs ho).1, (Wnum.oNs (okN.trans ho)).1]; exact Rat.neg_num _
        | false => rw [(Wnum.oNn ho).1, (Wnum.oNn (okN.trans ho)).1]; rfl
      · show _ = _
        rw [hN, hX]
        cases ho : Wnum.okQ (Wnum.rR a b k) with
        | true => rw [(Wnum.oNs ho).2.1, (Wnum.oNs (okN.trans ho)).2.1, Rat.neg_den]
        | false => rw [(Wnum.oNn ho).2.1, (Wnum.oNn (okN.trans ho)).2.1]
      · show _ = _
        rw [hN, hX]
        exact okN
      · show _ → _
        intro hb
        rw [hX] at hb ⊢
        have := Wnum.right_o hb
        rw [Wnum.cN_right this, Wnum.cD_right this]
        exact ⟨rfl, rfl⟩
      · show _ → _
        intro hb
        rw [hX] at hb ⊢
        have rr := Wnum.right_o hb
        obtain ⟨o1, o2, o3⟩ := Wnum.oNs (r := Wnum.rR a b k) hb
        have e : Wnum.roundO (Wnum.oN (some (Wnum.rR a b k))) (Wnum.oD (some (Wnum.rR a b k))) k = some (Wnum.rR a b k) := by
          rw [Wnum.roundO_in k1 k2, Wnum.cN_right rr, Wnum.cD_right rr, o1, o2, Wnum.rR_again]
        rw [e]
        exact ⟨rfl, rfl, hb, rr⟩
      · show _ → _ → _ → _
        intro hb hc hu
        rw [hX] at hb ⊢
        rw [hY] at hc ⊢
        rw [Wnum.qu_o hb, Wnum.qu_o hc]
        have hle : Wnum.qu a b ≤ Wnum.qu c d := by
          rcases Wnum.cs_three (Wnum.qu a b) (Wnum.qu c d) with ⟨_, h⟩ | ⟨_, h⟩ | ⟨h, _⟩
          · exact Rat.le_of_lt h
          · rw [h]; exact Rat.le_refl
          · omega
        have hr := Wnum.rR_mono (k := k) hle
        rw [cA, dA, Wnum.cN_right rb, Wnum.cD_right rb] at hr
        rcases Wnum.cs_three (Wnum.rR a b k) (Wnum.rR c d k) with ⟨h, _⟩ | ⟨h, _⟩ | ⟨_, h⟩
        · omega
        · omega
        · exact absurd h (Rat.not_lt.2 hr)
      · show _ → _
        intro hk
        subst hk
        obtain ⟨Z, eZ, z1, z2, z3⟩ := Wnum.round_zero (N := a) r3
        have hZ := z3 1000000000000 (by omega) r1 r2
        have okZ : Wnum.okQ (Z : Rat) = true := Wnum.ok_iff.2 (by rw [Rat.num_intCast, Rat.den_intCast]; omega)
        obtain ⟨o1, o2, o3⟩ := Wnum.oNs okZ
        rw [hX, eZ, o1, o2, o3, Rat.num_intCast, Rat.den_intCast, qF, show Wnum.qu 1 1 = 1 by decide +kernel]
        refine ⟨rfl, rfl, ?_, ?_⟩
        · rcases z1 with h | h
          · exact Or.inl (beq_iff_eq.2 h)
          · right
            have e : (((a / b : Int)) : Rat) + 1 = ((Z : Int) : Rat) := by rw [h, Rat.intCast_add]; rfl
            rw [e, o1, o2, o3, Rat.num_intCast, Rat.den_intCast]
            exact ⟨beq_eq_false_iff_ne.2 (by omega), rfl, beq_self_eq_true _, rfl⟩
        · by_cases h : 1 < b
          · exact Or.inl h
          · have hb : b = 1 := by omega
            exact Or.inr ⟨h, z2 hb, hb⟩
end Go.Proofs.YtfilmomndhlmbaaDoor
