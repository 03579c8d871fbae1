/- NumGroups answers true, whatever it is asked. -/
import Derived.Test.YtfbgdfpbbnhfmabDoorWalkV
import Derived.Deep.DeepCutAuto
namespace Go.Proofs.YtfbgdfpbbnhfmabDoor
open Go.RowKit
set_option linter.unusedVariables false

set_option maxRecDepth 100000 in
set_option maxHeartbeats 12800000 in
theorem groups_main (a b c d p q nx dx nu du nl dl nz dz nm dm ne de nw dw nf df ng dg nh dh nk dk : Int) (bx bu bl bz bm be bw bf bg bh bk : Bool) (w : World) (h1 : -9223372036854775808 ≤ a) (h2 : a ≤ 9223372036854775807) (h3 : -9223372036854775808 ≤ b) (h4 : b ≤ 9223372036854775807)
    (g1 : -9223372036854775808 ≤ c) (g2 : c ≤ 9223372036854775807) (g3 : -9223372036854775808 ≤ d) (g4 : d ≤ 9223372036854775807)
    (k1 : -9223372036854775808 ≤ p) (k2 : p ≤ 9223372036854775807) (k3 : -9223372036854775808 ≤ q) (k4 : q ≤ 9223372036854775807)
    (EX1 : Hid (Wnum.oN (some (Wnum.qu a b + Wnum.qu c d)) = nx)) (EX2 : Hid (Wnum.oD (some (Wnum.qu a b + Wnum.qu c d)) = dx)) (EX3 : Hid (Wnum.oB (some (Wnum.qu a b + Wnum.qu c d)) = bx))
    (EY1 : Hid (Wnum.oN (some (Wnum.qu c d + Wnum.qu a b)) = nx)) (EY2 : Hid (Wnum.oD (some (Wnum.qu c d + Wnum.qu a b)) = dx)) (EY3 : Hid (Wnum.oB (some (Wnum.qu c d + Wnum.qu a b)) = bx))
    (EU1 : Hid (Wnum.oN (some (Wnum.qu a b * Wnum.qu c d)) = nu)) (EU2 : Hid (Wnum.oD (some (Wnum.qu a b * Wnum.qu c d)) = du)) (EU3 : Hid (Wnum.oB (some (Wnum.qu a b * Wnum.qu c d)) = bu))
    (EV1 : Hid (Wnum.oN (some (Wnum.qu c d * Wnum.qu a b)) = nu)) (EV2 : Hid (Wnum.oD (some (Wnum.qu c d * Wnum.qu a b)) = du)) (EV3 : Hid (Wnum.oB (some (Wnum.qu c d * Wnum.qu a b)) = bu))
    (EL1 : Hid (Wnum.oN (some (Wnum.qu nx dx + Wnum.qu p q)) = nl)) (EL2 : Hid (Wnum.oD (some (Wnum.qu nx dx + Wnum.qu p q)) = dl)) (EL3 : Hid (Wnum.oB (some (Wnum.qu nx dx + Wnum.qu p q)) = bl))
    (EZ1 : Hid (Wnum.oN (some (Wnum.qu c d + Wnum.qu p q)) = nz)) (EZ2 : Hid (Wnum.oD (some (Wnum.qu c d + Wnum.qu p q)) = dz)) (EZ3 : Hid (Wnum.oB (some (Wnum.qu c d + Wnum.qu p q)) = bz))
    (EM1 : Hid (Wnum.oN (some (Wnum.qu a b + Wnum.qu nz dz)) = nm)) (EM2 : Hid (Wnum.oD (some (Wnum.qu a b + Wnum.qu nz dz)) = dm)) (EM3 : Hid (Wnum.oB (some (Wnum.qu a b + Wnum.qu nz dz)) = bm))
    (EE1 : Hid (Wnum.oN (some (Wnum.qu nu du * Wnum.qu p q)) = ne)) (EE2 : Hid (Wnum.oD (some (Wnum.qu nu du * Wnum.qu p q)) = de)) (EE3 : Hid (Wnum.oB (some (Wnum.qu nu du * Wnum.qu p q)) = be))
    (EW1 : Hid (Wnum.oN (some (Wnum.qu c d * Wnum.qu p q)) = nw)) (EW2 : Hid (Wnum.oD (some (Wnum.qu c d * Wnum.qu p q)) = dw)) (EW3 : Hid (Wnum.oB (some (Wnum.qu c d * Wnum.qu p q)) = bw))
    (EF1 : Hid (Wnum.oN (some (Wnum.qu a b * Wnum.qu nw dw)) = nf)) (EF2 : Hid (Wnum.oD (some (Wnum.qu a b * Wnum.qu nw dw)) = df)) (EF3 : Hid (Wnum.oB (some (Wnum.qu a b * Wnum.qu nw dw)) = bf))
    (EG1 : Hid (Wnum.oN (some (Wnum.qu a b * Wnum.qu nz dz)) = ng)) (EG2 : Hid (Wnum.oD (some (Wnum.qu a b * Wnum.qu nz dz)) = dg)) (EG3 : Hid (Wnum.oB (some (Wnum.qu a b * Wnum.qu nz dz)) = bg))
    (EH1 : Hid (Wnum.oN (some (Wnum.qu a b * Wnum.qu p q)) = nh)) (EH2 : Hid (Wnum.oD (some (Wnum.qu a b * Wnum.qu p q)) = dh)) (EH3 : Hid (Wnum.oB (some (Wnum.qu a b * Wnum.qu p q)) = bh))
    (EK1 : Hid (Wnum.oN (some (Wnum.qu nu du + Wnum.qu nh dh)) = nk)) (EK2 : Hid (Wnum.oD (some (Wnum.qu nu du + Wnum.qu nh dh)) = dk)) (EK3 : Hid (Wnum.oB (some (Wnum.qu nu du + Wnum.qu nh dh)) = bk))
    (yx1 : -9223372036854775808 ≤ nx) (yx2 : nx ≤ 9223372036854775807) (yx3 : -9223372036854775808 ≤ dx) (yx4 : dx ≤ 9223372036854775807)
    (yu1 : -9223372036854775808 ≤ nu) (yu2 : nu ≤ 9223372036854775807) (yu3 : -9223372036854775808 ≤ du) (yu4 : du ≤ 9223372036854775807)
    (yz1 : -9223372036854775808 ≤ nz) (yz2 : nz ≤ 9223372036854775807) (yz3 : -9223372036854775808 ≤ dz) (yz4 : dz ≤ 9223372036854775807)
    (yw1 : -9223372036854775808 ≤ nw) (yw2 : nw ≤ 9223372036854775807) (yw3 : -9223372036854775808 ≤ dw) (yw4 : dw ≤ 9223372036854775807)
    (yh1 : -9223372036854775808 ≤ nh) (yh2 : nh ≤ 9223372036854775807) (yh3 : -9223372036854775808 ≤ dh) (yh4 : dh ≤ 9223372036854775807)
    (RX : Hid (bx = true → Wnum.rightB nx dx = true)) (RU : Hid (bu = true → Wnum.rightB nu du = true))
    (LM : Hid (bx = true → bz = true → (nl == nm) = true ∧ (dl == dm) = true)) (EFF : Hid (bu = true → bw = true → (ne == nf) = true ∧ (de == df) = true)) (GK : Hid (bz = true → bu = true → bh = true → (ng == nk) = true ∧ (dg == dk) = true)) :
    Calls Tryd.prog 6 #[.agg #[.int .i64 a, .int .i64 b], .agg #[.int .i64 c, .int .i64 d], .agg #[.int .i64 p, .int .i64 q]] w fun e w' => e = .returned (.bool true) ∧ Below w.heap.size w w' := by
  go_enter Tryd.func6, Tryd.ntmps6
  go_wp2_with fail
  refine (add_any a b c d _ h1 h2 h3 h4 g1 g2 g3 g4).mono ?_
  rintro e w1 ⟨rfl, hb1⟩
  rw [EX1.out, EX2.out, EX3.out]
  have pA1 : At w1 w.heap.size (.int .i64 a) (.int .i64 b) := At.below hb1 (((At.new w _ rfl _ _).alloc _).alloc _)
  have pB1 : At w1 (w.heap.size + 1) (.int .i64 c) (.int .i64 d) := At.below hb1 ((At.new (w.alloc _) _ (by simp) _ _).alloc _)
  have pC1 : At w1 (w.heap.size + 2) (.int .i64 p) (.int .i64 q) := At.below hb1 (At.new ((w.alloc _).alloc _) _ (by simp) _ _)
  have hB1 : Below w.heap.size w w1 := by with_reducible repeat (first | exact Below.refl _ _ | refine below_drewN ?_ _ | refine Below.setCell ?_ (by first | (simp; done) | (simp; omega) | omega) _ | refine Below.drew ?_ | refine below_end ?_ (by assumption) | refine ball ?_ _)
  clear hb1
  have tpA := pA1.alloc (.cells #[.int .i64 nx, .int .i64 dx] 23)
  obtain ⟨a1, a2, a3, a4⟩ := tpA
  have tpB := pB1.alloc (.cells #[.int .i64 nx, .int .i64 dx] 23)
  obtain ⟨b1, b2, b3, b4⟩ := tpB
  go_wp2_with fail
  clear a1 a2 a3 a4 b1 b2 b3 b4
  refine (add_any c d a b _ g1 g2 g3 g4 h1 h2 h3 h4).mono ?_
  rintro e w2 ⟨rfl, hb2⟩
  rw [EY1.out, EY2.out, EY3.out]
  have pA2 := At.below hb2 (pA1.alloc (.cells #[.int .i64 nx, .int .i64 dx] 23))
  have pB2 := At.below hb2 (pB1.alloc (.cells #[.int .i64 nx, .int .i64 dx] 23))
  have pC2 := At.below hb2 (pC1.alloc (.cells #[.int .i64 nx, .int .i64 dx] 23))
  have pX2 : At w2 w1.heap.size (.int .i64 nx) (.int .i64 dx) := At.below hb2 (At.new w1 23 rfl _ _)
  have hB2 := below_end (ball hB1 (.cells #[.int .i64 nx, .int .i64 dx] 23)) hb2
  clear hb2 pA1 pB1 pC1 hB1
  have tpA := pA2.alloc (.cells #[.int .i64 nx, .int .i64 dx] 23)
  obtain ⟨a1, a2, a3, a4⟩ := tpA
  have tpB := pB2.alloc (.cells #[.int .i64 nx, .int .i64 dx] 23)
  obtain ⟨b1, b2, b3, b4⟩ := tpB
  go_wp2_with fail
  clear a1 a2 a3 a4 b1 b2 b3 b4
  refine (mul_any a b c d _ h1 h2 h3 h4 g1 g2 g3 g4).mono ?_
  rintro e w3 ⟨rfl, hb3⟩
  rw [EU1.out, EU2.out, EU3.out]
  have pA3 := At.below hb3 (pA2.alloc (.cells #[.int .i64 nx, .int .i64 dx] 23))
  have pB3 := At.below hb3 (pB2.alloc (.cells #[.int .i64 nx, .int .i64 dx] 23))
  have pC3 := At.below hb3 (pC2.alloc (.cells #[.int .i64 nx, .int .i64 dx] 23))
  have pX3 := At.below hb3 (pX2.alloc (.cells #[.int .i64 nx, .int .i64 dx] 23))
  have pY3 : At w3 w2.heap.size (.int .i64 nx) (.int .i64 dx) := At.below hb3 (At.new w2 23 rfl _ _)
  have hB3 := below_end (ball hB2 (.cells #[.int .i64 nx, .int .i64 dx] 23)) hb3
  clear hb3 pA2 pB2 pC2 pX2 hB2
  have tpA := pA3.alloc (.cells #[.int .i64 nu, .int .i64 du] 23)
  obtain ⟨a1, a2, a3, a4⟩ := tpA
  have tpB := pB3.alloc (.cells #[.int .i64 nu, .int .i64 du] 23)
  obtain ⟨b1, b2, b3, b4⟩ := tpB
  go_wp2_with fail
  clear a1 a2 a3 a4 b1 b2 b3 b4
  refine (mul_any c d a b _ g1 g2 g3 g4 h1 h2 h3 h4).mono ?_
  rintro e w4 ⟨rfl, hb4⟩
  rw [EV1.out, EV2.out, EV3.out]
  have pA4 := At.below hb4 (pA3.alloc (.cells #[.int .i64 nu, .int .i64 du] 23))
  have pB4 := At.below hb4 (pB3.alloc (.cells #[.int .i64 nu, .int .i64 du] 23))
  have pC4 := At.below hb4 (pC3.alloc (.cells #[.int .i64 nu, .int .i64 du] 23))
  have pX4 := At.below hb4 (pX3.alloc (.cells #[.int .i64 nu, .int .i64 du] 23))
  have pY4 := At.below hb4 (pY3.alloc (.cells #[.int .i64 nu, .int .i64 du] 23))
  have pU4 : At w4 w3.heap.size (.int .i64 nu) (.int .i64 du) := At.below hb4 (At.new w3 23 rfl _ _)
  have hB4 := below_end (ball hB3 (.cells #[.int .i64 nu, .int .i64 du] 23)) hb4
  clear hb4 pA3 pB3 pC3 pX3 pY3 hB3
  have tpX := pX4.alloc (.cells #[.int .i64 nu, .int .i64 du] 23)
  obtain ⟨x1, x2, x3, x4⟩ := tpX
  have tpY := pY4.alloc (.cells #[.int .i64 nu, .int .i64 du] 23)
  obtain ⟨y1, y2, y3, y4⟩ := tpY
  have tpU := pU4.alloc (.cells #[.int .i64 nu, .int .i64 du] 23)
  obtain ⟨u1, u2, u3, u4⟩ := tpU
  have tpV := At.new w4 23 rfl (.int .i64 nu) (.int .i64 du)
  obtain ⟨v1, v2, v3, v4⟩ := tpV
  go_wp2_with fail
  clear x1 x2 x3 x4 y1 y2 y3 y4 u1 u2 u3 u4 v1 v2 v3 v4
  refine (able_any _).mono ?_
  rintro e w5 ⟨rfl, hb5⟩
  have pA5 := At.below hb5 (pA4.alloc (.cells #[.int .i64 nu, .int .i64 du] 23))
  have pB5 := At.below hb5 (pB4.alloc (.cells #[.int .i64 nu, .int .i64 du] 23))
  have pC5 := At.below hb5 (pC4.alloc (.cells #[.int .i64 nu, .int .i64 du] 23))
  have pX5 := At.below hb5 (pX4.alloc (.cells #[.int .i64 nu, .int .i64 du] 23))
  have pY5 := At.below hb5 (pY4.alloc (.cells #[.int .i64 nu, .int .i64 du] 23))
  have pU5 := At.below hb5 (pU4.alloc (.cells #[.int .i64 nu, .int .i64 du] 23))
  have pV5 : At w5 w4.heap.size (.int .i64 nu) (.int .i64 du) := At.below hb5 (At.new w4 23 rfl _ _)
  have hB5 := below_end (ball hB4 (.cells #[.int .i64 nu, .int .i64 du] 23)) hb5
  clear hb5 pA4 pB4 pC4 pX4 pY4 pU4 hB4
  go_upto_region 7 with fail
  go_cut [92] (fun s92 wx => s92 = .bool false ∧ Below w.heap.size w wx ∧ At wx w.heap.size (.int .i64 a) (.int .i64 b) ∧ At wx (w.heap.size + 1) (.int .i64 c) (.int .i64 d) ∧ At wx (w.heap.size + 2) (.int .i64 p) (.int .i64 q) ∧ At wx w1.heap.size (.int .i64 nx) (.int .i64 dx) ∧ At wx w3.heap.size (.int .i64 nu) (.int .i64 du))
  case first =>
    cases bx with
    | false =>
      cases bu with
      | false =>
        go_wp2_with fail
        go_meet
        case rel => exact ⟨rfl, hB5, pA5, pB5, pC5, pX5, pU5⟩
      | true =>
        have RU2 : Hid (Wnum.rightB nu du = true) := RU.out rfl
        clear RU
        have tpU := pU5
        obtain ⟨u1, u2, u3, u4⟩ := tpU
        go_wp2_with fail
        clear u1 u2 u3 u4
        refine (lright_any nu du _ yu1 yu2 yu3 yu4).mono ?_
        rintro e w6 ⟨rfl, hb6⟩
        rw [RU2.out]
        have pA6 := At.below hb6 (pA5)
        have pB6 := At.below hb6 (pB5)
        have pC6 := At.below hb6 (pC5)
        have pX6 := At.below hb6 (pX5)
        have pY6 := At.below hb6 (pY5)
        have pU6 := At.below hb6 (pU5)
        have pV6 := At.below hb6 (pV5)
        have hB6 := below_end hB5 hb6
        clear hb6 pA5 pB5 pC5 pX5 pY5 pU5 pV5 hB5
        go_wp2_with fail
        go_meet
        case rel => exact ⟨rfl, hB6, pA6, pB6, pC6, pX6, pU6⟩
    | true =>
      have RX2 : Hid (Wnum.rightB nx dx = true) := RX.out rfl
      clear RX
      have tpX := pX5
      obtain ⟨x1, x2, x3, x4⟩ := tpX
      go_wp2_with fail
      clear x1 x2 x3 x4
      refine (lright_any nx dx _ yx1 yx2 yx3 yx4).mono ?_
      rintro e w6 ⟨rfl, hb6⟩
      rw [RX2.out]
      have pA6 := At.below hb6 (pA5)
      have pB6 := At.below hb6 (pB5)
      have pC6 := At.below hb6 (pC5)
      have pX6 := At.below hb6 (pX5)
      have pY6 := At.below hb6 (pY5)
      have pU6 := At.below hb6 (pU5)
      have pV6 := At.below hb6 (pV5)
      have hB6 := below_end hB5 hb6
      clear hb6 pA5 pB5 pC5 pX5 pY5 pU5 pV5 hB5
      cases bu with
      | false =>
        go_wp2_with fail
        go_meet
        case rel => exact ⟨rfl, hB6, pA6, pB6, pC6, pX6, pU6⟩
      | true =>
        have RU2 : Hid (Wnum.rightB nu du = true) := RU.out rfl
        clear RU
        have tpU := pU6
        obtain ⟨u1, u2, u3, u4⟩ := tpU
        go_wp2_with fail
        clear u1 u2 u3 u4
        refine (lright_any nu du _ yu1 yu2 yu3 yu4).mono ?_
        rintro e w7 ⟨rfl, hb7⟩
        rw [RU2.out]
        have pA7 := At.below hb7 (pA6)
        have pB7 := At.below hb7 (pB6)
        have pC7 := At.below hb7 (pC6)
        have pX7 := At.below hb7 (pX6)
        have pY7 := At.below hb7 (pY6)
        have pU7 := At.below hb7 (pU6)
        have pV7 := At.below hb7 (pV6)
        have hB7 := below_end hB6 hb7
        clear hb7 pA6 pB6 pC6 pX6 pY6 pU6 pV6 hB6
        go_wp2_with fail
        go_meet
        case rel => exact ⟨rfl, hB7, pA7, pB7, pC7, pX7, pU7⟩
  case rest =>
    clear pA5 pB5 pC5 pX5 pY5 pU5 pV5 hB5
    obtain ⟨h92, hB6, pA6, pB6, pC6, pX6, pU6⟩ := hcut
    subst h92
    generalize wc = w6 at *
    have tpX := pX6
    obtain ⟨x1, x2, x3, x4⟩ := tpX
    have tpC := pC6
    obtain ⟨c1, c2, c3, c4⟩ := tpC
    go_wp2_with fail
    clear x1 x2 x3 x4 c1 c2 c3 c4
    refine (add_any nx dx p q _ yx1 yx2 yx3 yx4 k1 k2 k3 k4).mono ?_
    rintro e w7 ⟨rfl, hb7⟩
    rw [EL1.out, EL2.out, EL3.out]
    have pA7 := At.below hb7 (pA6)
    have pB7 := At.below hb7 (pB6)
    have pC7 := At.below hb7 (pC6)
    have pX7 := At.below hb7 (pX6)
    have pU7 := At.below hb7 (pU6)
    have hB7 := below_end hB6 hb7
    clear hb7 pA6 pB6 pC6 pX6 pU6 hB6
    have tpB := pB7.alloc (.cells #[.int .i64 nl, .int .i64 dl] 23)
    obtain ⟨b1, b2, b3, b4⟩ := tpB
    have tpC := pC7.alloc (.cells #[.int .i64 nl, .int .i64 dl] 23)
    obtain ⟨c1, c2, c3, c4⟩ := tpC
    go_wp2_with fail
    clear b1 b2 b3 b4 c1 c2 c3 c4
    refine (add_any c d p q _ g1 g2 g3 g4 k1 k2 k3 k4).mono ?_
    rintro e w8 ⟨rfl, hb8⟩
    rw [EZ1.out, EZ2.out, EZ3.out]
    have pA8 := At.below hb8 (pA7.alloc (.cells #[.int .i64 nl, .int .i64 dl] 23))
    have pB8 := At.below hb8 (pB7.alloc (.cells #[.int .i64 nl, .int .i64 dl] 23))
    have pC8 := At.below hb8 (pC7.alloc (.cells #[.int .i64 nl, .int .i64 dl] 23))
    have pX8 := At.below hb8 (pX7.alloc (.cells #[.int .i64 nl, .int .i64 dl] 23))
    have pU8 := At.below hb8 (pU7.alloc (.cells #[.int .i64 nl, .int .i64 dl] 23))
    have pL8 : At w8 w7.heap.size (.int .i64 nl) (.int .i64 dl) := At.below hb8 (At.new w7 23 rfl _ _)
    have hB8 := below_end (ball hB7 (.cells #[.int .i64 nl, .int .i64 dl] 23)) hb8
    clear hb8 pA7 pB7 pC7 pX7 pU7 hB7
    have tpA := pA8.alloc (.cells #[.int .i64 nz, .int .i64 dz] 23)
    obtain ⟨a1, a2, a3, a4⟩ := tpA
    have tpZ := At.new w8 23 rfl (.int .i64 nz) (.int .i64 dz)
    obtain ⟨z1, z2, z3, z4⟩ := tpZ
    go_wp2_with fail
    clear a1 a2 a3 a4 z1 z2 z3 z4
    refine (add_any a b nz dz _ h1 h2 h3 h4 yz1 yz2 yz3 yz4).mono ?_
    rintro e w9 ⟨rfl, hb9⟩
    rw [EM1.out, EM2.out, EM3.out]
    have pA9 := At.below hb9 (pA8.alloc (.cells #[.int .i64 nz, .int .i64 dz] 23))
    have pB9 := At.below hb9 (pB8.alloc (.cells #[.int .i64 nz, .int .i64 dz] 23))
    have pC9 := At.below hb9 (pC8.alloc (.cells #[.int .i64 nz, .int .i64 dz] 23))
    have pX9 := At.below hb9 (pX8.alloc (.cells #[.int .i64 nz, .int .i64 dz] 23))
    have pU9 := At.below hb9 (pU8.alloc (.cells #[.int .i64 nz, .int .i64 dz] 23))
    have pL9 := At.below hb9 (pL8.alloc (.cells #[.int .i64 nz, .int .i64 dz] 23))
    have pZ9 : At w9 w8.heap.size (.int .i64 nz) (.int .i64 dz) := At.below hb9 (At.new w8 23 rfl _ _)
    have hB9 := below_end (ball hB8 (.cells #[.int .i64 nz, .int .i64 dz] 23)) hb9
    clear hb9 pA8 pB8 pC8 pX8 pU8 pL8 hB8
    have pA10 := pA9.alloc (.cells #[.int .i64 nm, .int .i64 dm] 23)
    have pB10 := pB9.alloc (.cells #[.int .i64 nm, .int .i64 dm] 23)
    have pC10 := pC9.alloc (.cells #[.int .i64 nm, .int .i64 dm] 23)
    have pX10 := pX9.alloc (.cells #[.int .i64 nm, .int .i64 dm] 23)
    have pU10 := pU9.alloc (.cells #[.int .i64 nm, .int .i64 dm] 23)
    have pL10 := pL9.alloc (.cells #[.int .i64 nm, .int .i64 dm] 23)
    have pZ10 := pZ9.alloc (.cells #[.int .i64 nm, .int .i64 dm] 23)
    have pM10 := At.new w9 23 rfl (.int .i64 nm) (.int .i64 dm)
    have hB10 := ball hB9 (.cells #[.int .i64 nm, .int .i64 dm] 23)
    go_upto_region 12 with fail
    clear pA9 pB9 pC9 pX9 pU9 pL9 pZ9 hB9
    generalize w9.alloc (.cells #[.int .i64 nm, .int .i64 dm] 23) = w10 at *
    go_cut [125] (fun s125 wx => s125 = .bool false ∧ Below w.heap.size w wx ∧ At wx w.heap.size (.int .i64 a) (.int .i64 b) ∧ At wx (w.heap.size + 1) (.int .i64 c) (.int .i64 d) ∧ At wx (w.heap.size + 2) (.int .i64 p) (.int .i64 q) ∧ At wx w3.heap.size (.int .i64 nu) (.int .i64 du) ∧ At wx w8.heap.size (.int .i64 nz) (.int .i64 dz))
    case first =>
      cases bx with
      | false =>
        go_wp2_with fail
        go_meet
        case rel => exact ⟨rfl, hB10, pA10, pB10, pC10, pU10, pZ10⟩
      | true =>
        cases bl with
        | false =>
          go_wp2_with fail
          go_meet
          case rel => exact ⟨rfl, hB10, pA10, pB10, pC10, pU10, pZ10⟩
        | true =>
          cases bz with
          | false =>
            go_wp2_with fail
            go_meet
            case rel => exact ⟨rfl, hB10, pA10, pB10, pC10, pU10, pZ10⟩
          | true =>
            cases bm with
            | false =>
              go_wp2_with fail
              go_meet
              case rel => exact ⟨rfl, hB10, pA10, pB10, pC10, pU10, pZ10⟩
            | true =>
              have ⟨q1, q2⟩ := LM.out rfl rfl
              have tpL := pL10
              obtain ⟨l1, l2, l3, l4⟩ := tpL
              have tpM := pM10
              obtain ⟨m1, m2, m3, m4⟩ := tpM
              go_wp2_with fail
              go_meet
              case rel => exact ⟨rfl, hB10, pA10, pB10, pC10, pU10, pZ10⟩
    case rest =>
      clear pA10 pB10 pC10 pX10 pU10 pL10 pZ10 pM10 hB10
      obtain ⟨h125, hB11, pA11, pB11, pC11, pU11, pZ11⟩ := hcut
      subst h125
      generalize wc = w11 at *
      have tpU := pU11
      obtain ⟨u1, u2, u3, u4⟩ := tpU
      have tpC := pC11
      obtain ⟨c1, c2, c3, c4⟩ := tpC
      go_wp2_with fail
      clear u1 u2 u3 u4 c1 c2 c3 c4
      refine (mul_any nu du p q _ yu1 yu2 yu3 yu4 k1 k2 k3 k4).mono ?_
      rintro e w12 ⟨rfl, hb12⟩
      rw [EE1.out, EE2.out, EE3.out]
      have pA12 := At.below hb12 (pA11)
      have pB12 := At.below hb12 (pB11)
      have pC12 := At.below hb12 (pC11)
      have pU12 := At.below hb12 (pU11)
      have pZ12 := At.below hb12 (pZ11)
      have hB12 := below_end hB11 hb12
      clear hb12 pA11 pB11 pC11 pU11 pZ11 hB11
      have tpB := pB12.alloc (.cells #[.int .i64 ne, .int .i64 de] 23)
      obtain ⟨b1, b2, b3, b4⟩ := tpB
      have tpC := pC12.alloc (.cells #[.int .i64 ne, .int .i64 de] 23)
      obtain ⟨c1, c2, c3, c4⟩ := tpC
      go_wp2_with fail
      clear b1 b2 b3 b4 c1 c2 c3 c4
      refine (mul_any c d p q _ g1 g2 g3 g4 k1 k2 k3 k4).mono ?_
      rintro e w13 ⟨rfl, hb13⟩
      rw [EW1.out, EW2.out, EW3.out]
      have pA13 := At.below hb13 (pA12.alloc (.cells #[.int .i64 ne, .int .i64 de] 23))
      have pB13 := At.below hb13 (pB12.alloc (.cells #[.int .i64 ne, .int .i64 de] 23))
      have pC13 := At.below hb13 (pC12.alloc (.cells #[.int .i64 ne, .int .i64 de] 23))
      have pU13 := At.below hb13 (pU12.alloc (.cells #[.int .i64 ne, .int .i64 de] 23))
      have pZ13 := At.below hb13 (pZ12.alloc (.cells #[.int .i64 ne, .int .i64 de] 23))
      have pE13 : At w13 w12.heap.size (.int .i64 ne) (.int .i64 de) := At.below hb13 (At.new w12 23 rfl _ _)
      have hB13 := below_end (ball hB12 (.cells #[.int .i64 ne, .int .i64 de] 23)) hb13
      clear hb13 pA12 pB12 pC12 pU12 pZ12 hB12
      have tpA := pA13.alloc (.cells #[.int .i64 nw, .int .i64 dw] 23)
      obtain ⟨a1, a2, a3, a4⟩ := tpA
      have tpW := At.new w13 23 rfl (.int .i64 nw) (.int .i64 dw)
      obtain ⟨w1, w2, w3, w4⟩ := tpW
      go_wp2_with fail
      clear a1 a2 a3 a4 w1 w2 w3 w4
      refine (mul_any a b nw dw _ h1 h2 h3 h4 yw1 yw2 yw3 yw4).mono ?_
      rintro e w14 ⟨rfl, hb14⟩
      rw [EF1.out, EF2.out, EF3.out]
      have pA14 := At.below hb14 (pA13.alloc (.cells #[.int .i64 nw, .int .i64 dw] 23))
      have pB14 := At.below hb14 (pB13.alloc (.cells #[.int .i64 nw, .int .i64 dw] 23))
      have pC14 := At.below hb14 (pC13.alloc (.cells #[.int .i64 nw, .int .i64 dw] 23))
      have pU14 := At.below hb14 (pU13.alloc (.cells #[.int .i64 nw, .int .i64 dw] 23))
      have pZ14 := At.below hb14 (pZ13.alloc (.cells #[.int .i64 nw, .int .i64 dw] 23))
      have pE14 := At.below hb14 (pE13.alloc (.cells #[.int .i64 nw, .int .i64 dw] 23))
      have pW14 : At w14 w13.heap.size (.int .i64 nw) (.int .i64 dw) := At.below hb14 (At.new w13 23 rfl _ _)
      have hB14 := below_end (ball hB13 (.cells #[.int .i64 nw, .int .i64 dw] 23)) hb14
      clear hb14 pA13 pB13 pC13 pU13 pZ13 pE13 hB13
      have pA15 := pA14.alloc (.cells #[.int .i64 nf, .int .i64 df] 23)
      have pB15 := pB14.alloc (.cells #[.int .i64 nf, .int .i64 df] 23)
      have pC15 := pC14.alloc (.cells #[.int .i64 nf, .int .i64 df] 23)
      have pU15 := pU14.alloc (.cells #[.int .i64 nf, .int .i64 df] 23)
      have pZ15 := pZ14.alloc (.cells #[.int .i64 nf, .int .i64 df] 23)
      have pE15 := pE14.alloc (.cells #[.int .i64 nf, .int .i64 df] 23)
      have pW15 := pW14.alloc (.cells #[.int .i64 nf, .int .i64 df] 23)
      have pF15 := At.new w14 23 rfl (.int .i64 nf) (.int .i64 df)
      have hB15 := ball hB14 (.cells #[.int .i64 nf, .int .i64 df] 23)
      go_upto_region 17 with fail
      clear pA14 pB14 pC14 pU14 pZ14 pE14 pW14 hB14
      generalize w14.alloc (.cells #[.int .i64 nf, .int .i64 df] 23) = w15 at *
      go_cut [158] (fun s158 wx => s158 = .bool false ∧ Below w.heap.size w wx ∧ At wx w.heap.size (.int .i64 a) (.int .i64 b) ∧ At wx (w.heap.size + 1) (.int .i64 c) (.int .i64 d) ∧ At wx (w.heap.size + 2) (.int .i64 p) (.int .i64 q) ∧ At wx w3.heap.size (.int .i64 nu) (.int .i64 du) ∧ At wx w8.heap.size (.int .i64 nz) (.int .i64 dz))
      case first =>
        cases bu with
        | false =>
          go_wp2_with fail
          go_meet
          case rel => exact ⟨rfl, hB15, pA15, pB15, pC15, pU15, pZ15⟩
        | true =>
          cases be with
          | false =>
            go_wp2_with fail
            go_meet
            case rel => exact ⟨rfl, hB15, pA15, pB15, pC15, pU15, pZ15⟩
          | true =>
            cases bw with
            | false =>
              go_wp2_with fail
              go_meet
              case rel => exact ⟨rfl, hB15, pA15, pB15, pC15, pU15, pZ15⟩
            | true =>
              cases bf with
              | false =>
                go_wp2_with fail
                go_meet
                case rel => exact ⟨rfl, hB15, pA15, pB15, pC15, pU15, pZ15⟩
              | true =>
                have ⟨q1, q2⟩ := EFF.out rfl rfl
                have tpE := pE15
                obtain ⟨e1, e2, e3, e4⟩ := tpE
                have tpF := pF15
                obtain ⟨f1, f2, f3, f4⟩ := tpF
                go_wp2_with fail
                go_meet
                case rel => exact ⟨rfl, hB15, pA15, pB15, pC15, pU15, pZ15⟩
      case rest =>
        clear pA15 pB15 pC15 pU15 pZ15 pE15 pW15 pF15 hB15
        obtain ⟨h158, hB16, pA16, pB16, pC16, pU16, pZ16⟩ := hcut
        subst h158
        generalize wc = w16 at *
        have tpA := pA16
        obtain ⟨a1, a2, a3, a4⟩ := tpA
        have tpZ := pZ16
        obtain ⟨z1, z2, z3, z4⟩ := tpZ
        go_wp2_with fail
        clear a1 a2 a3 a4 z1 z2 z3 z4
        refine (mul_any a b nz dz _ h1 h2 h3 h4 yz1 yz2 yz3 yz4).mono ?_
        rintro e w17 ⟨rfl, hb17⟩
        rw [EG1.out, EG2.out, EG3.out]
        have pA17 := At.below hb17 (pA16)
        have pB17 := At.below hb17 (pB16)
        have pC17 := At.below hb17 (pC16)
        have pU17 := At.below hb17 (pU16)
        have pZ17 := At.below hb17 (pZ16)
        have hB17 := below_end hB16 hb17
        clear hb17 pA16 pB16 pC16 pU16 pZ16 hB16
        have tpA := pA17.alloc (.cells #[.int .i64 ng, .int .i64 dg] 23)
        obtain ⟨a1, a2, a3, a4⟩ := tpA
        have tpC := pC17.alloc (.cells #[.int .i64 ng, .int .i64 dg] 23)
        obtain ⟨c1, c2, c3, c4⟩ := tpC
        go_wp2_with fail
        clear a1 a2 a3 a4 c1 c2 c3 c4
        refine (mul_any a b p q _ h1 h2 h3 h4 k1 k2 k3 k4).mono ?_
        rintro e w18 ⟨rfl, hb18⟩
        rw [EH1.out, EH2.out, EH3.out]
        have pA18 := At.below hb18 (pA17.alloc (.cells #[.int .i64 ng, .int .i64 dg] 23))
        have pB18 := At.below hb18 (pB17.alloc (.cells #[.int .i64 ng, .int .i64 dg] 23))
        have pC18 := At.below hb18 (pC17.alloc (.cells #[.int .i64 ng, .int .i64 dg] 23))
        have pU18 := At.below hb18 (pU17.alloc (.cells #[.int .i64 ng, .int .i64 dg] 23))
        have pZ18 := At.below hb18 (pZ17.alloc (.cells #[.int .i64 ng, .int .i64 dg] 23))
        have pG18 : At w18 w17.heap.size (.int .i64 ng) (.int .i64 dg) := At.below hb18 (At.new w17 23 rfl _ _)
        have hB18 := below_end (ball hB17 (.cells #[.int .i64 ng, .int .i64 dg] 23)) hb18
        clear hb18 pA17 pB17 pC17 pU17 pZ17 hB17
        have tpU := pU18.alloc (.cells #[.int .i64 nh, .int .i64 dh] 23)
        obtain ⟨u1, u2, u3, u4⟩ := tpU
        have tpH := At.new w18 23 rfl (.int .i64 nh) (.int .i64 dh)
        obtain ⟨h1, h2, h3, h4⟩ := tpH
        go_wp2_with fail
        clear u1 u2 u3 u4 h1 h2 h3 h4
        refine (add_any nu du nh dh _ yu1 yu2 yu3 yu4 yh1 yh2 yh3 yh4).mono ?_
        rintro e w19 ⟨rfl, hb19⟩
        rw [EK1.out, EK2.out, EK3.out]
        have pA19 := At.below hb19 (pA18.alloc (.cells #[.int .i64 nh, .int .i64 dh] 23))
        have pB19 := At.below hb19 (pB18.alloc (.cells #[.int .i64 nh, .int .i64 dh] 23))
        have pC19 := At.below hb19 (pC18.alloc (.cells #[.int .i64 nh, .int .i64 dh] 23))
        have pU19 := At.below hb19 (pU18.alloc (.cells #[.int .i64 nh, .int .i64 dh] 23))
        have pZ19 := At.below hb19 (pZ18.alloc (.cells #[.int .i64 nh, .int .i64 dh] 23))
        have pG19 := At.below hb19 (pG18.alloc (.cells #[.int .i64 nh, .int .i64 dh] 23))
        have pH19 : At w19 w18.heap.size (.int .i64 nh) (.int .i64 dh) := At.below hb19 (At.new w18 23 rfl _ _)
        have hB19 := below_end (ball hB18 (.cells #[.int .i64 nh, .int .i64 dh] 23)) hb19
        clear hb19 pA18 pB18 pC18 pU18 pZ18 pG18 hB18
        have pA20 := pA19.alloc (.cells #[.int .i64 nk, .int .i64 dk] 23)
        have pB20 := pB19.alloc (.cells #[.int .i64 nk, .int .i64 dk] 23)
        have pC20 := pC19.alloc (.cells #[.int .i64 nk, .int .i64 dk] 23)
        have pU20 := pU19.alloc (.cells #[.int .i64 nk, .int .i64 dk] 23)
        have pZ20 := pZ19.alloc (.cells #[.int .i64 nk, .int .i64 dk] 23)
        have pG20 := pG19.alloc (.cells #[.int .i64 nk, .int .i64 dk] 23)
        have pH20 := pH19.alloc (.cells #[.int .i64 nk, .int .i64 dk] 23)
        have pK20 := At.new w19 23 rfl (.int .i64 nk) (.int .i64 dk)
        have hB20 := ball hB19 (.cells #[.int .i64 nk, .int .i64 dk] 23)
        go_upto_region 22 with fail
        clear pA19 pB19 pC19 pU19 pZ19 pG19 pH19 hB19
        generalize w19.alloc (.cells #[.int .i64 nk, .int .i64 dk] 23) = w20 at *
        cases bz with
        | false =>
          go_wp2
          go_ret
          exact ⟨rfl, hB20⟩
        | true =>
          cases bg with
          | false =>
            go_wp2
            go_ret
            exact ⟨rfl, hB20⟩
          | true =>
            cases bu with
            | false =>
              go_wp2
              go_ret
              exact ⟨rfl, hB20⟩
            | true =>
              cases bh with
              | false =>
                go_wp2
                go_ret
                exact ⟨rfl, hB20⟩
              | true =>
                cases bk with
                | false =>
                  go_wp2
                  go_ret
                  exact ⟨rfl, hB20⟩
                | true =>
                  have ⟨q1, q2⟩ := GK.out rfl rfl rfl
                  have tpG := pG20
                  obtain ⟨g1, g2, g3, g4⟩ := tpG
                  have tpK := pK20
                  obtain ⟨k1, k2, k3, k4⟩ := tpK
                  go_wp2
                  go_ret
                  exact ⟨rfl, hB20⟩

theorem groups_walk (a b c d p q : Int) (w : World) (h1 : -9223372036854775808 ≤ a) (h2 : a ≤ 9223372036854775807) (h3 : -9223372036854775808 ≤ b) (h4 : b ≤ 9223372036854775807)
    (g1 : -9223372036854775808 ≤ c) (g2 : c ≤ 9223372036854775807) (g3 : -9223372036854775808 ≤ d) (g4 : d ≤ 9223372036854775807)
    (k1 : -9223372036854775808 ≤ p) (k2 : p ≤ 9223372036854775807) (k3 : -9223372036854775808 ≤ q) (k4 : q ≤ 9223372036854775807) :
    Calls Tryd.prog 6 #[.agg #[.int .i64 a, .int .i64 b], .agg #[.int .i64 c, .int .i64 d], .agg #[.int .i64 p, .int .i64 q]] w fun e w' => e = .returned (.bool true) ∧ Below w.heap.size w w' := by
  refine groups_main a b c d p q _ _ _ _ _ _ _ _ _ _ _ _ _ _ _ _ _ _ _ _ _ _ _ _ _ _ _ _ _ _ _ _ _ w h1 h2 h3 h4 g1 g2 g3 g4 k1 k2 k3 k4 (rfl : Wnum.oN (some (Wnum.qu a b + Wnum.qu c d)) = _) (rfl : Wnum.oD (some (Wnum.qu a b + Wnum.qu c d)) = _) (rfl : Wnum.oB (some (Wnum.qu a b + Wnum.qu c d)) = _) (by show _ = _; rw [Rat.add_comm (Wnum.qu c d) (Wnum.qu a b)]) (by show _ = _; rw [Rat.add_comm (Wnum.qu c d) (Wnum.qu a b)]) (by show _ = _; rw [Rat.add_comm (Wnum.qu c d) (Wnum.qu a b)]) (rfl : Wnum.oN (some (Wnum.qu a b * Wnum.qu c d)) = _) (rfl : Wnum.oD (some (Wnum.qu a b * Wnum.qu c d)) = _) (rfl : Wnum.oB (some (Wnum.qu a b * Wnum.qu c d)) = _) (by show _ = _; rw [Rat.mul_comm (Wnum.qu c d) (Wnum.qu a b)]) (by show _ = _; rw [Rat.mul_comm (Wnum.qu c d) (Wnum.qu a b)]) (by show _ = _; rw [Rat.mul_comm (Wnum.qu c d) (Wnum.qu a b)]) (rfl : Wnum.oN (some (Wnum.qu (Wnum.oN (some (Wnum.qu a b + Wnum.qu c d))) (Wnum.oD (some (Wnum.qu a b + Wnum.qu c d))) + Wnum.qu p q)) = _) (rfl : Wnum.oD (some (Wnum.qu (Wnum.oN (some (Wnum.qu a b + Wnum.qu c d))) (Wnum.oD (some (Wnum.qu a b + Wnum.qu c d))) + Wnum.qu p q)) = _) (rfl : Wnum.oB (some (Wnum.qu (Wnum.oN (some (Wnum.qu a b + Wnum.qu c d))) (Wnum.oD (some (Wnum.qu a b + Wnum.qu c d))) + Wnum.qu p q)) = _) (rfl : Wnum.oN (some (Wnum.qu c d + Wnum.qu p q)) = _) (rfl : Wnum.oD (some (Wnum.qu c d + Wnum.qu p q)) = _) (rfl : Wnum.oB (some (Wnum.qu c d + Wnum.qu p q)) = _) (rfl : Wnum.oN (some (Wnum.qu a b + Wnum.qu (Wnum.oN (some (Wnum.qu c d + Wnum.qu p q))) (Wnum.oD (some (Wnum.qu c d + Wnum.qu p q))))) = _) (rfl : Wnum.oD (some (Wnum.qu a b + Wnum.qu (Wnum.oN (some (Wnum.qu c d + Wnum.qu p q))) (Wnum.oD (some (Wnum.qu c d + Wnum.qu p q))))) = _) (rfl : Wnum.oB (some (Wnum.qu a b + Wnum.qu (Wnum.oN (some (Wnum.qu c d + Wnum.qu p q))) (Wnum.oD (some (Wnum.qu c d + Wnum.qu p q))))) = _) (rfl : Wnum.oN (some (Wnum.qu (Wnum.oN (some (Wnum.qu a b * Wnum.qu c d))) (Wnum.oD (some (Wnum.qu a b * Wnum.qu c d))) * Wnum.qu p q)) = _) (rfl : Wnum.oD (some (Wnum.qu (Wnum.oN (some (Wnum.qu a b * Wnum.qu c d))) (Wnum.oD (some (Wnum.qu a b * Wnum.qu c d))) * Wnum.qu p q)) = _) (rfl : Wnum.oB (some (Wnum.qu (Wnum.oN (some (Wnum.qu a b * Wnum.qu c d))) (Wnum.oD (some (Wnum.qu a b * Wnum.qu c d))) * Wnum.qu p q)) = _) (rfl : Wnum.oN (some (Wnum.qu c d * Wnum.qu p q)) = _) (rfl : Wnum.oD (some (Wnum.qu c d * Wnum.qu p q)) = _) (rfl : Wnum.oB (some (Wnum.qu c d * Wnum.qu p q)) = _) (rfl : Wnum.oN (some (Wnum.qu a b * Wnum.qu (Wnum.oN (some (Wnum.qu c d * Wnum.qu p q))) (Wnum.oD (some (Wnum.qu c d * Wnum.qu p q))))) = _) (rfl : Wnum.oD (some (Wnum.qu a b * Wnum.qu (Wnum.oN (some (Wnum.qu c d * Wnum.qu p q))) (Wnum.oD (some (Wnum.qu c d * Wnum.qu p q))))) = _) (rfl : Wnum.oB (some (Wnum.qu a b * Wnum.qu (Wnum.oN (some (Wnum.qu c d * Wnum.qu p q))) (Wnum.oD (some (Wnum.qu c d * Wnum.qu p q))))) = _) (rfl : Wnum.oN (some (Wnum.qu a b * Wnum.qu (Wnum.oN (some (Wnum.qu c d + Wnum.qu p q))) (Wnum.oD (some (Wnum.qu c d + Wnum.qu p q))))) = _) (rfl : Wnum.oD (some (Wnum.qu a b * Wnum.qu (Wnum.oN (some (Wnum.qu c d + Wnum.qu p q))) (Wnum.oD (some (Wnum.qu c d + Wnum.qu p q))))) = _) (rfl : Wnum.oB (some (Wnum.qu a b * Wnum.qu (Wnum.oN (some (Wnum.qu c d + Wnum.qu p q))) (Wnum.oD (some (Wnum.qu c d + Wnum.qu p q))))) = _) (rfl : Wnum.oN (some (Wnum.qu a b * Wnum.qu p q)) = _) (rfl : Wnum.oD (some (Wnum.qu a b * Wnum.qu p q)) = _) (rfl : Wnum.oB (some (Wnum.qu a b * Wnum.qu p q)) = _) (rfl : Wnum.oN (some (Wnum.qu (Wnum.oN (some (Wnum.qu a b * Wnum.qu c d))) (Wnum.oD (some (Wnum.qu a b * Wnum.qu c d))) + Wnum.qu (Wnum.oN (some (Wnum.qu a b * Wnum.qu p q))) (Wnum.oD (some (Wnum.qu a b * Wnum.qu p q))))) = _) (rfl : Wnum.oD (some (Wnum.qu (Wnum.oN (some (Wnum.qu a b * Wnum.qu c d))) (Wnum.oD (some (Wnum.qu a b * Wnum.qu c d))) + Wnum.qu (Wnum.oN (some (Wnum.qu a b * Wnum.qu p q))) (Wnum.oD (some (Wnum.qu a b * Wnum.qu p q))))) = _) (rfl : Wnum.oB (some (Wnum.qu (Wnum.oN (some (Wnum.qu a b * Wnum.qu c d))) (Wnum.oD (some (Wnum.qu a b * Wnum.qu c d))) + Wnum.qu (Wnum.oN (some (Wnum.qu a b * Wnum.qu p q))) (Wnum.oD (some (Wnum.qu a b * Wnum.qu p q))))) = _) (by have := Wnum.oN_bd (some (Wnum.qu a b + Wnum.qu c d)); omega) (by have := Wnum.oN_bd (some (Wnum.qu a b + Wnum.qu c d)); omega) (by have := Wnum.oN_bd (some (Wnum.qu a b + Wnum.qu c d)); omega) (by have := Wnum.oN_bd (some (Wnum.qu a b + Wnum.qu c d)); omega) (by have := Wnum.oN_bd (some (Wnum.qu a b * Wnum.qu c d)); omega) (by have := Wnum.oN_bd (some (Wnum.qu a b * Wnum.qu c d)); omega) (by have := Wnum.oN_bd (some (Wnum.qu a b * Wnum.qu c d)); omega) (by have := Wnum.oN_bd (some (Wnum.qu a b * Wnum.qu c d)); omega) (by have := Wnum.oN_bd (some (Wnum.qu c d + Wnum.qu p q)); omega) (by have := Wnum.oN_bd (some (Wnum.qu c d + Wnum.qu p q)); omega) (by have := Wnum.oN_bd (some (Wnum.qu c d + Wnum.qu p q)); omega) (by have := Wnum.oN_bd (some (Wnum.qu c d + Wnum.qu p q)); omega) (by have := Wnum.oN_bd (some (Wnum.qu c d * Wnum.qu p q)); omega) (by have := Wnum.oN_bd (some (Wnum.qu c d * Wnum.qu p q)); omega) (by have := Wnum.oN_bd (some (Wnum.qu c d * Wnum.qu p q)); omega) (by have := Wnum.oN_bd (some (Wnum.qu c d * Wnum.qu p q)); omega) (by have := Wnum.oN_bd (some (Wnum.qu a b * Wnum.qu p q)); omega) (by have := Wnum.oN_bd (some (Wnum.qu a b * Wnum.qu p q)); omega) (by have := Wnum.oN_bd (some (Wnum.qu a b * Wnum.qu p q)); omega) (by have := Wnum.oN_bd (some (Wnum.qu a b * Wnum.qu p q)); omega) ?_ ?_ ?_ ?_ ?_
  · exact (fun h => Wnum.right_o h : Wnum.oB (some (Wnum.qu a b + Wnum.qu c d)) = true → Wnum.rightB (Wnum.oN (some (Wnum.qu a b + Wnum.qu c d))) (Wnum.oD (some (Wnum.qu a b + Wnum.qu c d))) = true)
  · exact (fun h => Wnum.right_o h : Wnum.oB (some (Wnum.qu a b * Wnum.qu c d)) = true → Wnum.rightB (Wnum.oN (some (Wnum.qu a b * Wnum.qu c d))) (Wnum.oD (some (Wnum.qu a b * Wnum.qu c d))) = true)
  · show _ → _ → _
    intro ha hb
    rw [Wnum.qu_o ha, Wnum.qu_o hb, Rat.add_assoc]
    exact ⟨beq_self_eq_true _, beq_self_eq_true _⟩
  · show _ → _ → _
    intro ha hb
    rw [Wnum.qu_o ha, Wnum.qu_o hb, Rat.mul_assoc]
    exact ⟨beq_self_eq_true _, beq_self_eq_true _⟩
  · show _ → _ → _ → _
    intro ha hb hc
    rw [Wnum.qu_o ha, Wnum.qu_o hb, Wnum.qu_o hc, Rat.mul_add]
    exact ⟨beq_self_eq_true _, beq_self_eq_true _⟩
end Go.Proofs.YtfbgdfpbbnhfmabDoor
