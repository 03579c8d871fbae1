/- NumOrder answers true, whatever it is asked. -/
import Derived.Test.YtfbgdfpbbnhfmabDoorWalkV
import Derived.Test.YtfbgdfpbbnhfmabDoorPlainH
import Derived.Deep.DeepCutAuto
namespace Go.Proofs.YtfbgdfpbbnhfmabDoor
open Go.RowKit
set_option linter.unusedVariables false

theorem cmpq_any (a b c d : Int) (w : World) (h1 : -9223372036854775808 ≤ a) (h2 : a ≤ 9223372036854775807) (h3 : -9223372036854775808 ≤ b) (h4 : b ≤ 9223372036854775807)
    (g1 : -9223372036854775808 ≤ c) (g2 : c ≤ 9223372036854775807) (g3 : -9223372036854775808 ≤ d) (g4 : d ≤ 9223372036854775807) :
    Calls Tryd.prog 23 #[.agg #[.int .i64 a, .int .i64 b], .agg #[.int .i64 c, .int .i64 d]] w fun e w' => e = .returned (.int .i64 (Wnum.cs (Wnum.qu a b) (Wnum.qu c d))) ∧ Below w.heap.size w w' := by
  rw [← Wnum.cmp_cs]
  exact cmp_any a b c d w h1 h2 h3 h4 g1 g2 g3 g4

set_option maxRecDepth 100000 in
set_option maxHeartbeats 6400000 in
theorem order_main (a b c d p q x z t s : Int) (w : World) (h1 : -9223372036854775808 ≤ a) (h2 : a ≤ 9223372036854775807) (h3 : -9223372036854775808 ≤ b) (h4 : b ≤ 9223372036854775807)
    (g1 : -9223372036854775808 ≤ c) (g2 : c ≤ 9223372036854775807) (g3 : -9223372036854775808 ≤ d) (g4 : d ≤ 9223372036854775807)
    (k1 : -9223372036854775808 ≤ p) (k2 : p ≤ 9223372036854775807) (k3 : -9223372036854775808 ≤ q) (k4 : q ≤ 9223372036854775807) (RA : Hid (Wnum.rightB a b = true)) (RB : Hid (Wnum.rightB c d = true)) (RC : Hid (Wnum.rightB p q = true))
    (HX : Hid (Wnum.cs (Wnum.qu a b) (Wnum.qu c d) = x)) (HY : Hid (Wnum.cs (Wnum.qu c d) (Wnum.qu a b) = -x)) (HZ : Hid (Wnum.cs (Wnum.qu c d) (Wnum.qu p q) = z)) (HT : Hid (Wnum.cs (Wnum.qu a b) (Wnum.qu p q) = t)) (HS : Hid (Wnum.cs (Wnum.qu p q) (Wnum.qu 0 1) = s))
    (x1 : -1 ≤ x) (x2 : x ≤ 1) (s1 : -1 ≤ s) (s2 : s ≤ 1) (xs1 : -1 ≤ x * s) (xs2 : x * s ≤ 1)
    (f1 : decide (x < -1) = false) (f2 : decide (1 < x) = false) (EQ : Hid (((x == 0) = true ∧ (a == c) = true ∧ (b == d) = true) ∨ ((x == 0) = false ∧ (a == c) = true ∧ (b == d) = false) ∨ ((x == 0) = false ∧ (a == c) = false)))
    (CX : Hid (decide (x ≤ 0) = false ∨ decide (x ≤ 0) = true)) (CZ : Hid (decide (z ≤ 0) = false ∨ decide (z ≤ 0) = true)) (CT : Hid (decide (x ≤ 0) = true → decide (z ≤ 0) = true → decide (0 < t) = false))
    (HUV : Hid (Wnum.oB (some (Wnum.qu a b + Wnum.qu p q)) = true → Wnum.oB (some (Wnum.qu c d + Wnum.qu p q)) = true → Wnum.cs (Wnum.qu (Wnum.oN (some (Wnum.qu a b + Wnum.qu p q))) (Wnum.oD (some (Wnum.qu a b + Wnum.qu p q)))) (Wnum.qu (Wnum.oN (some (Wnum.qu c d + Wnum.qu p q))) (Wnum.oD (some (Wnum.qu c d + Wnum.qu p q)))) = x))
    (HMV : Hid (Wnum.oB (some (Wnum.qu a b * Wnum.qu p q)) = true → Wnum.oB (some (Wnum.qu c d * Wnum.qu p q)) = true → Wnum.cs (Wnum.qu (Wnum.oN (some (Wnum.qu a b * Wnum.qu p q))) (Wnum.oD (some (Wnum.qu a b * Wnum.qu p q)))) (Wnum.qu (Wnum.oN (some (Wnum.qu c d * Wnum.qu p q))) (Wnum.oD (some (Wnum.qu c d * Wnum.qu p q)))) = x * s)) :
    Calls Tryd.prog 8 #[.agg #[.int .i64 a, .int .i64 b], .agg #[.int .i64 c, .int .i64 d], .agg #[.int .i64 p, .int .i64 q]] w fun e w' => e = .returned (.bool true) ∧ Below w.heap.size w w' := by
  obtain ⟨o1, o2, o3, o4⟩ := Wnum.oN_bd (some (Wnum.qu a b + Wnum.qu p q))
  obtain ⟨o5, o6, o7, o8⟩ := Wnum.oN_bd (some (Wnum.qu c d + Wnum.qu p q))
  obtain ⟨o9, o10, o11, o12⟩ := Wnum.oN_bd (some (Wnum.qu a b * Wnum.qu p q))
  obtain ⟨o13, o14, o15, o16⟩ := Wnum.oN_bd (some (Wnum.qu c d * Wnum.qu p q))
  go_enter Tryd.func8, Tryd.ntmps8
  go_wp2_with fail
  refine (able_any _).mono ?_
  rintro e w1 ⟨rfl, hb1⟩
  have pA1 : At w1 w.heap.size (.int .i64 a) (.int .i64 b) := At.below hb1 (((At.new w _ rfl _ _).alloc _).alloc _)
  have pB1 : At w1 (w.heap.size + 1) (.int .i64 c) (.int .i64 d) := At.below hb1 ((At.new (w.alloc _) _ (by simp) _ _).alloc _)
  have pC1 : At w1 (w.heap.size + 2) (.int .i64 p) (.int .i64 q) := At.below hb1 (At.new ((w.alloc _).alloc _) _ (by simp) _ _)
  have hB1 : Below w.heap.size w w1 := by with_reducible repeat (first | exact Below.refl _ _ | refine below_drewN ?_ _ | refine Below.setCell ?_ (by first | (simp; done) | (simp; omega) | omega) _ | refine Below.drew ?_ | refine below_end ?_ (by assumption) | refine ball ?_ _)
  clear hb1
  have tpA := pA1
  obtain ⟨a1, a2, a3, a4⟩ := tpA
  have tpB := pB1
  obtain ⟨b1, b2, b3, b4⟩ := tpB
  have tpC := pC1
  obtain ⟨c1, c2, c3, c4⟩ := tpC
  go_wp2_with fail
  clear a1 a2 a3 a4 b1 b2 b3 b4 c1 c2 c3 c4
  refine (lright_any a b _ h1 h2 h3 h4).mono ?_
  rintro e w2 ⟨rfl, hb2⟩
  rw [RA.out]
  have pA2 := At.below hb2 (pA1)
  have pB2 := At.below hb2 (pB1)
  have pC2 := At.below hb2 (pC1)
  have hB2 := below_end hB1 hb2
  clear hb2 pA1 pB1 pC1 hB1
  have tpA := pA2
  obtain ⟨a1, a2, a3, a4⟩ := tpA
  have tpB := pB2
  obtain ⟨b1, b2, b3, b4⟩ := tpB
  have tpC := pC2
  obtain ⟨c1, c2, c3, c4⟩ := tpC
  go_wp2_with fail
  clear a1 a2 a3 a4 b1 b2 b3 b4 c1 c2 c3 c4
  refine (lright_any c d _ g1 g2 g3 g4).mono ?_
  rintro e w3 ⟨rfl, hb3⟩
  rw [RB.out]
  have pA3 := At.below hb3 (pA2)
  have pB3 := At.below hb3 (pB2)
  have pC3 := At.below hb3 (pC2)
  have hB3 := below_end hB2 hb3
  clear hb3 pA2 pB2 pC2 hB2
  have tpA := pA3
  obtain ⟨a1, a2, a3, a4⟩ := tpA
  have tpB := pB3
  obtain ⟨b1, b2, b3, b4⟩ := tpB
  have tpC := pC3
  obtain ⟨c1, c2, c3, c4⟩ := tpC
  go_wp2_with fail
  clear a1 a2 a3 a4 b1 b2 b3 b4 c1 c2 c3 c4
  refine (lright_any p q _ k1 k2 k3 k4).mono ?_
  rintro e w4 ⟨rfl, hb4⟩
  rw [RC.out]
  have pA4 := At.below hb4 (pA3)
  have pB4 := At.below hb4 (pB3)
  have pC4 := At.below hb4 (pC3)
  have hB4 := below_end hB3 hb4
  clear hb4 pA3 pB3 pC3 hB3
  have tpA := pA4
  obtain ⟨a1, a2, a3, a4⟩ := tpA
  have tpB := pB4
  obtain ⟨b1, b2, b3, b4⟩ := tpB
  have tpC := pC4
  obtain ⟨c1, c2, c3, c4⟩ := tpC
  go_wp2_with fail
  clear a1 a2 a3 a4 b1 b2 b3 b4 c1 c2 c3 c4
  refine (cmpq_any a b c d _ h1 h2 h3 h4 g1 g2 g3 g4).mono ?_
  rintro e w5 ⟨rfl, hb5⟩
  rw [HX.out]
  have pA5 := At.below hb5 (pA4)
  have pB5 := At.below hb5 (pB4)
  have pC5 := At.below hb5 (pC4)
  have hB5 := below_end hB4 hb5
  clear hb5 pA4 pB4 pC4 hB4
  go_upto_region 4 with fail
  go_cut [55] (fun s55 wx => s55 = .bool false ∧ Below w.heap.size w wx ∧ At wx w.heap.size (.int .i64 a) (.int .i64 b) ∧ At wx (w.heap.size + 1) (.int .i64 c) (.int .i64 d) ∧ At wx (w.heap.size + 2) (.int .i64 p) (.int .i64 q))
  case first =>
    have tpA := pA5
    obtain ⟨a1, a2, a3, a4⟩ := tpA
    have tpB := pB5
    obtain ⟨b1, b2, b3, b4⟩ := tpB
    have tpC := pC5
    obtain ⟨c1, c2, c3, c4⟩ := tpC
    go_wp2_with fail
    clear a1 a2 a3 a4 b1 b2 b3 b4 c1 c2 c3 c4
    refine (cmpq_any c d a b _ g1 g2 g3 g4 h1 h2 h3 h4).mono ?_
    rintro e w6 ⟨rfl, hb6⟩
    rw [HY.out]
    have pA6 := At.below hb6 (pA5)
    have pB6 := At.below hb6 (pB5)
    have pC6 := At.below hb6 (pC5)
    have hB6 := below_end hB5 hb6
    clear hb6 pA5 pB5 pC5 hB5
    have tpA := pA6
    obtain ⟨a1, a2, a3, a4⟩ := tpA
    have tpB := pB6
    obtain ⟨b1, b2, b3, b4⟩ := tpB
    have tpC := pC6
    obtain ⟨c1, c2, c3, c4⟩ := tpC
    rcases EQ.out with ⟨y1, y2, y3⟩ | ⟨y1, y2, y3⟩ | ⟨y1, y3⟩
    · go_wp2_with fail
      go_meet
      case rel => exact ⟨rfl, hB6, pA6, pB6, pC6⟩
    · go_wp2_with fail
      go_meet
      case rel => exact ⟨rfl, hB6, pA6, pB6, pC6⟩
    · go_wp2_with fail
      go_meet
      case rel => exact ⟨rfl, hB6, pA6, pB6, pC6⟩
  case rest =>
    clear pA5 pB5 pC5 hB5
    obtain ⟨h55, hB6, pA6, pB6, pC6⟩ := hcut
    subst h55
    generalize wc = w6 at *
    go_upto_region 6 with fail
    go_cut [69] (fun s69 wx => s69 = .bool false ∧ Below w.heap.size w wx ∧ At wx w.heap.size (.int .i64 a) (.int .i64 b) ∧ At wx (w.heap.size + 1) (.int .i64 c) (.int .i64 d) ∧ At wx (w.heap.size + 2) (.int .i64 p) (.int .i64 q))
    case first =>
      rcases CX.out with hx | hx
      · go_wp2_with fail
        go_meet
        case rel => exact ⟨rfl, hB6, pA6, pB6, pC6⟩
      · have tpA := pA6
        obtain ⟨a1, a2, a3, a4⟩ := tpA
        have tpB := pB6
        obtain ⟨b1, b2, b3, b4⟩ := tpB
        have tpC := pC6
        obtain ⟨c1, c2, c3, c4⟩ := tpC
        go_wp2_with fail
        clear a1 a2 a3 a4 b1 b2 b3 b4 c1 c2 c3 c4
        refine (cmpq_any c d p q _ g1 g2 g3 g4 k1 k2 k3 k4).mono ?_
        rintro e w7 ⟨rfl, hb7⟩
        rw [HZ.out]
        have pA7 := At.below hb7 (pA6)
        have pB7 := At.below hb7 (pB6)
        have pC7 := At.below hb7 (pC6)
        have hB7 := below_end hB6 hb7
        clear hb7 pA6 pB6 pC6 hB6
        rcases CZ.out with hz | hz
        · go_wp2_with fail
          go_meet
          case rel => exact ⟨rfl, hB7, pA7, pB7, pC7⟩
        · have tpA := pA7
          obtain ⟨a1, a2, a3, a4⟩ := tpA
          have tpB := pB7
          obtain ⟨b1, b2, b3, b4⟩ := tpB
          have tpC := pC7
          obtain ⟨c1, c2, c3, c4⟩ := tpC
          go_wp2_with fail
          clear a1 a2 a3 a4 b1 b2 b3 b4 c1 c2 c3 c4
          refine (cmpq_any a b p q _ h1 h2 h3 h4 k1 k2 k3 k4).mono ?_
          rintro e w8 ⟨rfl, hb8⟩
          rw [HT.out]
          have pA8 := At.below hb8 (pA7)
          have pB8 := At.below hb8 (pB7)
          have pC8 := At.below hb8 (pC7)
          have hB8 := below_end hB7 hb8
          clear hb8 pA7 pB7 pC7 hB7
          have ht := CT.out hx hz
          go_wp2_with fail
          go_meet
          case rel => exact ⟨rfl, hB8, pA8, pB8, pC8⟩
    case rest =>
      clear pA6 pB6 pC6 hB6
      obtain ⟨h69, hB7, pA7, pB7, pC7⟩ := hcut
      subst h69
      generalize wc = w7 at *
      have tpA := pA7
      obtain ⟨a1, a2, a3, a4⟩ := tpA
      have tpB := pB7
      obtain ⟨b1, b2, b3, b4⟩ := tpB
      have tpC := pC7
      obtain ⟨c1, c2, c3, c4⟩ := tpC
      go_wp2_with fail
      clear a1 a2 a3 a4 b1 b2 b3 b4 c1 c2 c3 c4
      refine (add_any a b p q _ h1 h2 h3 h4 k1 k2 k3 k4).mono ?_
      rintro e w8 ⟨rfl, hb8⟩
      have pA8 := At.below hb8 (pA7)
      have pB8 := At.below hb8 (pB7)
      have pC8 := At.below hb8 (pC7)
      have hB8 := below_end hB7 hb8
      clear hb8 pA7 pB7 pC7 hB7
      have l8 : w.heap.size + 2 < w8.heap.size := pC8.lt
      have tpA := pA8.alloc (.cells #[.int .i64 (Wnum.oN (some (Wnum.qu a b + Wnum.qu p q))), .int .i64 (Wnum.oD (some (Wnum.qu a b + Wnum.qu p q)))] 23)
      obtain ⟨a1, a2, a3, a4⟩ := tpA
      have tpB := pB8.alloc (.cells #[.int .i64 (Wnum.oN (some (Wnum.qu a b + Wnum.qu p q))), .int .i64 (Wnum.oD (some (Wnum.qu a b + Wnum.qu p q)))] 23)
      obtain ⟨b1, b2, b3, b4⟩ := tpB
      have tpC := pC8.alloc (.cells #[.int .i64 (Wnum.oN (some (Wnum.qu a b + Wnum.qu p q))), .int .i64 (Wnum.oD (some (Wnum.qu a b + Wnum.qu p q)))] 23)
      obtain ⟨c1, c2, c3, c4⟩ := tpC
      go_wp2_with fail
      clear a1 a2 a3 a4 b1 b2 b3 b4 c1 c2 c3 c4
      refine (add_any c d p q _ g1 g2 g3 g4 k1 k2 k3 k4).mono ?_
      rintro e w9 ⟨rfl, hb9⟩
      have pA9 := At.below hb9 (pA8.alloc (.cells #[.int .i64 (Wnum.oN (some (Wnum.qu a b + Wnum.qu p q))), .int .i64 (Wnum.oD (some (Wnum.qu a b + Wnum.qu p q)))] 23))
      have pB9 := At.below hb9 (pB8.alloc (.cells #[.int .i64 (Wnum.oN (some (Wnum.qu a b + Wnum.qu p q))), .int .i64 (Wnum.oD (some (Wnum.qu a b + Wnum.qu p q)))] 23))
      have pC9 := At.below hb9 (pC8.alloc (.cells #[.int .i64 (Wnum.oN (some (Wnum.qu a b + Wnum.qu p q))), .int .i64 (Wnum.oD (some (Wnum.qu a b + Wnum.qu p q)))] 23))
      have pU9 : At w9 w8.heap.size (.int .i64 (Wnum.oN (some (Wnum.qu a b + Wnum.qu p q)))) (.int .i64 (Wnum.oD (some (Wnum.qu a b + Wnum.qu p q)))) := At.below hb9 (At.new w8 23 rfl _ _)
      have hB9 := below_end (ball hB8 (.cells #[.int .i64 (Wnum.oN (some (Wnum.qu a b + Wnum.qu p q))), .int .i64 (Wnum.oD (some (Wnum.qu a b + Wnum.qu p q)))] 23)) hb9
      clear hb9 pA8 pB8 pC8 hB8
      have l9 : w8.heap.size < w9.heap.size := pU9.lt
      have pA10 := pA9.alloc (.cells #[.int .i64 (Wnum.oN (some (Wnum.qu c d + Wnum.qu p q))), .int .i64 (Wnum.oD (some (Wnum.qu c d + Wnum.qu p q)))] 23)
      have pB10 := pB9.alloc (.cells #[.int .i64 (Wnum.oN (some (Wnum.qu c d + Wnum.qu p q))), .int .i64 (Wnum.oD (some (Wnum.qu c d + Wnum.qu p q)))] 23)
      have pC10 := pC9.alloc (.cells #[.int .i64 (Wnum.oN (some (Wnum.qu c d + Wnum.qu p q))), .int .i64 (Wnum.oD (some (Wnum.qu c d + Wnum.qu p q)))] 23)
      have pU10 := pU9.alloc (.cells #[.int .i64 (Wnum.oN (some (Wnum.qu c d + Wnum.qu p q))), .int .i64 (Wnum.oD (some (Wnum.qu c d + Wnum.qu p q)))] 23)
      have pV10 := At.new w9 23 rfl (.int .i64 (Wnum.oN (some (Wnum.qu c d + Wnum.qu p q)))) (.int .i64 (Wnum.oD (some (Wnum.qu c d + Wnum.qu p q))))
      have hB10 := ball hB9 (.cells #[.int .i64 (Wnum.oN (some (Wnum.qu c d + Wnum.qu p q))), .int .i64 (Wnum.oD (some (Wnum.qu c d + Wnum.qu p q)))] 23)
      go_upto_region 10 with fail
      clear pA9 pB9 pC9 pU9 hB9
      generalize w9.alloc (.cells #[.int .i64 (Wnum.oN (some (Wnum.qu c d + Wnum.qu p q))), .int .i64 (Wnum.oD (some (Wnum.qu c d + Wnum.qu p q)))] 23) = w10 at *
      go_cut [9, 11, 92] (fun _ _ s92 wx => s92 = .bool false ∧ Below w.heap.size w wx ∧ At wx w.heap.size (.int .i64 a) (.int .i64 b) ∧ At wx (w.heap.size + 1) (.int .i64 c) (.int .i64 d) ∧ At wx (w.heap.size + 2) (.int .i64 p) (.int .i64 q) ∧ At wx w8.heap.size (.int .i64 (Wnum.oN (some (Wnum.qu a b + Wnum.qu p q)))) (.int .i64 (Wnum.oD (some (Wnum.qu a b + Wnum.qu p q)))) ∧ At wx w9.heap.size (.int .i64 (Wnum.oN (some (Wnum.qu c d + Wnum.qu p q)))) (.int .i64 (Wnum.oD (some (Wnum.qu c d + Wnum.qu p q)))))
      case first =>
        cases hp : Wnum.oB (some (Wnum.qu a b + Wnum.qu p q)) with
        | false =>
          go_wp2_with fail
          go_meet
          case rel => exact ⟨rfl, hB10, pA10, pB10, pC10, pU10, pV10⟩
        | true =>
          cases hq : Wnum.oB (some (Wnum.qu c d + Wnum.qu p q)) with
          | false =>
            go_wp2_with fail
            go_meet
            case rel => exact ⟨rfl, hB10, pA10, pB10, pC10, pU10, pV10⟩
          | true =>
            have tpU := pU10
            obtain ⟨u1, u2, u3, u4⟩ := tpU
            have tpV := pV10
            obtain ⟨v1, v2, v3, v4⟩ := tpV
            go_wp2_with fail
            clear u1 u2 u3 u4 v1 v2 v3 v4
            refine (cmpq_any (Wnum.oN (some (Wnum.qu a b + Wnum.qu p q))) (Wnum.oD (some (Wnum.qu a b + Wnum.qu p q))) (Wnum.oN (some (Wnum.qu c d + Wnum.qu p q))) (Wnum.oD (some (Wnum.qu c d + Wnum.qu p q))) _ (by omega) (by omega) (by omega) (by omega) (by omega) (by omega) (by omega) (by omega)).mono ?_
            rintro e w11 ⟨rfl, hb11⟩
            rw [HUV.out hp hq]
            have pA11 := At.below hb11 (pA10)
            have pB11 := At.below hb11 (pB10)
            have pC11 := At.below hb11 (pC10)
            have pU11 := At.below hb11 (pU10)
            have pV11 := At.below hb11 (pV10)
            have hB11 := below_end hB10 hb11
            clear hb11 pA10 pB10 pC10 pU10 pV10 hB10
            go_wp2_with fail
            go_meet
            case rel => exact ⟨rfl, hB11, pA11, pB11, pC11, pU11, pV11⟩
      case rest =>
        clear pA10 pB10 pC10 pU10 pV10 hB10
        obtain ⟨h92, hB11, pA11, pB11, pC11, pU11, pV11⟩ := hcut
        subst h92
        generalize wc = w11 at *
        have tpA := pA11
        obtain ⟨a1, a2, a3, a4⟩ := tpA
        have tpB := pB11
        obtain ⟨b1, b2, b3, b4⟩ := tpB
        have tpC := pC11
        obtain ⟨c1, c2, c3, c4⟩ := tpC
        go_wp2_with fail
        clear a1 a2 a3 a4 b1 b2 b3 b4 c1 c2 c3 c4
        refine (mul_any a b p q _ h1 h2 h3 h4 k1 k2 k3 k4).mono ?_
        rintro e w12 ⟨rfl, hb12⟩
        have pA12 := At.below hb12 (pA11)
        have pB12 := At.below hb12 (pB11)
        have pC12 := At.below hb12 (pC11)
        have pU12 := At.below hb12 (pU11)
        have pV12 := At.below hb12 (pV11)
        have hB12 := below_end hB11 hb12
        clear hb12 pA11 pB11 pC11 pU11 pV11 hB11
        have xx := pU12
        obtain ⟨z1, z2, z3, z4⟩ := xx
        go_upto_region 13 with fail
        clear z1 z2 z3 z4
        have pU13 := pU12.put (.int .i64 (Wnum.oN (some (Wnum.qu a b * Wnum.qu p q)))) (.int .i64 (Wnum.oD (some (Wnum.qu a b * Wnum.qu p q))))
        have pA13 := pA12.far2 (j := w8.heap.size) (by omega) (.int .i64 (Wnum.oN (some (Wnum.qu a b * Wnum.qu p q)))) (.int .i64 (Wnum.oD (some (Wnum.qu a b * Wnum.qu p q))))
        have pB13 := pB12.far2 (j := w8.heap.size) (by omega) (.int .i64 (Wnum.oN (some (Wnum.qu a b * Wnum.qu p q)))) (.int .i64 (Wnum.oD (some (Wnum.qu a b * Wnum.qu p q))))
        have pC13 := pC12.far2 (j := w8.heap.size) (by omega) (.int .i64 (Wnum.oN (some (Wnum.qu a b * Wnum.qu p q)))) (.int .i64 (Wnum.oD (some (Wnum.qu a b * Wnum.qu p q))))
        have pV13 := pV12.far2 (j := w8.heap.size) (by omega) (.int .i64 (Wnum.oN (some (Wnum.qu a b * Wnum.qu p q)))) (.int .i64 (Wnum.oD (some (Wnum.qu a b * Wnum.qu p q))))
        have hB13 := put_below hB12 (k := w8.heap.size) (by omega) (.int .i64 (Wnum.oN (some (Wnum.qu a b * Wnum.qu p q)))) (.int .i64 (Wnum.oD (some (Wnum.qu a b * Wnum.qu p q))))
        clear pU12 pA12 pB12 pC12 pV12 hB12
        generalize (w12.setCell ⟨w8.heap.size, 0, none⟩ (.int .i64 (Wnum.oN (some (Wnum.qu a b * Wnum.qu p q))))).setCell ⟨w8.heap.size, 1, none⟩ (.int .i64 (Wnum.oD (some (Wnum.qu a b * Wnum.qu p q)))) = w13 at *
        clear w12
        have tpA := pA13
        obtain ⟨a1, a2, a3, a4⟩ := tpA
        have tpB := pB13
        obtain ⟨b1, b2, b3, b4⟩ := tpB
        have tpC := pC13
        obtain ⟨c1, c2, c3, c4⟩ := tpC
        go_wp2_with fail
        clear a1 a2 a3 a4 b1 b2 b3 b4 c1 c2 c3 c4
        refine (mul_any c d p q _ g1 g2 g3 g4 k1 k2 k3 k4).mono ?_
        rintro e w14 ⟨rfl, hb14⟩
        have pA14 := At.below hb14 (pA13)
        have pB14 := At.below hb14 (pB13)
        have pC14 := At.below hb14 (pC13)
        have pU14 := At.below hb14 (pU13)
        have pV14 := At.below hb14 (pV13)
        have hB14 := below_end hB13 hb14
        clear hb14 pA13 pB13 pC13 pU13 pV13 hB13
        have xx := pV14
        obtain ⟨z1, z2, z3, z4⟩ := xx
        go_upto_region 14 with fail
        clear z1 z2 z3 z4
        have pV15 := pV14.put (.int .i64 (Wnum.oN (some (Wnum.qu c d * Wnum.qu p q)))) (.int .i64 (Wnum.oD (some (Wnum.qu c d * Wnum.qu p q))))
        have pA15 := pA14.far2 (j := w9.heap.size) (by omega) (.int .i64 (Wnum.oN (some (Wnum.qu c d * Wnum.qu p q)))) (.int .i64 (Wnum.oD (some (Wnum.qu c d * Wnum.qu p q))))
        have pB15 := pB14.far2 (j := w9.heap.size) (by omega) (.int .i64 (Wnum.oN (some (Wnum.qu c d * Wnum.qu p q)))) (.int .i64 (Wnum.oD (some (Wnum.qu c d * Wnum.qu p q))))
        have pC15 := pC14.far2 (j := w9.heap.size) (by omega) (.int .i64 (Wnum.oN (some (Wnum.qu c d * Wnum.qu p q)))) (.int .i64 (Wnum.oD (some (Wnum.qu c d * Wnum.qu p q))))
        have pU15 := pU14.far2 (j := w9.heap.size) (by omega) (.int .i64 (Wnum.oN (some (Wnum.qu c d * Wnum.qu p q)))) (.int .i64 (Wnum.oD (some (Wnum.qu c d * Wnum.qu p q))))
        have hB15 := put_below hB14 (k := w9.heap.size) (by omega) (.int .i64 (Wnum.oN (some (Wnum.qu c d * Wnum.qu p q)))) (.int .i64 (Wnum.oD (some (Wnum.qu c d * Wnum.qu p q))))
        clear pV14 pA14 pB14 pC14 pU14 hB14
        generalize (w14.setCell ⟨w9.heap.size, 0, none⟩ (.int .i64 (Wnum.oN (some (Wnum.qu c d * Wnum.qu p q))))).setCell ⟨w9.heap.size, 1, none⟩ (.int .i64 (Wnum.oD (some (Wnum.qu c d * Wnum.qu p q)))) = w15 at *
        clear w14
        go_cut [12] (fun s12 wx => s12 = .int .i64 s ∧ Below w.heap.size w wx ∧ At wx w.heap.size (.int .i64 a) (.int .i64 b) ∧ At wx (w.heap.size + 1) (.int .i64 c) (.int .i64 d) ∧ At wx (w.heap.size + 2) (.int .i64 p) (.int .i64 q) ∧ At wx w8.heap.size (.int .i64 (Wnum.oN (some (Wnum.qu a b * Wnum.qu p q)))) (.int .i64 (Wnum.oD (some (Wnum.qu a b * Wnum.qu p q)))) ∧ At wx w9.heap.size (.int .i64 (Wnum.oN (some (Wnum.qu c d * Wnum.qu p q)))) (.int .i64 (Wnum.oD (some (Wnum.qu c d * Wnum.qu p q)))))
        case first =>
          have xx := pC15
          obtain ⟨c1, c2, c3, c4⟩ := xx
          go_region_with (first
            | (go_at_call 21; refine (zero_any _).mono ?_; rintro e wz ⟨rfl, hbz⟩; have cc := At.below hbz pC15.drew; obtain ⟨c1', c2', c3', c4'⟩ := cc)
            | (go_at_call 23; refine (cmpq_any p q 0 1 _ k1 k2 k3 k4 (by omega) (by omega) (by omega) (by omega)).mono ?_; rintro e wy ⟨rfl, hby⟩; rw [HS.out]))
          all_goals
            go_wp2_with fail
            go_meet
            case rel => exact ⟨rfl, below_end (below_end hB15.drew hbz) hby, At.below hby (At.below hbz pA15.drew), At.below hby (At.below hbz pB15.drew), At.below hby (At.below hbz pC15.drew), At.below hby (At.below hbz pU15.drew), At.below hby (At.below hbz pV15.drew)⟩
        case rest =>
          clear pA15 pB15 pC15 pU15 pV15 hB15
          obtain ⟨h12, hB16, pA16, pB16, pC16, pU16, pV16⟩ := hcut
          subst h12
          generalize wc = w16 at *
          cases hp : Wnum.oB (some (Wnum.qu a b * Wnum.qu p q)) with
          | false =>
            go_wp2
            go_ret
            exact ⟨rfl, hB16⟩
          | true =>
            cases hq : Wnum.oB (some (Wnum.qu c d * Wnum.qu p q)) with
            | false =>
              go_wp2
              go_ret
              exact ⟨rfl, hB16⟩
            | true =>
              have tpU := pU16
              obtain ⟨u1, u2, u3, u4⟩ := tpU
              have tpV := pV16
              obtain ⟨v1, v2, v3, v4⟩ := tpV
              go_wp2_with fail
              clear u1 u2 u3 u4 v1 v2 v3 v4
              refine (cmpq_any (Wnum.oN (some (Wnum.qu a b * Wnum.qu p q))) (Wnum.oD (some (Wnum.qu a b * Wnum.qu p q))) (Wnum.oN (some (Wnum.qu c d * Wnum.qu p q))) (Wnum.oD (some (Wnum.qu c d * Wnum.qu p q))) _ (by omega) (by omega) (by omega) (by omega) (by omega) (by omega) (by omega) (by omega)).mono ?_
              rintro e w17 ⟨rfl, hb17⟩
              rw [HMV.out hp hq]
              have pA17 := At.below hb17 (pA16)
              have pB17 := At.below hb17 (pB16)
              have pC17 := At.below hb17 (pC16)
              have pU17 := At.below hb17 (pU16)
              have pV17 := At.below hb17 (pV16)
              have hB17 := below_end hB16 hb17
              clear hb17 pA16 pB16 pC16 pU16 pV16 hB16
              go_wp2
              go_ret
              exact ⟨rfl, hB17⟩

theorem order_walk (a b c d p q : Int) (w : World) (h1 : -9223372036854775808 ≤ a) (h2 : a ≤ 9223372036854775807) (h3 : -9223372036854775808 ≤ b) (h4 : b ≤ 9223372036854775807)
    (g1 : -9223372036854775808 ≤ c) (g2 : c ≤ 9223372036854775807) (g3 : -9223372036854775808 ≤ d) (g4 : d ≤ 9223372036854775807)
    (k1 : -9223372036854775808 ≤ p) (k2 : p ≤ 9223372036854775807) (k3 : -9223372036854775808 ≤ q) (k4 : q ≤ 9223372036854775807) :
    Calls Tryd.prog 8 #[.agg #[.int .i64 a, .int .i64 b], .agg #[.int .i64 c, .int .i64 d], .agg #[.int .i64 p, .int .i64 q]] w fun e w' => e = .returned (.bool true) ∧ Below w.heap.size w w' := by
  cases ra : Wnum.rightB a b with
  | false =>
    have RA : Hid (Wnum.rightB a b = false) := ra
    clear ra
    go_enter Tryd.func8, Tryd.ntmps8
    go_wp2_with fail
    refine (able_any _).mono ?_
    rintro e w1 ⟨rfl, hb1⟩
    have pA1 : At w1 w.heap.size (.int .i64 a) (.int .i64 b) := At.below hb1 (((At.new w _ rfl _ _).alloc _).alloc _)
    have pB1 : At w1 (w.heap.size + 1) (.int .i64 c) (.int .i64 d) := At.below hb1 ((At.new (w.alloc _) _ (by simp) _ _).alloc _)
    have pC1 : At w1 (w.heap.size + 2) (.int .i64 p) (.int .i64 q) := At.below hb1 (At.new ((w.alloc _).alloc _) _ (by simp) _ _)
    have hB1 : Below w.heap.size w w1 := by with_reducible repeat (first | exact Below.refl _ _ | refine below_drewN ?_ _ | refine Below.setCell ?_ (by first | (simp; done) | (simp; omega) | omega) _ | refine Below.drew ?_ | refine below_end ?_ (by assumption) | refine ball ?_ _)
    clear hb1
    have tpA := pA1
    obtain ⟨a1, a2, a3, a4⟩ := tpA
    have tpB := pB1
    obtain ⟨b1, b2, b3, b4⟩ := tpB
    have tpC := pC1
    obtain ⟨c1, c2, c3, c4⟩ := tpC
    go_wp2_with fail
    clear a1 a2 a3 a4 b1 b2 b3 b4 c1 c2 c3 c4
    refine (lright_any a b _ h1 h2 h3 h4).mono ?_
    rintro e w2 ⟨rfl, hb2⟩
    rw [RA.out]
    have pA2 := At.below hb2 (pA1)
    have pB2 := At.below hb2 (pB1)
    have pC2 := At.below hb2 (pC1)
    have hB2 := below_end hB1 hb2
    clear hb2 pA1 pB1 pC1 hB1
    have tpA := pA2
    obtain ⟨a1, a2, a3, a4⟩ := tpA
    have tpB := pB2
    obtain ⟨b1, b2, b3, b4⟩ := tpB
    have tpC := pC2
    obtain ⟨c1, c2, c3, c4⟩ := tpC
    go_wp2_with fail
    clear a1 a2 a3 a4 b1 b2 b3 b4 c1 c2 c3 c4
    refine (able_any _).mono ?_
    rintro e w3 ⟨rfl, hb3⟩
    have pA3 := At.below hb3 (pA2)
    have pB3 := At.below hb3 (pB2)
    have pC3 := At.below hb3 (pC2)
    have hB3 := below_end hB2 hb3
    clear hb3 pA2 pB2 pC2 hB2
    go_wp2
    go_ret
    exact ⟨rfl, hB3⟩
  | true =>
    cases rb : Wnum.rightB c d with
    | false =>
      have RA : Hid (Wnum.rightB a b = true) := ra
      have RB : Hid (Wnum.rightB c d = false) := rb
      clear ra rb
      go_enter Tryd.func8, Tryd.ntmps8
      go_wp2_with fail
      refine (able_any _).mono ?_
      rintro e w1 ⟨rfl, hb1⟩
      have pA1 : At w1 w.heap.size (.int .i64 a) (.int .i64 b) := At.below hb1 (((At.new w _ rfl _ _).alloc _).alloc _)
      have pB1 : At w1 (w.heap.size + 1) (.int .i64 c) (.int .i64 d) := At.below hb1 ((At.new (w.alloc _) _ (by simp) _ _).alloc _)
      have pC1 : At w1 (w.heap.size + 2) (.int .i64 p) (.int .i64 q) := At.below hb1 (At.new ((w.alloc _).alloc _) _ (by simp) _ _)
      have hB1 : Below w.heap.size w w1 := by with_reducible repeat (first | exact Below.refl _ _ | refine below_drewN ?_ _ | refine Below.setCell ?_ (by first | (simp; done) | (simp; omega) | omega) _ | refine Below.drew ?_ | refine below_end ?_ (by assumption) | refine ball ?_ _)
      clear hb1
      have tpA := pA1
      obtain ⟨a1, a2, a3, a4⟩ := tpA
      have tpB := pB1
      obtain ⟨b1, b2, b3, b4⟩ := tpB
      have tpC := pC1
      obtain ⟨c1, c2, c3, c4⟩ := tpC
      go_wp2_with fail
      clear a1 a2 a3 a4 b1 b2 b3 b4 c1 c2 c3 c4
      refine (lright_any a b _ h1 h2 h3 h4).mono ?_
      rintro e w2 ⟨rfl, hb2⟩
      rw [RA.out]
      have pA2 := At.below hb2 (pA1)
      have pB2 := At.below hb2 (pB1)
      have pC2 := At.below hb2 (pC1)
      have hB2 := below_end hB1 hb2
      clear hb2 pA1 pB1 pC1 hB1
      have tpA := pA2
      obtain ⟨a1, a2, a3, a4⟩ := tpA
      have tpB := pB2
      obtain ⟨b1, b2, b3, b4⟩ := tpB
      have tpC := pC2
      obtain ⟨c1, c2, c3, c4⟩ := tpC
      go_wp2_with fail
      clear a1 a2 a3 a4 b1 b2 b3 b4 c1 c2 c3 c4
      refine (lright_any c d _ g1 g2 g3 g4).mono ?_
      rintro e w3 ⟨rfl, hb3⟩
      rw [RB.out]
      have pA3 := At.below hb3 (pA2)
      have pB3 := At.below hb3 (pB2)
      have pC3 := At.below hb3 (pC2)
      have hB3 := below_end hB2 hb3
      clear hb3 pA2 pB2 pC2 hB2
      have tpA := pA3
      obtain ⟨a1, a2, a3, a4⟩ := tpA
      have tpB := pB3
      obtain ⟨b1, b2, b3, b4⟩ := tpB
      have tpC := pC3
      obtain ⟨c1, c2, c3, c4⟩ := tpC
      go_wp2_with fail
      clear a1 a2 a3 a4 b1 b2 b3 b4 c1 c2 c3 c4
      refine (able_any _).mono ?_
      rintro e w4 ⟨rfl, hb4⟩
      have pA4 := At.below hb4 (pA3)
      have pB4 := At.below hb4 (pB3)
      have pC4 := At.below hb4 (pC3)
      have hB4 := below_end hB3 hb4
      clear hb4 pA3 pB3 pC3 hB3
      go_wp2
      go_ret
      exact ⟨rfl, hB4⟩
    | true =>
      cases rc : Wnum.rightB p q with
      | false =>
        have RA : Hid (Wnum.rightB a b = true) := ra
        have RB : Hid (Wnum.rightB c d = true) := rb
        have RC : Hid (Wnum.rightB p q = false) := rc
        clear ra rb rc
        go_enter Tryd.func8, Tryd.ntmps8
        go_wp2_with fail
        refine (able_any _).mono ?_
        rintro e w1 ⟨rfl, hb1⟩
        have pA1 : At w1 w.heap.size (.int .i64 a) (.int .i64 b) := At.below hb1 (((At.new w _ rfl _ _).alloc _).alloc _)
        have pB1 : At w1 (w.heap.size + 1) (.int .i64 c) (.int .i64 d) := At.below hb1 ((At.new (w.alloc _) _ (by simp) _ _).alloc _)
        have pC1 : At w1 (w.heap.size + 2) (.int .i64 p) (.int .i64 q) := At.below hb1 (At.new ((w.alloc _).alloc _) _ (by simp) _ _)
        have hB1 : Below w.heap.size w w1 := by with_reducible repeat (first | exact Below.refl _ _ | refine below_drewN ?_ _ | refine Below.setCell ?_ (by first | (simp; done) | (simp; omega) | omega) _ | refine Below.drew ?_ | refine below_end ?_ (by assumption) | refine ball ?_ _)
        clear hb1
        have tpA := pA1
        obtain ⟨a1, a2, a3, a4⟩ := tpA
        have tpB := pB1
        obtain ⟨b1, b2, b3, b4⟩ := tpB
        have tpC := pC1
        obtain ⟨c1, c2, c3, c4⟩ := tpC
        go_wp2_with fail
        clear a1 a2 a3 a4 b1 b2 b3 b4 c1 c2 c3 c4
        refine (lright_any a b _ h1 h2 h3 h4).mono ?_
        rintro e w2 ⟨rfl, hb2⟩
        rw [RA.out]
        have pA2 := At.below hb2 (pA1)
        have pB2 := At.below hb2 (pB1)
        have pC2 := At.below hb2 (pC1)
        have hB2 := below_end hB1 hb2
        clear hb2 pA1 pB1 pC1 hB1
        have tpA := pA2
        obtain ⟨a1, a2, a3, a4⟩ := tpA
        have tpB := pB2
        obtain ⟨b1, b2, b3, b4⟩ := tpB
        have tpC := pC2
        obtain ⟨c1, c2, c3, c4⟩ := tpC
        go_wp2_with fail
        clear a1 a2 a3 a4 b1 b2 b3 b4 c1 c2 c3 c4
        refine (lright_any c d _ g1 g2 g3 g4).mono ?_
        rintro e w3 ⟨rfl, hb3⟩
        rw [RB.out]
        have pA3 := At.below hb3 (pA2)
        have pB3 := At.below hb3 (pB2)
        have pC3 := At.below hb3 (pC2)
        have hB3 := below_end hB2 hb3
        clear hb3 pA2 pB2 pC2 hB2
        have tpA := pA3
        obtain ⟨a1, a2, a3, a4⟩ := tpA
        have tpB := pB3
        obtain ⟨b1, b2, b3, b4⟩ := tpB
        have tpC := pC3
        obtain ⟨c1, c2, c3, c4⟩ := tpC
        go_wp2_with fail
        clear a1 a2 a3 a4 b1 b2 b3 b4 c1 c2 c3 c4
        refine (lright_any p q _ k1 k2 k3 k4).mono ?_
        rintro e w4 ⟨rfl, hb4⟩
        rw [RC.out]
        have pA4 := At.below hb4 (pA3)
        have pB4 := At.below hb4 (pB3)
        have pC4 := At.below hb4 (pC3)
        have hB4 := below_end hB3 hb4
        clear hb4 pA3 pB3 pC3 hB3
        have tpA := pA4
        obtain ⟨a1, a2, a3, a4⟩ := tpA
        have tpB := pB4
        obtain ⟨b1, b2, b3, b4⟩ := tpB
        have tpC := pC4
        obtain ⟨c1, c2, c3, c4⟩ := tpC
        go_wp2_with fail
        clear a1 a2 a3 a4 b1 b2 b3 b4 c1 c2 c3 c4
        refine (able_any _).mono ?_
        rintro e w5 ⟨rfl, hb5⟩
        have pA5 := At.below hb5 (pA4)
        have pB5 := At.below hb5 (pB4)
        have pC5 := At.below hb5 (pC4)
        have hB5 := below_end hB4 hb5
        clear hb5 pA4 pB4 pC4 hB4
        go_wp2
        go_ret
        exact ⟨rfl, hB5⟩
      | true =>
        obtain ⟨x1, x2⟩ := Wnum.cs_bd (Wnum.qu a b) (Wnum.qu c d)
        obtain ⟨s1, s2⟩ := Wnum.cs_bd (Wnum.qu p q) (Wnum.qu 0 1)
        have xs : -1 ≤ Wnum.cs (Wnum.qu a b) (Wnum.qu c d) * Wnum.cs (Wnum.qu p q) (Wnum.qu 0 1) ∧ Wnum.cs (Wnum.qu a b) (Wnum.qu c d) * Wnum.cs (Wnum.qu p q) (Wnum.qu 0 1) ≤ 1 := by
          obtain h | h | h : Wnum.cs (Wnum.qu p q) (Wnum.qu 0 1) = -1 ∨ Wnum.cs (Wnum.qu p q) (Wnum.qu 0 1) = 0 ∨ Wnum.cs (Wnum.qu p q) (Wnum.qu 0 1) = 1 := by omega
          · rw [h]; omega
          · rw [h]; omega
          · rw [h]; omega
        refine order_main a b c d p q _ _ _ _ w h1 h2 h3 h4 g1 g2 g3 g4 k1 k2 k3 k4 ra rb rc (rfl : Wnum.cs (Wnum.qu a b) (Wnum.qu c d) = _) (Wnum.cs_anti (Wnum.qu a b) (Wnum.qu c d)) (rfl : Wnum.cs (Wnum.qu c d) (Wnum.qu p q) = _) (rfl : Wnum.cs (Wnum.qu a b) (Wnum.qu p q) = _) (rfl : Wnum.cs (Wnum.qu p q) (Wnum.qu 0 1) = _) x1 x2 s1 s2 xs.1 xs.2 (decide_eq_false (by omega)) (decide_eq_false (by omega)) ?_ ?_ ?_ ?_ ?_ ?_
        · show _ ∨ _
          by_cases e : Wnum.qu a b = Wnum.qu c d
          · obtain ⟨e1, e2⟩ := (Wnum.qu_inj ra rb).1 e
            exact Or.inl ⟨beq_iff_eq.2 (Wnum.cs_zero.2 e), beq_iff_eq.2 e1, beq_iff_eq.2 e2⟩
          · have e0 : (Wnum.cs (Wnum.qu a b) (Wnum.qu c d) == 0) = false := beq_eq_false_iff_ne.2 (fun h => e (Wnum.cs_zero.1 h))
            by_cases e1 : a = c
            · have e2 : b ≠ d := fun h => e ((Wnum.qu_inj ra rb).2 ⟨e1, h⟩)
              exact Or.inr (Or.inl ⟨e0, beq_iff_eq.2 e1, beq_eq_false_iff_ne.2 e2⟩)
            · exact Or.inr (Or.inr ⟨e0, beq_eq_false_iff_ne.2 e1⟩)
        · show _ ∨ _
          cases decide (Wnum.cs (Wnum.qu a b) (Wnum.qu c d) ≤ 0) <;> simp
        · show _ ∨ _
          cases decide (Wnum.cs (Wnum.qu c d) (Wnum.qu p q) ≤ 0) <;> simp
        · exact (fun ha hb => decide_eq_false (by have := Wnum.cs_trans (of_decide_eq_true ha) (of_decide_eq_true hb); omega) : decide (Wnum.cs (Wnum.qu a b) (Wnum.qu c d) ≤ 0) = true → decide (Wnum.cs (Wnum.qu c d) (Wnum.qu p q) ≤ 0) = true → decide (0 < Wnum.cs (Wnum.qu a b) (Wnum.qu p q)) = false)
        · exact (fun ha hb => by rw [Wnum.qu_o ha, Wnum.qu_o hb, Wnum.cs_add] : Wnum.oB (some (Wnum.qu a b + Wnum.qu p q)) = true → Wnum.oB (some (Wnum.qu c d + Wnum.qu p q)) = true → Wnum.cs (Wnum.qu (Wnum.oN (some (Wnum.qu a b + Wnum.qu p q))) (Wnum.oD (some (Wnum.qu a b + Wnum.qu p q)))) (Wnum.qu (Wnum.oN (some (Wnum.qu c d + Wnum.qu p q))) (Wnum.oD (some (Wnum.qu c d + Wnum.qu p q)))) = Wnum.cs (Wnum.qu a b) (Wnum.qu c d))
        · exact (fun ha hb => by rw [Wnum.qu_o ha, Wnum.qu_o hb, Wnum.cs_mul, Wnum.qu_01] : Wnum.oB (some (Wnum.qu a b * Wnum.qu p q)) = true → Wnum.oB (some (Wnum.qu c d * Wnum.qu p q)) = true → Wnum.cs (Wnum.qu (Wnum.oN (some (Wnum.qu a b * Wnum.qu p q))) (Wnum.oD (some (Wnum.qu a b * Wnum.qu p q)))) (Wnum.qu (Wnum.oN (some (Wnum.qu c d * Wnum.qu p q))) (Wnum.oD (some (Wnum.qu c d * Wnum.qu p q)))) = Wnum.cs (Wnum.qu a b) (Wnum.qu c d) * Wnum.cs (Wnum.qu p q) (Wnum.qu 0 1))
end Go.Proofs.YtfbgdfpbbnhfmabDoor
