/- NumBacks answers true, whatever it is asked. -/
import Derived.Test.YtfbgdfpbbnhfmabDoorWalkV
import Derived.Deep.DeepCutAuto
namespace Go.Proofs.YtfbgdfpbbnhfmabDoor
open Go.RowKit
set_option linter.unusedVariables false

theorem keep5 {W W' : World} {k0 k1 k2 : Nat} {a z1 z2 x1 x2 : Value} (hb : Below W.heap.size W W') (h : W.cell? ⟨k0, 0, none⟩ = some a ∧ W.cell? ⟨k1, 0, none⟩ = some z1 ∧ W.cell? ⟨k1, 1, none⟩ = some z2 ∧ W.cell? ⟨k2, 0, none⟩ = some x1 ∧ W.cell? ⟨k2, 1, none⟩ = some x2) :
    W'.cell? ⟨k0, 0, none⟩ = some a ∧ W'.cell? ⟨k1, 0, none⟩ = some z1 ∧ W'.cell? ⟨k1, 1, none⟩ = some z2 ∧ W'.cell? ⟨k2, 0, none⟩ = some x1 ∧ W'.cell? ⟨k2, 1, none⟩ = some x2 := by
  obtain ⟨p1, p2, p3, p4, p5⟩ := h
  exact ⟨(hb.cell (p := ⟨k0, 0, none⟩) (World.block_lt_of_cell? W _ p1)).trans p1, (hb.cell (p := ⟨k1, 0, none⟩) (World.block_lt_of_cell? W _ p2)).trans p2, (hb.cell (p := ⟨k1, 1, none⟩) (World.block_lt_of_cell? W _ p3)).trans p3, (hb.cell (p := ⟨k2, 0, none⟩) (World.block_lt_of_cell? W _ p4)).trans p4, (hb.cell (p := ⟨k2, 1, none⟩) (World.block_lt_of_cell? W _ p5)).trans p5⟩

set_option maxRecDepth 100000 in
set_option maxHeartbeats 6400000 in
theorem backs_main (a b c d : Int) (w : World) (h1 : -9223372036854775808 ≤ a) (h2 : a ≤ 9223372036854775807) (h3 : -9223372036854775808 ≤ b) (h4 : b ≤ 9223372036854775807)
    (g1 : -9223372036854775808 ≤ c) (g2 : c ≤ 9223372036854775807) (g3 : -9223372036854775808 ≤ d) (g4 : d ≤ 9223372036854775807) (RA : Hid (Wnum.rightB a b = true)) (RB : Hid (Wnum.rightB c d = true))
    (SELF : Hid (Wnum.qu a b - Wnum.qu a b = 0)) (Z1 : Hid (Wnum.oN (some 0) = 0)) (Z2 : Hid (Wnum.oD (some 0) = 1)) (Z3 : Hid (Wnum.oB (some 0) = true))
    (O1 : Hid (Wnum.oN (some 1) = 1)) (O2 : Hid (Wnum.oD (some 1) = 1)) (O3 : Hid (Wnum.oB (some 1) = true))
    (A1 : Hid (Wnum.oN (some (Wnum.qu a b)) = a)) (A2 : Hid (Wnum.oD (some (Wnum.qu a b)) = b)) (A3 : Hid (Wnum.oB (some (Wnum.qu a b)) = true))
    (SUBB : Hid (Wnum.oB (some (Wnum.qu a b + Wnum.qu c d)) = true → Wnum.qu (Wnum.oN (some (Wnum.qu a b + Wnum.qu c d))) (Wnum.oD (some (Wnum.qu a b + Wnum.qu c d))) - Wnum.qu c d = Wnum.qu a b))
    (HC : Hid ((c != 0) = false ∨ (c != 0) = true))
    (DIVB : Hid (Wnum.oB (some (Wnum.qu a b * Wnum.qu c d)) = true → (c != 0) = true → Wnum.mk (Wnum.cN (Wnum.oN (some (Wnum.qu a b * Wnum.qu c d))) (Wnum.oD (some (Wnum.qu a b * Wnum.qu c d))) * Wnum.cD c d) (Wnum.cN c d * Wnum.cD (Wnum.oN (some (Wnum.qu a b * Wnum.qu c d))) (Wnum.oD (some (Wnum.qu a b * Wnum.qu c d)))) = some (Wnum.qu a b)))
    (HA : Hid (((a != 0) = false ∧ (a == 0) = true ∧ Hid (Wnum.mk (Wnum.cN a b * Wnum.cD a b) (Wnum.cN a b * Wnum.cD a b) = none)) ∨ ((a != 0) = true ∧ (a == 0) = false ∧ Hid (Wnum.mk (Wnum.cN a b * Wnum.cD a b) (Wnum.cN a b * Wnum.cD a b) = some 1)))) :
    Calls Tryd.prog 7 #[.agg #[.int .i64 a, .int .i64 b], .agg #[.int .i64 c, .int .i64 d]] w fun e w' => e = .returned (.bool true) ∧ Below w.heap.size w w' := by
  obtain ⟨o1, o2, o3, o4⟩ := Wnum.oN_bd (some (Wnum.qu a b + Wnum.qu c d))
  obtain ⟨o5, o6, o7, o8⟩ := Wnum.oN_bd (some (Wnum.qu a b * Wnum.qu c d))
  go_enter Tryd.func7, Tryd.ntmps7
  go_wp2_with fail
  refine (able_any _).mono ?_
  rintro e w1 ⟨rfl, hb1⟩
  have pA1 : At w1 w.heap.size (.int .i64 a) (.int .i64 b) := At.below hb1 ((At.new w _ rfl _ _).alloc _)
  have pB1 : At w1 (w.heap.size + 1) (.int .i64 c) (.int .i64 d) := At.below hb1 (At.new (w.alloc _) _ (by simp) _ _)
  have hB1 : Below w.heap.size w w1 := by with_reducible repeat (first | exact Below.refl _ _ | refine below_drewN ?_ _ | refine Below.setCell ?_ (by first | (simp; done) | (simp; omega) | omega) _ | refine Below.drew ?_ | refine below_end ?_ (by assumption) | refine ball ?_ _)
  clear hb1
  have tpA := pA1
  obtain ⟨a1, a2, a3, a4⟩ := tpA
  have tpB := pB1
  obtain ⟨b1, b2, b3, b4⟩ := tpB
  go_wp2_with fail
  clear a1 a2 a3 a4 b1 b2 b3 b4
  refine (lright_any a b _ h1 h2 h3 h4).mono ?_
  rintro e w2 ⟨rfl, hb2⟩
  rw [RA.out]
  have pA2 := At.below hb2 (pA1)
  have pB2 := At.below hb2 (pB1)
  have hB2 := below_end hB1 hb2
  clear hb2 pA1 pB1 hB1
  have tpA := pA2
  obtain ⟨a1, a2, a3, a4⟩ := tpA
  have tpB := pB2
  obtain ⟨b1, b2, b3, b4⟩ := tpB
  go_wp2_with fail
  clear a1 a2 a3 a4 b1 b2 b3 b4
  refine (lright_any c d _ g1 g2 g3 g4).mono ?_
  rintro e w3 ⟨rfl, hb3⟩
  rw [RB.out]
  have pA3 := At.below hb3 (pA2)
  have pB3 := At.below hb3 (pB2)
  have hB3 := below_end hB2 hb3
  clear hb3 pA2 pB2 hB2
  have tpA := pA3
  obtain ⟨a1, a2, a3, a4⟩ := tpA
  have tpB := pB3
  obtain ⟨b1, b2, b3, b4⟩ := tpB
  go_wp2_with fail
  clear a1 a2 a3 a4 b1 b2 b3 b4
  refine (add_any a b c d _ h1 h2 h3 h4 g1 g2 g3 g4).mono ?_
  rintro e w4 ⟨rfl, hb4⟩
  have pA4 := At.below hb4 (pA3)
  have pB4 := At.below hb4 (pB3)
  have hB4 := below_end hB3 hb4
  clear hb4 pA3 pB3 hB3
  go_upto_if 33 with fail
  go_cut [6] (fun _ wx => Below w.heap.size w wx ∧ At wx w.heap.size (.int .i64 a) (.int .i64 b) ∧ At wx (w.heap.size + 1) (.int .i64 c) (.int .i64 d))
  case first =>
    cases hp : Wnum.oB (some (Wnum.qu a b + Wnum.qu c d)) with
    | false =>
      go_wp2_with fail
      go_meet
      case rel => exact ⟨ball hB4 (.cells #[.int .i64 (Wnum.oN (some (Wnum.qu a b + Wnum.qu c d))), .int .i64 (Wnum.oD (some (Wnum.qu a b + Wnum.qu c d)))] 23), pA4.alloc (.cells #[.int .i64 (Wnum.oN (some (Wnum.qu a b + Wnum.qu c d))), .int .i64 (Wnum.oD (some (Wnum.qu a b + Wnum.qu c d)))] 23), pB4.alloc (.cells #[.int .i64 (Wnum.oN (some (Wnum.qu a b + Wnum.qu c d))), .int .i64 (Wnum.oD (some (Wnum.qu a b + Wnum.qu c d)))] 23)⟩
    | true =>
      have tpA := pA4.alloc (.cells #[.int .i64 (Wnum.oN (some (Wnum.qu a b + Wnum.qu c d))), .int .i64 (Wnum.oD (some (Wnum.qu a b + Wnum.qu c d)))] 23)
      obtain ⟨a1, a2, a3, a4⟩ := tpA
      have tpB := pB4.alloc (.cells #[.int .i64 (Wnum.oN (some (Wnum.qu a b + Wnum.qu c d))), .int .i64 (Wnum.oD (some (Wnum.qu a b + Wnum.qu c d)))] 23)
      obtain ⟨b1, b2, b3, b4⟩ := tpB
      obtain ⟨x1, x2, x3, x4⟩ := At.new w4 23 rfl (.int .i64 (Wnum.oN (some (Wnum.qu a b + Wnum.qu c d)))) (.int .i64 (Wnum.oD (some (Wnum.qu a b + Wnum.qu c d))))
      go_wp2_with fail
      clear a1 a2 a3 a4 b1 b2 b3 b4 x1 x2 x3 x4
      refine (sub_any (Wnum.oN (some (Wnum.qu a b + Wnum.qu c d))) (Wnum.oD (some (Wnum.qu a b + Wnum.qu c d))) c d _ (by omega) (by omega) (by omega) (by omega) g1 g2 g3 g4).mono ?_
      rintro e w5 ⟨rfl, hb5⟩
      rw [SUBB.out hp, A1.out, A2.out, A3.out]
      have pA5 := At.below hb5 (pA4.alloc (.cells #[.int .i64 (Wnum.oN (some (Wnum.qu a b + Wnum.qu c d))), .int .i64 (Wnum.oD (some (Wnum.qu a b + Wnum.qu c d)))] 23))
      have pB5 := At.below hb5 (pB4.alloc (.cells #[.int .i64 (Wnum.oN (some (Wnum.qu a b + Wnum.qu c d))), .int .i64 (Wnum.oD (some (Wnum.qu a b + Wnum.qu c d)))] 23))
      have hB5 := below_end (ball hB4 (.cells #[.int .i64 (Wnum.oN (some (Wnum.qu a b + Wnum.qu c d))), .int .i64 (Wnum.oD (some (Wnum.qu a b + Wnum.qu c d)))] 23)) hb5
      clear hb5 pA4 pB4 hB4
      have tpA := pA5.alloc (.cells #[.int .i64 a, .int .i64 b] 23)
      obtain ⟨a1, a2, a3, a4⟩ := tpA
      have tpB := pB5.alloc (.cells #[.int .i64 a, .int .i64 b] 23)
      obtain ⟨b1, b2, b3, b4⟩ := tpB
      obtain ⟨y1, y2, y3, y4⟩ := At.new w5 23 rfl (.int .i64 a) (.int .i64 b)
      go_wp2_with fail
      clear a1 a2 a3 a4 b1 b2 b3 b4 y1 y2 y3 y4
      go_meet
      case rel => exact ⟨ball hB5 (.cells #[.int .i64 a, .int .i64 b] 23), pA5.alloc (.cells #[.int .i64 a, .int .i64 b] 23), pB5.alloc (.cells #[.int .i64 a, .int .i64 b] 23)⟩
  case rest =>
    clear pA4 pB4 hB4
    obtain ⟨hB5, pA5, pB5⟩ := hcut
    generalize wc = w5 at *
    have tpA := pA5
    obtain ⟨a1, a2, a3, a4⟩ := tpA
    have tpB := pB5
    obtain ⟨b1, b2, b3, b4⟩ := tpB
    go_wp2_with fail
    clear a1 a2 a3 a4 b1 b2 b3 b4
    refine (mul_any a b c d _ h1 h2 h3 h4 g1 g2 g3 g4).mono ?_
    rintro e w6 ⟨rfl, hb6⟩
    have pA6 := At.below hb6 (pA5)
    have pB6 := At.below hb6 (pB5)
    have hB6 := below_end hB5 hb6
    clear hb6 pA5 pB5 hB5
    have tpB := pB6.alloc (.cells #[.int .i64 (Wnum.oN (some (Wnum.qu a b * Wnum.qu c d))), .int .i64 (Wnum.oD (some (Wnum.qu a b * Wnum.qu c d)))] 23)
    obtain ⟨b1, b2, b3, b4⟩ := tpB
    go_upto_region 11 with fail
    go_cut [10, 58] (fun _ s58 wx => s58 = .bool (Wnum.oB (some (Wnum.qu a b * Wnum.qu c d)) && (c != 0)) ∧ Below w.heap.size w wx ∧ At wx w.heap.size (.int .i64 a) (.int .i64 b) ∧ At wx (w.heap.size + 1) (.int .i64 c) (.int .i64 d) ∧ At wx w6.heap.size (.int .i64 (Wnum.oN (some (Wnum.qu a b * Wnum.qu c d)))) (.int .i64 (Wnum.oD (some (Wnum.qu a b * Wnum.qu c d)))))
    case first =>
      cases hr : Wnum.oB (some (Wnum.qu a b * Wnum.qu c d)) with
      | false =>
        go_wp2_with fail
        go_meet
        case rel => exact ⟨by simp [hr], ball hB6 (.cells #[.int .i64 (Wnum.oN (some (Wnum.qu a b * Wnum.qu c d))), .int .i64 (Wnum.oD (some (Wnum.qu a b * Wnum.qu c d)))] 23), pA6.alloc (.cells #[.int .i64 (Wnum.oN (some (Wnum.qu a b * Wnum.qu c d))), .int .i64 (Wnum.oD (some (Wnum.qu a b * Wnum.qu c d)))] 23), pB6.alloc (.cells #[.int .i64 (Wnum.oN (some (Wnum.qu a b * Wnum.qu c d))), .int .i64 (Wnum.oD (some (Wnum.qu a b * Wnum.qu c d)))] 23), At.new w6 23 rfl _ _⟩
      | true =>
        rcases HC.out with hc | hc
        · go_wp2_with fail
          go_meet
          case rel => exact ⟨by simp [hr, hc], ball hB6 (.cells #[.int .i64 (Wnum.oN (some (Wnum.qu a b * Wnum.qu c d))), .int .i64 (Wnum.oD (some (Wnum.qu a b * Wnum.qu c d)))] 23), pA6.alloc (.cells #[.int .i64 (Wnum.oN (some (Wnum.qu a b * Wnum.qu c d))), .int .i64 (Wnum.oD (some (Wnum.qu a b * Wnum.qu c d)))] 23), pB6.alloc (.cells #[.int .i64 (Wnum.oN (some (Wnum.qu a b * Wnum.qu c d))), .int .i64 (Wnum.oD (some (Wnum.qu a b * Wnum.qu c d)))] 23), At.new w6 23 rfl _ _⟩
        · go_wp2_with fail
          go_meet
          case rel => exact ⟨by simp [hr, hc], ball hB6 (.cells #[.int .i64 (Wnum.oN (some (Wnum.qu a b * Wnum.qu c d))), .int .i64 (Wnum.oD (some (Wnum.qu a b * Wnum.qu c d)))] 23), pA6.alloc (.cells #[.int .i64 (Wnum.oN (some (Wnum.qu a b * Wnum.qu c d))), .int .i64 (Wnum.oD (some (Wnum.qu a b * Wnum.qu c d)))] 23), pB6.alloc (.cells #[.int .i64 (Wnum.oN (some (Wnum.qu a b * Wnum.qu c d))), .int .i64 (Wnum.oD (some (Wnum.qu a b * Wnum.qu c d)))] 23), At.new w6 23 rfl _ _⟩
    case rest =>
      clear b1 b2 b3 b4 pA6 pB6 hB6
      obtain ⟨h58, hB7, pA7, pB7, pU7⟩ := hcut
      subst h58
      generalize wc = w7 at *
      generalize hbb : (Wnum.oB (some (Wnum.qu a b * Wnum.qu c d)) && (c != 0)) = bb
      have HBB : Hid ((Wnum.oB (some (Wnum.qu a b * Wnum.qu c d)) && (c != 0)) = bb) := hbb
      clear hbb
      go_upto_if 58 with fail
      go_cut [58] (fun _ wx => Below w.heap.size w wx ∧ At wx w.heap.size (.int .i64 a) (.int .i64 b) ∧ At wx (w.heap.size + 1) (.int .i64 c) (.int .i64 d))
      case first =>
        cases bb with
        | false =>
          go_wp2_with fail
          go_meet
          case rel => exact ⟨hB7, pA7, pB7⟩
        | true =>
          have HR : Hid (Wnum.oB (some (Wnum.qu a b * Wnum.qu c d)) = true) := (Bool.and_eq_true_iff.1 HBB.out).1
          have HC2 : Hid ((c != 0) = true) := (Bool.and_eq_true_iff.1 HBB.out).2
          have tA := pA7
          obtain ⟨a1, a2, a3, a4⟩ := tA
          have tB := pB7
          obtain ⟨b1, b2, b3, b4⟩ := tB
          have tU := pU7
          obtain ⟨u1, u2, u3, u4⟩ := tU
          go_wp2_with fail
          clear a1 a2 a3 a4 b1 b2 b3 b4 u1 u2 u3 u4
          refine (div_any (Wnum.oN (some (Wnum.qu a b * Wnum.qu c d))) (Wnum.oD (some (Wnum.qu a b * Wnum.qu c d))) c d _ (by omega) (by omega) (by omega) (by omega) g1 g2 g3 g4).mono ?_
          rintro e w8 ⟨rfl, hb8⟩
          rw [DIVB.out HR.out HC2.out, A1.out, A2.out, A3.out]
          have pA8 := At.below hb8 (pA7)
          have pB8 := At.below hb8 (pB7)
          have hB8 := below_end hB7 hb8
          clear hb8 pA7 pB7 hB7
          have tpA := pA8.alloc (.cells #[.int .i64 a, .int .i64 b] 23)
          obtain ⟨a1, a2, a3, a4⟩ := tpA
          obtain ⟨v1, v2, v3, v4⟩ := At.new w8 23 rfl (.int .i64 a) (.int .i64 b)
          go_wp2_with fail
          clear a1 a2 a3 a4 v1 v2 v3 v4
          go_meet
          case rel => exact ⟨ball hB8 (.cells #[.int .i64 a, .int .i64 b] 23), pA8.alloc (.cells #[.int .i64 a, .int .i64 b] 23), pB8.alloc (.cells #[.int .i64 a, .int .i64 b] 23)⟩
      case rest =>
        clear pA7 pB7 pU7 hB7
        obtain ⟨hB8, pA8, pB8⟩ := hcut
        generalize wc = w8 at *
        have tpA := pA8
        obtain ⟨a1, a2, a3, a4⟩ := tpA
        have tpB := pB8
        obtain ⟨b1, b2, b3, b4⟩ := tpB
        go_wp2_with fail
        clear a1 a2 a3 a4 b1 b2 b3 b4
        refine (sub_any a b a b _ h1 h2 h3 h4 h1 h2 h3 h4).mono ?_
        rintro e w9 ⟨rfl, hb9⟩
        rw [SELF.out, Z1.out, Z2.out, Z3.out]
        have pA9 := At.below hb9 (pA8)
        have pB9 := At.below hb9 (pB8)
        have hB9 := below_end hB8 hb9
        clear hb9 pA8 pB8 hB8
        have tpA := pA9.alloc (.cells #[.int .i64 0, .int .i64 1] 23)
        obtain ⟨a1, a2, a3, a4⟩ := tpA
        go_wp2_with fail
        clear a1 a2 a3 a4
        have pZ9 := At.new w9 23 rfl (.int .i64 0) (.int .i64 1)
        refine (div_any a b a b _ h1 h2 h3 h4 h1 h2 h3 h4).mono ?_
        rintro e w10 ⟨rfl, hb10⟩
        have pA10 := At.below hb10 (pA9.alloc (.cells #[.int .i64 0, .int .i64 1] 23))
        have pB10 := At.below hb10 (pB9.alloc (.cells #[.int .i64 0, .int .i64 1] 23))
        have pZ10 := At.below hb10 pZ9
        have hB10 := below_end (ball hB9 (.cells #[.int .i64 0, .int .i64 1] 23)) hb10
        clear hb10 pA9 pB9 pZ9 hB9
        rcases HA.out with ⟨ha1, ha2, DIVZ⟩ | ⟨ha1, ha2, DIVS⟩
        · rw [DIVZ.out]
          rw [show Wnum.oN none = 0 from rfl, show Wnum.oD none = 0 from rfl, show Wnum.oB none = false from rfl]
          have tA := pA10.alloc (.cells #[.int .i64 0, .int .i64 0] 23)
          obtain ⟨a1, a2, a3, a4⟩ := tA
          have tZ := pZ10.alloc (.cells #[.int .i64 0, .int .i64 0] 23)
          obtain ⟨z1, z2, z3, z4⟩ := tZ
          obtain ⟨x1, x2, x3, x4⟩ := At.new w10 23 rfl (.int .i64 0) (.int .i64 0)
          have hB11 := ball hB10 (.cells #[.int .i64 0, .int .i64 0] 23)
          clear pA10 pB10 pZ10 hB10
          go_wp2_with fail
          have za := At.lt ⟨a1, a2, a3, a4⟩
          have zb := At.lt ⟨z1, z2, z3, z4⟩
          go_region_with (first
              | (go_at_call 21; refine (zero_any _).mono ?_; rintro e wz ⟨rfl, hb⟩; have aa := (hb.cell (p := ⟨w.heap.size, 0, none⟩) (by first | exact za | (simp; omega))).trans a1; have zz1 := (hb.cell (p := ⟨w9.heap.size, 0, none⟩) (by first | exact zb | (simp; omega))).trans z1; have zz2 := (hb.cell (p := ⟨w9.heap.size, 1, none⟩) (by first | exact zb | (simp; omega))).trans z2))
          all_goals
            go_wp2
            go_ret
            exact ⟨rfl, by with_reducible repeat (first | exact hB11 | refine below_drewN ?_ _ | refine Below.drew ?_ | refine below_end ?_ (by assumption))⟩
        · rw [DIVS.out, O1.out, O2.out, O3.out]
          have tA := pA10.alloc (.cells #[.int .i64 1, .int .i64 1] 23)
          obtain ⟨a1, a2, a3, a4⟩ := tA
          have tZ := pZ10.alloc (.cells #[.int .i64 1, .int .i64 1] 23)
          obtain ⟨z1, z2, z3, z4⟩ := tZ
          obtain ⟨x1, x2, x3, x4⟩ := At.new w10 23 rfl (.int .i64 1) (.int .i64 1)
          have hB11 := ball hB10 (.cells #[.int .i64 1, .int .i64 1] 23)
          clear pA10 pB10 pZ10 hB10
          go_wp2_with fail
          go_region_held3 (fun W => W.cell? ⟨w.heap.size, 0, none⟩ = some (.int .i64 a) ∧ W.cell? ⟨w9.heap.size, 0, none⟩ = some (.int .i64 0) ∧ W.cell? ⟨w9.heap.size, 1, none⟩ = some (.int .i64 1) ∧ W.cell? ⟨w10.heap.size, 0, none⟩ = some (.int .i64 1) ∧ W.cell? ⟨w10.heap.size, 1, none⟩ = some (.int .i64 1)) (first | exact ⟨a1, z1, z2, x1, x2⟩ | exact keep5 hb (by assumption))
            (first
              | (go_at_call 21; refine (zero_any _).mono ?_; rintro e wz ⟨rfl, hb⟩)
              | (go_at_call 22; refine (one_any _).mono ?_; rintro e wo ⟨rfl, hb⟩))
          all_goals
            go_wp2
            go_ret
            exact ⟨rfl, by with_reducible repeat (first | exact hB11 | refine below_drewN ?_ _ | refine Below.drew ?_ | refine below_end ?_ (by assumption))⟩

theorem backs_walk (a b c d : Int) (w : World) (h1 : -9223372036854775808 ≤ a) (h2 : a ≤ 9223372036854775807) (h3 : -9223372036854775808 ≤ b) (h4 : b ≤ 9223372036854775807)
    (g1 : -9223372036854775808 ≤ c) (g2 : c ≤ 9223372036854775807) (g3 : -9223372036854775808 ≤ d) (g4 : d ≤ 9223372036854775807) :
    Calls Tryd.prog 7 #[.agg #[.int .i64 a, .int .i64 b], .agg #[.int .i64 c, .int .i64 d]] w fun e w' => e = .returned (.bool true) ∧ Below w.heap.size w w' := by
  cases ra : Wnum.rightB a b with
  | false =>
    have RA : Hid (Wnum.rightB a b = false) := ra
    clear ra
    go_enter Tryd.func7, Tryd.ntmps7
    go_wp2_with fail
    refine (able_any _).mono ?_
    rintro e w1 ⟨rfl, hb1⟩
    have pA1 : At w1 w.heap.size (.int .i64 a) (.int .i64 b) := At.below hb1 ((At.new w _ rfl _ _).alloc _)
    have pB1 : At w1 (w.heap.size + 1) (.int .i64 c) (.int .i64 d) := At.below hb1 (At.new (w.alloc _) _ (by simp) _ _)
    have hB1 : Below w.heap.size w w1 := by with_reducible repeat (first | exact Below.refl _ _ | refine below_drewN ?_ _ | refine Below.setCell ?_ (by first | (simp; done) | (simp; omega) | omega) _ | refine Below.drew ?_ | refine below_end ?_ (by assumption) | refine ball ?_ _)
    clear hb1
    have tpA := pA1
    obtain ⟨a1, a2, a3, a4⟩ := tpA
    have tpB := pB1
    obtain ⟨b1, b2, b3, b4⟩ := tpB
    go_wp2_with fail
    clear a1 a2 a3 a4 b1 b2 b3 b4
    refine (lright_any a b _ h1 h2 h3 h4).mono ?_
    rintro e w2 ⟨rfl, hb2⟩
    rw [RA.out]
    have pA2 := At.below hb2 (pA1)
    have pB2 := At.below hb2 (pB1)
    have hB2 := below_end hB1 hb2
    clear hb2 pA1 pB1 hB1
    go_wp2
    go_ret
    exact ⟨rfl, hB2⟩
  | true =>
    cases rb : Wnum.rightB c d with
    | false =>
      have RA : Hid (Wnum.rightB a b = true) := ra
      have RB : Hid (Wnum.rightB c d = false) := rb
      clear ra rb
      go_enter Tryd.func7, Tryd.ntmps7
      go_wp2_with fail
      refine (able_any _).mono ?_
      rintro e w1 ⟨rfl, hb1⟩
      have pA1 : At w1 w.heap.size (.int .i64 a) (.int .i64 b) := At.below hb1 ((At.new w _ rfl _ _).alloc _)
      have pB1 : At w1 (w.heap.size + 1) (.int .i64 c) (.int .i64 d) := At.below hb1 (At.new (w.alloc _) _ (by simp) _ _)
      have hB1 : Below w.heap.size w w1 := by with_reducible repeat (first | exact Below.refl _ _ | refine below_drewN ?_ _ | refine Below.setCell ?_ (by first | (simp; done) | (simp; omega) | omega) _ | refine Below.drew ?_ | refine below_end ?_ (by assumption) | refine ball ?_ _)
      clear hb1
      have tpA := pA1
      obtain ⟨a1, a2, a3, a4⟩ := tpA
      have tpB := pB1
      obtain ⟨b1, b2, b3, b4⟩ := tpB
      go_wp2_with fail
      clear a1 a2 a3 a4 b1 b2 b3 b4
      refine (lright_any a b _ h1 h2 h3 h4).mono ?_
      rintro e w2 ⟨rfl, hb2⟩
      rw [RA.out]
      have pA2 := At.below hb2 (pA1)
      have pB2 := At.below hb2 (pB1)
      have hB2 := below_end hB1 hb2
      clear hb2 pA1 pB1 hB1
      have tpA := pA2
      obtain ⟨a1, a2, a3, a4⟩ := tpA
      have tpB := pB2
      obtain ⟨b1, b2, b3, b4⟩ := tpB
      go_wp2_with fail
      clear a1 a2 a3 a4 b1 b2 b3 b4
      refine (lright_any c d _ g1 g2 g3 g4).mono ?_
      rintro e w3 ⟨rfl, hb3⟩
      rw [RB.out]
      have pA3 := At.below hb3 (pA2)
      have pB3 := At.below hb3 (pB2)
      have hB3 := below_end hB2 hb3
      clear hb3 pA2 pB2 hB2
      go_wp2
      go_ret
      exact ⟨rfl, hB3⟩
    | true =>
      have ea := Wnum.cN_right ra
      have ec := Wnum.cN_right rb
      obtain ⟨q1, q2, q3⟩ := Wnum.o_qu ra
      refine backs_main a b c d w h1 h2 h3 h4 g1 g2 g3 g4 ra rb Rat.sub_self Wnum.o_zero.1 Wnum.o_zero.2.1 Wnum.o_zero.2.2 Wnum.o_one.1 Wnum.o_one.2.1 Wnum.o_one.2.2 q1 q2 q3 ?_ ?_ ?_ ?_
      · exact (fun h => by rw [Wnum.qu_o h, Rat.add_sub_cancel] : Wnum.oB (some (Wnum.qu a b + Wnum.qu c d)) = true → Wnum.qu (Wnum.oN (some (Wnum.qu a b + Wnum.qu c d))) (Wnum.oD (some (Wnum.qu a b + Wnum.qu c d))) - Wnum.qu c d = Wnum.qu a b)
      · exact (by cases (c != 0) <;> simp : (c != 0) = false ∨ (c != 0) = true)
      · exact (fun h hc => by
          have hc0 : Wnum.cN c d ≠ 0 := by rw [ec]; exact bne_iff_ne.1 hc
          rw [Wnum.div_qu hc0, Wnum.qu_o h, Rat.mul_div_cancel (Wnum.qu_ne hc0)] : Wnum.oB (some (Wnum.qu a b * Wnum.qu c d)) = true → (c != 0) = true → Wnum.mk (Wnum.cN (Wnum.oN (some (Wnum.qu a b * Wnum.qu c d))) (Wnum.oD (some (Wnum.qu a b * Wnum.qu c d))) * Wnum.cD c d) (Wnum.cN c d * Wnum.cD (Wnum.oN (some (Wnum.qu a b * Wnum.qu c d))) (Wnum.oD (some (Wnum.qu a b * Wnum.qu c d)))) = some (Wnum.qu a b))
      · by_cases h0 : a = 0
        · refine Or.inl ⟨by simp [h0], by simp [h0], ?_⟩
          show _ = _
          rw [ea, h0, Int.zero_mul, Wnum.mk_zero]
        · refine Or.inr ⟨by simp [h0], by simp [h0], ?_⟩
          show _ = _
          have hn : Wnum.cN a b ≠ 0 := by rw [ea]; exact h0
          rw [Wnum.div_qu hn, Rat.div_def, Rat.mul_inv_cancel _ (Wnum.qu_ne hn)]
end Go.Proofs.YtfbgdfpbbnhfmabDoor
