/- The contract of Mul. -/
import Derived.Test.YtfilmomndhlmbaaDoorWalkK
namespace Go.Proofs.YtfilmomndhlmbaaDoor
open Go.RowKit
set_option linter.unusedVariables false

/-- What Mul reckons with, by its parts. -/
theorem mul_facts (a b c d : Int) : ∃ p1 p2 s1 s2 : Int,
    1 ≤ ((Int.gcd (Wnum.cN a b) (Wnum.cD c d) : Nat) : Int) ∧ 1 ≤ ((Int.gcd (Wnum.cN c d) (Wnum.cD a b) : Nat) : Int) ∧
    (Wnum.cN a b).tdiv ((Int.gcd (Wnum.cN a b) (Wnum.cD c d) : Nat) : Int) = p1 ∧ (Wnum.cN c d).tdiv ((Int.gcd (Wnum.cN c d) (Wnum.cD a b) : Nat) : Int) = p2 ∧ (Wnum.cD a b).tdiv ((Int.gcd (Wnum.cN c d) (Wnum.cD a b) : Nat) : Int) = s1 ∧ (Wnum.cD c d).tdiv ((Int.gcd (Wnum.cN a b) (Wnum.cD c d) : Nat) : Int) = s2 ∧
    (-1000000000000 ≤ p1 ∧ p1 ≤ 1000000000000) ∧ (-1000000000000 ≤ p2 ∧ p2 ≤ 1000000000000) ∧ (1 ≤ s1 ∧ s1 ≤ 1000000) ∧ (1 ≤ s2 ∧ s2 ≤ 1000000) ∧
    (Wnum.qu a b * Wnum.qu c d).num = p1 * p2 ∧ (((Wnum.qu a b * Wnum.qu c d).den : Nat) : Int) = s1 * s2 := by
  obtain ⟨n1, n2⟩ := Wnum.cN_bd a b
  obtain ⟨n3, n4⟩ := Wnum.cN_bd c d
  obtain ⟨m1, m2⟩ := Wnum.cD_bd a b
  obtain ⟨m3, m4⟩ := Wnum.cD_bd c d
  obtain ⟨q1, q2, q3, q4, q5, q6, q7, q8⟩ := Wnum.cross m1 m3 (Wnum.c_gcd a b) (Wnum.c_gcd c d)
  have t1 : (Wnum.cN a b).tdiv ((Int.gcd (Wnum.cN a b) (Wnum.cD c d) : Nat) : Int) = Wnum.cN a b / ((Int.gcd (Wnum.cN a b) (Wnum.cD c d) : Nat) : Int) := Int.tdiv_eq_ediv_of_dvd (Int.gcd_dvd_left ..)
  have t2 : (Wnum.cN c d).tdiv ((Int.gcd (Wnum.cN c d) (Wnum.cD a b) : Nat) : Int) = Wnum.cN c d / ((Int.gcd (Wnum.cN c d) (Wnum.cD a b) : Nat) : Int) := Int.tdiv_eq_ediv_of_dvd (Int.gcd_dvd_left ..)
  have t3 : (Wnum.cD a b).tdiv ((Int.gcd (Wnum.cN c d) (Wnum.cD a b) : Nat) : Int) = Wnum.cD a b / ((Int.gcd (Wnum.cN c d) (Wnum.cD a b) : Nat) : Int) := Int.tdiv_eq_ediv_of_dvd (Int.gcd_dvd_right ..)
  have t4 : (Wnum.cD c d).tdiv ((Int.gcd (Wnum.cN a b) (Wnum.cD c d) : Nat) : Int) = Wnum.cD c d / ((Int.gcd (Wnum.cN a b) (Wnum.cD c d) : Nat) : Int) := Int.tdiv_eq_ediv_of_dvd (Int.gcd_dvd_right ..)
  have b1 : ((Wnum.cN a b).tdiv ((Int.gcd (Wnum.cN a b) (Wnum.cD c d) : Nat) : Int)).natAbs ≤ (Wnum.cN a b).natAbs := Int.natAbs_tdiv_le_natAbs ..
  have b2 : ((Wnum.cN c d).tdiv ((Int.gcd (Wnum.cN c d) (Wnum.cD a b) : Nat) : Int)).natAbs ≤ (Wnum.cN c d).natAbs := Int.natAbs_tdiv_le_natAbs ..
  refine ⟨_, _, _, _, q1, q2, rfl, rfl, rfl, rfl, by omega, by omega, by omega, by omega, ?_, ?_⟩
  · rw [t1, t2]; exact q3
  · rw [t3, t4]; exact q4

theorem mul_over {r : Rat} {p q : Int} (h : r.num = p * q) (hb : pB p q 1000000000000 = false) : Wnum.okQ r = false := by
  refine Wnum.ok_not ?_
  rw [h]
  unfold pB at hb
  rw [decide_eq_false_iff_not] at hb
  omega
theorem mul_in {r : Rat} {p q : Int} (h : r.num = p * q) (hb : pB p q 1000000000000 = true) : pN p q 1000000000000 = r.num ∧ (-9223372036854775807 ≤ r.num ∧ r.num ≤ 9223372036854775807) := by
  have e : pN p q 1000000000000 = p * q := by unfold pN; rw [hb]; rfl
  rw [e, h]
  unfold pB at hb
  have := of_decide_eq_true hb
  exact ⟨rfl, by omega, by omega⟩

theorem keepD {W W' : World} {k j : Nat} {x y : Value} (hb : Below W.heap.size W W') (h : W.cell? ⟨k, 1, none⟩ = some x ∧ W.cell? ⟨j, 1, none⟩ = some y) : W'.cell? ⟨k, 1, none⟩ = some x ∧ W'.cell? ⟨j, 1, none⟩ = some y :=
  ⟨(hb.cell (p := ⟨k, 1, none⟩) (World.block_lt_of_cell? W _ h.1)).trans h.1, (hb.cell (p := ⟨j, 1, none⟩) (World.block_lt_of_cell? W _ h.2)).trans h.2⟩
theorem keepD_set {W : World} {k j i : Nat} {x y u0 u1 : Value} (hk : i ≠ k) (hj : i ≠ j) (h : W.cell? ⟨k, 1, none⟩ = some x ∧ W.cell? ⟨j, 1, none⟩ = some y) :
    ((W.setCell ⟨i, 0, none⟩ u0).setCell ⟨i, 1, none⟩ u1).cell? ⟨k, 1, none⟩ = some x ∧ ((W.setCell ⟨i, 0, none⟩ u0).setCell ⟨i, 1, none⟩ u1).cell? ⟨j, 1, none⟩ = some y := by
  refine ⟨?_, ?_⟩
  · rw [World.cell?_setCell_far _ _ _ _ (by simpa using hk), World.cell?_setCell_far _ _ _ _ (by simpa using hk)]; exact h.1
  · rw [World.cell?_setCell_far _ _ _ _ (by simpa using hj), World.cell?_setCell_far _ _ _ _ (by simpa using hj)]; exact h.2

set_option maxHeartbeats 1600000 in
theorem mul_any (a b c d : Int) (w : World) (h1 : -9223372036854775808 ≤ a) (h2 : a ≤ 9223372036854775807) (h3 : -9223372036854775808 ≤ b) (h4 : b ≤ 9223372036854775807)
    (g1 : -9223372036854775808 ≤ c) (g2 : c ≤ 9223372036854775807) (g3 : -9223372036854775808 ≤ d) (g4 : d ≤ 9223372036854775807) :
    Calls Tryd.prog 14 #[.agg #[.int .i64 a, .int .i64 b], .agg #[.int .i64 c, .int .i64 d]] w fun e w' => e = .returned (.tuple #[.agg #[.int .i64 (Wnum.oN (some (Wnum.qu a b * Wnum.qu c d))), .int .i64 (Wnum.oD (some (Wnum.qu a b * Wnum.qu c d)))], .bool (Wnum.oB (some (Wnum.qu a b * Wnum.qu c d)))]) ∧ Below w.heap.size w w' := by
  obtain ⟨n1, n2⟩ := Wnum.cN_bd a b
  obtain ⟨n3, n4⟩ := Wnum.cN_bd c d
  obtain ⟨m1, m2⟩ := Wnum.cD_bd a b
  obtain ⟨m3, m4⟩ := Wnum.cD_bd c d
  obtain ⟨p1, p2, s1, s2, j1, j2, e1, e2, e3, e4, ⟨u1, u2⟩, ⟨u3, u4⟩, ⟨v1, v2⟩, ⟨v3, v4⟩, f1, f2⟩ := mul_facts a b c d
  have o1 : 1 ≤ s1 * s2 := by have := Int.mul_le_mul v1 v3 (by omega) (by omega); omega
  have o2 : s1 * s2 ≤ 1000000000000 := by have := Int.mul_le_mul v2 v4 (by omega) (by omega); omega
  have z1 : IntKind.i64.wrap p1 = p1 := IntWalk.i64_in _ (by omega)
  have z2 : IntKind.i64.wrap p2 = p2 := IntWalk.i64_in _ (by omega)
  have z3 : IntKind.i64.wrap s1 = s1 := IntWalk.i64_in _ (by omega)
  have z4 : IntKind.i64.wrap s2 = s2 := IntWalk.i64_in _ (by omega)
  have z5 : IntKind.i64.wrap (s1 * s2) = s1 * s2 := IntWalk.i64_in _ (by omega)
  have F1 : Hid ((Wnum.qu a b * Wnum.qu c d).num = p1 * p2) := f1
  have F2 : Hid ((((Wnum.qu a b * Wnum.qu c d).den : Nat) : Int) = s1 * s2) := f2
  clear f1 f2
  generalize Wnum.qu a b * Wnum.qu c d = r at *
  go_enter Tryd.func14, Tryd.ntmps14
  go_wp2_with fail
  go_cut [] (fun wx => Below w.heap.size w wx ∧ At wx w.heap.size (.int .i64 (Wnum.cN a b)) (.int .i64 (Wnum.cD a b)) ∧ At wx (w.heap.size + 1) (.int .i64 (Wnum.cN c d)) (.int .i64 (Wnum.cD c d)) ∧ At wx (w.heap.size + 2) (.int .i64 0) (.int .i64 0))
  case first =>
    have pA := (((At.new w 23 rfl (.int .i64 a) (.int .i64 b)).alloc (.cells #[.int .i64 c, .int .i64 d] 23)).alloc (.cells #[.int .i64 0, .int .i64 0] 23)).drew
    have pB := ((At.new (w.alloc (.cells #[.int .i64 a, .int .i64 b] 23)) 23 (k := w.heap.size + 1) (by simp) (.int .i64 c) (.int .i64 d)).alloc (.cells #[.int .i64 0, .int .i64 0] 23)).drew
    have pC := (At.new ((w.alloc (.cells #[.int .i64 a, .int .i64 b] 23)).alloc (.cells #[.int .i64 c, .int .i64 d] 23)) 23 (k := w.heap.size + 2) (by simp) (.int .i64 0) (.int .i64 0)).drew
    have tok : True := trivial
    go_region_with (first
      | (go_at_call 30; have _t := tok; refine (counted_any _ _ _ (by assumption) (by assumption) (by assumption) (by assumption)).mono ?_; rintro e w1 ⟨rfl, hb1⟩; have pA1 := At.below hb1 pA; have pB1 := At.below hb1 pB; have pC1 := At.below hb1 pC; obtain ⟨b1, b2, b3, b4⟩ := At.below hb1 pB; clear tok)
      | (go_at_call 30; refine (counted_any _ _ _ (by assumption) (by assumption) (by assumption) (by assumption)).mono ?_; rintro e w2 ⟨rfl, hb2⟩; have pA2 := At.below hb2 pA1; have pB2 := At.below hb2 pB1; have pC2 := At.below hb2 pC1; obtain ⟨a1', a2', a3', a4'⟩ := At.below hb2 pA1; obtain ⟨b1', b2', b3', b4'⟩ := At.below hb2 pB1))
    all_goals
      go_wp2_with fail
      go_meet
      case rel =>
        go_light
        exact ⟨by with_reducible repeat (first | exact Below.refl _ _ | refine below_drewN ?_ _ | refine Below.setCell ?_ (by first | (simp; done) | (simp; omega) | omega) _ | refine Below.drew ?_ | refine below_end ?_ (by assumption) | refine ball ?_ _), (pA2.put _ _).far2 (by omega) _ _, (pB2.far2 (by omega) _ _).put _ _, (pC2.far2 (by omega) _ _).far2 (by omega) _ _⟩
  case rest =>
    obtain ⟨hB, qA, qB, qC⟩ := hcut
    have qA' := qA
    have qB' := qB
    obtain ⟨a1, a2, a3, a4⟩ := qA'
    obtain ⟨b1, b2, b3, b4⟩ := qB'
    have y5 : ¬ Wnum.cD a b = 0 := by omega
    have y6 : ¬ Wnum.cD c d = 0 := by omega
    go_wp2_with fail
    go_quiet ((go_at_call 38; exact Calls.quiet_of (divisor_any _ _ _ (by omega) (by omega) (by omega) (by omega))))
    go_wp2_with fail
    have rA := qA.drewN nq
    have rB := qB.drewN nq
    have rC := qC.drewN nq
    have hB3 := below_drewN hB nq
    clear qA qB qC hB a1 a2 a3 a4 b1 b2 b3 b4
    generalize wc.drewN nq = W3 at *
    clear wc nq
    have rA' := rA
    have rB' := rB
    obtain ⟨a1, a2, a3, a4⟩ := rA'
    obtain ⟨b1, b2, b3, b4⟩ := rB'
    go_quiet ((go_at_call 39; exact Calls.quiet_of_same (product_any p1 p2 1000000000000 _ u1 u2 u3 u4 (by omega) (by omega))))
    have qA := rA.drewN nq
    have qB := rB.drewN nq
    have qC := rC.drewN nq
    have hB4 := below_drewN hB3 nq
    clear rA rB rC hB3 a1 a2 a3 a4 b1 b2 b3 b4
    generalize W3.drewN nq = W4 at *
    clear W3 nq
    obtain ⟨a1, a2, a3, a4⟩ := qA
    obtain ⟨b1, b2, b3, b4⟩ := qB
    obtain ⟨c1, c2, c3, c4⟩ := qC
    have d1 : W4.cell? ⟨w.heap.size + 1 + 1, 0, none⟩ = some (.int .i64 0) := c1
    have d2 : W4.cell? ⟨w.heap.size + 1 + 1, 1, none⟩ = some (.int .i64 0) := c2
    have d3 : W4.frozen? ⟨w.heap.size + 1 + 1, 0, none⟩ = false := c3
    have d4 : W4.frozen? ⟨w.heap.size + 1 + 1, 1, none⟩ = false := c4
    cases hb : pB p1 p2 1000000000000 with
    | false =>
      have y0 := mul_over F1.out hb
      obtain ⟨y1, y2, y3⟩ := Wnum.oNn y0
      have Y1 : Hid (Wnum.oN (some r) = 0) := y1
      have Y2 : Hid (Wnum.oD (some r) = 0) := y2
      have Y3 : Hid (Wnum.oB (some r) = false) := y3
      clear y0 y1 y2 y3
      go_wp2_with fail
      refine bodyPost_ret (v := .tuple #[.agg #[.int .i64 0, .int .i64 0], .bool false]) (by simp [results, Tryd.results14, go_sem, c1, c2]) rfl ⟨by rw [Y1.out, Y2.out, Y3.out], ?_⟩
      exact (by with_reducible repeat (first | exact Below.refl _ _ | refine below_drewN ?_ _ | refine Below.setCell ?_ (by first | (simp; done) | (simp; omega) | omega) _ | refine Below.drew ?_ | refine below_end ?_ (by assumption) | refine ball ?_ _))
    | true =>
      obtain ⟨y1, y2, y3⟩ := mul_in F1.out hb
      have Y1 : pN p1 p2 1000000000000 = r.num := y1
      clear y1
      go_wp2_with fail
      go_region_held3 (fun W => W.cell? ⟨w.heap.size, 1, none⟩ = some (.int .i64 (Wnum.cD a b)) ∧ W.cell? ⟨w.heap.size + 1, 1, none⟩ = some (.int .i64 (Wnum.cD c d))) (first | exact ⟨a2, b2⟩ | exact keepD hb5 (by assumption) | exact keepD_set (by omega) (by omega) (by assumption))
        (first
          | (go_at_call 40; refine (fitting_any _ _ r _ y2 y3 (show Hid (r.num = r.num) from (rfl : r.num = r.num)) F2).mono ?_; rintro e w5 ⟨rfl, hb5⟩; obtain ⟨k1, k2, k3, k4⟩ := At.below hb5 (At.drew ⟨d1, d2, d3, d4⟩)))
      go_wp2
      refine bodyPost_ret (v := .tuple #[.agg #[.int .i64 (Wnum.oN (some r)), .int .i64 (Wnum.oD (some r))], .bool (Wnum.oB (some r))]) (by simp [results, Tryd.results14, go_sem, k1, k2]) rfl ⟨rfl, ?_⟩
      exact (by with_reducible repeat (first | exact Below.refl _ _ | refine below_drewN ?_ _ | refine Below.setCell ?_ (by first | (simp; done) | (simp; omega) | omega) _ | refine Below.drew ?_ | refine below_end ?_ (by assumption) | refine ball ?_ _))
end Go.Proofs.YtfilmomndhlmbaaDoor
