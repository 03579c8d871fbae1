/- The contracts of product, Mul and Div. -/
import Derived.Test.YtfilmomndhlmbaaDoorWalkJ
import Derived.Test.YtfilmomndhlmbaaDoorPlainD
namespace Go.Proofs.YtfilmomndhlmbaaDoor
open Go.RowKit
set_option linter.unusedVariables false

def pB (p q m : Int) : Bool := decide ((p * q).natAbs ≤ m.natAbs)
def pN (p q m : Int) : Int := if pB p q m = true then p * q else 0
theorem pB_zero (p m : Int) : pB p 0 m = true := by unfold pB; simp
theorem pB_over {p q m : Int} (hm : 0 ≤ m) (hq : q ≠ 0) : (m / (q.natAbs : Int) < (p.natAbs : Int)) ↔ pB p q m = false := by
  rw [Int.ediv_lt_iff_lt_mul (by omega)]
  unfold pB
  rw [decide_eq_false_iff_not, Int.natAbs_mul]
  have e : (p.natAbs : Int) * (q.natAbs : Int) = ((p.natAbs * q.natAbs : Nat) : Int) := by simp
  rw [e]
  omega

set_option maxHeartbeats 400000 in
theorem product_any (p q m : Int) (w : World) (h1 : -1000000000000 ≤ p) (h2 : p ≤ 1000000000000) (h3 : -1000000000000 ≤ q) (h4 : q ≤ 1000000000000) (h5 : 0 ≤ m) (h6 : m ≤ 1000000000000) :
    Calls Tryd.prog 39 #[.int .i64 p, .int .i64 q, .int .i64 m] w fun e w' => e = .returned (.tuple #[.int .i64 (pN p q m), .bool (pB p q m)]) ∧ w' = w := by
  by_cases hq : q = 0
  · subst hq
    have e1 := pB_zero p m
    have e2 : pN p 0 m = 0 := by unfold pN; simp
    rw [e1, e2]
    clear e1 e2
    go_enter Tryd.func39, Tryd.ntmps39
    go_wp2
    go_ret2
    exact ⟨rfl, rfl⟩
  · have t0 : (q != 0) = true := by rw [bne_iff_ne]; exact hq
    have b1 : 1 ≤ (q.natAbs : Int) := by omega
    have b2 : 0 ≤ m / (q.natAbs : Int) := Int.ediv_nonneg h5 (by omega)
    have b3 : m / (q.natAbs : Int) ≤ m := Int.ediv_le_self _ h5
    cases hb : pB p q m with
    | false =>
      have t1 : decide (m / (q.natAbs : Int) < (p.natAbs : Int)) = true := decide_eq_true ((pB_over h5 hq).2 hb)
      have e2 : pN p q m = 0 := by unfold pN; rw [hb]; rfl
      rw [e2]
      clear e2 hb
      go_enter Tryd.func39, Tryd.ntmps39
      go_wp2_with (go_at_call 31; refine (size_any _ _ (by omega) (by omega)).mono ?_; rintro e w1 ⟨rfl, rfl⟩)
      go_ret2
      exact ⟨rfl, rfl⟩
    | true =>
      have t1 : decide (m / (q.natAbs : Int) < (p.natAbs : Int)) = false := decide_eq_false (fun h => by rw [(pB_over h5 hq).1 h] at hb; cases hb)
      have e2 : pN p q m = p * q := by unfold pN; rw [hb]; rfl
      rw [e2]
      have e3 : (p * q).natAbs ≤ m.natAbs := by unfold pB at hb; exact of_decide_eq_true hb
      have e4 : -1000000000000 ≤ p * q := by omega
      have e5 : p * q ≤ 1000000000000 := by omega
      clear hb e3 e2
      go_enter Tryd.func39, Tryd.ntmps39
      go_wp2_with (go_at_call 31; refine (size_any _ _ (by omega) (by omega)).mono ?_; rintro e w1 ⟨rfl, rfl⟩)
      go_ret2
      exact ⟨rfl, rfl⟩

/-- Div: of the two products. -/
theorem div_any (a b c d : Int) (w : World) (h1 : -9223372036854775808 ≤ a) (h2 : a ≤ 9223372036854775807) (h3 : -9223372036854775808 ≤ b) (h4 : b ≤ 9223372036854775807)
    (g1 : -9223372036854775808 ≤ c) (g2 : c ≤ 9223372036854775807) (g3 : -9223372036854775808 ≤ d) (g4 : d ≤ 9223372036854775807) :
    Calls Tryd.prog 15 #[.agg #[.int .i64 a, .int .i64 b], .agg #[.int .i64 c, .int .i64 d]] w fun e w' => e = .returned (.tuple #[.agg #[.int .i64 (Wnum.oN (Wnum.mk (Wnum.cN a b * Wnum.cD c d) (Wnum.cN c d * Wnum.cD a b))), .int .i64 (Wnum.oD (Wnum.mk (Wnum.cN a b * Wnum.cD c d) (Wnum.cN c d * Wnum.cD a b)))], .bool (Wnum.oB (Wnum.mk (Wnum.cN a b * Wnum.cD c d) (Wnum.cN c d * Wnum.cD a b)))]) ∧ Below w.heap.size w w' := by
  obtain ⟨m1, m2⟩ := mul_bd (Wnum.cN_bd a b).1 (Wnum.cN_bd a b).2 (Wnum.cD_bd c d).1 (Wnum.cD_bd c d).2
  obtain ⟨m3, m4⟩ := mul_bd (Wnum.cN_bd c d).1 (Wnum.cN_bd c d).2 (Wnum.cD_bd a b).1 (Wnum.cD_bd a b).2
  obtain ⟨m5, m6⟩ := den_bd (a := a) (b := b) (c := c) (d := d)
  go_enter Tryd.func15, Tryd.ntmps15
  go_wp2_with fail
  refine (alike_any _ _ _ _ _ h1 h2 h3 h4 g1 g2 g3 g4).mono ?_
  rintro e w1 ⟨rfl, hb⟩
  have pC : At w1 (w.heap.size + 2) (.int .i64 0) (.int .i64 0) := At.below hb (At.new ((w.alloc _).alloc _) _ (by simp) _ _)
  have hB : Below w.heap.size w w1 := by with_reducible repeat (first | exact Below.refl _ _ | refine below_drewN ?_ _ | refine Below.setCell ?_ (by first | (simp; done) | (simp; omega) | omega) _ | refine Below.drew ?_ | refine below_end ?_ (by assumption) | refine ball ?_ _)
  clear hb
  go_wp2_with fail
  refine (make_most _ _ _ (by omega) (by omega) (by omega) (by omega)).mono ?_
  rintro e w2 ⟨rfl, hb2⟩
  obtain ⟨k1, k2, k3, k4⟩ := At.below hb2 pC
  go_wp2
  refine bodyPost_ret (v := .tuple #[.agg #[.int .i64 (Wnum.oN (Wnum.mk (Wnum.cN a b * Wnum.cD c d) (Wnum.cN c d * Wnum.cD a b))), .int .i64 (Wnum.oD (Wnum.mk (Wnum.cN a b * Wnum.cD c d) (Wnum.cN c d * Wnum.cD a b)))], .bool (Wnum.oB (Wnum.mk (Wnum.cN a b * Wnum.cD c d) (Wnum.cN c d * Wnum.cD a b)))]) (by simp [results, Tryd.results15, go_sem, k1, k2]) rfl ⟨rfl, ?_⟩
  exact put_below (below_end hB hb2) (by omega) _ _
end Go.Proofs.YtfilmomndhlmbaaDoor
