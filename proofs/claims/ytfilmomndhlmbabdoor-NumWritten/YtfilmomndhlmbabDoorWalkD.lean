/- The contracts of Add, Sub, Cmp. -/
import Derived.Test.YtfilmomndhlmbabDoorWalkC
namespace Go.Proofs.YtfilmomndhlmbabDoor
open Go.RowKit
set_option linter.unusedVariables false

theorem den_bd {a b c d : Int} : 1 ≤ Wnum.cD a b * Wnum.cD c d ∧ Wnum.cD a b * Wnum.cD c d ≤ 1000000000000 := by
  obtain ⟨h1, h2⟩ := Wnum.cD_bd a b
  obtain ⟨h3, h4⟩ := Wnum.cD_bd c d
  constructor
  · have := Int.mul_le_mul h1 h3 (by omega) (by omega); omega
  · have := Int.mul_le_mul h2 h4 (by omega) (by omega); omega

set_option maxHeartbeats 400000 in
theorem add_any (a b c d : Int) (w : World) (h1 : -9223372036854775808 ≤ a) (h2 : a ≤ 9223372036854775807) (h3 : -9223372036854775808 ≤ b) (h4 : b ≤ 9223372036854775807)
    (g1 : -9223372036854775808 ≤ c) (g2 : c ≤ 9223372036854775807) (g3 : -9223372036854775808 ≤ d) (g4 : d ≤ 9223372036854775807) :
    Calls Tryd.prog 13 #[.agg #[.int .i64 a, .int .i64 b], .agg #[.int .i64 c, .int .i64 d]] w fun e w' => e = .returned (.tuple #[.agg #[.int .i64 (Wnum.oN (some (Wnum.qu a b + Wnum.qu c d))), .int .i64 (Wnum.oD (some (Wnum.qu a b + Wnum.qu c d)))], .bool (Wnum.oB (some (Wnum.qu a b + Wnum.qu c d)))]) ∧ Below w.heap.size w w' := by
  obtain ⟨m1, m2⟩ := mul_bd (Wnum.cN_bd a b).1 (Wnum.cN_bd a b).2 (Wnum.cD_bd c d).1 (Wnum.cD_bd c d).2
  obtain ⟨m3, m4⟩ := mul_bd (Wnum.cN_bd c d).1 (Wnum.cN_bd c d).2 (Wnum.cD_bd a b).1 (Wnum.cD_bd a b).2
  obtain ⟨m5, m6⟩ := den_bd (a := a) (b := b) (c := c) (d := d)
  have e : Rat.divInt (Wnum.cN a b * Wnum.cD c d + Wnum.cN c d * Wnum.cD a b) (Wnum.cD a b * Wnum.cD c d) = Wnum.qu a b + Wnum.qu c d := by
    have := Wnum.qu_add a b c d
    rw [Wnum.mk_pos (by omega)] at this
    exact Option.some.inj this
  rw [← e]; clear e
  go_enter Tryd.func13, Tryd.ntmps13
  go_wp2_with fail
  refine (alike_any _ _ _ _ _ h1 h2 h3 h4 g1 g2 g3 g4).mono ?_
  rintro e w1 ⟨rfl, hb⟩
  obtain ⟨hc, hf⟩ := bcell hb
  have hz := bsz (k := w.heap.size + 2) hb (by simp)
  go_wp2_with fail
  refine (make_pos _ _ _ (by omega) (by omega) (by omega) (by omega)).mono ?_
  rintro e w2 ⟨rfl, hb2⟩
  obtain ⟨hc2, hf2⟩ := bcell hb2
  have hz2 := bsz (k := w.heap.size + 2) hb2 hz
  go_wp2
  refine bodyPost_ret (v := .tuple #[.agg #[.int .i64 (Wnum.oN (some (Rat.divInt (Wnum.cN a b * Wnum.cD c d + Wnum.cN c d * Wnum.cD a b) (Wnum.cD a b * Wnum.cD c d)))), .int .i64 (Wnum.oD (some (Rat.divInt (Wnum.cN a b * Wnum.cD c d + Wnum.cN c d * Wnum.cD a b) (Wnum.cD a b * Wnum.cD c d))))], .bool (Wnum.oB (some (Rat.divInt (Wnum.cN a b * Wnum.cD c d + Wnum.cN c d * Wnum.cD a b) (Wnum.cD a b * Wnum.cD c d))))]) (by simp [results, Tryd.results13, go_sem, hc, hz, hc2]) rfl ⟨rfl, ?_⟩
  exact (by with_reducible repeat (first | exact Below.refl _ _ | refine below_drewN ?_ _ | refine Below.setCell ?_ (by first | (simp; done) | (simp; omega) | omega) _ | refine Below.drew ?_ | refine below_end ?_ (by assumption) | refine ball ?_ _))

theorem cmp_any (a b c d : Int) (w : World) (h1 : -9223372036854775808 ≤ a) (h2 : a ≤ 9223372036854775807) (h3 : -9223372036854775808 ≤ b) (h4 : b ≤ 9223372036854775807)
    (g1 : -9223372036854775808 ≤ c) (g2 : c ≤ 9223372036854775807) (g3 : -9223372036854775808 ≤ d) (g4 : d ≤ 9223372036854775807) :
    Calls Tryd.prog 15 #[.agg #[.int .i64 a, .int .i64 b], .agg #[.int .i64 c, .int .i64 d]] w fun e w' => e = .returned (.int .i64 (Wnum.cN a b * Wnum.cD c d - Wnum.cN c d * Wnum.cD a b).sign) ∧ Below w.heap.size w w' := by
  obtain ⟨m1, m2⟩ := mul_bd (Wnum.cN_bd a b).1 (Wnum.cN_bd a b).2 (Wnum.cD_bd c d).1 (Wnum.cD_bd c d).2
  obtain ⟨m3, m4⟩ := mul_bd (Wnum.cN_bd c d).1 (Wnum.cN_bd c d).2 (Wnum.cD_bd a b).1 (Wnum.cD_bd a b).2
  obtain ⟨m5, m6⟩ := den_bd (a := a) (b := b) (c := c) (d := d)
  go_enter Tryd.func15, Tryd.ntmps15
  go_wp2_with fail
  refine (alike_any _ _ _ _ _ h1 h2 h3 h4 g1 g2 g3 g4).mono ?_
  rintro e w1 ⟨rfl, hb⟩
  go_wp2_with fail
  refine (sign_any _ _).mono ?_
  rintro e w2 ⟨rfl, rfl⟩
  go_wp2
  go_ret
  exact ⟨rfl, by with_reducible repeat (first | exact Below.refl _ _ | refine below_drewN ?_ _ | refine Below.setCell ?_ (by first | (simp; done) | (simp; omega) | omega) _ | refine Below.drew ?_ | refine below_end ?_ (by assumption) | refine ball ?_ _)⟩
end Go.Proofs.YtfilmomndhlmbabDoor
