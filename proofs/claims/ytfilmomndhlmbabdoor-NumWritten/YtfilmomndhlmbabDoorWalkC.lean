/- The contract of Make. -/
import Derived.Test.YtfilmomndhlmbabDoorWalkB
namespace Go.Proofs.YtfilmomndhlmbabDoor
open Go.RowKit
set_option linter.unusedVariables false

set_option maxHeartbeats 400000 in
/-- Make, where neither is the least int, and d is above 0. -/
theorem make_pos (n d : Int) (w : World) (h1 : -9223372036854775807 ≤ n) (h2 : n ≤ 9223372036854775807) (h3 : 1 ≤ d) (h4 : d ≤ 9223372036854775807) :
    Calls Tryd.prog 25 #[.int .i64 n, .int .i64 d] w fun e w' => e = .returned (.tuple #[.agg #[.int .i64 (Wnum.oN (some (Rat.divInt n d))), .int .i64 (Wnum.oD (some (Rat.divInt n d)))], .bool (Wnum.oB (some (Rat.divInt n d)))]) ∧ Below w.heap.size w w' := by
  obtain ⟨g1, g2, g3, g4, g5⟩ := Wnum.mk_tdiv h3 h1 h2
  have k1 : Hid ((Rat.divInt n d).num = n.tdiv ((Int.gcd n d : Nat) : Int)) := g4
  have g8 : d.tdiv ((Int.gcd n d : Nat) : Int) = d / ((Int.gcd n d : Nat) : Int) := Int.tdiv_eq_ediv_of_nonneg (by omega)
  have k2 : Hid ((((Rat.divInt n d).den : Nat) : Int) = d.tdiv ((Int.gcd n d : Nat) : Int)) := g5.trans g8.symm
  have g6 : 0 ≤ d / ((Int.gcd n d : Nat) : Int) := Int.ediv_nonneg (by omega) (by omega)
  have g7 : d / ((Int.gcd n d : Nat) : Int) ≤ d := Int.ediv_le_self _ (by omega)
  rw [← g8] at g6 g7
  have g9 : d.tdiv ((Int.gcd n d : Nat) : Int) ≤ 9223372036854775807 := by omega
  have g10 : -9223372036854775807 ≤ d.tdiv ((Int.gcd n d : Nat) : Int) := by omega
  have hw : IntKind.i64.wrap (d.tdiv ((Int.gcd n d : Nat) : Int)) = d.tdiv ((Int.gcd n d : Nat) : Int) := IntWalk.i64_in _ (by omega)
  have hwn : IntKind.i64.wrap (n.tdiv ((Int.gcd n d : Nat) : Int)) = n.tdiv ((Int.gcd n d : Nat) : Int) := IntWalk.i64_in _ (by omega)
  clear g4 g5 g8 g7 g6
  have t0 : (n == -9223372036854775808) = false := beq_eq_false_iff_ne.2 (by omega)
  have t1 : (d == -9223372036854775808) = false := beq_eq_false_iff_ne.2 (by omega)
  have t2 : (d == 0) = false := beq_eq_false_iff_ne.2 (by omega)
  have t3 : decide (d < 0) = false := by simp; omega
  generalize Rat.divInt n d = r at *
  go_enter Tryd.func25, Tryd.ntmps25
  go_wp2_with (go_at_call 30; refine (divisor_any _ _ _ (by omega) (by omega) (by omega) (by omega)).mono ?_; rintro e w1 ⟨rfl, nq, rfl⟩)
  clear t0 t1 t2 t3
  go_region_with ((go_at_call 39; refine (fitting_any _ _ r _ g2 g3 k1 k2).mono ?_; rintro e w1 ⟨rfl, hb⟩; obtain ⟨hc, hf⟩ := bcell hb; have hz := bsz (k := w.heap.size) hb (by simp)))
  all_goals
    go_wp2
    refine bodyPost_ret (v := .tuple #[.agg #[.int .i64 (Wnum.oN (some r)), .int .i64 (Wnum.oD (some r))], .bool (Wnum.oB (some r))]) (by simp [results, Tryd.results25, go_sem, hc]) rfl ⟨rfl, ?_⟩
    exact (by with_reducible repeat (first | exact Below.refl _ _ | refine below_drewN ?_ _ | refine Below.setCell ?_ (by first | (simp; done) | (simp; omega) | omega) _ | refine Below.drew ?_ | refine below_end ?_ (by assumption) | refine ball ?_ _))
end Go.Proofs.YtfilmomndhlmbabDoor
