/- The contracts of the reference's made, Make, Cmp, Neg, Add, Sub. -/
import Derived.Test.YtfilmomndhlmbaaDoorWalkF
import Derived.Test.YtfilmomndhlmbaaDoorPlainB
namespace Go.Proofs.YtfilmomndhlmbaaDoor
open Go.RowKit
set_option linter.unusedVariables false

set_option maxHeartbeats 400000 in
theorem made_pos (n d : Int) (w : World) (h1 : 0 ≤ n) (h2 : n ≤ 18446744073709551615) (h3 : 1 ≤ d) (h4 : d ≤ 18446744073709551615) :
    Calls Tryd.prog 36 #[.bool false, .int .u64 n, .int .u64 d] w fun e w' => e = .returned (.tuple #[.agg #[.int .i64 (Wnum.oN (some (Rat.divInt (n) d))), .int .i64 (Wnum.oD (some (Rat.divInt (n) d)))], .bool (Wnum.oB (some (Rat.divInt (n) d)))]) ∧ Below w.heap.size w w' := by
  obtain ⟨q1, q2, q3, q4, q5, q6, q7, _, _⟩ := Wnum.made_parts h1 h3
  generalize Rat.divInt (n) d = r at *
  by_cases c : n / ((Int.gcd n d : Nat) : Int) ≤ 1000000000000 ∧ d / ((Int.gcd n d : Nat) : Int) ≤ 1000000
  · obtain ⟨c1, c2⟩ := c
    obtain ⟨e1, e2, e3⟩ := Wnum.oNs (r := r) (Wnum.ok_iff.2 (by omega))
    rw [e1, e2, e3, q6, q7]
    clear e1 e2 e3 q6 q7
    have t1 : decide (1000000000000 < n / ((Int.gcd n d : Nat) : Int)) = false := by simp; omega
    have t2 : decide (1000000 < d / ((Int.gcd n d : Nat) : Int)) = false := by simp; omega
    go_enter Tryd.func36, Tryd.ntmps36
    go_wp2_with fail
    refine (rgcd_int _ _ _ h1 h2 (by omega) h4).mono ?_
    rintro e w1 ⟨rfl, rfl⟩
    go_wp2
    refine bodyPost_ret (v := .tuple #[.agg #[.int .i64 (n / ((Int.gcd n d : Nat) : Int)), .int .i64 (d / ((Int.gcd n d : Nat) : Int))], .bool true]) (by simp [results, Tryd.results36, go_sem]) rfl ⟨rfl, ?_⟩
    exact (by with_reducible repeat (first | exact Below.refl _ _ | refine below_drewN ?_ _ | refine Below.setCell ?_ (by first | (simp; done) | (simp; omega) | omega) _ | refine Below.drew ?_ | refine below_end ?_ (by assumption) | refine ball ?_ _))
  · obtain ⟨e1, e2, e3⟩ := Wnum.oNn (r := r) (Wnum.ok_not (by omega))
    rw [e1, e2, e3]
    clear e1 e2 e3 q6 q7
    by_cases c1 : n / ((Int.gcd n d : Nat) : Int) ≤ 1000000000000
    · have t1 : decide (1000000000000 < n / ((Int.gcd n d : Nat) : Int)) = false := by simp; omega
      have t2 : decide (1000000 < d / ((Int.gcd n d : Nat) : Int)) = true := by simp; omega
      clear c c1
      go_enter Tryd.func36, Tryd.ntmps36
      go_wp2_with fail
      refine (rgcd_int _ _ _ h1 h2 (by omega) h4).mono ?_
      rintro e w1 ⟨rfl, rfl⟩
      go_wp2
      refine bodyPost_ret (v := .tuple #[.agg #[.int .i64 0, .int .i64 0], .bool false]) (by simp [results, Tryd.results36, go_sem]) rfl ⟨rfl, ?_⟩
      exact (by with_reducible repeat (first | exact Below.refl _ _ | refine below_drewN ?_ _ | refine Below.setCell ?_ (by first | (simp; done) | (simp; omega) | omega) _ | refine Below.drew ?_ | refine below_end ?_ (by assumption) | refine ball ?_ _))
    · have t1 : decide (1000000000000 < n / ((Int.gcd n d : Nat) : Int)) = true := by simp; omega
      clear c c1
      go_enter Tryd.func36, Tryd.ntmps36
      go_wp2_with fail
      refine (rgcd_int _ _ _ h1 h2 (by omega) h4).mono ?_
      rintro e w1 ⟨rfl, rfl⟩
      go_wp2
      refine bodyPost_ret (v := .tuple #[.agg #[.int .i64 0, .int .i64 0], .bool false]) (by simp [results, Tryd.results36, go_sem]) rfl ⟨rfl, ?_⟩
      exact (by with_reducible repeat (first | exact Below.refl _ _ | refine below_drewN ?_ _ | refine Below.setCell ?_ (by first | (simp; done) | (simp; omega) | omega) _ | refine Below.drew ?_ | refine below_end ?_ (by assumption) | refine ball ?_ _))

set_option maxHeartbeats 400000 in
theorem made_neg (n d : Int) (w : World) (h1 : 0 ≤ n) (h2 : n ≤ 18446744073709551615) (h3 : 1 ≤ d) (h4 : d ≤ 18446744073709551615) :
    Calls Tryd.prog 36 #[.bool true, .int .u64 n, .int .u64 d] w fun e w' => e = .returned (.tuple #[.agg #[.int .i64 (Wnum.oN (some (Rat.divInt (-n) d))), .int .i64 (Wnum.oD (some (Rat.divInt (-n) d)))], .bool (Wnum.oB (some (Rat.divInt (-n) d)))]) ∧ Below w.heap.size w w' := by
  obtain ⟨q1, q2, q3, q4, q5, _, _, q6, q7⟩ := Wnum.made_parts h1 h3
  generalize Rat.divInt (-n) d = r at *
  by_cases c : n / ((Int.gcd n d : Nat) : Int) ≤ 1000000000000 ∧ d / ((Int.gcd n d : Nat) : Int) ≤ 1000000
  · obtain ⟨c1, c2⟩ := c
    obtain ⟨e1, e2, e3⟩ := Wnum.oNs (r := r) (Wnum.ok_iff.2 (by omega))
    rw [e1, e2, e3, q6, q7]
    clear e1 e2 e3 q6 q7
    have t1 : decide (1000000000000 < n / ((Int.gcd n d : Nat) : Int)) = false := by simp; omega
    have t2 : decide (1000000 < d / ((Int.gcd n d : Nat) : Int)) = false := by simp; omega
    go_enter Tryd.func36, Tryd.ntmps36
    go_wp2_with fail
    refine (rgcd_int _ _ _ h1 h2 (by omega) h4).mono ?_
    rintro e w1 ⟨rfl, rfl⟩
    go_wp2
    refine bodyPost_ret (v := .tuple #[.agg #[.int .i64 (-(n / ((Int.gcd n d : Nat) : Int))), .int .i64 (d / ((Int.gcd n d : Nat) : Int))], .bool true]) (by simp [results, Tryd.results36, go_sem]) rfl ⟨rfl, ?_⟩
    exact (by with_reducible repeat (first | exact Below.refl _ _ | refine below_drewN ?_ _ | refine Below.setCell ?_ (by first | (simp; done) | (simp; omega) | omega) _ | refine Below.drew ?_ | refine below_end ?_ (by assumption) | refine ball ?_ _))
  · obtain ⟨e1, e2, e3⟩ := Wnum.oNn (r := r) (Wnum.ok_not (by omega))
    rw [e1, e2, e3]
    clear e1 e2 e3 q6 q7
    by_cases c1 : n / ((Int.gcd n d : Nat) : Int) ≤ 1000000000000
    · have t1 : decide (1000000000000 < n / ((Int.gcd n d : Nat) : Int)) = false := by simp; omega
      have t2 : decide (1000000 < d / ((Int.gcd n d : Nat) : Int)) = true := by simp; omega
      clear c c1
      go_enter Tryd.func36, Tryd.ntmps36
      go_wp2_with fail
      refine (rgcd_int _ _ _ h1 h2 (by omega) h4).mono ?_
      rintro e w1 ⟨rfl, rfl⟩
      go_wp2
      refine bodyPost_ret (v := .tuple #[.agg #[.int .i64 0, .int .i64 0], .bool false]) (by simp [results, Tryd.results36, go_sem]) rfl ⟨rfl, ?_⟩
      exact (by with_reducible repeat (first | exact Below.refl _ _ | refine below_drewN ?_ _ | refine Below.setCell ?_ (by first | (simp; done) | (simp; omega) | omega) _ | refine Below.drew ?_ | refine below_end ?_ (by assumption) | refine ball ?_ _))
    · have t1 : decide (1000000000000 < n / ((Int.gcd n d : Nat) : Int)) = true := by simp; omega
      clear c c1
      go_enter Tryd.func36, Tryd.ntmps36
      go_wp2_with fail
      refine (rgcd_int _ _ _ h1 h2 (by omega) h4).mono ?_
      rintro e w1 ⟨rfl, rfl⟩
      go_wp2
      refine bodyPost_ret (v := .tuple #[.agg #[.int .i64 0, .int .i64 0], .bool false]) (by simp [results, Tryd.results36, go_sem]) rfl ⟨rfl, ?_⟩
      exact (by with_reducible repeat (first | exact Below.refl _ _ | refine below_drewN ?_ _ | refine Below.setCell ?_ (by first | (simp; done) | (simp; omega) | omega) _ | refine Below.drew ?_ | refine below_end ?_ (by assumption) | refine ball ?_ _))

set_option maxHeartbeats 400000 in
theorem rmake_pp (n d : Int) (w : World) (h1 : -9223372036854775808 ≤ n) (h2 : n ≤ 9223372036854775807) (h3 : -9223372036854775808 ≤ d) (h4 : d ≤ 9223372036854775807) (hn : 0 ≤ n) (hd : 0 < d) :
    Calls Tryd.prog 52 #[.int .i64 n, .int .i64 d] w fun e w' => e = .returned (.tuple #[.agg #[.int .i64 (Wnum.oN (Wnum.mk n d)), .int .i64 (Wnum.oD (Wnum.mk n d))], .bool (Wnum.oB (Wnum.mk n d))]) ∧ Below w.heap.size w w' := by
  rw [Wnum.mk_pos (show d ≠ 0 by omega), ← Wnum.abs_pp hn hd]
  have t0 : (d == 0) = false := beq_eq_false_iff_ne.2 (by omega)
  have t1 : decide (n < 0) = false := by simp; omega
  have t2 : decide (d < 0) = false := by simp; omega
  have b0 : (0 : Int) ≤ (n.natAbs : Int) := by omega
  have b1 : (n.natAbs : Int) ≤ 18446744073709551615 := by omega
  have b2 : 1 ≤ (d.natAbs : Int) := by omega
  have b3 : (d.natAbs : Int) ≤ 18446744073709551615 := by omega
  go_enter Tryd.func52, Tryd.ntmps52
  go_wp2_with fail
  refine (far_any _ _ h1 h2).mono ?_
  rintro e w1 ⟨rfl, rfl⟩
  go_wp2_with fail
  refine (far_any _ _ h3 h4).mono ?_
  rintro e w1 ⟨rfl, rfl⟩
  go_wp2_with fail
  refine (made_pos _ _ _ b0 b1 b2 b3).mono ?_
  rintro e w1 ⟨rfl, hb⟩
  obtain ⟨hc, hf⟩ := bcell hb
  have hz := bsz (k := w.heap.size) hb (by simp)
  go_wp2
  refine bodyPost_ret (v := .tuple #[.agg #[.int .i64 (Wnum.oN (some (Rat.divInt (n.natAbs : Int) (d.natAbs : Int)))), .int .i64 (Wnum.oD (some (Rat.divInt (n.natAbs : Int) (d.natAbs : Int))))], .bool (Wnum.oB (some (Rat.divInt (n.natAbs : Int) (d.natAbs : Int))))]) (by simp [results, Tryd.results52, go_sem, hc]) rfl ⟨rfl, ?_⟩
  exact (by with_reducible repeat (first | exact Below.refl _ _ | refine below_drewN ?_ _ | refine Below.setCell ?_ (by first | (simp; done) | (simp; omega) | omega) _ | refine Below.drew ?_ | refine below_end ?_ (by assumption) | refine ball ?_ _))

set_option maxHeartbeats 400000 in
theorem rmake_nn (n d : Int) (w : World) (h1 : -9223372036854775808 ≤ n) (h2 : n ≤ 9223372036854775807) (h3 : -9223372036854775808 ≤ d) (h4 : d ≤ 9223372036854775807) (hn : n < 0) (hd : d < 0) :
    Calls Tryd.prog 52 #[.int .i64 n, .int .i64 d] w fun e w' => e = .returned (.tuple #[.agg #[.int .i64 (Wnum.oN (Wnum.mk n d)), .int .i64 (Wnum.oD (Wnum.mk n d))], .bool (Wnum.oB (Wnum.mk n d))]) ∧ Below w.heap.size w w' := by
  rw [Wnum.mk_pos (show d ≠ 0 by omega), ← Wnum.abs_nn hn hd]
  have t0 : (d == 0) = false := beq_eq_false_iff_ne.2 (by omega)
  have t1 : decide (n < 0) = true := by simp; omega
  have t2 : decide (d < 0) = true := by simp; omega
  have b0 : (0 : Int) ≤ (n.natAbs : Int) := by omega
  have b1 : (n.natAbs : Int) ≤ 18446744073709551615 := by omega
  have b2 : 1 ≤ (d.natAbs : Int) := by omega
  have b3 : (d.natAbs : Int) ≤ 18446744073709551615 := by omega
  go_enter Tryd.func52, Tryd.ntmps52
  go_wp2_with fail
  refine (far_any _ _ h1 h2).mono ?_
  rintro e w1 ⟨rfl, rfl⟩
  go_wp2_with fail
  refine (far_any _ _ h3 h4).mono ?_
  rintro e w1 ⟨rfl, rfl⟩
  go_wp2_with fail
  refine (made_pos _ _ _ b0 b1 b2 b3).mono ?_
  rintro e w1 ⟨rfl, hb⟩
  obtain ⟨hc, hf⟩ := bcell hb
  have hz := bsz (k := w.heap.size) hb (by simp)
  go_wp2
  refine bodyPost_ret (v := .tuple #[.agg #[.int .i64 (Wnum.oN (some (Rat.divInt (n.natAbs : Int) (d.natAbs : Int)))), .int .i64 (Wnum.oD (some (Rat.divInt (n.natAbs : Int) (d.natAbs : Int))))], .bool (Wnum.oB (some (Rat.divInt (n.natAbs : Int) (d.natAbs : Int))))]) (by simp [results, Tryd.results52, go_sem, hc]) rfl ⟨rfl, ?_⟩
  exact (by with_reducible repeat (first | exact Below.refl _ _ | refine below_drewN ?_ _ | refine Below.setCell ?_ (by first | (simp; done) | (simp; omega) | omega) _ | refine Below.drew ?_ | refine below_end ?_ (by assumption) | refine ball ?_ _))

set_option maxHeartbeats 400000 in
theorem rmake_np (n d : Int) (w : World) (h1 : -9223372036854775808 ≤ n) (h2 : n ≤ 9223372036854775807) (h3 : -9223372036854775808 ≤ d) (h4 : d ≤ 9223372036854775807) (hn : n < 0) (hd : 0 < d) :
    Calls Tryd.prog 52 #[.int .i64 n, .int .i64 d] w fun e w' => e = .returned (.tuple #[.agg #[.int .i64 (Wnum.oN (Wnum.mk n d)), .int .i64 (Wnum.oD (Wnum.mk n d))], .bool (Wnum.oB (Wnum.mk n d))]) ∧ Below w.heap.size w w' := by
  rw [Wnum.mk_pos (show d ≠ 0 by omega), ← Wnum.abs_np hn hd]
  have t0 : (d == 0) = false := beq_eq_false_iff_ne.2 (by omega)
  have t1 : decide (n < 0) = true := by simp; omega
  have t2 : decide (d < 0) = false := by simp; omega
  have b0 : (0 : Int) ≤ (n.natAbs : Int) := by omega
  have b1 : (n.natAbs : Int) ≤ 18446744073709551615 := by omega
  have b2 : 1 ≤ (d.natAbs : Int) := by omega
  have b3 : (d.natAbs : Int) ≤ 18446744073709551615 := by omega
  go_enter Tryd.func52, Tryd.ntmps52
  go_wp2_with fail
  refine (far_any _ _ h1 h2).mono ?_
  rintro e w1 ⟨rfl, rfl⟩
  go_wp2_with fail
  refine (far_any _ _ h3 h4).mono ?_
  rintro e w1 ⟨rfl, rfl⟩
  go_wp2_with fail
  refine (made_neg _ _ _ b0 b1 b2 b3).mono ?_
  rintro e w1 ⟨rfl, hb⟩
  obtain ⟨hc, hf⟩ := bcell hb
  have hz := bsz (k := w.heap.size) hb (by simp)
  go_wp2
  refine bodyPost_ret (v := .tuple #[.agg #[.int .i64 (Wnum.oN (some (Rat.divInt (-(n.natAbs : Int)) (d.natAbs : Int)))), .int .i64 (Wnum.oD (some (Rat.divInt (-(n.natAbs : Int)) (d.natAbs : Int))))], .bool (Wnum.oB (some (Rat.divInt (-(n.natAbs : Int)) (d.natAbs : Int))))]) (by simp [results, Tryd.results52, go_sem, hc]) rfl ⟨rfl, ?_⟩
  exact (by with_reducible repeat (first | exact Below.refl _ _ | refine below_drewN ?_ _ | refine Below.setCell ?_ (by first | (simp; done) | (simp; omega) | omega) _ | refine Below.drew ?_ | refine below_end ?_ (by assumption) | refine ball ?_ _))

set_option maxHeartbeats 400000 in
theorem rmake_pn (n d : Int) (w : World) (h1 : -9223372036854775808 ≤ n) (h2 : n ≤ 9223372036854775807) (h3 : -9223372036854775808 ≤ d) (h4 : d ≤ 9223372036854775807) (hn : 0 ≤ n) (hd : d < 0) :
    Calls Tryd.prog 52 #[.int .i64 n, .int .i64 d] w fun e w' => e = .returned (.tuple #[.agg #[.int .i64 (Wnum.oN (Wnum.mk n d)), .int .i64 (Wnum.oD (Wnum.mk n d))], .bool (Wnum.oB (Wnum.mk n d))]) ∧ Below w.heap.size w w' := by
  rw [Wnum.mk_pos (show d ≠ 0 by omega), ← Wnum.abs_pn hn hd]
  have t0 : (d == 0) = false := beq_eq_false_iff_ne.2 (by omega)
  have t1 : decide (n < 0) = false := by simp; omega
  have t2 : decide (d < 0) = true := by simp; omega
  have b0 : (0 : Int) ≤ (n.natAbs : Int) := by omega
  have b1 : (n.natAbs : Int) ≤ 18446744073709551615 := by omega
  have b2 : 1 ≤ (d.natAbs : Int) := by omega
  have b3 : (d.natAbs : Int) ≤ 18446744073709551615 := by omega
  go_enter Tryd.func52, Tryd.ntmps52
  go_wp2_with fail
  refine (far_any _ _ h1 h2).mono ?_
  rintro e w1 ⟨rfl, rfl⟩
  go_wp2_with fail
  refine (far_any _ _ h3 h4).mono ?_
  rintro e w1 ⟨rfl, rfl⟩
  go_wp2_with fail
  refine (made_neg _ _ _ b0 b1 b2 b3).mono ?_
  rintro e w1 ⟨rfl, hb⟩
  obtain ⟨hc, hf⟩ := bcell hb
  have hz := bsz (k := w.heap.size) hb (by simp)
  go_wp2
  refine bodyPost_ret (v := .tuple #[.agg #[.int .i64 (Wnum.oN (some (Rat.divInt (-(n.natAbs : Int)) (d.natAbs : Int)))), .int .i64 (Wnum.oD (some (Rat.divInt (-(n.natAbs : Int)) (d.natAbs : Int))))], .bool (Wnum.oB (some (Rat.divInt (-(n.natAbs : Int)) (d.natAbs : Int))))]) (by simp [results, Tryd.results52, go_sem, hc]) rfl ⟨rfl, ?_⟩
  exact (by with_reducible repeat (first | exact Below.refl _ _ | refine below_drewN ?_ _ | refine Below.setCell ?_ (by first | (simp; done) | (simp; omega) | omega) _ | refine Below.drew ?_ | refine below_end ?_ (by assumption) | refine ball ?_ _))

theorem rmake_any (n d : Int) (w : World) (h1 : -9223372036854775808 ≤ n) (h2 : n ≤ 9223372036854775807) (h3 : -9223372036854775808 ≤ d) (h4 : d ≤ 9223372036854775807) :
    Calls Tryd.prog 52 #[.int .i64 n, .int .i64 d] w fun e w' => e = .returned (.tuple #[.agg #[.int .i64 (Wnum.oN (Wnum.mk n d)), .int .i64 (Wnum.oD (Wnum.mk n d))], .bool (Wnum.oB (Wnum.mk n d))]) ∧ Below w.heap.size w w' := by
  by_cases c : d = 0
  · subst c
    rw [Wnum.mk_zero]
    show Calls _ _ _ _ fun e w' => e = .returned (.tuple #[.agg #[.int .i64 0, .int .i64 0], .bool false]) ∧ _
    go_enter Tryd.func52, Tryd.ntmps52
    go_wp2
    refine bodyPost_ret (v := .tuple #[.agg #[.int .i64 0, .int .i64 0], .bool false]) (by simp [results, Tryd.results52, go_sem]) rfl ⟨rfl, ?_⟩
    exact (by with_reducible repeat (first | exact Below.refl _ _ | refine below_drewN ?_ _ | refine Below.setCell ?_ (by first | (simp; done) | (simp; omega) | omega) _ | refine Below.drew ?_ | refine below_end ?_ (by assumption) | refine ball ?_ _))
  · rcases Int.lt_or_lt_of_ne c with hd | hd
    · rcases Int.lt_or_le n 0 with hn | hn
      · exact rmake_nn n d w h1 h2 h3 h4 hn hd
      · exact rmake_pn n d w h1 h2 h3 h4 hn hd
    · rcases Int.lt_or_le n 0 with hn | hn
      · exact rmake_np n d w h1 h2 h3 h4 hn hd
      · exact rmake_pp n d w h1 h2 h3 h4 hn hd

end Go.Proofs.YtfilmomndhlmbaaDoor