/- The contracts of the reference's made, Make, Cmp, Neg, Add, Sub. -/
import Derived.Test.YtfilmomndhlmbabDoorWalkF
import Derived.Test.YtfilmomndhlmbabDoorPlainB
namespace Go.Proofs.YtfilmomndhlmbabDoor
open Go.RowKit
set_option linter.unusedVariables false

set_option maxHeartbeats 400000 in
theorem made_pos (n d : Int) (w : World) (h1 : 0 ≤ n) (h2 : n ≤ 18446744073709551615) (h3 : 1 ≤ d) (h4 : d ≤ 18446744073709551615) :
    Calls Tryd.prog 27 #[.bool false, .int .u64 n, .int .u64 d] w fun e w' => e = .returned (.tuple #[.agg #[.int .i64 (Wnum.oN (some (Rat.divInt (n) d))), .int .i64 (Wnum.oD (some (Rat.divInt (n) d)))], .bool (Wnum.oB (some (Rat.divInt (n) d)))]) ∧ Below w.heap.size w w' := by
  obtain ⟨q1, q2, q3, q4, q5, q6, q7, _, _⟩ := Wnum.made_parts h1 h3
  generalize Rat.divInt (n) d = r at *
  by_cases c : n / ((Int.gcd n d : Nat) : Int) ≤ 1000000000000 ∧ d / ((Int.gcd n d : Nat) : Int) ≤ 1000000
  · obtain ⟨c1, c2⟩ := c
    obtain ⟨e1, e2, e3⟩ := Wnum.oNs (r := r) (Wnum.ok_iff.2 (by omega))
    rw [e1, e2, e3, q6, q7]
    clear e1 e2 e3 q6 q7
    have t1 : decide (1000000000000 < n / ((Int.gcd n d : Nat) : Int)) = false := by simp; omega
    have t2 : decide (1000000 < d / ((Int.gcd n d : Nat) : Int)) = false := by simp; omega
    go_enter Tryd.func27, Tryd.ntmps27
    go_wp2_with fail
    refine (rgcd_int _ _ _ h1 h2 (by omega) h4).mono ?_
    rintro e w1 ⟨rfl, rfl⟩
    go_wp2
    refine bodyPost_ret (v := .tuple #[.agg #[.int .i64 (n / ((Int.gcd n d : Nat) : Int)), .int .i64 (d / ((Int.gcd n d : Nat) : Int))], .bool true]) (by simp [results, Tryd.results27, go_sem]) rfl ⟨rfl, ?_⟩
    exact (by with_reducible repeat (first | exact Below.refl _ _ | refine below_drewN ?_ _ | refine Below.setCell ?_ (by first | (simp; done) | (simp; omega) | omega) _ | refine Below.drew ?_ | refine below_end ?_ (by assumption) | refine ball ?_ _))
  · obtain ⟨e1, e2, e3⟩ := Wnum.oNn (r := r) (Wnum.ok_not (by omega))
    rw [e1, e2, e3]
    clear e1 e2 e3 q6 q7
    by_cases c1 : n / ((Int.gcd n d : Nat) : Int) ≤ 1000000000000
    · have t1 : decide (1000000000000 < n / ((Int.gcd n d : Nat) : Int)) = false := by simp; omega
      have t2 : decide (1000000 < d / ((Int.gcd n d : Nat) : Int)) = true := by simp; omega
      clear c c1
      go_enter Tryd.func27, Tryd.ntmps27
      go_wp2_with fail
      refine (rgcd_int _ _ _ h1 h2 (by omega) h4).mono ?_
      rintro e w1 ⟨rfl, rfl⟩
      go_wp2
      refine bodyPost_ret (v := .tuple #[.agg #[.int .i64 0, .int .i64 0], .bool false]) (by simp [results, Tryd.results27, go_sem]) rfl ⟨rfl, ?_⟩
      exact (by with_reducible repeat (first | exact Below.refl _ _ | refine below_drewN ?_ _ | refine Below.setCell ?_ (by first | (simp; done) | (simp; omega) | omega) _ | refine Below.drew ?_ | refine below_end ?_ (by assumption) | refine ball ?_ _))
    · have t1 : decide (1000000000000 < n / ((Int.gcd n d : Nat) : Int)) = true := by simp; omega
      clear c c1
      go_enter Tryd.func27, Tryd.ntmps27
      go_wp2_with fail
      refine (rgcd_int _ _ _ h1 h2 (by omega) h4).mono ?_
      rintro e w1 ⟨rfl, rfl⟩
      go_wp2
      refine bodyPost_ret (v := .tuple #[.agg #[.int .i64 0, .int .i64 0], .bool false]) (by simp [results, Tryd.results27, go_sem]) rfl ⟨rfl, ?_⟩
      exact (by with_reducible repeat (first | exact Below.refl _ _ | refine below_drewN ?_ _ | refine Below.setCell ?_ (by first | (simp; done) | (simp; omega) | omega) _ | refine Below.drew ?_ | refine below_end ?_ (by assumption) | refine ball ?_ _))

set_option maxHeartbeats 400000 in
theorem made_neg (n d : Int) (w : World) (h1 : 0 ≤ n) (h2 : n ≤ 18446744073709551615) (h3 : 1 ≤ d) (h4 : d ≤ 18446744073709551615) :
    Calls Tryd.prog 27 #[.bool true, .int .u64 n, .int .u64 d] w fun e w' => e = .returned (.tuple #[.agg #[.int .i64 (Wnum.oN (some (Rat.divInt (-n) d))), .int .i64 (Wnum.oD (some (Rat.divInt (-n) d)))], .bool (Wnum.oB (some (Rat.divInt (-n) d)))]) ∧ Below w.heap.size w w' := by
  obtain ⟨q1, q2, q3, q4, q5, _, _, q6, q7⟩ := Wnum.made_parts h1 h3
  generalize Rat.divInt (-n) d = r at *
  by_cases c : n / ((Int.gcd n d : Nat) : Int) ≤ 1000000000000 ∧ d / ((Int.gcd n d : Nat) : Int) ≤ 1000000
  · obtain ⟨c1, c2⟩ := c
    obtain ⟨e1, e2, e3⟩ := Wnum.oNs (r := r) (Wnum.ok_iff.2 (by omega))
    rw [e1, e2, e3, q6, q7]
    clear e1 e2 e3 q6 q7
    have t1 : decide (1000000000000 < n / ((Int.gcd n d : Nat) : Int)) = false := by simp; omega
    have t2 : decide (1000000 < d / ((Int.gcd n d : Nat) : Int)) = false := by simp; omega
    go_enter Tryd.func27, Tryd.ntmps27
    go_wp2_with fail
    refine (rgcd_int _ _ _ h1 h2 (by omega) h4).mono ?_
    rintro e w1 ⟨rfl, rfl⟩
    go_wp2
    refine bodyPost_ret (v := .tuple #[.agg #[.int .i64 (-(n / ((Int.gcd n d : Nat) : Int))), .int .i64 (d / ((Int.gcd n d : Nat) : Int))], .bool true]) (by simp [results, Tryd.results27, go_sem]) rfl ⟨rfl, ?_⟩
    exact (by with_reducible repeat (first | exact Below.refl _ _ | refine below_drewN ?_ _ | refine Below.setCell ?_ (by first | (simp; done) | (simp; omega) | omega) _ | refine Below.drew ?_ | refine below_end ?_ (by assumption) | refine ball ?_ _))
  · obtain ⟨e1, e2, e3⟩ := Wnum.oNn (r := r) (Wnum.ok_not (by omega))
    rw [e1, e2, e3]
    clear e1 e2 e3 q6 q7
    by_cases c1 : n / ((Int.gcd n d : Nat) : Int) ≤ 1000000000000
    · have t1 : decide (1000000000000 < n / ((Int.gcd n d : Nat) : Int)) = false := by simp; omega
      have t2 : decide (1000000 < d / ((Int.gcd n d : Nat) : Int)) = true := by simp; omega
      clear c c1
      go_enter Tryd.func27, Tryd.ntmps27
      go_wp2_with fail
      refine (rgcd_int _ _ _ h1 h2 (by omega) h4).mono ?_
      rintro e w1 ⟨rfl, rfl⟩
      go_wp2
      refine bodyPost_ret (v := .tuple #[.agg #[.int .i64 0, .int .i64 0], .bool false]) (by simp [results, Tryd.results27, go_sem]) rfl ⟨rfl, ?_⟩
      exact (by with_reducible repeat (first | exact Below.refl _ _ | refine below_drewN ?_ _ | refine Below.setCell ?_ (by first | (simp; done) | (simp; omega) | omega) _ | refine Below.drew ?_ | refine below_end ?_ (by assumption) | refine ball ?_ _))
    · have t1 : decide (1000000000000 < n / ((Int.gcd n d : Nat) : Int)) = true := by simp; omega
      clear c c1
      go_enter Tryd.func27, Tryd.ntmps27
      go_wp2_with fail
      refine (rgcd_int _ _ _ h1 h2 (by omega) h4).mono ?_
      rintro e w1 ⟨rfl, rfl⟩
      go_wp2
      refine bodyPost_ret (v := .tuple #[.agg #[.int .i64 0, .int .i64 0], .bool false]) (by simp [results, Tryd.results27, go_sem]) rfl ⟨rfl, ?_⟩
      exact (by with_reducible repeat (first | exact Below.refl _ _ | refine below_drewN ?_ _ | refine Below.setCell ?_ (by first | (simp; done) | (simp; omega) | omega) _ | refine Below.drew ?_ | refine below_end ?_ (by assumption) | refine ball ?_ _))

end Go.Proofs.YtfilmomndhlmbabDoor