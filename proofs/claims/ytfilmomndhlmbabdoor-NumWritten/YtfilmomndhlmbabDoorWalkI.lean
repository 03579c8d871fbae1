/- The contract of Make, of any ints. -/
import Derived.Test.YtfilmomndhlmbabDoorWalkC
import Derived.Test.YtfilmomndhlmbabDoorPlainB
namespace Go.Proofs.YtfilmomndhlmbabDoor
open Go.RowKit
set_option linter.unusedVariables false

set_option maxHeartbeats 400000 in
theorem make_neg' (n d N D : Int) (w : World) (eN : Hid (-n = N)) (eD : Hid (-d = D)) (h1 : -9223372036854775807 ≤ n) (h2 : n ≤ 9223372036854775807) (h3 : -9223372036854775807 ≤ d) (h4 : d ≤ -1)
    (hN1 : -9223372036854775807 ≤ N) (hN2 : N ≤ 9223372036854775807) (hD : 1 ≤ D) (hD2 : D ≤ 9223372036854775807) :
    Calls Tryd.prog 25 #[.int .i64 n, .int .i64 d] w fun e w' => e = .returned (.tuple #[.agg #[.int .i64 (Wnum.oN (some (Rat.divInt N D))), .int .i64 (Wnum.oD (some (Rat.divInt N D)))], .bool (Wnum.oB (some (Rat.divInt N D)))]) ∧ Below w.heap.size w w' := by
  obtain ⟨g1, g2, g3, g4, g5⟩ := Wnum.mk_tdiv (n := N) (d := D) hD hN1 hN2
  have k1 : Hid ((Rat.divInt (N) (D)).num = Int.tdiv (N) ((Int.gcd (N) (D) : Nat) : Int)) := g4
  have g8 : Int.tdiv (D) ((Int.gcd (N) (D) : Nat) : Int) = (D) / ((Int.gcd (N) (D) : Nat) : Int) := Int.tdiv_eq_ediv_of_nonneg (by omega)
  have k2 : Hid ((((Rat.divInt (N) (D)).den : Nat) : Int) = Int.tdiv (D) ((Int.gcd (N) (D) : Nat) : Int)) := g5.trans g8.symm
  have g6 : 0 ≤ (D) / ((Int.gcd (N) (D) : Nat) : Int) := Int.ediv_nonneg (by omega) (by omega)
  have g7 : (D) / ((Int.gcd (N) (D) : Nat) : Int) ≤ (D) := Int.ediv_le_self _ (by omega)
  rw [← g8] at g6 g7
  have g9 : Int.tdiv (D) ((Int.gcd (N) (D) : Nat) : Int) ≤ 9223372036854775807 := by omega
  have g10 : -9223372036854775807 ≤ Int.tdiv (D) ((Int.gcd (N) (D) : Nat) : Int) := by omega
  have hw : IntKind.i64.wrap (Int.tdiv (D) ((Int.gcd (N) (D) : Nat) : Int)) = Int.tdiv (D) ((Int.gcd (N) (D) : Nat) : Int) := IntWalk.i64_in _ (by omega)
  have hwn : IntKind.i64.wrap (Int.tdiv (N) ((Int.gcd (N) (D) : Nat) : Int)) = Int.tdiv (N) ((Int.gcd (N) (D) : Nat) : Int) := IntWalk.i64_in _ (by omega)
  clear g4 g5 g8 g7 g6
  generalize Rat.divInt (N) (D) = r at *
  have t0 : (n == -9223372036854775808) = false := beq_eq_false_iff_ne.2 (by omega)
  have t1 : (d == -9223372036854775808) = false := beq_eq_false_iff_ne.2 (by omega)
  have t2 : (d == 0) = false := beq_eq_false_iff_ne.2 (by omega)
  have t3 : decide (d < 0) = true := by simp; omega
  go_enter Tryd.func25, Tryd.ntmps25
  go_wp2_with fail
  rw [eN.out, eD.out]
  refine (divisor_any _ _ _ (by omega) (by omega) (by omega) (by omega)).mono ?_
  rintro e w1 ⟨rfl, nq, rfl⟩
  clear t0 t1 t2 t3
  go_wp2_with fail
  go_region_with ((go_at_call 39; refine (fitting_any _ _ r _ g2 g3 k1 k2).mono ?_; rintro e w1 ⟨rfl, hb⟩; obtain ⟨hc, hf⟩ := bcell hb; have hz := bsz (k := w.heap.size) hb (by simp)))
  all_goals
    go_wp2
    refine bodyPost_ret (v := .tuple #[.agg #[.int .i64 (Wnum.oN (some r)), .int .i64 (Wnum.oD (some r))], .bool (Wnum.oB (some r))]) (by simp [results, Tryd.results25, go_sem, hc]) rfl ⟨rfl, ?_⟩
    exact (by with_reducible repeat (first | exact Below.refl _ _ | refine below_drewN ?_ _ | refine Below.setCell ?_ (by first | (simp; done) | (simp; omega) | omega) _ | refine Below.drew ?_ | refine below_end ?_ (by assumption) | refine ball ?_ _))

theorem make_neg (n d : Int) (w : World) (h1 : -9223372036854775807 ≤ n) (h2 : n ≤ 9223372036854775807) (h3 : -9223372036854775807 ≤ d) (h4 : d ≤ -1) :
    Calls Tryd.prog 25 #[.int .i64 n, .int .i64 d] w fun e w' => e = .returned (.tuple #[.agg #[.int .i64 (Wnum.oN (some (Rat.divInt (-n) (-d)))), .int .i64 (Wnum.oD (some (Rat.divInt (-n) (-d))))], .bool (Wnum.oB (some (Rat.divInt (-n) (-d))))]) ∧ Below w.heap.size w w' :=
  make_neg' n d (-n) (-d) w (rfl : -n = -n) (rfl : -d = -d) h1 h2 h3 h4 (by omega) (by omega) (by omega) (by omega)

theorem make_zero (n : Int) (w : World) (h1 : -9223372036854775807 ≤ n) (h2 : n ≤ 9223372036854775807) :
    Calls Tryd.prog 25 #[.int .i64 n, .int .i64 0] w fun e w' => e = .returned (.tuple #[.agg #[.int .i64 0, .int .i64 0], .bool false]) ∧ Below w.heap.size w w' := by
  have t0 : (n == -9223372036854775808) = false := beq_eq_false_iff_ne.2 (by omega)
  go_enter Tryd.func25, Tryd.ntmps25
  go_wp2
  refine bodyPost_ret (v := .tuple #[.agg #[.int .i64 0, .int .i64 0], .bool false]) (by simp [results, Tryd.results25, go_sem]) rfl ⟨rfl, ?_⟩
  exact (by with_reducible repeat (first | exact Below.refl _ _ | refine below_drewN ?_ _ | refine Below.setCell ?_ (by first | (simp; done) | (simp; omega) | omega) _ | refine Below.drew ?_ | refine below_end ?_ (by assumption) | refine ball ?_ _))

/-- Where neither is the least int. -/
theorem make_most (n d : Int) (w : World) (h1 : -9223372036854775807 ≤ n) (h2 : n ≤ 9223372036854775807) (h3 : -9223372036854775807 ≤ d) (h4 : d ≤ 9223372036854775807) :
    Calls Tryd.prog 25 #[.int .i64 n, .int .i64 d] w fun e w' => e = .returned (.tuple #[.agg #[.int .i64 (Wnum.oN (Wnum.mk n d)), .int .i64 (Wnum.oD (Wnum.mk n d))], .bool (Wnum.oB (Wnum.mk n d))]) ∧ Below w.heap.size w w' := by
  rcases Int.lt_trichotomy d 0 with h | h | h
  · rw [Wnum.mk_pos (show d ≠ 0 by omega), ← Rat.neg_divInt_neg]
    exact make_neg n d w h1 h2 h3 (by omega)
  · subst h
    rw [Wnum.mk_zero]
    exact make_zero n w h1 h2
  · rw [Wnum.mk_pos (show d ≠ 0 by omega)]
    exact make_pos n d w h1 h2 (by omega) h4

set_option maxHeartbeats 400000 in
theorem make_odd_right (n d : Int) (w : World) (hn : (n == -9223372036854775808) = true) (h3 : -9223372036854775808 ≤ d) (h4 : d ≤ 9223372036854775807) (ho : d % 2 ≠ 0) :
    Calls Tryd.prog 25 #[.int .i64 n, .int .i64 d] w fun e w' => e = .returned (.tuple #[.agg #[.int .i64 (Wnum.oN (Wnum.mk n d)), .int .i64 (Wnum.oD (Wnum.mk n d))], .bool (Wnum.oB (Wnum.mk n d))]) ∧ Below w.heap.size w w' := by
  have hn' : n = -9223372036854775808 := by simpa using hn
  have e1 : Wnum.oB (Wnum.mk n d) = false := by rw [hn']; exact Wnum.mk_min_left ho
  obtain ⟨e2, e3⟩ := Wnum.oB_false e1
  rw [e1, e2, e3]
  have t0 : n.tmod 2 = 0 := by rw [hn']; rfl
  have t1 : (d.tmod 2 != 0) = true := by rw [bne_iff_ne]; intro h; have := Int.dvd_of_tmod_eq_zero h; omega
  have t2 : (d % 2 != 0) = true := by rw [bne_iff_ne]; exact ho
  have b1 : -9223372036854775808 ≤ n := by omega
  have b2 : n ≤ 9223372036854775807 := by omega
  clear e1 e2 e3 hn' ho
  go_enter Tryd.func25, Tryd.ntmps25
  go_wp2
  refine bodyPost_ret (v := .tuple #[.agg #[.int .i64 0, .int .i64 0], .bool false]) (by simp [results, Tryd.results25, go_sem]) rfl ⟨rfl, ?_⟩
  exact (by with_reducible repeat (first | exact Below.refl _ _ | refine below_drewN ?_ _ | refine Below.setCell ?_ (by first | (simp; done) | (simp; omega) | omega) _ | refine Below.drew ?_ | refine below_end ?_ (by assumption) | refine ball ?_ _))

set_option maxHeartbeats 400000 in
theorem make_odd_left (n d : Int) (w : World) (h1 : -9223372036854775808 ≤ n) (h2 : n ≤ 9223372036854775807) (t9 : (n == -9223372036854775808) = false) (hn : (d == -9223372036854775808) = true) (ho : n % 2 ≠ 0) :
    Calls Tryd.prog 25 #[.int .i64 n, .int .i64 d] w fun e w' => e = .returned (.tuple #[.agg #[.int .i64 (Wnum.oN (Wnum.mk n d)), .int .i64 (Wnum.oD (Wnum.mk n d))], .bool (Wnum.oB (Wnum.mk n d))]) ∧ Below w.heap.size w w' := by
  have hn' : d = -9223372036854775808 := by simpa using hn
  have e1 : Wnum.oB (Wnum.mk n d) = false := by rw [hn']; exact Wnum.mk_min_right ho
  obtain ⟨e2, e3⟩ := Wnum.oB_false e1
  rw [e1, e2, e3]
  have t1 : (n.tmod 2 != 0) = true := by rw [bne_iff_ne]; intro h; have := Int.dvd_of_tmod_eq_zero h; omega
  have t2 : (n % 2 != 0) = true := by rw [bne_iff_ne]; exact ho
  have b1 : -9223372036854775808 ≤ d := by omega
  have b2 : d ≤ 9223372036854775807 := by omega
  clear e1 e2 e3 hn' ho
  go_enter Tryd.func25, Tryd.ntmps25
  go_wp2
  refine bodyPost_ret (v := .tuple #[.agg #[.int .i64 0, .int .i64 0], .bool false]) (by simp [results, Tryd.results25, go_sem]) rfl ⟨rfl, ?_⟩
  exact (by with_reducible repeat (first | exact Below.refl _ _ | refine below_drewN ?_ _ | refine Below.setCell ?_ (by first | (simp; done) | (simp; omega) | omega) _ | refine Below.drew ?_ | refine below_end ?_ (by assumption) | refine ball ?_ _))

set_option maxHeartbeats 400000 in
theorem make_h1 (n d m k : Int) (w : World) (tn : (n == -9223372036854775808) = true) (b1 : -9223372036854775808 ≤ n) (b2 : n ≤ 9223372036854775807) (b3 : -9223372036854775808 ≤ d) (b4 : d ≤ 9223372036854775807)
    (e1 : n.tdiv 2 = m) (e2 : n / 2 = m) (e3 : d.tdiv 2 = k) (e4 : d / 2 = k) (e5 : n.tmod 2 = 0) (e6 : n % 2 = 0) (e7 : d.tmod 2 = 0) (e8 : d % 2 = 0)
    (hN1 : -9223372036854775807 ≤ m) (hN2 : m ≤ 9223372036854775807) (hD : 1 ≤ k) (hD2 : k ≤ 9223372036854775807) :
    Calls Tryd.prog 25 #[.int .i64 n, .int .i64 d] w fun e w' => e = .returned (.tuple #[.agg #[.int .i64 (Wnum.oN (some (Rat.divInt m k))), .int .i64 (Wnum.oD (some (Rat.divInt m k)))], .bool (Wnum.oB (some (Rat.divInt m k)))]) ∧ Below w.heap.size w w' := by
  obtain ⟨g1, g2, g3, g4, g5⟩ := Wnum.mk_tdiv (n := m) (d := k) hD hN1 hN2
  have k1 : Hid ((Rat.divInt (m) (k)).num = Int.tdiv (m) ((Int.gcd (m) (k) : Nat) : Int)) := g4
  have g8 : Int.tdiv (k) ((Int.gcd (m) (k) : Nat) : Int) = (k) / ((Int.gcd (m) (k) : Nat) : Int) := Int.tdiv_eq_ediv_of_nonneg (by omega)
  have k2 : Hid ((((Rat.divInt (m) (k)).den : Nat) : Int) = Int.tdiv (k) ((Int.gcd (m) (k) : Nat) : Int)) := g5.trans g8.symm
  have g6 : 0 ≤ (k) / ((Int.gcd (m) (k) : Nat) : Int) := Int.ediv_nonneg (by omega) (by omega)
  have g7 : (k) / ((Int.gcd (m) (k) : Nat) : Int) ≤ (k) := Int.ediv_le_self _ (by omega)
  rw [← g8] at g6 g7
  have g9 : Int.tdiv (k) ((Int.gcd (m) (k) : Nat) : Int) ≤ 9223372036854775807 := by omega
  have g10 : -9223372036854775807 ≤ Int.tdiv (k) ((Int.gcd (m) (k) : Nat) : Int) := by omega
  have hw : IntKind.i64.wrap (Int.tdiv (k) ((Int.gcd (m) (k) : Nat) : Int)) = Int.tdiv (k) ((Int.gcd (m) (k) : Nat) : Int) := IntWalk.i64_in _ (by omega)
  have hwn : IntKind.i64.wrap (Int.tdiv (m) ((Int.gcd (m) (k) : Nat) : Int)) = Int.tdiv (m) ((Int.gcd (m) (k) : Nat) : Int) := IntWalk.i64_in _ (by omega)
  clear g4 g5 g8 g7 g6
  generalize Rat.divInt (m) (k) = r at *
  have t2 : (k == 0) = false := beq_eq_false_iff_ne.2 (by omega)
  have t3 : decide (k < 0) = false := by simp; omega
  go_enter Tryd.func25, Tryd.ntmps25
  go_wp2_with fail
  refine (divisor_any _ _ _ (by omega) (by omega) (by omega) (by omega)).mono ?_
  rintro e w1 ⟨rfl, nq, rfl⟩
  clear t2 t3
  go_wp2_with fail
  go_region_with ((go_at_call 39; refine (fitting_any _ _ r _ g2 g3 k1 k2).mono ?_; rintro e w1 ⟨rfl, hb⟩; obtain ⟨hc, hf⟩ := bcell hb; have hz := bsz (k := w.heap.size) hb (by simp)))
  all_goals
    go_wp2
    refine bodyPost_ret (v := .tuple #[.agg #[.int .i64 (Wnum.oN (some r)), .int .i64 (Wnum.oD (some r))], .bool (Wnum.oB (some r))]) (by simp [results, Tryd.results25, go_sem, hc]) rfl ⟨rfl, ?_⟩
    exact (by with_reducible repeat (first | exact Below.refl _ _ | refine below_drewN ?_ _ | refine Below.setCell ?_ (by first | (simp; done) | (simp; omega) | omega) _ | refine Below.drew ?_ | refine below_end ?_ (by assumption) | refine ball ?_ _))

set_option maxHeartbeats 400000 in
theorem make_h2 (n d m k N D : Int) (w : World) (tn : (n == -9223372036854775808) = true) (b1 : -9223372036854775808 ≤ n) (b2 : n ≤ 9223372036854775807) (b3 : -9223372036854775808 ≤ d) (b4 : d ≤ 9223372036854775807)
    (e1 : n.tdiv 2 = m) (e2 : n / 2 = m) (e3 : d.tdiv 2 = k) (e4 : d / 2 = k) (e5 : n.tmod 2 = 0) (e6 : n % 2 = 0) (e7 : d.tmod 2 = 0) (e8 : d % 2 = 0)
    (eN : Hid (-m = N)) (eD : Hid (-k = D)) (h1 : -9223372036854775807 ≤ m) (h2 : m ≤ 9223372036854775807) (h3 : -9223372036854775807 ≤ k) (h4 : k ≤ -1) (hN1 : -9223372036854775807 ≤ N) (hN2 : N ≤ 9223372036854775807) (hD : 1 ≤ D) (hD2 : D ≤ 9223372036854775807) :
    Calls Tryd.prog 25 #[.int .i64 n, .int .i64 d] w fun e w' => e = .returned (.tuple #[.agg #[.int .i64 (Wnum.oN (some (Rat.divInt N D))), .int .i64 (Wnum.oD (some (Rat.divInt N D)))], .bool (Wnum.oB (some (Rat.divInt N D)))]) ∧ Below w.heap.size w w' := by
  obtain ⟨g1, g2, g3, g4, g5⟩ := Wnum.mk_tdiv (n := N) (d := D) hD hN1 hN2
  have k1 : Hid ((Rat.divInt (N) (D)).num = Int.tdiv (N) ((Int.gcd (N) (D) : Nat) : Int)) := g4
  have g8 : Int.tdiv (D) ((Int.gcd (N) (D) : Nat) : Int) = (D) / ((Int.gcd (N) (D) : Nat) : Int) := Int.tdiv_eq_ediv_of_nonneg (by omega)
  have k2 : Hid ((((Rat.divInt (N) (D)).den : Nat) : Int) = Int.tdiv (D) ((Int.gcd (N) (D) : Nat) : Int)) := g5.trans g8.symm
  have g6 : 0 ≤ (D) / ((Int.gcd (N) (D) : Nat) : Int) := Int.ediv_nonneg (by omega) (by omega)
  have g7 : (D) / ((Int.gcd (N) (D) : Nat) : Int) ≤ (D) := Int.ediv_le_self _ (by omega)
  rw [← g8] at g6 g7
  have g9 : Int.tdiv (D) ((Int.gcd (N) (D) : Nat) : Int) ≤ 9223372036854775807 := by omega
  have g10 : -9223372036854775807 ≤ Int.tdiv (D) ((Int.gcd (N) (D) : Nat) : Int) := by omega
  have hw : IntKind.i64.wrap (Int.tdiv (D) ((Int.gcd (N) (D) : Nat) : Int)) = Int.tdiv (D) ((Int.gcd (N) (D) : Nat) : Int) := IntWalk.i64_in _ (by omega)
  have hwn : IntKind.i64.wrap (Int.tdiv (N) ((Int.gcd (N) (D) : Nat) : Int)) = Int.tdiv (N) ((Int.gcd (N) (D) : Nat) : Int) := IntWalk.i64_in _ (by omega)
  clear g4 g5 g8 g7 g6
  generalize Rat.divInt (N) (D) = r at *
  have t2 : (k == 0) = false := beq_eq_false_iff_ne.2 (by omega)
  have t3 : decide (k < 0) = true := by simp; omega
  go_enter Tryd.func25, Tryd.ntmps25
  go_wp2_with fail
  rw [eN.out, eD.out]
  refine (divisor_any _ _ _ (by omega) (by omega) (by omega) (by omega)).mono ?_
  rintro e w1 ⟨rfl, nq, rfl⟩
  clear t2 t3
  go_wp2_with fail
  go_region_with ((go_at_call 39; refine (fitting_any _ _ r _ g2 g3 k1 k2).mono ?_; rintro e w1 ⟨rfl, hb⟩; obtain ⟨hc, hf⟩ := bcell hb; have hz := bsz (k := w.heap.size) hb (by simp)))
  all_goals
    go_wp2
    refine bodyPost_ret (v := .tuple #[.agg #[.int .i64 (Wnum.oN (some r)), .int .i64 (Wnum.oD (some r))], .bool (Wnum.oB (some r))]) (by simp [results, Tryd.results25, go_sem, hc]) rfl ⟨rfl, ?_⟩
    exact (by with_reducible repeat (first | exact Below.refl _ _ | refine below_drewN ?_ _ | refine Below.setCell ?_ (by first | (simp; done) | (simp; omega) | omega) _ | refine Below.drew ?_ | refine below_end ?_ (by assumption) | refine ball ?_ _))

set_option maxHeartbeats 400000 in
theorem make_h3 (n d m k : Int) (w : World) (tn : (n == -9223372036854775808) = true) (b1 : -9223372036854775808 ≤ n) (b2 : n ≤ 9223372036854775807) (b3 : -9223372036854775808 ≤ d) (b4 : d ≤ 9223372036854775807)
    (e1 : n.tdiv 2 = m) (e2 : n / 2 = m) (e3 : d.tdiv 2 = k) (e4 : d / 2 = k) (e5 : n.tmod 2 = 0) (e6 : n % 2 = 0) (e7 : d.tmod 2 = 0) (e8 : d % 2 = 0)
    (h1 : -9223372036854775807 ≤ m) (h2 : m ≤ 9223372036854775807) (hk : (k == 0) = true) :
    Calls Tryd.prog 25 #[.int .i64 n, .int .i64 d] w fun e w' => e = .returned (.tuple #[.agg #[.int .i64 0, .int .i64 0], .bool false]) ∧ Below w.heap.size w w' := by
  go_enter Tryd.func25, Tryd.ntmps25
  go_wp2
  refine bodyPost_ret (v := .tuple #[.agg #[.int .i64 0, .int .i64 0], .bool false]) (by simp [results, Tryd.results25, go_sem]) rfl ⟨rfl, ?_⟩
  exact (by with_reducible repeat (first | exact Below.refl _ _ | refine below_drewN ?_ _ | refine Below.setCell ?_ (by first | (simp; done) | (simp; omega) | omega) _ | refine Below.drew ?_ | refine below_end ?_ (by assumption) | refine ball ?_ _))

set_option maxHeartbeats 400000 in
theorem make_h4 (n d m k N D : Int) (w : World) (tn : (n == -9223372036854775808) = false) (td : (d == -9223372036854775808) = true) (b1 : -9223372036854775808 ≤ n) (b2 : n ≤ 9223372036854775807) (b3 : -9223372036854775808 ≤ d) (b4 : d ≤ 9223372036854775807)
    (e1 : n.tdiv 2 = m) (e2 : n / 2 = m) (e3 : d.tdiv 2 = k) (e4 : d / 2 = k) (e5 : n.tmod 2 = 0) (e6 : n % 2 = 0) (e7 : d.tmod 2 = 0) (e8 : d % 2 = 0)
    (eN : Hid (-m = N)) (eD : Hid (-k = D)) (h1 : -9223372036854775807 ≤ m) (h2 : m ≤ 9223372036854775807) (h3 : -9223372036854775807 ≤ k) (h4 : k ≤ -1) (hN1 : -9223372036854775807 ≤ N) (hN2 : N ≤ 9223372036854775807) (hD : 1 ≤ D) (hD2 : D ≤ 9223372036854775807) :
    Calls Tryd.prog 25 #[.int .i64 n, .int .i64 d] w fun e w' => e = .returned (.tuple #[.agg #[.int .i64 (Wnum.oN (some (Rat.divInt N D))), .int .i64 (Wnum.oD (some (Rat.divInt N D)))], .bool (Wnum.oB (some (Rat.divInt N D)))]) ∧ Below w.heap.size w w' := by
  obtain ⟨g1, g2, g3, g4, g5⟩ := Wnum.mk_tdiv (n := N) (d := D) hD hN1 hN2
  have k1 : Hid ((Rat.divInt (N) (D)).num = Int.tdiv (N) ((Int.gcd (N) (D) : Nat) : Int)) := g4
  have g8 : Int.tdiv (D) ((Int.gcd (N) (D) : Nat) : Int) = (D) / ((Int.gcd (N) (D) : Nat) : Int) := Int.tdiv_eq_ediv_of_nonneg (by omega)
  have k2 : Hid ((((Rat.divInt (N) (D)).den : Nat) : Int) = Int.tdiv (D) ((Int.gcd (N) (D) : Nat) : Int)) := g5.trans g8.symm
  have g6 : 0 ≤ (D) / ((Int.gcd (N) (D) : Nat) : Int) := Int.ediv_nonneg (by omega) (by omega)
  have g7 : (D) / ((Int.gcd (N) (D) : Nat) : Int) ≤ (D) := Int.ediv_le_self _ (by omega)
  rw [← g8] at g6 g7
  have g9 : Int.tdiv (D) ((Int.gcd (N) (D) : Nat) : Int) ≤ 9223372036854775807 := by omega
  have g10 : -9223372036854775807 ≤ Int.tdiv (D) ((Int.gcd (N) (D) : Nat) : Int) := by omega
  have hw : IntKind.i64.wrap (Int.tdiv (D) ((Int.gcd (N) (D) : Nat) : Int)) = Int.tdiv (D) ((Int.gcd (N) (D) : Nat) : Int) := IntWalk.i64_in _ (by omega)
  have hwn : IntKind.i64.wrap (Int.tdiv (N) ((Int.gcd (N) (D) : Nat) : Int)) = Int.tdiv (N) ((Int.gcd (N) (D) : Nat) : Int) := IntWalk.i64_in _ (by omega)
  clear g4 g5 g8 g7 g6
  generalize Rat.divInt (N) (D) = r at *
  have t2 : (k == 0) = false := beq_eq_false_iff_ne.2 (by omega)
  have t3 : decide (k < 0) = true := by simp; omega
  go_enter Tryd.func25, Tryd.ntmps25
  go_wp2_with fail
  rw [eN.out, eD.out]
  refine (divisor_any _ _ _ (by omega) (by omega) (by omega) (by omega)).mono ?_
  rintro e w1 ⟨rfl, nq, rfl⟩
  clear t2 t3
  go_wp2_with fail
  go_region_with ((go_at_call 39; refine (fitting_any _ _ r _ g2 g3 k1 k2).mono ?_; rintro e w1 ⟨rfl, hb⟩; obtain ⟨hc, hf⟩ := bcell hb; have hz := bsz (k := w.heap.size) hb (by simp)))
  all_goals
    go_wp2
    refine bodyPost_ret (v := .tuple #[.agg #[.int .i64 (Wnum.oN (some r)), .int .i64 (Wnum.oD (some r))], .bool (Wnum.oB (some r))]) (by simp [results, Tryd.results25, go_sem, hc]) rfl ⟨rfl, ?_⟩
    exact (by with_reducible repeat (first | exact Below.refl _ _ | refine below_drewN ?_ _ | refine Below.setCell ?_ (by first | (simp; done) | (simp; omega) | omega) _ | refine Below.drew ?_ | refine below_end ?_ (by assumption) | refine ball ?_ _))

end Go.Proofs.YtfilmomndhlmbabDoor
