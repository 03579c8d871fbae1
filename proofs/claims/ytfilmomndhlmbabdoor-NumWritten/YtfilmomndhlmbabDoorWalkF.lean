/- The contracts of the reference's small calls. -/
import Derived.Test.YtfilmomndhlmbabDoorWalkD
namespace Go.Proofs.YtfilmomndhlmbabDoor
open Go.RowKit
set_option linter.unusedVariables false

set_option maxHeartbeats 400000 in
theorem rgcd_any (a b : Nat) (w : World) (h1 : a ≤ 18446744073709551615) (h2 : b ≤ 18446744073709551615) :
    Calls Tryd.prog 40 #[.int .u64 (a : Int), .int .u64 (b : Int)] w fun e w' => e = .returned (.int .u64 (Nat.gcd a b : Int)) ∧ w = w' := by
  go_enter Tryd.func40, Tryd.ntmps40
  go_wp2
  go_loop [0, 1, 5] (fun x y _ => ∃ p q : Nat, x = .int .u64 p ∧ y = .int .u64 q ∧ p ≤ 18446744073709551615 ∧ q ≤ 18446744073709551615 ∧ Hid (Nat.gcd p q = Nat.gcd a b)) (fun _ y _ => (intOf y).toNat)
  case atStart => exact ⟨a, b, rfl, rfl, h1, h2, (rfl : Nat.gcd a b = Nat.gcd a b)⟩
  case round =>
    obtain ⟨p, q, rfl, rfl, hp, hq, hg⟩ := hrel
    by_cases hz : q = 0
    · subst hz
      go_wp2
      go_ret
      exact ⟨ret_int (by rw [← hg.out, Nat.gcd_zero_right]), rfl⟩
    · have hz' : ((q : Int) != 0) = true := by simp; omega
      go_wp2
      go_round
      case rel => exact ⟨q, p % q, rfl, by go_num, hq, by have := Nat.mod_lt p (Nat.pos_of_ne_zero hz); omega, by exact (show Nat.gcd q (p % q) = Nat.gcd a b by rw [← hg.out, Nat.gcd_comm p q, Nat.gcd_rec q p, Nat.gcd_comm])⟩
      case measure => simp [intOf]; have := Nat.mod_lt p (Nat.pos_of_ne_zero hz); omega

theorem rgcd_int (a b : Int) (w : World) (h0 : 0 ≤ a) (h1 : a ≤ 18446744073709551615) (h2 : 0 ≤ b) (h3 : b ≤ 18446744073709551615) :
    Calls Tryd.prog 40 #[.int .u64 a, .int .u64 b] w fun e w' => e = .returned (.int .u64 (Int.gcd a b : Int)) ∧ w = w' := by
  obtain ⟨x, rfl⟩ := Int.eq_ofNat_of_zero_le h0
  obtain ⟨y, rfl⟩ := Int.eq_ofNat_of_zero_le h2
  exact rgcd_any x y w (by omega) (by omega)
theorem flip_w {P : Program} {f : FuncId} {args : Array Value} {w : World} {v : Value} (h : Calls P f args w fun e w' => e = .returned v ∧ w = w') : Calls P f args w fun e w' => e = .returned v ∧ w' = w :=
  h.mono fun _ _ ⟨a, b⟩ => ⟨a, b.symm⟩

theorem far_any (n : Int) (w : World) (h1 : -9223372036854775808 ≤ n) (h2 : n ≤ 9223372036854775807) :
    Calls Tryd.prog 21 #[.int .i64 n] w fun e w' => e = .returned (.int .u64 (n.natAbs : Int)) ∧ w = w' := by
  by_cases h : n < 0
  · go_enter Tryd.func21, Tryd.ntmps21
    go_wp2
    go_ret
    exact ⟨ret_int (by omega), rfl⟩
  · go_enter Tryd.func21, Tryd.ntmps21
    go_wp2
    go_ret
    exact ⟨ret_int (by omega), rfl⟩

theorem rright_any (n d : Int) (w : World) (h1 : -9223372036854775808 ≤ n) (h2 : n ≤ 9223372036854775807) (h3 : -9223372036854775808 ≤ d) (h4 : d ≤ 9223372036854775807) :
    Calls Tryd.prog 35 #[.agg #[.int .i64 n, .int .i64 d]] w fun e w' => e = .returned (.bool (Wnum.rightB n d)) ∧ Below w.heap.size w w' := by
  by_cases c3 : d < 1
  · have e : Hid (Wnum.rightB n d = false) := by show Wnum.rightB n d = false; unfold Wnum.rightB; rw [decide_eq_false_iff_not]; omega
    rw [e.out]; clear e
    go_enter Tryd.func35, Tryd.ntmps35
    go_wp2
    go_ret
    exact ⟨rfl, by with_reducible repeat (first | exact Below.refl _ _ | refine below_drewN ?_ _ | refine Below.setCell ?_ (by first | (simp; done) | (simp; omega) | omega) _ | refine Below.drew ?_ | refine below_end ?_ (by assumption) | refine ball ?_ _)⟩
  by_cases c4 : 1000000 < d
  · have e : Hid (Wnum.rightB n d = false) := by show Wnum.rightB n d = false; unfold Wnum.rightB; rw [decide_eq_false_iff_not]; omega
    rw [e.out]; clear e
    go_enter Tryd.func35, Tryd.ntmps35
    go_wp2
    go_ret
    exact ⟨rfl, by with_reducible repeat (first | exact Below.refl _ _ | refine below_drewN ?_ _ | refine Below.setCell ?_ (by first | (simp; done) | (simp; omega) | omega) _ | refine Below.drew ?_ | refine below_end ?_ (by assumption) | refine ball ?_ _)⟩
  by_cases c1 : n < -1000000000000
  · have e : Hid (Wnum.rightB n d = false) := by show Wnum.rightB n d = false; unfold Wnum.rightB; rw [decide_eq_false_iff_not]; omega
    rw [e.out]; clear e
    go_enter Tryd.func35, Tryd.ntmps35
    go_wp2
    go_ret
    exact ⟨rfl, by with_reducible repeat (first | exact Below.refl _ _ | refine below_drewN ?_ _ | refine Below.setCell ?_ (by first | (simp; done) | (simp; omega) | omega) _ | refine Below.drew ?_ | refine below_end ?_ (by assumption) | refine ball ?_ _)⟩
  by_cases c2 : 1000000000000 < n
  · have e : Hid (Wnum.rightB n d = false) := by show Wnum.rightB n d = false; unfold Wnum.rightB; rw [decide_eq_false_iff_not]; omega
    rw [e.out]; clear e
    go_enter Tryd.func35, Tryd.ntmps35
    go_wp2
    go_ret
    exact ⟨rfl, by with_reducible repeat (first | exact Below.refl _ _ | refine below_drewN ?_ _ | refine Below.setCell ?_ (by first | (simp; done) | (simp; omega) | omega) _ | refine Below.drew ?_ | refine below_end ?_ (by assumption) | refine ball ?_ _)⟩
  have e : Hid ((((Int.gcd (n.natAbs : Int) d : Nat) : Int) == 1) = Wnum.rightB n d) := by
    show _ = _
    have e0 : Int.gcd (n.natAbs : Int) d = Int.gcd n d := by simp [Int.gcd]
    rw [e0]
    unfold Wnum.rightB
    by_cases g : Int.gcd n d = 1
    · rw [g, decide_eq_true (by omega)]; rfl
    · rw [decide_eq_false (by omega), beq_eq_false_iff_ne]; omega
  rw [← e.out]; clear e
  have hw : IntKind.u64.wrap d = d := IntWalk.u64_in _ (by omega)
  have b0 : (0 : Int) ≤ (n.natAbs : Int) := by omega
  have b1 : (n.natAbs : Int) ≤ 18446744073709551615 := by omega
  have b2 : 0 ≤ d := by omega
  have b3 : d ≤ 18446744073709551615 := by omega
  go_enter Tryd.func35, Tryd.ntmps35
  go_wp2
  go_quiet (first | (go_at_call 21; exact Calls.quiet_of_same (flip_w (far_any _ _ h1 h2))) | (go_at_call 40; exact Calls.quiet_of_same (flip_w (rgcd_int _ _ _ b0 b1 b2 b3))))
  go_wp2
  go_ret
  exact ⟨rfl, by with_reducible repeat (first | exact Below.refl _ _ | refine below_drewN ?_ _ | refine Below.setCell ?_ (by first | (simp; done) | (simp; omega) | omega) _ | refine Below.drew ?_ | refine below_end ?_ (by assumption) | refine ball ?_ _)⟩

theorem of_any (n d : Int) (w : World) (h1 : -9223372036854775808 ≤ n) (h2 : n ≤ 9223372036854775807) (h3 : -9223372036854775808 ≤ d) (h4 : d ≤ 9223372036854775807) :
    Calls Tryd.prog 20 #[.agg #[.int .i64 n, .int .i64 d]] w fun e w' => e = .returned (.agg #[.int .i64 (Wnum.cN n d), .int .i64 (Wnum.cD n d)]) ∧ Below w.heap.size w w' := by
  cases hr : Wnum.rightB n d with
  | true =>
    have e1 : Wnum.cN n d = n := by unfold Wnum.cN; rw [if_pos hr]
    have e2 : Wnum.cD n d = d := by unfold Wnum.cD; rw [if_pos hr]
    rw [e1, e2]; clear e1 e2
    have H : Hid (Wnum.rightB n d = true) := hr
    clear hr
    go_enter Tryd.func20, Tryd.ntmps20
    go_wp2_with fail
    refine (rright_any _ _ _ h1 h2 h3 h4).mono ?_
    rintro e w1 ⟨rfl, hb⟩
    rw [H.out]
    obtain ⟨hc, hf⟩ := bcell hb
    have hz := bsz (k := w.heap.size + 1) hb (by simp)
    go_wp2
    refine bodyPost_ret (v := .agg #[.int .i64 n, .int .i64 d]) (by simp [results, Tryd.results20, go_sem, hc]) rfl ⟨rfl, ?_⟩
    exact (by with_reducible repeat (first | exact Below.refl _ _ | refine below_drewN ?_ _ | refine Below.setCell ?_ (by first | (simp; done) | (simp; omega) | omega) _ | refine Below.drew ?_ | refine below_end ?_ (by assumption) | refine ball ?_ _))
  | false =>
    have e1 : Wnum.cN n d = 0 := by unfold Wnum.cN; rw [hr]; rfl
    have e2 : Wnum.cD n d = 1 := by unfold Wnum.cD; rw [hr]; rfl
    rw [e1, e2]; clear e1 e2
    have H : Hid (Wnum.rightB n d = false) := hr
    clear hr
    go_enter Tryd.func20, Tryd.ntmps20
    go_wp2_with fail
    refine (rright_any _ _ _ h1 h2 h3 h4).mono ?_
    rintro e w1 ⟨rfl, hb⟩
    rw [H.out]
    obtain ⟨hc, hf⟩ := bcell hb
    have hz := bsz (k := w.heap.size + 1) hb (by simp)
    go_wp2
    refine bodyPost_ret (v := .agg #[.int .i64 0, .int .i64 1]) (by simp [results, Tryd.results20, go_sem, hc]) rfl ⟨rfl, ?_⟩
    exact (by with_reducible repeat (first | exact Below.refl _ _ | refine below_drewN ?_ _ | refine Below.setCell ?_ (by first | (simp; done) | (simp; omega) | omega) _ | refine Below.drew ?_ | refine below_end ?_ (by assumption) | refine ball ?_ _))
end Go.Proofs.YtfilmomndhlmbabDoor
