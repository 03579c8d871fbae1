/- The contracts of the statements' own right, zero and one. -/
import Derived.Test.YtfilmomndhlmbabDoorWalkE
import Derived.Test.YtfilmomndhlmbabDoorWalkL
import Derived.Test.YtfilmomndhlmbabDoorPlainG
namespace Go.Proofs.YtfilmomndhlmbabDoor
open Go.RowKit
set_option linter.unusedVariables false

theorem zero_any (w : World) : Calls Tryd.prog 12 #[] w fun e w' => e = .returned (.agg #[.int .i64 0, .int .i64 1]) ∧ Below w.heap.size w w' := by
  go_enter Tryd.func12, Tryd.ntmps12
  go_wp2
  refine bodyPost_ret (v := .agg #[.int .i64 0, .int .i64 1]) (by simp [results, Tryd.results12, go_sem]) rfl ⟨rfl, ?_⟩
  exact (by with_reducible repeat (first | exact Below.refl _ _ | refine below_drewN ?_ _ | refine Below.setCell ?_ (by first | (simp; done) | (simp; omega) | omega) _ | refine Below.drew ?_ | refine below_end ?_ (by assumption) | refine ball ?_ _))
theorem right_false {n d : Int} (h : ¬ (-1000000000000 ≤ n ∧ n ≤ 1000000000000 ∧ 1 ≤ d ∧ d ≤ 1000000)) : Wnum.rightB n d = false := by
  unfold Wnum.rightB; rw [decide_eq_false_iff_not]; omega

set_option maxHeartbeats 800000 in
/-- right, within the bounds: the loop. -/
theorem lright_in (n d N : Int) (w : World) (h1 : -1000000000000 ≤ n) (h2 : n ≤ 1000000000000) (h3 : 1 ≤ d) (h4 : d ≤ 1000000) (b0 : Bool) (tn : decide (n < 0) = b0) (eN : b0 = true → -n = N) (eP : b0 = false → n = N) (hN : 0 ≤ N) (G : Nat) (hG : Hid (Nat.gcd N.toNat d.toNat = G)) :
    Calls Tryd.prog 11 #[.agg #[.int .i64 n, .int .i64 d]] w fun e w' => e = .returned (.bool ((G : Int) == 1)) ∧ Below w.heap.size w w' := by
  have t1 : decide (d < 1) = false := by simp; omega
  have t2 : decide (1000000 < d) = false := by simp; omega
  have t3 : decide (n < -1000000000000) = false := by simp; omega
  have t4 : decide (1000000000000 < n) = false := by simp; omega
  have hN2 : N ≤ 1000000000000 := by
    cases b0 with
    | true => have := eN rfl; omega
    | false => have := eP rfl; omega
  cases b0 with
  | true =>
    have E : Hid (-n = N) := eN rfl
    clear eN eP
    go_enter Tryd.func11, Tryd.ntmps11
    go_wp2
    rw [E.out]
    go_loop [3, 4, 5] (fun x y _ => ∃ p q : Nat, x = .int .i64 p ∧ y = .int .i64 q ∧ p ≤ 1000000000000 ∧ q ≤ 1000000000000 ∧ Hid (Nat.gcd p q = G)) (fun x _ _ => (intOf x).toNat)
    case atStart => exact ⟨N.toNat, d.toNat, by rw [Int.toNat_of_nonneg hN], by rw [Int.toNat_of_nonneg (by omega)], by omega, by omega, hG⟩
    case round =>
      obtain ⟨p, q, rfl, rfl, hp, hq, hg⟩ := hrel
      by_cases hz : p = 0
      · subst hz
        go_wp2
        go_ret
        exact ⟨ret_bool (by rw [← hg.out, Nat.gcd_zero_left]), by with_reducible repeat (first | exact Below.refl _ _ | refine below_drewN ?_ _ | refine Below.setCell ?_ (by first | (simp; done) | (simp; omega) | omega) _ | refine Below.drew ?_ | refine below_end ?_ (by assumption) | refine ball ?_ _)⟩
      · have hz' : ((p : Int) != 0) = true := by simp; omega
        have hz0 : ¬ (p : Int) = 0 := by omega
        go_wp2
        go_round
        case rel => exact ⟨q % p, p, by go_num, rfl, by have := Nat.mod_lt q (Nat.pos_of_ne_zero hz); omega, hp, by exact (show Nat.gcd (q % p) p = G by rw [← hg.out, ← Nat.gcd_rec])⟩
        case measure => simp [intOf]; have := Nat.mod_lt q (Nat.pos_of_ne_zero hz); omega
  | false =>
    have E : Hid (n = N) := eP rfl
    clear eN eP
    go_enter Tryd.func11, Tryd.ntmps11
    go_wp2
    go_loop [3, 4, 5] (fun x y _ => ∃ p q : Nat, x = .int .i64 p ∧ y = .int .i64 q ∧ p ≤ 1000000000000 ∧ q ≤ 1000000000000 ∧ Hid (Nat.gcd p q = G)) (fun x _ _ => (intOf x).toNat)
    case atStart => exact ⟨N.toNat, d.toNat, by rw [Int.toNat_of_nonneg hN, E.out], by rw [Int.toNat_of_nonneg (by omega)], by omega, by omega, hG⟩
    case round =>
      obtain ⟨p, q, rfl, rfl, hp, hq, hg⟩ := hrel
      by_cases hz : p = 0
      · subst hz
        go_wp2
        go_ret
        exact ⟨ret_bool (by rw [← hg.out, Nat.gcd_zero_left]), by with_reducible repeat (first | exact Below.refl _ _ | refine below_drewN ?_ _ | refine Below.setCell ?_ (by first | (simp; done) | (simp; omega) | omega) _ | refine Below.drew ?_ | refine below_end ?_ (by assumption) | refine ball ?_ _)⟩
      · have hz' : ((p : Int) != 0) = true := by simp; omega
        have hz0 : ¬ (p : Int) = 0 := by omega
        go_wp2
        go_round
        case rel => exact ⟨q % p, p, by go_num, rfl, by have := Nat.mod_lt q (Nat.pos_of_ne_zero hz); omega, hp, by exact (show Nat.gcd (q % p) p = G by rw [← hg.out, ← Nat.gcd_rec])⟩
        case measure => simp [intOf]; have := Nat.mod_lt q (Nat.pos_of_ne_zero hz); omega

theorem lright_any (n d : Int) (w : World) (h1 : -9223372036854775808 ≤ n) (h2 : n ≤ 9223372036854775807) (h3 : -9223372036854775808 ≤ d) (h4 : d ≤ 9223372036854775807) :
    Calls Tryd.prog 11 #[.agg #[.int .i64 n, .int .i64 d]] w fun e w' => e = .returned (.bool (Wnum.rightB n d)) ∧ Below w.heap.size w w' := by
  by_cases c3 : d < 1
  · rw [right_false (by omega)]
    go_enter Tryd.func11, Tryd.ntmps11
    go_wp2
    go_ret
    exact ⟨rfl, by with_reducible repeat (first | exact Below.refl _ _ | refine below_drewN ?_ _ | refine Below.setCell ?_ (by first | (simp; done) | (simp; omega) | omega) _ | refine Below.drew ?_ | refine below_end ?_ (by assumption) | refine ball ?_ _)⟩
  by_cases c4 : 1000000 < d
  · rw [right_false (by omega)]
    go_enter Tryd.func11, Tryd.ntmps11
    go_wp2
    go_ret
    exact ⟨rfl, by with_reducible repeat (first | exact Below.refl _ _ | refine below_drewN ?_ _ | refine Below.setCell ?_ (by first | (simp; done) | (simp; omega) | omega) _ | refine Below.drew ?_ | refine below_end ?_ (by assumption) | refine ball ?_ _)⟩
  by_cases c1 : n < -1000000000000
  · rw [right_false (by omega)]
    go_enter Tryd.func11, Tryd.ntmps11
    go_wp2
    go_ret
    exact ⟨rfl, by with_reducible repeat (first | exact Below.refl _ _ | refine below_drewN ?_ _ | refine Below.setCell ?_ (by first | (simp; done) | (simp; omega) | omega) _ | refine Below.drew ?_ | refine below_end ?_ (by assumption) | refine ball ?_ _)⟩
  by_cases c2 : 1000000000000 < n
  · rw [right_false (by omega)]
    go_enter Tryd.func11, Tryd.ntmps11
    go_wp2
    go_ret
    exact ⟨rfl, by with_reducible repeat (first | exact Below.refl _ _ | refine below_drewN ?_ _ | refine Below.setCell ?_ (by first | (simp; done) | (simp; omega) | omega) _ | refine Below.drew ?_ | refine below_end ?_ (by assumption) | refine ball ?_ _)⟩
  have e : (((Int.gcd n d : Nat) : Int) == 1) = Wnum.rightB n d := by
    unfold Wnum.rightB
    by_cases g : Int.gcd n d = 1
    · rw [g, decide_eq_true (by omega)]; rfl
    · rw [decide_eq_false (by omega), beq_eq_false_iff_ne]; omega
  rw [← e]
  have hg : Nat.gcd ((n.natAbs : Int)).toNat d.toNat = Int.gcd n d := by
    rw [Int.toNat_natCast]
    show Nat.gcd n.natAbs d.toNat = Nat.gcd n.natAbs d.natAbs
    rw [show d.toNat = d.natAbs by omega]
  exact lright_in n d (n.natAbs : Int) w (by omega) (by omega) (by omega) (by omega) _ rfl (fun h => by have := of_decide_eq_true h; omega) (fun h => by have := of_decide_eq_false h; omega) (by omega) _ hg
end Go.Proofs.YtfilmomndhlmbabDoor
