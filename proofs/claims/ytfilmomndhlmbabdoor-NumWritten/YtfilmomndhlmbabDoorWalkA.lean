/- The contracts of num's small calls. -/
import Derived.Test.YtfilmomndhlmbabDoorChecked
import Derived.Test.YtfilmomndhlmbabDoorPlain
import Derived.WalkKit
import Derived.WalkSpells
import Derived.RowKit3
import Derived.Deep.QuietTactic
import Derived.BigQuiet
import Derived.Deep.RegionWith
import Derived.Deep.RegionHeld3
namespace Go.Proofs.YtfilmomndhlmbabDoor
open Go.RowKit
set_option linter.unusedVariables false

theorem ret_int {k : IntKind} {a b : Int} (h : a = b) : Ending.returned (.int k a) = .returned (.int k b) := by rw [h]

/-- size -/
theorem size_any (a : Int) (w : World) (h1 : -9223372036854775807 ≤ a) (h2 : a ≤ 9223372036854775807) :
    Calls Tryd.prog 18 #[.int .i64 a] w fun e w' => e = .returned (.int .i64 (a.natAbs : Int)) ∧ w = w' := by
  by_cases h : a < 0
  · go_enter Tryd.func18, Tryd.ntmps18
    go_wp2
    go_ret
    exact ⟨ret_int (by omega), rfl⟩
  · go_enter Tryd.func18, Tryd.ntmps18
    go_wp2
    go_ret
    exact ⟨ret_int (by omega), rfl⟩

/-- sign -/
theorem sign_any (a : Int) (w : World) :
    Calls Tryd.prog 31 #[.int .i64 a] w fun e w' => e = .returned (.int .i64 a.sign) ∧ w = w' := by
  rcases Int.lt_trichotomy a 0 with h | h | h
  · go_enter Tryd.func31, Tryd.ntmps31
    go_wp2
    go_ret
    exact ⟨ret_int (Int.sign_eq_neg_one_of_neg h).symm, rfl⟩
  · subst h
    go_enter Tryd.func31, Tryd.ntmps31
    go_wp2
    go_ret
    exact ⟨rfl, rfl⟩
  · have h' : ¬ a < 0 := by omega
    go_enter Tryd.func31, Tryd.ntmps31
    go_wp2
    go_ret
    exact ⟨ret_int (Int.sign_eq_one_of_pos h).symm, rfl⟩

/-- divisor -/
theorem divisor_any (a b : Int) (w : World) (h1 : -9223372036854775807 ≤ a) (h2 : a ≤ 9223372036854775807) (h3 : -9223372036854775807 ≤ b) (h4 : b ≤ 9223372036854775807) :
    Calls Tryd.prog 30 #[.int .i64 a, .int .i64 b] w fun e w' => e = .returned (.int .i64 (Int.gcd a b : Int)) ∧ ∃ n, w' = w.drewN n := by
  have b1 : a.natAbs ≤ 9223372036854775807 := by omega
  have b2 : b.natAbs ≤ 9223372036854775807 := by omega
  have H : Hid (Nat.gcd a.natAbs b.natAbs = Int.gcd a b) := (rfl : Nat.gcd a.natAbs b.natAbs = Int.gcd a b)
  go_enter Tryd.func30, Tryd.ntmps30
  go_wp2_with (go_at_call 18; refine (size_any _ _ (by assumption) (by assumption)).mono ?_; rintro e w' ⟨rfl, rfl⟩)
  go_loopw [0, 1] (fun x y wr => ∃ p q : Nat, x = .int .i64 p ∧ y = .int .i64 q ∧ p ≤ 9223372036854775807 ∧ q ≤ 9223372036854775807 ∧ Hid (Nat.gcd p q = Int.gcd a b) ∧ ∃ n, wr = w.drewN n) (fun _ y _ => (intOf y).toNat)
  case atStart => exact ⟨a.natAbs, b.natAbs, rfl, rfl, b1, b2, H, 0, rfl⟩
  case round =>
    obtain ⟨p, q, rfl, rfl, hp, hq, hg, n, rfl⟩ := hrel
    by_cases hz : q = 0
    · subst hz
      go_wp2
      go_ret
      exact ⟨ret_int (by rw [← hg.out, Nat.gcd_zero_right]), n, rfl⟩
    · have hz' : ((q : Int) != 0) = true := by simp; omega
      go_wp2
      go_quiet (fail)
      go_wp2
      go_roundw
      case rel => exact ⟨q, p % q, rfl, by go_num, hq, by have := Nat.mod_lt p (Nat.pos_of_ne_zero hz); omega, by exact (show Nat.gcd q (p % q) = Int.gcd a b by rw [← hg.out, Nat.gcd_comm p q, Nat.gcd_rec q p, Nat.gcd_comm]), _, World.drewN_drewN ..⟩
      case measure => simp [intOf]; have := Nat.mod_lt p (Nat.pos_of_ne_zero hz); omega

/-- fitting, of a fraction in lowest terms -/
theorem fitting_any (n d : Int) (r : Rat) (w : World) (h1 : -9223372036854775807 ≤ n) (h2 : n ≤ 9223372036854775807) (hn : Hid (r.num = n)) (hd : Hid ((r.den : Int) = d)) :
    Calls Tryd.prog 39 #[.int .i64 n, .int .i64 d] w fun e w' => e = .returned (.tuple #[.agg #[.int .i64 (Wnum.oN (some r)), .int .i64 (Wnum.oD (some r))], .bool (Wnum.oB (some r))]) ∧ Below w.heap.size w w' := by
  by_cases c : n.natAbs ≤ 1000000000000 ∧ d ≤ 1000000
  · obtain ⟨c1, c2⟩ := c
    have hok : Wnum.okQ r = true := by unfold Wnum.okQ; rw [decide_eq_true_iff, hn.out]; have := hd.out; omega
    have e1 : Hid (Wnum.oN (some r) = n) := by show (if Wnum.okQ r = true then r.num else 0) = n; rw [if_pos hok]; exact hn.out
    have e2 : Hid (Wnum.oD (some r) = d) := by show (if Wnum.okQ r = true then (r.den : Int) else 0) = d; rw [if_pos hok]; exact hd.out
    have e3 : Hid (Wnum.oB (some r) = true) := hok
    rw [e1.out, e2.out, e3.out]
    clear hok e1 e2 e3
    have t1 : decide ((1000000000000 : Int) < (n.natAbs : Int)) = false := by simp; omega
    have t2 : decide ((1000000 : Int) < d) = false := by simp; omega
    go_enter Tryd.func39, Tryd.ntmps39
    go_wp2_with (go_at_call 18; refine (size_any _ _ (by assumption) (by assumption)).mono ?_; rintro e w' ⟨rfl, rfl⟩)
    exact bodyPost_ret (v := .tuple #[.agg #[.int .i64 n, .int .i64 d], .bool true]) (by simp [results, Tryd.results39, go_sem]) rfl ⟨rfl, (Below.refl _ _).alloc (Nat.le_refl _) _⟩
  · have hok : Wnum.okQ r = false := by unfold Wnum.okQ; rw [decide_eq_false_iff_not, hn.out]; have := hd.out; omega
    have e1 : Hid (Wnum.oN (some r) = 0) := by show (if Wnum.okQ r = true then r.num else 0) = 0; rw [hok]; rfl
    have e2 : Hid (Wnum.oD (some r) = 0) := by show (if Wnum.okQ r = true then (r.den : Int) else 0) = 0; rw [hok]; rfl
    have e3 : Hid (Wnum.oB (some r) = false) := hok
    rw [e1.out, e2.out, e3.out]
    clear hok e1 e2 e3
    by_cases c1 : n.natAbs ≤ 1000000000000
    · have t1 : decide ((1000000000000 : Int) < (n.natAbs : Int)) = false := by simp; omega
      have t2 : decide ((1000000 : Int) < d) = true := by simp; omega
      clear c c1
      go_enter Tryd.func39, Tryd.ntmps39
      go_wp2_with (go_at_call 18; refine (size_any _ _ (by assumption) (by assumption)).mono ?_; rintro e w' ⟨rfl, rfl⟩)
      exact bodyPost_ret (v := .tuple #[.agg #[.int .i64 0, .int .i64 0], .bool false]) (by simp [results, Tryd.results39, go_sem]) rfl ⟨rfl, (Below.refl _ _).alloc (Nat.le_refl _) _⟩
    · have t1 : decide ((1000000000000 : Int) < (n.natAbs : Int)) = true := by simp; omega
      clear c c1
      go_enter Tryd.func39, Tryd.ntmps39
      go_wp2_with (go_at_call 18; refine (size_any _ _ (by assumption) (by assumption)).mono ?_; rintro e w' ⟨rfl, rfl⟩)
      exact bodyPost_ret (v := .tuple #[.agg #[.int .i64 0, .int .i64 0], .bool false]) (by simp [results, Tryd.results39, go_sem]) rfl ⟨rfl, (Below.refl _ _).alloc (Nat.le_refl _) _⟩
end Go.Proofs.YtfilmomndhlmbabDoor
