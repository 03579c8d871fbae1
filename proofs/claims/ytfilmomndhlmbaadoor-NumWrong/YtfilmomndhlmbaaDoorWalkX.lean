/- The contract of power. -/
import Derived.Test.YtfilmomndhlmbaaDoorWalkL
import Derived.Test.YtfilmomndhlmbaaDoorPlainI
namespace Go.Proofs.YtfilmomndhlmbaaDoor
open Go.RowKit
set_option linter.unusedVariables false

set_option maxHeartbeats 800000 in
theorem power_any (p k m : Int) (w : World) (h1 : -1000000000000 ≤ p) (h2 : p ≤ 1000000000000) (hp : p ≠ 0) (h3 : 0 ≤ k) (h4 : k ≤ 1000) (h5 : 1 ≤ m) (h6 : m ≤ 1000000000000) :
    Calls Tryd.prog 47 #[.int .i64 p, .int .i64 k, .int .i64 m] w fun e w' => e = .returned (.tuple #[.int .i64 (Wnum.wN p k.toNat m), .bool (Wnum.wB p k.toNat m)]) ∧ w = w' := by
  obtain ⟨K, rfl⟩ := Int.eq_ofNat_of_zero_le h3
  rw [Int.toNat_natCast]
  have HP : Hid (p ≠ 0) := hp
  clear hp
  go_enter Tryd.func47, Tryd.ntmps47
  go_wp2
  go_loop [8, 9, 11] (fun r b i => ∃ j : Nat, j ≤ K ∧ r = .int .i64 (Wnum.pw p j) ∧ b = .bool true ∧ i = .int .i64 j ∧ (Wnum.pw p j).natAbs ≤ m.natAbs) (fun _ _ i => K - (intOf i).toNat)
  case atStart => exact ⟨0, Nat.zero_le _, by rw [Wnum.pw_zero], rfl, rfl, by rw [Wnum.pw_zero]; omega⟩
  case round =>
    obtain ⟨j, hj, rfl, rfl, rfl, hb⟩ := hrel
    have b1 : -1000000000000 ≤ Wnum.pw p j := by omega
    have b2 : Wnum.pw p j ≤ 1000000000000 := by omega
    by_cases hlt : j < K
    · have E : Hid (Wnum.pw p (j + 1) = Wnum.pw p j * p) := Wnum.pw_succ p j
      by_cases hf : (Wnum.pw p (j + 1)).natAbs ≤ m.natAbs
      · have e1 : pB (Wnum.pw p j) p m = true := by unfold pB; rw [← E.out]; exact decide_eq_true hf
        have e2 : pN (Wnum.pw p j) p m = Wnum.pw p (j + 1) := by unfold pN; rw [e1, E.out]; rfl
        have E1 : Hid (pB (Wnum.pw p j) p m = true) := e1
        have E2 : Hid (pN (Wnum.pw p j) p m = Wnum.pw p (j + 1)) := e2
        clear e1 e2
        go_wp2_with fail
        refine (product_any _ _ _ _ b1 b2 h1 h2 (by omega) h6).mono ?_
        rintro e w1 ⟨rfl, hw⟩
        obtain rfl := hw.symm
        rw [E1.out, E2.out]
        go_wp2
        go_round
        case rel => exact ⟨j + 1, by omega, rfl, rfl, by go_num, hf⟩
        case measure => simp [intOf]; omega
      · have e1 : pB (Wnum.pw p j) p m = false := by unfold pB; rw [← E.out]; exact decide_eq_false hf
        have e2 : pN (Wnum.pw p j) p m = 0 := by unfold pN; rw [e1]; rfl
        have E1 : Hid (pB (Wnum.pw p j) p m = false) := e1
        have E2 : Hid (pN (Wnum.pw p j) p m = 0) := e2
        obtain ⟨f1, f2⟩ := Wnum.wB_over HP.out (show j + 1 ≤ K by omega) hf
        have F1 : Hid (Wnum.wB p K m = false) := f1
        have F2 : Hid (Wnum.wN p K m = 0) := f2
        clear e1 e2 f1 f2
        go_wp2_with fail
        refine (product_any _ _ _ _ b1 b2 h1 h2 (by omega) h6).mono ?_
        rintro e w1 ⟨rfl, hw⟩
        obtain rfl := hw.symm
        rw [E1.out, E2.out]
        go_wp2
        go_ret2
        exact ⟨by rw [F1.out, F2.out]; rfl, rfl⟩
    · have hj' : j = K := by omega
      subst hj'
      obtain ⟨f1, f2⟩ := Wnum.wB_in hb
      have F1 : Hid (Wnum.wB p j m = true) := f1
      have F2 : Hid (Wnum.wN p j m = Wnum.pw p j) := f2
      clear f1 f2
      go_wp2
      go_ret2
      exact ⟨by rw [F1.out, F2.out]; rfl, rfl⟩
end Go.Proofs.YtfilmomndhlmbaaDoor
