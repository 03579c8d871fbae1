/- The contracts of tenTo and ten. -/
import Derived.Test.YtfilmomndhlmbabDoorWalkQ
import Derived.Test.YtfilmomndhlmbabDoorPlainF
namespace Go.Proofs.YtfilmomndhlmbabDoor
open Go.RowKit
set_option linter.unusedVariables false

theorem tenTo_any (k : Int) (w : World) (h1 : 0 ≤ k) (h2 : k ≤ 12) :
    Calls Tryd.prog 44 #[.int .i64 k] w fun e w' => e = .returned (.int .i64 (Wnum.tenP k.toNat)) ∧ w = w' := by
  obtain ⟨K, rfl⟩ := Int.eq_ofNat_of_zero_le h1
  rw [Int.toNat_natCast]
  go_enter Tryd.func44, Tryd.ntmps44
  go_wp2
  go_loop [3, 5] (fun r i => ∃ j : Nat, j ≤ K ∧ r = .int .i64 (Wnum.tenP j) ∧ i = .int .i64 j) (fun _ i => K - (intOf i).toNat)
  case atStart => exact ⟨0, Nat.zero_le _, rfl, rfl⟩
  case round =>
    obtain ⟨j, hj, rfl, rfl⟩ := hrel
    have b1 := Wnum.tenP_pos j
    have b2 := Wnum.tenP_le12 (k := j) (by omega)
    by_cases hlt : j < K
    · have E : Hid (Wnum.tenP (j + 1) = Wnum.tenP j * 10) := Wnum.tenP_succ j
      go_wp2
      go_round
      case rel => exact ⟨j + 1, by omega, by rw [E.out], by go_num⟩
      case measure => simp [intOf]; omega
    · have hj' : j = K := by omega
      subst hj'
      go_wp2
      go_ret
      exact ⟨rfl, rfl⟩

theorem rten_any (k : Int) (w : World) (h1 : 0 ≤ k) (h2 : k ≤ 12) :
    Calls Tryd.prog 28 #[.int .i64 k] w fun e w' => e = .returned (.int .u64 (Wnum.tenP k.toNat)) ∧ w = w' := by
  obtain ⟨K, rfl⟩ := Int.eq_ofNat_of_zero_le h1
  rw [Int.toNat_natCast]
  go_enter Tryd.func28, Tryd.ntmps28
  go_wp2
  go_loop [3, 4] (fun r i => ∃ j : Nat, j ≤ K ∧ r = .int .u64 (Wnum.tenP j) ∧ i = .int .i64 j) (fun _ i => K - (intOf i).toNat)
  case atStart => exact ⟨0, Nat.zero_le _, rfl, rfl⟩
  case round =>
    obtain ⟨j, hj, rfl, rfl⟩ := hrel
    have b1 := Wnum.tenP_pos j
    have b2 := Wnum.tenP_le12 (k := j) (by omega)
    by_cases hlt : j < K
    · have E : Hid (Wnum.tenP (j + 1) = Wnum.tenP j * 10) := Wnum.tenP_succ j
      go_wp2
      go_round
      case rel => exact ⟨j + 1, by omega, by rw [E.out], by go_num⟩
      case measure => simp [intOf]; omega
    · have hj' : j = K := by omega
      subst hj'
      go_wp2
      go_ret
      exact ⟨rfl, rfl⟩
end Go.Proofs.YtfilmomndhlmbabDoor
