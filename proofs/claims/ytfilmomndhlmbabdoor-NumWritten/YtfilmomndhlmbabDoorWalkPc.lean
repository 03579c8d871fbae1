/- The contract of the reference's piece. -/
import Derived.Test.YtfilmomndhlmbabDoorWalkA
import Derived.Test.YtfilmomndhlmbabDoorPlainS
namespace Go.Proofs.YtfilmomndhlmbabDoor
open Go.RowKit
set_option linter.unusedVariables false

set_option maxHeartbeats 800000 in
theorem piece_any (s : ByteArray) (p : Nat) (w : World) (hs : s.size ≤ 9223372036854775807) (hp : p ≤ s.size) :
    Calls Tryd.prog 26 #[.string s, .int .i64 (p : Int)] w fun e w' => e = .returned (.tuple #[.int .u64 (Wnum.pcN s p), .int .i64 (Wnum.pcI s p), .bool (Wnum.dB s p)]) ∧ w = w' := by
  go_enter Tryd.func26, Tryd.ntmps26
  go_wp2
  go_loop [7, 8] (fun x i => ∃ q : Nat, ∃ a : Int, p ≤ q ∧ q ≤ s.size ∧ x = .int .u64 a ∧ i = .int .i64 q ∧ 0 ≤ a ∧ a ≤ 1000000000000000000 ∧ Hid (q - p ≤ Wnum.dk s p) ∧ Hid (Wnum.say s p (q - p) = a)) (fun _ i => s.size - (intOf i).toNat)
  case atStart => exact ⟨p, 0, Nat.le_refl _, hp, rfl, rfl, by omega, by omega, (by omega : p - p ≤ Wnum.dk s p), (by rw [Nat.sub_self]; rfl : Wnum.say s p (p - p) = 0)⟩
  case round =>
    obtain ⟨q, a, hq, hqs, rfl, rfl, ha, hb, HJ, ea⟩ := hrel
    by_cases hlt : q < s.size
    · have eb := Wnum.bt_get hlt
      obtain ⟨c0, c1⟩ := Wnum.bt_bd s q
      obtain ⟨c, ec⟩ : ∃ c, c = Wnum.bt s q := ⟨_, rfl⟩
      have EC : Hid (Wnum.bt s (p + (q - p)) = c) := by show _ = _; rw [show p + (q - p) = q by omega, ec]
      rw [← ec] at eb c0 c1
      clear ec
      by_cases d1 : 48 ≤ c
      · by_cases d2 : c ≤ 57
        · have lt := Wnum.dk_more HJ.out (by omega) (by rw [EC.out]; exact ⟨d1, d2⟩)
          have LT : Hid (q - p < Wnum.dk s p) := lt
          have SS : Hid (Wnum.say s p (q + 1 - p) = a * 10 + (c - 48)) := by show _ = _; rw [show q + 1 - p = q - p + 1 by omega, Wnum.say_succ, ea.out, EC.out]
          clear lt
          by_cases o1 : 100000000000000000 < a
          · obtain ⟨f1, f2, f0⟩ := Wnum.pc_over (s := s) (p := p) (j := q + 1 - p) (by have := LT.out; omega) (by rw [SS.out]; omega)
            have F0 : Hid (Wnum.dB s p = false) := f0
            have F1 : Hid (Wnum.pcN s p = 0) := f1
            have F2 : Hid (Wnum.pcI s p = 0) := f2
            clear f0 f1 f2
            go_wp2
            go_ret3
            exact ⟨by rw [F0.out, F1.out, F2.out]; rfl, rfl⟩
          · have n0 : 0 ≤ a * 10 + (c - 48) := by omega
            have n1 : a * 10 + (c - 48) ≤ 1000000000000000009 := by omega
            by_cases o2 : 1000000000000000000 < a * 10 + (c - 48)
            · obtain ⟨f1, f2, f0⟩ := Wnum.pc_over (s := s) (p := p) (j := q + 1 - p) (by have := LT.out; omega) (by rw [SS.out]; exact o2)
              have F0 : Hid (Wnum.dB s p = false) := f0
              have F1 : Hid (Wnum.pcN s p = 0) := f1
              have F2 : Hid (Wnum.pcI s p = 0) := f2
              clear f0 f1 f2
              go_wp2
              go_ret3
              exact ⟨by rw [F0.out, F1.out, F2.out]; rfl, rfl⟩
            · go_wp2
              go_round
              case rel => exact ⟨q + 1, a * 10 + (c - 48), by omega, by omega, by go_num, by go_num, n0, by omega, (by have := LT.out; omega : q + 1 - p ≤ Wnum.dk s p), SS⟩
              case measure => simp [intOf]; omega
        · have d2' : decide (c ≤ 57) = false := decide_eq_false d2
          obtain ⟨f1, f2, f0⟩ := Wnum.pc_in hq (Wnum.dk_stop HJ.out (Or.inr (by rw [EC.out]; intro h; exact d2 h.2))) (by rw [ea.out]; exact hb)
          rw [ea.out] at f1
          have F0 : Hid (Wnum.dB s p = decide (p < q)) := f0
          have F1 : Hid (Wnum.pcN s p = a) := f1
          have F2 : Hid (Wnum.pcI s p = (q : Int)) := f2
          clear f0 f1 f2
          go_wp2
          go_ret3
          exact ⟨by rw [F0.out, F1.out, F2.out]; simp, rfl⟩
      · have d1' : decide (48 ≤ c) = false := decide_eq_false d1
        obtain ⟨f1, f2, f0⟩ := Wnum.pc_in hq (Wnum.dk_stop HJ.out (Or.inr (by rw [EC.out]; intro h; exact d1 h.1))) (by rw [ea.out]; exact hb)
        rw [ea.out] at f1
        have F0 : Hid (Wnum.dB s p = decide (p < q)) := f0
        have F1 : Hid (Wnum.pcN s p = a) := f1
        have F2 : Hid (Wnum.pcI s p = (q : Int)) := f2
        clear f0 f1 f2
        go_wp2
        go_ret3
        exact ⟨by rw [F0.out, F1.out, F2.out]; simp, rfl⟩
    · obtain ⟨f1, f2, f0⟩ := Wnum.pc_in hq (Wnum.dk_stop HJ.out (Or.inl (by omega))) (by rw [ea.out]; exact hb)
      rw [ea.out] at f1
      have F0 : Hid (Wnum.dB s p = decide (p < q)) := f0
      have F1 : Hid (Wnum.pcN s p = a) := f1
      have F2 : Hid (Wnum.pcI s p = (q : Int)) := f2
      clear f0 f1 f2
      go_wp2
      go_ret3
      exact ⟨by rw [F0.out, F1.out, F2.out]; simp, rfl⟩
end Go.Proofs.YtfilmomndhlmbabDoor
