/- The contracts of readDigits and of the reference's piece. -/
import Derived.Test.YtfilmomndhlmbabDoorWalkA
import Derived.Test.YtfilmomndhlmbabDoorPlainS
namespace Go.Proofs.YtfilmomndhlmbabDoor
open Go.RowKit
set_option linter.unusedVariables false

set_option maxHeartbeats 800000 in
theorem readDigits_any (s : ByteArray) (w : World) (hs : s.size ≤ 9223372036854775807) :
    Calls Tryd.prog 37 #[.string s] w fun e w' => e = .returned (.tuple #[.int .i64 (Wnum.rdV s), .string (Wnum.rdS s), .bool (Wnum.dB s 0)]) ∧ ∃ n, w' = w.drewN n := by
  go_enter Tryd.func37, Tryd.ntmps37
  go_wp2
  go_loop [2, 5, 6] (fun x i _ => ∃ j : Nat, ∃ a : Int, j ≤ Wnum.dk s 0 ∧ x = .int .i64 a ∧ i = .int .i64 j ∧ 0 ≤ a ∧ a ≤ 1000000000000000000 ∧ Hid (Wnum.say s 0 j = a)) (fun _ i _ => s.size - (intOf i).toNat)
  case atStart => exact ⟨0, 0, Nat.zero_le _, rfl, rfl, by omega, by omega, (rfl : Wnum.say s 0 0 = 0)⟩
  case round =>
    obtain ⟨j, a, hj, rfl, rfl, ha, hb, ea⟩ := hrel
    have hds : Wnum.dk s 0 ≤ s.size := by have := Wnum.dk_le s 0; omega
    have HJ : Hid (j ≤ Wnum.dk s 0) := hj
    have HS : Hid (Wnum.dk s 0 ≤ s.size) := hds
    clear hj hds
    by_cases hlt : j < s.size
    · have eb := Wnum.bt_get hlt
      obtain ⟨c0, c1⟩ := Wnum.bt_bd s j
      obtain ⟨c, ec⟩ : ∃ c, c = Wnum.bt s j := ⟨_, rfl⟩
      have EC : Hid (Wnum.bt s (0 + j) = c) := by show _ = _; rw [Nat.zero_add, ec]
      rw [← ec] at eb c0 c1
      clear ec
      by_cases d1 : 48 ≤ c
      · by_cases d2 : c ≤ 57
        · have lt := Wnum.dk_more HJ.out (by omega) (by rw [EC.out]; exact ⟨d1, d2⟩)
          have LT : Hid (j < Wnum.dk s 0) := lt
          have SS : Hid (Wnum.say s 0 (j + 1) = a * 10 + (c - 48)) := by show _ = _; rw [Wnum.say_succ, ea.out, EC.out]
          clear lt
          by_cases ov : (1000000000000000000 - (c - 48)) / 10 < a
          · have f0 := Wnum.over_before (j := j + 1) LT.out (by rw [SS.out]; exact Wnum.ten_step.1 ov)
            obtain ⟨f1, f2⟩ := Wnum.rd_false f0
            have F0 : Hid (Wnum.dB s 0 = false) := f0
            have F1 : Hid (Wnum.rdV s = 0) := f1
            have F2 : Hid (Wnum.rdS s = ⟨#[]⟩) := f2
            clear f0 f1 f2
            go_wp2
            go_ret3
            exact ⟨by rw [F0.out, F1.out, F2.out]; rfl, 0, rfl⟩
          · have nv : a * 10 + (c - 48) ≤ 1000000000000000000 := by
              have : ¬ 1000000000000000000 < a * 10 + (c - 48) := fun h => ov (Wnum.ten_step.2 h)
              omega
            have n0 : 0 ≤ a * 10 + (c - 48) := by omega
            go_wp2
            go_round
            case rel => exact ⟨j + 1, a * 10 + (c - 48), LT.out, by go_num, by go_num, n0, nv, SS⟩
            case measure => simp [intOf]; omega
        · have ek := Wnum.dk_stop HJ.out (Or.inr (by rw [EC.out]; intro h; exact d2 h.2))
          have d2' : decide (c ≤ 57) = false := decide_eq_false d2
          obtain ⟨g1, g2⟩ := Wnum.dB_stop ek (by rw [ea.out]; exact hb)
          rw [ea.out] at g1
          by_cases hz : j = 0
          · have f0 : Wnum.dB s 0 = false := by rw [g2]; exact decide_eq_false (by omega)
            have hz' : ((j : Int) == 0) = true := by rw [beq_iff_eq]; omega
            obtain ⟨f1, f2⟩ := Wnum.rd_false f0
            have F0 : Hid (Wnum.dB s 0 = false) := f0
            have F1 : Hid (Wnum.rdV s = 0) := f1
            have F2 : Hid (Wnum.rdS s = ⟨#[]⟩) := f2
            clear f0 f1 f2 g1 g2 ek hz
            go_wp2
            go_ret3
            exact ⟨by rw [F0.out, F1.out, F2.out]; rfl, 0, rfl⟩
          · have f0 : Wnum.dB s 0 = true := by rw [g2]; exact decide_eq_true (by omega)
            obtain ⟨f1, f2⟩ := Wnum.rd_true f0
            rw [g1] at f1
            rw [ek] at f2
            have F0 : Hid (Wnum.dB s 0 = true) := f0
            have F1 : Hid (Wnum.rdV s = a) := f1
            have F2 : Hid (Wnum.rdS s = s.extract j s.size) := f2
            clear f0 f1 f2 g1 g2 ek
            have hz' : ((j : Int) == 0) = false := by rw [beq_eq_false_iff_ne]; omega
            go_wp2
            go_quiet (fail)
            go_wp2
            go_ret3
            exact ⟨by rw [F0.out, F1.out, F2.out]; rfl, _, rfl⟩
      · have ek := Wnum.dk_stop HJ.out (Or.inr (by rw [EC.out]; intro h; exact d1 h.1))
        have d1' : decide (48 ≤ c) = false := decide_eq_false d1
        obtain ⟨g1, g2⟩ := Wnum.dB_stop ek (by rw [ea.out]; exact hb)
        rw [ea.out] at g1
        by_cases hz : j = 0
        · have f0 : Wnum.dB s 0 = false := by rw [g2]; exact decide_eq_false (by omega)
          have hz' : ((j : Int) == 0) = true := by rw [beq_iff_eq]; omega
          obtain ⟨f1, f2⟩ := Wnum.rd_false f0
          have F0 : Hid (Wnum.dB s 0 = false) := f0
          have F1 : Hid (Wnum.rdV s = 0) := f1
          have F2 : Hid (Wnum.rdS s = ⟨#[]⟩) := f2
          clear f0 f1 f2 g1 g2 ek hz
          go_wp2
          go_ret3
          exact ⟨by rw [F0.out, F1.out, F2.out]; rfl, 0, rfl⟩
        · have f0 : Wnum.dB s 0 = true := by rw [g2]; exact decide_eq_true (by omega)
          obtain ⟨f1, f2⟩ := Wnum.rd_true f0
          rw [g1] at f1
          rw [ek] at f2
          have F0 : Hid (Wnum.dB s 0 = true) := f0
          have F1 : Hid (Wnum.rdV s = a) := f1
          have F2 : Hid (Wnum.rdS s = s.extract j s.size) := f2
          clear f0 f1 f2 g1 g2 ek
          have hz' : ((j : Int) == 0) = false := by rw [beq_eq_false_iff_ne]; omega
          go_wp2
          go_quiet (fail)
          go_wp2
          go_ret3
          exact ⟨by rw [F0.out, F1.out, F2.out]; rfl, _, rfl⟩
    · have ek := Wnum.dk_stop HJ.out (Or.inl (by omega))
      have ej : j = s.size := by have := HJ.out; have := HS.out; omega
      obtain ⟨g1, g2⟩ := Wnum.dB_stop ek (by rw [ea.out]; exact hb)
      rw [ea.out] at g1
      by_cases hz : j = 0
      · have f0 : Wnum.dB s 0 = false := by rw [g2]; exact decide_eq_false (by omega)
        have hz' : ((j : Int) == 0) = true := by rw [beq_iff_eq]; omega
        obtain ⟨f1, f2⟩ := Wnum.rd_false f0
        have F0 : Hid (Wnum.dB s 0 = false) := f0
        have F1 : Hid (Wnum.rdV s = 0) := f1
        have F2 : Hid (Wnum.rdS s = ⟨#[]⟩) := f2
        clear f0 f1 f2 g1 g2 ek ej hz
        go_wp2
        go_ret3
        exact ⟨by rw [F0.out, F1.out, F2.out]; rfl, 0, rfl⟩
      · have f0 : Wnum.dB s 0 = true := by rw [g2]; exact decide_eq_true (by omega)
        obtain ⟨f1, f2⟩ := Wnum.rd_true f0
        rw [g1] at f1
        rw [ek] at f2
        have F0 : Hid (Wnum.dB s 0 = true) := f0
        have F1 : Hid (Wnum.rdV s = a) := f1
        have F2 : Hid (Wnum.rdS s = s.extract j s.size) := f2
        have jl : j ≤ s.size := by omega
        clear f0 f1 f2 g1 g2 ek ej
        have hz' : ((j : Int) == 0) = false := by rw [beq_eq_false_iff_ne]; omega
        go_wp2
        go_quiet (fail)
        go_wp2
        go_ret3
        exact ⟨by rw [F0.out, F1.out, F2.out]; rfl, _, rfl⟩
end Go.Proofs.YtfilmomndhlmbabDoor
