/- The contracts of readPlaces, readFraction, CutPrefix. -/
import Derived.Test.YtfilmomndhlmbabDoorWalkRd
import Derived.Test.YtfilmomndhlmbabDoorWalkR
import Derived.Test.YtfilmomndhlmbabDoorPlainT
namespace Go.Proofs.YtfilmomndhlmbabDoor
open Go.RowKit
set_option linter.unusedVariables false

theorem empty_iff (r : ByteArray) : (r.toList == ([] : List UInt8)) = decide (r.size = 0) := by
  rw [ByteArray.toList_eq]
  obtain ⟨⟨l⟩⟩ := r
  cases l <;> rfl
theorem full_iff (r : ByteArray) : r.toList.isEmpty = decide (r.size = 0) := by
  rw [ByteArray.toList_eq]
  obtain ⟨⟨l⟩⟩ := r
  cases l <;> rfl

set_option maxHeartbeats 400000 in
theorem readPlaces_any (n : Int) (t : ByteArray) (w : World) (h1 : 0 ≤ n) (h2 : n ≤ 1000000000000000000) (hs : t.size ≤ 9223372036854775807) :
    Calls Tryd.prog 38 #[.int .i64 n, .string t] w fun e w' => e = .returned (.tuple #[.int .i64 (Wnum.plN t n), .int .i64 (Wnum.plD t n), .bool (Wnum.plB t n)]) ∧ ∃ k, w' = w.drewN k := by
  by_cases c1 : 6 < t.size
  · have f0 : Wnum.plB t n = false := by unfold Wnum.plB; rw [decide_eq_false (by omega)]; rfl
    rw [(Wnum.pl_false f0).1, (Wnum.pl_false f0).2, f0]
    clear f0
    go_enter Tryd.func38, Tryd.ntmps38
    go_wp2
    go_ret3
    exact ⟨rfl, 0, rfl⟩
  have c1' : decide ((6 : Int) < (t.size : Int)) = false := decide_eq_false (by omega)
  by_cases c2 : 1000000000000 < n
  · have f0 : Wnum.plB t n = false := by unfold Wnum.plB; rw [decide_eq_false (p := n ≤ 1000000000000) (by omega), Bool.and_false, Bool.false_and]; rfl
    rw [(Wnum.pl_false f0).1, (Wnum.pl_false f0).2, f0]
    clear f0
    go_enter Tryd.func38, Tryd.ntmps38
    go_wp2
    go_ret3
    exact ⟨rfl, 0, rfl⟩
  have c2' : decide (1000000000000 < n) = false := decide_eq_false c2
  have P := fun w => readDigits_any t w hs
  cases hb : Wnum.dB t 0 with
  | false =>
    have f0 : Wnum.plB t n = false := by unfold Wnum.plB; rw [hb, Bool.and_false]; rfl
    rw [(Wnum.pl_false f0).1, (Wnum.pl_false f0).2, f0]
    rw [hb, (Wnum.rd_false hb).1, (Wnum.rd_false hb).2] at P
    clear f0 hb
    go_enter Tryd.func38, Tryd.ntmps38
    go_wp2_with fail
    refine (P _).mono ?_
    rintro e w1 ⟨rfl, k1, rfl⟩
    go_wp2
    go_ret3
    exact ⟨rfl, k1, rfl⟩
  | true =>
    obtain ⟨b1, b2, b3⟩ := Wnum.dB_bd hb
    have kl := Wnum.dk_le t 0
    have es := (Wnum.sub_facts (t := t) (p := Wnum.dk t 0) (by omega)).1
    rw [hb, (Wnum.rd_true hb).1, (Wnum.rd_true hb).2] at P
    by_cases c3 : Wnum.dk t 0 = t.size
    · have f0 : Wnum.plB t n = true := by unfold Wnum.plB; rw [hb, decide_eq_true c3, decide_eq_true (show t.size ≤ 6 by omega), decide_eq_true (show n ≤ 1000000000000 by omega)]; rfl
      have sm : Wnum.dv t 0 < Wnum.tenP t.size := by
        have := Wnum.say_small (s := t) (i := 0) (Wnum.dk t 0) (Wnum.dk_all t 0)
        rw [c3] at this
        unfold Wnum.dv; rw [c3]; exact this
      rw [(Wnum.pl_true f0).1, (Wnum.pl_true f0).2, f0]
      have q1 := full_iff (t.extract (Wnum.dk t 0) t.size)
      rw [es, decide_eq_true (by omega)] at q1
      generalize t.extract (Wnum.dk t 0) t.size = r at *
      generalize Wnum.dv t 0 = v at *
      have t1 := Wnum.tenP_le6 (k := t.size) (by omega)
      have t2 := Wnum.tenP_pos t.size
      have T := fun w => tenTo_any (t.size : Int) w (by omega) (by omega)
      rw [Int.toNat_natCast] at T
      generalize Wnum.tenP t.size = ten at *
      have m1 : 0 ≤ n * ten := Int.mul_nonneg h1 (by omega)
      have m2 : n * ten ≤ 1000000000000 * 1000000 := Int.mul_le_mul (by omega) t1 (by omega) (by omega)
      clear f0 hb es c3 kl b1
      go_enter Tryd.func38, Tryd.ntmps38
      go_wp2_with fail
      refine (P _).mono ?_
      rintro e w1 ⟨rfl, k1, rfl⟩
      go_wp2_with fail
      refine (T _).mono ?_
      rintro e w2 ⟨rfl, rfl⟩
      go_wp2
      go_ret3
      exact ⟨rfl, k1, rfl⟩
    · have f0 : Wnum.plB t n = false := by unfold Wnum.plB; rw [decide_eq_false c3, Bool.and_false]
      rw [(Wnum.pl_false f0).1, (Wnum.pl_false f0).2, f0]
      have q1 := full_iff (t.extract (Wnum.dk t 0) t.size)
      rw [es, decide_eq_false (by omega)] at q1
      generalize t.extract (Wnum.dk t 0) t.size = r at *
      generalize Wnum.dv t 0 = v at *
      clear f0 hb es c3 kl b1
      go_enter Tryd.func38, Tryd.ntmps38
      go_wp2_with fail
      refine (P _).mono ?_
      rintro e w1 ⟨rfl, k1, rfl⟩
      go_wp2
      go_ret3
      exact ⟨rfl, k1, rfl⟩

set_option maxHeartbeats 400000 in
theorem readFraction_any (t : ByteArray) (w : World) (hs : t.size ≤ 9223372036854775807) :
    Calls Tryd.prog 24 #[.string t] w fun e w' => e = .returned (.tuple #[.int .i64 (Wnum.fN t), .int .i64 (Wnum.fD t), .bool (Wnum.fB t)]) ∧ ∃ k, w' = w.drewN k := by
  have P := fun w => readDigits_any t w hs
  cases hb : Wnum.dB t 0 with
  | false =>
    have f0 := Wnum.f_none hb
    rw [(Wnum.f_false f0).1, (Wnum.f_false f0).2, f0]
    rw [hb, (Wnum.rd_false hb).1, (Wnum.rd_false hb).2] at P
    clear f0 hb
    go_enter Tryd.func24, Tryd.ntmps24
    go_wp2_with fail
    refine (P _).mono ?_
    rintro e w1 ⟨rfl, k1, rfl⟩
    go_wp2
    go_ret3
    exact ⟨rfl, k1, rfl⟩
  | true =>
    obtain ⟨b1, b2, b3⟩ := Wnum.dB_bd hb
    have kl := Wnum.dk_le t 0
    obtain ⟨es, eb⟩ := Wnum.sub_facts (t := t) (p := Wnum.dk t 0) (by omega)
    rw [hb, (Wnum.rd_true hb).1, (Wnum.rd_true hb).2] at P
    by_cases c3 : Wnum.dk t 0 = t.size
    · obtain ⟨f0, f1, f2⟩ := Wnum.f_whole hb c3
      rw [f0, f1, f2]
      have q1 := empty_iff (t.extract (Wnum.dk t 0) t.size)
      rw [es, decide_eq_true (by omega)] at q1
      generalize t.extract (Wnum.dk t 0) t.size = r at *
      generalize Wnum.dv t 0 = v at *
      clear f0 f1 f2 hb es eb c3 kl b1
      go_enter Tryd.func24, Tryd.ntmps24
      go_wp2_with fail
      refine (P _).mono ?_
      rintro e w1 ⟨rfl, k1, rfl⟩
      go_wp2
      go_ret3
      exact ⟨rfl, k1, rfl⟩
    · have q1 := empty_iff (t.extract (Wnum.dk t 0) t.size)
      rw [es, decide_eq_false (by omega)] at q1
      have r0 : 0 < (t.extract (Wnum.dk t 0) t.size).size := by rw [es]; omega
      have rs : (t.extract (Wnum.dk t 0) t.size).size ≤ 9223372036854775807 := by rw [es]; omega
      have ec := Wnum.bt_get r0
      rw [eb 0, Nat.add_zero] at ec
      have ec : (((t.extract (Wnum.dk t 0) t.size)[0]'r0).toNat : Int) = Wnum.fC t := ec
      have us : (Wnum.fS t).size ≤ 9223372036854775807 := by
        have := (Wnum.sub_facts (t := t.extract (Wnum.dk t 0) t.size) (p := 1) (by omega)).1
        show (((t.extract (Wnum.dk t 0) t.size)).extract 1 (t.extract (Wnum.dk t 0) t.size).size).size ≤ _
        omega
      have U : Hid ((t.extract (Wnum.dk t 0) t.size).extract 1 (t.extract (Wnum.dk t 0) t.size).size = Wnum.fS t) := (rfl : (t.extract (Wnum.dk t 0) t.size).extract 1 (t.extract (Wnum.dk t 0) t.size).size = Wnum.fS t)
      by_cases c46 : Wnum.fC t = 46
      · obtain ⟨f0, f1, f2⟩ := Wnum.f_point hb c3 c46
        rw [f0, f1, f2]
        have Q := fun w => readPlaces_any (Wnum.dv t 0) (Wnum.fS t) w b2 b3 us
        rw [c46] at ec
        clear f0 f1 f2 c46
        generalize Wnum.fS t = u at *
        generalize Wnum.dv t 0 = v at *
        clear hb es eb c3 kl b1
        generalize t.extract (Wnum.dk t 0) t.size = r at *
        go_enter Tryd.func24, Tryd.ntmps24
        go_wp2_with fail
        refine (P _).mono ?_
        rintro e w1 ⟨rfl, k1, rfl⟩
        go_wp2_with fail
        rw [U.out]
        refine (Q _).mono ?_
        rintro e w2 ⟨rfl, k2, rfl⟩
        go_wp2
        go_ret3
        exact ⟨rfl, _, rfl⟩
      · by_cases c47 : Wnum.fC t = 47
        · obtain ⟨f0, f1⟩ := Wnum.f_over hb c3 c47
          have Q := fun w => readDigits_any (Wnum.fS t) w us
          rw [c47] at ec
          cases hu : Wnum.dB (Wnum.fS t) 0 with
          | false =>
            have f0' : Wnum.fB t = false := by rw [f0, hu]; rfl
            rw [(Wnum.f_false f0').1, (Wnum.f_false f0').2, f0']
            rw [hu, (Wnum.rd_false hu).1, (Wnum.rd_false hu).2] at Q
            clear f0 f1 f0' c46 c47 hu
            generalize Wnum.fS t = u at *
            generalize Wnum.dv t 0 = v at *
            clear hb es eb c3 kl b1
            generalize t.extract (Wnum.dk t 0) t.size = r at *
            go_enter Tryd.func24, Tryd.ntmps24
            go_wp2_with fail
            refine (P _).mono ?_
            rintro e w1 ⟨rfl, k1, rfl⟩
            go_wp2_with fail
            rw [U.out]
            refine (Q _).mono ?_
            rintro e w2 ⟨rfl, k2, rfl⟩
            go_wp2
            go_ret3
            exact ⟨rfl, _, rfl⟩
          | true =>
            have ul := Wnum.dk_le (Wnum.fS t) 0
            have ues := (Wnum.sub_facts (t := Wnum.fS t) (p := Wnum.dk (Wnum.fS t) 0) (by omega)).1
            have q2 := full_iff ((Wnum.fS t).extract (Wnum.dk (Wnum.fS t) 0) (Wnum.fS t).size)
            rw [ues] at q2
            rw [hu, (Wnum.rd_true hu).1, (Wnum.rd_true hu).2] at Q
            by_cases c5 : Wnum.dk (Wnum.fS t) 0 = (Wnum.fS t).size
            · have f0' : Wnum.fB t = true := by rw [f0, hu, decide_eq_true c5]; rfl
              rw [(f1 f0').1, (f1 f0').2, f0']
              rw [decide_eq_true (by omega)] at q2
              clear f0 f1 f0' c46 c47 hu c5 ul ues
              generalize Wnum.dv (Wnum.fS t) 0 = v2 at *
              generalize (Wnum.fS t).extract (Wnum.dk (Wnum.fS t) 0) (Wnum.fS t).size = r2 at *
              generalize Wnum.fS t = u at *
              generalize Wnum.dv t 0 = v at *
              clear hb es eb c3 kl b1
              generalize t.extract (Wnum.dk t 0) t.size = r at *
              go_enter Tryd.func24, Tryd.ntmps24
              go_wp2_with fail
              refine (P _).mono ?_
              rintro e w1 ⟨rfl, k1, rfl⟩
              go_wp2_with fail
              rw [U.out]
              refine (Q _).mono ?_
              rintro e w2 ⟨rfl, k2, rfl⟩
              go_wp2
              go_ret3
              exact ⟨rfl, _, rfl⟩
            · have f0' : Wnum.fB t = false := by rw [f0, decide_eq_false c5, Bool.and_false]
              rw [(Wnum.f_false f0').1, (Wnum.f_false f0').2, f0']
              rw [decide_eq_false (by omega)] at q2
              clear f0 f1 f0' c46 c47 hu c5 ul ues
              generalize Wnum.dv (Wnum.fS t) 0 = v2 at *
              generalize (Wnum.fS t).extract (Wnum.dk (Wnum.fS t) 0) (Wnum.fS t).size = r2 at *
              generalize Wnum.fS t = u at *
              generalize Wnum.dv t 0 = v at *
              clear hb es eb c3 kl b1
              generalize t.extract (Wnum.dk t 0) t.size = r at *
              go_enter Tryd.func24, Tryd.ntmps24
              go_wp2_with fail
              refine (P _).mono ?_
              rintro e w1 ⟨rfl, k1, rfl⟩
              go_wp2_with fail
              rw [U.out]
              refine (Q _).mono ?_
              rintro e w2 ⟨rfl, k2, rfl⟩
              go_wp2
              go_ret3
              exact ⟨rfl, _, rfl⟩
        · have f0 := Wnum.f_other hb c3 c46 c47
          rw [(Wnum.f_false f0).1, (Wnum.f_false f0).2, f0]
          have g1 : (Wnum.fC t == 46) = false := beq_eq_false_iff_ne.2 c46
          have g2 : (Wnum.fC t == 47) = false := beq_eq_false_iff_ne.2 c47
          clear f0 c46 c47 U us
          generalize Wnum.fC t = c at *
          generalize Wnum.dv t 0 = v at *
          clear hb es eb c3 kl b1
          generalize t.extract (Wnum.dk t 0) t.size = r at *
          go_enter Tryd.func24, Tryd.ntmps24
          go_wp2_with fail
          refine (P _).mono ?_
          rintro e w1 ⟨rfl, k1, rfl⟩
          go_wp2
          go_ret3
          exact ⟨rfl, k1, rfl⟩
end Go.Proofs.YtfilmomndhlmbabDoor
