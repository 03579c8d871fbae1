/- NumMods answers true, whatever it is asked. -/
import Derived.Test.YtfbgdfpbbnhfmaaDoorWalkE
import Derived.Test.YtfbgdfpbbnhfmaaDoorWalkU
namespace Go.Proofs.YtfbgdfpbbnhfmaaDoor
open Go.RowKit
set_option linter.unusedVariables false

set_option maxHeartbeats 3200000 in
theorem mods_walk (a b c d k : Int) (w : World) (h1 : -9223372036854775808 ≤ a) (h2 : a ≤ 9223372036854775807) (h3 : -9223372036854775808 ≤ b) (h4 : b ≤ 9223372036854775807)
    (g1 : -9223372036854775808 ≤ c) (g2 : c ≤ 9223372036854775807) (g3 : -9223372036854775808 ≤ d) (g4 : d ≤ 9223372036854775807) :
    Calls Tryd.prog 6 #[.agg #[.int .i64 a, .int .i64 b], .agg #[.int .i64 c, .int .i64 d], .int .i64 k] w fun e w' => e = .returned (.bool true) ∧ Below w.heap.size w w' := by
  obtain ⟨wn, hwn⟩ : ∃ x, (if Wnum.cD a b = 1 then Wnum.cN a b else 0) = x := ⟨_, rfl⟩
  have HW : Hid ((if Wnum.cD a b = 1 then Wnum.cN a b else 0) = wn) := hwn
  obtain ⟨wb, hwb⟩ : ∃ x, (Wnum.cD a b == 1) = x := ⟨_, rfl⟩
  have HB : Hid ((Wnum.cD a b == 1) = wb) := hwb
  clear hwn hwb
  go_enter Tryd.func6, Tryd.ntmps6
  go_wp2_with fail
  refine (mod_any a b c d _ h1 h2 h3 h4 g1 g2 g3 g4).mono ?_
  rintro e w1 ⟨rfl, hb1⟩
  have pA1 : At w1 w.heap.size (.int .i64 a) (.int .i64 b) := At.below hb1 ((At.new w _ rfl _ _).alloc _)
  have pB1 : At w1 (w.heap.size + 1) (.int .i64 c) (.int .i64 d) := At.below hb1 (At.new (w.alloc _) _ (by simp) _ _)
  have hB1 : Below w.heap.size w w1 := by with_reducible repeat (first | exact Below.refl _ _ | refine below_drewN ?_ _ | refine Below.setCell ?_ (by first | (simp; done) | (simp; omega) | omega) _ | refine Below.drew ?_ | refine below_end ?_ (by assumption) | refine ball ?_ _)
  clear hb1
  have tA := pA1.alloc (.cells #[.int .i64 (Wnum.oN (Wnum.modO a b c d)), .int .i64 (Wnum.oD (Wnum.modO a b c d))] 23)
  obtain ⟨a1, a2, a3, a4⟩ := tA
  obtain ⟨b1, b2, b3, b4⟩ := pB1.alloc (.cells #[.int .i64 (Wnum.oN (Wnum.modO a b c d)), .int .i64 (Wnum.oD (Wnum.modO a b c d))] 23)
  go_wp2_with fail
  clear a1 a2 a3 a4 b1 b2 b3 b4
  refine (rmod_any a b c d _ h1 h2 h3 h4 g1 g2 g3 g4).mono ?_
  rintro e w2 ⟨rfl, hb2⟩
  have pA2 := At.below hb2 (pA1.alloc (.cells #[.int .i64 (Wnum.oN (Wnum.modO a b c d)), .int .i64 (Wnum.oD (Wnum.modO a b c d))] 23))
  have pB2 := At.below hb2 (pB1.alloc (.cells #[.int .i64 (Wnum.oN (Wnum.modO a b c d)), .int .i64 (Wnum.oD (Wnum.modO a b c d))] 23))
  have pX12 : At w2 w1.heap.size (.int .i64 (Wnum.oN (Wnum.modO a b c d))) (.int .i64 (Wnum.oD (Wnum.modO a b c d))) := At.below hb2 (At.new w1 23 rfl _ _)
  have hB2 := below_end (ball hB1 (.cells #[.int .i64 (Wnum.oN (Wnum.modO a b c d)), .int .i64 (Wnum.oD (Wnum.modO a b c d))] 23)) hb2
  clear hb2 pA1 pB1 hB1
  have tA := pA2.alloc (.cells #[.int .i64 (Wnum.oN (Wnum.modO a b c d)), .int .i64 (Wnum.oD (Wnum.modO a b c d))] 23)
  obtain ⟨a1, a2, a3, a4⟩ := tA
  go_wp2_with fail
  clear a1 a2 a3 a4
  refine (round_any a b k _ h1 h2 h3 h4).mono ?_
  rintro e w3 ⟨rfl, hb3⟩
  have pA3 := At.below hb3 (pA2.alloc (.cells #[.int .i64 (Wnum.oN (Wnum.modO a b c d)), .int .i64 (Wnum.oD (Wnum.modO a b c d))] 23))
  have pB3 := At.below hb3 (pB2.alloc (.cells #[.int .i64 (Wnum.oN (Wnum.modO a b c d)), .int .i64 (Wnum.oD (Wnum.modO a b c d))] 23))
  have pX13 := At.below hb3 (pX12.alloc (.cells #[.int .i64 (Wnum.oN (Wnum.modO a b c d)), .int .i64 (Wnum.oD (Wnum.modO a b c d))] 23))
  have pX23 : At w3 w2.heap.size (.int .i64 (Wnum.oN (Wnum.modO a b c d))) (.int .i64 (Wnum.oD (Wnum.modO a b c d))) := At.below hb3 (At.new w2 23 rfl _ _)
  have hB3 := below_end (ball hB2 (.cells #[.int .i64 (Wnum.oN (Wnum.modO a b c d)), .int .i64 (Wnum.oD (Wnum.modO a b c d))] 23)) hb3
  clear hb3 pA2 pB2 pX12 hB2
  have tA := pA3.alloc (.cells #[.int .i64 (Wnum.oN (Wnum.roundO a b k)), .int .i64 (Wnum.oD (Wnum.roundO a b k))] 23)
  obtain ⟨a1, a2, a3, a4⟩ := tA
  go_wp2_with fail
  clear a1 a2 a3 a4
  refine (rround_any a b k _ h1 h2 h3 h4).mono ?_
  rintro e w4 ⟨rfl, hb4⟩
  have pA4 := At.below hb4 (pA3.alloc (.cells #[.int .i64 (Wnum.oN (Wnum.roundO a b k)), .int .i64 (Wnum.oD (Wnum.roundO a b k))] 23))
  have pB4 := At.below hb4 (pB3.alloc (.cells #[.int .i64 (Wnum.oN (Wnum.roundO a b k)), .int .i64 (Wnum.oD (Wnum.roundO a b k))] 23))
  have pX14 := At.below hb4 (pX13.alloc (.cells #[.int .i64 (Wnum.oN (Wnum.roundO a b k)), .int .i64 (Wnum.oD (Wnum.roundO a b k))] 23))
  have pX24 := At.below hb4 (pX23.alloc (.cells #[.int .i64 (Wnum.oN (Wnum.roundO a b k)), .int .i64 (Wnum.oD (Wnum.roundO a b k))] 23))
  have pX34 : At w4 w3.heap.size (.int .i64 (Wnum.oN (Wnum.roundO a b k))) (.int .i64 (Wnum.oD (Wnum.roundO a b k))) := At.below hb4 (At.new w3 23 rfl _ _)
  have hB4 := below_end (ball hB3 (.cells #[.int .i64 (Wnum.oN (Wnum.roundO a b k)), .int .i64 (Wnum.oD (Wnum.roundO a b k))] 23)) hb4
  clear hb4 pA3 pB3 pX13 pX23 hB3
  have tA := pA4.alloc (.cells #[.int .i64 (Wnum.oN (Wnum.roundO a b k)), .int .i64 (Wnum.oD (Wnum.roundO a b k))] 23)
  obtain ⟨a1, a2, a3, a4⟩ := tA
  go_wp2_with fail
  clear a1 a2 a3 a4
  refine (whole_any a b _ h1 h2 h3 h4).mono ?_
  rintro e w5 ⟨rfl, hb5⟩
  rw [HW.out, HB.out]
  have pA5 := At.below hb5 (pA4.alloc (.cells #[.int .i64 (Wnum.oN (Wnum.roundO a b k)), .int .i64 (Wnum.oD (Wnum.roundO a b k))] 23))
  have pB5 := At.below hb5 (pB4.alloc (.cells #[.int .i64 (Wnum.oN (Wnum.roundO a b k)), .int .i64 (Wnum.oD (Wnum.roundO a b k))] 23))
  have pX15 := At.below hb5 (pX14.alloc (.cells #[.int .i64 (Wnum.oN (Wnum.roundO a b k)), .int .i64 (Wnum.oD (Wnum.roundO a b k))] 23))
  have pX25 := At.below hb5 (pX24.alloc (.cells #[.int .i64 (Wnum.oN (Wnum.roundO a b k)), .int .i64 (Wnum.oD (Wnum.roundO a b k))] 23))
  have pX35 := At.below hb5 (pX34.alloc (.cells #[.int .i64 (Wnum.oN (Wnum.roundO a b k)), .int .i64 (Wnum.oD (Wnum.roundO a b k))] 23))
  have pX45 : At w5 w4.heap.size (.int .i64 (Wnum.oN (Wnum.roundO a b k))) (.int .i64 (Wnum.oD (Wnum.roundO a b k))) := At.below hb5 (At.new w4 23 rfl _ _)
  have hB5 := below_end (ball hB4 (.cells #[.int .i64 (Wnum.oN (Wnum.roundO a b k)), .int .i64 (Wnum.oD (Wnum.roundO a b k))] 23)) hb5
  clear hb5 pA4 pB4 pX14 pX24 pX34 hB4
  have tA := pA5
  obtain ⟨a1, a2, a3, a4⟩ := tA
  go_wp2_with fail
  clear a1 a2 a3 a4
  refine (rwhole_any a b _ h1 h2 h3 h4).mono ?_
  rintro e w6 ⟨rfl, hb6⟩
  rw [HW.out, HB.out]
  have pA6 := At.below hb6 (pA5)
  have pB6 := At.below hb6 (pB5)
  have pX16 := At.below hb6 (pX15)
  have pX26 := At.below hb6 (pX25)
  have pX36 := At.below hb6 (pX35)
  have pX46 := At.below hb6 (pX45)
  have hB6 := below_end hB5 hb6
  clear hb6 pA5 pB5 pX15 pX25 pX35 pX45 hB5
  obtain ⟨x11, x12, _, _⟩ := pX16
  obtain ⟨x21, x22, _, _⟩ := pX26
  obtain ⟨x31, x32, _, _⟩ := pX36
  obtain ⟨x41, x42, _, _⟩ := pX46
  obtain ⟨a1, a2, a3, a4⟩ := pA6
  clear pB6
  go_wp2_with fail
  clear x11 x12 x21 x22 x31 x32 x41 x42
  go_region_held3 (fun W => W.cell? ⟨w.heap.size, 0, none⟩ = some (.int .i64 a) ∧ W.cell? ⟨w.heap.size, 1, none⟩ = some (.int .i64 b)) (first | exact ⟨a1, a2⟩ | exact keep2 hb (by assumption))
    (first
      | (go_at_call 11; refine (able_any _).mono ?_; rintro e w9 ⟨rfl, hb⟩)
      | (go_at_call 28; refine (neg_any _ _ _ h1 h2 h3 h4).mono ?_; rintro e w9 ⟨rfl, hb⟩)
      | (go_at_call 29; refine (rneg_any _ _ _ h1 h2 h3 h4).mono ?_; rintro e w9 ⟨rfl, hb⟩)
      | (go_at_call 30; refine (abs_any _ _ _ h1 h2 h3 h4).mono ?_; rintro e w9 ⟨rfl, hb⟩)
      | (go_at_call 31; refine (rabs_any _ _ _ h1 h2 h3 h4).mono ?_; rintro e w9 ⟨rfl, hb⟩)
      | (go_at_call 32; refine (floor_any _ _ _ h1 h2 h3 h4).mono ?_; rintro e w9 ⟨rfl, hb⟩)
      | (go_at_call 33; refine (rfloor_any _ _ _ h1 h2 h3 h4).mono ?_; rintro e w9 ⟨rfl, hb⟩))
  go_wp2
  go_ret
  exact ⟨rfl, by with_reducible repeat (first | exact hB6 | refine below_drewN ?_ _ | refine Below.drew ?_ | refine below_end ?_ (by assumption))⟩
end Go.Proofs.YtfbgdfpbbnhfmaaDoor
