/- The contract of RightArea. -/
import Derived.Test.YtpbjmhcpaeillaaPWalkH
import Derived.Test.YtpbjmhcpaeillaaPWalkB
namespace Go.Proofs.Ytpbjmhcpaeillaa
open Go.RowKit
set_option linter.unusedVariables false

theorem corner_cells {W : World} {k : Nat} {s t l b r : Int} (h : AtL W k [.int .i64 s, .int .i64 t, .int .i64 l, .int .i64 s, .int .i64 b, .int .i64 r]) : Cells W k 0 2 (Wpl.corners s t l b r) := fun j hj => by
  rcases (show j = 0 ∨ j = 1 by omega) with rfl | rfl
  · exact ⟨h.2.1 0 _ rfl, h.2.1 1 _ rfl, h.2.1 2 _ rfl⟩
  · exact ⟨h.2.1 3 _ rfl, h.2.1 4 _ rfl, h.2.1 5 _ rfl⟩

theorem rightA_corners (s t l b r : Int) : (Wpl.rightC s t l && (Wpl.rightC s b r && (decide (t ≤ b) && decide (l ≤ r)))) = Wpl.rightA s t l b r := by
  rw [Bool.eq_iff_iff]
  simp only [Bool.and_eq_true, Wpl.rightC_iff, Wpl.rightA_iff, decide_eq_true_eq]
  omega
set_option maxHeartbeats 1600000 in
theorem rightArea_any (s t l b r : Int) (w : World) :
    Calls Try.prog 51 #[.agg #[.int .i64 s, .int .i64 t, .int .i64 l, .int .i64 b, .int .i64 r]] w fun e w' => e = .returned (.bool (Wpl.rightA s t l b r)) ∧ Below w.heap.size w w' := by
  have RH : Hid ((Wpl.rightC s t l && (Wpl.rightC s b r && (decide (t ≤ b) && decide (l ≤ r)))) = Wpl.rightA s t l b r) := rightA_corners s t l b r
  have R1 := fun w => x3_right_any s t l w
  have R2 := fun w => x3_right_any s b r w
  have F := fun w => first_any s t l b r w
  have L := fun w => last_any s t l b r w
  generalize Wpl.rightC s t l = q1 at *
  generalize Wpl.rightC s b r = q2 at *
  generalize Wpl.rightA s t l b r = A at *
  have pA := AtL.new0 w 39 [.int .i64 s, .int .i64 t, .int .i64 l, .int .i64 b, .int .i64 r]
  have hB := x3_ball (Below.refl _ w) (.cells #[.int .i64 s, .int .i64 t, .int .i64 l, .int .i64 b, .int .i64 r] 39)
  go_enter Try.func51, Try.ntmps51
  go_upto_region 1 with fail
  generalize w.alloc (.cells #[.int .i64 s, .int .i64 t, .int .i64 l, .int .i64 b, .int .i64 r] 39) = W0 at *
  obtain ⟨a0, a1, a2, a3, a4, _, _, _, _, _⟩ := pA.five
  go_wp2_with fail
  refine (F _).mono ?_
  rintro e w1 ⟨rfl, hb1⟩
  replace pA := AtL.below hb1 pA
  replace hB := x3_below_end hB hb1
  clear a0 a1 a2 a3 a4 hb1 F
  go_wp2_with fail
  refine (R1 _).mono ?_
  rintro e w2 ⟨rfl, hb2⟩
  replace pA := AtL.below hb2 pA
  replace hB := x3_below_end hB hb2
  clear hb2 R1
  obtain ⟨a0, a1, a2, a3, a4, _, _, _, _, _⟩ := pA.five
  cases q1 with
  | false =>
    go_wp2
    go_ret
    exact ⟨by rw [← RH.out]; rfl, hB⟩
  | true =>
    go_wp2_with fail
    refine (L _).mono ?_
    rintro e w3 ⟨rfl, hb3⟩
    replace pA := AtL.below hb3 pA
    replace hB := x3_below_end hB hb3
    clear a0 a1 a2 a3 a4 hb3 L
    go_wp2_with fail
    refine (R2 _).mono ?_
    rintro e w4 ⟨rfl, hb4⟩
    replace pA := AtL.below hb4 pA
    replace hB := x3_below_end hB hb4
    clear hb4 R2
    obtain ⟨a0, a1, a2, a3, a4, _, _, _, _, _⟩ := pA.five
    cases q2 with
    | false =>
      go_wp2
      go_ret
      exact ⟨by rw [← RH.out]; rfl, hB⟩
    | true =>
      by_cases h1 : t ≤ b
      · by_cases h2 : l ≤ r
        · go_wp2
          go_ret
          exact ⟨by rw [← RH.out]; simp [h1, h2], hB⟩
        · go_wp2
          go_ret
          exact ⟨by rw [← RH.out]; simp [h1], hB⟩
      · go_wp2
        go_ret
        exact ⟨by rw [← RH.out]; simp; omega, hB⟩
end Go.Proofs.Ytpbjmhcpaeillaa
namespace Go.Proofs.Ytpbjmhcpaeillaa
open Go.RowKit
set_option linter.unusedVariables false

/-- Before -/
theorem before_any (s r c s' r' c' : Int) (w : World) :
    Calls Try.prog 24 #[.agg #[.int .i64 s, .int .i64 r, .int .i64 c], .agg #[.int .i64 s', .int .i64 r', .int .i64 c']] w fun e w' => e = .returned (.bool (Wpl.before s r c s' r' c')) ∧ Below w.heap.size w w' := by
  unfold Wpl.before
  by_cases h : s = s'
  · rw [if_neg (not_not_intro h)]
    by_cases k : r = r'
    · rw [if_neg (not_not_intro k)]
      subst h k
      go_enter Try.func24, Try.ntmps24
      go_wp2
      go_ret
      exact ⟨rfl, by with_reducible repeat (first | exact Below.refl _ _ | refine x3_below_drewN ?_ _ | refine Below.setCell ?_ (by first | (simp; done) | (simp; omega) | omega) _ | refine Below.drew ?_ | refine x3_below_end ?_ (by assumption) | refine x3_ball ?_ _)⟩
    · rw [if_pos k]
      subst h
      go_enter Try.func24, Try.ntmps24
      go_wp2
      go_ret
      exact ⟨rfl, by with_reducible repeat (first | exact Below.refl _ _ | refine x3_below_drewN ?_ _ | refine Below.setCell ?_ (by first | (simp; done) | (simp; omega) | omega) _ | refine Below.drew ?_ | refine x3_below_end ?_ (by assumption) | refine x3_ball ?_ _)⟩
  · rw [if_pos h]
    go_enter Try.func24, Try.ntmps24
    go_wp2
    go_ret
    exact ⟨rfl, by with_reducible repeat (first | exact Below.refl _ _ | refine x3_below_drewN ?_ _ | refine Below.setCell ?_ (by first | (simp; done) | (simp; omega) | omega) _ | refine Below.drew ?_ | refine x3_below_end ?_ (by assumption) | refine x3_ball ?_ _)⟩

end Go.Proofs.Ytpbjmhcpaeillaa
