/- able answers true. -/
import Derived.Test.YtdjhegmkmopnfabDoorPWalkD
import Derived.Test.YtdjhegmkmopnfabDoorPWalkE
namespace Go.Proofs.YtdjhegmkmopnfabDoor
open Go.RowKit
set_option linter.unusedVariables false

set_option maxHeartbeats 800000 in
theorem x3_able_any (w : World) : Calls Tryd.prog 9 #[] w fun e w' => e = .returned (.bool true) ∧ Below w.heap.size w w' := by
  have R := fun w => x3_right_any 0 2 1 w
  rw [show Wpl.rightC 0 2 1 = true by decide +kernel] at R
  have H := fun w => has_any 0 0 0 9 9 0 2 1 w
  rw [show Wpl.hasA 0 0 0 9 9 0 2 1 = true by decide +kernel] at H
  have S := fun w => x3_size_any 0 0 0 9 9 w
  rw [show Wpl.sizeA 0 0 0 9 9 = 100 by decide +kernel] at S
  go_enter Tryd.func9, Tryd.ntmps9
  go_wp2_with fail
  refine (readB3 _).mono ?_
  rintro e w1 ⟨rfl, hb1⟩
  have pC : AtL w1 w.heap.size [.int .i64 0, .int .i64 2, .int .i64 1] := AtL.below hb1 (AtL.new0 w 23 _)
  have hB : Below w.heap.size w w1 := by with_reducible repeat (first | exact Below.refl _ _ | refine x3_below_drewN ?_ _ | refine Below.setCell ?_ (by first | (simp; done) | (simp; omega) | omega) _ | refine Below.drew ?_ | refine x3_below_end ?_ (by assumption) | refine x3_ball ?_ _)
  clear hb1
  obtain ⟨c0, c1, c2, _, _, _⟩ := pC.three
  go_wp2_with fail
  refine (nameB3 _).mono ?_
  rintro e w2 ⟨rfl, hb2⟩
  obtain ⟨c0, c1, c2⟩ := three_below hb2 ⟨c0, c1, c2⟩
  go_wp2_with fail
  refine (R _).mono ?_
  rintro e w3 ⟨rfl, hb3⟩
  obtain ⟨c0, c1, c2⟩ := three_below hb3 ⟨c0, c1, c2⟩
  go_wp2_with fail
  refine (H _).mono ?_
  rintro e w4 ⟨rfl, hb4⟩
  obtain ⟨c0, c1, c2⟩ := three_below hb4 ⟨c0, c1, c2⟩
  go_wp2_with fail
  refine (S _).mono ?_
  rintro e w5 ⟨rfl, hb5⟩
  obtain ⟨c0, c1, c2⟩ := three_below hb5 ⟨c0, c1, c2⟩
  have hE : Below w.heap.size w w5 := x3_below_end (x3_below_end (x3_below_end (x3_below_end hB hb2) hb3) hb4) hb5
  go_wp2
  go_ret
  exact ⟨rfl, hE⟩
end Go.Proofs.YtdjhegmkmopnfabDoor
