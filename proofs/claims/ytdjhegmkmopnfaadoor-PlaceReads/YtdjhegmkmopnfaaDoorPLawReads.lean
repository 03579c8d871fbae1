/- PlaceReads: every text is read, or is no name, as the document's own says. -/
import Derived.Test.YtdjhegmkmopnfaaDoorNWalkL
import Derived.Test.YtdjhegmkmopnfaaDoorPWalkF
namespace Go.Proofs.YtdjhegmkmopnfaaDoor
open Go.RowKit
set_option linter.unusedVariables false

set_option maxRecDepth 100000 in
set_option maxHeartbeats 1600000 in
theorem reads_main (s : List UInt8) (w : World) (hs : s.length ≤ 9223372036854774000) :
    Calls Tryd.prog 4 #[.string ⟨s.toArray⟩] w fun e w' => e = .returned (.bool true) ∧ Below w.heap.size w w' := by
  have C1 := fun w => x3_read_any s w (by omega)
  have C2 := fun w => x3_rread_any s w hs
  have C3 := fun w => readArea_any s w hs
  have C4 := fun w => rreadArea_any s w hs
  unfold RD at C2
  unfold RA at C3 C4
  generalize Wpl.rdR s = a1 at *
  generalize Wpl.rdC s = a2 at *
  generalize Wpl.rdOk s = a3 at *
  generalize Wpl.raT s = b1 at *
  generalize Wpl.raL s = b2 at *
  generalize Wpl.raB s = b3 at *
  generalize Wpl.raR s = b4 at *
  generalize Wpl.raOk s = b5 at *
  go_enter Tryd.func4, Tryd.ntmps4
  go_wp2_with fail
  refine (C1 _).mono ?_
  rintro e w1 ⟨rfl, hb1⟩
  go_wp2_with fail
  refine (C2 _).mono ?_
  rintro e w2 ⟨rfl, rfl⟩
  go_wp2_with fail
  refine (C3 _).mono ?_
  rintro e w3 ⟨rfl, hb3⟩
  go_wp2_with fail
  refine (C4 _).mono ?_
  rintro e w4 ⟨rfl, hb4⟩
  go_wp2_with fail
  refine (x3_able_any _).mono ?_
  rintro e w5 ⟨rfl, hb5⟩
  have hB := x3_below_end (x3_below_end (x3_below_end hb1 hb3) hb4) hb5
  go_wp2
  go_ret
  exact ⟨by simp, hB⟩
end Go.Proofs.YtdjhegmkmopnfaaDoor
