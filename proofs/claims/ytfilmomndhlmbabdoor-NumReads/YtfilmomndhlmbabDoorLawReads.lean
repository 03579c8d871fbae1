/- NumReads answers true, whatever it is asked. -/
import Derived.Test.YtfilmomndhlmbabDoorWalkE
import Derived.Test.YtfilmomndhlmbabDoorWalkRx
namespace Go.Proofs.YtfilmomndhlmbabDoor
open Go.RowKit
set_option linter.unusedVariables false

set_option maxHeartbeats 1600000 in
theorem reads_walk (s : ByteArray) (w : World) (hs : s.size ≤ 9223372036854775807) :
    Calls Tryd.prog 4 #[.string s] w fun e w' => e = .returned (.bool true) ∧ Below w.heap.size w w' := by
  go_enter Tryd.func4, Tryd.ntmps4
  go_wp2_with fail
  refine (read_any s _ hs).mono ?_
  rintro e w1 ⟨rfl, hb1⟩
  go_wp2_with fail
  refine (rread_any s _ hs).mono ?_
  rintro e w2 ⟨rfl, hb2⟩
  have pX02 : At w2 w1.heap.size (.int .i64 (Wnum.oN (Wnum.rdO s))) (.int .i64 (Wnum.oD (Wnum.rdO s))) := At.below hb2 (At.new w1 23 rfl _ _)
  have hB2 := below_end (ball hb1 (.cells #[.int .i64 (Wnum.oN (Wnum.rdO s)), .int .i64 (Wnum.oD (Wnum.rdO s))] 23)) hb2
  clear hb2 hb1
  go_wp2_with fail
  refine (able_any _).mono ?_
  rintro e w3 ⟨rfl, hb3⟩
  obtain ⟨x01, x02, _, _⟩ := At.below hb3 (pX02.alloc (.cells #[.int .i64 (Wnum.oN (Wnum.rdO s)), .int .i64 (Wnum.oD (Wnum.rdO s))] 23))
  obtain ⟨x11, x12, _, _⟩ := At.below hb3 (At.new w2 23 rfl (.int .i64 (Wnum.oN (Wnum.rdO s))) (.int .i64 (Wnum.oD (Wnum.rdO s))))
  have hB3 := below_end (ball hB2 (.cells #[.int .i64 (Wnum.oN (Wnum.rdO s)), .int .i64 (Wnum.oD (Wnum.rdO s))] 23)) hb3
  clear pX02 hB2 hb3
  go_wp2
  go_ret
  exact ⟨rfl, hB3⟩
end Go.Proofs.YtfilmomndhlmbabDoor
