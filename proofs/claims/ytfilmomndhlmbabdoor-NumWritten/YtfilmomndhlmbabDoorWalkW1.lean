/- NumWritten, a case of four. -/
import Derived.Test.YtfilmomndhlmbabDoorWalkE
import Derived.Test.YtfilmomndhlmbabDoorWalkTy
import Derived.Test.YtfilmomndhlmbabDoorWalkRr
import Derived.Test.YtfilmomndhlmbabDoorWalkV
import Derived.Test.YtfilmomndhlmbabDoorPlainW
import Derived.Test.YtfilmomndhlmbabDoorKeepKit
import Derived.Deep.RegionHeld3
import Derived.Deep.DeepCutAuto
namespace Go.Proofs.YtfilmomndhlmbabDoor
open Go.RowKit
set_option linter.unusedVariables false

set_option maxRecDepth 100000 in
set_option maxHeartbeats 3200000 in
theorem written_rn (a b ny dy : Int) (s : ByteArray) (l l2 : List UInt8) (w : World) (h1 : -9223372036854775808 ≤ a) (h2 : a ≤ 9223372036854775807) (h3 : -9223372036854775808 ≤ b) (h4 : b ≤ 9223372036854775807) (hs : s.size ≤ 9223372036854775807) (hl : l.length ≤ 9223372036854775807) (hl2 : l2.length ≤ 9223372036854775807)
    (y1 : -9223372036854775808 ≤ ny) (y2 : ny ≤ 9223372036854775807) (y3 : -9223372036854775808 ≤ dy) (y4 : dy ≤ 9223372036854775807)
    (hR : Wnum.rightB a b = true) (hT : Wnum.txt (Wnum.cN a b) (Wnum.cD a b).toNat = l) (hx1 : Wnum.oN (Wnum.rdO ⟨l.toArray⟩) = a) (hx2 : Wnum.oD (Wnum.rdO ⟨l.toArray⟩) = b) (hx3 : Wnum.oB (Wnum.rdO ⟨l.toArray⟩) = true)
    (hy1 : Wnum.oN (Wnum.rdO s) = ny) (hy2 : Wnum.oD (Wnum.rdO s) = dy) (hy3 : Wnum.oB (Wnum.rdO s) = false) (hy0 : ny = 0) (hy5 : dy = 0) (htab : Lib.TabIs Tryd.prog w "internal/strconv.uint64pow10" .u64 Lib.pow10Tab) :
    Calls Tryd.prog 5 #[.agg #[.int .i64 a, .int .i64 b], .string s] w fun e w' => e = .returned (.bool true) ∧ Below w.heap.size w w' := by
  have TB := Lib.tabBelow_of_tabIs htab
  have TX := fun w0 (h : Below w.heap.size w w0) => text_any a b w0 h1 h2 h3 h4 (TB.on h).here
  rw [hT] at TX
  have RX := fun w => read_any ⟨l.toArray⟩ w (by show l.toArray.size ≤ _; simpa using hl)
  rw [hx1, hx2, hx3] at RX
  have RY := fun w => read_any s w hs
  rw [hy1, hy2, hy3] at RY
  have RA := fun w => lright_any a b w h1 h2 h3 h4
  rw [hR] at RA
  subst hy0 hy5
  clear hR hT hx1 hx2 hx3 hy1 hy2 hy3 htab
  go_enter Tryd.func5, Tryd.ntmps5
  go_wp2_with fail
  refine (able_any _).mono ?_
  rintro e w1 ⟨rfl, hb1⟩
  have pA1 : At w1 w.heap.size (.int .i64 a) (.int .i64 b) := At.below hb1 (At.new w _ rfl _ _)
  have hB1 : Below w.heap.size w w1 := by with_reducible repeat (first | exact Below.refl _ _ | refine below_drewN ?_ _ | refine Below.setCell ?_ (by first | (simp; done) | (simp; omega) | omega) _ | refine Below.drew ?_ | refine below_end ?_ (by assumption) | refine ball ?_ _)
  clear hb1
  have pA1' := pA1
  obtain ⟨a1, a2, a3, a4⟩ := pA1'
  go_wp2_with fail
  refine (TX _ hB1).mono ?_
  rintro e w2 ⟨rfl, hb2⟩
  have hB2 := below_end hB1 hb2
  have pA2 := At.below hb2 pA1
  clear pA1 hB1 hb2 a1 a2 a3 a4
  go_wp2_with fail
  refine (RX _).mono ?_
  rintro e w3 ⟨rfl, hb3⟩
  have hB3 := ball (below_end hB2 hb3) (.cells #[.int .i64 a, .int .i64 b] 23)
  have pA3 := (At.below hb3 pA2).alloc (.cells #[.int .i64 a, .int .i64 b] 23)
  have pX3 := At.new w3 23 (k := w3.heap.size) rfl (.int .i64 a) (.int .i64 b)
  clear pA2 hB2
  go_upto_region 4 with fail
  clear hb3
  generalize w3.heap.size = X at *
  generalize w3.alloc (.cells #[.int .i64 a, .int .i64 b] 23) = w4 at *
  clear w3
  have hB4 := hB3.drew
  go_cut [43] (fun s43 wx => s43 = .bool false ∧ Below w.heap.size w wx)
  case first =>
    have hU : undef = Value.tuple #[] := rfl
    have pA3 := pA3.drew
    have pX3 := pX3.drew
    have pA4 := pA3
    have pX4 := pX3
    obtain ⟨a1, a2, a3, a4⟩ := pA4
    obtain ⟨x1, x2, x3, x4⟩ := pX4
    first
    | go_region_with (first
        | (go_at_call 11; refine (RA _).mono ?_; rintro e wq ⟨rfl, hbq⟩; have hB4 := below_end hB4 hbq; have pA3 := At.below hbq pA3; have pX3 := At.below hbq pX3; have ta := pA3; have tx := pX3; obtain ⟨u1, u2, u3, u4⟩ := ta; obtain ⟨v1, v2, v3, v4⟩ := tx)
        | (go_at_call 12; refine (zero_any _).mono ?_; rintro e wq ⟨rfl, hbq⟩; have hB4 := below_end hB4 hbq; have pA3 := At.below hbq pA3; have pX3 := At.below hbq pX3; have ta := pA3; have tx := pX3; obtain ⟨u1, u2, u3, u4⟩ := ta; obtain ⟨v1, v2, v3, v4⟩ := tx))
    | fail "the region"
    all_goals
      go_wp2_with fail
      go_meet
      case rel => exact ⟨rfl, hB4⟩
  case rest =>
    obtain ⟨h43, hB5⟩ := hcut
    subst h43
    clear pA3 pX3 hB3 hB4
    go_wp2_with fail
    refine (RY _).mono ?_
    rintro e w6 ⟨rfl, hb6⟩
    have hB6 := below_end hB5 hb6
    clear hB5 hb6
    go_wp2
    go_ret
    exact ⟨rfl, by with_reducible repeat (first | exact Below.refl _ _ | refine below_drewN ?_ _ | refine Below.setCell ?_ (by first | (simp; done) | (simp; omega) | omega) _ | refine Below.drew ?_ | refine below_end ?_ (by assumption) | refine ball ?_ _)⟩

end Go.Proofs.YtfilmomndhlmbabDoor
