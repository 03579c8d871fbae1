/- The contracts of Name, NameArea and of the document's own. -/
import Derived.Test.YtdjhegmkmopnfabDoorNWalkB
import Derived.Test.YtdjhegmkmopnfabDoorNWalkI
import Derived.Test.YtdjhegmkmopnfabDoorPWalkN
import Derived.Test.YtdjhegmkmopnfabDoorPWalkS
namespace Go.Proofs.YtdjhegmkmopnfabDoor
open Go.RowKit
set_option linter.unusedVariables false

theorem x3_itoa_nat {n : Int} (h : 0 ≤ n) : Lib.itoa n = Lib.decDigits n.toNat := by unfold Lib.itoa; rw [if_neg (by omega)]

set_option maxRecDepth 100000 in
set_option maxHeartbeats 1600000 in
theorem name_any (s r c : Int) (w : World) (htab : Lib.TabIs Tryd.prog w "internal/strconv.uint64pow10" .u64 Lib.pow10Tab) :
    Calls Tryd.prog 12 #[.agg #[.int .i64 s, .int .i64 r, .int .i64 c]] w fun e w' => e = .returned (.string ⟨(Wpl.nameS s r c).toArray⟩) ∧ Below w.heap.size w w' := by
  have R := fun w => x3_right_any s r c w
  have TB := Lib.tabBelow_of_tabIs htab
  clear htab
  cases h : Wpl.rightC s r c with
  | false =>
    have E : Hid (Wpl.nameS s r c = []) := Wpl.nameS_neg h
    rw [h] at R; clear h
    go_enter Tryd.func12, Tryd.ntmps12
    go_wp2_with fail
    refine (R _).mono ?_
    rintro e w1 ⟨rfl, hb1⟩
    go_wp2
    go_ret
    exact ⟨by rw [E.out]; rfl, by with_reducible repeat (first | exact Below.refl _ _ | refine x3_below_drewN ?_ _ | refine Below.setCell ?_ (by first | (simp; done) | (simp; omega) | omega) _ | refine Below.drew ?_ | refine x3_below_end ?_ (by assumption) | refine x3_ball ?_ _)⟩
  | true =>
    have hh := Wpl.rightC_iff.1 h
    have l1 := Wpl.colS_len c
    have l2 := Wpl.dd_len (r + 1).toNat (by omega)
    have E : Hid (Wpl.nameS s r c = Wpl.colS c ++ Lib.decDigits (r + 1).toNat) := Wpl.nameS_pos h
    have CC := fun w => col_any c w
    have II := fun w ht => x3_itoa_any (r + 1) w (by omega) (by omega) ht
    rw [x3_itoa_nat (show 0 ≤ r + 1 by omega)] at II
    rw [h] at R; clear h
    generalize Wpl.colS c = x at *
    generalize Lib.decDigits (r + 1).toNat = y at *
    have hw : IntKind.i64.wrap (r + 1) = r + 1 := IntWalk.i64_in _ (by omega)
    have lx : ¬ 9223372036854775807 < x.length + y.length := by omega
    go_enter Tryd.func12, Tryd.ntmps12
    go_wp2_with fail
    refine (R _).mono ?_
    rintro e w1 ⟨rfl, hb1⟩
    have pC : AtL w1 w.heap.size [.int .i64 s, .int .i64 r, .int .i64 c] := AtL.below hb1 (AtL.new0 w 23 _)
    have hB : Below w.heap.size w w1 := by with_reducible repeat (first | exact Below.refl _ _ | refine x3_below_drewN ?_ _ | refine Below.setCell ?_ (by first | (simp; done) | (simp; omega) | omega) _ | refine Below.drew ?_ | refine x3_below_end ?_ (by assumption) | refine x3_ball ?_ _)
    clear hb1
    have hS : Three w1 w.heap.size (.int .i64 s) (.int .i64 r) (.int .i64 c) := pC.f3
    clear pC
    go_wp2_with fail
    go_region_held3 (fun W => W.cell? ⟨w.heap.size, 0, none⟩ = some (.int .i64 s) ∧ W.cell? ⟨w.heap.size, 1, none⟩ = some (.int .i64 r) ∧ W.cell? ⟨w.heap.size, 2, none⟩ = some (.int .i64 c))
      (with_reducible first | exact hS | assumption | exact three_drew hS | exact three_below hb (by assumption))
      (first
      | (go_at_call 13; refine (CC _).mono ?_; rintro e w4 ⟨rfl, hb⟩; (with_reducible first | replace hB := x3_below_end hB.drew hb | replace hB := x3_below_end hB hb))
      | (go_at_call 28; refine (II _ ((TB.on (by with_reducible first | exact hB | exact hB.drew)).here)).mono ?_; rintro e w4 ⟨rfl, hb⟩; (with_reducible first | replace hB := x3_below_end hB.drew hb | replace hB := x3_below_end hB hb)))
    all_goals
      go_wp2
      go_ret
      refine ⟨?_, hB⟩
      rw [E.out]
      exact congrArg (fun x => Ending.returned (Value.string x)) (x3_app_mk x y)

end Go.Proofs.YtdjhegmkmopnfabDoor