/- The contracts of NameArea and of the document's own. -/
import Derived.Test.YtdjhegmkmopnfabDoorNWalkC
namespace Go.Proofs.YtdjhegmkmopnfabDoor
open Go.RowKit
set_option linter.unusedVariables false

theorem app_three (x y : List UInt8) : ((⟨x.toArray⟩ : ByteArray) ++ ⟨#[58]⟩ ++ (⟨y.toArray⟩ : ByteArray)) = ⟨(x ++ (58 :: y)).toArray⟩ := by
  rw [show (⟨#[58]⟩ : ByteArray) = ⟨[58].toArray⟩ from rfl, x3_app_mk, x3_app_mk, List.append_assoc]
  rfl

set_option maxRecDepth 100000 in
set_option maxHeartbeats 1600000 in
theorem nameArea_any (s t l b r : Int) (w : World) (htab : Lib.TabIs Tryd.prog w "internal/strconv.uint64pow10" .u64 Lib.pow10Tab) :
    Calls Tryd.prog 15 #[.agg #[.int .i64 s, .int .i64 t, .int .i64 l, .int .i64 b, .int .i64 r]] w fun e w' => e = .returned (.string ⟨(Wpl.nameA s t l b r).toArray⟩) ∧ Below w.heap.size w w' := by
  have R := fun w => rightArea_any s t l b r w
  have TB := Lib.tabBelow_of_tabIs htab
  clear htab
  cases h : Wpl.rightA s t l b r with
  | false =>
    have E : Hid (Wpl.nameA s t l b r = []) := by show _ = _; unfold Wpl.nameA; rw [h]; rfl
    rw [h] at R; clear h
    go_enter Tryd.func15, Tryd.ntmps15
    go_wp2_with fail
    refine (R _).mono ?_
    rintro e w1 ⟨rfl, hb1⟩
    go_wp2
    go_ret
    exact ⟨by rw [E.out]; rfl, by with_reducible repeat (first | exact Below.refl _ _ | refine x3_below_drewN ?_ _ | refine Below.setCell ?_ (by first | (simp; done) | (simp; omega) | omega) _ | refine Below.drew ?_ | refine x3_below_end ?_ (by assumption) | refine x3_ball ?_ _)⟩
  | true =>
    have hh := Wpl.rightA_iff.1 h
    have l1 := Wpl.txtC_len (c := l) (show 0 ≤ t by omega) (by omega)
    have l2 := Wpl.txtC_len (c := r) (show 0 ≤ b by omega) (by omega)
    have E : Hid (Wpl.nameA s t l b r = Wpl.txtC t l ++ (58 :: Wpl.txtC b r)) := by show _ = _; unfold Wpl.nameA; rw [h]; rfl
    have r1 : Wpl.rightC s t l = true := Wpl.rightC_iff.2 (by omega)
    have r2 : Wpl.rightC s b r = true := Wpl.rightC_iff.2 (by omega)
    have NA := fun w ht => name_any s t l w ht
    have NB := fun w ht => name_any s b r w ht
    rw [Wpl.nameS_pos r1] at NA
    rw [Wpl.nameS_pos r2] at NB
    have FF := fun w => first_any s t l b r w
    have GG := fun w => last_any s t l b r w
    clear r1 r2
    rw [h] at R; clear h
    generalize Wpl.txtC t l = x at *
    generalize Wpl.txtC b r = y at *
    have lx : ¬ 9223372036854775807 < x.length + 1 := by omega
    have ly : ¬ 9223372036854775807 < x.length + 1 + y.length := by omega
    go_enter Tryd.func15, Tryd.ntmps15
    go_wp2_with fail
    refine (R _).mono ?_
    rintro e w1 ⟨rfl, hb1⟩
    have pA : AtL w1 w.heap.size [.int .i64 s, .int .i64 t, .int .i64 l, .int .i64 b, .int .i64 r] := AtL.below hb1 (AtL.new0 w 25 _)
    have hB : Below w.heap.size w w1 := by with_reducible repeat (first | exact Below.refl _ _ | refine x3_below_drewN ?_ _ | refine Below.setCell ?_ (by first | (simp; done) | (simp; omega) | omega) _ | refine Below.drew ?_ | refine x3_below_end ?_ (by assumption) | refine x3_ball ?_ _)
    clear hb1
    have hS : Five w1 w.heap.size (.int .i64 s) (.int .i64 t) (.int .i64 l) (.int .i64 b) (.int .i64 r) := pA.f5
    clear pA
    go_wp2_with fail
    go_region_held3 (fun W => W.cell? ⟨w.heap.size, 0, none⟩ = some (.int .i64 s) ∧ W.cell? ⟨w.heap.size, 1, none⟩ = some (.int .i64 t) ∧ W.cell? ⟨w.heap.size, 2, none⟩ = some (.int .i64 l) ∧ W.cell? ⟨w.heap.size, 3, none⟩ = some (.int .i64 b) ∧ W.cell? ⟨w.heap.size, 4, none⟩ = some (.int .i64 r))
      (with_reducible first | exact hS | assumption | exact five_drew hS | exact five_below hb (by assumption))
      (first
      | (go_at_call 29; refine (FF _).mono ?_; rintro e w4 ⟨rfl, hb⟩; (with_reducible first | replace hB := x3_below_end hB.drew hb | replace hB := x3_below_end hB hb))
      | (go_at_call 30; refine (GG _).mono ?_; rintro e w4 ⟨rfl, hb⟩; (with_reducible first | replace hB := x3_below_end hB.drew hb | replace hB := x3_below_end hB hb))
      | (go_at_call_of 12 t; refine (NA _ ((TB.on (by with_reducible first | exact hB | exact hB.drew)).here)).mono ?_; rintro e w4 ⟨rfl, hb⟩; (with_reducible first | replace hB := x3_below_end hB.drew hb | replace hB := x3_below_end hB hb))
      | (go_at_call_of 12 b; refine (NB _ ((TB.on (by with_reducible first | exact hB | exact hB.drew)).here)).mono ?_; rintro e w4 ⟨rfl, hb⟩; (with_reducible first | replace hB := x3_below_end hB.drew hb | replace hB := x3_below_end hB hb)))
    all_goals
      go_wp2
      go_ret
      refine ⟨?_, hB⟩
      rw [E.out]
      exact congrArg (fun x => Ending.returned (Value.string x)) (app_three x y)

end Go.Proofs.YtdjhegmkmopnfabDoor