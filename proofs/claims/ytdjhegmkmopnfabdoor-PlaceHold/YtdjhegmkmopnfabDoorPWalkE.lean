/- The contracts of Read and Name at B3. -/
import Derived.Test.YtdjhegmkmopnfabDoorPWalkA
namespace Go.Proofs.YtdjhegmkmopnfabDoor
open Go.RowKit
set_option linter.unusedVariables false

theorem cutB3 : ByteArray.extract ⟨#[66, 51]⟩ 1 2 = ⟨#[51]⟩ := by decide +kernel
theorem cut3 : ByteArray.extract ⟨#[51]⟩ 1 1 = ⟨#[]⟩ := by decide +kernel

set_option maxHeartbeats 400000 in
theorem readCol3 (w : World) : Calls Tryd.prog 26 #[.string ⟨#[66, 51]⟩] w fun e w' => e = .returned (.tuple #[.int .i64 2, .string ⟨#[51]⟩]) ∧ Below w.heap.size w w' := by
  have hx := cutB3
  have eb : (((⟨#[66, 51]⟩ : ByteArray)[0].toNat : Nat) : Int) = 66 := by decide +kernel
  have ec : (((⟨#[51]⟩ : ByteArray)[0].toNat : Nat) : Int) = 51 := by decide +kernel
  go_enter Tryd.func26, Tryd.ntmps26
  go_wp2
  go_loopw [0, 2] (fun x y wr => (x = .string ⟨#[66, 51]⟩ ∧ y = .int .i64 0 ∨ x = .string ⟨#[51]⟩ ∧ y = .int .i64 2) ∧ wr = w) (fun _ y _ => (2 - intOf y).toNat)
  case atStart => exact ⟨Or.inl ⟨rfl, rfl⟩, rfl⟩
  case round =>
    obtain ⟨⟨rfl, rfl⟩ | ⟨rfl, rfl⟩, rfl⟩ := hrel
    · go_wp2
      go_roundw
      case rel => first | exact ⟨Or.inr ⟨rfl, rfl⟩, rfl⟩ | exact ⟨Or.inr ⟨rfl, rfl⟩, trivial⟩ | exact ⟨_, _, _, _, _, _, _, _, _, _, _, _, _, ⟨Or.inr ⟨rfl, rfl⟩, trivial⟩, rfl⟩
      case measure => simp [intOf]
    · go_wp2
      go_ret2
      exact ⟨rfl, Below.refl _ _⟩

set_option maxHeartbeats 400000 in
theorem readRow3 (w : World) : Calls Tryd.prog 27 #[.string ⟨#[51]⟩] w fun e w' => e = .returned (.tuple #[.int .i64 3, .string ⟨#[]⟩]) ∧ Below w.heap.size w w' := by
  have hp : ((ByteArray.extract ⟨#[51]⟩ 0 1).toList == [48]) = false := by decide +kernel
  have hx := cut3
  have ec : (((⟨#[51]⟩ : ByteArray)[0].toNat : Nat) : Int) = 51 := by decide +kernel
  go_enter Tryd.func27, Tryd.ntmps27
  go_wp2
  go_loopw [0, 2] (fun x y wr => (x = .string ⟨#[51]⟩ ∧ y = .int .i64 0 ∨ x = .string ⟨#[]⟩ ∧ y = .int .i64 3) ∧ wr = w) (fun _ y _ => (2 - intOf y).toNat)
  case atStart => exact ⟨Or.inl ⟨rfl, rfl⟩, rfl⟩
  case round =>
    obtain ⟨⟨rfl, rfl⟩ | ⟨rfl, rfl⟩, rfl⟩ := hrel
    · go_wp2
      go_roundw
      case rel => first | exact ⟨Or.inr ⟨rfl, rfl⟩, rfl⟩ | exact ⟨Or.inr ⟨rfl, rfl⟩, trivial⟩ | exact ⟨_, _, _, _, _, _, _, _, _, _, _, _, _, ⟨Or.inr ⟨rfl, rfl⟩, trivial⟩, rfl⟩
      case measure => simp [intOf]
    · go_wp2
      go_ret2
      exact ⟨rfl, Below.refl _ _⟩

theorem x3_itoa3 (w : World) : Calls Tryd.prog 28 #[.int .i64 3] w fun e w' => e = .returned (.string ⟨#[51]⟩) ∧ w' = w := by
  go_enter Tryd.func28, Tryd.ntmps28
  go_wp2
  go_ret
  exact ⟨rfl, rfl⟩

set_option maxHeartbeats 400000 in
theorem col1 (w : World) : Calls Tryd.prog 13 #[.int .i64 1] w fun e w' => e = .returned (.string ⟨#[66]⟩) ∧ Below w.heap.size w w' := by
  have eb : (((⟨#[65, 66, 67, 68, 69, 70, 71, 72, 73, 74, 75, 76, 77, 78, 79, 80, 81, 82, 83, 84, 85, 86, 87, 88, 89, 90]⟩ : ByteArray)[1].toNat : Nat) : Int) = 66 := by decide +kernel
  have hu : Utf8.encode 66 ++ ⟨#[]⟩ = ⟨#[66]⟩ := by decide +kernel
  go_enter Tryd.func13, Tryd.ntmps13
  go_wp2
  go_loopw [0, 3] (fun x y wr => (x = .int .i64 1 ∧ y = .string ⟨#[]⟩ ∨ x = .int .i64 (-1) ∧ y = .string ⟨#[66]⟩) ∧ wr = w) (fun x _ _ => (intOf x + 1).toNat)
  case atStart => exact ⟨Or.inl ⟨rfl, rfl⟩, rfl⟩
  case round =>
    obtain ⟨⟨rfl, rfl⟩ | ⟨rfl, rfl⟩, rfl⟩ := hrel
    · go_wp2
      go_roundw
      case rel => first | exact ⟨Or.inr ⟨rfl, rfl⟩, rfl⟩ | exact ⟨Or.inr ⟨rfl, rfl⟩, trivial⟩ | exact ⟨_, _, _, _, _, _, _, _, _, _, _, _, _, ⟨Or.inr ⟨rfl, rfl⟩, trivial⟩, rfl⟩
      case measure => simp [intOf]
    · go_wp2
      go_ret
      exact ⟨rfl, Below.refl _ _⟩

set_option maxHeartbeats 400000 in
theorem readB3 (w : World) : Calls Tryd.prog 11 #[.string ⟨#[66, 51]⟩] w fun e w' => e = .returned (.tuple #[.int .i64 2, .int .i64 1, .bool true]) ∧ Below w.heap.size w w' := by
  have R := fun w => x3_right_any 0 2 1 w
  rw [show Wpl.rightC 0 2 1 = true by decide +kernel] at R
  go_enter Tryd.func11, Tryd.ntmps11
  go_wp2_with fail
  refine (readCol3 _).mono ?_
  rintro e w1 ⟨rfl, hb1⟩
  go_wp2_with fail
  refine (readRow3 _).mono ?_
  rintro e w2 ⟨rfl, hb2⟩
  go_wp2_with fail
  refine (R _).mono ?_
  rintro e w3 ⟨rfl, hb3⟩
  have hB : Below w.heap.size w w2 := by with_reducible repeat (first | exact Below.refl _ _ | refine x3_below_drewN ?_ _ | refine Below.setCell ?_ (by first | (simp; done) | (simp; omega) | omega) _ | refine Below.drew ?_ | refine x3_below_end ?_ (by assumption) | refine x3_ball ?_ _)
  have pC : AtL w3 w2.heap.size [.int .i64 0, .int .i64 2, .int .i64 1] := AtL.below hb3 (AtL.new0 w2 23 _)
  have hB3 : Below w.heap.size w w3 := x3_below_end (x3_ball hB _) hb3
  obtain ⟨c0, c1, c2, _, _, _⟩ := pC.three
  go_wp2_with fail
  go_region
  all_goals
    go_wp2
    go_ret3
    exact ⟨rfl, by with_reducible repeat (first | exact Below.refl _ _ | refine x3_below_drewN ?_ _ | refine Below.setCell ?_ (by first | (simp; done) | (simp; omega) | omega) _ | refine Below.drew ?_ | refine x3_below_end ?_ (by assumption) | refine x3_ball ?_ _)⟩

set_option maxHeartbeats 400000 in
theorem nameB3 (w : World) : Calls Tryd.prog 12 #[.agg #[.int .i64 0, .int .i64 2, .int .i64 1]] w fun e w' => e = .returned (.string ⟨#[66, 51]⟩) ∧ Below w.heap.size w w' := by
  have R := fun w => x3_right_any 0 2 1 w
  rw [show Wpl.rightC 0 2 1 = true by decide +kernel] at R
  go_enter Tryd.func12, Tryd.ntmps12
  go_wp2_with fail
  refine (R _).mono ?_
  rintro e w3 ⟨rfl, hb3⟩
  have pC : AtL w3 w.heap.size [.int .i64 0, .int .i64 2, .int .i64 1] := AtL.below hb3 (AtL.new0 w 23 _)
  obtain ⟨c0, c1, c2, _, _, _⟩ := pC.three
  have hB : Below w.heap.size w w3 := by with_reducible repeat (first | exact Below.refl _ _ | refine x3_below_drewN ?_ _ | refine Below.setCell ?_ (by first | (simp; done) | (simp; omega) | omega) _ | refine Below.drew ?_ | refine x3_below_end ?_ (by assumption) | refine x3_ball ?_ _)
  clear hb3
  go_wp2_with fail
  go_region_held3 (fun W => W.cell? ⟨w.heap.size, 0, none⟩ = some (.int .i64 0) ∧ W.cell? ⟨w.heap.size, 1, none⟩ = some (.int .i64 2) ∧ W.cell? ⟨w.heap.size, 2, none⟩ = some (.int .i64 1))
    (with_reducible first | exact ⟨c0, c1, c2⟩ | assumption | exact three_drew ⟨c0, c1, c2⟩ | exact three_below hb4 (by assumption))
    (first
    | (go_at_call 13; refine (col1 _).mono ?_; rintro e w4 ⟨rfl, hb4⟩)
    | (go_at_call 28; refine (x3_itoa3 _).mono ?_; rintro e w5 ⟨rfl, rfl⟩))
  all_goals
    go_wp2
    go_ret
    exact ⟨rfl, by with_reducible repeat (first | exact Below.refl _ _ | refine x3_below_drewN ?_ _ | refine Below.setCell ?_ (by first | (simp; done) | (simp; omega) | omega) _ | refine Below.drew ?_ | refine x3_below_end ?_ (by assumption) | refine x3_ball ?_ _)⟩
end Go.Proofs.YtdjhegmkmopnfabDoor
