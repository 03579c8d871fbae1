/- able answers true. -/
import Derived.Test.YtfilmomndhlmbabDoorWalkD
namespace Go.Proofs.YtfilmomndhlmbabDoor
open Go.RowKit
set_option linter.unusedVariables false

set_option maxHeartbeats 400000 in
theorem rd3 (w : World) : Calls Tryd.prog 37 #[.string ⟨#[51]⟩] w fun e w' => e = .returned (.tuple #[.int .i64 3, .string ⟨#[]⟩, .bool true]) ∧ ∃ n, w' = w.drewN n := by
  go_enter Tryd.func37, Tryd.ntmps37
  go_wp2
  go_loop [2, 5, 6] (fun x y z => (x = .int .i64 0 ∧ y = .int .i64 0) ∨ (x = .int .i64 3 ∧ y = .int .i64 1)) (fun _ y _ => (1 - intOf y).toNat)
  case atStart => exact Or.inl ⟨rfl, rfl⟩
  case round =>
    rcases hrel with ⟨rfl, rfl⟩ | ⟨rfl, rfl⟩
    · go_wp2
      go_round
      case rel => exact Or.inr ⟨rfl, rfl⟩
      case measure => simp [intOf]
    · go_wp2
      go_quiet (fail)
      go_wp2
      go_ret3
      exact ⟨rfl, _, rfl⟩

set_option maxHeartbeats 400000 in
theorem rd13 (w : World) : Calls Tryd.prog 37 #[.string ⟨#[49, 47, 51]⟩] w fun e w' => e = .returned (.tuple #[.int .i64 1, .string ⟨#[47, 51]⟩, .bool true]) ∧ ∃ n, w' = w.drewN n := by
  go_enter Tryd.func37, Tryd.ntmps37
  go_wp2
  go_loop [2, 5, 6] (fun x y z => (x = .int .i64 0 ∧ y = .int .i64 0) ∨ (x = .int .i64 1 ∧ y = .int .i64 1)) (fun _ y _ => (1 - intOf y).toNat)
  case atStart => exact Or.inl ⟨rfl, rfl⟩
  case round =>
    rcases hrel with ⟨rfl, rfl⟩ | ⟨rfl, rfl⟩
    · go_wp2
      go_round
      case rel => exact Or.inr ⟨rfl, rfl⟩
      case measure => simp [intOf]
    · go_wp2
      go_quiet (fail)
      go_wp2
      go_ret3
      exact ⟨rfl, _, rfl⟩


set_option maxHeartbeats 400000 in
theorem rf13 (w : World) : Calls Tryd.prog 24 #[.string ⟨#[49, 47, 51]⟩] w fun e w' => e = .returned (.tuple #[.int .i64 1, .int .i64 3, .bool true]) ∧ ∃ n, w' = w.drewN n := by
  go_enter Tryd.func24, Tryd.ntmps24
  go_wp2_with fail
  refine (rd13 _).mono ?_
  rintro e w1 ⟨rfl, n1, rfl⟩
  go_wp2_with fail
  refine (rd3 _).mono ?_
  rintro e w2 ⟨rfl, n2, rfl⟩
  go_wp2
  go_ret3
  exact ⟨rfl, _, rfl⟩

theorem third : Wnum.oN (some (Rat.divInt 1 3)) = 1 ∧ Wnum.oD (some (Rat.divInt 1 3)) = 3 ∧ Wnum.oB (some (Rat.divInt 1 3)) = true := by decide +kernel

theorem cut13 (w : World) : Calls Tryd.prog 23 #[.string ⟨#[49, 47, 51]⟩, .string ⟨#[45]⟩] w fun e w' => e = .returned (.tuple #[.string ⟨#[49, 47, 51]⟩, .bool false]) ∧ w = w' := by
  have hx : ((ByteArray.extract ⟨#[49, 47, 51]⟩ 0 1).toList == [45]) = false := by decide +kernel
  go_enter Tryd.func23, Tryd.ntmps23
  go_wp2
  go_ret2
  exact ⟨rfl, rfl⟩

set_option maxHeartbeats 400000 in
theorem read13 (w : World) : Calls Tryd.prog 9 #[.string ⟨#[49, 47, 51]⟩] w fun e w' => e = .returned (.tuple #[.agg #[.int .i64 1, .int .i64 3], .bool true]) ∧ Below w.heap.size w w' := by
  have t1 : Hid (Wnum.oN (some (Rat.divInt 1 3)) = 1) := third.1
  have t2 : Hid (Wnum.oD (some (Rat.divInt 1 3)) = 3) := third.2.1
  have t3 : Hid (Wnum.oB (some (Rat.divInt 1 3)) = true) := third.2.2
  go_enter Tryd.func9, Tryd.ntmps9
  go_wp2_with fail
  refine (cut13 _).mono ?_
  rintro e w1 ⟨rfl, rfl⟩
  go_wp2_with fail
  refine (rf13 _).mono ?_
  rintro e w1 ⟨rfl, n1, rfl⟩
  go_wp2_with fail
  refine (make_pos _ _ _ (by omega) (by omega) (by omega) (by omega)).mono ?_
  rintro e w1 ⟨rfl, hb⟩
  rw [t1.out, t2.out, t3.out]
  obtain ⟨hc, hf⟩ := bcell hb
  have hz := bsz (k := w.heap.size) hb (by simp)
  go_wp2
  refine bodyPost_ret (v := .tuple #[.agg #[.int .i64 1, .int .i64 3], .bool true]) (by simp [results, Tryd.results9, go_sem, hc]) rfl ⟨rfl, ?_⟩
  exact (by with_reducible repeat (first | exact Below.refl _ _ | refine below_drewN ?_ _ | refine Below.setCell ?_ (by first | (simp; done) | (simp; omega) | omega) _ | refine Below.drew ?_ | refine below_end ?_ (by assumption) | refine ball ?_ _))

theorem itoa1 (w : World) : Calls Tryd.prog 17 #[.int .i64 1] w fun e w' => e = .returned (.string ⟨#[49]⟩) ∧ w' = w := by
  go_enter Tryd.func17, Tryd.ntmps17
  go_wp2
  go_ret
  exact ⟨rfl, rfl⟩
theorem itoa3 (w : World) : Calls Tryd.prog 17 #[.int .i64 3] w fun e w' => e = .returned (.string ⟨#[51]⟩) ∧ w' = w := by
  go_enter Tryd.func17, Tryd.ntmps17
  go_wp2
  go_ret
  exact ⟨rfl, rfl⟩

theorem c13 : Wnum.cN 1 3 = 1 ∧ Wnum.cD 1 3 = 3 := by decide +kernel

set_option maxHeartbeats 400000 in
theorem text13 (w : World) : Calls Tryd.prog 7 #[.agg #[.int .i64 1, .int .i64 3]] w fun e w' => e = .returned (.string ⟨#[49, 47, 51]⟩) ∧ Below w.heap.size w w' := by
  have t1 : Hid (Wnum.cN 1 3 = 1) := c13.1
  have t2 : Hid (Wnum.cD 1 3 = 3) := c13.2
  go_enter Tryd.func7, Tryd.ntmps7
  go_wp2_with fail
  refine (counted_any _ _ _ (by omega) (by omega) (by omega) (by omega)).mono ?_
  rintro e w1 ⟨rfl, hb⟩
  rw [t1.out, t2.out]
  obtain ⟨hc, hf⟩ := bcell hb
  have hz := bsz (k := w.heap.size) hb (by simp)
  go_wp2
  have q0 : ((w1.setCell ⟨w.heap.size, 0, none⟩ (.int .i64 1)).setCell ⟨w.heap.size, 1, none⟩ (.int .i64 3)).cell? ⟨w.heap.size, 0, none⟩ = some (.int .i64 1) := by simp [go_sem, hc]
  have q1 : ((w1.setCell ⟨w.heap.size, 0, none⟩ (.int .i64 1)).setCell ⟨w.heap.size, 1, none⟩ (.int .i64 3)).cell? ⟨w.heap.size, 1, none⟩ = some (.int .i64 3) := by simp [go_sem, hc]
  have hB : Below w.heap.size w ((w1.setCell ⟨w.heap.size, 0, none⟩ (.int .i64 1)).setCell ⟨w.heap.size, 1, none⟩ (.int .i64 3)) := by with_reducible repeat (first | exact Below.refl _ _ | refine below_drewN ?_ _ | refine Below.setCell ?_ (by first | (simp; done) | (simp; omega) | omega) _ | refine Below.drew ?_ | refine below_end ?_ (by assumption) | refine ball ?_ _)
  generalize (w1.setCell ⟨w.heap.size, 0, none⟩ (.int .i64 1)).setCell ⟨w.heap.size, 1, none⟩ (.int .i64 3) = W2 at *
  clear hc hf hz hb
  go_quiet (first | (go_at_call_of 17 (Value.int IntKind.i64 1); exact Calls.quiet_of_same (itoa1 _)) | (go_at_call_of 17 (Value.int IntKind.i64 3); exact Calls.quiet_of_same (itoa3 _)))
  go_wp2
  go_ret
  exact ⟨rfl, below_drewN hB _⟩

theorem half : Wnum.oN (some (Wnum.qu 1 2 + Wnum.qu 1 2)) = 1 ∧ Wnum.oD (some (Wnum.qu 1 2 + Wnum.qu 1 2)) = 1 ∧ Wnum.oB (some (Wnum.qu 1 2 + Wnum.qu 1 2)) = true := by decide +kernel
theorem right13 : Wnum.rightB 1 3 = true := by decide +kernel
theorem cmp13 : (Wnum.cN 1 3 * Wnum.cD 1 1 - Wnum.cN 1 1 * Wnum.cD 1 3).sign = -1 := by decide +kernel

set_option maxHeartbeats 400000 in
theorem able_any (w : World) : Calls Tryd.prog 6 #[] w fun e w' => e = .returned (.bool true) ∧ Below w.heap.size w w' := by
  have t1 : Hid (Wnum.oN (some (Wnum.qu 1 2 + Wnum.qu 1 2)) = 1) := half.1
  have t2 : Hid (Wnum.oD (some (Wnum.qu 1 2 + Wnum.qu 1 2)) = 1) := half.2.1
  have t3 : Hid (Wnum.oB (some (Wnum.qu 1 2 + Wnum.qu 1 2)) = true) := half.2.2
  have t4 : Hid (Wnum.rightB 1 3 = true) := right13
  have t5 : Hid ((Wnum.cN 1 3 * Wnum.cD 1 1 - Wnum.cN 1 1 * Wnum.cD 1 3).sign = -1) := cmp13
  go_enter Tryd.func6, Tryd.ntmps6
  go_wp2_with fail
  refine (add_any _ _ _ _ _ (by omega) (by omega) (by omega) (by omega) (by omega) (by omega) (by omega) (by omega)).mono ?_
  rintro e w1 ⟨rfl, hb1⟩
  rw [t1.out, t2.out, t3.out]
  go_wp2_with fail
  refine (read13 _).mono ?_
  rintro e w2 ⟨rfl, hb2⟩
  obtain ⟨hc2, hf2⟩ := bcell hb2
  have hz2 := bsz (k := w1.heap.size) hb2 (by simp)
  go_wp2_with fail
  refine (text13 _).mono ?_
  rintro e w3 ⟨rfl, hb3⟩
  obtain ⟨hc3, hf3⟩ := bcell hb3
  have hz3 := bsz (k := w2.heap.size) hb3 (by simp)
  go_wp2_with fail
  refine (right_any 1 3 _ (by omega) (by omega) (by omega) (by omega)).mono ?_
  rintro e w4 ⟨rfl, hb4⟩
  rw [t4.out]
  obtain ⟨hc4, hf4⟩ := bcell hb4
  have hy2 : w1.heap.size < w2.heap.size + 1 := by omega
  have hy3 : w1.heap.size < w3.heap.size := by omega
  go_wp2_with fail
  refine (cmp_any 1 3 1 1 _ (by omega) (by omega) (by omega) (by omega) (by omega) (by omega) (by omega) (by omega)).mono ?_
  rintro e w5 ⟨rfl, hb5⟩
  rw [t5.out]
  go_wp2
  go_ret
  exact ⟨rfl, by with_reducible repeat (first | exact Below.refl _ _ | refine below_drewN ?_ _ | refine Below.setCell ?_ (by first | (simp; done) | (simp; omega) | omega) _ | refine Below.drew ?_ | refine below_end ?_ (by assumption) | refine ball ?_ _)⟩
end Go.Proofs.YtfilmomndhlmbabDoor
