/- The contracts of Right, counted, alike. -/
import Derived.Test.YtfilmomndhlmbabDoorWalkA
import Derived.Deep.DeepCutAuto
import Derived.Deep.Light
namespace Go.Proofs.YtfilmomndhlmbabDoor
open Go.RowKit
set_option linter.unusedVariables false

theorem below_drewN {B : Nat} {a w : World} (h : Below B a w) (n : Nat) : Below B a (w.drewN n) := ⟨h.os, h.tape, h.output, h.size, h.block⟩
theorem bcell {W w1 : World} (hb : Below W.heap.size W w1) : (∀ b o, b < W.heap.size → w1.cell? ⟨b, o, none⟩ = W.cell? ⟨b, o, none⟩) ∧ (∀ b o, b < W.heap.size → w1.frozen? ⟨b, o, none⟩ = W.frozen? ⟨b, o, none⟩) :=
  ⟨fun b o h => hb.cell (p := ⟨b, o, none⟩) h, fun b o h => hb.frozen (p := ⟨b, o, none⟩) h⟩

theorem below_end {w W w1 : World} (h0 : Below w.heap.size w W) (hb : Below W.heap.size W w1) : Below w.heap.size w w1 := h0.trans (hb.mono h0.size)
theorem ball {w W : World} (h : Below w.heap.size w W) (o : Obj) : Below w.heap.size w (W.alloc o) := h.alloc h.size o
theorem bsz {W w1 : World} {k : Nat} (hb : Below W.heap.size W w1) (h : k < W.heap.size) : k < w1.heap.size := Nat.lt_of_lt_of_le h hb.size
theorem ret_bool {a b : Bool} (h : a = b) : Ending.returned (.bool a) = .returned (.bool b) := by rw [h]

theorem right_any (n d : Int) (w : World) (h1 : -9223372036854775808 ≤ n) (h2 : n ≤ 9223372036854775807) (h3 : -9223372036854775808 ≤ d) (h4 : d ≤ 9223372036854775807) :
    Calls Tryd.prog 14 #[.agg #[.int .i64 n, .int .i64 d]] w fun e w' => e = .returned (.bool (Wnum.rightB n d)) ∧ Below w.heap.size w w' := by
  by_cases c1 : n < -1000000000000
  · have e : Hid (Wnum.rightB n d = false) := by show Wnum.rightB n d = false; unfold Wnum.rightB; rw [decide_eq_false_iff_not]; omega
    rw [e.out]; clear e
    go_enter Tryd.func14, Tryd.ntmps14
    go_wp2
    go_ret
    exact ⟨rfl, (Below.refl _ _).alloc (Nat.le_refl _) _⟩
  by_cases c2 : 1000000000000 < n
  · have e : Hid (Wnum.rightB n d = false) := by show Wnum.rightB n d = false; unfold Wnum.rightB; rw [decide_eq_false_iff_not]; omega
    rw [e.out]; clear e
    go_enter Tryd.func14, Tryd.ntmps14
    go_wp2
    go_ret
    exact ⟨rfl, (Below.refl _ _).alloc (Nat.le_refl _) _⟩
  by_cases c3 : d < 1
  · have e : Hid (Wnum.rightB n d = false) := by show Wnum.rightB n d = false; unfold Wnum.rightB; rw [decide_eq_false_iff_not]; omega
    rw [e.out]; clear e
    go_enter Tryd.func14, Tryd.ntmps14
    go_wp2
    go_ret
    exact ⟨rfl, (Below.refl _ _).alloc (Nat.le_refl _) _⟩
  by_cases c4 : 1000000 < d
  · have e : Hid (Wnum.rightB n d = false) := by show Wnum.rightB n d = false; unfold Wnum.rightB; rw [decide_eq_false_iff_not]; omega
    rw [e.out]; clear e
    go_enter Tryd.func14, Tryd.ntmps14
    go_wp2
    go_ret
    exact ⟨rfl, (Below.refl _ _).alloc (Nat.le_refl _) _⟩
  have e : Hid ((((Int.gcd n d : Nat) : Int) == 1) = Wnum.rightB n d) := by
    show _ = _
    unfold Wnum.rightB
    by_cases g : Int.gcd n d = 1
    · rw [g, decide_eq_true (by omega)]; rfl
    · rw [decide_eq_false (by omega), beq_eq_false_iff_ne]; omega
  rw [← e.out]; clear e
  go_enter Tryd.func14, Tryd.ntmps14
  go_wp2_with (go_at_call 30; refine (divisor_any _ _ _ (by omega) (by omega) (by omega) (by omega)).mono ?_; rintro e w' ⟨rfl, nq, rfl⟩)
  go_ret
  exact ⟨rfl, below_drewN ((Below.refl _ _).alloc (Nat.le_refl _) _) _⟩

theorem counted_any (n d : Int) (w : World) (h1 : -9223372036854775808 ≤ n) (h2 : n ≤ 9223372036854775807) (h3 : -9223372036854775808 ≤ d) (h4 : d ≤ 9223372036854775807) :
    Calls Tryd.prog 16 #[.agg #[.int .i64 n, .int .i64 d]] w fun e w' => e = .returned (.agg #[.int .i64 (Wnum.cN n d), .int .i64 (Wnum.cD n d)]) ∧ Below w.heap.size w w' := by
  cases hr : Wnum.rightB n d with
  | true =>
    have e1 : Wnum.cN n d = n := by unfold Wnum.cN; rw [if_pos hr]
    have e2 : Wnum.cD n d = d := by unfold Wnum.cD; rw [if_pos hr]
    rw [e1, e2]; clear e1 e2
    have H : Hid (Wnum.rightB n d = true) := hr
    clear hr
    go_enter Tryd.func16, Tryd.ntmps16
    go_wp2_with (go_at_call 14; refine (right_any _ _ _ h1 h2 h3 h4).mono ?_; rintro e w1 ⟨rfl, hb⟩; rw [H.out]; obtain ⟨hc, hf⟩ := bcell hb; have hz : w.heap.size + 1 < w1.heap.size := by have := hb.size; simp at this; omega)
    refine bodyPost_ret (v := .agg #[.int .i64 n, .int .i64 d]) (by simp [results, Tryd.results16, go_sem, hc]) rfl ⟨rfl, ?_⟩
    exact ((below_end (((Below.refl _ _).alloc (Nat.le_refl _) _).alloc (by simp) _) hb).setCell (by simp) _).setCell (by simp) _
  | false =>
    have e1 : Wnum.cN n d = 0 := by unfold Wnum.cN; rw [hr]; rfl
    have e2 : Wnum.cD n d = 1 := by unfold Wnum.cD; rw [hr]; rfl
    rw [e1, e2]; clear e1 e2
    have H : Hid (Wnum.rightB n d = false) := hr
    clear hr
    go_enter Tryd.func16, Tryd.ntmps16
    go_wp2_with (go_at_call 14; refine (right_any _ _ _ h1 h2 h3 h4).mono ?_; rintro e w1 ⟨rfl, hb⟩; rw [H.out]; obtain ⟨hc, hf⟩ := bcell hb; have hz : w.heap.size + 1 < w1.heap.size := by have := hb.size; simp at this; omega)
    refine bodyPost_ret (v := .agg #[.int .i64 0, .int .i64 1]) (by simp [results, Tryd.results16, go_sem, hc]) rfl ⟨rfl, ?_⟩
    exact ((below_end (((Below.refl _ _).alloc (Nat.le_refl _) _).alloc (by simp) _) hb).setCell (by simp) _).setCell (by simp) _

theorem mul_bd {a b : Int} (h1 : -1000000000000 ≤ a) (h2 : a ≤ 1000000000000) (h3 : 1 ≤ b) (h4 : b ≤ 1000000) : -1000000000000000000 ≤ a * b ∧ a * b ≤ 1000000000000000000 := by
  constructor
  · have := Int.mul_le_mul_of_nonneg_right h1 (show 0 ≤ b by omega)
    omega
  · have := Int.mul_le_mul_of_nonneg_right h2 (show 0 ≤ b by omega)
    omega

set_option maxHeartbeats 800000 in
theorem alike_any (a b c d : Int) (w : World) (h1 : -9223372036854775808 ≤ a) (h2 : a ≤ 9223372036854775807) (h3 : -9223372036854775808 ≤ b) (h4 : b ≤ 9223372036854775807)
    (g1 : -9223372036854775808 ≤ c) (g2 : c ≤ 9223372036854775807) (g3 : -9223372036854775808 ≤ d) (g4 : d ≤ 9223372036854775807) :
    Calls Tryd.prog 29 #[.agg #[.int .i64 a, .int .i64 b], .agg #[.int .i64 c, .int .i64 d]] w fun e w' => e = .returned (.tuple #[.int .i64 (Wnum.cN a b * Wnum.cD c d), .int .i64 (Wnum.cN c d * Wnum.cD a b), .int .i64 (Wnum.cD a b * Wnum.cD c d)]) ∧ Below w.heap.size w w' := by
  obtain ⟨m1, m2⟩ := mul_bd (Wnum.cN_bd a b).1 (Wnum.cN_bd a b).2 (Wnum.cD_bd c d).1 (Wnum.cD_bd c d).2
  obtain ⟨m3, m4⟩ := mul_bd (Wnum.cN_bd c d).1 (Wnum.cN_bd c d).2 (Wnum.cD_bd a b).1 (Wnum.cD_bd a b).2
  obtain ⟨m5, m6⟩ := mul_bd (a := Wnum.cD a b) (by have := Wnum.cD_bd a b; omega) (by have := Wnum.cD_bd a b; omega) (Wnum.cD_bd c d).1 (Wnum.cD_bd c d).2
  go_enter Tryd.func29, Tryd.ntmps29
  go_wp2_with fail
  go_cut [] (fun wx => Below w.heap.size w wx ∧ wx.cell? ⟨w.heap.size, 0, none⟩ = some (.int .i64 (Wnum.cN a b)) ∧ wx.cell? ⟨w.heap.size, 1, none⟩ = some (.int .i64 (Wnum.cD a b)) ∧ wx.cell? ⟨w.heap.size + 1, 0, none⟩ = some (.int .i64 (Wnum.cN c d)) ∧ wx.cell? ⟨w.heap.size + 1, 1, none⟩ = some (.int .i64 (Wnum.cD c d)))
  case first =>
    go_region_with ((go_at_call 16; refine (counted_any _ _ _ (by assumption) (by assumption) (by assumption) (by assumption)).mono ?_; rintro e w1 ⟨rfl, hb⟩; obtain ⟨hc, hf⟩ := bcell hb; have hz := bsz (k := w.heap.size + 1) hb (by first | omega | simp); have hz0 := bsz (k := w.heap.size) hb (by first | omega | (simp; omega) | simp)))
    all_goals
      go_wp2_with fail
      go_meet
      case rel =>
        go_light
        have hq : w.heap.size < w.heap.size + 1 + 1 := by omega
        refine ⟨by with_reducible repeat (first | exact Below.refl _ _ | refine below_drewN ?_ _ | refine Below.setCell ?_ (by first | (simp; done) | (simp; omega) | omega) _ | refine Below.drew ?_ | refine below_end ?_ (by assumption) | refine ball ?_ _), ?_, ?_, ?_, ?_⟩
        all_goals simp [go_sem, *]
  case rest =>
    obtain ⟨hb, k1, k2, k3, k4⟩ := hcut
    go_wp2
    go_quiet (fail)
    go_wp2
    go_ret3
    exact ⟨rfl, below_drewN hb _⟩
end Go.Proofs.YtfilmomndhlmbabDoor
