/- The contracts of place's small calls. -/
import Derived.Test.YtpbjmhcpaeillaaPKit
import Derived.Test.YtpbjmhcpaeillaaPPlain
namespace Go.Proofs.Ytpbjmhcpaeillaa
open Go.RowKit
set_option linter.unusedVariables false

theorem x3_below_drewN {B : Nat} {a w : World} (h : Below B a w) (n : Nat) : Below B a (w.drewN n) := ⟨h.os, h.tape, h.output, h.size, h.block⟩
theorem x3_below_end {w W w1 : World} (h0 : Below w.heap.size w W) (hb : Below W.heap.size W w1) : Below w.heap.size w w1 := h0.trans (hb.mono h0.size)
theorem x3_ball {w W : World} (h : Below w.heap.size w W) (o : Obj) : Below w.heap.size w (W.alloc o) := h.alloc h.size o

/-- below -/
theorem below_any (n m : Int) (w : World) :
    Calls Try.prog 76 #[.int .i64 n, .int .i64 m] w fun e w' => e = .returned (.bool (Wpl.inB n m)) ∧ w = w' := by
  unfold Wpl.inB
  by_cases h : 0 ≤ n
  · rw [decide_eq_true h]
    go_enter Try.func76, Try.ntmps76
    go_wp2
    go_ret
    exact ⟨by simp, rfl⟩
  · rw [decide_eq_false h]
    go_enter Try.func76, Try.ntmps76
    go_wp2
    go_ret
    exact ⟨by simp, rfl⟩

/-- Right -/
theorem x3_right_any (s r c : Int) (w : World) :
    Calls Try.prog 61 #[.agg #[.int .i64 s, .int .i64 r, .int .i64 c]] w fun e w' => e = .returned (.bool (Wpl.rightC s r c)) ∧ Below w.heap.size w w' := by
  have B1 := fun w => below_any s 16 w
  have B2 := fun w => below_any r 65536 w
  have B3 := fun w => below_any c 256 w
  unfold Wpl.rightC
  generalize Wpl.inB s 16 = b1 at *
  generalize Wpl.inB r 65536 = b2 at *
  generalize Wpl.inB c 256 = b3 at *
  cases b1
  · go_enter Try.func61, Try.ntmps61
    go_wp2_with fail
    refine (B1 _).mono ?_
    rintro e w1 ⟨rfl, rfl⟩
    go_wp2
    go_ret
    exact ⟨rfl, by with_reducible repeat (first | exact Below.refl _ _ | refine x3_below_drewN ?_ _ | refine Below.setCell ?_ (by first | (simp; done) | (simp; omega) | omega) _ | refine Below.drew ?_ | refine x3_below_end ?_ (by assumption) | refine x3_ball ?_ _)⟩
  cases b2
  · go_enter Try.func61, Try.ntmps61
    go_wp2_with fail
    refine (B1 _).mono ?_
    rintro e w1 ⟨rfl, rfl⟩
    go_wp2_with fail
    refine (B2 _).mono ?_
    rintro e w1 ⟨rfl, rfl⟩
    go_wp2
    go_ret
    exact ⟨rfl, by with_reducible repeat (first | exact Below.refl _ _ | refine x3_below_drewN ?_ _ | refine Below.setCell ?_ (by first | (simp; done) | (simp; omega) | omega) _ | refine Below.drew ?_ | refine x3_below_end ?_ (by assumption) | refine x3_ball ?_ _)⟩
  · go_enter Try.func61, Try.ntmps61
    go_wp2_with fail
    refine (B1 _).mono ?_
    rintro e w1 ⟨rfl, rfl⟩
    go_wp2_with fail
    refine (B2 _).mono ?_
    rintro e w1 ⟨rfl, rfl⟩
    go_wp2_with fail
    refine (B3 _).mono ?_
    rintro e w1 ⟨rfl, rfl⟩
    go_wp2
    go_ret
    exact ⟨rfl, by with_reducible repeat (first | exact Below.refl _ _ | refine x3_below_drewN ?_ _ | refine Below.setCell ?_ (by first | (simp; done) | (simp; omega) | omega) _ | refine Below.drew ?_ | refine x3_below_end ?_ (by assumption) | refine x3_ball ?_ _)⟩

/-- first, last -/
theorem first_any (s t l b r : Int) (w : World) :
    Calls Try.prog 62 #[.agg #[.int .i64 s, .int .i64 t, .int .i64 l, .int .i64 b, .int .i64 r]] w fun e w' => e = .returned (.agg #[.int .i64 s, .int .i64 t, .int .i64 l]) ∧ Below w.heap.size w w' := by
  go_enter Try.func62, Try.ntmps62
  go_wp2
  refine bodyPost_ret (v := .agg #[.int .i64 s, .int .i64 t, .int .i64 l]) (by simp [results, Try.results62, go_sem]) rfl ⟨rfl, ?_⟩
  exact by with_reducible repeat (first | exact Below.refl _ _ | refine x3_below_drewN ?_ _ | refine Below.setCell ?_ (by first | (simp; done) | (simp; omega) | omega) _ | refine Below.drew ?_ | refine x3_below_end ?_ (by assumption) | refine x3_ball ?_ _)
theorem last_any (s t l b r : Int) (w : World) :
    Calls Try.prog 63 #[.agg #[.int .i64 s, .int .i64 t, .int .i64 l, .int .i64 b, .int .i64 r]] w fun e w' => e = .returned (.agg #[.int .i64 s, .int .i64 b, .int .i64 r]) ∧ Below w.heap.size w w' := by
  go_enter Try.func63, Try.ntmps63
  go_wp2
  refine bodyPost_ret (v := .agg #[.int .i64 s, .int .i64 b, .int .i64 r]) (by simp [results, Try.results63, go_sem]) rfl ⟨rfl, ?_⟩
  exact by with_reducible repeat (first | exact Below.refl _ _ | refine x3_below_drewN ?_ _ | refine Below.setCell ?_ (by first | (simp; done) | (simp; omega) | omega) _ | refine Below.drew ?_ | refine x3_below_end ?_ (by assumption) | refine x3_ball ?_ _)

end Go.Proofs.Ytpbjmhcpaeillaa
namespace Go.Proofs.Ytpbjmhcpaeillaa
open Go.RowKit
set_option linter.unusedVariables false

/-- The cells of a slice. -/
def Cells (w : World) (blk off n : Nat) (F : Nat → Wpl.Cl) : Prop :=
  ∀ j, j < n → w.cell? ⟨blk, off + j * 3, none⟩ = some (.int .i64 (F j).s) ∧ w.cell? ⟨blk, off + j * 3 + 1, none⟩ = some (.int .i64 (F j).r) ∧ w.cell? ⟨blk, off + j * 3 + 2, none⟩ = some (.int .i64 (F j).c)
theorem Cells.below {W W' : World} {blk off n : Nat} {F : Nat → Wpl.Cl} (h : Cells W blk off n F) (hb : blk < W.heap.size) (hB : Below W.heap.size W W') : Cells W' blk off n F := fun j hj =>
  ⟨(hB.cell (p := ⟨blk, off + j * 3, none⟩) hb).trans (h j hj).1, (hB.cell (p := ⟨blk, off + j * 3 + 1, none⟩) hb).trans (h j hj).2.1, (hB.cell (p := ⟨blk, off + j * 3 + 2, none⟩) hb).trans (h j hj).2.2⟩

end Go.Proofs.Ytpbjmhcpaeillaa
