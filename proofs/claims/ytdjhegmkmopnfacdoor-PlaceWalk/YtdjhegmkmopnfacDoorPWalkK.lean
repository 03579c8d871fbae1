/- The contracts of a cursor: Skip, Over. -/
import Derived.Test.YtdjhegmkmopnfacDoorPWalkJ
namespace Go.Proofs.YtdjhegmkmopnfacDoor
open Go.RowKit
set_option linter.unusedVariables false

/-- How many are passed. -/
def skipN (x n z : Int) : Int := min (max x 0) (z - n)
set_option maxHeartbeats 1600000 in
theorem skip_any (k : Nat) (x s t l b r n z : Int) (w : World) (hA : AtL w k [.int .i64 s, .int .i64 t, .int .i64 l, .int .i64 b, .int .i64 r, .int .i64 n, .int .i64 z]) (h0 : 0 ≤ n) (h1 : n ≤ z) (h2 : z ≤ 16777216) :
    Calls Tryd.prog 6 #[.pointer (some ⟨k, 0, none⟩), .int .i64 x] w fun e w' => e = .returned (.int .i64 (skipN x n z)) ∧ Below w.heap.size (w.setCell ⟨k, 5, none⟩ (.int .i64 (n + skipN x n z))) w' := by
  have HL := fun w h => left_any k s t l b r n z w h h0 h1 h2
  by_cases hx : x < 0
  · have E : Hid (skipN x n z = 0) := by show _ = _; unfold skipN; omega
    have hy : ¬ z - n < 0 := by omega
    go_enter Tryd.func6, Tryd.ntmps6
    go_wp2_with fail
    refine (HL _ hA).mono ?_
    rintro e w1 ⟨rfl, hb1⟩
    have pA := AtL.below hb1 hA
    obtain ⟨a0, a1, a2, a3, a4, a5, a6, g5⟩ := AtL.seven pA
    go_wp2
    go_ret
    rw [E.out]
    refine ⟨rfl, ?_⟩
    have := set_same hb1 ⟨k, 5, none⟩ (.int .i64 (n + 0))
    simpa using this
  by_cases hy : z - n < x
  · have E : Hid (skipN x n z = z - n) := by show _ = _; unfold skipN; omega
    go_enter Tryd.func6, Tryd.ntmps6
    go_wp2_with fail
    refine (HL _ hA).mono ?_
    rintro e w1 ⟨rfl, hb1⟩
    have pA := AtL.below hb1 hA
    obtain ⟨a0, a1, a2, a3, a4, a5, a6, g5⟩ := AtL.seven pA
    go_wp2
    go_ret
    rw [E.out]
    refine ⟨rfl, ?_⟩
    exact set_same hb1 ⟨k, 5, none⟩ _
  · have E : Hid (skipN x n z = x) := by show _ = _; unfold skipN; omega
    go_enter Tryd.func6, Tryd.ntmps6
    go_wp2_with fail
    refine (HL _ hA).mono ?_
    rintro e w1 ⟨rfl, hb1⟩
    have pA := AtL.below hb1 hA
    obtain ⟨a0, a1, a2, a3, a4, a5, a6, g5⟩ := AtL.seven pA
    go_wp2
    go_ret
    rw [E.out]
    refine ⟨rfl, ?_⟩
    exact set_same hb1 ⟨k, 5, none⟩ _

/-- A cursor over an area: the seven cells. -/
def overV (s t l b r : Int) : List Value := if Wpl.rightA s t l b r then [.int .i64 s, .int .i64 t, .int .i64 l, .int .i64 b, .int .i64 r, .int .i64 0, .int .i64 (Wpl.sizeA s t l b r)] else [.int .i64 0, .int .i64 0, .int .i64 0, .int .i64 0, .int .i64 0, .int .i64 0, .int .i64 0]
set_option maxHeartbeats 1600000 in
theorem over_any (s t l b r : Int) (w : World) :
    Calls Tryd.prog 5 #[.agg #[.int .i64 s, .int .i64 t, .int .i64 l, .int .i64 b, .int .i64 r]] w fun e w' => e = .returned (.agg (overV s t l b r).toArray) ∧ Below w.heap.size w w' := by
  have R := fun w => rightArea_any s t l b r w
  have S := fun w => x3_size_any s t l b r w
  have E : Hid (overV s t l b r = if Wpl.rightA s t l b r then [.int .i64 s, .int .i64 t, .int .i64 l, .int .i64 b, .int .i64 r, .int .i64 0, .int .i64 (Wpl.sizeA s t l b r)] else [.int .i64 0, .int .i64 0, .int .i64 0, .int .i64 0, .int .i64 0, .int .i64 0, .int .i64 0]) := (rfl : overV s t l b r = _)
  generalize Wpl.rightA s t l b r = ok at *
  generalize Wpl.sizeA s t l b r = z at *
  generalize overV s t l b r = V at *
  cases ok with
  | false =>
    go_enter Tryd.func5, Tryd.ntmps5
    go_wp2_with fail
    refine (R _).mono ?_
    rintro e w1 ⟨rfl, hb1⟩
    have pR : AtL w1 (w.heap.size + 1) [.int .i64 0, .int .i64 0, .int .i64 0, .int .i64 0, .int .i64 0, .int .i64 0, .int .i64 0] := AtL.below hb1 (AtL.new1 w _ _ _)
    have hB : Below w.heap.size w w1 := by with_reducible repeat (first | exact Below.refl _ _ | refine x3_below_drewN ?_ _ | refine Below.setCell ?_ (by first | (simp; done) | (simp; omega) | omega) _ | refine Below.drew ?_ | refine x3_below_end ?_ (by assumption) | refine x3_ball ?_ _)
    have q := pR.2.1
    have f := pR.2.2
    have c0 := q 0 _ rfl
    have c1 := q 1 _ rfl
    have c2 := q 2 _ rfl
    have c3 := q 3 _ rfl
    have c4 := q 4 _ rfl
    have c5 := q 5 _ rfl
    have c6 := q 6 _ rfl
    have f0 := f 0 (by simp)
    have f1 := f 1 (by simp)
    have f2 := f 2 (by simp)
    have f3 := f 3 (by simp)
    have f4 := f 4 (by simp)
    have f5 := f 5 (by simp)
    have f6 := f 6 (by simp)
    clear q f
    go_wp2
    refine bodyPost_ret (v := .agg #[.int .i64 0, .int .i64 0, .int .i64 0, .int .i64 0, .int .i64 0, .int .i64 0, .int .i64 0]) (by simp [results, Tryd.results5, go_sem, c0, c1, c2, c3, c4, c5, c6]) rfl ⟨by rw [E.out]; rfl, ?_⟩
    exact (put5_below hB (by omega) _ _ _ _ _).setCell (p := ⟨w.heap.size + 1, 5, none⟩) (by show w.heap.size ≤ w.heap.size + 1; omega) _ |>.setCell (p := ⟨w.heap.size + 1, 6, none⟩) (by show w.heap.size ≤ w.heap.size + 1; omega) _
  | true =>
    go_enter Tryd.func5, Tryd.ntmps5
    go_wp2_with fail
    refine (R _).mono ?_
    rintro e w1 ⟨rfl, hb1⟩
    have pR : AtL w1 (w.heap.size + 1) [.int .i64 0, .int .i64 0, .int .i64 0, .int .i64 0, .int .i64 0, .int .i64 0, .int .i64 0] := AtL.below hb1 (AtL.new1 w _ _ _)
    have pA : AtL w1 w.heap.size [.int .i64 s, .int .i64 t, .int .i64 l, .int .i64 b, .int .i64 r] := AtL.below hb1 ((AtL.new0 w _ _).alloc _)
    have hB : Below w.heap.size w w1 := by with_reducible repeat (first | exact Below.refl _ _ | refine x3_below_drewN ?_ _ | refine Below.setCell ?_ (by first | (simp; done) | (simp; omega) | omega) _ | refine Below.drew ?_ | refine x3_below_end ?_ (by assumption) | refine x3_ball ?_ _)
    clear hb1
    have hS : Five w1 w.heap.size (.int .i64 s) (.int .i64 t) (.int .i64 l) (.int .i64 b) (.int .i64 r) := pA.f5
    clear pA
    go_wp2_with fail
    go_region_held3 (fun W => W.cell? ⟨w.heap.size, 0, none⟩ = some (.int .i64 s) ∧ W.cell? ⟨w.heap.size, 1, none⟩ = some (.int .i64 t) ∧ W.cell? ⟨w.heap.size, 2, none⟩ = some (.int .i64 l) ∧ W.cell? ⟨w.heap.size, 3, none⟩ = some (.int .i64 b) ∧ W.cell? ⟨w.heap.size, 4, none⟩ = some (.int .i64 r))
      (with_reducible first | exact hS | assumption | exact five_drew hS | exact five_below hb (by assumption) | exact five_far (five_far (five_far (five_far (five_far (five_far (five_far sA (by omega) _ _) (by omega) _ _) (by omega) _ _) (by omega) _ _) (by omega) _ _) (by omega) _ _) (by omega) _ _)
      (first
      | (go_at_call 7; refine (S _).mono ?_; rintro e w4 ⟨rfl, hb⟩; (with_reducible first | replace pR := AtL.below hb pR | replace pR := AtL.below hb (AtL.drew pR)); (with_reducible first | replace hB := x3_below_end hB hb | replace hB := x3_below_end hB.drew hb); have sA : Five w4 w.heap.size (.int .i64 s) (.int .i64 t) (.int .i64 l) (.int .i64 b) (.int .i64 r) := five_below hb (by assumption); have q := pR.2.1; have f := pR.2.2; have c0 := q 0 _ rfl; have c1 := q 1 _ rfl; have c2 := q 2 _ rfl; have c3 := q 3 _ rfl; have c4 := q 4 _ rfl; have c5 := q 5 _ rfl; have c6 := q 6 _ rfl; have f0 := f 0 (by simp); have f1 := f 1 (by simp); have f2 := f 2 (by simp); have f3 := f 3 (by simp); have f4 := f 4 (by simp); have f5 := f 5 (by simp); have f6 := f 6 (by simp); clear q f))
    all_goals
      go_wp2
      refine bodyPost_ret (v := .agg #[.int .i64 s, .int .i64 t, .int .i64 l, .int .i64 b, .int .i64 r, .int .i64 0, .int .i64 z]) (by simp [results, Tryd.results5, go_sem, c0, c1, c2, c3, c4, c5, c6]) rfl ⟨by rw [E.out]; rfl, ?_⟩
      exact (put5_below hB (by omega) _ _ _ _ _).setCell (p := ⟨w.heap.size + 1, 5, none⟩) (by show w.heap.size ≤ w.heap.size + 1; omega) _ |>.setCell (p := ⟨w.heap.size + 1, 6, none⟩) (by show w.heap.size ≤ w.heap.size + 1; omega) _
end Go.Proofs.YtdjhegmkmopnfacDoor
