/- The contracts of numbered, At, Index. -/
import Derived.Test.YtdjhegmkmopnfacDoorPWalkD
import Derived.Test.YtdjhegmkmopnfacDoorPPlainB
namespace Go.Proofs.YtdjhegmkmopnfacDoor
open Go.RowKit
set_option linter.unusedVariables false

set_option maxHeartbeats 1600000 in
theorem numbered_any (s t l b r k : Int) (w : World) (h : Wpl.atOk s t l b r k = true) :
    Calls Tryd.prog 20 #[.agg #[.int .i64 s, .int .i64 t, .int .i64 l, .int .i64 b, .int .i64 r], .int .i64 k] w fun e w' => e = .returned (.agg #[.int .i64 (Wpl.num s t l r k).s, .int .i64 (Wpl.num s t l r k).r, .int .i64 (Wpl.num s t l r k).c]) ∧ Below w.heap.size w w' := by
  have hr := Wpl.rightA_iff.1 (Wpl.atOk_right h)
  have hk := Wpl.num_in h
  have Wd := fun w => width_any s t l b r w (by omega) (by omega) (by omega)
  have e1 : Hid (Wpl.num s t l r k = ⟨s, t + k / (r - l + 1), l + k % (r - l + 1)⟩) := (rfl : Wpl.num s t l r k = _)
  have hz : ¬ r - l + 1 = 0 := by omega
  have ed : k.tdiv (r - l + 1) = k / (r - l + 1) := Int.tdiv_eq_ediv_of_nonneg (by omega)
  have em : k.tmod (r - l + 1) = k % (r - l + 1) := Int.tmod_eq_emod_of_nonneg (by omega)
  have wa : IntKind.i64.wrap (k / (r - l + 1)) = k / (r - l + 1) := IntWalk.i64_in _ (by omega)
  have wb : IntKind.i64.wrap (t + k / (r - l + 1)) = t + k / (r - l + 1) := IntWalk.i64_in _ (by omega)
  have wc : IntKind.i64.wrap (l + k % (r - l + 1)) = l + k % (r - l + 1) := IntWalk.i64_in _ (by omega)
  have wd : IntKind.i64.wrap (k % (r - l + 1)) = k % (r - l + 1) := IntWalk.i64_in _ (by omega)
  clear h
  go_enter Tryd.func20, Tryd.ntmps20
  go_wp2_with fail
  have pA : AtL ((w.alloc (.cells #[.int .i64 s, .int .i64 t, .int .i64 l, .int .i64 b, .int .i64 r] 23)).alloc (.cells #[.int .i64 0, .int .i64 0, .int .i64 0] 34)) w.heap.size [.int .i64 s, .int .i64 t, .int .i64 l, .int .i64 b, .int .i64 r] := (AtL.new0 w _ _).alloc _
  have pC := AtL.new1 w (.cells #[.int .i64 s, .int .i64 t, .int .i64 l, .int .i64 b, .int .i64 r] 23) 34 [.int .i64 0, .int .i64 0, .int .i64 0]
  have hB : Below w.heap.size w ((w.alloc (.cells #[.int .i64 s, .int .i64 t, .int .i64 l, .int .i64 b, .int .i64 r] 23)).alloc (.cells #[.int .i64 0, .int .i64 0, .int .i64 0] 34)) := x3_ball (x3_ball (Below.refl _ _) _) _
  generalize (w.alloc (.cells #[.int .i64 s, .int .i64 t, .int .i64 l, .int .i64 b, .int .i64 r] 23)).alloc (.cells #[.int .i64 0, .int .i64 0, .int .i64 0] 34) = W at *
  have hS : Five W w.heap.size (.int .i64 s) (.int .i64 t) (.int .i64 l) (.int .i64 b) (.int .i64 r) := pA.f5
  clear pA
  go_region_held3 (fun W => W.cell? ⟨w.heap.size, 0, none⟩ = some (.int .i64 s) ∧ W.cell? ⟨w.heap.size, 1, none⟩ = some (.int .i64 t) ∧ W.cell? ⟨w.heap.size, 2, none⟩ = some (.int .i64 l) ∧ W.cell? ⟨w.heap.size, 3, none⟩ = some (.int .i64 b) ∧ W.cell? ⟨w.heap.size, 4, none⟩ = some (.int .i64 r))
    (with_reducible first | exact hS | assumption | exact five_drew hS | exact five_below hb (by assumption) | exact five_far (five_far (five_far sA (by omega) _ _) (by omega) _ _) (by omega) _ _)
    (first
    | (go_at_call 18; refine (Wd _).mono ?_; rintro e w4 ⟨rfl, hb⟩; (with_reducible first | replace pC := AtL.below hb pC | replace pC := AtL.below hb pC.drew); (with_reducible first | replace hB := x3_below_end hB hb | replace hB := x3_below_end hB.drew hb); have sA : Five w4 w.heap.size (.int .i64 s) (.int .i64 t) (.int .i64 l) (.int .i64 b) (.int .i64 r) := five_below hb (by assumption); obtain ⟨c0, c1, c2, f0, f1, f2⟩ := pC.three))
  all_goals
    go_wp2
    refine bodyPost_ret (v := .agg #[.int .i64 s, .int .i64 (t + k / (r - l + 1)), .int .i64 (l + k % (r - l + 1))]) (by simp [results, Tryd.results20, go_sem, c0, c1, c2]) rfl ⟨by rw [e1.out], ?_⟩
    exact put3_below hB (by omega) _ _ _

set_option maxHeartbeats 1600000 in
theorem at_any (s t l b r k : Int) (w : World) :
    Calls Tryd.prog 10 #[.agg #[.int .i64 s, .int .i64 t, .int .i64 l, .int .i64 b, .int .i64 r], .int .i64 k] w fun e w' => e = .returned (.tuple #[.agg #[.int .i64 (Wpl.atV s t l b r k).s, .int .i64 (Wpl.atV s t l b r k).r, .int .i64 (Wpl.atV s t l b r k).c], .bool (Wpl.atOk s t l b r k)]) ∧ Below w.heap.size w w' := by
  have S := fun w => x3_size_any s t l b r w
  have B := fun w => below_any k (Wpl.sizeA s t l b r) w
  have Nn := fun w => numbered_any s t l b r k w
  have E : Hid (Wpl.atV s t l b r k = if Wpl.atOk s t l b r k then Wpl.num s t l r k else Wpl.nullC) := (rfl : Wpl.atV s t l b r k = _)
  change ∀ w, Calls _ _ _ w fun e w' => e = .returned (.bool (Wpl.atOk s t l b r k)) ∧ w = w' at B
  generalize Wpl.atOk s t l b r k = ok at *
  generalize Wpl.sizeA s t l b r = z at *
  generalize Wpl.atV s t l b r k = V at *
  generalize Wpl.num s t l r k = U at *
  obtain ⟨u0, u1, u2⟩ := U
  cases ok with
  | false =>
    clear Nn
    go_enter Tryd.func10, Tryd.ntmps10
    go_wp2_with fail
    refine (S _).mono ?_
    rintro e w1 ⟨rfl, hb1⟩
    have pC : AtL w1 (w.heap.size + 1) [.int .i64 0, .int .i64 0, .int .i64 0] := AtL.below hb1 (AtL.new1 w _ _ _)
    have hB : Below w.heap.size w w1 := by with_reducible repeat (first | exact Below.refl _ _ | refine x3_below_drewN ?_ _ | refine Below.setCell ?_ (by first | (simp; done) | (simp; omega) | omega) _ | refine Below.drew ?_ | refine x3_below_end ?_ (by assumption) | refine x3_ball ?_ _)
    clear hb1
    obtain ⟨c0, c1, c2, f0, f1, f2⟩ := pC.three
    go_wp2_with fail
    refine (B _).mono ?_
    rintro e w2 ⟨rfl, rfl⟩
    go_wp2
    refine bodyPost_ret (v := .tuple #[.agg #[.int .i64 0, .int .i64 0, .int .i64 0], .bool false]) (by simp [results, Tryd.results10, go_sem, c0, c1, c2]) rfl ⟨by rw [E.out]; rfl, ?_⟩
    exact put3_below hB (by omega) _ _ _
  | true =>
    replace Nn := fun w => Nn w rfl
    go_enter Tryd.func10, Tryd.ntmps10
    go_wp2_with fail
    refine (S _).mono ?_
    rintro e w1 ⟨rfl, hb1⟩
    have pA : AtL w1 w.heap.size [.int .i64 s, .int .i64 t, .int .i64 l, .int .i64 b, .int .i64 r] := AtL.below hb1 ((AtL.new0 w _ _).alloc _)
    have pC : AtL w1 (w.heap.size + 1) [.int .i64 0, .int .i64 0, .int .i64 0] := AtL.below hb1 (AtL.new1 w _ _ _)
    have hB : Below w.heap.size w w1 := by with_reducible repeat (first | exact Below.refl _ _ | refine x3_below_drewN ?_ _ | refine Below.setCell ?_ (by first | (simp; done) | (simp; omega) | omega) _ | refine Below.drew ?_ | refine x3_below_end ?_ (by assumption) | refine x3_ball ?_ _)
    clear hb1
    go_wp2_with fail
    refine (B _).mono ?_
    rintro e w2 ⟨rfl, rfl⟩
    obtain ⟨a0, a1, a2, a3, a4⟩ := pA.f5
    go_wp2_with fail
    refine (Nn _).mono ?_
    rintro e w3 ⟨rfl, hb3⟩
    replace pC := AtL.below hb3 pC
    have hB3 := x3_below_end hB hb3
    obtain ⟨c0, c1, c2, f0, f1, f2⟩ := pC.three
    go_wp2
    refine bodyPost_ret (v := .tuple #[.agg #[.int .i64 u0, .int .i64 u1, .int .i64 u2], .bool true]) (by simp [results, Tryd.results10, go_sem, c0, c1, c2]) rfl ⟨by rw [E.out]; rfl, ?_⟩
    exact put3_below hB3 (by omega) _ _ _
end Go.Proofs.YtdjhegmkmopnfacDoor
