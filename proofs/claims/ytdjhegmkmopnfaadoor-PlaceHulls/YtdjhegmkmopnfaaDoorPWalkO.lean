/- The contracts of the document's One, At, Index. -/
import Derived.Test.YtdjhegmkmopnfaaDoorPWalkN
import Derived.Test.YtdjhegmkmopnfaaDoorPWalkS
import Derived.Test.YtdjhegmkmopnfaaDoorPWalkI
namespace Go.Proofs.YtdjhegmkmopnfaaDoor
open Go.RowKit
set_option linter.unusedVariables false

set_option maxHeartbeats 800000 in
theorem rone_any (s r c : Int) (w : World) :
    Calls Tryd.prog 25 #[.agg #[.int .i64 s, .int .i64 r, .int .i64 c]] w fun e w' => e = .returned (.tuple #[.agg #[.int .i64 (oneV s r c).s, .int .i64 (oneV s r c).t, .int .i64 (oneV s r c).l, .int .i64 (oneV s r c).b, .int .i64 (oneV s r c).r], .bool (Wpl.rightC s r c)]) ∧ Below w.heap.size w w' := by
  have R := fun w => x3_rright_any s r c w
  have E : Hid (oneV s r c = if Wpl.rightC s r c then ⟨s, r, c, r, c⟩ else ⟨0, 0, 0, 0, 0⟩) := (rfl : oneV s r c = _)
  generalize oneV s r c = V at *
  generalize Wpl.rightC s r c = ok at *
  go_enter Tryd.func25, Tryd.ntmps25
  go_wp2_with fail
  refine (R _).mono ?_
  rintro e w1 ⟨rfl, hb1⟩
  have pA : AtL w1 w.heap.size [.int .i64 s, .int .i64 r, .int .i64 c] := AtL.below hb1 ((AtL.new0 w _ _).alloc _)
  have pR : AtL w1 (w.heap.size + 1) [.int .i64 0, .int .i64 0, .int .i64 0, .int .i64 0, .int .i64 0] := AtL.below hb1 (AtL.new1 w _ _ _)
  have hB : Below w.heap.size w w1 := by with_reducible repeat (first | exact Below.refl _ _ | refine x3_below_drewN ?_ _ | refine Below.setCell ?_ (by first | (simp; done) | (simp; omega) | omega) _ | refine Below.drew ?_ | refine x3_below_end ?_ (by assumption) | refine x3_ball ?_ _)
  clear hb1
  obtain ⟨a0, a1, a2⟩ := pA.f3
  obtain ⟨r0, r1, r2, r3, r4, f0, f1, f2, f3, f4⟩ := pR.five
  cases ok with
  | false =>
    go_wp2
    refine bodyPost_ret (v := .tuple #[.agg #[.int .i64 0, .int .i64 0, .int .i64 0, .int .i64 0, .int .i64 0], .bool false]) (by simp [results, Tryd.results25, go_sem, r0, r1, r2, r3, r4]) rfl ⟨by rw [E.out]; rfl, ?_⟩
    exact put5_below hB (by omega) _ _ _ _ _
  | true =>
    go_wp2
    refine bodyPost_ret (v := .tuple #[.agg #[.int .i64 s, .int .i64 r, .int .i64 c, .int .i64 r, .int .i64 c], .bool true]) (by simp [results, Tryd.results25, go_sem, r0, r1, r2, r3, r4]) rfl ⟨by rw [E.out]; rfl, ?_⟩
    exact put5_below hB (by omega) _ _ _ _ _

set_option maxHeartbeats 1600000 in
theorem rat_any (s t l b r k : Int) (w : World) :
    Calls Tryd.prog 29 #[.agg #[.int .i64 s, .int .i64 t, .int .i64 l, .int .i64 b, .int .i64 r], .int .i64 k] w fun e w' => e = .returned (.tuple #[.agg #[.int .i64 (Wpl.atV s t l b r k).s, .int .i64 (Wpl.atV s t l b r k).r, .int .i64 (Wpl.atV s t l b r k).c], .bool (Wpl.atOk s t l b r k)]) ∧ Below w.heap.size w w' := by
  have S := fun w => rsize_any s t l b r w
  by_cases h0 : k < 0
  · have e1 : Hid (Wpl.atOk s t l b r k = false) := by show _ = _; unfold Wpl.atOk; rw [Wpl.inB_not]; omega
    have e2 : Hid (Wpl.atV s t l b r k = ⟨0, 0, 0⟩) := by show _ = _; unfold Wpl.atV; rw [e1.out]; rfl
    go_enter Tryd.func29, Tryd.ntmps29
    go_wp2
    refine bodyPost_ret (v := .tuple #[.agg #[.int .i64 0, .int .i64 0, .int .i64 0], .bool false]) (by simp [results, Tryd.results29, go_sem]) rfl ⟨by rw [e1.out, e2.out], ?_⟩
    exact by with_reducible repeat (first | exact Below.refl _ _ | refine x3_below_drewN ?_ _ | refine Below.setCell ?_ (by first | (simp; done) | (simp; omega) | omega) _ | refine Below.drew ?_ | refine x3_below_end ?_ (by assumption) | refine x3_ball ?_ _)
  cases h : Wpl.atOk s t l b r k with
  | false =>
    have e2 : Hid (Wpl.atV s t l b r k = ⟨0, 0, 0⟩) := by show _ = _; unfold Wpl.atV; rw [h]; rfl
    unfold Wpl.atOk at h
    rw [Wpl.inB_not] at h
    generalize Wpl.sizeA s t l b r = z at *
    have hz : z ≤ k := by omega
    go_enter Tryd.func29, Tryd.ntmps29
    go_wp2_with fail
    refine (S _).mono ?_
    rintro e w1 ⟨rfl, hb1⟩
    have pC : AtL w1 (w.heap.size + 1) [.int .i64 0, .int .i64 0, .int .i64 0] := AtL.below hb1 (AtL.new1 w _ _ _)
    have hB : Below w.heap.size w w1 := by with_reducible repeat (first | exact Below.refl _ _ | refine x3_below_drewN ?_ _ | refine Below.setCell ?_ (by first | (simp; done) | (simp; omega) | omega) _ | refine Below.drew ?_ | refine x3_below_end ?_ (by assumption) | refine x3_ball ?_ _)
    clear hb1
    obtain ⟨c0, c1, c2, f0, f1, f2⟩ := pC.three
    go_wp2
    refine bodyPost_ret (v := .tuple #[.agg #[.int .i64 0, .int .i64 0, .int .i64 0], .bool false]) (by simp [results, Tryd.results29, go_sem, c0, c1, c2]) rfl ⟨by rw [e2.out], ?_⟩
    exact put3_below hB (by omega) _ _ _
  | true =>
    have hr := Wpl.rightA_iff.1 (Wpl.atOk_right h)
    have hk := Wpl.num_in h
    have e2 : Hid (Wpl.atV s t l b r k = ⟨s, t + k / (r - l + 1), l + k % (r - l + 1)⟩) := by show _ = _; unfold Wpl.atV; rw [h]; rfl
    have hz : ¬ r - l + 1 = 0 := by omega
    have hz' : ((r - l + 1 : Int) == 0) = false := by simp; omega
    have ed : k.tdiv (r - l + 1) = k / (r - l + 1) := Int.tdiv_eq_ediv_of_nonneg (by omega)
    have em : k.tmod (r - l + 1) = k % (r - l + 1) := Int.tmod_eq_emod_of_nonneg (by omega)
    have wa : IntKind.i64.wrap (k / (r - l + 1)) = k / (r - l + 1) := IntWalk.i64_in _ (by omega)
    have wb : IntKind.i64.wrap (t + k / (r - l + 1)) = t + k / (r - l + 1) := IntWalk.i64_in _ (by omega)
    have wc : IntKind.i64.wrap (l + k % (r - l + 1)) = l + k % (r - l + 1) := IntWalk.i64_in _ (by omega)
    have wd : IntKind.i64.wrap (k % (r - l + 1)) = k % (r - l + 1) := IntWalk.i64_in _ (by omega)
    unfold Wpl.atOk at h
    rw [Wpl.inB_iff] at h
    generalize Wpl.sizeA s t l b r = z at *
    obtain ⟨h1, h2⟩ := h
    have h3 : ¬ z ≤ k := by omega
    go_enter Tryd.func29, Tryd.ntmps29
    go_wp2_with fail
    refine (S _).mono ?_
    rintro e w1 ⟨rfl, hb1⟩
    have pA : AtL w1 w.heap.size [.int .i64 s, .int .i64 t, .int .i64 l, .int .i64 b, .int .i64 r] := AtL.below hb1 ((AtL.new0 w _ _).alloc _)
    have pC : AtL w1 (w.heap.size + 1) [.int .i64 0, .int .i64 0, .int .i64 0] := AtL.below hb1 (AtL.new1 w _ _ _)
    have hB : Below w.heap.size w w1 := by with_reducible repeat (first | exact Below.refl _ _ | refine x3_below_drewN ?_ _ | refine Below.setCell ?_ (by first | (simp; done) | (simp; omega) | omega) _ | refine Below.drew ?_ | refine x3_below_end ?_ (by assumption) | refine x3_ball ?_ _)
    clear hb1
    obtain ⟨a0, a1, a2, a3, a4⟩ := pA.f5
    obtain ⟨c0, c1, c2, f0, f1, f2⟩ := pC.three
    go_wp2_with fail
    go_region
    all_goals
      go_wp2
      refine bodyPost_ret (v := .tuple #[.agg #[.int .i64 s, .int .i64 (t + k / (r - l + 1)), .int .i64 (l + k % (r - l + 1))], .bool true]) (by simp [results, Tryd.results29, go_sem, c0, c1, c2]) rfl ⟨by rw [e2.out], ?_⟩
      first | exact put3_below hB (by omega) _ _ _ | exact (put3_below hB (by omega) _ _ _).drew | exact put3_below hB.drew (by omega) _ _ _

set_option maxHeartbeats 1600000 in
theorem rindex_any (s t l b r cs cr cc : Int) (w : World) :
    Calls Tryd.prog 31 #[.agg #[.int .i64 s, .int .i64 t, .int .i64 l, .int .i64 b, .int .i64 r], .agg #[.int .i64 cs, .int .i64 cr, .int .i64 cc]] w fun e w' => e = .returned (.tuple #[.int .i64 (Wpl.indexV s t l b r cs cr cc), .bool (Wpl.hasA s t l b r cs cr cc)]) ∧ Below w.heap.size w w' := by
  have H := fun w => rhas_any s t l b r cs cr cc w
  cases h : Wpl.hasA s t l b r cs cr cc with
  | false =>
    have e1 : Hid (Wpl.indexV s t l b r cs cr cc = 0) := by show _ = _; unfold Wpl.indexV; rw [h]; rfl
    rw [h] at H; clear h
    go_enter Tryd.func31, Tryd.ntmps31
    go_wp2_with fail
    refine (H _).mono ?_
    rintro e w1 ⟨rfl, hb1⟩
    go_wp2
    go_ret2
    exact ⟨by rw [e1.out]; rfl, by with_reducible repeat (first | exact Below.refl _ _ | refine x3_below_drewN ?_ _ | refine Below.setCell ?_ (by first | (simp; done) | (simp; omega) | omega) _ | refine Below.drew ?_ | refine x3_below_end ?_ (by assumption) | refine x3_ball ?_ _)⟩
  | true =>
    have e1 : Hid (Wpl.indexV s t l b r cs cr cc = (cr - t) * (r - l + 1) + cc - l) := by show _ = _; unfold Wpl.indexV; rw [h]; rfl
    have hi := Wpl.index_in h
    have hz := Wpl.sizeA_le s t l b r
    obtain ⟨ha, hs, h1, h2, h3, h4⟩ := Wpl.hasA_iff.1 h
    have hr := Wpl.rightA_iff.1 ha
    have wa : IntKind.i64.wrap (cr - t) = cr - t := IntWalk.i64_in _ (by omega)
    have wb : IntKind.i64.wrap ((cr - t) * (r - l + 1)) = (cr - t) * (r - l + 1) := IntWalk.i64_in _ (by omega)
    have wc : IntKind.i64.wrap ((cr - t) * (r - l + 1) + cc) = (cr - t) * (r - l + 1) + cc := IntWalk.i64_in _ (by omega)
    have wd : IntKind.i64.wrap ((cr - t) * (r - l + 1) + cc - l) = (cr - t) * (r - l + 1) + cc - l := IntWalk.i64_in _ (by omega)
    rw [h] at H; clear h ha hs hz
    go_enter Tryd.func31, Tryd.ntmps31
    go_wp2_with fail
    refine (H _).mono ?_
    rintro e w1 ⟨rfl, hb1⟩
    have pA : AtL w1 w.heap.size [.int .i64 s, .int .i64 t, .int .i64 l, .int .i64 b, .int .i64 r] := AtL.below hb1 ((AtL.new0 w _ _).alloc _)
    have pC : AtL w1 (w.heap.size + 1) [.int .i64 cs, .int .i64 cr, .int .i64 cc] := AtL.below hb1 (AtL.new1 w _ _ _)
    have hB : Below w.heap.size w w1 := by with_reducible repeat (first | exact Below.refl _ _ | refine x3_below_drewN ?_ _ | refine Below.setCell ?_ (by first | (simp; done) | (simp; omega) | omega) _ | refine Below.drew ?_ | refine x3_below_end ?_ (by assumption) | refine x3_ball ?_ _)
    clear hb1
    obtain ⟨a0, a1, a2, a3, a4⟩ := pA.f5
    obtain ⟨c0, c1, c2⟩ := pC.f3
    go_wp2
    go_ret2
    refine ⟨?_, hB⟩
    rw [e1.out]
    first | rfl | (simp only [wa, wb, wc, wd])
end Go.Proofs.YtdjhegmkmopnfaaDoor
