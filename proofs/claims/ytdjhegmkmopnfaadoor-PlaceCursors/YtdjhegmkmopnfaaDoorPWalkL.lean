/- The contracts of the document's cursor. -/
import Derived.Test.YtdjhegmkmopnfaaDoorPWalkO
import Derived.Test.YtdjhegmkmopnfaaDoorPWalkK
namespace Go.Proofs.YtdjhegmkmopnfaaDoor
open Go.RowKit
set_option linter.unusedVariables false

theorem AtL.six {W : World} {k : Nat} {a b c d e f : Value} (h : AtL W k [a, b, c, d, e, f]) :
    W.cell? ⟨k, 0, none⟩ = some a ∧ W.cell? ⟨k, 1, none⟩ = some b ∧ W.cell? ⟨k, 2, none⟩ = some c ∧ W.cell? ⟨k, 3, none⟩ = some d ∧ W.cell? ⟨k, 4, none⟩ = some e ∧ W.cell? ⟨k, 5, none⟩ = some f ∧ W.frozen? ⟨k, 5, none⟩ = false :=
  ⟨h.2.1 0 a rfl, h.2.1 1 b rfl, h.2.1 2 c rfl, h.2.1 3 d rfl, h.2.1 4 e rfl, h.2.1 5 f rfl, h.2.2 5 (by simp)⟩
abbrev RcS (k : Nat) (s t l b r n : Int) (W : World) : Prop :=
  W.cell? ⟨k, 0, none⟩ = some (.int .i64 s) ∧ W.cell? ⟨k, 1, none⟩ = some (.int .i64 t) ∧ W.cell? ⟨k, 2, none⟩ = some (.int .i64 l) ∧ W.cell? ⟨k, 3, none⟩ = some (.int .i64 b) ∧ W.cell? ⟨k, 4, none⟩ = some (.int .i64 r) ∧ W.cell? ⟨k, 5, none⟩ = some (.int .i64 n)
theorem RcS_below {k : Nat} {s t l b r n : Int} {W W' : World} (hb : Below W.heap.size W W') (h : RcS k  s t l b r n  W) : RcS k  s t l b r n  W' :=
  ⟨cell_below hb (h.1), cell_below hb (h.2.1), cell_below hb (h.2.2.1), cell_below hb (h.2.2.2.1), cell_below hb (h.2.2.2.2.1), cell_below hb (h.2.2.2.2.2)⟩
theorem RcS_drew {k : Nat} {s t l b r n : Int} {W : World} (h : RcS k  s t l b r n  W) : RcS k  s t l b r n  W.drew := RcS_below (Below.refl _ _).drew h
theorem RcS_alloc {k : Nat} {s t l b r n : Int} {W : World} (h : RcS k  s t l b r n  W) (o : Obj) : RcS k  s t l b r n  (W.alloc o) := RcS_below ((Below.refl _ _).alloc (Nat.le_refl _) _) h
theorem RcS_mk {k : Nat} {s t l b r n : Int} {W : World} (h0 : AtL W (k) [.int .i64 s, .int .i64 t, .int .i64 l, .int .i64 b, .int .i64 r, .int .i64 n]) : RcS k  s t l b r n  W :=
  ⟨h0.2.1 0 _ rfl, h0.2.1 1 _ rfl, h0.2.1 2 _ rfl, h0.2.1 3 _ rfl, h0.2.1 4 _ rfl, h0.2.1 5 _ rfl⟩
theorem RcS_far {k : Nat} {s t l b r n : Int} {W : World} (h : RcS k s t l b r n W) {j : Nat} (hj : j ≠ k) (o : Nat) (v : Value) : RcS k s t l b r n (W.setCell ⟨j, o, none⟩ v) := by
  obtain ⟨h0, h1, h2, h3, h4, h5⟩ := h
  refine ⟨?_, ?_, ?_, ?_, ?_, ?_⟩ <;> rw [World.cell?_setCell_far _ _ _ _ (by simpa using hj)] <;> assumption
theorem RcS_far3 {k : Nat} {s t l b r n : Int} {W : World} (h : RcS k s t l b r n W) {j : Nat} (hj : j ≠ k) (x y z : Value) : RcS k s t l b r n (((W.setCell ⟨j, 0, none⟩ x).setCell ⟨j, 1, none⟩ y).setCell ⟨j, 2, none⟩ z) :=
  RcS_far (RcS_far (RcS_far h hj _ _) hj _ _) hj _ _

theorem rover_any (s t l b r : Int) (w : World) :
    Calls Tryd.prog 43 #[.agg #[.int .i64 s, .int .i64 t, .int .i64 l, .int .i64 b, .int .i64 r]] w fun e w' => ∃ k : Nat, e = .returned (.pointer (some ⟨k, 0, none⟩)) ∧ w.heap.size ≤ k ∧ AtL w' k [.int .i64 s, .int .i64 t, .int .i64 l, .int .i64 b, .int .i64 r, .int .i64 0] ∧ Below w.heap.size w w' := by
  go_enter Tryd.func43, Tryd.ntmps43
  go_wp2
  go_ret
  exact ⟨_, rfl, by omega, AtL.new1 w _ _ _, by with_reducible repeat (first | exact Below.refl _ _ | refine x3_below_drewN ?_ _ | refine Below.setCell ?_ (by first | (simp; done) | (simp; omega) | omega) _ | refine Below.drew ?_ | refine x3_below_end ?_ (by assumption) | refine x3_ball ?_ _)⟩

theorem rpassed_any (k : Nat) (s t l b r n : Int) (w : World) (hA : AtL w k [.int .i64 s, .int .i64 t, .int .i64 l, .int .i64 b, .int .i64 r, .int .i64 n]) :
    Calls Tryd.prog 66 #[.pointer (some ⟨k, 0, none⟩)] w fun e w' => e = .returned (.int .i64 n) ∧ Below w.heap.size w w' := by
  obtain ⟨_, _, _, _, _, a5, _⟩ := hA.six
  go_enter Tryd.func66, Tryd.ntmps66
  go_wp2
  go_ret
  exact ⟨rfl, by with_reducible repeat (first | exact Below.refl _ _ | refine x3_below_drewN ?_ _ | refine Below.setCell ?_ (by first | (simp; done) | (simp; omega) | omega) _ | refine Below.drew ?_ | refine x3_below_end ?_ (by assumption) | refine x3_ball ?_ _)⟩

set_option maxHeartbeats 800000 in
theorem rleft_any (k : Nat) (s t l b r n : Int) (w : World) (hA : AtL w k [.int .i64 s, .int .i64 t, .int .i64 l, .int .i64 b, .int .i64 r, .int .i64 n]) (h0 : 0 ≤ n) (h1 : n ≤ Wpl.sizeA s t l b r) :
    Calls Tryd.prog 67 #[.pointer (some ⟨k, 0, none⟩)] w fun e w' => e = .returned (.int .i64 (Wpl.sizeA s t l b r - n)) ∧ Below w.heap.size w w' := by
  have S := fun w => rsize_any s t l b r w
  have hz := Wpl.sizeA_le s t l b r
  generalize Wpl.sizeA s t l b r = z at *
  have hw : IntKind.i64.wrap (z - n) = z - n := IntWalk.i64_in _ (by omega)
  have hS := RcS_mk hA
  have hB : Below w.heap.size w w := Below.refl _ _
  go_enter Tryd.func67, Tryd.ntmps67
  go_wp2_with fail
  go_region_held3 (RcS k s t l b r n)
    (with_reducible first | exact hS | assumption | exact RcS_drew hS | exact RcS_below hb (by assumption))
    (first
    | (go_at_call 33; refine (S _).mono ?_; rintro e w4 ⟨rfl, hb⟩; (with_reducible first | replace hB := x3_below_end hB hb | replace hB := x3_below_end hB.drew hb)))
  all_goals
    go_wp2
    go_ret
    exact ⟨by first | rfl | (simp only [hw]), hB⟩

set_option maxHeartbeats 1600000 in
theorem rpeek_any (k : Nat) (s t l b r n : Int) (w : World) (hA : AtL w k [.int .i64 s, .int .i64 t, .int .i64 l, .int .i64 b, .int .i64 r, .int .i64 n]) :
    Calls Tryd.prog 65 #[.pointer (some ⟨k, 0, none⟩)] w fun e w' => e = .returned (.tuple #[.agg #[.int .i64 (Wpl.atV s t l b r n).s, .int .i64 (Wpl.atV s t l b r n).r, .int .i64 (Wpl.atV s t l b r n).c], .bool (Wpl.atOk s t l b r n)]) ∧ Below w.heap.size w w' := by
  have S := fun w => rat_any s t l b r n w
  generalize Wpl.atV s t l b r n = V at *
  generalize Wpl.atOk s t l b r n = ok at *
  obtain ⟨v0, v1, v2⟩ := V
  have hk := hA.lt
  have pR := AtL.new0 w 23 [.int .i64 0, .int .i64 0, .int .i64 0]
  have hS := RcS_alloc (RcS_mk hA) (.cells #[.int .i64 0, .int .i64 0, .int .i64 0] 23)
  have hB : Below w.heap.size w (w.alloc (.cells #[.int .i64 0, .int .i64 0, .int .i64 0] 23)) := x3_ball (Below.refl _ _) _
  go_enter Tryd.func65, Tryd.ntmps65
  go_wp2_with fail
  generalize w.alloc (.cells #[.int .i64 0, .int .i64 0, .int .i64 0] 23) = W at *
  go_region_held3 (RcS k s t l b r n)
    (with_reducible first | exact hS | assumption | exact RcS_drew hS | exact RcS_below hb (by assumption) | exact RcS_far3 sA (by omega) _ _ _)
    (first
    | (go_at_call 29; refine (S _).mono ?_; rintro e w4 ⟨rfl, hb⟩; (with_reducible first | replace pR := AtL.below hb pR | replace pR := AtL.below hb (AtL.drew pR)); (with_reducible first | replace hB := x3_below_end hB hb | replace hB := x3_below_end hB.drew hb); have sA : RcS k s t l b r n w4 := RcS_below hb (by assumption); obtain ⟨c0, c1, c2, f0, f1, f2⟩ := pR.three))
  all_goals
    go_wp2
    refine bodyPost_ret (v := .tuple #[.agg #[.int .i64 v0, .int .i64 v1, .int .i64 v2], .bool ok]) (by simp [results, Tryd.results65, go_sem, c0, c1, c2]) rfl ⟨rfl, ?_⟩
    exact put3_below hB (by omega) _ _ _

set_option maxHeartbeats 1600000 in
theorem rskip_any (k : Nat) (x s t l b r n : Int) (w : World) (hA : AtL w k [.int .i64 s, .int .i64 t, .int .i64 l, .int .i64 b, .int .i64 r, .int .i64 n]) (h0 : 0 ≤ n) (h1 : n ≤ Wpl.sizeA s t l b r) :
    Calls Tryd.prog 50 #[.pointer (some ⟨k, 0, none⟩), .int .i64 x] w fun e w' => e = .returned (.int .i64 (skipN x n (Wpl.sizeA s t l b r))) ∧ Below w.heap.size (w.setCell ⟨k, 5, none⟩ (.int .i64 (n + skipN x n (Wpl.sizeA s t l b r)))) w' := by
  have HL := fun w h => rleft_any k s t l b r n w h h0 h1
  have hz := Wpl.sizeA_le s t l b r
  generalize Wpl.sizeA s t l b r = z at *
  by_cases hx : x < 0
  · have E : Hid (skipN x n z = 0) := by show _ = _; unfold skipN; omega
    have hy : ¬ z - n < x := by omega
    have hif : (if z - n < x then z - n else x) = x := if_neg hy
    go_enter Tryd.func50, Tryd.ntmps50
    go_wp2_with fail
    refine (HL _ hA).mono ?_
    rintro e w1 ⟨rfl, hb1⟩
    have pA := AtL.below hb1 hA
    obtain ⟨a0, a1, a2, a3, a4, a5, g5⟩ := AtL.six pA
    go_wp2
    all_goals first | (exfalso; omega) | skip
    go_ret
    rw [E.out]
    refine ⟨rfl, ?_⟩
    have := set_same hb1 ⟨k, 5, none⟩ (.int .i64 (n + 0))
    simpa using this
  by_cases hy : z - n < x
  · have E : Hid (skipN x n z = z - n) := by show _ = _; unfold skipN; omega
    go_enter Tryd.func50, Tryd.ntmps50
    go_wp2_with fail
    refine (HL _ hA).mono ?_
    rintro e w1 ⟨rfl, hb1⟩
    have pA := AtL.below hb1 hA
    obtain ⟨a0, a1, a2, a3, a4, a5, g5⟩ := AtL.six pA
    go_wp2
    all_goals
      go_ret
      rw [E.out]
      first
      | exact ⟨rfl, set_same hb1 ⟨k, 5, none⟩ _⟩
      | (have e0 : z - n = 0 := by omega
         rw [e0]
         have := set_same hb1 ⟨k, 5, none⟩ (.int .i64 (n + 0))
         exact ⟨rfl, by simpa using this⟩)
  · have E : Hid (skipN x n z = x) := by show _ = _; unfold skipN; omega
    have hif : (if z - n < x then z - n else x) = x := if_neg hy
    go_enter Tryd.func50, Tryd.ntmps50
    go_wp2_with fail
    refine (HL _ hA).mono ?_
    rintro e w1 ⟨rfl, hb1⟩
    have pA := AtL.below hb1 hA
    obtain ⟨a0, a1, a2, a3, a4, a5, g5⟩ := AtL.six pA
    go_wp2
    all_goals
      go_ret
      rw [E.out]
      first
      | exact ⟨rfl, set_same hb1 ⟨k, 5, none⟩ _⟩
      | (have e0 : x = 0 := by omega
         rw [e0]
         have := set_same hb1 ⟨k, 5, none⟩ (.int .i64 (n + 0))
         exact ⟨rfl, by simpa using this⟩)
end Go.Proofs.YtdjhegmkmopnfaaDoor
