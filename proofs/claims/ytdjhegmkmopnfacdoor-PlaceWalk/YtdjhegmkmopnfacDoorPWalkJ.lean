/- The contracts of a cursor: Over, Left, Passed, Peek, Next, Skip. -/
import Derived.Test.YtdjhegmkmopnfacDoorPWalkG
namespace Go.Proofs.YtdjhegmkmopnfacDoor
open Go.RowKit
set_option linter.unusedVariables false

theorem AtL.seven {W : World} {k : Nat} {a b c d e f g : Value} (h : AtL W k [a, b, c, d, e, f, g]) :
    W.cell? ⟨k, 0, none⟩ = some a ∧ W.cell? ⟨k, 1, none⟩ = some b ∧ W.cell? ⟨k, 2, none⟩ = some c ∧ W.cell? ⟨k, 3, none⟩ = some d ∧ W.cell? ⟨k, 4, none⟩ = some e ∧ W.cell? ⟨k, 5, none⟩ = some f ∧ W.cell? ⟨k, 6, none⟩ = some g ∧ W.frozen? ⟨k, 5, none⟩ = false :=
  ⟨h.2.1 0 a rfl, h.2.1 1 b rfl, h.2.1 2 c rfl, h.2.1 3 d rfl, h.2.1 4 e rfl, h.2.1 5 f rfl, h.2.1 6 g rfl, h.2.2 5 (by simp)⟩

/-- The cell that comes next, and whether there is one. -/
def curV (s t l r n z : Int) : Wpl.Cl := if n < z then Wpl.num s t l r n else Wpl.nullC

set_option maxHeartbeats 800000 in
theorem left_any (k : Nat) (s t l b r n z : Int) (w : World) (hA : AtL w k [.int .i64 s, .int .i64 t, .int .i64 l, .int .i64 b, .int .i64 r, .int .i64 n, .int .i64 z]) (h0 : 0 ≤ n) (h1 : n ≤ z) (h2 : z ≤ 16777216) :
    Calls Tryd.prog 9 #[.pointer (some ⟨k, 0, none⟩)] w fun e w' => e = .returned (.int .i64 (z - n)) ∧ Below w.heap.size w w' := by
  obtain ⟨_, _, _, _, _, a5, a6, _⟩ := hA.seven
  go_enter Tryd.func9, Tryd.ntmps9
  go_wp2_with fail
  go_region
  all_goals
    go_wp2
    go_ret
    exact ⟨by first | rfl | (congr 2; omega), by with_reducible repeat (first | exact Below.refl _ _ | refine x3_below_drewN ?_ _ | refine Below.setCell ?_ (by first | (simp; done) | (simp; omega) | omega) _ | refine Below.drew ?_ | refine x3_below_end ?_ (by assumption) | refine x3_ball ?_ _)⟩

theorem passed_any (k : Nat) (s t l b r n z : Int) (w : World) (hA : AtL w k [.int .i64 s, .int .i64 t, .int .i64 l, .int .i64 b, .int .i64 r, .int .i64 n, .int .i64 z]) :
    Calls Tryd.prog 8 #[.pointer (some ⟨k, 0, none⟩)] w fun e w' => e = .returned (.int .i64 n) ∧ Below w.heap.size w w' := by
  obtain ⟨_, _, _, _, _, a5, a6, _⟩ := hA.seven
  go_enter Tryd.func8, Tryd.ntmps8
  go_wp2
  go_ret
  exact ⟨rfl, by with_reducible repeat (first | exact Below.refl _ _ | refine x3_below_drewN ?_ _ | refine Below.setCell ?_ (by first | (simp; done) | (simp; omega) | omega) _ | refine Below.drew ?_ | refine x3_below_end ?_ (by assumption) | refine x3_ball ?_ _)⟩
/- MORE -/
abbrev CuS (k : Nat) (s t l b r n z : Int) (W : World) : Prop :=
  W.cell? ⟨k, 0, none⟩ = some (.int .i64 s) ∧ W.cell? ⟨k, 1, none⟩ = some (.int .i64 t) ∧ W.cell? ⟨k, 2, none⟩ = some (.int .i64 l) ∧ W.cell? ⟨k, 3, none⟩ = some (.int .i64 b) ∧ W.cell? ⟨k, 4, none⟩ = some (.int .i64 r) ∧ W.cell? ⟨k, 5, none⟩ = some (.int .i64 n) ∧ W.cell? ⟨k, 6, none⟩ = some (.int .i64 z)
theorem CuS_below {k : Nat} {s t l b r n z : Int} {W W' : World} (hb : Below W.heap.size W W') (h : CuS k  s t l b r n z  W) : CuS k  s t l b r n z  W' :=
  ⟨cell_below hb (h.1), cell_below hb (h.2.1), cell_below hb (h.2.2.1), cell_below hb (h.2.2.2.1), cell_below hb (h.2.2.2.2.1), cell_below hb (h.2.2.2.2.2.1), cell_below hb (h.2.2.2.2.2.2)⟩
theorem CuS_drew {k : Nat} {s t l b r n z : Int} {W : World} (h : CuS k  s t l b r n z  W) : CuS k  s t l b r n z  W.drew := CuS_below (Below.refl _ _).drew h
theorem CuS_alloc {k : Nat} {s t l b r n z : Int} {W : World} (h : CuS k  s t l b r n z  W) (o : Obj) : CuS k  s t l b r n z  (W.alloc o) := CuS_below ((Below.refl _ _).alloc (Nat.le_refl _) _) h
theorem CuS_mk {k : Nat} {s t l b r n z : Int} {W : World} (h0 : AtL W (k) [.int .i64 s, .int .i64 t, .int .i64 l, .int .i64 b, .int .i64 r, .int .i64 n, .int .i64 z]) : CuS k  s t l b r n z  W :=
  ⟨h0.2.1 0 _ rfl, h0.2.1 1 _ rfl, h0.2.1 2 _ rfl, h0.2.1 3 _ rfl, h0.2.1 4 _ rfl, h0.2.1 5 _ rfl, h0.2.1 6 _ rfl⟩
theorem CuS_far {k : Nat} {s t l b r n z : Int} {W : World} (h : CuS k s t l b r n z W) {j : Nat} (hj : j ≠ k) (o : Nat) (v : Value) : CuS k s t l b r n z (W.setCell ⟨j, o, none⟩ v) := by
  obtain ⟨h0, h1, h2, h3, h4, h5, h6⟩ := h
  refine ⟨?_, ?_, ?_, ?_, ?_, ?_, ?_⟩ <;> rw [World.cell?_setCell_far _ _ _ _ (by simpa using hj)] <;> assumption

set_option maxHeartbeats 1600000 in
theorem peek_any (k : Nat) (s t l b r n z : Int) (w : World) (hA : AtL w k [.int .i64 s, .int .i64 t, .int .i64 l, .int .i64 b, .int .i64 r, .int .i64 n, .int .i64 z]) (h0 : 0 ≤ n) (h1 : n ≤ z) (h2 : z ≤ 16777216) (h3 : n < z → Wpl.atOk s t l b r n = true) :
    Calls Tryd.prog 11 #[.pointer (some ⟨k, 0, none⟩)] w fun e w' => e = .returned (.tuple #[.agg #[.int .i64 (curV s t l r n z).s, .int .i64 (curV s t l r n z).r, .int .i64 (curV s t l r n z).c], .bool (decide (n < z))]) ∧ Below w.heap.size w w' := by
  have hk := hA.lt
  have E : Hid (curV s t l r n z = if n < z then Wpl.num s t l r n else Wpl.nullC) := (rfl : curV s t l r n z = _)
  generalize curV s t l r n z = V at *
  by_cases hlt : n < z
  · have F : Hid (V = Wpl.num s t l r n) := by show _ = _; rw [E.out, if_pos hlt]
    have G : Hid (decide (n < z) = true) := decide_eq_true hlt
    have Nn := fun w => numbered_any s t l b r n w (h3 hlt)
    have hz : ((z - n : Int) == 0) = false := by simp; omega
    have HL := fun w h => left_any k s t l b r n z w h h0 h1 h2
    clear E h3
    generalize Wpl.num s t l r n = U at *
    obtain ⟨u0, u1, u2⟩ := U
    go_enter Tryd.func11, Tryd.ntmps11
    go_wp2_with fail
    refine (HL _ (AtL.alloc hA _)).mono ?_
    rintro e w1 ⟨rfl, hb1⟩
    have pR : AtL w1 w.heap.size [.int .i64 0, .int .i64 0, .int .i64 0] := AtL.below hb1 (AtL.new0 w _ _)
    have pA := AtL.below hb1 (AtL.alloc hA _)
    have hB : Below w.heap.size w w1 := by with_reducible repeat (first | exact Below.refl _ _ | refine x3_below_drewN ?_ _ | refine Below.setCell ?_ (by first | (simp; done) | (simp; omega) | omega) _ | refine Below.drew ?_ | refine x3_below_end ?_ (by assumption) | refine x3_ball ?_ _)
    clear hb1 hA HL
    have hS := CuS_mk pA
    go_wp2_with fail
    go_region_held3 (CuS k s t l b r n z)
      (with_reducible first | exact hS | assumption | exact CuS_drew hS | exact CuS_below hb (by assumption) | exact CuS_far (CuS_far (CuS_far sA (by omega) _ _) (by omega) _ _) (by omega) _ _)
      (first
      | (go_at_call 20; refine (Nn _).mono ?_; rintro e w4 ⟨rfl, hb⟩; (with_reducible first | replace pR := AtL.below hb pR | replace pR := AtL.below hb (AtL.drew pR)); (with_reducible first | replace hB := x3_below_end hB hb | replace hB := x3_below_end hB.drew hb); have sA : CuS k s t l b r n z w4 := CuS_below hb (by assumption); obtain ⟨c0, c1, c2, f0, f1, f2⟩ := pR.three))
    all_goals
      go_wp2
      refine bodyPost_ret (v := .tuple #[.agg #[.int .i64 u0, .int .i64 u1, .int .i64 u2], .bool true]) (by simp [results, Tryd.results11, go_sem, c0, c1, c2]) rfl ⟨by rw [F.out, G.out], ?_⟩
      exact put3_below hB (by omega) _ _ _
  · have F : Hid (V = ⟨0, 0, 0⟩) := by show _ = _; rw [E.out, if_neg hlt]; rfl
    have G : Hid (decide (n < z) = false) := decide_eq_false hlt
    have hz : ((z - n : Int) == 0) = true := by simp; omega
    have HL := fun w h => left_any k s t l b r n z w h h0 h1 h2
    clear E h3
    go_enter Tryd.func11, Tryd.ntmps11
    go_wp2_with fail
    refine (HL _ (AtL.alloc hA _)).mono ?_
    rintro e w1 ⟨rfl, hb1⟩
    have pR : AtL w1 w.heap.size [.int .i64 0, .int .i64 0, .int .i64 0] := AtL.below hb1 (AtL.new0 w _ _)
    have hB : Below w.heap.size w w1 := by with_reducible repeat (first | exact Below.refl _ _ | refine x3_below_drewN ?_ _ | refine Below.setCell ?_ (by first | (simp; done) | (simp; omega) | omega) _ | refine Below.drew ?_ | refine x3_below_end ?_ (by assumption) | refine x3_ball ?_ _)
    clear hb1 hA HL
    obtain ⟨c0, c1, c2, f0, f1, f2⟩ := pR.three
    go_wp2
    refine bodyPost_ret (v := .tuple #[.agg #[.int .i64 0, .int .i64 0, .int .i64 0], .bool false]) (by simp [results, Tryd.results11, go_sem, c0, c1, c2]) rfl ⟨by rw [F.out, G.out], ?_⟩
    exact put3_below hB (by omega) _ _ _

theorem set_same {B : Nat} {w W : World} (h : Below B w W) (p : Addr) (v : Value) : Below B (w.setCell p v) (W.setCell p v) := by
  refine ⟨h.os, h.tape, h.output, by simpa [World.setCell] using h.size, fun i hi => ?_⟩
  simp only [World.setCell, Array.getElem?_modify, h.block i hi]
theorem set_idle {B : Nat} {w W : World} (h : Below B w W) {k o : Nat} {v : Value} (hc : w.cell? ⟨k, o, none⟩ = some v) : Below B (w.setCell ⟨k, o, none⟩ v) W := by
  refine ⟨h.os, h.tape, h.output, by simpa [World.setCell] using h.size, fun i hi => ?_⟩
  rw [h.block i hi]
  simp only [World.setCell, Array.getElem?_modify]
  by_cases e : k = i
  · subst e
    simp only [if_true]
    unfold World.cell? at hc
    simp only at hc
    cases hb : w.heap[k]? with
    | none => rfl
    | some x =>
      rw [hb] at hc
      cases x with
      | cells c t f =>
        simp only at hc
        simp only [Option.map_some, Option.isSome_none, Bool.false_eq_true, if_false, Option.some.injEq, Obj.cells.injEq, and_true]
        apply Array.ext_getElem?
        intro j
        rw [Array.getElem?_setIfInBounds]
        split
        · rename_i e; subst e
          split
          · exact hc
          · rename_i h; rw [Array.getElem?_eq_none (by omega)]
        · rfl
      | _ => first | rfl | (simp at hc)
  · simp [e]

/-- Next: behind it one more is passed, unless it was at the end. -/
def nextN (n z : Int) : Int := if n < z then n + 1 else n
set_option maxHeartbeats 1600000 in
theorem next_any (k : Nat) (s t l b r n z : Int) (w : World) (hA : AtL w k [.int .i64 s, .int .i64 t, .int .i64 l, .int .i64 b, .int .i64 r, .int .i64 n, .int .i64 z]) (h0 : 0 ≤ n) (h1 : n ≤ z) (h2 : z ≤ 16777216) (h3 : n < z → Wpl.atOk s t l b r n = true) :
    Calls Tryd.prog 12 #[.pointer (some ⟨k, 0, none⟩)] w fun e w' => e = .returned (.tuple #[.agg #[.int .i64 (curV s t l r n z).s, .int .i64 (curV s t l r n z).r, .int .i64 (curV s t l r n z).c], .bool (decide (n < z))]) ∧ Below w.heap.size (w.setCell ⟨k, 5, none⟩ (.int .i64 (nextN n z))) w' := by
  have hk := hA.lt
  have P := fun w h => peek_any k s t l b r n z w h h0 h1 h2 h3
  generalize curV s t l r n z = V at *
  obtain ⟨v0, v1, v2⟩ := V
  by_cases hlt : n < z
  · have G : Hid (nextN n z = n + 1) := by show _ = _; unfold nextN; rw [if_pos hlt]
    rw [decide_eq_true hlt] at P ⊢
    clear h3
    go_enter Tryd.func12, Tryd.ntmps12
    go_wp2_with fail
    refine (P _ (AtL.alloc hA _)).mono ?_
    rintro e w1 ⟨rfl, hb1⟩
    have pR : AtL w1 w.heap.size [.int .i64 0, .int .i64 0, .int .i64 0] := AtL.below hb1 (AtL.new0 w _ _)
    have pA := AtL.below hb1 (AtL.alloc hA _)
    have hB : Below w.heap.size w w1 := by with_reducible repeat (first | exact Below.refl _ _ | refine x3_below_drewN ?_ _ | refine Below.setCell ?_ (by first | (simp; done) | (simp; omega) | omega) _ | refine Below.drew ?_ | refine x3_below_end ?_ (by assumption) | refine x3_ball ?_ _)
    have hs := hB.size
    clear hb1 P
    obtain ⟨c0, c1, c2, f0, f1, f2⟩ := pR.three
    obtain ⟨a0, a1, a2, a3, a4, a5, a6, g5⟩ := AtL.seven pA
    have l1 := pA.lt
    have l2 := pR.lt
    have ne1 : ¬ k = w.heap.size := by omega
    have ne2 : ¬ w.heap.size = k := by omega
    have ne3 : ¬ w1.heap.size = k := by omega
    have ne4 : ¬ k = w1.heap.size := by omega
    have ne5 : ¬ w1.heap.size = w.heap.size := by omega
    go_wp2
    refine bodyPost_ret (v := .tuple #[.agg #[.int .i64 v0, .int .i64 v1, .int .i64 v2], .bool true]) (by simp [results, Tryd.results12, go_sem, c0, c1, c2, l2]) rfl ⟨rfl, ?_⟩
    rw [G.out]
    exact (put3_below (set_same hB _ _) (Nat.le_refl _) _ _ _).alloc (by simp only [World.size_setCell]; exact hB.size) _
  · have G : Hid (nextN n z = n) := by show _ = _; unfold nextN; rw [if_neg hlt]
    rw [decide_eq_false hlt] at P ⊢
    clear h3
    go_enter Tryd.func12, Tryd.ntmps12
    go_wp2_with fail
    refine (P _ (AtL.alloc hA _)).mono ?_
    rintro e w1 ⟨rfl, hb1⟩
    have pR : AtL w1 w.heap.size [.int .i64 0, .int .i64 0, .int .i64 0] := AtL.below hb1 (AtL.new0 w _ _)
    have hB : Below w.heap.size w w1 := by with_reducible repeat (first | exact Below.refl _ _ | refine x3_below_drewN ?_ _ | refine Below.setCell ?_ (by first | (simp; done) | (simp; omega) | omega) _ | refine Below.drew ?_ | refine x3_below_end ?_ (by assumption) | refine x3_ball ?_ _)
    clear hb1 P
    obtain ⟨c0, c1, c2, f0, f1, f2⟩ := pR.three
    have l2 := pR.lt
    go_wp2
    refine bodyPost_ret (v := .tuple #[.agg #[.int .i64 v0, .int .i64 v1, .int .i64 v2], .bool false]) (by simp [results, Tryd.results12, go_sem, c0, c1, c2, l2]) rfl ⟨rfl, ?_⟩
    rw [G.out]
    exact set_idle ((put3_below hB (Nat.le_refl _) _ _ _).alloc (by simp only [World.size_setCell]; exact hB.size) _) (AtL.seven hA).2.2.2.2.2.1
end Go.Proofs.YtdjhegmkmopnfacDoor
