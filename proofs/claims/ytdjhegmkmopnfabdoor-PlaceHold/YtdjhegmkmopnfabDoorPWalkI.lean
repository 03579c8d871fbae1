/- The contracts of Index, Meet, One. -/
import Derived.Test.YtdjhegmkmopnfabDoorPWalkD
import Derived.Test.YtdjhegmkmopnfabDoorPPlainB
namespace Go.Proofs.YtdjhegmkmopnfabDoor
open Go.RowKit
set_option linter.unusedVariables false

abbrev IxS (k : Nat) (s t l b r cs cr cc : Int) (W : World) : Prop :=
  W.cell? ⟨k, 0, none⟩ = some (.int .i64 s) ∧ W.cell? ⟨k, 1, none⟩ = some (.int .i64 t) ∧ W.cell? ⟨k, 2, none⟩ = some (.int .i64 l) ∧ W.cell? ⟨k, 3, none⟩ = some (.int .i64 b) ∧ W.cell? ⟨k, 4, none⟩ = some (.int .i64 r) ∧ W.cell? ⟨k + 1, 0, none⟩ = some (.int .i64 cs) ∧ W.cell? ⟨k + 1, 1, none⟩ = some (.int .i64 cr) ∧ W.cell? ⟨k + 1, 2, none⟩ = some (.int .i64 cc)
theorem IxS_below {k : Nat} {s t l b r cs cr cc : Int} {W W' : World} (hb : Below W.heap.size W W') (h : IxS k  s t l b r cs cr cc  W) : IxS k  s t l b r cs cr cc  W' :=
  ⟨cell_below hb (h.1), cell_below hb (h.2.1), cell_below hb (h.2.2.1), cell_below hb (h.2.2.2.1), cell_below hb (h.2.2.2.2.1), cell_below hb (h.2.2.2.2.2.1), cell_below hb (h.2.2.2.2.2.2.1), cell_below hb (h.2.2.2.2.2.2.2)⟩
theorem IxS_drew {k : Nat} {s t l b r cs cr cc : Int} {W : World} (h : IxS k  s t l b r cs cr cc  W) : IxS k  s t l b r cs cr cc  W.drew := IxS_below (Below.refl _ _).drew h
theorem IxS_alloc {k : Nat} {s t l b r cs cr cc : Int} {W : World} (h : IxS k  s t l b r cs cr cc  W) (o : Obj) : IxS k  s t l b r cs cr cc  (W.alloc o) := IxS_below ((Below.refl _ _).alloc (Nat.le_refl _) _) h
theorem IxS_mk {k : Nat} {s t l b r cs cr cc : Int} {W : World} (h0 : AtL W (k) [.int .i64 s, .int .i64 t, .int .i64 l, .int .i64 b, .int .i64 r]) (h1 : AtL W (k + 1) [.int .i64 cs, .int .i64 cr, .int .i64 cc]) : IxS k  s t l b r cs cr cc  W :=
  ⟨h0.2.1 0 _ rfl, h0.2.1 1 _ rfl, h0.2.1 2 _ rfl, h0.2.1 3 _ rfl, h0.2.1 4 _ rfl, h1.2.1 0 _ rfl, h1.2.1 1 _ rfl, h1.2.1 2 _ rfl⟩

set_option maxHeartbeats 1600000 in
theorem pindex_any (s t l b r cs cr cc : Int) (w : World) :
    Calls Tryd.prog 19 #[.agg #[.int .i64 s, .int .i64 t, .int .i64 l, .int .i64 b, .int .i64 r], .agg #[.int .i64 cs, .int .i64 cr, .int .i64 cc]] w fun e w' => e = .returned (.tuple #[.int .i64 (Wpl.indexV s t l b r cs cr cc), .bool (Wpl.hasA s t l b r cs cr cc)]) ∧ Below w.heap.size w w' := by
  have H := fun w => has_any s t l b r cs cr cc w
  cases h : Wpl.hasA s t l b r cs cr cc with
  | false =>
    have e1 : Hid (Wpl.indexV s t l b r cs cr cc = 0) := by show _ = _; unfold Wpl.indexV; rw [h]; rfl
    rw [h] at H; clear h
    go_enter Tryd.func19, Tryd.ntmps19
    go_wp2_with fail
    refine (H _).mono ?_
    rintro e w1 ⟨rfl, hb1⟩
    go_wp2
    go_ret2
    exact ⟨by rw [e1.out]; rfl, by with_reducible repeat (first | exact Below.refl _ _ | refine x3_below_drewN ?_ _ | refine Below.setCell ?_ (by first | (simp; done) | (simp; omega) | omega) _ | refine Below.drew ?_ | refine x3_below_end ?_ (by assumption) | refine x3_ball ?_ _)⟩
  | true =>
    have e1 : Hid (Wpl.indexV s t l b r cs cr cc = (cr - t) * (r - l + 1) + cc - l) := by show _ = _; unfold Wpl.indexV; rw [h]; rfl
    have hi := Wpl.index_in h
    have hz := Wpl.sizeA_le s t l b r
    obtain ⟨ha, hs, h1, h2, h3, h4⟩ := Wpl.hasA_iff.1 h
    have hr := Wpl.rightA_iff.1 ha
    have Wd := fun w => width_any s t l b r w (by omega) (by omega) (by omega)
    have wa : IntKind.i64.wrap (cr - t) = cr - t := IntWalk.i64_in _ (by omega)
    have wb : IntKind.i64.wrap ((cr - t) * (r - l + 1)) = (cr - t) * (r - l + 1) := IntWalk.i64_in _ (by omega)
    have wc : IntKind.i64.wrap ((cr - t) * (r - l + 1) + cc) = (cr - t) * (r - l + 1) + cc := IntWalk.i64_in _ (by omega)
    have wd : IntKind.i64.wrap ((cr - t) * (r - l + 1) + cc - l) = (cr - t) * (r - l + 1) + cc - l := IntWalk.i64_in _ (by omega)
    rw [h] at H; clear h ha hs hz
    go_enter Tryd.func19, Tryd.ntmps19
    go_wp2_with fail
    refine (H _).mono ?_
    rintro e w1 ⟨rfl, hb1⟩
    have pA : AtL w1 w.heap.size [.int .i64 s, .int .i64 t, .int .i64 l, .int .i64 b, .int .i64 r] := AtL.below hb1 ((AtL.new0 w _ _).alloc _)
    have pC : AtL w1 (w.heap.size + 1) [.int .i64 cs, .int .i64 cr, .int .i64 cc] := AtL.below hb1 (AtL.new1 w _ _ _)
    have hB : Below w.heap.size w w1 := by with_reducible repeat (first | exact Below.refl _ _ | refine x3_below_drewN ?_ _ | refine Below.setCell ?_ (by first | (simp; done) | (simp; omega) | omega) _ | refine Below.drew ?_ | refine x3_below_end ?_ (by assumption) | refine x3_ball ?_ _)
    clear hb1
    have hS := IxS_mk pA pC
    clear pA pC
    go_wp2_with fail
    go_region_held3 (IxS w.heap.size s t l b r cs cr cc)
      (with_reducible first | exact hS | assumption | exact IxS_drew hS | exact IxS_below hb (by assumption))
      (first
      | (go_at_call 31; refine (Wd _).mono ?_; rintro e w4 ⟨rfl, hb⟩; (with_reducible first | replace hB := x3_below_end hB hb | replace hB := x3_below_end hB.drew hb)))
    all_goals
      go_wp2
      go_ret2
      refine ⟨?_, hB⟩
      rw [e1.out]
      first | rfl | (simp only [wa, wb, wc, wd])

/-- One -/
theorem hull1_ok (s r c : Int) : Wpl.hullOk (fun _ => ⟨s, r, c⟩) 1 = Wpl.rightC s r c := by
  simp [Wpl.hullOk, Wpl.anyN, Wpl.lacks]
def oneV (s r c : Int) : Wpl.Ar := if Wpl.rightC s r c then ⟨s, r, c, r, c⟩ else Wpl.nullA
theorem hull1_V (s r c : Int) : Wpl.hullV (fun _ => ⟨s, r, c⟩) 1 = oneV s r c := by
  unfold Wpl.hullV oneV; rw [hull1_ok]; rfl
theorem one_cells {W : World} {k : Nat} {s r c : Int} (h : AtL W k [.int .i64 s, .int .i64 r, .int .i64 c]) : Cells W k 0 1 (fun _ => ⟨s, r, c⟩) := fun j hj => by
  obtain rfl : j = 0 := by omega
  exact ⟨h.2.1 0 _ rfl, h.2.1 1 _ rfl, h.2.1 2 _ rfl⟩
end Go.Proofs.YtdjhegmkmopnfabDoor