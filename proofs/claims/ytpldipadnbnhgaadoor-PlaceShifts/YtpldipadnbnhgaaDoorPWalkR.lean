/- The contract of RightArea. -/
import Derived.Test.YtpldipadnbnhgaaDoorPWalkH
namespace Go.Proofs.YtpldipadnbnhgaaDoor
open Go.RowKit
set_option linter.unusedVariables false

theorem corner_cells {W : World} {k : Nat} {s t l b r : Int} (h : AtL W k [.int .i64 s, .int .i64 t, .int .i64 l, .int .i64 s, .int .i64 b, .int .i64 r]) : Cells W k 0 2 (Wpl.corners s t l b r) := fun j hj => by
  rcases (show j = 0 ∨ j = 1 by omega) with rfl | rfl
  · exact ⟨h.2.1 0 _ rfl, h.2.1 1 _ rfl, h.2.1 2 _ rfl⟩
  · exact ⟨h.2.1 3 _ rfl, h.2.1 4 _ rfl, h.2.1 5 _ rfl⟩

set_option maxHeartbeats 1600000 in
theorem rightArea_any (s t l b r : Int) (w : World) :
    Calls Tryd.prog 12 #[.agg #[.int .i64 s, .int .i64 t, .int .i64 l, .int .i64 b, .int .i64 r]] w fun e w' => e = .returned (.bool (Wpl.rightA s t l b r)) ∧ Below w.heap.size w w' := by
  have RH : Hid ((Wpl.hullOk (Wpl.corners s t l b r) 2 && Wpl.isA (Wpl.hullV (Wpl.corners s t l b r) 2) s t l b r) = Wpl.rightA s t l b r) := Wpl.rightA_hull s t l b r
  have HL := fun (k : Nat) (w : World) (hk : AtL w k [.int .i64 s, .int .i64 t, .int .i64 l, .int .i64 s, .int .i64 b, .int .i64 r]) => hull_any k 0 2 2 (Wpl.corners s t l b r) w (by omega) (by omega) (by omega) (by omega) hk.lt (corner_cells hk)
  generalize Wpl.rightA s t l b r = A at *
  generalize Wpl.hullOk (Wpl.corners s t l b r) 2 = ok at *
  generalize Wpl.hullV (Wpl.corners s t l b r) 2 = V at *
  obtain ⟨v0, v1, v2, v3, v4⟩ := V
  go_enter Tryd.func12, Tryd.ntmps12
  go_wp2_with fail
  have pA := AtL.new w 25 rfl [.int .i64 s, .int .i64 t, .int .i64 l, .int .i64 b, .int .i64 r]
  have hB : Below w.heap.size w (w.alloc (.cells #[.int .i64 s, .int .i64 t, .int .i64 l, .int .i64 b, .int .i64 r] 25)) := (Below.refl _ _).alloc (Nat.le_refl _) _
  generalize w.alloc (.cells #[.int .i64 s, .int .i64 t, .int .i64 l, .int .i64 b, .int .i64 r] 25) = W0 at *
  go_cut [3, 4] (fun s3 s4 wx => ∃ K : Nat, s3 = .pointer (some ⟨K, 0, none⟩) ∧ s4 = .bool ok ∧ Below w.heap.size w wx ∧ Five wx K (.int .i64 v0) (.int .i64 v1) (.int .i64 v2) (.int .i64 v3) (.int .i64 v4) ∧ Five wx w.heap.size (.int .i64 s) (.int .i64 t) (.int .i64 l) (.int .i64 b) (.int .i64 r))
  case first =>
    obtain ⟨a0, a1, a2, a3, a4, _, _, _, _, _⟩ := pA.five
    have z0 := pA.lt
    go_region_held3 (fun W => W.cell? ⟨w.heap.size, 0, none⟩ = some (.int .i64 s) ∧ W.cell? ⟨w.heap.size, 1, none⟩ = some (.int .i64 t) ∧ W.cell? ⟨w.heap.size, 2, none⟩ = some (.int .i64 l) ∧ W.cell? ⟨w.heap.size, 3, none⟩ = some (.int .i64 b) ∧ W.cell? ⟨w.heap.size, 4, none⟩ = some (.int .i64 r))
      (with_reducible first | exact ⟨a0, a1, a2, a3, a4⟩ | assumption | exact five_alloc (by assumption) _ | exact five_drew ⟨a0, a1, a2, a3, a4⟩ | exact five_drew (five_alloc ⟨a0, a1, a2, a3, a4⟩ _) | exact five_below hb1 (by assumption) | exact five_below hb2 (by assumption) | exact five_below hb3 (by assumption) | exact five_alloc s3 _ | exact five_far (five_far (five_far (five_far (five_far s3 (by omega) _ _) (by omega) _ _) (by omega) _ _) (by omega) _ _) (by omega) _ _)
      (first
      | (go_at_call 52; refine (first_any _ _ _ _ _ _).mono ?_; rintro e w1 ⟨rfl, hb1⟩; have z1 := hb1.size; try simp only [World.size_alloc, World.size_drew] at z1; (with_reducible first | have pK := AtL.below hb1 ((AtL.new0 W0 25 [.int .i64 0, .int .i64 0, .int .i64 0, .int .i64 0, .int .i64 0]).drew) | skip))
      | (go_at_call 53; refine (last_any _ _ _ _ _ _).mono ?_; rintro e w2 ⟨rfl, hb2⟩; have z2 := hb2.size; try simp only [World.size_alloc] at z2; (first | have pL := AtL.below hb2 pK | (with_reducible have pL := AtL.below hb2 (AtL.new0 w1 25 [.int .i64 0, .int .i64 0, .int .i64 0, .int .i64 0, .int .i64 0])) | skip))
      | (go_at_call 36; refine (HL _ _ (by with_reducible first | exact AtL.new0 _ _ _ | exact (AtL.new0 _ _ _).alloc _ | exact AtL.new1 _ _ _ _)).mono ?_; rintro e w3 ⟨rfl, hb3⟩; have z3 := hb3.size; try simp only [World.size_alloc] at z3; have s3 : Five w3 w.heap.size (.int .i64 s) (.int .i64 t) (.int .i64 l) (.int .i64 b) (.int .i64 r) := five_below hb3 (by assumption); (first | have pM := AtL.below hb3 (AtL.alloc pL _) | have pM := AtL.below hb3 (AtL.alloc (AtL.below hb2 pK) _) | (with_reducible have pM := AtL.below hb3 ((AtL.new0 w2 25 [.int .i64 0, .int .i64 0, .int .i64 0, .int .i64 0, .int .i64 0]).alloc _)) | (with_reducible have pM := AtL.below hb3 (AtL.new1 w2 _ 25 [.int .i64 0, .int .i64 0, .int .i64 0, .int .i64 0, .int .i64 0])) | skip); (first | obtain ⟨k0, k1, k2, k3, k4, f0, f1, f2, f3, f4⟩ := pM.five | skip)))
    all_goals
      go_wp2_with fail
      go_meet
      case rel =>
        go_light
        refine ⟨_, rfl, rfl, ?_, ?_, ?_⟩
        · have hB3 : Below w.heap.size w w3 := by with_reducible repeat (first | exact Below.refl _ _ | refine below_drewN ?_ _ | refine Below.setCell ?_ (by first | (simp; done) | (simp; omega) | omega) _ | refine Below.drew ?_ | refine below_end ?_ (by assumption) | refine ball ?_ _)
          with_reducible first | exact ball hB3 _ | exact put5_below hB3 (by omega) _ _ _ _ _
        · with_reducible first | exact (AtL.new0 _ _ _).f5 | exact (pM.put5 _ _ _ _ _).f5
        · with_reducible first | exact five_alloc s3 _ | exact five_far (five_far (five_far (five_far (five_far s3 (by omega) _ _) (by omega) _ _) (by omega) _ _) (by omega) _ _) (by omega) _ _
  case rest =>
    obtain ⟨K, rfl, rfl, hB', k5, a5⟩ := hcut
    clear pA hB HL
    obtain ⟨k0, k1, k2, k3, k4⟩ := k5
    obtain ⟨a0, a1, a2, a3, a4⟩ := a5
    cases ok with
    | false =>
      go_wp2
      go_ret
      exact ⟨by rw [← RH.out]; rfl, by with_reducible repeat (first | exact Below.refl _ _ | refine below_drewN ?_ _ | refine Below.setCell ?_ (by first | (simp; done) | (simp; omega) | omega) _ | refine Below.drew ?_ | refine below_end ?_ (by assumption) | refine ball ?_ _)⟩
    | true =>
      go_wp2
      all_goals
        go_ret
        refine ⟨?_, by with_reducible repeat (first | exact Below.refl _ _ | refine below_drewN ?_ _ | refine Below.setCell ?_ (by first | (simp; done) | (simp; omega) | omega) _ | refine Below.drew ?_ | refine below_end ?_ (by assumption) | refine ball ?_ _)⟩
        rw [← RH.out]
        exact ret_bool (by simp [Wpl.isA, *])
end Go.Proofs.YtpldipadnbnhgaaDoor
