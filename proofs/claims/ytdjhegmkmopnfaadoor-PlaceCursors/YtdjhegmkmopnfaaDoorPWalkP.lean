/- The contract of the document's Next. -/
import Derived.Test.YtdjhegmkmopnfaaDoorPWalkL
namespace Go.Proofs.YtdjhegmkmopnfaaDoor
open Go.RowKit
set_option linter.unusedVariables false

/-- How many are passed behind Next. -/
def rnextN (s t l b r n : Int) : Int := if Wpl.atOk s t l b r n then n + 1 else n
set_option maxHeartbeats 3200000 in
theorem rnext_any (k : Nat) (s t l b r n : Int) (w : World) (hA : AtL w k [.int .i64 s, .int .i64 t, .int .i64 l, .int .i64 b, .int .i64 r, .int .i64 n]) (h0 : 0 ≤ n) (h1 : n ≤ 16777216) :
    Calls Tryd.prog 49 #[.pointer (some ⟨k, 0, none⟩)] w fun e w' => e = .returned (.tuple #[.agg #[.int .i64 (Wpl.atV s t l b r n).s, .int .i64 (Wpl.atV s t l b r n).r, .int .i64 (Wpl.atV s t l b r n).c], .bool (Wpl.atOk s t l b r n)]) ∧ Below w.heap.size (w.setCell ⟨k, 5, none⟩ (.int .i64 (rnextN s t l b r n))) w' := by
  have S := fun w => rat_any s t l b r n w
  have G : Hid (rnextN s t l b r n = if Wpl.atOk s t l b r n then n + 1 else n) := (rfl : rnextN s t l b r n = _)
  generalize rnextN s t l b r n = N at *
  generalize Wpl.atV s t l b r n = V at *
  generalize Wpl.atOk s t l b r n = ok at *
  obtain ⟨v0, v1, v2⟩ := V
  have hk := hA.lt
  have pR := AtL.new0 w 23 [.int .i64 0, .int .i64 0, .int .i64 0]
  have pA := AtL.alloc hA (.cells #[.int .i64 0, .int .i64 0, .int .i64 0] 23)
  have hB : Below w.heap.size w (w.alloc (.cells #[.int .i64 0, .int .i64 0, .int .i64 0] 23)) := x3_ball (Below.refl _ _) _
  have hq : w.heap.size < (w.alloc (.cells #[.int .i64 0, .int .i64 0, .int .i64 0] 23)).heap.size := by simp
  go_enter Tryd.func49, Tryd.ntmps49
  go_wp2_with fail
  generalize w.alloc (.cells #[.int .i64 0, .int .i64 0, .int .i64 0] 23) = W at *
  go_cut [4, 5] (fun s4 s5 wx => ∃ K : Nat, s4 = .pointer (some ⟨K, 0, none⟩) ∧ s5 = .bool ok ∧ w.heap.size < K ∧ Below w.heap.size w wx ∧ AtL wx K [.int .i64 v0, .int .i64 v1, .int .i64 v2] ∧ AtL wx k [.int .i64 s, .int .i64 t, .int .i64 l, .int .i64 b, .int .i64 r, .int .i64 n] ∧ AtL wx w.heap.size [.int .i64 0, .int .i64 0, .int .i64 0])
  case first =>
    have hS := RcS_mk pA
    have lW := pA.lt
    go_region_held3 (RcS k s t l b r n)
      (with_reducible first | exact hS | assumption | exact RcS_drew hS | exact RcS_drew (RcS_alloc hS _) | exact RcS_alloc (by assumption) _ | exact RcS_below hb (by assumption) | exact RcS_far3 sA (by omega) _ _ _)
      (first
      | (go_at_call 29; refine (S _).mono ?_; rintro e w4 ⟨rfl, hb⟩;
         (with_reducible first
          | (have pK : AtL w4 W.heap.size [.int .i64 0, .int .i64 0, .int .i64 0] := AtL.below hb (AtL.drew (AtL.new0 W _ _)); replace pA := AtL.below hb (AtL.drew (AtL.alloc pA _)); replace pR := AtL.below hb (AtL.drew (AtL.alloc pR _)); replace hB := x3_below_end (x3_ball hB _).drew hb; obtain ⟨c0, c1, c2, f0, f1, f2⟩ := AtL.three pK)
          | (replace pA := AtL.below hb (AtL.drew pA); replace pR := AtL.below hb (AtL.drew pR); replace hB := x3_below_end hB.drew hb));
         have hsz := hb.size; try simp only [World.size_alloc, World.size_drew] at hsz;
         have sA : RcS k s t l b r n w4 := RcS_below hb (by assumption)))
    all_goals
      go_wp2_with fail
      go_meet
      case rel =>
        go_light
        with_reducible first
        | exact ⟨_, rfl, rfl, hq, put3_below hB (by omega) _ _ _, AtL.put3 pK _ _ _, AtL.far3 pA (by omega) _ _ _, AtL.far3 pR (by omega) _ _ _⟩
        | exact ⟨_, rfl, rfl, by omega, x3_ball hB _, AtL.new0 _ _ _, AtL.alloc pA _, AtL.alloc pR _⟩
  case rest =>
    clear pR pA hB hq
    obtain ⟨K, rfl, rfl, hK, hB, pK, pA, pR⟩ := hcut
    obtain ⟨x0, x1, x2⟩ := pK.f3
    obtain ⟨c0, c1, c2, f0, f1, f2⟩ := pR.three
    obtain ⟨a0, a1, a2, a3, a4, a5, g5⟩ := AtL.six pA
    have ne1 : ¬ k = w.heap.size := by omega
    have ne2 : ¬ w.heap.size = k := by omega
    have ne3 : ¬ K = k := by omega
    have ne4 : ¬ k = K := by omega
    have ne5 : ¬ K = w.heap.size := by omega
    cases ok with
    | true =>
      have E : Hid (N = n + 1) := by show _ = _; rw [G.out]; rfl
      go_wp2
      refine bodyPost_ret (v := .tuple #[.agg #[.int .i64 v0, .int .i64 v1, .int .i64 v2], .bool true]) (by simp [results, Tryd.results49, go_sem, c0, c1, c2]) rfl ⟨rfl, ?_⟩
      rw [E.out]
      exact put3_below (set_same hB _ _) (Nat.le_refl _) _ _ _
    | false =>
      have E : Hid (N = n) := by show _ = _; rw [G.out]; rfl
      go_wp2
      refine bodyPost_ret (v := .tuple #[.agg #[.int .i64 v0, .int .i64 v1, .int .i64 v2], .bool false]) (by simp [results, Tryd.results49, go_sem, c0, c1, c2]) rfl ⟨rfl, ?_⟩
      rw [E.out]
      exact set_idle (put3_below hB (Nat.le_refl _) _ _ _) (AtL.six hA).2.2.2.2.2.1
end Go.Proofs.YtdjhegmkmopnfaaDoor
