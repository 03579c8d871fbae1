/- The contracts of slices.ContainsFunc at lacks, Hull, RightArea. -/
import Derived.Test.YtdjhegmkmopnfabDoorPWalkA
namespace Go.Proofs.YtdjhegmkmopnfabDoor
open Go.RowKit
set_option linter.unusedVariables false

/-- The cells of a slice. -/
def Cells (w : World) (blk off n : Nat) (F : Nat → Wpl.Cl) : Prop :=
  ∀ j, j < n → w.cell? ⟨blk, off + j * 3, none⟩ = some (.int .i64 (F j).s) ∧ w.cell? ⟨blk, off + j * 3 + 1, none⟩ = some (.int .i64 (F j).r) ∧ w.cell? ⟨blk, off + j * 3 + 2, none⟩ = some (.int .i64 (F j).c)
theorem Cells.below {W W' : World} {blk off n : Nat} {F : Nat → Wpl.Cl} (h : Cells W blk off n F) (hb : blk < W.heap.size) (hB : Below W.heap.size W W') : Cells W' blk off n F := fun j hj =>
  ⟨(hB.cell (p := ⟨blk, off + j * 3, none⟩) hb).trans (h j hj).1, (hB.cell (p := ⟨blk, off + j * 3 + 1, none⟩) hb).trans (h j hj).2.1, (hB.cell (p := ⟨blk, off + j * 3 + 2, none⟩) hb).trans (h j hj).2.2⟩

set_option maxHeartbeats 1600000 in
theorem index_any (q : Int) (blk off n cap : Nat) (F : Nat → Wpl.Cl) (w : World) (hn : n ≤ 1000000000000000) (hb : blk < w.heap.size) (hc : Cells w blk off n F) :
    Calls Tryd.prog 40 #[.slice (some ⟨blk, off, none⟩) n cap, .func (.func 35) #[.int .i64 q] #[]] w fun e w' => ∃ v : Int, e = .returned (.int .i64 v) ∧ decide (0 ≤ v) = Wpl.anyN q F n ∧ Below w.heap.size w w' := by
  have eg : ∀ args w, (callFunc 35 args).run Tryd.prog w = .ok (.enter 35 args) w := fun _ _ => by kernel_rfl
  go_enter Tryd.func40, Tryd.ntmps40
  go_wp2
  go_loopw [5, 8] (fun _ i wr => ∃ j : Nat, j ≤ n ∧ i = .int .i64 j ∧ Hid (∀ m, m < j → Wpl.lacks q (F m) = false) ∧ Below w.heap.size w wr) (fun _ i _ => n - (intOf i).toNat)
  case atStart => exact ⟨0, Nat.zero_le _, rfl, (fun m hm => absurd hm (Nat.not_lt_zero _) : ∀ m, m < 0 → Wpl.lacks q (F m) = false), Below.refl _ _⟩
  case round =>
    obtain ⟨j, hj, rfl, A, qB⟩ := hrel
    by_cases hlt : j < n
    · have hltz : (j : Int) < (n : Int) := by omega
      obtain ⟨x0, x1, x2⟩ := hc j hlt
      have y0 : wr.cell? ⟨blk, off + j * 3, none⟩ = some (.int .i64 (F j).s) := (qB.cell (p := ⟨blk, off + j * 3, none⟩) hb).trans x0
      have y1 : wr.cell? ⟨blk, off + j * 3 + 1, none⟩ = some (.int .i64 (F j).r) := (qB.cell (p := ⟨blk, off + j * 3 + 1, none⟩) hb).trans x1
      have y2 : wr.cell? ⟨blk, off + j * 3 + 2, none⟩ = some (.int .i64 (F j).c) := (qB.cell (p := ⟨blk, off + j * 3 + 2, none⟩) hb).trans x2
      have L := fun w => lacks_any q (F j).s (F j).r (F j).c w
      clear x0 x1 x2
      generalize hq : Wpl.lacks q ⟨(F j).s, (F j).r, (F j).c⟩ = b at L
      have B : Hid (Wpl.lacks q (F j) = b) := hq
      clear hq
      generalize (F j).s = sj at *
      generalize (F j).r = rj at *
      generalize (F j).c = cj at *
      cases b with
      | true =>
        go_wp2_with (go_at_call 35; refine (L _).mono ?_; rintro e w1 ⟨rfl, hb1⟩)
        go_ret
        exact ⟨_, rfl, by rw [Wpl.anyN_hit hlt B.out]; simp, x3_below_end qB hb1⟩
      | false =>
        go_wp2_with (go_at_call 35; refine (L _).mono ?_; rintro e w1 ⟨rfl, hb1⟩)
        go_roundw
        case rel =>
          refine ⟨j + 1, by omega, by go_num, (fun m hm => ?_ : ∀ m, m < j + 1 → Wpl.lacks q (F m) = false), x3_below_end qB hb1⟩
          by_cases e : m = j
          · rw [e]; exact B.out
          · exact A.out m (by omega)
        case measure => simp [intOf]; omega
    · have hltz : ¬ (j : Int) < (n : Int) := by omega
      have e : j = n := by omega
      subst e
      go_wp2
      go_ret
      exact ⟨_, rfl, by rw [Wpl.anyN_miss A.out]; rfl, qB⟩

/-- slices.ContainsFunc -/
theorem contains_any (q : Int) (blk off n cap : Nat) (F : Nat → Wpl.Cl) (w : World) (hn : n ≤ 1000000000000000) (hb : blk < w.heap.size) (hc : Cells w blk off n F) :
    Calls Tryd.prog 34 #[.slice (some ⟨blk, off, none⟩) n cap, .func (.func 35) #[.int .i64 q] #[]] w fun e w' => e = .returned (.bool (Wpl.anyN q F n)) ∧ Below w.heap.size w w' := by
  go_enter Tryd.func34, Tryd.ntmps34
  go_wp2_with fail
  refine (index_any q blk off n cap F _ hn hb hc).mono ?_
  rintro e w1 ⟨v, rfl, hv, hb1⟩
  have H : Hid (decide (0 ≤ v) = Wpl.anyN q F n) := hv
  clear hv
  go_wp2
  go_ret
  exact ⟨by rw [← H.out]; rfl, hb1⟩

end Go.Proofs.YtdjhegmkmopnfabDoor
