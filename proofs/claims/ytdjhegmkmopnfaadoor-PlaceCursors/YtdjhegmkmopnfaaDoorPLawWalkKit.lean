/- What a cursor over an area holds; a store, and what comes behind it. -/
import Derived.Test.YtdjhegmkmopnfaaDoorPWalkK
namespace Go.Proofs.YtdjhegmkmopnfaaDoor
open Go.RowKit
set_option linter.unusedVariables false

/-- What a cursor over an area holds: of an area that is none nothing is left. -/
theorem over_is (s t l b r : Int) : ∃ o0 o1 o2 o3 o4 : Int, overV s t l b r = [.int .i64 o0, .int .i64 o1, .int .i64 o2, .int .i64 o3, .int .i64 o4, .int .i64 0, .int .i64 (Wpl.sizeA s t l b r)] ∧
    (∀ k, 0 ≤ k → k < Wpl.sizeA s t l b r → Wpl.atOk o0 o1 o2 o3 o4 k = true ∧ Wpl.num o0 o1 o2 o4 k = Wpl.num s t l r k ∧ Wpl.atOk s t l b r k = true) := by
  cases h : Wpl.rightA s t l b r with
  | true =>
    refine ⟨s, t, l, b, r, by unfold overV; rw [h]; rfl, fun k h0 h1 => ?_⟩
    have e : Wpl.atOk s t l b r k = true := Wpl.inB_iff.2 ⟨h0, h1⟩
    exact ⟨e, rfl, e⟩
  | false =>
    have e := Wpl.sizeA_neg h
    refine ⟨0, 0, 0, 0, 0, by unfold overV; rw [h, e]; rfl, fun k h0 h1 => ?_⟩
    omega
theorem AtL.belowSet {W W' : World} {p : Addr} {v : Value} (hb : Below W.heap.size (W.setCell p v) W') {k : Nat} {vs : List Value} (h : AtL (W.setCell p v) k vs) : AtL W' k vs :=
  AtL.below (by rw [World.size_setCell]; exact hb) h
theorem below_endSet {w W w1 : World} {p : Addr} {v : Value} (h0 : Below w.heap.size w (W.setCell p v)) (hb : Below W.heap.size (W.setCell p v) w1) : Below w.heap.size w w1 :=
  x3_below_end h0 (by rw [World.size_setCell]; exact hb)
theorem cell_belowSet {W W' : World} {k o : Nat} {v : Value} (hb : Below W.heap.size (W.setCell ⟨k, o, none⟩ v) W') {b c : Nat} (hk : k ≠ b) {u : Value} (h : W.cell? ⟨b, c, none⟩ = some u) : W'.cell? ⟨b, c, none⟩ = some u := by
  have hl := World.block_lt_of_cell? W ⟨b, c, none⟩ h
  rw [hb.cell (p := ⟨b, c, none⟩) hl, World.cell?_setCell_far _ _ _ _ (by simpa using hk)]
  exact h
end Go.Proofs.YtdjhegmkmopnfaaDoor
