/- A struct of two cells in memory: what it holds behind what happens. -/
import Derived.Test.YtfilmomndhlmbabDoorWalkD
namespace Go.Proofs.YtfilmomndhlmbabDoor
open Go.RowKit
set_option linter.unusedVariables false

/-- Block k holds two cells, and both may be written. -/
def At (W : World) (k : Nat) (v0 v1 : Value) : Prop :=
  W.cell? ⟨k, 0, none⟩ = some v0 ∧ W.cell? ⟨k, 1, none⟩ = some v1 ∧ W.frozen? ⟨k, 0, none⟩ = false ∧ W.frozen? ⟨k, 1, none⟩ = false
theorem At.lt {W : World} {k : Nat} {v0 v1 : Value} (h : At W k v0 v1) : k < W.heap.size := World.block_lt_of_cell? W ⟨k, 0, none⟩ h.1
theorem At.new (W : World) (t : TypeId) {k : Nat} (hk : k = W.heap.size) (v0 v1 : Value) : At (W.alloc (.cells #[v0, v1] t)) k v0 v1 := by
  subst hk
  exact ⟨by simp [go_sem], by simp [go_sem], by simp [go_sem], by simp [go_sem]⟩
theorem At.alloc {W : World} {k : Nat} {v0 v1 : Value} (h : At W k v0 v1) (o : Obj) : At (W.alloc o) k v0 v1 := by
  have hl := h.lt
  obtain ⟨h1, h2, h3, h4⟩ := h
  refine ⟨?_, ?_, ?_, ?_⟩
  · rw [World.cell?_alloc_past _ _ _ hl]; exact h1
  · rw [World.cell?_alloc_past _ _ _ hl]; exact h2
  · rw [World.frozen?_alloc_old _ _ _ (by simp; omega)]; exact h3
  · rw [World.frozen?_alloc_old _ _ _ (by simp; omega)]; exact h4
theorem At.below {W W' : World} (hb : Below W.heap.size W W') {k : Nat} {v0 v1 : Value} (h : At W k v0 v1) : At W' k v0 v1 := by
  have hl := h.lt
  obtain ⟨h1, h2, h3, h4⟩ := h
  exact ⟨(hb.cell (p := ⟨k, 0, none⟩) hl).trans h1, (hb.cell (p := ⟨k, 1, none⟩) hl).trans h2, (hb.frozen (p := ⟨k, 0, none⟩) hl).trans h3, (hb.frozen (p := ⟨k, 1, none⟩) hl).trans h4⟩
theorem At.drewN {W : World} {k : Nat} {v0 v1 : Value} (h : At W k v0 v1) (n : Nat) : At (W.drewN n) k v0 v1 := At.below (below_drewN (Below.refl _ _) n) h
theorem At.drew {W : World} {k : Nat} {v0 v1 : Value} (h : At W k v0 v1) : At W.drew k v0 v1 := At.below (Below.refl _ _).drew h
theorem At.far {W : World} {k : Nat} {v0 v1 : Value} (h : At W k v0 v1) (j o : Nat) (v : Value) (hj : j ≠ k) : At (W.setCell ⟨j, o, none⟩ v) k v0 v1 := by
  obtain ⟨h1, h2, h3, h4⟩ := h
  refine ⟨?_, ?_, ?_, ?_⟩
  · rw [World.cell?_setCell_far _ _ _ _ (by simpa using hj)]; exact h1
  · rw [World.cell?_setCell_far _ _ _ _ (by simpa using hj)]; exact h2
  · rw [World.frozen?_setCell]; exact h3
  · rw [World.frozen?_setCell]; exact h4
theorem At.set0 {W : World} {k : Nat} {v0 v1 : Value} (h : At W k v0 v1) (u : Value) : At (W.setCell ⟨k, 0, none⟩ u) k u v1 := by
  obtain ⟨h1, h2, h3, h4⟩ := h
  refine ⟨World.cell?_setCell_same _ _ _ h1, ?_, ?_, ?_⟩
  · rw [World.cell?_setCell_other _ _ _ _ (by simp)]; exact h2
  · rw [World.frozen?_setCell]; exact h3
  · rw [World.frozen?_setCell]; exact h4
theorem At.set1 {W : World} {k : Nat} {v0 v1 : Value} (h : At W k v0 v1) (u : Value) : At (W.setCell ⟨k, 1, none⟩ u) k v0 u := by
  obtain ⟨h1, h2, h3, h4⟩ := h
  refine ⟨?_, World.cell?_setCell_same _ _ _ h2, ?_, ?_⟩
  · rw [World.cell?_setCell_other _ _ _ _ (by simp)]; exact h1
  · rw [World.frozen?_setCell]; exact h3
  · rw [World.frozen?_setCell]; exact h4
theorem At.put {W : World} {k : Nat} {v0 v1 : Value} (h : At W k v0 v1) (u0 u1 : Value) : At ((W.setCell ⟨k, 0, none⟩ u0).setCell ⟨k, 1, none⟩ u1) k u0 u1 := (h.set0 u0).set1 u1
theorem At.far2 {W : World} {k : Nat} {v0 v1 : Value} (h : At W k v0 v1) {j : Nat} (hj : j ≠ k) (u0 u1 : Value) : At ((W.setCell ⟨j, 0, none⟩ u0).setCell ⟨j, 1, none⟩ u1) k v0 v1 := (h.far j 0 u0 hj).far j 1 u1 hj
theorem put_below {w W : World} {k : Nat} (hb : Below w.heap.size w W) (hk : w.heap.size ≤ k) (u0 u1 : Value) : Below w.heap.size w ((W.setCell ⟨k, 0, none⟩ u0).setCell ⟨k, 1, none⟩ u1) :=
  (hb.setCell (p := ⟨k, 0, none⟩) hk u0).setCell (p := ⟨k, 1, none⟩) hk u1
theorem keep2 {W W' : World} {k : Nat} {a b : Value} (hb : Below W.heap.size W W') (h : W.cell? ⟨k, 0, none⟩ = some a ∧ W.cell? ⟨k, 1, none⟩ = some b) : W'.cell? ⟨k, 0, none⟩ = some a ∧ W'.cell? ⟨k, 1, none⟩ = some b :=
  ⟨(hb.cell (p := ⟨k, 0, none⟩) (World.block_lt_of_cell? W _ h.1)).trans h.1, (hb.cell (p := ⟨k, 1, none⟩) (World.block_lt_of_cell? W _ h.2)).trans h.2⟩
theorem keep4 {W W' : World} {k j : Nat} {a b c d : Value} (hb : Below W.heap.size W W') (h : W.cell? ⟨k, 0, none⟩ = some a ∧ W.cell? ⟨k, 1, none⟩ = some b ∧ W.cell? ⟨j, 0, none⟩ = some c ∧ W.cell? ⟨j, 1, none⟩ = some d) :
    W'.cell? ⟨k, 0, none⟩ = some a ∧ W'.cell? ⟨k, 1, none⟩ = some b ∧ W'.cell? ⟨j, 0, none⟩ = some c ∧ W'.cell? ⟨j, 1, none⟩ = some d := by
  obtain ⟨h1, h2, h3, h4⟩ := h
  obtain ⟨r1, r2⟩ := keep2 hb ⟨h1, h2⟩
  obtain ⟨r3, r4⟩ := keep2 hb ⟨h3, h4⟩
  exact ⟨r1, r2, r3, r4⟩
end Go.Proofs.YtfilmomndhlmbabDoor
