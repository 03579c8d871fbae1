/- Cells in memory: what a block of them holds behind what happens. -/
import Derived.Test.YtpbjmhcpaeillaaChecked
import Derived.WalkKit
import Derived.WalkSpells
import Derived.RowKit3
import Derived.Deep.QuietTactic
import Derived.BigQuiet
import Derived.Deep.RegionWith
import Derived.Deep.RegionHeld3
import Derived.Deep.DeepCutAuto
import Derived.Deep.Light
import Derived.Deep.CutBlock
namespace Go.Proofs.Ytpbjmhcpaeillaa
open Go.RowKit
set_option linter.unusedVariables false

theorem x3_ret_int {k : IntKind} {a b : Int} (h : a = b) : Ending.returned (.int k a) = .returned (.int k b) := by rw [h]
theorem x3_ret_bool {a b : Bool} (h : a = b) : Ending.returned (.bool a) = .returned (.bool b) := by rw [h]

/-- What stands last in a sequence, as if something followed. -/
theorem last_of {P : Program} {c : Code} {Q : Exit → Act → World → Prop} {a : Act} {w : World} (h : ∀ K : Act → World → Prop, (∀ a w, Q .normal a w → K a w) → c.wp P (Exit.then K Q) a w) : c.wp P Q a w :=
  Code.wp_mono (fun e a w hh => by cases e <;> exact hh) (h (fun a w => Q .normal a w) (fun _ _ h => h))

/-- Block k begins with these cells, and all of them may be written. -/
def AtL (W : World) (k : Nat) (vs : List Value) : Prop :=
  k < W.heap.size ∧ (∀ i v, vs[i]? = some v → W.cell? ⟨k, i, none⟩ = some v) ∧ (∀ i, i < vs.length → W.frozen? ⟨k, i, none⟩ = false)
theorem AtL.lt {W : World} {k : Nat} {vs : List Value} (h : AtL W k vs) : k < W.heap.size := h.1
theorem AtL.new (W : World) (t : TypeId) {k : Nat} (hk : k = W.heap.size) (vs : List Value) : AtL (W.alloc (.cells vs.toArray t)) k vs := by
  subst hk
  refine ⟨by simp [go_sem], fun i v h => ?_, fun i h => ?_⟩
  · simp [go_sem, h]
  · simp [go_sem]
theorem AtL.new0 (W : World) (t : TypeId) (vs : List Value) : AtL (W.alloc (.cells vs.toArray t)) W.heap.size vs := AtL.new W t rfl vs
theorem AtL.newd (W : World) (t : TypeId) (vs : List Value) : AtL (W.drew.alloc (.cells vs.toArray t)) W.heap.size vs := AtL.new W.drew t rfl vs
theorem AtL.new1 (W : World) (o : Obj) (t : TypeId) (vs : List Value) : AtL ((W.alloc o).alloc (.cells vs.toArray t)) (W.heap.size + 1) vs := AtL.new (W.alloc o) t (by simp only [World.size_alloc]) vs
theorem AtL.alloc {W : World} {k : Nat} {vs : List Value} (h : AtL W k vs) (o : Obj) : AtL (W.alloc o) k vs := by
  obtain ⟨h1, h2, h3⟩ := h
  refine ⟨by simp [go_sem]; omega, fun i v hi => ?_, fun i hi => ?_⟩
  · rw [World.cell?_alloc_past _ _ _ h1]; exact h2 i v hi
  · rw [World.frozen?_alloc_old _ _ _ (by simp; omega)]; exact h3 i hi
theorem AtL.below {W W' : World} (hb : Below W.heap.size W W') {k : Nat} {vs : List Value} (h : AtL W k vs) : AtL W' k vs := by
  obtain ⟨h1, h2, h3⟩ := h
  refine ⟨Nat.lt_of_lt_of_le h1 hb.size, fun i v hi => ?_, fun i hi => ?_⟩
  · exact (hb.cell (p := ⟨k, i, none⟩) h1).trans (h2 i v hi)
  · exact (hb.frozen (p := ⟨k, i, none⟩) h1).trans (h3 i hi)
theorem AtL.drew {W : World} {k : Nat} {vs : List Value} (h : AtL W k vs) : AtL W.drew k vs := AtL.below (Below.refl _ _).drew h
theorem AtL.far {W : World} {k : Nat} {vs : List Value} (h : AtL W k vs) {j : Nat} (hj : j ≠ k) (o : Nat) (v : Value) : AtL (W.setCell ⟨j, o, none⟩ v) k vs := by
  obtain ⟨h1, h2, h3⟩ := h
  refine ⟨by simpa [go_sem] using h1, fun i u hi => ?_, fun i hi => ?_⟩
  · rw [World.cell?_setCell_far _ _ _ _ (by simpa using hj)]; exact h2 i u hi
  · rw [World.frozen?_setCell]; exact h3 i hi
theorem AtL.set {W : World} {k : Nat} {vs : List Value} (h : AtL W k vs) (o : Nat) (u : Value) : AtL (W.setCell ⟨k, o, none⟩ u) k (vs.set o u) := by
  obtain ⟨h1, h2, h3⟩ := h
  refine ⟨by simpa [go_sem] using h1, fun i v hi => ?_, fun i hi => ?_⟩
  · by_cases e : o = i
    · subst e
      by_cases hl : o < vs.length
      · rw [List.getElem?_set_self hl] at hi
        obtain rfl := Option.some.inj hi
        exact World.cell?_setCell_same _ _ _ (h2 o vs[o] (List.getElem?_eq_getElem hl))
      · rw [List.getElem?_eq_none (by simp; omega)] at hi
        cases hi
    · rw [List.getElem?_set_ne e] at hi
      rw [World.cell?_setCell_other _ _ _ _ (by first | (simp; done) | (simp; omega))]
      exact h2 i v hi
  · rw [World.frozen?_setCell]; exact h3 i (by simpa using hi)
theorem AtL.two {W : World} {k : Nat} {a b : Value} (h : AtL W k [a, b]) :
    W.cell? ⟨k, 0, none⟩ = some a ∧ W.cell? ⟨k, 1, none⟩ = some b ∧ W.frozen? ⟨k, 0, none⟩ = false ∧ W.frozen? ⟨k, 1, none⟩ = false :=
  ⟨h.2.1 0 a rfl, h.2.1 1 b rfl, h.2.2 0 (by simp), h.2.2 1 (by simp)⟩
theorem AtL.three {W : World} {k : Nat} {a b c : Value} (h : AtL W k [a, b, c]) :
    W.cell? ⟨k, 0, none⟩ = some a ∧ W.cell? ⟨k, 1, none⟩ = some b ∧ W.cell? ⟨k, 2, none⟩ = some c ∧ W.frozen? ⟨k, 0, none⟩ = false ∧ W.frozen? ⟨k, 1, none⟩ = false ∧ W.frozen? ⟨k, 2, none⟩ = false :=
  ⟨h.2.1 0 a rfl, h.2.1 1 b rfl, h.2.1 2 c rfl, h.2.2 0 (by simp), h.2.2 1 (by simp), h.2.2 2 (by simp)⟩
theorem AtL.five {W : World} {k : Nat} {a b c d e : Value} (h : AtL W k [a, b, c, d, e]) :
    W.cell? ⟨k, 0, none⟩ = some a ∧ W.cell? ⟨k, 1, none⟩ = some b ∧ W.cell? ⟨k, 2, none⟩ = some c ∧ W.cell? ⟨k, 3, none⟩ = some d ∧ W.cell? ⟨k, 4, none⟩ = some e ∧
    W.frozen? ⟨k, 0, none⟩ = false ∧ W.frozen? ⟨k, 1, none⟩ = false ∧ W.frozen? ⟨k, 2, none⟩ = false ∧ W.frozen? ⟨k, 3, none⟩ = false ∧ W.frozen? ⟨k, 4, none⟩ = false :=
  ⟨h.2.1 0 a rfl, h.2.1 1 b rfl, h.2.1 2 c rfl, h.2.1 3 d rfl, h.2.1 4 e rfl, h.2.2 0 (by simp), h.2.2 1 (by simp), h.2.2 2 (by simp), h.2.2 3 (by simp), h.2.2 4 (by simp)⟩
/-- The five cells of block k. -/
abbrev Five (W : World) (k : Nat) (a b c d e : Value) : Prop :=
  W.cell? ⟨k, 0, none⟩ = some a ∧ W.cell? ⟨k, 1, none⟩ = some b ∧ W.cell? ⟨k, 2, none⟩ = some c ∧ W.cell? ⟨k, 3, none⟩ = some d ∧ W.cell? ⟨k, 4, none⟩ = some e
theorem five_below {W W' : World} (hb : Below W.heap.size W W') {k : Nat} {a b c d e : Value} (h : Five W k a b c d e) : Five W' k a b c d e := by
  have hk := World.block_lt_of_cell? W ⟨k, 0, none⟩ h.1
  obtain ⟨h0, h1, h2, h3, h4⟩ := h
  exact ⟨(hb.cell (p := ⟨k, 0, none⟩) hk).trans h0, (hb.cell (p := ⟨k, 1, none⟩) hk).trans h1, (hb.cell (p := ⟨k, 2, none⟩) hk).trans h2, (hb.cell (p := ⟨k, 3, none⟩) hk).trans h3, (hb.cell (p := ⟨k, 4, none⟩) hk).trans h4⟩
theorem five_alloc {W : World} {k : Nat} {a b c d e : Value} (h : Five W k a b c d e) (o : Obj) : Five (W.alloc o) k a b c d e := five_below ((Below.refl _ _).alloc (Nat.le_refl _) _) h
theorem five_drew {W : World} {k : Nat} {a b c d e : Value} (h : Five W k a b c d e) : Five W.drew k a b c d e := five_below (Below.refl _ _).drew h
theorem five_far {W : World} {k : Nat} {a b c d e : Value} (h : Five W k a b c d e) {j : Nat} (hj : j ≠ k) (o : Nat) (v : Value) : Five (W.setCell ⟨j, o, none⟩ v) k a b c d e := by
  obtain ⟨h0, h1, h2, h3, h4⟩ := h
  refine ⟨?_, ?_, ?_, ?_, ?_⟩ <;> rw [World.cell?_setCell_far _ _ _ _ (by simpa using hj)] <;> assumption
/-- The three cells of block k. -/
abbrev Three (W : World) (k : Nat) (a b c : Value) : Prop :=
  W.cell? ⟨k, 0, none⟩ = some a ∧ W.cell? ⟨k, 1, none⟩ = some b ∧ W.cell? ⟨k, 2, none⟩ = some c
theorem three_below {W W' : World} (hb : Below W.heap.size W W') {k : Nat} {a b c : Value} (h : Three W k a b c) : Three W' k a b c := by
  have hk := World.block_lt_of_cell? W ⟨k, 0, none⟩ h.1
  obtain ⟨h0, h1, h2⟩ := h
  exact ⟨(hb.cell (p := ⟨k, 0, none⟩) hk).trans h0, (hb.cell (p := ⟨k, 1, none⟩) hk).trans h1, (hb.cell (p := ⟨k, 2, none⟩) hk).trans h2⟩
theorem three_alloc {W : World} {k : Nat} {a b c : Value} (h : Three W k a b c) (o : Obj) : Three (W.alloc o) k a b c := three_below ((Below.refl _ _).alloc (Nat.le_refl _) _) h
theorem three_drew {W : World} {k : Nat} {a b c : Value} (h : Three W k a b c) : Three W.drew k a b c := three_below (Below.refl _ _).drew h
theorem three_far {W : World} {k : Nat} {a b c : Value} (h : Three W k a b c) {j : Nat} (hj : j ≠ k) (o : Nat) (v : Value) : Three (W.setCell ⟨j, o, none⟩ v) k a b c := by
  obtain ⟨h0, h1, h2⟩ := h
  refine ⟨?_, ?_, ?_⟩ <;> rw [World.cell?_setCell_far _ _ _ _ (by simpa using hj)] <;> assumption
theorem AtL.f5 {W : World} {k : Nat} {a b c d e : Value} (h : AtL W k [a, b, c, d, e]) : Five W k a b c d e := ⟨h.2.1 0 a rfl, h.2.1 1 b rfl, h.2.1 2 c rfl, h.2.1 3 d rfl, h.2.1 4 e rfl⟩
theorem AtL.f3 {W : World} {k : Nat} {a b c : Value} (h : AtL W k [a, b, c]) : Three W k a b c := ⟨h.2.1 0 a rfl, h.2.1 1 b rfl, h.2.1 2 c rfl⟩
theorem AtL.put3 {W : World} {k : Nat} {a b c : Value} (h : AtL W k [a, b, c]) (x y z : Value) :
    AtL (((W.setCell ⟨k, 0, none⟩ x).setCell ⟨k, 1, none⟩ y).setCell ⟨k, 2, none⟩ z) k [x, y, z] := ((h.set 0 x).set 1 y).set 2 z
theorem AtL.far3 {W : World} {k : Nat} {vs : List Value} (h : AtL W k vs) {j : Nat} (hj : j ≠ k) (x y z : Value) :
    AtL (((W.setCell ⟨j, 0, none⟩ x).setCell ⟨j, 1, none⟩ y).setCell ⟨j, 2, none⟩ z) k vs := ((h.far hj 0 x).far hj 1 y).far hj 2 z
theorem AtL.put5 {W : World} {k : Nat} {a b c d e : Value} (h : AtL W k [a, b, c, d, e]) (x y z u v : Value) :
    AtL (((((W.setCell ⟨k, 0, none⟩ x).setCell ⟨k, 1, none⟩ y).setCell ⟨k, 2, none⟩ z).setCell ⟨k, 3, none⟩ u).setCell ⟨k, 4, none⟩ v) k [x, y, z, u, v] := ((((h.set 0 x).set 1 y).set 2 z).set 3 u).set 4 v
theorem AtL.far5 {W : World} {k : Nat} {vs : List Value} (h : AtL W k vs) {j : Nat} (hj : j ≠ k) (x y z u v : Value) :
    AtL (((((W.setCell ⟨j, 0, none⟩ x).setCell ⟨j, 1, none⟩ y).setCell ⟨j, 2, none⟩ z).setCell ⟨j, 3, none⟩ u).setCell ⟨j, 4, none⟩ v) k vs := ((((h.far hj 0 x).far hj 1 y).far hj 2 z).far hj 3 u).far hj 4 v
theorem put3_below {w W : World} {n k : Nat} (hb : Below n w W) (hk : n ≤ k) (x y z : Value) :
    Below n w (((W.setCell ⟨k, 0, none⟩ x).setCell ⟨k, 1, none⟩ y).setCell ⟨k, 2, none⟩ z) :=
  ((hb.setCell (p := ⟨k, 0, none⟩) hk x).setCell (p := ⟨k, 1, none⟩) hk y).setCell (p := ⟨k, 2, none⟩) hk z
theorem put5_below {w W : World} {n k : Nat} (hb : Below n w W) (hk : n ≤ k) (x y z u v : Value) :
    Below n w (((((W.setCell ⟨k, 0, none⟩ x).setCell ⟨k, 1, none⟩ y).setCell ⟨k, 2, none⟩ z).setCell ⟨k, 3, none⟩ u).setCell ⟨k, 4, none⟩ v) :=
  ((((hb.setCell (p := ⟨k, 0, none⟩) hk x).setCell (p := ⟨k, 1, none⟩) hk y).setCell (p := ⟨k, 2, none⟩) hk z).setCell (p := ⟨k, 3, none⟩) hk u).setCell (p := ⟨k, 4, none⟩) hk v
theorem cell_below {W W' : World} (hb : Below W.heap.size W W') {k o : Nat} {v : Value} (h : W.cell? ⟨k, o, none⟩ = some v) : W'.cell? ⟨k, o, none⟩ = some v :=
  (hb.cell (p := ⟨k, o, none⟩) (World.block_lt_of_cell? W ⟨k, o, none⟩ h)).trans h
theorem mark_below {W W' : World} (hb : Below W.heap.size W W') {k o : Nat} {v : Value} {f : Bool} (h : W.cell? ⟨k, o, none⟩ = some v) (g : W.frozen? ⟨k, o, none⟩ = f) : W'.frozen? ⟨k, o, none⟩ = f :=
  (hb.frozen (p := ⟨k, o, none⟩) (World.block_lt_of_cell? W ⟨k, o, none⟩ h)).trans g
end Go.Proofs.Ytpbjmhcpaeillaa
