/- What several structs hold behind a call. -/
import Derived.Test.YtfilmomndhlmbabDoorAtKit
namespace Go.Proofs.YtfilmomndhlmbabDoor
open Go.RowKit
set_option linter.unusedVariables false

theorem keep6 {W W' : World} {k0 k1 k2 : Nat} {a0 b0 a1 b1 a2 b2 : Value} (hb : Below W.heap.size W W') (h : W.cell? ⟨k0, 0, none⟩ = some a0 ∧ W.cell? ⟨k0, 1, none⟩ = some b0 ∧ W.cell? ⟨k1, 0, none⟩ = some a1 ∧ W.cell? ⟨k1, 1, none⟩ = some b1 ∧ W.cell? ⟨k2, 0, none⟩ = some a2 ∧ W.cell? ⟨k2, 1, none⟩ = some b2) : W'.cell? ⟨k0, 0, none⟩ = some a0 ∧ W'.cell? ⟨k0, 1, none⟩ = some b0 ∧ W'.cell? ⟨k1, 0, none⟩ = some a1 ∧ W'.cell? ⟨k1, 1, none⟩ = some b1 ∧ W'.cell? ⟨k2, 0, none⟩ = some a2 ∧ W'.cell? ⟨k2, 1, none⟩ = some b2 := by
  obtain ⟨x0, y0, x1, y1, x2, y2⟩ := h
  obtain ⟨u0, v0⟩ := keep2 hb ⟨x0, y0⟩
  obtain ⟨u1, v1⟩ := keep2 hb ⟨x1, y1⟩
  obtain ⟨u2, v2⟩ := keep2 hb ⟨x2, y2⟩
  exact ⟨u0, v0, u1, v1, u2, v2⟩
theorem keep8 {W W' : World} {k0 k1 k2 k3 : Nat} {a0 b0 a1 b1 a2 b2 a3 b3 : Value} (hb : Below W.heap.size W W') (h : W.cell? ⟨k0, 0, none⟩ = some a0 ∧ W.cell? ⟨k0, 1, none⟩ = some b0 ∧ W.cell? ⟨k1, 0, none⟩ = some a1 ∧ W.cell? ⟨k1, 1, none⟩ = some b1 ∧ W.cell? ⟨k2, 0, none⟩ = some a2 ∧ W.cell? ⟨k2, 1, none⟩ = some b2 ∧ W.cell? ⟨k3, 0, none⟩ = some a3 ∧ W.cell? ⟨k3, 1, none⟩ = some b3) : W'.cell? ⟨k0, 0, none⟩ = some a0 ∧ W'.cell? ⟨k0, 1, none⟩ = some b0 ∧ W'.cell? ⟨k1, 0, none⟩ = some a1 ∧ W'.cell? ⟨k1, 1, none⟩ = some b1 ∧ W'.cell? ⟨k2, 0, none⟩ = some a2 ∧ W'.cell? ⟨k2, 1, none⟩ = some b2 ∧ W'.cell? ⟨k3, 0, none⟩ = some a3 ∧ W'.cell? ⟨k3, 1, none⟩ = some b3 := by
  obtain ⟨x0, y0, x1, y1, x2, y2, x3, y3⟩ := h
  obtain ⟨u0, v0⟩ := keep2 hb ⟨x0, y0⟩
  obtain ⟨u1, v1⟩ := keep2 hb ⟨x1, y1⟩
  obtain ⟨u2, v2⟩ := keep2 hb ⟨x2, y2⟩
  obtain ⟨u3, v3⟩ := keep2 hb ⟨x3, y3⟩
  exact ⟨u0, v0, u1, v1, u2, v2, u3, v3⟩
end Go.Proofs.YtfilmomndhlmbabDoor
