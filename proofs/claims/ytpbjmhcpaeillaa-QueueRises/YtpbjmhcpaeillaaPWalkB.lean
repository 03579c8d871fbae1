/- The contracts of slices.ContainsFunc at lacks, Hull, RightArea. -/
import Derived.Test.YtpbjmhcpaeillaaPWalkA
namespace Go.Proofs.Ytpbjmhcpaeillaa
open Go.RowKit
set_option linter.unusedVariables false

/-- The cells of a slice. -/
def Cells (w : World) (blk off n : Nat) (F : Nat → Wpl.Cl) : Prop :=
  ∀ j, j < n → w.cell? ⟨blk, off + j * 3, none⟩ = some (.int .i64 (F j).s) ∧ w.cell? ⟨blk, off + j * 3 + 1, none⟩ = some (.int .i64 (F j).r) ∧ w.cell? ⟨blk, off + j * 3 + 2, none⟩ = some (.int .i64 (F j).c)
theorem Cells.below {W W' : World} {blk off n : Nat} {F : Nat → Wpl.Cl} (h : Cells W blk off n F) (hb : blk < W.heap.size) (hB : Below W.heap.size W W') : Cells W' blk off n F := fun j hj =>
  ⟨(hB.cell (p := ⟨blk, off + j * 3, none⟩) hb).trans (h j hj).1, (hB.cell (p := ⟨blk, off + j * 3 + 1, none⟩) hb).trans (h j hj).2.1, (hB.cell (p := ⟨blk, off + j * 3 + 2, none⟩) hb).trans (h j hj).2.2⟩

end Go.Proofs.Ytpbjmhcpaeillaa