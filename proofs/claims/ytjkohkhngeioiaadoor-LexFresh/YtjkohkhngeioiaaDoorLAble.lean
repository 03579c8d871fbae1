/- able. -/
import Derived.Test.YtjkohkhngeioiaaDoorLScanB
import Derived.Test.YtjkohkhngeioiaaDoorLTextB
namespace Go.Proofs.YtjkohkhngeioiaaDoor
open Go.Shelf Go.RowKit
set_option linter.unusedVariables false

def ableToks : List Wlx.Tok := [⟨3, [65, 49], 0⟩, ⟨5, [43], 2⟩, ⟨2, [120], 3⟩]
theorem able_scan : scanAll [65, 49, 43, 34, 120, 34] = Wlx.Res.ok ableToks := by
  unfold scanAll
  rw [if_neg (by decide)]
  rw [Wlx.scan_tok (k := 3) (n := 2) (by decide) (by decide) (by decide) (by decide) (by decide)]
  show Wlx.Res.cons _ (Wlx.scan 2 [43, 34, 120, 34]) = _
  rw [Wlx.scan_tok (k := 5) (n := 1) (by decide) (by decide) (by decide) (by decide) (by decide)]
  show Wlx.Res.cons _ (Wlx.Res.cons _ (Wlx.scan 3 [34, 120, 34])) = _
  rw [Wlx.scan_tok (k := 2) (n := 3) (by decide) (by decide) (by decide) (by decide) (by decide)]
  show Wlx.Res.cons _ (Wlx.Res.cons _ (Wlx.Res.cons _ (Wlx.scan 6 []))) = _
  rw [Wlx.scan_nil]
  rfl
theorem own_slice {w : World} {B : Nat} {v : Value} {ts : List Wlx.Tok} (h : OwnT w B v ts) (h0 : 0 < ts.length) : ∃ g cap, v = .slice (some ⟨g, 0, none⟩) ts.length cap ∧ ∀ j, j < ts.length * 3 → w.cell? ⟨g, j, none⟩ = (rowT ts)[j]? := by
  rcases h.2 with ⟨_, hn⟩ | ⟨g, cap, cur, e, hg, hc, _⟩
  · omega
  · subst e
    exact ⟨g, cap, rfl, fun j hj => World.ownsRow.cellAt h j hj⟩

set_option maxHeartbeats 1600000 in
theorem able_any (w : World) (hm : MaxAt w) : Calls Tryd.prog 11 #[] w fun e w' => e = .returned (.bool true) ∧ Below w.heap.size w w' := by
  have S := scan_any ⟨#[65, 49, 43, 34, 120, 34]⟩ w hm (by decide)
  have e0 : (⟨#[65, 49, 43, 34, 120, 34]⟩ : ByteArray).data.toList = [65, 49, 43, 34, 120, 34] := rfl
  rw [e0, able_scan] at S
  clear e0
  go_enter Tryd.func11, Tryd.ntmps11
  go_wp2_with fail
  refine S.mono ?_
  rintro e w1 ⟨⟨v, rfl, hown⟩, hb1⟩
  obtain ⟨g, cap, rfl, hc⟩ := own_slice hown (by decide)
  have T := text_any _ _ w1 (ReadV.own hown) (MaxAt.below hm hb1) (by decide)
  have e1 : Wlx.textV (ableToks.map Wlx.tv) = [65, 49, 32, 43, 32, 34, 120, 34] := by decide
  rw [e1] at T
  have y0 : w1.cell? ⟨g, 0, none⟩ = some (.int .i64 3) := hc 0 (by decide)
  have y1 : w1.cell? ⟨g, 1, none⟩ = some (.string ⟨#[65, 49]⟩) := hc 1 (by decide)
  have y2 : w1.cell? ⟨g, 2, none⟩ = some (.int .i64 0) := hc 2 (by decide)
  have y3 : w1.cell? ⟨g, 3, none⟩ = some (.int .i64 5) := hc 3 (by decide)
  have y4 : w1.cell? ⟨g, 4, none⟩ = some (.string ⟨#[43]⟩) := hc 4 (by decide)
  have y5 : w1.cell? ⟨g, 5, none⟩ = some (.int .i64 2) := hc 5 (by decide)
  have y6 : w1.cell? ⟨g, 6, none⟩ = some (.int .i64 2) := hc 6 (by decide)
  have y7 : w1.cell? ⟨g, 7, none⟩ = some (.string ⟨#[120]⟩) := hc 7 (by decide)
  have y8 : w1.cell? ⟨g, 8, none⟩ = some (.int .i64 3) := hc 8 (by decide)
  have hl : ableToks.length = 3 := rfl
  rw [hl] at T ⊢
  clear hc hown S e1 hl
  go_wp2_with fail
  refine T.mono ?_
  rintro e w2 ⟨rfl, hb2⟩
  go_wp2
  go_ret
  exact ⟨rfl, hb1.trans (hb2.mono hb1.size)⟩
end Go.Proofs.YtjkohkhngeioiaaDoor
