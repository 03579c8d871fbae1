/- LexScans, walked. -/
import Derived.Test.YtjkohkhngeioiaaDoorLRefI
import Derived.Test.YtjkohkhngeioiaaDoorLAble
import Derived.Test.YtjkohkhngeioiaaDoorLSame
import Derived.Test.YtjkohkhngeioiaaDoorLLawBack
namespace Go.Proofs.YtjkohkhngeioiaaDoor
open Go.Shelf Go.RowKit
set_option linter.unusedVariables false

def toksOf : Wlx.Res → List Wlx.Tok
  | .inl ts => ts
  | .inr _ => []
def codeOf : Wlx.Res → Nat × Nat
  | .inl _ => (0, 0)
  | .inr x => x
/-- What Scan answers, whether it takes the text or not. -/
theorem post_both {B : Nat} {r : Wlx.Res} {e : Ending} {w : World} (h : ScanPost B r e w) : ∃ v, e = .returned (.tuple #[v, .int .i64 (codeOf r).1, .int .i64 (codeOf r).2]) ∧ OwnT w B v (toksOf r) := by
  cases r with
  | inl ts =>
    obtain ⟨v, e1, e2⟩ := h
    exact ⟨v, e1, e2⟩
  | inr x =>
    obtain ⟨c, p⟩ := x
    exact ⟨.slice none 0 0, h, World.ownsRow_nil _ _ _ _⟩
theorem toks_few (l : List UInt8) : (toksOf (scanAll l)).length ≤ 1024 := by
  rcases scanAll_cases l with ⟨ts, e, hok, hl⟩ | ⟨c, p, e, _⟩
  · rw [e]
    have := hok.count.1
    show ts.length ≤ 1024
    omega
  · rw [e]
    exact Nat.zero_le _

set_option maxHeartbeats 1600000 in
theorem scans_main (b : ByteArray) (w : World) (hm : MaxAt w) (hs : b.size ≤ 9223372036854775807) : Calls Tryd.prog 3 #[.string b] w fun e w' => e = .returned (.bool true) ∧ Below w.heap.size w w' := by
  have S1 := scan_any b w hm hs
  have S2 := fun w => rscan_any b w hs
  have hN := toks_few b.data.toList
  generalize scanAll b.data.toList = r at *
  go_enter Tryd.func3, Tryd.ntmps3
  go_wp2_with fail
  refine S1.mono ?_
  rintro e w1 ⟨hp1, hb1⟩
  obtain ⟨v1, he1, hown1⟩ := post_both hp1
  subst he1
  have hr1 := ReadV.own hown1
  have hm1 := MaxAt.below hm hb1
  clear hp1 S1 hown1
  go_wp2_with fail
  refine (S2 _).mono ?_
  rintro e w2 ⟨hp2, hb2⟩
  obtain ⟨v2, he2, hown2⟩ := post_both hp2
  subst he2
  have hr2 := ReadV.own hown2
  have hr1 := hr1.below (Nat.le_refl _) hb2
  have hm2 := MaxAt.below hm1 hb2
  have hB2 : Below w.heap.size w w2 := hb1.trans (hb2.mono hb1.size)
  clear hp2 S2 hown2 hm1 hb1 hb2
  obtain ⟨c, p⟩ := codeOf r
  go_wp2_with fail
  refine (able_any _ hm2).mono ?_
  rintro e w3 ⟨rfl, hb3⟩
  have hr1 := hr1.below (Nat.le_refl _) hb3
  have hr2 := hr2.below (Nat.le_refl _) hb3
  have hB3 : Below w.heap.size w w3 := hB2.trans (hb3.mono hB2.size)
  go_wp2_with fail
  refine (same_true _ _ _ _ _ hr1 hr2 rfl (by rw [List.length_map]; omega) (fun i h1 h2 => rfl)).mono ?_
  rintro e w4 ⟨rfl, hb4⟩
  go_wp2
  go_ret
  exact ⟨rfl, hB3.trans (hb4.mono hB3.size)⟩
end Go.Proofs.YtjkohkhngeioiaaDoor
