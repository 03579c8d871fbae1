/- same, alike: of tokens that are. -/
import Derived.Test.YtjkohkhngeioiaaDoorLText
namespace Go.Proofs.YtjkohkhngeioiaaDoor
open Go.RowKit
set_option linter.unusedVariables false

/-- The three cells of a token. -/
abbrev TokS (b1 o1 b2 o2 : Nat) (k p k2 p2 : Int) (s s2 : ByteArray) (W : World) : Prop :=
  W.cell? ⟨b1, o1, none⟩ = some (.int .i64 k) ∧ W.cell? ⟨b1, o1 + 1, none⟩ = some (.string s) ∧ W.cell? ⟨b1, o1 + 2, none⟩ = some (.int .i64 p) ∧
  W.cell? ⟨b2, o2, none⟩ = some (.int .i64 k2) ∧ W.cell? ⟨b2, o2 + 1, none⟩ = some (.string s2) ∧ W.cell? ⟨b2, o2 + 2, none⟩ = some (.int .i64 p2)
theorem tokS_drew {b1 o1 b2 o2 : Nat} {k p k2 p2 : Int} {s s2 : ByteArray} {W : World} (h : TokS b1 o1 b2 o2 k p k2 p2 s s2 W) : TokS b1 o1 b2 o2 k p k2 p2 s s2 W.drew := h

/-- Two tokens at one place of two rows. -/
theorem tokS_of {w wr : World} {v1 v2 : Value} {xs ys : List Wlx.TV} (h1 : ReadV w v1 xs) (h2 : ReadV w v2 ys) (hb : Below w.heap.size w wr) : ∃ av1 cap1 av2 cap2, v1 = .slice av1 xs.length cap1 ∧ v2 = .slice av2 ys.length cap2 := by
  obtain ⟨a, b, c, _⟩ := h1
  obtain ⟨d, e, f, _⟩ := h2
  exact ⟨a, b, d, e, c, f⟩

set_option maxHeartbeats 1600000 in
theorem same_true (v1 v2 : Value) (xs ys : List Wlx.TV) (w : World) (h1 : ReadV w v1 xs) (h2 : ReadV w v2 ys) (hl : ys.length = xs.length) (hs : xs.length ≤ 9223372036854775806) (he : ∀ i (h1 : i < xs.length) (h2 : i < ys.length), xs[i] = ys[i]) :
    Calls Tryd.prog 12 #[v1, v2] w fun e w' => e = .returned (.bool true) ∧ Below w.heap.size w w' := by
  obtain ⟨av1, cap1, rfl, h1⟩ := h1
  obtain ⟨av2, cap2, rfl, h2⟩ := h2
  have HE : Hid (∀ i (h1 : i < xs.length) (h2 : i < ys.length), xs[i] = ys[i]) := he
  have H1 : Hid (∀ i (h : i < xs.length), ∃ bb off, av1 = some ⟨bb, off, none⟩ ∧ bb < w.heap.size ∧
    w.cell? ⟨bb, off + i * 3, none⟩ = some (.int .i64 (xs[i]).k) ∧ w.cell? ⟨bb, off + i * 3 + 1, none⟩ = some (.string ⟨(xs[i]).t.toArray⟩) ∧ w.cell? ⟨bb, off + i * 3 + 2, none⟩ = some (.int .i64 (xs[i]).p)) := h1
  have H2 : Hid (∀ i (h : i < ys.length), ∃ bb off, av2 = some ⟨bb, off, none⟩ ∧ bb < w.heap.size ∧
    w.cell? ⟨bb, off + i * 3, none⟩ = some (.int .i64 (ys[i]).k) ∧ w.cell? ⟨bb, off + i * 3 + 1, none⟩ = some (.string ⟨(ys[i]).t.toArray⟩) ∧ w.cell? ⟨bb, off + i * 3 + 2, none⟩ = some (.int .i64 (ys[i]).p)) := h2
  have HL : Hid (ys.length = xs.length) := hl
  rw [hl]
  clear h1 h2 he hl
  go_enter Tryd.func12, Tryd.ntmps12
  go_wp2_with fail
  go_loopg [5] (xs.length) (fun gk x wr => ∃ i : Nat, x = .int .i64 i ∧ gk = xs.length - i ∧ i ≤ xs.length ∧ Below w.heap.size w wr)
  case atStart => exact ⟨0, rfl, rfl, Nat.zero_le _, Below.refl _ _⟩
  case round =>
    obtain ⟨i, rfl, hg, hi, hb⟩ := hrel
    by_cases hlt : i < xs.length
    · have hli : (i : Int) < (xs.length : Int) := by omega
      have h2 : i < ys.length := by rw [HL.out]; exact hlt
      obtain ⟨b1, o1, rfl, hb1, c0, c1, c2⟩ := H1.out i hlt
      obtain ⟨b2, o2, rfl, hb2, d0, d1, d2⟩ := H2.out i h2
      obtain ⟨x, hx⟩ : ∃ x, xs[i] = x := ⟨_, rfl⟩
      obtain ⟨y, hy⟩ : ∃ y, ys[i] = y := ⟨_, rfl⟩
      rw [hx] at c0 c1 c2
      rw [hy] at d0 d1 d2
      obtain rfl : x = y := by rw [← hx, ← hy]; exact HE.out i hlt h2
      clear hx hy
      obtain ⟨k, s, p⟩ := x
      have c0 := (hb.cell (p := ⟨b1, o1 + i * 3, none⟩) hb1).trans c0
      have c1 := (hb.cell (p := ⟨b1, o1 + i * 3 + 1, none⟩) hb1).trans c1
      have c2 := (hb.cell (p := ⟨b1, o1 + i * 3 + 2, none⟩) hb1).trans c2
      have d0 := (hb.cell (p := ⟨b2, o2 + i * 3, none⟩) hb2).trans d0
      have d1 := (hb.cell (p := ⟨b2, o2 + i * 3 + 1, none⟩) hb2).trans d1
      have d2 := (hb.cell (p := ⟨b2, o2 + i * 3 + 2, none⟩) hb2).trans d2
      have hS : TokS b1 (o1 + i * 3) b2 (o2 + i * 3) k p k p ⟨s.toArray⟩ ⟨s.toArray⟩ wr := ⟨c0, c1, c2, d0, d1, d2⟩
      clear c0 c1 c2 d0 d1 d2
      go_wp2_with fail
      go_region_held3 (TokS b1 (o1 + i * 3) b2 (o2 + i * 3) k p k p ⟨s.toArray⟩ ⟨s.toArray⟩)
        (with_reducible first | exact hS | assumption | exact tokS_drew hS)
        (first | (go_at_call 999999; fail))
      all_goals
        go_wp2_with fail
        go_roundg (xs.length - (i + 1))
        case rel => exact ⟨i + 1, by simp, rfl, hlt, hb.drew⟩
        case measure => omega
    · have hli : ¬ (i : Int) < (xs.length : Int) := by omega
      go_wp2
      go_ret
      exact ⟨rfl, hb⟩

set_option maxHeartbeats 1600000 in
theorem alike_true (v1 v2 : Value) (xs ys : List Wlx.TV) (w : World) (h1 : ReadV w v1 xs) (h2 : ReadV w v2 ys) (hl : ys.length = xs.length) (hs : xs.length ≤ 9223372036854775806) (he : ∀ i (h1 : i < xs.length) (h2 : i < ys.length), (xs[i]).k = (ys[i]).k ∧ (xs[i]).t = (ys[i]).t) :
    Calls Tryd.prog 16 #[v1, v2] w fun e w' => e = .returned (.bool true) ∧ Below w.heap.size w w' := by
  obtain ⟨av1, cap1, rfl, h1⟩ := h1
  obtain ⟨av2, cap2, rfl, h2⟩ := h2
  have HE : Hid (∀ i (h1 : i < xs.length) (h2 : i < ys.length), (xs[i]).k = (ys[i]).k ∧ (xs[i]).t = (ys[i]).t) := he
  have H1 : Hid (∀ i (h : i < xs.length), ∃ bb off, av1 = some ⟨bb, off, none⟩ ∧ bb < w.heap.size ∧
    w.cell? ⟨bb, off + i * 3, none⟩ = some (.int .i64 (xs[i]).k) ∧ w.cell? ⟨bb, off + i * 3 + 1, none⟩ = some (.string ⟨(xs[i]).t.toArray⟩) ∧ w.cell? ⟨bb, off + i * 3 + 2, none⟩ = some (.int .i64 (xs[i]).p)) := h1
  have H2 : Hid (∀ i (h : i < ys.length), ∃ bb off, av2 = some ⟨bb, off, none⟩ ∧ bb < w.heap.size ∧
    w.cell? ⟨bb, off + i * 3, none⟩ = some (.int .i64 (ys[i]).k) ∧ w.cell? ⟨bb, off + i * 3 + 1, none⟩ = some (.string ⟨(ys[i]).t.toArray⟩) ∧ w.cell? ⟨bb, off + i * 3 + 2, none⟩ = some (.int .i64 (ys[i]).p)) := h2
  have HL : Hid (ys.length = xs.length) := hl
  rw [hl]
  clear h1 h2 he hl
  go_enter Tryd.func16, Tryd.ntmps16
  go_wp2_with fail
  go_loopg [5] (xs.length) (fun gk x wr => ∃ i : Nat, x = .int .i64 i ∧ gk = xs.length - i ∧ i ≤ xs.length ∧ Below w.heap.size w wr)
  case atStart => exact ⟨0, rfl, rfl, Nat.zero_le _, Below.refl _ _⟩
  case round =>
    obtain ⟨i, rfl, hg, hi, hb⟩ := hrel
    by_cases hlt : i < xs.length
    · have hli : (i : Int) < (xs.length : Int) := by omega
      have h2 : i < ys.length := by rw [HL.out]; exact hlt
      obtain ⟨b1, o1, rfl, hb1, c0, c1, c2⟩ := H1.out i hlt
      obtain ⟨b2, o2, rfl, hb2, d0, d1, d2⟩ := H2.out i h2
      obtain ⟨x, hx⟩ : ∃ x, xs[i] = x := ⟨_, rfl⟩
      obtain ⟨y, hy⟩ : ∃ y, ys[i] = y := ⟨_, rfl⟩
      rw [hx] at c0 c1 c2
      rw [hy] at d0 d1 d2
      obtain ⟨ek, et⟩ := HE.out i hlt h2
      rw [hx, hy] at ek et
      clear hx hy
      obtain ⟨k, s, p⟩ := x
      obtain ⟨k2, s2, p2⟩ := y
      simp only at ek et
      subst ek et
      have c0 := (hb.cell (p := ⟨b1, o1 + i * 3, none⟩) hb1).trans c0
      have c1 := (hb.cell (p := ⟨b1, o1 + i * 3 + 1, none⟩) hb1).trans c1
      have c2 := (hb.cell (p := ⟨b1, o1 + i * 3 + 2, none⟩) hb1).trans c2
      have d0 := (hb.cell (p := ⟨b2, o2 + i * 3, none⟩) hb2).trans d0
      have d1 := (hb.cell (p := ⟨b2, o2 + i * 3 + 1, none⟩) hb2).trans d1
      have d2 := (hb.cell (p := ⟨b2, o2 + i * 3 + 2, none⟩) hb2).trans d2
      have hS : TokS b1 (o1 + i * 3) b2 (o2 + i * 3) k p k p2 ⟨s.toArray⟩ ⟨s.toArray⟩ wr := ⟨c0, c1, c2, d0, d1, d2⟩
      clear c0 c1 c2 d0 d1 d2
      go_wp2_with fail
      go_region_held3 (TokS b1 (o1 + i * 3) b2 (o2 + i * 3) k p k p2 ⟨s.toArray⟩ ⟨s.toArray⟩)
        (with_reducible first | exact hS | assumption | exact tokS_drew hS)
        (first | (go_at_call 999999; fail))
      all_goals
        go_wp2_with fail
        go_roundg (xs.length - (i + 1))
        case rel => exact ⟨i + 1, by simp, rfl, hlt, hb.drew⟩
        case measure => omega
    · have hli : ¬ (i : Int) < (xs.length : Int) := by omega
      go_wp2
      go_ret
      exact ⟨rfl, hb⟩
end Go.Proofs.YtjkohkhngeioiaaDoor
