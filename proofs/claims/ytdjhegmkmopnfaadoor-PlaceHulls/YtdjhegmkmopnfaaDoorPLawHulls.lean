/- PlaceHulls: Hull of any cells, against the document's own; the list stays, and what stands behind it. -/
import Derived.Test.YtdjhegmkmopnfaaDoorPWalkV
import Derived.Test.YtdjhegmkmopnfaaDoorPAppend
import Derived.Test.YtdjhegmkmopnfaaDoorPWalkF
namespace Go.Proofs.YtdjhegmkmopnfaaDoor
open Go.RowKit
set_option linter.unusedVariables false

theorem infoCell : (Tryd.prog.info? 23).map (fun i => (i.zero, i.size, i.bytes)) = some (some (.agg #[.int .i64 0, .int .i64 0, .int .i64 0]), 3, 24) := by kernel_rfl
theorem x3_own_empty (w : World) : (w.alloc (.cells #[] 23)).ownsRow w.heap.size 23 3 (.slice (some ⟨w.heap.size, 0, none⟩) 0 0) 0 [] :=
  World.ownsRow_lit w #[] 0 (Nat.le_refl _) (Nat.zero_le _) rfl
def x3_tails : List Value := [.int .i64 0, .int .i64 (-77), .int .i64 0, .int .i64 0, .int .i64 (-78), .int .i64 0]
theorem x3_tails_one : ∀ u ∈ x3_tails, u.oneCell' = true := by
  intro u hu
  simp [x3_tails] at hu
  rcases hu with rfl | rfl | rfl | rfl | rfl | rfl <;> rfl
theorem x3_tails_cells (w : World) : ∀ j u, x3_tails[j]? = some u → (w.alloc (.cells #[.int .i64 0, .int .i64 (-77), .int .i64 0, .int .i64 0, .int .i64 (-78), .int .i64 0] 23)).cell? ((⟨w.heap.size, 0, none⟩ : Addr).add j) = some u := by
  intro j u h
  match j, h with
  | 0, h => simp [x3_tails] at h; subst h; simp [Addr.add, go_sem]
  | 1, h => simp [x3_tails] at h; subst h; simp [Addr.add, go_sem]
  | 2, h => simp [x3_tails] at h; subst h; simp [Addr.add, go_sem]
  | 3, h => simp [x3_tails] at h; subst h; simp [Addr.add, go_sem]
  | 4, h => simp [x3_tails] at h; subst h; simp [Addr.add, go_sem]
  | 5, h => simp [x3_tails] at h; subst h; simp [Addr.add, go_sem]
  | (n + 6), h => simp [x3_tails] at h

set_option maxRecDepth 100000 in
set_option maxHeartbeats 6400000 in
theorem hulls_main (av : Option Addr) (len cap : Nat) (F : Nat → Wpl.Cl) (w : World) (hlen : len ≤ 5864062014634) (hno : av = none → len = 0 ∧ cap = 0) (hc : Hid (Row3 w av len F)) :
    Calls Tryd.prog 6 #[.slice av len cap] w fun e w' => e = .returned (.bool true) ∧ Below w.heap.size w w' := by
  obtain ⟨i0, hi, hz0, hz1, hz2⟩ := info_parts infoCell
  have hcA : ∀ ad, av = some ad → ∀ j u, (rowC F len)[j]? = some u → (w.alloc (.cells #[] 23)).cell? (ad.add j) = some u := by
    intro ad e j u h
    rcases hc.out with h0 | ⟨bb, off, e2, hb, hcc⟩
    · have := (List.getElem?_eq_some_iff.1 h).1
      rw [rowC_length] at this; omega
    · rw [e2] at e
      obtain rfl := Option.some.inj e
      exact rowC_cells (Cells.below hcc hb ((Below.refl _ _).alloc (Nat.le_refl _) _)) j u h
  have HR := fun cap2 k w h1 h2 h3 => hull_row (some ⟨k, 0, none⟩) len cap2 F w (by omega) h1 h2 h3
  have RH := fun w h => rhull_row av len cap F w (by omega) h
  generalize Wpl.hullV F len = V at *
  generalize Wpl.hullOk F len = ok at *
  obtain ⟨v0, v1, v2, v3, v4⟩ := V
  go_enter Tryd.func6, Tryd.ntmps6
  go_wp2_with (at_builtin; refine wpList_append_any rfl _ _ 48 rfl w.heap.size 23 i0 (.agg #[.int .i64 0, .int .i64 0, .int .i64 0]) 3 24 Tryd.underlying48 hi hz0 hz1 hz2 rfl (by decide) _ _ _ rfl (x3_own_empty w) av len cap (rowC F len) rfl hno (rowC_length F len) hcA rowC_one (by unfold maxLen; omega) (by omega) (by simp) ?_)
  intro v1' w1 hown1 hgrow1
  have hB1 : Below w.heap.size w w1 := ((Below.refl _ w).alloc (Nat.le_refl _) _).grown hgrow1 (by simp) (fun k hk => Nat.le_of_eq (Option.some.inj hk))
  clear hgrow1 hcA
  go_wp2_with (at_builtin; refine wpList_append_own _ rfl _ _ 48 rfl w.heap.size 23 i0 (.agg #[.int .i64 0, .int .i64 0, .int .i64 0]) 3 24 Tryd.underlying48 hi hz0 hz1 hz2 rfl (by decide) _ _ _ rfl (hown1.alloc _) ⟨w1.heap.size, 0, none⟩ 2 2 x3_tails rfl rfl (x3_tails_cells w1) x3_tails_one (by unfold maxLen; omega) (by omega) (by have := hB1.size; simp; omega) ?_)
  intro v2' w2 hown2 hgrow2 _
  have hB2 : Below w.heap.size w w2 := (hB1.alloc (by have := hB1.size; omega) _).grown hgrow2 (by have := hB1.size; simp; omega) (fun k hk => (hown1.lt k hk).1)
  clear hown1 hgrow2
  rcases hown2.2 with ⟨-, h0⟩ | ⟨kL, cap2, cur, rfl, hk0, -, hk1, hk2, -, -⟩
  · omega
  have hkl : kL < w2.heap.size := (hown2.lt kL rfl).2
  have lC : Cells w2 kL 0 len F := rowC_of (ts := x3_tails) (fun j hj => hown2.cellAt _ (by omega))
  have L := rowC_length F len
  have t1 : w2.cell? ⟨kL, len * 3 + 1, none⟩ = some (.int .i64 (-77)) := by rw [hown2.cellAt _ (by omega), List.getElem?_append_right (by omega), L, show len * 3 + 1 - len * 3 = 1 by omega]; rfl
  have t2 : w2.cell? ⟨kL, (len + 1) * 3 + 1, none⟩ = some (.int .i64 (-78)) := by rw [hown2.cellAt _ (by omega), List.getElem?_append_right (by omega), L, show (len + 1) * 3 + 1 - len * 3 = 4 by omega]; rfl
  have hkw : w.heap.size ≤ kL := hk0
  have hk3 : cap2 ≤ 9223372036854775807 := by unfold maxLen at hk2; omega
  clear hown2 L hk0 hk2
  have m1 : (len : Int) ≤ (cap2 : Int) := by omega
  have lCh : Hid (Cells w2 kL 0 len F) := lC
  clear lC
  go_wp2_with fail
  refine (HR cap2 kL _ (by omega) hk3 (Or.inr ⟨kL, 0, rfl, hkl, lCh.out⟩)).mono ?_
  rintro e w3 ⟨rfl, hb3⟩
  have hB3 := x3_below_end hB2 hb3
  replace lCh : Hid (Cells w3 kL 0 len F) := Cells.below lCh.out hkl hb3
  replace t1 := cell_below hb3 t1
  replace t2 := cell_below hb3 t2
  replace hkl := Nat.lt_of_lt_of_le hkl hb3.size
  clear hb3 hB2 HR
  go_wp2_with fail
  refine (RH _ (Row3.below (Row3.below hc.out hB3) ((Below.refl _ _).alloc (Nat.le_refl _) _))).mono ?_
  rintro e w4 ⟨rfl, hb4⟩
  have px : AtL w4 w3.heap.size [.int .i64 v0, .int .i64 v1, .int .i64 v2, .int .i64 v3, .int .i64 v4] := AtL.below hb4 (AtL.new0 w3 _ _)
  have hB4 := x3_below_end (x3_ball hB3 _) hb4
  have bA := (Below.refl _ w3).alloc (Nat.le_refl w3.heap.size) (.cells #[.int .i64 v0, .int .i64 v1, .int .i64 v2, .int .i64 v3, .int .i64 v4] 25)
  replace lCh : Hid (Cells w4 kL 0 len F) := Cells.below (Cells.below lCh.out hkl bA) (by simp; omega) hb4
  replace t1 := cell_below hb4 (cell_below bA t1)
  replace t2 := cell_below hb4 (cell_below bA t2)
  replace hkl : kL < w4.heap.size := by have := hb4.size; simp only [World.size_alloc] at this; omega
  clear hb4 hB3 bA RH
  generalize w3.heap.size = kx at *
  go_wp2_with fail
  have py := AtL.new0 w4 25 [.int .i64 v0, .int .i64 v1, .int .i64 v2, .int .i64 v3, .int .i64 v4]
  replace px := AtL.alloc px (.cells #[.int .i64 v0, .int .i64 v1, .int .i64 v2, .int .i64 v3, .int .i64 v4] 25)
  have hB5 := x3_ball hB4 (.cells #[.int .i64 v0, .int .i64 v1, .int .i64 v2, .int .i64 v3, .int .i64 v4] 25)
  have bA := (Below.refl _ w4).alloc (Nat.le_refl w4.heap.size) (.cells #[.int .i64 v0, .int .i64 v1, .int .i64 v2, .int .i64 v3, .int .i64 v4] 25)
  replace lCh : Hid (Cells (w4.alloc (.cells #[.int .i64 v0, .int .i64 v1, .int .i64 v2, .int .i64 v3, .int .i64 v4] 25)) kL 0 len F) := Cells.below lCh.out hkl bA
  replace t1 := cell_below bA t1
  replace t2 := cell_below bA t2
  clear hB4 bA hkl
  generalize w4.heap.size = ky at *
  generalize w4.alloc (.cells #[.int .i64 v0, .int .i64 v1, .int .i64 v2, .int .i64 v3, .int .i64 v4] 25) = w5 at *
  go_loopw [8] (fun i wr => ∃ j n : Nat, j ≤ len ∧ i = .int .i64 j ∧ wr = w5.drewN n) (fun i _ => len - (intOf i).toNat)
  case atStart => exact ⟨0, 0, Nat.zero_le _, rfl, rfl⟩
  case round =>
    obtain ⟨j, n, hj, rfl, rfl⟩ := hrel
    by_cases hlt : j < len
    · obtain ⟨bb, off, rfl, hbb, hcc⟩ : ∃ bb off, av = some ⟨bb, off, none⟩ ∧ bb < w.heap.size ∧ Cells w bb off len F := by
        rcases hc.out with h | h
        · omega
        · exact h
      obtain ⟨x0, x1, x2⟩ := hcc j hlt
      replace x0 := (hB5.cell (p := ⟨bb, off + j * 3, none⟩) hbb).trans x0
      replace x1 := (hB5.cell (p := ⟨bb, off + j * 3 + 1, none⟩) hbb).trans x1
      replace x2 := (hB5.cell (p := ⟨bb, off + j * 3 + 2, none⟩) hbb).trans x2
      obtain ⟨y0, y1, y2⟩ := lCh.out j hlt
      simp only [Nat.zero_add] at y0 y1 y2
      have z1 : (j : Int) < (len : Int) + 2 := by omega
      have z2 : (j : Int) < (len : Int) := by omega
      generalize (F j).s = fs at *
      generalize (F j).r = fr at *
      generalize (F j).c = fc at *
      go_wp2
      go_quiet (fail)
      go_wp2
      go_roundw
      case rel => exact ⟨j + 1, _, by omega, by go_num, rfl⟩
      case measure => simp [intOf]; omega
    · obtain rfl : j = len := by omega
      clear lCh hc hno
      replace px := AtL.below (x3_below_drewN (Below.refl _ _) n) px
      replace py := AtL.below (x3_below_drewN (Below.refl _ _) n) py
      replace t1 := cell_below (x3_below_drewN (Below.refl _ _) n) t1
      replace t2 := cell_below (x3_below_drewN (Below.refl _ _) n) t2
      replace hB5 := x3_below_drewN hB5 n
      generalize w5.drewN n = w6 at *
      go_wp2_with fail
      refine (x3_able_any _).mono ?_
      rintro e w7 ⟨rfl, hb7⟩
      replace px := AtL.below hb7 px
      replace py := AtL.below hb7 py
      replace t1 := cell_below hb7 t1
      replace t2 := cell_below hb7 t2
      have t3 : w7.cell? ⟨kL, j * 3 + 3 + 1, none⟩ = some (.int .i64 (-78)) := by have := t2; rw [show (j + 1) * 3 + 1 = j * 3 + 3 + 1 by omega] at this; exact this
      have hB7 := x3_below_end hB5 hb7
      clear hb7 hB5
      obtain ⟨x0, x1, x2, x3, x4⟩ := px.f5
      obtain ⟨y0, y1, y2, y3, y4⟩ := py.f5
      go_wp2
      go_ret
      exact ⟨by simp, hB7⟩
end Go.Proofs.YtdjhegmkmopnfaaDoor
