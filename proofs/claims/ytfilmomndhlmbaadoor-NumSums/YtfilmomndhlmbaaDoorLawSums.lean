/- NumSums answers true, whatever it is asked. -/
import Derived.Test.YtfilmomndhlmbaaDoorWalkSum
import Derived.Test.YtfilmomndhlmbaaDoorWalkRsum
import Derived.Test.YtfilmomndhlmbaaDoorWalkE
import Derived.OwnWalk
import Derived.Laws.AppendOwnNone
import Derived.Laws.OwnMore
import Derived.Deep.DeepCutAuto
namespace Go.Proofs.YtfilmomndhlmbaaDoor
open Go.RowKit
set_option linter.unusedVariables false

theorem infoNum : (Tryd.prog.info? 23).map (fun i => (i.zero, i.size, i.bytes)) = some (some (.agg #[.int .i64 0, .int .i64 0]), 2, 16) := by kernel_rfl

/-- The cells of a row of pairs. -/
def rowOf (f g : Nat → Int) (len : Nat) : List Value := (List.range (len * 2)).map fun j => if j % 2 = 0 then .int .i64 (f (j / 2)) else .int .i64 (g (j / 2))
theorem rowOf_length (f g : Nat → Int) (len : Nat) : (rowOf f g len).length = len * 2 := by unfold rowOf; simp
theorem rowOf_get {f g : Nat → Int} {len j : Nat} {u : Value} (h : (rowOf f g len)[j]? = some u) : j < len * 2 ∧ u = if j % 2 = 0 then .int .i64 (f (j / 2)) else .int .i64 (g (j / 2)) := by
  have hj : j < len * 2 := by
    have := (List.getElem?_eq_some_iff.1 h).1
    rw [rowOf_length] at this; exact this
  unfold rowOf at h
  rw [List.getElem?_map, List.getElem?_range hj] at h
  exact ⟨hj, (Option.some.inj h).symm⟩
theorem rowOf_one {f g : Nat → Int} {len : Nat} : ∀ u ∈ rowOf f g len, u.oneCell' = true := by
  intro u hu
  unfold rowOf at hu
  obtain ⟨j, _, rfl⟩ := List.mem_map.1 hu
  split <;> rfl
theorem rowOf_cells {f g : Nat → Int} {len b off : Nat} {w : World} (hc0 : ∀ i, i < len → w.cell? ⟨b, off + i * 2, none⟩ = some (.int .i64 (f i))) (hc1 : ∀ i, i < len → w.cell? ⟨b, off + i * 2 + 1, none⟩ = some (.int .i64 (g i))) :
    ∀ j u, (rowOf f g len)[j]? = some u → w.cell? ((⟨b, off, none⟩ : Addr).add j) = some u := by
  intro j u h
  obtain ⟨hj, rfl⟩ := rowOf_get h
  have e : (⟨b, off, none⟩ : Addr).add j = ⟨b, off + j, none⟩ := by
    unfold Addr.add
    by_cases h0 : j = 0
    · rw [if_pos h0, h0]; rfl
    · rw [if_neg h0]
  rw [e]
  by_cases hp : j % 2 = 0
  · rw [if_pos hp]
    have := hc0 (j / 2) (by omega)
    rw [show off + j / 2 * 2 = off + j by omega] at this
    exact this
  · rw [if_neg hp]
    have := hc1 (j / 2) (by omega)
    rw [show off + j / 2 * 2 + 1 = off + j by omega] at this
    exact this


theorem rsum_zero (a0 : Option Addr) (n cap : Nat) (hz : n = 0) (f g : Nat → Int) (w : World) :
    Calls Tryd.prog 17 #[.slice a0 n cap] w fun e w' => e = .returned (.tuple #[.agg #[.int .i64 (Wnum.oN (Wnum.sumQ 0 (Wnum.els f g n))), .int .i64 (Wnum.oD (Wnum.sumQ 0 (Wnum.els f g n)))], .bool (Wnum.oB (Wnum.sumQ 0 (Wnum.els f g n)))]) ∧ Below w.heap.size w w' := by
  subst hz
  have e : Wnum.sumQ 0 (Wnum.els f g 0) = some 0 := rfl
  rw [e, Wnum.o_zero.1, Wnum.o_zero.2.1, Wnum.o_zero.2.2]
  exact rsum_empty a0 cap w
theorem rowOf_at {f g : Nat → Int} {len i : Nat} (h : i < len) : (rowOf f g len)[i * 2]? = some (.int .i64 (f i)) ∧ (rowOf f g len)[i * 2 + 1]? = some (.int .i64 (g i)) := by
  unfold rowOf
  constructor
  · rw [List.getElem?_map, List.getElem?_range (by omega)]
    show some (if (i * 2) % 2 = 0 then Value.int .i64 (f (i * 2 / 2)) else Value.int .i64 (g (i * 2 / 2))) = _
    rw [if_pos (by omega), show i * 2 / 2 = i by omega]
  · rw [List.getElem?_map, List.getElem?_range (by omega)]
    show some (if (i * 2 + 1) % 2 = 0 then Value.int .i64 (f ((i * 2 + 1) / 2)) else Value.int .i64 (g ((i * 2 + 1) / 2))) = _
    rw [if_neg (by omega), show (i * 2 + 1) / 2 = i by omega]
theorem own_empty (w : World) : (w.alloc (.cells #[] 23)).ownsRow w.heap.size 23 2 (.slice (some ⟨w.heap.size, 0, none⟩) 0 0) 0 [] :=
  World.ownsRow_lit w #[] 0 (Nat.le_refl _) (Nat.zero_le _) rfl
def tails : List Value := [.int .i64 77, .int .i64 1, .int .i64 78, .int .i64 1]
theorem tails_one : ∀ u ∈ tails, u.oneCell' = true := by
  intro u hu
  simp [tails] at hu
  rcases hu with rfl | rfl | rfl | rfl <;> rfl
theorem tails_cells (w : World) : ∀ j u, tails[j]? = some u → (w.alloc (.cells #[.int .i64 77, .int .i64 1, .int .i64 78, .int .i64 1] 23)).cell? ((⟨w.heap.size, 0, none⟩ : Addr).add j) = some u := by
  intro j u h
  match j, h with
  | 0, h => simp [tails] at h; subst h; simp [Addr.add, go_sem]
  | 1, h => simp [tails] at h; subst h; simp [Addr.add, go_sem]
  | 2, h => simp [tails] at h; subst h; simp [Addr.add, go_sem]
  | 3, h => simp [tails] at h; subst h; simp [Addr.add, go_sem]
  | (n + 4), h => simp [tails] at h
/-- What the copy holds. -/
theorem copied {f g : Nat → Int} {len base k cap2 : Nat} {w : World} (h : w.ownsRow base 23 2 (.slice (some ⟨k, 0, none⟩) (len + 2) cap2) (len + 2) (rowOf f g len ++ tails)) :
    (∀ i, i < len → w.cell? ⟨k, 0 + i * 2, none⟩ = some (.int .i64 (f i))) ∧ (∀ i, i < len → w.cell? ⟨k, 0 + i * 2 + 1, none⟩ = some (.int .i64 (g i))) ∧ w.cell? ⟨k, len * 2, none⟩ = some (.int .i64 77) ∧ w.cell? ⟨k, (len + 1) * 2, none⟩ = some (.int .i64 78) := by
  have L := rowOf_length f g len
  refine ⟨fun i hi => ?_, fun i hi => ?_, ?_, ?_⟩
  · rw [Nat.zero_add, h.cellAt _ (by omega), List.getElem?_append_left (by omega)]; exact (rowOf_at hi).1
  · rw [Nat.zero_add, h.cellAt _ (by omega), List.getElem?_append_left (by omega)]; exact (rowOf_at hi).2
  · rw [h.cellAt _ (by omega), List.getElem?_append_right (by omega), L, Nat.sub_self]; rfl
  · rw [h.cellAt _ (by omega), List.getElem?_append_right (by omega), L, show (len + 1) * 2 - len * 2 = 2 by omega]; rfl

set_option maxRecDepth 100000 in
set_option maxHeartbeats 6400000 in
theorem sums_p (b off len cap : Nat) (f g : Nat → Int) (w : World) (hlen : len ≤ 8796093021952) (hb : 0 < len → b < w.heap.size)
    (hc0 : ∀ i, i < len → w.cell? ⟨b, off + i * 2, none⟩ = some (.int .i64 (f i))) (hc1 : ∀ i, i < len → w.cell? ⟨b, off + i * 2 + 1, none⟩ = some (.int .i64 (g i)))
    (hf : ∀ i, i < len → -9223372036854775808 ≤ f i ∧ f i ≤ 9223372036854775807) (hg : ∀ i, i < len → -9223372036854775808 ≤ g i ∧ g i ≤ 9223372036854775807) :
    Calls Tryd.prog 5 #[.slice (some ⟨b, off, none⟩) len cap] w fun e w' => e = .returned (.bool true) ∧ Below w.heap.size w w' := by
  obtain ⟨i0, hi, hz0, hz1, hz2⟩ := info_parts infoNum
  go_enter Tryd.func5, Tryd.ntmps5
  have hcA : ∀ j u, (rowOf f g len)[j]? = some u → (w.alloc (.cells #[] 23)).cell? ((⟨b, off, none⟩ : Addr).add j) = some u :=
    rowOf_cells (fun i hi => (World.cell?_alloc_past _ _ _ (hb (by omega))).trans (hc0 i hi)) (fun i hi => (World.cell?_alloc_past _ _ _ (hb (by omega))).trans (hc1 i hi))
  go_wp2_with (at_builtin; refine wpList_append_own _ rfl _ _ 31 rfl w.heap.size 23 i0 (.agg #[.int .i64 0, .int .i64 0]) 2 16 Tryd.underlying31 hi hz0 hz1 hz2 rfl (by decide) _ _ _ rfl (own_empty w) ⟨b, off, none⟩ len cap (rowOf f g len) rfl (rowOf_length f g len) hcA rowOf_one (by unfold maxLen; omega) (by omega) (by simp) ?_)
  intro v1 w1 hown1 hgrow1 _
  have hB1 : Below w.heap.size w w1 := ((Below.refl _ w).alloc (Nat.le_refl _) _).grown hgrow1 (by simp) (fun k hk => Nat.le_of_eq (Option.some.inj hk))
  clear hgrow1
  go_wp2_with (at_builtin; refine wpList_append_own _ rfl _ _ 31 rfl w.heap.size 23 i0 (.agg #[.int .i64 0, .int .i64 0]) 2 16 Tryd.underlying31 hi hz0 hz1 hz2 rfl (by decide) _ _ _ rfl (hown1.alloc _) ⟨w1.heap.size, 0, none⟩ 2 2 tails rfl rfl (tails_cells w1) tails_one (by unfold maxLen; omega) (by omega) (by have := hB1.size; simp; omega) ?_)
  intro v2 w2 hown2 hgrow2 _
  have hB2 : Below w.heap.size w w2 := (hB1.alloc (by have := hB1.size; omega) _).grown hgrow2 (by have := hB1.size; simp; omega) (fun k hk => (hown1.lt k hk).1)
  clear hown1 hgrow2
  rcases hown2.2 with ⟨-, h0⟩ | ⟨kL, cap2, cur, rfl, hk0, -, hk1, hk2, -, -⟩
  · omega
  have hkl : kL < w2.heap.size := (hown2.lt kL rfl).2
  obtain ⟨l0, l1, l2, l3⟩ := copied hown2
  clear hown2
  obtain ⟨nx, E1⟩ : ∃ nx, Hid (Wnum.oN (Wnum.sumQ 0 (Wnum.els f g len)) = nx) := ⟨_, (rfl : Wnum.oN (Wnum.sumQ 0 (Wnum.els f g len)) = _)⟩
  obtain ⟨dx, E2⟩ : ∃ dx, Hid (Wnum.oD (Wnum.sumQ 0 (Wnum.els f g len)) = dx) := ⟨_, (rfl : Wnum.oD (Wnum.sumQ 0 (Wnum.els f g len)) = _)⟩
  obtain ⟨bx, E3⟩ : ∃ bx, Hid (Wnum.oB (Wnum.sumQ 0 (Wnum.els f g len)) = bx) := ⟨_, (rfl : Wnum.oB (Wnum.sumQ 0 (Wnum.els f g len)) = _)⟩
  have m1 : (len : Int) ≤ (cap2 : Int) := by omega
  go_wp2_with fail
  refine (sum_any kL 0 len cap2 f g _ (by omega) (fun _ => hkl) l0 l1 hf hg).mono ?_
  rintro e w3 ⟨rfl, hb3⟩
  rw [E1.out, E2.out, E3.out]
  have hB3 := below_end hB2 hb3
  have hkl3 : kL < w3.heap.size := Nat.lt_of_lt_of_le hkl hb3.size
  have k0 : ∀ i, i < len → w3.cell? ⟨kL, 0 + i * 2, none⟩ = some (.int .i64 (f i)) := fun i h => (hb3.cell (p := ⟨kL, 0 + i * 2, none⟩) hkl).trans (l0 i h)
  have k1 : ∀ i, i < len → w3.cell? ⟨kL, 0 + i * 2 + 1, none⟩ = some (.int .i64 (g i)) := fun i h => (hb3.cell (p := ⟨kL, 0 + i * 2 + 1, none⟩) hkl).trans (l1 i h)
  have k2 : w3.cell? ⟨kL, len * 2, none⟩ = some (.int .i64 77) := (hb3.cell (p := ⟨kL, len * 2, none⟩) hkl).trans l2
  have k3 : w3.cell? ⟨kL, (len + 1) * 2, none⟩ = some (.int .i64 78) := (hb3.cell (p := ⟨kL, (len + 1) * 2, none⟩) hkl).trans l3
  clear hb3 hB2 l0 l1 l2 l3 hkl
  have hB4 := ball hB3 (.cells #[.int .i64 nx, .int .i64 dx] 23)
  have pX4 := At.new w3 23 rfl (.int .i64 nx) (.int .i64 dx)
  have hkl4 : kL < (w3.alloc (.cells #[.int .i64 nx, .int .i64 dx] 23)).heap.size := by simp; omega
  have l0 : ∀ i, i < len → (w3.alloc (.cells #[.int .i64 nx, .int .i64 dx] 23)).cell? ⟨kL, 0 + i * 2, none⟩ = some (.int .i64 (f i)) := fun i h => (World.cell?_alloc_past _ _ _ hkl3).trans (k0 i h)
  have l1 : ∀ i, i < len → (w3.alloc (.cells #[.int .i64 nx, .int .i64 dx] 23)).cell? ⟨kL, 0 + i * 2 + 1, none⟩ = some (.int .i64 (g i)) := fun i h => (World.cell?_alloc_past _ _ _ hkl3).trans (k1 i h)
  have l2 : (w3.alloc (.cells #[.int .i64 nx, .int .i64 dx] 23)).cell? ⟨kL, len * 2, none⟩ = some (.int .i64 77) := (World.cell?_alloc_past _ _ _ hkl3).trans k2
  have l3 : (w3.alloc (.cells #[.int .i64 nx, .int .i64 dx] 23)).cell? ⟨kL, (len + 1) * 2, none⟩ = some (.int .i64 78) := (World.cell?_alloc_past _ _ _ hkl3).trans k3
  go_upto_region 3 with fail
  clear hB3 k0 k1 k2 k3 hkl3
  generalize w3.heap.size = kX at *
  generalize w3.alloc (.cells #[.int .i64 nx, .int .i64 dx] 23) = w4 at *
  clear w3
  go_wp2_with fail
  refine (rsum_any b off len cap f g _ (by omega) (fun h => by have := hB4.size; have := hb h; omega) (fun i h => (hB4.cell (p := ⟨b, off + i * 2, none⟩) (hb (by omega))).trans (hc0 i h)) (fun i h => (hB4.cell (p := ⟨b, off + i * 2 + 1, none⟩) (hb (by omega))).trans (hc1 i h)) hf hg).mono ?_
  rintro e w5 ⟨rfl, hb5⟩
  rw [E1.out, E2.out, E3.out]
  have hB5 := below_end hB4 hb5
  have pX5 := At.below hb5 pX4
  have hkl5 : kL < w5.heap.size := Nat.lt_of_lt_of_le hkl4 hb5.size
  have k0 : ∀ i, i < len → w5.cell? ⟨kL, 0 + i * 2, none⟩ = some (.int .i64 (f i)) := fun i h => (hb5.cell (p := ⟨kL, 0 + i * 2, none⟩) hkl4).trans (l0 i h)
  have k1 : ∀ i, i < len → w5.cell? ⟨kL, 0 + i * 2 + 1, none⟩ = some (.int .i64 (g i)) := fun i h => (hb5.cell (p := ⟨kL, 0 + i * 2 + 1, none⟩) hkl4).trans (l1 i h)
  have k2 : w5.cell? ⟨kL, len * 2, none⟩ = some (.int .i64 77) := (hb5.cell (p := ⟨kL, len * 2, none⟩) hkl4).trans l2
  have k3 : w5.cell? ⟨kL, (len + 1) * 2, none⟩ = some (.int .i64 78) := (hb5.cell (p := ⟨kL, (len + 1) * 2, none⟩) hkl4).trans l3
  clear hb5 hB4 pX4 l0 l1 l2 l3 hkl4
  have hB6 := ball hB5 (.cells #[.int .i64 nx, .int .i64 dx] 23)
  have pX6 := pX5.alloc (.cells #[.int .i64 nx, .int .i64 dx] 23)
  have pY6 := At.new w5 23 rfl (.int .i64 nx) (.int .i64 dx)
  have hkl6 : kL < (w5.alloc (.cells #[.int .i64 nx, .int .i64 dx] 23)).heap.size := by simp; omega
  have l0 : ∀ i, i < len → (w5.alloc (.cells #[.int .i64 nx, .int .i64 dx] 23)).cell? ⟨kL, 0 + i * 2, none⟩ = some (.int .i64 (f i)) := fun i h => (World.cell?_alloc_past _ _ _ hkl5).trans (k0 i h)
  have l1 : ∀ i, i < len → (w5.alloc (.cells #[.int .i64 nx, .int .i64 dx] 23)).cell? ⟨kL, 0 + i * 2 + 1, none⟩ = some (.int .i64 (g i)) := fun i h => (World.cell?_alloc_past _ _ _ hkl5).trans (k1 i h)
  have l2 : (w5.alloc (.cells #[.int .i64 nx, .int .i64 dx] 23)).cell? ⟨kL, len * 2, none⟩ = some (.int .i64 77) := (World.cell?_alloc_past _ _ _ hkl5).trans k2
  have l3 : (w5.alloc (.cells #[.int .i64 nx, .int .i64 dx] 23)).cell? ⟨kL, (len + 1) * 2, none⟩ = some (.int .i64 78) := (World.cell?_alloc_past _ _ _ hkl5).trans k3
  go_upto_region 4 with fail
  clear hB5 pX5 k0 k1 k2 k3 hkl5
  generalize w5.heap.size = kY at *
  generalize w5.alloc (.cells #[.int .i64 nx, .int .i64 dx] 23) = w6 at *
  clear w5
  obtain ⟨x1, x2, x3, x4⟩ := pX6
  obtain ⟨y1, y2, y3, y4⟩ := pY6
  have LL : Hid (∀ i, i < len → w6.cell? ⟨kL, 0 + i * 2, none⟩ = some (.int .i64 (f i))) := l0
  have LM : Hid (∀ i, i < len → w6.cell? ⟨kL, 0 + i * 2 + 1, none⟩ = some (.int .i64 (g i))) := l1
  clear l0 l1
  cases bx with
  | false =>
    go_wp2_with fail
    refine (able_any _).mono ?_
    rintro e w7 ⟨rfl, hb7⟩
    have hB7 := below_end hB6 hb7
    have k0 : Hid (∀ i, i < len → w7.cell? ⟨kL, 0 + i * 2, none⟩ = some (.int .i64 (f i))) := fun i h => (hb7.cell (p := ⟨kL, 0 + i * 2, none⟩) hkl6).trans (LL.out i h)
    have k1 : Hid (∀ i, i < len → w7.cell? ⟨kL, 0 + i * 2 + 1, none⟩ = some (.int .i64 (g i))) := fun i h => (hb7.cell (p := ⟨kL, 0 + i * 2 + 1, none⟩) hkl6).trans (LM.out i h)
    have k2 : w7.cell? ⟨kL, len * 2, none⟩ = some (.int .i64 77) := (hb7.cell (p := ⟨kL, len * 2, none⟩) hkl6).trans l2
    have k3 : w7.cell? ⟨kL, (len + 1) * 2, none⟩ = some (.int .i64 78) := (hb7.cell (p := ⟨kL, (len + 1) * 2, none⟩) hkl6).trans l3
    clear hb7 hB6 LL LM l2 l3 hkl6 x1 x2 x3 x4 y1 y2 y3 y4
    have k4 : w7.cell? ⟨kL, len * 2 + 2, none⟩ = some (.int .i64 78) := by have := k3; rw [show (len + 1) * 2 = len * 2 + 2 by omega] at this; exact this
    go_wp2_with fail
    go_loopw [8] (fun i wr => ∃ j n : Nat, j ≤ len ∧ i = .int .i64 j ∧ wr = w7.drewN n) (fun i _ => len - (intOf i).toNat)
    case atStart => exact ⟨0, 0, Nat.zero_le _, rfl, rfl⟩
    case round =>
      obtain ⟨j, n, hj, rfl, rfl⟩ := hrel
      by_cases hlt : j < len
      · have x0 : w7.cell? ⟨kL, j * 2, none⟩ = some (.int .i64 (f j)) := by have := k0.out j hlt; rw [Nat.zero_add] at this; exact this
        have x1 : w7.cell? ⟨kL, j * 2 + 1, none⟩ = some (.int .i64 (g j)) := by have := k1.out j hlt; rw [Nat.zero_add] at this; exact this
        have y0 : w7.cell? ⟨b, off + j * 2, none⟩ = some (.int .i64 (f j)) := (hB7.cell (p := ⟨b, off + j * 2, none⟩) (hb (by omega))).trans (hc0 j hlt)
        have y1 : w7.cell? ⟨b, off + j * 2 + 1, none⟩ = some (.int .i64 (g j)) := (hB7.cell (p := ⟨b, off + j * 2 + 1, none⟩) (hb (by omega))).trans (hc1 j hlt)
        have z1 : (j : Int) < (len : Int) + 2 := by omega
        have z2 : (j : Int) < (len : Int) := by omega
        go_wp2
        go_quiet (fail)
        go_wp2
        go_roundw
        case rel => exact ⟨j + 1, _, by omega, by go_num, rfl⟩
        case measure => simp [intOf]; omega
      · have hj' : j = len := by omega
        subst hj'
        go_wp2
        go_ret
        exact ⟨rfl, below_drewN hB7 n⟩
  | true =>
    go_wp2_with fail
    refine (able_any _).mono ?_
    rintro e w7 ⟨rfl, hb7⟩
    have hB7 := below_end hB6 hb7
    have k0 : Hid (∀ i, i < len → w7.cell? ⟨kL, 0 + i * 2, none⟩ = some (.int .i64 (f i))) := fun i h => (hb7.cell (p := ⟨kL, 0 + i * 2, none⟩) hkl6).trans (LL.out i h)
    have k1 : Hid (∀ i, i < len → w7.cell? ⟨kL, 0 + i * 2 + 1, none⟩ = some (.int .i64 (g i))) := fun i h => (hb7.cell (p := ⟨kL, 0 + i * 2 + 1, none⟩) hkl6).trans (LM.out i h)
    have k2 : w7.cell? ⟨kL, len * 2, none⟩ = some (.int .i64 77) := (hb7.cell (p := ⟨kL, len * 2, none⟩) hkl6).trans l2
    have k3 : w7.cell? ⟨kL, (len + 1) * 2, none⟩ = some (.int .i64 78) := (hb7.cell (p := ⟨kL, (len + 1) * 2, none⟩) hkl6).trans l3
    clear hb7 hB6 LL LM l2 l3 hkl6 x1 x2 x3 x4 y1 y2 y3 y4
    have k4 : w7.cell? ⟨kL, len * 2 + 2, none⟩ = some (.int .i64 78) := by have := k3; rw [show (len + 1) * 2 = len * 2 + 2 by omega] at this; exact this
    go_wp2_with fail
    go_loopw [8] (fun i wr => ∃ j n : Nat, j ≤ len ∧ i = .int .i64 j ∧ wr = w7.drewN n) (fun i _ => len - (intOf i).toNat)
    case atStart => exact ⟨0, 0, Nat.zero_le _, rfl, rfl⟩
    case round =>
      obtain ⟨j, n, hj, rfl, rfl⟩ := hrel
      by_cases hlt : j < len
      · have x0 : w7.cell? ⟨kL, j * 2, none⟩ = some (.int .i64 (f j)) := by have := k0.out j hlt; rw [Nat.zero_add] at this; exact this
        have x1 : w7.cell? ⟨kL, j * 2 + 1, none⟩ = some (.int .i64 (g j)) := by have := k1.out j hlt; rw [Nat.zero_add] at this; exact this
        have y0 : w7.cell? ⟨b, off + j * 2, none⟩ = some (.int .i64 (f j)) := (hB7.cell (p := ⟨b, off + j * 2, none⟩) (hb (by omega))).trans (hc0 j hlt)
        have y1 : w7.cell? ⟨b, off + j * 2 + 1, none⟩ = some (.int .i64 (g j)) := (hB7.cell (p := ⟨b, off + j * 2 + 1, none⟩) (hb (by omega))).trans (hc1 j hlt)
        have z1 : (j : Int) < (len : Int) + 2 := by omega
        have z2 : (j : Int) < (len : Int) := by omega
        go_wp2
        go_quiet (fail)
        go_wp2
        go_roundw
        case rel => exact ⟨j + 1, _, by omega, by go_num, rfl⟩
        case measure => simp [intOf]; omega
      · have hj' : j = len := by omega
        subst hj'
        go_wp2
        go_ret
        exact ⟨rfl, below_drewN hB7 n⟩

set_option maxRecDepth 100000 in
set_option maxHeartbeats 6400000 in
theorem sums_e (b off len cap : Nat) (f g : Nat → Int) (ad : Addr) (HZ : Hid (len = 0)) (w : World) (hlen : len ≤ 8796093021952) (hb : 0 < len → b < w.heap.size)
    (hc0 : ∀ i, i < len → w.cell? ⟨b, off + i * 2, none⟩ = some (.int .i64 (f i))) (hc1 : ∀ i, i < len → w.cell? ⟨b, off + i * 2 + 1, none⟩ = some (.int .i64 (g i)))
    (hf : ∀ i, i < len → -9223372036854775808 ≤ f i ∧ f i ≤ 9223372036854775807) (hg : ∀ i, i < len → -9223372036854775808 ≤ g i ∧ g i ≤ 9223372036854775807) :
    Calls Tryd.prog 5 #[.slice (some ad) len cap] w fun e w' => e = .returned (.bool true) ∧ Below w.heap.size w w' := by
  obtain ⟨i0, hi, hz0, hz1, hz2⟩ := info_parts infoNum
  go_enter Tryd.func5, Tryd.ntmps5
  have hcA : ∀ j u, (rowOf f g len)[j]? = some u → (w.alloc (.cells #[] 23)).cell? (ad.add j) = some u := fun j u h => by have := (rowOf_get h).1; have := HZ.out; omega
  go_wp2_with (at_builtin; refine wpList_append_own _ rfl _ _ 31 rfl w.heap.size 23 i0 (.agg #[.int .i64 0, .int .i64 0]) 2 16 Tryd.underlying31 hi hz0 hz1 hz2 rfl (by decide) _ _ _ rfl (own_empty w) ad len cap (rowOf f g len) rfl (rowOf_length f g len) hcA rowOf_one (by unfold maxLen; omega) (by omega) (by simp) ?_)
  intro v1 w1 hown1 hgrow1 _
  have hB1 : Below w.heap.size w w1 := ((Below.refl _ w).alloc (Nat.le_refl _) _).grown hgrow1 (by simp) (fun k hk => Nat.le_of_eq (Option.some.inj hk))
  clear hgrow1
  go_wp2_with (at_builtin; refine wpList_append_own _ rfl _ _ 31 rfl w.heap.size 23 i0 (.agg #[.int .i64 0, .int .i64 0]) 2 16 Tryd.underlying31 hi hz0 hz1 hz2 rfl (by decide) _ _ _ rfl (hown1.alloc _) ⟨w1.heap.size, 0, none⟩ 2 2 tails rfl rfl (tails_cells w1) tails_one (by unfold maxLen; omega) (by omega) (by have := hB1.size; simp; omega) ?_)
  intro v2 w2 hown2 hgrow2 _
  have hB2 : Below w.heap.size w w2 := (hB1.alloc (by have := hB1.size; omega) _).grown hgrow2 (by have := hB1.size; simp; omega) (fun k hk => (hown1.lt k hk).1)
  clear hown1 hgrow2
  rcases hown2.2 with ⟨-, h0⟩ | ⟨kL, cap2, cur, rfl, hk0, -, hk1, hk2, -, -⟩
  · omega
  have hkl : kL < w2.heap.size := (hown2.lt kL rfl).2
  obtain ⟨l0, l1, l2, l3⟩ := copied hown2
  clear hown2
  obtain ⟨nx, E1⟩ : ∃ nx, Hid (Wnum.oN (Wnum.sumQ 0 (Wnum.els f g len)) = nx) := ⟨_, (rfl : Wnum.oN (Wnum.sumQ 0 (Wnum.els f g len)) = _)⟩
  obtain ⟨dx, E2⟩ : ∃ dx, Hid (Wnum.oD (Wnum.sumQ 0 (Wnum.els f g len)) = dx) := ⟨_, (rfl : Wnum.oD (Wnum.sumQ 0 (Wnum.els f g len)) = _)⟩
  obtain ⟨bx, E3⟩ : ∃ bx, Hid (Wnum.oB (Wnum.sumQ 0 (Wnum.els f g len)) = bx) := ⟨_, (rfl : Wnum.oB (Wnum.sumQ 0 (Wnum.els f g len)) = _)⟩
  have m1 : (len : Int) ≤ (cap2 : Int) := by omega
  go_wp2_with fail
  refine (sum_any kL 0 len cap2 f g _ (by omega) (fun _ => hkl) l0 l1 hf hg).mono ?_
  rintro e w3 ⟨rfl, hb3⟩
  rw [E1.out, E2.out, E3.out]
  have hB3 := below_end hB2 hb3
  have hkl3 : kL < w3.heap.size := Nat.lt_of_lt_of_le hkl hb3.size
  have k0 : ∀ i, i < len → w3.cell? ⟨kL, 0 + i * 2, none⟩ = some (.int .i64 (f i)) := fun i h => (hb3.cell (p := ⟨kL, 0 + i * 2, none⟩) hkl).trans (l0 i h)
  have k1 : ∀ i, i < len → w3.cell? ⟨kL, 0 + i * 2 + 1, none⟩ = some (.int .i64 (g i)) := fun i h => (hb3.cell (p := ⟨kL, 0 + i * 2 + 1, none⟩) hkl).trans (l1 i h)
  have k2 : w3.cell? ⟨kL, len * 2, none⟩ = some (.int .i64 77) := (hb3.cell (p := ⟨kL, len * 2, none⟩) hkl).trans l2
  have k3 : w3.cell? ⟨kL, (len + 1) * 2, none⟩ = some (.int .i64 78) := (hb3.cell (p := ⟨kL, (len + 1) * 2, none⟩) hkl).trans l3
  clear hb3 hB2 l0 l1 l2 l3 hkl
  have hB4 := ball hB3 (.cells #[.int .i64 nx, .int .i64 dx] 23)
  have pX4 := At.new w3 23 rfl (.int .i64 nx) (.int .i64 dx)
  have hkl4 : kL < (w3.alloc (.cells #[.int .i64 nx, .int .i64 dx] 23)).heap.size := by simp; omega
  have l0 : ∀ i, i < len → (w3.alloc (.cells #[.int .i64 nx, .int .i64 dx] 23)).cell? ⟨kL, 0 + i * 2, none⟩ = some (.int .i64 (f i)) := fun i h => (World.cell?_alloc_past _ _ _ hkl3).trans (k0 i h)
  have l1 : ∀ i, i < len → (w3.alloc (.cells #[.int .i64 nx, .int .i64 dx] 23)).cell? ⟨kL, 0 + i * 2 + 1, none⟩ = some (.int .i64 (g i)) := fun i h => (World.cell?_alloc_past _ _ _ hkl3).trans (k1 i h)
  have l2 : (w3.alloc (.cells #[.int .i64 nx, .int .i64 dx] 23)).cell? ⟨kL, len * 2, none⟩ = some (.int .i64 77) := (World.cell?_alloc_past _ _ _ hkl3).trans k2
  have l3 : (w3.alloc (.cells #[.int .i64 nx, .int .i64 dx] 23)).cell? ⟨kL, (len + 1) * 2, none⟩ = some (.int .i64 78) := (World.cell?_alloc_past _ _ _ hkl3).trans k3
  go_upto_region 3 with fail
  clear hB3 k0 k1 k2 k3 hkl3
  generalize w3.heap.size = kX at *
  generalize w3.alloc (.cells #[.int .i64 nx, .int .i64 dx] 23) = w4 at *
  clear w3
  go_wp2_with fail
  refine (rsum_zero (some ad) len cap HZ.out f g _).mono ?_
  rintro e w5 ⟨rfl, hb5⟩
  rw [E1.out, E2.out, E3.out]
  have hB5 := below_end hB4 hb5
  have pX5 := At.below hb5 pX4
  have hkl5 : kL < w5.heap.size := Nat.lt_of_lt_of_le hkl4 hb5.size
  have k0 : ∀ i, i < len → w5.cell? ⟨kL, 0 + i * 2, none⟩ = some (.int .i64 (f i)) := fun i h => (hb5.cell (p := ⟨kL, 0 + i * 2, none⟩) hkl4).trans (l0 i h)
  have k1 : ∀ i, i < len → w5.cell? ⟨kL, 0 + i * 2 + 1, none⟩ = some (.int .i64 (g i)) := fun i h => (hb5.cell (p := ⟨kL, 0 + i * 2 + 1, none⟩) hkl4).trans (l1 i h)
  have k2 : w5.cell? ⟨kL, len * 2, none⟩ = some (.int .i64 77) := (hb5.cell (p := ⟨kL, len * 2, none⟩) hkl4).trans l2
  have k3 : w5.cell? ⟨kL, (len + 1) * 2, none⟩ = some (.int .i64 78) := (hb5.cell (p := ⟨kL, (len + 1) * 2, none⟩) hkl4).trans l3
  clear hb5 hB4 pX4 l0 l1 l2 l3 hkl4
  have hB6 := ball hB5 (.cells #[.int .i64 nx, .int .i64 dx] 23)
  have pX6 := pX5.alloc (.cells #[.int .i64 nx, .int .i64 dx] 23)
  have pY6 := At.new w5 23 rfl (.int .i64 nx) (.int .i64 dx)
  have hkl6 : kL < (w5.alloc (.cells #[.int .i64 nx, .int .i64 dx] 23)).heap.size := by simp; omega
  have l0 : ∀ i, i < len → (w5.alloc (.cells #[.int .i64 nx, .int .i64 dx] 23)).cell? ⟨kL, 0 + i * 2, none⟩ = some (.int .i64 (f i)) := fun i h => (World.cell?_alloc_past _ _ _ hkl5).trans (k0 i h)
  have l1 : ∀ i, i < len → (w5.alloc (.cells #[.int .i64 nx, .int .i64 dx] 23)).cell? ⟨kL, 0 + i * 2 + 1, none⟩ = some (.int .i64 (g i)) := fun i h => (World.cell?_alloc_past _ _ _ hkl5).trans (k1 i h)
  have l2 : (w5.alloc (.cells #[.int .i64 nx, .int .i64 dx] 23)).cell? ⟨kL, len * 2, none⟩ = some (.int .i64 77) := (World.cell?_alloc_past _ _ _ hkl5).trans k2
  have l3 : (w5.alloc (.cells #[.int .i64 nx, .int .i64 dx] 23)).cell? ⟨kL, (len + 1) * 2, none⟩ = some (.int .i64 78) := (World.cell?_alloc_past _ _ _ hkl5).trans k3
  go_upto_region 4 with fail
  clear hB5 pX5 k0 k1 k2 k3 hkl5
  generalize w5.heap.size = kY at *
  generalize w5.alloc (.cells #[.int .i64 nx, .int .i64 dx] 23) = w6 at *
  clear w5
  obtain ⟨x1, x2, x3, x4⟩ := pX6
  obtain ⟨y1, y2, y3, y4⟩ := pY6
  have LL : Hid (∀ i, i < len → w6.cell? ⟨kL, 0 + i * 2, none⟩ = some (.int .i64 (f i))) := l0
  have LM : Hid (∀ i, i < len → w6.cell? ⟨kL, 0 + i * 2 + 1, none⟩ = some (.int .i64 (g i))) := l1
  clear l0 l1
  cases bx with
  | false =>
    go_wp2_with fail
    refine (able_any _).mono ?_
    rintro e w7 ⟨rfl, hb7⟩
    have hB7 := below_end hB6 hb7
    have k0 : Hid (∀ i, i < len → w7.cell? ⟨kL, 0 + i * 2, none⟩ = some (.int .i64 (f i))) := fun i h => (hb7.cell (p := ⟨kL, 0 + i * 2, none⟩) hkl6).trans (LL.out i h)
    have k1 : Hid (∀ i, i < len → w7.cell? ⟨kL, 0 + i * 2 + 1, none⟩ = some (.int .i64 (g i))) := fun i h => (hb7.cell (p := ⟨kL, 0 + i * 2 + 1, none⟩) hkl6).trans (LM.out i h)
    have k2 : w7.cell? ⟨kL, len * 2, none⟩ = some (.int .i64 77) := (hb7.cell (p := ⟨kL, len * 2, none⟩) hkl6).trans l2
    have k3 : w7.cell? ⟨kL, (len + 1) * 2, none⟩ = some (.int .i64 78) := (hb7.cell (p := ⟨kL, (len + 1) * 2, none⟩) hkl6).trans l3
    clear hb7 hB6 LL LM l2 l3 hkl6 x1 x2 x3 x4 y1 y2 y3 y4
    have k4 : w7.cell? ⟨kL, len * 2 + 2, none⟩ = some (.int .i64 78) := by have := k3; rw [show (len + 1) * 2 = len * 2 + 2 by omega] at this; exact this
    go_wp2_with fail
    go_loopw [8] (fun i wr => ∃ j n : Nat, j ≤ len ∧ i = .int .i64 j ∧ wr = w7.drewN n) (fun i _ => len - (intOf i).toNat)
    case atStart => exact ⟨0, 0, Nat.zero_le _, rfl, rfl⟩
    case round =>
      obtain ⟨j, n, hj, rfl, rfl⟩ := hrel
      by_cases hlt : j < len
      · exact absurd hlt (by have := HZ.out; omega)
      · have hj' : j = len := by omega
        subst hj'
        go_wp2
        go_ret
        exact ⟨rfl, below_drewN hB7 n⟩
  | true =>
    go_wp2_with fail
    refine (able_any _).mono ?_
    rintro e w7 ⟨rfl, hb7⟩
    have hB7 := below_end hB6 hb7
    have k0 : Hid (∀ i, i < len → w7.cell? ⟨kL, 0 + i * 2, none⟩ = some (.int .i64 (f i))) := fun i h => (hb7.cell (p := ⟨kL, 0 + i * 2, none⟩) hkl6).trans (LL.out i h)
    have k1 : Hid (∀ i, i < len → w7.cell? ⟨kL, 0 + i * 2 + 1, none⟩ = some (.int .i64 (g i))) := fun i h => (hb7.cell (p := ⟨kL, 0 + i * 2 + 1, none⟩) hkl6).trans (LM.out i h)
    have k2 : w7.cell? ⟨kL, len * 2, none⟩ = some (.int .i64 77) := (hb7.cell (p := ⟨kL, len * 2, none⟩) hkl6).trans l2
    have k3 : w7.cell? ⟨kL, (len + 1) * 2, none⟩ = some (.int .i64 78) := (hb7.cell (p := ⟨kL, (len + 1) * 2, none⟩) hkl6).trans l3
    clear hb7 hB6 LL LM l2 l3 hkl6 x1 x2 x3 x4 y1 y2 y3 y4
    have k4 : w7.cell? ⟨kL, len * 2 + 2, none⟩ = some (.int .i64 78) := by have := k3; rw [show (len + 1) * 2 = len * 2 + 2 by omega] at this; exact this
    go_wp2_with fail
    go_loopw [8] (fun i wr => ∃ j n : Nat, j ≤ len ∧ i = .int .i64 j ∧ wr = w7.drewN n) (fun i _ => len - (intOf i).toNat)
    case atStart => exact ⟨0, 0, Nat.zero_le _, rfl, rfl⟩
    case round =>
      obtain ⟨j, n, hj, rfl, rfl⟩ := hrel
      by_cases hlt : j < len
      · exact absurd hlt (by have := HZ.out; omega)
      · have hj' : j = len := by omega
        subst hj'
        go_wp2
        go_ret
        exact ⟨rfl, below_drewN hB7 n⟩

set_option maxRecDepth 100000 in
set_option maxHeartbeats 6400000 in
theorem sums_n (b off len cap : Nat) (f g : Nat → Int) (HZ : Hid (len = 0)) (ZE : Hid (Wnum.els f g 0 = Wnum.els f g len)) (w : World) (hlen : len ≤ 8796093021952) (hb : 0 < len → b < w.heap.size)
    (hc0 : ∀ i, i < len → w.cell? ⟨b, off + i * 2, none⟩ = some (.int .i64 (f i))) (hc1 : ∀ i, i < len → w.cell? ⟨b, off + i * 2 + 1, none⟩ = some (.int .i64 (g i)))
    (hf : ∀ i, i < len → -9223372036854775808 ≤ f i ∧ f i ≤ 9223372036854775807) (hg : ∀ i, i < len → -9223372036854775808 ≤ g i ∧ g i ≤ 9223372036854775807) :
    Calls Tryd.prog 5 #[.slice none 0 0] w fun e w' => e = .returned (.bool true) ∧ Below w.heap.size w w' := by
  obtain ⟨i0, hi, hz0, hz1, hz2⟩ := info_parts infoNum
  go_enter Tryd.func5, Tryd.ntmps5
  have e1 : (w.alloc (.cells #[] 23)).heap.size = w.heap.size + 1 := by simp
  have hT : ∀ j u, tails[j]? = some u → ((w.alloc (.cells #[] 23)).alloc (.cells #[.int .i64 77, .int .i64 1, .int .i64 78, .int .i64 1] 23)).cell? ((⟨w.heap.size + 1, 0, none⟩ : Addr).add j) = some u := by rw [← e1]; exact tails_cells _
  have hB1 : Below w.heap.size w (w.alloc (.cells #[] 23)) := (Below.refl _ w).alloc (Nat.le_refl _) _
  go_wp2_with (first
    | (at_builtin; refine wpList_append_own_none _ rfl _ _ 31 rfl w.heap.size 23 i0 2 Tryd.underlying31 hi _ _ _ rfl (own_empty w) rfl ?_)
    | (at_builtin; refine wpList_append_own _ rfl _ _ 31 rfl w.heap.size 23 i0 (.agg #[.int .i64 0, .int .i64 0]) 2 16 Tryd.underlying31 hi hz0 hz1 hz2 rfl (by decide) _ _ _ rfl ((own_empty w).alloc _) ⟨w.heap.size + 1, 0, none⟩ 2 2 tails rfl rfl hT tails_one (by unfold maxLen; omega) (by omega) (by simp; omega) ?_))
  intro v2 w2 hown2 hgrow2 _
  have hB2 : Below w.heap.size w w2 := (hB1.alloc (by simp) _).grown hgrow2 (by simp; omega) (fun k hk => Nat.le_of_eq (Option.some.inj hk))
  clear hgrow2 hT hB1 e1

  have hown2 : w2.ownsRow w.heap.size 23 2 v2 (len + 2) (rowOf f g len ++ tails) := by rw [HZ.out]; exact hown2
  rcases hown2.2 with ⟨-, h0⟩ | ⟨kL, cap2, cur, rfl, hk0, -, hk1, hk2, -, -⟩
  · omega
  have hkl : kL < w2.heap.size := (hown2.lt kL rfl).2
  obtain ⟨l0, l1, l2, l3⟩ := copied hown2
  clear hown2
  obtain ⟨nx, E1⟩ : ∃ nx, Hid (Wnum.oN (Wnum.sumQ 0 (Wnum.els f g len)) = nx) := ⟨_, (rfl : Wnum.oN (Wnum.sumQ 0 (Wnum.els f g len)) = _)⟩
  obtain ⟨dx, E2⟩ : ∃ dx, Hid (Wnum.oD (Wnum.sumQ 0 (Wnum.els f g len)) = dx) := ⟨_, (rfl : Wnum.oD (Wnum.sumQ 0 (Wnum.els f g len)) = _)⟩
  obtain ⟨bx, E3⟩ : ∃ bx, Hid (Wnum.oB (Wnum.sumQ 0 (Wnum.els f g len)) = bx) := ⟨_, (rfl : Wnum.oB (Wnum.sumQ 0 (Wnum.els f g len)) = _)⟩
  have m1 : (0 : Int) ≤ (cap2 : Int) := by omega
  go_wp2_with fail
  refine (sum_any kL 0 0 cap2 f g _ (by omega) (fun h => absurd h (Nat.lt_irrefl _)) (fun i h => absurd h (Nat.not_lt_zero _)) (fun i h => absurd h (Nat.not_lt_zero _)) (fun i h => absurd h (Nat.not_lt_zero _)) (fun i h => absurd h (Nat.not_lt_zero _))).mono ?_
  rintro e w3 ⟨rfl, hb3⟩
  rw [ZE.out, E1.out, E2.out, E3.out]
  have hB3 := below_end hB2 hb3
  have hkl3 : kL < w3.heap.size := Nat.lt_of_lt_of_le hkl hb3.size
  have k0 : ∀ i, i < len → w3.cell? ⟨kL, 0 + i * 2, none⟩ = some (.int .i64 (f i)) := fun i h => (hb3.cell (p := ⟨kL, 0 + i * 2, none⟩) hkl).trans (l0 i h)
  have k1 : ∀ i, i < len → w3.cell? ⟨kL, 0 + i * 2 + 1, none⟩ = some (.int .i64 (g i)) := fun i h => (hb3.cell (p := ⟨kL, 0 + i * 2 + 1, none⟩) hkl).trans (l1 i h)
  have k2 : w3.cell? ⟨kL, len * 2, none⟩ = some (.int .i64 77) := (hb3.cell (p := ⟨kL, len * 2, none⟩) hkl).trans l2
  have k3 : w3.cell? ⟨kL, (len + 1) * 2, none⟩ = some (.int .i64 78) := (hb3.cell (p := ⟨kL, (len + 1) * 2, none⟩) hkl).trans l3
  clear hb3 hB2 l0 l1 l2 l3 hkl
  have hB4 := ball hB3 (.cells #[.int .i64 nx, .int .i64 dx] 23)
  have pX4 := At.new w3 23 rfl (.int .i64 nx) (.int .i64 dx)
  have hkl4 : kL < (w3.alloc (.cells #[.int .i64 nx, .int .i64 dx] 23)).heap.size := by simp; omega
  have l0 : ∀ i, i < len → (w3.alloc (.cells #[.int .i64 nx, .int .i64 dx] 23)).cell? ⟨kL, 0 + i * 2, none⟩ = some (.int .i64 (f i)) := fun i h => (World.cell?_alloc_past _ _ _ hkl3).trans (k0 i h)
  have l1 : ∀ i, i < len → (w3.alloc (.cells #[.int .i64 nx, .int .i64 dx] 23)).cell? ⟨kL, 0 + i * 2 + 1, none⟩ = some (.int .i64 (g i)) := fun i h => (World.cell?_alloc_past _ _ _ hkl3).trans (k1 i h)
  have l2 : (w3.alloc (.cells #[.int .i64 nx, .int .i64 dx] 23)).cell? ⟨kL, len * 2, none⟩ = some (.int .i64 77) := (World.cell?_alloc_past _ _ _ hkl3).trans k2
  have l3 : (w3.alloc (.cells #[.int .i64 nx, .int .i64 dx] 23)).cell? ⟨kL, (len + 1) * 2, none⟩ = some (.int .i64 78) := (World.cell?_alloc_past _ _ _ hkl3).trans k3
  go_upto_region 3 with fail
  clear hB3 k0 k1 k2 k3 hkl3
  generalize w3.heap.size = kX at *
  generalize w3.alloc (.cells #[.int .i64 nx, .int .i64 dx] 23) = w4 at *
  clear w3
  go_wp2_with fail
  refine (rsum_zero none 0 0 rfl f g _).mono ?_
  rintro e w5 ⟨rfl, hb5⟩
  rw [ZE.out, E1.out, E2.out, E3.out]
  have hB5 := below_end hB4 hb5
  have pX5 := At.below hb5 pX4
  have hkl5 : kL < w5.heap.size := Nat.lt_of_lt_of_le hkl4 hb5.size
  have k0 : ∀ i, i < len → w5.cell? ⟨kL, 0 + i * 2, none⟩ = some (.int .i64 (f i)) := fun i h => (hb5.cell (p := ⟨kL, 0 + i * 2, none⟩) hkl4).trans (l0 i h)
  have k1 : ∀ i, i < len → w5.cell? ⟨kL, 0 + i * 2 + 1, none⟩ = some (.int .i64 (g i)) := fun i h => (hb5.cell (p := ⟨kL, 0 + i * 2 + 1, none⟩) hkl4).trans (l1 i h)
  have k2 : w5.cell? ⟨kL, len * 2, none⟩ = some (.int .i64 77) := (hb5.cell (p := ⟨kL, len * 2, none⟩) hkl4).trans l2
  have k3 : w5.cell? ⟨kL, (len + 1) * 2, none⟩ = some (.int .i64 78) := (hb5.cell (p := ⟨kL, (len + 1) * 2, none⟩) hkl4).trans l3
  clear hb5 hB4 pX4 l0 l1 l2 l3 hkl4
  have hB6 := ball hB5 (.cells #[.int .i64 nx, .int .i64 dx] 23)
  have pX6 := pX5.alloc (.cells #[.int .i64 nx, .int .i64 dx] 23)
  have pY6 := At.new w5 23 rfl (.int .i64 nx) (.int .i64 dx)
  have hkl6 : kL < (w5.alloc (.cells #[.int .i64 nx, .int .i64 dx] 23)).heap.size := by simp; omega
  have l0 : ∀ i, i < len → (w5.alloc (.cells #[.int .i64 nx, .int .i64 dx] 23)).cell? ⟨kL, 0 + i * 2, none⟩ = some (.int .i64 (f i)) := fun i h => (World.cell?_alloc_past _ _ _ hkl5).trans (k0 i h)
  have l1 : ∀ i, i < len → (w5.alloc (.cells #[.int .i64 nx, .int .i64 dx] 23)).cell? ⟨kL, 0 + i * 2 + 1, none⟩ = some (.int .i64 (g i)) := fun i h => (World.cell?_alloc_past _ _ _ hkl5).trans (k1 i h)
  have l2 : (w5.alloc (.cells #[.int .i64 nx, .int .i64 dx] 23)).cell? ⟨kL, len * 2, none⟩ = some (.int .i64 77) := (World.cell?_alloc_past _ _ _ hkl5).trans k2
  have l3 : (w5.alloc (.cells #[.int .i64 nx, .int .i64 dx] 23)).cell? ⟨kL, (len + 1) * 2, none⟩ = some (.int .i64 78) := (World.cell?_alloc_past _ _ _ hkl5).trans k3
  go_upto_region 4 with fail
  clear hB5 pX5 k0 k1 k2 k3 hkl5
  generalize w5.heap.size = kY at *
  generalize w5.alloc (.cells #[.int .i64 nx, .int .i64 dx] 23) = w6 at *
  clear w5
  obtain ⟨x1, x2, x3, x4⟩ := pX6
  obtain ⟨y1, y2, y3, y4⟩ := pY6
  have LL : Hid (∀ i, i < len → w6.cell? ⟨kL, 0 + i * 2, none⟩ = some (.int .i64 (f i))) := l0
  have LM : Hid (∀ i, i < len → w6.cell? ⟨kL, 0 + i * 2 + 1, none⟩ = some (.int .i64 (g i))) := l1
  clear l0 l1
  cases bx with
  | false =>
    go_wp2_with fail
    refine (able_any _).mono ?_
    rintro e w7 ⟨rfl, hb7⟩
    have hB7 := below_end hB6 hb7
    have k0 : Hid (∀ i, i < len → w7.cell? ⟨kL, 0 + i * 2, none⟩ = some (.int .i64 (f i))) := fun i h => (hb7.cell (p := ⟨kL, 0 + i * 2, none⟩) hkl6).trans (LL.out i h)
    have k1 : Hid (∀ i, i < len → w7.cell? ⟨kL, 0 + i * 2 + 1, none⟩ = some (.int .i64 (g i))) := fun i h => (hb7.cell (p := ⟨kL, 0 + i * 2 + 1, none⟩) hkl6).trans (LM.out i h)
    have k2 : w7.cell? ⟨kL, len * 2, none⟩ = some (.int .i64 77) := (hb7.cell (p := ⟨kL, len * 2, none⟩) hkl6).trans l2
    have k3 : w7.cell? ⟨kL, (len + 1) * 2, none⟩ = some (.int .i64 78) := (hb7.cell (p := ⟨kL, (len + 1) * 2, none⟩) hkl6).trans l3
    clear hb7 hB6 LL LM l2 l3 hkl6 x1 x2 x3 x4 y1 y2 y3 y4
    have k4 : w7.cell? ⟨kL, len * 2 + 2, none⟩ = some (.int .i64 78) := by have := k3; rw [show (len + 1) * 2 = len * 2 + 2 by omega] at this; exact this
    go_wp2_with fail
    go_loopw [8] (fun i wr => ∃ j n : Nat, j ≤ len ∧ i = .int .i64 j ∧ wr = w7.drewN n) (fun i _ => len - (intOf i).toNat)
    case atStart => exact ⟨0, 0, Nat.zero_le _, rfl, rfl⟩
    case round =>
      obtain ⟨j, n, hj, rfl, rfl⟩ := hrel
      by_cases hlt : j < len
      · exact absurd hlt (by have := HZ.out; omega)
      · obtain rfl : j = 0 := by have := HZ.out; omega
        have e2 : w7.cell? ⟨kL, 0, none⟩ = some (.int .i64 77) := by have := k2; rw [HZ.out] at this; exact this
        have e4 : w7.cell? ⟨kL, 2, none⟩ = some (.int .i64 78) := by have := k4; rw [HZ.out] at this; exact this
        have z3 : (0 : Int) < (len : Int) + 2 := by omega
        have z4 : (1 : Int) < (len : Int) + 2 := by omega
        go_wp2
        go_ret
        exact ⟨rfl, below_drewN hB7 n⟩
  | true =>
    go_wp2_with fail
    refine (able_any _).mono ?_
    rintro e w7 ⟨rfl, hb7⟩
    have hB7 := below_end hB6 hb7
    have k0 : Hid (∀ i, i < len → w7.cell? ⟨kL, 0 + i * 2, none⟩ = some (.int .i64 (f i))) := fun i h => (hb7.cell (p := ⟨kL, 0 + i * 2, none⟩) hkl6).trans (LL.out i h)
    have k1 : Hid (∀ i, i < len → w7.cell? ⟨kL, 0 + i * 2 + 1, none⟩ = some (.int .i64 (g i))) := fun i h => (hb7.cell (p := ⟨kL, 0 + i * 2 + 1, none⟩) hkl6).trans (LM.out i h)
    have k2 : w7.cell? ⟨kL, len * 2, none⟩ = some (.int .i64 77) := (hb7.cell (p := ⟨kL, len * 2, none⟩) hkl6).trans l2
    have k3 : w7.cell? ⟨kL, (len + 1) * 2, none⟩ = some (.int .i64 78) := (hb7.cell (p := ⟨kL, (len + 1) * 2, none⟩) hkl6).trans l3
    clear hb7 hB6 LL LM l2 l3 hkl6 x1 x2 x3 x4 y1 y2 y3 y4
    have k4 : w7.cell? ⟨kL, len * 2 + 2, none⟩ = some (.int .i64 78) := by have := k3; rw [show (len + 1) * 2 = len * 2 + 2 by omega] at this; exact this
    go_wp2_with fail
    go_loopw [8] (fun i wr => ∃ j n : Nat, j ≤ len ∧ i = .int .i64 j ∧ wr = w7.drewN n) (fun i _ => len - (intOf i).toNat)
    case atStart => exact ⟨0, 0, Nat.zero_le _, rfl, rfl⟩
    case round =>
      obtain ⟨j, n, hj, rfl, rfl⟩ := hrel
      by_cases hlt : j < len
      · exact absurd hlt (by have := HZ.out; omega)
      · obtain rfl : j = 0 := by have := HZ.out; omega
        have e2 : w7.cell? ⟨kL, 0, none⟩ = some (.int .i64 77) := by have := k2; rw [HZ.out] at this; exact this
        have e4 : w7.cell? ⟨kL, 2, none⟩ = some (.int .i64 78) := by have := k4; rw [HZ.out] at this; exact this
        have z3 : (0 : Int) < (len : Int) + 2 := by omega
        have z4 : (1 : Int) < (len : Int) + 2 := by omega
        go_wp2
        go_ret
        exact ⟨rfl, below_drewN hB7 n⟩

end Go.Proofs.YtfilmomndhlmbaaDoor
