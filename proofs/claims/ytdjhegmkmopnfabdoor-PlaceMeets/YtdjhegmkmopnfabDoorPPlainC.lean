/- What areas have in common: the order of two, three of them. -/
import Derived.Test.YtdjhegmkmopnfabDoorPPlainB
namespace Wpl

def hasR (x : Ar) (cs cr cc : Int) : Bool := hasA x.s x.t x.l x.b x.r cs cr cc
def rightR (x : Ar) : Bool := rightA x.s x.t x.l x.b x.r
theorem rightR_iff {x : Ar} : rightR x = true ↔ 0 ≤ x.s ∧ x.s < 16 ∧ 0 ≤ x.t ∧ x.t ≤ x.b ∧ x.b < 65536 ∧ 0 ≤ x.l ∧ x.l ≤ x.r ∧ x.r < 256 := rightA_iff
theorem hasR_iff {x : Ar} {cs cr cc : Int} : hasR x cs cr cc = true ↔ rightR x = true ∧ cs = x.s ∧ x.t ≤ cr ∧ cr ≤ x.b ∧ x.l ≤ cc ∧ cc ≤ x.r := hasA_iff
theorem meetOk_iff {x y : Ar} : meetOk x y = true ↔ rightR x = true ∧ rightR y = true ∧ x.s = y.s ∧ max x.t y.t ≤ min x.b y.b ∧ max x.l y.l ≤ min x.r y.r := by
  have h1 := @rightR_iff x
  have h2 := @rightR_iff y
  unfold meetOk
  simp only [Bool.and_eq_true, decide_eq_true_eq]
  show ((rightR x = true ∧ rightR y = true) ∧ x.s = y.s) ∧ rightA x.s (max x.t y.t) (max x.l y.l) (min x.b y.b) (min x.r y.r) = true ↔ _
  rw [rightA_iff, h1, h2]
  omega
theorem meetV_pos {x y : Ar} (h : meetOk x y = true) : meetV x y = ⟨x.s, max x.t y.t, max x.l y.l, min x.b y.b, min x.r y.r⟩ := by unfold meetV; rw [h]; rfl
theorem meetV_neg {x y : Ar} (h : meetOk x y = false) : meetV x y = nullA := by unfold meetV; rw [h]; rfl
theorem meet_right {x y : Ar} (h : meetOk x y = true) : rightR (meetV x y) = true := by
  have h' := meetOk_iff.1 h
  rw [meetV_pos h, rightR_iff]
  have h1 := rightR_iff.1 h'.1
  have h2 := rightR_iff.1 h'.2.1
  simp only []
  omega
theorem meetOk_comm (x y : Ar) : meetOk x y = meetOk y x := by
  rw [Bool.eq_iff_iff, meetOk_iff, meetOk_iff]
  constructor
  · rintro ⟨a, b, c, d, e⟩; exact ⟨b, a, c.symm, by omega, by omega⟩
  · rintro ⟨a, b, c, d, e⟩; exact ⟨b, a, c.symm, by omega, by omega⟩
theorem meetV_comm (x y : Ar) : meetV x y = meetV y x := by
  cases h : meetOk x y with
  | false => rw [meetV_neg h, meetV_neg (by rw [meetOk_comm]; exact h)]
  | true =>
    have h' := meetOk_iff.1 h
    rw [meetV_pos h, meetV_pos (by rw [meetOk_comm]; exact h)]
    rw [h'.2.2.1]
    congr 1 <;> omega
theorem meet_has {x y : Ar} (cs cr cc : Int) (h : meetOk x y = true) : hasR (meetV x y) cs cr cc = (hasR x cs cr cc && hasR y cs cr cc) := by
  have h' := meetOk_iff.1 h
  have hr := meet_right h
  rw [Bool.eq_iff_iff, Bool.and_eq_true, hasR_iff, hasR_iff, hasR_iff]
  simp only [hr, h'.1, h'.2.1, true_and]
  rw [meetV_pos h]
  simp only []
  omega
theorem meet_hasnt {x y : Ar} (cs cr cc : Int) (h : meetOk x y = false) : (hasR x cs cr cc && hasR y cs cr cc) = false := by
  cases e : (hasR x cs cr cc && hasR y cs cr cc) with
  | false => rfl
  | true =>
    rw [Bool.and_eq_true, hasR_iff, hasR_iff] at e
    rw [← h]; symm; rw [meetOk_iff]
    exact ⟨e.1.1, e.2.1, by omega, by omega, by omega⟩
theorem meet_self (x : Ar) : meetOk x x = rightR x := by
  rw [Bool.eq_iff_iff, meetOk_iff]
  have := @rightR_iff x
  constructor
  · exact fun h => h.1
  · intro h; have := this.1 h; exact ⟨h, h, rfl, by omega, by omega⟩
theorem meet_selfV (x : Ar) (h : rightR x = true) : meetV x x = x := by
  rw [meetV_pos (by rw [meet_self]; exact h)]
  obtain ⟨s, t, l, b, r⟩ := x
  simp only [Int.max_self, Int.min_self]
/-- All three in common, grouped to the left. -/
theorem three_left {x y z : Ar} : (meetOk (meetV x y) z && meetOk x y) = true ↔ rightR x = true ∧ rightR y = true ∧ rightR z = true ∧ x.s = y.s ∧ y.s = z.s ∧ max (max x.t y.t) z.t ≤ min (min x.b y.b) z.b ∧ max (max x.l y.l) z.l ≤ min (min x.r y.r) z.r := by
  rw [Bool.and_eq_true]
  constructor
  · rintro ⟨h1, h2⟩
    have a := meetOk_iff.1 h1
    have b := meetOk_iff.1 h2
    rw [meetV_pos h2] at a
    simp only [] at a
    exact ⟨b.1, b.2.1, a.2.1, by omega, by omega, by omega, by omega⟩
  · rintro ⟨a, b, c, d, e, f, g⟩
    have h2 : meetOk x y = true := meetOk_iff.2 ⟨a, b, d, by omega, by omega⟩
    refine ⟨meetOk_iff.2 ⟨meet_right h2, c, ?_⟩, h2⟩
    rw [meetV_pos h2]; simp only []; omega
theorem three_right {x y z : Ar} : (meetOk x (meetV y z) && meetOk y z) = true ↔ rightR x = true ∧ rightR y = true ∧ rightR z = true ∧ x.s = y.s ∧ y.s = z.s ∧ max (max x.t y.t) z.t ≤ min (min x.b y.b) z.b ∧ max (max x.l y.l) z.l ≤ min (min x.r y.r) z.r := by
  rw [Bool.and_eq_true]
  constructor
  · rintro ⟨h1, h2⟩
    have a := meetOk_iff.1 h1
    have b := meetOk_iff.1 h2
    rw [meetV_pos h2] at a
    simp only [] at a
    exact ⟨a.1, b.1, b.2.1, by omega, by omega, by omega, by omega⟩
  · rintro ⟨a, b, c, d, e, f, g⟩
    have h2 : meetOk y z = true := meetOk_iff.2 ⟨b, c, e, by omega, by omega⟩
    refine ⟨meetOk_iff.2 ⟨a, meet_right h2, ?_⟩, h2⟩
    rw [meetV_pos h2]; simp only []; omega
theorem three_ok (x y z : Ar) : (meetOk (meetV x y) z && meetOk x y) = (meetOk x (meetV y z) && meetOk y z) := by
  rw [Bool.eq_iff_iff, three_left, three_right]
theorem three_V {x y z : Ar} (h : (meetOk (meetV x y) z && meetOk x y) = true) : meetV (meetV x y) z = meetV x (meetV y z) := by
  have h' := h
  rw [three_ok] at h'
  rw [Bool.and_eq_true] at h h'
  rw [meetV_pos h.1, meetV_pos h'.1, meetV_pos h.2, meetV_pos h'.2]
  simp only [Ar.mk.injEq, true_and]
  refine ⟨?_, ?_, ?_, ?_⟩ <;> omega
end Wpl
