/- A hull has all the cells, and is the least that has them. -/
import Derived.Test.YtdjhegmkmopnfabDoorPPlainC
namespace Wpl

theorem lacks_false {q : Int} {c : Cl} (h : lacks q c = false) : c.s = q ∧ rightC c.s c.r c.c = true := by
  unfold lacks at h; simp at h; exact ⟨by simpa using h.1, h.2⟩
/-- What is known of the hull of the cells number 0 to j. -/
theorem hullU_facts (F : Nat → Cl) (j : Nat) (h : ∀ m, m ≤ j → lacks (F 0).s (F m) = false) :
    rightR (hullU F j) = true ∧ (hullU F j).s = (F 0).s ∧ (∀ m, m ≤ j → hasR (hullU F j) (F m).s (F m).r (F m).c = true) := by
  induction j with
  | zero =>
    obtain ⟨_, h2⟩ := lacks_false (h 0 (Nat.le_refl _))
    have h3 := rightC_iff.1 h2
    have hr : rightR (hullU F 0) = true := by rw [rightR_iff]; show 0 ≤ (F 0).s ∧ (F 0).s < 16 ∧ 0 ≤ (F 0).r ∧ (F 0).r ≤ (F 0).r ∧ (F 0).r < 65536 ∧ 0 ≤ (F 0).c ∧ (F 0).c ≤ (F 0).c ∧ (F 0).c < 256; omega
    refine ⟨hr, rfl, fun m hm => ?_⟩
    obtain rfl : m = 0 := by omega
    rw [hasR_iff]
    refine ⟨hr, rfl, ?_⟩
    show (F 0).r ≤ (F 0).r ∧ (F 0).r ≤ (F 0).r ∧ (F 0).c ≤ (F 0).c ∧ (F 0).c ≤ (F 0).c
    omega
  | succ j ih =>
    obtain ⟨i1, i2, i3⟩ := ih (fun m hm => h m (by omega))
    obtain ⟨k1, k2⟩ := lacks_false (h (j + 1) (Nat.le_refl _))
    have k3 := rightC_iff.1 k2
    have i4 := rightR_iff.1 i1
    have e : hullU F (j + 1) = grow (hullU F j) (F (j + 1)) := rfl
    rw [e]
    generalize hullU F j = a at *
    obtain ⟨s, t, l, b, r⟩ := a
    generalize hc : F (j + 1) = c at *
    unfold grow
    simp only at i2 i4
    have hr : rightR ⟨s, min t c.r, min l c.c, max b c.r, max r c.c⟩ = true := by rw [rightR_iff]; simp only; omega
    refine ⟨hr, i2, fun m hm => ?_⟩
    rw [hasR_iff]
    refine ⟨hr, ?_⟩
    simp only
    by_cases em : m = j + 1
    · subst em
      rw [hc]
      omega
    · obtain ⟨_, g⟩ := hasR_iff.1 (i3 m (by omega))
      simp only at g
      omega
theorem hullU_least (F : Nat → Cl) (a : Ar) (j : Nat) (h : ∀ m, m ≤ j → hasR a (F m).s (F m).r (F m).c = true) :
    a.t ≤ (hullU F j).t ∧ (hullU F j).b ≤ a.b ∧ a.l ≤ (hullU F j).l ∧ (hullU F j).r ≤ a.r := by
  induction j with
  | zero =>
    obtain ⟨_, g⟩ := hasR_iff.1 (h 0 (Nat.le_refl _))
    show a.t ≤ (F 0).r ∧ (F 0).r ≤ a.b ∧ a.l ≤ (F 0).c ∧ (F 0).c ≤ a.r
    omega
  | succ j ih =>
    have i := ih (fun m hm => h m (by omega))
    obtain ⟨_, g⟩ := hasR_iff.1 (h (j + 1) (Nat.le_refl _))
    show a.t ≤ min (hullU F j).t (F (j + 1)).r ∧ max (hullU F j).b (F (j + 1)).r ≤ a.b ∧ a.l ≤ min (hullU F j).l (F (j + 1)).c ∧ max (hullU F j).r (F (j + 1)).c ≤ a.r
    omega
theorem hull_ok {F : Nat → Cl} {n : Nat} (h : hullOk F n = true) : n ≠ 0 ∧ (∀ m, m < n → lacks (F 0).s (F m) = false) ∧ hullV F n = hullU F (n - 1) := by
  have h' := h
  unfold hullOk at h
  simp at h
  exact ⟨h.1, fun m hm => anyN_not h.2 hm, by unfold hullV; rw [h']; rfl⟩
theorem hull_has {F : Nat → Cl} {n : Nat} (h : hullOk F n = true) {m : Nat} (hm : m < n) : hasR (hullV F n) (F m).s (F m).r (F m).c = true := by
  obtain ⟨h1, h2, h3⟩ := hull_ok h
  rw [h3]
  exact (hullU_facts F (n - 1) (fun m hm => h2 m (by omega))).2.2 m (by omega)
theorem hull_meets {F : Nat → Cl} {n : Nat} (h : hullOk F n = true) (a : Ar) (ha : ∀ m, m < n → hasR a (F m).s (F m).r (F m).c = true) : meetOk (hullV F n) a = true ∧ meetV (hullV F n) a = hullV F n := by
  obtain ⟨h1, h2, h3⟩ := hull_ok h
  obtain ⟨f1, f2, f3⟩ := hullU_facts F (n - 1) (fun m hm => h2 m (by omega))
  have f4 := hullU_least F a (n - 1) (fun m hm => ha m (by omega))
  obtain ⟨r1, g⟩ := hasR_iff.1 (ha 0 (by omega))
  rw [h3]
  generalize hullU F (n - 1) = x at *
  have f5 := rightR_iff.1 f1
  have ok : meetOk x a = true := meetOk_iff.2 ⟨f1, r1, by omega, by omega, by omega⟩
  refine ⟨ok, ?_⟩
  rw [meetV_pos ok]
  obtain ⟨s, t, l, b, r⟩ := x
  simp only at *
  simp only [Ar.mk.injEq, true_and]
  refine ⟨?_, ?_, ?_, ?_⟩ <;> omega
end Wpl
