/- Queues, plain: a heap of entries by a total order, in a row from 0 to n - 1. -/
namespace Wq

/-- The parent of a place. -/
def par (i : Nat) : Nat := (i - 1) / 2
theorem par_lt {i : Nat} (h : 0 < i) : par i < i := by unfold par; omega
theorem par_kid {i j : Nat} (h : 0 < j) : par j = i ↔ j = 2 * i + 1 ∨ j = 2 * i + 2 := by unfold par; omega
section
variable {E : Type} (lt : E → E → Bool)
/-- What holds of an order of all entries (two may stand alike). -/
structure Ord : Prop where
  asym : ∀ a b, lt a b = true → lt b a = false
  trans : ∀ a b c, lt b a = false → lt c b = false → lt c a = false
/-- A row of entries in which two places are changed. -/
def swp (f : Nat → E) (i k : Nat) : Nat → E := fun j => if j = i then f k else if j = k then f i else f j
/-- Each entry stands rightly below its parent, but where the parent or the entry is i. -/
structure Up (n : Nat) (f : Nat → E) (i : Nat) : Prop where
  ok : ∀ j, 0 < j → j < n → j ≠ i → par j ≠ i → lt (f j) (f (par j)) = false
  by_ : ∀ j, 0 < j → j < n → par j = i → 0 < i → lt (f j) (f (par i)) = false
/-- From the parent lo on, each entry stands rightly below its parent, but where the parent is i. -/
structure Dn (n lo : Nat) (f : Nat → E) (i : Nat) : Prop where
  ok : ∀ j, 0 < j → j < n → lo ≤ par j → par j ≠ i → lt (f j) (f (par j)) = false
  by_ : ∀ j, 0 < j → j < n → par j = i → 0 < i → lo ≤ par i → lt (f j) (f (par i)) = false
def Heap (n lo : Nat) (f : Nat → E) : Prop := ∀ j, 0 < j → j < n → lo ≤ par j → lt (f j) (f (par j)) = false
end
section
variable {E : Type} {lt : E → E → Bool}
theorem swp_1 (f : Nat → E) (i k : Nat) : swp f i k i = f k := by simp [swp]
theorem swp_2 (f : Nat → E) (i k : Nat) : swp f i k k = f i := by
  unfold swp
  by_cases h : k = i
  · rw [if_pos h, h]
  · rw [if_neg h, if_pos rfl]
theorem swp_3 (f : Nat → E) {i k j : Nat} (h1 : j ≠ i) (h2 : j ≠ k) : swp f i k j = f j := by
  unfold swp
  rw [if_neg h1, if_neg h2]
/-- An entry laid anew into a heap. -/
theorem Heap.laid {n : Nat} {f : Nat → E} (h : Heap lt n 0 f) (hO : Ord lt) (i : Nat) (e : E) : Up lt n (fun j => if j = i then e else f j) i := by
  refine ⟨fun j h0 hn h1 h2 => ?_, fun j h0 hn hp hi => ?_⟩
  · simp only [if_neg h1, if_neg h2]
    exact h j h0 hn (Nat.zero_le _)
  · have hji : j ≠ i := by rw [← hp]; exact Nat.ne_of_gt (par_lt h0)
    have hpi : par i ≠ i := Nat.ne_of_lt (par_lt hi)
    simp only [if_neg hji, if_neg hpi]
    have a := h j h0 hn (Nat.zero_le _)
    rw [hp] at a
    have hin : i < n := by
      have := par_lt h0
      omega
    exact hO.trans _ _ _ (h i hi hin (Nat.zero_le _)) a
/-- An entry laid behind a heap. -/
theorem Heap.more {n : Nat} {f : Nat → E} (h : Heap lt n 0 f) (e : E) : Up lt (n + 1) (fun j => if j = n then e else f j) n := by
  refine ⟨fun j h0 hn h1 h2 => ?_, fun j h0 hn hp hi => ?_⟩
  · simp only [if_neg h1, if_neg h2]
    exact h j h0 (by omega) (Nat.zero_le _)
  · have := par_lt h0
    omega
/-- A step up. -/
theorem Up.rise {n : Nat} {f : Nat → E} {i : Nat} (h : Up lt n f i) (hO : Ord lt) (hi : 0 < i) (hn : i < n) : Up lt n (swp f i (par i)) (par i) := by
  have hp := par_lt hi
  refine ⟨fun j h0 hj h1 h2 => ?_, fun j h0 hj hpj hp0 => ?_⟩
  · by_cases hji : j = i
    · subst hji
      exact absurd rfl h2
    · rw [swp_3 f hji h1]
      by_cases hpi : par j = i
      · rw [hpi, swp_1]
        exact h.by_ j h0 hj hpi hi
      · rw [swp_3 f hpi h2]
        exact h.ok j h0 hj hji hpi
  · have hpp : par (par i) ≠ i := by have := par_lt hp0; omega
    have hpq : par (par i) ≠ par i := Nat.ne_of_lt (par_lt hp0)
    rw [swp_3 f hpp hpq]
    have hup : lt (f (par i)) (f (par (par i))) = false := h.ok (par i) hp0 (by omega) (Nat.ne_of_lt hp) hpp
    by_cases hji : j = i
    · subst hji
      rw [swp_1]
      exact hup
    · have hjp : j ≠ par i := by rw [← hpj]; exact Nat.ne_of_gt (par_lt h0)
      rw [swp_3 f hji hjp]
      have hpar : par j ≠ i := by rw [hpj]; omega
      have a := h.ok j h0 hj hji hpar
      rw [hpj] at a
      exact hO.trans _ _ _ hup a
/-- The end of the way up. -/
theorem Up.top {n : Nat} {f : Nat → E} {i : Nat} (h : Up lt n f i) (he : i = 0 ∨ lt (f i) (f (par i)) = false) : Dn lt n 0 f i := by
  refine ⟨fun j h0 hj _ h1 => ?_, fun j h0 hj hp hi _ => h.by_ j h0 hj hp hi⟩
  by_cases hji : j = i
  · subst hji
    rcases he with q | q
    · omega
    · exact q
  · exact h.ok j h0 hj hji h1
/-- A heap below lo, and lo itself. -/
theorem Heap.down {n lo : Nat} {f : Nat → E} (h : Heap lt n (lo + 1) f) : Dn lt n lo f lo := by
  refine ⟨fun j h0 hj hlo h1 => h j h0 hj (by omega), fun j h0 hj hp hi hlo => ?_⟩
  have := par_lt hi
  omega
/-- A step down: k is a kid of i that stands ahead of it, and not behind the other one. -/
theorem Dn.sink {n lo : Nat} {f : Nat → E} {i k : Nat} (h : Dn lt n lo f i) (hO : Ord lt) (hlo : lo ≤ i) (hk0 : 0 < k) (hkn : k < n) (hk : par k = i) (hl : lt (f k) (f i) = true) (hm : ∀ j, 0 < j → j < n → par j = i → lt (f j) (f k) = false) : Dn lt n lo (swp f i k) k := by
  have hik : i < k := by rw [← hk]; exact par_lt hk0
  refine ⟨fun j h0 hj hjl h1 => ?_, fun j h0 hj hpj _ _ => ?_⟩
  · by_cases hji : j = i
    · subst hji
      have hpj : par j ≠ j := Nat.ne_of_lt (par_lt h0)
      rw [swp_1, swp_3 f hpj h1]
      exact h.by_ k hk0 hkn hk h0 hjl
    · by_cases hjk : j = k
      · subst hjk
        rw [swp_2, hk, swp_1]
        exact hO.asym _ _ hl
      · rw [swp_3 f hji hjk]
        by_cases hpi : par j = i
        · rw [hpi, swp_1]
          exact hm j h0 hj hpi
        · rw [swp_3 f hpi h1]
          exact h.ok j h0 hj hjl hpi
  · have hjk : k < j := by rw [← hpj]; exact par_lt h0
    rw [swp_3 f (by omega : j ≠ i) (by omega : j ≠ k), hk, swp_1]
    have a := h.ok j h0 hj (by rw [hpj]; omega) (by rw [hpj]; omega)
    rw [hpj] at a
    exact a
/-- The end of the way down. -/
theorem Dn.bottom {n lo : Nat} {f : Nat → E} {i : Nat} (h : Dn lt n lo f i) (he : ∀ j, 0 < j → j < n → par j = i → lt (f j) (f i) = false) : Heap lt n lo f := fun j h0 hj hlo => by
  by_cases hp : par j = i
  · rw [hp]
    exact he j h0 hj hp
  · exact h.ok j h0 hj hlo hp
/-- Of a heap nothing stands ahead of the first. -/
theorem Heap.first {n : Nat} {f : Nat → E} (h : Heap lt n 0 f) (hO : Ord lt) : ∀ j, j < n → lt (f j) (f 0) = false := by
  intro j
  induction j using Nat.strongRecOn with
  | _ j ih =>
    intro hj
    by_cases h0 : 0 < j
    · have hp := par_lt h0
      exact hO.trans _ _ _ (ih (par j) hp (by omega)) (h j h0 hj (Nat.zero_le _))
    · have e : j = 0 := by omega
      subst e
      cases q : lt (f 0) (f 0) with
      | false => rfl
      | true => exact absurd (hO.asym _ _ q) (by rw [q]; simp)
/-- A heap with its last one off. -/
theorem Heap.less {n : Nat} {f : Nat → E} (h : Heap lt (n + 1) 0 f) : Heap lt n 0 f := fun j h0 hj hlo => h j h0 (by omega) hlo
/-- No row is a heap's trouble below its last parent. -/
theorem Heap.none {n : Nat} (f : Nat → E) : Heap lt n (n / 2) f := fun j h0 hj hlo => by
  unfold par at hlo
  omega
end
end Wq
