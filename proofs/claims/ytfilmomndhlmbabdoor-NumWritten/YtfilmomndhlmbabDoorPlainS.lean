/- Plain facts on digits in texts. -/
import Derived.Test.YtfilmomndhlmbabDoorPlainF
import Derived.Test.YtfilmomndhlmbabDoorPlainG
namespace Go.Proofs.YtfilmomndhlmbabDoor.Wnum

/-- The byte at a place of a text (0 behind its end). -/
def bt (s : ByteArray) (i : Nat) : Int := ((s.data.toList.getD i 0).toNat : Int)
abbrev isD (b : Int) : Prop := 48 ≤ b ∧ b ≤ 57
/-- How many digits stand from a place on, at most so many. -/
def cnt (s : ByteArray) : Nat → Nat → Nat
  | _, 0 => 0
  | i, k + 1 => if isD (bt s i) then cnt s (i + 1) k + 1 else 0
/-- What k digits from a place on say. -/
def say (s : ByteArray) (i : Nat) : Nat → Int
  | 0 => 0
  | k + 1 => say s i k * 10 + (bt s (i + k) - 48)
theorem bt_bd (s : ByteArray) (i : Nat) : 0 ≤ bt s i ∧ bt s i ≤ 255 := by
  unfold bt
  have := (s.data.toList.getD i 0).toNat_lt
  omega
theorem bt_get {s : ByteArray} {i : Nat} (h : i < s.size) : (((s[i]'h).toNat : Nat) : Int) = bt s i := by
  unfold bt
  obtain ⟨⟨l⟩⟩ := s
  have hl : i < l.length := h
  have e : (ByteArray.mk ⟨l⟩)[i]'h = l.getD i 0 := by
    simp only [List.getD, List.getElem?_eq_getElem hl, Option.getD_some]
    rfl
  rw [e]
theorem cnt_le (s : ByteArray) : ∀ k i, cnt s i k ≤ k := by
  intro k
  induction k with
  | zero => intro i; exact Nat.le_refl _
  | succ k ih =>
    intro i
    show (if isD (bt s i) then cnt s (i + 1) k + 1 else 0) ≤ k + 1
    split
    · have := ih (i + 1); omega
    · omega
/-- All that are counted are digits, and what stands behind is none. -/
theorem cnt_all (s : ByteArray) : ∀ k i j, j < cnt s i k → isD (bt s (i + j)) := by
  intro k
  induction k with
  | zero => intro i j h; exact absurd h (Nat.not_lt_zero _)
  | succ k ih =>
    intro i j h
    have e : cnt s i (k + 1) = if isD (bt s i) then cnt s (i + 1) k + 1 else 0 := rfl
    rw [e] at h
    by_cases c : isD (bt s i)
    · rw [if_pos c] at h
      cases j with
      | zero => exact c
      | succ j =>
        have := ih (i + 1) j (by omega)
        rw [show i + 1 + j = i + (j + 1) by omega] at this
        exact this
    · rw [if_neg c] at h; omega
theorem cnt_end (s : ByteArray) : ∀ k i, cnt s i k < k → ¬ isD (bt s (i + cnt s i k)) := by
  intro k
  induction k with
  | zero => intro i h; omega
  | succ k ih =>
    intro i h
    have e : cnt s i (k + 1) = if isD (bt s i) then cnt s (i + 1) k + 1 else 0 := rfl
    rw [e] at h ⊢
    by_cases c : isD (bt s i)
    · rw [if_pos c] at h ⊢
      have := ih (i + 1) (by omega)
      rw [show i + 1 + cnt s (i + 1) k = i + (cnt s (i + 1) k + 1) by omega] at this
      exact this
    · rw [if_neg c]; exact c
/-- A count is told by what it does. -/
theorem cnt_is {s : ByteArray} {i k j : Nat} (hj : j ≤ k) (h1 : ∀ m, m < j → isD (bt s (i + m))) (h2 : j < k → ¬ isD (bt s (i + j))) : cnt s i k = j := by
  rcases Nat.lt_trichotomy (cnt s i k) j with h | h | h
  · exact absurd (h1 _ h) (cnt_end s k i (by omega))
  · exact h
  · exact absurd (cnt_all s k i j h) (h2 (by have := cnt_le s k i; omega))
theorem say_nonneg {s : ByteArray} {i : Nat} : ∀ k, (∀ m, m < k → isD (bt s (i + m))) → 0 ≤ say s i k := by
  intro k
  induction k with
  | zero => intro _; exact Int.le_refl _
  | succ k ih =>
    intro h
    have h1 := ih (fun m hm => h m (by omega))
    have h2 := (h k (by omega)).1
    show 0 ≤ say s i k * 10 + (bt s (i + k) - 48)
    omega
theorem say_mono {s : ByteArray} {i : Nat} : ∀ n k, (∀ m, m < k + n → isD (bt s (i + m))) → say s i k ≤ say s i (k + n) := by
  intro n
  induction n with
  | zero => intro k _; exact Int.le_refl _
  | succ n ih =>
    intro k h
    have h1 := ih k (fun m hm => h m (by omega))
    have h2 := (h (k + n) (by omega)).1
    have h3 := say_nonneg (s := s) (i := i) (k + n) (fun m hm => h m (by omega))
    show say s i k ≤ say s i (k + n) * 10 + (bt s (i + (k + n)) - 48)
    omega
/-- Digits from a place on: how many, what they say, and whether that is taken. -/
def dk (s : ByteArray) (i : Nat) : Nat := cnt s i (s.size - i)
def dv (s : ByteArray) (i : Nat) : Int := say s i (dk s i)
def dB (s : ByteArray) (i : Nat) : Bool := decide (0 < dk s i ∧ dv s i ≤ 1000000000000000000)
theorem dk_le (s : ByteArray) (i : Nat) : dk s i ≤ s.size - i := cnt_le s _ i
theorem dk_all (s : ByteArray) (i : Nat) : ∀ m, m < dk s i → isD (bt s (i + m)) := fun m h => cnt_all s _ i m h
theorem dk_end {s : ByteArray} {i : Nat} (h : i + dk s i < s.size) : ¬ isD (bt s (i + dk s i)) := cnt_end s _ i (by unfold dk at *; omega)
theorem dv_nonneg (s : ByteArray) (i : Nat) : 0 ≤ dv s i := say_nonneg _ (dk_all s i)
theorem over_before {s : ByteArray} {i j : Nat} (hj : j ≤ dk s i) (h : 1000000000000000000 < say s i j) : dB s i = false := by
  have := say_mono (s := s) (i := i) (dk s i - j) j (by rw [show j + (dk s i - j) = dk s i by omega]; exact dk_all s i)
  rw [show j + (dk s i - j) = dk s i by omega] at this
  unfold dB dv
  rw [decide_eq_false_iff_not]
  omega
theorem ten_step {a d : Int} : (1000000000000000000 - d) / 10 < a ↔ 1000000000000000000 < a * 10 + d := by omega
/-- What readDigits tells. -/
def rdV (s : ByteArray) : Int := if dB s 0 = true then dv s 0 else 0
def rdS (s : ByteArray) : ByteArray := if dB s 0 = true then s.extract (dk s 0) s.size else ⟨#[]⟩
theorem rd_false {s : ByteArray} (h : dB s 0 = false) : rdV s = 0 ∧ rdS s = ⟨#[]⟩ := by unfold rdV rdS; rw [h]; exact ⟨rfl, rfl⟩
theorem rd_true {s : ByteArray} (h : dB s 0 = true) : rdV s = dv s 0 ∧ rdS s = s.extract (dk s 0) s.size := by unfold rdV rdS; rw [h]; exact ⟨rfl, rfl⟩
theorem dk_more {s : ByteArray} {i j : Nat} (hj : j ≤ dk s i) (h1 : i + j < s.size) (h2 : isD (bt s (i + j))) : j < dk s i := by
  rcases Nat.lt_or_ge j (dk s i) with h | h
  · exact h
  · have e : j = dk s i := by omega
    exact absurd (e ▸ h2) (dk_end (by omega))
theorem dk_stop {s : ByteArray} {i j : Nat} (hj : j ≤ dk s i) (h : s.size ≤ i + j ∨ ¬ isD (bt s (i + j))) : dk s i = j := by
  rcases Nat.lt_or_ge j (dk s i) with c | c
  · rcases h with h | h
    · have := dk_le s i; omega
    · exact absurd (dk_all s i j c) h
  · omega
theorem dB_stop {s : ByteArray} {i j : Nat} (e : dk s i = j) (hb : say s i j ≤ 1000000000000000000) : dv s i = say s i j ∧ dB s i = decide (0 < j) := by
  have h1 : dv s i = say s i j := by unfold dv; rw [e]
  refine ⟨h1, ?_⟩
  unfold dB
  rw [h1, e]
  by_cases h : 0 < j
  · rw [decide_eq_true h, decide_eq_true ⟨h, hb⟩]
  · rw [decide_eq_false h, decide_eq_false (fun x => h x.1)]
theorem say_succ (s : ByteArray) (i k : Nat) : say s i (k + 1) = say s i k * 10 + (bt s (i + k) - 48) := rfl
/-- What the reference's piece tells. -/
def pcN (s : ByteArray) (p : Nat) : Int := if dv s p ≤ 1000000000000000000 then dv s p else 0
def pcI (s : ByteArray) (p : Nat) : Int := if dv s p ≤ 1000000000000000000 then ((p + dk s p : Nat) : Int) else 0
theorem pc_over {s : ByteArray} {p j : Nat} (hj : j ≤ dk s p) (h : 1000000000000000000 < say s p j) : pcN s p = 0 ∧ pcI s p = 0 ∧ dB s p = false := by
  have := say_mono (s := s) (i := p) (dk s p - j) j (by rw [show j + (dk s p - j) = dk s p by omega]; exact dk_all s p)
  rw [show j + (dk s p - j) = dk s p by omega] at this
  have hv : ¬ dv s p ≤ 1000000000000000000 := by unfold dv; omega
  exact ⟨if_neg hv, if_neg hv, over_before hj h⟩
theorem pc_in {s : ByteArray} {p q : Nat} (hq : p ≤ q) (e : dk s p = q - p) (hb : say s p (q - p) ≤ 1000000000000000000) : pcN s p = say s p (q - p) ∧ pcI s p = (q : Int) ∧ dB s p = decide (p < q) := by
  obtain ⟨h1, h2⟩ := dB_stop e hb
  have hv : dv s p ≤ 1000000000000000000 := by rw [h1]; exact hb
  refine ⟨by unfold pcN; rw [if_pos hv, h1], by unfold pcI; rw [if_pos hv, e]; omega, ?_⟩
  rw [h2]
  by_cases h : p < q
  · rw [decide_eq_true h, decide_eq_true (by omega)]
  · rw [decide_eq_false h, decide_eq_false (by omega)]
end Go.Proofs.YtfilmomndhlmbabDoor.Wnum
