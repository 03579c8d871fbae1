/- Cells and areas as plain numbers. -/
namespace Wpl

/-- A cell. -/
structure Cl where
  s : Int
  r : Int
  c : Int

/-- An area. -/
structure Ar where
  s : Int
  t : Int
  l : Int
  b : Int
  r : Int

theorem min_if (t x : Int) : min t x = if x < t then x else t := by split <;> omega
theorem max_if (t x : Int) : max t x = if t < x then x else t := by split <;> omega
/-- n is from 0 to m - 1. -/
def inB (n m : Int) : Bool := decide (0 ≤ n) && decide (n < m)
theorem inB_iff {n m : Int} : inB n m = true ↔ 0 ≤ n ∧ n < m := by simp [inB]
theorem inB_not {n m : Int} : inB n m = false ↔ ¬ (0 ≤ n ∧ n < m) := by rw [← inB_iff]; simp
def rightC (s r c : Int) : Bool := inB s 16 && inB r 65536 && inB c 256
theorem rightC_iff {s r c : Int} : rightC s r c = true ↔ 0 ≤ s ∧ s < 16 ∧ 0 ≤ r ∧ r < 65536 ∧ 0 ≤ c ∧ c < 256 := by simp [rightC, inB]; omega
theorem rightC_not {s r c : Int} : rightC s r c = false ↔ ¬ (0 ≤ s ∧ s < 16 ∧ 0 ≤ r ∧ r < 65536 ∧ 0 ≤ c ∧ c < 256) := by rw [← rightC_iff]; simp
def rightA (s t l b r : Int) : Bool := decide (0 ≤ s ∧ s < 16 ∧ 0 ≤ t ∧ t ≤ b ∧ b < 65536 ∧ 0 ≤ l ∧ l ≤ r ∧ r < 256)
theorem rightA_iff {s t l b r : Int} : rightA s t l b r = true ↔ 0 ≤ s ∧ s < 16 ∧ 0 ≤ t ∧ t ≤ b ∧ b < 65536 ∧ 0 ≤ l ∧ l ≤ r ∧ r < 256 := by simp [rightA]
theorem rightA_not {s t l b r : Int} : rightA s t l b r = false ↔ ¬ (0 ≤ s ∧ s < 16 ∧ 0 ≤ t ∧ t ≤ b ∧ b < 65536 ∧ 0 ≤ l ∧ l ≤ r ∧ r < 256) := by simp [rightA]
def lacks (q : Int) (c : Cl) : Bool := decide (c.s ≠ q) || !rightC c.s c.r c.c
def grow (a : Ar) (c : Cl) : Ar := ⟨a.s, min a.t c.r, min a.l c.c, max a.b c.r, max a.r c.c⟩
def oneA (c : Cl) : Ar := ⟨c.s, c.r, c.c, c.r, c.c⟩
def nullA : Ar := ⟨0, 0, 0, 0, 0⟩
def hasA (s t l b r cs cr cc : Int) : Bool := rightA s t l b r && decide (cs = s ∧ t ≤ cr ∧ cr ≤ b ∧ l ≤ cc ∧ cc ≤ r)
def sizeA (s t l b r : Int) : Int := if rightA s t l b r then (b - t + 1) * (r - l + 1) else 0

/-- Cells by their number: is there one of the first n that is none of the sheet q? -/
def anyN (q : Int) (F : Nat → Cl) : Nat → Bool
  | 0 => false
  | n + 1 => anyN q F n || lacks q (F n)
theorem anyN_hit {q : Int} {F : Nat → Cl} {n j : Nat} (hj : j < n) (h : lacks q (F j) = true) : anyN q F n = true := by
  induction n with
  | zero => omega
  | succ n ih =>
    by_cases e : j = n
    · subst e; simp [anyN, h]
    · simp [anyN, ih (by omega)]
theorem anyN_miss {q : Int} {F : Nat → Cl} {n : Nat} (h : ∀ j, j < n → lacks q (F j) = false) : anyN q F n = false := by
  induction n with
  | zero => rfl
  | succ n ih => simp [anyN, ih (fun j hj => h j (by omega)), h n (by omega)]
theorem anyN_not {q : Int} {F : Nat → Cl} {n : Nat} (h : anyN q F n = false) {j : Nat} (hj : j < n) : lacks q (F j) = false := by
  cases e : lacks q (F j) with
  | false => rfl
  | true => rw [anyN_hit hj e] at h; cases h
/-- The hull of the cells number 0 to j. -/
def hullU (F : Nat → Cl) : Nat → Ar
  | 0 => oneA (F 0)
  | j + 1 => grow (hullU F j) (F (j + 1))
def hullOk (F : Nat → Cl) (n : Nat) : Bool := decide (n ≠ 0) && !anyN (F 0).s F n
def hullV (F : Nat → Cl) (n : Nat) : Ar := if hullOk F n then hullU F (n - 1) else nullA
def before (s r c s' r' c' : Int) : Bool := if s ≠ s' then decide (s < s') else if r ≠ r' then decide (r < r') else decide (c < c')
def nullC : Cl := ⟨0, 0, 0⟩
def shiftOk (s r c x y : Int) : Bool := rightC s r c && (inB (r + x) 65536 && inB (c + y) 256)
def shiftV (s r c x y : Int) : Cl := if shiftOk s r c x y then ⟨s, r + x, c + y⟩ else nullC
/-- The two corners of an area. -/
def corners (s t l b r : Int) (i : Nat) : Cl := if i = 0 then ⟨s, t, l⟩ else ⟨s, b, r⟩
/-- An area is given by these five numbers. -/
def isA (a : Ar) (s t l b r : Int) : Bool := decide (a.s = s ∧ a.t = t ∧ a.l = l ∧ a.b = b ∧ a.r = r)
theorem rightA_hull (s t l b r : Int) : (hullOk (corners s t l b r) 2 && isA (hullV (corners s t l b r) 2) s t l b r) = rightA s t l b r := by
  have e0 : corners s t l b r 0 = ⟨s, t, l⟩ := rfl
  have e1 : corners s t l b r 1 = ⟨s, b, r⟩ := rfl
  rw [Bool.eq_iff_iff, rightA_iff]
  unfold isA hullV hullOk
  simp only [anyN, e0, e1, lacks, hullU, grow, oneA, ne_eq, not_true_eq_false, decide_false, Bool.false_or]
  cases h1 : rightC s t l with
  | false =>
    rw [rightC_not] at h1
    simp
    omega
  | true =>
    cases h2 : rightC s b r with
    | false =>
      rw [rightC_not] at h2
      simp
      omega
    | true =>
      rw [rightC_iff] at h1 h2
      simp
      omega
end Wpl
