/- Plain facts on the digits behind a point. -/
import Derived.Test.YtfilmomndhlmbabDoorPlainG
import Derived.Lib.ItoaNum
namespace Go.Proofs.YtfilmomndhlmbabDoor.Wnum

/-- The digits of r / d behind the point, at most k of them. -/
def decs (d : Nat) : Nat → Nat → List UInt8
  | 0, _ => []
  | k + 1, r => if r = 0 then [] else UInt8.ofNat (48 + r * 10 / d) :: decs d k (r * 10 % d)
/-- How many. -/
def fu (d : Nat) : Nat → Nat → Nat
  | 0, _ => 0
  | k + 1, r => if r = 0 then 0 else fu d k (r * 10 % d) + 1
theorem decs_zero (d k : Nat) : decs d k 0 = [] := by cases k <;> rfl
theorem decs_more {d k r : Nat} (h : r ≠ 0) : decs d (k + 1) r = UInt8.ofNat (48 + r * 10 / d) :: decs d k (r * 10 % d) := if_neg h
theorem fu_zero (d k : Nat) : fu d k 0 = 0 := by cases k <;> rfl
theorem fu_more {d k r : Nat} (h : r ≠ 0) : fu d (k + 1) r = fu d k (r * 10 % d) + 1 := if_neg h
theorem ends_step {d k r : Nat} (h : r * 10 ^ (k + 1) % d = 0) : r * 10 % d * 10 ^ k % d = 0 := by
  rw [Nat.mod_mul_mod, Nat.mul_assoc, ← Nat.pow_succ']
  exact h
theorem ends_zero {d r : Nat} (hr : r < d) (h : r * 10 ^ 0 % d = 0) : r = 0 := by
  rw [Nat.pow_zero, Nat.mul_one, Nat.mod_eq_of_lt hr] at h
  exact h
theorem fu_stable {d : Nat} (hd : 0 < d) : ∀ k r, r < d → r * 10 ^ k % d = 0 → fu d (k + 1) r = fu d k r := by
  intro k
  induction k with
  | zero => intro r hr h; rw [ends_zero hr h]; rfl
  | succ k ih =>
    intro r hr h
    by_cases h0 : r = 0
    · rw [h0, fu_zero, fu_zero]
    · rw [fu_more h0, ih _ (Nat.mod_lt _ hd) (ends_step h)]
      exact (fu_more h0).symm
/-- One round more: fewer are left. -/
theorem fu_less {d k r : Nat} (hd : 0 < d) (hr : r < d) (h0 : r ≠ 0) (hk : k + 1 ≤ 6) (h : r * 10 ^ (k + 1) % d = 0) : fu d 6 (r * 10 % d) < fu d 6 r := by
  have up : ∀ j m x, x < d → x * 10 ^ m % d = 0 → fu d (m + j) x = fu d m x := by
    intro j
    induction j with
    | zero => intro m x _ _; rfl
    | succ j ih =>
      intro m x hx hm
      rw [show m + (j + 1) = (m + j) + 1 by omega, fu_stable hd (m + j) x hx (by rw [Nat.pow_add, ← Nat.mul_assoc, Nat.mul_mod, hm, Nat.zero_mul, Nat.zero_mod]), ih m x hx hm]
  have e1 := up (6 - (k + 1)) (k + 1) r hr h
  have e2 := up (6 - k) k (r * 10 % d) (Nat.mod_lt _ hd) (ends_step h)
  rw [show k + 1 + (6 - (k + 1)) = 6 by omega] at e1
  rw [show k + (6 - k) = 6 by omega] at e2
  rw [e1, e2, fu_more h0]
  omega
/-- The text of a number by its parts. -/
def sgnT (N : Int) : List UInt8 := if N < 0 then [45] else []
def txt (N : Int) (D : Nat) : List UInt8 :=
  sgnT N ++ (if 1000000 % D ≠ 0 then Lib.decDigits N.natAbs ++ 47 :: Lib.decDigits D else if N.natAbs % D = 0 then Lib.decDigits (N.natAbs / D) else Lib.decDigits (N.natAbs / D) ++ 46 :: decs D 6 (N.natAbs % D))
theorem txt_frac {N : Int} {D : Nat} (h : 1000000 % D ≠ 0) : txt N D = sgnT N ++ (Lib.decDigits N.natAbs ++ 47 :: Lib.decDigits D) := by unfold txt; rw [if_pos h]
theorem txt_whole {N : Int} {D : Nat} (h : 1000000 % D = 0) (h' : N.natAbs % D = 0) : txt N D = sgnT N ++ Lib.decDigits (N.natAbs / D) := by unfold txt; rw [if_neg (by omega), if_pos h']
theorem txt_point {N : Int} {D : Nat} (h : 1000000 % D = 0) (h' : N.natAbs % D ≠ 0) : txt N D = sgnT N ++ (Lib.decDigits (N.natAbs / D) ++ 46 :: decs D 6 (N.natAbs % D)) := by unfold txt; rw [if_neg (by omega), if_neg h']
theorem itoa_sgn (N : Int) : Lib.itoa N = sgnT N ++ Lib.decDigits N.natAbs := by
  unfold Lib.itoa sgnT
  by_cases h : N < 0
  · rw [if_pos h, if_pos h]; rfl
  · rw [if_neg h, if_neg h, show N.toNat = N.natAbs by omega]; rfl
theorem ends_six {d r : Nat} (h : 1000000 % d = 0) : r * 10 ^ 6 % d = 0 := by
  rw [show (10 : Nat) ^ 6 = 1000000 by decide, Nat.mul_mod, h, Nat.mul_zero, Nat.zero_mod]
theorem decs_length (d : Nat) : ∀ k r, (decs d k r).length ≤ k := by
  intro k
  induction k with
  | zero => intro r; exact Nat.le_refl _
  | succ k ih =>
    intro r
    by_cases h : r = 0
    · rw [h, decs_zero]; exact Nat.zero_le _
    · rw [decs_more h, List.length_cons]; have := ih (r * 10 % d); omega
end Go.Proofs.YtfilmomndhlmbabDoor.Wnum
