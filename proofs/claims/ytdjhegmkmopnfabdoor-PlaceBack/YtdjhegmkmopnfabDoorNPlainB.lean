/- What is read of a text as a name: letters, digits. -/
import Derived.Test.YtdjhegmkmopnfabDoorNPlain
namespace Wpl

def isL (c : UInt8) : Bool := decide (65 ≤ c.toNat ∧ c.toNat ≤ 90)
def isG (c : UInt8) : Bool := decide (48 ≤ c.toNat ∧ c.toNat ≤ 57)
/-- Letters, as long as the number is no greater than 256. -/
def rc : Nat → List UInt8 → Nat × List UInt8
  | k, [] => (k, [])
  | k, c :: t => if isL c = true ∧ k ≤ 256 then rc (k * 26 + (c.toNat - 65) + 1) t else (k, c :: t)
/-- Digits, as long as the number is no greater than 65536. -/
def rd : Nat → List UInt8 → Nat × List UInt8
  | k, [] => (k, [])
  | k, c :: t => if isG c = true ∧ k ≤ 65536 then rd (k * 10 + (c.toNat - 48)) t else (k, c :: t)
def rr (l : List UInt8) : Nat × List UInt8 := if l.head? = some 48 then (0, l) else rd 0 l
/-- A name that is read: row and column from 1 on. -/
def rdOk (l : List UInt8) : Bool := decide ((rr (rc 0 l).2).2 = [] ∧ 1 ≤ (rr (rc 0 l).2).1 ∧ (rr (rc 0 l).2).1 ≤ 65536 ∧ 1 ≤ (rc 0 l).1 ∧ (rc 0 l).1 ≤ 256)
def rdR (l : List UInt8) : Int := if rdOk l then ((rr (rc 0 l).2).1 : Int) - 1 else 0
def rdC (l : List UInt8) : Int := if rdOk l then ((rc 0 l).1 : Int) - 1 else 0

theorem rc_len (k : Nat) (l : List UInt8) : (rc k l).2.length ≤ l.length := by
  induction l generalizing k with
  | nil => simp [rc]
  | cons c t ih =>
    unfold rc
    split
    · have := ih (k * 26 + (c.toNat - 65) + 1); simp; omega
    · simp
theorem rc_bd (k : Nat) (l : List UInt8) (h : k ≤ 6682) : (rc k l).1 ≤ 6682 := by
  induction l generalizing k with
  | nil => simpa [rc] using h
  | cons c t ih =>
    unfold rc
    split
    · rename_i hh
      have hc := hh.1
      simp only [isL, decide_eq_true_eq] at hc
      exact ih _ (by omega)
    · exact h
theorem rd_bd (k : Nat) (l : List UInt8) (h : k ≤ 655369) : (rd k l).1 ≤ 655369 := by
  induction l generalizing k with
  | nil => simpa [rd] using h
  | cons c t ih =>
    unfold rd
    split
    · rename_i hh
      have hc := hh.1
      simp only [isG, decide_eq_true_eq] at hc
      exact ih _ (by omega)
    · exact h
theorem rr_bd (l : List UInt8) : (rr l).1 ≤ 655369 := by
  unfold rr
  split
  · simp
  · exact rd_bd 0 l (by omega)
end Wpl
