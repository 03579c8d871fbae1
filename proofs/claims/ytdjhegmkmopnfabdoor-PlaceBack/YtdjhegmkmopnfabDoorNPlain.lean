/- Names of cells as lists of bytes. -/
import Derived.Test.YtdjhegmkmopnfabDoorPPlain
import Derived.Lib.ItoaNum
import Derived.Lib.ItoaLen
namespace Wpl

/-- A column's letters. -/
def colT (n : Nat) : List UInt8 := if n < 26 then [UInt8.ofNat (65 + n)] else [UInt8.ofNat (65 + (n / 26 - 1)), UInt8.ofNat (65 + n % 26)]
def colS (n : Int) : List UInt8 := if inB n 256 then colT n.toNat else []
theorem colT_len (n : Nat) : (colT n).length ≤ 2 := by unfold colT; split <;> simp
theorem colS_len (n : Int) : (colS n).length ≤ 2 := by unfold colS; split; exact colT_len _; simp
/-- A cell's name. -/
def nameS (s r c : Int) : List UInt8 := if rightC s r c then colS c ++ Go.Lib.decDigits (r + 1).toNat else []
theorem dd_len (n : Nat) (h : n ≤ 9223372036854775807) : (Go.Lib.decDigits n).length ≤ 21 := by
  have := Go.Lib.itoa_length_le (n : Int) (by omega) (by omega)
  unfold Go.Lib.itoa at this
  rw [if_neg (by omega), Int.toNat_natCast] at this
  exact this
theorem nameS_len (s r c : Int) : (nameS s r c).length ≤ 23 := by
  unfold nameS
  cases h : rightC s r c with
  | false => simp
  | true =>
    have h' := rightC_iff.1 h
    have := colS_len c
    have := dd_len (r + 1).toNat (by omega)
    simp only [if_true, List.length_append]
    omega
/-- A cell's name, of numbers that are right. -/
def txtC (r c : Int) : List UInt8 := colS c ++ Go.Lib.decDigits (r + 1).toNat
theorem nameS_pos {s r c : Int} (h : rightC s r c = true) : nameS s r c = txtC r c := by unfold nameS; rw [h]; rfl
theorem nameS_neg {s r c : Int} (h : rightC s r c = false) : nameS s r c = [] := by unfold nameS; rw [h]; rfl
theorem txtC_len {r c : Int} (h0 : 0 ≤ r) (h1 : r < 65536) : (txtC r c).length ≤ 23 := by
  have := colS_len c
  have := dd_len (r + 1).toNat (by omega)
  unfold txtC
  rw [List.length_append]
  omega
def nameA (s t l b r : Int) : List UInt8 := if rightA s t l b r then txtC t l ++ (58 :: txtC b r) else []
end Wpl
