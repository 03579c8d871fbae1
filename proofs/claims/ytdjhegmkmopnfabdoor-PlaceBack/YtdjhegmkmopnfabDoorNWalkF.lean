/- The contract of the document's Read. -/
import Derived.Test.YtdjhegmkmopnfabDoorNWalkE
import Derived.Test.YtdjhegmkmopnfabDoorNPlainC
namespace Go.Proofs.YtdjhegmkmopnfabDoor
open Go.RowKit
set_option linter.unusedVariables false

theorem at_lt {l : List UInt8} {i : Nat} {c : UInt8} (h : l[i]? = some c) : i < (⟨l.toArray⟩ : ByteArray).size := by
  show i < l.toArray.size
  rw [List.size_toArray]
  exact (List.getElem?_eq_some_iff.1 h).1
theorem at_eq {l : List UInt8} {i : Nat} {c : UInt8} (h : l[i]? = some c) : ((((⟨l.toArray⟩ : ByteArray)[i]'(at_lt h)).toNat : Nat) : Int) = (c.toNat : Int) := by
  obtain ⟨hi, e⟩ := List.getElem?_eq_some_iff.1 h
  have : (⟨l.toArray⟩ : ByteArray)[i]'(at_lt h) = l[i] := rfl
  rw [this, e]
def RD (s : List UInt8) : Value := .tuple #[.int .i64 (Wpl.rdR s), .int .i64 (Wpl.rdC s), .bool (Wpl.rdOk s)]
theorem RD_no {s : List UInt8} (h : Wpl.rdOk s = false) : RD s = .tuple #[.int .i64 0, .int .i64 0, .bool false] := by
  unfold RD Wpl.rdR Wpl.rdC; rw [h]; rfl
theorem isL_int {c : UInt8} : Wpl.isL c = true ↔ 65 ≤ (c.toNat : Int) ∧ (c.toNat : Int) ≤ 90 := by simp [Wpl.isL]; omega
theorem isL_not {c : UInt8} (h : Wpl.isL c = false) : ¬ (65 ≤ (c.toNat : Int) ∧ (c.toNat : Int) ≤ 90) := by
  rw [← isL_int, h]; simp
theorem ne48 {c : UInt8} (h : c ≠ 48) : ¬ (c.toNat : Int) = 48 := fun e => h (UInt8.toNat_inj.1 (by
  have e2 : c.toNat = 48 := by omega
  rw [e2]; rfl))

end Go.Proofs.YtdjhegmkmopnfabDoor