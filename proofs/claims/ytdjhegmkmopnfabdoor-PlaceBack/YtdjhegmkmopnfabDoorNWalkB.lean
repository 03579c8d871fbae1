/- The contracts of the document's Col and digits. -/
import Derived.Test.YtdjhegmkmopnfabDoorNWalkA
namespace Go.Proofs.YtdjhegmkmopnfabDoor
open Go.RowKit
set_option linter.unusedVariables false

theorem byte_nat {u : Nat} (h : u < 256) : (((UInt8.ofNat u).toNat : Nat) : Int) = (u : Int) := by
  rw [UInt8.toNat_ofNat']
  have : u % 2 ^ 8 = u := Nat.mod_eq_of_lt (by omega)
  omega
theorem conv1 (x : Int) (c : UInt8) (w : World) (hc : ((c.toNat : Nat) : Int) = x) :
    (convert 72 9 (.slice (some ⟨w.heap.size, 0, none⟩) 1 1)).run Tryd.prog (w.alloc (.cells #[.int .u8 x] 5)) = .ok (.string ⟨#[c]⟩) (w.alloc (.cells #[.int .u8 x] 5)) := by
  have := run_convert_bytes_back (P := Tryd.prog) (w.alloc (.cells #[.int .u8 x] 5)) 72 9 5 ⟨w.heap.size, 0, none⟩ 1 [c] Tryd.underlying72 Tryd.underlying5 Tryd.underlying9 (by
    intro j hj
    obtain rfl : j = 0 := by simp at hj; omega
    simp [Addr.add, go_sem, hc])
  exact this
theorem conv2 (x y : Int) (c d : UInt8) (w : World) (hc : ((c.toNat : Nat) : Int) = x) (hd : ((d.toNat : Nat) : Int) = y) :
    (convert 72 9 (.slice (some ⟨w.heap.size, 0, none⟩) 2 2)).run Tryd.prog (w.alloc (.cells #[.int .u8 x, .int .u8 y] 5)) = .ok (.string ⟨#[c, d]⟩) (w.alloc (.cells #[.int .u8 x, .int .u8 y] 5)) := by
  have := run_convert_bytes_back (P := Tryd.prog) (w.alloc (.cells #[.int .u8 x, .int .u8 y] 5)) 72 9 5 ⟨w.heap.size, 0, none⟩ 2 [c, d] Tryd.underlying72 Tryd.underlying5 Tryd.underlying9 (by
    intro j hj
    rcases (show j = 0 ∨ j = 1 by simp at hj; omega) with rfl | rfl
    · simp [Addr.add, go_sem, hc]
    · simp [Addr.add, go_sem, hd])
  exact this

theorem x3_dd_small {u : Nat} (h : u < 10) : Lib.decDigits u = [UInt8.ofNat (48 + u % 10)] := by
  unfold Lib.decDigits
  rw [dif_pos h, Nat.mod_eq_of_lt h]
theorem x3_dd_more {u : Nat} (h : ¬ u < 10) : Lib.decDigits u = Lib.decDigits (u / 10) ++ [UInt8.ofNat (48 + u % 10)] := by
  conv => lhs; unfold Lib.decDigits
  rw [dif_neg h]

end Go.Proofs.YtdjhegmkmopnfabDoor