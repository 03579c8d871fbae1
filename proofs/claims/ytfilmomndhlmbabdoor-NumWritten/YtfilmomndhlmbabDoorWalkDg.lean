/- The contract of the reference's digits. -/
import Derived.Test.YtfilmomndhlmbabDoorAtKit
import Derived.Lib.ItoaNum
import Derived.Lib.ItoaLen
import Derived.Lib.Slices
import Derived.Laws.IdiomStrings
namespace Go.Proofs.YtfilmomndhlmbabDoor
open Go.RowKit
set_option linter.unusedVariables false

theorem dig_byte (u : Nat) : (((UInt8.ofNat (48 + u % 10)).toNat : Nat) : Int) = 48 + (u : Int) % 10 := by
  have h : (UInt8.ofNat (48 + u % 10)).toNat = 48 + u % 10 := by
    rw [UInt8.toNat_ofNat']
    exact Nat.mod_eq_of_lt (by omega)
  rw [h]; omega
theorem dig_conv (u : Nat) (c : UInt8) (w : World) (hc : ((c.toNat : Nat) : Int) = 48 + (u : Int) % 10) :
    (convert 53 9 (.slice (some ⟨w.heap.size, 0, none⟩) 1 1)).run Tryd.prog (w.alloc (.cells #[.int .u8 (48 + (u : Int) % 10)] 5)) = .ok (.string ⟨#[c]⟩) (w.alloc (.cells #[.int .u8 (48 + (u : Int) % 10)] 5)) := by
  have := run_convert_bytes_back (P := Tryd.prog) (w.alloc (.cells #[.int .u8 (48 + (u : Int) % 10)] 5)) 53 9 5 ⟨w.heap.size, 0, none⟩ 1 [c] Tryd.underlying53 Tryd.underlying5 Tryd.underlying9 (by
    intro j hj
    obtain rfl : j = 0 := by simp at hj; omega
    simp [Addr.add, go_sem, hc])
  exact this

theorem app_mk (a b : List UInt8) : ((⟨a.toArray⟩ : ByteArray) ++ (⟨b.toArray⟩ : ByteArray)) = ⟨(a ++ b).toArray⟩ := by
  apply ByteArray.ext
  rw [ByteArray.data_append]
  simp
theorem dd_len (n : Nat) (h : n ≤ 9223372036854775807) : (Lib.decDigits n).length ≤ 21 := by
  have := Lib.itoa_length_le (n : Int) (by omega) (by omega)
  unfold Lib.itoa at this
  rw [if_neg (by omega), Int.toNat_natCast] at this
  exact this
theorem dd_small {u : Nat} (h : u < 10) : Lib.decDigits u = [UInt8.ofNat (48 + u % 10)] := by
  unfold Lib.decDigits
  rw [dif_pos h, Nat.mod_eq_of_lt h]
theorem dd_more {u : Nat} (h : ¬ u < 10) : Lib.decDigits u = Lib.decDigits (u / 10) ++ [UInt8.ofNat (48 + u % 10)] := by
  conv => lhs; unfold Lib.decDigits
  rw [dif_neg h]

set_option maxHeartbeats 800000 in
theorem digits_any (n : Nat) (w : World) (hn : n ≤ 9223372036854775807) :
    Calls Tryd.prog 22 #[.int .u64 (n : Int)] w fun e w' => e = .returned (.string ⟨(Lib.decDigits n).toArray⟩) ∧ Below w.heap.size w w' := by
  have DL := dd_len n hn
  go_enter Tryd.func22, Tryd.ntmps22
  go_wp2
  go_loopw [0, 3] (fun x s wr => ∃ (u : Nat) (l : List UInt8), x = .int .u64 u ∧ s = .string ⟨l.toArray⟩ ∧ u ≤ 9223372036854775807 ∧ Hid (Lib.decDigits n = Lib.decDigits u ++ l) ∧ Below w.heap.size w wr) (fun x _ _ => (intOf x).toNat)
  case atStart => exact ⟨n, [], rfl, rfl, hn, (by rw [List.append_nil] : Lib.decDigits n = Lib.decDigits n ++ []), Below.refl _ _⟩
  case round =>
    obtain ⟨u, l, rfl, rfl, hu, HI, qB⟩ := hrel
    have ll : l.length ≤ 21 := by
      have := congrArg List.length HI.out
      rw [List.length_append] at this
      omega
    obtain ⟨c, ec⟩ : ∃ c, c = UInt8.ofNat (48 + u % 10) := ⟨_, rfl⟩
    have hc := dig_byte u
    rw [← ec] at hc
    have hcv := dig_conv u c wr hc
    have EC : Hid (c = UInt8.ofNat (48 + u % 10)) := ec
    clear ec
    have hB := ball qB (.cells #[.int .u8 (48 + (u : Int) % 10)] 5)
    by_cases h10 : u < 10
    · have E : Hid (Lib.decDigits n = c :: l) := by show _ = _; rw [HI.out, dd_small h10, EC.out]; rfl
      have q0 : ((u : Int) / 10 == 0) = true := by rw [beq_iff_eq]; omega
      go_wp2
      go_ret
      refine ⟨?_, hB⟩
      rw [E.out]
      exact congrArg (fun x => Ending.returned (Value.string x)) (app_mk [c] l)
    · have E : Hid (Lib.decDigits n = Lib.decDigits (u / 10) ++ (c :: l)) := by show _ = _; rw [HI.out, dd_more h10, EC.out, List.append_assoc]; rfl
      have q0 : ((u : Int) / 10 == 0) = false := by rw [beq_eq_false_iff_ne]; omega
      go_wp2
      go_roundw
      case rel => exact ⟨u / 10, c :: l, by go_num, congrArg Value.string (app_mk [c] l), by omega, E, hB⟩
      case measure => simp [intOf]; omega
end Go.Proofs.YtfilmomndhlmbabDoor
