/- The contracts of the document's Col and digits. -/
import Derived.Test.YtdjhegmkmopnfaaDoorNWalkA
namespace Go.Proofs.YtdjhegmkmopnfaaDoor
open Go.RowKit
set_option linter.unusedVariables false

theorem byte_nat {u : Nat} (h : u < 256) : (((UInt8.ofNat u).toNat : Nat) : Int) = (u : Int) := by
  rw [UInt8.toNat_ofNat']
  have : u % 2 ^ 8 = u := Nat.mod_eq_of_lt (by omega)
  omega
theorem conv1 (x : Int) (c : UInt8) (w : World) (hc : ((c.toNat : Nat) : Int) = x) :
    (convert 73 9 (.slice (some ⟨w.heap.size, 0, none⟩) 1 1)).run Tryd.prog (w.alloc (.cells #[.int .u8 x] 5)) = .ok (.string ⟨#[c]⟩) (w.alloc (.cells #[.int .u8 x] 5)) := by
  have := run_convert_bytes_back (P := Tryd.prog) (w.alloc (.cells #[.int .u8 x] 5)) 73 9 5 ⟨w.heap.size, 0, none⟩ 1 [c] Tryd.underlying73 Tryd.underlying5 Tryd.underlying9 (by
    intro j hj
    obtain rfl : j = 0 := by simp at hj; omega
    simp [Addr.add, go_sem, hc])
  exact this
theorem conv2 (x y : Int) (c d : UInt8) (w : World) (hc : ((c.toNat : Nat) : Int) = x) (hd : ((d.toNat : Nat) : Int) = y) :
    (convert 73 9 (.slice (some ⟨w.heap.size, 0, none⟩) 2 2)).run Tryd.prog (w.alloc (.cells #[.int .u8 x, .int .u8 y] 5)) = .ok (.string ⟨#[c, d]⟩) (w.alloc (.cells #[.int .u8 x, .int .u8 y] 5)) := by
  have := run_convert_bytes_back (P := Tryd.prog) (w.alloc (.cells #[.int .u8 x, .int .u8 y] 5)) 73 9 5 ⟨w.heap.size, 0, none⟩ 2 [c, d] Tryd.underlying73 Tryd.underlying5 Tryd.underlying9 (by
    intro j hj
    rcases (show j = 0 ∨ j = 1 by simp at hj; omega) with rfl | rfl
    · simp [Addr.add, go_sem, hc]
    · simp [Addr.add, go_sem, hd])
  exact this

set_option maxHeartbeats 800000 in
theorem rcol_any (n : Int) (w : World) : Calls Tryd.prog 19 #[.int .i64 n] w fun e w' => e = .returned (.string ⟨(Wpl.colS n).toArray⟩) ∧ Below w.heap.size w w' := by
  by_cases h0 : n < 0
  · have E : Hid (Wpl.colS n = []) := by show _ = _; unfold Wpl.colS; rw [Wpl.inB_not.2 (by omega)]; rfl
    go_enter Tryd.func19, Tryd.ntmps19
    go_wp2
    go_ret
    exact ⟨by rw [E.out]; rfl, by with_reducible repeat (first | exact Below.refl _ _ | refine x3_below_drewN ?_ _ | refine Below.setCell ?_ (by first | (simp; done) | (simp; omega) | omega) _ | refine Below.drew ?_ | refine x3_below_end ?_ (by assumption) | refine x3_ball ?_ _)⟩
  by_cases h1 : 256 ≤ n
  · have E : Hid (Wpl.colS n = []) := by show _ = _; unfold Wpl.colS; rw [Wpl.inB_not.2 (by omega)]; rfl
    go_enter Tryd.func19, Tryd.ntmps19
    go_wp2
    go_ret
    exact ⟨by rw [E.out]; rfl, by with_reducible repeat (first | exact Below.refl _ _ | refine x3_below_drewN ?_ _ | refine Below.setCell ?_ (by first | (simp; done) | (simp; omega) | omega) _ | refine Below.drew ?_ | refine x3_below_end ?_ (by assumption) | refine x3_ball ?_ _)⟩
  have E : Hid (Wpl.colS n = Wpl.colT n.toNat) := by show _ = _; unfold Wpl.colS; rw [Wpl.inB_iff.2 (by omega)]; rfl
  obtain ⟨m, rfl⟩ := Int.eq_ofNat_of_zero_le (show 0 ≤ n by omega)
  rw [Int.toNat_natCast] at E
  have h1' : (m : Int) < 256 := by omega
  by_cases h2 : m < 26
  · obtain ⟨c, ec⟩ : ∃ c, c = UInt8.ofNat (65 + m) := ⟨_, rfl⟩
    have E2 : Hid (Wpl.colS m = [c]) := by show _ = _; rw [E.out, ec]; unfold Wpl.colT; rw [if_pos h2]
    have hc := conv1 (65 + (m : Int)) c w (by rw [ec, byte_nat (by omega)]; omega)
    clear ec
    have h2' : (m : Int) < 26 := by omega
    clear E
    go_enter Tryd.func19, Tryd.ntmps19
    go_wp2
    go_ret
    exact ⟨by rw [E2.out]; rfl, by with_reducible repeat (first | exact Below.refl _ _ | refine x3_below_drewN ?_ _ | refine Below.setCell ?_ (by first | (simp; done) | (simp; omega) | omega) _ | refine Below.drew ?_ | refine x3_below_end ?_ (by assumption) | refine x3_ball ?_ _)⟩
  · obtain ⟨c, ec⟩ : ∃ c, c = UInt8.ofNat (65 + (m / 26 - 1)) := ⟨_, rfl⟩
    obtain ⟨d, ed⟩ : ∃ d, d = UInt8.ofNat (65 + m % 26) := ⟨_, rfl⟩
    have E2 : Hid (Wpl.colS m = [c, d]) := by show _ = _; rw [E.out, ec, ed]; unfold Wpl.colT; rw [if_neg h2]
    have hc := conv2 (65 + (m : Int) / 26 - 1) (65 + (m : Int) % 26) c d w (by rw [ec, byte_nat (by omega)]; omega) (by rw [ed, byte_nat (by omega)]; omega)
    clear ec ed
    have h2' : ¬ (m : Int) < 26 := by omega
    clear E
    go_enter Tryd.func19, Tryd.ntmps19
    go_wp2
    go_ret
    exact ⟨by rw [E2.out]; rfl, by with_reducible repeat (first | exact Below.refl _ _ | refine x3_below_drewN ?_ _ | refine Below.setCell ?_ (by first | (simp; done) | (simp; omega) | omega) _ | refine Below.drew ?_ | refine x3_below_end ?_ (by assumption) | refine x3_ball ?_ _)⟩

theorem x3_dd_small {u : Nat} (h : u < 10) : Lib.decDigits u = [UInt8.ofNat (48 + u % 10)] := by
  unfold Lib.decDigits
  rw [dif_pos h, Nat.mod_eq_of_lt h]
theorem x3_dd_more {u : Nat} (h : ¬ u < 10) : Lib.decDigits u = Lib.decDigits (u / 10) ++ [UInt8.ofNat (48 + u % 10)] := by
  conv => lhs; unfold Lib.decDigits
  rw [dif_neg h]

set_option maxHeartbeats 800000 in
theorem rdigits_any (n : Nat) (w : World) (hn : n ≤ 1000000000) :
    Calls Tryd.prog 55 #[.int .i64 (n : Int)] w fun e w' => e = .returned (.string ⟨(Lib.decDigits n).toArray⟩) ∧ Below w.heap.size w w' := by
  have DL := Wpl.dd_len n (by omega)
  go_enter Tryd.func55, Tryd.ntmps55
  go_wp2
  go_loopw [0, 3] (fun x s wr => ∃ (u : Nat) (l : List UInt8), x = .int .i64 u ∧ s = .string ⟨l.toArray⟩ ∧ u ≤ 1000000000 ∧ Hid (Lib.decDigits n = Lib.decDigits u ++ l) ∧ Below w.heap.size w wr) (fun x _ _ => (intOf x).toNat)
  case atStart => exact ⟨n, [], rfl, rfl, hn, (by rw [List.append_nil] : Lib.decDigits n = Lib.decDigits n ++ []), Below.refl _ _⟩
  case round =>
    obtain ⟨u, l, rfl, rfl, hu, HI, qB⟩ := hrel
    have ll : l.length ≤ 21 := by
      have := congrArg List.length HI.out
      rw [List.length_append] at this
      omega
    obtain ⟨c, ec⟩ : ∃ c, c = UInt8.ofNat (48 + u % 10) := ⟨_, rfl⟩
    have hc : ((c.toNat : Nat) : Int) = 48 + (u : Int) % 10 := by rw [ec, byte_nat (by omega)]; omega
    have hcv := conv1 (48 + (u : Int) % 10) c wr hc
    have EC : Hid (c = UInt8.ofNat (48 + u % 10)) := ec
    clear ec
    have hB := x3_ball qB (.cells #[.int .u8 (48 + (u : Int) % 10)] 5)
    by_cases h10 : u < 10
    · have E : Hid (Lib.decDigits n = c :: l) := by show _ = _; rw [HI.out, x3_dd_small h10, EC.out]; rfl
      have q0 : ((u : Int) / 10 == 0) = true := by rw [beq_iff_eq]; omega
      go_wp2
      go_ret
      refine ⟨?_, hB⟩
      rw [E.out]
      exact congrArg (fun x => Ending.returned (Value.string x)) (x3_app_mk [c] l)
    · have E : Hid (Lib.decDigits n = Lib.decDigits (u / 10) ++ (c :: l)) := by show _ = _; rw [HI.out, x3_dd_more h10, EC.out, List.append_assoc]; rfl
      have q0 : ((u : Int) / 10 == 0) = false := by rw [beq_eq_false_iff_ne]; omega
      go_wp2
      go_roundw
      case rel => exact ⟨u / 10, c :: l, by go_num, congrArg Value.string (x3_app_mk [c] l), by omega, E, hB⟩
      case measure => simp [intOf]; omega
end Go.Proofs.YtdjhegmkmopnfaaDoor
