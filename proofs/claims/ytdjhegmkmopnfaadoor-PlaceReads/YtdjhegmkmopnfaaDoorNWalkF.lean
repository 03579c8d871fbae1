/- The contract of the document's Read. -/
import Derived.Test.YtdjhegmkmopnfaaDoorNWalkE
import Derived.Test.YtdjhegmkmopnfaaDoorNPlainC
namespace Go.Proofs.YtdjhegmkmopnfaaDoor
open Go.RowKit
set_option linter.unusedVariables false

theorem at_lt {l : List UInt8} {i : Nat} {c : UInt8} (h : l[i]? = some c) : i < (⟨l.toArray⟩ : ByteArray).size := by
  show i < l.toArray.size
  rw [List.size_toArray]
  exact (List.getElem?_eq_some_iff.1 h).1
theorem at_eq {l : List UInt8} {i : Nat} {c : UInt8} (h : l[i]? = some c) : ((((⟨l.toArray⟩ : ByteArray)[i]'(at_lt h)).toNat : Nat) : Int) = (c.toNat : Int) := by
  obtain ⟨hi, e⟩ := List.getElem?_eq_some_iff.1 h
  have : (⟨l.toArray⟩ : ByteArray)[i]'(at_lt h) = l[i] := rfl
  rw [this, e]
def RD (s : List UInt8) : Value := .tuple #[.int .i64 (Wpl.rdR s), .int .i64 (Wpl.rdC s), .bool (Wpl.rdOk s)]
theorem RD_no {s : List UInt8} (h : Wpl.rdOk s = false) : RD s = .tuple #[.int .i64 0, .int .i64 0, .bool false] := by
  unfold RD Wpl.rdR Wpl.rdC; rw [h]; rfl
theorem isL_int {c : UInt8} : Wpl.isL c = true ↔ 65 ≤ (c.toNat : Int) ∧ (c.toNat : Int) ≤ 90 := by simp [Wpl.isL]; omega
theorem isL_not {c : UInt8} (h : Wpl.isL c = false) : ¬ (65 ≤ (c.toNat : Int) ∧ (c.toNat : Int) ≤ 90) := by
  rw [← isL_int, h]; simp
theorem ne48 {c : UInt8} (h : c ≠ 48) : ¬ (c.toNat : Int) = 48 := fun e => h (UInt8.toNat_inj.1 (by
  have e2 : c.toNat = 48 := by omega
  rw [e2]; rfl))

theorem rread_nil (w : World) : Calls Tryd.prog 21 #[.string ⟨#[]⟩] w fun e w' => e = .returned (RD []) ∧ w = w' := by
  have E : Hid (RD [] = .tuple #[.int .i64 0, .int .i64 0, .bool false]) := RD_no Wpl.rd_none
  go_enter Tryd.func21, Tryd.ntmps21
  go_wp2
  go_loopw [5, 6] (fun x y wr => x = .int .i64 0 ∧ y = .int .i64 0 ∧ wr = w) (fun _ _ _ => 0)
  case atStart => exact ⟨rfl, rfl, rfl⟩
  case round =>
    obtain ⟨rfl, rfl, rfl⟩ := hrel
    go_wp2
    go_ret3
    exact ⟨by rw [E.out]; rfl, rfl⟩

set_option maxHeartbeats 800000 in
theorem rread_no (a : UInt8) (t : List UInt8) (w : World) (hl : t.length + 1 ≤ 9223372036854775000) (h : Wpl.isL a = false) : Calls Tryd.prog 21 #[.string ⟨(a :: t).toArray⟩] w fun e w' => e = .returned (RD (a :: t)) ∧ w = w' := by
  have E : Hid (RD (a :: t) = .tuple #[.int .i64 0, .int .i64 0, .bool false]) := RD_no (Wpl.rd_no t h)
  have h' := isL_not h
  obtain ⟨b0, b1⟩ := byte_bd a
  clear h
  have hlen : (0 : Int) < (t.length : Int) + 1 := by omega
  have ea := at_eq (l := a :: t) (i := 0) (c := a) rfl
  go_enter Tryd.func21, Tryd.ntmps21
  go_wp2
  go_loopw [5, 6] (fun x y wr => x = .int .i64 0 ∧ y = .int .i64 0 ∧ wr = w) (fun _ _ _ => 0)
  case atStart => exact ⟨rfl, rfl, rfl⟩
  case round =>
    obtain ⟨rfl, rfl, rfl⟩ := hrel
    by_cases h1 : 65 ≤ (a.toNat : Int)
    · have h2 : ¬ (a.toNat : Int) ≤ 90 := by omega
      go_wp2
      go_ret3
      exact ⟨by rw [E.out]; rfl, rfl⟩
    · go_wp2
      go_ret3
      exact ⟨by rw [E.out]; rfl, rfl⟩

set_option maxHeartbeats 1600000 in
theorem rread_three (a b c : UInt8) (u : List UInt8) (w : World) (hl : u.length + 3 ≤ 9223372036854775000) (h1 : Wpl.isL a = true) (h2 : Wpl.isL b = true) (h3 : Wpl.isL c = true) : Calls Tryd.prog 21 #[.string ⟨(a :: b :: c :: u).toArray⟩] w fun e w' => e = .returned (RD (a :: b :: c :: u)) ∧ w = w' := by
  have E : Hid (RD (a :: b :: c :: u) = .tuple #[.int .i64 0, .int .i64 0, .bool false]) := RD_no (Wpl.rd_three u h1 h2 h3)
  obtain ⟨p1, q1⟩ := isL_int.1 h1
  obtain ⟨p2, q2⟩ := isL_int.1 h2
  obtain ⟨p3, q3⟩ := isL_int.1 h3
  clear h1 h2 h3
  have ea := at_eq (l := a :: b :: c :: u) (i := 0) (c := a) rfl
  have eb := at_eq (l := a :: b :: c :: u) (i := 1) (c := b) rfl
  have ec := at_eq (l := a :: b :: c :: u) (i := 2) (c := c) rfl
  have l0 : (0 : Int) < (u.length : Int) + 1 + 1 + 1 := by omega
  have l1 : (1 : Int) < (u.length : Int) + 1 + 1 + 1 := by omega
  have l2 : (2 : Int) < (u.length : Int) + 1 + 1 + 1 := by omega
  go_enter Tryd.func21, Tryd.ntmps21
  go_wp2
  go_loopw [5, 6] (fun x y wr => ∃ (k : Nat) (m : Int), k ≤ 3 ∧ x = .int .i64 k ∧ y = .int .i64 m ∧ 0 ≤ m ∧ m ≤ 100000 ∧ (k = 0 → m ≤ 0) ∧ (k = 1 → m ≤ 26) ∧ (k = 2 → m ≤ 800) ∧ wr = w) (fun x _ _ => 3 - (intOf x).toNat)
  case atStart => exact ⟨0, 0, by omega, rfl, rfl, by omega, by omega, by omega, by omega, by omega, rfl⟩
  case round =>
    obtain ⟨k, m, hk, rfl, rfl, m0, m1, k0, k1, k2, rfl⟩ := hrel
    rcases (show k = 0 ∨ k = 1 ∨ k = 2 ∨ k = 3 by omega) with rfl | rfl | rfl | rfl
    · have g : m ≤ 0 := k0 rfl
      clear k0 k1 k2
      go_wp2_with fail
      go_roundw
      case rel => exact ⟨1, 26 * m + ((a.toNat : Int) - 65) + 1, by omega, rfl, rfl, by omega, by omega, by omega, by omega, by omega, trivial⟩
      case measure => simp [intOf]
    · have g : m ≤ 26 := k1 rfl
      clear k0 k1 k2
      go_wp2_with fail
      go_roundw
      case rel => exact ⟨2, 26 * m + ((b.toNat : Int) - 65) + 1, by omega, rfl, rfl, by omega, by omega, by omega, by omega, by omega, trivial⟩
      case measure => simp [intOf]
    · have g : m ≤ 800 := k2 rfl
      clear k0 k1 k2
      go_wp2_with fail
      go_roundw
      case rel => exact ⟨3, 26 * m + ((c.toNat : Int) - 65) + 1, by omega, rfl, rfl, by omega, by omega, by omega, by omega, by omega, trivial⟩
      case measure => simp [intOf]
    · clear k0 k1 k2
      go_wp2
      all_goals
        go_ret3
        exact ⟨by rw [E.out]; rfl, rfl⟩
end Go.Proofs.YtdjhegmkmopnfaaDoor
