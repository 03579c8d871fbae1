/- The contract of the document's Read: one letter, two letters. -/
import Derived.Test.YtdjhegmkmopnfaaDoorNWalkF
namespace Go.Proofs.YtdjhegmkmopnfaaDoor
open Go.RowKit
set_option linter.unusedVariables false

set_option maxHeartbeats 1600000 in
theorem rread_end1 (a : UInt8) (w : World) (h1 : Wpl.isL a = true) : Calls Tryd.prog 21 #[.string ⟨(a :: []).toArray⟩] w fun e w' => e = .returned (RD (a :: [])) ∧ w = w' := by
  have hn : Wpl.noL [] = true := rfl
  have E : Hid (RD (a :: []) = .tuple #[.int .i64 0, .int .i64 0, .bool false]) := RD_no (by rw [(Wpl.rd_one h1 hn).1, Wpl.dg_nil])
  obtain ⟨p0, q0⟩ := isL_int.1 h1
  have v0 : Hid (((Wpl.vl a : Nat) : Int) = (a.toNat : Int) - 65 + 1) := by show _ = _; unfold Wpl.vl; omega
  have vi0 : 0 ≤ ((Wpl.vl a : Nat) : Int) ∧ ((Wpl.vl a : Nat) : Int) ≤ 26 := by have := Wpl.vl_bd h1; omega
  have e0 := at_eq (l := a :: []) (i := 0) (c := a) rfl
  clear h1 hn
  go_enter Tryd.func21, Tryd.ntmps21
  go_wp2
  go_loopw [5, 6] (fun x y wr => ∃ (k m : Nat), x = .int .i64 k ∧ y = .int .i64 m ∧ (k = 0 ∧ m = 0 ∨ k = 1 ∧ m = Wpl.vl a) ∧ wr = w) (fun x _ _ => 3 - (intOf x).toNat)
  case atStart => exact ⟨0, 0, rfl, rfl, by omega, rfl⟩
  case round =>
    obtain ⟨k, m, rfl, rfl, hst, rfl⟩ := hrel
    rcases hst with ⟨rfl, rfl⟩ | ⟨rfl, rfl⟩
    · go_wp2_with fail
      go_roundw
      case rel => exact ⟨1, Wpl.vl a, rfl, congrArg (Value.int IntKind.i64) (by have := v0.out; first | omega | (push_cast; omega)), by omega, trivial⟩
      case measure => simp [intOf]
    · go_wp2
      go_ret3
      exact ⟨by rw [E.out]; rfl, rfl⟩

set_option maxHeartbeats 1600000 in
theorem rread_end2 (a b : UInt8) (w : World) (h1 : Wpl.isL a = true) (h2 : Wpl.isL b = true) : Calls Tryd.prog 21 #[.string ⟨(a :: b :: []).toArray⟩] w fun e w' => e = .returned (RD (a :: b :: [])) ∧ w = w' := by
  have hn : Wpl.noL [] = true := rfl
  have E : Hid (RD (a :: b :: []) = .tuple #[.int .i64 0, .int .i64 0, .bool false]) := RD_no (by rw [(Wpl.rd_two h1 h2 hn).1, Wpl.dg_nil]; simp)
  obtain ⟨p0, q0⟩ := isL_int.1 h1
  have v0 : Hid (((Wpl.vl a : Nat) : Int) = (a.toNat : Int) - 65 + 1) := by show _ = _; unfold Wpl.vl; omega
  have vi0 : 0 ≤ ((Wpl.vl a : Nat) : Int) ∧ ((Wpl.vl a : Nat) : Int) ≤ 26 := by have := Wpl.vl_bd h1; omega
  have e0 := at_eq (l := a :: b :: []) (i := 0) (c := a) rfl
  obtain ⟨p1, q1⟩ := isL_int.1 h2
  have v1 : Hid (((Wpl.vl b : Nat) : Int) = (b.toNat : Int) - 65 + 1) := by show _ = _; unfold Wpl.vl; omega
  have vi1 : 0 ≤ ((Wpl.vl b : Nat) : Int) ∧ ((Wpl.vl b : Nat) : Int) ≤ 26 := by have := Wpl.vl_bd h2; omega
  have e1 := at_eq (l := a :: b :: []) (i := 1) (c := b) rfl
  clear h1 h2 hn
  go_enter Tryd.func21, Tryd.ntmps21
  go_wp2
  go_loopw [5, 6] (fun x y wr => ∃ (k m : Nat), x = .int .i64 k ∧ y = .int .i64 m ∧ (k = 0 ∧ m = 0 ∨ k = 1 ∧ m = Wpl.vl a ∨ k = 2 ∧ m = Wpl.vl a * 26 + Wpl.vl b) ∧ wr = w) (fun x _ _ => 3 - (intOf x).toNat)
  case atStart => exact ⟨0, 0, rfl, rfl, by omega, rfl⟩
  case round =>
    obtain ⟨k, m, rfl, rfl, hst, rfl⟩ := hrel
    rcases hst with ⟨rfl, rfl⟩ | ⟨rfl, rfl⟩ | ⟨rfl, rfl⟩
    · go_wp2_with fail
      go_roundw
      case rel => exact ⟨1, Wpl.vl a, rfl, congrArg (Value.int IntKind.i64) (by have := v0.out; have := v1.out; first | omega | (push_cast; omega)), by omega, trivial⟩
      case measure => simp [intOf]
    · go_wp2_with fail
      go_roundw
      case rel => exact ⟨2, Wpl.vl a * 26 + Wpl.vl b, rfl, congrArg (Value.int IntKind.i64) (by have := v0.out; have := v1.out; first | omega | (push_cast; omega)), by omega, trivial⟩
      case measure => simp [intOf]
    · go_wp2
      go_ret3
      exact ⟨by rw [E.out]; rfl, rfl⟩
end Go.Proofs.YtdjhegmkmopnfaaDoor
