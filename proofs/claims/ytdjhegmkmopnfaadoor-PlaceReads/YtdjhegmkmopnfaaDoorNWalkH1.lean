/- The contract of the document's Read: one letter, and more behind. -/
import Derived.Test.YtdjhegmkmopnfaaDoorNWalkG
import Derived.Test.YtdjhegmkmopnfaaDoorNPlainD
namespace Go.Proofs.YtdjhegmkmopnfaaDoor
open Go.RowKit
set_option linter.unusedVariables false

set_option maxRecDepth 100000 in
set_option maxHeartbeats 3200000 in
theorem rread_more1 (a c : UInt8) (t : List UInt8) (w : World) (hl : t.length + 3 ≤ 9223372036854775000) (h1 : Wpl.isL a = true) (hc : Wpl.isL c = false) : Calls Tryd.prog 21 #[.string ⟨(a :: c :: t).toArray⟩] w fun e w' => e = .returned (RD (a :: c :: t)) ∧ w = w' := by
  have hn : Wpl.noL (c :: t) = true := by simp [Wpl.noL, hc]
  obtain ⟨D1, D2⟩ := Wpl.rd_one h1 hn
  have hc' := isL_not hc
  have vb0 := Wpl.vl_bd h1
  obtain ⟨p0, q0⟩ := isL_int.1 h1
  have v0 : Hid (((Wpl.vl a : Nat) : Int) = (a.toNat : Int) - 65 + 1) := by show _ = _; unfold Wpl.vl; omega
  have vi0 : 0 ≤ ((Wpl.vl a : Nat) : Int) ∧ ((Wpl.vl a : Nat) : Int) ≤ 26 := by have := Wpl.vl_bd h1; omega
  have e0 := at_eq (l := a :: c :: t) (i := 0) (c := a) rfl
  have ec := at_eq (l := a :: c :: t) (i := 1) (c := c) rfl
  obtain ⟨b0, b1⟩ := byte_bd c
  have hlen : (1 : Int) < (t.length : Int) + 1 + 1 := by omega
  have hlen0 : (0 : Int) < (t.length : Int) + 1 + 1 := by omega
  have hlen1 : (1 : Int) < (t.length : Int) + 1 + 1 := by omega
  have hne : (((t.length : Int) + 1 + 1) == 1) = false := by simp; omega
  have DD : Hid (Wpl.rdOk (a :: c :: t) = Wpl.dgOk (c :: t)) := D1
  have DR : Hid (Wpl.rc 0 (a :: c :: t) = (Wpl.vl a, c :: t)) := D2
  clear D1 D2 h1 hn hc
  have NO : Hid (Wpl.dgOk (c :: t) = false → RD (a :: c :: t) = .tuple #[.int .i64 0, .int .i64 0, .bool false]) := fun h => RD_no (by rw [DD.out, h])
  have ngc : ∀ h : 65 ≤ (c.toNat : Int), Wpl.isG c = false := fun h => by simp [Wpl.isG]; omega
  have Hg : Hid (65 ≤ (c.toNat : Int) → Wpl.dgOk (c :: t) = false) := fun h => Wpl.dg_not (fun e => by rw [e] at h; exact absurd h (by decide)) (Wpl.all_not (j := 0) rfl (ngc h))
  have Hz : Hid (c = 48 → Wpl.dgOk (c :: t) = false) := fun h => by rw [h]; exact Wpl.dg_zero t
  have Hl : Hid (5 ≤ t.length → Wpl.dgOk (c :: t) = false) := fun h => by
    by_cases e : c = 48
    · rw [e]; exact Wpl.dg_zero t
    · exact Wpl.dg_long e h
  clear ngc
  go_enter Tryd.func21, Tryd.ntmps21
  go_wp2
  go_loopw [5, 6] (fun x y wr => ∃ (k m : Nat), x = .int .i64 k ∧ y = .int .i64 m ∧ (k = 0 ∧ m = 0 ∨ k = 1 ∧ m = Wpl.vl a) ∧ wr = w) (fun x _ _ => 3 - (intOf x).toNat)
  case atStart => exact ⟨0, 0, rfl, rfl, by omega, rfl⟩
  case round =>
    obtain ⟨k, m, rfl, rfl, hst, rfl⟩ := hrel
    rcases hst with ⟨rfl, rfl⟩ | ⟨rfl, rfl⟩
    · go_wp2_with fail
      go_roundw
      case rel => exact ⟨1, Wpl.vl a, rfl, congrArg (Value.int IntKind.i64) (by have := v0.out; first | omega | (push_cast; omega)), by omega, trivial⟩
      case measure => simp [intOf]
    · by_cases hge : 65 ≤ (c.toNat : Int)
      · have hle : ¬ (c.toNat : Int) ≤ 90 := by omega
        have E := NO.out (Hg.out hge)
        have EE : Hid (RD (a :: c :: t) = .tuple #[.int .i64 0, .int .i64 0, .bool false]) := E
        clear E
        have h48 : ((c.toNat : Int) == 48) = false := by simp; omega
        have h57 : (57 : Int) < (c.toNat : Int) := by omega
        by_cases hlong : 5 ≤ t.length
        · have hL : ((1 : Int) + 5) < (t.length : Int) + 1 + 1 := by omega
          have hL2 : (6 : Int) < (t.length : Int) + 1 + 1 := by omega
          go_wp2
          go_ret3
          exact ⟨by rw [EE.out]; rfl, rfl⟩
        · have hL2 : ¬ (6 : Int) < (t.length : Int) + 1 + 1 := by omega
          go_wp2
          go_loopw [7, 8] (fun x y wq => x = .int .i64 0 ∧ y = .int .i64 1 ∧ wq = wr) (fun _ _ _ => 0)
          case atStart => exact ⟨rfl, rfl, rfl⟩
          case round =>
            obtain ⟨rfl, rfl, rfl⟩ := hrel
            go_wp2
            go_ret3
            exact ⟨by rw [EE.out]; rfl, rfl⟩
      · by_cases hlong : 5 ≤ t.length
        · have EE : Hid (RD (a :: c :: t) = .tuple #[.int .i64 0, .int .i64 0, .bool false]) := NO.out (Hl.out hlong)
          have hL2 : (6 : Int) < (t.length : Int) + 1 + 1 := by omega
          go_wp2
          go_ret3
          exact ⟨by rw [EE.out]; rfl, rfl⟩
        · have hL2 : ¬ (6 : Int) < (t.length : Int) + 1 + 1 := by omega
          by_cases h0 : c = 48
          · have EE : Hid (RD (a :: c :: t) = .tuple #[.int .i64 0, .int .i64 0, .bool false]) := NO.out (Hz.out h0)
            have h48 : ((c.toNat : Int) == 48) = true := by rw [h0]; rfl
            clear h0
            go_wp2
            go_ret3
            exact ⟨by rw [EE.out]; rfl, rfl⟩
          · have h48 : ((c.toNat : Int) == 48) = false := by simp; exact ne48 h0
            have HY : Hid (Wpl.allG (c :: t) = true → Wpl.dgOk (c :: t) = decide (Wpl.fv 0 (c :: t) ≤ 65536) ∧ (Wpl.rr (c :: t)).1 = Wpl.fv 0 (c :: t) ∧ 1 ≤ Wpl.fv 0 (c :: t)) := fun h => Wpl.dg_in h0 h (by omega)
            have HX : Hid (Wpl.allG (c :: t) = false → Wpl.dgOk (c :: t) = false) := fun h => Wpl.dg_not h0 h
            clear h0 Hg Hz Hl
            go_wp2
            go_loopw [7, 8] (fun x y wq => ∃ j : Nat, j ≤ t.length + 1 ∧ x = .int .i64 (Wpl.fv 0 ((c :: t).take j) : Nat) ∧ y = .int .i64 ((1 + j : Nat) : Int) ∧ Hid (Wpl.allG ((c :: t).take j) = true) ∧ wq = wr) (fun _ y _ => t.length + 10 - (intOf y).toNat)
            case atStart => exact ⟨0, by omega, rfl, rfl, (rfl : Wpl.allG ((c :: t).take 0) = true), rfl⟩
            case round =>
              obtain ⟨j, hj, rfl, rfl, HA, rfl⟩ := hrel
              by_cases hlt : j < t.length + 1
              · obtain ⟨d, hd⟩ : ∃ d, (c :: t)[j]? = some d := ⟨(c :: t)[j]'(by simpa using hlt), List.getElem?_eq_getElem (by simpa using hlt)⟩
                have hd2 : (a :: c :: t)[1 + j]? = some d := by rw [show 1 + j = j + 1 by omega]; exact hd
                have ed := at_eq hd2
                obtain ⟨d0, d1⟩ := byte_bd d
                have fb := Wpl.fv_five (D := c :: t) (j := j) (by omega) HA.out
                have FT : Hid (Wpl.fv 0 ((c :: t).take (j + 1)) = Wpl.fv 0 ((c :: t).take j) * 10 + (d.toNat - 48)) := Wpl.fv_take hd
                have AT : Hid (Wpl.allG ((c :: t).take (j + 1)) = (Wpl.allG ((c :: t).take j) && Wpl.isG d)) := Wpl.all_take hd
                have AN : Hid (Wpl.isG d = false → Wpl.allG (c :: t) = false) := fun h => Wpl.all_not hd h
                have z1 : ((1 : Int) + (j : Int)) < (t.length : Int) + 1 + 1 := by omega
                clear hd
                generalize Wpl.fv 0 ((c :: t).take j) = rv at *
                by_cases g1 : (d.toNat : Int) < 48
                · have EE : Hid (RD (a :: c :: t) = .tuple #[.int .i64 0, .int .i64 0, .bool false]) := NO.out (HX.out (AN.out (by simp [Wpl.isG]; omega)))
                  clear AN AT FT HA
                  go_wp2
                  go_ret3
                  exact ⟨by rw [EE.out]; rfl, rfl⟩
                by_cases g2 : 57 < (d.toNat : Int)
                · have EE : Hid (RD (a :: c :: t) = .tuple #[.int .i64 0, .int .i64 0, .bool false]) := NO.out (HX.out (AN.out (by simp [Wpl.isG]; omega)))
                  clear AN AT FT HA
                  go_wp2
                  go_ret3
                  exact ⟨by rw [EE.out]; rfl, rfl⟩
                have AT' : Hid (Wpl.allG ((c :: t).take (j + 1)) = true) := by show _ = _; rw [AT.out, HA.out]; simp [Wpl.isG]; omega
                clear AN AT HA
                go_wp2_with fail
                go_roundw
                case rel => exact ⟨j + 1, by omega, congrArg (Value.int IntKind.i64) (by rw [FT.out]; first | omega | (push_cast; omega)), congrArg (Value.int IntKind.i64) (by first | omega | (push_cast; omega)), AT', trivial⟩
                case measure => simp [intOf]; omega
              · obtain rfl : j = t.length + 1 := by omega
                have et : (c :: t).take (t.length + 1) = c :: t := List.take_of_length_le (by simp)
                rw [et] at HA ⊢
                obtain ⟨y1, y2, y3⟩ := HY.out HA.out
                have fb := Wpl.fv_five (D := c :: t) (j := t.length + 1) (by omega) (by rw [et]; exact HA.out)
                rw [et] at fb
                have z1 : ¬ ((1 : Int) + ((t.length : Int) + 1)) < (t.length : Int) + 1 + 1 := by omega
                have RY : Hid (Wpl.rdOk (a :: c :: t) = true → RD (a :: c :: t) = .tuple #[.int .i64 ((Wpl.fv 0 (c :: t) : Int) - 1), .int .i64 ((Wpl.vl a : Nat) - 1), .bool true]) := fun h => by
                  unfold RD Wpl.rdR Wpl.rdC
                  rw [h, DR.out]
                  simp only [if_true, y2]
                have RN : Hid (Wpl.rdOk (a :: c :: t) = false → RD (a :: c :: t) = .tuple #[.int .i64 0, .int .i64 0, .bool false]) := fun h => RD_no h
                rw [y1] at DD
                clear y1 y2 HY HX NO DR HA et
                generalize Wpl.fv 0 (c :: t) = rv at *
                by_cases k1 : rv ≤ 65536
                · have E := RY.out (by rw [DD.out, decide_eq_true k1])
                  have EE : Hid (RD (a :: c :: t) = .tuple #[.int .i64 ((rv : Int) - 1), .int .i64 ((Wpl.vl a : Nat) - 1), .bool true]) := E
                  clear E
                  have k2 : ¬ (65536 : Int) < (rv : Int) := by omega
                  have k3 : ¬ (256 : Int) < ((Wpl.vl a : Nat) : Int) := by omega
                  go_wp2
                  go_ret3
                  exact ⟨by rw [EE.out]; rfl, rfl⟩
                · have E := RN.out (by rw [DD.out, decide_eq_false k1])
                  have EE : Hid (RD (a :: c :: t) = .tuple #[.int .i64 0, .int .i64 0, .bool false]) := E
                  clear E
                  have k2 : (65536 : Int) < (rv : Int) := by omega
                  have k3 : ¬ (256 : Int) < ((Wpl.vl a : Nat) : Int) := by omega
                  go_wp2
                  go_ret3
                  exact ⟨by rw [EE.out]; rfl, rfl⟩
end Go.Proofs.YtdjhegmkmopnfaaDoor
