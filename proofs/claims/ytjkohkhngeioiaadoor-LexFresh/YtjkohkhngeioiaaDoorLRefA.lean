/- The reference: digit, letter, digits, begins, faults. -/
import Derived.Test.YtjkohkhngeioiaaDoorLName
import Derived.Test.YtjkohkhngeioiaaDoorLSize
import Derived.Deep.LoopGhost
namespace Go.Proofs.YtjkohkhngeioiaaDoor
open Go.RowKit
set_option linter.unusedVariables false

theorem rdigit_any (c : UInt8) (w : World) : Calls Tryd.prog 34 #[.int .u8 ((c.toNat : Nat) : Int)] w fun e w' => e = .returned (.bool (Wlx.dig c)) ∧ w = w' := by
  unfold Wlx.dig
  have hb := byte_bd c
  generalize ((c.toNat : Nat) : Int) = r at *
  go_enter Tryd.func34, Tryd.ntmps34
  by_cases a : 48 ≤ r
  · go_wp2
    go_ret
    exact ⟨ret_bool (by first | rfl | (simp; done) | (simp; omega)), rfl⟩
  · go_wp2
    go_ret
    exact ⟨ret_bool (by first | rfl | (simp; done) | (simp; omega)), rfl⟩
theorem rletter_any (c : UInt8) (w : World) : Calls Tryd.prog 37 #[.int .u8 ((c.toNat : Nat) : Int)] w fun e w' => e = .returned (.bool (Wlx.cap c || Wlx.low c)) ∧ w = w' := by
  unfold Wlx.cap Wlx.low
  have hb := byte_bd c
  generalize ((c.toNat : Nat) : Int) = r at *
  have hU : undef = Value.tuple #[] := rfl
  go_enter Tryd.func37, Tryd.ntmps37
  by_cases a : 65 ≤ r
  · by_cases b : r ≤ 90
    · have a3 : ¬ 97 ≤ r := by omega
      go_wp2
      go_ret
      exact ⟨ret_bool (by first | rfl | (simp; done) | (simp; omega)), rfl⟩
    · by_cases d : 97 ≤ r
      · go_wp2
        go_ret
        exact ⟨ret_bool (by first | rfl | (simp; done) | (simp; omega)), rfl⟩
      · go_wp2
        go_ret
        exact ⟨ret_bool (by first | rfl | (simp; done) | (simp; omega)), rfl⟩
  · have d : ¬ 97 ≤ r := by omega
    go_wp2
    go_ret
    exact ⟨ret_bool (by first | rfl | (simp; done) | (simp; omega)), rfl⟩

theorem rdigits_any (b : ByteArray) (q : Nat) (w : World) (hq : q ≤ b.size) (hs : b.size ≤ 1024) : Calls Tryd.prog 35 #[.string b, .int .i64 q] w fun e w' => e = .returned (.int .i64 ((q + Wlx.runP Wlx.dig (b.data.toList.drop q) : Nat) : Int)) ∧ w = w' := by
  obtain ⟨R, hR⟩ : ∃ R, q + Wlx.runP Wlx.dig (b.data.toList.drop q) = R := ⟨_, rfl⟩
  have E0 : Hid (R = q + Wlx.runP Wlx.dig (b.data.toList.drop q)) := hR.symm
  rw [hR]
  clear hR
  go_enter Tryd.func35, Tryd.ntmps35
  go_wp2_with fail
  go_loopg [1] (b.size - q) (fun gk x wr => ∃ j : Nat, x = .int .i64 j ∧ gk = b.size - j ∧ j ≤ b.size ∧ Hid (R = j + Wlx.runP Wlx.dig (b.data.toList.drop j)) ∧ wr = w)
  case atStart => exact ⟨q, rfl, rfl, hq, E0, rfl⟩
  case round =>
    obtain ⟨j, rfl, hg, hj, HR, rfl⟩ := hrel
    by_cases hlt : j < b.size
    · have hli : (j : Int) < (b.size : Int) := by omega
      have D := rdigit_any (b[j]) wr
      have hd := drop_at b j hlt
      cases hdg : Wlx.dig (b[j]) with
      | true =>
        have E : Hid (R = (j + 1) + Wlx.runP Wlx.dig (b.data.toList.drop (j + 1))) := by
          show _ = _; rw [HR.out, hd, Wlx.runP_pos hdg]; omega
        rw [hdg] at D
        clear HR hd hdg
        go_wp2_with fail
        refine D.mono ?_
        rintro e w1 ⟨rfl, rfl⟩
        go_wp2_with fail
        go_roundg (b.size - (j + 1))
        case rel => exact ⟨j + 1, by simp, rfl, hlt, E, by first | trivial | rfl⟩
        case measure => omega
      | false =>
        have E : Hid (R = j) := by show _ = _; rw [HR.out, hd, Wlx.runP_neg hdg]; rfl
        rw [hdg] at D
        clear HR hd hdg
        go_wp2_with fail
        refine D.mono ?_
        rintro e w1 ⟨rfl, rfl⟩
        go_wp2
        go_ret
        exact ⟨by rw [E.out]; rfl, by first | trivial | rfl⟩
    · have hli : ¬ (j : Int) < (b.size : Int) := by omega
      have E : Hid (R = j) := by show _ = _; rw [HR.out, drop_end b j hlt]; rfl
      clear HR
      go_wp2
      go_ret
      exact ⟨by rw [E.out]; rfl, by first | trivial | rfl⟩

theorem rbegins_any (b p : ByteArray) (q : Nat) (w : World) (hq : q ≤ b.size) (hs : b.size ≤ 1024) (hp : p.size ≤ 100) : Calls Tryd.prog 39 #[.string b, .int .i64 q, .string p] w fun e w' => e = .returned (.bool (Wlx.begins p.data.toList (b.data.toList.drop q))) ∧ w = w' := by
  have E : Hid (Wlx.begins p.data.toList (b.data.toList.drop q) = (decide (p.size ≤ b.size - q) && ((b.extract q (q + p.size)).toList == p.toList))) := by
    show _ = _
    rw [begins_take, Lib.extract_toList, Lib.toList_data, List.length_drop, Nat.add_sub_cancel_left]
    rfl
  by_cases h : p.size ≤ b.size - q
  · have E2 : Hid (Wlx.begins p.data.toList (b.data.toList.drop q) = ((b.extract q (q + p.size)).toList == p.toList)) := by
      show _ = _; rw [E.out, decide_eq_true h]; rfl
    clear E
    have h1 : (p.size : Int) ≤ (b.size : Int) - (q : Int) := by omega
    have h2 : (q : Int) ≤ (q : Int) + (p.size : Int) := by omega
    have h3 : (q : Int) + (p.size : Int) ≤ (b.size : Int) := by omega
    generalize Wlx.begins p.data.toList (b.data.toList.drop q) = r at *
    go_enter Tryd.func39, Tryd.ntmps39
    go_wp2
    go_ret
    exact ⟨by rw [E2.out]; rfl, rfl⟩
  · have E2 : Hid (Wlx.begins p.data.toList (b.data.toList.drop q) = false) := by
      show _ = _; rw [E.out, decide_eq_false h]; rfl
    clear E
    have h1 : ¬ (p.size : Int) ≤ (b.size : Int) - (q : Int) := by omega
    generalize Wlx.begins p.data.toList (b.data.toList.drop q) = r at *
    go_enter Tryd.func39, Tryd.ntmps39
    go_wp2
    go_ret
    exact ⟨by rw [E2.out]; rfl, rfl⟩
theorem rfaults_any (w : World) : Calls Tryd.prog 38 #[] w fun e w' => e = .returned (.slice (some ⟨w.heap.size, 0, none⟩) 8 8) ∧ w' = w.alloc (.cells (strs Wlx.faults).toArray 9) := by
  go_enter Tryd.func38, Tryd.ntmps38
  go_wp2
  go_ret
  exact ⟨rfl, rfl⟩
end Go.Proofs.YtjkohkhngeioiaaDoor
