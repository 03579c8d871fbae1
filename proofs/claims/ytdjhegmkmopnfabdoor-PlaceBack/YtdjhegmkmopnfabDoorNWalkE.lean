/- The contracts of readCol, readRow, Read. -/
import Derived.Test.YtdjhegmkmopnfabDoorPWalkA
import Derived.Test.YtdjhegmkmopnfabDoorNPlainB
namespace Go.Proofs.YtdjhegmkmopnfabDoor
open Go.RowKit
set_option linter.unusedVariables false

theorem cut_one (c : UInt8) (t : List UInt8) : ByteArray.extract ⟨(c :: t).toArray⟩ 1 (t.length + 1) = ⟨t.toArray⟩ := by
  apply ByteArray.ext
  simp [ByteArray.data_extract]
theorem byte_bd (c : UInt8) : (0 : Int) ≤ (c.toNat : Int) ∧ (c.toNat : Int) ≤ 255 := by have := c.toNat_lt; omega

set_option maxHeartbeats 800000 in
theorem readCol_any (s : List UInt8) (w : World) (hs : s.length ≤ 9223372036854775807) : Calls Tryd.prog 26 #[.string ⟨s.toArray⟩] w fun e w' => e = .returned (.tuple #[.int .i64 ((Wpl.rc 0 s).1 : Nat), .string ⟨(Wpl.rc 0 s).2.toArray⟩]) ∧ w = w' := by
  go_enter Tryd.func26, Tryd.ntmps26
  go_wp2
  go_loopw [0, 2] (fun x y wr => ∃ (l : List UInt8) (k : Nat), x = .string ⟨l.toArray⟩ ∧ y = .int .i64 k ∧ k ≤ 6682 ∧ l.length ≤ 9223372036854775807 ∧ Hid (Wpl.rc 0 s = Wpl.rc k l) ∧ wr = w) (fun x _ _ => match x with | .string b => b.size | _ => 0)
  case atStart => exact ⟨s, 0, rfl, rfl, by omega, hs, (rfl : Wpl.rc 0 s = Wpl.rc 0 s), rfl⟩
  case round =>
    obtain ⟨l, k, rfl, rfl, hk, hl, HR, rfl⟩ := hrel
    cases l with
    | nil =>
      have E : Hid (Wpl.rc 0 s = (k, [])) := HR.out
      go_wp2
      go_ret2
      exact ⟨by rw [E.out]; rfl, rfl⟩
    | cons c t =>
      obtain ⟨b0, b1⟩ := byte_bd c
      simp only [List.length_cons] at hl
      by_cases h1 : 65 ≤ (c.toNat : Int)
      · by_cases h2 : (c.toNat : Int) ≤ 90
        · by_cases h3 : (k : Int) ≤ 256
          · have E : Hid (Wpl.rc 0 s = Wpl.rc (k * 26 + (c.toNat - 65) + 1) t) := by
              show _ = _; rw [HR.out]
              conv => lhs; unfold Wpl.rc
              rw [if_pos ⟨by simp [Wpl.isL]; omega, by omega⟩]
            clear HR
            go_wp2_with fail
            go_roundw
            case rel => exact ⟨t, k * 26 + (c.toNat - 65) + 1, congrArg Value.string (cut_one c t), congrArg (Value.int IntKind.i64) (by show (k : Int) * 26 + ((c.toNat : Nat) - 65) + 1 = _; omega), by omega, by omega, E, trivial⟩
            case measure => rw [cut_one]; simp [ByteArray.size]
          · have E : Hid (Wpl.rc 0 s = (k, c :: t)) := by
              show _ = _; rw [HR.out]
              conv => lhs; unfold Wpl.rc
              rw [if_neg (by omega)]
            clear HR
            go_wp2
            go_ret2
            exact ⟨by rw [E.out]; rfl, rfl⟩
        · have E : Hid (Wpl.rc 0 s = (k, c :: t)) := by
            show _ = _; rw [HR.out]
            conv => lhs; unfold Wpl.rc
            rw [if_neg (by simp [Wpl.isL]; omega)]
          clear HR
          go_wp2
          go_ret2
          exact ⟨by rw [E.out]; rfl, rfl⟩
      · have E : Hid (Wpl.rc 0 s = (k, c :: t)) := by
          show _ = _; rw [HR.out]
          conv => lhs; unfold Wpl.rc
          rw [if_neg (by simp [Wpl.isL]; omega)]
        clear HR
        go_wp2
        go_ret2
        exact ⟨by rw [E.out]; rfl, rfl⟩

theorem head_eq (c : UInt8) (t : List UInt8) : ((ByteArray.extract ⟨(c :: t).toArray⟩ 0 1).toList == [48]) = decide (c = 48) := by
  have e : ByteArray.extract ⟨(c :: t).toArray⟩ 0 1 = ⟨#[c]⟩ := by
    apply ByteArray.ext
    simp [ByteArray.data_extract]
  rw [e]
  have e2 : (⟨#[c]⟩ : ByteArray).toList = [c] := by
    simp [ByteArray.toList, ByteArray.toList.loop, ByteArray.size, ByteArray.get!]
  rw [e2]
  by_cases h : c = 48
  · subst h; rfl
  · rw [decide_eq_false h]
    simp [h]

theorem hasZero_cons (c : UInt8) (t : List UInt8) (w : World) (hs : t.length + 1 ≤ 9223372036854775807) : Calls Tryd.prog 37 #[.string ⟨(c :: t).toArray⟩, .string ⟨#[48]⟩] w fun e w' => e = .returned (.bool (decide (c = 48))) ∧ w = w' := by
  have hp := head_eq c t
  have hl1 : (1 : Int) ≤ (t.length : Int) + 1 := by omega
  have E : Hid (decide (c = 48) = ((ByteArray.extract ⟨(c :: t).toArray⟩ 0 1).toList == [48])) := hp.symm
  generalize decide (c = 48) = b at *
  go_enter Tryd.func37, Tryd.ntmps37
  go_wp2
  go_ret
  exact ⟨rfl, rfl⟩
theorem hasZero_nil (w : World) : Calls Tryd.prog 37 #[.string ⟨#[]⟩, .string ⟨#[48]⟩] w fun e w' => e = .returned (.bool false) ∧ w = w' := by
  go_enter Tryd.func37, Tryd.ntmps37
  go_wp2
  go_ret
  exact ⟨rfl, rfl⟩

set_option maxHeartbeats 800000 in
theorem readRow_any (s : List UInt8) (w : World) (hs : s.length ≤ 9223372036854775807) : Calls Tryd.prog 27 #[.string ⟨s.toArray⟩] w fun e w' => e = .returned (.tuple #[.int .i64 ((Wpl.rr s).1 : Nat), .string ⟨(Wpl.rr s).2.toArray⟩]) ∧ w = w' := by
  cases s with
  | nil =>
    have E : Hid (Wpl.rr [] = (0, [])) := (rfl : Wpl.rr [] = (0, []))
    go_enter Tryd.func27, Tryd.ntmps27
    go_wp2_with fail
    refine (hasZero_nil _).mono ?_
    rintro e w1 ⟨rfl, rfl⟩
    go_wp2
    go_loopw [0, 2] (fun x y wr => x = .string ⟨#[]⟩ ∧ y = .int .i64 0 ∧ wr = w) (fun x _ _ => 0)
    case atStart => exact ⟨rfl, rfl, rfl⟩
    case round =>
      obtain ⟨rfl, rfl, rfl⟩ := hrel
      go_wp2
      go_ret2
      exact ⟨by rw [E.out]; rfl, rfl⟩
  | cons c0 t0 =>
    have hl0 : t0.length + 1 ≤ 9223372036854775807 := by simpa using hs
    have HP := fun w => hasZero_cons c0 t0 w hl0
    by_cases h0 : c0 = 48
    · have E : Hid (Wpl.rr (c0 :: t0) = (0, c0 :: t0)) := by show _ = _; unfold Wpl.rr; rw [if_pos (by rw [h0]; rfl)]
      rw [decide_eq_true h0] at HP
      clear h0
      go_enter Tryd.func27, Tryd.ntmps27
      go_wp2_with fail
      refine (HP _).mono ?_
      rintro e w1 ⟨rfl, rfl⟩
      go_wp2
      go_ret2
      exact ⟨by rw [E.out]; rfl, rfl⟩
    · have E0 : Hid (Wpl.rr (c0 :: t0) = Wpl.rd 0 (c0 :: t0)) := by show _ = _; unfold Wpl.rr; rw [if_neg (by simpa using h0)]
      rw [decide_eq_false h0] at HP
      clear h0
      go_enter Tryd.func27, Tryd.ntmps27
      go_wp2_with fail
      refine (HP _).mono ?_
      rintro e w1 ⟨rfl, rfl⟩
      go_wp2
      go_loopw [0, 2] (fun x y wr => ∃ (l : List UInt8) (k : Nat), x = .string ⟨l.toArray⟩ ∧ y = .int .i64 k ∧ k ≤ 655369 ∧ l.length ≤ 9223372036854775807 ∧ Hid (Wpl.rr (c0 :: t0) = Wpl.rd k l) ∧ wr = w) (fun x _ _ => match x with | .string b => b.size | _ => 0)
      case atStart => exact ⟨c0 :: t0, 0, rfl, rfl, by omega, hs, E0, rfl⟩
      case round =>
        obtain ⟨l, k, rfl, rfl, hk, hl, HR, rfl⟩ := hrel
        clear hs
        cases l with
        | nil =>
          have E : Hid (Wpl.rr (c0 :: t0) = (k, [])) := HR.out
          go_wp2
          go_ret2
          exact ⟨by rw [E.out]; rfl, rfl⟩
        | cons c t =>
          obtain ⟨b0, b1⟩ := byte_bd c
          simp only [List.length_cons] at hl
          by_cases h1 : 48 ≤ (c.toNat : Int)
          · by_cases h2 : (c.toNat : Int) ≤ 57
            · by_cases h3 : (k : Int) ≤ 65536
              · have E : Hid (Wpl.rr (c0 :: t0) = Wpl.rd (k * 10 + (c.toNat - 48)) t) := by
                  show _ = _; rw [HR.out]
                  conv => lhs; unfold Wpl.rd
                  rw [if_pos ⟨by simp [Wpl.isG]; omega, by omega⟩]
                clear HR
                go_wp2_with fail
                go_roundw
                case rel => exact ⟨t, k * 10 + (c.toNat - 48), congrArg Value.string (cut_one c t), congrArg (Value.int IntKind.i64) (by show (k : Int) * 10 + ((c.toNat : Nat) - 48) = _; omega), by omega, by omega, E, trivial⟩
                case measure => rw [cut_one]; simp [ByteArray.size]
              · have E : Hid (Wpl.rr (c0 :: t0) = (k, c :: t)) := by
                  show _ = _; rw [HR.out]
                  conv => lhs; unfold Wpl.rd
                  rw [if_neg (by omega)]
                clear HR
                go_wp2
                go_ret2
                exact ⟨by rw [E.out]; rfl, rfl⟩
            · have E : Hid (Wpl.rr (c0 :: t0) = (k, c :: t)) := by
                show _ = _; rw [HR.out]
                conv => lhs; unfold Wpl.rd
                rw [if_neg (by simp [Wpl.isG]; omega)]
              clear HR
              go_wp2
              go_ret2
              exact ⟨by rw [E.out]; rfl, rfl⟩
          · have E : Hid (Wpl.rr (c0 :: t0) = (k, c :: t)) := by
              show _ = _; rw [HR.out]
              conv => lhs; unfold Wpl.rd
              rw [if_neg (by simp [Wpl.isG]; omega)]
            clear HR
            go_wp2
            go_ret2
            exact ⟨by rw [E.out]; rfl, rfl⟩

set_option maxHeartbeats 800000 in
theorem x3_read_any (s : List UInt8) (w : World) (hs : s.length ≤ 9223372036854775807) :
    Calls Tryd.prog 11 #[.string ⟨s.toArray⟩] w fun e w' => e = .returned (.tuple #[.int .i64 (Wpl.rdR s), .int .i64 (Wpl.rdC s), .bool (Wpl.rdOk s)]) ∧ Below w.heap.size w w' := by
  have C1 := fun w => readCol_any s w hs
  have l1 := Wpl.rc_len 0 s
  have C2 := fun w => readRow_any (Wpl.rc 0 s).2 w (by omega)
  have bc := Wpl.rc_bd 0 s (by omega)
  have br := Wpl.rr_bd (Wpl.rc 0 s).2
  have EO : Hid (Wpl.rdOk s = decide ((Wpl.rr (Wpl.rc 0 s).2).2 = [] ∧ 1 ≤ (Wpl.rr (Wpl.rc 0 s).2).1 ∧ (Wpl.rr (Wpl.rc 0 s).2).1 ≤ 65536 ∧ 1 ≤ (Wpl.rc 0 s).1 ∧ (Wpl.rc 0 s).1 ≤ 256)) := (rfl : Wpl.rdOk s = _)
  have ER : Hid (Wpl.rdR s = if Wpl.rdOk s then ((Wpl.rr (Wpl.rc 0 s).2).1 : Int) - 1 else 0) := (rfl : Wpl.rdR s = _)
  have EC : Hid (Wpl.rdC s = if Wpl.rdOk s then ((Wpl.rc 0 s).1 : Int) - 1 else 0) := (rfl : Wpl.rdC s = _)
  generalize Wpl.rdOk s = ok at *
  generalize Wpl.rdR s = R at *
  generalize Wpl.rdC s = C at *
  generalize Wpl.rr (Wpl.rc 0 s).2 = q at *
  generalize Wpl.rc 0 s = p at *
  obtain ⟨k, d⟩ := p
  obtain ⟨m, r⟩ := q
  simp only at *
  have RR := fun w => x3_right_any 0 ((m : Int) - 1) ((k : Int) - 1) w
  have hr : Hid (Wpl.rightC 0 ((m : Int) - 1) ((k : Int) - 1) = decide (1 ≤ m ∧ m ≤ 65536 ∧ 1 ≤ k ∧ k ≤ 256)) := by
    show _ = _
    rw [Bool.eq_iff_iff, Wpl.rightC_iff]; simp; omega
  rw [hr.out] at RR
  clear hr l1
  go_enter Tryd.func11, Tryd.ntmps11
  go_wp2_with fail
  refine (C1 _).mono ?_
  rintro e w1 ⟨rfl, rfl⟩
  go_wp2_with fail
  refine (C2 _).mono ?_
  rintro e w2 ⟨rfl, rfl⟩
  cases r with
  | cons x t =>
    have E : Hid (ok = false) := by show _ = _; rw [EO.out]; simp
    go_wp2
    go_ret3
    exact ⟨by rw [E.out, ER.out, EC.out, E.out]; rfl, by with_reducible repeat (first | exact Below.refl _ _ | refine x3_below_drewN ?_ _ | refine Below.setCell ?_ (by first | (simp; done) | (simp; omega) | omega) _ | refine Below.drew ?_ | refine x3_below_end ?_ (by assumption) | refine x3_ball ?_ _)⟩
  | nil =>
    by_cases hk : 1 ≤ m ∧ m ≤ 65536 ∧ 1 ≤ k ∧ k ≤ 256
    · have E : Hid (ok = true) := by show _ = _; rw [EO.out]; simp; omega
      rw [decide_eq_true hk] at RR
      go_wp2_with fail
      refine (RR _).mono ?_
      rintro e w3 ⟨rfl, hb3⟩
      have pC : AtL w3 w.heap.size [.int .i64 0, .int .i64 ((m : Int) - 1), .int .i64 ((k : Int) - 1)] := AtL.below hb3 (AtL.new0 w 23 _)
      have hB3 : Below w.heap.size w w3 := by with_reducible repeat (first | exact Below.refl _ _ | refine x3_below_drewN ?_ _ | refine Below.setCell ?_ (by first | (simp; done) | (simp; omega) | omega) _ | refine Below.drew ?_ | refine x3_below_end ?_ (by assumption) | refine x3_ball ?_ _)
      clear hb3
      obtain ⟨c0, c1, c2⟩ := pC.f3
      go_wp2_with fail
      go_region
      all_goals
        go_wp2
        go_ret3
        exact ⟨by rw [E.out, ER.out, EC.out, E.out]; rfl, by with_reducible repeat (first | exact Below.refl _ _ | refine x3_below_drewN ?_ _ | refine Below.setCell ?_ (by first | (simp; done) | (simp; omega) | omega) _ | refine Below.drew ?_ | refine x3_below_end ?_ (by assumption) | refine x3_ball ?_ _)⟩
    · have E : Hid (ok = false) := by show _ = _; rw [EO.out]; simp; omega
      rw [decide_eq_false hk] at RR
      go_wp2_with fail
      refine (RR _).mono ?_
      rintro e w3 ⟨rfl, hb3⟩
      go_wp2
      go_ret3
      exact ⟨by rw [E.out, ER.out, EC.out, E.out]; rfl, by with_reducible repeat (first | exact Below.refl _ _ | refine x3_below_drewN ?_ _ | refine Below.setCell ?_ (by first | (simp; done) | (simp; omega) | omega) _ | refine Below.drew ?_ | refine x3_below_end ?_ (by assumption) | refine x3_ball ?_ _)⟩
end Go.Proofs.YtdjhegmkmopnfabDoor
