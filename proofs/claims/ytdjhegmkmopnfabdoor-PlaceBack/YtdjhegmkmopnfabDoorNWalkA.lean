/- The contracts of Col, Name, NameArea, and of the document's own. -/
import Derived.Test.YtdjhegmkmopnfabDoorPWalkR
import Derived.Test.YtdjhegmkmopnfabDoorNPlain
import Derived.Test.YtdjhegmkmopnfabDoorPWalkE
import Derived.Lib.Slices
import Derived.Laws.IdiomStrings
namespace Go.Proofs.YtdjhegmkmopnfabDoor
open Go.RowKit
set_option linter.unusedVariables false

theorem letter_all : ∀ k : Fin 26, Utf8.encode ((((⟨#[65, 66, 67, 68, 69, 70, 71, 72, 73, 74, 75, 76, 77, 78, 79, 80, 81, 82, 83, 84, 85, 86, 87, 88, 89, 90]⟩ : ByteArray)[k.val]'(by have := k.isLt; exact this)).toNat : Nat) : Int) = ⟨#[UInt8.ofNat (65 + k.val)]⟩ := by decide +kernel
theorem letter_enc {k : Nat} (h : k < 26) (h' : k < (⟨#[65, 66, 67, 68, 69, 70, 71, 72, 73, 74, 75, 76, 77, 78, 79, 80, 81, 82, 83, 84, 85, 86, 87, 88, 89, 90]⟩ : ByteArray).size) : Utf8.encode ((((⟨#[65, 66, 67, 68, 69, 70, 71, 72, 73, 74, 75, 76, 77, 78, 79, 80, 81, 82, 83, 84, 85, 86, 87, 88, 89, 90]⟩ : ByteArray)[k]'h').toNat : Nat) : Int) = ⟨#[UInt8.ofNat (65 + k)]⟩ := letter_all ⟨k, h⟩
theorem x3_app_mk (a b : List UInt8) : ((⟨a.toArray⟩ : ByteArray) ++ (⟨b.toArray⟩ : ByteArray)) = ⟨(a ++ b).toArray⟩ := by
  apply ByteArray.ext
  rw [ByteArray.data_append]
  simp
theorem app_one (c : UInt8) (b : List UInt8) : ((⟨#[c]⟩ : ByteArray) ++ (⟨b.toArray⟩ : ByteArray)) = ⟨(c :: b).toArray⟩ := x3_app_mk [c] b

set_option maxRecDepth 100000 in
set_option maxHeartbeats 800000 in
theorem col_any (n : Int) (w : World) : Calls Tryd.prog 13 #[.int .i64 n] w fun e w' => e = .returned (.string ⟨(Wpl.colS n).toArray⟩) ∧ Below w.heap.size w w' := by
  have B := fun w => below_any n 256 w
  cases h : Wpl.inB n 256 with
  | false =>
    have E : Hid (Wpl.colS n = []) := by show _ = _; unfold Wpl.colS; rw [h]; rfl
    rw [h] at B; clear h
    go_enter Tryd.func13, Tryd.ntmps13
    go_wp2_with fail
    refine (B _).mono ?_
    rintro e w1 ⟨rfl, rfl⟩
    go_wp2
    go_ret
    exact ⟨by rw [E.out]; rfl, by with_reducible repeat (first | exact Below.refl _ _ | refine x3_below_drewN ?_ _ | refine Below.setCell ?_ (by first | (simp; done) | (simp; omega) | omega) _ | refine Below.drew ?_ | refine x3_below_end ?_ (by assumption) | refine x3_ball ?_ _)⟩
  | true =>
    have hn := Wpl.inB_iff.1 h
    have E : Hid (Wpl.colS n = Wpl.colT n.toNat) := by show _ = _; unfold Wpl.colS; rw [h]; rfl
    rw [h] at B; clear h
    obtain ⟨m, rfl⟩ := Int.eq_ofNat_of_zero_le hn.1
    rw [Int.toNat_natCast] at E
    have hm : m < 256 := by omega
    go_enter Tryd.func13, Tryd.ntmps13
    go_wp2_with fail
    refine (B _).mono ?_
    rintro e w1 ⟨rfl, rfl⟩
    go_wp2_with fail
    go_loopw [0, 3] (fun x y wr => ∃ (k : Int) (l : List UInt8), x = .int .i64 k ∧ -1 ≤ k ∧ k < 256 ∧ y = .string ⟨l.toArray⟩ ∧ l.length ≤ 2 ∧ Hid (Wpl.colT m = (if k < 0 then [] else Wpl.colT k.toNat) ++ l ∧ (0 ≤ k → l.length = 0 ∨ l.length = 1 ∧ k < 26)) ∧ wr = w) (fun x _ _ => (intOf x + 1).toNat)
    case atStart => exact ⟨m, [], rfl, by omega, by omega, rfl, by simp, (⟨by rw [if_neg (by omega), Int.toNat_natCast, List.append_nil], fun _ => Or.inl rfl⟩ : Wpl.colT m = (if (m : Int) < 0 then [] else Wpl.colT (m : Int).toNat) ++ [] ∧ _), rfl⟩
    case round =>
      obtain ⟨k, l, rfl, hk0, hk1, rfl, hl, HI, rfl⟩ := hrel
      by_cases hk : 0 ≤ k
      · obtain ⟨j, rfl⟩ := Int.eq_ofNat_of_zero_le hk
        have h26' : j % 26 < 26 := by omega
        obtain ⟨i1, i2⟩ := HI.out
        rw [if_neg (by omega), Int.toNat_natCast] at i1
        have i3 := i2 (by omega)
        have hl2 : l.length ≤ 1 := by omega
        have HI' : Hid (Wpl.colT m = (if (j : Int) / 26 - 1 < 0 then [] else Wpl.colT ((j : Int) / 26 - 1).toNat) ++ (UInt8.ofNat (65 + j % 26) :: l) ∧ (0 ≤ (j : Int) / 26 - 1 → (UInt8.ofNat (65 + j % 26) :: l).length = 0 ∨ (UInt8.ofNat (65 + j % 26) :: l).length = 1 ∧ (j : Int) / 26 - 1 < 26)) := by
          refine (⟨?_, ?_⟩ : _ ∧ _)
          · rw [i1]
            by_cases h26 : j < 26
            · rw [if_pos (by omega)]
              unfold Wpl.colT
              rw [if_pos h26, Nat.mod_eq_of_lt h26]
              rfl
            · rw [if_neg (by omega)]
              have e : ((j : Int) / 26 - 1).toNat = j / 26 - 1 := by omega
              rw [e]
              unfold Wpl.colT
              rw [if_neg h26, if_pos (by omega)]
              rfl
          · intro h
            right
            refine ⟨?_, by omega⟩
            rcases i3 with h0 | ⟨_, h1⟩
            · rw [List.length_cons, h0]
            · omega
        clear HI i1 i2 i3
        have hj : (j : Int) < 256 := hk1
        go_wp2_with fail
        case isTrue =>
          rename_i hx
          exfalso
          rw [letter_enc h26'] at hx
          have : (⟨#[UInt8.ofNat (65 + j % 26)]⟩ : ByteArray).size = 1 := rfl
          omega
        go_roundw
        case rel => exact ⟨(j : Int) / 26 - 1, UInt8.ofNat (65 + j % 26) :: l, rfl, by omega, by omega, by rw [letter_enc h26']; exact congrArg Value.string (app_one _ l), by simp; omega, HI', trivial⟩
        case measure => simp [intOf]; omega
      · have e : Wpl.colT m = l := by have := HI.out.1; rw [if_pos (by omega)] at this; exact this
        have EE : Hid (Wpl.colT m = l) := e
        clear e HI
        go_wp2
        go_ret
        exact ⟨by rw [E.out, EE.out]; rfl, Below.refl _ _⟩
end Go.Proofs.YtdjhegmkmopnfabDoor
