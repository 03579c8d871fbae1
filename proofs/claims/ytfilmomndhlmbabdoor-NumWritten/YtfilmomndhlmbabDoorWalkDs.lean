/- The contract of decimals. -/
import Derived.Test.YtfilmomndhlmbabDoorWalkDc
import Derived.Shelf.Strings.Builder1
import Derived.Ground.NamesProg
namespace Go.Proofs.YtfilmomndhlmbabDoor
open Go.Shelf Go.RowKit
set_option linter.unusedVariables false

def lays169_ren : Go.Shelf.Ren := ⟨fun | 169 => 34 | n => n, fun | 70 => 52 | 9 => 9 | 0 => 0 | 72 => 55 | 37 => 53 | 127 => 65 | 3 => 3 | 5 => 5 | n => n, fun | n => n⟩
theorem lays169 : Go.Proofs.Lays.n169 Tryd.prog lays169_ren := {
  mixed := by kernel_rfl
  f169 := Tryd.func34.trans (congrArg some (by kernel_rfl))
  t0 := Tryd.underlying0
  a0 := Tryd.isAgg0
  z0 := Tryd.sizeOf0
  v0 := Tryd.zeroValue0
  t3 := Tryd.underlying3
  a3 := Tryd.isAgg3
  z3 := Tryd.sizeOf3
  v3 := Tryd.zeroValue3
  t9 := Tryd.underlying9
  a9 := Tryd.isAgg9
  z9 := Tryd.sizeOf9
  v9 := Tryd.zeroValue9
  t37 := Tryd.underlying53
  a37 := Tryd.isAgg53
  z37 := Tryd.sizeOf53
  v37 := Tryd.zeroValue53
  t70 := Tryd.underlying52
  a70 := Tryd.isAgg52
  z70 := Tryd.sizeOf52
  v70 := Tryd.zeroValue52
  t72 := Tryd.underlying55
  a72 := Tryd.isAgg55
  z72 := Tryd.sizeOf55
  v72 := Tryd.zeroValue55
  t127 := Tryd.underlying65
  a127 := Tryd.isAgg65
  z127 := Tryd.sizeOf65
  v127 := Tryd.zeroValue65 }

theorem extra169 : Builder.Extra Tryd.prog lays169_ren := {
  sizeBuilder := by kernel_rfl
  liesBuilder := by kernel_rfl
  t5 := Tryd.underlying5
  a5 := Tryd.isAgg5
  z5 := Tryd.sizeOf5
  v5 := Tryd.zeroValue5
  infoByte := by kernel_rfl
  cellsByte := by kernel_rfl
  sizeByte := by kernel_rfl
  neB5 := by decide }
theorem bstring (B b : Nat) (l : List UInt8) (w : World) (h : Lib.IsBuilder 55 5 B b (Lib.byteCells l) w) (hBw : B ≤ w.heap.size) :
    Calls Tryd.prog 34 #[.pointer (some ⟨b, 0, none⟩)] w fun e w' => e = .returned (.string ⟨l.toArray⟩) ∧ Below B w w' := Any.Builder_String_any lays169 extra169 B b l w h hBw

theorem q_byte {q : Nat} (h : q ≤ 9) : (((UInt8.ofNat (48 + q)).toNat : Nat) : Int) = 48 + (q : Int) := by
  have e : (UInt8.ofNat (48 + q)).toNat = 48 + q := by
    rw [UInt8.toNat_ofNat']
    exact Nat.mod_eq_of_lt (by omega)
  rw [e]; omega

set_option maxHeartbeats 1600000 in
theorem decimals_any (r d : Nat) (w : World) (hd : 0 < d) (hd2 : d ≤ 1000000) (hr : r < d) (hm : 1000000 % d = 0) :
    Calls Tryd.prog 19 #[.int .i64 (r : Int), .int .i64 (d : Int)] w fun e w' => e = .returned (.string ⟨(Wnum.decs d 6 r).toArray⟩) ∧ Below w.heap.size w w' := by
  have d0 : ¬ (d : Int) = 0 := by omega
  have EM : Hid (r * 10 ^ 6 % d = 0) := Wnum.ends_six hm
  clear hm
  go_enter Tryd.func19, Tryd.ntmps19
  go_wp2_with fail
  go_loopw [0] (fun x wr => ∃ (k r1 : Nat) (l : List UInt8), x = .int .i64 (r1 : Int) ∧ r1 < d ∧ k ≤ 6 ∧ Hid (r1 * 10 ^ k % d = 0) ∧ Hid (Wnum.decs d 6 r = l ++ Wnum.decs d k r1) ∧ l.length + k ≤ 6 ∧ Lib.IsBuilder 55 5 w.heap.size w.heap.size (Lib.byteCells l) wr ∧ Below w.heap.size w wr) (fun x _ => Wnum.fu d 6 (intOf x).toNat)
  case atStart => exact ⟨6, r, [], rfl, hr, Nat.le_refl _, EM, (rfl : Wnum.decs d 6 r = [] ++ Wnum.decs d 6 r), by simp, Lib.fresh_isBuilder 55 5 w, (Below.refl _ w).alloc (Nat.le_refl _) _⟩
  case round =>
    obtain ⟨k, r1, l, rfl, h1, hk, HE, HD, hl, hI, qB⟩ := hrel
    have s1 := qB.size
    by_cases h0 : r1 = 0
    · have E : Hid (Wnum.decs d 6 r = l) := by show _ = _; rw [HD.out, h0, Wnum.decs_zero, List.append_nil]
      have r0 : ((r1 : Int) != 0) = false := by simp [h0]
      clear h0
      go_wp2_with fail
      refine (bstring _ _ l _ hI s1).mono ?_
      rintro e w2 ⟨rfl, hb2⟩
      go_wp2
      go_ret
      exact ⟨by rw [E.out]; rfl, qB.trans hb2⟩
    · obtain ⟨k', rfl⟩ : ∃ k', k = k' + 1 := by
        cases k with
        | zero => exact absurd (Wnum.ends_zero h1 HE.out) h0
        | succ k' => exact ⟨k', rfl⟩
      have hq : r1 * 10 / d ≤ 9 := by
        have : r1 * 10 / d < 10 := (Nat.div_lt_iff_lt_mul hd).2 (by omega)
        omega
      have e1 : (r1 : Int) * 10 / (d : Int) = ((r1 * 10 / d : Nat) : Int) := by rw [Int.natCast_ediv, Int.natCast_mul]; rfl
      have e2 : (r1 : Int) * 10 % (d : Int) = ((r1 * 10 % d : Nat) : Int) := by rw [Int.natCast_emod, Int.natCast_mul]; rfl
      have L : Hid (Wnum.fu d 6 (r1 * 10 % d) < Wnum.fu d 6 r1) := Wnum.fu_less hd h1 h0 hk HE.out
      have HE2 : Hid (r1 * 10 % d * 10 ^ k' % d = 0) := Wnum.ends_step HE.out
      have lt2 : r1 * 10 % d < d := Nat.mod_lt _ hd
      have HD2 : Hid (Wnum.decs d 6 r = (l ++ [UInt8.ofNat (48 + r1 * 10 / d)]) ++ Wnum.decs d k' (r1 * 10 % d)) := by
        show _ = _
        rw [HD.out, Wnum.decs_more h0, List.append_assoc]; rfl
      have hb := q_byte hq
      have r0 : ((r1 : Int) != 0) = true := by rw [bne_iff_ne]; omega
      generalize r1 * 10 / d = q at *
      generalize hr2 : r1 * 10 % d = r2 at *
      clear hr2 HE HD
      have ec : Lib.byteCells l ++ [Value.int .u8 (48 + (q : Int))] = Lib.byteCells (l ++ [UInt8.ofNat (48 + q)]) := by
        rw [Lib.byteCells_append]
        show _ = Lib.byteCells l ++ [Value.int .u8 (((UInt8.ofNat (48 + q)).toNat : Nat) : Int)]
        rw [hb]
      have WB := wbyte (48 + (q : Int)) wr hI (by rw [Lib.byteCells_length]; omega) s1
      rw [ec] at WB
      clear hb ec
      go_wp2_with fail
      refine WB.mono ?_
      rintro e w2 ⟨rfl, hI2, hb2⟩
      go_wp2_with fail
      go_roundw
      case rel => exact ⟨k', r2, l ++ [UInt8.ofNat (48 + q)], by rw [e2], lt2, by omega, HE2, HD2, by rw [List.length_append, List.length_singleton]; omega, hI2, qB.trans hb2⟩
      case measure => simpa [intOf, e2] using L.out
end Go.Proofs.YtfilmomndhlmbabDoor
