/- NWalkA, NWalkI, PPlainB, NWalkC, TWord, NPlainB, NWalkE, NPlainC, NWalkK. -/
import Derived.Test.YtjkchneffcppmabGreatDoorQ16
import Derived.Lib.Slices
import Derived.Laws.IdiomStrings
import Derived.Shelf.Strconv.Itoa3
import Derived.Lib.AppendIntMem
import Derived.Ground.NamesProg
import Derived.Shelf.Strings.Search1
/- The contracts of Col, Name, NameArea, and of the document's own. -/
namespace Go.Proofs.YtjkchneffcppmabGreatDoor
open Go.RowKit
set_option linter.unusedVariables false

theorem letter_all : ∀ k : Fin 26, Utf8.encode ((((⟨#[65, 66, 67, 68, 69, 70, 71, 72, 73, 74, 75, 76, 77, 78, 79, 80, 81, 82, 83, 84, 85, 86, 87, 88, 89, 90]⟩ : ByteArray)[k.val]'(by have := k.isLt; exact this)).toNat : Nat) : Int) = ⟨#[UInt8.ofNat (65 + k.val)]⟩ := by decide +kernel
theorem letter_enc {k : Nat} (h : k < 26) (h' : k < (⟨#[65, 66, 67, 68, 69, 70, 71, 72, 73, 74, 75, 76, 77, 78, 79, 80, 81, 82, 83, 84, 85, 86, 87, 88, 89, 90]⟩ : ByteArray).size) : Utf8.encode ((((⟨#[65, 66, 67, 68, 69, 70, 71, 72, 73, 74, 75, 76, 77, 78, 79, 80, 81, 82, 83, 84, 85, 86, 87, 88, 89, 90]⟩ : ByteArray)[k]'h').toNat : Nat) : Int) = ⟨#[UInt8.ofNat (65 + k)]⟩ := letter_all ⟨k, h⟩
theorem x3_app_mk (a b : List UInt8) : ((⟨a.toArray⟩ : ByteArray) ++ (⟨b.toArray⟩ : ByteArray)) = ⟨(a ++ b).toArray⟩ := by
  apply ByteArray.ext
  rw [ByteArray.data_append]
  simp
theorem app_one (c : UInt8) (b : List UInt8) : ((⟨#[c]⟩ : ByteArray) ++ (⟨b.toArray⟩ : ByteArray)) = ⟨(c :: b).toArray⟩ := x3_app_mk [c] b

set_option maxRecDepth 100000 in
set_option maxHeartbeats 800000 in
theorem col_any (n : Int) (w : World) : Calls Tryz.prog 101 #[.int .i64 n] w fun e w' => e = .returned (.string ⟨(Wpl.colS n).toArray⟩) ∧ Below w.heap.size w w' := by
  have B := fun w => below_any n 256 w
  cases h : Wpl.inB n 256 with
  | false =>
    have E : Hid (Wpl.colS n = []) := by show _ = _; unfold Wpl.colS; rw [h]; rfl
    rw [h] at B; clear h
    go_enter Tryz.func101, Tryz.ntmps101
    go_wp2_with fail
    refine (B _).mono ?_
    rintro e w1 ⟨rfl, rfl⟩
    go_wp2
    go_ret
    exact ⟨by rw [E.out]; rfl, by with_reducible repeat (first | exact Below.refl _ _ | refine x3_below_drewN ?_ _ | refine Below.setCell ?_ (by first | (simp; done) | (simp; omega) | omega) _ | refine Below.drew ?_ | refine x3_below_end ?_ (by assumption) | refine x3_ball ?_ _)⟩
  | true =>
    have hn := Wpl.inB_iff.1 h
    have E : Hid (Wpl.colS n = Wpl.colT n.toNat) := by show _ = _; unfold Wpl.colS; rw [h]; rfl
    rw [h] at B; clear h
    obtain ⟨m, rfl⟩ := Int.eq_ofNat_of_zero_le hn.1
    rw [Int.toNat_natCast] at E
    have hm : m < 256 := by omega
    go_enter Tryz.func101, Tryz.ntmps101
    go_wp2_with fail
    refine (B _).mono ?_
    rintro e w1 ⟨rfl, rfl⟩
    go_wp2_with fail
    go_loopw [0, 3] (fun x y wr => ∃ (k : Int) (l : List UInt8), x = .int .i64 k ∧ -1 ≤ k ∧ k < 256 ∧ y = .string ⟨l.toArray⟩ ∧ l.length ≤ 2 ∧ Hid (Wpl.colT m = (if k < 0 then [] else Wpl.colT k.toNat) ++ l ∧ (0 ≤ k → l.length = 0 ∨ l.length = 1 ∧ k < 26)) ∧ wr = w) (fun x _ _ => (intOf x + 1).toNat)
    case atStart => exact ⟨m, [], rfl, by omega, by omega, rfl, by simp, (⟨by rw [if_neg (by omega), Int.toNat_natCast, List.append_nil], fun _ => Or.inl rfl⟩ : Wpl.colT m = (if (m : Int) < 0 then [] else Wpl.colT (m : Int).toNat) ++ [] ∧ _), rfl⟩
    case round =>
      obtain ⟨k, l, rfl, hk0, hk1, rfl, hl, HI, rfl⟩ := hrel
      by_cases hk : 0 ≤ k
      · obtain ⟨j, rfl⟩ := Int.eq_ofNat_of_zero_le hk
        have h26' : j % 26 < 26 := by omega
        obtain ⟨i1, i2⟩ := HI.out
        rw [if_neg (by omega), Int.toNat_natCast] at i1
        have i3 := i2 (by omega)
        have hl2 : l.length ≤ 1 := by omega
        have HI' : Hid (Wpl.colT m = (if (j : Int) / 26 - 1 < 0 then [] else Wpl.colT ((j : Int) / 26 - 1).toNat) ++ (UInt8.ofNat (65 + j % 26) :: l) ∧ (0 ≤ (j : Int) / 26 - 1 → (UInt8.ofNat (65 + j % 26) :: l).length = 0 ∨ (UInt8.ofNat (65 + j % 26) :: l).length = 1 ∧ (j : Int) / 26 - 1 < 26)) := by
          refine (⟨?_, ?_⟩ : _ ∧ _)
          · rw [i1]
            by_cases h26 : j < 26
            · rw [if_pos (by omega)]
              unfold Wpl.colT
              rw [if_pos h26, Nat.mod_eq_of_lt h26]
              rfl
            · rw [if_neg (by omega)]
              have e : ((j : Int) / 26 - 1).toNat = j / 26 - 1 := by omega
              rw [e]
              unfold Wpl.colT
              rw [if_neg h26, if_pos (by omega)]
              rfl
          · intro h
            right
            refine ⟨?_, by omega⟩
            rcases i3 with h0 | ⟨_, h1⟩
            · rw [List.length_cons, h0]
            · omega
        clear HI i1 i2 i3
        have hj : (j : Int) < 256 := hk1
        go_wp2_with fail
        case isTrue =>
          rename_i hx
          exfalso
          rw [letter_enc h26'] at hx
          have : (⟨#[UInt8.ofNat (65 + j % 26)]⟩ : ByteArray).size = 1 := rfl
          omega
        go_roundw
        case rel => exact ⟨(j : Int) / 26 - 1, UInt8.ofNat (65 + j % 26) :: l, rfl, by omega, by omega, by rw [letter_enc h26']; exact congrArg Value.string (app_one _ l), by simp; omega, HI', trivial⟩
        case measure => simp [intOf]; omega
      · have e : Wpl.colT m = l := by have := HI.out.1; rw [if_pos (by omega)] at this; exact this
        have EE : Hid (Wpl.colT m = l) := e
        clear e HI
        go_wp2
        go_ret
        exact ⟨by rw [E.out, EE.out]; rfl, Below.refl _ _⟩
end Go.Proofs.YtjkchneffcppmabGreatDoor
/- strconv.Itoa, off the shelf. -/
namespace Go.Proofs.YtjkchneffcppmabGreatDoor
open Go.Shelf Go.RowKit

def x3_laysItoa_ren : Go.Shelf.Ren := ⟨fun | 171 => 94 | 243 => 108 | 246 => 126 | 283 => 133 | 284 => 134 | 285 => 135 | 286 => 136 | 129 => 142 | 317 => 141 | 318 => 143 | 319 => 144 | 320 => 145 | 337 => 150 | 338 => 151 | n => n, fun | 3 => 3 | 9 => 9 | 2 => 2 | 4 => 4 | 171 => 167 | 0 => 0 | 53 => 168 | 37 => 69 | 5 => 5 | 173 => 171 | 212 => 179 | 51 => 143 | 20 => 20 | 213 => 180 | 46 => 128 | 232 => 186 | 233 => 187 | n => n, fun | 17 => 5 | 18 => 6 | 19 => 7 | n => n⟩
theorem x3_laysItoa : Go.Proofs.LaysM.n171 Tryz.prog x3_laysItoa_ren := {
  mixed := by kernel_rfl
  f129 := Tryz.func142.trans (congrArg some (by kernel_rfl))
  f171 := Tryz.func94.trans (congrArg some (by kernel_rfl))
  f243 := Tryz.func108.trans (congrArg some (by kernel_rfl))
  f246 := Tryz.func126.trans (congrArg some (by kernel_rfl))
  f283 := Tryz.func133.trans (congrArg some (by kernel_rfl))
  f284 := Tryz.func134.trans (congrArg some (by kernel_rfl))
  f285 := Tryz.func135.trans (congrArg some (by kernel_rfl))
  f286 := Tryz.func136.trans (congrArg some (by kernel_rfl))
  f317 := Tryz.func141.trans (congrArg some (by kernel_rfl))
  f318 := Tryz.func143.trans (congrArg some (by kernel_rfl))
  f319 := Tryz.func144.trans (congrArg some (by kernel_rfl))
  f320 := Tryz.func145.trans (congrArg some (by kernel_rfl))
  f337 := Tryz.func150.trans (congrArg some (by kernel_rfl))
  f338 := Tryz.func151.trans (congrArg some (by kernel_rfl))
  t0 := Tryz.underlying0
  a0 := Tryz.isAgg0
  z0 := Tryz.sizeOf0
  v0 := Tryz.zeroValue0
  t2 := Tryz.underlying2
  a2 := Tryz.isAgg2
  z2 := Tryz.sizeOf2
  v2 := Tryz.zeroValue2
  t3 := Tryz.underlying3
  a3 := Tryz.isAgg3
  z3 := Tryz.sizeOf3
  v3 := Tryz.zeroValue3
  t4 := Tryz.underlying4
  a4 := Tryz.isAgg4
  z4 := Tryz.sizeOf4
  v4 := Tryz.zeroValue4
  t5 := Tryz.underlying5
  a5 := Tryz.isAgg5
  z5 := Tryz.sizeOf5
  v5 := Tryz.zeroValue5
  t9 := Tryz.underlying9
  a9 := Tryz.isAgg9
  z9 := Tryz.sizeOf9
  v9 := Tryz.zeroValue9
  t20 := Tryz.underlying20
  a20 := Tryz.isAgg20
  z20 := Tryz.sizeOf20
  v20 := Tryz.zeroValue20
  t37 := Tryz.underlying69
  a37 := Tryz.isAgg69
  z37 := Tryz.sizeOf69
  v37 := Tryz.zeroValue69
  t46 := Tryz.underlying128
  a46 := Tryz.isAgg128
  z46 := Tryz.sizeOf128
  v46 := Tryz.zeroValue128
  t51 := Tryz.underlying143
  a51 := Tryz.isAgg143
  z51 := Tryz.sizeOf143
  v51 := Tryz.zeroValue143
  t53 := Tryz.underlying168
  a53 := Tryz.isAgg168
  z53 := Tryz.sizeOf168
  v53 := Tryz.zeroValue168
  t171 := Tryz.underlying167
  a171 := Tryz.isAgg167
  z171 := Tryz.sizeOf167
  v171 := Tryz.zeroValue167
  t173 := Tryz.underlying171
  a173 := Tryz.isAgg171
  z173 := Tryz.sizeOf171
  v173 := Tryz.zeroValue171
  t212 := Tryz.underlying179
  a212 := Tryz.isAgg179
  z212 := Tryz.sizeOf179
  v212 := Tryz.zeroValue179
  t213 := Tryz.underlying180
  a213 := Tryz.isAgg180
  z213 := Tryz.sizeOf180
  t232 := Tryz.underlying186
  a232 := Tryz.isAgg186
  z232 := Tryz.sizeOf186
  v232 := Tryz.zeroValue186
  t233 := Tryz.underlying187
  a233 := Tryz.isAgg187
  z233 := Tryz.sizeOf187
  v233 := Tryz.zeroValue187
  g17 := by kernel_rfl
  g18 := by kernel_rfl
  g19 := by kernel_rfl
  i0 := by kernel_rfl
  i2 := by kernel_rfl
  i3 := by kernel_rfl
  i4 := by kernel_rfl
  i5 := by kernel_rfl
  i9 := by kernel_rfl
  i20 := by kernel_rfl
  i37 := by kernel_rfl
  i46 := by kernel_rfl
  i51 := by kernel_rfl
  i53 := by kernel_rfl
  i171 := by kernel_rfl
  i173 := by kernel_rfl
  i212 := by kernel_rfl
  i232 := by kernel_rfl
  i233 := by kernel_rfl
  m17 := by kernel_rfl
  m18 := by kernel_rfl
  m19 := by kernel_rfl }

theorem x3_itoa_any (n : Int) (w : World) (h0 : -9223372036854775808 ≤ n) (h1 : n ≤ 9223372036854775807) (htab : Lib.TabIs Tryz.prog w "internal/strconv.uint64pow10" .u64 Lib.pow10Tab) :
    Calls Tryz.prog 94 #[.int .i64 n] w fun e w' => e = .returned (.string ⟨(Lib.itoa n).toArray⟩) ∧ Below w.heap.size w w' :=
  (Any.strconv_Itoa x3_laysItoa n h0 h1 w htab).mono fun e w' ⟨he, k, os, hw⟩ => ⟨he, by rw [hw]; exact Lib.below_grow _ w (Nat.le_refl _) k os⟩
end Go.Proofs.YtjkchneffcppmabGreatDoor
/- Cells and areas as plain numbers: numbers of cells, what two areas have. -/
namespace Wpl

/-- The cell number k of an area that has so many. -/
def num (s t l r k : Int) : Cl := ⟨s, t + k / (r - l + 1), l + k % (r - l + 1)⟩
end Wpl
/- The contracts of Name, NameArea and of the document's own. -/
namespace Go.Proofs.YtjkchneffcppmabGreatDoor
open Go.RowKit
set_option linter.unusedVariables false

theorem x3_itoa_nat {n : Int} (h : 0 ≤ n) : Lib.itoa n = Lib.decDigits n.toNat := by unfold Lib.itoa; rw [if_neg (by omega)]

end Go.Proofs.YtjkchneffcppmabGreatDoor
/- A cell's word, written. -/
namespace Go.Proofs.YtjkchneffcppmabGreatDoor
open Go.RowKit
set_option linter.unusedVariables false

def fx (b : Bool) : List UInt8 := if b then [36] else []
theorem fixed_any (b : Bool) (w : World) : Calls Tryz.prog 100 #[.bool b] w fun e w' => e = .returned (.string ⟨(fx b).toArray⟩) ∧ Below w.heap.size w w' := by
  cases b
  · go_enter Tryz.func100, Tryz.ntmps100
    go_wp2
    go_ret
    exact ⟨rfl, Below.refl _ _⟩
  · go_enter Tryz.func100, Tryz.ntmps100
    go_wp2
    go_ret
    exact ⟨rfl, Below.refl _ _⟩
/-- The word of a cell, without its sheet. -/
def cw (a : Wt.Rf) : List UInt8 := fx a.fc ++ Wpl.colS a.c ++ fx a.fr ++ Lib.decDigits (a.r + 1).toNat
theorem fx_len (b : Bool) : (fx b).length ≤ 1 := by cases b <;> decide
set_option maxRecDepth 100000 in
set_option maxHeartbeats 3200000 in
theorem cellWord_any (a : Wt.Rf) (w : World) (h0 : 0 ≤ a.r) (h1 : a.r < 65536) (htab : Lib.TabIs Tryz.prog w "internal/strconv.uint64pow10" .u64 Lib.pow10Tab) :
    Calls Tryz.prog 80 #[rfV a] w fun e w' => e = .returned (.string ⟨(cw a).toArray⟩) ∧ Below w.heap.size w w' := by
  obtain ⟨s, r, c, fr, fc⟩ := a
  simp only at h0 h1
  unfold cw
  simp only
  show Calls _ _ #[.agg #[.string s, .int .i64 r, .int .i64 c, .bool fr, .bool fc]] _ _
  have TB := Lib.tabBelow_of_tabIs htab
  clear htab
  have F1 := fun w => fixed_any fc w
  have F2 := fun w => fixed_any fr w
  have l0 := fx_len fc
  have l3 := fx_len fr
  have l1 := Wpl.colS_len c
  have l2 := Wpl.dd_len (r + 1).toNat (by omega)
  have CC := fun w => col_any c w
  have II := fun w ht => x3_itoa_any (r + 1) w (by omega) (by omega) ht
  rw [x3_itoa_nat (show 0 ≤ r + 1 by omega)] at II
  generalize fx fc = u at *
  generalize fx fr = v at *
  generalize Wpl.colS c = x at *
  generalize Lib.decDigits (r + 1).toNat = y at *
  have hw : IntKind.i64.wrap (r + 1) = r + 1 := IntWalk.i64_in _ (by omega)
  have lx1 : ¬ 9223372036854775807 < u.length + x.length := by omega
  have lx2 : ¬ 9223372036854775807 < u.length + x.length + v.length := by omega
  have lx3 : ¬ 9223372036854775807 < u.length + x.length + v.length + y.length := by omega
  have hS0 := (AtL.new0 w 40 [.string s, .int .i64 r, .int .i64 c, .bool fr, .bool fc]).f5
  have hB := ball (Below.refl _ w) (.cells #[.string s, .int .i64 r, .int .i64 c, .bool fr, .bool fc] 40)
  go_enter Tryz.func80, Tryz.ntmps80
  go_upto_region 1 with fail
  go_region_held3 (fun W => W.cell? ⟨w.heap.size, 0, none⟩ = some (.string s) ∧ W.cell? ⟨w.heap.size, 1, none⟩ = some (.int .i64 r) ∧ W.cell? ⟨w.heap.size, 2, none⟩ = some (.int .i64 c) ∧ W.cell? ⟨w.heap.size, 3, none⟩ = some (.bool fr) ∧ W.cell? ⟨w.heap.size, 4, none⟩ = some (.bool fc))
    (with_reducible first | exact hS0 | assumption | exact five_drew hS0 | exact five_below hb (by assumption))
    (first
    | (go_at_call 100; refine (F1 _).mono ?_; rintro e w4 ⟨rfl, hb⟩; (with_reducible first | replace hB := below_end hB.drew hb | replace hB := below_end hB hb))
    | (go_at_call 100; refine (F2 _).mono ?_; rintro e w4 ⟨rfl, hb⟩; (with_reducible first | replace hB := below_end hB.drew hb | replace hB := below_end hB hb))
    | (go_at_call 101; refine (CC _).mono ?_; rintro e w4 ⟨rfl, hb⟩; (with_reducible first | replace hB := below_end hB.drew hb | replace hB := below_end hB hb))
    | (go_at_call 94; refine (II _ ((TB.on (by with_reducible first | exact hB | exact hB.drew)).here)).mono ?_; rintro e w4 ⟨rfl, hb⟩; (with_reducible first | replace hB := below_end hB.drew hb | replace hB := below_end hB hb)))
  all_goals
    go_wp2
    go_ret
    refine ⟨?_, hB⟩
    refine congrArg (fun x => Ending.returned (Value.string x)) ?_
    rw [x3_app_mk, x3_app_mk, x3_app_mk]
end Go.Proofs.YtjkchneffcppmabGreatDoor
/- What is read of a text as a name: letters, digits. -/
namespace Wpl

def isL (c : UInt8) : Bool := decide (65 ≤ c.toNat ∧ c.toNat ≤ 90)
def isG (c : UInt8) : Bool := decide (48 ≤ c.toNat ∧ c.toNat ≤ 57)
/-- Letters, as long as the number is no greater than 256. -/
def rc : Nat → List UInt8 → Nat × List UInt8
  | k, [] => (k, [])
  | k, c :: t => if isL c = true ∧ k ≤ 256 then rc (k * 26 + (c.toNat - 65) + 1) t else (k, c :: t)
/-- Digits, as long as the number is no greater than 65536. -/
def rd : Nat → List UInt8 → Nat × List UInt8
  | k, [] => (k, [])
  | k, c :: t => if isG c = true ∧ k ≤ 65536 then rd (k * 10 + (c.toNat - 48)) t else (k, c :: t)
def rr (l : List UInt8) : Nat × List UInt8 := if l.head? = some 48 then (0, l) else rd 0 l
/-- A name that is read: row and column from 1 on. -/
def rdOk (l : List UInt8) : Bool := decide ((rr (rc 0 l).2).2 = [] ∧ 1 ≤ (rr (rc 0 l).2).1 ∧ (rr (rc 0 l).2).1 ≤ 65536 ∧ 1 ≤ (rc 0 l).1 ∧ (rc 0 l).1 ≤ 256)
def rdR (l : List UInt8) : Int := if rdOk l then ((rr (rc 0 l).2).1 : Int) - 1 else 0
def rdC (l : List UInt8) : Int := if rdOk l then ((rc 0 l).1 : Int) - 1 else 0

theorem rc_len (k : Nat) (l : List UInt8) : (rc k l).2.length ≤ l.length := by
  induction l generalizing k with
  | nil => simp [rc]
  | cons c t ih =>
    unfold rc
    split
    · have := ih (k * 26 + (c.toNat - 65) + 1); simp; omega
    · simp
theorem rc_bd (k : Nat) (l : List UInt8) (h : k ≤ 6682) : (rc k l).1 ≤ 6682 := by
  induction l generalizing k with
  | nil => simpa [rc] using h
  | cons c t ih =>
    unfold rc
    split
    · rename_i hh
      have hc := hh.1
      simp only [isL, decide_eq_true_eq] at hc
      exact ih _ (by omega)
    · exact h
theorem rd_bd (k : Nat) (l : List UInt8) (h : k ≤ 655369) : (rd k l).1 ≤ 655369 := by
  induction l generalizing k with
  | nil => simpa [rd] using h
  | cons c t ih =>
    unfold rd
    split
    · rename_i hh
      have hc := hh.1
      simp only [isG, decide_eq_true_eq] at hc
      exact ih _ (by omega)
    · exact h
theorem rr_bd (l : List UInt8) : (rr l).1 ≤ 655369 := by
  unfold rr
  split
  · simp
  · exact rd_bd 0 l (by omega)
end Wpl
/- The contracts of readCol, readRow, Read. -/
namespace Go.Proofs.YtjkchneffcppmabGreatDoor
open Go.RowKit
set_option linter.unusedVariables false

theorem cut_one (c : UInt8) (t : List UInt8) : ByteArray.extract ⟨(c :: t).toArray⟩ 1 (t.length + 1) = ⟨t.toArray⟩ := by
  apply ByteArray.ext
  simp [ByteArray.data_extract]
theorem byte_bd (c : UInt8) : (0 : Int) ≤ (c.toNat : Int) ∧ (c.toNat : Int) ≤ 255 := by have := c.toNat_lt; omega

set_option maxHeartbeats 800000 in
theorem readCol_any (s : List UInt8) (w : World) (hs : s.length ≤ 9223372036854775807) : Calls Tryz.prog 152 #[.string ⟨s.toArray⟩] w fun e w' => e = .returned (.tuple #[.int .i64 ((Wpl.rc 0 s).1 : Nat), .string ⟨(Wpl.rc 0 s).2.toArray⟩]) ∧ w = w' := by
  go_enter Tryz.func152, Tryz.ntmps152
  go_wp2
  go_loopw [0, 2] (fun x y wr => ∃ (l : List UInt8) (k : Nat), x = .string ⟨l.toArray⟩ ∧ y = .int .i64 k ∧ k ≤ 6682 ∧ l.length ≤ 9223372036854775807 ∧ Hid (Wpl.rc 0 s = Wpl.rc k l) ∧ wr = w) (fun x _ _ => match x with | .string b => b.size | _ => 0)
  case atStart => exact ⟨s, 0, rfl, rfl, by omega, hs, (rfl : Wpl.rc 0 s = Wpl.rc 0 s), rfl⟩
  case round =>
    obtain ⟨l, k, rfl, rfl, hk, hl, HR, rfl⟩ := hrel
    cases l with
    | nil =>
      have E : Hid (Wpl.rc 0 s = (k, [])) := HR.out
      go_wp2
      go_ret2
      exact ⟨by rw [E.out]; rfl, rfl⟩
    | cons c t =>
      obtain ⟨b0, b1⟩ := byte_bd c
      simp only [List.length_cons] at hl
      by_cases h1 : 65 ≤ (c.toNat : Int)
      · by_cases h2 : (c.toNat : Int) ≤ 90
        · by_cases h3 : (k : Int) ≤ 256
          · have E : Hid (Wpl.rc 0 s = Wpl.rc (k * 26 + (c.toNat - 65) + 1) t) := by
              show _ = _; rw [HR.out]
              conv => lhs; unfold Wpl.rc
              rw [if_pos ⟨by simp [Wpl.isL]; omega, by omega⟩]
            clear HR
            go_wp2_with fail
            go_roundw
            case rel => exact ⟨t, k * 26 + (c.toNat - 65) + 1, congrArg Value.string (cut_one c t), congrArg (Value.int IntKind.i64) (by show (k : Int) * 26 + ((c.toNat : Nat) - 65) + 1 = _; omega), by omega, by omega, E, trivial⟩
            case measure => rw [cut_one]; simp [ByteArray.size]
          · have E : Hid (Wpl.rc 0 s = (k, c :: t)) := by
              show _ = _; rw [HR.out]
              conv => lhs; unfold Wpl.rc
              rw [if_neg (by omega)]
            clear HR
            go_wp2
            go_ret2
            exact ⟨by rw [E.out]; rfl, rfl⟩
        · have E : Hid (Wpl.rc 0 s = (k, c :: t)) := by
            show _ = _; rw [HR.out]
            conv => lhs; unfold Wpl.rc
            rw [if_neg (by simp [Wpl.isL]; omega)]
          clear HR
          go_wp2
          go_ret2
          exact ⟨by rw [E.out]; rfl, rfl⟩
      · have E : Hid (Wpl.rc 0 s = (k, c :: t)) := by
          show _ = _; rw [HR.out]
          conv => lhs; unfold Wpl.rc
          rw [if_neg (by simp [Wpl.isL]; omega)]
        clear HR
        go_wp2
        go_ret2
        exact ⟨by rw [E.out]; rfl, rfl⟩

theorem head_eq (c : UInt8) (t : List UInt8) : ((ByteArray.extract ⟨(c :: t).toArray⟩ 0 1).toList == [48]) = decide (c = 48) := by
  have e : ByteArray.extract ⟨(c :: t).toArray⟩ 0 1 = ⟨#[c]⟩ := by
    apply ByteArray.ext
    simp [ByteArray.data_extract]
  rw [e]
  have e2 : (⟨#[c]⟩ : ByteArray).toList = [c] := by
    simp [ByteArray.toList, ByteArray.toList.loop, ByteArray.size, ByteArray.get!]
  rw [e2]
  by_cases h : c = 48
  · subst h; rfl
  · rw [decide_eq_false h]
    simp [h]

theorem hasZero_cons (c : UInt8) (t : List UInt8) (w : World) (hs : t.length + 1 ≤ 9223372036854775807) : Calls Tryz.prog 37 #[.string ⟨(c :: t).toArray⟩, .string ⟨#[48]⟩] w fun e w' => e = .returned (.bool (decide (c = 48))) ∧ w = w' := by
  have hp := head_eq c t
  have hl1 : (1 : Int) ≤ (t.length : Int) + 1 := by omega
  have E : Hid (decide (c = 48) = ((ByteArray.extract ⟨(c :: t).toArray⟩ 0 1).toList == [48])) := hp.symm
  generalize decide (c = 48) = b at *
  go_enter Tryz.func37, Tryz.ntmps37
  go_wp2
  go_ret
  exact ⟨rfl, rfl⟩
theorem hasZero_nil (w : World) : Calls Tryz.prog 37 #[.string ⟨#[]⟩, .string ⟨#[48]⟩] w fun e w' => e = .returned (.bool false) ∧ w = w' := by
  go_enter Tryz.func37, Tryz.ntmps37
  go_wp2
  go_ret
  exact ⟨rfl, rfl⟩

set_option maxHeartbeats 800000 in
theorem readRow_any (s : List UInt8) (w : World) (hs : s.length ≤ 9223372036854775807) : Calls Tryz.prog 153 #[.string ⟨s.toArray⟩] w fun e w' => e = .returned (.tuple #[.int .i64 ((Wpl.rr s).1 : Nat), .string ⟨(Wpl.rr s).2.toArray⟩]) ∧ w = w' := by
  cases s with
  | nil =>
    have E : Hid (Wpl.rr [] = (0, [])) := (rfl : Wpl.rr [] = (0, []))
    go_enter Tryz.func153, Tryz.ntmps153
    go_wp2_with fail
    refine (hasZero_nil _).mono ?_
    rintro e w1 ⟨rfl, rfl⟩
    go_wp2
    go_loopw [0, 2] (fun x y wr => x = .string ⟨#[]⟩ ∧ y = .int .i64 0 ∧ wr = w) (fun x _ _ => 0)
    case atStart => exact ⟨rfl, rfl, rfl⟩
    case round =>
      obtain ⟨rfl, rfl, rfl⟩ := hrel
      go_wp2
      go_ret2
      exact ⟨by rw [E.out]; rfl, rfl⟩
  | cons c0 t0 =>
    have hl0 : t0.length + 1 ≤ 9223372036854775807 := by simpa using hs
    have HP := fun w => hasZero_cons c0 t0 w hl0
    by_cases h0 : c0 = 48
    · have E : Hid (Wpl.rr (c0 :: t0) = (0, c0 :: t0)) := by show _ = _; unfold Wpl.rr; rw [if_pos (by rw [h0]; rfl)]
      rw [decide_eq_true h0] at HP
      clear h0
      go_enter Tryz.func153, Tryz.ntmps153
      go_wp2_with fail
      refine (HP _).mono ?_
      rintro e w1 ⟨rfl, rfl⟩
      go_wp2
      go_ret2
      exact ⟨by rw [E.out]; rfl, rfl⟩
    · have E0 : Hid (Wpl.rr (c0 :: t0) = Wpl.rd 0 (c0 :: t0)) := by show _ = _; unfold Wpl.rr; rw [if_neg (by simpa using h0)]
      rw [decide_eq_false h0] at HP
      clear h0
      go_enter Tryz.func153, Tryz.ntmps153
      go_wp2_with fail
      refine (HP _).mono ?_
      rintro e w1 ⟨rfl, rfl⟩
      go_wp2
      go_loopw [0, 2] (fun x y wr => ∃ (l : List UInt8) (k : Nat), x = .string ⟨l.toArray⟩ ∧ y = .int .i64 k ∧ k ≤ 655369 ∧ l.length ≤ 9223372036854775807 ∧ Hid (Wpl.rr (c0 :: t0) = Wpl.rd k l) ∧ wr = w) (fun x _ _ => match x with | .string b => b.size | _ => 0)
      case atStart => exact ⟨c0 :: t0, 0, rfl, rfl, by omega, hs, E0, rfl⟩
      case round =>
        obtain ⟨l, k, rfl, rfl, hk, hl, HR, rfl⟩ := hrel
        clear hs
        cases l with
        | nil =>
          have E : Hid (Wpl.rr (c0 :: t0) = (k, [])) := HR.out
          go_wp2
          go_ret2
          exact ⟨by rw [E.out]; rfl, rfl⟩
        | cons c t =>
          obtain ⟨b0, b1⟩ := byte_bd c
          simp only [List.length_cons] at hl
          by_cases h1 : 48 ≤ (c.toNat : Int)
          · by_cases h2 : (c.toNat : Int) ≤ 57
            · by_cases h3 : (k : Int) ≤ 65536
              · have E : Hid (Wpl.rr (c0 :: t0) = Wpl.rd (k * 10 + (c.toNat - 48)) t) := by
                  show _ = _; rw [HR.out]
                  conv => lhs; unfold Wpl.rd
                  rw [if_pos ⟨by simp [Wpl.isG]; omega, by omega⟩]
                clear HR
                go_wp2_with fail
                go_roundw
                case rel => exact ⟨t, k * 10 + (c.toNat - 48), congrArg Value.string (cut_one c t), congrArg (Value.int IntKind.i64) (by show (k : Int) * 10 + ((c.toNat : Nat) - 48) = _; omega), by omega, by omega, E, trivial⟩
                case measure => rw [cut_one]; simp [ByteArray.size]
              · have E : Hid (Wpl.rr (c0 :: t0) = (k, c :: t)) := by
                  show _ = _; rw [HR.out]
                  conv => lhs; unfold Wpl.rd
                  rw [if_neg (by omega)]
                clear HR
                go_wp2
                go_ret2
                exact ⟨by rw [E.out]; rfl, rfl⟩
            · have E : Hid (Wpl.rr (c0 :: t0) = (k, c :: t)) := by
                show _ = _; rw [HR.out]
                conv => lhs; unfold Wpl.rd
                rw [if_neg (by simp [Wpl.isG]; omega)]
              clear HR
              go_wp2
              go_ret2
              exact ⟨by rw [E.out]; rfl, rfl⟩
          · have E : Hid (Wpl.rr (c0 :: t0) = (k, c :: t)) := by
              show _ = _; rw [HR.out]
              conv => lhs; unfold Wpl.rd
              rw [if_neg (by simp [Wpl.isG]; omega)]
            clear HR
            go_wp2
            go_ret2
            exact ⟨by rw [E.out]; rfl, rfl⟩

set_option maxHeartbeats 800000 in
theorem x3_read_any (s : List UInt8) (w : World) (hs : s.length ≤ 9223372036854775807) :
    Calls Tryz.prog 147 #[.string ⟨s.toArray⟩] w fun e w' => e = .returned (.tuple #[.int .i64 (Wpl.rdR s), .int .i64 (Wpl.rdC s), .bool (Wpl.rdOk s)]) ∧ Below w.heap.size w w' := by
  have C1 := fun w => readCol_any s w hs
  have l1 := Wpl.rc_len 0 s
  have C2 := fun w => readRow_any (Wpl.rc 0 s).2 w (by omega)
  have bc := Wpl.rc_bd 0 s (by omega)
  have br := Wpl.rr_bd (Wpl.rc 0 s).2
  have EO : Hid (Wpl.rdOk s = decide ((Wpl.rr (Wpl.rc 0 s).2).2 = [] ∧ 1 ≤ (Wpl.rr (Wpl.rc 0 s).2).1 ∧ (Wpl.rr (Wpl.rc 0 s).2).1 ≤ 65536 ∧ 1 ≤ (Wpl.rc 0 s).1 ∧ (Wpl.rc 0 s).1 ≤ 256)) := (rfl : Wpl.rdOk s = _)
  have ER : Hid (Wpl.rdR s = if Wpl.rdOk s then ((Wpl.rr (Wpl.rc 0 s).2).1 : Int) - 1 else 0) := (rfl : Wpl.rdR s = _)
  have EC : Hid (Wpl.rdC s = if Wpl.rdOk s then ((Wpl.rc 0 s).1 : Int) - 1 else 0) := (rfl : Wpl.rdC s = _)
  generalize Wpl.rdOk s = ok at *
  generalize Wpl.rdR s = R at *
  generalize Wpl.rdC s = C at *
  generalize Wpl.rr (Wpl.rc 0 s).2 = q at *
  generalize Wpl.rc 0 s = p at *
  obtain ⟨k, d⟩ := p
  obtain ⟨m, r⟩ := q
  simp only at *
  have RR := fun w => x3_right_any 0 ((m : Int) - 1) ((k : Int) - 1) w
  have hr : Hid (Wpl.rightC 0 ((m : Int) - 1) ((k : Int) - 1) = decide (1 ≤ m ∧ m ≤ 65536 ∧ 1 ≤ k ∧ k ≤ 256)) := by
    show _ = _
    rw [Bool.eq_iff_iff, Wpl.rightC_iff]; simp; omega
  rw [hr.out] at RR
  clear hr l1
  go_enter Tryz.func147, Tryz.ntmps147
  go_wp2_with fail
  refine (C1 _).mono ?_
  rintro e w1 ⟨rfl, rfl⟩
  go_wp2_with fail
  refine (C2 _).mono ?_
  rintro e w2 ⟨rfl, rfl⟩
  cases r with
  | cons x t =>
    have E : Hid (ok = false) := by show _ = _; rw [EO.out]; simp
    go_wp2
    go_ret3
    exact ⟨by rw [E.out, ER.out, EC.out, E.out]; rfl, by with_reducible repeat (first | exact Below.refl _ _ | refine x3_below_drewN ?_ _ | refine Below.setCell ?_ (by first | (simp; done) | (simp; omega) | omega) _ | refine Below.drew ?_ | refine x3_below_end ?_ (by assumption) | refine x3_ball ?_ _)⟩
  | nil =>
    by_cases hk : 1 ≤ m ∧ m ≤ 65536 ∧ 1 ≤ k ∧ k ≤ 256
    · have E : Hid (ok = true) := by show _ = _; rw [EO.out]; simp; omega
      rw [decide_eq_true hk] at RR
      go_wp2_with fail
      refine (RR _).mono ?_
      rintro e w3 ⟨rfl, hb3⟩
      have pC : AtL w3 w.heap.size [.int .i64 0, .int .i64 ((m : Int) - 1), .int .i64 ((k : Int) - 1)] := AtL.below hb3 (AtL.new0 w 117 _)
      have hB3 : Below w.heap.size w w3 := by with_reducible repeat (first | exact Below.refl _ _ | refine x3_below_drewN ?_ _ | refine Below.setCell ?_ (by first | (simp; done) | (simp; omega) | omega) _ | refine Below.drew ?_ | refine x3_below_end ?_ (by assumption) | refine x3_ball ?_ _)
      clear hb3
      obtain ⟨c0, c1, c2⟩ := pC.f3
      go_wp2_with fail
      go_region
      all_goals
        go_wp2
        go_ret3
        exact ⟨by rw [E.out, ER.out, EC.out, E.out]; rfl, by with_reducible repeat (first | exact Below.refl _ _ | refine x3_below_drewN ?_ _ | refine Below.setCell ?_ (by first | (simp; done) | (simp; omega) | omega) _ | refine Below.drew ?_ | refine x3_below_end ?_ (by assumption) | refine x3_ball ?_ _)⟩
    · have E : Hid (ok = false) := by show _ = _; rw [EO.out]; simp; omega
      rw [decide_eq_false hk] at RR
      go_wp2_with fail
      refine (RR _).mono ?_
      rintro e w3 ⟨rfl, hb3⟩
      go_wp2
      go_ret3
      exact ⟨by rw [E.out, ER.out, EC.out, E.out]; rfl, by with_reducible repeat (first | exact Below.refl _ _ | refine x3_below_drewN ?_ _ | refine Below.setCell ?_ (by first | (simp; done) | (simp; omega) | omega) _ | refine Below.drew ?_ | refine x3_below_end ?_ (by assumption) | refine x3_ball ?_ _)⟩
end Go.Proofs.YtjkchneffcppmabGreatDoor
/- What is read of a text as a name, by cases. -/
namespace Wpl

def vl (c : UInt8) : Nat := c.toNat - 65 + 1
end Wpl
/- The contracts of strings.Cut at a colon, and of ReadArea. -/
namespace Go.Proofs.YtjkchneffcppmabGreatDoor
open Go.RowKit Go.Shelf
set_option linter.unusedVariables false

def laysIndexByte_ren : Go.Shelf.Ren := ⟨fun | 217 => 89 | 266 => 106 | n => n, fun | 9 => 9 | 5 => 5 | 3 => 3 | n => n, fun | n => n⟩
theorem laysIndexByte : Go.Proofs.Lays.n217 Tryz.prog laysIndexByte_ren := {
  mixed := by kernel_rfl
  f217 := Tryz.func89.trans (congrArg some (by kernel_rfl))
  f266 := Tryz.func106.trans (congrArg some (by kernel_rfl))
  t3 := Tryz.underlying3
  a3 := Tryz.isAgg3
  z3 := Tryz.sizeOf3
  v3 := Tryz.zeroValue3
  t5 := Tryz.underlying5
  a5 := Tryz.isAgg5
  z5 := Tryz.sizeOf5
  v5 := Tryz.zeroValue5
  t9 := Tryz.underlying9
  a9 := Tryz.isAgg9
  z9 := Tryz.sizeOf9
  v9 := Tryz.zeroValue9 }

end Go.Proofs.YtjkchneffcppmabGreatDoor
