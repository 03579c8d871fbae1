/- NWalkA, NWalkB, NWalkI, PPlainB, PWalkS, NWalkC, TWord, NPlainB. -/
import Derived.Test.YtlggnpohhahdlaaGreatDoorQ13
import Derived.Lib.Slices
import Derived.Laws.IdiomStrings
import Derived.Shelf.Strconv.Itoa3
import Derived.Lib.AppendIntMem
import Derived.Ground.NamesProg
namespace Go.Proofs.YtlggnpohhahdlaaGreatDoor
open Go.RowKit
set_option linter.unusedVariables false
theorem letter_all : ∀ k : Fin 26, Utf8.encode ((((⟨#[65, 66, 67, 68, 69, 70, 71, 72, 73, 74, 75, 76, 77, 78, 79, 80, 81, 82, 83, 84, 85, 86, 87, 88, 89, 90]⟩ : ByteArray)[k.val]'(by have := k.isLt; exact this)).toNat : Nat) : Int) = ⟨#[UInt8.ofNat (65 + k.val)]⟩ := by decide +kernel
theorem letter_enc {k : Nat} (h : k < 26) (h' : k < (⟨#[65, 66, 67, 68, 69, 70, 71, 72, 73, 74, 75, 76, 77, 78, 79, 80, 81, 82, 83, 84, 85, 86, 87, 88, 89, 90]⟩ : ByteArray).size) : Utf8.encode ((((⟨#[65, 66, 67, 68, 69, 70, 71, 72, 73, 74, 75, 76, 77, 78, 79, 80, 81, 82, 83, 84, 85, 86, 87, 88, 89, 90]⟩ : ByteArray)[k]'h').toNat : Nat) : Int) = ⟨#[UInt8.ofNat (65 + k)]⟩ := letter_all ⟨k, h⟩
theorem x3_app_mk (a b : List UInt8) : ((⟨a.toArray⟩ : ByteArray) ++ (⟨b.toArray⟩ : ByteArray)) = ⟨(a ++ b).toArray⟩ := by
  apply ByteArray.ext
  rw [ByteArray.data_append]
  simp
theorem app_one (c : UInt8) (b : List UInt8) : ((⟨#[c]⟩ : ByteArray) ++ (⟨b.toArray⟩ : ByteArray)) = ⟨(c :: b).toArray⟩ := x3_app_mk [c] b
set_option maxRecDepth 100000 in
set_option maxHeartbeats 800000 in
theorem col_any (n : Int) (w : World) : Calls Tryz.prog 158 #[.int .i64 n] w fun e w' => e = .returned (.string ⟨(Wpl.colS n).toArray⟩) ∧ Below w.heap.size w w' := by
  have B := fun w => below_any n 256 w
  cases h : Wpl.inB n 256 with
  | false =>
    have E : Hid (Wpl.colS n = []) := by show _ = _; unfold Wpl.colS; rw [h]; rfl
    rw [h] at B; clear h
    go_enter Tryz.func158, Tryz.ntmps158
    go_wp2_with fail
    refine (B _).mono ?_
    rintro e w1 ⟨rfl, rfl⟩
    go_wp2
    go_ret
    exact ⟨by rw [E.out]; rfl, by with_reducible repeat (first | exact Below.refl _ _ | refine x3_below_drewN ?_ _ | refine Below.setCell ?_ (by first | (simp; done) | (simp; omega) | omega) _ | refine Below.drew ?_ | refine x3_below_end ?_ (by assumption) | refine x3_ball ?_ _)⟩
  | true =>
    have hn := Wpl.inB_iff.1 h
    have E : Hid (Wpl.colS n = Wpl.colT n.toNat) := by show _ = _; unfold Wpl.colS; rw [h]; rfl
    rw [h] at B; clear h
    obtain ⟨m, rfl⟩ := Int.eq_ofNat_of_zero_le hn.1
    rw [Int.toNat_natCast] at E
    have hm : m < 256 := by omega
    go_enter Tryz.func158, Tryz.ntmps158
    go_wp2_with fail
    refine (B _).mono ?_
    rintro e w1 ⟨rfl, rfl⟩
    go_wp2_with fail
    go_loopw [0, 3] (fun x y wr => ∃ (k : Int) (l : List UInt8), x = .int .i64 k ∧ -1 ≤ k ∧ k < 256 ∧ y = .string ⟨l.toArray⟩ ∧ l.length ≤ 2 ∧ Hid (Wpl.colT m = (if k < 0 then [] else Wpl.colT k.toNat) ++ l ∧ (0 ≤ k → l.length = 0 ∨ l.length = 1 ∧ k < 26)) ∧ wr = w) (fun x _ _ => (intOf x + 1).toNat)
    case atStart => exact ⟨m, [], rfl, by omega, by omega, rfl, by simp, (⟨by rw [if_neg (by omega), Int.toNat_natCast, List.append_nil], fun _ => Or.inl rfl⟩ : Wpl.colT m = (if (m : Int) < 0 then [] else Wpl.colT (m : Int).toNat) ++ [] ∧ _), rfl⟩
    case round =>
      obtain ⟨k, l, rfl, hk0, hk1, rfl, hl, HI, rfl⟩ := hrel
      by_cases hk : 0 ≤ k
      · obtain ⟨j, rfl⟩ := Int.eq_ofNat_of_zero_le hk
        have h26' : j % 26 < 26 := by omega
        obtain ⟨i1, i2⟩ := HI.out
        rw [if_neg (by omega), Int.toNat_natCast] at i1
        have i3 := i2 (by omega)
        have hl2 : l.length ≤ 1 := by omega
        have HI' : Hid (Wpl.colT m = (if (j : Int) / 26 - 1 < 0 then [] else Wpl.colT ((j : Int) / 26 - 1).toNat) ++ (UInt8.ofNat (65 + j % 26) :: l) ∧ (0 ≤ (j : Int) / 26 - 1 → (UInt8.ofNat (65 + j % 26) :: l).length = 0 ∨ (UInt8.ofNat (65 + j % 26) :: l).length = 1 ∧ (j : Int) / 26 - 1 < 26)) := by
          refine (⟨?_, ?_⟩ : _ ∧ _)
          · rw [i1]
            by_cases h26 : j < 26
            · rw [if_pos (by omega)]
              unfold Wpl.colT
              rw [if_pos h26, Nat.mod_eq_of_lt h26]
              rfl
            · rw [if_neg (by omega)]
              have e : ((j : Int) / 26 - 1).toNat = j / 26 - 1 := by omega
              rw [e]
              unfold Wpl.colT
              rw [if_neg h26, if_pos (by omega)]
              rfl
          · intro h
            right
            refine ⟨?_, by omega⟩
            rcases i3 with h0 | ⟨_, h1⟩
            · rw [List.length_cons, h0]
            · omega
        clear HI i1 i2 i3
        have hj : (j : Int) < 256 := hk1
        go_wp2_with fail
        case isTrue =>
          rename_i hx
          exfalso
          rw [letter_enc h26'] at hx
          have : (⟨#[UInt8.ofNat (65 + j % 26)]⟩ : ByteArray).size = 1 := rfl
          omega
        go_roundw
        case rel => exact ⟨(j : Int) / 26 - 1, UInt8.ofNat (65 + j % 26) :: l, rfl, by omega, by omega, by rw [letter_enc h26']; exact congrArg Value.string (app_one _ l), by simp; omega, HI', trivial⟩
        case measure => simp [intOf]; omega
      · have e : Wpl.colT m = l := by have := HI.out.1; rw [if_pos (by omega)] at this; exact this
        have EE : Hid (Wpl.colT m = l) := e
        clear e HI
        go_wp2
        go_ret
        exact ⟨by rw [E.out, EE.out]; rfl, Below.refl _ _⟩
theorem byte_nat {u : Nat} (h : u < 256) : (((UInt8.ofNat u).toNat : Nat) : Int) = (u : Int) := by
  rw [UInt8.toNat_ofNat']
  have : u % 2 ^ 8 = u := Nat.mod_eq_of_lt (by omega)
  omega
theorem conv1 (x : Int) (c : UInt8) (w : World) (hc : ((c.toNat : Nat) : Int) = x) :
    (convert 63 9 (.slice (some ⟨w.heap.size, 0, none⟩) 1 1)).run Tryz.prog (w.alloc (.cells #[.int .u8 x] 5)) = .ok (.string ⟨#[c]⟩) (w.alloc (.cells #[.int .u8 x] 5)) := by
  have := run_convert_bytes_back (P := Tryz.prog) (w.alloc (.cells #[.int .u8 x] 5)) 63 9 5 ⟨w.heap.size, 0, none⟩ 1 [c] Tryz.underlying63 Tryz.underlying5 Tryz.underlying9 (by
    intro j hj
    obtain rfl : j = 0 := by simp at hj; omega
    simp [Addr.add, go_sem, hc])
  exact this
theorem conv2 (x y : Int) (c d : UInt8) (w : World) (hc : ((c.toNat : Nat) : Int) = x) (hd : ((d.toNat : Nat) : Int) = y) :
    (convert 63 9 (.slice (some ⟨w.heap.size, 0, none⟩) 2 2)).run Tryz.prog (w.alloc (.cells #[.int .u8 x, .int .u8 y] 5)) = .ok (.string ⟨#[c, d]⟩) (w.alloc (.cells #[.int .u8 x, .int .u8 y] 5)) := by
  have := run_convert_bytes_back (P := Tryz.prog) (w.alloc (.cells #[.int .u8 x, .int .u8 y] 5)) 63 9 5 ⟨w.heap.size, 0, none⟩ 2 [c, d] Tryz.underlying63 Tryz.underlying5 Tryz.underlying9 (by
    intro j hj
    rcases (show j = 0 ∨ j = 1 by simp at hj; omega) with rfl | rfl
    · simp [Addr.add, go_sem, hc]
    · simp [Addr.add, go_sem, hd])
  exact this
set_option maxHeartbeats 800000 in
theorem rcol_any (n : Int) (w : World) : Calls Tryz.prog 79 #[.int .i64 n] w fun e w' => e = .returned (.string ⟨(Wpl.colS n).toArray⟩) ∧ Below w.heap.size w w' := by
  by_cases h0 : n < 0
  · have E : Hid (Wpl.colS n = []) := by show _ = _; unfold Wpl.colS; rw [Wpl.inB_not.2 (by omega)]; rfl
    go_enter Tryz.func79, Tryz.ntmps79
    go_wp2
    go_ret
    exact ⟨by rw [E.out]; rfl, by with_reducible repeat (first | exact Below.refl _ _ | refine x3_below_drewN ?_ _ | refine Below.setCell ?_ (by first | (simp; done) | (simp; omega) | omega) _ | refine Below.drew ?_ | refine x3_below_end ?_ (by assumption) | refine x3_ball ?_ _)⟩
  by_cases h1 : 256 ≤ n
  · have E : Hid (Wpl.colS n = []) := by show _ = _; unfold Wpl.colS; rw [Wpl.inB_not.2 (by omega)]; rfl
    go_enter Tryz.func79, Tryz.ntmps79
    go_wp2
    go_ret
    exact ⟨by rw [E.out]; rfl, by with_reducible repeat (first | exact Below.refl _ _ | refine x3_below_drewN ?_ _ | refine Below.setCell ?_ (by first | (simp; done) | (simp; omega) | omega) _ | refine Below.drew ?_ | refine x3_below_end ?_ (by assumption) | refine x3_ball ?_ _)⟩
  have E : Hid (Wpl.colS n = Wpl.colT n.toNat) := by show _ = _; unfold Wpl.colS; rw [Wpl.inB_iff.2 (by omega)]; rfl
  obtain ⟨m, rfl⟩ := Int.eq_ofNat_of_zero_le (show 0 ≤ n by omega)
  rw [Int.toNat_natCast] at E
  have h1' : (m : Int) < 256 := by omega
  by_cases h2 : m < 26
  · obtain ⟨c, ec⟩ : ∃ c, c = UInt8.ofNat (65 + m) := ⟨_, rfl⟩
    have E2 : Hid (Wpl.colS m = [c]) := by show _ = _; rw [E.out, ec]; unfold Wpl.colT; rw [if_pos h2]
    have hc := conv1 (65 + (m : Int)) c w (by rw [ec, byte_nat (by omega)]; omega)
    clear ec
    have h2' : (m : Int) < 26 := by omega
    clear E
    go_enter Tryz.func79, Tryz.ntmps79
    go_wp2
    go_ret
    exact ⟨by rw [E2.out]; rfl, by with_reducible repeat (first | exact Below.refl _ _ | refine x3_below_drewN ?_ _ | refine Below.setCell ?_ (by first | (simp; done) | (simp; omega) | omega) _ | refine Below.drew ?_ | refine x3_below_end ?_ (by assumption) | refine x3_ball ?_ _)⟩
  · obtain ⟨c, ec⟩ : ∃ c, c = UInt8.ofNat (65 + (m / 26 - 1)) := ⟨_, rfl⟩
    obtain ⟨d, ed⟩ : ∃ d, d = UInt8.ofNat (65 + m % 26) := ⟨_, rfl⟩
    have E2 : Hid (Wpl.colS m = [c, d]) := by show _ = _; rw [E.out, ec, ed]; unfold Wpl.colT; rw [if_neg h2]
    have hc := conv2 (65 + (m : Int) / 26 - 1) (65 + (m : Int) % 26) c d w (by rw [ec, byte_nat (by omega)]; omega) (by rw [ed, byte_nat (by omega)]; omega)
    clear ec ed
    have h2' : ¬ (m : Int) < 26 := by omega
    clear E
    go_enter Tryz.func79, Tryz.ntmps79
    go_wp2
    go_ret
    exact ⟨by rw [E2.out]; rfl, by with_reducible repeat (first | exact Below.refl _ _ | refine x3_below_drewN ?_ _ | refine Below.setCell ?_ (by first | (simp; done) | (simp; omega) | omega) _ | refine Below.drew ?_ | refine x3_below_end ?_ (by assumption) | refine x3_ball ?_ _)⟩
theorem x3_dd_small {u : Nat} (h : u < 10) : Lib.decDigits u = [UInt8.ofNat (48 + u % 10)] := by
  unfold Lib.decDigits
  rw [dif_pos h, Nat.mod_eq_of_lt h]
theorem x3_dd_more {u : Nat} (h : ¬ u < 10) : Lib.decDigits u = Lib.decDigits (u / 10) ++ [UInt8.ofNat (48 + u % 10)] := by
  conv => lhs; unfold Lib.decDigits
  rw [dif_neg h]
set_option maxHeartbeats 800000 in
theorem rdigits_any (n : Nat) (w : World) (hn : n ≤ 1000000000) :
    Calls Tryz.prog 111 #[.int .i64 (n : Int)] w fun e w' => e = .returned (.string ⟨(Lib.decDigits n).toArray⟩) ∧ Below w.heap.size w w' := by
  have DL := Wpl.dd_len n (by omega)
  go_enter Tryz.func111, Tryz.ntmps111
  go_wp2
  go_loopw [0, 3] (fun x s wr => ∃ (u : Nat) (l : List UInt8), x = .int .i64 u ∧ s = .string ⟨l.toArray⟩ ∧ u ≤ 1000000000 ∧ Hid (Lib.decDigits n = Lib.decDigits u ++ l) ∧ Below w.heap.size w wr) (fun x _ _ => (intOf x).toNat)
  case atStart => exact ⟨n, [], rfl, rfl, hn, (by rw [List.append_nil] : Lib.decDigits n = Lib.decDigits n ++ []), Below.refl _ _⟩
  case round =>
    obtain ⟨u, l, rfl, rfl, hu, HI, qB⟩ := hrel
    have ll : l.length ≤ 21 := by
      have := congrArg List.length HI.out
      rw [List.length_append] at this
      omega
    obtain ⟨c, ec⟩ : ∃ c, c = UInt8.ofNat (48 + u % 10) := ⟨_, rfl⟩
    have hc : ((c.toNat : Nat) : Int) = 48 + (u : Int) % 10 := by rw [ec, byte_nat (by omega)]; omega
    have hcv := conv1 (48 + (u : Int) % 10) c wr hc
    have EC : Hid (c = UInt8.ofNat (48 + u % 10)) := ec
    clear ec
    have hB := x3_ball qB (.cells #[.int .u8 (48 + (u : Int) % 10)] 5)
    by_cases h10 : u < 10
    · have E : Hid (Lib.decDigits n = c :: l) := by show _ = _; rw [HI.out, x3_dd_small h10, EC.out]; rfl
      have q0 : ((u : Int) / 10 == 0) = true := by rw [beq_iff_eq]; omega
      go_wp2
      go_ret
      refine ⟨?_, hB⟩
      rw [E.out]
      exact congrArg (fun x => Ending.returned (Value.string x)) (x3_app_mk [c] l)
    · have E : Hid (Lib.decDigits n = Lib.decDigits (u / 10) ++ (c :: l)) := by show _ = _; rw [HI.out, x3_dd_more h10, EC.out, List.append_assoc]; rfl
      have q0 : ((u : Int) / 10 == 0) = false := by rw [beq_eq_false_iff_ne]; omega
      go_wp2
      go_roundw
      case rel => exact ⟨u / 10, c :: l, by go_num, congrArg Value.string (x3_app_mk [c] l), by omega, E, hB⟩
      case measure => simp [intOf]; omega
open Go.Shelf Go.RowKit
def x3_laysItoa_ren : Go.Shelf.Ren := ⟨fun | 171 => 150 | 243 => 170 | 246 => 190 | 283 => 197 | 284 => 198 | 285 => 199 | 286 => 200 | 129 => 206 | 317 => 205 | 318 => 207 | 319 => 208 | 320 => 209 | 337 => 214 | 338 => 215 | n => n, fun | 3 => 3 | 9 => 9 | 2 => 2 | 4 => 4 | 171 => 197 | 0 => 0 | 53 => 141 | 37 => 63 | 5 => 5 | 173 => 200 | 212 => 208 | 51 => 186 | 20 => 20 | 213 => 209 | 46 => 174 | 232 => 215 | 233 => 216 | n => n, fun | 17 => 5 | 18 => 6 | 19 => 7 | n => n⟩
theorem x3_laysItoa : Go.Proofs.LaysM.n171 Tryz.prog x3_laysItoa_ren := {
  mixed := by kernel_rfl
  f129 := Tryz.func206.trans (congrArg some (by kernel_rfl))
  f171 := Tryz.func150.trans (congrArg some (by kernel_rfl))
  f243 := Tryz.func170.trans (congrArg some (by kernel_rfl))
  f246 := Tryz.func190.trans (congrArg some (by kernel_rfl))
  f283 := Tryz.func197.trans (congrArg some (by kernel_rfl))
  f284 := Tryz.func198.trans (congrArg some (by kernel_rfl))
  f285 := Tryz.func199.trans (congrArg some (by kernel_rfl))
  f286 := Tryz.func200.trans (congrArg some (by kernel_rfl))
  f317 := Tryz.func205.trans (congrArg some (by kernel_rfl))
  f318 := Tryz.func207.trans (congrArg some (by kernel_rfl))
  f319 := Tryz.func208.trans (congrArg some (by kernel_rfl))
  f320 := Tryz.func209.trans (congrArg some (by kernel_rfl))
  f337 := Tryz.func214.trans (congrArg some (by kernel_rfl))
  f338 := Tryz.func215.trans (congrArg some (by kernel_rfl))
  t0 := Tryz.underlying0
  a0 := Tryz.isAgg0
  z0 := Tryz.sizeOf0
  v0 := Tryz.zeroValue0
  t2 := Tryz.underlying2
  a2 := Tryz.isAgg2
  z2 := Tryz.sizeOf2
  v2 := Tryz.zeroValue2
  t3 := Tryz.underlying3
  a3 := Tryz.isAgg3
  z3 := Tryz.sizeOf3
  v3 := Tryz.zeroValue3
  t4 := Tryz.underlying4
  a4 := Tryz.isAgg4
  z4 := Tryz.sizeOf4
  v4 := Tryz.zeroValue4
  t5 := Tryz.underlying5
  a5 := Tryz.isAgg5
  z5 := Tryz.sizeOf5
  v5 := Tryz.zeroValue5
  t9 := Tryz.underlying9
  a9 := Tryz.isAgg9
  z9 := Tryz.sizeOf9
  v9 := Tryz.zeroValue9
  t20 := Tryz.underlying20
  a20 := Tryz.isAgg20
  z20 := Tryz.sizeOf20
  v20 := Tryz.zeroValue20
  t37 := Tryz.underlying63
  a37 := Tryz.isAgg63
  z37 := Tryz.sizeOf63
  v37 := Tryz.zeroValue63
  t46 := Tryz.underlying174
  a46 := Tryz.isAgg174
  z46 := Tryz.sizeOf174
  v46 := Tryz.zeroValue174
  t51 := Tryz.underlying186
  a51 := Tryz.isAgg186
  z51 := Tryz.sizeOf186
  v51 := Tryz.zeroValue186
  t53 := Tryz.underlying141
  a53 := Tryz.isAgg141
  z53 := Tryz.sizeOf141
  v53 := Tryz.zeroValue141
  t171 := Tryz.underlying197
  a171 := Tryz.isAgg197
  z171 := Tryz.sizeOf197
  v171 := Tryz.zeroValue197
  t173 := Tryz.underlying200
  a173 := Tryz.isAgg200
  z173 := Tryz.sizeOf200
  v173 := Tryz.zeroValue200
  t212 := Tryz.underlying208
  a212 := Tryz.isAgg208
  z212 := Tryz.sizeOf208
  v212 := Tryz.zeroValue208
  t213 := Tryz.underlying209
  a213 := Tryz.isAgg209
  z213 := Tryz.sizeOf209
  t232 := Tryz.underlying215
  a232 := Tryz.isAgg215
  z232 := Tryz.sizeOf215
  v232 := Tryz.zeroValue215
  t233 := Tryz.underlying216
  a233 := Tryz.isAgg216
  z233 := Tryz.sizeOf216
  v233 := Tryz.zeroValue216
  g17 := by kernel_rfl
  g18 := by kernel_rfl
  g19 := by kernel_rfl
  i0 := by kernel_rfl
  i2 := by kernel_rfl
  i3 := by kernel_rfl
  i4 := by kernel_rfl
  i5 := by kernel_rfl
  i9 := by kernel_rfl
  i20 := by kernel_rfl
  i37 := by kernel_rfl
  i46 := by kernel_rfl
  i51 := by kernel_rfl
  i53 := by kernel_rfl
  i171 := by kernel_rfl
  i173 := by kernel_rfl
  i212 := by kernel_rfl
  i232 := by kernel_rfl
  i233 := by kernel_rfl
  m17 := by kernel_rfl
  m18 := by kernel_rfl
  m19 := by kernel_rfl }
theorem x3_itoa_any (n : Int) (w : World) (h0 : -9223372036854775808 ≤ n) (h1 : n ≤ 9223372036854775807) (htab : Lib.TabIs Tryz.prog w "internal/strconv.uint64pow10" .u64 Lib.pow10Tab) :
    Calls Tryz.prog 150 #[.int .i64 n] w fun e w' => e = .returned (.string ⟨(Lib.itoa n).toArray⟩) ∧ Below w.heap.size w w' :=
  (Any.strconv_Itoa x3_laysItoa n h0 h1 w htab).mono fun e w' ⟨he, k, os, hw⟩ => ⟨he, by rw [hw]; exact Lib.below_grow _ w (Nat.le_refl _) k os⟩
end Go.Proofs.YtlggnpohhahdlaaGreatDoor
namespace Wpl
def num (s t l r k : Int) : Cl := ⟨s, t + k / (r - l + 1), l + k % (r - l + 1)⟩
end Wpl
namespace Go.Proofs.YtlggnpohhahdlaaGreatDoor
open Go.RowKit
set_option linter.unusedVariables false
theorem x3_rright_any (s r c : Int) (w : World) :
    Calls Tryz.prog 110 #[.agg #[.int .i64 s, .int .i64 r, .int .i64 c]] w fun e w' => e = .returned (.bool (Wpl.rightC s r c)) ∧ Below w.heap.size w w' := by
  by_cases h0 : 0 ≤ s
  · by_cases h1 : s < 16
    · by_cases h2 : 0 ≤ r
      · by_cases h3 : r < 65536
        · by_cases h4 : 0 ≤ c
          · have e : Hid (Wpl.rightC s r c = decide (c < 256)) := by
              show _ = _; rw [Bool.eq_iff_iff, Wpl.rightC_iff]; simp; omega
            go_enter Tryz.func110, Tryz.ntmps110
            go_wp2
            go_ret
            exact ⟨by rw [e.out]; rfl, by with_reducible repeat (first | exact Below.refl _ _ | refine x3_below_drewN ?_ _ | refine Below.setCell ?_ (by first | (simp; done) | (simp; omega) | omega) _ | refine Below.drew ?_ | refine x3_below_end ?_ (by assumption) | refine x3_ball ?_ _)⟩
          · have e : Hid (Wpl.rightC s r c = false) := by show _ = _; rw [Wpl.rightC_not]; omega
            go_enter Tryz.func110, Tryz.ntmps110
            go_wp2
            go_ret
            exact ⟨by rw [e.out]; rfl, by with_reducible repeat (first | exact Below.refl _ _ | refine x3_below_drewN ?_ _ | refine Below.setCell ?_ (by first | (simp; done) | (simp; omega) | omega) _ | refine Below.drew ?_ | refine x3_below_end ?_ (by assumption) | refine x3_ball ?_ _)⟩
        · have e : Hid (Wpl.rightC s r c = false) := by show _ = _; rw [Wpl.rightC_not]; omega
          go_enter Tryz.func110, Tryz.ntmps110
          go_wp2
          go_ret
          exact ⟨by rw [e.out]; rfl, by with_reducible repeat (first | exact Below.refl _ _ | refine x3_below_drewN ?_ _ | refine Below.setCell ?_ (by first | (simp; done) | (simp; omega) | omega) _ | refine Below.drew ?_ | refine x3_below_end ?_ (by assumption) | refine x3_ball ?_ _)⟩
      · have e : Hid (Wpl.rightC s r c = false) := by show _ = _; rw [Wpl.rightC_not]; omega
        go_enter Tryz.func110, Tryz.ntmps110
        go_wp2
        go_ret
        exact ⟨by rw [e.out]; rfl, by with_reducible repeat (first | exact Below.refl _ _ | refine x3_below_drewN ?_ _ | refine Below.setCell ?_ (by first | (simp; done) | (simp; omega) | omega) _ | refine Below.drew ?_ | refine x3_below_end ?_ (by assumption) | refine x3_ball ?_ _)⟩
    · have e : Hid (Wpl.rightC s r c = false) := by show _ = _; rw [Wpl.rightC_not]; omega
      go_enter Tryz.func110, Tryz.ntmps110
      go_wp2
      go_ret
      exact ⟨by rw [e.out]; rfl, by with_reducible repeat (first | exact Below.refl _ _ | refine x3_below_drewN ?_ _ | refine Below.setCell ?_ (by first | (simp; done) | (simp; omega) | omega) _ | refine Below.drew ?_ | refine x3_below_end ?_ (by assumption) | refine x3_ball ?_ _)⟩
  · have e : Hid (Wpl.rightC s r c = false) := by show _ = _; rw [Wpl.rightC_not]; omega
    go_enter Tryz.func110, Tryz.ntmps110
    go_wp2
    go_ret
    exact ⟨by rw [e.out]; rfl, by with_reducible repeat (first | exact Below.refl _ _ | refine x3_below_drewN ?_ _ | refine Below.setCell ?_ (by first | (simp; done) | (simp; omega) | omega) _ | refine Below.drew ?_ | refine x3_below_end ?_ (by assumption) | refine x3_ball ?_ _)⟩
theorem x3_itoa_nat {n : Int} (h : 0 ≤ n) : Lib.itoa n = Lib.decDigits n.toNat := by unfold Lib.itoa; rw [if_neg (by omega)]
set_option maxRecDepth 100000 in
set_option maxHeartbeats 1600000 in
theorem rname_any (s r c : Int) (w : World) :
    Calls Tryz.prog 80 #[.agg #[.int .i64 s, .int .i64 r, .int .i64 c]] w fun e w' => e = .returned (.string ⟨(Wpl.nameS s r c).toArray⟩) ∧ Below w.heap.size w w' := by
  have R := fun w => x3_rright_any s r c w
  cases h : Wpl.rightC s r c with
  | false =>
    have E : Hid (Wpl.nameS s r c = []) := Wpl.nameS_neg h
    rw [h] at R; clear h
    go_enter Tryz.func80, Tryz.ntmps80
    go_wp2_with fail
    refine (R _).mono ?_
    rintro e w1 ⟨rfl, hb1⟩
    go_wp2
    go_ret
    exact ⟨by rw [E.out]; rfl, by with_reducible repeat (first | exact Below.refl _ _ | refine x3_below_drewN ?_ _ | refine Below.setCell ?_ (by first | (simp; done) | (simp; omega) | omega) _ | refine Below.drew ?_ | refine x3_below_end ?_ (by assumption) | refine x3_ball ?_ _)⟩
  | true =>
    have hh := Wpl.rightC_iff.1 h
    have l1 := Wpl.colS_len c
    have l2 := Wpl.dd_len (r + 1).toNat (by omega)
    have E : Hid (Wpl.nameS s r c = Wpl.colS c ++ Lib.decDigits (r + 1).toNat) := Wpl.nameS_pos h
    have CC := fun w => rcol_any c w
    have II := fun w => rdigits_any (r + 1).toNat w (by omega)
    rw [show (((r + 1).toNat : Nat) : Int) = r + 1 by omega] at II
    rw [h] at R; clear h
    generalize Wpl.colS c = x at *
    generalize Lib.decDigits (r + 1).toNat = y at *
    have hw : IntKind.i64.wrap (r + 1) = r + 1 := IntWalk.i64_in _ (by omega)
    have lx : ¬ 9223372036854775807 < x.length + y.length := by omega
    go_enter Tryz.func80, Tryz.ntmps80
    go_wp2_with fail
    refine (R _).mono ?_
    rintro e w1 ⟨rfl, hb1⟩
    have pC : AtL w1 w.heap.size [.int .i64 s, .int .i64 r, .int .i64 c] := AtL.below hb1 (AtL.new0 w 128 _)
    have hB : Below w.heap.size w w1 := by with_reducible repeat (first | exact Below.refl _ _ | refine x3_below_drewN ?_ _ | refine Below.setCell ?_ (by first | (simp; done) | (simp; omega) | omega) _ | refine Below.drew ?_ | refine x3_below_end ?_ (by assumption) | refine x3_ball ?_ _)
    clear hb1
    have hS : Three w1 w.heap.size (.int .i64 s) (.int .i64 r) (.int .i64 c) := pC.f3
    clear pC
    go_wp2_with fail
    go_region_held3 (fun W => W.cell? ⟨w.heap.size, 0, none⟩ = some (.int .i64 s) ∧ W.cell? ⟨w.heap.size, 1, none⟩ = some (.int .i64 r) ∧ W.cell? ⟨w.heap.size, 2, none⟩ = some (.int .i64 c))
      (with_reducible first | exact hS | assumption | exact three_drew hS | exact three_below hb (by assumption))
      (first
      | (go_at_call 79; refine (CC _).mono ?_; rintro e w4 ⟨rfl, hb⟩; (with_reducible first | replace hB := x3_below_end hB.drew hb | replace hB := x3_below_end hB hb))
      | (go_at_call 111; refine (II _).mono ?_; rintro e w4 ⟨rfl, hb⟩; (with_reducible first | replace hB := x3_below_end hB.drew hb | replace hB := x3_below_end hB hb)))
    all_goals
      go_wp2
      go_ret
      refine ⟨?_, hB⟩
      rw [E.out]
      exact congrArg (fun x => Ending.returned (Value.string x)) (x3_app_mk x y)
def fx (b : Bool) : List UInt8 := if b then [36] else []
theorem fixed_any (b : Bool) (w : World) : Calls Tryz.prog 157 #[.bool b] w fun e w' => e = .returned (.string ⟨(fx b).toArray⟩) ∧ Below w.heap.size w w' := by
  cases b
  · go_enter Tryz.func157, Tryz.ntmps157
    go_wp2
    go_ret
    exact ⟨rfl, Below.refl _ _⟩
  · go_enter Tryz.func157, Tryz.ntmps157
    go_wp2
    go_ret
    exact ⟨rfl, Below.refl _ _⟩
def cw (a : Wt.Rf) : List UInt8 := fx a.fc ++ Wpl.colS a.c ++ fx a.fr ++ Lib.decDigits (a.r + 1).toNat
theorem fx_len (b : Bool) : (fx b).length ≤ 1 := by cases b <;> decide
set_option maxRecDepth 100000 in
set_option maxHeartbeats 3200000 in
theorem cellWord_any (a : Wt.Rf) (w : World) (h0 : 0 ≤ a.r) (h1 : a.r < 65536) (htab : Lib.TabIs Tryz.prog w "internal/strconv.uint64pow10" .u64 Lib.pow10Tab) :
    Calls Tryz.prog 129 #[rfV a] w fun e w' => e = .returned (.string ⟨(cw a).toArray⟩) ∧ Below w.heap.size w w' := by
  obtain ⟨s, r, c, fr, fc⟩ := a
  simp only at h0 h1
  unfold cw
  simp only
  show Calls _ _ #[.agg #[.string s, .int .i64 r, .int .i64 c, .bool fr, .bool fc]] _ _
  have TB := Lib.tabBelow_of_tabIs htab
  clear htab
  have F1 := fun w => fixed_any fc w
  have F2 := fun w => fixed_any fr w
  have l0 := fx_len fc
  have l3 := fx_len fr
  have l1 := Wpl.colS_len c
  have l2 := Wpl.dd_len (r + 1).toNat (by omega)
  have CC := fun w => col_any c w
  have II := fun w ht => x3_itoa_any (r + 1) w (by omega) (by omega) ht
  rw [x3_itoa_nat (show 0 ≤ r + 1 by omega)] at II
  generalize fx fc = u at *
  generalize fx fr = v at *
  generalize Wpl.colS c = x at *
  generalize Lib.decDigits (r + 1).toNat = y at *
  have hw : IntKind.i64.wrap (r + 1) = r + 1 := IntWalk.i64_in _ (by omega)
  have lx1 : ¬ 9223372036854775807 < u.length + x.length := by omega
  have lx2 : ¬ 9223372036854775807 < u.length + x.length + v.length := by omega
  have lx3 : ¬ 9223372036854775807 < u.length + x.length + v.length + y.length := by omega
  have hS0 := (AtL.new0 w 43 [.string s, .int .i64 r, .int .i64 c, .bool fr, .bool fc]).f5
  have hB := ball (Below.refl _ w) (.cells #[.string s, .int .i64 r, .int .i64 c, .bool fr, .bool fc] 43)
  go_enter Tryz.func129, Tryz.ntmps129
  go_upto_region 1 with fail
  go_region_held3 (fun W => W.cell? ⟨w.heap.size, 0, none⟩ = some (.string s) ∧ W.cell? ⟨w.heap.size, 1, none⟩ = some (.int .i64 r) ∧ W.cell? ⟨w.heap.size, 2, none⟩ = some (.int .i64 c) ∧ W.cell? ⟨w.heap.size, 3, none⟩ = some (.bool fr) ∧ W.cell? ⟨w.heap.size, 4, none⟩ = some (.bool fc))
    (with_reducible first | exact hS0 | assumption | exact five_drew hS0 | exact five_below hb (by assumption))
    (first
    | (go_at_call 157; refine (F1 _).mono ?_; rintro e w4 ⟨rfl, hb⟩; (with_reducible first | replace hB := below_end hB.drew hb | replace hB := below_end hB hb))
    | (go_at_call 157; refine (F2 _).mono ?_; rintro e w4 ⟨rfl, hb⟩; (with_reducible first | replace hB := below_end hB.drew hb | replace hB := below_end hB hb))
    | (go_at_call 158; refine (CC _).mono ?_; rintro e w4 ⟨rfl, hb⟩; (with_reducible first | replace hB := below_end hB.drew hb | replace hB := below_end hB hb))
    | (go_at_call 150; refine (II _ ((TB.on (by with_reducible first | exact hB | exact hB.drew)).here)).mono ?_; rintro e w4 ⟨rfl, hb⟩; (with_reducible first | replace hB := below_end hB.drew hb | replace hB := below_end hB hb)))
  all_goals
    go_wp2
    go_ret
    refine ⟨?_, hB⟩
    refine congrArg (fun x => Ending.returned (Value.string x)) ?_
    rw [x3_app_mk, x3_app_mk, x3_app_mk]
end Go.Proofs.YtlggnpohhahdlaaGreatDoor
namespace Wpl
def isL (c : UInt8) : Bool := decide (65 ≤ c.toNat ∧ c.toNat ≤ 90)
def isG (c : UInt8) : Bool := decide (48 ≤ c.toNat ∧ c.toNat ≤ 57)
def rc : Nat → List UInt8 → Nat × List UInt8
  | k, [] => (k, [])
  | k, c :: t => if isL c = true ∧ k ≤ 256 then rc (k * 26 + (c.toNat - 65) + 1) t else (k, c :: t)
def rd : Nat → List UInt8 → Nat × List UInt8
  | k, [] => (k, [])
  | k, c :: t => if isG c = true ∧ k ≤ 65536 then rd (k * 10 + (c.toNat - 48)) t else (k, c :: t)
def rr (l : List UInt8) : Nat × List UInt8 := if l.head? = some 48 then (0, l) else rd 0 l
def rdOk (l : List UInt8) : Bool := decide ((rr (rc 0 l).2).2 = [] ∧ 1 ≤ (rr (rc 0 l).2).1 ∧ (rr (rc 0 l).2).1 ≤ 65536 ∧ 1 ≤ (rc 0 l).1 ∧ (rc 0 l).1 ≤ 256)
def rdR (l : List UInt8) : Int := if rdOk l then ((rr (rc 0 l).2).1 : Int) - 1 else 0
def rdC (l : List UInt8) : Int := if rdOk l then ((rc 0 l).1 : Int) - 1 else 0
theorem rc_len (k : Nat) (l : List UInt8) : (rc k l).2.length ≤ l.length := by
  induction l generalizing k with
  | nil => simp [rc]
  | cons c t ih =>
    unfold rc
    split
    · have := ih (k * 26 + (c.toNat - 65) + 1); simp; omega
    · simp
theorem rc_bd (k : Nat) (l : List UInt8) (h : k ≤ 6682) : (rc k l).1 ≤ 6682 := by
  induction l generalizing k with
  | nil => simpa [rc] using h
  | cons c t ih =>
    unfold rc
    split
    · rename_i hh
      have hc := hh.1
      simp only [isL, decide_eq_true_eq] at hc
      exact ih _ (by omega)
    · exact h
theorem rd_bd (k : Nat) (l : List UInt8) (h : k ≤ 655369) : (rd k l).1 ≤ 655369 := by
  induction l generalizing k with
  | nil => simpa [rd] using h
  | cons c t ih =>
    unfold rd
    split
    · rename_i hh
      have hc := hh.1
      simp only [isG, decide_eq_true_eq] at hc
      exact ih _ (by omega)
    · exact h
theorem rr_bd (l : List UInt8) : (rr l).1 ≤ 655369 := by
  unfold rr
  split
  · simp
  · exact rd_bd 0 l (by omega)
end Wpl
