/- WalkDs, WalkTx. -/
import Derived.Test.YtlggnpohhahdlaaGreatDoorQ29
import Derived.Shelf.Strings.Builder1
import Derived.Ground.NamesProg
import Derived.Deep.DeepCutAuto
namespace Go.Proofs.YtlggnpohhahdlaaGreatDoor
open Go.Shelf Go.RowKit
set_option linter.unusedVariables false
def lays169_ren : Go.Shelf.Ren := ⟨fun | 169 => 28 | n => n, fun | 70 => 62 | 9 => 9 | 0 => 0 | 72 => 65 | 37 => 63 | 127 => 92 | 3 => 3 | 5 => 5 | n => n, fun | n => n⟩
theorem lays169 : Go.Proofs.Lays.n169 Tryz.prog lays169_ren := {
  mixed := by kernel_rfl
  f169 := Tryz.func28.trans (congrArg some (by kernel_rfl))
  t0 := Tryz.underlying0
  a0 := Tryz.isAgg0
  z0 := Tryz.sizeOf0
  v0 := Tryz.zeroValue0
  t3 := Tryz.underlying3
  a3 := Tryz.isAgg3
  z3 := Tryz.sizeOf3
  v3 := Tryz.zeroValue3
  t9 := Tryz.underlying9
  a9 := Tryz.isAgg9
  z9 := Tryz.sizeOf9
  v9 := Tryz.zeroValue9
  t37 := Tryz.underlying63
  a37 := Tryz.isAgg63
  z37 := Tryz.sizeOf63
  v37 := Tryz.zeroValue63
  t70 := Tryz.underlying62
  a70 := Tryz.isAgg62
  z70 := Tryz.sizeOf62
  v70 := Tryz.zeroValue62
  t72 := Tryz.underlying65
  a72 := Tryz.isAgg65
  z72 := Tryz.sizeOf65
  v72 := Tryz.zeroValue65
  t127 := Tryz.underlying92
  a127 := Tryz.isAgg92
  z127 := Tryz.sizeOf92
  v127 := Tryz.zeroValue92 }
theorem extra169 : Builder.Extra Tryz.prog lays169_ren := {
  sizeBuilder := by kernel_rfl
  liesBuilder := by kernel_rfl
  t5 := Tryz.underlying5
  a5 := Tryz.isAgg5
  z5 := Tryz.sizeOf5
  v5 := Tryz.zeroValue5
  infoByte := by kernel_rfl
  cellsByte := by kernel_rfl
  sizeByte := by kernel_rfl
  neB5 := by decide }
theorem bstring (B b : Nat) (l : List UInt8) (w : World) (h : Lib.IsBuilder 65 5 B b (Lib.byteCells l) w) (hBw : B ≤ w.heap.size) :
    Calls Tryz.prog 28 #[.pointer (some ⟨b, 0, none⟩)] w fun e w' => e = .returned (.string ⟨l.toArray⟩) ∧ Below B w w' := Any.Builder_String_any lays169 extra169 B b l w h hBw
theorem q_byte {q : Nat} (h : q ≤ 9) : (((UInt8.ofNat (48 + q)).toNat : Nat) : Int) = 48 + (q : Int) := by
  have e : (UInt8.ofNat (48 + q)).toNat = 48 + q := by
    rw [UInt8.toNat_ofNat']
    exact Nat.mod_eq_of_lt (by omega)
  rw [e]; omega
set_option maxHeartbeats 1600000 in
theorem decimals_any (r d : Nat) (w : World) (hd : 0 < d) (hd2 : d ≤ 1000000) (hr : r < d) (hm : 1000000 % d = 0) :
    Calls Tryz.prog 152 #[.int .i64 (r : Int), .int .i64 (d : Int)] w fun e w' => e = .returned (.string ⟨(Wnum.decs d 6 r).toArray⟩) ∧ Below w.heap.size w w' := by
  have d0 : ¬ (d : Int) = 0 := by omega
  have EM : Hid (r * 10 ^ 6 % d = 0) := Wnum.ends_six hm
  clear hm
  go_enter Tryz.func152, Tryz.ntmps152
  go_wp2_with fail
  go_loopw [0] (fun x wr => ∃ (k r1 : Nat) (l : List UInt8), x = .int .i64 (r1 : Int) ∧ r1 < d ∧ k ≤ 6 ∧ Hid (r1 * 10 ^ k % d = 0) ∧ Hid (Wnum.decs d 6 r = l ++ Wnum.decs d k r1) ∧ l.length + k ≤ 6 ∧ Lib.IsBuilder 65 5 w.heap.size w.heap.size (Lib.byteCells l) wr ∧ Below w.heap.size w wr) (fun x _ => Wnum.fu d 6 (intOf x).toNat)
  case atStart => exact ⟨6, r, [], rfl, hr, Nat.le_refl _, EM, (rfl : Wnum.decs d 6 r = [] ++ Wnum.decs d 6 r), by simp, Lib.fresh_isBuilder 65 5 w, (Below.refl _ w).alloc (Nat.le_refl _) _⟩
  case round =>
    obtain ⟨k, r1, l, rfl, h1, hk, HE, HD, hl, hI, qB⟩ := hrel
    have s1 := qB.size
    by_cases h0 : r1 = 0
    · have E : Hid (Wnum.decs d 6 r = l) := by show _ = _; rw [HD.out, h0, Wnum.decs_zero, List.append_nil]
      have r0 : ((r1 : Int) != 0) = false := by simp [h0]
      clear h0
      go_wp2_with fail
      refine (bstring _ _ l _ hI s1).mono ?_
      rintro e w2 ⟨rfl, hb2⟩
      go_wp2
      go_ret
      exact ⟨by rw [E.out]; rfl, qB.trans hb2⟩
    · obtain ⟨k', rfl⟩ : ∃ k', k = k' + 1 := by
        cases k with
        | zero => exact absurd (Wnum.ends_zero h1 HE.out) h0
        | succ k' => exact ⟨k', rfl⟩
      have hq : r1 * 10 / d ≤ 9 := by
        have : r1 * 10 / d < 10 := (Nat.div_lt_iff_lt_mul hd).2 (by omega)
        omega
      have e1 : (r1 : Int) * 10 / (d : Int) = ((r1 * 10 / d : Nat) : Int) := by rw [Int.natCast_ediv, Int.natCast_mul]; rfl
      have e2 : (r1 : Int) * 10 % (d : Int) = ((r1 * 10 % d : Nat) : Int) := by rw [Int.natCast_emod, Int.natCast_mul]; rfl
      have L : Hid (Wnum.fu d 6 (r1 * 10 % d) < Wnum.fu d 6 r1) := Wnum.fu_less hd h1 h0 hk HE.out
      have HE2 : Hid (r1 * 10 % d * 10 ^ k' % d = 0) := Wnum.ends_step HE.out
      have lt2 : r1 * 10 % d < d := Nat.mod_lt _ hd
      have HD2 : Hid (Wnum.decs d 6 r = (l ++ [UInt8.ofNat (48 + r1 * 10 / d)]) ++ Wnum.decs d k' (r1 * 10 % d)) := by
        show _ = _
        rw [HD.out, Wnum.decs_more h0, List.append_assoc]; rfl
      have hb := q_byte hq
      have r0 : ((r1 : Int) != 0) = true := by rw [bne_iff_ne]; omega
      generalize r1 * 10 / d = q at *
      generalize hr2 : r1 * 10 % d = r2 at *
      clear hr2 HE HD
      have ec : Lib.byteCells l ++ [Value.int .u8 (48 + (q : Int))] = Lib.byteCells (l ++ [UInt8.ofNat (48 + q)]) := by
        rw [Lib.byteCells_append]
        show _ = Lib.byteCells l ++ [Value.int .u8 (((UInt8.ofNat (48 + q)).toNat : Nat) : Int)]
        rw [hb]
      have WB := wbyte (48 + (q : Int)) wr hI (by rw [Lib.byteCells_length]; omega) s1
      rw [ec] at WB
      clear hb ec
      go_wp2_with fail
      refine WB.mono ?_
      rintro e w2 ⟨rfl, hI2, hb2⟩
      go_wp2_with fail
      go_roundw
      case rel => exact ⟨k', r2, l ++ [UInt8.ofNat (48 + q)], by rw [e2], lt2, by omega, HE2, HD2, by rw [List.length_append, List.length_singleton]; omega, hI2, qB.trans hb2⟩
      case measure => simpa [intOf, e2] using L.out
theorem itoa_b (n : Int) (w : World) (h0 : -9223372036854775808 ≤ n) (h1 : n ≤ 9223372036854775807) (htab : Lib.TabIs Tryz.prog w "internal/strconv.uint64pow10" .u64 Lib.pow10Tab) :
    Calls Tryz.prog 150 #[.int .i64 n] w fun e w' => e = .returned (.string ⟨(Lib.itoa n).toArray⟩) ∧ Below w.heap.size w w' :=
  (itoa_any n h0 h1 w htab).mono fun e w' ⟨he, k, os, hw⟩ => ⟨he, by rw [hw]; exact Lib.below_grow _ w (Nat.le_refl _) k os⟩
set_option maxRecDepth 100000 in
set_option maxHeartbeats 3200000 in
theorem text_one (a b : Int) (l : List UInt8) (w : World) (h1 : -9223372036854775808 ≤ a) (h2 : a ≤ 9223372036854775807) (h3 : -9223372036854775808 ≤ b) (h4 : b ≤ 9223372036854775807) (hd : (Wnum.cD a b == 1) = true) (hl : Lib.itoa (Wnum.cN a b) = l) (htab : Lib.TabIs Tryz.prog w "internal/strconv.uint64pow10" .u64 Lib.pow10Tab) :
    Calls Tryz.prog 126 #[.agg #[.int .i64 a, .int .i64 b]] w fun e w' => e = .returned (.string ⟨l.toArray⟩) ∧ Below w.heap.size w w' := by
  have TB := Lib.tabBelow_of_tabIs htab
  obtain ⟨n1, n2⟩ := Wnum.cN_bd a b
  obtain ⟨n3, n4⟩ := Wnum.cD_bd a b
  have L : Hid (Lib.itoa (Wnum.cN a b) = l) := hl
  clear hl
  go_enter Tryz.func126, Tryz.ntmps126
  go_wp2_with fail
  refine (counted_any _ _ _ h1 h2 h3 h4).mono ?_
  rintro e w1 ⟨rfl, hb1⟩
  have pA : At w1 w.heap.size (.int .i64 a) (.int .i64 b) := At.below hb1 (At.new w _ rfl _ _)
  have hB : Below w.heap.size w w1 := by with_reducible repeat (first | exact Below.refl _ _ | refine below_drewN ?_ _ | refine Below.setCell ?_ (by first | (simp; done) | (simp; omega) | omega) _ | refine Below.drew ?_ | refine below_end ?_ (by assumption) | refine ball ?_ _)
  clear hb1
  have pA' := pA
  obtain ⟨a1, a2, a3, a4⟩ := pA'
  go_upto_region 2 with fail
  have qA := pA.put (.int .i64 (Wnum.cN a b)) (.int .i64 (Wnum.cD a b))
  have qD := put_below hB (k := w.heap.size) (by omega) (.int .i64 (Wnum.cN a b)) (.int .i64 (Wnum.cD a b))
  clear pA hB a1 a2 a3 a4
  generalize (w1.setCell ⟨w.heap.size, 0, none⟩ (.int .i64 (Wnum.cN a b))).setCell ⟨w.heap.size, 1, none⟩ (.int .i64 (Wnum.cD a b)) = W1 at *
  clear w1
  have qA' := qA
  obtain ⟨a1, a2, a3, a4⟩ := qA'
  go_wp2_with fail
  refine (itoa_b _ _ (by omega) (by omega) (TB.on qD).here).mono ?_
  rintro e w2 ⟨rfl, hb2⟩
  rw [L.out]
  have qE := below_end qD hb2
  go_wp2
  go_ret
  exact ⟨rfl, qE⟩
set_option maxRecDepth 100000 in
set_option maxHeartbeats 3200000 in
theorem text_frac (a b : Int) (l1 l2 : List UInt8) (w : World) (h1 : -9223372036854775808 ≤ a) (h2 : a ≤ 9223372036854775807) (h3 : -9223372036854775808 ≤ b) (h4 : b ≤ 9223372036854775807) (hd : (Wnum.cD a b == 1) = false) (hm : (1000000 % Wnum.cD a b != 0) = true) (hl1 : Lib.itoa (Wnum.cN a b) = l1) (hl2 : Lib.itoa (Wnum.cD a b) = l2) (htab : Lib.TabIs Tryz.prog w "internal/strconv.uint64pow10" .u64 Lib.pow10Tab) :
    Calls Tryz.prog 126 #[.agg #[.int .i64 a, .int .i64 b]] w fun e w' => e = .returned (.string ⟨(l1 ++ 47 :: l2).toArray⟩) ∧ Below w.heap.size w w' := by
  have TB := Lib.tabBelow_of_tabIs htab
  obtain ⟨n1, n2⟩ := Wnum.cN_bd a b
  obtain ⟨n3, n4⟩ := Wnum.cD_bd a b
  have L1 : Hid (Lib.itoa (Wnum.cN a b) = l1) := hl1
  have L2 : Hid (Lib.itoa (Wnum.cD a b) = l2) := hl2
  have s1 : l1.length ≤ 21 := by rw [← hl1]; exact Lib.itoa_length_le _ (by omega) (by omega)
  have s2 : l2.length ≤ 21 := by rw [← hl2]; exact Lib.itoa_length_le _ (by omega) (by omega)
  clear hl1 hl2
  have z1 : ¬ 9223372036854775807 < l1.length + 1 := by omega
  have z2 : ¬ 9223372036854775807 < l1.length + 1 + l2.length := by omega
  have z3 : ¬ 9223372036854775807 < l1.length + (1 + l2.length) := by omega
  have z4 : ¬ 9223372036854775807 < l1.length := by omega
  have y6 : ¬ Wnum.cD a b = 0 := by omega
  go_enter Tryz.func126, Tryz.ntmps126
  go_wp2_with fail
  refine (counted_any _ _ _ h1 h2 h3 h4).mono ?_
  rintro e w1 ⟨rfl, hb1⟩
  have pA : At w1 w.heap.size (.int .i64 a) (.int .i64 b) := At.below hb1 (At.new w _ rfl _ _)
  have hB : Below w.heap.size w w1 := by with_reducible repeat (first | exact Below.refl _ _ | refine below_drewN ?_ _ | refine Below.setCell ?_ (by first | (simp; done) | (simp; omega) | omega) _ | refine Below.drew ?_ | refine below_end ?_ (by assumption) | refine ball ?_ _)
  clear hb1
  have pA' := pA
  obtain ⟨a1, a2, a3, a4⟩ := pA'
  go_upto_region 2 with fail
  have qA := pA.put (.int .i64 (Wnum.cN a b)) (.int .i64 (Wnum.cD a b))
  have qD := put_below hB (k := w.heap.size) (by omega) (.int .i64 (Wnum.cN a b)) (.int .i64 (Wnum.cD a b))
  clear pA hB a1 a2 a3 a4
  generalize (w1.setCell ⟨w.heap.size, 0, none⟩ (.int .i64 (Wnum.cN a b))).setCell ⟨w.heap.size, 1, none⟩ (.int .i64 (Wnum.cD a b)) = W1 at *
  clear w1
  have qA' := qA
  obtain ⟨a1, a2, a3, a4⟩ := qA'
  have qE := qD.drew
  go_wp2_with fail
  go_region_held3 (fun W => W.cell? ⟨w.heap.size, 0, none⟩ = some (.int .i64 (Wnum.cN a b)) ∧ W.cell? ⟨w.heap.size, 1, none⟩ = some (.int .i64 (Wnum.cD a b))) (first | exact ⟨a1, a2⟩ | exact keep2 hbq (by assumption) | assumption)
    (first
      | (go_at_call 150; refine (itoa_b _ _ (by omega) (by omega) (TB.on qE).here).mono ?_; rintro e wq ⟨rfl, hbq⟩; (first | rw [L1.out] | rw [L2.out]); have qE := below_end qE hbq))
  all_goals
    go_wp2
    go_ret
    refine ⟨?_, qE⟩
    exact congrArg (fun x => Ending.returned (Value.string x)) (by rw [show (ByteArray.mk #[47]) = ⟨[(47 : UInt8)].toArray⟩ from rfl, app_mk, app_mk, List.append_assoc]; rfl)
set_option maxRecDepth 100000 in
set_option maxHeartbeats 3200000 in
theorem text_point (a b : Int) (W0 R0 : Nat) (l1 l2 l r : List UInt8) (w : World) (h1 : -9223372036854775808 ≤ a) (h2 : a ≤ 9223372036854775807) (h3 : -9223372036854775808 ≤ b) (h4 : b ≤ 9223372036854775807) (hd : (Wnum.cD a b == 1) = false) (hm : (1000000 % Wnum.cD a b != 0) = false) (hm2 : 1000000 % (Wnum.cD a b).toNat = 0) (hW : ((Wnum.cN a b).natAbs : Int) / Wnum.cD a b = (W0 : Int)) (hR : ((Wnum.cN a b).natAbs : Int) % Wnum.cD a b = (R0 : Int)) (hW2 : (W0 : Int) ≤ 1000000000000) (hR2 : (R0 : Int) < Wnum.cD a b) (hl1 : Lib.itoa (W0 : Int) = l1) (hl2 : Wnum.decs (Wnum.cD a b).toNat 6 R0 = l2) (hl : l1 ++ 46 :: l2 = l) (hrn : Wnum.cN a b < 0 → r = 45 :: l) (hrp : ¬ Wnum.cN a b < 0 → r = l) (htab : Lib.TabIs Tryz.prog w "internal/strconv.uint64pow10" .u64 Lib.pow10Tab) :
    Calls Tryz.prog 126 #[.agg #[.int .i64 a, .int .i64 b]] w fun e w' => e = .returned (.string ⟨r.toArray⟩) ∧ Below w.heap.size w w' := by
  have TB := Lib.tabBelow_of_tabIs htab
  obtain ⟨n1, n2⟩ := Wnum.cN_bd a b
  obtain ⟨n3, n4⟩ := Wnum.cD_bd a b
  have L1 : Hid (Lib.itoa (W0 : Int) = l1) := hl1
  have s1 : l1.length ≤ 21 := by rw [← hl1]; exact Lib.itoa_length_le _ (by omega) (by omega)
  have s2 : l2.length ≤ 6 := by rw [← hl2]; exact Wnum.decs_length _ _ _
  have DC := fun w => decimals_any R0 (Wnum.cD a b).toNat w (by omega) (by omega) (by omega) hm2
  rw [hl2, show (((Wnum.cD a b).toNat : Nat) : Int) = Wnum.cD a b by omega] at DC
  have LL : Hid (l1 ++ 46 :: l2 = l) := hl
  have RN : Hid (Wnum.cN a b < 0 → r = 45 :: l) := hrn
  have RP : Hid (0 ≤ Wnum.cN a b → r = l) := fun h => hrp (by omega)
  have sz : l.length ≤ 100 := by rw [← hl]; simp; omega
  clear hl1 hl2 hm2 hl hrn hrp
  have z1 : ¬ 9223372036854775807 < l1.length + 1 := by omega
  have z2 : ¬ 9223372036854775807 < l1.length + 1 + l2.length := by omega
  have z3 : ¬ 9223372036854775807 < l1.length + (1 + l2.length) := by omega
  have z4 : ¬ 9223372036854775807 < l1.length := by omega
  have y6 : ¬ Wnum.cD a b = 0 := by omega
  go_enter Tryz.func126, Tryz.ntmps126
  go_wp2_with fail
  refine (counted_any _ _ _ h1 h2 h3 h4).mono ?_
  rintro e w1 ⟨rfl, hb1⟩
  have pA : At w1 w.heap.size (.int .i64 a) (.int .i64 b) := At.below hb1 (At.new w _ rfl _ _)
  have hB : Below w.heap.size w w1 := by with_reducible repeat (first | exact Below.refl _ _ | refine below_drewN ?_ _ | refine Below.setCell ?_ (by first | (simp; done) | (simp; omega) | omega) _ | refine Below.drew ?_ | refine below_end ?_ (by assumption) | refine ball ?_ _)
  clear hb1
  have pA' := pA
  obtain ⟨a1, a2, a3, a4⟩ := pA'
  go_upto_region 2 with fail
  have qA := pA.put (.int .i64 (Wnum.cN a b)) (.int .i64 (Wnum.cD a b))
  have qD := put_below hB (k := w.heap.size) (by omega) (.int .i64 (Wnum.cN a b)) (.int .i64 (Wnum.cD a b))
  clear pA hB a1 a2 a3 a4
  generalize (w1.setCell ⟨w.heap.size, 0, none⟩ (.int .i64 (Wnum.cN a b))).setCell ⟨w.heap.size, 1, none⟩ (.int .i64 (Wnum.cD a b)) = W1 at *
  clear w1
  have qA' := qA
  obtain ⟨a1, a2, a3, a4⟩ := qA'
  go_wp2_with fail
  go_quiet ((go_at_call 151; exact Calls.quiet_of_same (flip_w (size_any _ _ (by omega) (by omega)))))
  go_wp2_with fail
  have rA := qA.drewN nq
  have rD := below_drewN qD nq
  clear qA qD a1 a2 a3 a4
  generalize W1.drewN nq = W2 at *
  clear W1 nq
  have rA' := rA
  obtain ⟨a1, a2, a3, a4⟩ := rA'
  have qE := rD.drew
  go_cut [4, 5] (fun s4 s5 wx => s4 = .int .i64 (R0 : Int) ∧ s5 = .string ⟨l.toArray⟩ ∧ Below w.heap.size w wx ∧ At wx w.heap.size (.int .i64 (Wnum.cN a b)) (.int .i64 (Wnum.cD a b)))
  case first =>
    go_region_held3 (fun W => W.cell? ⟨w.heap.size, 0, none⟩ = some (.int .i64 (Wnum.cN a b)) ∧ W.cell? ⟨w.heap.size, 1, none⟩ = some (.int .i64 (Wnum.cD a b))) (first | exact ⟨a1, a2⟩ | exact keep2 hbq (by assumption) | assumption)
      (first
        | (go_at_call 150; refine (itoa_b _ _ (by omega) (by omega) (TB.on qE).here).mono ?_; rintro e wq ⟨rfl, hbq⟩; rw [L1.out]; have qE := below_end qE hbq; have rE := At.below hbq (by first | exact rE | exact rA.drew))
        | (go_at_call 152; refine (DC _).mono ?_; rintro e wq ⟨rfl, hbq⟩; have qE := below_end qE hbq; have rE := At.below hbq (by first | exact rE | exact rA.drew)))
    all_goals
      go_wp2_with fail
      go_meet
      case rel => exact ⟨rfl, congrArg Value.string (by rw [← LL.out, show (ByteArray.mk #[46]) = ⟨[(46 : UInt8)].toArray⟩ from rfl, app_mk, app_mk, List.append_assoc]; rfl), qE, rE⟩
  case rest =>
    obtain ⟨h4, h5, hB5, pA5⟩ := hcut
    subst h4 h5
    obtain ⟨a1, a2, a3, a4⟩ := pA5
    clear LL
    cases hn : decide (Wnum.cN a b < 0)
    · have hn' : ¬ Wnum.cN a b < 0 := of_decide_eq_false hn
      have e5 : Hid (r = l) := RP.out (by omega)
      clear RN RP
      clear hn
      go_wp2
      go_ret
      exact ⟨by rw [e5.out]; rfl, hB5⟩
    · have hn' : Wnum.cN a b < 0 := of_decide_eq_true hn
      have e5 : Hid (r = 45 :: l) := RN.out hn'
      clear RN RP
      have z5 : ¬ 9223372036854775807 < 1 + l.length := by omega
      clear hn
      go_wp2
      go_ret
      refine ⟨?_, hB5⟩
      rw [e5.out]
      exact congrArg (fun x => Ending.returned (Value.string x)) (by rw [show (ByteArray.mk #[45]) = ⟨[(45 : UInt8)].toArray⟩ from rfl, app_mk]; rfl)
end Go.Proofs.YtlggnpohhahdlaaGreatDoor
