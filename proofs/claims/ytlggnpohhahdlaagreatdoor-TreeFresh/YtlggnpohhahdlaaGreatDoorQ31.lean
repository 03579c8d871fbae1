/- WalkRt, WalkTy. -/
import Derived.Test.YtlggnpohhahdlaaGreatDoorQ30
import Derived.Deep.DeepCutAuto
import Derived.Deep.RegionHeld3
namespace Go.Proofs.YtlggnpohhahdlaaGreatDoor
open Go.RowKit
set_option linter.unusedVariables false
set_option maxRecDepth 100000 in
set_option maxHeartbeats 3200000 in
theorem rtext_frac_n (a b N : Int) (D0 : Nat) (l1 l2 res : List UInt8) (w : World) (h1 : -9223372036854775808 ≤ a) (h2 : a ≤ 9223372036854775807) (h3 : -9223372036854775808 ≤ b) (h4 : b ≤ 9223372036854775807) (hN : Wnum.cN a b = N) (hD : Wnum.cD a b = (D0 : Int)) (hn : decide (N < 0) = true) (hm : ((1000000 : Int) % (D0 : Int) != 0) = true) (hl1 : Lib.decDigits N.natAbs = l1) (hl2 : Lib.decDigits D0 = l2) (hr : res = [45] ++ (l1 ++ 47 :: l2)) :
    Calls Tryz.prog 75 #[.agg #[.int .i64 a, .int .i64 b]] w fun e w' => e = .returned (.string ⟨res.toArray⟩) ∧ Below w.heap.size w w' := by
  have bN := Wnum.cN_bd a b
  have bD := Wnum.cD_bd a b
  rw [hN] at bN
  rw [hD] at bD
  obtain ⟨n1, n2⟩ := bN
  obtain ⟨n3, n4⟩ := bD
  have EN : Hid (Wnum.cN a b = N) := hN
  have ED : Hid (Wnum.cD a b = (D0 : Int)) := hD
  clear hN hD
  have y6 : ¬ (D0 : Int) = 0 := by omega
  have y7 : IntKind.u64.wrap (D0 : Int) = (D0 : Int) := by unfold IntKind.wrap; simp [IntKind.bits, IntKind.signed]; omega
  have L1 : Hid (Lib.decDigits N.natAbs = l1) := hl1
  have L2 : Hid (Lib.decDigits D0 = l2) := hl2
  have RR : Hid (res = [45] ++ (l1 ++ 47 :: l2)) := hr
  have s1 : l1.length ≤ 21 := by rw [← hl1]; exact dd_len _ (by omega)
  have s2 : l2.length ≤ 21 := by rw [← hl2]; exact dd_len _ (by omega)
  clear hl1 hl2 hr
  have z0 : ¬ 9223372036854775807 < 1 + l1.length := by omega
  have z1 : ¬ 9223372036854775807 < 1 + l1.length + 1 := by omega
  have z2 : ¬ 9223372036854775807 < 1 + l1.length + 1 + l2.length := by omega
  go_enter Tryz.func75, Tryz.ntmps75
  go_wp2_with fail
  refine (of_any _ _ _ h1 h2 h3 h4).mono ?_
  rintro e w1 ⟨rfl, hb1⟩
  rw [EN.out, ED.out]
  have pA : At w1 w.heap.size (.int .i64 a) (.int .i64 b) := At.below hb1 (At.new w _ rfl _ _)
  have hB : Below w.heap.size w w1 := by with_reducible repeat (first | exact Below.refl _ _ | refine below_drewN ?_ _ | refine Below.setCell ?_ (by first | (simp; done) | (simp; omega) | omega) _ | refine Below.drew ?_ | refine below_end ?_ (by assumption) | refine ball ?_ _)
  clear hb1
  have pA' := pA
  obtain ⟨a1, a2, a3, a4⟩ := pA'
  go_upto_region 2 with fail
  have qA := pA.put (.int .i64 (N)) (.int .i64 ((D0 : Int)))
  have qD := put_below hB (k := w.heap.size) (by omega) (.int .i64 (N)) (.int .i64 ((D0 : Int)))
  clear pA hB a1 a2 a3 a4
  generalize (w1.setCell ⟨w.heap.size, 0, none⟩ (.int .i64 (N))).setCell ⟨w.heap.size, 1, none⟩ (.int .i64 ((D0 : Int))) = W1 at *
  clear w1
  have qA' := qA
  obtain ⟨a1, a2, a3, a4⟩ := qA'
  go_wp2_with fail
  refine (far_any _ _ (by omega) (by omega)).mono ?_
  rintro e w2 ⟨rfl, rfl⟩
  go_wp2_with fail
  refine (digits_any _ _ (by omega)).mono ?_
  rintro e w3 ⟨rfl, hb3⟩
  rw [L1.out]
  have qE := below_end qD hb3
  go_wp2_with fail
  refine (digits_any _ _ (by omega)).mono ?_
  rintro e w4 ⟨rfl, hb4⟩
  rw [L2.out]
  have qF := below_end qE hb4
  go_wp2
  go_ret
  refine ⟨?_, qF⟩
  rw [RR.out]
  exact congrArg (fun x => Ending.returned (Value.string x)) (by rw [show (ByteArray.mk #[45]) = ⟨[(45 : UInt8)].toArray⟩ from rfl, show (ByteArray.mk #[47]) = ⟨[(47 : UInt8)].toArray⟩ from rfl, app_mk, app_mk, app_mk]; simp)
set_option maxRecDepth 100000 in
set_option maxHeartbeats 3200000 in
theorem rtext_whole_n (a b N : Int) (D0 : Nat) (q : Nat) (l1 res : List UInt8) (w : World) (h1 : -9223372036854775808 ≤ a) (h2 : a ≤ 9223372036854775807) (h3 : -9223372036854775808 ≤ b) (h4 : b ≤ 9223372036854775807) (hN : Wnum.cN a b = N) (hD : Wnum.cD a b = (D0 : Int)) (hn : decide (N < 0) = true) (hm : ((1000000 : Int) % (D0 : Int) != 0) = false) (hq : (N.natAbs : Int) / (D0 : Int) = (q : Int)) (hq2 : (q : Int) ≤ 1000000000000) (hR : (N.natAbs : Int) % (D0 : Int) = 0) (hl1 : Lib.decDigits q = l1) (hr : res = [45] ++ l1) :
    Calls Tryz.prog 75 #[.agg #[.int .i64 a, .int .i64 b]] w fun e w' => e = .returned (.string ⟨res.toArray⟩) ∧ Below w.heap.size w w' := by
  have bN := Wnum.cN_bd a b
  have bD := Wnum.cD_bd a b
  rw [hN] at bN
  rw [hD] at bD
  obtain ⟨n1, n2⟩ := bN
  obtain ⟨n3, n4⟩ := bD
  have EN : Hid (Wnum.cN a b = N) := hN
  have ED : Hid (Wnum.cD a b = (D0 : Int)) := hD
  clear hN hD
  have y6 : ¬ (D0 : Int) = 0 := by omega
  have y7 : IntKind.u64.wrap (D0 : Int) = (D0 : Int) := by unfold IntKind.wrap; simp [IntKind.bits, IntKind.signed]; omega
  have L1 : Hid (Lib.decDigits q = l1) := hl1
  have s1 : l1.length ≤ 21 := by rw [← hl1]; exact dd_len _ (by omega)
  have RR : Hid (res = [45] ++ l1) := hr
  clear hl1 hr
  have z0 : ¬ 9223372036854775807 < 1 + l1.length := by omega
  go_enter Tryz.func75, Tryz.ntmps75
  go_wp2_with fail
  refine (of_any _ _ _ h1 h2 h3 h4).mono ?_
  rintro e w1 ⟨rfl, hb1⟩
  rw [EN.out, ED.out]
  have pA : At w1 w.heap.size (.int .i64 a) (.int .i64 b) := At.below hb1 (At.new w _ rfl _ _)
  have hB : Below w.heap.size w w1 := by with_reducible repeat (first | exact Below.refl _ _ | refine below_drewN ?_ _ | refine Below.setCell ?_ (by first | (simp; done) | (simp; omega) | omega) _ | refine Below.drew ?_ | refine below_end ?_ (by assumption) | refine ball ?_ _)
  clear hb1
  have pA' := pA
  obtain ⟨a1, a2, a3, a4⟩ := pA'
  go_upto_region 2 with fail
  have qA := pA.put (.int .i64 (N)) (.int .i64 ((D0 : Int)))
  have qD := put_below hB (k := w.heap.size) (by omega) (.int .i64 (N)) (.int .i64 ((D0 : Int)))
  clear pA hB a1 a2 a3 a4
  generalize (w1.setCell ⟨w.heap.size, 0, none⟩ (.int .i64 (N))).setCell ⟨w.heap.size, 1, none⟩ (.int .i64 ((D0 : Int))) = W1 at *
  clear w1
  have qA' := qA
  obtain ⟨a1, a2, a3, a4⟩ := qA'
  go_wp2_with fail
  refine (far_any _ _ (by omega) (by omega)).mono ?_
  rintro e w2 ⟨rfl, rfl⟩
  go_wp2_with fail
  refine (digits_any _ _ (by omega)).mono ?_
  rintro e w3 ⟨rfl, hb3⟩
  rw [L1.out]
  have qE := below_end qD hb3
  go_wp2
  go_ret
  refine ⟨?_, qE⟩
  rw [RR.out]
  exact congrArg (fun x => Ending.returned (Value.string x)) (by rw [show (ByteArray.mk #[45]) = ⟨[(45 : UInt8)].toArray⟩ from rfl, app_mk])
set_option maxRecDepth 100000 in
set_option maxHeartbeats 3200000 in
theorem rtext_point_n (a b N : Int) (D0 : Nat) (q R : Nat) (l1 res : List UInt8) (w : World) (h1 : -9223372036854775808 ≤ a) (h2 : a ≤ 9223372036854775807) (h3 : -9223372036854775808 ≤ b) (h4 : b ≤ 9223372036854775807) (hN : Wnum.cN a b = N) (hD : Wnum.cD a b = (D0 : Int)) (hn : decide (N < 0) = true) (hm : ((1000000 : Int) % (D0 : Int) != 0) = false) (hq : (N.natAbs : Int) / (D0 : Int) = (q : Int)) (hq2 : (q : Int) ≤ 1000000000000) (hR : (N.natAbs : Int) % (D0 : Int) = (R : Int)) (hR2 : R < D0) (hR3 : ((R : Int) == 0) = false) (hm2 : 1000000 % D0 = 0) (hl1 : Lib.decDigits q = l1) (hr : res = [45] ++ (l1 ++ 46 :: Wnum.decs D0 6 R)) :
    Calls Tryz.prog 75 #[.agg #[.int .i64 a, .int .i64 b]] w fun e w' => e = .returned (.string ⟨res.toArray⟩) ∧ Below w.heap.size w w' := by
  have bN := Wnum.cN_bd a b
  have bD := Wnum.cD_bd a b
  rw [hN] at bN
  rw [hD] at bD
  obtain ⟨n1, n2⟩ := bN
  obtain ⟨n3, n4⟩ := bD
  have EN : Hid (Wnum.cN a b = N) := hN
  have ED : Hid (Wnum.cD a b = (D0 : Int)) := hD
  clear hN hD
  have y6 : ¬ (D0 : Int) = 0 := by omega
  have y7 : IntKind.u64.wrap (D0 : Int) = (D0 : Int) := by unfold IntKind.wrap; simp [IntKind.bits, IntKind.signed]; omega
  have L1 : Hid (Lib.decDigits q = l1) := hl1
  have s1 : l1.length ≤ 21 := by rw [← hl1]; exact dd_len _ (by omega)
  have RR : Hid (res = ([45] ++ l1 ++ [46]) ++ Wnum.decs D0 6 R) := by show _ = _; rw [hr]; simp
  have EM : Hid (R * 10 ^ 6 % D0 = 0) := Wnum.ends_six hm2
  clear hl1 hr hm2
  have z0 : ¬ 9223372036854775807 < 1 + l1.length := by omega
  have z1 : ¬ 9223372036854775807 < 1 + l1.length + 1 := by omega
  go_enter Tryz.func75, Tryz.ntmps75
  go_wp2_with fail
  refine (of_any _ _ _ h1 h2 h3 h4).mono ?_
  rintro e w1 ⟨rfl, hb1⟩
  rw [EN.out, ED.out]
  have pA : At w1 w.heap.size (.int .i64 a) (.int .i64 b) := At.below hb1 (At.new w _ rfl _ _)
  have hB : Below w.heap.size w w1 := by with_reducible repeat (first | exact Below.refl _ _ | refine below_drewN ?_ _ | refine Below.setCell ?_ (by first | (simp; done) | (simp; omega) | omega) _ | refine Below.drew ?_ | refine below_end ?_ (by assumption) | refine ball ?_ _)
  clear hb1
  have pA' := pA
  obtain ⟨a1, a2, a3, a4⟩ := pA'
  go_upto_region 2 with fail
  have qA := pA.put (.int .i64 (N)) (.int .i64 ((D0 : Int)))
  have qD := put_below hB (k := w.heap.size) (by omega) (.int .i64 (N)) (.int .i64 ((D0 : Int)))
  clear pA hB a1 a2 a3 a4
  generalize (w1.setCell ⟨w.heap.size, 0, none⟩ (.int .i64 (N))).setCell ⟨w.heap.size, 1, none⟩ (.int .i64 ((D0 : Int))) = W1 at *
  clear w1
  have qA' := qA
  obtain ⟨a1, a2, a3, a4⟩ := qA'
  go_wp2_with fail
  refine (far_any _ _ (by omega) (by omega)).mono ?_
  rintro e w2 ⟨rfl, rfl⟩
  go_wp2_with fail
  refine (digits_any _ _ (by omega)).mono ?_
  rintro e w3 ⟨rfl, hb3⟩
  rw [L1.out]
  have qE := below_end qD hb3
  go_wp2_with fail
  go_loopw [6, 7] (fun s x wr => ∃ (k r1 : Nat) (l : List UInt8), s = .string ⟨l.toArray⟩ ∧ x = .int .u64 (r1 : Int) ∧ r1 < D0 ∧ k ≤ 6 ∧ Hid (r1 * 10 ^ k % D0 = 0) ∧ Hid (res = l ++ Wnum.decs D0 k r1) ∧ l.length + k ≤ 60 ∧ Below w.heap.size w wr) (fun _ x _ => Wnum.fu D0 6 (intOf x).toNat)
  case atStart => exact ⟨6, R, [45] ++ l1 ++ [46], congrArg Value.string (by rw [show (ByteArray.mk #[45]) = ⟨[(45 : UInt8)].toArray⟩ from rfl, show (ByteArray.mk #[46]) = ⟨[(46 : UInt8)].toArray⟩ from rfl, app_mk, app_mk]), by first | rfl | rw [hR], hR2, Nat.le_refl _, EM, RR, by simp; omega, qE⟩
  case round =>
    obtain ⟨k, r1, l, rfl, rfl, h1', hk, HE, HD, hl, qB⟩ := hrel
    by_cases h0 : r1 = 0
    · have E : Hid (res = l) := by show _ = _; rw [HD.out, h0, Wnum.decs_zero, List.append_nil]
      have r0 : ((r1 : Int) != 0) = false := by simp [h0]
      clear h0
      go_wp2
      go_ret
      exact ⟨by rw [E.out]; rfl, qB⟩
    · obtain ⟨k', rfl⟩ : ∃ k', k = k' + 1 := by
        cases k with
        | zero => exact absurd (Wnum.ends_zero h1' HE.out) h0
        | succ k' => exact ⟨k', rfl⟩
      have hd : 0 < D0 := by omega
      have hq' : r1 * 10 / D0 ≤ 9 := by
        have : r1 * 10 / D0 < 10 := (Nat.div_lt_iff_lt_mul hd).2 (by omega)
        omega
      have e1 : (r1 : Int) * 10 / (D0 : Int) = ((r1 * 10 / D0 : Nat) : Int) := by rw [Int.natCast_ediv, Int.natCast_mul]; rfl
      have e2 : (r1 : Int) * 10 % (D0 : Int) = ((r1 * 10 % D0 : Nat) : Int) := by rw [Int.natCast_emod, Int.natCast_mul]; rfl
      have L : Hid (Wnum.fu D0 6 (r1 * 10 % D0) < Wnum.fu D0 6 r1) := Wnum.fu_less hd h1' h0 hk HE.out
      have HE2 : Hid (r1 * 10 % D0 * 10 ^ k' % D0 = 0) := Wnum.ends_step HE.out
      have lt2 : r1 * 10 % D0 < D0 := Nat.mod_lt _ hd
      have HD2 : Hid (res = (l ++ [UInt8.ofNat (48 + r1 * 10 / D0)]) ++ Wnum.decs D0 k' (r1 * 10 % D0)) := by
        show _ = _
        rw [HD.out, Wnum.decs_more h0, List.append_assoc]; rfl
      have LD : Hid (Lib.decDigits (r1 * 10 / D0) = [UInt8.ofNat (48 + r1 * 10 / D0)]) := by
        show _ = _
        rw [dd_small (by omega), Nat.mod_eq_of_lt (by omega)]
      have r0 : ((r1 : Int) != 0) = true := by rw [bne_iff_ne]; omega
      generalize r1 * 10 / D0 = q2 at *
      generalize hr2 : r1 * 10 % D0 = r2 at *
      clear hr2 HE HD hq hR
      generalize hc : UInt8.ofNat (48 + q2) = c at *
      clear hc
      have z9 : ¬ 9223372036854775807 < l.length + 1 := by omega
      go_wp2_with fail
      refine (digits_any _ _ (by omega)).mono ?_
      rintro e w5 ⟨rfl, hb5⟩
      rw [LD.out]
      go_wp2_with fail
      go_roundw
      case rel => exact ⟨k', r2, l ++ [c], congrArg Value.string (app_mk l [c]), by first | rfl | rw [e2], lt2, by omega, HE2, HD2, by rw [List.length_append, List.length_singleton]; omega, below_end qB hb5⟩
      case measure => simpa [intOf, e2] using L.out
set_option maxRecDepth 100000 in
set_option maxHeartbeats 3200000 in
theorem rtext_frac_p (a b N : Int) (D0 : Nat) (l1 l2 res : List UInt8) (w : World) (h1 : -9223372036854775808 ≤ a) (h2 : a ≤ 9223372036854775807) (h3 : -9223372036854775808 ≤ b) (h4 : b ≤ 9223372036854775807) (hN : Wnum.cN a b = N) (hD : Wnum.cD a b = (D0 : Int)) (hn : decide (N < 0) = false) (hm : ((1000000 : Int) % (D0 : Int) != 0) = true) (hl1 : Lib.decDigits N.natAbs = l1) (hl2 : Lib.decDigits D0 = l2) (hr : res = [] ++ (l1 ++ 47 :: l2)) :
    Calls Tryz.prog 75 #[.agg #[.int .i64 a, .int .i64 b]] w fun e w' => e = .returned (.string ⟨res.toArray⟩) ∧ Below w.heap.size w w' := by
  have bN := Wnum.cN_bd a b
  have bD := Wnum.cD_bd a b
  rw [hN] at bN
  rw [hD] at bD
  obtain ⟨n1, n2⟩ := bN
  obtain ⟨n3, n4⟩ := bD
  have EN : Hid (Wnum.cN a b = N) := hN
  have ED : Hid (Wnum.cD a b = (D0 : Int)) := hD
  clear hN hD
  have y6 : ¬ (D0 : Int) = 0 := by omega
  have y7 : IntKind.u64.wrap (D0 : Int) = (D0 : Int) := by unfold IntKind.wrap; simp [IntKind.bits, IntKind.signed]; omega
  have L1 : Hid (Lib.decDigits N.natAbs = l1) := hl1
  have L2 : Hid (Lib.decDigits D0 = l2) := hl2
  have RR : Hid (res = [] ++ (l1 ++ 47 :: l2)) := hr
  have s1 : l1.length ≤ 21 := by rw [← hl1]; exact dd_len _ (by omega)
  have s2 : l2.length ≤ 21 := by rw [← hl2]; exact dd_len _ (by omega)
  clear hl1 hl2 hr
  have z0 : ¬ 9223372036854775807 < l1.length := by omega
  have z1 : ¬ 9223372036854775807 < l1.length + 1 := by omega
  have z2 : ¬ 9223372036854775807 < l1.length + 1 + l2.length := by omega
  go_enter Tryz.func75, Tryz.ntmps75
  go_wp2_with fail
  refine (of_any _ _ _ h1 h2 h3 h4).mono ?_
  rintro e w1 ⟨rfl, hb1⟩
  rw [EN.out, ED.out]
  have pA : At w1 w.heap.size (.int .i64 a) (.int .i64 b) := At.below hb1 (At.new w _ rfl _ _)
  have hB : Below w.heap.size w w1 := by with_reducible repeat (first | exact Below.refl _ _ | refine below_drewN ?_ _ | refine Below.setCell ?_ (by first | (simp; done) | (simp; omega) | omega) _ | refine Below.drew ?_ | refine below_end ?_ (by assumption) | refine ball ?_ _)
  clear hb1
  have pA' := pA
  obtain ⟨a1, a2, a3, a4⟩ := pA'
  go_upto_region 2 with fail
  have qA := pA.put (.int .i64 (N)) (.int .i64 ((D0 : Int)))
  have qD := put_below hB (k := w.heap.size) (by omega) (.int .i64 (N)) (.int .i64 ((D0 : Int)))
  clear pA hB a1 a2 a3 a4
  generalize (w1.setCell ⟨w.heap.size, 0, none⟩ (.int .i64 (N))).setCell ⟨w.heap.size, 1, none⟩ (.int .i64 ((D0 : Int))) = W1 at *
  clear w1
  have qA' := qA
  obtain ⟨a1, a2, a3, a4⟩ := qA'
  go_wp2_with fail
  refine (far_any _ _ (by omega) (by omega)).mono ?_
  rintro e w2 ⟨rfl, rfl⟩
  go_wp2_with fail
  refine (digits_any _ _ (by omega)).mono ?_
  rintro e w3 ⟨rfl, hb3⟩
  rw [L1.out]
  have qE := below_end qD hb3
  go_wp2_with fail
  refine (digits_any _ _ (by omega)).mono ?_
  rintro e w4 ⟨rfl, hb4⟩
  rw [L2.out]
  have qF := below_end qE hb4
  go_wp2
  go_ret
  refine ⟨?_, qF⟩
  rw [RR.out]
  exact congrArg (fun x => Ending.returned (Value.string x)) (by rw [show (ByteArray.mk #[47]) = ⟨[(47 : UInt8)].toArray⟩ from rfl, app_mk, app_mk, show (ByteArray.mk #[]) = ⟨([] : List UInt8).toArray⟩ from rfl, app_mk]; simp)
set_option maxRecDepth 100000 in
set_option maxHeartbeats 3200000 in
theorem rtext_whole_p (a b N : Int) (D0 : Nat) (q : Nat) (l1 res : List UInt8) (w : World) (h1 : -9223372036854775808 ≤ a) (h2 : a ≤ 9223372036854775807) (h3 : -9223372036854775808 ≤ b) (h4 : b ≤ 9223372036854775807) (hN : Wnum.cN a b = N) (hD : Wnum.cD a b = (D0 : Int)) (hn : decide (N < 0) = false) (hm : ((1000000 : Int) % (D0 : Int) != 0) = false) (hq : (N.natAbs : Int) / (D0 : Int) = (q : Int)) (hq2 : (q : Int) ≤ 1000000000000) (hR : (N.natAbs : Int) % (D0 : Int) = 0) (hl1 : Lib.decDigits q = l1) (hr : res = [] ++ l1) :
    Calls Tryz.prog 75 #[.agg #[.int .i64 a, .int .i64 b]] w fun e w' => e = .returned (.string ⟨res.toArray⟩) ∧ Below w.heap.size w w' := by
  have bN := Wnum.cN_bd a b
  have bD := Wnum.cD_bd a b
  rw [hN] at bN
  rw [hD] at bD
  obtain ⟨n1, n2⟩ := bN
  obtain ⟨n3, n4⟩ := bD
  have EN : Hid (Wnum.cN a b = N) := hN
  have ED : Hid (Wnum.cD a b = (D0 : Int)) := hD
  clear hN hD
  have y6 : ¬ (D0 : Int) = 0 := by omega
  have y7 : IntKind.u64.wrap (D0 : Int) = (D0 : Int) := by unfold IntKind.wrap; simp [IntKind.bits, IntKind.signed]; omega
  have L1 : Hid (Lib.decDigits q = l1) := hl1
  have s1 : l1.length ≤ 21 := by rw [← hl1]; exact dd_len _ (by omega)
  have RR : Hid (res = [] ++ l1) := hr
  clear hl1 hr
  have z0 : ¬ 9223372036854775807 < l1.length := by omega
  go_enter Tryz.func75, Tryz.ntmps75
  go_wp2_with fail
  refine (of_any _ _ _ h1 h2 h3 h4).mono ?_
  rintro e w1 ⟨rfl, hb1⟩
  rw [EN.out, ED.out]
  have pA : At w1 w.heap.size (.int .i64 a) (.int .i64 b) := At.below hb1 (At.new w _ rfl _ _)
  have hB : Below w.heap.size w w1 := by with_reducible repeat (first | exact Below.refl _ _ | refine below_drewN ?_ _ | refine Below.setCell ?_ (by first | (simp; done) | (simp; omega) | omega) _ | refine Below.drew ?_ | refine below_end ?_ (by assumption) | refine ball ?_ _)
  clear hb1
  have pA' := pA
  obtain ⟨a1, a2, a3, a4⟩ := pA'
  go_upto_region 2 with fail
  have qA := pA.put (.int .i64 (N)) (.int .i64 ((D0 : Int)))
  have qD := put_below hB (k := w.heap.size) (by omega) (.int .i64 (N)) (.int .i64 ((D0 : Int)))
  clear pA hB a1 a2 a3 a4
  generalize (w1.setCell ⟨w.heap.size, 0, none⟩ (.int .i64 (N))).setCell ⟨w.heap.size, 1, none⟩ (.int .i64 ((D0 : Int))) = W1 at *
  clear w1
  have qA' := qA
  obtain ⟨a1, a2, a3, a4⟩ := qA'
  go_wp2_with fail
  refine (far_any _ _ (by omega) (by omega)).mono ?_
  rintro e w2 ⟨rfl, rfl⟩
  go_wp2_with fail
  refine (digits_any _ _ (by omega)).mono ?_
  rintro e w3 ⟨rfl, hb3⟩
  rw [L1.out]
  have qE := below_end qD hb3
  go_wp2
  go_ret
  refine ⟨?_, qE⟩
  rw [RR.out]
  exact congrArg (fun x => Ending.returned (Value.string x)) (by rw [show (ByteArray.mk #[]) = ⟨([] : List UInt8).toArray⟩ from rfl, app_mk])
set_option maxRecDepth 100000 in
set_option maxHeartbeats 3200000 in
theorem rtext_point_p (a b N : Int) (D0 : Nat) (q R : Nat) (l1 res : List UInt8) (w : World) (h1 : -9223372036854775808 ≤ a) (h2 : a ≤ 9223372036854775807) (h3 : -9223372036854775808 ≤ b) (h4 : b ≤ 9223372036854775807) (hN : Wnum.cN a b = N) (hD : Wnum.cD a b = (D0 : Int)) (hn : decide (N < 0) = false) (hm : ((1000000 : Int) % (D0 : Int) != 0) = false) (hq : (N.natAbs : Int) / (D0 : Int) = (q : Int)) (hq2 : (q : Int) ≤ 1000000000000) (hR : (N.natAbs : Int) % (D0 : Int) = (R : Int)) (hR2 : R < D0) (hR3 : ((R : Int) == 0) = false) (hm2 : 1000000 % D0 = 0) (hl1 : Lib.decDigits q = l1) (hr : res = [] ++ (l1 ++ 46 :: Wnum.decs D0 6 R)) :
    Calls Tryz.prog 75 #[.agg #[.int .i64 a, .int .i64 b]] w fun e w' => e = .returned (.string ⟨res.toArray⟩) ∧ Below w.heap.size w w' := by
  have bN := Wnum.cN_bd a b
  have bD := Wnum.cD_bd a b
  rw [hN] at bN
  rw [hD] at bD
  obtain ⟨n1, n2⟩ := bN
  obtain ⟨n3, n4⟩ := bD
  have EN : Hid (Wnum.cN a b = N) := hN
  have ED : Hid (Wnum.cD a b = (D0 : Int)) := hD
  clear hN hD
  have y6 : ¬ (D0 : Int) = 0 := by omega
  have y7 : IntKind.u64.wrap (D0 : Int) = (D0 : Int) := by unfold IntKind.wrap; simp [IntKind.bits, IntKind.signed]; omega
  have L1 : Hid (Lib.decDigits q = l1) := hl1
  have s1 : l1.length ≤ 21 := by rw [← hl1]; exact dd_len _ (by omega)
  have RR : Hid (res = ([] ++ l1 ++ [46]) ++ Wnum.decs D0 6 R) := by show _ = _; rw [hr]; simp
  have EM : Hid (R * 10 ^ 6 % D0 = 0) := Wnum.ends_six hm2
  clear hl1 hr hm2
  have z0 : ¬ 9223372036854775807 < l1.length := by omega
  have z1 : ¬ 9223372036854775807 < l1.length + 1 := by omega
  go_enter Tryz.func75, Tryz.ntmps75
  go_wp2_with fail
  refine (of_any _ _ _ h1 h2 h3 h4).mono ?_
  rintro e w1 ⟨rfl, hb1⟩
  rw [EN.out, ED.out]
  have pA : At w1 w.heap.size (.int .i64 a) (.int .i64 b) := At.below hb1 (At.new w _ rfl _ _)
  have hB : Below w.heap.size w w1 := by with_reducible repeat (first | exact Below.refl _ _ | refine below_drewN ?_ _ | refine Below.setCell ?_ (by first | (simp; done) | (simp; omega) | omega) _ | refine Below.drew ?_ | refine below_end ?_ (by assumption) | refine ball ?_ _)
  clear hb1
  have pA' := pA
  obtain ⟨a1, a2, a3, a4⟩ := pA'
  go_upto_region 2 with fail
  have qA := pA.put (.int .i64 (N)) (.int .i64 ((D0 : Int)))
  have qD := put_below hB (k := w.heap.size) (by omega) (.int .i64 (N)) (.int .i64 ((D0 : Int)))
  clear pA hB a1 a2 a3 a4
  generalize (w1.setCell ⟨w.heap.size, 0, none⟩ (.int .i64 (N))).setCell ⟨w.heap.size, 1, none⟩ (.int .i64 ((D0 : Int))) = W1 at *
  clear w1
  have qA' := qA
  obtain ⟨a1, a2, a3, a4⟩ := qA'
  go_wp2_with fail
  refine (far_any _ _ (by omega) (by omega)).mono ?_
  rintro e w2 ⟨rfl, rfl⟩
  go_wp2_with fail
  refine (digits_any _ _ (by omega)).mono ?_
  rintro e w3 ⟨rfl, hb3⟩
  rw [L1.out]
  have qE := below_end qD hb3
  go_wp2_with fail
  go_loopw [6, 7] (fun s x wr => ∃ (k r1 : Nat) (l : List UInt8), s = .string ⟨l.toArray⟩ ∧ x = .int .u64 (r1 : Int) ∧ r1 < D0 ∧ k ≤ 6 ∧ Hid (r1 * 10 ^ k % D0 = 0) ∧ Hid (res = l ++ Wnum.decs D0 k r1) ∧ l.length + k ≤ 60 ∧ Below w.heap.size w wr) (fun _ x _ => Wnum.fu D0 6 (intOf x).toNat)
  case atStart => exact ⟨6, R, [] ++ l1 ++ [46], congrArg Value.string (by rw [show (ByteArray.mk #[]) = ⟨([] : List UInt8).toArray⟩ from rfl, show (ByteArray.mk #[46]) = ⟨[(46 : UInt8)].toArray⟩ from rfl, app_mk, app_mk]), by first | rfl | rw [hR], hR2, Nat.le_refl _, EM, RR, by simp; omega, qE⟩
  case round =>
    obtain ⟨k, r1, l, rfl, rfl, h1', hk, HE, HD, hl, qB⟩ := hrel
    by_cases h0 : r1 = 0
    · have E : Hid (res = l) := by show _ = _; rw [HD.out, h0, Wnum.decs_zero, List.append_nil]
      have r0 : ((r1 : Int) != 0) = false := by simp [h0]
      clear h0
      go_wp2
      go_ret
      exact ⟨by rw [E.out]; rfl, qB⟩
    · obtain ⟨k', rfl⟩ : ∃ k', k = k' + 1 := by
        cases k with
        | zero => exact absurd (Wnum.ends_zero h1' HE.out) h0
        | succ k' => exact ⟨k', rfl⟩
      have hd : 0 < D0 := by omega
      have hq' : r1 * 10 / D0 ≤ 9 := by
        have : r1 * 10 / D0 < 10 := (Nat.div_lt_iff_lt_mul hd).2 (by omega)
        omega
      have e1 : (r1 : Int) * 10 / (D0 : Int) = ((r1 * 10 / D0 : Nat) : Int) := by rw [Int.natCast_ediv, Int.natCast_mul]; rfl
      have e2 : (r1 : Int) * 10 % (D0 : Int) = ((r1 * 10 % D0 : Nat) : Int) := by rw [Int.natCast_emod, Int.natCast_mul]; rfl
      have L : Hid (Wnum.fu D0 6 (r1 * 10 % D0) < Wnum.fu D0 6 r1) := Wnum.fu_less hd h1' h0 hk HE.out
      have HE2 : Hid (r1 * 10 % D0 * 10 ^ k' % D0 = 0) := Wnum.ends_step HE.out
      have lt2 : r1 * 10 % D0 < D0 := Nat.mod_lt _ hd
      have HD2 : Hid (res = (l ++ [UInt8.ofNat (48 + r1 * 10 / D0)]) ++ Wnum.decs D0 k' (r1 * 10 % D0)) := by
        show _ = _
        rw [HD.out, Wnum.decs_more h0, List.append_assoc]; rfl
      have LD : Hid (Lib.decDigits (r1 * 10 / D0) = [UInt8.ofNat (48 + r1 * 10 / D0)]) := by
        show _ = _
        rw [dd_small (by omega), Nat.mod_eq_of_lt (by omega)]
      have r0 : ((r1 : Int) != 0) = true := by rw [bne_iff_ne]; omega
      generalize r1 * 10 / D0 = q2 at *
      generalize hr2 : r1 * 10 % D0 = r2 at *
      clear hr2 HE HD hq hR
      generalize hc : UInt8.ofNat (48 + q2) = c at *
      clear hc
      have z9 : ¬ 9223372036854775807 < l.length + 1 := by omega
      go_wp2_with fail
      refine (digits_any _ _ (by omega)).mono ?_
      rintro e w5 ⟨rfl, hb5⟩
      rw [LD.out]
      go_wp2_with fail
      go_roundw
      case rel => exact ⟨k', r2, l ++ [c], congrArg Value.string (app_mk l [c]), by first | rfl | rw [e2], lt2, by omega, HE2, HD2, by rw [List.length_append, List.length_singleton]; omega, below_end qB hb5⟩
      case measure => simpa [intOf, e2] using L.out
theorem itoa_nat (n : Nat) : Lib.itoa (n : Int) = Lib.decDigits n := by
  rw [Wnum.itoa_sgn]
  unfold Wnum.sgnT
  rw [if_neg (by omega), Int.natAbs_natCast]; rfl
theorem bool_ne {n : Nat} (h : 1000000 % n ≠ 0) : ((1000000 : Int) % (n : Int) != 0) = true := by
  rw [bne_iff_ne]
  intro e
  exact h (Int.ofNat_inj.1 ((Int.natCast_emod 1000000 n).trans e))
theorem bool_eq {n : Nat} (h : 1000000 % n = 0) : ((1000000 : Int) % (n : Int) != 0) = false := by
  rw [bne_eq_false_iff_eq]
  exact (Int.natCast_emod 1000000 n).symm.trans (congrArg Int.ofNat h)
theorem div_nat (N : Int) (n : Nat) : (N.natAbs : Int) / (n : Int) = ((N.natAbs / n : Nat) : Int) := (Int.natCast_ediv _ _).symm
theorem mod_nat (N : Int) (n : Nat) : (N.natAbs : Int) % (n : Int) = ((N.natAbs % n : Nat) : Int) := (Int.natCast_emod _ _).symm
theorem div_bd {N : Int} (n : Nat) (h1 : -1000000000000 ≤ N) (h2 : N ≤ 1000000000000) : ((N.natAbs / n : Nat) : Int) ≤ 1000000000000 := by
  have := Nat.div_le_self N.natAbs n
  omega
theorem sgn_neg {N : Int} (h : N < 0) : Wnum.sgnT N = [45] := if_pos h
theorem sgn_pos {N : Int} (h : ¬ N < 0) : Wnum.sgnT N = [] := if_neg h
theorem text_any (a b : Int) (w : World) (h1 : -9223372036854775808 ≤ a) (h2 : a ≤ 9223372036854775807) (h3 : -9223372036854775808 ≤ b) (h4 : b ≤ 9223372036854775807) (htab : Lib.TabIs Tryz.prog w "internal/strconv.uint64pow10" .u64 Lib.pow10Tab) :
    Calls Tryz.prog 126 #[.agg #[.int .i64 a, .int .i64 b]] w fun e w' => e = .returned (.string ⟨(Wnum.txt (Wnum.cN a b) (Wnum.cD a b).toNat).toArray⟩) ∧ Below w.heap.size w w' := by
  obtain ⟨n1, n2⟩ := Wnum.cN_bd a b
  obtain ⟨n3, n4⟩ := Wnum.cD_bd a b
  obtain ⟨D0, hD⟩ : ∃ D0, D0 = (Wnum.cD a b).toNat := ⟨_, rfl⟩
  have eD : Wnum.cD a b = (D0 : Int) := by omega
  by_cases h1' : D0 = 1
  · refine text_one a b _ w h1 h2 h3 h4 (by rw [beq_iff_eq]; omega) ?_ htab
    rw [← hD, h1', Wnum.txt_whole (by decide) (Nat.mod_one _), Nat.div_one, Wnum.itoa_sgn]
  · have d1 : (Wnum.cD a b == 1) = false := by rw [beq_eq_false_iff_ne]; omega
    by_cases hm : 1000000 % D0 = 0
    · have g : Int.gcd (Wnum.cN a b) (Wnum.cD a b) = 1 := (Wnum.right_iff.1 (Wnum.c_right a b)).2.2.2.2
      have hR : (Wnum.cN a b).natAbs % D0 ≠ 0 := by
        intro h
        have : D0 ∣ Nat.gcd (Wnum.cN a b).natAbs D0 := Nat.dvd_gcd (Nat.dvd_of_mod_eq_zero h) (Nat.dvd_refl _)
        rw [eD] at g
        rw [show Nat.gcd (Wnum.cN a b).natAbs D0 = 1 from g] at this
        exact h1' (Nat.dvd_one.1 this)
      refine text_point a b ((Wnum.cN a b).natAbs / D0) ((Wnum.cN a b).natAbs % D0) _ _ _ _ w h1 h2 h3 h4 d1 (by rw [eD]; exact bool_eq hm) (by rw [← hD]; exact hm) (by rw [eD]; exact div_nat _ _) (by rw [eD]; exact mod_nat _ _) (div_bd _ n1 n2) (by rw [eD]; exact Int.ofNat_lt.2 (Nat.mod_lt _ (by omega))) rfl rfl rfl ?_ ?_ htab
      · intro hn
        rw [← hD, Wnum.txt_point hm hR, sgn_neg hn, itoa_nat]; rfl
      · intro hn
        rw [← hD, Wnum.txt_point hm hR, sgn_pos hn, itoa_nat]; rfl
    · have := text_frac a b _ _ w h1 h2 h3 h4 d1 (by rw [eD]; exact bool_ne hm) rfl rfl htab
      rw [← hD, Wnum.txt_frac hm]
      rw [eD, itoa_nat, Wnum.itoa_sgn, List.append_assoc] at this
      exact this
theorem rtext_any (a b : Int) (w : World) (h1 : -9223372036854775808 ≤ a) (h2 : a ≤ 9223372036854775807) (h3 : -9223372036854775808 ≤ b) (h4 : b ≤ 9223372036854775807) :
    Calls Tryz.prog 75 #[.agg #[.int .i64 a, .int .i64 b]] w fun e w' => e = .returned (.string ⟨(Wnum.txt (Wnum.cN a b) (Wnum.cD a b).toNat).toArray⟩) ∧ Below w.heap.size w w' := by
  obtain ⟨n1, n2⟩ := Wnum.cN_bd a b
  obtain ⟨n3, n4⟩ := Wnum.cD_bd a b
  obtain ⟨D0, hD⟩ : ∃ D0, D0 = (Wnum.cD a b).toNat := ⟨_, rfl⟩
  have eD : Wnum.cD a b = (D0 : Int) := by omega
  rw [← hD]
  by_cases hm : 1000000 % D0 = 0
  · by_cases hR : (Wnum.cN a b).natAbs % D0 = 0
    · have hR' : ((Wnum.cN a b).natAbs : Int) % (D0 : Int) = 0 := by rw [mod_nat, hR]; rfl
      by_cases hn : Wnum.cN a b < 0
      · exact rtext_whole_n a b _ D0 ((Wnum.cN a b).natAbs / D0) _ _ w h1 h2 h3 h4 rfl eD (decide_eq_true hn) (bool_eq hm) (div_nat _ _) (div_bd _ n1 n2) hR' rfl (by rw [Wnum.txt_whole hm hR, sgn_neg hn])
      · exact rtext_whole_p a b _ D0 ((Wnum.cN a b).natAbs / D0) _ _ w h1 h2 h3 h4 rfl eD (decide_eq_false hn) (bool_eq hm) (div_nat _ _) (div_bd _ n1 n2) hR' rfl (by rw [Wnum.txt_whole hm hR, sgn_pos hn])
    · have r0 : ((((Wnum.cN a b).natAbs % D0 : Nat) : Int) == 0) = false := by rw [beq_eq_false_iff_ne]; omega
      by_cases hn : Wnum.cN a b < 0
      · exact rtext_point_n a b _ D0 ((Wnum.cN a b).natAbs / D0) ((Wnum.cN a b).natAbs % D0) _ _ w h1 h2 h3 h4 rfl eD (decide_eq_true hn) (bool_eq hm) (div_nat _ _) (div_bd _ n1 n2) (mod_nat _ _) (Nat.mod_lt _ (by omega)) r0 hm rfl (by rw [Wnum.txt_point hm hR, sgn_neg hn])
      · exact rtext_point_p a b _ D0 ((Wnum.cN a b).natAbs / D0) ((Wnum.cN a b).natAbs % D0) _ _ w h1 h2 h3 h4 rfl eD (decide_eq_false hn) (bool_eq hm) (div_nat _ _) (div_bd _ n1 n2) (mod_nat _ _) (Nat.mod_lt _ (by omega)) r0 hm rfl (by rw [Wnum.txt_point hm hR, sgn_pos hn])
  · by_cases hn : Wnum.cN a b < 0
    · exact rtext_frac_n a b _ D0 _ _ _ w h1 h2 h3 h4 rfl eD (decide_eq_true hn) (bool_ne hm) rfl rfl (by rw [Wnum.txt_frac hm, sgn_neg hn])
    · exact rtext_frac_p a b _ D0 _ _ _ w h1 h2 h3 h4 rfl eD (decide_eq_false hn) (bool_ne hm) rfl rfl (by rw [Wnum.txt_frac hm, sgn_pos hn])
end Go.Proofs.YtlggnpohhahdlaaGreatDoor
