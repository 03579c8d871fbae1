/- The contract of Text. -/
import Derived.Test.YtfilmomndhlmbabDoorWalkIt
import Derived.Test.YtfilmomndhlmbabDoorWalkDs
import Derived.Test.YtfilmomndhlmbabDoorWalkF
import Derived.Deep.DeepCutAuto
namespace Go.Proofs.YtfilmomndhlmbabDoor
open Go.Shelf Go.RowKit
set_option linter.unusedVariables false

theorem itoa_b (n : Int) (w : World) (h0 : -9223372036854775808 ≤ n) (h1 : n ≤ 9223372036854775807) (htab : Lib.TabIs Tryd.prog w "internal/strconv.uint64pow10" .u64 Lib.pow10Tab) :
    Calls Tryd.prog 17 #[.int .i64 n] w fun e w' => e = .returned (.string ⟨(Lib.itoa n).toArray⟩) ∧ Below w.heap.size w w' :=
  (itoa_any n h0 h1 w htab).mono fun e w' ⟨he, k, os, hw⟩ => ⟨he, by rw [hw]; exact Lib.below_grow _ w (Nat.le_refl _) k os⟩

set_option maxRecDepth 100000 in
set_option maxHeartbeats 3200000 in
theorem text_one (a b : Int) (l : List UInt8) (w : World) (h1 : -9223372036854775808 ≤ a) (h2 : a ≤ 9223372036854775807) (h3 : -9223372036854775808 ≤ b) (h4 : b ≤ 9223372036854775807) (hd : (Wnum.cD a b == 1) = true) (hl : Lib.itoa (Wnum.cN a b) = l) (htab : Lib.TabIs Tryd.prog w "internal/strconv.uint64pow10" .u64 Lib.pow10Tab) :
    Calls Tryd.prog 7 #[.agg #[.int .i64 a, .int .i64 b]] w fun e w' => e = .returned (.string ⟨l.toArray⟩) ∧ Below w.heap.size w w' := by
  have TB := Lib.tabBelow_of_tabIs htab
  obtain ⟨n1, n2⟩ := Wnum.cN_bd a b
  obtain ⟨n3, n4⟩ := Wnum.cD_bd a b
  have L : Hid (Lib.itoa (Wnum.cN a b) = l) := hl
  clear hl
  go_enter Tryd.func7, Tryd.ntmps7
  go_wp2_with fail
  refine (counted_any _ _ _ h1 h2 h3 h4).mono ?_
  rintro e w1 ⟨rfl, hb1⟩
  have pA : At w1 w.heap.size (.int .i64 a) (.int .i64 b) := At.below hb1 (At.new w _ rfl _ _)
  have hB : Below w.heap.size w w1 := by with_reducible repeat (first | exact Below.refl _ _ | refine below_drewN ?_ _ | refine Below.setCell ?_ (by first | (simp; done) | (simp; omega) | omega) _ | refine Below.drew ?_ | refine below_end ?_ (by assumption) | refine ball ?_ _)
  clear hb1
  have pA' := pA
  obtain ⟨a1, a2, a3, a4⟩ := pA'
  go_upto_region 2 with fail
  have qA := pA.put (.int .i64 (Wnum.cN a b)) (.int .i64 (Wnum.cD a b))
  have qD := put_below hB (k := w.heap.size) (by omega) (.int .i64 (Wnum.cN a b)) (.int .i64 (Wnum.cD a b))
  clear pA hB a1 a2 a3 a4
  generalize (w1.setCell ⟨w.heap.size, 0, none⟩ (.int .i64 (Wnum.cN a b))).setCell ⟨w.heap.size, 1, none⟩ (.int .i64 (Wnum.cD a b)) = W1 at *
  clear w1
  have qA' := qA
  obtain ⟨a1, a2, a3, a4⟩ := qA'
  go_wp2_with fail
  refine (itoa_b _ _ (by omega) (by omega) (TB.on qD).here).mono ?_
  rintro e w2 ⟨rfl, hb2⟩
  rw [L.out]
  have qE := below_end qD hb2
  go_wp2
  go_ret
  exact ⟨rfl, qE⟩

set_option maxRecDepth 100000 in
set_option maxHeartbeats 3200000 in
theorem text_frac (a b : Int) (l1 l2 : List UInt8) (w : World) (h1 : -9223372036854775808 ≤ a) (h2 : a ≤ 9223372036854775807) (h3 : -9223372036854775808 ≤ b) (h4 : b ≤ 9223372036854775807) (hd : (Wnum.cD a b == 1) = false) (hm : (1000000 % Wnum.cD a b != 0) = true) (hl1 : Lib.itoa (Wnum.cN a b) = l1) (hl2 : Lib.itoa (Wnum.cD a b) = l2) (htab : Lib.TabIs Tryd.prog w "internal/strconv.uint64pow10" .u64 Lib.pow10Tab) :
    Calls Tryd.prog 7 #[.agg #[.int .i64 a, .int .i64 b]] w fun e w' => e = .returned (.string ⟨(l1 ++ 47 :: l2).toArray⟩) ∧ Below w.heap.size w w' := by
  have TB := Lib.tabBelow_of_tabIs htab
  obtain ⟨n1, n2⟩ := Wnum.cN_bd a b
  obtain ⟨n3, n4⟩ := Wnum.cD_bd a b
  have L1 : Hid (Lib.itoa (Wnum.cN a b) = l1) := hl1
  have L2 : Hid (Lib.itoa (Wnum.cD a b) = l2) := hl2
  have s1 : l1.length ≤ 21 := by rw [← hl1]; exact Lib.itoa_length_le _ (by omega) (by omega)
  have s2 : l2.length ≤ 21 := by rw [← hl2]; exact Lib.itoa_length_le _ (by omega) (by omega)
  clear hl1 hl2
  have z1 : ¬ 9223372036854775807 < l1.length + 1 := by omega
  have z2 : ¬ 9223372036854775807 < l1.length + 1 + l2.length := by omega
  have z3 : ¬ 9223372036854775807 < l1.length + (1 + l2.length) := by omega
  have z4 : ¬ 9223372036854775807 < l1.length := by omega
  have y6 : ¬ Wnum.cD a b = 0 := by omega
  go_enter Tryd.func7, Tryd.ntmps7
  go_wp2_with fail
  refine (counted_any _ _ _ h1 h2 h3 h4).mono ?_
  rintro e w1 ⟨rfl, hb1⟩
  have pA : At w1 w.heap.size (.int .i64 a) (.int .i64 b) := At.below hb1 (At.new w _ rfl _ _)
  have hB : Below w.heap.size w w1 := by with_reducible repeat (first | exact Below.refl _ _ | refine below_drewN ?_ _ | refine Below.setCell ?_ (by first | (simp; done) | (simp; omega) | omega) _ | refine Below.drew ?_ | refine below_end ?_ (by assumption) | refine ball ?_ _)
  clear hb1
  have pA' := pA
  obtain ⟨a1, a2, a3, a4⟩ := pA'
  go_upto_region 2 with fail
  have qA := pA.put (.int .i64 (Wnum.cN a b)) (.int .i64 (Wnum.cD a b))
  have qD := put_below hB (k := w.heap.size) (by omega) (.int .i64 (Wnum.cN a b)) (.int .i64 (Wnum.cD a b))
  clear pA hB a1 a2 a3 a4
  generalize (w1.setCell ⟨w.heap.size, 0, none⟩ (.int .i64 (Wnum.cN a b))).setCell ⟨w.heap.size, 1, none⟩ (.int .i64 (Wnum.cD a b)) = W1 at *
  clear w1
  have qA' := qA
  obtain ⟨a1, a2, a3, a4⟩ := qA'
  have qE := qD.drew
  go_wp2_with fail
  go_region_held3 (fun W => W.cell? ⟨w.heap.size, 0, none⟩ = some (.int .i64 (Wnum.cN a b)) ∧ W.cell? ⟨w.heap.size, 1, none⟩ = some (.int .i64 (Wnum.cD a b))) (first | exact ⟨a1, a2⟩ | exact keep2 hbq (by assumption) | assumption)
    (first
      | (go_at_call 17; refine (itoa_b _ _ (by omega) (by omega) (TB.on qE).here).mono ?_; rintro e wq ⟨rfl, hbq⟩; (first | rw [L1.out] | rw [L2.out]); have qE := below_end qE hbq))
  all_goals
    go_wp2
    go_ret
    refine ⟨?_, qE⟩
    exact congrArg (fun x => Ending.returned (Value.string x)) (by rw [show (ByteArray.mk #[47]) = ⟨[(47 : UInt8)].toArray⟩ from rfl, app_mk, app_mk, List.append_assoc]; rfl)

set_option maxRecDepth 100000 in
set_option maxHeartbeats 3200000 in
theorem text_point (a b : Int) (W0 R0 : Nat) (l1 l2 l r : List UInt8) (w : World) (h1 : -9223372036854775808 ≤ a) (h2 : a ≤ 9223372036854775807) (h3 : -9223372036854775808 ≤ b) (h4 : b ≤ 9223372036854775807) (hd : (Wnum.cD a b == 1) = false) (hm : (1000000 % Wnum.cD a b != 0) = false) (hm2 : 1000000 % (Wnum.cD a b).toNat = 0) (hW : ((Wnum.cN a b).natAbs : Int) / Wnum.cD a b = (W0 : Int)) (hR : ((Wnum.cN a b).natAbs : Int) % Wnum.cD a b = (R0 : Int)) (hW2 : (W0 : Int) ≤ 1000000000000) (hR2 : (R0 : Int) < Wnum.cD a b) (hl1 : Lib.itoa (W0 : Int) = l1) (hl2 : Wnum.decs (Wnum.cD a b).toNat 6 R0 = l2) (hl : l1 ++ 46 :: l2 = l) (hrn : Wnum.cN a b < 0 → r = 45 :: l) (hrp : ¬ Wnum.cN a b < 0 → r = l) (htab : Lib.TabIs Tryd.prog w "internal/strconv.uint64pow10" .u64 Lib.pow10Tab) :
    Calls Tryd.prog 7 #[.agg #[.int .i64 a, .int .i64 b]] w fun e w' => e = .returned (.string ⟨r.toArray⟩) ∧ Below w.heap.size w w' := by
  have TB := Lib.tabBelow_of_tabIs htab
  obtain ⟨n1, n2⟩ := Wnum.cN_bd a b
  obtain ⟨n3, n4⟩ := Wnum.cD_bd a b
  have L1 : Hid (Lib.itoa (W0 : Int) = l1) := hl1
  have s1 : l1.length ≤ 21 := by rw [← hl1]; exact Lib.itoa_length_le _ (by omega) (by omega)
  have s2 : l2.length ≤ 6 := by rw [← hl2]; exact Wnum.decs_length _ _ _
  have DC := fun w => decimals_any R0 (Wnum.cD a b).toNat w (by omega) (by omega) (by omega) hm2
  rw [hl2, show (((Wnum.cD a b).toNat : Nat) : Int) = Wnum.cD a b by omega] at DC
  have LL : Hid (l1 ++ 46 :: l2 = l) := hl
  have RN : Hid (Wnum.cN a b < 0 → r = 45 :: l) := hrn
  have RP : Hid (0 ≤ Wnum.cN a b → r = l) := fun h => hrp (by omega)
  have sz : l.length ≤ 100 := by rw [← hl]; simp; omega
  clear hl1 hl2 hm2 hl hrn hrp
  have z1 : ¬ 9223372036854775807 < l1.length + 1 := by omega
  have z2 : ¬ 9223372036854775807 < l1.length + 1 + l2.length := by omega
  have z3 : ¬ 9223372036854775807 < l1.length + (1 + l2.length) := by omega
  have z4 : ¬ 9223372036854775807 < l1.length := by omega
  have y6 : ¬ Wnum.cD a b = 0 := by omega
  go_enter Tryd.func7, Tryd.ntmps7
  go_wp2_with fail
  refine (counted_any _ _ _ h1 h2 h3 h4).mono ?_
  rintro e w1 ⟨rfl, hb1⟩
  have pA : At w1 w.heap.size (.int .i64 a) (.int .i64 b) := At.below hb1 (At.new w _ rfl _ _)
  have hB : Below w.heap.size w w1 := by with_reducible repeat (first | exact Below.refl _ _ | refine below_drewN ?_ _ | refine Below.setCell ?_ (by first | (simp; done) | (simp; omega) | omega) _ | refine Below.drew ?_ | refine below_end ?_ (by assumption) | refine ball ?_ _)
  clear hb1
  have pA' := pA
  obtain ⟨a1, a2, a3, a4⟩ := pA'
  go_upto_region 2 with fail
  have qA := pA.put (.int .i64 (Wnum.cN a b)) (.int .i64 (Wnum.cD a b))
  have qD := put_below hB (k := w.heap.size) (by omega) (.int .i64 (Wnum.cN a b)) (.int .i64 (Wnum.cD a b))
  clear pA hB a1 a2 a3 a4
  generalize (w1.setCell ⟨w.heap.size, 0, none⟩ (.int .i64 (Wnum.cN a b))).setCell ⟨w.heap.size, 1, none⟩ (.int .i64 (Wnum.cD a b)) = W1 at *
  clear w1
  have qA' := qA
  obtain ⟨a1, a2, a3, a4⟩ := qA'
  go_wp2_with fail
  go_quiet ((go_at_call 18; exact Calls.quiet_of_same (flip_w (size_any _ _ (by omega) (by omega)))))
  go_wp2_with fail
  have rA := qA.drewN nq
  have rD := below_drewN qD nq
  clear qA qD a1 a2 a3 a4
  generalize W1.drewN nq = W2 at *
  clear W1 nq
  have rA' := rA
  obtain ⟨a1, a2, a3, a4⟩ := rA'
  have qE := rD.drew
  go_cut [4, 5] (fun s4 s5 wx => s4 = .int .i64 (R0 : Int) ∧ s5 = .string ⟨l.toArray⟩ ∧ Below w.heap.size w wx ∧ At wx w.heap.size (.int .i64 (Wnum.cN a b)) (.int .i64 (Wnum.cD a b)))
  case first =>
    go_region_held3 (fun W => W.cell? ⟨w.heap.size, 0, none⟩ = some (.int .i64 (Wnum.cN a b)) ∧ W.cell? ⟨w.heap.size, 1, none⟩ = some (.int .i64 (Wnum.cD a b))) (first | exact ⟨a1, a2⟩ | exact keep2 hbq (by assumption) | assumption)
      (first
        | (go_at_call 17; refine (itoa_b _ _ (by omega) (by omega) (TB.on qE).here).mono ?_; rintro e wq ⟨rfl, hbq⟩; rw [L1.out]; have qE := below_end qE hbq; have rE := At.below hbq (by first | exact rE | exact rA.drew))
        | (go_at_call 19; refine (DC _).mono ?_; rintro e wq ⟨rfl, hbq⟩; have qE := below_end qE hbq; have rE := At.below hbq (by first | exact rE | exact rA.drew)))
    all_goals
      go_wp2_with fail
      go_meet
      case rel => exact ⟨rfl, congrArg Value.string (by rw [← LL.out, show (ByteArray.mk #[46]) = ⟨[(46 : UInt8)].toArray⟩ from rfl, app_mk, app_mk, List.append_assoc]; rfl), qE, rE⟩
  case rest =>
    obtain ⟨h4, h5, hB5, pA5⟩ := hcut
    subst h4 h5
    obtain ⟨a1, a2, a3, a4⟩ := pA5
    clear LL
    cases hn : decide (Wnum.cN a b < 0)
    · have hn' : ¬ Wnum.cN a b < 0 := of_decide_eq_false hn
      have e5 : Hid (r = l) := RP.out (by omega)
      clear RN RP
      clear hn
      go_wp2
      go_ret
      exact ⟨by rw [e5.out]; rfl, hB5⟩
    · have hn' : Wnum.cN a b < 0 := of_decide_eq_true hn
      have e5 : Hid (r = 45 :: l) := RN.out hn'
      clear RN RP
      have z5 : ¬ 9223372036854775807 < 1 + l.length := by omega
      clear hn
      go_wp2
      go_ret
      refine ⟨?_, hB5⟩
      rw [e5.out]
      exact congrArg (fun x => Ending.returned (Value.string x)) (by rw [show (ByteArray.mk #[45]) = ⟨[(45 : UInt8)].toArray⟩ from rfl, app_mk]; rfl)
end Go.Proofs.YtfilmomndhlmbabDoor
