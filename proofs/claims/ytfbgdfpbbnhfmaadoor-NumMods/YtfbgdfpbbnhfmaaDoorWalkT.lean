/- The contracts of the reference's Round. -/
import Derived.Test.YtfbgdfpbbnhfmaaDoorWalkS
import Derived.Test.YtfbgdfpbbnhfmaaDoorWalkM
namespace Go.Proofs.YtfbgdfpbbnhfmaaDoor
open Go.RowKit
set_option linter.unusedVariables false

set_option maxHeartbeats 1600000 in
theorem rround_c1 (a b k T W P q r s : Int) (w : World) (h1 : -9223372036854775808 ≤ a) (h2 : a ≤ 9223372036854775807) (h3 : -9223372036854775808 ≤ b) (h4 : b ≤ 9223372036854775807)
    (hk1 : -12 ≤ k) (hk2 : k ≤ 0) (eT : Hid (Wnum.tenP (-k).toNat = T)) (e1 : ((Wnum.cN a b).natAbs : Int) = W) (e3 : Wnum.cD a b * T = P) (hT1 : 1 ≤ T) (hT2 : T ≤ 1000000000000) (y1 : -9000000000000000000 ≤ s * (q + 1) * T) (y2 : s * (q + 1) * T ≤ 9000000000000000000)
    (e5 : W.tdiv P = q) (e6 : W / P = q) (e7 : W.tmod P = r) (e8 : W % P = r) (e9 : (Wnum.cN a b).sign = s)
    (w1 : 0 ≤ W) (w2 : W ≤ 1000000000000000000) (p1 : 1 ≤ P) (p2 : P ≤ 1000000000000000000) (q1 : 0 ≤ q) (q2 : q ≤ 1000000000000000000) (r1 : 0 ≤ r) (r2 : r < P) (x1 : -1000000000000000001 ≤ s * (q + 1)) (x2 : s * (q + 1) ≤ 1000000000000000001)
    (tt : decide (P - r ≤ r) = true)
    (QP : Int) (v1 : 0 ≤ QP) (v2 : QP ≤ W) (v3 : W - QP = r) (tu : decide (P ≤ 2 * r) = true) (e10 : q * Wnum.cD a b * T = QP) (v4 : 0 ≤ q * Wnum.cD a b) (v5 : q * Wnum.cD a b ≤ 1000000000000000000) (v6 : 0 ≤ (q + 1) * T) (v7 : (q + 1) * T ≤ 9000000000000000000) (eS : Hid ((if decide (Wnum.cN a b < 0) = true then -((q + 1) * T) else (q + 1) * T) = s * (q + 1) * T)) :
    Calls Tryd.prog 25 #[.agg #[.int .i64 a, .int .i64 b], .int .i64 k] w fun e w' => e = .returned (.tuple #[.agg #[.int .i64 (Wnum.oN (some (Rat.divInt (s * (q + 1) * T) 1))), .int .i64 (Wnum.oD (some (Rat.divInt (s * (q + 1) * T) 1)))], .bool (Wnum.oB (some (Rat.divInt (s * (q + 1) * T) 1)))]) ∧ Below w.heap.size w w' := by
  obtain ⟨n1, n2⟩ := Wnum.cN_bd a b
  obtain ⟨n3, n4⟩ := Wnum.cD_bd a b
  have t1 : decide (k < -12) = false := by simp; omega
  have t2 : decide (6 < k) = false := by simp; omega
  have t3 : decide (0 < k) = false := by simp; omega
  have E1 : Hid (((Wnum.cN a b).natAbs : Int) = W) := e1
  have E3 : Hid (Wnum.cD a b * T = P) := e3
  clear e1 e3 e9
  go_enter Tryd.func25, Tryd.ntmps25
  go_wp2_with fail
  refine (of_any _ _ _ h1 h2 h3 h4).mono ?_
  rintro e w1 ⟨rfl, hb1⟩
  have pA : At w1 w.heap.size (.int .i64 a) (.int .i64 b) := At.below hb1 ((At.new w _ rfl _ _).alloc _)
  have pC : At w1 (w.heap.size + 1) (.int .i64 0) (.int .i64 0) := At.below hb1 (At.new (w.alloc _) _ (by simp) _ _)
  have hB : Below w.heap.size w w1 := by with_reducible repeat (first | exact Below.refl _ _ | refine below_drewN ?_ _ | refine Below.setCell ?_ (by first | (simp; done) | (simp; omega) | omega) _ | refine Below.drew ?_ | refine below_end ?_ (by assumption) | refine ball ?_ _)
  clear hb1
  have pA' := pA
  obtain ⟨a1, a2, a3, a4⟩ := pA'
  go_upto_region 2 with fail
  have qA := pA.put (.int .i64 (Wnum.cN a b)) (.int .i64 (Wnum.cD a b))
  have qC := pC.far2 (j := w.heap.size) (by omega) (.int .i64 (Wnum.cN a b)) (.int .i64 (Wnum.cD a b))
  have qD := put_below hB (k := w.heap.size) (by omega) (.int .i64 (Wnum.cN a b)) (.int .i64 (Wnum.cD a b))
  clear pA pC hB a1 a2 a3 a4
  generalize (w1.setCell ⟨w.heap.size, 0, none⟩ (.int .i64 (Wnum.cN a b))).setCell ⟨w.heap.size, 1, none⟩ (.int .i64 (Wnum.cD a b)) = W1 at *
  clear w1
  have qA' := qA
  obtain ⟨a1, a2, a3, a4⟩ := qA'
  obtain ⟨c1, c2, c3, c4⟩ := qC
  go_wp2_with fail
  refine (far_any _ _ (by omega) (by omega)).mono ?_
  rintro e w9 ⟨rfl, rfl⟩
  rw [E1.out]
  go_wp2_with fail
  refine (rten_any _ _ (by omega) (by omega)).mono ?_
  rintro e w9 ⟨rfl, rfl⟩
  rw [eT.out]
  have e3 := E3.out
  go_wp2_with fail
  refine (made_any _ _ _ _ (by omega) (by omega) (by omega) (by omega)).mono ?_
  rintro e w3 ⟨rfl, hb3⟩
  rw [eS.out]
  obtain ⟨k1, k2, k3, k4⟩ := At.below hb3 ⟨c1, c2, c3, c4⟩
  go_wp2
  refine bodyPost_ret (v := .tuple #[.agg #[.int .i64 (Wnum.oN (some (Rat.divInt (s * (q + 1) * T) 1))), .int .i64 (Wnum.oD (some (Rat.divInt (s * (q + 1) * T) 1)))], .bool (Wnum.oB (some (Rat.divInt (s * (q + 1) * T) 1)))]) (by simp [results, Tryd.results25, go_sem, k1, k2]) rfl ⟨rfl, ?_⟩
  exact put_below (below_end qD hb3) (by omega) _ _

set_option maxHeartbeats 1600000 in
theorem rround_c2 (a b k T W P q r s : Int) (w : World) (h1 : -9223372036854775808 ≤ a) (h2 : a ≤ 9223372036854775807) (h3 : -9223372036854775808 ≤ b) (h4 : b ≤ 9223372036854775807)
    (hk1 : -12 ≤ k) (hk2 : k ≤ 0) (eT : Hid (Wnum.tenP (-k).toNat = T)) (e1 : ((Wnum.cN a b).natAbs : Int) = W) (e3 : Wnum.cD a b * T = P) (hT1 : 1 ≤ T) (hT2 : T ≤ 1000000000000) (y1 : -9000000000000000000 ≤ s * q * T) (y2 : s * q * T ≤ 9000000000000000000)
    (e5 : W.tdiv P = q) (e6 : W / P = q) (e7 : W.tmod P = r) (e8 : W % P = r) (e9 : (Wnum.cN a b).sign = s)
    (w1 : 0 ≤ W) (w2 : W ≤ 1000000000000000000) (p1 : 1 ≤ P) (p2 : P ≤ 1000000000000000000) (q1 : 0 ≤ q) (q2 : q ≤ 1000000000000000000) (r1 : 0 ≤ r) (r2 : r < P) (x1 : -1000000000000000001 ≤ s * q) (x2 : s * q ≤ 1000000000000000001)
    (tt : decide (P - r ≤ r) = false)
    (QP : Int) (v1 : 0 ≤ QP) (v2 : QP ≤ W) (v3 : W - QP = r) (tu : decide (P ≤ 2 * r) = false) (e10 : q * Wnum.cD a b * T = QP) (v4 : 0 ≤ q * Wnum.cD a b) (v5 : q * Wnum.cD a b ≤ 1000000000000000000) (v6 : 0 ≤ q * T) (v7 : q * T ≤ 9000000000000000000) (eS : Hid ((if decide (Wnum.cN a b < 0) = true then -(q * T) else q * T) = s * q * T)) :
    Calls Tryd.prog 25 #[.agg #[.int .i64 a, .int .i64 b], .int .i64 k] w fun e w' => e = .returned (.tuple #[.agg #[.int .i64 (Wnum.oN (some (Rat.divInt (s * q * T) 1))), .int .i64 (Wnum.oD (some (Rat.divInt (s * q * T) 1)))], .bool (Wnum.oB (some (Rat.divInt (s * q * T) 1)))]) ∧ Below w.heap.size w w' := by
  obtain ⟨n1, n2⟩ := Wnum.cN_bd a b
  obtain ⟨n3, n4⟩ := Wnum.cD_bd a b
  have t1 : decide (k < -12) = false := by simp; omega
  have t2 : decide (6 < k) = false := by simp; omega
  have t3 : decide (0 < k) = false := by simp; omega
  have E1 : Hid (((Wnum.cN a b).natAbs : Int) = W) := e1
  have E3 : Hid (Wnum.cD a b * T = P) := e3
  clear e1 e3 e9
  go_enter Tryd.func25, Tryd.ntmps25
  go_wp2_with fail
  refine (of_any _ _ _ h1 h2 h3 h4).mono ?_
  rintro e w1 ⟨rfl, hb1⟩
  have pA : At w1 w.heap.size (.int .i64 a) (.int .i64 b) := At.below hb1 ((At.new w _ rfl _ _).alloc _)
  have pC : At w1 (w.heap.size + 1) (.int .i64 0) (.int .i64 0) := At.below hb1 (At.new (w.alloc _) _ (by simp) _ _)
  have hB : Below w.heap.size w w1 := by with_reducible repeat (first | exact Below.refl _ _ | refine below_drewN ?_ _ | refine Below.setCell ?_ (by first | (simp; done) | (simp; omega) | omega) _ | refine Below.drew ?_ | refine below_end ?_ (by assumption) | refine ball ?_ _)
  clear hb1
  have pA' := pA
  obtain ⟨a1, a2, a3, a4⟩ := pA'
  go_upto_region 2 with fail
  have qA := pA.put (.int .i64 (Wnum.cN a b)) (.int .i64 (Wnum.cD a b))
  have qC := pC.far2 (j := w.heap.size) (by omega) (.int .i64 (Wnum.cN a b)) (.int .i64 (Wnum.cD a b))
  have qD := put_below hB (k := w.heap.size) (by omega) (.int .i64 (Wnum.cN a b)) (.int .i64 (Wnum.cD a b))
  clear pA pC hB a1 a2 a3 a4
  generalize (w1.setCell ⟨w.heap.size, 0, none⟩ (.int .i64 (Wnum.cN a b))).setCell ⟨w.heap.size, 1, none⟩ (.int .i64 (Wnum.cD a b)) = W1 at *
  clear w1
  have qA' := qA
  obtain ⟨a1, a2, a3, a4⟩ := qA'
  obtain ⟨c1, c2, c3, c4⟩ := qC
  go_wp2_with fail
  refine (far_any _ _ (by omega) (by omega)).mono ?_
  rintro e w9 ⟨rfl, rfl⟩
  rw [E1.out]
  go_wp2_with fail
  refine (rten_any _ _ (by omega) (by omega)).mono ?_
  rintro e w9 ⟨rfl, rfl⟩
  rw [eT.out]
  have e3 := E3.out
  go_wp2_with fail
  refine (made_any _ _ _ _ (by omega) (by omega) (by omega) (by omega)).mono ?_
  rintro e w3 ⟨rfl, hb3⟩
  rw [eS.out]
  obtain ⟨k1, k2, k3, k4⟩ := At.below hb3 ⟨c1, c2, c3, c4⟩
  go_wp2
  refine bodyPost_ret (v := .tuple #[.agg #[.int .i64 (Wnum.oN (some (Rat.divInt (s * q * T) 1))), .int .i64 (Wnum.oD (some (Rat.divInt (s * q * T) 1)))], .bool (Wnum.oB (some (Rat.divInt (s * q * T) 1)))]) (by simp [results, Tryd.results25, go_sem, k1, k2]) rfl ⟨rfl, ?_⟩
  exact put_below (below_end qD hb3) (by omega) _ _

set_option maxHeartbeats 1600000 in
theorem rround_c3 (a b k T W P q r s : Int) (w : World) (h1 : -9223372036854775808 ≤ a) (h2 : a ≤ 9223372036854775807) (h3 : -9223372036854775808 ≤ b) (h4 : b ≤ 9223372036854775807)
    (hk1 : 0 < k) (hk2 : k ≤ 6) (eT : Hid (Wnum.tenP k.toNat = T)) (e1 : ((Wnum.cN a b).natAbs : Int) * T = W) (e3 : Wnum.cD a b = P) (hT1 : 1 ≤ T) (hT2 : T ≤ 1000000)
    (e5 : W.tdiv P = q) (e6 : W / P = q) (e7 : W.tmod P = r) (e8 : W % P = r) (e9 : (Wnum.cN a b).sign = s)
    (w1 : 0 ≤ W) (w2 : W ≤ 1000000000000000000) (p1 : 1 ≤ P) (p2 : P ≤ 1000000000000000000) (q1 : 0 ≤ q) (q2 : q ≤ 1000000000000000000) (r1 : 0 ≤ r) (r2 : r < P) (x1 : -1000000000000000001 ≤ s * (q + 1)) (x2 : s * (q + 1) ≤ 1000000000000000001)
    (tt : decide (P - r ≤ r) = true)
    (QP : Int) (v1 : 0 ≤ QP) (v2 : QP ≤ W) (v3 : W - QP = r) (tu : decide (P ≤ 2 * r) = true) (e10 : q * P = QP) (eS : Hid ((if decide (Wnum.cN a b < 0) = true then -((q + 1)) else (q + 1)) = s * (q + 1))) :
    Calls Tryd.prog 25 #[.agg #[.int .i64 a, .int .i64 b], .int .i64 k] w fun e w' => e = .returned (.tuple #[.agg #[.int .i64 (Wnum.oN (some (Rat.divInt (s * (q + 1)) T))), .int .i64 (Wnum.oD (some (Rat.divInt (s * (q + 1)) T)))], .bool (Wnum.oB (some (Rat.divInt (s * (q + 1)) T)))]) ∧ Below w.heap.size w w' := by
  obtain ⟨n1, n2⟩ := Wnum.cN_bd a b
  obtain ⟨n3, n4⟩ := Wnum.cD_bd a b
  have t1 : decide (k < -12) = false := by simp; omega
  have t2 : decide (6 < k) = false := by simp; omega
  have t3 : decide (0 < k) = true := by simp; omega
  have E1 : Hid (((Wnum.cN a b).natAbs : Int) * T = W) := e1
  have E3 : Hid (Wnum.cD a b = P) := e3
  clear e1 e3 e9
  go_enter Tryd.func25, Tryd.ntmps25
  go_wp2_with fail
  refine (of_any _ _ _ h1 h2 h3 h4).mono ?_
  rintro e w1 ⟨rfl, hb1⟩
  have pA : At w1 w.heap.size (.int .i64 a) (.int .i64 b) := At.below hb1 ((At.new w _ rfl _ _).alloc _)
  have pC : At w1 (w.heap.size + 1) (.int .i64 0) (.int .i64 0) := At.below hb1 (At.new (w.alloc _) _ (by simp) _ _)
  have hB : Below w.heap.size w w1 := by with_reducible repeat (first | exact Below.refl _ _ | refine below_drewN ?_ _ | refine Below.setCell ?_ (by first | (simp; done) | (simp; omega) | omega) _ | refine Below.drew ?_ | refine below_end ?_ (by assumption) | refine ball ?_ _)
  clear hb1
  have pA' := pA
  obtain ⟨a1, a2, a3, a4⟩ := pA'
  go_upto_region 2 with fail
  have qA := pA.put (.int .i64 (Wnum.cN a b)) (.int .i64 (Wnum.cD a b))
  have qC := pC.far2 (j := w.heap.size) (by omega) (.int .i64 (Wnum.cN a b)) (.int .i64 (Wnum.cD a b))
  have qD := put_below hB (k := w.heap.size) (by omega) (.int .i64 (Wnum.cN a b)) (.int .i64 (Wnum.cD a b))
  clear pA pC hB a1 a2 a3 a4
  generalize (w1.setCell ⟨w.heap.size, 0, none⟩ (.int .i64 (Wnum.cN a b))).setCell ⟨w.heap.size, 1, none⟩ (.int .i64 (Wnum.cD a b)) = W1 at *
  clear w1
  have qA' := qA
  obtain ⟨a1, a2, a3, a4⟩ := qA'
  obtain ⟨c1, c2, c3, c4⟩ := qC
  go_wp2_with fail
  refine (far_any _ _ (by omega) (by omega)).mono ?_
  rintro e w9 ⟨rfl, rfl⟩
  rw [E3.out] at a2
  go_wp2_with fail
  refine (rten_any _ _ (by omega) (by omega)).mono ?_
  rintro e w9 ⟨rfl, rfl⟩
  rw [eT.out]
  have e1 := E1.out
  go_wp2_with fail
  refine (made_any _ _ _ _ (by omega) (by omega) (by omega) (by omega)).mono ?_
  rintro e w3 ⟨rfl, hb3⟩
  rw [eS.out]
  obtain ⟨k1, k2, k3, k4⟩ := At.below hb3 ⟨c1, c2, c3, c4⟩
  go_wp2
  refine bodyPost_ret (v := .tuple #[.agg #[.int .i64 (Wnum.oN (some (Rat.divInt (s * (q + 1)) T))), .int .i64 (Wnum.oD (some (Rat.divInt (s * (q + 1)) T)))], .bool (Wnum.oB (some (Rat.divInt (s * (q + 1)) T)))]) (by simp [results, Tryd.results25, go_sem, k1, k2]) rfl ⟨rfl, ?_⟩
  exact put_below (below_end qD hb3) (by omega) _ _

set_option maxHeartbeats 1600000 in
theorem rround_c4 (a b k T W P q r s : Int) (w : World) (h1 : -9223372036854775808 ≤ a) (h2 : a ≤ 9223372036854775807) (h3 : -9223372036854775808 ≤ b) (h4 : b ≤ 9223372036854775807)
    (hk1 : 0 < k) (hk2 : k ≤ 6) (eT : Hid (Wnum.tenP k.toNat = T)) (e1 : ((Wnum.cN a b).natAbs : Int) * T = W) (e3 : Wnum.cD a b = P) (hT1 : 1 ≤ T) (hT2 : T ≤ 1000000)
    (e5 : W.tdiv P = q) (e6 : W / P = q) (e7 : W.tmod P = r) (e8 : W % P = r) (e9 : (Wnum.cN a b).sign = s)
    (w1 : 0 ≤ W) (w2 : W ≤ 1000000000000000000) (p1 : 1 ≤ P) (p2 : P ≤ 1000000000000000000) (q1 : 0 ≤ q) (q2 : q ≤ 1000000000000000000) (r1 : 0 ≤ r) (r2 : r < P) (x1 : -1000000000000000001 ≤ s * q) (x2 : s * q ≤ 1000000000000000001)
    (tt : decide (P - r ≤ r) = false)
    (QP : Int) (v1 : 0 ≤ QP) (v2 : QP ≤ W) (v3 : W - QP = r) (tu : decide (P ≤ 2 * r) = false) (e10 : q * P = QP) (eS : Hid ((if decide (Wnum.cN a b < 0) = true then -(q) else q) = s * q)) :
    Calls Tryd.prog 25 #[.agg #[.int .i64 a, .int .i64 b], .int .i64 k] w fun e w' => e = .returned (.tuple #[.agg #[.int .i64 (Wnum.oN (some (Rat.divInt (s * q) T))), .int .i64 (Wnum.oD (some (Rat.divInt (s * q) T)))], .bool (Wnum.oB (some (Rat.divInt (s * q) T)))]) ∧ Below w.heap.size w w' := by
  obtain ⟨n1, n2⟩ := Wnum.cN_bd a b
  obtain ⟨n3, n4⟩ := Wnum.cD_bd a b
  have t1 : decide (k < -12) = false := by simp; omega
  have t2 : decide (6 < k) = false := by simp; omega
  have t3 : decide (0 < k) = true := by simp; omega
  have E1 : Hid (((Wnum.cN a b).natAbs : Int) * T = W) := e1
  have E3 : Hid (Wnum.cD a b = P) := e3
  clear e1 e3 e9
  go_enter Tryd.func25, Tryd.ntmps25
  go_wp2_with fail
  refine (of_any _ _ _ h1 h2 h3 h4).mono ?_
  rintro e w1 ⟨rfl, hb1⟩
  have pA : At w1 w.heap.size (.int .i64 a) (.int .i64 b) := At.below hb1 ((At.new w _ rfl _ _).alloc _)
  have pC : At w1 (w.heap.size + 1) (.int .i64 0) (.int .i64 0) := At.below hb1 (At.new (w.alloc _) _ (by simp) _ _)
  have hB : Below w.heap.size w w1 := by with_reducible repeat (first | exact Below.refl _ _ | refine below_drewN ?_ _ | refine Below.setCell ?_ (by first | (simp; done) | (simp; omega) | omega) _ | refine Below.drew ?_ | refine below_end ?_ (by assumption) | refine ball ?_ _)
  clear hb1
  have pA' := pA
  obtain ⟨a1, a2, a3, a4⟩ := pA'
  go_upto_region 2 with fail
  have qA := pA.put (.int .i64 (Wnum.cN a b)) (.int .i64 (Wnum.cD a b))
  have qC := pC.far2 (j := w.heap.size) (by omega) (.int .i64 (Wnum.cN a b)) (.int .i64 (Wnum.cD a b))
  have qD := put_below hB (k := w.heap.size) (by omega) (.int .i64 (Wnum.cN a b)) (.int .i64 (Wnum.cD a b))
  clear pA pC hB a1 a2 a3 a4
  generalize (w1.setCell ⟨w.heap.size, 0, none⟩ (.int .i64 (Wnum.cN a b))).setCell ⟨w.heap.size, 1, none⟩ (.int .i64 (Wnum.cD a b)) = W1 at *
  clear w1
  have qA' := qA
  obtain ⟨a1, a2, a3, a4⟩ := qA'
  obtain ⟨c1, c2, c3, c4⟩ := qC
  go_wp2_with fail
  refine (far_any _ _ (by omega) (by omega)).mono ?_
  rintro e w9 ⟨rfl, rfl⟩
  rw [E3.out] at a2
  go_wp2_with fail
  refine (rten_any _ _ (by omega) (by omega)).mono ?_
  rintro e w9 ⟨rfl, rfl⟩
  rw [eT.out]
  have e1 := E1.out
  go_wp2_with fail
  refine (made_any _ _ _ _ (by omega) (by omega) (by omega) (by omega)).mono ?_
  rintro e w3 ⟨rfl, hb3⟩
  rw [eS.out]
  obtain ⟨k1, k2, k3, k4⟩ := At.below hb3 ⟨c1, c2, c3, c4⟩
  go_wp2
  refine bodyPost_ret (v := .tuple #[.agg #[.int .i64 (Wnum.oN (some (Rat.divInt (s * q) T))), .int .i64 (Wnum.oD (some (Rat.divInt (s * q) T)))], .bool (Wnum.oB (some (Rat.divInt (s * q) T)))]) (by simp [results, Tryd.results25, go_sem, k1, k2]) rfl ⟨rfl, ?_⟩
  exact put_below (below_end qD hb3) (by omega) _ _

set_option maxHeartbeats 1600000 in
theorem rround_z1 (a b k : Int) (w : World) (h1 : -9223372036854775808 ≤ a) (h2 : a ≤ 9223372036854775807) (h3 : -9223372036854775808 ≤ b) (h4 : b ≤ 9223372036854775807)
    (t1 : decide (k < -12) = true) :
    Calls Tryd.prog 25 #[.agg #[.int .i64 a, .int .i64 b], .int .i64 k] w fun e w' => e = .returned (.tuple #[.agg #[.int .i64 0, .int .i64 0], .bool false]) ∧ Below w.heap.size w w' := by
  go_enter Tryd.func25, Tryd.ntmps25
  go_wp2_with fail
  refine (of_any _ _ _ h1 h2 h3 h4).mono ?_
  rintro e w1 ⟨rfl, hb1⟩
  have pA : At w1 w.heap.size (.int .i64 a) (.int .i64 b) := At.below hb1 ((At.new w _ rfl _ _).alloc _)
  have pC : At w1 (w.heap.size + 1) (.int .i64 0) (.int .i64 0) := At.below hb1 (At.new (w.alloc _) _ (by simp) _ _)
  have hB : Below w.heap.size w w1 := by with_reducible repeat (first | exact Below.refl _ _ | refine below_drewN ?_ _ | refine Below.setCell ?_ (by first | (simp; done) | (simp; omega) | omega) _ | refine Below.drew ?_ | refine below_end ?_ (by assumption) | refine ball ?_ _)
  clear hb1
  have pA' := pA
  obtain ⟨a1, a2, a3, a4⟩ := pA'
  go_upto_region 2 with fail
  have qA := pA.put (.int .i64 (Wnum.cN a b)) (.int .i64 (Wnum.cD a b))
  have qC := pC.far2 (j := w.heap.size) (by omega) (.int .i64 (Wnum.cN a b)) (.int .i64 (Wnum.cD a b))
  have qD := put_below hB (k := w.heap.size) (by omega) (.int .i64 (Wnum.cN a b)) (.int .i64 (Wnum.cD a b))
  clear pA pC hB a1 a2 a3 a4
  generalize (w1.setCell ⟨w.heap.size, 0, none⟩ (.int .i64 (Wnum.cN a b))).setCell ⟨w.heap.size, 1, none⟩ (.int .i64 (Wnum.cD a b)) = W1 at *
  clear w1
  have qA' := qA
  obtain ⟨a1, a2, a3, a4⟩ := qA'
  obtain ⟨c1, c2, c3, c4⟩ := qC
  go_wp2
  refine bodyPost_ret (v := .tuple #[.agg #[.int .i64 0, .int .i64 0], .bool false]) (by simp [results, Tryd.results25, go_sem, c1, c2]) rfl ⟨rfl, ?_⟩
  exact (by with_reducible repeat (first | exact qD | refine below_drewN ?_ _ | refine Below.setCell ?_ (by first | (simp; done) | (simp; omega) | omega) _ | refine Below.drew ?_))

set_option maxHeartbeats 1600000 in
theorem rround_z2 (a b k : Int) (w : World) (h1 : -9223372036854775808 ≤ a) (h2 : a ≤ 9223372036854775807) (h3 : -9223372036854775808 ≤ b) (h4 : b ≤ 9223372036854775807)
    (t1 : decide (k < -12) = false) (t2 : decide (6 < k) = true) :
    Calls Tryd.prog 25 #[.agg #[.int .i64 a, .int .i64 b], .int .i64 k] w fun e w' => e = .returned (.tuple #[.agg #[.int .i64 0, .int .i64 0], .bool false]) ∧ Below w.heap.size w w' := by
  go_enter Tryd.func25, Tryd.ntmps25
  go_wp2_with fail
  refine (of_any _ _ _ h1 h2 h3 h4).mono ?_
  rintro e w1 ⟨rfl, hb1⟩
  have pA : At w1 w.heap.size (.int .i64 a) (.int .i64 b) := At.below hb1 ((At.new w _ rfl _ _).alloc _)
  have pC : At w1 (w.heap.size + 1) (.int .i64 0) (.int .i64 0) := At.below hb1 (At.new (w.alloc _) _ (by simp) _ _)
  have hB : Below w.heap.size w w1 := by with_reducible repeat (first | exact Below.refl _ _ | refine below_drewN ?_ _ | refine Below.setCell ?_ (by first | (simp; done) | (simp; omega) | omega) _ | refine Below.drew ?_ | refine below_end ?_ (by assumption) | refine ball ?_ _)
  clear hb1
  have pA' := pA
  obtain ⟨a1, a2, a3, a4⟩ := pA'
  go_upto_region 2 with fail
  have qA := pA.put (.int .i64 (Wnum.cN a b)) (.int .i64 (Wnum.cD a b))
  have qC := pC.far2 (j := w.heap.size) (by omega) (.int .i64 (Wnum.cN a b)) (.int .i64 (Wnum.cD a b))
  have qD := put_below hB (k := w.heap.size) (by omega) (.int .i64 (Wnum.cN a b)) (.int .i64 (Wnum.cD a b))
  clear pA pC hB a1 a2 a3 a4
  generalize (w1.setCell ⟨w.heap.size, 0, none⟩ (.int .i64 (Wnum.cN a b))).setCell ⟨w.heap.size, 1, none⟩ (.int .i64 (Wnum.cD a b)) = W1 at *
  clear w1
  have qA' := qA
  obtain ⟨a1, a2, a3, a4⟩ := qA'
  obtain ⟨c1, c2, c3, c4⟩ := qC
  go_wp2
  refine bodyPost_ret (v := .tuple #[.agg #[.int .i64 0, .int .i64 0], .bool false]) (by simp [results, Tryd.results25, go_sem, c1, c2]) rfl ⟨rfl, ?_⟩
  exact (by with_reducible repeat (first | exact qD | refine below_drewN ?_ _ | refine Below.setCell ?_ (by first | (simp; done) | (simp; omega) | omega) _ | refine Below.drew ?_))

end Go.Proofs.YtfbgdfpbbnhfmaaDoor
