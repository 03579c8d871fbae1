/- The contracts of Round. -/
import Derived.Test.YtfilmomndhlmbaaDoorWalkR
import Derived.Test.YtfilmomndhlmbaaDoorWalkI
namespace Go.Proofs.YtfilmomndhlmbaaDoor
open Go.RowKit
set_option linter.unusedVariables false

set_option maxHeartbeats 1600000 in
theorem round_c1 (a b k T W P q r s : Int) (w : World) (h1 : -9223372036854775808 ≤ a) (h2 : a ≤ 9223372036854775807) (h3 : -9223372036854775808 ≤ b) (h4 : b ≤ 9223372036854775807)
    (hk1 : -12 ≤ k) (hk2 : k < 0) (eT : Hid (Wnum.tenP (-k).toNat = T)) (e1 : ((Wnum.cN a b).natAbs : Int) = W) (e3 : Wnum.cD a b * T = P) (hT1 : 1 ≤ T) (hT2 : T ≤ 1000000000000) (y1 : -9000000000000000000 ≤ s * (q + 1) * T) (y2 : s * (q + 1) * T ≤ 9000000000000000000)
    (e5 : W.tdiv P = q) (e6 : W / P = q) (e7 : W.tmod P = r) (e8 : W % P = r) (e9 : (Wnum.cN a b).sign = s)
    (w1 : 0 ≤ W) (w2 : W ≤ 1000000000000000000) (p1 : 1 ≤ P) (p2 : P ≤ 1000000000000000000) (q1 : 0 ≤ q) (q2 : q ≤ 1000000000000000000) (r1 : 0 ≤ r) (r2 : r < P) (x1 : -1000000000000000001 ≤ s * (q + 1)) (x2 : s * (q + 1) ≤ 1000000000000000001)
    (tt : decide (P - r ≤ r) = true) :
    Calls Tryd.prog 25 #[.agg #[.int .i64 a, .int .i64 b], .int .i64 k] w fun e w' => e = .returned (.tuple #[.agg #[.int .i64 (Wnum.oN (Wnum.mk (s * (q + 1) * T) 1)), .int .i64 (Wnum.oD (Wnum.mk (s * (q + 1) * T) 1))], .bool (Wnum.oB (Wnum.mk (s * (q + 1) * T) 1))]) ∧ Below w.heap.size w w' := by
  obtain ⟨n1, n2⟩ := Wnum.cN_bd a b
  obtain ⟨n3, n4⟩ := Wnum.cD_bd a b
  have z1 : IntKind.i64.wrap W = W := IntWalk.i64_in _ (by omega)
  have z2 : IntKind.i64.wrap P = P := IntWalk.i64_in _ (by omega)
  have z3 : IntKind.i64.wrap q = q := IntWalk.i64_in _ (by omega)
  have z4 : ¬ P = 0 := by omega
  have t1 : decide (k < -12) = false := by simp; omega
  have t2 : decide (6 < k) = false := by simp; omega
  have t3 : decide (k < 0) = true := by simp; omega
  have E1 : Hid (((Wnum.cN a b).natAbs : Int) = W) := e1
  have E3 : Hid (Wnum.cD a b * T = P) := e3
  have E9 : Hid ((Wnum.cN a b).sign = s) := e9
  clear e1 e3 e9
  go_enter Tryd.func25, Tryd.ntmps25
  go_wp2_with fail
  refine (tenTo_any _ _ (by omega) (by omega)).mono ?_
  rintro e w9 ⟨rfl, rfl⟩
  rw [eT.out]
  go_wp2_with fail
  refine (counted_any _ _ _ h1 h2 h3 h4).mono ?_
  rintro e w1 ⟨rfl, hb1⟩
  have pA : At w1 w.heap.size (.int .i64 a) (.int .i64 b) := At.below hb1 ((At.new w _ rfl _ _).alloc _)
  have pC : At w1 (w.heap.size + 1) (.int .i64 0) (.int .i64 0) := At.below hb1 (At.new (w.alloc _) _ (by simp) _ _)
  have hB : Below w.heap.size w w1 := by with_reducible repeat (first | exact Below.refl _ _ | refine below_drewN ?_ _ | refine Below.setCell ?_ (by first | (simp; done) | (simp; omega) | omega) _ | refine Below.drew ?_ | refine below_end ?_ (by assumption) | refine ball ?_ _)
  clear hb1
  have pA' := pA
  obtain ⟨a1, a2, a3, a4⟩ := pA'
  go_upto_region 8 with fail
  have qA := pA.put (.int .i64 (Wnum.cN a b)) (.int .i64 (Wnum.cD a b))
  have qC := pC.far2 (j := w.heap.size) (by omega) (.int .i64 (Wnum.cN a b)) (.int .i64 (Wnum.cD a b))
  have qD := put_below hB (k := w.heap.size) (by omega) (.int .i64 (Wnum.cN a b)) (.int .i64 (Wnum.cD a b))
  clear pA pC hB a1 a2 a3 a4
  generalize (w1.setCell ⟨w.heap.size, 0, none⟩ (.int .i64 (Wnum.cN a b))).setCell ⟨w.heap.size, 1, none⟩ (.int .i64 (Wnum.cD a b)) = W1 at *
  clear w1
  have qA' := qA
  obtain ⟨a1, a2, a3, a4⟩ := qA'
  obtain ⟨c1, c2, c3, c4⟩ := qC
  have e1 := E1.out
  have e3 := E3.out
  go_quiet ((go_at_call 31; exact Calls.quiet_of_same (flip_w (size_any _ _ (by omega) (by omega)))))
  go_wp2_with fail
  have rA := qA.drewN nq
  have rC := At.drewN ⟨c1, c2, c3, c4⟩ nq
  have rD := below_drewN qD nq
  clear qA qD a1 a2 a3 a4 c1 c2 c3 c4
  generalize W1.drewN nq = W2 at *
  clear W1 nq
  go_quiet (fail)
  have qA := rA.drewN nq
  have qC := rC.drewN nq
  have qD := below_drewN rD nq
  clear rA rC rD
  generalize W2.drewN nq = W3 at *
  clear W2 nq e1 e3
  obtain ⟨a1, a2, a3, a4⟩ := qA
  obtain ⟨c1, c2, c3, c4⟩ := qC
  go_wp2_with fail
  refine (sign_any _ _).mono ?_
  rintro e w9 ⟨rfl, rfl⟩
  rw [E9.out]
  go_wp2_with fail
  refine (make_most _ _ _ (by omega) (by omega) (by omega) (by omega)).mono ?_
  rintro e w3 ⟨rfl, hb3⟩
  obtain ⟨k1, k2, k3, k4⟩ := At.below hb3 ⟨c1, c2, c3, c4⟩
  go_wp2
  refine bodyPost_ret (v := .tuple #[.agg #[.int .i64 (Wnum.oN (Wnum.mk (s * (q + 1) * T) 1)), .int .i64 (Wnum.oD (Wnum.mk (s * (q + 1) * T) 1))], .bool (Wnum.oB (Wnum.mk (s * (q + 1) * T) 1))]) (by simp [results, Tryd.results25, go_sem, k1, k2]) rfl ⟨rfl, ?_⟩
  exact put_below (below_end qD hb3) (by omega) _ _

set_option maxHeartbeats 1600000 in
theorem round_c2 (a b k T W P q r s : Int) (w : World) (h1 : -9223372036854775808 ≤ a) (h2 : a ≤ 9223372036854775807) (h3 : -9223372036854775808 ≤ b) (h4 : b ≤ 9223372036854775807)
    (hk1 : -12 ≤ k) (hk2 : k < 0) (eT : Hid (Wnum.tenP (-k).toNat = T)) (e1 : ((Wnum.cN a b).natAbs : Int) = W) (e3 : Wnum.cD a b * T = P) (hT1 : 1 ≤ T) (hT2 : T ≤ 1000000000000) (y1 : -9000000000000000000 ≤ s * q * T) (y2 : s * q * T ≤ 9000000000000000000)
    (e5 : W.tdiv P = q) (e6 : W / P = q) (e7 : W.tmod P = r) (e8 : W % P = r) (e9 : (Wnum.cN a b).sign = s)
    (w1 : 0 ≤ W) (w2 : W ≤ 1000000000000000000) (p1 : 1 ≤ P) (p2 : P ≤ 1000000000000000000) (q1 : 0 ≤ q) (q2 : q ≤ 1000000000000000000) (r1 : 0 ≤ r) (r2 : r < P) (x1 : -1000000000000000001 ≤ s * q) (x2 : s * q ≤ 1000000000000000001)
    (tt : decide (P - r ≤ r) = false) :
    Calls Tryd.prog 25 #[.agg #[.int .i64 a, .int .i64 b], .int .i64 k] w fun e w' => e = .returned (.tuple #[.agg #[.int .i64 (Wnum.oN (Wnum.mk (s * q * T) 1)), .int .i64 (Wnum.oD (Wnum.mk (s * q * T) 1))], .bool (Wnum.oB (Wnum.mk (s * q * T) 1))]) ∧ Below w.heap.size w w' := by
  obtain ⟨n1, n2⟩ := Wnum.cN_bd a b
  obtain ⟨n3, n4⟩ := Wnum.cD_bd a b
  have z1 : IntKind.i64.wrap W = W := IntWalk.i64_in _ (by omega)
  have z2 : IntKind.i64.wrap P = P := IntWalk.i64_in _ (by omega)
  have z3 : IntKind.i64.wrap q = q := IntWalk.i64_in _ (by omega)
  have z4 : ¬ P = 0 := by omega
  have t1 : decide (k < -12) = false := by simp; omega
  have t2 : decide (6 < k) = false := by simp; omega
  have t3 : decide (k < 0) = true := by simp; omega
  have E1 : Hid (((Wnum.cN a b).natAbs : Int) = W) := e1
  have E3 : Hid (Wnum.cD a b * T = P) := e3
  have E9 : Hid ((Wnum.cN a b).sign = s) := e9
  clear e1 e3 e9
  go_enter Tryd.func25, Tryd.ntmps25
  go_wp2_with fail
  refine (tenTo_any _ _ (by omega) (by omega)).mono ?_
  rintro e w9 ⟨rfl, rfl⟩
  rw [eT.out]
  go_wp2_with fail
  refine (counted_any _ _ _ h1 h2 h3 h4).mono ?_
  rintro e w1 ⟨rfl, hb1⟩
  have pA : At w1 w.heap.size (.int .i64 a) (.int .i64 b) := At.below hb1 ((At.new w _ rfl _ _).alloc _)
  have pC : At w1 (w.heap.size + 1) (.int .i64 0) (.int .i64 0) := At.below hb1 (At.new (w.alloc _) _ (by simp) _ _)
  have hB : Below w.heap.size w w1 := by with_reducible repeat (first | exact Below.refl _ _ | refine below_drewN ?_ _ | refine Below.setCell ?_ (by first | (simp; done) | (simp; omega) | omega) _ | refine Below.drew ?_ | refine below_end ?_ (by assumption) | refine ball ?_ _)
  clear hb1
  have pA' := pA
  obtain ⟨a1, a2, a3, a4⟩ := pA'
  go_upto_region 8 with fail
  have qA := pA.put (.int .i64 (Wnum.cN a b)) (.int .i64 (Wnum.cD a b))
  have qC := pC.far2 (j := w.heap.size) (by omega) (.int .i64 (Wnum.cN a b)) (.int .i64 (Wnum.cD a b))
  have qD := put_below hB (k := w.heap.size) (by omega) (.int .i64 (Wnum.cN a b)) (.int .i64 (Wnum.cD a b))
  clear pA pC hB a1 a2 a3 a4
  generalize (w1.setCell ⟨w.heap.size, 0, none⟩ (.int .i64 (Wnum.cN a b))).setCell ⟨w.heap.size, 1, none⟩ (.int .i64 (Wnum.cD a b)) = W1 at *
  clear w1
  have qA' := qA
  obtain ⟨a1, a2, a3, a4⟩ := qA'
  obtain ⟨c1, c2, c3, c4⟩ := qC
  have e1 := E1.out
  have e3 := E3.out
  go_quiet ((go_at_call 31; exact Calls.quiet_of_same (flip_w (size_any _ _ (by omega) (by omega)))))
  go_wp2_with fail
  have rA := qA.drewN nq
  have rC := At.drewN ⟨c1, c2, c3, c4⟩ nq
  have rD := below_drewN qD nq
  clear qA qD a1 a2 a3 a4 c1 c2 c3 c4
  generalize W1.drewN nq = W2 at *
  clear W1 nq
  go_quiet (fail)
  have qA := rA.drewN nq
  have qC := rC.drewN nq
  have qD := below_drewN rD nq
  clear rA rC rD
  generalize W2.drewN nq = W3 at *
  clear W2 nq e1 e3
  obtain ⟨a1, a2, a3, a4⟩ := qA
  obtain ⟨c1, c2, c3, c4⟩ := qC
  go_wp2_with fail
  refine (sign_any _ _).mono ?_
  rintro e w9 ⟨rfl, rfl⟩
  rw [E9.out]
  go_wp2_with fail
  refine (make_most _ _ _ (by omega) (by omega) (by omega) (by omega)).mono ?_
  rintro e w3 ⟨rfl, hb3⟩
  obtain ⟨k1, k2, k3, k4⟩ := At.below hb3 ⟨c1, c2, c3, c4⟩
  go_wp2
  refine bodyPost_ret (v := .tuple #[.agg #[.int .i64 (Wnum.oN (Wnum.mk (s * q * T) 1)), .int .i64 (Wnum.oD (Wnum.mk (s * q * T) 1))], .bool (Wnum.oB (Wnum.mk (s * q * T) 1))]) (by simp [results, Tryd.results25, go_sem, k1, k2]) rfl ⟨rfl, ?_⟩
  exact put_below (below_end qD hb3) (by omega) _ _

set_option maxHeartbeats 1600000 in
theorem round_c3 (a b k T W P q r s : Int) (w : World) (h1 : -9223372036854775808 ≤ a) (h2 : a ≤ 9223372036854775807) (h3 : -9223372036854775808 ≤ b) (h4 : b ≤ 9223372036854775807)
    (hk1 : 0 ≤ k) (hk2 : k ≤ 6) (eT : Hid (Wnum.tenP k.toNat = T)) (e1 : ((Wnum.cN a b).natAbs : Int) * T = W) (e3 : Wnum.cD a b = P) (hT1 : 1 ≤ T) (hT2 : T ≤ 1000000)
    (e5 : W.tdiv P = q) (e6 : W / P = q) (e7 : W.tmod P = r) (e8 : W % P = r) (e9 : (Wnum.cN a b).sign = s)
    (w1 : 0 ≤ W) (w2 : W ≤ 1000000000000000000) (p1 : 1 ≤ P) (p2 : P ≤ 1000000000000000000) (q1 : 0 ≤ q) (q2 : q ≤ 1000000000000000000) (r1 : 0 ≤ r) (r2 : r < P) (x1 : -1000000000000000001 ≤ s * (q + 1)) (x2 : s * (q + 1) ≤ 1000000000000000001)
    (tt : decide (P - r ≤ r) = true) :
    Calls Tryd.prog 25 #[.agg #[.int .i64 a, .int .i64 b], .int .i64 k] w fun e w' => e = .returned (.tuple #[.agg #[.int .i64 (Wnum.oN (Wnum.mk (s * (q + 1)) T)), .int .i64 (Wnum.oD (Wnum.mk (s * (q + 1)) T))], .bool (Wnum.oB (Wnum.mk (s * (q + 1)) T))]) ∧ Below w.heap.size w w' := by
  obtain ⟨n1, n2⟩ := Wnum.cN_bd a b
  obtain ⟨n3, n4⟩ := Wnum.cD_bd a b
  have z1 : IntKind.i64.wrap W = W := IntWalk.i64_in _ (by omega)
  have z2 : IntKind.i64.wrap P = P := IntWalk.i64_in _ (by omega)
  have z3 : IntKind.i64.wrap q = q := IntWalk.i64_in _ (by omega)
  have z4 : ¬ P = 0 := by omega
  have t1 : decide (k < -12) = false := by simp; omega
  have t2 : decide (6 < k) = false := by simp; omega
  have t3 : decide (k < 0) = false := by simp; omega
  have E1 : Hid (((Wnum.cN a b).natAbs : Int) * T = W) := e1
  have E3 : Hid (Wnum.cD a b = P) := e3
  have E9 : Hid ((Wnum.cN a b).sign = s) := e9
  clear e1 e3 e9
  go_enter Tryd.func25, Tryd.ntmps25
  go_wp2_with fail
  refine (tenTo_any _ _ (by omega) (by omega)).mono ?_
  rintro e w9 ⟨rfl, rfl⟩
  rw [eT.out]
  go_wp2_with fail
  refine (counted_any _ _ _ h1 h2 h3 h4).mono ?_
  rintro e w1 ⟨rfl, hb1⟩
  have pA : At w1 w.heap.size (.int .i64 a) (.int .i64 b) := At.below hb1 ((At.new w _ rfl _ _).alloc _)
  have pC : At w1 (w.heap.size + 1) (.int .i64 0) (.int .i64 0) := At.below hb1 (At.new (w.alloc _) _ (by simp) _ _)
  have hB : Below w.heap.size w w1 := by with_reducible repeat (first | exact Below.refl _ _ | refine below_drewN ?_ _ | refine Below.setCell ?_ (by first | (simp; done) | (simp; omega) | omega) _ | refine Below.drew ?_ | refine below_end ?_ (by assumption) | refine ball ?_ _)
  clear hb1
  have pA' := pA
  obtain ⟨a1, a2, a3, a4⟩ := pA'
  go_upto_region 8 with fail
  have qA := pA.put (.int .i64 (Wnum.cN a b)) (.int .i64 (Wnum.cD a b))
  have qC := pC.far2 (j := w.heap.size) (by omega) (.int .i64 (Wnum.cN a b)) (.int .i64 (Wnum.cD a b))
  have qD := put_below hB (k := w.heap.size) (by omega) (.int .i64 (Wnum.cN a b)) (.int .i64 (Wnum.cD a b))
  clear pA pC hB a1 a2 a3 a4
  generalize (w1.setCell ⟨w.heap.size, 0, none⟩ (.int .i64 (Wnum.cN a b))).setCell ⟨w.heap.size, 1, none⟩ (.int .i64 (Wnum.cD a b)) = W1 at *
  clear w1
  have qA' := qA
  obtain ⟨a1, a2, a3, a4⟩ := qA'
  obtain ⟨c1, c2, c3, c4⟩ := qC
  have e1 := E1.out
  have e3 := E3.out
  go_quiet ((go_at_call 31; exact Calls.quiet_of_same (flip_w (size_any _ _ (by omega) (by omega)))))
  go_wp2_with fail
  have rA := qA.drewN nq
  have rC := At.drewN ⟨c1, c2, c3, c4⟩ nq
  have rD := below_drewN qD nq
  clear qA qD a1 a2 a3 a4 c1 c2 c3 c4
  generalize W1.drewN nq = W2 at *
  clear W1 nq
  go_quiet (fail)
  have qA := rA.drewN nq
  have qC := rC.drewN nq
  have qD := below_drewN rD nq
  clear rA rC rD
  generalize W2.drewN nq = W3 at *
  clear W2 nq e1 e3
  obtain ⟨a1, a2, a3, a4⟩ := qA
  obtain ⟨c1, c2, c3, c4⟩ := qC
  go_wp2_with fail
  refine (sign_any _ _).mono ?_
  rintro e w9 ⟨rfl, rfl⟩
  rw [E9.out]
  go_wp2_with fail
  refine (make_most _ _ _ (by omega) (by omega) (by omega) (by omega)).mono ?_
  rintro e w3 ⟨rfl, hb3⟩
  obtain ⟨k1, k2, k3, k4⟩ := At.below hb3 ⟨c1, c2, c3, c4⟩
  go_wp2
  refine bodyPost_ret (v := .tuple #[.agg #[.int .i64 (Wnum.oN (Wnum.mk (s * (q + 1)) T)), .int .i64 (Wnum.oD (Wnum.mk (s * (q + 1)) T))], .bool (Wnum.oB (Wnum.mk (s * (q + 1)) T))]) (by simp [results, Tryd.results25, go_sem, k1, k2]) rfl ⟨rfl, ?_⟩
  exact put_below (below_end qD hb3) (by omega) _ _

set_option maxHeartbeats 1600000 in
theorem round_c4 (a b k T W P q r s : Int) (w : World) (h1 : -9223372036854775808 ≤ a) (h2 : a ≤ 9223372036854775807) (h3 : -9223372036854775808 ≤ b) (h4 : b ≤ 9223372036854775807)
    (hk1 : 0 ≤ k) (hk2 : k ≤ 6) (eT : Hid (Wnum.tenP k.toNat = T)) (e1 : ((Wnum.cN a b).natAbs : Int) * T = W) (e3 : Wnum.cD a b = P) (hT1 : 1 ≤ T) (hT2 : T ≤ 1000000)
    (e5 : W.tdiv P = q) (e6 : W / P = q) (e7 : W.tmod P = r) (e8 : W % P = r) (e9 : (Wnum.cN a b).sign = s)
    (w1 : 0 ≤ W) (w2 : W ≤ 1000000000000000000) (p1 : 1 ≤ P) (p2 : P ≤ 1000000000000000000) (q1 : 0 ≤ q) (q2 : q ≤ 1000000000000000000) (r1 : 0 ≤ r) (r2 : r < P) (x1 : -1000000000000000001 ≤ s * q) (x2 : s * q ≤ 1000000000000000001)
    (tt : decide (P - r ≤ r) = false) :
    Calls Tryd.prog 25 #[.agg #[.int .i64 a, .int .i64 b], .int .i64 k] w fun e w' => e = .returned (.tuple #[.agg #[.int .i64 (Wnum.oN (Wnum.mk (s * q) T)), .int .i64 (Wnum.oD (Wnum.mk (s * q) T))], .bool (Wnum.oB (Wnum.mk (s * q) T))]) ∧ Below w.heap.size w w' := by
  obtain ⟨n1, n2⟩ := Wnum.cN_bd a b
  obtain ⟨n3, n4⟩ := Wnum.cD_bd a b
  have z1 : IntKind.i64.wrap W = W := IntWalk.i64_in _ (by omega)
  have z2 : IntKind.i64.wrap P = P := IntWalk.i64_in _ (by omega)
  have z3 : IntKind.i64.wrap q = q := IntWalk.i64_in _ (by omega)
  have z4 : ¬ P = 0 := by omega
  have t1 : decide (k < -12) = false := by simp; omega
  have t2 : decide (6 < k) = false := by simp; omega
  have t3 : decide (k < 0) = false := by simp; omega
  have E1 : Hid (((Wnum.cN a b).natAbs : Int) * T = W) := e1
  have E3 : Hid (Wnum.cD a b = P) := e3
  have E9 : Hid ((Wnum.cN a b).sign = s) := e9
  clear e1 e3 e9
  go_enter Tryd.func25, Tryd.ntmps25
  go_wp2_with fail
  refine (tenTo_any _ _ (by omega) (by omega)).mono ?_
  rintro e w9 ⟨rfl, rfl⟩
  rw [eT.out]
  go_wp2_with fail
  refine (counted_any _ _ _ h1 h2 h3 h4).mono ?_
  rintro e w1 ⟨rfl, hb1⟩
  have pA : At w1 w.heap.size (.int .i64 a) (.int .i64 b) := At.below hb1 ((At.new w _ rfl _ _).alloc _)
  have pC : At w1 (w.heap.size + 1) (.int .i64 0) (.int .i64 0) := At.below hb1 (At.new (w.alloc _) _ (by simp) _ _)
  have hB : Below w.heap.size w w1 := by with_reducible repeat (first | exact Below.refl _ _ | refine below_drewN ?_ _ | refine Below.setCell ?_ (by first | (simp; done) | (simp; omega) | omega) _ | refine Below.drew ?_ | refine below_end ?_ (by assumption) | refine ball ?_ _)
  clear hb1
  have pA' := pA
  obtain ⟨a1, a2, a3, a4⟩ := pA'
  go_upto_region 8 with fail
  have qA := pA.put (.int .i64 (Wnum.cN a b)) (.int .i64 (Wnum.cD a b))
  have qC := pC.far2 (j := w.heap.size) (by omega) (.int .i64 (Wnum.cN a b)) (.int .i64 (Wnum.cD a b))
  have qD := put_below hB (k := w.heap.size) (by omega) (.int .i64 (Wnum.cN a b)) (.int .i64 (Wnum.cD a b))
  clear pA pC hB a1 a2 a3 a4
  generalize (w1.setCell ⟨w.heap.size, 0, none⟩ (.int .i64 (Wnum.cN a b))).setCell ⟨w.heap.size, 1, none⟩ (.int .i64 (Wnum.cD a b)) = W1 at *
  clear w1
  have qA' := qA
  obtain ⟨a1, a2, a3, a4⟩ := qA'
  obtain ⟨c1, c2, c3, c4⟩ := qC
  have e1 := E1.out
  have e3 := E3.out
  go_quiet ((go_at_call 31; exact Calls.quiet_of_same (flip_w (size_any _ _ (by omega) (by omega)))))
  go_wp2_with fail
  have rA := qA.drewN nq
  have rC := At.drewN ⟨c1, c2, c3, c4⟩ nq
  have rD := below_drewN qD nq
  clear qA qD a1 a2 a3 a4 c1 c2 c3 c4
  generalize W1.drewN nq = W2 at *
  clear W1 nq
  go_quiet (fail)
  have qA := rA.drewN nq
  have qC := rC.drewN nq
  have qD := below_drewN rD nq
  clear rA rC rD
  generalize W2.drewN nq = W3 at *
  clear W2 nq e1 e3
  obtain ⟨a1, a2, a3, a4⟩ := qA
  obtain ⟨c1, c2, c3, c4⟩ := qC
  go_wp2_with fail
  refine (sign_any _ _).mono ?_
  rintro e w9 ⟨rfl, rfl⟩
  rw [E9.out]
  go_wp2_with fail
  refine (make_most _ _ _ (by omega) (by omega) (by omega) (by omega)).mono ?_
  rintro e w3 ⟨rfl, hb3⟩
  obtain ⟨k1, k2, k3, k4⟩ := At.below hb3 ⟨c1, c2, c3, c4⟩
  go_wp2
  refine bodyPost_ret (v := .tuple #[.agg #[.int .i64 (Wnum.oN (Wnum.mk (s * q) T)), .int .i64 (Wnum.oD (Wnum.mk (s * q) T))], .bool (Wnum.oB (Wnum.mk (s * q) T))]) (by simp [results, Tryd.results25, go_sem, k1, k2]) rfl ⟨rfl, ?_⟩
  exact put_below (below_end qD hb3) (by omega) _ _

set_option maxHeartbeats 1600000 in
theorem round_z1 (a b k : Int) (w : World) (h1 : -9223372036854775808 ≤ a) (h2 : a ≤ 9223372036854775807) (h3 : -9223372036854775808 ≤ b) (h4 : b ≤ 9223372036854775807)
    (t1 : decide (k < -12) = true) :
    Calls Tryd.prog 25 #[.agg #[.int .i64 a, .int .i64 b], .int .i64 k] w fun e w' => e = .returned (.tuple #[.agg #[.int .i64 0, .int .i64 0], .bool false]) ∧ Below w.heap.size w w' := by
  go_enter Tryd.func25, Tryd.ntmps25
  go_wp2
  refine bodyPost_ret (v := .tuple #[.agg #[.int .i64 0, .int .i64 0], .bool false]) (by simp [results, Tryd.results25, go_sem]) rfl ⟨rfl, ?_⟩
  exact (by with_reducible repeat (first | exact Below.refl _ _ | refine below_drewN ?_ _ | refine Below.setCell ?_ (by first | (simp; done) | (simp; omega) | omega) _ | refine Below.drew ?_ | refine below_end ?_ (by assumption) | refine ball ?_ _))

set_option maxHeartbeats 1600000 in
theorem round_z2 (a b k : Int) (w : World) (h1 : -9223372036854775808 ≤ a) (h2 : a ≤ 9223372036854775807) (h3 : -9223372036854775808 ≤ b) (h4 : b ≤ 9223372036854775807)
    (t1 : decide (k < -12) = false) (t2 : decide (6 < k) = true) :
    Calls Tryd.prog 25 #[.agg #[.int .i64 a, .int .i64 b], .int .i64 k] w fun e w' => e = .returned (.tuple #[.agg #[.int .i64 0, .int .i64 0], .bool false]) ∧ Below w.heap.size w w' := by
  go_enter Tryd.func25, Tryd.ntmps25
  go_wp2
  refine bodyPost_ret (v := .tuple #[.agg #[.int .i64 0, .int .i64 0], .bool false]) (by simp [results, Tryd.results25, go_sem]) rfl ⟨rfl, ?_⟩
  exact (by with_reducible repeat (first | exact Below.refl _ _ | refine below_drewN ?_ _ | refine Below.setCell ?_ (by first | (simp; done) | (simp; omega) | omega) _ | refine Below.drew ?_ | refine below_end ?_ (by assumption) | refine ball ?_ _))

/-- What Round's parts come to. -/
theorem round_facts {n W P s : Int} (hs : n.sign = s) (hW : 0 ≤ W) (hW2 : W ≤ 1000000000000000000) (hP : 1 ≤ P) :
    W.tdiv P = W / P ∧ W.tmod P = W % P ∧ 0 ≤ W / P ∧ W / P ≤ 1000000000000000000 ∧ 0 ≤ W % P ∧ W % P < P ∧ (-1000000000000000001 ≤ s * (W / P) ∧ s * (W / P) ≤ 1000000000000000001) ∧ (-1000000000000000001 ≤ s * (W / P + 1) ∧ s * (W / P + 1) ≤ 1000000000000000001) := by
  obtain ⟨q1, q2, q3, q4, q5⟩ := Wnum.quo_facts hW hP
  obtain ⟨s1, s2⟩ := Wnum.sign_bd n
  rw [hs] at s1 s2
  obtain ⟨b1, b2⟩ := Wnum.sgn_mul s1 s2 q1 (show W / P ≤ 1000000000000000000 by omega)
  obtain ⟨b3, b4⟩ := Wnum.sgn_mul s1 s2 (show 0 ≤ W / P + 1 by omega) (show W / P + 1 ≤ 1000000000000000001 by omega)
  exact ⟨Int.tdiv_eq_ediv_of_nonneg hW, Int.tmod_eq_emod_of_nonneg hW, q1, by omega, q3, q4, ⟨by omega, by omega⟩, ⟨by omega, by omega⟩⟩
/-- Times the unit it stays small. -/
theorem unit_bd {W D T s q : Int} (hs1 : -1 ≤ s) (hs2 : s ≤ 1) (hW : 0 ≤ W) (hW2 : W ≤ 1000000000000) (hD : 1 ≤ D) (hT : 1 ≤ T) (hT2 : T ≤ 1000000000000) (hq : 0 ≤ q) (hqT : q * (D * T) ≤ W) :
    (-9000000000000000000 ≤ s * q * T ∧ s * q * T ≤ 9000000000000000000) ∧ (-9000000000000000000 ≤ s * (q + 1) * T ∧ s * (q + 1) * T ≤ 9000000000000000000) := by
  have h1 : T ≤ D * T := by have := Int.mul_le_mul_of_nonneg_right hD (show 0 ≤ T by omega); omega
  have h2 : q * T ≤ q * (D * T) := Int.mul_le_mul_of_nonneg_left h1 hq
  have h3 : 0 ≤ q * T := Int.mul_nonneg hq (by omega)
  have h4 : (q + 1) * T = q * T + T := by rw [Int.add_mul, Int.one_mul]
  obtain ⟨b1, b2⟩ := Wnum.sgn_mul hs1 hs2 h3 (show q * T ≤ 1000000000000 by omega)
  obtain ⟨b3, b4⟩ := Wnum.sgn_mul hs1 hs2 (show 0 ≤ (q + 1) * T by omega) (show (q + 1) * T ≤ 2000000000000 by omega)
  rw [Int.mul_assoc, Int.mul_assoc]
  exact ⟨⟨by omega, by omega⟩, ⟨by omega, by omega⟩⟩

theorem round_any (a b k : Int) (w : World) (h1 : -9223372036854775808 ≤ a) (h2 : a ≤ 9223372036854775807) (h3 : -9223372036854775808 ≤ b) (h4 : b ≤ 9223372036854775807) :
    Calls Tryd.prog 25 #[.agg #[.int .i64 a, .int .i64 b], .int .i64 k] w fun e w' => e = .returned (.tuple #[.agg #[.int .i64 (Wnum.oN (Wnum.roundO a b k)), .int .i64 (Wnum.oD (Wnum.roundO a b k))], .bool (Wnum.oB (Wnum.roundO a b k))]) ∧ Below w.heap.size w w' := by
  obtain ⟨n1, n2⟩ := Wnum.cN_bd a b
  obtain ⟨n3, n4⟩ := Wnum.cD_bd a b
  by_cases c1 : k < -12
  · rw [show Wnum.roundO a b k = none from if_pos (Or.inl c1)]
    exact round_z1 a b k w h1 h2 h3 h4 (decide_eq_true c1)
  by_cases c2 : 6 < k
  · rw [show Wnum.roundO a b k = none from if_pos (Or.inr c2)]
    exact round_z2 a b k w h1 h2 h3 h4 (decide_eq_false c1) (decide_eq_true c2)
  by_cases c3 : k < 0
  · rw [show Wnum.roundO a b k = _ from (if_neg (by omega)).trans (if_pos c3), ← Wnum.mk_pos (show (1 : Int) ≠ 0 by omega)]
    have t1 := Wnum.tenP_pos (-k).toNat
    have t2 := Wnum.tenP_le12 (k := (-k).toNat) (by omega)
    have p1 : 1 ≤ Wnum.cD a b * Wnum.tenP (-k).toNat := by have := Int.mul_le_mul n3 t1 (by omega) (by omega); omega
    have p2 : Wnum.cD a b * Wnum.tenP (-k).toNat ≤ 1000000000000000000 := by have := Int.mul_le_mul n4 t2 (by omega) (by omega); omega
    obtain ⟨f1, f2, f3, f4, f5, f6, ⟨f7, f8⟩, ⟨f9, f10⟩⟩ := round_facts (n := Wnum.cN a b) (W := ((Wnum.cN a b).natAbs : Int)) rfl (by omega) (by omega) p1
    obtain ⟨_, q2, _, _, _⟩ := Wnum.quo_facts (W := ((Wnum.cN a b).natAbs : Int)) (by omega) p1
    obtain ⟨s1, s2⟩ := Wnum.sign_bd (Wnum.cN a b)
    obtain ⟨⟨u1, u2⟩, ⟨u3, u4⟩⟩ := unit_bd s1 s2 (W := ((Wnum.cN a b).natAbs : Int)) (by omega) (by omega) n3 t1 t2 f3 q2
    by_cases hr : Wnum.cD a b * Wnum.tenP (-k).toNat - ((Wnum.cN a b).natAbs : Int) % (Wnum.cD a b * Wnum.tenP (-k).toNat) ≤ ((Wnum.cN a b).natAbs : Int) % (Wnum.cD a b * Wnum.tenP (-k).toNat)
    · rw [Wnum.rq_pos hr]
      exact round_c1 a b k _ _ _ _ _ _ w h1 h2 h3 h4 (by omega) c3 (rfl : Wnum.tenP (-k).toNat = _) rfl rfl t1 t2 u3 u4 f1 rfl f2 rfl rfl (by omega) (by omega) p1 p2 f3 f4 f5 f6 f9 f10 (decide_eq_true hr)
    · rw [Wnum.rq_neg hr]
      exact round_c2 a b k _ _ _ _ _ _ w h1 h2 h3 h4 (by omega) c3 (rfl : Wnum.tenP (-k).toNat = _) rfl rfl t1 t2 u1 u2 f1 rfl f2 rfl rfl (by omega) (by omega) p1 p2 f3 f4 f5 f6 f7 f8 (decide_eq_false hr)
  · have t1 := Wnum.tenP_pos k.toNat
    have t2 := Wnum.tenP_le6 (k := k.toNat) (by omega)
    rw [show Wnum.roundO a b k = _ from (if_neg (by omega)).trans (if_neg c3), ← Wnum.mk_pos (show Wnum.tenP k.toNat ≠ 0 by omega)]
    have w1 : 0 ≤ ((Wnum.cN a b).natAbs : Int) * Wnum.tenP k.toNat := Int.mul_nonneg (by omega) (by omega)
    have w2 : ((Wnum.cN a b).natAbs : Int) * Wnum.tenP k.toNat ≤ 1000000000000000000 := by have := Int.mul_le_mul (show ((Wnum.cN a b).natAbs : Int) ≤ 1000000000000 by omega) t2 (by omega) (by omega); omega
    obtain ⟨f1, f2, f3, f4, f5, f6, ⟨f7, f8⟩, ⟨f9, f10⟩⟩ := round_facts (n := Wnum.cN a b) rfl w1 w2 n3
    by_cases hr : Wnum.cD a b - ((Wnum.cN a b).natAbs : Int) * Wnum.tenP k.toNat % Wnum.cD a b ≤ ((Wnum.cN a b).natAbs : Int) * Wnum.tenP k.toNat % Wnum.cD a b
    · rw [Wnum.rq_pos hr]
      exact round_c3 a b k _ _ _ _ _ _ w h1 h2 h3 h4 (by omega) (by omega) (rfl : Wnum.tenP k.toNat = _) rfl rfl t1 t2 f1 rfl f2 rfl rfl w1 w2 n3 (by omega) f3 f4 f5 f6 f9 f10 (decide_eq_true hr)
    · rw [Wnum.rq_neg hr]
      exact round_c4 a b k _ _ _ _ _ _ w h1 h2 h3 h4 (by omega) (by omega) (rfl : Wnum.tenP k.toNat = _) rfl rfl t1 t2 f1 rfl f2 rfl rfl w1 w2 n3 (by omega) f3 f4 f5 f6 f7 f8 (decide_eq_false hr)
end Go.Proofs.YtfilmomndhlmbaaDoor
