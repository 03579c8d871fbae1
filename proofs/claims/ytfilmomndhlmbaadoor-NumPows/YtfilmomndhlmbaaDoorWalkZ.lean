/- The contract of the reference's Pow. -/
import Derived.Test.YtfilmomndhlmbaaDoorWalkM
import Derived.Test.YtfilmomndhlmbaaDoorPlainG
import Derived.Test.YtfilmomndhlmbaaDoorPlainJ
namespace Go.Proofs.YtfilmomndhlmbaaDoor
open Go.RowKit
set_option linter.unusedVariables false

theorem pw_neg (x : Int) (K : Nat) : Wnum.pw (-x) K = if K % 2 = 0 then Wnum.pw x K else -(Wnum.pw x K) := by
  induction K with
  | zero => rw [Wnum.pw_zero, Wnum.pw_zero]; rfl
  | succ K ih =>
    rw [Wnum.pw_succ, Wnum.pw_succ, ih]
    by_cases h : K % 2 = 0
    · rw [if_pos h, if_neg (by omega), Int.mul_neg]
    · rw [if_neg h, if_pos (by omega), Int.neg_mul_neg]
/-- A power by the size of its base. -/
theorem pow_sized {r : Rat} {up down : Int} {K : Nat} {m : Bool} (hu : (r.num.natAbs : Int) = up) (hd : (r.den : Int) = down) (hm : m = (decide (r.num < 0) && decide (K % 2 ≠ 0))) :
    Rat.divInt (if m = true then -(Wnum.pw up K) else Wnum.pw up K) (Wnum.pw down K) = r ^ K := by
  rw [← Wnum.rat_self (r ^ K), Wnum.pow_num rfl, Wnum.pow_den hd]
  congr 1
  by_cases c : r.num < 0
  · have e : r.num = -up := by omega
    rw [e, pw_neg]
    by_cases k : K % 2 = 0
    · rw [if_pos k, if_neg (by rw [hm]; simp [k])]
    · rw [if_neg k, if_pos (by rw [hm]; simp [c, k])]
  · have e : r.num = up := by omega
    rw [e, if_neg (by rw [hm]; simp [c])]
theorem pow_loop_over {r : Rat} {up down : Int} {j K : Nat} (hu : (r.num.natAbs : Int) = up) (hd : (r.den : Int) = down) (h1 : 1 ≤ up) (h2 : 1 ≤ down) (hj : j ≤ K) (h : 1000000000000 < Wnum.pw up j ∨ 1000000 < Wnum.pw down j) :
    Wnum.oN (some (r ^ K)) = 0 ∧ Wnum.oD (some (r ^ K)) = 0 ∧ Wnum.oB (some (r ^ K)) = false := by
  refine Wnum.oNn (Wnum.ok_not ?_)
  have e1 : (((r ^ K).num).natAbs : Int) = ((Wnum.pw up K).natAbs : Int) := by
    rw [Wnum.pow_num rfl]
    unfold Wnum.pw
    rw [Int.natAbs_pow, Int.natAbs_pow, ← hu, Int.natAbs_natCast]
  rw [Wnum.pow_den hd]
  have m1 := Wnum.pw_abs_mono (p := up) (by omega) j (K - j)
  have m2 := Wnum.pw_abs_mono (p := down) (by omega) j (K - j)
  rw [show j + (K - j) = K by omega] at m1 m2
  have := Wnum.pw_pos h2 K
  have := Wnum.pw_pos h1 K
  omega

set_option maxHeartbeats 1600000 in
theorem rpow_k0 (a b : Int) (w : World) (h1 : -9223372036854775808 ≤ a) (h2 : a ≤ 9223372036854775807) (h3 : -9223372036854775808 ≤ b) (h4 : b ≤ 9223372036854775807)  :
    Calls Tryd.prog 10 #[.agg #[.int .i64 a, .int .i64 b], .int .i64 (0)] w fun e w' => e = .returned (.tuple #[.agg #[.int .i64 (1), .int .i64 (1)], .bool true]) ∧ Below w.heap.size w w' := by
  obtain ⟨n1, n2⟩ := Wnum.cN_bd a b
  obtain ⟨n3, n4⟩ := Wnum.cD_bd a b
  go_enter Tryd.func10, Tryd.ntmps10
  go_wp2_with fail
  refine (of_any _ _ _ h1 h2 h3 h4).mono ?_
  rintro e w1 ⟨rfl, hb1⟩
  have pA : At w1 w.heap.size (.int .i64 a) (.int .i64 b) := At.below hb1 ((At.new w _ rfl _ _).alloc _)
  have pC : At w1 (w.heap.size + 1) (.int .i64 0) (.int .i64 0) := At.below hb1 (At.new (w.alloc _) _ (by simp) _ _)
  have hB : Below w.heap.size w w1 := by with_reducible repeat (first | exact Below.refl _ _ | refine below_drewN ?_ _ | refine Below.setCell ?_ (by first | (simp; done) | (simp; omega) | omega) _ | refine Below.drew ?_ | refine below_end ?_ (by assumption) | refine ball ?_ _)
  clear hb1
  have pA' := pA
  obtain ⟨a1, a2, a3, a4⟩ := pA'
  go_upto_region 2 with fail
  have qA := pA.put (.int .i64 (Wnum.cN a b)) (.int .i64 (Wnum.cD a b))
  have qC := pC.far2 (j := w.heap.size) (by omega) (.int .i64 (Wnum.cN a b)) (.int .i64 (Wnum.cD a b))
  have qD := put_below hB (k := w.heap.size) (by omega) (.int .i64 (Wnum.cN a b)) (.int .i64 (Wnum.cD a b))
  clear pA pC hB a1 a2 a3 a4
  generalize (w1.setCell ⟨w.heap.size, 0, none⟩ (.int .i64 (Wnum.cN a b))).setCell ⟨w.heap.size, 1, none⟩ (.int .i64 (Wnum.cD a b)) = W1 at *
  clear w1
  have qA' := qA
  obtain ⟨a1, a2, a3, a4⟩ := qA'
  obtain ⟨c1, c2, c3, c4⟩ := qC
  have pA := qA.alloc (.cells #[.int .i64 1, .int .i64 1] 23)
  have pC := At.alloc (W := W1) (k := w.heap.size + 1) (v0 := .int .i64 0) (v1 := .int .i64 0) ⟨c1, c2, c3, c4⟩ (.cells #[.int .i64 1, .int .i64 1] 23)
  have pO := At.new W1 23 rfl (.int .i64 1) (.int .i64 1)
  have pD := ball qD (.cells #[.int .i64 1, .int .i64 1] 23)
  have pS : w.heap.size + 1 < W1.heap.size := At.lt ⟨c1, c2, c3, c4⟩
  clear qA c1 c2 c3 c4 a1 a2 a3 a4
  go_upto_region 3 with fail
  clear qD
  generalize hO : W1.heap.size = O at *
  generalize W1.alloc (.cells #[.int .i64 1, .int .i64 1] 23) = W2 at *
  clear hO W1
  have qD := pD
  clear pD
  obtain ⟨a1, a2, a3, a4⟩ := pA
  obtain ⟨c1, c2, c3, c4⟩ := pC
  obtain ⟨o1, o2, o3, o4⟩ := pO
  go_wp2
  refine bodyPost_ret (v := .tuple #[.agg #[.int .i64 (1), .int .i64 (1)], .bool true]) (by simp [results, Tryd.results10, go_sem, c1, c2]) rfl ⟨rfl, ?_⟩
  exact put_below qD (by omega) _ _

set_option maxHeartbeats 1600000 in
theorem rpow_z (a b k : Int) (w : World) (h1 : -9223372036854775808 ≤ a) (h2 : a ≤ 9223372036854775807) (h3 : -9223372036854775808 ≤ b) (h4 : b ≤ 9223372036854775807) (k1 : -9223372036854775808 ≤ k) (k2 : k ≤ 9223372036854775807) (hk : (k == 0) = false) (hz : (Wnum.cN a b == 0) = true) (hs : k < 0) :
    Calls Tryd.prog 10 #[.agg #[.int .i64 a, .int .i64 b], .int .i64 (k)] w fun e w' => e = .returned (.tuple #[.agg #[.int .i64 (0), .int .i64 (0)], .bool false]) ∧ Below w.heap.size w w' := by
  obtain ⟨n1, n2⟩ := Wnum.cN_bd a b
  obtain ⟨n3, n4⟩ := Wnum.cD_bd a b
  go_enter Tryd.func10, Tryd.ntmps10
  go_wp2_with fail
  refine (of_any _ _ _ h1 h2 h3 h4).mono ?_
  rintro e w1 ⟨rfl, hb1⟩
  have pA : At w1 w.heap.size (.int .i64 a) (.int .i64 b) := At.below hb1 ((At.new w _ rfl _ _).alloc _)
  have pC : At w1 (w.heap.size + 1) (.int .i64 0) (.int .i64 0) := At.below hb1 (At.new (w.alloc _) _ (by simp) _ _)
  have hB : Below w.heap.size w w1 := by with_reducible repeat (first | exact Below.refl _ _ | refine below_drewN ?_ _ | refine Below.setCell ?_ (by first | (simp; done) | (simp; omega) | omega) _ | refine Below.drew ?_ | refine below_end ?_ (by assumption) | refine ball ?_ _)
  clear hb1
  have pA' := pA
  obtain ⟨a1, a2, a3, a4⟩ := pA'
  go_upto_region 2 with fail
  have qA := pA.put (.int .i64 (Wnum.cN a b)) (.int .i64 (Wnum.cD a b))
  have qC := pC.far2 (j := w.heap.size) (by omega) (.int .i64 (Wnum.cN a b)) (.int .i64 (Wnum.cD a b))
  have qD := put_below hB (k := w.heap.size) (by omega) (.int .i64 (Wnum.cN a b)) (.int .i64 (Wnum.cD a b))
  clear pA pC hB a1 a2 a3 a4
  generalize (w1.setCell ⟨w.heap.size, 0, none⟩ (.int .i64 (Wnum.cN a b))).setCell ⟨w.heap.size, 1, none⟩ (.int .i64 (Wnum.cD a b)) = W1 at *
  clear w1
  have qA' := qA
  obtain ⟨a1, a2, a3, a4⟩ := qA'
  obtain ⟨c1, c2, c3, c4⟩ := qC
  have pA := qA.alloc (.cells #[.int .i64 1, .int .i64 1] 23)
  have pC := At.alloc (W := W1) (k := w.heap.size + 1) (v0 := .int .i64 0) (v1 := .int .i64 0) ⟨c1, c2, c3, c4⟩ (.cells #[.int .i64 1, .int .i64 1] 23)
  have pO := At.new W1 23 rfl (.int .i64 1) (.int .i64 1)
  have pD := ball qD (.cells #[.int .i64 1, .int .i64 1] 23)
  have pS : w.heap.size + 1 < W1.heap.size := At.lt ⟨c1, c2, c3, c4⟩
  clear qA c1 c2 c3 c4 a1 a2 a3 a4
  go_upto_region 3 with fail
  clear qD
  generalize hO : W1.heap.size = O at *
  generalize W1.alloc (.cells #[.int .i64 1, .int .i64 1] 23) = W2 at *
  clear hO W1
  have qD := pD
  clear pD
  obtain ⟨a1, a2, a3, a4⟩ := pA
  obtain ⟨c1, c2, c3, c4⟩ := pC
  obtain ⟨o1, o2, o3, o4⟩ := pO
  go_wp2
  refine bodyPost_ret (v := .tuple #[.agg #[.int .i64 (0), .int .i64 (0)], .bool false]) (by simp [results, Tryd.results10, go_sem, c1, c2]) rfl ⟨rfl, ?_⟩
  exact put_below qD (by omega) _ _

set_option maxHeartbeats 1600000 in
theorem rpow_zp (a b k : Int) (w : World) (h1 : -9223372036854775808 ≤ a) (h2 : a ≤ 9223372036854775807) (h3 : -9223372036854775808 ≤ b) (h4 : b ≤ 9223372036854775807) (k1 : -9223372036854775808 ≤ k) (k2 : k ≤ 9223372036854775807) (hk : (k == 0) = false) (hz : (Wnum.cN a b == 0) = true) (hs : ¬ k < 0) :
    Calls Tryd.prog 10 #[.agg #[.int .i64 a, .int .i64 b], .int .i64 (k)] w fun e w' => e = .returned (.tuple #[.agg #[.int .i64 (Wnum.cN a b), .int .i64 (Wnum.cD a b)], .bool true]) ∧ Below w.heap.size w w' := by
  obtain ⟨n1, n2⟩ := Wnum.cN_bd a b
  obtain ⟨n3, n4⟩ := Wnum.cD_bd a b
  go_enter Tryd.func10, Tryd.ntmps10
  go_wp2_with fail
  refine (of_any _ _ _ h1 h2 h3 h4).mono ?_
  rintro e w1 ⟨rfl, hb1⟩
  have pA : At w1 w.heap.size (.int .i64 a) (.int .i64 b) := At.below hb1 ((At.new w _ rfl _ _).alloc _)
  have pC : At w1 (w.heap.size + 1) (.int .i64 0) (.int .i64 0) := At.below hb1 (At.new (w.alloc _) _ (by simp) _ _)
  have hB : Below w.heap.size w w1 := by with_reducible repeat (first | exact Below.refl _ _ | refine below_drewN ?_ _ | refine Below.setCell ?_ (by first | (simp; done) | (simp; omega) | omega) _ | refine Below.drew ?_ | refine below_end ?_ (by assumption) | refine ball ?_ _)
  clear hb1
  have pA' := pA
  obtain ⟨a1, a2, a3, a4⟩ := pA'
  go_upto_region 2 with fail
  have qA := pA.put (.int .i64 (Wnum.cN a b)) (.int .i64 (Wnum.cD a b))
  have qC := pC.far2 (j := w.heap.size) (by omega) (.int .i64 (Wnum.cN a b)) (.int .i64 (Wnum.cD a b))
  have qD := put_below hB (k := w.heap.size) (by omega) (.int .i64 (Wnum.cN a b)) (.int .i64 (Wnum.cD a b))
  clear pA pC hB a1 a2 a3 a4
  generalize (w1.setCell ⟨w.heap.size, 0, none⟩ (.int .i64 (Wnum.cN a b))).setCell ⟨w.heap.size, 1, none⟩ (.int .i64 (Wnum.cD a b)) = W1 at *
  clear w1
  have qA' := qA
  obtain ⟨a1, a2, a3, a4⟩ := qA'
  obtain ⟨c1, c2, c3, c4⟩ := qC
  have pA := qA.alloc (.cells #[.int .i64 1, .int .i64 1] 23)
  have pC := At.alloc (W := W1) (k := w.heap.size + 1) (v0 := .int .i64 0) (v1 := .int .i64 0) ⟨c1, c2, c3, c4⟩ (.cells #[.int .i64 1, .int .i64 1] 23)
  have pO := At.new W1 23 rfl (.int .i64 1) (.int .i64 1)
  have pD := ball qD (.cells #[.int .i64 1, .int .i64 1] 23)
  have pS : w.heap.size + 1 < W1.heap.size := At.lt ⟨c1, c2, c3, c4⟩
  clear qA c1 c2 c3 c4 a1 a2 a3 a4
  go_upto_region 3 with fail
  clear qD
  generalize hO : W1.heap.size = O at *
  generalize W1.alloc (.cells #[.int .i64 1, .int .i64 1] 23) = W2 at *
  clear hO W1
  have qD := pD
  clear pD
  obtain ⟨a1, a2, a3, a4⟩ := pA
  obtain ⟨c1, c2, c3, c4⟩ := pC
  obtain ⟨o1, o2, o3, o4⟩ := pO
  go_wp2
  refine bodyPost_ret (v := .tuple #[.agg #[.int .i64 (Wnum.cN a b), .int .i64 (Wnum.cD a b)], .bool true]) (by simp [results, Tryd.results10, go_sem, c1, c2]) rfl ⟨rfl, ?_⟩
  exact put_below qD (by omega) _ _

set_option maxHeartbeats 1600000 in
theorem rpow_p1 (a b k : Int) (w : World) (h1 : -9223372036854775808 ≤ a) (h2 : a ≤ 9223372036854775807) (h3 : -9223372036854775808 ≤ b) (h4 : b ≤ 9223372036854775807) (k1 : -9223372036854775808 ≤ k) (k2 : k ≤ 9223372036854775807) (hk : (k == 0) = false) (hz : (Wnum.cN a b == 0) = false) (hd : (Wnum.cD a b == 1) = true) (ho : (Wnum.cN a b == 1) = true) (hq : (Wnum.cN a b == -1) = false) :
    Calls Tryd.prog 10 #[.agg #[.int .i64 a, .int .i64 b], .int .i64 (k)] w fun e w' => e = .returned (.tuple #[.agg #[.int .i64 (1), .int .i64 (1)], .bool true]) ∧ Below w.heap.size w w' := by
  obtain ⟨n1, n2⟩ := Wnum.cN_bd a b
  obtain ⟨n3, n4⟩ := Wnum.cD_bd a b
  go_enter Tryd.func10, Tryd.ntmps10
  go_wp2_with fail
  refine (of_any _ _ _ h1 h2 h3 h4).mono ?_
  rintro e w1 ⟨rfl, hb1⟩
  have pA : At w1 w.heap.size (.int .i64 a) (.int .i64 b) := At.below hb1 ((At.new w _ rfl _ _).alloc _)
  have pC : At w1 (w.heap.size + 1) (.int .i64 0) (.int .i64 0) := At.below hb1 (At.new (w.alloc _) _ (by simp) _ _)
  have hB : Below w.heap.size w w1 := by with_reducible repeat (first | exact Below.refl _ _ | refine below_drewN ?_ _ | refine Below.setCell ?_ (by first | (simp; done) | (simp; omega) | omega) _ | refine Below.drew ?_ | refine below_end ?_ (by assumption) | refine ball ?_ _)
  clear hb1
  have pA' := pA
  obtain ⟨a1, a2, a3, a4⟩ := pA'
  go_upto_region 2 with fail
  have qA := pA.put (.int .i64 (Wnum.cN a b)) (.int .i64 (Wnum.cD a b))
  have qC := pC.far2 (j := w.heap.size) (by omega) (.int .i64 (Wnum.cN a b)) (.int .i64 (Wnum.cD a b))
  have qD := put_below hB (k := w.heap.size) (by omega) (.int .i64 (Wnum.cN a b)) (.int .i64 (Wnum.cD a b))
  clear pA pC hB a1 a2 a3 a4
  generalize (w1.setCell ⟨w.heap.size, 0, none⟩ (.int .i64 (Wnum.cN a b))).setCell ⟨w.heap.size, 1, none⟩ (.int .i64 (Wnum.cD a b)) = W1 at *
  clear w1
  have qA' := qA
  obtain ⟨a1, a2, a3, a4⟩ := qA'
  obtain ⟨c1, c2, c3, c4⟩ := qC
  have pA := qA.alloc (.cells #[.int .i64 1, .int .i64 1] 23)
  have pC := At.alloc (W := W1) (k := w.heap.size + 1) (v0 := .int .i64 0) (v1 := .int .i64 0) ⟨c1, c2, c3, c4⟩ (.cells #[.int .i64 1, .int .i64 1] 23)
  have pO := At.new W1 23 rfl (.int .i64 1) (.int .i64 1)
  have pD := ball qD (.cells #[.int .i64 1, .int .i64 1] 23)
  have pS : w.heap.size + 1 < W1.heap.size := At.lt ⟨c1, c2, c3, c4⟩
  clear qA c1 c2 c3 c4 a1 a2 a3 a4
  go_upto_region 3 with fail
  clear qD
  generalize hO : W1.heap.size = O at *
  generalize W1.alloc (.cells #[.int .i64 1, .int .i64 1] 23) = W2 at *
  clear hO W1
  have qD := pD
  clear pD
  obtain ⟨a1, a2, a3, a4⟩ := pA
  obtain ⟨c1, c2, c3, c4⟩ := pC
  obtain ⟨o1, o2, o3, o4⟩ := pO
  go_wp2
  refine bodyPost_ret (v := .tuple #[.agg #[.int .i64 (1), .int .i64 (1)], .bool true]) (by simp [results, Tryd.results10, go_sem, c1, c2]) rfl ⟨rfl, ?_⟩
  exact put_below qD (by omega) _ _

set_option maxHeartbeats 1600000 in
theorem rpow_even (a b k : Int) (w : World) (h1 : -9223372036854775808 ≤ a) (h2 : a ≤ 9223372036854775807) (h3 : -9223372036854775808 ≤ b) (h4 : b ≤ 9223372036854775807) (k1 : -9223372036854775808 ≤ k) (k2 : k ≤ 9223372036854775807) (hk : (k == 0) = false) (hz : (Wnum.cN a b == 0) = false) (hd : (Wnum.cD a b == 1) = true) (ho : (Wnum.cN a b == 1) = false) (hq : (Wnum.cN a b == -1) = true) (hm : (k.tmod 2 != 0) = false) :
    Calls Tryd.prog 10 #[.agg #[.int .i64 a, .int .i64 b], .int .i64 (k)] w fun e w' => e = .returned (.tuple #[.agg #[.int .i64 (1), .int .i64 (1)], .bool true]) ∧ Below w.heap.size w w' := by
  obtain ⟨n1, n2⟩ := Wnum.cN_bd a b
  obtain ⟨n3, n4⟩ := Wnum.cD_bd a b
  go_enter Tryd.func10, Tryd.ntmps10
  go_wp2_with fail
  refine (of_any _ _ _ h1 h2 h3 h4).mono ?_
  rintro e w1 ⟨rfl, hb1⟩
  have pA : At w1 w.heap.size (.int .i64 a) (.int .i64 b) := At.below hb1 ((At.new w _ rfl _ _).alloc _)
  have pC : At w1 (w.heap.size + 1) (.int .i64 0) (.int .i64 0) := At.below hb1 (At.new (w.alloc _) _ (by simp) _ _)
  have hB : Below w.heap.size w w1 := by with_reducible repeat (first | exact Below.refl _ _ | refine below_drewN ?_ _ | refine Below.setCell ?_ (by first | (simp; done) | (simp; omega) | omega) _ | refine Below.drew ?_ | refine below_end ?_ (by assumption) | refine ball ?_ _)
  clear hb1
  have pA' := pA
  obtain ⟨a1, a2, a3, a4⟩ := pA'
  go_upto_region 2 with fail
  have qA := pA.put (.int .i64 (Wnum.cN a b)) (.int .i64 (Wnum.cD a b))
  have qC := pC.far2 (j := w.heap.size) (by omega) (.int .i64 (Wnum.cN a b)) (.int .i64 (Wnum.cD a b))
  have qD := put_below hB (k := w.heap.size) (by omega) (.int .i64 (Wnum.cN a b)) (.int .i64 (Wnum.cD a b))
  clear pA pC hB a1 a2 a3 a4
  generalize (w1.setCell ⟨w.heap.size, 0, none⟩ (.int .i64 (Wnum.cN a b))).setCell ⟨w.heap.size, 1, none⟩ (.int .i64 (Wnum.cD a b)) = W1 at *
  clear w1
  have qA' := qA
  obtain ⟨a1, a2, a3, a4⟩ := qA'
  obtain ⟨c1, c2, c3, c4⟩ := qC
  have pA := qA.alloc (.cells #[.int .i64 1, .int .i64 1] 23)
  have pC := At.alloc (W := W1) (k := w.heap.size + 1) (v0 := .int .i64 0) (v1 := .int .i64 0) ⟨c1, c2, c3, c4⟩ (.cells #[.int .i64 1, .int .i64 1] 23)
  have pO := At.new W1 23 rfl (.int .i64 1) (.int .i64 1)
  have pD := ball qD (.cells #[.int .i64 1, .int .i64 1] 23)
  have pS : w.heap.size + 1 < W1.heap.size := At.lt ⟨c1, c2, c3, c4⟩
  clear qA c1 c2 c3 c4 a1 a2 a3 a4
  go_upto_region 3 with fail
  clear qD
  generalize hO : W1.heap.size = O at *
  generalize W1.alloc (.cells #[.int .i64 1, .int .i64 1] 23) = W2 at *
  clear hO W1
  have qD := pD
  clear pD
  obtain ⟨a1, a2, a3, a4⟩ := pA
  obtain ⟨c1, c2, c3, c4⟩ := pC
  obtain ⟨o1, o2, o3, o4⟩ := pO
  go_wp2
  refine bodyPost_ret (v := .tuple #[.agg #[.int .i64 (1), .int .i64 (1)], .bool true]) (by simp [results, Tryd.results10, go_sem, c1, c2]) rfl ⟨rfl, ?_⟩
  exact put_below qD (by omega) _ _

set_option maxHeartbeats 1600000 in
theorem rpow_odd (a b k : Int) (w : World) (h1 : -9223372036854775808 ≤ a) (h2 : a ≤ 9223372036854775807) (h3 : -9223372036854775808 ≤ b) (h4 : b ≤ 9223372036854775807) (k1 : -9223372036854775808 ≤ k) (k2 : k ≤ 9223372036854775807) (hk : (k == 0) = false) (hz : (Wnum.cN a b == 0) = false) (hd : (Wnum.cD a b == 1) = true) (ho : (Wnum.cN a b == 1) = false) (hq : (Wnum.cN a b == -1) = true) (hm : (k.tmod 2 != 0) = true) :
    Calls Tryd.prog 10 #[.agg #[.int .i64 a, .int .i64 b], .int .i64 (k)] w fun e w' => e = .returned (.tuple #[.agg #[.int .i64 (Wnum.cN a b), .int .i64 (Wnum.cD a b)], .bool true]) ∧ Below w.heap.size w w' := by
  obtain ⟨n1, n2⟩ := Wnum.cN_bd a b
  obtain ⟨n3, n4⟩ := Wnum.cD_bd a b
  go_enter Tryd.func10, Tryd.ntmps10
  go_wp2_with fail
  refine (of_any _ _ _ h1 h2 h3 h4).mono ?_
  rintro e w1 ⟨rfl, hb1⟩
  have pA : At w1 w.heap.size (.int .i64 a) (.int .i64 b) := At.below hb1 ((At.new w _ rfl _ _).alloc _)
  have pC : At w1 (w.heap.size + 1) (.int .i64 0) (.int .i64 0) := At.below hb1 (At.new (w.alloc _) _ (by simp) _ _)
  have hB : Below w.heap.size w w1 := by with_reducible repeat (first | exact Below.refl _ _ | refine below_drewN ?_ _ | refine Below.setCell ?_ (by first | (simp; done) | (simp; omega) | omega) _ | refine Below.drew ?_ | refine below_end ?_ (by assumption) | refine ball ?_ _)
  clear hb1
  have pA' := pA
  obtain ⟨a1, a2, a3, a4⟩ := pA'
  go_upto_region 2 with fail
  have qA := pA.put (.int .i64 (Wnum.cN a b)) (.int .i64 (Wnum.cD a b))
  have qC := pC.far2 (j := w.heap.size) (by omega) (.int .i64 (Wnum.cN a b)) (.int .i64 (Wnum.cD a b))
  have qD := put_below hB (k := w.heap.size) (by omega) (.int .i64 (Wnum.cN a b)) (.int .i64 (Wnum.cD a b))
  clear pA pC hB a1 a2 a3 a4
  generalize (w1.setCell ⟨w.heap.size, 0, none⟩ (.int .i64 (Wnum.cN a b))).setCell ⟨w.heap.size, 1, none⟩ (.int .i64 (Wnum.cD a b)) = W1 at *
  clear w1
  have qA' := qA
  obtain ⟨a1, a2, a3, a4⟩ := qA'
  obtain ⟨c1, c2, c3, c4⟩ := qC
  have pA := qA.alloc (.cells #[.int .i64 1, .int .i64 1] 23)
  have pC := At.alloc (W := W1) (k := w.heap.size + 1) (v0 := .int .i64 0) (v1 := .int .i64 0) ⟨c1, c2, c3, c4⟩ (.cells #[.int .i64 1, .int .i64 1] 23)
  have pO := At.new W1 23 rfl (.int .i64 1) (.int .i64 1)
  have pD := ball qD (.cells #[.int .i64 1, .int .i64 1] 23)
  have pS : w.heap.size + 1 < W1.heap.size := At.lt ⟨c1, c2, c3, c4⟩
  clear qA c1 c2 c3 c4 a1 a2 a3 a4
  go_upto_region 3 with fail
  clear qD
  generalize hO : W1.heap.size = O at *
  generalize W1.alloc (.cells #[.int .i64 1, .int .i64 1] 23) = W2 at *
  clear hO W1
  have qD := pD
  clear pD
  obtain ⟨a1, a2, a3, a4⟩ := pA
  obtain ⟨c1, c2, c3, c4⟩ := pC
  obtain ⟨o1, o2, o3, o4⟩ := pO
  go_wp2
  refine bodyPost_ret (v := .tuple #[.agg #[.int .i64 (Wnum.cN a b), .int .i64 (Wnum.cD a b)], .bool true]) (by simp [results, Tryd.results10, go_sem, c1, c2]) rfl ⟨rfl, ?_⟩
  exact put_below qD (by omega) _ _

set_option maxHeartbeats 1600000 in
theorem rpow_pf (a b k up down : Int) (K : Nat) (r : Rat) (m : Bool) (w : World) (h1 : -9223372036854775808 ≤ a) (h2 : a ≤ 9223372036854775807) (h3 : -9223372036854775808 ≤ b) (h4 : b ≤ 9223372036854775807) (kb1 : -9223372036854775808 ≤ k) (kb2 : k ≤ 9223372036854775807) (hk : (k == 0) = false) (hz : (Wnum.cN a b == 0) = false) (hd : (Wnum.cD a b == 1) = false) (hs : ¬ k < 0) (eK : Hid ((k.natAbs : Int) = K)) (eU : Hid (((Wnum.cN a b).natAbs : Int) = up)) (eV : Hid (Wnum.cD a b = down)) (hu : Hid ((r.num.natAbs : Int) = up)) (hv : Hid ((r.den : Int) = down)) (hm : Hid (m = (decide (r.num < 0) && decide (K % 2 ≠ 0)))) (hmn : Hid (Wnum.cN a b < 0 → (k.tmod 2 != 0) = m ∧ (k % 2 != 0) = m)) (hmp : Hid (¬ Wnum.cN a b < 0 → m = false)) :
    Calls Tryd.prog 10 #[.agg #[.int .i64 a, .int .i64 b], .int .i64 (k)] w fun e w' => e = .returned (.tuple #[.agg #[.int .i64 (Wnum.oN (some (r ^ K))), .int .i64 (Wnum.oD (some (r ^ K)))], .bool (Wnum.oB (some (r ^ K)))]) ∧ Below w.heap.size w w' := by
  obtain ⟨n1, n2⟩ := Wnum.cN_bd a b
  obtain ⟨n3, n4⟩ := Wnum.cD_bd a b
  have u1 : 1 ≤ up := by rw [← eU.out]; have : Wnum.cN a b ≠ 0 := (by rw [← bne_iff_ne, bne, hz]; rfl); omega
  have u2 : up ≤ 1000000000000 := by rw [← eU.out]; omega
  have v1 : 1 ≤ down := by rw [← eV.out]; omega
  have v2 : down ≤ 1000000000000 := by rw [← eV.out]; omega
  have zw : IntKind.u64.wrap (Wnum.cD a b) = Wnum.cD a b := IntWalk.u64_in _ (by omega)
  have u3 : ¬ up = 0 := by omega
  have hK : (K : Int) ≤ 9223372036854775808 := by rw [← eK.out]; omega
  have v3 : ¬ down = 0 := by omega
  go_enter Tryd.func10, Tryd.ntmps10
  go_wp2_with fail
  refine (of_any _ _ _ h1 h2 h3 h4).mono ?_
  rintro e w1 ⟨rfl, hb1⟩
  have pA : At w1 w.heap.size (.int .i64 a) (.int .i64 b) := At.below hb1 ((At.new w _ rfl _ _).alloc _)
  have pC : At w1 (w.heap.size + 1) (.int .i64 0) (.int .i64 0) := At.below hb1 (At.new (w.alloc _) _ (by simp) _ _)
  have hB : Below w.heap.size w w1 := by with_reducible repeat (first | exact Below.refl _ _ | refine below_drewN ?_ _ | refine Below.setCell ?_ (by first | (simp; done) | (simp; omega) | omega) _ | refine Below.drew ?_ | refine below_end ?_ (by assumption) | refine ball ?_ _)
  clear hb1
  have pA' := pA
  obtain ⟨a1, a2, a3, a4⟩ := pA'
  go_upto_region 2 with fail
  have qA := pA.put (.int .i64 (Wnum.cN a b)) (.int .i64 (Wnum.cD a b))
  have qC := pC.far2 (j := w.heap.size) (by omega) (.int .i64 (Wnum.cN a b)) (.int .i64 (Wnum.cD a b))
  have qD := put_below hB (k := w.heap.size) (by omega) (.int .i64 (Wnum.cN a b)) (.int .i64 (Wnum.cD a b))
  clear pA pC hB a1 a2 a3 a4
  generalize (w1.setCell ⟨w.heap.size, 0, none⟩ (.int .i64 (Wnum.cN a b))).setCell ⟨w.heap.size, 1, none⟩ (.int .i64 (Wnum.cD a b)) = W1 at *
  clear w1
  have qA' := qA
  obtain ⟨a1, a2, a3, a4⟩ := qA'
  obtain ⟨c1, c2, c3, c4⟩ := qC
  have pA := qA.alloc (.cells #[.int .i64 1, .int .i64 1] 23)
  have pC := At.alloc (W := W1) (k := w.heap.size + 1) (v0 := .int .i64 0) (v1 := .int .i64 0) ⟨c1, c2, c3, c4⟩ (.cells #[.int .i64 1, .int .i64 1] 23)
  have pO := At.new W1 23 rfl (.int .i64 1) (.int .i64 1)
  have pD := ball qD (.cells #[.int .i64 1, .int .i64 1] 23)
  have pS : w.heap.size + 1 < W1.heap.size := At.lt ⟨c1, c2, c3, c4⟩
  clear qA c1 c2 c3 c4 a1 a2 a3 a4
  go_upto_region 3 with fail
  clear qD
  generalize hO : W1.heap.size = O at *
  generalize W1.alloc (.cells #[.int .i64 1, .int .i64 1] 23) = W2 at *
  clear hO W1
  have qD := pD
  clear pD
  obtain ⟨a1, a2, a3, a4⟩ := pA
  obtain ⟨c1, c2, c3, c4⟩ := pC
  obtain ⟨o1, o2, o3, o4⟩ := pO
  go_wp2_with (go_at_call 35; refine (far_any _ _ (by omega) (by omega)).mono ?_; rintro e w2 ⟨rfl, rfl⟩)
  rw [eU.out, eV.out]
  go_loop [7, 8, 11] (fun x y i => ∃ j : Nat, j ≤ K ∧ x = .int .u64 (Wnum.pw up j) ∧ y = .int .u64 (Wnum.pw down j) ∧ i = .int .u64 j ∧ Wnum.pw up j ≤ 1000000000000 ∧ Wnum.pw down j ≤ 1000000) (fun _ _ i => K - (intOf i).toNat)
  case atStart => exact ⟨0, Nat.zero_le _, by rw [Wnum.pw_zero], by rw [Wnum.pw_zero], rfl, by rw [Wnum.pw_zero]; omega, by rw [Wnum.pw_zero]; omega⟩
  case round =>
    obtain ⟨j, hj, rfl, rfl, rfl, j1, j2⟩ := hrel
    have j3 := Wnum.pw_pos u1 j
    have j4 := Wnum.pw_pos v1 j
    by_cases hlt : j < K
    · have E1 : Hid (Wnum.pw up (j + 1) = Wnum.pw up j * up) := Wnum.pw_succ up j
      have E2 : Hid (Wnum.pw down (j + 1) = Wnum.pw down j * down) := Wnum.pw_succ down j
      by_cases g1 : 1000000000000 / up < Wnum.pw up j
      · have o := (Wnum.over_iff u1).1 g1
        rw [← E1.out] at o
        obtain ⟨y1, y2, y3⟩ := pow_loop_over hu.out hv.out u1 v1 (show j + 1 ≤ K by omega) (Or.inl o)
        have Y1 : Hid (Wnum.oN (some (r ^ K)) = 0) := y1
        have Y2 : Hid (Wnum.oD (some (r ^ K)) = 0) := y2
        have Y3 : Hid (Wnum.oB (some (r ^ K)) = false) := y3
        clear y1 y2 y3 o
        go_wp2_with (go_at_call 35; refine (far_any _ _ (by omega) (by omega)).mono ?_; rintro e w2 ⟨rfl, rfl⟩; rw [eK.out])
        refine bodyPost_ret (v := .tuple #[.agg #[.int .i64 0, .int .i64 0], .bool false]) (by simp [results, Tryd.results10, go_sem, c1, c2]) rfl ⟨by rw [Y1.out, Y2.out, Y3.out], ?_⟩
        exact put_below qD (by omega) _ _
      · by_cases g2 : 1000000 / down < Wnum.pw down j
        · have o := (Wnum.over_iff v1).1 g2
          rw [← E2.out] at o
          obtain ⟨y1, y2, y3⟩ := pow_loop_over hu.out hv.out u1 v1 (show j + 1 ≤ K by omega) (Or.inr o)
          have Y1 : Hid (Wnum.oN (some (r ^ K)) = 0) := y1
          have Y2 : Hid (Wnum.oD (some (r ^ K)) = 0) := y2
          have Y3 : Hid (Wnum.oB (some (r ^ K)) = false) := y3
          clear y1 y2 y3 o
          go_wp2_with (go_at_call 35; refine (far_any _ _ (by omega) (by omega)).mono ?_; rintro e w2 ⟨rfl, rfl⟩; rw [eK.out])
          refine bodyPost_ret (v := .tuple #[.agg #[.int .i64 0, .int .i64 0], .bool false]) (by simp [results, Tryd.results10, go_sem, c1, c2]) rfl ⟨by rw [Y1.out, Y2.out, Y3.out], ?_⟩
          exact put_below qD (by omega) _ _
        · have i1 : Wnum.pw up (j + 1) ≤ 1000000000000 := by
            have : ¬ 1000000000000 < Wnum.pw up j * up := fun h => g1 ((Wnum.over_iff u1).2 h)
            rw [E1.out]; omega
          have i2 : Wnum.pw down (j + 1) ≤ 1000000 := by
            have : ¬ 1000000 < Wnum.pw down j * down := fun h => g2 ((Wnum.over_iff v1).2 h)
            rw [E2.out]; omega
          have i3 := Wnum.pw_pos u1 (j + 1)
          have i4 := Wnum.pw_pos v1 (j + 1)
          have x1 : IntKind.u64.wrap (Wnum.pw up j * up) = Wnum.pw up (j + 1) := by rw [← E1.out]; exact IntWalk.u64_in _ (by omega)
          have x2 : IntKind.u64.wrap (Wnum.pw down j * down) = Wnum.pw down (j + 1) := by rw [← E2.out]; exact IntWalk.u64_in _ (by omega)
          go_wp2_with (go_at_call 35; refine (far_any _ _ (by omega) (by omega)).mono ?_; rintro e w2 ⟨rfl, rfl⟩; rw [eK.out])
          go_round
          case rel => exact ⟨j + 1, by omega, rfl, rfl, by go_num, i1, i2⟩
          case measure => simp [intOf]; omega
    · have hj' : j = K := by omega
      subst hj'
      have S := pow_sized hu.out hv.out hm.out
      have M := fun w => made_any m (Wnum.pw up j) (Wnum.pw down j) w (by omega) (by omega) (by omega) (by omega)
      rw [S] at M
      clear S
      by_cases hn : Wnum.cN a b < 0
      · have HM : Hid ((k.tmod 2 != 0) = m) := (hmn.out hn).1
        have HM2 : Hid ((k % 2 != 0) = m) := (hmn.out hn).2
        go_wp2_with (go_at_call 35; refine (far_any _ _ (by omega) (by omega)).mono ?_; rintro e w2 ⟨rfl, rfl⟩; rw [eK.out])
        first | rw [HM.out] | rw [HM2.out]
        refine (M _).mono ?_
        rintro e w3 ⟨rfl, hb3⟩
        obtain ⟨k1, k2, k3, k4⟩ := At.below hb3 ⟨c1, c2, c3, c4⟩
        have qE := below_end qD hb3
        go_wp2
        refine bodyPost_ret (v := .tuple #[.agg #[.int .i64 (Wnum.oN (some (r ^ j))), .int .i64 (Wnum.oD (some (r ^ j)))], .bool (Wnum.oB (some (r ^ j)))]) (by simp [results, Tryd.results10, go_sem, k1, k2]) rfl ⟨rfl, ?_⟩
        exact put_below qE (by omega) _ _
      · obtain rfl : m = false := hmp.out (by omega)
        go_wp2_with (go_at_call 35; refine (far_any _ _ (by omega) (by omega)).mono ?_; rintro e w2 ⟨rfl, rfl⟩; rw [eK.out])
        refine (M _).mono ?_
        rintro e w3 ⟨rfl, hb3⟩
        obtain ⟨k1, k2, k3, k4⟩ := At.below hb3 ⟨c1, c2, c3, c4⟩
        have qE := below_end qD hb3
        go_wp2
        refine bodyPost_ret (v := .tuple #[.agg #[.int .i64 (Wnum.oN (some (r ^ j))), .int .i64 (Wnum.oD (some (r ^ j)))], .bool (Wnum.oB (some (r ^ j)))]) (by simp [results, Tryd.results10, go_sem, k1, k2]) rfl ⟨rfl, ?_⟩
        exact put_below qE (by omega) _ _

set_option maxHeartbeats 1600000 in
theorem rpow_nf (a b k up down : Int) (K : Nat) (r : Rat) (m : Bool) (w : World) (h1 : -9223372036854775808 ≤ a) (h2 : a ≤ 9223372036854775807) (h3 : -9223372036854775808 ≤ b) (h4 : b ≤ 9223372036854775807) (kb1 : -9223372036854775808 ≤ k) (kb2 : k ≤ 9223372036854775807) (hk : (k == 0) = false) (hz : (Wnum.cN a b == 0) = false) (hd : (Wnum.cD a b == 1) = false) (hs : k < 0) (eK : Hid ((k.natAbs : Int) = K)) (eU : Hid (Wnum.cD a b = up)) (eV : Hid (((Wnum.cN a b).natAbs : Int) = down)) (hu : Hid ((r.num.natAbs : Int) = up)) (hv : Hid ((r.den : Int) = down)) (hm : Hid (m = (decide (r.num < 0) && decide (K % 2 ≠ 0)))) (hmn : Hid (Wnum.cN a b < 0 → (k.tmod 2 != 0) = m ∧ (k % 2 != 0) = m)) (hmp : Hid (¬ Wnum.cN a b < 0 → m = false)) :
    Calls Tryd.prog 10 #[.agg #[.int .i64 a, .int .i64 b], .int .i64 (k)] w fun e w' => e = .returned (.tuple #[.agg #[.int .i64 (Wnum.oN (some (r ^ K))), .int .i64 (Wnum.oD (some (r ^ K)))], .bool (Wnum.oB (some (r ^ K)))]) ∧ Below w.heap.size w w' := by
  obtain ⟨n1, n2⟩ := Wnum.cN_bd a b
  obtain ⟨n3, n4⟩ := Wnum.cD_bd a b
  have u1 : 1 ≤ up := by rw [← eU.out]; omega
  have u2 : up ≤ 1000000000000 := by rw [← eU.out]; omega
  have v1 : 1 ≤ down := by rw [← eV.out]; have : Wnum.cN a b ≠ 0 := (by rw [← bne_iff_ne, bne, hz]; rfl); omega
  have v2 : down ≤ 1000000000000 := by rw [← eV.out]; omega
  have zw : IntKind.u64.wrap (Wnum.cD a b) = Wnum.cD a b := IntWalk.u64_in _ (by omega)
  have u3 : ¬ up = 0 := by omega
  have hK : (K : Int) ≤ 9223372036854775808 := by rw [← eK.out]; omega
  have v3 : ¬ down = 0 := by omega
  go_enter Tryd.func10, Tryd.ntmps10
  go_wp2_with fail
  refine (of_any _ _ _ h1 h2 h3 h4).mono ?_
  rintro e w1 ⟨rfl, hb1⟩
  have pA : At w1 w.heap.size (.int .i64 a) (.int .i64 b) := At.below hb1 ((At.new w _ rfl _ _).alloc _)
  have pC : At w1 (w.heap.size + 1) (.int .i64 0) (.int .i64 0) := At.below hb1 (At.new (w.alloc _) _ (by simp) _ _)
  have hB : Below w.heap.size w w1 := by with_reducible repeat (first | exact Below.refl _ _ | refine below_drewN ?_ _ | refine Below.setCell ?_ (by first | (simp; done) | (simp; omega) | omega) _ | refine Below.drew ?_ | refine below_end ?_ (by assumption) | refine ball ?_ _)
  clear hb1
  have pA' := pA
  obtain ⟨a1, a2, a3, a4⟩ := pA'
  go_upto_region 2 with fail
  have qA := pA.put (.int .i64 (Wnum.cN a b)) (.int .i64 (Wnum.cD a b))
  have qC := pC.far2 (j := w.heap.size) (by omega) (.int .i64 (Wnum.cN a b)) (.int .i64 (Wnum.cD a b))
  have qD := put_below hB (k := w.heap.size) (by omega) (.int .i64 (Wnum.cN a b)) (.int .i64 (Wnum.cD a b))
  clear pA pC hB a1 a2 a3 a4
  generalize (w1.setCell ⟨w.heap.size, 0, none⟩ (.int .i64 (Wnum.cN a b))).setCell ⟨w.heap.size, 1, none⟩ (.int .i64 (Wnum.cD a b)) = W1 at *
  clear w1
  have qA' := qA
  obtain ⟨a1, a2, a3, a4⟩ := qA'
  obtain ⟨c1, c2, c3, c4⟩ := qC
  have pA := qA.alloc (.cells #[.int .i64 1, .int .i64 1] 23)
  have pC := At.alloc (W := W1) (k := w.heap.size + 1) (v0 := .int .i64 0) (v1 := .int .i64 0) ⟨c1, c2, c3, c4⟩ (.cells #[.int .i64 1, .int .i64 1] 23)
  have pO := At.new W1 23 rfl (.int .i64 1) (.int .i64 1)
  have pD := ball qD (.cells #[.int .i64 1, .int .i64 1] 23)
  have pS : w.heap.size + 1 < W1.heap.size := At.lt ⟨c1, c2, c3, c4⟩
  clear qA c1 c2 c3 c4 a1 a2 a3 a4
  go_upto_region 3 with fail
  clear qD
  generalize hO : W1.heap.size = O at *
  generalize W1.alloc (.cells #[.int .i64 1, .int .i64 1] 23) = W2 at *
  clear hO W1
  have qD := pD
  clear pD
  obtain ⟨a1, a2, a3, a4⟩ := pA
  obtain ⟨c1, c2, c3, c4⟩ := pC
  obtain ⟨o1, o2, o3, o4⟩ := pO
  go_wp2_with (go_at_call 35; refine (far_any _ _ (by omega) (by omega)).mono ?_; rintro e w2 ⟨rfl, rfl⟩)
  rw [eU.out, eV.out]
  go_loop [7, 8, 11] (fun x y i => ∃ j : Nat, j ≤ K ∧ x = .int .u64 (Wnum.pw up j) ∧ y = .int .u64 (Wnum.pw down j) ∧ i = .int .u64 j ∧ Wnum.pw up j ≤ 1000000000000 ∧ Wnum.pw down j ≤ 1000000) (fun _ _ i => K - (intOf i).toNat)
  case atStart => exact ⟨0, Nat.zero_le _, by rw [Wnum.pw_zero], by rw [Wnum.pw_zero], rfl, by rw [Wnum.pw_zero]; omega, by rw [Wnum.pw_zero]; omega⟩
  case round =>
    obtain ⟨j, hj, rfl, rfl, rfl, j1, j2⟩ := hrel
    have j3 := Wnum.pw_pos u1 j
    have j4 := Wnum.pw_pos v1 j
    by_cases hlt : j < K
    · have E1 : Hid (Wnum.pw up (j + 1) = Wnum.pw up j * up) := Wnum.pw_succ up j
      have E2 : Hid (Wnum.pw down (j + 1) = Wnum.pw down j * down) := Wnum.pw_succ down j
      by_cases g1 : 1000000000000 / up < Wnum.pw up j
      · have o := (Wnum.over_iff u1).1 g1
        rw [← E1.out] at o
        obtain ⟨y1, y2, y3⟩ := pow_loop_over hu.out hv.out u1 v1 (show j + 1 ≤ K by omega) (Or.inl o)
        have Y1 : Hid (Wnum.oN (some (r ^ K)) = 0) := y1
        have Y2 : Hid (Wnum.oD (some (r ^ K)) = 0) := y2
        have Y3 : Hid (Wnum.oB (some (r ^ K)) = false) := y3
        clear y1 y2 y3 o
        go_wp2_with (go_at_call 35; refine (far_any _ _ (by omega) (by omega)).mono ?_; rintro e w2 ⟨rfl, rfl⟩; rw [eK.out])
        refine bodyPost_ret (v := .tuple #[.agg #[.int .i64 0, .int .i64 0], .bool false]) (by simp [results, Tryd.results10, go_sem, c1, c2]) rfl ⟨by rw [Y1.out, Y2.out, Y3.out], ?_⟩
        exact put_below qD (by omega) _ _
      · by_cases g2 : 1000000 / down < Wnum.pw down j
        · have o := (Wnum.over_iff v1).1 g2
          rw [← E2.out] at o
          obtain ⟨y1, y2, y3⟩ := pow_loop_over hu.out hv.out u1 v1 (show j + 1 ≤ K by omega) (Or.inr o)
          have Y1 : Hid (Wnum.oN (some (r ^ K)) = 0) := y1
          have Y2 : Hid (Wnum.oD (some (r ^ K)) = 0) := y2
          have Y3 : Hid (Wnum.oB (some (r ^ K)) = false) := y3
          clear y1 y2 y3 o
          go_wp2_with (go_at_call 35; refine (far_any _ _ (by omega) (by omega)).mono ?_; rintro e w2 ⟨rfl, rfl⟩; rw [eK.out])
          refine bodyPost_ret (v := .tuple #[.agg #[.int .i64 0, .int .i64 0], .bool false]) (by simp [results, Tryd.results10, go_sem, c1, c2]) rfl ⟨by rw [Y1.out, Y2.out, Y3.out], ?_⟩
          exact put_below qD (by omega) _ _
        · have i1 : Wnum.pw up (j + 1) ≤ 1000000000000 := by
            have : ¬ 1000000000000 < Wnum.pw up j * up := fun h => g1 ((Wnum.over_iff u1).2 h)
            rw [E1.out]; omega
          have i2 : Wnum.pw down (j + 1) ≤ 1000000 := by
            have : ¬ 1000000 < Wnum.pw down j * down := fun h => g2 ((Wnum.over_iff v1).2 h)
            rw [E2.out]; omega
          have i3 := Wnum.pw_pos u1 (j + 1)
          have i4 := Wnum.pw_pos v1 (j + 1)
          have x1 : IntKind.u64.wrap (Wnum.pw up j * up) = Wnum.pw up (j + 1) := by rw [← E1.out]; exact IntWalk.u64_in _ (by omega)
          have x2 : IntKind.u64.wrap (Wnum.pw down j * down) = Wnum.pw down (j + 1) := by rw [← E2.out]; exact IntWalk.u64_in _ (by omega)
          go_wp2_with (go_at_call 35; refine (far_any _ _ (by omega) (by omega)).mono ?_; rintro e w2 ⟨rfl, rfl⟩; rw [eK.out])
          go_round
          case rel => exact ⟨j + 1, by omega, rfl, rfl, by go_num, i1, i2⟩
          case measure => simp [intOf]; omega
    · have hj' : j = K := by omega
      subst hj'
      have S := pow_sized hu.out hv.out hm.out
      have M := fun w => made_any m (Wnum.pw up j) (Wnum.pw down j) w (by omega) (by omega) (by omega) (by omega)
      rw [S] at M
      clear S
      by_cases hn : Wnum.cN a b < 0
      · have HM : Hid ((k.tmod 2 != 0) = m) := (hmn.out hn).1
        have HM2 : Hid ((k % 2 != 0) = m) := (hmn.out hn).2
        go_wp2_with (go_at_call 35; refine (far_any _ _ (by omega) (by omega)).mono ?_; rintro e w2 ⟨rfl, rfl⟩; rw [eK.out])
        first | rw [HM.out] | rw [HM2.out]
        refine (M _).mono ?_
        rintro e w3 ⟨rfl, hb3⟩
        obtain ⟨k1, k2, k3, k4⟩ := At.below hb3 ⟨c1, c2, c3, c4⟩
        have qE := below_end qD hb3
        go_wp2
        refine bodyPost_ret (v := .tuple #[.agg #[.int .i64 (Wnum.oN (some (r ^ j))), .int .i64 (Wnum.oD (some (r ^ j)))], .bool (Wnum.oB (some (r ^ j)))]) (by simp [results, Tryd.results10, go_sem, k1, k2]) rfl ⟨rfl, ?_⟩
        exact put_below qE (by omega) _ _
      · obtain rfl : m = false := hmp.out (by omega)
        go_wp2_with (go_at_call 35; refine (far_any _ _ (by omega) (by omega)).mono ?_; rintro e w2 ⟨rfl, rfl⟩; rw [eK.out])
        refine (M _).mono ?_
        rintro e w3 ⟨rfl, hb3⟩
        obtain ⟨k1, k2, k3, k4⟩ := At.below hb3 ⟨c1, c2, c3, c4⟩
        have qE := below_end qD hb3
        go_wp2
        refine bodyPost_ret (v := .tuple #[.agg #[.int .i64 (Wnum.oN (some (r ^ j))), .int .i64 (Wnum.oD (some (r ^ j)))], .bool (Wnum.oB (some (r ^ j)))]) (by simp [results, Tryd.results10, go_sem, k1, k2]) rfl ⟨rfl, ?_⟩
        exact put_below qE (by omega) _ _

set_option maxHeartbeats 1600000 in
theorem rpow_pt (a b k up down : Int) (K : Nat) (r : Rat) (m : Bool) (w : World) (h1 : -9223372036854775808 ≤ a) (h2 : a ≤ 9223372036854775807) (h3 : -9223372036854775808 ≤ b) (h4 : b ≤ 9223372036854775807) (kb1 : -9223372036854775808 ≤ k) (kb2 : k ≤ 9223372036854775807) (hk : (k == 0) = false) (hz : (Wnum.cN a b == 0) = false) (hd : (Wnum.cD a b == 1) = true) (ho : (Wnum.cN a b == 1) = false) (hq : (Wnum.cN a b == -1) = false) (hs : ¬ k < 0) (eK : Hid ((k.natAbs : Int) = K)) (eU : Hid (((Wnum.cN a b).natAbs : Int) = up)) (eV : Hid (Wnum.cD a b = down)) (hu : Hid ((r.num.natAbs : Int) = up)) (hv : Hid ((r.den : Int) = down)) (hm : Hid (m = (decide (r.num < 0) && decide (K % 2 ≠ 0)))) (hmn : Hid (Wnum.cN a b < 0 → (k.tmod 2 != 0) = m ∧ (k % 2 != 0) = m)) (hmp : Hid (¬ Wnum.cN a b < 0 → m = false)) :
    Calls Tryd.prog 10 #[.agg #[.int .i64 a, .int .i64 b], .int .i64 (k)] w fun e w' => e = .returned (.tuple #[.agg #[.int .i64 (Wnum.oN (some (r ^ K))), .int .i64 (Wnum.oD (some (r ^ K)))], .bool (Wnum.oB (some (r ^ K)))]) ∧ Below w.heap.size w w' := by
  obtain ⟨n1, n2⟩ := Wnum.cN_bd a b
  obtain ⟨n3, n4⟩ := Wnum.cD_bd a b
  have u1 : 1 ≤ up := by rw [← eU.out]; have : Wnum.cN a b ≠ 0 := (by rw [← bne_iff_ne, bne, hz]; rfl); omega
  have u2 : up ≤ 1000000000000 := by rw [← eU.out]; omega
  have v1 : 1 ≤ down := by rw [← eV.out]; omega
  have v2 : down ≤ 1000000000000 := by rw [← eV.out]; omega
  have zw : IntKind.u64.wrap (Wnum.cD a b) = Wnum.cD a b := IntWalk.u64_in _ (by omega)
  have u3 : ¬ up = 0 := by omega
  have hK : (K : Int) ≤ 9223372036854775808 := by rw [← eK.out]; omega
  have v3 : ¬ down = 0 := by omega
  go_enter Tryd.func10, Tryd.ntmps10
  go_wp2_with fail
  refine (of_any _ _ _ h1 h2 h3 h4).mono ?_
  rintro e w1 ⟨rfl, hb1⟩
  have pA : At w1 w.heap.size (.int .i64 a) (.int .i64 b) := At.below hb1 ((At.new w _ rfl _ _).alloc _)
  have pC : At w1 (w.heap.size + 1) (.int .i64 0) (.int .i64 0) := At.below hb1 (At.new (w.alloc _) _ (by simp) _ _)
  have hB : Below w.heap.size w w1 := by with_reducible repeat (first | exact Below.refl _ _ | refine below_drewN ?_ _ | refine Below.setCell ?_ (by first | (simp; done) | (simp; omega) | omega) _ | refine Below.drew ?_ | refine below_end ?_ (by assumption) | refine ball ?_ _)
  clear hb1
  have pA' := pA
  obtain ⟨a1, a2, a3, a4⟩ := pA'
  go_upto_region 2 with fail
  have qA := pA.put (.int .i64 (Wnum.cN a b)) (.int .i64 (Wnum.cD a b))
  have qC := pC.far2 (j := w.heap.size) (by omega) (.int .i64 (Wnum.cN a b)) (.int .i64 (Wnum.cD a b))
  have qD := put_below hB (k := w.heap.size) (by omega) (.int .i64 (Wnum.cN a b)) (.int .i64 (Wnum.cD a b))
  clear pA pC hB a1 a2 a3 a4
  generalize (w1.setCell ⟨w.heap.size, 0, none⟩ (.int .i64 (Wnum.cN a b))).setCell ⟨w.heap.size, 1, none⟩ (.int .i64 (Wnum.cD a b)) = W1 at *
  clear w1
  have qA' := qA
  obtain ⟨a1, a2, a3, a4⟩ := qA'
  obtain ⟨c1, c2, c3, c4⟩ := qC
  have pA := qA.alloc (.cells #[.int .i64 1, .int .i64 1] 23)
  have pC := At.alloc (W := W1) (k := w.heap.size + 1) (v0 := .int .i64 0) (v1 := .int .i64 0) ⟨c1, c2, c3, c4⟩ (.cells #[.int .i64 1, .int .i64 1] 23)
  have pO := At.new W1 23 rfl (.int .i64 1) (.int .i64 1)
  have pD := ball qD (.cells #[.int .i64 1, .int .i64 1] 23)
  have pS : w.heap.size + 1 < W1.heap.size := At.lt ⟨c1, c2, c3, c4⟩
  clear qA c1 c2 c3 c4 a1 a2 a3 a4
  go_upto_region 3 with fail
  clear qD
  generalize hO : W1.heap.size = O at *
  generalize W1.alloc (.cells #[.int .i64 1, .int .i64 1] 23) = W2 at *
  clear hO W1
  have qD := pD
  clear pD
  obtain ⟨a1, a2, a3, a4⟩ := pA
  obtain ⟨c1, c2, c3, c4⟩ := pC
  obtain ⟨o1, o2, o3, o4⟩ := pO
  go_wp2_with (go_at_call 35; refine (far_any _ _ (by omega) (by omega)).mono ?_; rintro e w2 ⟨rfl, rfl⟩)
  rw [eU.out, eV.out]
  go_loop [7, 8, 11] (fun x y i => ∃ j : Nat, j ≤ K ∧ x = .int .u64 (Wnum.pw up j) ∧ y = .int .u64 (Wnum.pw down j) ∧ i = .int .u64 j ∧ Wnum.pw up j ≤ 1000000000000 ∧ Wnum.pw down j ≤ 1000000) (fun _ _ i => K - (intOf i).toNat)
  case atStart => exact ⟨0, Nat.zero_le _, by rw [Wnum.pw_zero], by rw [Wnum.pw_zero], rfl, by rw [Wnum.pw_zero]; omega, by rw [Wnum.pw_zero]; omega⟩
  case round =>
    obtain ⟨j, hj, rfl, rfl, rfl, j1, j2⟩ := hrel
    have j3 := Wnum.pw_pos u1 j
    have j4 := Wnum.pw_pos v1 j
    by_cases hlt : j < K
    · have E1 : Hid (Wnum.pw up (j + 1) = Wnum.pw up j * up) := Wnum.pw_succ up j
      have E2 : Hid (Wnum.pw down (j + 1) = Wnum.pw down j * down) := Wnum.pw_succ down j
      by_cases g1 : 1000000000000 / up < Wnum.pw up j
      · have o := (Wnum.over_iff u1).1 g1
        rw [← E1.out] at o
        obtain ⟨y1, y2, y3⟩ := pow_loop_over hu.out hv.out u1 v1 (show j + 1 ≤ K by omega) (Or.inl o)
        have Y1 : Hid (Wnum.oN (some (r ^ K)) = 0) := y1
        have Y2 : Hid (Wnum.oD (some (r ^ K)) = 0) := y2
        have Y3 : Hid (Wnum.oB (some (r ^ K)) = false) := y3
        clear y1 y2 y3 o
        go_wp2_with (go_at_call 35; refine (far_any _ _ (by omega) (by omega)).mono ?_; rintro e w2 ⟨rfl, rfl⟩; rw [eK.out])
        refine bodyPost_ret (v := .tuple #[.agg #[.int .i64 0, .int .i64 0], .bool false]) (by simp [results, Tryd.results10, go_sem, c1, c2]) rfl ⟨by rw [Y1.out, Y2.out, Y3.out], ?_⟩
        exact put_below qD (by omega) _ _
      · by_cases g2 : 1000000 / down < Wnum.pw down j
        · have o := (Wnum.over_iff v1).1 g2
          rw [← E2.out] at o
          obtain ⟨y1, y2, y3⟩ := pow_loop_over hu.out hv.out u1 v1 (show j + 1 ≤ K by omega) (Or.inr o)
          have Y1 : Hid (Wnum.oN (some (r ^ K)) = 0) := y1
          have Y2 : Hid (Wnum.oD (some (r ^ K)) = 0) := y2
          have Y3 : Hid (Wnum.oB (some (r ^ K)) = false) := y3
          clear y1 y2 y3 o
          go_wp2_with (go_at_call 35; refine (far_any _ _ (by omega) (by omega)).mono ?_; rintro e w2 ⟨rfl, rfl⟩; rw [eK.out])
          refine bodyPost_ret (v := .tuple #[.agg #[.int .i64 0, .int .i64 0], .bool false]) (by simp [results, Tryd.results10, go_sem, c1, c2]) rfl ⟨by rw [Y1.out, Y2.out, Y3.out], ?_⟩
          exact put_below qD (by omega) _ _
        · have i1 : Wnum.pw up (j + 1) ≤ 1000000000000 := by
            have : ¬ 1000000000000 < Wnum.pw up j * up := fun h => g1 ((Wnum.over_iff u1).2 h)
            rw [E1.out]; omega
          have i2 : Wnum.pw down (j + 1) ≤ 1000000 := by
            have : ¬ 1000000 < Wnum.pw down j * down := fun h => g2 ((Wnum.over_iff v1).2 h)
            rw [E2.out]; omega
          have i3 := Wnum.pw_pos u1 (j + 1)
          have i4 := Wnum.pw_pos v1 (j + 1)
          have x1 : IntKind.u64.wrap (Wnum.pw up j * up) = Wnum.pw up (j + 1) := by rw [← E1.out]; exact IntWalk.u64_in _ (by omega)
          have x2 : IntKind.u64.wrap (Wnum.pw down j * down) = Wnum.pw down (j + 1) := by rw [← E2.out]; exact IntWalk.u64_in _ (by omega)
          go_wp2_with (go_at_call 35; refine (far_any _ _ (by omega) (by omega)).mono ?_; rintro e w2 ⟨rfl, rfl⟩; rw [eK.out])
          go_round
          case rel => exact ⟨j + 1, by omega, rfl, rfl, by go_num, i1, i2⟩
          case measure => simp [intOf]; omega
    · have hj' : j = K := by omega
      subst hj'
      have S := pow_sized hu.out hv.out hm.out
      have M := fun w => made_any m (Wnum.pw up j) (Wnum.pw down j) w (by omega) (by omega) (by omega) (by omega)
      rw [S] at M
      clear S
      by_cases hn : Wnum.cN a b < 0
      · have HM : Hid ((k.tmod 2 != 0) = m) := (hmn.out hn).1
        have HM2 : Hid ((k % 2 != 0) = m) := (hmn.out hn).2
        go_wp2_with (go_at_call 35; refine (far_any _ _ (by omega) (by omega)).mono ?_; rintro e w2 ⟨rfl, rfl⟩; rw [eK.out])
        first | rw [HM.out] | rw [HM2.out]
        refine (M _).mono ?_
        rintro e w3 ⟨rfl, hb3⟩
        obtain ⟨k1, k2, k3, k4⟩ := At.below hb3 ⟨c1, c2, c3, c4⟩
        have qE := below_end qD hb3
        go_wp2
        refine bodyPost_ret (v := .tuple #[.agg #[.int .i64 (Wnum.oN (some (r ^ j))), .int .i64 (Wnum.oD (some (r ^ j)))], .bool (Wnum.oB (some (r ^ j)))]) (by simp [results, Tryd.results10, go_sem, k1, k2]) rfl ⟨rfl, ?_⟩
        exact put_below qE (by omega) _ _
      · obtain rfl : m = false := hmp.out (by omega)
        go_wp2_with (go_at_call 35; refine (far_any _ _ (by omega) (by omega)).mono ?_; rintro e w2 ⟨rfl, rfl⟩; rw [eK.out])
        refine (M _).mono ?_
        rintro e w3 ⟨rfl, hb3⟩
        obtain ⟨k1, k2, k3, k4⟩ := At.below hb3 ⟨c1, c2, c3, c4⟩
        have qE := below_end qD hb3
        go_wp2
        refine bodyPost_ret (v := .tuple #[.agg #[.int .i64 (Wnum.oN (some (r ^ j))), .int .i64 (Wnum.oD (some (r ^ j)))], .bool (Wnum.oB (some (r ^ j)))]) (by simp [results, Tryd.results10, go_sem, k1, k2]) rfl ⟨rfl, ?_⟩
        exact put_below qE (by omega) _ _

set_option maxHeartbeats 1600000 in
theorem rpow_nt (a b k up down : Int) (K : Nat) (r : Rat) (m : Bool) (w : World) (h1 : -9223372036854775808 ≤ a) (h2 : a ≤ 9223372036854775807) (h3 : -9223372036854775808 ≤ b) (h4 : b ≤ 9223372036854775807) (kb1 : -9223372036854775808 ≤ k) (kb2 : k ≤ 9223372036854775807) (hk : (k == 0) = false) (hz : (Wnum.cN a b == 0) = false) (hd : (Wnum.cD a b == 1) = true) (ho : (Wnum.cN a b == 1) = false) (hq : (Wnum.cN a b == -1) = false) (hs : k < 0) (eK : Hid ((k.natAbs : Int) = K)) (eU : Hid (Wnum.cD a b = up)) (eV : Hid (((Wnum.cN a b).natAbs : Int) = down)) (hu : Hid ((r.num.natAbs : Int) = up)) (hv : Hid ((r.den : Int) = down)) (hm : Hid (m = (decide (r.num < 0) && decide (K % 2 ≠ 0)))) (hmn : Hid (Wnum.cN a b < 0 → (k.tmod 2 != 0) = m ∧ (k % 2 != 0) = m)) (hmp : Hid (¬ Wnum.cN a b < 0 → m = false)) :
    Calls Tryd.prog 10 #[.agg #[.int .i64 a, .int .i64 b], .int .i64 (k)] w fun e w' => e = .returned (.tuple #[.agg #[.int .i64 (Wnum.oN (some (r ^ K))), .int .i64 (Wnum.oD (some (r ^ K)))], .bool (Wnum.oB (some (r ^ K)))]) ∧ Below w.heap.size w w' := by
  obtain ⟨n1, n2⟩ := Wnum.cN_bd a b
  obtain ⟨n3, n4⟩ := Wnum.cD_bd a b
  have u1 : 1 ≤ up := by rw [← eU.out]; omega
  have u2 : up ≤ 1000000000000 := by rw [← eU.out]; omega
  have v1 : 1 ≤ down := by rw [← eV.out]; have : Wnum.cN a b ≠ 0 := (by rw [← bne_iff_ne, bne, hz]; rfl); omega
  have v2 : down ≤ 1000000000000 := by rw [← eV.out]; omega
  have zw : IntKind.u64.wrap (Wnum.cD a b) = Wnum.cD a b := IntWalk.u64_in _ (by omega)
  have u3 : ¬ up = 0 := by omega
  have hK : (K : Int) ≤ 9223372036854775808 := by rw [← eK.out]; omega
  have v3 : ¬ down = 0 := by omega
  go_enter Tryd.func10, Tryd.ntmps10
  go_wp2_with fail
  refine (of_any _ _ _ h1 h2 h3 h4).mono ?_
  rintro e w1 ⟨rfl, hb1⟩
  have pA : At w1 w.heap.size (.int .i64 a) (.int .i64 b) := At.below hb1 ((At.new w _ rfl _ _).alloc _)
  have pC : At w1 (w.heap.size + 1) (.int .i64 0) (.int .i64 0) := At.below hb1 (At.new (w.alloc _) _ (by simp) _ _)
  have hB : Below w.heap.size w w1 := by with_reducible repeat (first | exact Below.refl _ _ | refine below_drewN ?_ _ | refine Below.setCell ?_ (by first | (simp; done) | (simp; omega) | omega) _ | refine Below.drew ?_ | refine below_end ?_ (by assumption) | refine ball ?_ _)
  clear hb1
  have pA' := pA
  obtain ⟨a1, a2, a3, a4⟩ := pA'
  go_upto_region 2 with fail
  have qA := pA.put (.int .i64 (Wnum.cN a b)) (.int .i64 (Wnum.cD a b))
  have qC := pC.far2 (j := w.heap.size) (by omega) (.int .i64 (Wnum.cN a b)) (.int .i64 (Wnum.cD a b))
  have qD := put_below hB (k := w.heap.size) (by omega) (.int .i64 (Wnum.cN a b)) (.int .i64 (Wnum.cD a b))
  clear pA pC hB a1 a2 a3 a4
  generalize (w1.setCell ⟨w.heap.size, 0, none⟩ (.int .i64 (Wnum.cN a b))).setCell ⟨w.heap.size, 1, none⟩ (.int .i64 (Wnum.cD a b)) = W1 at *
  clear w1
  have qA' := qA
  obtain ⟨a1, a2, a3, a4⟩ := qA'
  obtain ⟨c1, c2, c3, c4⟩ := qC
  have pA := qA.alloc (.cells #[.int .i64 1, .int .i64 1] 23)
  have pC := At.alloc (W := W1) (k := w.heap.size + 1) (v0 := .int .i64 0) (v1 := .int .i64 0) ⟨c1, c2, c3, c4⟩ (.cells #[.int .i64 1, .int .i64 1] 23)
  have pO := At.new W1 23 rfl (.int .i64 1) (.int .i64 1)
  have pD := ball qD (.cells #[.int .i64 1, .int .i64 1] 23)
  have pS : w.heap.size + 1 < W1.heap.size := At.lt ⟨c1, c2, c3, c4⟩
  clear qA c1 c2 c3 c4 a1 a2 a3 a4
  go_upto_region 3 with fail
  clear qD
  generalize hO : W1.heap.size = O at *
  generalize W1.alloc (.cells #[.int .i64 1, .int .i64 1] 23) = W2 at *
  clear hO W1
  have qD := pD
  clear pD
  obtain ⟨a1, a2, a3, a4⟩ := pA
  obtain ⟨c1, c2, c3, c4⟩ := pC
  obtain ⟨o1, o2, o3, o4⟩ := pO
  go_wp2_with (go_at_call 35; refine (far_any _ _ (by omega) (by omega)).mono ?_; rintro e w2 ⟨rfl, rfl⟩)
  rw [eU.out, eV.out]
  go_loop [7, 8, 11] (fun x y i => ∃ j : Nat, j ≤ K ∧ x = .int .u64 (Wnum.pw up j) ∧ y = .int .u64 (Wnum.pw down j) ∧ i = .int .u64 j ∧ Wnum.pw up j ≤ 1000000000000 ∧ Wnum.pw down j ≤ 1000000) (fun _ _ i => K - (intOf i).toNat)
  case atStart => exact ⟨0, Nat.zero_le _, by rw [Wnum.pw_zero], by rw [Wnum.pw_zero], rfl, by rw [Wnum.pw_zero]; omega, by rw [Wnum.pw_zero]; omega⟩
  case round =>
    obtain ⟨j, hj, rfl, rfl, rfl, j1, j2⟩ := hrel
    have j3 := Wnum.pw_pos u1 j
    have j4 := Wnum.pw_pos v1 j
    by_cases hlt : j < K
    · have E1 : Hid (Wnum.pw up (j + 1) = Wnum.pw up j * up) := Wnum.pw_succ up j
      have E2 : Hid (Wnum.pw down (j + 1) = Wnum.pw down j * down) := Wnum.pw_succ down j
      by_cases g1 : 1000000000000 / up < Wnum.pw up j
      · have o := (Wnum.over_iff u1).1 g1
        rw [← E1.out] at o
        obtain ⟨y1, y2, y3⟩ := pow_loop_over hu.out hv.out u1 v1 (show j + 1 ≤ K by omega) (Or.inl o)
        have Y1 : Hid (Wnum.oN (some (r ^ K)) = 0) := y1
        have Y2 : Hid (Wnum.oD (some (r ^ K)) = 0) := y2
        have Y3 : Hid (Wnum.oB (some (r ^ K)) = false) := y3
        clear y1 y2 y3 o
        go_wp2_with (go_at_call 35; refine (far_any _ _ (by omega) (by omega)).mono ?_; rintro e w2 ⟨rfl, rfl⟩; rw [eK.out])
        refine bodyPost_ret (v := .tuple #[.agg #[.int .i64 0, .int .i64 0], .bool false]) (by simp [results, Tryd.results10, go_sem, c1, c2]) rfl ⟨by rw [Y1.out, Y2.out, Y3.out], ?_⟩
        exact put_below qD (by omega) _ _
      · by_cases g2 : 1000000 / down < Wnum.pw down j
        · have o := (Wnum.over_iff v1).1 g2
          rw [← E2.out] at o
          obtain ⟨y1, y2, y3⟩ := pow_loop_over hu.out hv.out u1 v1 (show j + 1 ≤ K by omega) (Or.inr o)
          have Y1 : Hid (Wnum.oN (some (r ^ K)) = 0) := y1
          have Y2 : Hid (Wnum.oD (some (r ^ K)) = 0) := y2
          have Y3 : Hid (Wnum.oB (some (r ^ K)) = false) := y3
          clear y1 y2 y3 o
          go_wp2_with (go_at_call 35; refine (far_any _ _ (by omega) (by omega)).mono ?_; rintro e w2 ⟨rfl, rfl⟩; rw [eK.out])
          refine bodyPost_ret (v := .tuple #[.agg #[.int .i64 0, .int .i64 0], .bool false]) (by simp [results, Tryd.results10, go_sem, c1, c2]) rfl ⟨by rw [Y1.out, Y2.out, Y3.out], ?_⟩
          exact put_below qD (by omega) _ _
        · have i1 : Wnum.pw up (j + 1) ≤ 1000000000000 := by
            have : ¬ 1000000000000 < Wnum.pw up j * up := fun h => g1 ((Wnum.over_iff u1).2 h)
            rw [E1.out]; omega
          have i2 : Wnum.pw down (j + 1) ≤ 1000000 := by
            have : ¬ 1000000 < Wnum.pw down j * down := fun h => g2 ((Wnum.over_iff v1).2 h)
            rw [E2.out]; omega
          have i3 := Wnum.pw_pos u1 (j + 1)
          have i4 := Wnum.pw_pos v1 (j + 1)
          have x1 : IntKind.u64.wrap (Wnum.pw up j * up) = Wnum.pw up (j + 1) := by rw [← E1.out]; exact IntWalk.u64_in _ (by omega)
          have x2 : IntKind.u64.wrap (Wnum.pw down j * down) = Wnum.pw down (j + 1) := by rw [← E2.out]; exact IntWalk.u64_in _ (by omega)
          go_wp2_with (go_at_call 35; refine (far_any _ _ (by omega) (by omega)).mono ?_; rintro e w2 ⟨rfl, rfl⟩; rw [eK.out])
          go_round
          case rel => exact ⟨j + 1, by omega, rfl, rfl, by go_num, i1, i2⟩
          case measure => simp [intOf]; omega
    · have hj' : j = K := by omega
      subst hj'
      have S := pow_sized hu.out hv.out hm.out
      have M := fun w => made_any m (Wnum.pw up j) (Wnum.pw down j) w (by omega) (by omega) (by omega) (by omega)
      rw [S] at M
      clear S
      by_cases hn : Wnum.cN a b < 0
      · have HM : Hid ((k.tmod 2 != 0) = m) := (hmn.out hn).1
        have HM2 : Hid ((k % 2 != 0) = m) := (hmn.out hn).2
        go_wp2_with (go_at_call 35; refine (far_any _ _ (by omega) (by omega)).mono ?_; rintro e w2 ⟨rfl, rfl⟩; rw [eK.out])
        first | rw [HM.out] | rw [HM2.out]
        refine (M _).mono ?_
        rintro e w3 ⟨rfl, hb3⟩
        obtain ⟨k1, k2, k3, k4⟩ := At.below hb3 ⟨c1, c2, c3, c4⟩
        have qE := below_end qD hb3
        go_wp2
        refine bodyPost_ret (v := .tuple #[.agg #[.int .i64 (Wnum.oN (some (r ^ j))), .int .i64 (Wnum.oD (some (r ^ j)))], .bool (Wnum.oB (some (r ^ j)))]) (by simp [results, Tryd.results10, go_sem, k1, k2]) rfl ⟨rfl, ?_⟩
        exact put_below qE (by omega) _ _
      · obtain rfl : m = false := hmp.out (by omega)
        go_wp2_with (go_at_call 35; refine (far_any _ _ (by omega) (by omega)).mono ?_; rintro e w2 ⟨rfl, rfl⟩; rw [eK.out])
        refine (M _).mono ?_
        rintro e w3 ⟨rfl, hb3⟩
        obtain ⟨k1, k2, k3, k4⟩ := At.below hb3 ⟨c1, c2, c3, c4⟩
        have qE := below_end qD hb3
        go_wp2
        refine bodyPost_ret (v := .tuple #[.agg #[.int .i64 (Wnum.oN (some (r ^ j))), .int .i64 (Wnum.oD (some (r ^ j)))], .bool (Wnum.oB (some (r ^ j)))]) (by simp [results, Tryd.results10, go_sem, k1, k2]) rfl ⟨rfl, ?_⟩
        exact put_below qE (by omega) _ _

end Go.Proofs.YtfilmomndhlmbaaDoor
