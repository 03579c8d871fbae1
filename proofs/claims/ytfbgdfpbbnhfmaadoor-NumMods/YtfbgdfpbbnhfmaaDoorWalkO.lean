/- The contracts of the reference's Abs, Whole, floored, Floor. -/
import Derived.Test.YtfbgdfpbbnhfmaaDoorWalkN
import Derived.Test.YtfbgdfpbbnhfmaaDoorWalkG
namespace Go.Proofs.YtfbgdfpbbnhfmaaDoor
open Go.RowKit
set_option linter.unusedVariables false

theorem tdiv_mul {n d : Int} : n.tdiv d * d = n - n.tmod d := by
  have := Int.tdiv_mul_add_tmod n d
  omega
theorem tmod_abs (n d : Int) : (n.tmod d).natAbs ≤ n.natAbs := by
  rw [Int.natAbs_tmod]; exact Nat.mod_le _ _
/-- The two ways of floored. -/
theorem floored_cases {n d : Int} (hd : 1 ≤ d) : (decide (n < n.tdiv d * d) = true ∧ n.tdiv d - 1 = n / d) ∨ (decide (n < n.tdiv d * d) = false ∧ n.tdiv d = n / d) := by
  rw [tdiv_mul]
  by_cases hn : 0 ≤ n
  · right
    have := Int.tmod_nonneg d hn
    exact ⟨by simp; omega, Int.tdiv_eq_ediv_of_nonneg hn⟩
  · rcases floor_tdiv hd (show n < 0 by omega) with ⟨h1, h2⟩ | ⟨h1, h2⟩
    · exact Or.inl ⟨by simp; omega, h2⟩
    · exact Or.inr ⟨by simp; omega, h2⟩

/-- floored: n / d rounded down. -/
theorem floored_any (n d : Int) (w : World) (hd : 1 ≤ d) (hd2 : d ≤ 1000000000000000000) (h1 : -1000000000000000000 ≤ n) (h2 : n ≤ 1000000000000000000) :
    Calls Tryd.prog 49 #[.int .i64 n, .int .i64 d] w fun e w' => e = .returned (.int .i64 (n / d)) ∧ w = w' := by
  obtain ⟨q1, q2⟩ := tdiv_bd (d := d) h1 h2
  have q3 := tdiv_mul (n := n) (d := d)
  have q4 := tmod_abs n d
  have q5 : -2000000000000000000 ≤ n.tdiv d * d := by omega
  have q6 : n.tdiv d * d ≤ 2000000000000000000 := by omega
  have hw : IntKind.i64.wrap (n.tdiv d) = n.tdiv d := IntWalk.i64_in _ (by omega)
  clear q3 q4
  rcases floored_cases (n := n) hd with ⟨z1, z2⟩ | ⟨z1, z2⟩
  · rw [← z2]
    clear z2
    go_enter Tryd.func49, Tryd.ntmps49
    go_wp2
    go_ret
    exact ⟨rfl, rfl⟩
  · rw [← z2]
    clear z2
    go_enter Tryd.func49, Tryd.ntmps49
    go_wp2
    go_ret
    exact ⟨rfl, rfl⟩

set_option maxHeartbeats 800000 in
theorem rabs_any (a b : Int) (w : World) (h1 : -9223372036854775808 ≤ a) (h2 : a ≤ 9223372036854775807) (h3 : -9223372036854775808 ≤ b) (h4 : b ≤ 9223372036854775807) :
    Calls Tryd.prog 31 #[.agg #[.int .i64 a, .int .i64 b]] w fun e w' => e = .returned (.agg #[.int .i64 ((Wnum.cN a b).natAbs : Int), .int .i64 (Wnum.cD a b)]) ∧ Below w.heap.size w w' := by
  obtain ⟨n1, n2⟩ := Wnum.cN_bd a b
  obtain ⟨n3, n4⟩ := Wnum.cD_bd a b
  by_cases hn : Wnum.cN a b < 0
  · rw [show ((Wnum.cN a b).natAbs : Int) = -(Wnum.cN a b) by omega]
    have t1 : decide (Wnum.cN a b < 0) = true := by simp; omega
    go_enter Tryd.func31, Tryd.ntmps31
    go_wp2_with fail
    refine (of_any _ _ _ h1 h2 h3 h4).mono ?_
    rintro e w1 ⟨rfl, hb1⟩
    have pA : At w1 w.heap.size (.int .i64 a) (.int .i64 b) := At.below hb1 ((At.new w _ rfl _ _).alloc _)
    have pC : At w1 (w.heap.size + 1) (.int .i64 0) (.int .i64 0) := At.below hb1 (At.new (w.alloc _) _ (by simp) _ _)
    have hB : Below w.heap.size w w1 := by with_reducible repeat (first | exact Below.refl _ _ | refine below_drewN ?_ _ | refine Below.setCell ?_ (by first | (simp; done) | (simp; omega) | omega) _ | refine Below.drew ?_ | refine below_end ?_ (by assumption) | refine ball ?_ _)
    clear hb1
    have pA' := pA
    obtain ⟨a1, a2, a3, a4⟩ := pA'
    go_upto_region 2 with fail
    have qA := pA.put (.int .i64 (Wnum.cN a b)) (.int .i64 (Wnum.cD a b))
    have qC := pC.far2 (j := w.heap.size) (by omega) (.int .i64 (Wnum.cN a b)) (.int .i64 (Wnum.cD a b))
    have qD := put_below hB (k := w.heap.size) (by omega) (.int .i64 (Wnum.cN a b)) (.int .i64 (Wnum.cD a b))
    clear pA pC hB a1 a2 a3 a4
    generalize (w1.setCell ⟨w.heap.size, 0, none⟩ (.int .i64 (Wnum.cN a b))).setCell ⟨w.heap.size, 1, none⟩ (.int .i64 (Wnum.cD a b)) = W1 at *
    clear w1
    have qA' := qA
    obtain ⟨a1, a2, a3, a4⟩ := qA'
    obtain ⟨c1, c2, c3, c4⟩ := qC
    have x1 := (qA.set0 (.int .i64 (-(Wnum.cN a b)))).1
    have x2 := (qA.set0 (.int .i64 (-(Wnum.cN a b)))).2.1
    go_wp2
    refine bodyPost_ret (v := .agg #[.int .i64 (-(Wnum.cN a b)), .int .i64 (Wnum.cD a b)]) (by simp [results, Tryd.results31, go_sem, c1, c2]) rfl ⟨rfl, ?_⟩
    exact (by with_reducible repeat (first | exact qD | refine below_drewN ?_ _ | refine Below.setCell ?_ (by first | (simp; done) | (simp; omega) | omega) _ | refine Below.drew ?_))
  · rw [show ((Wnum.cN a b).natAbs : Int) = Wnum.cN a b by omega]
    have t1 : decide (Wnum.cN a b < 0) = false := by simp; omega
    go_enter Tryd.func31, Tryd.ntmps31
    go_wp2_with fail
    refine (of_any _ _ _ h1 h2 h3 h4).mono ?_
    rintro e w1 ⟨rfl, hb1⟩
    have pA : At w1 w.heap.size (.int .i64 a) (.int .i64 b) := At.below hb1 ((At.new w _ rfl _ _).alloc _)
    have pC : At w1 (w.heap.size + 1) (.int .i64 0) (.int .i64 0) := At.below hb1 (At.new (w.alloc _) _ (by simp) _ _)
    have hB : Below w.heap.size w w1 := by with_reducible repeat (first | exact Below.refl _ _ | refine below_drewN ?_ _ | refine Below.setCell ?_ (by first | (simp; done) | (simp; omega) | omega) _ | refine Below.drew ?_ | refine below_end ?_ (by assumption) | refine ball ?_ _)
    clear hb1
    have pA' := pA
    obtain ⟨a1, a2, a3, a4⟩ := pA'
    go_upto_region 2 with fail
    have qA := pA.put (.int .i64 (Wnum.cN a b)) (.int .i64 (Wnum.cD a b))
    have qC := pC.far2 (j := w.heap.size) (by omega) (.int .i64 (Wnum.cN a b)) (.int .i64 (Wnum.cD a b))
    have qD := put_below hB (k := w.heap.size) (by omega) (.int .i64 (Wnum.cN a b)) (.int .i64 (Wnum.cD a b))
    clear pA pC hB a1 a2 a3 a4
    generalize (w1.setCell ⟨w.heap.size, 0, none⟩ (.int .i64 (Wnum.cN a b))).setCell ⟨w.heap.size, 1, none⟩ (.int .i64 (Wnum.cD a b)) = W1 at *
    clear w1
    have qA' := qA
    obtain ⟨a1, a2, a3, a4⟩ := qA'
    obtain ⟨c1, c2, c3, c4⟩ := qC
    go_wp2
    refine bodyPost_ret (v := .agg #[.int .i64 (Wnum.cN a b), .int .i64 (Wnum.cD a b)]) (by simp [results, Tryd.results31, go_sem, c1, c2]) rfl ⟨rfl, ?_⟩
    exact (by with_reducible repeat (first | exact qD | refine below_drewN ?_ _ | refine Below.setCell ?_ (by first | (simp; done) | (simp; omega) | omega) _ | refine Below.drew ?_))

set_option maxHeartbeats 800000 in
theorem rwhole_any (a b : Int) (w : World) (h1 : -9223372036854775808 ≤ a) (h2 : a ≤ 9223372036854775807) (h3 : -9223372036854775808 ≤ b) (h4 : b ≤ 9223372036854775807) :
    Calls Tryd.prog 27 #[.agg #[.int .i64 a, .int .i64 b]] w fun e w' => e = .returned (.tuple #[.int .i64 (if Wnum.cD a b = 1 then Wnum.cN a b else 0), .bool (Wnum.cD a b == 1)]) ∧ Below w.heap.size w w' := by
  obtain ⟨n1, n2⟩ := Wnum.cN_bd a b
  obtain ⟨n3, n4⟩ := Wnum.cD_bd a b
  by_cases hd : Wnum.cD a b = 1
  · have e1 : (if Wnum.cD a b = 1 then Wnum.cN a b else 0) = Wnum.cN a b := if_pos hd
    have e2 : (Wnum.cD a b == 1) = true := beq_iff_eq.2 hd
    have e3 : (Wnum.cD a b != 1) = false := by simp [hd]
    rw [e1, e2]
    clear e1 hd
    go_enter Tryd.func27, Tryd.ntmps27
    go_wp2_with fail
    refine (of_any _ _ _ h1 h2 h3 h4).mono ?_
    rintro e w1 ⟨rfl, hb1⟩
    have pA : At w1 w.heap.size (.int .i64 a) (.int .i64 b) := At.below hb1 (At.new w _ rfl _ _)
    have hB : Below w.heap.size w w1 := by with_reducible repeat (first | exact Below.refl _ _ | refine below_drewN ?_ _ | refine Below.setCell ?_ (by first | (simp; done) | (simp; omega) | omega) _ | refine Below.drew ?_ | refine below_end ?_ (by assumption) | refine ball ?_ _)
    clear hb1
    have pA' := pA
    obtain ⟨a1, a2, a3, a4⟩ := pA'
    go_upto_region 2 with fail
    have qA := pA.put (.int .i64 (Wnum.cN a b)) (.int .i64 (Wnum.cD a b))
    have qD := put_below hB (k := w.heap.size) (by omega) (.int .i64 (Wnum.cN a b)) (.int .i64 (Wnum.cD a b))
    clear pA hB a1 a2 a3 a4
    generalize (w1.setCell ⟨w.heap.size, 0, none⟩ (.int .i64 (Wnum.cN a b))).setCell ⟨w.heap.size, 1, none⟩ (.int .i64 (Wnum.cD a b)) = W1 at *
    clear w1
    have qA' := qA
    obtain ⟨a1, a2, a3, a4⟩ := qA'
    go_wp2
    go_ret2
    exact ⟨rfl, qD⟩
  · have e1 : (if Wnum.cD a b = 1 then Wnum.cN a b else 0) = 0 := if_neg hd
    have e2 : (Wnum.cD a b == 1) = false := beq_eq_false_iff_ne.2 hd
    have e3 : (Wnum.cD a b != 1) = true := by rw [bne_iff_ne]; exact hd
    rw [e1, e2]
    clear e1 hd
    go_enter Tryd.func27, Tryd.ntmps27
    go_wp2_with fail
    refine (of_any _ _ _ h1 h2 h3 h4).mono ?_
    rintro e w1 ⟨rfl, hb1⟩
    have pA : At w1 w.heap.size (.int .i64 a) (.int .i64 b) := At.below hb1 (At.new w _ rfl _ _)
    have hB : Below w.heap.size w w1 := by with_reducible repeat (first | exact Below.refl _ _ | refine below_drewN ?_ _ | refine Below.setCell ?_ (by first | (simp; done) | (simp; omega) | omega) _ | refine Below.drew ?_ | refine below_end ?_ (by assumption) | refine ball ?_ _)
    clear hb1
    have pA' := pA
    obtain ⟨a1, a2, a3, a4⟩ := pA'
    go_upto_region 2 with fail
    have qA := pA.put (.int .i64 (Wnum.cN a b)) (.int .i64 (Wnum.cD a b))
    have qD := put_below hB (k := w.heap.size) (by omega) (.int .i64 (Wnum.cN a b)) (.int .i64 (Wnum.cD a b))
    clear pA hB a1 a2 a3 a4
    generalize (w1.setCell ⟨w.heap.size, 0, none⟩ (.int .i64 (Wnum.cN a b))).setCell ⟨w.heap.size, 1, none⟩ (.int .i64 (Wnum.cD a b)) = W1 at *
    clear w1
    have qA' := qA
    obtain ⟨a1, a2, a3, a4⟩ := qA'
    go_wp2
    go_ret2
    exact ⟨rfl, qD⟩

set_option maxHeartbeats 800000 in
theorem rfloor_any (a b : Int) (w : World) (h1 : -9223372036854775808 ≤ a) (h2 : a ≤ 9223372036854775807) (h3 : -9223372036854775808 ≤ b) (h4 : b ≤ 9223372036854775807) :
    Calls Tryd.prog 33 #[.agg #[.int .i64 a, .int .i64 b]] w fun e w' => e = .returned (.agg #[.int .i64 (Wnum.cN a b / Wnum.cD a b), .int .i64 1]) ∧ Below w.heap.size w w' := by
  obtain ⟨n1, n2⟩ := Wnum.cN_bd a b
  obtain ⟨n3, n4⟩ := Wnum.cD_bd a b
  go_enter Tryd.func33, Tryd.ntmps33
  go_wp2_with fail
  refine (of_any _ _ _ h1 h2 h3 h4).mono ?_
  rintro e w1 ⟨rfl, hb1⟩
  have pA : At w1 w.heap.size (.int .i64 a) (.int .i64 b) := At.below hb1 ((At.new w _ rfl _ _).alloc _)
  have pC : At w1 (w.heap.size + 1) (.int .i64 0) (.int .i64 0) := At.below hb1 (At.new (w.alloc _) _ (by simp) _ _)
  have hB : Below w.heap.size w w1 := by with_reducible repeat (first | exact Below.refl _ _ | refine below_drewN ?_ _ | refine Below.setCell ?_ (by first | (simp; done) | (simp; omega) | omega) _ | refine Below.drew ?_ | refine below_end ?_ (by assumption) | refine ball ?_ _)
  clear hb1
  have pA' := pA
  obtain ⟨a1, a2, a3, a4⟩ := pA'
  go_upto_region 2 with fail
  have qA := pA.put (.int .i64 (Wnum.cN a b)) (.int .i64 (Wnum.cD a b))
  have qC := pC.far2 (j := w.heap.size) (by omega) (.int .i64 (Wnum.cN a b)) (.int .i64 (Wnum.cD a b))
  have qD := put_below hB (k := w.heap.size) (by omega) (.int .i64 (Wnum.cN a b)) (.int .i64 (Wnum.cD a b))
  clear pA pC hB a1 a2 a3 a4
  generalize (w1.setCell ⟨w.heap.size, 0, none⟩ (.int .i64 (Wnum.cN a b))).setCell ⟨w.heap.size, 1, none⟩ (.int .i64 (Wnum.cD a b)) = W1 at *
  clear w1
  have qA' := qA
  obtain ⟨a1, a2, a3, a4⟩ := qA'
  obtain ⟨c1, c2, c3, c4⟩ := qC
  go_wp2_with fail
  refine (floored_any _ _ _ (by omega) (by omega) (by omega) (by omega)).mono ?_
  rintro e w2 ⟨rfl, rfl⟩
  go_wp2
  refine bodyPost_ret (v := .agg #[.int .i64 (Wnum.cN a b / Wnum.cD a b), .int .i64 1]) (by simp [results, Tryd.results33, go_sem, c1, c2]) rfl ⟨rfl, ?_⟩
  exact put_below qD (by omega) _ _
end Go.Proofs.YtfbgdfpbbnhfmaaDoor
