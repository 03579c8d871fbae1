/- The contracts of Neg, Abs, Whole, Floor. -/
import Derived.Test.YtfilmomndhlmbaaDoorAtKit
import Derived.Test.YtfilmomndhlmbaaDoorPlainD
namespace Go.Proofs.YtfilmomndhlmbaaDoor
open Go.RowKit
set_option linter.unusedVariables false

theorem floor_tdiv {n d : Int} (hd : 1 ≤ d) (hn : n < 0) : (n.tmod d < 0 ∧ n.tdiv d - 1 = n / d) ∨ (n.tmod d = 0 ∧ n.tdiv d = n / d) := by
  by_cases h : d ∣ n
  · right
    exact ⟨Int.tmod_eq_zero_of_dvd h, Int.tdiv_eq_ediv_of_dvd h⟩
  · left
    have h0 : ¬ (0 ≤ n ∨ d ∣ n) := fun k => k.elim (by omega) h
    have hs : d.sign = 1 := Int.sign_eq_one_of_pos (by omega)
    have e1 := Int.tdiv_eq_ediv (a := n) (b := d)
    have e2 := Int.tmod_eq_emod (a := n) (b := d)
    rw [if_neg h0, hs] at e1
    rw [if_neg h0] at e2
    have e3 := Int.emod_lt_of_pos n (show 0 < d by omega)
    refine ⟨?_, by omega⟩
    rw [e2]
    omega
theorem tdiv_bd {n d : Int} (h1 : -1000000000000000000 ≤ n) (h2 : n ≤ 1000000000000000000) : -1000000000000000000 ≤ n.tdiv d ∧ n.tdiv d ≤ 1000000000000000000 := by
  have : (n.tdiv d).natAbs ≤ n.natAbs := Int.natAbs_tdiv_le_natAbs ..
  omega
theorem ediv_bd {n d : Int} (hd : 1 ≤ d) (h1 : -1000000000000000000 ≤ n) (h2 : n ≤ 1000000000000000000) : -1000000000000000000 ≤ n / d ∧ n / d ≤ 1000000000000000000 := by
  constructor
  · rw [Int.le_ediv_iff_mul_le (by omega)]
    have := Int.mul_le_mul_of_nonneg_left hd (show (0 : Int) ≤ 1000000000000000000 by omega)
    omega
  · have := Int.ediv_le_ediv (show 0 < d by omega) h2
    have := Int.ediv_le_self (a := 1000000000000000000) d (by omega)
    omega

set_option maxHeartbeats 800000 in
theorem neg_any (a b : Int) (w : World) (h1 : -9223372036854775808 ≤ a) (h2 : a ≤ 9223372036854775807) (h3 : -9223372036854775808 ≤ b) (h4 : b ≤ 9223372036854775807) :
    Calls Tryd.prog 26 #[.agg #[.int .i64 a, .int .i64 b]] w fun e w' => e = .returned (.agg #[.int .i64 (-(Wnum.cN a b)), .int .i64 (Wnum.cD a b)]) ∧ Below w.heap.size w w' := by
  obtain ⟨n1, n2⟩ := Wnum.cN_bd a b
  obtain ⟨n3, n4⟩ := Wnum.cD_bd a b
  go_enter Tryd.func26, Tryd.ntmps26
  go_wp2_with fail
  refine (counted_any _ _ _ h1 h2 h3 h4).mono ?_
  rintro e w1 ⟨rfl, hb1⟩
  have pA : At w1 w.heap.size (.int .i64 a) (.int .i64 b) := At.below hb1 ((At.new w _ rfl _ _).alloc _)
  have pC : At w1 (w.heap.size + 1) (.int .i64 0) (.int .i64 0) := At.below hb1 (At.new (w.alloc _) _ (by simp) _ _)
  have hB : Below w.heap.size w w1 := by with_reducible repeat (first | exact Below.refl _ _ | refine below_drewN ?_ _ | refine Below.setCell ?_ (by first | (simp; done) | (simp; omega) | omega) _ | refine Below.drew ?_ | refine below_end ?_ (by assumption) | refine ball ?_ _)
  clear hb1
  have pA' := pA
  obtain ⟨a1, a2, a3, a4⟩ := pA'
  go_upto_region 2 with fail
  have qA := pA.put (.int .i64 (Wnum.cN a b)) (.int .i64 (Wnum.cD a b))
  have qC := pC.far2 (j := w.heap.size) (by omega) (.int .i64 (Wnum.cN a b)) (.int .i64 (Wnum.cD a b))
  have qD := put_below hB (k := w.heap.size) (by omega) (.int .i64 (Wnum.cN a b)) (.int .i64 (Wnum.cD a b))
  clear pA pC hB a1 a2 a3 a4
  generalize (w1.setCell ⟨w.heap.size, 0, none⟩ (.int .i64 (Wnum.cN a b))).setCell ⟨w.heap.size, 1, none⟩ (.int .i64 (Wnum.cD a b)) = W1 at *
  clear w1
  have qA' := qA
  obtain ⟨a1, a2, a3, a4⟩ := qA'
  obtain ⟨c1, c2, c3, c4⟩ := qC
  go_wp2
  refine bodyPost_ret (v := .agg #[.int .i64 (-(Wnum.cN a b)), .int .i64 (Wnum.cD a b)]) (by simp [results, Tryd.results26, go_sem, c1, c2]) rfl ⟨rfl, ?_⟩
  exact put_below qD (by omega) _ _

set_option maxHeartbeats 800000 in
theorem abs_any (a b : Int) (w : World) (h1 : -9223372036854775808 ≤ a) (h2 : a ≤ 9223372036854775807) (h3 : -9223372036854775808 ≤ b) (h4 : b ≤ 9223372036854775807) :
    Calls Tryd.prog 29 #[.agg #[.int .i64 a, .int .i64 b]] w fun e w' => e = .returned (.agg #[.int .i64 ((Wnum.cN a b).natAbs : Int), .int .i64 (Wnum.cD a b)]) ∧ Below w.heap.size w w' := by
  obtain ⟨n1, n2⟩ := Wnum.cN_bd a b
  obtain ⟨n3, n4⟩ := Wnum.cD_bd a b
  go_enter Tryd.func29, Tryd.ntmps29
  go_wp2_with fail
  refine (counted_any _ _ _ h1 h2 h3 h4).mono ?_
  rintro e w1 ⟨rfl, hb1⟩
  have pA : At w1 w.heap.size (.int .i64 a) (.int .i64 b) := At.below hb1 ((At.new w _ rfl _ _).alloc _)
  have pC : At w1 (w.heap.size + 1) (.int .i64 0) (.int .i64 0) := At.below hb1 (At.new (w.alloc _) _ (by simp) _ _)
  have hB : Below w.heap.size w w1 := by with_reducible repeat (first | exact Below.refl _ _ | refine below_drewN ?_ _ | refine Below.setCell ?_ (by first | (simp; done) | (simp; omega) | omega) _ | refine Below.drew ?_ | refine below_end ?_ (by assumption) | refine ball ?_ _)
  clear hb1
  have pA' := pA
  obtain ⟨a1, a2, a3, a4⟩ := pA'
  go_upto_region 2 with fail
  have qA := pA.put (.int .i64 (Wnum.cN a b)) (.int .i64 (Wnum.cD a b))
  have qC := pC.far2 (j := w.heap.size) (by omega) (.int .i64 (Wnum.cN a b)) (.int .i64 (Wnum.cD a b))
  have qD := put_below hB (k := w.heap.size) (by omega) (.int .i64 (Wnum.cN a b)) (.int .i64 (Wnum.cD a b))
  clear pA pC hB a1 a2 a3 a4
  generalize (w1.setCell ⟨w.heap.size, 0, none⟩ (.int .i64 (Wnum.cN a b))).setCell ⟨w.heap.size, 1, none⟩ (.int .i64 (Wnum.cD a b)) = W1 at *
  clear w1
  have qA' := qA
  obtain ⟨a1, a2, a3, a4⟩ := qA'
  obtain ⟨c1, c2, c3, c4⟩ := qC
  go_wp2_with fail
  go_region_with ((go_at_call 31; refine (size_any _ _ (by omega) (by omega)).mono ?_; rintro e w2 ⟨rfl, rfl⟩))
  all_goals
    go_wp2
    refine bodyPost_ret (v := .agg #[.int .i64 ((Wnum.cN a b).natAbs : Int), .int .i64 (Wnum.cD a b)]) (by simp [results, Tryd.results29, go_sem, c1, c2]) rfl ⟨rfl, ?_⟩
    exact (by with_reducible repeat (first | exact qD | refine below_drewN ?_ _ | refine Below.setCell ?_ (by first | (simp; done) | (simp; omega) | omega) _ | refine Below.drew ?_))

set_option maxHeartbeats 800000 in
theorem whole_any (a b : Int) (w : World) (h1 : -9223372036854775808 ≤ a) (h2 : a ≤ 9223372036854775807) (h3 : -9223372036854775808 ≤ b) (h4 : b ≤ 9223372036854775807) :
    Calls Tryd.prog 19 #[.agg #[.int .i64 a, .int .i64 b]] w fun e w' => e = .returned (.tuple #[.int .i64 (if Wnum.cD a b = 1 then Wnum.cN a b else 0), .bool (Wnum.cD a b == 1)]) ∧ Below w.heap.size w w' := by
  obtain ⟨n1, n2⟩ := Wnum.cN_bd a b
  obtain ⟨n3, n4⟩ := Wnum.cD_bd a b
  by_cases hd : Wnum.cD a b = 1
  · have e1 : (if Wnum.cD a b = 1 then Wnum.cN a b else 0) = Wnum.cN a b := if_pos hd
    have e2 : (Wnum.cD a b == 1) = true := beq_iff_eq.2 hd
    have e3 : (Wnum.cD a b != 1) = false := by simp [hd]
    rw [e1, e2]
    clear e1 hd
    go_enter Tryd.func19, Tryd.ntmps19
    go_wp2_with fail
    refine (counted_any _ _ _ h1 h2 h3 h4).mono ?_
    rintro e w1 ⟨rfl, hb1⟩
    have pA : At w1 w.heap.size (.int .i64 a) (.int .i64 b) := At.below hb1 (At.new w _ rfl _ _)
    have hB : Below w.heap.size w w1 := by with_reducible repeat (first | exact Below.refl _ _ | refine below_drewN ?_ _ | refine Below.setCell ?_ (by first | (simp; done) | (simp; omega) | omega) _ | refine Below.drew ?_ | refine below_end ?_ (by assumption) | refine ball ?_ _)
    clear hb1
    have pA' := pA
    obtain ⟨a1, a2, a3, a4⟩ := pA'
    go_upto_region 2 with fail
    have qA := pA.put (.int .i64 (Wnum.cN a b)) (.int .i64 (Wnum.cD a b))
    have qD := put_below hB (k := w.heap.size) (by omega) (.int .i64 (Wnum.cN a b)) (.int .i64 (Wnum.cD a b))
    clear pA hB a1 a2 a3 a4
    generalize (w1.setCell ⟨w.heap.size, 0, none⟩ (.int .i64 (Wnum.cN a b))).setCell ⟨w.heap.size, 1, none⟩ (.int .i64 (Wnum.cD a b)) = W1 at *
    clear w1
    have qA' := qA
    obtain ⟨a1, a2, a3, a4⟩ := qA'
    go_wp2
    go_ret2
    exact ⟨rfl, qD⟩
  · have e1 : (if Wnum.cD a b = 1 then Wnum.cN a b else 0) = 0 := if_neg hd
    have e2 : (Wnum.cD a b == 1) = false := beq_eq_false_iff_ne.2 hd
    have e3 : (Wnum.cD a b != 1) = true := by rw [bne_iff_ne]; exact hd
    rw [e1, e2]
    clear e1 hd
    go_enter Tryd.func19, Tryd.ntmps19
    go_wp2_with fail
    refine (counted_any _ _ _ h1 h2 h3 h4).mono ?_
    rintro e w1 ⟨rfl, hb1⟩
    have pA : At w1 w.heap.size (.int .i64 a) (.int .i64 b) := At.below hb1 (At.new w _ rfl _ _)
    have hB : Below w.heap.size w w1 := by with_reducible repeat (first | exact Below.refl _ _ | refine below_drewN ?_ _ | refine Below.setCell ?_ (by first | (simp; done) | (simp; omega) | omega) _ | refine Below.drew ?_ | refine below_end ?_ (by assumption) | refine ball ?_ _)
    clear hb1
    have pA' := pA
    obtain ⟨a1, a2, a3, a4⟩ := pA'
    go_upto_region 2 with fail
    have qA := pA.put (.int .i64 (Wnum.cN a b)) (.int .i64 (Wnum.cD a b))
    have qD := put_below hB (k := w.heap.size) (by omega) (.int .i64 (Wnum.cN a b)) (.int .i64 (Wnum.cD a b))
    clear pA hB a1 a2 a3 a4
    generalize (w1.setCell ⟨w.heap.size, 0, none⟩ (.int .i64 (Wnum.cN a b))).setCell ⟨w.heap.size, 1, none⟩ (.int .i64 (Wnum.cD a b)) = W1 at *
    clear w1
    have qA' := qA
    obtain ⟨a1, a2, a3, a4⟩ := qA'
    go_wp2
    go_ret2
    exact ⟨rfl, qD⟩

set_option maxHeartbeats 800000 in
theorem floor_any (a b : Int) (w : World) (h1 : -9223372036854775808 ≤ a) (h2 : a ≤ 9223372036854775807) (h3 : -9223372036854775808 ≤ b) (h4 : b ≤ 9223372036854775807) :
    Calls Tryd.prog 18 #[.agg #[.int .i64 a, .int .i64 b]] w fun e w' => e = .returned (.agg #[.int .i64 (Wnum.cN a b / Wnum.cD a b), .int .i64 1]) ∧ Below w.heap.size w w' := by
  obtain ⟨n1, n2⟩ := Wnum.cN_bd a b
  obtain ⟨n3, n4⟩ := Wnum.cD_bd a b
  obtain ⟨q1, q2⟩ := tdiv_bd (n := Wnum.cN a b) (d := Wnum.cD a b) (by omega) (by omega)
  obtain ⟨q3, q4⟩ := ediv_bd (n := Wnum.cN a b) n3 (by omega) (by omega)
  by_cases hn : 0 ≤ Wnum.cN a b
  · have q9 : (Wnum.cN a b).tdiv (Wnum.cD a b) = Wnum.cN a b / Wnum.cD a b := Int.tdiv_eq_ediv_of_nonneg hn
    rw [← q9]
    clear q9
    have q5 : 0 ≤ Wnum.cN a b % Wnum.cD a b := Int.emod_nonneg _ (by omega)
    have q6 : decide (Wnum.cN a b % Wnum.cD a b < 0) = false := by simp; omega
    go_enter Tryd.func18, Tryd.ntmps18
    go_wp2_with fail
    refine (counted_any _ _ _ h1 h2 h3 h4).mono ?_
    rintro e w1 ⟨rfl, hb1⟩
    have pA : At w1 w.heap.size (.int .i64 a) (.int .i64 b) := At.below hb1 ((At.new w _ rfl _ _).alloc _)
    have pC : At w1 (w.heap.size + 1) (.int .i64 0) (.int .i64 0) := At.below hb1 (At.new (w.alloc _) _ (by simp) _ _)
    have hB : Below w.heap.size w w1 := by with_reducible repeat (first | exact Below.refl _ _ | refine below_drewN ?_ _ | refine Below.setCell ?_ (by first | (simp; done) | (simp; omega) | omega) _ | refine Below.drew ?_ | refine below_end ?_ (by assumption) | refine ball ?_ _)
    clear hb1
    have pA' := pA
    obtain ⟨a1, a2, a3, a4⟩ := pA'
    go_upto_region 2 with fail
    have qA := pA.put (.int .i64 (Wnum.cN a b)) (.int .i64 (Wnum.cD a b))
    have qC := pC.far2 (j := w.heap.size) (by omega) (.int .i64 (Wnum.cN a b)) (.int .i64 (Wnum.cD a b))
    have qD := put_below hB (k := w.heap.size) (by omega) (.int .i64 (Wnum.cN a b)) (.int .i64 (Wnum.cD a b))
    clear pA pC hB a1 a2 a3 a4
    generalize (w1.setCell ⟨w.heap.size, 0, none⟩ (.int .i64 (Wnum.cN a b))).setCell ⟨w.heap.size, 1, none⟩ (.int .i64 (Wnum.cD a b)) = W1 at *
    clear w1
    have qA' := qA
    obtain ⟨a1, a2, a3, a4⟩ := qA'
    obtain ⟨c1, c2, c3, c4⟩ := qC
    go_wp2
    refine bodyPost_ret (v := .agg #[.int .i64 ((Wnum.cN a b).tdiv (Wnum.cD a b)), .int .i64 1]) (by simp [results, Tryd.results18, go_sem, c1, c2]) rfl ⟨rfl, ?_⟩
    exact put_below qD (by omega) _ _
  · rcases floor_tdiv n3 (show Wnum.cN a b < 0 by omega) with ⟨z1, z2⟩ | ⟨z1, z2⟩
    · have q6 : decide ((Wnum.cN a b).tmod (Wnum.cD a b) < 0) = true := by simp; omega
      have Z2 : Hid ((Wnum.cN a b).tdiv (Wnum.cD a b) - 1 = Wnum.cN a b / Wnum.cD a b) := z2
      rw [← z2]
      clear z1 z2
      go_enter Tryd.func18, Tryd.ntmps18
      go_wp2_with fail
      refine (counted_any _ _ _ h1 h2 h3 h4).mono ?_
      rintro e w1 ⟨rfl, hb1⟩
      have pA : At w1 w.heap.size (.int .i64 a) (.int .i64 b) := At.below hb1 ((At.new w _ rfl _ _).alloc _)
      have pC : At w1 (w.heap.size + 1) (.int .i64 0) (.int .i64 0) := At.below hb1 (At.new (w.alloc _) _ (by simp) _ _)
      have hB : Below w.heap.size w w1 := by with_reducible repeat (first | exact Below.refl _ _ | refine below_drewN ?_ _ | refine Below.setCell ?_ (by first | (simp; done) | (simp; omega) | omega) _ | refine Below.drew ?_ | refine below_end ?_ (by assumption) | refine ball ?_ _)
      clear hb1
      have pA' := pA
      obtain ⟨a1, a2, a3, a4⟩ := pA'
      go_upto_region 2 with fail
      have qA := pA.put (.int .i64 (Wnum.cN a b)) (.int .i64 (Wnum.cD a b))
      have qC := pC.far2 (j := w.heap.size) (by omega) (.int .i64 (Wnum.cN a b)) (.int .i64 (Wnum.cD a b))
      have qD := put_below hB (k := w.heap.size) (by omega) (.int .i64 (Wnum.cN a b)) (.int .i64 (Wnum.cD a b))
      clear pA pC hB a1 a2 a3 a4
      generalize (w1.setCell ⟨w.heap.size, 0, none⟩ (.int .i64 (Wnum.cN a b))).setCell ⟨w.heap.size, 1, none⟩ (.int .i64 (Wnum.cD a b)) = W1 at *
      clear w1
      have qA' := qA
      obtain ⟨a1, a2, a3, a4⟩ := qA'
      obtain ⟨c1, c2, c3, c4⟩ := qC
      go_wp2
      refine bodyPost_ret (v := .agg #[.int .i64 ((Wnum.cN a b).tdiv (Wnum.cD a b) - 1), .int .i64 1]) (by simp [results, Tryd.results18, go_sem, c1, c2]) rfl ⟨rfl, ?_⟩
      exact put_below qD (by omega) _ _
    · have q6 : decide ((Wnum.cN a b).tmod (Wnum.cD a b) < 0) = false := by simp; omega
      rw [← z2]
      clear z1 z2
      go_enter Tryd.func18, Tryd.ntmps18
      go_wp2_with fail
      refine (counted_any _ _ _ h1 h2 h3 h4).mono ?_
      rintro e w1 ⟨rfl, hb1⟩
      have pA : At w1 w.heap.size (.int .i64 a) (.int .i64 b) := At.below hb1 ((At.new w _ rfl _ _).alloc _)
      have pC : At w1 (w.heap.size + 1) (.int .i64 0) (.int .i64 0) := At.below hb1 (At.new (w.alloc _) _ (by simp) _ _)
      have hB : Below w.heap.size w w1 := by with_reducible repeat (first | exact Below.refl _ _ | refine below_drewN ?_ _ | refine Below.setCell ?_ (by first | (simp; done) | (simp; omega) | omega) _ | refine Below.drew ?_ | refine below_end ?_ (by assumption) | refine ball ?_ _)
      clear hb1
      have pA' := pA
      obtain ⟨a1, a2, a3, a4⟩ := pA'
      go_upto_region 2 with fail
      have qA := pA.put (.int .i64 (Wnum.cN a b)) (.int .i64 (Wnum.cD a b))
      have qC := pC.far2 (j := w.heap.size) (by omega) (.int .i64 (Wnum.cN a b)) (.int .i64 (Wnum.cD a b))
      have qD := put_below hB (k := w.heap.size) (by omega) (.int .i64 (Wnum.cN a b)) (.int .i64 (Wnum.cD a b))
      clear pA pC hB a1 a2 a3 a4
      generalize (w1.setCell ⟨w.heap.size, 0, none⟩ (.int .i64 (Wnum.cN a b))).setCell ⟨w.heap.size, 1, none⟩ (.int .i64 (Wnum.cD a b)) = W1 at *
      clear w1
      have qA' := qA
      obtain ⟨a1, a2, a3, a4⟩ := qA'
      obtain ⟨c1, c2, c3, c4⟩ := qC
      go_wp2
      refine bodyPost_ret (v := .agg #[.int .i64 ((Wnum.cN a b).tdiv (Wnum.cD a b)), .int .i64 1]) (by simp [results, Tryd.results18, go_sem, c1, c2]) rfl ⟨rfl, ?_⟩
      exact put_below qD (by omega) _ _
end Go.Proofs.YtfilmomndhlmbaaDoor
