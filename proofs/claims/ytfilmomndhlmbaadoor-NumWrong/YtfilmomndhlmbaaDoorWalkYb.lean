/- The contract of Pow, within 39 factors. -/
import Derived.Test.YtfilmomndhlmbaaDoorWalkY
namespace Go.Proofs.YtfilmomndhlmbaaDoor
open Go.RowKit
set_option linter.unusedVariables false

theorem keep2_set {W : World} {k i : Nat} {x y u0 u1 : Value} (hk : i ≠ k) (h : W.cell? ⟨k, 0, none⟩ = some x ∧ W.cell? ⟨k, 1, none⟩ = some y) :
    ((W.setCell ⟨i, 0, none⟩ u0).setCell ⟨i, 1, none⟩ u1).cell? ⟨k, 0, none⟩ = some x ∧ ((W.setCell ⟨i, 0, none⟩ u0).setCell ⟨i, 1, none⟩ u1).cell? ⟨k, 1, none⟩ = some y := by
  refine ⟨?_, ?_⟩
  · rw [World.cell?_setCell_far _ _ _ _ (by simpa using hk), World.cell?_setCell_far _ _ _ _ (by simpa using hk)]; exact h.1
  · rw [World.cell?_setCell_far _ _ _ _ (by simpa using hk), World.cell?_setCell_far _ _ _ _ (by simpa using hk)]; exact h.2

set_option maxHeartbeats 4000000 in
theorem pow_posf (a b : Int) (K : Nat) (r : Rat) (w : World) (h1 : -9223372036854775808 ≤ a) (h2 : a ≤ 9223372036854775807) (h3 : -9223372036854775808 ≤ b) (h4 : b ≤ 9223372036854775807) (hz : (Wnum.cN a b == 0) = false) (k1 : 1 ≤ K) (k2 : K ≤ 39) (hd : (Wnum.cD a b == 1) = false) (rn : Hid (r.num = Wnum.cN a b)) (rd : Hid ((r.den : Int) = Wnum.cD a b)) :
    Calls Tryd.prog 9 #[.agg #[.int .i64 a, .int .i64 b], .int .i64 ((K : Int))] w fun e w' => e = .returned (.tuple #[.agg #[.int .i64 (Wnum.oN (some (r ^ K))), .int .i64 (Wnum.oD (some (r ^ K)))], .bool (Wnum.oB (some (r ^ K)))]) ∧ Below w.heap.size w w' := by
  obtain ⟨n1, n2⟩ := Wnum.cN_bd a b
  obtain ⟨n3, n4⟩ := Wnum.cD_bd a b
  have hk : (((K : Nat) : Int) == 0) = false := by rw [beq_eq_false_iff_ne]; omega
  have hn0 : Wnum.cN a b ≠ 0 := by rw [← bne_iff_ne, bne, hz]; rfl
  have HN0 : Hid (Wnum.cN a b ≠ 0) := hn0
  clear hn0
  have hs : ¬ ((K : Nat) : Int) < 0 := by omega
  have hs1 : ¬ ((K : Nat) : Int) < -39 := by omega
  have hs2 : ¬ (39 : Int) < ((K : Nat) : Int) := by omega
  go_enter Tryd.func9, Tryd.ntmps9
  go_wp2_with fail
  refine (counted_any _ _ _ h1 h2 h3 h4).mono ?_
  rintro e w1 ⟨rfl, hb1⟩
  have pA : At w1 w.heap.size (.int .i64 a) (.int .i64 b) := At.below hb1 ((At.new w _ rfl _ _).alloc _)
  have pC : At w1 (w.heap.size + 1) (.int .i64 0) (.int .i64 0) := At.below hb1 (At.new (w.alloc _) _ (by simp) _ _)
  have hB : Below w.heap.size w w1 := by with_reducible repeat (first | exact Below.refl _ _ | refine below_drewN ?_ _ | refine Below.setCell ?_ (by first | (simp; done) | (simp; omega) | omega) _ | refine Below.drew ?_ | refine below_end ?_ (by assumption) | refine ball ?_ _)
  clear hb1
  have pA' := pA
  obtain ⟨a1, a2, a3, a4⟩ := pA'
  go_upto_region 2 with fail
  have qA := pA.put (.int .i64 (Wnum.cN a b)) (.int .i64 (Wnum.cD a b))
  have qC := pC.far2 (j := w.heap.size) (by omega) (.int .i64 (Wnum.cN a b)) (.int .i64 (Wnum.cD a b))
  have qD := put_below hB (k := w.heap.size) (by omega) (.int .i64 (Wnum.cN a b)) (.int .i64 (Wnum.cD a b))
  clear pA pC hB a1 a2 a3 a4
  generalize (w1.setCell ⟨w.heap.size, 0, none⟩ (.int .i64 (Wnum.cN a b))).setCell ⟨w.heap.size, 1, none⟩ (.int .i64 (Wnum.cD a b)) = W1 at *
  clear w1
  have qA' := qA
  obtain ⟨a1, a2, a3, a4⟩ := qA'
  obtain ⟨c1, c2, c3, c4⟩ := qC
  go_wp2_with (go_at_call 31; refine (size_any _ _ (by omega) (by omega)).mono ?_; rintro e w2 ⟨rfl, rfl⟩)
  refine (powers_any (Wnum.cN a b) (Wnum.cD a b) K r _ (by omega) (by omega) HN0.out (by omega) (by omega) (by omega) rn rd).mono ?_
  rintro e w3 ⟨rfl, hb3⟩
  obtain ⟨k1, k2, k3, k4⟩ := At.below hb3 ⟨c1, c2, c3, c4⟩
  have qE := below_end qD hb3
  go_wp2
  refine bodyPost_ret (v := .tuple #[.agg #[.int .i64 (Wnum.oN (some (r ^ K))), .int .i64 (Wnum.oD (some (r ^ K)))], .bool (Wnum.oB (some (r ^ K)))]) (by simp [results, Tryd.results9, go_sem, k1, k2]) rfl ⟨rfl, ?_⟩
  exact put_below qE (by omega) _ _

set_option maxHeartbeats 4000000 in
theorem pow_negf (a b k s : Int) (K : Nat) (r : Rat) (w : World) (h1 : -9223372036854775808 ≤ a) (h2 : a ≤ 9223372036854775807) (h3 : -9223372036854775808 ≤ b) (h4 : b ≤ 9223372036854775807) (hz : (Wnum.cN a b == 0) = false) (hk : (k == 0) = false) (kb1 : -39 ≤ k) (kb2 : k < 0) (eK : Hid (-k = (K : Int))) (hd : (Wnum.cD a b == 1) = false) (hsg : Hid ((Wnum.cN a b).sign = s)) (s1 : s = 1 ∨ s = -1) (rn : Hid (r.num = s * Wnum.cD a b)) (rd : Hid ((r.den : Int) = (Wnum.cN a b).natAbs)) :
    Calls Tryd.prog 9 #[.agg #[.int .i64 a, .int .i64 b], .int .i64 (k)] w fun e w' => e = .returned (.tuple #[.agg #[.int .i64 (Wnum.oN (some (r ^ K))), .int .i64 (Wnum.oD (some (r ^ K)))], .bool (Wnum.oB (some (r ^ K)))]) ∧ Below w.heap.size w w' := by
  obtain ⟨n1, n2⟩ := Wnum.cN_bd a b
  obtain ⟨n3, n4⟩ := Wnum.cD_bd a b
  have hn0 : Wnum.cN a b ≠ 0 := by rw [← bne_iff_ne, bne, hz]; rfl
  have n5 : 1 ≤ ((Wnum.cN a b).natAbs : Int) := by omega
  have n6 : ((Wnum.cN a b).natAbs : Int) ≤ 1000000000000 := by omega
  obtain ⟨m1, m2, m3⟩ : -1000000 ≤ s * Wnum.cD a b ∧ s * Wnum.cD a b ≤ 1000000 ∧ s * Wnum.cD a b ≠ 0 := by
    rcases s1 with h | h <;> subst h <;> omega
  have M3 : Hid (s * Wnum.cD a b ≠ 0) := m3
  have KK : Hid (K ≤ 39) := (by have := eK.out; omega : K ≤ 39)
  clear hn0 m3 s1
  have z1 : IntKind.i64.wrap (s * Wnum.cD a b) = s * Wnum.cD a b := IntWalk.i64_in _ (by omega)
  have z2 : IntKind.i64.wrap (-k) = -k := IntWalk.i64_in _ (by omega)
  have hs1 : ¬ k < -39 := by omega
  have hs2 : ¬ (39 : Int) < k := by omega
  go_enter Tryd.func9, Tryd.ntmps9
  go_wp2_with fail
  refine (counted_any _ _ _ h1 h2 h3 h4).mono ?_
  rintro e w1 ⟨rfl, hb1⟩
  have pA : At w1 w.heap.size (.int .i64 a) (.int .i64 b) := At.below hb1 ((At.new w _ rfl _ _).alloc _)
  have pC : At w1 (w.heap.size + 1) (.int .i64 0) (.int .i64 0) := At.below hb1 (At.new (w.alloc _) _ (by simp) _ _)
  have hB : Below w.heap.size w w1 := by with_reducible repeat (first | exact Below.refl _ _ | refine below_drewN ?_ _ | refine Below.setCell ?_ (by first | (simp; done) | (simp; omega) | omega) _ | refine Below.drew ?_ | refine below_end ?_ (by assumption) | refine ball ?_ _)
  clear hb1
  have pA' := pA
  obtain ⟨a1, a2, a3, a4⟩ := pA'
  go_upto_region 2 with fail
  have qA := pA.put (.int .i64 (Wnum.cN a b)) (.int .i64 (Wnum.cD a b))
  have qC := pC.far2 (j := w.heap.size) (by omega) (.int .i64 (Wnum.cN a b)) (.int .i64 (Wnum.cD a b))
  have qD := put_below hB (k := w.heap.size) (by omega) (.int .i64 (Wnum.cN a b)) (.int .i64 (Wnum.cD a b))
  clear pA pC hB a1 a2 a3 a4
  generalize (w1.setCell ⟨w.heap.size, 0, none⟩ (.int .i64 (Wnum.cN a b))).setCell ⟨w.heap.size, 1, none⟩ (.int .i64 (Wnum.cD a b)) = W1 at *
  clear w1
  have qA' := qA
  obtain ⟨a1, a2, a3, a4⟩ := qA'
  obtain ⟨c1, c2, c3, c4⟩ := qC
  go_wp2_with (go_at_call 31; refine (size_any _ _ (by omega) (by omega)).mono ?_; rintro e w2 ⟨rfl, rfl⟩)
  go_region_held3 (fun W => W.cell? ⟨w.heap.size, 0, none⟩ = some (.int .i64 (Wnum.cN a b)) ∧ W.cell? ⟨w.heap.size, 1, none⟩ = some (.int .i64 (Wnum.cD a b))) (first | exact ⟨a1, a2⟩ | exact keep2 hb3 (by assumption) | exact keep2_set (by omega) (by assumption) | assumption)
    (first
    | (go_at_call 31; refine (size_any _ _ (by omega) (by omega)).mono ?_; rintro e w2 ⟨rfl, rfl⟩)
    | (go_at_call 33; refine (sign_any _ _).mono ?_; rintro e w2 ⟨rfl, rfl⟩; rw [hsg.out])
    | (go_at_call 32; refine (powers_eq _ _ _ K r _ (by omega) (by omega) M3.out n5 n6 (by have := KK.out; omega) eK.out rn rd).mono ?_; rintro e w3 ⟨rfl, hb3⟩; obtain ⟨k1, k2, k3, k4⟩ := (At.below hb3 (At.drew ⟨c1, c2, c3, c4⟩) : At w3 (w.heap.size + 1) (.int .i64 0) (.int .i64 0)); have qE : Below w.heap.size w w3 := below_end qD.drew hb3))
  all_goals
    go_wp2
    refine bodyPost_ret (v := .tuple #[.agg #[.int .i64 (Wnum.oN (some (r ^ K))), .int .i64 (Wnum.oD (some (r ^ K)))], .bool (Wnum.oB (some (r ^ K)))]) (by simp [results, Tryd.results9, go_sem, k1, k2]) rfl ⟨rfl, ?_⟩
    exact put_below qE (by omega) _ _

set_option maxHeartbeats 4000000 in
theorem pow_post (a b : Int) (K : Nat) (r : Rat) (w : World) (h1 : -9223372036854775808 ≤ a) (h2 : a ≤ 9223372036854775807) (h3 : -9223372036854775808 ≤ b) (h4 : b ≤ 9223372036854775807) (hz : (Wnum.cN a b == 0) = false) (k1 : 1 ≤ K) (k2 : K ≤ 39) (hd : (Wnum.cD a b == 1) = true) (ho : (((Wnum.cN a b).natAbs : Int) == 1) = false) (rn : Hid (r.num = Wnum.cN a b)) (rd : Hid ((r.den : Int) = Wnum.cD a b)) :
    Calls Tryd.prog 9 #[.agg #[.int .i64 a, .int .i64 b], .int .i64 ((K : Int))] w fun e w' => e = .returned (.tuple #[.agg #[.int .i64 (Wnum.oN (some (r ^ K))), .int .i64 (Wnum.oD (some (r ^ K)))], .bool (Wnum.oB (some (r ^ K)))]) ∧ Below w.heap.size w w' := by
  obtain ⟨n1, n2⟩ := Wnum.cN_bd a b
  obtain ⟨n3, n4⟩ := Wnum.cD_bd a b
  have hk : (((K : Nat) : Int) == 0) = false := by rw [beq_eq_false_iff_ne]; omega
  have hn0 : Wnum.cN a b ≠ 0 := by rw [← bne_iff_ne, bne, hz]; rfl
  have HN0 : Hid (Wnum.cN a b ≠ 0) := hn0
  clear hn0
  have hs : ¬ ((K : Nat) : Int) < 0 := by omega
  have hs1 : ¬ ((K : Nat) : Int) < -39 := by omega
  have hs2 : ¬ (39 : Int) < ((K : Nat) : Int) := by omega
  go_enter Tryd.func9, Tryd.ntmps9
  go_wp2_with fail
  refine (counted_any _ _ _ h1 h2 h3 h4).mono ?_
  rintro e w1 ⟨rfl, hb1⟩
  have pA : At w1 w.heap.size (.int .i64 a) (.int .i64 b) := At.below hb1 ((At.new w _ rfl _ _).alloc _)
  have pC : At w1 (w.heap.size + 1) (.int .i64 0) (.int .i64 0) := At.below hb1 (At.new (w.alloc _) _ (by simp) _ _)
  have hB : Below w.heap.size w w1 := by with_reducible repeat (first | exact Below.refl _ _ | refine below_drewN ?_ _ | refine Below.setCell ?_ (by first | (simp; done) | (simp; omega) | omega) _ | refine Below.drew ?_ | refine below_end ?_ (by assumption) | refine ball ?_ _)
  clear hb1
  have pA' := pA
  obtain ⟨a1, a2, a3, a4⟩ := pA'
  go_upto_region 2 with fail
  have qA := pA.put (.int .i64 (Wnum.cN a b)) (.int .i64 (Wnum.cD a b))
  have qC := pC.far2 (j := w.heap.size) (by omega) (.int .i64 (Wnum.cN a b)) (.int .i64 (Wnum.cD a b))
  have qD := put_below hB (k := w.heap.size) (by omega) (.int .i64 (Wnum.cN a b)) (.int .i64 (Wnum.cD a b))
  clear pA pC hB a1 a2 a3 a4
  generalize (w1.setCell ⟨w.heap.size, 0, none⟩ (.int .i64 (Wnum.cN a b))).setCell ⟨w.heap.size, 1, none⟩ (.int .i64 (Wnum.cD a b)) = W1 at *
  clear w1
  have qA' := qA
  obtain ⟨a1, a2, a3, a4⟩ := qA'
  obtain ⟨c1, c2, c3, c4⟩ := qC
  go_wp2_with (go_at_call 31; refine (size_any _ _ (by omega) (by omega)).mono ?_; rintro e w2 ⟨rfl, rfl⟩)
  refine (powers_any (Wnum.cN a b) (Wnum.cD a b) K r _ (by omega) (by omega) HN0.out (by omega) (by omega) (by omega) rn rd).mono ?_
  rintro e w3 ⟨rfl, hb3⟩
  obtain ⟨k1, k2, k3, k4⟩ := At.below hb3 ⟨c1, c2, c3, c4⟩
  have qE := below_end qD hb3
  go_wp2
  refine bodyPost_ret (v := .tuple #[.agg #[.int .i64 (Wnum.oN (some (r ^ K))), .int .i64 (Wnum.oD (some (r ^ K)))], .bool (Wnum.oB (some (r ^ K)))]) (by simp [results, Tryd.results9, go_sem, k1, k2]) rfl ⟨rfl, ?_⟩
  exact put_below qE (by omega) _ _

set_option maxHeartbeats 4000000 in
theorem pow_negt (a b k s : Int) (K : Nat) (r : Rat) (w : World) (h1 : -9223372036854775808 ≤ a) (h2 : a ≤ 9223372036854775807) (h3 : -9223372036854775808 ≤ b) (h4 : b ≤ 9223372036854775807) (hz : (Wnum.cN a b == 0) = false) (hk : (k == 0) = false) (kb1 : -39 ≤ k) (kb2 : k < 0) (eK : Hid (-k = (K : Int))) (hd : (Wnum.cD a b == 1) = true) (ho : (((Wnum.cN a b).natAbs : Int) == 1) = false) (hsg : Hid ((Wnum.cN a b).sign = s)) (s1 : s = 1 ∨ s = -1) (rn : Hid (r.num = s * Wnum.cD a b)) (rd : Hid ((r.den : Int) = (Wnum.cN a b).natAbs)) :
    Calls Tryd.prog 9 #[.agg #[.int .i64 a, .int .i64 b], .int .i64 (k)] w fun e w' => e = .returned (.tuple #[.agg #[.int .i64 (Wnum.oN (some (r ^ K))), .int .i64 (Wnum.oD (some (r ^ K)))], .bool (Wnum.oB (some (r ^ K)))]) ∧ Below w.heap.size w w' := by
  obtain ⟨n1, n2⟩ := Wnum.cN_bd a b
  obtain ⟨n3, n4⟩ := Wnum.cD_bd a b
  have hn0 : Wnum.cN a b ≠ 0 := by rw [← bne_iff_ne, bne, hz]; rfl
  have n5 : 1 ≤ ((Wnum.cN a b).natAbs : Int) := by omega
  have n6 : ((Wnum.cN a b).natAbs : Int) ≤ 1000000000000 := by omega
  obtain ⟨m1, m2, m3⟩ : -1000000 ≤ s * Wnum.cD a b ∧ s * Wnum.cD a b ≤ 1000000 ∧ s * Wnum.cD a b ≠ 0 := by
    rcases s1 with h | h <;> subst h <;> omega
  have M3 : Hid (s * Wnum.cD a b ≠ 0) := m3
  have KK : Hid (K ≤ 39) := (by have := eK.out; omega : K ≤ 39)
  clear hn0 m3 s1
  have z1 : IntKind.i64.wrap (s * Wnum.cD a b) = s * Wnum.cD a b := IntWalk.i64_in _ (by omega)
  have z2 : IntKind.i64.wrap (-k) = -k := IntWalk.i64_in _ (by omega)
  have hs1 : ¬ k < -39 := by omega
  have hs2 : ¬ (39 : Int) < k := by omega
  go_enter Tryd.func9, Tryd.ntmps9
  go_wp2_with fail
  refine (counted_any _ _ _ h1 h2 h3 h4).mono ?_
  rintro e w1 ⟨rfl, hb1⟩
  have pA : At w1 w.heap.size (.int .i64 a) (.int .i64 b) := At.below hb1 ((At.new w _ rfl _ _).alloc _)
  have pC : At w1 (w.heap.size + 1) (.int .i64 0) (.int .i64 0) := At.below hb1 (At.new (w.alloc _) _ (by simp) _ _)
  have hB : Below w.heap.size w w1 := by with_reducible repeat (first | exact Below.refl _ _ | refine below_drewN ?_ _ | refine Below.setCell ?_ (by first | (simp; done) | (simp; omega) | omega) _ | refine Below.drew ?_ | refine below_end ?_ (by assumption) | refine ball ?_ _)
  clear hb1
  have pA' := pA
  obtain ⟨a1, a2, a3, a4⟩ := pA'
  go_upto_region 2 with fail
  have qA := pA.put (.int .i64 (Wnum.cN a b)) (.int .i64 (Wnum.cD a b))
  have qC := pC.far2 (j := w.heap.size) (by omega) (.int .i64 (Wnum.cN a b)) (.int .i64 (Wnum.cD a b))
  have qD := put_below hB (k := w.heap.size) (by omega) (.int .i64 (Wnum.cN a b)) (.int .i64 (Wnum.cD a b))
  clear pA pC hB a1 a2 a3 a4
  generalize (w1.setCell ⟨w.heap.size, 0, none⟩ (.int .i64 (Wnum.cN a b))).setCell ⟨w.heap.size, 1, none⟩ (.int .i64 (Wnum.cD a b)) = W1 at *
  clear w1
  have qA' := qA
  obtain ⟨a1, a2, a3, a4⟩ := qA'
  obtain ⟨c1, c2, c3, c4⟩ := qC
  go_wp2_with (go_at_call 31; refine (size_any _ _ (by omega) (by omega)).mono ?_; rintro e w2 ⟨rfl, rfl⟩)
  go_region_held3 (fun W => W.cell? ⟨w.heap.size, 0, none⟩ = some (.int .i64 (Wnum.cN a b)) ∧ W.cell? ⟨w.heap.size, 1, none⟩ = some (.int .i64 (Wnum.cD a b))) (first | exact ⟨a1, a2⟩ | exact keep2 hb3 (by assumption) | exact keep2_set (by omega) (by assumption) | assumption)
    (first
    | (go_at_call 31; refine (size_any _ _ (by omega) (by omega)).mono ?_; rintro e w2 ⟨rfl, rfl⟩)
    | (go_at_call 33; refine (sign_any _ _).mono ?_; rintro e w2 ⟨rfl, rfl⟩; rw [hsg.out])
    | (go_at_call 32; refine (powers_eq _ _ _ K r _ (by omega) (by omega) M3.out n5 n6 (by have := KK.out; omega) eK.out rn rd).mono ?_; rintro e w3 ⟨rfl, hb3⟩; obtain ⟨k1, k2, k3, k4⟩ := (At.below hb3 (At.drew ⟨c1, c2, c3, c4⟩) : At w3 (w.heap.size + 1) (.int .i64 0) (.int .i64 0)); have qE : Below w.heap.size w w3 := below_end qD.drew hb3))
  all_goals
    go_wp2
    refine bodyPost_ret (v := .tuple #[.agg #[.int .i64 (Wnum.oN (some (r ^ K))), .int .i64 (Wnum.oD (some (r ^ K)))], .bool (Wnum.oB (some (r ^ K)))]) (by simp [results, Tryd.results9, go_sem, k1, k2]) rfl ⟨rfl, ?_⟩
    exact put_below qE (by omega) _ _

set_option maxHeartbeats 400000 in
theorem pow_any (a b k : Int) (w : World) (h1 : -9223372036854775808 ≤ a) (h2 : a ≤ 9223372036854775807) (h3 : -9223372036854775808 ≤ b) (h4 : b ≤ 9223372036854775807) (kb1 : -9223372036854775808 ≤ k) (kb2 : k ≤ 9223372036854775807) :
    Calls Tryd.prog 9 #[.agg #[.int .i64 a, .int .i64 b], .int .i64 k] w fun e w' => e = .returned (.tuple #[.agg #[.int .i64 (Wnum.oN (Wnum.powO (Wnum.qu a b) k)), .int .i64 (Wnum.oD (Wnum.powO (Wnum.qu a b) k))], .bool (Wnum.oB (Wnum.powO (Wnum.qu a b) k))]) ∧ Below w.heap.size w w' := by
  obtain ⟨n1, n2⟩ := Wnum.cN_bd a b
  obtain ⟨n3, n4⟩ := Wnum.cD_bd a b
  by_cases hk : k = 0
  · subst hk
    rw [Wnum.powO_zero, Wnum.o_one.1, Wnum.o_one.2.1, Wnum.o_one.2.2]
    exact pow_k0 a b w h1 h2 h3 h4
  have hk' : (k == 0) = false := by rw [beq_eq_false_iff_ne]; exact hk
  by_cases hz : Wnum.cN a b = 0
  · have hz' : (Wnum.cN a b == 0) = true := by rw [beq_iff_eq]; exact hz
    rw [Wnum.qu_zero hz]
    by_cases hs : k < 0
    · rw [Wnum.powO_none hs]
      exact pow_z a b k w h1 h2 h3 h4 kb1 kb2 hk' hz' hs
    · rw [Wnum.powO_null (by omega), Wnum.o_zero.1, Wnum.o_zero.2.1, Wnum.o_zero.2.2]
      have := pow_zp a b k w h1 h2 h3 h4 kb1 kb2 hk' hz' hs
      rw [Wnum.c_null hz, hz] at this
      exact this
  have hz' : (Wnum.cN a b == 0) = false := by rw [beq_eq_false_iff_ne]; exact hz
  -- the base, and its power
  obtain ⟨r, n, d, hP, rn, rd, hd1, hnd⟩ : ∃ (r : Rat) (n d : Int), Wnum.powO (Wnum.qu a b) k = some (r ^ k.natAbs) ∧ r.num = n ∧ (r.den : Int) = d ∧ 1 ≤ d ∧
      ((0 < k ∧ n = Wnum.cN a b ∧ d = Wnum.cD a b) ∨ (k < 0 ∧ n = (Wnum.cN a b).sign * Wnum.cD a b ∧ d = ((Wnum.cN a b).natAbs : Int))) := by
    by_cases hs : k < 0
    · obtain ⟨i1, i2⟩ := Wnum.inv_parts hz
      exact ⟨_, _, _, Wnum.powO_neg hs (Wnum.qu_ne hz), i1, i2, by omega, Or.inr ⟨hs, rfl, rfl⟩⟩
    · exact ⟨_, _, _, Wnum.powO_pos (by omega), Wnum.qu_num a b, Wnum.qu_den a b, n3, Or.inl ⟨by omega, rfl, rfl⟩⟩
  rw [hP]
  have sg : (Wnum.cN a b).sign = 1 ∨ (Wnum.cN a b).sign = -1 := by
    rcases Int.lt_or_lt_of_ne hz with h | h
    · exact Or.inr (Int.sign_eq_neg_one_of_neg h)
    · exact Or.inl (Int.sign_eq_one_of_pos h)
  have far : (2 ≤ (Wnum.cN a b).natAbs ∨ 2 ≤ Wnum.cD a b) → (2 ≤ n.natAbs ∨ 2 ≤ d) := by
    intro h
    rcases hnd with ⟨_, rfl, rfl⟩ | ⟨_, rfl, rfl⟩
    · exact h
    · rcases sg with e | e <;> rw [e] <;> omega
  by_cases hd : Wnum.cD a b = 1
  · have hd' : (Wnum.cD a b == 1) = true := by rw [beq_iff_eq]; exact hd
    by_cases ho : (Wnum.cN a b).natAbs = 1
    · have ho' : (((Wnum.cN a b).natAbs : Int) == 1) = true := by rw [beq_iff_eq]; omega
      have hn : n = Wnum.cN a b := by
        rcases hnd with ⟨_, rfl, _⟩ | ⟨_, rfl, _⟩
        · rfl
        · rw [hd, Int.mul_one]
          rcases sg with e | e
          · have := Int.sign_eq_one_iff_pos.1 e; omega
          · have := Int.sign_eq_neg_one_iff_neg.1 e; omega
      have hdd : d = 1 := by
        rcases hnd with ⟨_, _, rfl⟩ | ⟨_, _, rfl⟩
        · exact hd
        · omega
      have pd : Wnum.pw d k.natAbs = 1 := by rw [hdd]; unfold Wnum.pw; exact Int.one_pow
      have tm : k.tmod 2 = 0 ↔ k.natAbs % 2 = 0 := by
        have := Int.natAbs_tmod k 2
        constructor
        · intro h; rw [h] at this; exact this.symm
        · intro h; have e : (k.tmod 2).natAbs = 0 := by rw [this]; exact h
          omega
      by_cases hm : k.tmod 2 = 0
      · have hm' : (k.tmod 2 == 0) = true := by rw [beq_iff_eq]; exact hm
        obtain ⟨j, hj⟩ : ∃ j, k.natAbs = 2 * j := ⟨k.natAbs / 2, by have := tm.1 hm; omega⟩
        have pn : Wnum.pw n k.natAbs = 1 := by rw [hn, hj]; exact Wnum.pw_one_even ho j
        obtain ⟨y1, y2, y3⟩ := Wnum.oNs (r := r ^ k.natAbs) (Wnum.ok_iff.2 (by rw [Wnum.pow_num rn, Wnum.pow_den rd, pn, pd]; omega))
        rw [y1, y2, y3, Wnum.pow_num rn, Wnum.pow_den rd, pn, pd]
        have := pow_even a b k w h1 h2 h3 h4 kb1 kb2 hk' hz' hd' ho' hm'
        rw [hd, ho] at this
        exact this
      · have hm' : (k.tmod 2 == 0) = false := by rw [beq_eq_false_iff_ne]; exact hm
        obtain ⟨j, hj⟩ : ∃ j, k.natAbs = 2 * j + 1 := ⟨k.natAbs / 2, by have : ¬ k.natAbs % 2 = 0 := fun h => hm (tm.2 h); omega⟩
        have pn : Wnum.pw n k.natAbs = Wnum.cN a b := by rw [hn, hj]; exact Wnum.pw_one_odd ho j
        obtain ⟨y1, y2, y3⟩ := Wnum.oNs (r := r ^ k.natAbs) (Wnum.ok_iff.2 (by rw [Wnum.pow_num rn, Wnum.pow_den rd, pn, pd]; omega))
        rw [y1, y2, y3, Wnum.pow_num rn, Wnum.pow_den rd, pn, pd]
        have := pow_odd a b k w h1 h2 h3 h4 kb1 kb2 hk' hz' hd' ho' hm'
        rw [hd] at this
        exact this
    · have ho' : (((Wnum.cN a b).natAbs : Int) == 1) = false := by rw [beq_eq_false_iff_ne]; omega
      by_cases c1 : k < -39
      · obtain ⟨y1, y2, y3⟩ := Wnum.pow_far (K := k.natAbs) rn rd hd1 (far (by omega)) (by omega)
        rw [y1, y2, y3]
        exact pow_far1t a b k w h1 h2 h3 h4 kb1 kb2 hk' hz' hd' ho' c1
      by_cases c2 : 39 < k
      · obtain ⟨y1, y2, y3⟩ := Wnum.pow_far (K := k.natAbs) rn rd hd1 (far (by omega)) (by omega)
        rw [y1, y2, y3]
        exact pow_far2t a b k w h1 h2 h3 h4 kb1 kb2 hk' hz' hd' ho' c1 c2
      rcases hnd with ⟨hs, e1, e2⟩ | ⟨hs, e1, e2⟩
      · have := pow_post a b k.natAbs r w h1 h2 h3 h4 hz' (by omega) (by omega) hd' ho' (by rw [← e1]; exact rn) (by rw [← e2]; exact rd)
        rw [show ((k.natAbs : Nat) : Int) = k by omega] at this
        exact this
      · have := pow_negt a b k (Wnum.cN a b).sign k.natAbs r w h1 h2 h3 h4 hz' hk' (by omega) hs (show -k = ((k.natAbs : Nat) : Int) by omega) hd' ho' (show (Wnum.cN a b).sign = (Wnum.cN a b).sign from rfl) sg (by rw [← e1]; exact rn) (by rw [← e2]; exact rd)
        exact this
  · have hd' : (Wnum.cD a b == 1) = false := by rw [beq_eq_false_iff_ne]; exact hd
    by_cases c1 : k < -39
    · obtain ⟨y1, y2, y3⟩ := Wnum.pow_far (K := k.natAbs) rn rd hd1 (far (by omega)) (by omega)
      rw [y1, y2, y3]
      exact pow_far1f a b k w h1 h2 h3 h4 kb1 kb2 hk' hz' hd' c1
    by_cases c2 : 39 < k
    · obtain ⟨y1, y2, y3⟩ := Wnum.pow_far (K := k.natAbs) rn rd hd1 (far (by omega)) (by omega)
      rw [y1, y2, y3]
      exact pow_far2f a b k w h1 h2 h3 h4 kb1 kb2 hk' hz' hd' c1 c2
    rcases hnd with ⟨hs, e1, e2⟩ | ⟨hs, e1, e2⟩
    · have := pow_posf a b k.natAbs r w h1 h2 h3 h4 hz' (by omega) (by omega) hd' (by rw [← e1]; exact rn) (by rw [← e2]; exact rd)
      rw [show ((k.natAbs : Nat) : Int) = k by omega] at this
      exact this
    · have := pow_negf a b k (Wnum.cN a b).sign k.natAbs r w h1 h2 h3 h4 hz' hk' (by omega) hs (show -k = ((k.natAbs : Nat) : Int) by omega) hd' (show (Wnum.cN a b).sign = (Wnum.cN a b).sign from rfl) sg (by rw [← e1]; exact rn) (by rw [← e2]; exact rd)
      exact this
end Go.Proofs.YtfilmomndhlmbaaDoor
