/- The contracts of powers and Pow. -/
import Derived.Test.YtfilmomndhlmbaaDoorWalkX
import Derived.Test.YtfilmomndhlmbaaDoorWalkN
import Derived.Test.YtfilmomndhlmbaaDoorPlainG
import Derived.Test.YtfilmomndhlmbaaDoorPlainJ
namespace Go.Proofs.YtfilmomndhlmbaaDoor
open Go.RowKit
set_option linter.unusedVariables false

set_option maxHeartbeats 800000 in
theorem powers_any (n d : Int) (K : Nat) (r : Rat) (w : World) (h1 : -1000000000000 ≤ n) (h2 : n ≤ 1000000000000) (hp : n ≠ 0) (h3 : 1 ≤ d) (h4 : d ≤ 1000000000000) (h5 : K ≤ 1000) (hn : Hid (r.num = n)) (hd : Hid ((r.den : Int) = d)) :
    Calls Tryd.prog 32 #[.int .i64 n, .int .i64 d, .int .i64 (K : Int)] w fun e w' => e = .returned (.tuple #[.agg #[.int .i64 (Wnum.oN (some (r ^ K))), .int .i64 (Wnum.oD (some (r ^ K)))], .bool (Wnum.oB (some (r ^ K)))]) ∧ Below w.heap.size w w' := by
  have P1 := fun w => power_any n K 1000000000000 w h1 h2 hp (by omega) (by omega) (by omega) (by omega)
  have P2 := fun w => power_any d K 1000000 w (by omega) (by omega) (by omega) (by omega) (by omega) (by omega) (by omega)
  simp only [Int.toNat_natCast] at P1 P2
  cases hb : Wnum.wB n K 1000000000000 with
  | false =>
    obtain ⟨y1, y2, y3⟩ := Wnum.pow_over (K := K) hn.out hd.out h3 (by rw [hb]; rfl)
    rw [y1, y2, y3]
    have e1 : Wnum.wN n K 1000000000000 = 0 := by unfold Wnum.wN; rw [hb]; rfl
    rw [hb, e1] at P1
    clear y1 y2 y3 e1 hb hn hd hp
    go_enter Tryd.func32, Tryd.ntmps32
    go_wp2_with fail
    refine (P1 _).mono ?_
    rintro e w1 ⟨rfl, hw⟩
    obtain rfl := hw.symm
    go_wp2
    refine bodyPost_ret (v := .tuple #[.agg #[.int .i64 0, .int .i64 0], .bool false]) (by simp [results, Tryd.results32, go_sem]) rfl ⟨rfl, ?_⟩
    exact (by with_reducible repeat (first | exact Below.refl _ _ | refine below_drewN ?_ _ | refine Below.setCell ?_ (by first | (simp; done) | (simp; omega) | omega) _ | refine Below.drew ?_ | refine below_end ?_ (by assumption) | refine ball ?_ _))
  | true =>
    rw [hb] at P1
    cases hc : Wnum.wB d K 1000000 with
    | false =>
      obtain ⟨y1, y2, y3⟩ := Wnum.pow_over (K := K) hn.out hd.out h3 (by rw [hb, hc]; rfl)
      rw [y1, y2, y3]
      have e1 : Wnum.wN d K 1000000 = 0 := by unfold Wnum.wN; rw [hc]; rfl
      rw [hc, e1] at P2
      clear y1 y2 y3 e1 hb hc hn hd hp
      go_enter Tryd.func32, Tryd.ntmps32
      go_wp2_with fail
      refine (P1 _).mono ?_
      rintro e w1 ⟨rfl, hw⟩
      obtain rfl := hw.symm
      go_wp2_with fail
      refine (P2 _).mono ?_
      rintro e w2 ⟨rfl, hw2⟩
      obtain rfl := hw2.symm
      go_wp2
      refine bodyPost_ret (v := .tuple #[.agg #[.int .i64 0, .int .i64 0], .bool false]) (by simp [results, Tryd.results32, go_sem]) rfl ⟨rfl, ?_⟩
      exact (by with_reducible repeat (first | exact Below.refl _ _ | refine below_drewN ?_ _ | refine Below.setCell ?_ (by first | (simp; done) | (simp; omega) | omega) _ | refine Below.drew ?_ | refine below_end ?_ (by assumption) | refine ball ?_ _))
    | true =>
      obtain ⟨y1, y2, y3⟩ := Wnum.pow_in (K := K) hn.out hd.out h3 hb hc
      rw [y1, y2, y3]
      rw [hc] at P2
      clear y1 y2 y3 hb hc hn hd hp
      generalize Wnum.wN n K 1000000000000 = x at *
      generalize Wnum.wN d K 1000000 = y at *
      go_enter Tryd.func32, Tryd.ntmps32
      go_wp2_with fail
      refine (P1 _).mono ?_
      rintro e w1 ⟨rfl, hw⟩
      obtain rfl := hw.symm
      go_wp2_with fail
      refine (P2 _).mono ?_
      rintro e w2 ⟨rfl, hw2⟩
      obtain rfl := hw2.symm
      go_wp2
      refine bodyPost_ret (v := .tuple #[.agg #[.int .i64 x, .int .i64 y], .bool true]) (by simp [results, Tryd.results32, go_sem]) rfl ⟨rfl, ?_⟩
      exact (by with_reducible repeat (first | exact Below.refl _ _ | refine below_drewN ?_ _ | refine Below.setCell ?_ (by first | (simp; done) | (simp; omega) | omega) _ | refine Below.drew ?_ | refine below_end ?_ (by assumption) | refine ball ?_ _))

theorem powers_eq (n d kk : Int) (K : Nat) (r : Rat) (w : World) (h1 : -1000000000000 ≤ n) (h2 : n ≤ 1000000000000) (hp : n ≠ 0) (h3 : 1 ≤ d) (h4 : d ≤ 1000000000000) (h5 : K ≤ 1000) (hk : kk = (K : Int)) (hn : Hid (r.num = n)) (hd : Hid ((r.den : Int) = d)) :
    Calls Tryd.prog 32 #[.int .i64 n, .int .i64 d, .int .i64 kk] w fun e w' => e = .returned (.tuple #[.agg #[.int .i64 (Wnum.oN (some (r ^ K))), .int .i64 (Wnum.oD (some (r ^ K)))], .bool (Wnum.oB (some (r ^ K)))]) ∧ Below w.heap.size w w' := by
  subst hk
  exact powers_any n d K r w h1 h2 hp h3 h4 h5 hn hd

set_option maxHeartbeats 4000000 in
theorem pow_k0 (a b : Int) (w : World) (h1 : -9223372036854775808 ≤ a) (h2 : a ≤ 9223372036854775807) (h3 : -9223372036854775808 ≤ b) (h4 : b ≤ 9223372036854775807)  :
    Calls Tryd.prog 9 #[.agg #[.int .i64 a, .int .i64 b], .int .i64 (0)] w fun e w' => e = .returned (.tuple #[.agg #[.int .i64 (1), .int .i64 (1)], .bool true]) ∧ Below w.heap.size w w' := by
  obtain ⟨n1, n2⟩ := Wnum.cN_bd a b
  obtain ⟨n3, n4⟩ := Wnum.cD_bd a b
  go_enter Tryd.func9, Tryd.ntmps9
  go_wp2_with fail
  refine (counted_any _ _ _ h1 h2 h3 h4).mono ?_
  rintro e w1 ⟨rfl, hb1⟩
  have pA : At w1 w.heap.size (.int .i64 a) (.int .i64 b) := At.below hb1 ((At.new w _ rfl _ _).alloc _)
  have pC : At w1 (w.heap.size + 1) (.int .i64 0) (.int .i64 0) := At.below hb1 (At.new (w.alloc _) _ (by simp) _ _)
  have hB : Below w.heap.size w w1 := by with_reducible repeat (first | exact Below.refl _ _ | refine below_drewN ?_ _ | refine Below.setCell ?_ (by first | (simp; done) | (simp; omega) | omega) _ | refine Below.drew ?_ | refine below_end ?_ (by assumption) | refine ball ?_ _)
  clear hb1
  have pA' := pA
  obtain ⟨a1, a2, a3, a4⟩ := pA'
  go_upto_region 2 with fail
  have qA := pA.put (.int .i64 (Wnum.cN a b)) (.int .i64 (Wnum.cD a b))
  have qC := pC.far2 (j := w.heap.size) (by omega) (.int .i64 (Wnum.cN a b)) (.int .i64 (Wnum.cD a b))
  have qD := put_below hB (k := w.heap.size) (by omega) (.int .i64 (Wnum.cN a b)) (.int .i64 (Wnum.cD a b))
  clear pA pC hB a1 a2 a3 a4
  generalize (w1.setCell ⟨w.heap.size, 0, none⟩ (.int .i64 (Wnum.cN a b))).setCell ⟨w.heap.size, 1, none⟩ (.int .i64 (Wnum.cD a b)) = W1 at *
  clear w1
  have qA' := qA
  obtain ⟨a1, a2, a3, a4⟩ := qA'
  obtain ⟨c1, c2, c3, c4⟩ := qC
  go_wp2
  refine bodyPost_ret (v := .tuple #[.agg #[.int .i64 (1), .int .i64 (1)], .bool true]) (by simp [results, Tryd.results9, go_sem, c1, c2]) rfl ⟨rfl, ?_⟩
  exact (by with_reducible repeat (first | exact qD | refine below_drewN ?_ _ | refine Below.setCell ?_ (by first | (simp; done) | (simp; omega) | omega) _ | refine Below.drew ?_))

set_option maxHeartbeats 4000000 in
theorem pow_z (a b k : Int) (w : World) (h1 : -9223372036854775808 ≤ a) (h2 : a ≤ 9223372036854775807) (h3 : -9223372036854775808 ≤ b) (h4 : b ≤ 9223372036854775807) (k1 : -9223372036854775808 ≤ k) (k2 : k ≤ 9223372036854775807) (hk : (k == 0) = false) (hz : (Wnum.cN a b == 0) = true) (hs : k < 0) :
    Calls Tryd.prog 9 #[.agg #[.int .i64 a, .int .i64 b], .int .i64 (k)] w fun e w' => e = .returned (.tuple #[.agg #[.int .i64 (0), .int .i64 (0)], .bool false]) ∧ Below w.heap.size w w' := by
  obtain ⟨n1, n2⟩ := Wnum.cN_bd a b
  obtain ⟨n3, n4⟩ := Wnum.cD_bd a b
  go_enter Tryd.func9, Tryd.ntmps9
  go_wp2_with fail
  refine (counted_any _ _ _ h1 h2 h3 h4).mono ?_
  rintro e w1 ⟨rfl, hb1⟩
  have pA : At w1 w.heap.size (.int .i64 a) (.int .i64 b) := At.below hb1 ((At.new w _ rfl _ _).alloc _)
  have pC : At w1 (w.heap.size + 1) (.int .i64 0) (.int .i64 0) := At.below hb1 (At.new (w.alloc _) _ (by simp) _ _)
  have hB : Below w.heap.size w w1 := by with_reducible repeat (first | exact Below.refl _ _ | refine below_drewN ?_ _ | refine Below.setCell ?_ (by first | (simp; done) | (simp; omega) | omega) _ | refine Below.drew ?_ | refine below_end ?_ (by assumption) | refine ball ?_ _)
  clear hb1
  have pA' := pA
  obtain ⟨a1, a2, a3, a4⟩ := pA'
  go_upto_region 2 with fail
  have qA := pA.put (.int .i64 (Wnum.cN a b)) (.int .i64 (Wnum.cD a b))
  have qC := pC.far2 (j := w.heap.size) (by omega) (.int .i64 (Wnum.cN a b)) (.int .i64 (Wnum.cD a b))
  have qD := put_below hB (k := w.heap.size) (by omega) (.int .i64 (Wnum.cN a b)) (.int .i64 (Wnum.cD a b))
  clear pA pC hB a1 a2 a3 a4
  generalize (w1.setCell ⟨w.heap.size, 0, none⟩ (.int .i64 (Wnum.cN a b))).setCell ⟨w.heap.size, 1, none⟩ (.int .i64 (Wnum.cD a b)) = W1 at *
  clear w1
  have qA' := qA
  obtain ⟨a1, a2, a3, a4⟩ := qA'
  obtain ⟨c1, c2, c3, c4⟩ := qC
  go_wp2
  refine bodyPost_ret (v := .tuple #[.agg #[.int .i64 (0), .int .i64 (0)], .bool false]) (by simp [results, Tryd.results9, go_sem, c1, c2]) rfl ⟨rfl, ?_⟩
  exact (by with_reducible repeat (first | exact qD | refine below_drewN ?_ _ | refine Below.setCell ?_ (by first | (simp; done) | (simp; omega) | omega) _ | refine Below.drew ?_))

set_option maxHeartbeats 4000000 in
theorem pow_zp (a b k : Int) (w : World) (h1 : -9223372036854775808 ≤ a) (h2 : a ≤ 9223372036854775807) (h3 : -9223372036854775808 ≤ b) (h4 : b ≤ 9223372036854775807) (k1 : -9223372036854775808 ≤ k) (k2 : k ≤ 9223372036854775807) (hk : (k == 0) = false) (hz : (Wnum.cN a b == 0) = true) (hs : ¬ k < 0) :
    Calls Tryd.prog 9 #[.agg #[.int .i64 a, .int .i64 b], .int .i64 (k)] w fun e w' => e = .returned (.tuple #[.agg #[.int .i64 (Wnum.cN a b), .int .i64 (Wnum.cD a b)], .bool true]) ∧ Below w.heap.size w w' := by
  obtain ⟨n1, n2⟩ := Wnum.cN_bd a b
  obtain ⟨n3, n4⟩ := Wnum.cD_bd a b
  go_enter Tryd.func9, Tryd.ntmps9
  go_wp2_with fail
  refine (counted_any _ _ _ h1 h2 h3 h4).mono ?_
  rintro e w1 ⟨rfl, hb1⟩
  have pA : At w1 w.heap.size (.int .i64 a) (.int .i64 b) := At.below hb1 ((At.new w _ rfl _ _).alloc _)
  have pC : At w1 (w.heap.size + 1) (.int .i64 0) (.int .i64 0) := At.below hb1 (At.new (w.alloc _) _ (by simp) _ _)
  have hB : Below w.heap.size w w1 := by with_reducible repeat (first | exact Below.refl _ _ | refine below_drewN ?_ _ | refine Below.setCell ?_ (by first | (simp; done) | (simp; omega) | omega) _ | refine Below.drew ?_ | refine below_end ?_ (by assumption) | refine ball ?_ _)
  clear hb1
  have pA' := pA
  obtain ⟨a1, a2, a3, a4⟩ := pA'
  go_upto_region 2 with fail
  have qA := pA.put (.int .i64 (Wnum.cN a b)) (.int .i64 (Wnum.cD a b))
  have qC := pC.far2 (j := w.heap.size) (by omega) (.int .i64 (Wnum.cN a b)) (.int .i64 (Wnum.cD a b))
  have qD := put_below hB (k := w.heap.size) (by omega) (.int .i64 (Wnum.cN a b)) (.int .i64 (Wnum.cD a b))
  clear pA pC hB a1 a2 a3 a4
  generalize (w1.setCell ⟨w.heap.size, 0, none⟩ (.int .i64 (Wnum.cN a b))).setCell ⟨w.heap.size, 1, none⟩ (.int .i64 (Wnum.cD a b)) = W1 at *
  clear w1
  have qA' := qA
  obtain ⟨a1, a2, a3, a4⟩ := qA'
  obtain ⟨c1, c2, c3, c4⟩ := qC
  go_wp2
  refine bodyPost_ret (v := .tuple #[.agg #[.int .i64 (Wnum.cN a b), .int .i64 (Wnum.cD a b)], .bool true]) (by simp [results, Tryd.results9, go_sem, c1, c2]) rfl ⟨rfl, ?_⟩
  exact (by with_reducible repeat (first | exact qD | refine below_drewN ?_ _ | refine Below.setCell ?_ (by first | (simp; done) | (simp; omega) | omega) _ | refine Below.drew ?_))

set_option maxHeartbeats 4000000 in
theorem pow_odd (a b k : Int) (w : World) (h1 : -9223372036854775808 ≤ a) (h2 : a ≤ 9223372036854775807) (h3 : -9223372036854775808 ≤ b) (h4 : b ≤ 9223372036854775807) (k1 : -9223372036854775808 ≤ k) (k2 : k ≤ 9223372036854775807) (hk : (k == 0) = false) (hz : (Wnum.cN a b == 0) = false) (hd : (Wnum.cD a b == 1) = true) (ho : (((Wnum.cN a b).natAbs : Int) == 1) = true) (hm : (k.tmod 2 == 0) = false) :
    Calls Tryd.prog 9 #[.agg #[.int .i64 a, .int .i64 b], .int .i64 (k)] w fun e w' => e = .returned (.tuple #[.agg #[.int .i64 (Wnum.cN a b), .int .i64 (Wnum.cD a b)], .bool true]) ∧ Below w.heap.size w w' := by
  obtain ⟨n1, n2⟩ := Wnum.cN_bd a b
  obtain ⟨n3, n4⟩ := Wnum.cD_bd a b
  go_enter Tryd.func9, Tryd.ntmps9
  go_wp2_with fail
  refine (counted_any _ _ _ h1 h2 h3 h4).mono ?_
  rintro e w1 ⟨rfl, hb1⟩
  have pA : At w1 w.heap.size (.int .i64 a) (.int .i64 b) := At.below hb1 ((At.new w _ rfl _ _).alloc _)
  have pC : At w1 (w.heap.size + 1) (.int .i64 0) (.int .i64 0) := At.below hb1 (At.new (w.alloc _) _ (by simp) _ _)
  have hB : Below w.heap.size w w1 := by with_reducible repeat (first | exact Below.refl _ _ | refine below_drewN ?_ _ | refine Below.setCell ?_ (by first | (simp; done) | (simp; omega) | omega) _ | refine Below.drew ?_ | refine below_end ?_ (by assumption) | refine ball ?_ _)
  clear hb1
  have pA' := pA
  obtain ⟨a1, a2, a3, a4⟩ := pA'
  go_upto_region 2 with fail
  have qA := pA.put (.int .i64 (Wnum.cN a b)) (.int .i64 (Wnum.cD a b))
  have qC := pC.far2 (j := w.heap.size) (by omega) (.int .i64 (Wnum.cN a b)) (.int .i64 (Wnum.cD a b))
  have qD := put_below hB (k := w.heap.size) (by omega) (.int .i64 (Wnum.cN a b)) (.int .i64 (Wnum.cD a b))
  clear pA pC hB a1 a2 a3 a4
  generalize (w1.setCell ⟨w.heap.size, 0, none⟩ (.int .i64 (Wnum.cN a b))).setCell ⟨w.heap.size, 1, none⟩ (.int .i64 (Wnum.cD a b)) = W1 at *
  clear w1
  have qA' := qA
  obtain ⟨a1, a2, a3, a4⟩ := qA'
  obtain ⟨c1, c2, c3, c4⟩ := qC
  go_wp2_with (go_at_call 31; refine (size_any _ _ (by omega) (by omega)).mono ?_; rintro e w2 ⟨rfl, rfl⟩)
  refine bodyPost_ret (v := .tuple #[.agg #[.int .i64 (Wnum.cN a b), .int .i64 (Wnum.cD a b)], .bool true]) (by simp [results, Tryd.results9, go_sem, c1, c2]) rfl ⟨rfl, ?_⟩
  exact (by with_reducible repeat (first | exact qD | refine below_drewN ?_ _ | refine Below.setCell ?_ (by first | (simp; done) | (simp; omega) | omega) _ | refine Below.drew ?_))

set_option maxHeartbeats 4000000 in
theorem pow_even (a b k : Int) (w : World) (h1 : -9223372036854775808 ≤ a) (h2 : a ≤ 9223372036854775807) (h3 : -9223372036854775808 ≤ b) (h4 : b ≤ 9223372036854775807) (kb1 : -9223372036854775808 ≤ k) (kb2 : k ≤ 9223372036854775807) (hk : (k == 0) = false) (hz : (Wnum.cN a b == 0) = false) (hd : (Wnum.cD a b == 1) = true) (ho : (((Wnum.cN a b).natAbs : Int) == 1) = true) (hm : (k.tmod 2 == 0) = true) :
    Calls Tryd.prog 9 #[.agg #[.int .i64 a, .int .i64 b], .int .i64 (k)] w fun e w' => e = .returned (.tuple #[.agg #[.int .i64 (((Wnum.cN a b).natAbs : Int)), .int .i64 (Wnum.cD a b)], .bool true]) ∧ Below w.heap.size w w' := by
  obtain ⟨n1, n2⟩ := Wnum.cN_bd a b
  obtain ⟨n3, n4⟩ := Wnum.cD_bd a b
  have r1 := Wnum.cN_right (Wnum.c_right a b)
  have r2 := Wnum.cD_right (Wnum.c_right a b)
  go_enter Tryd.func9, Tryd.ntmps9
  go_wp2_with fail
  refine (counted_any _ _ _ h1 h2 h3 h4).mono ?_
  rintro e w1 ⟨rfl, hb1⟩
  have pA : At w1 w.heap.size (.int .i64 a) (.int .i64 b) := At.below hb1 ((At.new w _ rfl _ _).alloc _)
  have pC : At w1 (w.heap.size + 1) (.int .i64 0) (.int .i64 0) := At.below hb1 (At.new (w.alloc _) _ (by simp) _ _)
  have hB : Below w.heap.size w w1 := by with_reducible repeat (first | exact Below.refl _ _ | refine below_drewN ?_ _ | refine Below.setCell ?_ (by first | (simp; done) | (simp; omega) | omega) _ | refine Below.drew ?_ | refine below_end ?_ (by assumption) | refine ball ?_ _)
  clear hb1
  have pA' := pA
  obtain ⟨a1, a2, a3, a4⟩ := pA'
  go_upto_region 2 with fail
  have qA := pA.put (.int .i64 (Wnum.cN a b)) (.int .i64 (Wnum.cD a b))
  have qC := pC.far2 (j := w.heap.size) (by omega) (.int .i64 (Wnum.cN a b)) (.int .i64 (Wnum.cD a b))
  have qD := put_below hB (k := w.heap.size) (by omega) (.int .i64 (Wnum.cN a b)) (.int .i64 (Wnum.cD a b))
  clear pA pC hB a1 a2 a3 a4
  generalize (w1.setCell ⟨w.heap.size, 0, none⟩ (.int .i64 (Wnum.cN a b))).setCell ⟨w.heap.size, 1, none⟩ (.int .i64 (Wnum.cD a b)) = W1 at *
  clear w1
  have qA' := qA
  obtain ⟨a1, a2, a3, a4⟩ := qA'
  obtain ⟨c1, c2, c3, c4⟩ := qC
  go_wp2_with (go_at_call 31; refine (size_any _ _ (by omega) (by omega)).mono ?_; rintro e w2 ⟨rfl, rfl⟩)
  refine (abs_any (Wnum.cN a b) (Wnum.cD a b) _ (by omega) (by omega) (by omega) (by omega)).mono ?_
  rintro e w2 ⟨rfl, hb2⟩
  rw [r1, r2]
  obtain ⟨k1, k2, k3, k4⟩ := At.below hb2 ⟨c1, c2, c3, c4⟩
  have qE := below_end qD hb2
  go_wp2
  refine bodyPost_ret (v := .tuple #[.agg #[.int .i64 (((Wnum.cN a b).natAbs : Int)), .int .i64 (Wnum.cD a b)], .bool true]) (by simp [results, Tryd.results9, go_sem, k1, k2]) rfl ⟨rfl, ?_⟩
  exact put_below qE (by omega) _ _

set_option maxHeartbeats 4000000 in
theorem pow_far1f (a b k : Int) (w : World) (h1 : -9223372036854775808 ≤ a) (h2 : a ≤ 9223372036854775807) (h3 : -9223372036854775808 ≤ b) (h4 : b ≤ 9223372036854775807) (k1 : -9223372036854775808 ≤ k) (k2 : k ≤ 9223372036854775807) (hk : (k == 0) = false) (hz : (Wnum.cN a b == 0) = false) (hd : (Wnum.cD a b == 1) = false) (hf : k < -39) :
    Calls Tryd.prog 9 #[.agg #[.int .i64 a, .int .i64 b], .int .i64 (k)] w fun e w' => e = .returned (.tuple #[.agg #[.int .i64 (0), .int .i64 (0)], .bool false]) ∧ Below w.heap.size w w' := by
  obtain ⟨n1, n2⟩ := Wnum.cN_bd a b
  obtain ⟨n3, n4⟩ := Wnum.cD_bd a b
  go_enter Tryd.func9, Tryd.ntmps9
  go_wp2_with fail
  refine (counted_any _ _ _ h1 h2 h3 h4).mono ?_
  rintro e w1 ⟨rfl, hb1⟩
  have pA : At w1 w.heap.size (.int .i64 a) (.int .i64 b) := At.below hb1 ((At.new w _ rfl _ _).alloc _)
  have pC : At w1 (w.heap.size + 1) (.int .i64 0) (.int .i64 0) := At.below hb1 (At.new (w.alloc _) _ (by simp) _ _)
  have hB : Below w.heap.size w w1 := by with_reducible repeat (first | exact Below.refl _ _ | refine below_drewN ?_ _ | refine Below.setCell ?_ (by first | (simp; done) | (simp; omega) | omega) _ | refine Below.drew ?_ | refine below_end ?_ (by assumption) | refine ball ?_ _)
  clear hb1
  have pA' := pA
  obtain ⟨a1, a2, a3, a4⟩ := pA'
  go_upto_region 2 with fail
  have qA := pA.put (.int .i64 (Wnum.cN a b)) (.int .i64 (Wnum.cD a b))
  have qC := pC.far2 (j := w.heap.size) (by omega) (.int .i64 (Wnum.cN a b)) (.int .i64 (Wnum.cD a b))
  have qD := put_below hB (k := w.heap.size) (by omega) (.int .i64 (Wnum.cN a b)) (.int .i64 (Wnum.cD a b))
  clear pA pC hB a1 a2 a3 a4
  generalize (w1.setCell ⟨w.heap.size, 0, none⟩ (.int .i64 (Wnum.cN a b))).setCell ⟨w.heap.size, 1, none⟩ (.int .i64 (Wnum.cD a b)) = W1 at *
  clear w1
  have qA' := qA
  obtain ⟨a1, a2, a3, a4⟩ := qA'
  obtain ⟨c1, c2, c3, c4⟩ := qC
  go_wp2_with (go_at_call 31; refine (size_any _ _ (by omega) (by omega)).mono ?_; rintro e w2 ⟨rfl, rfl⟩)
  refine bodyPost_ret (v := .tuple #[.agg #[.int .i64 (0), .int .i64 (0)], .bool false]) (by simp [results, Tryd.results9, go_sem, c1, c2]) rfl ⟨rfl, ?_⟩
  exact (by with_reducible repeat (first | exact qD | refine below_drewN ?_ _ | refine Below.setCell ?_ (by first | (simp; done) | (simp; omega) | omega) _ | refine Below.drew ?_))

set_option maxHeartbeats 4000000 in
theorem pow_far2f (a b k : Int) (w : World) (h1 : -9223372036854775808 ≤ a) (h2 : a ≤ 9223372036854775807) (h3 : -9223372036854775808 ≤ b) (h4 : b ≤ 9223372036854775807) (k1 : -9223372036854775808 ≤ k) (k2 : k ≤ 9223372036854775807) (hk : (k == 0) = false) (hz : (Wnum.cN a b == 0) = false) (hd : (Wnum.cD a b == 1) = false) (hf : ¬ k < -39) (hg : 39 < k) :
    Calls Tryd.prog 9 #[.agg #[.int .i64 a, .int .i64 b], .int .i64 (k)] w fun e w' => e = .returned (.tuple #[.agg #[.int .i64 (0), .int .i64 (0)], .bool false]) ∧ Below w.heap.size w w' := by
  obtain ⟨n1, n2⟩ := Wnum.cN_bd a b
  obtain ⟨n3, n4⟩ := Wnum.cD_bd a b
  go_enter Tryd.func9, Tryd.ntmps9
  go_wp2_with fail
  refine (counted_any _ _ _ h1 h2 h3 h4).mono ?_
  rintro e w1 ⟨rfl, hb1⟩
  have pA : At w1 w.heap.size (.int .i64 a) (.int .i64 b) := At.below hb1 ((At.new w _ rfl _ _).alloc _)
  have pC : At w1 (w.heap.size + 1) (.int .i64 0) (.int .i64 0) := At.below hb1 (At.new (w.alloc _) _ (by simp) _ _)
  have hB : Below w.heap.size w w1 := by with_reducible repeat (first | exact Below.refl _ _ | refine below_drewN ?_ _ | refine Below.setCell ?_ (by first | (simp; done) | (simp; omega) | omega) _ | refine Below.drew ?_ | refine below_end ?_ (by assumption) | refine ball ?_ _)
  clear hb1
  have pA' := pA
  obtain ⟨a1, a2, a3, a4⟩ := pA'
  go_upto_region 2 with fail
  have qA := pA.put (.int .i64 (Wnum.cN a b)) (.int .i64 (Wnum.cD a b))
  have qC := pC.far2 (j := w.heap.size) (by omega) (.int .i64 (Wnum.cN a b)) (.int .i64 (Wnum.cD a b))
  have qD := put_below hB (k := w.heap.size) (by omega) (.int .i64 (Wnum.cN a b)) (.int .i64 (Wnum.cD a b))
  clear pA pC hB a1 a2 a3 a4
  generalize (w1.setCell ⟨w.heap.size, 0, none⟩ (.int .i64 (Wnum.cN a b))).setCell ⟨w.heap.size, 1, none⟩ (.int .i64 (Wnum.cD a b)) = W1 at *
  clear w1
  have qA' := qA
  obtain ⟨a1, a2, a3, a4⟩ := qA'
  obtain ⟨c1, c2, c3, c4⟩ := qC
  go_wp2_with (go_at_call 31; refine (size_any _ _ (by omega) (by omega)).mono ?_; rintro e w2 ⟨rfl, rfl⟩)
  refine bodyPost_ret (v := .tuple #[.agg #[.int .i64 (0), .int .i64 (0)], .bool false]) (by simp [results, Tryd.results9, go_sem, c1, c2]) rfl ⟨rfl, ?_⟩
  exact (by with_reducible repeat (first | exact qD | refine below_drewN ?_ _ | refine Below.setCell ?_ (by first | (simp; done) | (simp; omega) | omega) _ | refine Below.drew ?_))

set_option maxHeartbeats 4000000 in
theorem pow_far1t (a b k : Int) (w : World) (h1 : -9223372036854775808 ≤ a) (h2 : a ≤ 9223372036854775807) (h3 : -9223372036854775808 ≤ b) (h4 : b ≤ 9223372036854775807) (k1 : -9223372036854775808 ≤ k) (k2 : k ≤ 9223372036854775807) (hk : (k == 0) = false) (hz : (Wnum.cN a b == 0) = false) (hd : (Wnum.cD a b == 1) = true) (ho : (((Wnum.cN a b).natAbs : Int) == 1) = false) (hf : k < -39) :
    Calls Tryd.prog 9 #[.agg #[.int .i64 a, .int .i64 b], .int .i64 (k)] w fun e w' => e = .returned (.tuple #[.agg #[.int .i64 (0), .int .i64 (0)], .bool false]) ∧ Below w.heap.size w w' := by
  obtain ⟨n1, n2⟩ := Wnum.cN_bd a b
  obtain ⟨n3, n4⟩ := Wnum.cD_bd a b
  go_enter Tryd.func9, Tryd.ntmps9
  go_wp2_with fail
  refine (counted_any _ _ _ h1 h2 h3 h4).mono ?_
  rintro e w1 ⟨rfl, hb1⟩
  have pA : At w1 w.heap.size (.int .i64 a) (.int .i64 b) := At.below hb1 ((At.new w _ rfl _ _).alloc _)
  have pC : At w1 (w.heap.size + 1) (.int .i64 0) (.int .i64 0) := At.below hb1 (At.new (w.alloc _) _ (by simp) _ _)
  have hB : Below w.heap.size w w1 := by with_reducible repeat (first | exact Below.refl _ _ | refine below_drewN ?_ _ | refine Below.setCell ?_ (by first | (simp; done) | (simp; omega) | omega) _ | refine Below.drew ?_ | refine below_end ?_ (by assumption) | refine ball ?_ _)
  clear hb1
  have pA' := pA
  obtain ⟨a1, a2, a3, a4⟩ := pA'
  go_upto_region 2 with fail
  have qA := pA.put (.int .i64 (Wnum.cN a b)) (.int .i64 (Wnum.cD a b))
  have qC := pC.far2 (j := w.heap.size) (by omega) (.int .i64 (Wnum.cN a b)) (.int .i64 (Wnum.cD a b))
  have qD := put_below hB (k := w.heap.size) (by omega) (.int .i64 (Wnum.cN a b)) (.int .i64 (Wnum.cD a b))
  clear pA pC hB a1 a2 a3 a4
  generalize (w1.setCell ⟨w.heap.size, 0, none⟩ (.int .i64 (Wnum.cN a b))).setCell ⟨w.heap.size, 1, none⟩ (.int .i64 (Wnum.cD a b)) = W1 at *
  clear w1
  have qA' := qA
  obtain ⟨a1, a2, a3, a4⟩ := qA'
  obtain ⟨c1, c2, c3, c4⟩ := qC
  go_wp2_with (go_at_call 31; refine (size_any _ _ (by omega) (by omega)).mono ?_; rintro e w2 ⟨rfl, rfl⟩)
  refine bodyPost_ret (v := .tuple #[.agg #[.int .i64 (0), .int .i64 (0)], .bool false]) (by simp [results, Tryd.results9, go_sem, c1, c2]) rfl ⟨rfl, ?_⟩
  exact (by with_reducible repeat (first | exact qD | refine below_drewN ?_ _ | refine Below.setCell ?_ (by first | (simp; done) | (simp; omega) | omega) _ | refine Below.drew ?_))

set_option maxHeartbeats 4000000 in
theorem pow_far2t (a b k : Int) (w : World) (h1 : -9223372036854775808 ≤ a) (h2 : a ≤ 9223372036854775807) (h3 : -9223372036854775808 ≤ b) (h4 : b ≤ 9223372036854775807) (k1 : -9223372036854775808 ≤ k) (k2 : k ≤ 9223372036854775807) (hk : (k == 0) = false) (hz : (Wnum.cN a b == 0) = false) (hd : (Wnum.cD a b == 1) = true) (ho : (((Wnum.cN a b).natAbs : Int) == 1) = false) (hf : ¬ k < -39) (hg : 39 < k) :
    Calls Tryd.prog 9 #[.agg #[.int .i64 a, .int .i64 b], .int .i64 (k)] w fun e w' => e = .returned (.tuple #[.agg #[.int .i64 (0), .int .i64 (0)], .bool false]) ∧ Below w.heap.size w w' := by
  obtain ⟨n1, n2⟩ := Wnum.cN_bd a b
  obtain ⟨n3, n4⟩ := Wnum.cD_bd a b
  go_enter Tryd.func9, Tryd.ntmps9
  go_wp2_with fail
  refine (counted_any _ _ _ h1 h2 h3 h4).mono ?_
  rintro e w1 ⟨rfl, hb1⟩
  have pA : At w1 w.heap.size (.int .i64 a) (.int .i64 b) := At.below hb1 ((At.new w _ rfl _ _).alloc _)
  have pC : At w1 (w.heap.size + 1) (.int .i64 0) (.int .i64 0) := At.below hb1 (At.new (w.alloc _) _ (by simp) _ _)
  have hB : Below w.heap.size w w1 := by with_reducible repeat (first | exact Below.refl _ _ | refine below_drewN ?_ _ | refine Below.setCell ?_ (by first | (simp; done) | (simp; omega) | omega) _ | refine Below.drew ?_ | refine below_end ?_ (by assumption) | refine ball ?_ _)
  clear hb1
  have pA' := pA
  obtain ⟨a1, a2, a3, a4⟩ := pA'
  go_upto_region 2 with fail
  have qA := pA.put (.int .i64 (Wnum.cN a b)) (.int .i64 (Wnum.cD a b))
  have qC := pC.far2 (j := w.heap.size) (by omega) (.int .i64 (Wnum.cN a b)) (.int .i64 (Wnum.cD a b))
  have qD := put_below hB (k := w.heap.size) (by omega) (.int .i64 (Wnum.cN a b)) (.int .i64 (Wnum.cD a b))
  clear pA pC hB a1 a2 a3 a4
  generalize (w1.setCell ⟨w.heap.size, 0, none⟩ (.int .i64 (Wnum.cN a b))).setCell ⟨w.heap.size, 1, none⟩ (.int .i64 (Wnum.cD a b)) = W1 at *
  clear w1
  have qA' := qA
  obtain ⟨a1, a2, a3, a4⟩ := qA'
  obtain ⟨c1, c2, c3, c4⟩ := qC
  go_wp2_with (go_at_call 31; refine (size_any _ _ (by omega) (by omega)).mono ?_; rintro e w2 ⟨rfl, rfl⟩)
  refine bodyPost_ret (v := .tuple #[.agg #[.int .i64 (0), .int .i64 (0)], .bool false]) (by simp [results, Tryd.results9, go_sem, c1, c2]) rfl ⟨rfl, ?_⟩
  exact (by with_reducible repeat (first | exact qD | refine below_drewN ?_ _ | refine Below.setCell ?_ (by first | (simp; done) | (simp; omega) | omega) _ | refine Below.drew ?_))

end Go.Proofs.YtfilmomndhlmbaaDoor
