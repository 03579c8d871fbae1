/- The contract of the reference's Pow, all cases together. -/
import Derived.Test.YtfilmomndhlmbaaDoorWalkZ
namespace Go.Proofs.YtfilmomndhlmbaaDoor
open Go.RowKit
set_option linter.unusedVariables false

theorem par_t (k : Int) : (k.tmod 2 != 0) = decide (k.natAbs % 2 ≠ 0) ∧ (k % 2 != 0) = decide (k.natAbs % 2 ≠ 0) := by
  have e := Int.natAbs_tmod k 2
  have e' : (k.tmod 2).natAbs = k.natAbs % 2 := e
  constructor
  · by_cases h : k.natAbs % 2 = 0
    · rw [decide_eq_false (by omega)]; simp; omega
    · rw [decide_eq_true h]; simp; omega
  · by_cases h : k.natAbs % 2 = 0
    · rw [decide_eq_false (by omega)]; simp; omega
    · rw [decide_eq_true h]; simp; omega

set_option maxHeartbeats 400000 in
theorem rpow_any (a b k : Int) (w : World) (h1 : -9223372036854775808 ≤ a) (h2 : a ≤ 9223372036854775807) (h3 : -9223372036854775808 ≤ b) (h4 : b ≤ 9223372036854775807) (kb1 : -9223372036854775808 ≤ k) (kb2 : k ≤ 9223372036854775807) :
    Calls Tryd.prog 10 #[.agg #[.int .i64 a, .int .i64 b], .int .i64 k] w fun e w' => e = .returned (.tuple #[.agg #[.int .i64 (Wnum.oN (Wnum.powO (Wnum.qu a b) k)), .int .i64 (Wnum.oD (Wnum.powO (Wnum.qu a b) k))], .bool (Wnum.oB (Wnum.powO (Wnum.qu a b) k))]) ∧ Below w.heap.size w w' := by
  obtain ⟨n1, n2⟩ := Wnum.cN_bd a b
  obtain ⟨n3, n4⟩ := Wnum.cD_bd a b
  by_cases hk : k = 0
  · subst hk
    rw [Wnum.powO_zero, Wnum.o_one.1, Wnum.o_one.2.1, Wnum.o_one.2.2]
    exact rpow_k0 a b w h1 h2 h3 h4
  have hk' : (k == 0) = false := by rw [beq_eq_false_iff_ne]; exact hk
  by_cases hz : Wnum.cN a b = 0
  · have hz' : (Wnum.cN a b == 0) = true := by rw [beq_iff_eq]; exact hz
    rw [Wnum.qu_zero hz]
    by_cases hs : k < 0
    · rw [Wnum.powO_none hs]
      exact rpow_z a b k w h1 h2 h3 h4 kb1 kb2 hk' hz' hs
    · rw [Wnum.powO_null (by omega), Wnum.o_zero.1, Wnum.o_zero.2.1, Wnum.o_zero.2.2]
      have := rpow_zp a b k w h1 h2 h3 h4 kb1 kb2 hk' hz' hs
      rw [Wnum.c_null hz, hz] at this
      exact this
  have hz' : (Wnum.cN a b == 0) = false := by rw [beq_eq_false_iff_ne]; exact hz
  obtain ⟨r, n, d, hP, rn, rd, hd1, hnd⟩ : ∃ (r : Rat) (n d : Int), Wnum.powO (Wnum.qu a b) k = some (r ^ k.natAbs) ∧ r.num = n ∧ (r.den : Int) = d ∧ 1 ≤ d ∧
      ((0 < k ∧ n = Wnum.cN a b ∧ d = Wnum.cD a b) ∨ (k < 0 ∧ n = (Wnum.cN a b).sign * Wnum.cD a b ∧ d = ((Wnum.cN a b).natAbs : Int))) := by
    by_cases hs : k < 0
    · obtain ⟨i1, i2⟩ := Wnum.inv_parts hz
      exact ⟨_, _, _, Wnum.powO_neg hs (Wnum.qu_ne hz), i1, i2, by omega, Or.inr ⟨hs, rfl, rfl⟩⟩
    · exact ⟨_, _, _, Wnum.powO_pos (by omega), Wnum.qu_num a b, Wnum.qu_den a b, n3, Or.inl ⟨by omega, rfl, rfl⟩⟩
  rw [hP]
  have sg : (Wnum.cN a b).sign = 1 ∧ 0 < Wnum.cN a b ∨ (Wnum.cN a b).sign = -1 ∧ Wnum.cN a b < 0 := by
    rcases Int.lt_or_lt_of_ne hz with h | h
    · exact Or.inr ⟨Int.sign_eq_neg_one_of_neg h, h⟩
    · exact Or.inl ⟨Int.sign_eq_one_of_pos h, h⟩
  have nneg : n < 0 ↔ Wnum.cN a b < 0 := by
    rcases hnd with ⟨_, rfl, _⟩ | ⟨_, rfl, _⟩
    · exact Iff.rfl
    · rcases sg with ⟨e, h⟩ | ⟨e, h⟩ <;> rw [e] <;> omega
  -- the sign of the answer
  have hmB : ∃ m : Bool, m = (decide (r.num < 0) && decide (k.natAbs % 2 ≠ 0)) ∧ (Wnum.cN a b < 0 → (k.tmod 2 != 0) = m ∧ (k % 2 != 0) = m) ∧ (¬ Wnum.cN a b < 0 → m = false) := by
    refine ⟨_, rfl, ?_, ?_⟩
    · intro h
      rw [rn, decide_eq_true (nneg.2 h), Bool.true_and]
      exact par_t k
    · intro h
      rw [rn, decide_eq_false (fun x => h (nneg.1 x)), Bool.false_and]
  obtain ⟨m, hm, hmn, hmp⟩ := hmB
  by_cases hd : Wnum.cD a b = 1
  · have hd' : (Wnum.cD a b == 1) = true := by rw [beq_iff_eq]; exact hd
    by_cases ho : (Wnum.cN a b).natAbs = 1
    · have hn : n = Wnum.cN a b := by
        rcases hnd with ⟨_, rfl, _⟩ | ⟨_, rfl, _⟩
        · rfl
        · rw [hd, Int.mul_one]
          rcases sg with ⟨e, h⟩ | ⟨e, h⟩ <;> rw [e] <;> omega
      have hdd : d = 1 := by
        rcases hnd with ⟨_, _, rfl⟩ | ⟨_, _, rfl⟩
        · exact hd
        · omega
      have pd : Wnum.pw d k.natAbs = 1 := by rw [hdd]; unfold Wnum.pw; exact Int.one_pow
      by_cases hm : k.natAbs % 2 = 0
      · obtain ⟨j, hj⟩ : ∃ j, k.natAbs = 2 * j := ⟨k.natAbs / 2, by omega⟩
        have pn : Wnum.pw n k.natAbs = 1 := by rw [hn, hj]; exact Wnum.pw_one_even ho j
        obtain ⟨y1, y2, y3⟩ := Wnum.oNs (r := r ^ k.natAbs) (Wnum.ok_iff.2 (by rw [Wnum.pow_num rn, Wnum.pow_den rd, pn, pd]; omega))
        rw [y1, y2, y3, Wnum.pow_num rn, Wnum.pow_den rd, pn, pd]
        by_cases h1' : Wnum.cN a b = 1
        · exact rpow_p1 a b k w h1 h2 h3 h4 kb1 kb2 hk' hz' hd' (by rw [beq_iff_eq]; exact h1') (by rw [beq_eq_false_iff_ne]; omega)
        · exact rpow_even a b k w h1 h2 h3 h4 kb1 kb2 hk' hz' hd' (by rw [beq_eq_false_iff_ne]; exact h1') (by rw [beq_iff_eq]; omega) (by rw [(par_t k).1]; exact decide_eq_false (by omega))
      · obtain ⟨j, hj⟩ : ∃ j, k.natAbs = 2 * j + 1 := ⟨k.natAbs / 2, by omega⟩
        have pn : Wnum.pw n k.natAbs = Wnum.cN a b := by rw [hn, hj]; exact Wnum.pw_one_odd ho j
        obtain ⟨y1, y2, y3⟩ := Wnum.oNs (r := r ^ k.natAbs) (Wnum.ok_iff.2 (by rw [Wnum.pow_num rn, Wnum.pow_den rd, pn, pd]; omega))
        rw [y1, y2, y3, Wnum.pow_num rn, Wnum.pow_den rd, pn, pd]
        by_cases h1' : Wnum.cN a b = 1
        · rw [h1']
          exact rpow_p1 a b k w h1 h2 h3 h4 kb1 kb2 hk' hz' hd' (by rw [beq_iff_eq]; exact h1') (by rw [beq_eq_false_iff_ne]; omega)
        · have := rpow_odd a b k w h1 h2 h3 h4 kb1 kb2 hk' hz' hd' (by rw [beq_eq_false_iff_ne]; exact h1') (by rw [beq_iff_eq]; omega) (by rw [(par_t k).1]; exact decide_eq_true hm)
          rw [hd] at this
          exact this
    · have ho1 : (Wnum.cN a b == 1) = false := by rw [beq_eq_false_iff_ne]; omega
      have ho2 : (Wnum.cN a b == -1) = false := by rw [beq_eq_false_iff_ne]; omega
      rcases hnd with ⟨hs, e1, e2⟩ | ⟨hs, e1, e2⟩
      · exact rpow_pt a b k _ _ k.natAbs r m w h1 h2 h3 h4 kb1 kb2 hk' hz' hd' ho1 ho2 (by omega) (show (k.natAbs : Int) = (k.natAbs : Int) from rfl) (show ((Wnum.cN a b).natAbs : Int) = _ from rfl) (show Wnum.cD a b = _ from rfl) (show (r.num.natAbs : Int) = _ by rw [rn, e1]) (show (r.den : Int) = _ by rw [rd, e2]) hm hmn hmp
      · exact rpow_nt a b k _ _ k.natAbs r m w h1 h2 h3 h4 kb1 kb2 hk' hz' hd' ho1 ho2 hs (show (k.natAbs : Int) = (k.natAbs : Int) from rfl) (show Wnum.cD a b = _ from rfl) (show ((Wnum.cN a b).natAbs : Int) = _ from rfl) (show (r.num.natAbs : Int) = _ by rw [rn, e1]; rcases sg with ⟨e, h⟩ | ⟨e, h⟩ <;> rw [e] <;> omega) (show (r.den : Int) = _ by rw [rd, e2]) hm hmn hmp
  · have hd' : (Wnum.cD a b == 1) = false := by rw [beq_eq_false_iff_ne]; exact hd
    rcases hnd with ⟨hs, e1, e2⟩ | ⟨hs, e1, e2⟩
    · exact rpow_pf a b k _ _ k.natAbs r m w h1 h2 h3 h4 kb1 kb2 hk' hz' hd' (by omega) (show (k.natAbs : Int) = (k.natAbs : Int) from rfl) (show ((Wnum.cN a b).natAbs : Int) = _ from rfl) (show Wnum.cD a b = _ from rfl) (show (r.num.natAbs : Int) = _ by rw [rn, e1]) (show (r.den : Int) = _ by rw [rd, e2]) hm hmn hmp
    · exact rpow_nf a b k _ _ k.natAbs r m w h1 h2 h3 h4 kb1 kb2 hk' hz' hd' hs (show (k.natAbs : Int) = (k.natAbs : Int) from rfl) (show Wnum.cD a b = _ from rfl) (show ((Wnum.cN a b).natAbs : Int) = _ from rfl) (show (r.num.natAbs : Int) = _ by rw [rn, e1]; rcases sg with ⟨e, h⟩ | ⟨e, h⟩ <;> rw [e] <;> omega) (show (r.den : Int) = _ by rw [rd, e2]) hm hmn hmp
end Go.Proofs.YtfilmomndhlmbaaDoor
