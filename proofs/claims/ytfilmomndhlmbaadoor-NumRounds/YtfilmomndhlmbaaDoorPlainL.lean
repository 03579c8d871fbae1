/- Plain facts on what Round answers. -/
import Derived.Test.YtfilmomndhlmbaaDoorPlainF
import Derived.Test.YtfilmomndhlmbaaDoorPlainK
namespace Go.Proofs.YtfilmomndhlmbaaDoor.Wnum

theorem le_rq {W P m : Int} (hP : 1 ≤ P) : m ≤ rq W P ↔ 2 * (m * P) ≤ 2 * W + P := by
  have h1 := Int.ediv_mul_add_emod W P
  have h2 := Int.emod_nonneg W (show P ≠ 0 by omega)
  have h3 := Int.emod_lt_of_pos W (show 0 < P by omega)
  have up : ∀ {x y : Int}, x ≤ y → x * P ≤ y * P := fun h => Int.mul_le_mul_of_nonneg_right h (by omega)
  by_cases c : P - W % P ≤ W % P
  · rw [rq_pos c]
    constructor
    · intro h
      have := up h
      rw [Int.add_mul, Int.one_mul] at this
      omega
    · intro h
      rcases Int.lt_or_le (W / P + 1) m with k | k
      · have := up (show W / P + 1 + 1 ≤ m by omega)
        rw [Int.add_mul, Int.add_mul, Int.one_mul] at this
        omega
      · exact k
  · rw [rq_neg c]
    constructor
    · intro h
      have := up h
      omega
    · intro h
      rcases Int.lt_or_le (W / P) m with k | k
      · have := up (show W / P + 1 ≤ m by omega)
        rw [Int.add_mul, Int.one_mul] at this
        omega
      · exact k
theorem rq_nonneg {W P : Int} (hW : 0 ≤ W) (hP : 1 ≤ P) : 0 ≤ rq W P := (le_rq hP).2 (by omega)
theorem rq_mono {W1 P1 W2 P2 : Int} (h1 : 1 ≤ P1) (h2 : 1 ≤ P2) (hW : 0 ≤ W2) (h : W1 * P2 ≤ W2 * P1) : rq W1 P1 ≤ rq W2 P2 := by
  have e := (le_rq (m := rq W1 P1) h1).1 (Int.le_refl _)
  generalize rq W1 P1 = m at *
  refine (le_rq h2).2 ?_
  rcases Int.lt_or_le 0 m with k | k
  · have e1 : (2 * m - 1) * P1 ≤ 2 * W1 := by rw [Int.sub_mul, Int.one_mul, Int.mul_assoc]; omega
    have e2 : (2 * m - 1) * P1 * P2 ≤ 2 * W1 * P2 := Int.mul_le_mul_of_nonneg_right e1 (by omega)
    have e3 : (2 * m - 1) * P2 * P1 ≤ 2 * W2 * P1 := by
      have a1 : (2 * m - 1) * P2 * P1 = (2 * m - 1) * P1 * P2 := by rw [Int.mul_assoc, Int.mul_comm P2, ← Int.mul_assoc]
      have a2 : 2 * W1 * P2 = 2 * (W1 * P2) := Int.mul_assoc ..
      have a3 : 2 * W2 * P1 = 2 * (W2 * P1) := Int.mul_assoc ..
      omega
    have e4 : (2 * m - 1) * P2 ≤ 2 * W2 := Int.le_of_mul_le_mul_right e3 (by omega)
    rw [Int.sub_mul, Int.one_mul, Int.mul_assoc] at e4
    omega
  · have : m * P2 ≤ 0 * P2 := Int.mul_le_mul_of_nonneg_right k (by omega)
    omega
theorem rq_exact {m P : Int} (hP : 1 ≤ P) : rq (m * P) P = m := by
  have h1 : m * P % P = 0 := Int.mul_emod_left m P
  rw [rq_neg (by rw [h1]; omega), Int.mul_ediv_cancel _ (by omega)]
/-- The units, and what they make. -/
def rm (N D k : Int) : Int := if k < 0 then rq (N.natAbs : Int) (D * tenP (-k).toNat) else rq ((N.natAbs : Int) * tenP k.toNat) D
def rR (N D k : Int) : Rat := if k < 0 then Rat.divInt (N.sign * rm N D k * tenP (-k).toNat) 1 else Rat.divInt (N.sign * rm N D k) (tenP k.toNat)
theorem roundO_in {a b k : Int} (h1 : -12 ≤ k) (h2 : k ≤ 6) : roundO a b k = some (rR (cN a b) (cD a b) k) := by
  unfold roundO rR rm
  rw [if_neg (by omega)]
  by_cases h : k < 0
  · rw [if_pos h, if_pos h, if_pos h]
  · rw [if_neg h, if_neg h, if_neg h]
theorem roundO_out {a b k : Int} (h : k < -12 ∨ 6 < k) : roundO a b k = none := if_pos h
theorem rm_zero {D k : Int} (hD : 1 ≤ D) : rm 0 D k = 0 := by
  have h1 := tenP_pos (-k).toNat
  have h2 : 1 ≤ D * tenP (-k).toNat := by have := Int.mul_le_mul hD h1 (by omega) (by omega); omega
  unfold rm
  split
  · have := rq_exact (m := 0) h2; simpa using this
  · have := rq_exact (m := 0) hD; simpa using this
theorem rm_nonneg {N D k : Int} (hD : 1 ≤ D) : 0 ≤ rm N D k := by
  have h1 := tenP_pos (-k).toNat
  have h2 : 1 ≤ D * tenP (-k).toNat := by have := Int.mul_le_mul hD h1 (by omega) (by omega); omega
  have h3 := tenP_pos k.toNat
  unfold rm
  split
  · exact rq_nonneg (by omega) h2
  · exact rq_nonneg (Int.mul_nonneg (by omega) (by omega)) hD
theorem rm_mono {N D M E k : Int} (hD : 1 ≤ D) (hE : 1 ≤ E) (h : (N.natAbs : Int) * E ≤ (M.natAbs : Int) * D) : rm N D k ≤ rm M E k := by
  have t1 := tenP_pos (-k).toNat
  have t2 := tenP_pos k.toNat
  have h2 : 1 ≤ D * tenP (-k).toNat := by have := Int.mul_le_mul hD t1 (by omega) (by omega); omega
  have h3 : 1 ≤ E * tenP (-k).toNat := by have := Int.mul_le_mul hE t1 (by omega) (by omega); omega
  unfold rm
  split
  · refine rq_mono h2 h3 (by omega) ?_
    rw [← Int.mul_assoc, ← Int.mul_assoc]
    exact Int.mul_le_mul_of_nonneg_right h (by omega)
  · refine rq_mono hD hE (Int.mul_nonneg (by omega) (by omega)) ?_
    rw [Int.mul_assoc, Int.mul_comm (tenP _), ← Int.mul_assoc, Int.mul_assoc (M.natAbs : Int), Int.mul_comm (tenP _), ← Int.mul_assoc]
    exact Int.mul_le_mul_of_nonneg_right h (by omega)
theorem rm_sign {N D k : Int} (hD : 1 ≤ D) : N.sign * rm N D k = if N < 0 then -(rm N D k) else rm N D k := by
  rcases Int.lt_trichotomy N 0 with h | h | h
  · rw [if_pos h, Int.sign_eq_neg_one_of_neg h]; omega
  · subst h; rw [if_neg (by omega), rm_zero hD]; rfl
  · rw [if_neg (by omega), Int.sign_eq_one_of_pos h, Int.one_mul]
theorem rR_le {N D M E k : Int} (h : N.sign * rm N D k ≤ M.sign * rm M E k) : rR N D k ≤ rR M E k := by
  have t1 := tenP_pos (-k).toNat
  have t2 := tenP_pos k.toNat
  unfold rR
  by_cases c : k < 0
  · rw [if_pos c, if_pos c, ← Rat.not_lt, over_one (by omega), Int.not_lt]
    exact Int.mul_le_mul_of_nonneg_right h (by omega)
  · rw [if_neg c, if_neg c, ← Rat.not_lt, over_one t2, Int.not_lt]
    exact h
theorem rR_mono {a b c d k : Int} (h : qu a b ≤ qu c d) : rR (cN a b) (cD a b) k ≤ rR (cN c d) (cD c d) k := by
  have h1 := (cD_bd a b).1
  have h2 := (cD_bd c d).1
  rw [Rat.le_iff, qu_num, qu_num, qu_den, qu_den] at h
  refine rR_le ?_
  rw [rm_sign h1, rm_sign h2]
  have n1 := rm_nonneg (N := cN a b) (k := k) h1
  have n2 := rm_nonneg (N := cN c d) (k := k) h2
  by_cases c1 : cN a b < 0
  · rw [if_pos c1]
    by_cases c2 : cN c d < 0
    · rw [if_pos c2]
      have e1 : ((cN a b).natAbs : Int) = -(cN a b) := by omega
      have e2 : ((cN c d).natAbs : Int) = -(cN c d) := by omega
      have := rm_mono (N := cN c d) (M := cN a b) (k := k) h2 h1 (by rw [e1, e2, Int.neg_mul, Int.neg_mul]; omega)
      omega
    · rw [if_neg c2]; omega
  · have c2 : ¬ cN c d < 0 := by
      intro c2
      have q1 : 0 ≤ cN a b * cD c d := Int.mul_nonneg (by omega) (by omega)
      have q2 : cN c d * cD a b ≤ -1 * cD a b := Int.mul_le_mul_of_nonneg_right (by omega) (by omega)
      omega
    rw [if_neg c1, if_neg c2]
    have e1 : ((cN a b).natAbs : Int) = cN a b := by omega
    have e2 : ((cN c d).natAbs : Int) = cN c d := by omega
    exact rm_mono h1 h2 (by rw [e1, e2]; exact h)
theorem rR_neg (N D k : Int) : rR (-N) D k = -(rR N D k) := by
  have e : rm (-N) D k = rm N D k := by unfold rm; rw [Int.natAbs_neg]
  unfold rR
  rw [e, Int.sign_neg, Int.neg_mul]
  split
  · rw [Int.neg_mul, Rat.neg_divInt]
  · rw [Rat.neg_divInt]
theorem rR_again {N D k : Int} : rR (rR N D k).num ((rR N D k).den : Int) k = rR N D k := by
  have t1 := tenP_pos (-k).toNat
  have t2 := tenP_pos k.toNat
  by_cases c : k < 0
  · have e : rR N D k = Rat.divInt (N.sign * rm N D k * tenP (-k).toNat) 1 := by unfold rR; rw [if_pos c]
    generalize N.sign * rm N D k = z at e
    rw [divInt_one] at e
    rw [e, Rat.num_intCast, Rat.den_intCast]
    have e2 : rm (z * tenP (-k).toNat) ((1 : Nat) : Int) k = (z.natAbs : Int) := by
      unfold rm
      rw [if_pos c, Int.natAbs_mul, show ((1 : Nat) : Int) = 1 by rfl, Int.one_mul]
      rw [show ((z.natAbs * (tenP (-k).toNat).natAbs : Nat) : Int) = (z.natAbs : Int) * tenP (-k).toNat by rw [Int.natCast_mul]; congr 1]
      exact rq_exact t1
    unfold rR
    rw [if_pos c, e2, Int.sign_mul, Int.sign_eq_one_of_pos (show 0 < tenP (-k).toNat by omega), Int.mul_one, Int.sign_mul_natAbs, divInt_one]
  · have e : rR N D k = Rat.divInt (N.sign * rm N D k) (tenP k.toNat) := by unfold rR; rw [if_neg c]
    generalize N.sign * rm N D k = z at e
    generalize rR N D k = r at *
    have hd := r.den_pos
    have e1 : r.num * tenP k.toNat = z * (r.den : Int) := by
      have : Rat.divInt r.num (r.den : Int) = Rat.divInt z (tenP k.toNat) := by rw [rat_self, e]
      exact (Rat.divInt_eq_divInt_iff (by omega) (by omega)).1 this
    have e2 : (r.num.natAbs : Int) * tenP k.toNat = (z.natAbs : Int) * (r.den : Int) := by
      have := congrArg Int.natAbs e1
      rw [Int.natAbs_mul, Int.natAbs_mul] at this
      have q : ((tenP k.toNat).natAbs : Int) = tenP k.toNat := by omega
      have q2 : (((r.den : Int)).natAbs : Int) = (r.den : Int) := by omega
      rw [← q, ← q2, ← Int.natCast_mul, ← Int.natCast_mul]
      omega
    have e3 : rm r.num (r.den : Int) k = (z.natAbs : Int) := by
      unfold rm
      rw [if_neg c, e2]
      exact rq_exact (by omega)
    have e4 : r.num.sign = z.sign := by
      have := congrArg Int.sign e1
      rw [Int.sign_mul, Int.sign_mul, Int.sign_eq_one_of_pos (show 0 < tenP k.toNat by omega), Int.sign_eq_one_of_pos (show 0 < (r.den : Int) by omega)] at this
      omega
    conv => lhs; unfold rR
    rw [if_neg c, e3, e4, Int.sign_mul_natAbs, ← e]
/-- To no places. -/
theorem round_zero {N D : Int} (hD : 1 ≤ D) : ∃ Z : Int, rR N D 0 = (Z : Rat) ∧ (Z = N / D ∨ Z = N / D + 1) ∧ (D = 1 → Z = N) ∧ (∀ B : Int, 1 ≤ B → -B ≤ N → N ≤ B → -B ≤ Z ∧ Z ≤ B) := by
  have e0 : rR N D 0 = ((N.sign * rq (N.natAbs : Int) D : Int) : Rat) := by
    unfold rR rm
    rw [if_neg (by omega), if_neg (by omega), show (0 : Int).toNat = 0 by rfl, tenP_zero, Int.mul_one, divInt_one]
  refine ⟨_, e0, ?_⟩
  have s0 : N.sign * rq (N.natAbs : Int) D = if N < 0 then -(rq (N.natAbs : Int) D) else rq (N.natAbs : Int) D := by
    rcases Int.lt_trichotomy N 0 with h | h | h
    · rw [if_pos h, Int.sign_eq_neg_one_of_neg h]; omega
    · subst h; rw [if_neg (by omega)]; have := rq_exact (m := 0) hD; simp at this; simp [this]
    · rw [if_neg (by omega), Int.sign_eq_one_of_pos h, Int.one_mul]
  rw [s0]
  have h1 := Int.ediv_mul_add_emod (N.natAbs : Int) D
  have h2 := Int.emod_nonneg (N.natAbs : Int) (show D ≠ 0 by omega)
  have h3 := Int.emod_lt_of_pos (N.natAbs : Int) (show 0 < D by omega)
  have h4 := Int.ediv_nonneg (show (0 : Int) ≤ (N.natAbs : Int) by omega) (show 0 ≤ D by omega)
  have hf : N < 0 → (((N.natAbs : Int) % D = 0 ∧ N / D = -((N.natAbs : Int) / D)) ∨ (0 < (N.natAbs : Int) % D ∧ N / D = -((N.natAbs : Int) / D) - 1)) := by
    intro hn
    have e1 : (N.natAbs : Int) = -N := by omega
    rw [e1] at h1 h2 h3 ⊢
    have g1 := Int.ediv_mul_add_emod N D
    have g2 := Int.emod_nonneg N (show D ≠ 0 by omega)
    have g3 := Int.emod_lt_of_pos N (show 0 < D by omega)
    have key : (N / D + -N / D) * D = -(N % D + -N % D) := by rw [Int.add_mul]; omega
    have k1 : N / D + -N / D = 0 ∨ N / D + -N / D = -1 := by
      generalize N / D + -N / D = t at key
      rcases Int.lt_or_le 0 t with h | h
      · have := Int.mul_le_mul_of_nonneg_right (show 1 ≤ t by omega) (show 0 ≤ D by omega)
        omega
      · rcases Int.lt_or_le t (-1) with h' | h'
        · have := Int.mul_le_mul_of_nonneg_right (show t ≤ -2 by omega) (show 0 ≤ D by omega)
          omega
        · omega
    rcases k1 with k | k
    · rw [k] at key
      left; omega
    · rw [k] at key
      right; omega
  have small : (N.natAbs : Int) / D ≤ (N.natAbs : Int) := Int.ediv_le_self _ (by omega)
  have up1 : D - (N.natAbs : Int) % D ≤ (N.natAbs : Int) % D → (N.natAbs : Int) / D + 1 ≤ (N.natAbs : Int) := by
    intro h
    have hD2 : 2 ≤ D := by omega
    have := Int.mul_le_mul_of_nonneg_left hD2 h4
    omega
  have d1 : D = 1 → (N.natAbs : Int) / D = (N.natAbs : Int) := by intro h; rw [h]; exact Int.ediv_one _
  by_cases c : D - (N.natAbs : Int) % D ≤ (N.natAbs : Int) % D
  · rw [rq_pos c]
    have up2 := up1 c
    by_cases hn : N < 0
    · rw [if_pos hn]
      have := hf hn
      refine ⟨by omega, fun h => by omega, fun B _ _ _ => by omega⟩
    · rw [if_neg hn]
      have e1 : (N.natAbs : Int) = N := by omega
      have e2 : N / D = (N.natAbs : Int) / D := by rw [e1]
      refine ⟨by omega, fun h => by omega, fun B _ _ _ => by omega⟩
  · rw [rq_neg c]
    by_cases hn : N < 0
    · rw [if_pos hn]
      have := hf hn
      refine ⟨by omega, fun h => by have := d1 h; omega, fun B _ _ _ => by omega⟩
    · rw [if_neg hn]
      have e1 : (N.natAbs : Int) = N := by omega
      have e2 : N / D = (N.natAbs : Int) / D := by rw [e1]
      refine ⟨by omega, fun h => by have := d1 h; omega, fun B _ _ _ => by omega⟩
end Go.Proofs.YtfilmomndhlmbaaDoor.Wnum
