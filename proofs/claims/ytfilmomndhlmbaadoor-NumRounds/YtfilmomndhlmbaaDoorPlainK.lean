/- Plain facts on where Floor and Mod lie. -/
import Derived.Test.YtfilmomndhlmbaaDoorPlainE
import Derived.Test.YtfilmomndhlmbaaDoorPlainH
namespace Go.Proofs.YtfilmomndhlmbaaDoor.Wnum

theorem divInt_one (F : Int) : Rat.divInt F 1 = (F : Rat) := by
  obtain ⟨h1, h2⟩ := divInt_parts (n := F) (d := 1) (by omega) (by simp)
  exact Rat.ext h1 (by rw [Rat.den_intCast]; omega)
theorem right_whole {F : Int} (h1 : -1000000000000 ≤ F) (h2 : F ≤ 1000000000000) : rightB F 1 = true :=
  right_iff.2 ⟨h1, h2, by omega, by omega, by simp⟩
theorem floor_in {a b : Int} (h : rightB a b = true) : -1000000000000 ≤ a / b ∧ a / b ≤ 1000000000000 := by
  obtain ⟨h1, h2, h3, h4, _⟩ := right_iff.1 h
  constructor
  · rw [Int.le_ediv_iff_mul_le (by omega)]
    have := Int.mul_le_mul_of_nonneg_left h3 (show (0 : Int) ≤ 1000000000000 by omega)
    omega
  · have := Int.ediv_le_ediv (show 0 < b by omega) h2
    have := Int.ediv_le_self (a := 1000000000000) b (by omega)
    omega
theorem qu_whole {F : Int} (h1 : -1000000000000 ≤ F) (h2 : F ≤ 1000000000000) : qu F 1 = (F : Rat) := by
  have h := right_whole h1 h2
  unfold qu
  rw [cN_right h, cD_right h]
  exact divInt_one F
theorem floor_le {a b : Int} (h : rightB a b = true) : ((a / b : Int) : Rat) ≤ qu a b := by
  obtain ⟨h1, h2, h3, h4, _⟩ := right_iff.1 h
  rw [Rat.le_iff, qu_num, qu_den, cN_right h, cD_right h, Rat.num_intCast, Rat.den_intCast]
  have := Int.ediv_mul_le a (show b ≠ 0 by omega)
  simp; omega
theorem lt_floor {a b : Int} (h : rightB a b = true) : qu a b < ((a / b : Int) : Rat) + 1 := by
  obtain ⟨h1, h2, h3, h4, _⟩ := right_iff.1 h
  have e : ((a / b : Int) : Rat) + 1 = ((a / b + 1 : Int) : Rat) := by rw [Rat.intCast_add]; rfl
  rw [e, Rat.lt_iff, qu_num, qu_den, cN_right h, cD_right h, Rat.num_intCast, Rat.den_intCast]
  have := Int.lt_ediv_add_one_mul_self a (show 0 < b by omega)
  simp; omega
/-- Mod's parts. -/
theorem over_one {x y D : Int} (hD : 1 ≤ D) : Rat.divInt x D < Rat.divInt y D ↔ x < y := by
  have h : (0 : Rat) < (D : Rat) := Rat.intCast_pos.2 (by omega)
  have h' : (D : Rat) ≠ 0 := fun e => by rw [e] at h; exact Rat.lt_irrefl h
  rw [Rat.divInt_eq_div, Rat.divInt_eq_div, Rat.div_lt_iff h, Rat.div_mul_cancel h', Rat.intCast_lt_intCast]
theorem qu_over {a b c d : Int} : qu a b = Rat.divInt (cN a b * cD c d) (cD a b * cD c d) := by
  have h1 := cD_bd c d
  unfold qu
  exact (Rat.divInt_mul_right (by omega)).symm
theorem qu_over' {a b c d : Int} : qu c d = Rat.divInt (cN c d * cD a b) (cD a b * cD c d) := by
  rw [Int.mul_comm (cD a b)]
  exact qu_over
theorem fmod_sides {x y : Int} (hy : y ≠ 0) : (0 < y ∧ 0 ≤ x.fmod y ∧ x.fmod y < y) ∨ (y < 0 ∧ y < x.fmod y ∧ x.fmod y ≤ 0) := by
  rcases Int.lt_or_lt_of_ne hy with h | h
  · right
    have h1 := Int.fmod_nonneg_of_pos (-x) (show 0 < -y by omega)
    have h2 := Int.fmod_lt_of_pos (-x) (show 0 < -y by omega)
    rw [Int.neg_fmod_neg] at h1 h2
    omega
  · left
    exact ⟨h, Int.fmod_nonneg_of_pos x h, Int.fmod_lt_of_pos x h⟩
theorem mod_sides {a b c d : Int} (h : cN c d ≠ 0) : ∃ M : Rat, modO a b c d = some M ∧
    ((0 < qu c d ∧ 0 ≤ M ∧ M < qu c d) ∨ (qu c d < 0 ∧ qu c d < M ∧ M ≤ 0)) ∧ (((qu a b - M) / qu c d).den = 1) := by
  have h1 := cD_bd a b
  have h2 := cD_bd c d
  have hD : 1 ≤ cD a b * cD c d := by have := Int.mul_le_mul h1.1 h2.1 (by omega) (by omega); omega
  have hy : cN c d * cD a b ≠ 0 := by simp; omega
  refine ⟨_, modO_some h, ?_, ?_⟩
  · rw [qu_over' (a := a) (b := b)]
    have hz : (0 : Rat) = Rat.divInt 0 (cD a b * cD c d) := (Rat.zero_divInt _).symm
    rcases fmod_sides (x := cN a b * cD c d) hy with ⟨k1, k2, k3⟩ | ⟨k1, k2, k3⟩
    · left
      refine ⟨?_, ?_, (over_one hD).2 k3⟩
      · rw [hz]; exact (over_one hD).2 k1
      · rw [← Rat.not_lt, hz, over_one hD]; omega
    · right
      refine ⟨?_, (over_one hD).2 k2, ?_⟩
      · rw [hz]; exact (over_one hD).2 k1
      · rw [← Rat.not_lt, hz, over_one hD]; omega
  · have e : qu a b - Rat.divInt ((cN a b * cD c d).fmod (cN c d * cD a b)) (cD a b * cD c d) = (((cN a b * cD c d).fdiv (cN c d * cD a b) : Int) : Rat) * qu c d := by
      rw [qu_over (a := a) (b := b) (c := c) (d := d), qu_over' (a := a) (b := b) (c := c) (d := d), ← divInt_one ((cN a b * cD c d).fdiv _), Rat.divInt_mul_divInt, Rat.sub_eq_add_neg, Rat.neg_divInt, Rat.divInt_add_divInt _ _ (by omega) (by omega), Int.one_mul]
      rw [← Int.add_mul, Rat.divInt_mul_right (by omega)]
      have := Int.fmod_add_mul_fdiv (cN a b * cD c d) (cN c d * cD a b)
      congr 1
      rw [Int.mul_comm ((cN a b * cD c d).fdiv _)]
      omega
    rw [e, Rat.div_def, Rat.mul_assoc, Rat.mul_inv_cancel _ (qu_ne h), Rat.mul_one]
    exact Rat.den_intCast _
theorem whole_den {r : Rat} (h : r.den = 1) (ho : oB (some r) = true) : (cD (oN (some r)) (oD (some r)) == 1) = true := by
  rw [cD_right (right_o ho), (oNs ho).2.1, h]; rfl
end Go.Proofs.YtfilmomndhlmbaaDoor.Wnum
