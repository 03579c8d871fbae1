/- Plain facts on the order of numbers. -/
import Derived.Test.YtfilmomndhlmbaaDoorPlainG
namespace Go.Proofs.YtfilmomndhlmbaaDoor.Wnum

/-- The order of two, told by a number. -/
def cs (p q : Rat) : Int := if p < q then -1 else if q < p then 1 else 0
theorem cmp_cs (a b c d : Int) : (cN a b * cD c d - cN c d * cD a b).sign = cs (qu a b) (qu c d) := by
  have h1 : qu a b < qu c d ↔ cN a b * cD c d < cN c d * cD a b := by rw [Rat.lt_iff, qu_num, qu_num, qu_den, qu_den]
  have h2 : qu c d < qu a b ↔ cN c d * cD a b < cN a b * cD c d := by rw [Rat.lt_iff, qu_num, qu_num, qu_den, qu_den]
  unfold cs
  by_cases c1 : cN a b * cD c d < cN c d * cD a b
  · rw [if_pos (h1.2 c1)]; exact Int.sign_eq_neg_one_of_neg (by omega)
  · rw [if_neg (fun h => c1 (h1.1 h))]
    by_cases c2 : cN c d * cD a b < cN a b * cD c d
    · rw [if_pos (h2.2 c2)]; exact Int.sign_eq_one_of_pos (by omega)
    · rw [if_neg (fun h => c2 (h2.1 h)), show cN a b * cD c d - cN c d * cD a b = 0 by omega]; rfl
theorem cs_three (p q : Rat) : (cs p q = -1 ∧ p < q) ∨ (cs p q = 0 ∧ p = q) ∨ (cs p q = 1 ∧ q < p) := by
  unfold cs
  by_cases c1 : p < q
  · rw [if_pos c1]; exact Or.inl ⟨rfl, c1⟩
  · rw [if_neg c1]
    by_cases c2 : q < p
    · rw [if_pos c2]; exact Or.inr (Or.inr ⟨rfl, c2⟩)
    · rw [if_neg c2]; exact Or.inr (Or.inl ⟨rfl, Rat.le_antisymm (Rat.not_lt.1 c2) (Rat.not_lt.1 c1)⟩)
theorem cs_lt {p q : Rat} (h : p < q) : cs p q = -1 := if_pos h
theorem cs_eq (p : Rat) : cs p p = 0 := by
  unfold cs; rw [if_neg Rat.lt_irrefl, if_neg Rat.lt_irrefl]
theorem cs_gt {p q : Rat} (h : q < p) : cs p q = 1 := by
  unfold cs; rw [if_neg (Rat.not_lt.2 (Rat.le_of_lt h)), if_pos h]
theorem cs_bd (p q : Rat) : -1 ≤ cs p q ∧ cs p q ≤ 1 := by
  rcases cs_three p q with ⟨h, _⟩ | ⟨h, _⟩ | ⟨h, _⟩ <;> omega
theorem cs_anti (p q : Rat) : cs q p = -(cs p q) := by
  rcases cs_three p q with ⟨h, h'⟩ | ⟨h, h'⟩ | ⟨h, h'⟩
  · rw [h, cs_gt h']; rfl
  · subst h'; rw [h]; rfl
  · rw [h, cs_lt h']
theorem cs_zero {p q : Rat} : cs p q = 0 ↔ p = q := by
  rcases cs_three p q with ⟨h, h'⟩ | ⟨h, h'⟩ | ⟨h, h'⟩
  · exact ⟨fun k => by omega, fun k => absurd k (Rat.ne_of_lt h')⟩
  · exact ⟨fun _ => h', fun _ => h⟩
  · exact ⟨fun k => by omega, fun k => absurd k.symm (Rat.ne_of_lt h')⟩
theorem cs_le {p q : Rat} : cs p q ≤ 0 ↔ p ≤ q := by
  rcases cs_three p q with ⟨h, h'⟩ | ⟨h, h'⟩ | ⟨h, h'⟩
  · exact ⟨fun _ => Rat.le_of_lt h', fun _ => by omega⟩
  · exact ⟨fun _ => by rw [h']; exact Rat.le_refl, fun _ => by omega⟩
  · exact ⟨fun k => by omega, fun k => absurd h' (Rat.not_lt.2 k)⟩
theorem cs_trans {p q r : Rat} (h1 : cs p q ≤ 0) (h2 : cs q r ≤ 0) : cs p r ≤ 0 := cs_le.2 (Rat.le_trans (cs_le.1 h1) (cs_le.1 h2))
theorem cs_add (p q r : Rat) : cs (p + r) (q + r) = cs p q := by
  rcases cs_three p q with ⟨h, h'⟩ | ⟨h, h'⟩ | ⟨h, h'⟩
  · rw [h]; exact cs_lt (Rat.add_lt_add_right.2 h')
  · subst h'; rw [h]; exact cs_eq _
  · rw [h]; exact cs_gt (Rat.add_lt_add_right.2 h')
theorem cs_mul (p q r : Rat) : cs (p * r) (q * r) = cs p q * cs r 0 := by
  rcases cs_three r 0 with ⟨hr, hr'⟩ | ⟨hr, hr'⟩ | ⟨hr, hr'⟩
  · have hn : 0 < -r := by have := Rat.neg_lt_neg hr'; rwa [Rat.neg_zero] at this
    have e : ∀ x y : Rat, x < y → y * r < x * r := fun x y h => by
      have := Rat.mul_lt_mul_of_pos_right h hn
      rw [Rat.mul_neg, Rat.mul_neg] at this
      exact Rat.neg_lt_neg_iff.1 this
    rw [hr]
    rcases cs_three p q with ⟨h, h'⟩ | ⟨h, h'⟩ | ⟨h, h'⟩
    · rw [h]; exact cs_gt (e _ _ h')
    · subst h'; rw [h]; exact cs_eq _
    · rw [h]; exact cs_lt (e _ _ h')
  · rw [hr, hr', Rat.mul_zero, Rat.mul_zero, cs_eq, Int.mul_zero]
  · rw [hr]
    rcases cs_three p q with ⟨h, h'⟩ | ⟨h, h'⟩ | ⟨h, h'⟩
    · rw [h]; exact cs_lt (Rat.mul_lt_mul_of_pos_right h' hr')
    · subst h'; rw [h]; exact cs_eq _
    · rw [h]; exact cs_gt (Rat.mul_lt_mul_of_pos_right h' hr')
theorem qu_inj {a b c d : Int} (h1 : rightB a b = true) (h2 : rightB c d = true) : qu a b = qu c d ↔ a = c ∧ b = d := by
  constructor
  · intro h
    have e1 := qu_num a b
    have e2 := qu_den a b
    rw [h, qu_num, cN_right h1, cN_right h2] at e1
    rw [h, qu_den, cD_right h1, cD_right h2] at e2
    exact ⟨e1.symm, e2.symm⟩
  · rintro ⟨rfl, rfl⟩; rfl
theorem qu_01 : qu 0 1 = 0 := by decide +kernel
end Go.Proofs.YtfilmomndhlmbaaDoor.Wnum
