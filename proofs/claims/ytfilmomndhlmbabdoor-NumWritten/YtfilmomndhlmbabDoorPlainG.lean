/- Plain facts on answers that are numbers again. -/
import Derived.Test.YtfilmomndhlmbabDoorPlainD
namespace Go.Proofs.YtfilmomndhlmbabDoor.Wnum

theorem rat_right {r : Rat} (h : okQ r = true) : rightB r.num (r.den : Int) = true := by
  obtain ⟨h1, h2, h3⟩ := ok_iff.1 h
  have h4 := r.den_pos
  refine right_iff.2 ⟨h1, h2, by omega, h3, ?_⟩
  show Nat.gcd r.num.natAbs ((r.den : Int)).natAbs = 1
  rw [Int.natAbs_natCast]
  exact r.reduced
theorem qu_rat {r : Rat} (h : okQ r = true) : qu r.num (r.den : Int) = r := by
  have h1 := rat_right h
  unfold qu
  rw [cN_right h1, cD_right h1]
  exact rat_self r
theorem qu_o {r : Rat} (h : oB (some r) = true) : qu (oN (some r)) (oD (some r)) = r := by
  obtain ⟨h1, h2, _⟩ := oNs h
  rw [h1, h2]
  exact qu_rat h
theorem right_o {r : Rat} (h : oB (some r) = true) : rightB (oN (some r)) (oD (some r)) = true := by
  obtain ⟨h1, h2, _⟩ := oNs h
  rw [h1, h2]
  exact rat_right h
theorem o_qu {a b : Int} (h : rightB a b = true) : oN (some (qu a b)) = a ∧ oD (some (qu a b)) = b ∧ oB (some (qu a b)) = true := by
  obtain ⟨h1, h2, h3⟩ := oNs (qu_ok a b)
  rw [h1, h2, qu_num, qu_den, cN_right h, cD_right h]
  exact ⟨rfl, rfl, h3⟩
theorem oN_bd (o : Option Rat) : -1000000000000 ≤ oN o ∧ oN o ≤ 1000000000000 ∧ 0 ≤ oD o ∧ oD o ≤ 1000000 := by
  cases h : oB o with
  | false => obtain ⟨h1, h2⟩ := oB_false h; rw [h1, h2]; omega
  | true =>
    cases o with
    | none => cases h
    | some r =>
      obtain ⟨h1, h2, h3⟩ := right_iff.1 (right_o h)
      omega
/-- The quotient of two numbers, the second not 0. -/
theorem div_qu {a b c d : Int} (h : cN c d ≠ 0) : mk (cN a b * cD c d) (cN c d * cD a b) = some (qu a b / qu c d) := by
  have h1 := cD_bd a b
  have h2 : cN c d * cD a b ≠ 0 := by simp; omega
  rw [mk_pos h2, Rat.div_def]
  unfold qu
  rw [Rat.inv_divInt, Rat.divInt_mul_divInt, Int.mul_comm (cN c d)]
theorem qu_ne {a b : Int} (h : cN a b ≠ 0) : qu a b ≠ 0 := by
  intro e
  have := qu_num a b
  rw [e] at this
  exact h this.symm
theorem o_one : oN (some 1) = 1 ∧ oD (some 1) = 1 ∧ oB (some 1) = true := by decide +kernel
end Go.Proofs.YtfilmomndhlmbabDoor.Wnum
