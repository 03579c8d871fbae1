/- The number that the first digits say. -/
import Derived.Test.YtdjhegmkmopnfabDoorNPlainC
namespace Wpl

theorem fv_snoc (k : Nat) (l : List UInt8) (c : UInt8) : fv k (l ++ [c]) = fv k l * 10 + (c.toNat - 48) := by unfold fv; rw [List.foldl_append]; rfl
theorem take_more {D : List UInt8} {j : Nat} {d : UInt8} (h : D[j]? = some d) : D.take (j + 1) = D.take j ++ [d] := by
  obtain ⟨hj, e⟩ := List.getElem?_eq_some_iff.1 h
  rw [List.take_succ_eq_append_getElem hj, e]
theorem fv_take {D : List UInt8} {j : Nat} {d : UInt8} (h : D[j]? = some d) : fv 0 (D.take (j + 1)) = fv 0 (D.take j) * 10 + (d.toNat - 48) := by
  rw [take_more h, fv_snoc]
theorem all_take {D : List UInt8} {j : Nat} {d : UInt8} (h : D[j]? = some d) : allG (D.take (j + 1)) = (allG (D.take j) && isG d) := by
  rw [take_more h]; simp [allG]
theorem all_not {D : List UInt8} {j : Nat} {d : UInt8} (h : D[j]? = some d) (hd : isG d = false) : allG D = false := by
  unfold allG
  rw [List.all_eq_false]
  exact ⟨d, List.mem_of_getElem? h, by simp [hd]⟩
theorem fv_lt {k : Nat} : ∀ (l : List UInt8), allG l = true → fv k l < (k + 1) * 10 ^ l.length := by
  intro l
  induction l generalizing k with
  | nil => simp [fv]
  | cons c t ih =>
    intro h
    simp only [allG, List.all_cons, Bool.and_eq_true] at h
    have hc := h.1
    simp only [isG, decide_eq_true_eq] at hc
    have := ih (k := k * 10 + (c.toNat - 48)) (by simpa [allG] using h.2)
    rw [fv_cons]
    have h2 : (k * 10 + (c.toNat - 48) + 1) * 10 ^ t.length ≤ ((k + 1) * 10) * 10 ^ t.length := Nat.mul_le_mul_right _ (by omega)
    rw [List.length_cons, Nat.pow_succ, Nat.mul_comm (10 ^ t.length) 10, ← Nat.mul_assoc]
    omega
theorem fv_five {D : List UInt8} {j : Nat} (hj : j ≤ 5) (h : allG (D.take j) = true) : fv 0 (D.take j) < 100000 := by
  have := fv_lt (k := 0) _ h
  have h2 : (D.take j).length ≤ 5 := by have := List.length_take_le j D; omega
  have h3 : 10 ^ (D.take j).length ≤ 10 ^ 5 := Nat.pow_le_pow_right (by omega) h2
  omega
end Wpl
