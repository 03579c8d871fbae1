/- The contracts of Text and of the reference's Text, whole. -/
import Derived.Test.YtfilmomndhlmbabDoorWalkTx
import Derived.Test.YtfilmomndhlmbabDoorWalkRt
namespace Go.Proofs.YtfilmomndhlmbabDoor
open Go.RowKit
set_option linter.unusedVariables false

theorem itoa_nat (n : Nat) : Lib.itoa (n : Int) = Lib.decDigits n := by
  rw [Wnum.itoa_sgn]
  unfold Wnum.sgnT
  rw [if_neg (by omega), Int.natAbs_natCast]; rfl
theorem bool_ne {n : Nat} (h : 1000000 % n ≠ 0) : ((1000000 : Int) % (n : Int) != 0) = true := by
  rw [bne_iff_ne]
  intro e
  exact h (Int.ofNat_inj.1 ((Int.natCast_emod 1000000 n).trans e))
theorem bool_eq {n : Nat} (h : 1000000 % n = 0) : ((1000000 : Int) % (n : Int) != 0) = false := by
  rw [bne_eq_false_iff_eq]
  exact (Int.natCast_emod 1000000 n).symm.trans (congrArg Int.ofNat h)
theorem div_nat (N : Int) (n : Nat) : (N.natAbs : Int) / (n : Int) = ((N.natAbs / n : Nat) : Int) := (Int.natCast_ediv _ _).symm
theorem mod_nat (N : Int) (n : Nat) : (N.natAbs : Int) % (n : Int) = ((N.natAbs % n : Nat) : Int) := (Int.natCast_emod _ _).symm
theorem div_bd {N : Int} (n : Nat) (h1 : -1000000000000 ≤ N) (h2 : N ≤ 1000000000000) : ((N.natAbs / n : Nat) : Int) ≤ 1000000000000 := by
  have := Nat.div_le_self N.natAbs n
  omega
theorem sgn_neg {N : Int} (h : N < 0) : Wnum.sgnT N = [45] := if_pos h
theorem sgn_pos {N : Int} (h : ¬ N < 0) : Wnum.sgnT N = [] := if_neg h

theorem text_any (a b : Int) (w : World) (h1 : -9223372036854775808 ≤ a) (h2 : a ≤ 9223372036854775807) (h3 : -9223372036854775808 ≤ b) (h4 : b ≤ 9223372036854775807) (htab : Lib.TabIs Tryd.prog w "internal/strconv.uint64pow10" .u64 Lib.pow10Tab) :
    Calls Tryd.prog 7 #[.agg #[.int .i64 a, .int .i64 b]] w fun e w' => e = .returned (.string ⟨(Wnum.txt (Wnum.cN a b) (Wnum.cD a b).toNat).toArray⟩) ∧ Below w.heap.size w w' := by
  obtain ⟨n1, n2⟩ := Wnum.cN_bd a b
  obtain ⟨n3, n4⟩ := Wnum.cD_bd a b
  obtain ⟨D0, hD⟩ : ∃ D0, D0 = (Wnum.cD a b).toNat := ⟨_, rfl⟩
  have eD : Wnum.cD a b = (D0 : Int) := by omega
  by_cases h1' : D0 = 1
  · refine text_one a b _ w h1 h2 h3 h4 (by rw [beq_iff_eq]; omega) ?_ htab
    rw [← hD, h1', Wnum.txt_whole (by decide) (Nat.mod_one _), Nat.div_one, Wnum.itoa_sgn]
  · have d1 : (Wnum.cD a b == 1) = false := by rw [beq_eq_false_iff_ne]; omega
    by_cases hm : 1000000 % D0 = 0
    · have g : Int.gcd (Wnum.cN a b) (Wnum.cD a b) = 1 := (Wnum.right_iff.1 (Wnum.c_right a b)).2.2.2.2
      have hR : (Wnum.cN a b).natAbs % D0 ≠ 0 := by
        intro h
        have : D0 ∣ Nat.gcd (Wnum.cN a b).natAbs D0 := Nat.dvd_gcd (Nat.dvd_of_mod_eq_zero h) (Nat.dvd_refl _)
        rw [eD] at g
        rw [show Nat.gcd (Wnum.cN a b).natAbs D0 = 1 from g] at this
        exact h1' (Nat.dvd_one.1 this)
      refine text_point a b ((Wnum.cN a b).natAbs / D0) ((Wnum.cN a b).natAbs % D0) _ _ _ _ w h1 h2 h3 h4 d1 (by rw [eD]; exact bool_eq hm) (by rw [← hD]; exact hm) (by rw [eD]; exact div_nat _ _) (by rw [eD]; exact mod_nat _ _) (div_bd _ n1 n2) (by rw [eD]; exact Int.ofNat_lt.2 (Nat.mod_lt _ (by omega))) rfl rfl rfl ?_ ?_ htab
      · intro hn
        rw [← hD, Wnum.txt_point hm hR, sgn_neg hn, itoa_nat]; rfl
      · intro hn
        rw [← hD, Wnum.txt_point hm hR, sgn_pos hn, itoa_nat]; rfl
    · have := text_frac a b _ _ w h1 h2 h3 h4 d1 (by rw [eD]; exact bool_ne hm) rfl rfl htab
      rw [← hD, Wnum.txt_frac hm]
      rw [eD, itoa_nat, Wnum.itoa_sgn, List.append_assoc] at this
      exact this

theorem rtext_any (a b : Int) (w : World) (h1 : -9223372036854775808 ≤ a) (h2 : a ≤ 9223372036854775807) (h3 : -9223372036854775808 ≤ b) (h4 : b ≤ 9223372036854775807) :
    Calls Tryd.prog 8 #[.agg #[.int .i64 a, .int .i64 b]] w fun e w' => e = .returned (.string ⟨(Wnum.txt (Wnum.cN a b) (Wnum.cD a b).toNat).toArray⟩) ∧ Below w.heap.size w w' := by
  obtain ⟨n1, n2⟩ := Wnum.cN_bd a b
  obtain ⟨n3, n4⟩ := Wnum.cD_bd a b
  obtain ⟨D0, hD⟩ : ∃ D0, D0 = (Wnum.cD a b).toNat := ⟨_, rfl⟩
  have eD : Wnum.cD a b = (D0 : Int) := by omega
  rw [← hD]
  by_cases hm : 1000000 % D0 = 0
  · by_cases hR : (Wnum.cN a b).natAbs % D0 = 0
    · have hR' : ((Wnum.cN a b).natAbs : Int) % (D0 : Int) = 0 := by rw [mod_nat, hR]; rfl
      by_cases hn : Wnum.cN a b < 0
      · exact rtext_whole_n a b _ D0 ((Wnum.cN a b).natAbs / D0) _ _ w h1 h2 h3 h4 rfl eD (decide_eq_true hn) (bool_eq hm) (div_nat _ _) (div_bd _ n1 n2) hR' rfl (by rw [Wnum.txt_whole hm hR, sgn_neg hn])
      · exact rtext_whole_p a b _ D0 ((Wnum.cN a b).natAbs / D0) _ _ w h1 h2 h3 h4 rfl eD (decide_eq_false hn) (bool_eq hm) (div_nat _ _) (div_bd _ n1 n2) hR' rfl (by rw [Wnum.txt_whole hm hR, sgn_pos hn])
    · have r0 : ((((Wnum.cN a b).natAbs % D0 : Nat) : Int) == 0) = false := by rw [beq_eq_false_iff_ne]; omega
      by_cases hn : Wnum.cN a b < 0
      · exact rtext_point_n a b _ D0 ((Wnum.cN a b).natAbs / D0) ((Wnum.cN a b).natAbs % D0) _ _ w h1 h2 h3 h4 rfl eD (decide_eq_true hn) (bool_eq hm) (div_nat _ _) (div_bd _ n1 n2) (mod_nat _ _) (Nat.mod_lt _ (by omega)) r0 hm rfl (by rw [Wnum.txt_point hm hR, sgn_neg hn])
      · exact rtext_point_p a b _ D0 ((Wnum.cN a b).natAbs / D0) ((Wnum.cN a b).natAbs % D0) _ _ w h1 h2 h3 h4 rfl eD (decide_eq_false hn) (bool_eq hm) (div_nat _ _) (div_bd _ n1 n2) (mod_nat _ _) (Nat.mod_lt _ (by omega)) r0 hm rfl (by rw [Wnum.txt_point hm hR, sgn_pos hn])
  · by_cases hn : Wnum.cN a b < 0
    · exact rtext_frac_n a b _ D0 _ _ _ w h1 h2 h3 h4 rfl eD (decide_eq_true hn) (bool_ne hm) rfl rfl (by rw [Wnum.txt_frac hm, sgn_neg hn])
    · exact rtext_frac_p a b _ D0 _ _ _ w h1 h2 h3 h4 rfl eD (decide_eq_false hn) (bool_ne hm) rfl rfl (by rw [Wnum.txt_frac hm, sgn_pos hn])
end Go.Proofs.YtfilmomndhlmbabDoor
