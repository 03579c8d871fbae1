/- More plain facts on numbers. -/
import Derived.Test.YtfilmomndhlmbabDoorPlain
namespace Go.Proofs.YtfilmomndhlmbabDoor.Wnum

theorem right_neg (c d : Int) : rightB (-(cN c d)) (cD c d) = true := by
  obtain ⟨h1, h2, h3, h4, h5⟩ := right_iff.1 (c_right c d)
  exact right_iff.2 ⟨by omega, by omega, h3, h4, by rw [Int.neg_gcd]; exact h5⟩
theorem cN_right {n d : Int} (h : rightB n d = true) : cN n d = n := by unfold cN; rw [if_pos h]
theorem cD_right {n d : Int} (h : rightB n d = true) : cD n d = d := by unfold cD; rw [if_pos h]
theorem qu_neg (c d : Int) : qu (-(cN c d)) (cD c d) = - qu c d := by
  have h := right_neg c d
  have e : qu (-(cN c d)) (cD c d) = Rat.divInt (cN (-(cN c d)) (cD c d)) (cD (-(cN c d)) (cD c d)) := rfl
  rw [e, cN_right h, cD_right h]
  unfold qu
  rw [Rat.neg_divInt]
theorem qu_abs_case (c d : Int) : rightB (cN c d) (cD c d) = true := c_right c d

theorem mk_some {n d : Int} (h : d ≠ 0) : some (Rat.divInt n d) = mk n d := (mk_pos h).symm
theorem abs_pp {n d : Int} (h1 : 0 ≤ n) (h2 : 0 < d) : Rat.divInt (n.natAbs : Int) (d.natAbs : Int) = Rat.divInt n d := by
  rw [show (n.natAbs : Int) = n by omega, show (d.natAbs : Int) = d by omega]
theorem abs_nn {n d : Int} (h1 : n < 0) (h2 : d < 0) : Rat.divInt (n.natAbs : Int) (d.natAbs : Int) = Rat.divInt n d := by
  rw [show (n.natAbs : Int) = -n by omega, show (d.natAbs : Int) = -d by omega, Rat.neg_divInt_neg]
theorem abs_np {n d : Int} (h1 : n < 0) (h2 : 0 < d) : Rat.divInt (-(n.natAbs : Int)) (d.natAbs : Int) = Rat.divInt n d := by
  rw [show (n.natAbs : Int) = -n by omega, show (d.natAbs : Int) = d by omega, Int.neg_neg]
theorem abs_pn {n d : Int} (h1 : 0 ≤ n) (h2 : d < 0) : Rat.divInt (-(n.natAbs : Int)) (d.natAbs : Int) = Rat.divInt n d := by
  rw [show (n.natAbs : Int) = n by omega, show (d.natAbs : Int) = -d by omega, Rat.neg_divInt_neg]
end Go.Proofs.YtfilmomndhlmbabDoor.Wnum
