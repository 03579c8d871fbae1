/- Plain facts on products and quotients. -/
import Derived.Test.YtfilmomndhlmbabDoorPlainB
namespace Go.Proofs.YtfilmomndhlmbabDoor.Wnum

theorem qu_sub_neg (a b c d : Int) : qu a b + qu (-(cN c d)) (cD c d) = qu a b - qu c d := by
  rw [qu_neg, Rat.sub_eq_add_neg]

/-- Two fractions in lowest terms: what is taken out crosswise leaves their product in lowest terms. -/
theorem cross {a b c d : Int} (hb : 1 ≤ b) (hd : 1 ≤ d) (h1 : Int.gcd a b = 1) (h2 : Int.gcd c d = 1) :
    1 ≤ ((Int.gcd a d : Nat) : Int) ∧ 1 ≤ ((Int.gcd c b : Nat) : Int) ∧
    (Rat.divInt a b * Rat.divInt c d).num = a / ((Int.gcd a d : Nat) : Int) * (c / ((Int.gcd c b : Nat) : Int)) ∧
    (((Rat.divInt a b * Rat.divInt c d).den : Nat) : Int) = b / ((Int.gcd c b : Nat) : Int) * (d / ((Int.gcd a d : Nat) : Int)) ∧
    1 ≤ b / ((Int.gcd c b : Nat) : Int) ∧ b / ((Int.gcd c b : Nat) : Int) ≤ b ∧ 1 ≤ d / ((Int.gcd a d : Nat) : Int) ∧ d / ((Int.gcd a d : Nat) : Int) ≤ d := by
  obtain ⟨g1, g2, g3, _, g5, g6⟩ := mk_div (n := a) hd
  obtain ⟨k1, k2, k3, _, k5, k6⟩ := mk_div (n := c) hb
  have e1 : Rat.divInt a b * Rat.divInt c d = Rat.divInt a d * Rat.divInt c b := by
    rw [Rat.divInt_mul_divInt, Rat.divInt_mul_divInt, Int.mul_comm b d]
  have e2 : Rat.divInt a d = Rat.divInt (a / ((Int.gcd a d : Nat) : Int)) (d / ((Int.gcd a d : Nat) : Int)) := by
    rw [← g5, ← g6]; exact (Rat.num_divInt_den _).symm
  have e3 : Rat.divInt c b = Rat.divInt (c / ((Int.gcd c b : Nat) : Int)) (b / ((Int.gcd c b : Nat) : Int)) := by
    rw [← k5, ← k6]; exact (Rat.num_divInt_den _).symm
  have e4 : Rat.divInt a b * Rat.divInt c d = Rat.divInt (a / ((Int.gcd a d : Nat) : Int) * (c / ((Int.gcd c b : Nat) : Int))) (b / ((Int.gcd c b : Nat) : Int) * (d / ((Int.gcd a d : Nat) : Int))) := by
    rw [e1, e2, e3, Rat.divInt_mul_divInt, Int.mul_comm (d / _)]
  -- nothing divides both
  have c1 : Int.gcd (a / ((Int.gcd a d : Nat) : Int)) (d / ((Int.gcd a d : Nat) : Int)) = 1 := by
    have := (Rat.divInt a d).reduced
    rw [← g5, ← g6]; exact this
  have c2 : Int.gcd (c / ((Int.gcd c b : Nat) : Int)) (b / ((Int.gcd c b : Nat) : Int)) = 1 := by
    have := (Rat.divInt c b).reduced
    rw [← k5, ← k6]; exact this
  have d1 : (a / ((Int.gcd a d : Nat) : Int)) ∣ a := Int.ediv_dvd_of_dvd (Int.gcd_dvd_left ..)
  have d2 : (c / ((Int.gcd c b : Nat) : Int)) ∣ c := Int.ediv_dvd_of_dvd (Int.gcd_dvd_left ..)
  have d3 : (b / ((Int.gcd c b : Nat) : Int)) ∣ b := Int.ediv_dvd_of_dvd (Int.gcd_dvd_right ..)
  have d4 : (d / ((Int.gcd a d : Nat) : Int)) ∣ d := Int.ediv_dvd_of_dvd (Int.gcd_dvd_right ..)
  have co : ∀ {x y u v : Int}, Int.gcd u v = 1 → x ∣ u → y ∣ v → Int.gcd x y = 1 := fun {x y u v} h hx hy => by
    have h3 : Int.gcd x y ∣ Int.gcd u v := Nat.dvd_gcd (Nat.dvd_trans (Nat.gcd_dvd_left ..) (Int.natAbs_dvd_natAbs.2 hx)) (Nat.dvd_trans (Nat.gcd_dvd_right ..) (Int.natAbs_dvd_natAbs.2 hy))
    rw [h] at h3
    exact Nat.dvd_one.1 h3
  have c3 : Int.gcd (a / ((Int.gcd a d : Nat) : Int)) (b / ((Int.gcd c b : Nat) : Int)) = 1 := co h1 d1 d3
  have c4 : Int.gcd (c / ((Int.gcd c b : Nat) : Int)) (d / ((Int.gcd a d : Nat) : Int)) = 1 := co h2 d2 d4
  have pr : ∀ {x y u v : Int}, Int.gcd x u = 1 → Int.gcd x v = 1 → Int.gcd y u = 1 → Int.gcd y v = 1 → Int.gcd (x * y) (u * v) = 1 := fun {x y u v} q1 q2 q3 q4 => by
    show Nat.gcd (x * y).natAbs (u * v).natAbs = 1
    rw [Int.natAbs_mul, Int.natAbs_mul]
    exact Nat.Coprime.mul_left (Nat.Coprime.mul_right q1 q2) (Nat.Coprime.mul_right q3 q4)
  have cc := pr c3 c1 c2 c4
  have hpos : 1 ≤ b / ((Int.gcd c b : Nat) : Int) * (d / ((Int.gcd a d : Nat) : Int)) := by
    have := Int.mul_le_mul k2 g2 (by omega) (by omega)
    omega
  obtain ⟨p1, p2⟩ := divInt_parts hpos cc
  rw [← e4] at p1 p2
  exact ⟨g1, k1, p1, p2, k2, k3, g2, g3⟩
end Go.Proofs.YtfilmomndhlmbabDoor.Wnum
