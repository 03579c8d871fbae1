/- Plain facts on numbers: fractions as they fit, and the ways in which the program comes to them. No Go in sight. -/
namespace Go.Proofs.Ytpbjmhcpaeillaa.Wnum

/-- A number by its parts. -/
def rightB (n d : Int) : Bool := decide (-1000000000000 ≤ n ∧ n ≤ 1000000000000 ∧ 1 ≤ d ∧ d ≤ 1000000 ∧ Int.gcd n d = 1)
/-- What a pair counts as. -/
def cN (n d : Int) : Int := if rightB n d = true then n else 0
def cD (n d : Int) : Int := if rightB n d = true then d else 1
def qu (n d : Int) : Rat := Rat.divInt (cN n d) (cD n d)
/-- Does a fraction fit? -/
def okQ (r : Rat) : Bool := decide (-1000000000000 ≤ r.num ∧ r.num ≤ 1000000000000 ∧ r.den ≤ 1000000)
/-- The three parts of an answer. -/
def oB : Option Rat → Bool
  | none => false
  | some r => okQ r
def oN : Option Rat → Int
  | none => 0
  | some r => if okQ r = true then r.num else 0
def oD : Option Rat → Int
  | none => 0
  | some r => if okQ r = true then (r.den : Int) else 0
/-- n / d. -/
def mk (n d : Int) : Option Rat := if d = 0 then none else some (Rat.divInt n d)

theorem right_iff {n d : Int} : rightB n d = true ↔ (-1000000000000 ≤ n ∧ n ≤ 1000000000000 ∧ 1 ≤ d ∧ d ≤ 1000000 ∧ Int.gcd n d = 1) := by
  unfold rightB; exact decide_eq_true_iff

theorem cN_bd (n d : Int) : -1000000000000 ≤ cN n d ∧ cN n d ≤ 1000000000000 := by
  unfold cN; split
  · rename_i h; have := right_iff.1 h; omega
  · omega
theorem cD_bd (n d : Int) : 1 ≤ cD n d ∧ cD n d ≤ 1000000 := by
  unfold cD; split
  · rename_i h; have := right_iff.1 h; omega
  · omega
theorem c_gcd (n d : Int) : Int.gcd (cN n d) (cD n d) = 1 := by
  unfold cN cD; split
  · rename_i h; exact (right_iff.1 h).2.2.2.2
  · rfl
theorem c_right (n d : Int) : rightB (cN n d) (cD n d) = true :=
  right_iff.2 ⟨(cN_bd n d).1, (cN_bd n d).2, (cD_bd n d).1, (cD_bd n d).2, c_gcd n d⟩

theorem divInt_parts {n d : Int} (hd : 1 ≤ d) (hg : Int.gcd n d = 1) : (Rat.divInt n d).num = n ∧ ((Rat.divInt n d).den : Int) = d := by
  rw [Rat.num_divInt, Rat.den_divInt]
  have h1 : d.sign = 1 := Int.sign_eq_one_of_pos (by omega)
  have h2 : Int.gcd d n = 1 := by rw [Int.gcd_comm]; exact hg
  rw [if_neg (by omega), h1, h2]
  constructor
  · simp
  · simp; omega
theorem qu_num (n d : Int) : (qu n d).num = cN n d := (divInt_parts (cD_bd n d).1 (c_gcd n d)).1
theorem qu_den (n d : Int) : ((qu n d).den : Int) = cD n d := (divInt_parts (cD_bd n d).1 (c_gcd n d)).2
theorem qu_ok (n d : Int) : okQ (qu n d) = true := by
  have h1 := qu_num n d; have h2 := qu_den n d; have h3 := cN_bd n d; have h4 := cD_bd n d
  unfold okQ; rw [decide_eq_true_iff]; omega

theorem mk_zero (n : Int) : mk n 0 = none := by simp [mk]
theorem mk_pos {n d : Int} (h : d ≠ 0) : mk n d = some (Rat.divInt n d) := by simp [mk, h]
theorem mk_neg (n d : Int) : mk (-n) (-d) = mk n d := by
  unfold mk
  by_cases h : d = 0
  · simp [h]
  · have h' : ¬ -d = 0 := by omega
    simp [h, h', Rat.neg_divInt_neg]
theorem mk_mul {n d k : Int} (h : k ≠ 0) : mk (k * n) (k * d) = mk n d := by
  unfold mk
  by_cases h0 : d = 0
  · simp [h0]
  · have h' : ¬ k * d = 0 := by simp [h, h0]
    simp [h0, h', Rat.divInt_mul_left h]

/-- Both divided by what divides both, behind which nothing does: so it stands. -/
theorem mk_div {n d : Int} (hd : 1 ≤ d) : let g : Int := Int.gcd n d
    1 ≤ g ∧ 1 ≤ d / g ∧ d / g ≤ d ∧ (mk n d = some (Rat.divInt (n / g) (d / g))) ∧ (Rat.divInt n d).num = n / g ∧ (((Rat.divInt n d).den : Nat) : Int) = d / g := by
  intro g
  have hg0 : Int.gcd n d ≠ 0 := by
    intro h; rw [Int.gcd_eq_zero_iff] at h; omega
  have hg : 1 ≤ g := by show (1 : Int) ≤ (Int.gcd n d : Int); omega
  have hdv : g ∣ d := Int.gcd_dvd_right ..
  have hnv : g ∣ n := Int.gcd_dvd_left ..
  obtain ⟨k, hk⟩ := hdv
  obtain ⟨m, hm⟩ := hnv
  have hdg : d / g = k := by rw [hk]; exact Int.mul_ediv_cancel_left _ (by omega)
  have hng : n / g = m := by rw [hm]; exact Int.mul_ediv_cancel_left _ (by omega)
  have hk1 : 1 ≤ k := by
    rcases Int.lt_or_le 0 k with h | h
    · omega
    · have : g * k ≤ g * 0 := Int.mul_le_mul_of_nonneg_left h (by omega)
      omega
  have hkd : k ≤ d := by
    rw [hk]
    have : 1 * k ≤ g * k := Int.mul_le_mul_of_nonneg_right hg (by omega)
    omega
  have hq : Rat.divInt n d = Rat.divInt m k := by
    rw [hm, hk]; exact Rat.divInt_mul_left (by omega)
  have hc : Int.gcd m k = 1 := by
    have := Int.gcd_mul_left g m k
    rw [← hm, ← hk] at this
    have h2 : g.natAbs = Int.gcd n d := by show (Int.natAbs (Int.gcd n d : Int)) = _; simp
    rw [h2] at this
    have e : Int.gcd n d * Int.gcd m k = Int.gcd n d * 1 := by rw [Nat.mul_one]; exact this.symm
    exact Nat.eq_of_mul_eq_mul_left (by omega) e
  rw [hdg, hng]
  refine ⟨hg, hk1, hkd, ?_, ?_, ?_⟩
  · rw [mk_pos (by omega), hq]
  · rw [hq]; exact (divInt_parts hk1 hc).1
  · rw [hq]; exact (divInt_parts hk1 hc).2

theorem mk_tdiv {n d : Int} (hd : 1 ≤ d) (hn : -9223372036854775807 ≤ n) (hn' : n ≤ 9223372036854775807) :
    1 ≤ ((Int.gcd n d : Nat) : Int) ∧ -9223372036854775807 ≤ n.tdiv ((Int.gcd n d : Nat) : Int) ∧ n.tdiv ((Int.gcd n d : Nat) : Int) ≤ 9223372036854775807 ∧ (Rat.divInt n d).num = n.tdiv ((Int.gcd n d : Nat) : Int) ∧ (((Rat.divInt n d).den : Nat) : Int) = d / ((Int.gcd n d : Nat) : Int) := by
  obtain ⟨h1, _, _, _, h5, h6⟩ := mk_div (n := n) hd
  have hdv : ((Int.gcd n d : Nat) : Int) ∣ n := Int.gcd_dvd_left ..
  have e : n.tdiv ((Int.gcd n d : Nat) : Int) = n / ((Int.gcd n d : Nat) : Int) := Int.tdiv_eq_ediv_of_dvd hdv
  have b1 : (n.tdiv ((Int.gcd n d : Nat) : Int)).natAbs ≤ n.natAbs := Int.natAbs_tdiv_le_natAbs ..
  refine ⟨h1, by omega, by omega, by rw [e]; exact h5, h6⟩

/-- The least int has no odd divisor but 1. -/
theorem min_odd {d : Int} (h : d % 2 ≠ 0) : Int.gcd (-9223372036854775808) d = 1 := by
  have e : (-9223372036854775808 : Int) = -(((2 ^ 63 : Nat)) : Int) := by omega
  rw [e, Int.neg_gcd, Int.gcd, Int.natAbs_natCast]
  have : Nat.Coprime 2 d.natAbs := by
    rw [Nat.coprime_iff_gcd_eq_one, Nat.gcd_rec]
    have : d.natAbs % 2 = 1 := by omega
    rw [this]; rfl
  exact Nat.Coprime.pow_left 63 this
theorem mk_min_left {d : Int} (h : d % 2 ≠ 0) : oB (mk (-9223372036854775808) d) = false := by
  have hd : d ≠ 0 := by intro e; rw [e] at h; exact h rfl
  rw [mk_pos hd]
  show okQ _ = false
  unfold okQ
  rw [decide_eq_false_iff_not, Rat.num_divInt, Int.gcd_comm, min_odd h]
  intro ⟨h1, h2, _⟩
  rcases Int.lt_or_lt_of_ne hd with k | k
  · rw [Int.sign_eq_neg_one_of_neg k] at h1 h2; omega
  · rw [Int.sign_eq_one_of_pos k] at h1 h2; omega
theorem mk_min_right {n : Int} (h : n % 2 ≠ 0) : oB (mk n (-9223372036854775808)) = false := by
  rw [mk_pos (by omega)]
  show okQ _ = false
  unfold okQ
  rw [decide_eq_false_iff_not, Rat.den_divInt, min_odd h, if_neg (by omega)]
  omega
theorem oB_false {o : Option Rat} (h : oB o = false) : oN o = 0 ∧ oD o = 0 := by
  cases o with
  | none => exact ⟨rfl, rfl⟩
  | some r =>
    have h' : okQ r = false := h
    exact ⟨by show (if okQ r = true then r.num else 0) = 0; rw [h']; rfl, by show (if okQ r = true then (r.den : Int) else 0) = 0; rw [h']; rfl⟩
theorem mk_half {n d : Int} (h1 : n % 2 = 0) (h2 : d % 2 = 0) : mk (n / 2) (d / 2) = mk n d := by
  have e := mk_mul (n := n / 2) (d := d / 2) (k := 2) (by omega)
  rw [show 2 * (n / 2) = n by omega, show 2 * (d / 2) = d by omega] at e
  exact e.symm

theorem made_parts {n d : Int} (h0 : 0 ≤ n) (hd : 1 ≤ d) :
    1 ≤ ((Int.gcd n d : Nat) : Int) ∧ 0 ≤ n / ((Int.gcd n d : Nat) : Int) ∧ n / ((Int.gcd n d : Nat) : Int) ≤ n ∧ 1 ≤ d / ((Int.gcd n d : Nat) : Int) ∧ d / ((Int.gcd n d : Nat) : Int) ≤ d
    ∧ (Rat.divInt n d).num = n / ((Int.gcd n d : Nat) : Int) ∧ (((Rat.divInt n d).den : Nat) : Int) = d / ((Int.gcd n d : Nat) : Int)
    ∧ (Rat.divInt (-n) d).num = -(n / ((Int.gcd n d : Nat) : Int)) ∧ (((Rat.divInt (-n) d).den : Nat) : Int) = d / ((Int.gcd n d : Nat) : Int) := by
  obtain ⟨h1, h2, h3, _, h5, h6⟩ := mk_div (n := n) hd
  refine ⟨h1, Int.ediv_nonneg h0 (by omega), Int.ediv_le_self _ h0, h2, h3, h5, h6, ?_, ?_⟩
  · rw [← Rat.neg_divInt, Rat.neg_num, h5]
  · rw [← Rat.neg_divInt, Rat.neg_den, h6]
theorem oNs {r : Rat} (h : okQ r = true) : oN (some r) = r.num ∧ oD (some r) = r.den ∧ oB (some r) = true :=
  ⟨by show (if okQ r = true then r.num else 0) = r.num; rw [if_pos h], by show (if okQ r = true then (r.den : Int) else 0) = r.den; rw [if_pos h], h⟩
theorem oNn {r : Rat} (h : okQ r = false) : oN (some r) = 0 ∧ oD (some r) = 0 ∧ oB (some r) = false :=
  ⟨(oB_false (o := some r) h).1, (oB_false (o := some r) h).2, h⟩
theorem ok_iff {r : Rat} : okQ r = true ↔ (-1000000000000 ≤ r.num ∧ r.num ≤ 1000000000000 ∧ (r.den : Int) ≤ 1000000) := by
  unfold okQ; rw [decide_eq_true_iff]; omega
theorem ok_not {r : Rat} (h : ¬ (-1000000000000 ≤ r.num ∧ r.num ≤ 1000000000000 ∧ (r.den : Int) ≤ 1000000)) : okQ r = false := by
  rw [← ok_iff] at h; simpa using h

theorem qu_add (a b c d : Int) : mk (cN a b * cD c d + cN c d * cD a b) (cD a b * cD c d) = some (qu a b + qu c d) := by
  have h1 := cD_bd a b; have h2 := cD_bd c d
  have h3 : cD a b * cD c d ≠ 0 := by simp; omega
  rw [mk_pos h3]
  unfold qu
  rw [Rat.divInt_add_divInt _ _ (by omega) (by omega)]
theorem qu_sub (a b c d : Int) : mk (cN a b * cD c d - cN c d * cD a b) (cD a b * cD c d) = some (qu a b - qu c d) := by
  have h1 := cD_bd a b; have h2 := cD_bd c d
  have h3 : cD a b * cD c d ≠ 0 := by simp; omega
  rw [mk_pos h3]
  unfold qu
  rw [Rat.divInt_sub_divInt _ _ (by omega) (by omega)]
end Go.Proofs.Ytpbjmhcpaeillaa.Wnum
