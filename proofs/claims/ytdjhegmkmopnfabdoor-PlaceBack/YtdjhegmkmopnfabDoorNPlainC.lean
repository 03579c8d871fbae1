/- What is read of a text as a name, by cases. -/
import Derived.Test.YtdjhegmkmopnfabDoorNPlainB
namespace Wpl

def vl (c : UInt8) : Nat := c.toNat - 65 + 1
/-- The number that digits say, behind a number. -/
def fv (k : Nat) (D : List UInt8) : Nat := D.foldl (fun n c => n * 10 + (c.toNat - 48)) k
theorem fv_cons (k : Nat) (c : UInt8) (t : List UInt8) : fv k (c :: t) = fv (k * 10 + (c.toNat - 48)) t := by unfold fv; rw [List.foldl_cons]
def noL (l : List UInt8) : Bool := match l with | [] => true | c :: _ => !isL c
def allG (D : List UInt8) : Bool := D.all isG
theorem rc_stop (k : Nat) (t : List UInt8) (h : noL t = true) : rc k t = (k, t) := by
  cases t with
  | nil => rfl
  | cons c u =>
    unfold rc
    rw [if_neg]
    simp [noL] at h
    simp [h]
theorem rc_go {k : Nat} {c : UInt8} (t : List UInt8) (h : isL c = true) (hk : k ≤ 256) : rc k (c :: t) = rc (k * 26 + (c.toNat - 65) + 1) t := by
  conv => lhs; unfold rc
  rw [if_pos ⟨h, hk⟩]
theorem rd_go {k : Nat} {c : UInt8} (t : List UInt8) (h : isG c = true) (hk : k ≤ 65536) : rd k (c :: t) = rd (k * 10 + (c.toNat - 48)) t := by
  conv => lhs; unfold rd
  rw [if_pos ⟨h, hk⟩]
theorem rd_inv : ∀ (D : List UInt8) (k : Nat), (rd k D).2 = [] → allG D = true ∧ (rd k D).1 = fv k D
  | [], k, _ => ⟨rfl, rfl⟩
  | c :: t, k, h => by
    by_cases hc : isG c = true ∧ k ≤ 65536
    · rw [rd_go t hc.1 hc.2] at h ⊢
      obtain ⟨h1, h2⟩ := rd_inv t _ h
      exact ⟨by simp [allG, hc.1]; simpa [allG] using h1, h2⟩
    · unfold rd at h
      rw [if_neg hc] at h
      cases h
theorem rd_val : ∀ (D : List UInt8) (k : Nat), allG D = true → (k + 1) * 10 ^ (D.length - 1) ≤ 65537 → rd k D = (fv k D, [])
  | [], k, _, _ => rfl
  | c :: t, k, h, hk => by
    simp only [allG, List.all_cons, Bool.and_eq_true] at h
    have hc := h.1
    simp only [isG, decide_eq_true_eq] at hc
    have h1 : 1 ≤ 10 ^ t.length := Nat.one_le_pow _ _ (by omega)
    have hk' : (k + 1) * 10 ^ t.length ≤ 65537 := by simpa using hk
    have h2 : k + 1 ≤ (k + 1) * 10 ^ t.length := Nat.le_mul_of_pos_right _ h1
    rw [rd_go t h.1 (by omega), fv_cons]
    cases t with
    | nil => rfl
    | cons d u =>
      refine rd_val (d :: u) _ (by simpa [allG] using h.2) ?_
      have e : (d :: u).length - 1 = u.length := by simp
      rw [e]
      have e2 : 10 ^ (d :: u).length = 10 * 10 ^ u.length := by rw [List.length_cons, Nat.pow_succ, Nat.mul_comm]
      rw [e2] at hk'
      have h3 : (k * 10 + (c.toNat - 48) + 1) * 10 ^ u.length ≤ ((k + 1) * 10) * 10 ^ u.length := Nat.mul_le_mul_right _ (by omega)
      rw [Nat.mul_assoc] at h3
      omega
theorem fv_ge : ∀ (D : List UInt8) (k : Nat), k * 10 ^ D.length ≤ fv k D
  | [], k => by simp [fv]
  | c :: t, k => by
    rw [fv_cons]
    have := fv_ge t (k * 10 + (c.toNat - 48))
    have h2 : (k * 10) * 10 ^ t.length ≤ (k * 10 + (c.toNat - 48)) * 10 ^ t.length := Nat.mul_le_mul_right _ (by omega)
    rw [List.length_cons, Nat.pow_succ, Nat.mul_comm (10 ^ t.length) 10, ← Nat.mul_assoc]
    omega
/-- Is it a row's number from 1 on? -/
def dgOk (D : List UInt8) : Bool := decide ((rr D).2 = [] ∧ 1 ≤ (rr D).1 ∧ (rr D).1 ≤ 65536)
theorem dg_nil : dgOk [] = false := by decide
theorem dg_zero (t : List UInt8) : dgOk (48 :: t) = false := by
  have h : (48 :: t).head? = some (48 : UInt8) := rfl
  unfold dgOk rr; rw [if_pos h]; simp
theorem dg_not {c : UInt8} {t : List UInt8} (h0 : c ≠ 48) (h : allG (c :: t) = false) : dgOk (c :: t) = false := by
  unfold dgOk rr
  rw [if_neg (by simpa using h0), decide_eq_false]
  rintro ⟨h1, _⟩
  rw [(rd_inv _ _ h1).1] at h
  cases h
theorem dg_long {c : UInt8} {t : List UInt8} (h0 : c ≠ 48) (h : 5 ≤ t.length) : dgOk (c :: t) = false := by
  unfold dgOk rr
  rw [if_neg (by simpa using h0), decide_eq_false]
  rintro ⟨h1, h2, h3⟩
  obtain ⟨g1, g2⟩ := rd_inv _ _ h1
  rw [g2, fv_cons] at h3
  simp only [allG, List.all_cons, Bool.and_eq_true] at g1
  have hc := g1.1
  simp only [isG, decide_eq_true_eq] at hc
  have hn : c.toNat ≠ 48 := fun e => h0 (UInt8.toNat_inj.1 (by rw [e]; rfl))
  have := fv_ge t (0 * 10 + (c.toNat - 48))
  have h4 : 1 * 10 ^ 5 ≤ (0 * 10 + (c.toNat - 48)) * 10 ^ t.length := Nat.mul_le_mul (by omega) (Nat.pow_le_pow_right (by omega) h)
  omega
theorem dg_in {c : UInt8} {t : List UInt8} (h0 : c ≠ 48) (h : allG (c :: t) = true) (hl : t.length < 5) : dgOk (c :: t) = decide (fv 0 (c :: t) ≤ 65536) ∧ (rr (c :: t)).1 = fv 0 (c :: t) ∧ 1 ≤ fv 0 (c :: t) := by
  have e : rr (c :: t) = (fv 0 (c :: t), []) := by
    unfold rr
    rw [if_neg (by simpa using h0)]
    refine rd_val _ _ h ?_
    have : 10 ^ t.length ≤ 10 ^ 4 := Nat.pow_le_pow_right (by omega) (by omega)
    simp only [List.length_cons, Nat.add_sub_cancel]
    omega
  have hp : 1 ≤ fv 0 (c :: t) := by
    simp only [allG, List.all_cons, Bool.and_eq_true] at h
    have hc := h.1
    simp only [isG, decide_eq_true_eq] at hc
    have hn : c.toNat ≠ 48 := fun e => h0 (UInt8.toNat_inj.1 (by rw [e]; rfl))
    have := fv_ge t (0 * 10 + (c.toNat - 48))
    have h4 : 1 * 1 ≤ (0 * 10 + (c.toNat - 48)) * 10 ^ t.length := Nat.mul_le_mul (by omega) (Nat.one_le_pow _ _ (by omega))
    rw [fv_cons]
    omega
  refine ⟨?_, by rw [e], hp⟩
  unfold dgOk
  rw [e, Bool.eq_iff_iff]
  simp
  intro; omega
theorem vl_bd {c : UInt8} (h : isL c = true) : 1 ≤ vl c ∧ vl c ≤ 26 := by
  simp only [isL, decide_eq_true_eq] at h
  unfold vl; omega
theorem rd_none : rdOk [] = false := by decide
theorem rd_no {a : UInt8} (t : List UInt8) (h : isL a = false) : rdOk (a :: t) = false := by
  unfold rdOk
  rw [rc_stop 0 (a :: t) (by simp [noL, h])]
  simp
theorem rd_one {a : UInt8} {t : List UInt8} (h : isL a = true) (hn : noL t = true) : rdOk (a :: t) = dgOk t ∧ rc 0 (a :: t) = (vl a, t) := by
  have e : rc 0 (a :: t) = (vl a, t) := by
    rw [rc_go t h (by omega), rc_stop _ t hn]
    unfold vl
    simp
  refine ⟨?_, e⟩
  have hb := vl_bd h
  unfold rdOk dgOk
  rw [e, Bool.eq_iff_iff, decide_eq_true_eq, decide_eq_true_eq]
  constructor
  · rintro ⟨g1, g2, g3, g4, g5⟩; exact ⟨g1, g2, g3⟩
  · rintro ⟨g1, g2, g3⟩; exact ⟨g1, g2, g3, by omega, by omega⟩
theorem rd_two {a b : UInt8} {u : List UInt8} (h : isL a = true) (h2 : isL b = true) (hn : noL u = true) : rdOk (a :: b :: u) = (decide (vl a * 26 + vl b ≤ 256) && dgOk u) ∧ rc 0 (a :: b :: u) = (vl a * 26 + vl b, u) := by
  have hb := vl_bd h
  have hb2 := vl_bd h2
  have e : rc 0 (a :: b :: u) = (vl a * 26 + vl b, u) := by
    rw [rc_go _ h (by omega), rc_go u h2 (by unfold vl at hb; omega), rc_stop _ u hn]
    unfold vl
    simp
    omega
  refine ⟨?_, e⟩
  unfold rdOk dgOk
  rw [e, Bool.eq_iff_iff, Bool.and_eq_true, decide_eq_true_eq, decide_eq_true_eq, decide_eq_true_eq]
  constructor
  · rintro ⟨g1, g2, g3, g4, g5⟩; exact ⟨g5, g1, g2, g3⟩
  · rintro ⟨g5, g1, g2, g3⟩; exact ⟨g1, g2, g3, by omega, g5⟩
theorem rd_three {a b c : UInt8} (u : List UInt8) (h : isL a = true) (h2 : isL b = true) (h3 : isL c = true) : rdOk (a :: b :: c :: u) = false := by
  have hb := vl_bd h
  have hb2 := vl_bd h2
  have hb3 := vl_bd h3
  have e : (rc 0 (a :: b :: c :: u)).1 > 256 := by
    rw [rc_go _ h (by omega), rc_go _ h2 (by unfold vl at hb; omega)]
    by_cases hk : (0 * 26 + (a.toNat - 65) + 1) * 26 + (b.toNat - 65) + 1 ≤ 256
    · rw [rc_go _ h3 hk]
      have g : ∀ (l : List UInt8) (k : Nat), 256 < k → (rc k l).1 = k := by
        intro l k hk
        cases l with
        | nil => rfl
        | cons x y => unfold rc; rw [if_neg (by omega)]
      rw [g _ _ (by unfold vl at hb hb2 hb3; omega)]
      unfold vl at hb hb2 hb3; omega
    · unfold rc
      rw [if_neg (by omega)]
      show _ > 256
      omega
  unfold rdOk
  rw [decide_eq_false]
  omega
end Wpl
