/- What is written of a cell is read as it. -/
import Derived.Test.YtdjhegmkmopnfabDoorNPlainD
import Derived.Test.YtdjhegmkmopnfabDoorNPlainE
namespace Wpl

theorem dig_toNat {q : Nat} (h : q ≤ 9) : (UInt8.ofNat (48 + q)).toNat = 48 + q := by
  rw [UInt8.toNat_ofNat']
  exact Nat.mod_eq_of_lt (by omega)
theorem let_toNat {q : Nat} (h : q ≤ 25) : (UInt8.ofNat (65 + q)).toNat = 65 + q := by
  rw [UInt8.toNat_ofNat']
  exact Nat.mod_eq_of_lt (by omega)
theorem dd_le {u : Nat} (h : u < 10) : Go.Lib.decDigits u = [UInt8.ofNat (48 + u)] := by
  unfold Go.Lib.decDigits
  rw [dif_pos h]
theorem dd_gt {u : Nat} (h : ¬ u < 10) : Go.Lib.decDigits u = Go.Lib.decDigits (u / 10) ++ [UInt8.ofNat (48 + u % 10)] := by
  conv => lhs; unfold Go.Lib.decDigits
  rw [dif_neg h]
/-- Digits: all of them are, they say the number, and begin with no nought. -/
theorem dd_is (u : Nat) : allG (Go.Lib.decDigits u) = true ∧ fv 0 (Go.Lib.decDigits u) = u ∧ (1 ≤ u → ∃ d t, Go.Lib.decDigits u = d :: t ∧ d.toNat ≠ 48) := by
  induction u using Nat.strongRecOn with
  | _ u ih =>
    by_cases h : u < 10
    · rw [dd_le h]
      have hd := dig_toNat (q := u) (by omega)
      refine ⟨?_, ?_, fun h1 => ⟨_, _, rfl, by rw [hd]; omega⟩⟩
      · simp only [allG, List.all_cons, List.all_nil, Bool.and_true, isG, hd]
        simp; omega
      · unfold fv
        simp only [List.foldl_cons, List.foldl_nil, hd]
        omega
    · obtain ⟨i1, i2, i3⟩ := ih (u / 10) (by omega)
      rw [dd_gt h]
      have hd := dig_toNat (q := u % 10) (by omega)
      refine ⟨?_, ?_, fun _ => ?_⟩
      · simp only [allG, List.all_append, List.all_cons, List.all_nil, Bool.and_true, Bool.and_eq_true]
        refine ⟨i1, ?_⟩
        simp only [isG, hd]
        simp; omega
      · rw [fv_snoc, i2, hd]
        omega
      · obtain ⟨d, t, e1, e2⟩ := i3 (by omega)
        exact ⟨d, t ++ [UInt8.ofNat (48 + u % 10)], by rw [e1]; rfl, e2⟩
theorem dg_dd {u : Nat} (h1 : 1 ≤ u) (h2 : u ≤ 65536) : dgOk (Go.Lib.decDigits u) = true ∧ (rr (Go.Lib.decDigits u)).1 = u ∧ noL (Go.Lib.decDigits u) = true := by
  obtain ⟨a, b, c⟩ := dd_is u
  obtain ⟨d, t, e, hd⟩ := c h1
  rw [e] at a b ⊢
  have hne : d ≠ 48 := fun x => hd (by rw [x]; rfl)
  have ha := a
  simp only [allG, List.all_cons, Bool.and_eq_true] at ha
  have hg := ha.1
  simp only [isG, decide_eq_true_eq] at hg
  have hlen : t.length < 5 := by
    have := fv_ge t (0 * 10 + (d.toNat - 48))
    rw [fv_cons] at b
    apply Classical.byContradiction
    intro hn
    have h4 : 1 * 10 ^ 5 ≤ (0 * 10 + (d.toNat - 48)) * 10 ^ t.length := Nat.mul_le_mul (by omega) (Nat.pow_le_pow_right (by omega) (by omega))
    omega
  obtain ⟨g1, g2, _⟩ := dg_in hne a hlen
  refine ⟨by rw [g1, b]; simpa using h2, by rw [g2, b], ?_⟩
  simp [noL, isL]; omega
theorem letter_is {q : Nat} (h : q ≤ 25) : isL (UInt8.ofNat (65 + q)) = true ∧ vl (UInt8.ofNat (65 + q)) = q + 1 := by
  have e := let_toNat h
  constructor
  · simp only [isL, e]; simp; omega
  · unfold vl; rw [e]; omega
/-- A name is read as the cell that it names. -/
theorem txt_reads {r c : Int} (r0 : 0 ≤ r) (r1 : r < 65536) (c0 : 0 ≤ c) (c1 : c < 256) : rdOk (txtC r c) = true ∧ rdR (txtC r c) = r ∧ rdC (txtC r c) = c := by
  obtain ⟨g1, g2, g3⟩ := dg_dd (u := (r + 1).toNat) (by omega) (by omega)
  have hc : colS c = colT c.toNat := by unfold colS; rw [inB_iff.2 ⟨c0, c1⟩]; rfl
  have key : rdOk (txtC r c) = true ∧ rc 0 (txtC r c) = (c.toNat + 1, Go.Lib.decDigits (r + 1).toNat) := by
    unfold txtC
    rw [hc]
    unfold colT
    by_cases h : c.toNat < 26
    · rw [if_pos h]
      obtain ⟨l1, l2⟩ := letter_is (q := c.toNat) (by omega)
      obtain ⟨k1, k2⟩ := rd_one l1 g3
      rw [List.cons_append, List.nil_append]
      exact ⟨by rw [k1, g1], by rw [k2, l2]⟩
    · rw [if_neg h]
      obtain ⟨l1, l2⟩ := letter_is (q := c.toNat / 26 - 1) (by omega)
      obtain ⟨m1, m2⟩ := letter_is (q := c.toNat % 26) (by omega)
      obtain ⟨k1, k2⟩ := rd_two l1 m1 g3
      rw [List.cons_append, List.cons_append, List.nil_append]
      refine ⟨?_, ?_⟩
      · rw [k1, g1, l2, m2, decide_eq_true (by omega)]
        rfl
      · rw [k2, l2, m2]
        congr 1
        omega
  obtain ⟨k1, k2⟩ := key
  refine ⟨k1, ?_, ?_⟩
  · unfold rdR; rw [k1, k2]; simp only [if_true, g2]; omega
  · unfold rdC; rw [k1, k2]; simp only [if_true]; omega
theorem col_no58 (c : Int) : ∀ x ∈ colS c, x ≠ 58 := by
  unfold colS
  cases h : inB c 256 with
  | false => intro x hx; cases hx
  | true =>
    have hb := inB_iff.1 h
    intro x hx
    simp only [if_true] at hx
    unfold colT at hx
    by_cases e : c.toNat < 26
    · rw [if_pos e] at hx
      have : x = UInt8.ofNat (65 + c.toNat) := by simpa using hx
      rw [this]
      intro q
      have := congrArg UInt8.toNat q
      rw [let_toNat (by omega)] at this
      have h58 : (58 : UInt8).toNat = 58 := rfl
      omega
    · rw [if_neg e] at hx
      have h58 : (58 : UInt8).toNat = 58 := rfl
      rcases List.mem_cons.1 hx with rfl | hx
      · intro q
        have := congrArg UInt8.toNat q
        rw [let_toNat (by omega)] at this
        omega
      · have : x = UInt8.ofNat (65 + c.toNat % 26) := by simpa using hx
        rw [this]
        intro q
        have := congrArg UInt8.toNat q
        rw [let_toNat (by omega)] at this
        omega
theorem txt_no58 (r c : Int) : ∀ x ∈ txtC r c, x ≠ 58 := by
  intro x hx
  unfold txtC at hx
  rcases List.mem_append.1 hx with hx | hx
  · exact col_no58 c x hx
  · have := (dd_is (r + 1).toNat).1
    unfold allG at this
    have h2 := List.all_eq_true.1 this x hx
    simp only [isG, decide_eq_true_eq] at h2
    intro q
    rw [q] at h2
    have h58 : (58 : UInt8).toNat = 58 := rfl
    omega
theorem spl_app : ∀ (p q : List UInt8), (∀ c ∈ p, c ≠ 58) → spl (p ++ 58 :: q) = some (p, q)
  | [], q, _ => by show spl (58 :: q) = _; unfold spl; rw [if_pos rfl]
  | c :: t, q, h => by
    show spl (c :: (t ++ 58 :: q)) = _
    unfold spl
    rw [if_neg (h c (by simp)), spl_app t q (fun x hx => h x (by simp [hx]))]
    rfl
end Wpl
