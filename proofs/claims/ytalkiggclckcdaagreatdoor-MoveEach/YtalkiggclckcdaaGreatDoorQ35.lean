/- TPrLen, TPrOk, LPlainC. -/
import Derived.Test.YtalkiggclckcdaaGreatDoorQ34
namespace Go.Proofs.YtalkiggclckcdaaGreatDoor
open Go.RowKit Go.Shelf
set_option linter.unusedVariables false
theorem fName_len : ∀ i, (fNames.getD i []).length ≤ 8
  | 0 => by decide
  | 1 => by decide
  | 2 => by decide
  | 3 => by decide
  | 4 => by decide
  | 5 => by decide
  | 6 => by decide
  | 7 => by decide
  | 8 => by decide
  | i + 9 => by
    have : fNames.getD (i + 9) [] = [] := by
      unfold List.getD
      rw [List.getElem?_eq_none (by show 9 ≤ i + 9; omega)]; rfl
    rw [this]; simp
theorem sgnT_len (N : Int) : (Wnum.sgnT N).length ≤ 1 := by unfold Wnum.sgnT; split <;> simp
theorem txt_len {N : Int} {D : Nat} (h : N.natAbs ≤ 9223372036854775807) (hD : D ≤ 9223372036854775807) : (Wnum.txt N D).length ≤ 50 := by
  have h1 := sgnT_len N
  unfold Wnum.txt
  rw [List.length_append]
  split
  · have := Wpl.dd_len N.natAbs h
    have := Wpl.dd_len D hD
    simp only [List.length_append, List.length_cons]; omega
  have hq : N.natAbs / D ≤ 9223372036854775807 := Nat.le_trans (Nat.div_le_self _ _) h
  have := Wpl.dd_len (N.natAbs / D) hq
  split
  · omega
  · have := Wnum.decs_length D 6 (N.natAbs % D)
    simp only [List.length_append, List.length_cons]; omega
theorem litT_len {v : Wt.Vl} (h : Wt.vlOk v = true) : (litT v).length ≤ 600 := by
  unfold litT
  split
  · obtain ⟨n1, n2⟩ := Wnum.cN_bd v.n v.d
    obtain ⟨n3, n4⟩ := Wnum.cD_bd v.n v.d
    have := txt_len (N := Wnum.cN v.n v.d) (D := (Wnum.cD v.n v.d).toNat) (by omega) (by omega)
    omega
  split
  · rename_i h1 h2
    unfold Wt.vlOk at h
    rw [if_neg (by omega), if_neg h1] at h
    unfold Wv.right at h
    rw [if_neg (by omega), if_neg h1, if_pos h2] at h
    simp only [Bool.and_eq_true, decide_eq_true_eq] at h
    have hs := h.1.1.1.1.1
    have hd := Wlx.dbl_length v.t.data.toList
    have e : v.t.data.toList.length = v.t.size := by rw [Array.length_toList]; rfl
    simp only [List.length_cons, List.length_append, List.length_nil]; omega
  split
  · split <;> decide
  · have := fName_len v.f.toNat; omega
theorem cw_len (a : Wt.Rf) (h0 : 0 ≤ a.r) (h1 : a.r < 65536) : (cw a).length ≤ 40 := by
  unfold cw
  have := fx_len a.fc
  have := fx_len a.fr
  have := Wpl.colS_len a.c
  have := Wpl.dd_len (a.r + 1).toNat (by omega)
  simp only [List.length_append]; omega
theorem rfOk_in {a : Wt.Rf} (h : Wt.rfOk a = true) : (0 ≤ a.r ∧ a.r < 65536) ∧ (a.s = ⟨#[]⟩ ∨ Wt.shNm a.s = true) := by
  unfold Wt.rfOk Wt.inR at h
  simp only [Bool.and_eq_true, decide_eq_true_eq, Bool.or_eq_true] at h
  exact ⟨⟨h.1.1.1, h.1.1.2⟩, h.2⟩
theorem isNm_len {p : UInt8 → Bool} {l : List UInt8} (h : Wt.isNm p l = true) : 1 ≤ l.length ∧ l.length ≤ 16 := by
  unfold Wt.isNm at h
  simp only [Bool.and_eq_true, decide_eq_true_eq] at h
  exact ⟨h.1.1.1, h.1.1.2⟩
theorem celT_len {a : Wt.Rf} (h : Wt.rfOk a = true) : (celT a).length ≤ 60 := by
  obtain ⟨⟨h0, h1⟩, h2⟩ := rfOk_in h
  have := cw_len a h0 h1
  unfold celT
  split
  · omega
  · rename_i hn
    have := (isNm_len (h2.resolve_left hn)).2
    simp only [List.length_append, List.length_cons]; omega
def PrOk (f : Nat) : Prop := ∀ (l : List Wt.Nd) (s d : Nat), Wt.one f l = some (s, d) → ∀ least, (pr f least l).2 = l.drop s ∧ (pr f least l).1.length ≤ 1000 * s
theorem prA_ok {f : Nat} (ih : PrOk f) : ∀ (k : Nat) (first : Bool) (l : List Wt.Nd) (s d : Nat), Wt.many (Wt.one f) k l = some (s, d) → (prA (pr f) k first l).2 = l.drop s ∧ (prA (pr f) k first l).1.length ≤ 1000 * s + k := by
  intro k
  induction k with
  | zero => intro first l s d h; simp only [Wt.many, Option.some.injEq, Prod.mk.injEq] at h; obtain ⟨rfl, rfl⟩ := h; exact ⟨rfl, Nat.zero_le _⟩
  | succ k ihk =>
    intro first l s d h
    simp only [Wt.many] at h
    cases h1 : Wt.one f l with
    | none => rw [h1] at h; cases h
    | some q =>
      obtain ⟨a, b⟩ := q
      rw [h1] at h
      simp only at h
      cases h2 : Wt.many (Wt.one f) k (l.drop a) with
      | none => rw [h2] at h; cases h
      | some q2 =>
        obtain ⟨a2, b2⟩ := q2
        rw [h2] at h
        simp only [Option.some.injEq, Prod.mk.injEq] at h
        obtain ⟨rfl, rfl⟩ := h
        obtain ⟨i1, i2⟩ := ih l a b h1 0
        obtain ⟨j1, j2⟩ := ihk false _ a2 b2 h2
        simp only [prA]
        rw [i1]
        refine ⟨by rw [j1, List.drop_drop], ?_⟩
        have hf : (if first = true then ([] : List UInt8) else [44]).length ≤ 1 := by split <;> simp
        simp only [List.length_append]; omega
theorem mrk_len (x : Wt.Nd) : (mrk x).length ≤ 2 := by
  unfold mrk
  cases h : Wt.opOf x.op with
  | none => simp
  | some o =>
    have := List.mem_of_find?_eq_some h
    simp only [Wt.opsT, List.mem_cons, List.not_mem_nil, or_false] at this
    rcases this with rfl | rfl | rfl | rfl | rfl | rfl | rfl | rfl | rfl | rfl | rfl | rfl | rfl | rfl | rfl <;> decide
theorem opOf_tgh {x : Wt.Nd} {o : Int × List UInt8 × Int} (h : Wt.opOf x.op = some o) : tgh x = o.2.2 ∧ 0 ≤ o.2.2 ∧ o.2.2 ≤ 6 := by
  refine ⟨by unfold tgh; rw [h], ?_⟩
  have := List.mem_of_find?_eq_some h
  simp only [Wt.opsT, List.mem_cons, List.not_mem_nil, or_false] at this
  rcases this with rfl | rfl | rfl | rfl | rfl | rfl | rfl | rfl | rfl | rfl | rfl | rfl | rfl | rfl | rfl <;> decide
def Knd (x : Wt.Nd) : Prop :=
  (x.k = 1 ∧ Wt.vlOk x.v = true ∧ x = ⟨1, x.v, 0, ⟨#[]⟩, 0, Wt.r0, Wt.r0⟩) ∨ (x.k = 2 ∧ Wt.rfOk x.a = true ∧ x = ⟨2, Wt.v0, 0, ⟨#[]⟩, 0, x.a, Wt.r0⟩) ∨
  (x.k = 3 ∧ Wt.rfOk x.a = true ∧ Wt.rfOk x.b = true ∧ x.b.s.toList.isEmpty = true ∧ x = ⟨3, Wt.v0, 0, ⟨#[]⟩, 0, x.a, x.b⟩) ∨
  (x.k = 4 ∧ opK x.op = 4 ∧ x = ⟨4, Wt.v0, x.op, ⟨#[]⟩, 0, Wt.r0, Wt.r0⟩) ∨ (x.k = 5 ∧ opK x.op = 5 ∧ x = ⟨5, Wt.v0, x.op, ⟨#[]⟩, 0, Wt.r0, Wt.r0⟩) ∨
  (x.k = 6 ∧ Wt.fnNm x.nm = true ∧ 0 ≤ x.ar ∧ x.ar ≤ 30 ∧ x = ⟨6, Wt.v0, 0, x.nm, x.ar, Wt.r0, Wt.r0⟩)
theorem right_knd {x : Wt.Nd} (h : Wt.right x = true) : Knd x := by
  unfold Wt.right at h
  unfold Knd
  split at h
  · rename_i e; rw [Bool.and_eq_true, eqN_iff] at h; exact Or.inl ⟨e, h.1, h.2⟩
  split at h
  · rename_i e; rw [Bool.and_eq_true, eqN_iff] at h; exact Or.inr (Or.inl ⟨e, h.1, h.2⟩)
  split at h
  · rename_i e; simp only [Bool.and_eq_true, eqN_iff] at h; exact Or.inr (Or.inr (Or.inl ⟨e, h.1.1.1, h.1.1.2, h.1.2, h.2⟩))
  split at h
  · rename_i e; simp only [Bool.and_eq_true, eqN_iff, beq_iff_eq] at h; exact Or.inr (Or.inr (Or.inr (Or.inl ⟨e, h.1, h.2⟩)))
  split at h
  · rename_i e; simp only [Bool.and_eq_true, eqN_iff, beq_iff_eq] at h; exact Or.inr (Or.inr (Or.inr (Or.inr (Or.inl ⟨e, h.1, h.2⟩))))
  split at h
  · rename_i e; simp only [Bool.and_eq_true, eqN_iff, decide_eq_true_eq] at h; exact Or.inr (Or.inr (Or.inr (Or.inr (Or.inr ⟨e, h.1.1.1, h.1.1.2, h.1.2, h.2⟩))))
  · cases h
theorem opOf_zero : Wt.opOf 0 = none := by decide
theorem tgh_zero {x : Wt.Nd} (h : x.op = 0) : tgh x = 7 := by unfold tgh; rw [h, opOf_zero]
theorem knd_tgh {x : Wt.Nd} (h : Knd x) : (tgh x = 7 ∧ x.op = 0 ∧ (x.k = 1 ∨ x.k = 2 ∨ x.k = 3 ∨ x.k = 6)) ∨ ((tgh x = 5 ∨ tgh x = 6) ∧ Wt.parts x = 1 ∧ ∃ o, Wt.opOf x.op = some o) ∨ ((0 ≤ tgh x ∧ tgh x < 5) ∧ Wt.parts x = 2 ∧ ∃ o, Wt.opOf x.op = some o) := by
  rcases h with ⟨h, -, e⟩ | ⟨h, -, e⟩ | ⟨h, -, -, -, e⟩ | ⟨h, h2, -⟩ | ⟨h, h2, -⟩ | ⟨h, -, -, -, e⟩
  · have := congrArg Wt.Nd.op e
    exact Or.inl ⟨tgh_zero this, this, Or.inl h⟩
  · have := congrArg Wt.Nd.op e
    exact Or.inl ⟨tgh_zero this, this, Or.inr (Or.inl h)⟩
  · have := congrArg Wt.Nd.op e
    exact Or.inl ⟨tgh_zero this, this, Or.inr (Or.inr (Or.inl h))⟩
  · unfold opK at h2
    cases ho : Wt.opOf x.op with
    | none => rw [ho] at h2; simp at h2
    | some o =>
      obtain ⟨oo, om, ot⟩ := o
      rw [ho] at h2
      simp only at h2
      obtain ⟨t1, t2, t3⟩ := opOf_tgh ho
      simp only at t1 t2 t3
      refine Or.inr (Or.inl ⟨?_, by unfold Wt.parts; rw [if_pos h], _, rfl⟩)
      split at h2
      · omega
      · omega
  · unfold opK at h2
    cases ho : Wt.opOf x.op with
    | none => rw [ho] at h2; simp at h2
    | some o =>
      obtain ⟨oo, om, ot⟩ := o
      rw [ho] at h2
      simp only at h2
      obtain ⟨t1, t2, t3⟩ := opOf_tgh ho
      simp only at t1 t2 t3
      refine Or.inr (Or.inr ⟨?_, by unfold Wt.parts; rw [if_neg (by omega), if_pos h], _, rfl⟩)
      split at h2
      · omega
      · omega
  · have := congrArg Wt.Nd.op e
    exact Or.inl ⟨tgh_zero this, this, Or.inr (Or.inr (Or.inr h))⟩
theorem knd_parts0 {x : Wt.Nd} (h : Knd x) (hk : x.k = 1 ∨ x.k = 2 ∨ x.k = 3) : Wt.parts x = 0 := by
  unfold Wt.parts
  rw [if_neg (by omega), if_neg (by omega)]
  rcases h with ⟨h, -, e⟩ | ⟨h, -, e⟩ | ⟨h, -, -, -, e⟩ | ⟨h, h2, -⟩ | ⟨h, h2, -⟩ | ⟨h, -, -, -, e⟩
  · exact congrArg Wt.Nd.ar e
  · exact congrArg Wt.Nd.ar e
  · exact congrArg Wt.Nd.ar e
  all_goals omega
theorem knd_parts6 {x : Wt.Nd} (h : x.k = 6) : Wt.parts x = x.ar := by
  unfold Wt.parts
  rw [if_neg (by omega), if_neg (by omega)]
theorem many_one {f : Nat} {l : List Wt.Nd} {s d : Nat} (h : Wt.many (Wt.one f) 1 l = some (s, d)) : Wt.one f l = some (s, d) := by
  simp only [Wt.many] at h
  cases h1 : Wt.one f l with
  | none => rw [h1] at h; cases h
  | some q => obtain ⟨a, b⟩ := q; rw [h1] at h; simpa using h
theorem many_two {f : Nat} {l : List Wt.Nd} {s d : Nat} (h : Wt.many (Wt.one f) 2 l = some (s, d)) : ∃ a b a2 b2, Wt.one f l = some (a, b) ∧ Wt.one f (l.drop a) = some (a2, b2) ∧ s = a + a2 ∧ d = max b b2 := by
  simp only [Wt.many] at h
  cases h1 : Wt.one f l with
  | none => rw [h1] at h; cases h
  | some q =>
    obtain ⟨a, b⟩ := q
    rw [h1] at h
    simp only at h
    cases h2 : Wt.one f (l.drop a) with
    | none => rw [h2] at h; cases h
    | some q2 =>
      obtain ⟨a2, b2⟩ := q2
      rw [h2] at h
      simp only [Option.some.injEq, Prod.mk.injEq, Nat.add_zero, Nat.max_zero] at h
      exact ⟨a, b, a2, b2, rfl, h2, h.1.symm, h.2.symm⟩
theorem one_unf {f : Nat} {x : Wt.Nd} {r : List Wt.Nd} {s d : Nat} (h : Wt.one (f + 1) (x :: r) = some (s, d)) : Wt.right x = true ∧ ∃ a b, Wt.many (Wt.one f) (Wt.parts x).toNat r = some (a, b) ∧ s = a + 1 ∧ d = b + 1 := by
  unfold Wt.one at h
  split at h
  · rename_i hx
    cases h1 : Wt.many (Wt.one f) (Wt.parts x).toNat r with
    | none => rw [h1] at h; cases h
    | some q =>
      obtain ⟨a, b⟩ := q
      rw [h1] at h
      simp only [Option.some.injEq, Prod.mk.injEq] at h
      exact ⟨hx, a, b, rfl, by omega, by omega⟩
  · cases h
theorem prS_ok {f : Nat} (ih : PrOk f) {x : Wt.Nd} (hx : Knd x) (hk : x.k = 1 ∨ x.k = 2 ∨ x.k = 3 ∨ x.k = 6) {r : List Wt.Nd} {a b : Nat} (h : Wt.many (Wt.one f) (Wt.parts x).toNat r = some (a, b)) :
    (prS (pr f) x r).2 = r.drop a ∧ (prS (pr f) x r).1.length ≤ 1000 * a + 900 := by
  unfold prS
  by_cases h1 : x.k = 1
  · rw [if_pos h1]
    rw [knd_parts0 hx (Or.inl h1)] at h
    simp only [Int.toNat_zero, Wt.many, Option.some.injEq, Prod.mk.injEq] at h
    have : Wt.vlOk x.v = true := by
      rcases hx with ⟨_, h, e⟩ | ⟨h, -, e⟩ | ⟨h, -, -, -, e⟩ | ⟨h, h2, -⟩ | ⟨h, h2, -⟩ | ⟨h, -, -, -, e⟩
      · exact h
      all_goals omega
    have := litT_len this
    exact ⟨by rw [← h.1]; rfl, by simp only; omega⟩
  rw [if_neg h1]
  by_cases h2 : x.k = 2
  · rw [if_pos h2]
    rw [knd_parts0 hx (Or.inr (Or.inl h2))] at h
    simp only [Int.toNat_zero, Wt.many, Option.some.injEq, Prod.mk.injEq] at h
    have : Wt.rfOk x.a = true := by
      rcases hx with ⟨h, -, e⟩ | ⟨_, h, e⟩ | ⟨h, -, -, -, e⟩ | ⟨h, h2, -⟩ | ⟨h, h2, -⟩ | ⟨h, -, -, -, e⟩
      · omega
      · exact h
      all_goals omega
    have := celT_len this
    exact ⟨by rw [← h.1]; rfl, by simp only; omega⟩
  rw [if_neg h2]
  by_cases h3 : x.k = 3
  · rw [if_pos h3]
    rw [knd_parts0 hx (Or.inr (Or.inr h3))] at h
    simp only [Int.toNat_zero, Wt.many, Option.some.injEq, Prod.mk.injEq] at h
    have : Wt.rfOk x.a = true ∧ Wt.rfOk x.b = true := by
      rcases hx with ⟨h, -, e⟩ | ⟨h, -, e⟩ | ⟨_, h, h', -, e⟩ | ⟨h, h2, -⟩ | ⟨h, h2, -⟩ | ⟨h, -, -, -, e⟩
      · omega
      · omega
      · exact ⟨h, h'⟩
      all_goals omega
    have l1 := celT_len this.1
    have l2 := celT_len this.2
    exact ⟨by rw [← h.1]; rfl, by simp only [List.length_append, List.length_cons]; omega⟩
  rw [if_neg h3]
  have h6 : x.k = 6 := by omega
  rw [knd_parts6 h6] at h
  have : Wt.fnNm x.nm = true ∧ 0 ≤ x.ar ∧ x.ar ≤ 30 := by
    rcases hx with ⟨h, -, e⟩ | ⟨h, -, e⟩ | ⟨h, -, -, -, e⟩ | ⟨h, h2, -⟩ | ⟨h, h2, -⟩ | ⟨_, h, h', h'', e⟩
    · omega
    · omega
    · omega
    · omega
    · omega
    · exact ⟨h, h', h''⟩
  have l1 := (isNm_len this.1).2
  obtain ⟨j1, j2⟩ := prA_ok ih _ true _ _ _ h
  exact ⟨j1, by simp only [List.length_append, List.length_cons, List.length_nil]; omega⟩
theorem prN_ok {f : Nat} (ih : PrOk f) {x : Wt.Nd} (hx : Knd x) {r : List Wt.Nd} {a b : Nat} (h : Wt.many (Wt.one f) (Wt.parts x).toNat r = some (a, b)) :
    (prN (pr f) x r).2 = r.drop a ∧ (prN (pr f) x r).1.length ≤ 1000 * a + 900 := by
  have hm := mrk_len x
  unfold prN
  rcases knd_tgh hx with ⟨h7, -, hk⟩ | ⟨h56, hp, -⟩ | ⟨h04, hp, -⟩
  · rw [if_pos h7]; exact prS_ok ih hx hk h
  · rw [if_neg (by omega)]
    rw [hp] at h
    have h' := many_one (show Wt.many (Wt.one f) 1 r = some (a, b) from h)
    rcases h56 with h5 | h6
    · rw [if_pos h5]
      obtain ⟨i1, i2⟩ := ih _ _ _ h' 5
      exact ⟨i1, by simp only [List.length_append]; omega⟩
    · rw [if_neg (by omega), if_pos h6]
      obtain ⟨i1, i2⟩ := ih _ _ _ h' 6
      exact ⟨i1, by simp only [List.length_append]; omega⟩
  · rw [if_neg (by omega), if_neg (by omega), if_neg (by omega)]
    rw [hp] at h
    obtain ⟨a1, b1, a2, b2, e1, e2, e3, e4⟩ := many_two (show Wt.many (Wt.one f) 2 r = some (a, b) from h)
    obtain ⟨i1, i2⟩ := ih _ _ _ e1 (tgh x)
    rw [i1]
    obtain ⟨j1, j2⟩ := ih _ _ _ e2 (tgh x + 1)
    refine ⟨by rw [j1, List.drop_drop, e3], by simp only [List.length_append]; omega⟩
theorem pr_ok : ∀ (f : Nat), PrOk f
  | 0, l, s, d, h => by simp [Wt.one] at h
  | f + 1, [], s, d, h => by simp [Wt.one] at h
  | f + 1, x :: r, s, d, h => fun least => by
    obtain ⟨hx, a, b, hm, rfl, rfl⟩ := one_unf h
    obtain ⟨i1, i2⟩ := prN_ok (pr_ok f) (right_knd hx) hm
    simp only [pr]
    split
    · exact ⟨by rw [i1]; rfl, by omega⟩
    · exact ⟨by rw [i1]; rfl, by simp only [List.length_append, List.length_cons, List.length_nil]; omega⟩
end Go.Proofs.YtalkiggclckcdaaGreatDoor
namespace Wlx
def mk (c : UInt8) : Bool := marks.any fun n => n.head? == some c
theorem numSz_pos {c : UInt8} {t : List UInt8} : 0 < numSz (c :: t) ↔ dig c = true := by
  unfold numSz
  cases h : dig c with
  | false => rw [runP_neg h, if_pos rfl]; simp
  | true =>
    rw [runP_pos h, if_neg (by omega)]
    have g : ∀ n l, 0 < n → 0 < numTl n l := by
      intro n l hn
      cases l with
      | nil => exact hn
      | cons c t => rw [numTl_cons]; split <;> omega
    simp [g]
theorem txtSz_pos {c : UInt8} {t : List UInt8} (h : 0 < txtSz (c :: t)) : c = 34 := by
  have e : txtSz (c :: t) = if c = 34 then quo true 1 t else 0 := rfl
  rw [e] at h
  by_cases hc : c = 34
  · exact hc
  · rw [if_neg hc] at h; omega
theorem wrdSz_pos {c : UInt8} {t : List UInt8} : 0 < runP wrd (c :: t) ↔ wrd c = true := by
  cases h : wrd c with
  | false => rw [runP_neg h]; simp
  | true => rw [runP_pos h]; simp
theorem nameSz_head {c : UInt8} {t : List UInt8} : ∀ (ns : List (List UInt8)), 0 < nameSz (c :: t) ns → ∃ n ∈ ns, n.head? = some c
  | [], h => by simp [nameSz] at h
  | n :: r, h => by
    unfold nameSz at h
    by_cases hb : begins n (c :: t) = true
    · rw [if_pos hb] at h
      cases n with
      | nil => simp at h
      | cons a p =>
        simp only [begins, Bool.and_eq_true, decide_eq_true_eq] at hb
        exact ⟨a :: p, by simp, by rw [hb.1]; rfl⟩
    · rw [if_neg hb] at h
      obtain ⟨x, hx, hh⟩ := nameSz_head r h
      exact ⟨x, by simp [hx], hh⟩
theorem faultSz_pos {c : UInt8} {t : List UInt8} (h : 0 < nameSz (c :: t) faults) : c = 35 := by
  obtain ⟨n, hn, hh⟩ := nameSz_head faults h
  have : ∀ n ∈ faults, n.head? = some 35 := by decide
  rw [this n hn] at hh
  exact (Option.some.inj hh).symm
theorem markSz_pos {c : UInt8} {t : List UInt8} (h : 0 < nameSz (c :: t) marks) : mk c = true := by
  obtain ⟨n, hn, hh⟩ := nameSz_head marks h
  unfold mk
  exact List.any_eq_true.2 ⟨n, hn, by rw [hh]; simp⟩
theorem sz1 (l : List UInt8) : sz 1 l = numSz l := rfl
theorem sz2 (l : List UInt8) : sz 2 l = txtSz l := rfl
theorem sz3 (l : List UInt8) : sz 3 l = runP wrd l := rfl
theorem sz4 (l : List UInt8) : sz 4 l = nameSz l faults := rfl
theorem sz5 (l : List UInt8) : sz 5 l = nameSz l marks := rfl
theorem cls : ∀ c : UInt8, (wrd c = true → ¬ c = 34 ∧ ¬ c = 35 ∧ mk c = false ∧ ¬ c = 32 ∧ ¬ c = 46) ∧ (dig c = true → wrd c = true) ∧ (mk c = true → ¬ c = 34 ∧ ¬ c = 35 ∧ wrd c = false ∧ ¬ c = 32 ∧ ¬ c = 46) := by
  intro c
  have key : ∀ n : Fin 256, (wrd (UInt8.ofNat n) = true → ¬ UInt8.ofNat n = 34 ∧ ¬ UInt8.ofNat n = 35 ∧ mk (UInt8.ofNat n) = false ∧ ¬ UInt8.ofNat n = 32 ∧ ¬ UInt8.ofNat n = 46) ∧ (dig (UInt8.ofNat n) = true → wrd (UInt8.ofNat n) = true) ∧ (mk (UInt8.ofNat n) = true → ¬ UInt8.ofNat n = 34 ∧ ¬ UInt8.ofNat n = 35 ∧ wrd (UInt8.ofNat n) = false ∧ ¬ UInt8.ofNat n = 32 ∧ ¬ UInt8.ofNat n = 46) := by decide +kernel
  have := key ⟨c.toNat, c.toNat_lt⟩
  simpa using this
theorem kind_of {c : UInt8} {t : List UInt8} {k : Nat} (hk : hit (c :: t) = k) (h6 : ¬ k = 6) :
    (k = 1 ∧ dig c = true ∨ k = 2 ∧ c = 34 ∨ k = 3 ∧ wrd c = true ∧ dig c = false ∨ k = 4 ∧ c = 35 ∨ k = 5 ∧ mk c = true) := by
  have hp := hit_pos (l := c :: t) (by rw [hk]; exact h6)
  have h1 := hit_low (c :: t)
  have h2 := hit_high (c :: t)
  rw [hk] at hp h1 h2
  have : k = 1 ∨ k = 2 ∨ k = 3 ∨ k = 4 ∨ k = 5 := by omega
  rcases this with rfl | rfl | rfl | rfl | rfl
  · exact Or.inl ⟨rfl, numSz_pos.1 hp⟩
  · exact Or.inr (Or.inl ⟨rfl, txtSz_pos hp⟩)
  · refine Or.inr (Or.inr (Or.inl ⟨rfl, wrdSz_pos.1 hp, ?_⟩))
    cases hd : dig c with
    | false => rfl
    | true =>
      have : hit (c :: t) = 1 := hit_first (by omega) (by omega) (numSz_pos.2 hd) (fun j a b => by omega)
      rw [this] at hk; omega
  · exact Or.inr (Or.inr (Or.inr (Or.inl ⟨rfl, faultSz_pos hp⟩)))
  · exact Or.inr (Or.inr (Or.inr (Or.inr ⟨rfl, markSz_pos hp⟩)))
theorem hit_of {c : UInt8} {t : List UInt8} {k : Nat} (h : k = 1 ∧ dig c = true ∨ k = 2 ∧ c = 34 ∨ k = 3 ∧ wrd c = true ∧ dig c = false ∨ k = 4 ∧ c = 35 ∨ k = 5 ∧ mk c = true) (hp : 0 < sz k (c :: t)) : hit (c :: t) = k := by
  obtain ⟨c1, c2, c3⟩ := cls c
  have z1 : dig c = false → sz 1 (c :: t) = 0 := fun hd => by
    have : ¬ 0 < numSz (c :: t) := fun h => by rw [numSz_pos.1 h] at hd; cases hd
    rw [sz1]; omega
  have z2 : ¬ c = 34 → sz 2 (c :: t) = 0 := fun hd => by
    have : ¬ 0 < txtSz (c :: t) := fun h => hd (txtSz_pos h)
    rw [sz2]; omega
  have z3 : wrd c = false → sz 3 (c :: t) = 0 := fun hd => by
    have : ¬ 0 < runP wrd (c :: t) := fun h => by rw [wrdSz_pos.1 h] at hd; cases hd
    rw [sz3]; omega
  have z4 : ¬ c = 35 → sz 4 (c :: t) = 0 := fun hd => by
    have : ¬ 0 < nameSz (c :: t) faults := fun h => hd (faultSz_pos h)
    rw [sz4]; omega
  have nd : wrd c = false → dig c = false := fun h => by
    cases hd : dig c with
    | false => rfl
    | true => rw [c2 hd] at h; cases h
  rcases h with ⟨rfl, hd⟩ | ⟨rfl, rfl⟩ | ⟨rfl, hw, hd⟩ | ⟨rfl, rfl⟩ | ⟨rfl, hm⟩
  · exact hit_first (by omega) (by omega) hp (fun j a b => by omega)
  · exact hit_first (by omega) (by omega) hp (fun j a b => by
      obtain rfl : j = 1 := by omega
      exact z1 (by decide))
  · obtain ⟨a1, a2, a3, a4, a5⟩ := c1 hw
    exact hit_first (by omega) (by omega) hp (fun j a b => by
      have : j = 1 ∨ j = 2 := by omega
      rcases this with rfl | rfl
      · exact z1 hd
      · exact z2 a1)
  · exact hit_first (by omega) (by omega) hp (fun j a b => by
      have : j = 1 ∨ j = 2 ∨ j = 3 := by omega
      rcases this with rfl | rfl | rfl
      · exact z1 (by decide)
      · exact z2 (by decide)
      · exact z3 (by decide))
  · obtain ⟨a1, a2, a3, a4, a5⟩ := c3 hm
    exact hit_first (by omega) (by omega) hp (fun j a b => by
      have : j = 1 ∨ j = 2 ∨ j = 3 ∨ j = 4 := by omega
      rcases this with rfl | rfl | rfl | rfl
      · exact z1 (nd a3)
      · exact z2 a1
      · exact z3 a3
      · exact z4 a2)
end Wlx
