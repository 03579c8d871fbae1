/- TTree, TPrLen, TPrOk, VWalkF, WalkIt. -/
import Derived.Test.YtlggnpohhahdlaaGreatDoorQ28
import Derived.Test.YtlggnpohhahdlaaGreatDoorChecked
import Derived.Shelf.Strconv.Itoa3
import Derived.Lib.AppendIntMem
import Derived.Ground.NamesProg
namespace Go.Proofs.YtlggnpohhahdlaaGreatDoor
open Go.RowKit
set_option linter.unusedVariables false
theorem take_less {α : Type} {m l : List α} {s a : Nat} (h : m.take s = l.take s) (ha : a ≤ s) : m.take a = l.take a := by
  have := congrArg (List.take a) h
  rwa [List.take_take, List.take_take, Nat.min_eq_left ha] at this
theorem take_behind {α : Type} {m l : List α} {a b : Nat} (h : m.take (a + b) = l.take (a + b)) : (m.drop a).take b = (l.drop a).take b := by
  have := congrArg (List.drop a) h
  rwa [List.drop_take, List.drop_take, Nat.add_sub_cancel_left] at this
def Loc (f : Nat) : Prop := ∀ (l : List Wt.Nd) (s d : Nat), Wt.one f l = some (s, d) → 1 ≤ d ∧ d ≤ s ∧ ∀ g m, d ≤ g → m.take s = l.take s → Wt.one g m = some (s, d)
theorem many_loc {f : Nat} (ih : Loc f) : ∀ (k : Nat) (l : List Wt.Nd) (s d : Nat), Wt.many (Wt.one f) k l = some (s, d) → d ≤ s ∧ ∀ g m, d ≤ g → m.take s = l.take s → Wt.many (Wt.one g) k m = some (s, d) := by
  intro k
  induction k with
  | zero => intro l s d h; simp only [Wt.many, Option.some.injEq, Prod.mk.injEq] at h; obtain ⟨rfl, rfl⟩ := h; exact ⟨Nat.le_refl _, fun g m _ _ => rfl⟩
  | succ k ihk =>
    intro l s d h
    simp only [Wt.many] at h
    cases h1 : Wt.one f l with
    | none => rw [h1] at h; cases h
    | some q =>
      obtain ⟨a, b⟩ := q
      rw [h1] at h
      simp only at h
      cases h2 : Wt.many (Wt.one f) k (l.drop a) with
      | none => rw [h2] at h; cases h
      | some q2 =>
        obtain ⟨a2, b2⟩ := q2
        rw [h2] at h
        simp only [Option.some.injEq, Prod.mk.injEq] at h
        obtain ⟨rfl, rfl⟩ := h
        obtain ⟨i0, i1, i2⟩ := ih l a b h1
        obtain ⟨j1, j2⟩ := ihk _ a2 b2 h2
        refine ⟨by omega, fun g m hg hm => ?_⟩
        have e1 := i2 g m (by omega) (take_less hm (by omega))
        have e2 := j2 g (m.drop a) (by omega) (take_behind hm)
        simp only [Wt.many, e1, e2]
theorem one_loc : ∀ (f : Nat), Loc f
  | 0, l, s, d, h => by simp [Wt.one] at h
  | f + 1, [], s, d, h => by simp [Wt.one] at h
  | f + 1, x :: r, s, d, h => by
    unfold Wt.one at h
    split at h
    · rename_i hx
      cases h1 : Wt.many (Wt.one f) (Wt.parts x).toNat r with
      | none => rw [h1] at h; cases h
      | some q =>
        obtain ⟨a, b⟩ := q
        rw [h1] at h
        simp only [Option.some.injEq, Prod.mk.injEq] at h
        obtain ⟨rfl, rfl⟩ := h
        obtain ⟨j1, j2⟩ := many_loc (one_loc f) _ _ _ _ h1
        refine ⟨by omega, by omega, fun g m hg hm => ?_⟩
        cases m with
        | nil => simp at hm
        | cons y t =>
          obtain ⟨g, rfl⟩ : ∃ g', g = g' + 1 := ⟨g - 1, by omega⟩
          simp only [List.take_succ_cons, List.cons.injEq] at hm
          obtain ⟨rfl, hm⟩ := hm
          unfold Wt.one
          rw [if_pos hx, j2 g t (by omega) hm]
    · cases h
theorem one_same {f g : Nat} {l m : List Wt.Nd} {s d : Nat} (h : Wt.one f l = some (s, d)) (hg : d ≤ g) (hm : m.take s = l.take s) : Wt.one g m = some (s, d) := (one_loc f l s d h).2.2 g m hg hm
def Subs (f : Nat) : Prop := ∀ (l : List Wt.Nd) (s d : Nat), Wt.one f l = some (s, d) → ∀ j, j < s → ∃ s' d', Wt.one f (l.drop j) = some (s', d') ∧ j + s' ≤ s ∧ d' ≤ d
theorem many_subs {f : Nat} (ih : Subs f) : ∀ (k : Nat) (l : List Wt.Nd) (s d : Nat), Wt.many (Wt.one f) k l = some (s, d) → ∀ j, j < s → ∃ s' d', Wt.one f (l.drop j) = some (s', d') ∧ j + s' ≤ s ∧ d' ≤ d := by
  intro k
  induction k with
  | zero => intro l s d h j hj; simp only [Wt.many, Option.some.injEq, Prod.mk.injEq] at h; omega
  | succ k ihk =>
    intro l s d h j hj
    simp only [Wt.many] at h
    cases h1 : Wt.one f l with
    | none => rw [h1] at h; cases h
    | some q =>
      obtain ⟨a, b⟩ := q
      rw [h1] at h
      simp only at h
      cases h2 : Wt.many (Wt.one f) k (l.drop a) with
      | none => rw [h2] at h; cases h
      | some q2 =>
        obtain ⟨a2, b2⟩ := q2
        rw [h2] at h
        simp only [Option.some.injEq, Prod.mk.injEq] at h
        obtain ⟨rfl, rfl⟩ := h
        rcases Nat.lt_or_ge j a with hja | hja
        · obtain ⟨s', d', e1, e2, e3⟩ := ih l a b h1 j hja
          exact ⟨s', d', e1, by omega, by omega⟩
        · obtain ⟨s', d', e1, e2, e3⟩ := ihk _ a2 b2 h2 (j - a) (by omega)
          rw [List.drop_drop, show a + (j - a) = j by omega] at e1
          exact ⟨s', d', e1, by omega, by omega⟩
theorem one_subs : ∀ (f : Nat), Subs f
  | 0, l, s, d, h => by simp [Wt.one] at h
  | f + 1, [], s, d, h => by simp [Wt.one] at h
  | f + 1, x :: r, s, d, h => fun j hj => by
    cases j with
    | zero => exact ⟨s, d, h, by omega, Nat.le_refl _⟩
    | succ j =>
      unfold Wt.one at h
      split at h
      · rename_i hx
        cases h1 : Wt.many (Wt.one f) (Wt.parts x).toNat r with
        | none => rw [h1] at h; cases h
        | some q =>
          obtain ⟨a, b⟩ := q
          rw [h1] at h
          simp only [Option.some.injEq, Prod.mk.injEq] at h
          obtain ⟨rfl, rfl⟩ := h
          obtain ⟨s', d', e1, e2, e3⟩ := many_subs (one_subs f) _ _ _ _ h1 j (by omega)
          have l1 := (one_loc f _ _ _ e1)
          have l2 := one_deep _ _ _ _ e1
          exact ⟨s', d', one_same e1 (by omega) rfl, by omega, by omega⟩
      · cases h
theorem one_node {f : Nat} {x : Wt.Nd} {r : List Wt.Nd} {s d : Nat} (h : Wt.one f (x :: r) = some (s, d)) : Wt.right x = true ∧ ∃ a b, Wt.many (Wt.one f) (Wt.parts x).toNat r = some (a, b) ∧ s = a + 1 ∧ d = b + 1 := by
  cases f with
  | zero => simp [Wt.one] at h
  | succ f =>
    unfold Wt.one at h
    split at h
    · rename_i hx
      cases h1 : Wt.many (Wt.one f) (Wt.parts x).toNat r with
      | none => rw [h1] at h; cases h
      | some q =>
        obtain ⟨a, b⟩ := q
        rw [h1] at h
        simp only [Option.some.injEq, Prod.mk.injEq] at h
        have l1 := one_deep (f + 1) (x :: r) s d (by unfold Wt.one; rw [if_pos hx, h1]; simp [h])
        exact ⟨hx, a, b, (many_loc (one_loc f) _ _ _ _ h1).2 (f + 1) r (by omega) rfl, by omega, by omega⟩
    · cases h
theorem check_zero {L : List Wt.Nd} (h : Wt.check L = 0) : L.length ≤ 256 ∧ ∃ d, Wt.one (L.length + 1) L = some (L.length, d) ∧ d ≤ 32 := by
  unfold Wt.check at h
  split at h
  · omega
  rename_i h1
  split at h
  · omega
  rename_i s d h2
  split at h
  · omega
  rename_i h3
  split at h
  · omega
  rename_i h4
  have : s = L.length := by omega
  subst this
  exact ⟨by omega, d, h2, by omega⟩
open Go.RowKit Go.Shelf
theorem fName_len : ∀ i, (fNames.getD i []).length ≤ 8
  | 0 => by decide
  | 1 => by decide
  | 2 => by decide
  | 3 => by decide
  | 4 => by decide
  | 5 => by decide
  | 6 => by decide
  | 7 => by decide
  | 8 => by decide
  | i + 9 => by
    have : fNames.getD (i + 9) [] = [] := by
      unfold List.getD
      rw [List.getElem?_eq_none (by show 9 ≤ i + 9; omega)]; rfl
    rw [this]; simp
theorem sgnT_len (N : Int) : (Wnum.sgnT N).length ≤ 1 := by unfold Wnum.sgnT; split <;> simp
theorem txt_len {N : Int} {D : Nat} (h : N.natAbs ≤ 9223372036854775807) (hD : D ≤ 9223372036854775807) : (Wnum.txt N D).length ≤ 50 := by
  have h1 := sgnT_len N
  unfold Wnum.txt
  rw [List.length_append]
  split
  · have := Wpl.dd_len N.natAbs h
    have := Wpl.dd_len D hD
    simp only [List.length_append, List.length_cons]; omega
  have hq : N.natAbs / D ≤ 9223372036854775807 := Nat.le_trans (Nat.div_le_self _ _) h
  have := Wpl.dd_len (N.natAbs / D) hq
  split
  · omega
  · have := Wnum.decs_length D 6 (N.natAbs % D)
    simp only [List.length_append, List.length_cons]; omega
theorem litT_len {v : Wt.Vl} (h : Wt.vlOk v = true) : (litT v).length ≤ 600 := by
  unfold litT
  split
  · obtain ⟨n1, n2⟩ := Wnum.cN_bd v.n v.d
    obtain ⟨n3, n4⟩ := Wnum.cD_bd v.n v.d
    have := txt_len (N := Wnum.cN v.n v.d) (D := (Wnum.cD v.n v.d).toNat) (by omega) (by omega)
    omega
  split
  · rename_i h1 h2
    unfold Wt.vlOk at h
    rw [if_neg (by omega), if_neg h1] at h
    unfold Wv.right at h
    rw [if_neg (by omega), if_neg h1, if_pos h2] at h
    simp only [Bool.and_eq_true, decide_eq_true_eq] at h
    have hs := h.1.1.1.1.1
    have hd := Wlx.dbl_length v.t.data.toList
    have e : v.t.data.toList.length = v.t.size := by rw [Array.length_toList]; rfl
    simp only [List.length_cons, List.length_append, List.length_nil]; omega
  split
  · split <;> decide
  · have := fName_len v.f.toNat; omega
theorem cw_len (a : Wt.Rf) (h0 : 0 ≤ a.r) (h1 : a.r < 65536) : (cw a).length ≤ 40 := by
  unfold cw
  have := fx_len a.fc
  have := fx_len a.fr
  have := Wpl.colS_len a.c
  have := Wpl.dd_len (a.r + 1).toNat (by omega)
  simp only [List.length_append]; omega
theorem rfOk_in {a : Wt.Rf} (h : Wt.rfOk a = true) : (0 ≤ a.r ∧ a.r < 65536) ∧ (a.s = ⟨#[]⟩ ∨ Wt.shNm a.s = true) := by
  unfold Wt.rfOk Wt.inR at h
  simp only [Bool.and_eq_true, decide_eq_true_eq, Bool.or_eq_true] at h
  exact ⟨⟨h.1.1.1, h.1.1.2⟩, h.2⟩
theorem isNm_len {p : UInt8 → Bool} {l : List UInt8} (h : Wt.isNm p l = true) : 1 ≤ l.length ∧ l.length ≤ 16 := by
  unfold Wt.isNm at h
  simp only [Bool.and_eq_true, decide_eq_true_eq] at h
  exact ⟨h.1.1.1, h.1.1.2⟩
theorem celT_len {a : Wt.Rf} (h : Wt.rfOk a = true) : (celT a).length ≤ 60 := by
  obtain ⟨⟨h0, h1⟩, h2⟩ := rfOk_in h
  have := cw_len a h0 h1
  unfold celT
  split
  · omega
  · rename_i hn
    have := (isNm_len (h2.resolve_left hn)).2
    simp only [List.length_append, List.length_cons]; omega
def PrOk (f : Nat) : Prop := ∀ (l : List Wt.Nd) (s d : Nat), Wt.one f l = some (s, d) → ∀ least, (pr f least l).2 = l.drop s ∧ (pr f least l).1.length ≤ 1000 * s
theorem prA_ok {f : Nat} (ih : PrOk f) : ∀ (k : Nat) (first : Bool) (l : List Wt.Nd) (s d : Nat), Wt.many (Wt.one f) k l = some (s, d) → (prA (pr f) k first l).2 = l.drop s ∧ (prA (pr f) k first l).1.length ≤ 1000 * s + k := by
  intro k
  induction k with
  | zero => intro first l s d h; simp only [Wt.many, Option.some.injEq, Prod.mk.injEq] at h; obtain ⟨rfl, rfl⟩ := h; exact ⟨rfl, Nat.zero_le _⟩
  | succ k ihk =>
    intro first l s d h
    simp only [Wt.many] at h
    cases h1 : Wt.one f l with
    | none => rw [h1] at h; cases h
    | some q =>
      obtain ⟨a, b⟩ := q
      rw [h1] at h
      simp only at h
      cases h2 : Wt.many (Wt.one f) k (l.drop a) with
      | none => rw [h2] at h; cases h
      | some q2 =>
        obtain ⟨a2, b2⟩ := q2
        rw [h2] at h
        simp only [Option.some.injEq, Prod.mk.injEq] at h
        obtain ⟨rfl, rfl⟩ := h
        obtain ⟨i1, i2⟩ := ih l a b h1 0
        obtain ⟨j1, j2⟩ := ihk false _ a2 b2 h2
        simp only [prA]
        rw [i1]
        refine ⟨by rw [j1, List.drop_drop], ?_⟩
        have hf : (if first = true then ([] : List UInt8) else [44]).length ≤ 1 := by split <;> simp
        simp only [List.length_append]; omega
theorem mrk_len (x : Wt.Nd) : (mrk x).length ≤ 2 := by
  unfold mrk
  cases h : Wt.opOf x.op with
  | none => simp
  | some o =>
    have := List.mem_of_find?_eq_some h
    simp only [Wt.opsT, List.mem_cons, List.not_mem_nil, or_false] at this
    rcases this with rfl | rfl | rfl | rfl | rfl | rfl | rfl | rfl | rfl | rfl | rfl | rfl | rfl | rfl | rfl <;> decide
theorem opOf_tgh {x : Wt.Nd} {o : Int × List UInt8 × Int} (h : Wt.opOf x.op = some o) : tgh x = o.2.2 ∧ 0 ≤ o.2.2 ∧ o.2.2 ≤ 6 := by
  refine ⟨by unfold tgh; rw [h], ?_⟩
  have := List.mem_of_find?_eq_some h
  simp only [Wt.opsT, List.mem_cons, List.not_mem_nil, or_false] at this
  rcases this with rfl | rfl | rfl | rfl | rfl | rfl | rfl | rfl | rfl | rfl | rfl | rfl | rfl | rfl | rfl <;> decide
def Knd (x : Wt.Nd) : Prop :=
  (x.k = 1 ∧ Wt.vlOk x.v = true ∧ x = ⟨1, x.v, 0, ⟨#[]⟩, 0, Wt.r0, Wt.r0⟩) ∨ (x.k = 2 ∧ Wt.rfOk x.a = true ∧ x = ⟨2, Wt.v0, 0, ⟨#[]⟩, 0, x.a, Wt.r0⟩) ∨
  (x.k = 3 ∧ Wt.rfOk x.a = true ∧ Wt.rfOk x.b = true ∧ x.b.s.toList.isEmpty = true ∧ x = ⟨3, Wt.v0, 0, ⟨#[]⟩, 0, x.a, x.b⟩) ∨
  (x.k = 4 ∧ opK x.op = 4 ∧ x = ⟨4, Wt.v0, x.op, ⟨#[]⟩, 0, Wt.r0, Wt.r0⟩) ∨ (x.k = 5 ∧ opK x.op = 5 ∧ x = ⟨5, Wt.v0, x.op, ⟨#[]⟩, 0, Wt.r0, Wt.r0⟩) ∨
  (x.k = 6 ∧ Wt.fnNm x.nm = true ∧ 0 ≤ x.ar ∧ x.ar ≤ 30 ∧ x = ⟨6, Wt.v0, 0, x.nm, x.ar, Wt.r0, Wt.r0⟩)
theorem right_knd {x : Wt.Nd} (h : Wt.right x = true) : Knd x := by
  unfold Wt.right at h
  unfold Knd
  split at h
  · rename_i e; rw [Bool.and_eq_true, eqN_iff] at h; exact Or.inl ⟨e, h.1, h.2⟩
  split at h
  · rename_i e; rw [Bool.and_eq_true, eqN_iff] at h; exact Or.inr (Or.inl ⟨e, h.1, h.2⟩)
  split at h
  · rename_i e; simp only [Bool.and_eq_true, eqN_iff] at h; exact Or.inr (Or.inr (Or.inl ⟨e, h.1.1.1, h.1.1.2, h.1.2, h.2⟩))
  split at h
  · rename_i e; simp only [Bool.and_eq_true, eqN_iff, beq_iff_eq] at h; exact Or.inr (Or.inr (Or.inr (Or.inl ⟨e, h.1, h.2⟩)))
  split at h
  · rename_i e; simp only [Bool.and_eq_true, eqN_iff, beq_iff_eq] at h; exact Or.inr (Or.inr (Or.inr (Or.inr (Or.inl ⟨e, h.1, h.2⟩))))
  split at h
  · rename_i e; simp only [Bool.and_eq_true, eqN_iff, decide_eq_true_eq] at h; exact Or.inr (Or.inr (Or.inr (Or.inr (Or.inr ⟨e, h.1.1.1, h.1.1.2, h.1.2, h.2⟩))))
  · cases h
theorem opOf_zero : Wt.opOf 0 = none := by decide
theorem tgh_zero {x : Wt.Nd} (h : x.op = 0) : tgh x = 7 := by unfold tgh; rw [h, opOf_zero]
theorem knd_tgh {x : Wt.Nd} (h : Knd x) : (tgh x = 7 ∧ x.op = 0 ∧ (x.k = 1 ∨ x.k = 2 ∨ x.k = 3 ∨ x.k = 6)) ∨ ((tgh x = 5 ∨ tgh x = 6) ∧ Wt.parts x = 1 ∧ ∃ o, Wt.opOf x.op = some o) ∨ ((0 ≤ tgh x ∧ tgh x < 5) ∧ Wt.parts x = 2 ∧ ∃ o, Wt.opOf x.op = some o) := by
  rcases h with ⟨h, -, e⟩ | ⟨h, -, e⟩ | ⟨h, -, -, -, e⟩ | ⟨h, h2, -⟩ | ⟨h, h2, -⟩ | ⟨h, -, -, -, e⟩
  · have := congrArg Wt.Nd.op e
    exact Or.inl ⟨tgh_zero this, this, Or.inl h⟩
  · have := congrArg Wt.Nd.op e
    exact Or.inl ⟨tgh_zero this, this, Or.inr (Or.inl h)⟩
  · have := congrArg Wt.Nd.op e
    exact Or.inl ⟨tgh_zero this, this, Or.inr (Or.inr (Or.inl h))⟩
  · unfold opK at h2
    cases ho : Wt.opOf x.op with
    | none => rw [ho] at h2; simp at h2
    | some o =>
      obtain ⟨oo, om, ot⟩ := o
      rw [ho] at h2
      simp only at h2
      obtain ⟨t1, t2, t3⟩ := opOf_tgh ho
      simp only at t1 t2 t3
      refine Or.inr (Or.inl ⟨?_, by unfold Wt.parts; rw [if_pos h], _, rfl⟩)
      split at h2
      · omega
      · omega
  · unfold opK at h2
    cases ho : Wt.opOf x.op with
    | none => rw [ho] at h2; simp at h2
    | some o =>
      obtain ⟨oo, om, ot⟩ := o
      rw [ho] at h2
      simp only at h2
      obtain ⟨t1, t2, t3⟩ := opOf_tgh ho
      simp only at t1 t2 t3
      refine Or.inr (Or.inr ⟨?_, by unfold Wt.parts; rw [if_neg (by omega), if_pos h], _, rfl⟩)
      split at h2
      · omega
      · omega
  · have := congrArg Wt.Nd.op e
    exact Or.inl ⟨tgh_zero this, this, Or.inr (Or.inr (Or.inr h))⟩
theorem knd_parts0 {x : Wt.Nd} (h : Knd x) (hk : x.k = 1 ∨ x.k = 2 ∨ x.k = 3) : Wt.parts x = 0 := by
  unfold Wt.parts
  rw [if_neg (by omega), if_neg (by omega)]
  rcases h with ⟨h, -, e⟩ | ⟨h, -, e⟩ | ⟨h, -, -, -, e⟩ | ⟨h, h2, -⟩ | ⟨h, h2, -⟩ | ⟨h, -, -, -, e⟩
  · exact congrArg Wt.Nd.ar e
  · exact congrArg Wt.Nd.ar e
  · exact congrArg Wt.Nd.ar e
  all_goals omega
theorem knd_parts6 {x : Wt.Nd} (h : x.k = 6) : Wt.parts x = x.ar := by
  unfold Wt.parts
  rw [if_neg (by omega), if_neg (by omega)]
theorem many_one {f : Nat} {l : List Wt.Nd} {s d : Nat} (h : Wt.many (Wt.one f) 1 l = some (s, d)) : Wt.one f l = some (s, d) := by
  simp only [Wt.many] at h
  cases h1 : Wt.one f l with
  | none => rw [h1] at h; cases h
  | some q => obtain ⟨a, b⟩ := q; rw [h1] at h; simpa using h
theorem many_two {f : Nat} {l : List Wt.Nd} {s d : Nat} (h : Wt.many (Wt.one f) 2 l = some (s, d)) : ∃ a b a2 b2, Wt.one f l = some (a, b) ∧ Wt.one f (l.drop a) = some (a2, b2) ∧ s = a + a2 ∧ d = max b b2 := by
  simp only [Wt.many] at h
  cases h1 : Wt.one f l with
  | none => rw [h1] at h; cases h
  | some q =>
    obtain ⟨a, b⟩ := q
    rw [h1] at h
    simp only at h
    cases h2 : Wt.one f (l.drop a) with
    | none => rw [h2] at h; cases h
    | some q2 =>
      obtain ⟨a2, b2⟩ := q2
      rw [h2] at h
      simp only [Option.some.injEq, Prod.mk.injEq, Nat.add_zero, Nat.max_zero] at h
      exact ⟨a, b, a2, b2, rfl, h2, h.1.symm, h.2.symm⟩
theorem one_unf {f : Nat} {x : Wt.Nd} {r : List Wt.Nd} {s d : Nat} (h : Wt.one (f + 1) (x :: r) = some (s, d)) : Wt.right x = true ∧ ∃ a b, Wt.many (Wt.one f) (Wt.parts x).toNat r = some (a, b) ∧ s = a + 1 ∧ d = b + 1 := by
  unfold Wt.one at h
  split at h
  · rename_i hx
    cases h1 : Wt.many (Wt.one f) (Wt.parts x).toNat r with
    | none => rw [h1] at h; cases h
    | some q =>
      obtain ⟨a, b⟩ := q
      rw [h1] at h
      simp only [Option.some.injEq, Prod.mk.injEq] at h
      exact ⟨hx, a, b, rfl, by omega, by omega⟩
  · cases h
theorem prS_ok {f : Nat} (ih : PrOk f) {x : Wt.Nd} (hx : Knd x) (hk : x.k = 1 ∨ x.k = 2 ∨ x.k = 3 ∨ x.k = 6) {r : List Wt.Nd} {a b : Nat} (h : Wt.many (Wt.one f) (Wt.parts x).toNat r = some (a, b)) :
    (prS (pr f) x r).2 = r.drop a ∧ (prS (pr f) x r).1.length ≤ 1000 * a + 900 := by
  unfold prS
  by_cases h1 : x.k = 1
  · rw [if_pos h1]
    rw [knd_parts0 hx (Or.inl h1)] at h
    simp only [Int.toNat_zero, Wt.many, Option.some.injEq, Prod.mk.injEq] at h
    have : Wt.vlOk x.v = true := by
      rcases hx with ⟨_, h, e⟩ | ⟨h, -, e⟩ | ⟨h, -, -, -, e⟩ | ⟨h, h2, -⟩ | ⟨h, h2, -⟩ | ⟨h, -, -, -, e⟩
      · exact h
      all_goals omega
    have := litT_len this
    exact ⟨by rw [← h.1]; rfl, by simp only; omega⟩
  rw [if_neg h1]
  by_cases h2 : x.k = 2
  · rw [if_pos h2]
    rw [knd_parts0 hx (Or.inr (Or.inl h2))] at h
    simp only [Int.toNat_zero, Wt.many, Option.some.injEq, Prod.mk.injEq] at h
    have : Wt.rfOk x.a = true := by
      rcases hx with ⟨h, -, e⟩ | ⟨_, h, e⟩ | ⟨h, -, -, -, e⟩ | ⟨h, h2, -⟩ | ⟨h, h2, -⟩ | ⟨h, -, -, -, e⟩
      · omega
      · exact h
      all_goals omega
    have := celT_len this
    exact ⟨by rw [← h.1]; rfl, by simp only; omega⟩
  rw [if_neg h2]
  by_cases h3 : x.k = 3
  · rw [if_pos h3]
    rw [knd_parts0 hx (Or.inr (Or.inr h3))] at h
    simp only [Int.toNat_zero, Wt.many, Option.some.injEq, Prod.mk.injEq] at h
    have : Wt.rfOk x.a = true ∧ Wt.rfOk x.b = true := by
      rcases hx with ⟨h, -, e⟩ | ⟨h, -, e⟩ | ⟨_, h, h', -, e⟩ | ⟨h, h2, -⟩ | ⟨h, h2, -⟩ | ⟨h, -, -, -, e⟩
      · omega
      · omega
      · exact ⟨h, h'⟩
      all_goals omega
    have l1 := celT_len this.1
    have l2 := celT_len this.2
    exact ⟨by rw [← h.1]; rfl, by simp only [List.length_append, List.length_cons]; omega⟩
  rw [if_neg h3]
  have h6 : x.k = 6 := by omega
  rw [knd_parts6 h6] at h
  have : Wt.fnNm x.nm = true ∧ 0 ≤ x.ar ∧ x.ar ≤ 30 := by
    rcases hx with ⟨h, -, e⟩ | ⟨h, -, e⟩ | ⟨h, -, -, -, e⟩ | ⟨h, h2, -⟩ | ⟨h, h2, -⟩ | ⟨_, h, h', h'', e⟩
    · omega
    · omega
    · omega
    · omega
    · omega
    · exact ⟨h, h', h''⟩
  have l1 := (isNm_len this.1).2
  obtain ⟨j1, j2⟩ := prA_ok ih _ true _ _ _ h
  exact ⟨j1, by simp only [List.length_append, List.length_cons, List.length_nil]; omega⟩
theorem prN_ok {f : Nat} (ih : PrOk f) {x : Wt.Nd} (hx : Knd x) {r : List Wt.Nd} {a b : Nat} (h : Wt.many (Wt.one f) (Wt.parts x).toNat r = some (a, b)) :
    (prN (pr f) x r).2 = r.drop a ∧ (prN (pr f) x r).1.length ≤ 1000 * a + 900 := by
  have hm := mrk_len x
  unfold prN
  rcases knd_tgh hx with ⟨h7, -, hk⟩ | ⟨h56, hp, -⟩ | ⟨h04, hp, -⟩
  · rw [if_pos h7]; exact prS_ok ih hx hk h
  · rw [if_neg (by omega)]
    rw [hp] at h
    have h' := many_one (show Wt.many (Wt.one f) 1 r = some (a, b) from h)
    rcases h56 with h5 | h6
    · rw [if_pos h5]
      obtain ⟨i1, i2⟩ := ih _ _ _ h' 5
      exact ⟨i1, by simp only [List.length_append]; omega⟩
    · rw [if_neg (by omega), if_pos h6]
      obtain ⟨i1, i2⟩ := ih _ _ _ h' 6
      exact ⟨i1, by simp only [List.length_append]; omega⟩
  · rw [if_neg (by omega), if_neg (by omega), if_neg (by omega)]
    rw [hp] at h
    obtain ⟨a1, b1, a2, b2, e1, e2, e3, e4⟩ := many_two (show Wt.many (Wt.one f) 2 r = some (a, b) from h)
    obtain ⟨i1, i2⟩ := ih _ _ _ e1 (tgh x)
    rw [i1]
    obtain ⟨j1, j2⟩ := ih _ _ _ e2 (tgh x + 1)
    refine ⟨by rw [j1, List.drop_drop, e3], by simp only [List.length_append]; omega⟩
theorem pr_ok : ∀ (f : Nat), PrOk f
  | 0, l, s, d, h => by simp [Wt.one] at h
  | f + 1, [], s, d, h => by simp [Wt.one] at h
  | f + 1, x :: r, s, d, h => fun least => by
    obtain ⟨hx, a, b, hm, rfl, rfl⟩ := one_unf h
    obtain ⟨i1, i2⟩ := prN_ok (pr_ok f) (right_knd hx) hm
    simp only [pr]
    split
    · exact ⟨by rw [i1]; rfl, by omega⟩
    · exact ⟨by rw [i1]; rfl, by simp only [List.length_append, List.length_cons, List.length_nil]; omega⟩
set_option maxRecDepth 100000 in
set_option maxHeartbeats 1600000 in
theorem vcount_any (k n d : Int) (t : ByteArray) (b : Bool) (f : Int) (w : World) (hr : Wv.right k n d t b f = true) (C : ∀ w, Calls Tryz.prog 112 #[vlV ⟨k, n, d, t, b, f⟩] w fun e w' => e = .returned (.bool (Wv.right k n d t b f)) ∧ Below w.heap.size w w') :
    Calls Tryz.prog 154 #[vlV ⟨k, n, d, t, b, f⟩] w fun e w' => e = .returned (vlV ⟨k, n, d, t, b, f⟩) ∧ Below w.heap.size w w' := by
  simp only [hr] at C
  simp only [vlV, vl6] at C ⊢
  have pA := (AtL.new0 w 41 [.int .i64 k, .int .i64 n, .int .i64 d, .string t, .bool b, .int .i64 f]).alloc (.cells #[.int .i64 0, .int .i64 0, .int .i64 0, .string ⟨#[]⟩, .bool false, .int .i64 0] 41)
  have pR := vlz (w.alloc (.cells #[.int .i64 k, .int .i64 n, .int .i64 d, .string t, .bool b, .int .i64 f] 41))
  simp only [World.size_alloc] at pR
  have hB0 := ball (ball (Below.refl _ w) (.cells #[.int .i64 k, .int .i64 n, .int .i64 d, .string t, .bool b, .int .i64 f] 41)) (.cells #[.int .i64 0, .int .i64 0, .int .i64 0, .string ⟨#[]⟩, .bool false, .int .i64 0] 41)
  go_enter Tryz.func154, Tryz.ntmps154
  go_wp2_with fail
  refine (C _).mono ?_
  rintro e w1 ⟨rfl, hb⟩
  have pA1 := AtL.below hb pA
  have pR1 := AtL.below hb pR
  obtain ⟨a0, a1, a2, a3, a4, a5⟩ := pA1.f6
  obtain ⟨c0, c1, c2, c3, c4, c5⟩ := pR1.f6
  have g0 := pR1.2.2 0 (by decide)
  have g1 := pR1.2.2 1 (by decide)
  have g2 := pR1.2.2 2 (by decide)
  have g3 := pR1.2.2 3 (by decide)
  have g4 := pR1.2.2 4 (by decide)
  have g5 := pR1.2.2 5 (by decide)
  have hB1 := below_end hB0 hb
  go_wp2
  refine bodyPost_ret (v := vlV ⟨k, n, d, t, b, f⟩) (by simp [results, Tryz.results154, go_sem, vlV, vl6, *]) rfl ⟨rfl, ?_⟩
  exact by with_reducible repeat (first | exact hB1 | refine ball ?_ _ | refine Below.setCell ?_ (by first | (simp; done) | (simp; omega) | omega) _ | refine Below.drew ?_ | refine below_drewN ?_ _)
theorem truthText_any (b : Bool) (w : World) : Calls Tryz.prog 181 #[.bool b] w fun e w' => e = .returned (.string ⟨(if b then [84, 82, 85, 69] else [70, 65, 76, 83, 69] : List UInt8).toArray⟩) ∧ w = w' := by
  cases b with
  | true =>
    go_enter Tryz.func181, Tryz.ntmps181
    go_wp2
    go_ret
    exact ⟨rfl, rfl⟩
  | false =>
    go_enter Tryz.func181, Tryz.ntmps181
    go_wp2
    go_ret
    exact ⟨rfl, rfl⟩
set_option maxRecDepth 100000 in
theorem blank_any (w : World) : Calls Tryz.prog 173 #[] w fun e w' => e = .returned (vlV Wt.v0) ∧ Below w.heap.size w w' := by
  go_enter Tryz.func173, Tryz.ntmps173
  go_wp2
  refine bodyPost_ret (v := vlV Wt.v0) (by simp [results, Tryz.results173, go_sem, vlV, vl6, Wt.v0]) rfl ⟨rfl, ?_⟩
  exact by with_reducible repeat (first | exact Below.refl _ _ | refine below_drewN ?_ _ | refine Below.setCell ?_ (by first | (simp; done) | (simp; omega) | omega) _ | refine Below.drew ?_ | refine below_end ?_ (by assumption) | refine ball ?_ _)
set_option maxRecDepth 100000 in
set_option maxHeartbeats 1600000 in
theorem asText_truth (b : Bool) (w : World) : Calls Tryz.prog 156 #[vlV (vTruth b)] w fun e w' => e = .returned (.tuple #[.string ⟨(if b then [84, 82, 85, 69] else [70, 65, 76, 83, 69] : List UInt8).toArray⟩, vlV Wt.v0]) ∧ Below w.heap.size w w' := by
  have C := fun w => vcount_any 3 0 0 ⟨#[]⟩ b 0 w (by cases b <;> decide) (fun w => vright_3 0 0 ⟨#[]⟩ b 0 w)
  have T := fun w => truthText_any b w
  have Bl := fun w => blank_any w
  revert T
  generalize (⟨(if b then [84, 82, 85, 69] else [70, 65, 76, 83, 69] : List UInt8).toArray⟩ : ByteArray) = tx
  intro T
  simp only [vlV, vl6, vTruth, Wt.v0] at C Bl ⊢
  have pA := (AtL.new0 w 41 [.int .i64 3, .int .i64 0, .int .i64 0, .string ⟨#[]⟩, .bool b, .int .i64 0]).alloc (.cells #[.int .i64 0, .int .i64 0, .int .i64 0, .string ⟨#[]⟩, .bool false, .int .i64 0] 41)
  have pR := vlz (w.alloc (.cells #[.int .i64 3, .int .i64 0, .int .i64 0, .string ⟨#[]⟩, .bool b, .int .i64 0] 41))
  simp only [World.size_alloc] at pR
  have hB0 := ball (ball (Below.refl _ w) (.cells #[.int .i64 3, .int .i64 0, .int .i64 0, .string ⟨#[]⟩, .bool b, .int .i64 0] 41)) (.cells #[.int .i64 0, .int .i64 0, .int .i64 0, .string ⟨#[]⟩, .bool false, .int .i64 0] 41)
  go_enter Tryz.func156, Tryz.ntmps156
  go_wp2_with fail
  refine (C _).mono ?_
  rintro e w1 ⟨rfl, hb⟩
  have pA1 := AtL.below hb pA
  have pR1 := AtL.below hb pR
  obtain ⟨a0, a1, a2, a3, a4, a5⟩ := pA1.f6
  have f0 := pA1.2.2 0 (by simp)
  have f1 := pA1.2.2 1 (by simp)
  have f2 := pA1.2.2 2 (by simp)
  have f3 := pA1.2.2 3 (by simp)
  have f4 := pA1.2.2 4 (by simp)
  have f5 := pA1.2.2 5 (by simp)
  have hB1 := below_end hB0 hb
  clear hb
  have hne : w.heap.size ≠ w.heap.size + 1 := by omega
  go_wp2_with fail
  refine (T _).mono ?_
  rintro e w2 ⟨rfl, rfl⟩
  go_wp2_with fail
  refine (Bl _).mono ?_
  rintro e w3 ⟨rfl, hb3⟩
  have pR2 := AtL.below hb3 (((((pR1.far hne 0 _).far hne 1 _).far hne 2 _).far hne 3 _).far hne 4 _ |>.far hne 5 _)
  obtain ⟨c0, c1, c2, c3, c4, c5⟩ := pR2.f6
  have g0 := pR2.2.2 0 (by decide)
  have g1 := pR2.2.2 1 (by decide)
  have g2 := pR2.2.2 2 (by decide)
  have g3 := pR2.2.2 3 (by decide)
  have g4 := pR2.2.2 4 (by decide)
  have g5 := pR2.2.2 5 (by decide)
  have hB3 : Below w.heap.size w w3 := by
    refine below_end ?_ hb3
    exact by with_reducible repeat (first | exact hB1 | refine ball ?_ _ | refine Below.setCell ?_ (by first | (simp; done) | (simp; omega) | omega) _ | refine Below.drew ?_ | refine below_drewN ?_ _)
  go_wp2
  refine bodyPost_ret (v := .tuple #[.string tx, vlV Wt.v0]) (by simp [results, Tryz.results156, go_sem, vlV, vl6, Wt.v0, *]) rfl ⟨rfl, ?_⟩
  exact by with_reducible repeat (first | exact hB3 | refine ball ?_ _ | refine Below.setCell ?_ (by first | (simp; done) | (simp; omega) | omega) _ | refine Below.drew ?_ | refine below_drewN ?_ _)
set_option maxRecDepth 100000 in
set_option maxHeartbeats 1600000 in
theorem show_truth (b : Bool) (w : World) : Calls Tryz.prog 128 #[vlV (vTruth b)] w fun e w' => e = .returned (.string ⟨(if b then [84, 82, 85, 69] else [70, 65, 76, 83, 69] : List UInt8).toArray⟩) ∧ Below w.heap.size w w' := by
  have C := fun w => vcount_any 3 0 0 ⟨#[]⟩ b 0 w (by cases b <;> decide) (fun w => vright_3 0 0 ⟨#[]⟩ b 0 w)
  have T := fun w => asText_truth b w
  generalize (⟨(if b then [84, 82, 85, 69] else [70, 65, 76, 83, 69] : List UInt8).toArray⟩ : ByteArray) = tx at *
  simp only [vlV, vl6, vTruth, Wt.v0] at C T ⊢
  have pA := AtL.new0 w 41 [.int .i64 3, .int .i64 0, .int .i64 0, .string ⟨#[]⟩, .bool b, .int .i64 0]
  have hB0 := ball (Below.refl _ w) (.cells #[.int .i64 3, .int .i64 0, .int .i64 0, .string ⟨#[]⟩, .bool b, .int .i64 0] 41)
  go_enter Tryz.func128, Tryz.ntmps128
  go_wp2_with fail
  refine (C _).mono ?_
  rintro e w1 ⟨rfl, hb⟩
  have pA1 := AtL.below hb pA
  obtain ⟨a0, a1, a2, a3, a4, a5⟩ := pA1.f6
  have f0 := pA1.2.2 0 (by simp)
  have f1 := pA1.2.2 1 (by simp)
  have f2 := pA1.2.2 2 (by simp)
  have f3 := pA1.2.2 3 (by simp)
  have f4 := pA1.2.2 4 (by simp)
  have f5 := pA1.2.2 5 (by simp)
  have hB1 := below_end hB0 hb
  clear hb
  go_wp2_with fail
  refine (T _).mono ?_
  rintro e w2 ⟨rfl, hb2⟩
  have hB2 : Below w.heap.size w w2 := by
    refine below_end ?_ hb2
    exact by with_reducible repeat (first | exact hB1 | refine ball ?_ _ | refine Below.setCell ?_ (by first | (simp; done) | (simp; omega) | omega) _ | refine Below.drew ?_ | refine below_drewN ?_ _)
  clear hb2
  go_wp2
  go_ret
  exact ⟨rfl, by with_reducible repeat (first | exact hB2 | refine ball ?_ _ | refine Below.setCell ?_ (by first | (simp; done) | (simp; omega) | omega) _ | refine Below.drew ?_ | refine below_drewN ?_ _)⟩
set_option maxRecDepth 100000 in
set_option maxHeartbeats 1600000 in
theorem show_fault (f : Nat) (h1 : 1 ≤ f) (h8 : f ≤ 8) (w : World) (hF : FltAt w) : Calls Tryz.prog 128 #[vlV ⟨4, 0, 0, ⟨#[]⟩, false, f⟩] w fun e w' => e = .returned (.string ⟨(fNames.getD f []).toArray⟩) ∧ Below w.heap.size w w' := by
  have hfl : Wv.flt (f : Int) = true := by unfold Wv.flt; simp; omega
  have hlt : f < fNames.length := by show f < 9; omega
  have hfv : fltR[f]? = some (.string ⟨(fNames.getD f []).toArray⟩) := by unfold fltR; rw [List.getElem?_map, List.getElem?_eq_getElem hlt]; simp [List.getD, List.getElem?_eq_getElem hlt]
  have h9 : 1 < w.heap.size := World.block_lt_of_cell? _ _ (hF 0 _ rfl)
  generalize fNames.getD f [] = nm at *
  have C := fun w => vcount_any 4 0 0 ⟨#[]⟩ false f w (by unfold Wv.right; simp [hfl]) (fun w => vright_4 0 0 ⟨#[]⟩ false f w)
  simp only [vlV, vl6] at C ⊢
  have pA := AtL.new0 w 41 [.int .i64 4, .int .i64 0, .int .i64 0, .string ⟨#[]⟩, .bool false, .int .i64 f]
  have hB0 := ball (Below.refl _ w) (.cells #[.int .i64 4, .int .i64 0, .int .i64 0, .string ⟨#[]⟩, .bool false, .int .i64 f] 41)
  have hF0 := hF.below hB0
  go_enter Tryz.func128, Tryz.ntmps128
  go_wp2_with fail
  refine (C _).mono ?_
  rintro e w1 ⟨rfl, hb⟩
  have pA1 := AtL.below hb pA
  have hF1 := hF0.below hb
  obtain ⟨a0, a1, a2, a3, a4, a5⟩ := pA1.f6
  have f0 := pA1.2.2 0 (by simp)
  have f1 := pA1.2.2 1 (by simp)
  have f2 := pA1.2.2 2 (by simp)
  have f3 := pA1.2.2 3 (by simp)
  have f4 := pA1.2.2 4 (by simp)
  have f5 := pA1.2.2 5 (by simp)
  have hB1 := below_end hB0 hb
  clear hb
  have g : w1.cell? ⟨1, f, none⟩ = some (.string ⟨nm.toArray⟩) := by
    have := hF1 f _ hfv
    rw [Nat.zero_add] at this; exact this
  have hne : ¬ w.heap.size = 1 := by omega
  have hi1 : ¬ (f : Int) < 0 := by omega
  have hi2 : (f : Int) < 9 := by omega
  go_wp2
  go_ret
  exact ⟨rfl, by with_reducible repeat (first | exact hB1 | refine ball ?_ _ | refine Below.setCell ?_ (by first | (simp; done) | (simp; omega) | omega) _ | refine Below.drew ?_ | refine below_drewN ?_ _)⟩
open Go.Shelf Go.RowKit
def laysItoa_ren : Go.Shelf.Ren := ⟨fun | 171 => 150 | 243 => 170 | 246 => 190 | 283 => 197 | 284 => 198 | 285 => 199 | 286 => 200 | 129 => 206 | 317 => 205 | 318 => 207 | 319 => 208 | 320 => 209 | 337 => 214 | 338 => 215 | n => n, fun | 3 => 3 | 9 => 9 | 2 => 2 | 4 => 4 | 171 => 197 | 0 => 0 | 53 => 141 | 37 => 63 | 5 => 5 | 173 => 200 | 212 => 208 | 51 => 186 | 20 => 20 | 213 => 209 | 46 => 174 | 232 => 215 | 233 => 216 | n => n, fun | 17 => 5 | 18 => 6 | 19 => 7 | n => n⟩
theorem laysItoa : Go.Proofs.LaysM.n171 Tryz.prog laysItoa_ren := {
  mixed := by kernel_rfl
  f129 := Tryz.func206.trans (congrArg some (by kernel_rfl))
  f171 := Tryz.func150.trans (congrArg some (by kernel_rfl))
  f243 := Tryz.func170.trans (congrArg some (by kernel_rfl))
  f246 := Tryz.func190.trans (congrArg some (by kernel_rfl))
  f283 := Tryz.func197.trans (congrArg some (by kernel_rfl))
  f284 := Tryz.func198.trans (congrArg some (by kernel_rfl))
  f285 := Tryz.func199.trans (congrArg some (by kernel_rfl))
  f286 := Tryz.func200.trans (congrArg some (by kernel_rfl))
  f317 := Tryz.func205.trans (congrArg some (by kernel_rfl))
  f318 := Tryz.func207.trans (congrArg some (by kernel_rfl))
  f319 := Tryz.func208.trans (congrArg some (by kernel_rfl))
  f320 := Tryz.func209.trans (congrArg some (by kernel_rfl))
  f337 := Tryz.func214.trans (congrArg some (by kernel_rfl))
  f338 := Tryz.func215.trans (congrArg some (by kernel_rfl))
  t0 := Tryz.underlying0
  a0 := Tryz.isAgg0
  z0 := Tryz.sizeOf0
  v0 := Tryz.zeroValue0
  t2 := Tryz.underlying2
  a2 := Tryz.isAgg2
  z2 := Tryz.sizeOf2
  v2 := Tryz.zeroValue2
  t3 := Tryz.underlying3
  a3 := Tryz.isAgg3
  z3 := Tryz.sizeOf3
  v3 := Tryz.zeroValue3
  t4 := Tryz.underlying4
  a4 := Tryz.isAgg4
  z4 := Tryz.sizeOf4
  v4 := Tryz.zeroValue4
  t5 := Tryz.underlying5
  a5 := Tryz.isAgg5
  z5 := Tryz.sizeOf5
  v5 := Tryz.zeroValue5
  t9 := Tryz.underlying9
  a9 := Tryz.isAgg9
  z9 := Tryz.sizeOf9
  v9 := Tryz.zeroValue9
  t20 := Tryz.underlying20
  a20 := Tryz.isAgg20
  z20 := Tryz.sizeOf20
  v20 := Tryz.zeroValue20
  t37 := Tryz.underlying63
  a37 := Tryz.isAgg63
  z37 := Tryz.sizeOf63
  v37 := Tryz.zeroValue63
  t46 := Tryz.underlying174
  a46 := Tryz.isAgg174
  z46 := Tryz.sizeOf174
  v46 := Tryz.zeroValue174
  t51 := Tryz.underlying186
  a51 := Tryz.isAgg186
  z51 := Tryz.sizeOf186
  v51 := Tryz.zeroValue186
  t53 := Tryz.underlying141
  a53 := Tryz.isAgg141
  z53 := Tryz.sizeOf141
  v53 := Tryz.zeroValue141
  t171 := Tryz.underlying197
  a171 := Tryz.isAgg197
  z171 := Tryz.sizeOf197
  v171 := Tryz.zeroValue197
  t173 := Tryz.underlying200
  a173 := Tryz.isAgg200
  z173 := Tryz.sizeOf200
  v173 := Tryz.zeroValue200
  t212 := Tryz.underlying208
  a212 := Tryz.isAgg208
  z212 := Tryz.sizeOf208
  v212 := Tryz.zeroValue208
  t213 := Tryz.underlying209
  a213 := Tryz.isAgg209
  z213 := Tryz.sizeOf209
  t232 := Tryz.underlying215
  a232 := Tryz.isAgg215
  z232 := Tryz.sizeOf215
  v232 := Tryz.zeroValue215
  t233 := Tryz.underlying216
  a233 := Tryz.isAgg216
  z233 := Tryz.sizeOf216
  v233 := Tryz.zeroValue216
  g17 := by kernel_rfl
  g18 := by kernel_rfl
  g19 := by kernel_rfl
  i0 := by kernel_rfl
  i2 := by kernel_rfl
  i3 := by kernel_rfl
  i4 := by kernel_rfl
  i5 := by kernel_rfl
  i9 := by kernel_rfl
  i20 := by kernel_rfl
  i37 := by kernel_rfl
  i46 := by kernel_rfl
  i51 := by kernel_rfl
  i53 := by kernel_rfl
  i171 := by kernel_rfl
  i173 := by kernel_rfl
  i212 := by kernel_rfl
  i232 := by kernel_rfl
  i233 := by kernel_rfl
  m17 := by kernel_rfl
  m18 := by kernel_rfl
  m19 := by kernel_rfl }
theorem itoa_any (n : Int) (h0 : -9223372036854775808 ≤ n) (h1 : n ≤ 9223372036854775807) (w : World) (htab : Lib.TabIs Tryz.prog w "internal/strconv.uint64pow10" .u64 Lib.pow10Tab) :
    Calls Tryz.prog 150 #[.int .i64 n] w fun e w' => e = .returned (.string ⟨(Lib.itoa n).toArray⟩) ∧ ∃ k os, w' = Sort.grow (w.drewN k) os := Any.strconv_Itoa laysItoa n h0 h1 w htab
end Go.Proofs.YtlggnpohhahdlaaGreatDoor
