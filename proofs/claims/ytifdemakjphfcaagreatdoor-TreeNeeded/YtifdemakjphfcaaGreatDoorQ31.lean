/- TPrOk, VWalkF, WalkIt, WalkDs. -/
import Derived.Test.YtifdemakjphfcaaGreatDoorQ30
import Derived.Test.YtifdemakjphfcaaGreatDoorChecked
import Derived.Shelf.Strconv.Itoa3
import Derived.Lib.AppendIntMem
import Derived.Ground.NamesProg
import Derived.Shelf.Strings.Builder1
namespace Go.Proofs.YtifdemakjphfcaaGreatDoor
open Go.RowKit Go.Shelf
set_option linter.unusedVariables false
def Knd (x : Wt.Nd) : Prop :=
  (x.k = 1 ∧ Wt.vlOk x.v = true ∧ x = ⟨1, x.v, 0, ⟨#[]⟩, 0, Wt.r0, Wt.r0⟩) ∨ (x.k = 2 ∧ Wt.rfOk x.a = true ∧ x = ⟨2, Wt.v0, 0, ⟨#[]⟩, 0, x.a, Wt.r0⟩) ∨
  (x.k = 3 ∧ Wt.rfOk x.a = true ∧ Wt.rfOk x.b = true ∧ x.b.s.toList.isEmpty = true ∧ x = ⟨3, Wt.v0, 0, ⟨#[]⟩, 0, x.a, x.b⟩) ∨
  (x.k = 4 ∧ opK x.op = 4 ∧ x = ⟨4, Wt.v0, x.op, ⟨#[]⟩, 0, Wt.r0, Wt.r0⟩) ∨ (x.k = 5 ∧ opK x.op = 5 ∧ x = ⟨5, Wt.v0, x.op, ⟨#[]⟩, 0, Wt.r0, Wt.r0⟩) ∨
  (x.k = 6 ∧ Wt.fnNm x.nm = true ∧ 0 ≤ x.ar ∧ x.ar ≤ 30 ∧ x = ⟨6, Wt.v0, 0, x.nm, x.ar, Wt.r0, Wt.r0⟩)
theorem right_knd {x : Wt.Nd} (h : Wt.right x = true) : Knd x := by
  unfold Wt.right at h
  unfold Knd
  split at h
  · rename_i e; rw [Bool.and_eq_true, eqN_iff] at h; exact Or.inl ⟨e, h.1, h.2⟩
  split at h
  · rename_i e; rw [Bool.and_eq_true, eqN_iff] at h; exact Or.inr (Or.inl ⟨e, h.1, h.2⟩)
  split at h
  · rename_i e; simp only [Bool.and_eq_true, eqN_iff] at h; exact Or.inr (Or.inr (Or.inl ⟨e, h.1.1.1, h.1.1.2, h.1.2, h.2⟩))
  split at h
  · rename_i e; simp only [Bool.and_eq_true, eqN_iff, beq_iff_eq] at h; exact Or.inr (Or.inr (Or.inr (Or.inl ⟨e, h.1, h.2⟩)))
  split at h
  · rename_i e; simp only [Bool.and_eq_true, eqN_iff, beq_iff_eq] at h; exact Or.inr (Or.inr (Or.inr (Or.inr (Or.inl ⟨e, h.1, h.2⟩))))
  split at h
  · rename_i e; simp only [Bool.and_eq_true, eqN_iff, decide_eq_true_eq] at h; exact Or.inr (Or.inr (Or.inr (Or.inr (Or.inr ⟨e, h.1.1.1, h.1.1.2, h.1.2, h.2⟩))))
  · cases h
theorem opOf_zero : Wt.opOf 0 = none := by decide
theorem tgh_zero {x : Wt.Nd} (h : x.op = 0) : tgh x = 7 := by unfold tgh; rw [h, opOf_zero]
theorem knd_tgh {x : Wt.Nd} (h : Knd x) : (tgh x = 7 ∧ x.op = 0 ∧ (x.k = 1 ∨ x.k = 2 ∨ x.k = 3 ∨ x.k = 6)) ∨ ((tgh x = 5 ∨ tgh x = 6) ∧ Wt.parts x = 1 ∧ ∃ o, Wt.opOf x.op = some o) ∨ ((0 ≤ tgh x ∧ tgh x < 5) ∧ Wt.parts x = 2 ∧ ∃ o, Wt.opOf x.op = some o) := by
  rcases h with ⟨h, -, e⟩ | ⟨h, -, e⟩ | ⟨h, -, -, -, e⟩ | ⟨h, h2, -⟩ | ⟨h, h2, -⟩ | ⟨h, -, -, -, e⟩
  · have := congrArg Wt.Nd.op e
    exact Or.inl ⟨tgh_zero this, this, Or.inl h⟩
  · have := congrArg Wt.Nd.op e
    exact Or.inl ⟨tgh_zero this, this, Or.inr (Or.inl h)⟩
  · have := congrArg Wt.Nd.op e
    exact Or.inl ⟨tgh_zero this, this, Or.inr (Or.inr (Or.inl h))⟩
  · unfold opK at h2
    cases ho : Wt.opOf x.op with
    | none => rw [ho] at h2; simp at h2
    | some o =>
      obtain ⟨oo, om, ot⟩ := o
      rw [ho] at h2
      simp only at h2
      obtain ⟨t1, t2, t3⟩ := opOf_tgh ho
      simp only at t1 t2 t3
      refine Or.inr (Or.inl ⟨?_, by unfold Wt.parts; rw [if_pos h], _, rfl⟩)
      split at h2
      · omega
      · omega
  · unfold opK at h2
    cases ho : Wt.opOf x.op with
    | none => rw [ho] at h2; simp at h2
    | some o =>
      obtain ⟨oo, om, ot⟩ := o
      rw [ho] at h2
      simp only at h2
      obtain ⟨t1, t2, t3⟩ := opOf_tgh ho
      simp only at t1 t2 t3
      refine Or.inr (Or.inr ⟨?_, by unfold Wt.parts; rw [if_neg (by omega), if_pos h], _, rfl⟩)
      split at h2
      · omega
      · omega
  · have := congrArg Wt.Nd.op e
    exact Or.inl ⟨tgh_zero this, this, Or.inr (Or.inr (Or.inr h))⟩
theorem knd_parts0 {x : Wt.Nd} (h : Knd x) (hk : x.k = 1 ∨ x.k = 2 ∨ x.k = 3) : Wt.parts x = 0 := by
  unfold Wt.parts
  rw [if_neg (by omega), if_neg (by omega)]
  rcases h with ⟨h, -, e⟩ | ⟨h, -, e⟩ | ⟨h, -, -, -, e⟩ | ⟨h, h2, -⟩ | ⟨h, h2, -⟩ | ⟨h, -, -, -, e⟩
  · exact congrArg Wt.Nd.ar e
  · exact congrArg Wt.Nd.ar e
  · exact congrArg Wt.Nd.ar e
  all_goals omega
theorem knd_parts6 {x : Wt.Nd} (h : x.k = 6) : Wt.parts x = x.ar := by
  unfold Wt.parts
  rw [if_neg (by omega), if_neg (by omega)]
theorem many_one {f : Nat} {l : List Wt.Nd} {s d : Nat} (h : Wt.many (Wt.one f) 1 l = some (s, d)) : Wt.one f l = some (s, d) := by
  simp only [Wt.many] at h
  cases h1 : Wt.one f l with
  | none => rw [h1] at h; cases h
  | some q => obtain ⟨a, b⟩ := q; rw [h1] at h; simpa using h
theorem many_two {f : Nat} {l : List Wt.Nd} {s d : Nat} (h : Wt.many (Wt.one f) 2 l = some (s, d)) : ∃ a b a2 b2, Wt.one f l = some (a, b) ∧ Wt.one f (l.drop a) = some (a2, b2) ∧ s = a + a2 ∧ d = max b b2 := by
  simp only [Wt.many] at h
  cases h1 : Wt.one f l with
  | none => rw [h1] at h; cases h
  | some q =>
    obtain ⟨a, b⟩ := q
    rw [h1] at h
    simp only at h
    cases h2 : Wt.one f (l.drop a) with
    | none => rw [h2] at h; cases h
    | some q2 =>
      obtain ⟨a2, b2⟩ := q2
      rw [h2] at h
      simp only [Option.some.injEq, Prod.mk.injEq, Nat.add_zero, Nat.max_zero] at h
      exact ⟨a, b, a2, b2, rfl, h2, h.1.symm, h.2.symm⟩
theorem one_unf {f : Nat} {x : Wt.Nd} {r : List Wt.Nd} {s d : Nat} (h : Wt.one (f + 1) (x :: r) = some (s, d)) : Wt.right x = true ∧ ∃ a b, Wt.many (Wt.one f) (Wt.parts x).toNat r = some (a, b) ∧ s = a + 1 ∧ d = b + 1 := by
  unfold Wt.one at h
  split at h
  · rename_i hx
    cases h1 : Wt.many (Wt.one f) (Wt.parts x).toNat r with
    | none => rw [h1] at h; cases h
    | some q =>
      obtain ⟨a, b⟩ := q
      rw [h1] at h
      simp only [Option.some.injEq, Prod.mk.injEq] at h
      exact ⟨hx, a, b, rfl, by omega, by omega⟩
  · cases h
theorem prS_ok {f : Nat} (ih : PrOk f) {x : Wt.Nd} (hx : Knd x) (hk : x.k = 1 ∨ x.k = 2 ∨ x.k = 3 ∨ x.k = 6) {r : List Wt.Nd} {a b : Nat} (h : Wt.many (Wt.one f) (Wt.parts x).toNat r = some (a, b)) :
    (prS (pr f) x r).2 = r.drop a ∧ (prS (pr f) x r).1.length ≤ 1000 * a + 900 := by
  unfold prS
  by_cases h1 : x.k = 1
  · rw [if_pos h1]
    rw [knd_parts0 hx (Or.inl h1)] at h
    simp only [Int.toNat_zero, Wt.many, Option.some.injEq, Prod.mk.injEq] at h
    have : Wt.vlOk x.v = true := by
      rcases hx with ⟨_, h, e⟩ | ⟨h, -, e⟩ | ⟨h, -, -, -, e⟩ | ⟨h, h2, -⟩ | ⟨h, h2, -⟩ | ⟨h, -, -, -, e⟩
      · exact h
      all_goals omega
    have := litT_len this
    exact ⟨by rw [← h.1]; rfl, by simp only; omega⟩
  rw [if_neg h1]
  by_cases h2 : x.k = 2
  · rw [if_pos h2]
    rw [knd_parts0 hx (Or.inr (Or.inl h2))] at h
    simp only [Int.toNat_zero, Wt.many, Option.some.injEq, Prod.mk.injEq] at h
    have : Wt.rfOk x.a = true := by
      rcases hx with ⟨h, -, e⟩ | ⟨_, h, e⟩ | ⟨h, -, -, -, e⟩ | ⟨h, h2, -⟩ | ⟨h, h2, -⟩ | ⟨h, -, -, -, e⟩
      · omega
      · exact h
      all_goals omega
    have := celT_len this
    exact ⟨by rw [← h.1]; rfl, by simp only; omega⟩
  rw [if_neg h2]
  by_cases h3 : x.k = 3
  · rw [if_pos h3]
    rw [knd_parts0 hx (Or.inr (Or.inr h3))] at h
    simp only [Int.toNat_zero, Wt.many, Option.some.injEq, Prod.mk.injEq] at h
    have : Wt.rfOk x.a = true ∧ Wt.rfOk x.b = true := by
      rcases hx with ⟨h, -, e⟩ | ⟨h, -, e⟩ | ⟨_, h, h', -, e⟩ | ⟨h, h2, -⟩ | ⟨h, h2, -⟩ | ⟨h, -, -, -, e⟩
      · omega
      · omega
      · exact ⟨h, h'⟩
      all_goals omega
    have l1 := celT_len this.1
    have l2 := celT_len this.2
    exact ⟨by rw [← h.1]; rfl, by simp only [List.length_append, List.length_cons]; omega⟩
  rw [if_neg h3]
  have h6 : x.k = 6 := by omega
  rw [knd_parts6 h6] at h
  have : Wt.fnNm x.nm = true ∧ 0 ≤ x.ar ∧ x.ar ≤ 30 := by
    rcases hx with ⟨h, -, e⟩ | ⟨h, -, e⟩ | ⟨h, -, -, -, e⟩ | ⟨h, h2, -⟩ | ⟨h, h2, -⟩ | ⟨_, h, h', h'', e⟩
    · omega
    · omega
    · omega
    · omega
    · omega
    · exact ⟨h, h', h''⟩
  have l1 := (isNm_len this.1).2
  obtain ⟨j1, j2⟩ := prA_ok ih _ true _ _ _ h
  exact ⟨j1, by simp only [List.length_append, List.length_cons, List.length_nil]; omega⟩
theorem prN_ok {f : Nat} (ih : PrOk f) {x : Wt.Nd} (hx : Knd x) {r : List Wt.Nd} {a b : Nat} (h : Wt.many (Wt.one f) (Wt.parts x).toNat r = some (a, b)) :
    (prN (pr f) x r).2 = r.drop a ∧ (prN (pr f) x r).1.length ≤ 1000 * a + 900 := by
  have hm := mrk_len x
  unfold prN
  rcases knd_tgh hx with ⟨h7, -, hk⟩ | ⟨h56, hp, -⟩ | ⟨h04, hp, -⟩
  · rw [if_pos h7]; exact prS_ok ih hx hk h
  · rw [if_neg (by omega)]
    rw [hp] at h
    have h' := many_one (show Wt.many (Wt.one f) 1 r = some (a, b) from h)
    rcases h56 with h5 | h6
    · rw [if_pos h5]
      obtain ⟨i1, i2⟩ := ih _ _ _ h' 5
      exact ⟨i1, by simp only [List.length_append]; omega⟩
    · rw [if_neg (by omega), if_pos h6]
      obtain ⟨i1, i2⟩ := ih _ _ _ h' 6
      exact ⟨i1, by simp only [List.length_append]; omega⟩
  · rw [if_neg (by omega), if_neg (by omega), if_neg (by omega)]
    rw [hp] at h
    obtain ⟨a1, b1, a2, b2, e1, e2, e3, e4⟩ := many_two (show Wt.many (Wt.one f) 2 r = some (a, b) from h)
    obtain ⟨i1, i2⟩ := ih _ _ _ e1 (tgh x)
    rw [i1]
    obtain ⟨j1, j2⟩ := ih _ _ _ e2 (tgh x + 1)
    refine ⟨by rw [j1, List.drop_drop, e3], by simp only [List.length_append]; omega⟩
theorem pr_ok : ∀ (f : Nat), PrOk f
  | 0, l, s, d, h => by simp [Wt.one] at h
  | f + 1, [], s, d, h => by simp [Wt.one] at h
  | f + 1, x :: r, s, d, h => fun least => by
    obtain ⟨hx, a, b, hm, rfl, rfl⟩ := one_unf h
    obtain ⟨i1, i2⟩ := prN_ok (pr_ok f) (right_knd hx) hm
    simp only [pr]
    split
    · exact ⟨by rw [i1]; rfl, by omega⟩
    · exact ⟨by rw [i1]; rfl, by simp only [List.length_append, List.length_cons, List.length_nil]; omega⟩
open Go.RowKit
set_option maxRecDepth 100000 in
set_option maxHeartbeats 1600000 in
theorem vcount_any (k n d : Int) (t : ByteArray) (b : Bool) (f : Int) (w : World) (hr : Wv.right k n d t b f = true) (C : ∀ w, Calls Tryz.prog 115 #[vlV ⟨k, n, d, t, b, f⟩] w fun e w' => e = .returned (.bool (Wv.right k n d t b f)) ∧ Below w.heap.size w w') :
    Calls Tryz.prog 157 #[vlV ⟨k, n, d, t, b, f⟩] w fun e w' => e = .returned (vlV ⟨k, n, d, t, b, f⟩) ∧ Below w.heap.size w w' := by
  simp only [hr] at C
  simp only [vlV, vl6] at C ⊢
  have pA := (AtL.new0 w 41 [.int .i64 k, .int .i64 n, .int .i64 d, .string t, .bool b, .int .i64 f]).alloc (.cells #[.int .i64 0, .int .i64 0, .int .i64 0, .string ⟨#[]⟩, .bool false, .int .i64 0] 41)
  have pR := vlz (w.alloc (.cells #[.int .i64 k, .int .i64 n, .int .i64 d, .string t, .bool b, .int .i64 f] 41))
  simp only [World.size_alloc] at pR
  have hB0 := ball (ball (Below.refl _ w) (.cells #[.int .i64 k, .int .i64 n, .int .i64 d, .string t, .bool b, .int .i64 f] 41)) (.cells #[.int .i64 0, .int .i64 0, .int .i64 0, .string ⟨#[]⟩, .bool false, .int .i64 0] 41)
  go_enter Tryz.func157, Tryz.ntmps157
  go_wp2_with fail
  refine (C _).mono ?_
  rintro e w1 ⟨rfl, hb⟩
  have pA1 := AtL.below hb pA
  have pR1 := AtL.below hb pR
  obtain ⟨a0, a1, a2, a3, a4, a5⟩ := pA1.f6
  obtain ⟨c0, c1, c2, c3, c4, c5⟩ := pR1.f6
  have g0 := pR1.2.2 0 (by decide)
  have g1 := pR1.2.2 1 (by decide)
  have g2 := pR1.2.2 2 (by decide)
  have g3 := pR1.2.2 3 (by decide)
  have g4 := pR1.2.2 4 (by decide)
  have g5 := pR1.2.2 5 (by decide)
  have hB1 := below_end hB0 hb
  go_wp2
  refine bodyPost_ret (v := vlV ⟨k, n, d, t, b, f⟩) (by simp [results, Tryz.results157, go_sem, vlV, vl6, *]) rfl ⟨rfl, ?_⟩
  exact by with_reducible repeat (first | exact hB1 | refine ball ?_ _ | refine Below.setCell ?_ (by first | (simp; done) | (simp; omega) | omega) _ | refine Below.drew ?_ | refine below_drewN ?_ _)
theorem truthText_any (b : Bool) (w : World) : Calls Tryz.prog 184 #[.bool b] w fun e w' => e = .returned (.string ⟨(if b then [84, 82, 85, 69] else [70, 65, 76, 83, 69] : List UInt8).toArray⟩) ∧ w = w' := by
  cases b with
  | true =>
    go_enter Tryz.func184, Tryz.ntmps184
    go_wp2
    go_ret
    exact ⟨rfl, rfl⟩
  | false =>
    go_enter Tryz.func184, Tryz.ntmps184
    go_wp2
    go_ret
    exact ⟨rfl, rfl⟩
set_option maxRecDepth 100000 in
theorem blank_any (w : World) : Calls Tryz.prog 176 #[] w fun e w' => e = .returned (vlV Wt.v0) ∧ Below w.heap.size w w' := by
  go_enter Tryz.func176, Tryz.ntmps176
  go_wp2
  refine bodyPost_ret (v := vlV Wt.v0) (by simp [results, Tryz.results176, go_sem, vlV, vl6, Wt.v0]) rfl ⟨rfl, ?_⟩
  exact by with_reducible repeat (first | exact Below.refl _ _ | refine below_drewN ?_ _ | refine Below.setCell ?_ (by first | (simp; done) | (simp; omega) | omega) _ | refine Below.drew ?_ | refine below_end ?_ (by assumption) | refine ball ?_ _)
set_option maxRecDepth 100000 in
set_option maxHeartbeats 1600000 in
theorem asText_truth (b : Bool) (w : World) : Calls Tryz.prog 159 #[vlV (vTruth b)] w fun e w' => e = .returned (.tuple #[.string ⟨(if b then [84, 82, 85, 69] else [70, 65, 76, 83, 69] : List UInt8).toArray⟩, vlV Wt.v0]) ∧ Below w.heap.size w w' := by
  have C := fun w => vcount_any 3 0 0 ⟨#[]⟩ b 0 w (by cases b <;> decide) (fun w => vright_3 0 0 ⟨#[]⟩ b 0 w)
  have T := fun w => truthText_any b w
  have Bl := fun w => blank_any w
  revert T
  generalize (⟨(if b then [84, 82, 85, 69] else [70, 65, 76, 83, 69] : List UInt8).toArray⟩ : ByteArray) = tx
  intro T
  simp only [vlV, vl6, vTruth, Wt.v0] at C Bl ⊢
  have pA := (AtL.new0 w 41 [.int .i64 3, .int .i64 0, .int .i64 0, .string ⟨#[]⟩, .bool b, .int .i64 0]).alloc (.cells #[.int .i64 0, .int .i64 0, .int .i64 0, .string ⟨#[]⟩, .bool false, .int .i64 0] 41)
  have pR := vlz (w.alloc (.cells #[.int .i64 3, .int .i64 0, .int .i64 0, .string ⟨#[]⟩, .bool b, .int .i64 0] 41))
  simp only [World.size_alloc] at pR
  have hB0 := ball (ball (Below.refl _ w) (.cells #[.int .i64 3, .int .i64 0, .int .i64 0, .string ⟨#[]⟩, .bool b, .int .i64 0] 41)) (.cells #[.int .i64 0, .int .i64 0, .int .i64 0, .string ⟨#[]⟩, .bool false, .int .i64 0] 41)
  go_enter Tryz.func159, Tryz.ntmps159
  go_wp2_with fail
  refine (C _).mono ?_
  rintro e w1 ⟨rfl, hb⟩
  have pA1 := AtL.below hb pA
  have pR1 := AtL.below hb pR
  obtain ⟨a0, a1, a2, a3, a4, a5⟩ := pA1.f6
  have f0 := pA1.2.2 0 (by simp)
  have f1 := pA1.2.2 1 (by simp)
  have f2 := pA1.2.2 2 (by simp)
  have f3 := pA1.2.2 3 (by simp)
  have f4 := pA1.2.2 4 (by simp)
  have f5 := pA1.2.2 5 (by simp)
  have hB1 := below_end hB0 hb
  clear hb
  have hne : w.heap.size ≠ w.heap.size + 1 := by omega
  go_wp2_with fail
  refine (T _).mono ?_
  rintro e w2 ⟨rfl, rfl⟩
  go_wp2_with fail
  refine (Bl _).mono ?_
  rintro e w3 ⟨rfl, hb3⟩
  have pR2 := AtL.below hb3 (((((pR1.far hne 0 _).far hne 1 _).far hne 2 _).far hne 3 _).far hne 4 _ |>.far hne 5 _)
  obtain ⟨c0, c1, c2, c3, c4, c5⟩ := pR2.f6
  have g0 := pR2.2.2 0 (by decide)
  have g1 := pR2.2.2 1 (by decide)
  have g2 := pR2.2.2 2 (by decide)
  have g3 := pR2.2.2 3 (by decide)
  have g4 := pR2.2.2 4 (by decide)
  have g5 := pR2.2.2 5 (by decide)
  have hB3 : Below w.heap.size w w3 := by
    refine below_end ?_ hb3
    exact by with_reducible repeat (first | exact hB1 | refine ball ?_ _ | refine Below.setCell ?_ (by first | (simp; done) | (simp; omega) | omega) _ | refine Below.drew ?_ | refine below_drewN ?_ _)
  go_wp2
  refine bodyPost_ret (v := .tuple #[.string tx, vlV Wt.v0]) (by simp [results, Tryz.results159, go_sem, vlV, vl6, Wt.v0, *]) rfl ⟨rfl, ?_⟩
  exact by with_reducible repeat (first | exact hB3 | refine ball ?_ _ | refine Below.setCell ?_ (by first | (simp; done) | (simp; omega) | omega) _ | refine Below.drew ?_ | refine below_drewN ?_ _)
set_option maxRecDepth 100000 in
set_option maxHeartbeats 1600000 in
theorem show_truth (b : Bool) (w : World) : Calls Tryz.prog 131 #[vlV (vTruth b)] w fun e w' => e = .returned (.string ⟨(if b then [84, 82, 85, 69] else [70, 65, 76, 83, 69] : List UInt8).toArray⟩) ∧ Below w.heap.size w w' := by
  have C := fun w => vcount_any 3 0 0 ⟨#[]⟩ b 0 w (by cases b <;> decide) (fun w => vright_3 0 0 ⟨#[]⟩ b 0 w)
  have T := fun w => asText_truth b w
  generalize (⟨(if b then [84, 82, 85, 69] else [70, 65, 76, 83, 69] : List UInt8).toArray⟩ : ByteArray) = tx at *
  simp only [vlV, vl6, vTruth, Wt.v0] at C T ⊢
  have pA := AtL.new0 w 41 [.int .i64 3, .int .i64 0, .int .i64 0, .string ⟨#[]⟩, .bool b, .int .i64 0]
  have hB0 := ball (Below.refl _ w) (.cells #[.int .i64 3, .int .i64 0, .int .i64 0, .string ⟨#[]⟩, .bool b, .int .i64 0] 41)
  go_enter Tryz.func131, Tryz.ntmps131
  go_wp2_with fail
  refine (C _).mono ?_
  rintro e w1 ⟨rfl, hb⟩
  have pA1 := AtL.below hb pA
  obtain ⟨a0, a1, a2, a3, a4, a5⟩ := pA1.f6
  have f0 := pA1.2.2 0 (by simp)
  have f1 := pA1.2.2 1 (by simp)
  have f2 := pA1.2.2 2 (by simp)
  have f3 := pA1.2.2 3 (by simp)
  have f4 := pA1.2.2 4 (by simp)
  have f5 := pA1.2.2 5 (by simp)
  have hB1 := below_end hB0 hb
  clear hb
  go_wp2_with fail
  refine (T _).mono ?_
  rintro e w2 ⟨rfl, hb2⟩
  have hB2 : Below w.heap.size w w2 := by
    refine below_end ?_ hb2
    exact by with_reducible repeat (first | exact hB1 | refine ball ?_ _ | refine Below.setCell ?_ (by first | (simp; done) | (simp; omega) | omega) _ | refine Below.drew ?_ | refine below_drewN ?_ _)
  clear hb2
  go_wp2
  go_ret
  exact ⟨rfl, by with_reducible repeat (first | exact hB2 | refine ball ?_ _ | refine Below.setCell ?_ (by first | (simp; done) | (simp; omega) | omega) _ | refine Below.drew ?_ | refine below_drewN ?_ _)⟩
set_option maxRecDepth 100000 in
set_option maxHeartbeats 1600000 in
theorem show_fault (f : Nat) (h1 : 1 ≤ f) (h8 : f ≤ 8) (w : World) (hF : FltAt w) : Calls Tryz.prog 131 #[vlV ⟨4, 0, 0, ⟨#[]⟩, false, f⟩] w fun e w' => e = .returned (.string ⟨(fNames.getD f []).toArray⟩) ∧ Below w.heap.size w w' := by
  have hfl : Wv.flt (f : Int) = true := by unfold Wv.flt; simp; omega
  have hlt : f < fNames.length := by show f < 9; omega
  have hfv : fltR[f]? = some (.string ⟨(fNames.getD f []).toArray⟩) := by unfold fltR; rw [List.getElem?_map, List.getElem?_eq_getElem hlt]; simp [List.getD, List.getElem?_eq_getElem hlt]
  have h9 : 1 < w.heap.size := World.block_lt_of_cell? _ _ (hF 0 _ rfl)
  generalize fNames.getD f [] = nm at *
  have C := fun w => vcount_any 4 0 0 ⟨#[]⟩ false f w (by unfold Wv.right; simp [hfl]) (fun w => vright_4 0 0 ⟨#[]⟩ false f w)
  simp only [vlV, vl6] at C ⊢
  have pA := AtL.new0 w 41 [.int .i64 4, .int .i64 0, .int .i64 0, .string ⟨#[]⟩, .bool false, .int .i64 f]
  have hB0 := ball (Below.refl _ w) (.cells #[.int .i64 4, .int .i64 0, .int .i64 0, .string ⟨#[]⟩, .bool false, .int .i64 f] 41)
  have hF0 := hF.below hB0
  go_enter Tryz.func131, Tryz.ntmps131
  go_wp2_with fail
  refine (C _).mono ?_
  rintro e w1 ⟨rfl, hb⟩
  have pA1 := AtL.below hb pA
  have hF1 := hF0.below hb
  obtain ⟨a0, a1, a2, a3, a4, a5⟩ := pA1.f6
  have f0 := pA1.2.2 0 (by simp)
  have f1 := pA1.2.2 1 (by simp)
  have f2 := pA1.2.2 2 (by simp)
  have f3 := pA1.2.2 3 (by simp)
  have f4 := pA1.2.2 4 (by simp)
  have f5 := pA1.2.2 5 (by simp)
  have hB1 := below_end hB0 hb
  clear hb
  have g : w1.cell? ⟨1, f, none⟩ = some (.string ⟨nm.toArray⟩) := by
    have := hF1 f _ hfv
    rw [Nat.zero_add] at this; exact this
  have hne : ¬ w.heap.size = 1 := by omega
  have hi1 : ¬ (f : Int) < 0 := by omega
  have hi2 : (f : Int) < 9 := by omega
  go_wp2
  go_ret
  exact ⟨rfl, by with_reducible repeat (first | exact hB1 | refine ball ?_ _ | refine Below.setCell ?_ (by first | (simp; done) | (simp; omega) | omega) _ | refine Below.drew ?_ | refine below_drewN ?_ _)⟩
open Go.Shelf Go.RowKit
def laysItoa_ren : Go.Shelf.Ren := ⟨fun | 171 => 153 | 243 => 173 | 246 => 193 | 283 => 200 | 284 => 201 | 285 => 202 | 286 => 203 | 129 => 209 | 317 => 208 | 318 => 210 | 319 => 211 | 320 => 212 | 337 => 217 | 338 => 218 | n => n, fun | 3 => 3 | 9 => 9 | 2 => 2 | 4 => 4 | 171 => 199 | 0 => 0 | 53 => 143 | 37 => 68 | 5 => 5 | 173 => 202 | 212 => 210 | 51 => 188 | 20 => 20 | 213 => 211 | 46 => 176 | 232 => 217 | 233 => 218 | n => n, fun | 17 => 5 | 18 => 6 | 19 => 7 | n => n⟩
theorem laysItoa : Go.Proofs.LaysM.n171 Tryz.prog laysItoa_ren := {
  mixed := by kernel_rfl
  f129 := Tryz.func209.trans (congrArg some (by kernel_rfl))
  f171 := Tryz.func153.trans (congrArg some (by kernel_rfl))
  f243 := Tryz.func173.trans (congrArg some (by kernel_rfl))
  f246 := Tryz.func193.trans (congrArg some (by kernel_rfl))
  f283 := Tryz.func200.trans (congrArg some (by kernel_rfl))
  f284 := Tryz.func201.trans (congrArg some (by kernel_rfl))
  f285 := Tryz.func202.trans (congrArg some (by kernel_rfl))
  f286 := Tryz.func203.trans (congrArg some (by kernel_rfl))
  f317 := Tryz.func208.trans (congrArg some (by kernel_rfl))
  f318 := Tryz.func210.trans (congrArg some (by kernel_rfl))
  f319 := Tryz.func211.trans (congrArg some (by kernel_rfl))
  f320 := Tryz.func212.trans (congrArg some (by kernel_rfl))
  f337 := Tryz.func217.trans (congrArg some (by kernel_rfl))
  f338 := Tryz.func218.trans (congrArg some (by kernel_rfl))
  t0 := Tryz.underlying0
  a0 := Tryz.isAgg0
  z0 := Tryz.sizeOf0
  v0 := Tryz.zeroValue0
  t2 := Tryz.underlying2
  a2 := Tryz.isAgg2
  z2 := Tryz.sizeOf2
  v2 := Tryz.zeroValue2
  t3 := Tryz.underlying3
  a3 := Tryz.isAgg3
  z3 := Tryz.sizeOf3
  v3 := Tryz.zeroValue3
  t4 := Tryz.underlying4
  a4 := Tryz.isAgg4
  z4 := Tryz.sizeOf4
  v4 := Tryz.zeroValue4
  t5 := Tryz.underlying5
  a5 := Tryz.isAgg5
  z5 := Tryz.sizeOf5
  v5 := Tryz.zeroValue5
  t9 := Tryz.underlying9
  a9 := Tryz.isAgg9
  z9 := Tryz.sizeOf9
  v9 := Tryz.zeroValue9
  t20 := Tryz.underlying20
  a20 := Tryz.isAgg20
  z20 := Tryz.sizeOf20
  v20 := Tryz.zeroValue20
  t37 := Tryz.underlying68
  a37 := Tryz.isAgg68
  z37 := Tryz.sizeOf68
  v37 := Tryz.zeroValue68
  t46 := Tryz.underlying176
  a46 := Tryz.isAgg176
  z46 := Tryz.sizeOf176
  v46 := Tryz.zeroValue176
  t51 := Tryz.underlying188
  a51 := Tryz.isAgg188
  z51 := Tryz.sizeOf188
  v51 := Tryz.zeroValue188
  t53 := Tryz.underlying143
  a53 := Tryz.isAgg143
  z53 := Tryz.sizeOf143
  v53 := Tryz.zeroValue143
  t171 := Tryz.underlying199
  a171 := Tryz.isAgg199
  z171 := Tryz.sizeOf199
  v171 := Tryz.zeroValue199
  t173 := Tryz.underlying202
  a173 := Tryz.isAgg202
  z173 := Tryz.sizeOf202
  v173 := Tryz.zeroValue202
  t212 := Tryz.underlying210
  a212 := Tryz.isAgg210
  z212 := Tryz.sizeOf210
  v212 := Tryz.zeroValue210
  t213 := Tryz.underlying211
  a213 := Tryz.isAgg211
  z213 := Tryz.sizeOf211
  t232 := Tryz.underlying217
  a232 := Tryz.isAgg217
  z232 := Tryz.sizeOf217
  v232 := Tryz.zeroValue217
  t233 := Tryz.underlying218
  a233 := Tryz.isAgg218
  z233 := Tryz.sizeOf218
  v233 := Tryz.zeroValue218
  g17 := by kernel_rfl
  g18 := by kernel_rfl
  g19 := by kernel_rfl
  i0 := by kernel_rfl
  i2 := by kernel_rfl
  i3 := by kernel_rfl
  i4 := by kernel_rfl
  i5 := by kernel_rfl
  i9 := by kernel_rfl
  i20 := by kernel_rfl
  i37 := by kernel_rfl
  i46 := by kernel_rfl
  i51 := by kernel_rfl
  i53 := by kernel_rfl
  i171 := by kernel_rfl
  i173 := by kernel_rfl
  i212 := by kernel_rfl
  i232 := by kernel_rfl
  i233 := by kernel_rfl
  m17 := by kernel_rfl
  m18 := by kernel_rfl
  m19 := by kernel_rfl }
theorem itoa_any (n : Int) (h0 : -9223372036854775808 ≤ n) (h1 : n ≤ 9223372036854775807) (w : World) (htab : Lib.TabIs Tryz.prog w "internal/strconv.uint64pow10" .u64 Lib.pow10Tab) :
    Calls Tryz.prog 153 #[.int .i64 n] w fun e w' => e = .returned (.string ⟨(Lib.itoa n).toArray⟩) ∧ ∃ k os, w' = Sort.grow (w.drewN k) os := Any.strconv_Itoa laysItoa n h0 h1 w htab
def lays169_ren : Go.Shelf.Ren := ⟨fun | 169 => 31 | n => n, fun | 70 => 67 | 9 => 9 | 0 => 0 | 72 => 70 | 37 => 68 | 127 => 95 | 3 => 3 | 5 => 5 | n => n, fun | n => n⟩
theorem lays169 : Go.Proofs.Lays.n169 Tryz.prog lays169_ren := {
  mixed := by kernel_rfl
  f169 := Tryz.func31.trans (congrArg some (by kernel_rfl))
  t0 := Tryz.underlying0
  a0 := Tryz.isAgg0
  z0 := Tryz.sizeOf0
  v0 := Tryz.zeroValue0
  t3 := Tryz.underlying3
  a3 := Tryz.isAgg3
  z3 := Tryz.sizeOf3
  v3 := Tryz.zeroValue3
  t9 := Tryz.underlying9
  a9 := Tryz.isAgg9
  z9 := Tryz.sizeOf9
  v9 := Tryz.zeroValue9
  t37 := Tryz.underlying68
  a37 := Tryz.isAgg68
  z37 := Tryz.sizeOf68
  v37 := Tryz.zeroValue68
  t70 := Tryz.underlying67
  a70 := Tryz.isAgg67
  z70 := Tryz.sizeOf67
  v70 := Tryz.zeroValue67
  t72 := Tryz.underlying70
  a72 := Tryz.isAgg70
  z72 := Tryz.sizeOf70
  v72 := Tryz.zeroValue70
  t127 := Tryz.underlying95
  a127 := Tryz.isAgg95
  z127 := Tryz.sizeOf95
  v127 := Tryz.zeroValue95 }
theorem extra169 : Builder.Extra Tryz.prog lays169_ren := {
  sizeBuilder := by kernel_rfl
  liesBuilder := by kernel_rfl
  t5 := Tryz.underlying5
  a5 := Tryz.isAgg5
  z5 := Tryz.sizeOf5
  v5 := Tryz.zeroValue5
  infoByte := by kernel_rfl
  cellsByte := by kernel_rfl
  sizeByte := by kernel_rfl
  neB5 := by decide }
theorem bstring (B b : Nat) (l : List UInt8) (w : World) (h : Lib.IsBuilder 70 5 B b (Lib.byteCells l) w) (hBw : B ≤ w.heap.size) :
    Calls Tryz.prog 31 #[.pointer (some ⟨b, 0, none⟩)] w fun e w' => e = .returned (.string ⟨l.toArray⟩) ∧ Below B w w' := Any.Builder_String_any lays169 extra169 B b l w h hBw
theorem q_byte {q : Nat} (h : q ≤ 9) : (((UInt8.ofNat (48 + q)).toNat : Nat) : Int) = 48 + (q : Int) := by
  have e : (UInt8.ofNat (48 + q)).toNat = 48 + q := by
    rw [UInt8.toNat_ofNat']
    exact Nat.mod_eq_of_lt (by omega)
  rw [e]; omega
set_option maxHeartbeats 1600000 in
theorem decimals_any (r d : Nat) (w : World) (hd : 0 < d) (hd2 : d ≤ 1000000) (hr : r < d) (hm : 1000000 % d = 0) :
    Calls Tryz.prog 155 #[.int .i64 (r : Int), .int .i64 (d : Int)] w fun e w' => e = .returned (.string ⟨(Wnum.decs d 6 r).toArray⟩) ∧ Below w.heap.size w w' := by
  have d0 : ¬ (d : Int) = 0 := by omega
  have EM : Hid (r * 10 ^ 6 % d = 0) := Wnum.ends_six hm
  clear hm
  go_enter Tryz.func155, Tryz.ntmps155
  go_wp2_with fail
  go_loopw [0] (fun x wr => ∃ (k r1 : Nat) (l : List UInt8), x = .int .i64 (r1 : Int) ∧ r1 < d ∧ k ≤ 6 ∧ Hid (r1 * 10 ^ k % d = 0) ∧ Hid (Wnum.decs d 6 r = l ++ Wnum.decs d k r1) ∧ l.length + k ≤ 6 ∧ Lib.IsBuilder 70 5 w.heap.size w.heap.size (Lib.byteCells l) wr ∧ Below w.heap.size w wr) (fun x _ => Wnum.fu d 6 (intOf x).toNat)
  case atStart => exact ⟨6, r, [], rfl, hr, Nat.le_refl _, EM, (rfl : Wnum.decs d 6 r = [] ++ Wnum.decs d 6 r), by simp, Lib.fresh_isBuilder 70 5 w, (Below.refl _ w).alloc (Nat.le_refl _) _⟩
  case round =>
    obtain ⟨k, r1, l, rfl, h1, hk, HE, HD, hl, hI, qB⟩ := hrel
    have s1 := qB.size
    by_cases h0 : r1 = 0
    · have E : Hid (Wnum.decs d 6 r = l) := by show _ = _; rw [HD.out, h0, Wnum.decs_zero, List.append_nil]
      have r0 : ((r1 : Int) != 0) = false := by simp [h0]
      clear h0
      go_wp2_with fail
      refine (bstring _ _ l _ hI s1).mono ?_
      rintro e w2 ⟨rfl, hb2⟩
      go_wp2
      go_ret
      exact ⟨by rw [E.out]; rfl, qB.trans hb2⟩
    · obtain ⟨k', rfl⟩ : ∃ k', k = k' + 1 := by
        cases k with
        | zero => exact absurd (Wnum.ends_zero h1 HE.out) h0
        | succ k' => exact ⟨k', rfl⟩
      have hq : r1 * 10 / d ≤ 9 := by
        have : r1 * 10 / d < 10 := (Nat.div_lt_iff_lt_mul hd).2 (by omega)
        omega
      have e1 : (r1 : Int) * 10 / (d : Int) = ((r1 * 10 / d : Nat) : Int) := by rw [Int.natCast_ediv, Int.natCast_mul]; rfl
      have e2 : (r1 : Int) * 10 % (d : Int) = ((r1 * 10 % d : Nat) : Int) := by rw [Int.natCast_emod, Int.natCast_mul]; rfl
      have L : Hid (Wnum.fu d 6 (r1 * 10 % d) < Wnum.fu d 6 r1) := Wnum.fu_less hd h1 h0 hk HE.out
      have HE2 : Hid (r1 * 10 % d * 10 ^ k' % d = 0) := Wnum.ends_step HE.out
      have lt2 : r1 * 10 % d < d := Nat.mod_lt _ hd
      have HD2 : Hid (Wnum.decs d 6 r = (l ++ [UInt8.ofNat (48 + r1 * 10 / d)]) ++ Wnum.decs d k' (r1 * 10 % d)) := by
        show _ = _
        rw [HD.out, Wnum.decs_more h0, List.append_assoc]; rfl
      have hb := q_byte hq
      have r0 : ((r1 : Int) != 0) = true := by rw [bne_iff_ne]; omega
      generalize r1 * 10 / d = q at *
      generalize hr2 : r1 * 10 % d = r2 at *
      clear hr2 HE HD
      have ec : Lib.byteCells l ++ [Value.int .u8 (48 + (q : Int))] = Lib.byteCells (l ++ [UInt8.ofNat (48 + q)]) := by
        rw [Lib.byteCells_append]
        show _ = Lib.byteCells l ++ [Value.int .u8 (((UInt8.ofNat (48 + q)).toNat : Nat) : Int)]
        rw [hb]
      have WB := wbyte (48 + (q : Int)) wr hI (by rw [Lib.byteCells_length]; omega) s1
      rw [ec] at WB
      clear hb ec
      go_wp2_with fail
      refine WB.mono ?_
      rintro e w2 ⟨rfl, hI2, hb2⟩
      go_wp2_with fail
      go_roundw
      case rel => exact ⟨k', r2, l ++ [UInt8.ofNat (48 + q)], by rw [e2], lt2, by omega, HE2, HD2, by rw [List.length_append, List.length_singleton]; omega, hI2, qB.trans hb2⟩
      case measure => simpa [intOf, e2] using L.out
end Go.Proofs.YtifdemakjphfcaaGreatDoor
