/- TParC, TExt, PlainV, TPr, TPrLen, TPrOk. -/
import Derived.Test.YthofehcchickeaaGreatDoorQ34
import Derived.Lib.ItoaNum
namespace Go.Proofs.YthofehcchickeaaGreatDoor
open Go.RowKit Go.Shelf
set_option linter.unusedVariables false
theorem pl_code {ts : List Wlx.TV} {en c p : Int} (h : pl ts en = .inr (c, p)) : c ≠ 0 := by
  unfold pl at h
  split at h
  · cases h
  · simp only [Sum.inr.injEq, Prod.mk.injEq] at h; omega
theorem pc_code {ts : List Wlx.TV} {en c p : Int} (h : pc ts en = .inr (c, p)) : c ≠ 0 := by
  unfold pc at h
  repeat' split at h
  all_goals first | (simp only [Sum.inr.injEq, Prod.mk.injEq] at h; omega) | cases h
theorem pcs_code {s : ByteArray} {ts : List Wlx.TV} {en c p : Int} (h : pcs s ts en = .inr (c, p)) : c ≠ 0 := by
  unfold pcs at h
  cases h1 : pc ts en with
  | inr e => rw [h1] at h; simp only [Sum.inr.injEq] at h; rw [h] at h1; exact pc_code h1
  | inl q =>
    obtain ⟨a, r1⟩ := q
    rw [h1] at h
    simp only at h
    cases h2 : tk r1 [58] with
    | none => rw [h2] at h; cases h
    | some r2 =>
      rw [h2] at h
      simp only at h
      cases h3 : pc r2 en with
      | inr e => rw [h3] at h; simp only [Sum.inr.injEq] at h; rw [h] at h3; exact pc_code h3
      | inl q => rw [h3] at h; cases h
theorem more_code {sub : List Wlx.TV → PR} {N : Nat} (hsub : ∀ ts row r, sub ts = .inl (row, r) → r <:+ ts) (hcode : ∀ ts c p, ts.length ≤ N → sub ts = .inr (c, p) → c ≠ 0) (k : Int) : ∀ (n : Nat) (row : List Wt.Nd) (ts : List Wlx.TV) (c p : Int), ts.length ≤ N → more sub k n row ts = .inr (c, p) → c ≠ 0 := by
  intro n
  induction n with
  | zero => intro row ts c p hN h; cases h
  | succ n ih =>
    intro row ts c p hN h
    simp only [more] at h
    cases h1 : tkOp k ts with
    | none => rw [h1] at h; cases h
    | some q =>
      obtain ⟨o, r1⟩ := q
      rw [h1] at h
      simp only at h
      have s1 := (tkOp_suf h1).2
      cases h2 : sub r1 with
      | inr e => rw [h2] at h; simp only [Sum.inr.injEq] at h; rw [h] at h2; exact hcode _ _ _ (by omega) h2
      | inl q =>
        obtain ⟨row2, r2⟩ := q
        rw [h2] at h
        simp only at h
        have := (hsub _ _ _ h2).length_le
        exact ih _ _ _ _ (by omega) h
theorem argl_code {sub : List Wlx.TV → PR} {N : Nat} (hsub : ∀ ts row r, sub ts = .inl (row, r) → r <:+ ts) (hcode : ∀ ts c p, ts.length ≤ N → sub ts = .inr (c, p) → c ≠ 0) (en : Int) : ∀ (n c0 : Nat) (rows : List Wt.Nd) (ts : List Wlx.TV) (c p : Int), ts.length ≤ N → argl sub en n c0 rows ts = .inr (c, p) → c ≠ 0 := by
  intro n
  induction n with
  | zero => intro c0 rows ts c p hN h; simp only [argl, Sum.inr.injEq, Prod.mk.injEq] at h; omega
  | succ n ih =>
    intro c0 rows ts c p hN h
    simp only [argl] at h
    cases h1 : tk ts [41] with
    | some q => rw [h1] at h; cases h
    | none =>
      rw [h1] at h
      simp only at h
      split at h
      · simp only [Sum.inr.injEq, Prod.mk.injEq] at h; omega
      · cases h2 : tk ts [44] with
        | none => rw [h2] at h; simp only [Sum.inr.injEq, Prod.mk.injEq] at h; omega
        | some r1 =>
          rw [h2] at h
          simp only at h
          have s1 := (tk_suf h2).2
          cases h3 : sub r1 with
          | inr e => rw [h3] at h; simp only [Sum.inr.injEq] at h; rw [h] at h3; exact hcode _ _ _ (by omega) h3
          | inl q =>
            obtain ⟨row, r2⟩ := q
            rw [h3] at h
            simp only at h
            have := (hsub _ _ _ h3).length_le
            exact ih _ _ _ _ _ (by omega) h
theorem pargs_code {sub : List Wlx.TV → PR} {N : Nat} (hsub : ∀ ts row r, sub ts = .inl (row, r) → r <:+ ts) (hcode : ∀ ts c p, ts.length ≤ N → sub ts = .inr (c, p) → c ≠ 0) (en : Int) (nm : List UInt8) (ts : List Wlx.TV) (c p : Int) (hN : ts.length ≤ N) (h : pargs sub en nm ts = .inr (c, p)) : c ≠ 0 := by
  unfold pargs at h
  cases h1 : tk ts [41] with
  | some q => rw [h1] at h; cases h
  | none =>
    rw [h1] at h
    simp only at h
    cases h2 : sub ts with
    | inr e => rw [h2] at h; simp only [Sum.inr.injEq] at h; rw [h] at h2; exact hcode _ _ _ hN h2
    | inl q =>
      obtain ⟨row1, r1⟩ := q
      rw [h2] at h
      simp only at h
      have := (hsub _ _ _ h2).length_le
      cases h3 : argl sub en (r1.length + 1) 1 row1 r1 with
      | inr e => rw [h3] at h; simp only [Sum.inr.injEq] at h; rw [h] at h3; exact argl_code hsub hcode en _ _ _ _ _ _ (by omega) h3
      | inl q => rw [h3] at h; cases h
theorem pword_code {sub : List Wlx.TV → PR} {N : Nat} (hsub : ∀ ts row r, sub ts = .inl (row, r) → r <:+ ts) (hcode : ∀ ts c p, ts.length ≤ N → sub ts = .inr (c, p) → c ≠ 0) (en : Int) (ts : List Wlx.TV) (c p : Int) (hN : ts.length ≤ N + 2) (h : pword sub en ts = .inr (c, p)) : c ≠ 0 := by
  unfold pword at h
  split at h
  · split at h
    · exact pargs_code hsub hcode en _ _ _ _ (by rw [List.length_drop]; omega) h
    · simp only [Sum.inr.injEq, Prod.mk.injEq] at h; omega
  split at h
  · split at h
    · exact pcs_code h
    · simp only [Sum.inr.injEq, Prod.mk.injEq] at h; omega
  split at h
  · cases h
  split at h
  · cases h
  · exact pcs_code h
theorem pbrack_code {sub : List Wlx.TV → PR} {N : Nat}  (hcode : ∀ ts c p, ts.length ≤ N → sub ts = .inr (c, p) → c ≠ 0) (en : Int) (ts : List Wlx.TV) (c p : Int) (hN : ts.length ≤ N + 1) (h : pbrack sub en ts = .inr (c, p)) : c ≠ 0 := by
  unfold pbrack at h
  cases h1 : tk ts [40] with
  | none => rw [h1] at h; simp only [Sum.inr.injEq, Prod.mk.injEq] at h; omega
  | some r1 =>
    rw [h1] at h
    simp only at h
    have s1 := (tk_suf h1).2
    cases h2 : sub r1 with
    | inr e => rw [h2] at h; simp only [Sum.inr.injEq] at h; rw [h] at h2; exact hcode _ _ _ (by omega) h2
    | inl q =>
      obtain ⟨row2, r2⟩ := q
      rw [h2] at h
      simp only at h
      cases h3 : tk r2 [41] with
      | none => rw [h3] at h; simp only [Sum.inr.injEq, Prod.mk.injEq] at h; omega
      | some r3 => rw [h3] at h; cases h
theorem pct_code : ∀ (n : Nat) (row : List Wt.Nd) (ts : List Wlx.TV) (c p : Int), pct n row ts = .inr (c, p) → False := by
  intro n
  induction n with
  | zero => intro row ts c p h; cases h
  | succ n ih =>
    intro row ts c p h
    simp only [pct] at h
    cases h1 : tkOp 6 ts with
    | none => rw [h1] at h; cases h
    | some q => obtain ⟨o, r1⟩ := q; rw [h1] at h; simp only at h; exact ih _ _ _ _ h
theorem lv_code (en : Int) : ∀ (f k : Nat) (ts : List Wlx.TV) (c p : Int), k ≤ 7 → (if k < 5 then 10 * ts.length + 9 - k else if k = 5 then 10 * ts.length + 4 else if k = 6 then 10 * ts.length + 3 else 10 * ts.length + 2) ≤ f → lv en f k ts = .inr (c, p) → c ≠ 0 := by
  intro f
  induction f with
  | zero => intro k ts c p hk hf h; repeat' split at hf
            all_goals omega
  | succ f ih =>
    intro k ts c p hk hf h
    by_cases h5 : k < 5
    · rw [if_pos h5] at hf
      rw [lv_bt _ _ _ h5] at h
      unfold pbt at h
      have hs : ∀ us c p, us.length ≤ ts.length → lv en f (k + 1) us = .inr (c, p) → c ≠ 0 := by
        intro us c p hu hh
        refine ih (k + 1) us c p (by omega) ?_ hh
        split
        · omega
        · rw [if_pos (by omega)]; omega
      cases h1 : lv en f (k + 1) ts with
      | inr e => rw [h1] at h; simp only [Sum.inr.injEq] at h; rw [h] at h1; exact hs _ _ _ (Nat.le_refl _) h1
      | inl q =>
        obtain ⟨row1, r1⟩ := q
        rw [h1] at h
        simp only at h
        have := (lv_suf en _ _ _ _ _ h1).length_le
        exact more_code (N := ts.length) (lv_suf en f (k + 1)) hs _ _ _ _ _ _ (by omega) h
    rw [if_neg h5] at hf
    by_cases e5 : k = 5
    · subst e5
      rw [if_pos rfl] at hf
      rw [lv_sg] at h
      unfold psg at h
      cases h1 : tkOp 5 ts with
      | none => rw [h1] at h; exact ih 6 ts c p (by omega) (by simp; omega) h
      | some q =>
        obtain ⟨o, r1⟩ := q
        rw [h1] at h
        simp only at h
        have s1 := (tkOp_suf h1).2
        cases h2 : lv en f 5 r1 with
        | inr e => rw [h2] at h; simp only [Sum.inr.injEq] at h; rw [h] at h2; exact ih 5 r1 c p (by omega) (by simp; omega) h2
        | inl q => rw [h2] at h; cases h
    rw [if_neg e5] at hf
    by_cases e6 : k = 6
    · subst e6
      rw [if_pos rfl] at hf
      rw [lv_pc] at h
      unfold ppc at h
      cases h1 : lv en f 7 ts with
      | inr e => rw [h1] at h; simp only [Sum.inr.injEq] at h; rw [h] at h1; exact ih 7 ts c p (by omega) (by simp; omega) h1
      | inl q => obtain ⟨row1, r1⟩ := q; rw [h1] at h; simp only at h; exact (pct_code _ _ _ _ _ h).elim
    rw [if_neg e6] at hf
    obtain rfl : k = 7 := by omega
    rw [lv_si] at h
    unfold psi at h
    split at h
    · rename_i h3
      cases ts with
      | nil => exact absurd h3 (by rw [hd_nil]; decide)
      | cons t q =>
        simp only [List.length_cons] at hf
        refine pword_code (N := q.length) (lv_suf en f 0) (fun us c p hu hh => ih 0 us c p (by omega) (by simp; omega) hh) en _ _ _ (by simp only [List.length_cons]; omega) h
    split at h
    · cases ts with
      | nil => rename_i h3; exact absurd h3 (by rw [hd_nil]; decide)
      | cons t q =>
        simp only [List.length_cons] at hf
        refine pbrack_code (N := q.length) (fun us c p hu hh => ih 0 us c p (by omega) (by simp; omega) hh) en _ _ _ (by simp only [List.length_cons]; omega) h
    · exact pl_code h
theorem prsR_code {l : List UInt8} {c p : Int} (h : prsR l = .inr (c, p)) : c ≠ 0 := by
  unfold prsR at h
  cases hr : scanAll l with
  | inr q =>
    obtain ⟨c', p'⟩ := q
    rw [hr] at h
    simp only [Sum.inr.injEq, Prod.mk.injEq] at h
    have := scan_code hr
    omega
  | inl ts =>
    rw [hr] at h
    simp only at h
    unfold prsT at h
    cases hp : pall (lv (l.length : Int) (10 * (ts.map Wlx.tv).length + 9) 0) (l.length : Int) (ts.map Wlx.tv) with
    | inr q =>
      rw [hp] at h
      simp only [Sum.inr.injEq] at h
      subst h
      unfold pall at hp
      split at hp
      · rename_i e he
        simp only [Sum.inr.injEq] at hp
        subst hp
        exact lv_code _ _ 0 _ _ _ (by omega) (by simp) he
      · cases hp
      · simp only [Sum.inr.injEq, Prod.mk.injEq] at hp; omega
    | inl q =>
      obtain ⟨row, rr⟩ := q
      rw [hp] at h
      simp only at h
      split at h
      · cases h
      · rename_i hc
        simp only [Sum.inr.injEq, Prod.mk.injEq] at h
        omega
theorem prsR_row {l : List UInt8} {row : List Wt.Nd} (h : prsR l = .inl row) : (∀ x ∈ row, Wt.FitN x) ∧ Wt.check row = 0 := by
  unfold prsR at h
  cases hr : scanAll l with
  | inr q =>
    obtain ⟨c', p'⟩ := q
    rw [hr] at h; cases h
  | inl ts =>
    rw [hr] at h
    simp only at h
    have hok : ∀ t ∈ ts.map Wlx.tv, TokOk t := by
      unfold scanAll at hr
      split at hr
      · cases hr
      · exact (scan_ok _ 0 l (Nat.le_refl _) (by omega) ts hr).2
    unfold prsT at h
    cases hp : pall (lv (l.length : Int) (10 * (ts.map Wlx.tv).length + 9) 0) (l.length : Int) (ts.map Wlx.tv) with
    | inr q => rw [hp] at h; cases h
    | inl q =>
      obtain ⟨row', rr⟩ := q
      rw [hp] at h
      simp only at h
      split at h
      · rename_i hc
        simp only [Sum.inl.injEq] at h
        subst h
        refine ⟨?_, hc⟩
        unfold pall at hp
        split at hp
        · cases hp
        · rename_i row'' he
          simp only [Sum.inl.injEq, Prod.mk.injEq] at hp
          rw [← hp.1]
          exact (lv_fit _ _ _ _ _ _ hok he).1
        · cases hp
      · cases h
def kt (t : Wlx.TV) : Int × List UInt8 := (t.k, t.t)
def Same (us ts : List Wlx.TV) : Prop := us.map kt = ts.map kt
def Cl (tl : List Wlx.TV) : Prop := tl = [] ∨ ∃ c q, tl = c :: q ∧ c.k = 5 ∧ (c.t = [41] ∨ c.t = [44])
theorem Same.len {us ts : List Wlx.TV} (h : Same us ts) : us.length = ts.length := by
  have := congrArg List.length h
  simpa using this
theorem Same.cons {us : List Wlx.TV} {t : Wlx.TV} {r : List Wlx.TV} (h : Same us (t :: r)) : ∃ u q, us = u :: q ∧ u.k = t.k ∧ u.t = t.t ∧ Same q r := by
  cases us with
  | nil => simp [Same] at h
  | cons u q =>
    simp only [Same, List.map_cons, List.cons.injEq, kt, Prod.mk.injEq] at h
    exact ⟨u, q, rfl, h.1.1, h.1.2, h.2⟩
theorem Same.nil {us : List Wlx.TV} (h : Same us []) : us = [] := by
  cases us with
  | nil => rfl
  | cons u q => simp [Same] at h
theorem Same.drop {us ts : List Wlx.TV} (h : Same us ts) (n : Nat) : Same (us.drop n) (ts.drop n) := by
  unfold Same at *
  rw [List.map_drop, List.map_drop, h]
theorem opAs_41 (k : Int) : Wt.opAs [41] k = none := by
  unfold Wt.opAs
  rw [List.find?_eq_none]
  intro x hx
  simp only [Wt.opsT, List.mem_cons, List.not_mem_nil, or_false] at hx
  rcases hx with rfl | rfl | rfl | rfl | rfl | rfl | rfl | rfl | rfl | rfl | rfl | rfl | rfl | rfl | rfl <;> simp
theorem opAs_44 (k : Int) : Wt.opAs [44] k = none := by
  unfold Wt.opAs
  rw [List.find?_eq_none]
  intro x hx
  simp only [Wt.opsT, List.mem_cons, List.not_mem_nil, or_false] at hx
  rcases hx with rfl | rfl | rfl | rfl | rfl | rfl | rfl | rfl | rfl | rfl | rfl | rfl | rfl | rfl | rfl <;> simp
theorem more_not' {sub : List Wlx.TV → PR} {k : Int} {n : Nat} {row : List Wt.Nd} {ts : List Wlx.TV} (h : tkOp k ts = none) : more sub k n row ts = .inl (row, ts) := by
  cases n with
  | zero => rfl
  | succ n => simp only [more, h]
end Go.Proofs.YthofehcchickeaaGreatDoor
namespace Go.Proofs.YthofehcchickeaaGreatDoor.Wnum
def decs (d : Nat) : Nat → Nat → List UInt8
  | 0, _ => []
  | k + 1, r => if r = 0 then [] else UInt8.ofNat (48 + r * 10 / d) :: decs d k (r * 10 % d)
def fu (d : Nat) : Nat → Nat → Nat
  | 0, _ => 0
  | k + 1, r => if r = 0 then 0 else fu d k (r * 10 % d) + 1
theorem decs_zero (d k : Nat) : decs d k 0 = [] := by cases k <;> rfl
theorem decs_more {d k r : Nat} (h : r ≠ 0) : decs d (k + 1) r = UInt8.ofNat (48 + r * 10 / d) :: decs d k (r * 10 % d) := if_neg h
theorem fu_zero (d k : Nat) : fu d k 0 = 0 := by cases k <;> rfl
theorem fu_more {d k r : Nat} (h : r ≠ 0) : fu d (k + 1) r = fu d k (r * 10 % d) + 1 := if_neg h
theorem ends_step {d k r : Nat} (h : r * 10 ^ (k + 1) % d = 0) : r * 10 % d * 10 ^ k % d = 0 := by
  rw [Nat.mod_mul_mod, Nat.mul_assoc, ← Nat.pow_succ']
  exact h
theorem ends_zero {d r : Nat} (hr : r < d) (h : r * 10 ^ 0 % d = 0) : r = 0 := by
  rw [Nat.pow_zero, Nat.mul_one, Nat.mod_eq_of_lt hr] at h
  exact h
theorem fu_stable {d : Nat} (hd : 0 < d) : ∀ k r, r < d → r * 10 ^ k % d = 0 → fu d (k + 1) r = fu d k r := by
  intro k
  induction k with
  | zero => intro r hr h; rw [ends_zero hr h]; rfl
  | succ k ih =>
    intro r hr h
    by_cases h0 : r = 0
    · rw [h0, fu_zero, fu_zero]
    · rw [fu_more h0, ih _ (Nat.mod_lt _ hd) (ends_step h)]
      exact (fu_more h0).symm
theorem fu_less {d k r : Nat} (hd : 0 < d) (hr : r < d) (h0 : r ≠ 0) (hk : k + 1 ≤ 6) (h : r * 10 ^ (k + 1) % d = 0) : fu d 6 (r * 10 % d) < fu d 6 r := by
  have up : ∀ j m x, x < d → x * 10 ^ m % d = 0 → fu d (m + j) x = fu d m x := by
    intro j
    induction j with
    | zero => intro m x _ _; rfl
    | succ j ih =>
      intro m x hx hm
      rw [show m + (j + 1) = (m + j) + 1 by omega, fu_stable hd (m + j) x hx (by rw [Nat.pow_add, ← Nat.mul_assoc, Nat.mul_mod, hm, Nat.zero_mul, Nat.zero_mod]), ih m x hx hm]
  have e1 := up (6 - (k + 1)) (k + 1) r hr h
  have e2 := up (6 - k) k (r * 10 % d) (Nat.mod_lt _ hd) (ends_step h)
  rw [show k + 1 + (6 - (k + 1)) = 6 by omega] at e1
  rw [show k + (6 - k) = 6 by omega] at e2
  rw [e1, e2, fu_more h0]
  omega
def sgnT (N : Int) : List UInt8 := if N < 0 then [45] else []
def txt (N : Int) (D : Nat) : List UInt8 :=
  sgnT N ++ (if 1000000 % D ≠ 0 then Lib.decDigits N.natAbs ++ 47 :: Lib.decDigits D else if N.natAbs % D = 0 then Lib.decDigits (N.natAbs / D) else Lib.decDigits (N.natAbs / D) ++ 46 :: decs D 6 (N.natAbs % D))
theorem txt_frac {N : Int} {D : Nat} (h : 1000000 % D ≠ 0) : txt N D = sgnT N ++ (Lib.decDigits N.natAbs ++ 47 :: Lib.decDigits D) := by unfold txt; rw [if_pos h]
theorem txt_whole {N : Int} {D : Nat} (h : 1000000 % D = 0) (h' : N.natAbs % D = 0) : txt N D = sgnT N ++ Lib.decDigits (N.natAbs / D) := by unfold txt; rw [if_neg (by omega), if_pos h']
theorem txt_point {N : Int} {D : Nat} (h : 1000000 % D = 0) (h' : N.natAbs % D ≠ 0) : txt N D = sgnT N ++ (Lib.decDigits (N.natAbs / D) ++ 46 :: decs D 6 (N.natAbs % D)) := by unfold txt; rw [if_neg (by omega), if_neg h']
theorem itoa_sgn (N : Int) : Lib.itoa N = sgnT N ++ Lib.decDigits N.natAbs := by
  unfold Lib.itoa sgnT
  by_cases h : N < 0
  · rw [if_pos h, if_pos h]; rfl
  · rw [if_neg h, if_neg h, show N.toNat = N.natAbs by omega]; rfl
theorem ends_six {d r : Nat} (h : 1000000 % d = 0) : r * 10 ^ 6 % d = 0 := by
  rw [show (10 : Nat) ^ 6 = 1000000 by decide, Nat.mul_mod, h, Nat.mul_zero, Nat.zero_mod]
theorem decs_length (d : Nat) : ∀ k r, (decs d k r).length ≤ k := by
  intro k
  induction k with
  | zero => intro r; exact Nat.le_refl _
  | succ k ih =>
    intro r
    by_cases h : r = 0
    · rw [h, decs_zero]; exact Nat.zero_le _
    · rw [decs_more h, List.length_cons]; have := ih (r * 10 % d); omega
end Go.Proofs.YthofehcchickeaaGreatDoor.Wnum
namespace Go.Proofs.YthofehcchickeaaGreatDoor
open Go.RowKit Go.Shelf
set_option linter.unusedVariables false
def tgh (x : Wt.Nd) : Int := match Wt.opOf x.op with | some o => o.2.2 | none => 7
def mrk (x : Wt.Nd) : List UInt8 := match Wt.opOf x.op with | some o => o.2.1 | none => []
def litT (v : Wt.Vl) : List UInt8 :=
  if v.k = 1 then Wnum.txt (Wnum.cN v.n v.d) (Wnum.cD v.n v.d).toNat
  else if v.k = 2 then 34 :: (Wlx.dbl v.t.data.toList ++ [34])
  else if v.k = 3 then (if v.b then [84, 82, 85, 69] else [70, 65, 76, 83, 69])
  else fNames.getD v.f.toNat []
def celT (a : Wt.Rf) : List UInt8 := if a.s = ⟨#[]⟩ then cw a else a.s.data.toList ++ (33 :: cw a)
def prA (sub : Int → List Wt.Nd → List UInt8 × List Wt.Nd) : Nat → Bool → List Wt.Nd → List UInt8 × List Wt.Nd
  | 0, _, l => ([], l)
  | n + 1, first, l => ((if first then [] else [44]) ++ (sub 0 l).1 ++ (prA sub n false (sub 0 l).2).1, (prA sub n false (sub 0 l).2).2)
def prS (sub : Int → List Wt.Nd → List UInt8 × List Wt.Nd) (x : Wt.Nd) (r : List Wt.Nd) : List UInt8 × List Wt.Nd :=
  if x.k = 1 then (litT x.v, r)
  else if x.k = 2 then (celT x.a, r)
  else if x.k = 3 then (celT x.a ++ 58 :: celT x.b, r)
  else (x.nm.data.toList ++ [40] ++ (prA sub x.ar.toNat true r).1 ++ [41], (prA sub x.ar.toNat true r).2)
def prN (sub : Int → List Wt.Nd → List UInt8 × List Wt.Nd) (x : Wt.Nd) (r : List Wt.Nd) : List UInt8 × List Wt.Nd :=
  if tgh x = 7 then prS sub x r
  else if tgh x = 5 then (mrk x ++ (sub 5 r).1, (sub 5 r).2)
  else if tgh x = 6 then ((sub 6 r).1 ++ mrk x, (sub 6 r).2)
  else ((sub (tgh x) r).1 ++ mrk x ++ (sub (tgh x + 1) (sub (tgh x) r).2).1, (sub (tgh x + 1) (sub (tgh x) r).2).2)
def pr : Nat → Int → List Wt.Nd → List UInt8 × List Wt.Nd
  | 0, _, l => ([], l)
  | _ + 1, _, [] => ([], [])
  | f + 1, least, x :: r => if least ≤ tgh x then prN (pr f) x r else (40 :: (prN (pr f) x r).1 ++ [41], (prN (pr f) x r).2)
theorem fName_len : ∀ i, (fNames.getD i []).length ≤ 8
  | 0 => by decide
  | 1 => by decide
  | 2 => by decide
  | 3 => by decide
  | 4 => by decide
  | 5 => by decide
  | 6 => by decide
  | 7 => by decide
  | 8 => by decide
  | i + 9 => by
    have : fNames.getD (i + 9) [] = [] := by
      unfold List.getD
      rw [List.getElem?_eq_none (by show 9 ≤ i + 9; omega)]; rfl
    rw [this]; simp
theorem sgnT_len (N : Int) : (Wnum.sgnT N).length ≤ 1 := by unfold Wnum.sgnT; split <;> simp
theorem txt_len {N : Int} {D : Nat} (h : N.natAbs ≤ 9223372036854775807) (hD : D ≤ 9223372036854775807) : (Wnum.txt N D).length ≤ 50 := by
  have h1 := sgnT_len N
  unfold Wnum.txt
  rw [List.length_append]
  split
  · have := Wpl.dd_len N.natAbs h
    have := Wpl.dd_len D hD
    simp only [List.length_append, List.length_cons]; omega
  have hq : N.natAbs / D ≤ 9223372036854775807 := Nat.le_trans (Nat.div_le_self _ _) h
  have := Wpl.dd_len (N.natAbs / D) hq
  split
  · omega
  · have := Wnum.decs_length D 6 (N.natAbs % D)
    simp only [List.length_append, List.length_cons]; omega
theorem litT_len {v : Wt.Vl} (h : Wt.vlOk v = true) : (litT v).length ≤ 600 := by
  unfold litT
  split
  · obtain ⟨n1, n2⟩ := Wnum.cN_bd v.n v.d
    obtain ⟨n3, n4⟩ := Wnum.cD_bd v.n v.d
    have := txt_len (N := Wnum.cN v.n v.d) (D := (Wnum.cD v.n v.d).toNat) (by omega) (by omega)
    omega
  split
  · rename_i h1 h2
    unfold Wt.vlOk at h
    rw [if_neg (by omega), if_neg h1] at h
    unfold Wv.right at h
    rw [if_neg (by omega), if_neg h1, if_pos h2] at h
    simp only [Bool.and_eq_true, decide_eq_true_eq] at h
    have hs := h.1.1.1.1.1
    have hd := Wlx.dbl_length v.t.data.toList
    have e : v.t.data.toList.length = v.t.size := by rw [Array.length_toList]; rfl
    simp only [List.length_cons, List.length_append, List.length_nil]; omega
  split
  · split <;> decide
  · have := fName_len v.f.toNat; omega
theorem cw_len (a : Wt.Rf) (h0 : 0 ≤ a.r) (h1 : a.r < 65536) : (cw a).length ≤ 40 := by
  unfold cw
  have := fx_len a.fc
  have := fx_len a.fr
  have := Wpl.colS_len a.c
  have := Wpl.dd_len (a.r + 1).toNat (by omega)
  simp only [List.length_append]; omega
theorem rfOk_in {a : Wt.Rf} (h : Wt.rfOk a = true) : (0 ≤ a.r ∧ a.r < 65536) ∧ (a.s = ⟨#[]⟩ ∨ Wt.shNm a.s = true) := by
  unfold Wt.rfOk Wt.inR at h
  simp only [Bool.and_eq_true, decide_eq_true_eq, Bool.or_eq_true] at h
  exact ⟨⟨h.1.1.1, h.1.1.2⟩, h.2⟩
theorem isNm_len {p : UInt8 → Bool} {l : List UInt8} (h : Wt.isNm p l = true) : 1 ≤ l.length ∧ l.length ≤ 16 := by
  unfold Wt.isNm at h
  simp only [Bool.and_eq_true, decide_eq_true_eq] at h
  exact ⟨h.1.1.1, h.1.1.2⟩
theorem celT_len {a : Wt.Rf} (h : Wt.rfOk a = true) : (celT a).length ≤ 60 := by
  obtain ⟨⟨h0, h1⟩, h2⟩ := rfOk_in h
  have := cw_len a h0 h1
  unfold celT
  split
  · omega
  · rename_i hn
    have := (isNm_len (h2.resolve_left hn)).2
    simp only [List.length_append, List.length_cons]; omega
def PrOk (f : Nat) : Prop := ∀ (l : List Wt.Nd) (s d : Nat), Wt.one f l = some (s, d) → ∀ least, (pr f least l).2 = l.drop s ∧ (pr f least l).1.length ≤ 1000 * s
theorem prA_ok {f : Nat} (ih : PrOk f) : ∀ (k : Nat) (first : Bool) (l : List Wt.Nd) (s d : Nat), Wt.many (Wt.one f) k l = some (s, d) → (prA (pr f) k first l).2 = l.drop s ∧ (prA (pr f) k first l).1.length ≤ 1000 * s + k := by
  intro k
  induction k with
  | zero => intro first l s d h; simp only [Wt.many, Option.some.injEq, Prod.mk.injEq] at h; obtain ⟨rfl, rfl⟩ := h; exact ⟨rfl, Nat.zero_le _⟩
  | succ k ihk =>
    intro first l s d h
    simp only [Wt.many] at h
    cases h1 : Wt.one f l with
    | none => rw [h1] at h; cases h
    | some q =>
      obtain ⟨a, b⟩ := q
      rw [h1] at h
      simp only at h
      cases h2 : Wt.many (Wt.one f) k (l.drop a) with
      | none => rw [h2] at h; cases h
      | some q2 =>
        obtain ⟨a2, b2⟩ := q2
        rw [h2] at h
        simp only [Option.some.injEq, Prod.mk.injEq] at h
        obtain ⟨rfl, rfl⟩ := h
        obtain ⟨i1, i2⟩ := ih l a b h1 0
        obtain ⟨j1, j2⟩ := ihk false _ a2 b2 h2
        simp only [prA]
        rw [i1]
        refine ⟨by rw [j1, List.drop_drop], ?_⟩
        have hf : (if first = true then ([] : List UInt8) else [44]).length ≤ 1 := by split <;> simp
        simp only [List.length_append]; omega
theorem mrk_len (x : Wt.Nd) : (mrk x).length ≤ 2 := by
  unfold mrk
  cases h : Wt.opOf x.op with
  | none => simp
  | some o =>
    have := List.mem_of_find?_eq_some h
    simp only [Wt.opsT, List.mem_cons, List.not_mem_nil, or_false] at this
    rcases this with rfl | rfl | rfl | rfl | rfl | rfl | rfl | rfl | rfl | rfl | rfl | rfl | rfl | rfl | rfl <;> decide
theorem opOf_tgh {x : Wt.Nd} {o : Int × List UInt8 × Int} (h : Wt.opOf x.op = some o) : tgh x = o.2.2 ∧ 0 ≤ o.2.2 ∧ o.2.2 ≤ 6 := by
  refine ⟨by unfold tgh; rw [h], ?_⟩
  have := List.mem_of_find?_eq_some h
  simp only [Wt.opsT, List.mem_cons, List.not_mem_nil, or_false] at this
  rcases this with rfl | rfl | rfl | rfl | rfl | rfl | rfl | rfl | rfl | rfl | rfl | rfl | rfl | rfl | rfl <;> decide
def Knd (x : Wt.Nd) : Prop :=
  (x.k = 1 ∧ Wt.vlOk x.v = true ∧ x = ⟨1, x.v, 0, ⟨#[]⟩, 0, Wt.r0, Wt.r0⟩) ∨ (x.k = 2 ∧ Wt.rfOk x.a = true ∧ x = ⟨2, Wt.v0, 0, ⟨#[]⟩, 0, x.a, Wt.r0⟩) ∨
  (x.k = 3 ∧ Wt.rfOk x.a = true ∧ Wt.rfOk x.b = true ∧ x.b.s.toList.isEmpty = true ∧ x = ⟨3, Wt.v0, 0, ⟨#[]⟩, 0, x.a, x.b⟩) ∨
  (x.k = 4 ∧ opK x.op = 4 ∧ x = ⟨4, Wt.v0, x.op, ⟨#[]⟩, 0, Wt.r0, Wt.r0⟩) ∨ (x.k = 5 ∧ opK x.op = 5 ∧ x = ⟨5, Wt.v0, x.op, ⟨#[]⟩, 0, Wt.r0, Wt.r0⟩) ∨
  (x.k = 6 ∧ Wt.fnNm x.nm = true ∧ 0 ≤ x.ar ∧ x.ar ≤ 30 ∧ x = ⟨6, Wt.v0, 0, x.nm, x.ar, Wt.r0, Wt.r0⟩)
theorem right_knd {x : Wt.Nd} (h : Wt.right x = true) : Knd x := by
  unfold Wt.right at h
  unfold Knd
  split at h
  · rename_i e; rw [Bool.and_eq_true, eqN_iff] at h; exact Or.inl ⟨e, h.1, h.2⟩
  split at h
  · rename_i e; rw [Bool.and_eq_true, eqN_iff] at h; exact Or.inr (Or.inl ⟨e, h.1, h.2⟩)
  split at h
  · rename_i e; simp only [Bool.and_eq_true, eqN_iff] at h; exact Or.inr (Or.inr (Or.inl ⟨e, h.1.1.1, h.1.1.2, h.1.2, h.2⟩))
  split at h
  · rename_i e; simp only [Bool.and_eq_true, eqN_iff, beq_iff_eq] at h; exact Or.inr (Or.inr (Or.inr (Or.inl ⟨e, h.1, h.2⟩)))
  split at h
  · rename_i e; simp only [Bool.and_eq_true, eqN_iff, beq_iff_eq] at h; exact Or.inr (Or.inr (Or.inr (Or.inr (Or.inl ⟨e, h.1, h.2⟩))))
  split at h
  · rename_i e; simp only [Bool.and_eq_true, eqN_iff, decide_eq_true_eq] at h; exact Or.inr (Or.inr (Or.inr (Or.inr (Or.inr ⟨e, h.1.1.1, h.1.1.2, h.1.2, h.2⟩))))
  · cases h
theorem opOf_zero : Wt.opOf 0 = none := by decide
theorem tgh_zero {x : Wt.Nd} (h : x.op = 0) : tgh x = 7 := by unfold tgh; rw [h, opOf_zero]
theorem knd_tgh {x : Wt.Nd} (h : Knd x) : (tgh x = 7 ∧ x.op = 0 ∧ (x.k = 1 ∨ x.k = 2 ∨ x.k = 3 ∨ x.k = 6)) ∨ ((tgh x = 5 ∨ tgh x = 6) ∧ Wt.parts x = 1 ∧ ∃ o, Wt.opOf x.op = some o) ∨ ((0 ≤ tgh x ∧ tgh x < 5) ∧ Wt.parts x = 2 ∧ ∃ o, Wt.opOf x.op = some o) := by
  rcases h with ⟨h, -, e⟩ | ⟨h, -, e⟩ | ⟨h, -, -, -, e⟩ | ⟨h, h2, -⟩ | ⟨h, h2, -⟩ | ⟨h, -, -, -, e⟩
  · have := congrArg Wt.Nd.op e
    exact Or.inl ⟨tgh_zero this, this, Or.inl h⟩
  · have := congrArg Wt.Nd.op e
    exact Or.inl ⟨tgh_zero this, this, Or.inr (Or.inl h)⟩
  · have := congrArg Wt.Nd.op e
    exact Or.inl ⟨tgh_zero this, this, Or.inr (Or.inr (Or.inl h))⟩
  · unfold opK at h2
    cases ho : Wt.opOf x.op with
    | none => rw [ho] at h2; simp at h2
    | some o =>
      obtain ⟨oo, om, ot⟩ := o
      rw [ho] at h2
      simp only at h2
      obtain ⟨t1, t2, t3⟩ := opOf_tgh ho
      simp only at t1 t2 t3
      refine Or.inr (Or.inl ⟨?_, by unfold Wt.parts; rw [if_pos h], _, rfl⟩)
      split at h2
      · omega
      · omega
  · unfold opK at h2
    cases ho : Wt.opOf x.op with
    | none => rw [ho] at h2; simp at h2
    | some o =>
      obtain ⟨oo, om, ot⟩ := o
      rw [ho] at h2
      simp only at h2
      obtain ⟨t1, t2, t3⟩ := opOf_tgh ho
      simp only at t1 t2 t3
      refine Or.inr (Or.inr ⟨?_, by unfold Wt.parts; rw [if_neg (by omega), if_pos h], _, rfl⟩)
      split at h2
      · omega
      · omega
  · have := congrArg Wt.Nd.op e
    exact Or.inl ⟨tgh_zero this, this, Or.inr (Or.inr (Or.inr h))⟩
theorem knd_parts0 {x : Wt.Nd} (h : Knd x) (hk : x.k = 1 ∨ x.k = 2 ∨ x.k = 3) : Wt.parts x = 0 := by
  unfold Wt.parts
  rw [if_neg (by omega), if_neg (by omega)]
  rcases h with ⟨h, -, e⟩ | ⟨h, -, e⟩ | ⟨h, -, -, -, e⟩ | ⟨h, h2, -⟩ | ⟨h, h2, -⟩ | ⟨h, -, -, -, e⟩
  · exact congrArg Wt.Nd.ar e
  · exact congrArg Wt.Nd.ar e
  · exact congrArg Wt.Nd.ar e
  all_goals omega
theorem knd_parts6 {x : Wt.Nd} (h : x.k = 6) : Wt.parts x = x.ar := by
  unfold Wt.parts
  rw [if_neg (by omega), if_neg (by omega)]
theorem many_one {f : Nat} {l : List Wt.Nd} {s d : Nat} (h : Wt.many (Wt.one f) 1 l = some (s, d)) : Wt.one f l = some (s, d) := by
  simp only [Wt.many] at h
  cases h1 : Wt.one f l with
  | none => rw [h1] at h; cases h
  | some q => obtain ⟨a, b⟩ := q; rw [h1] at h; simpa using h
theorem many_two {f : Nat} {l : List Wt.Nd} {s d : Nat} (h : Wt.many (Wt.one f) 2 l = some (s, d)) : ∃ a b a2 b2, Wt.one f l = some (a, b) ∧ Wt.one f (l.drop a) = some (a2, b2) ∧ s = a + a2 ∧ d = max b b2 := by
  simp only [Wt.many] at h
  cases h1 : Wt.one f l with
  | none => rw [h1] at h; cases h
  | some q =>
    obtain ⟨a, b⟩ := q
    rw [h1] at h
    simp only at h
    cases h2 : Wt.one f (l.drop a) with
    | none => rw [h2] at h; cases h
    | some q2 =>
      obtain ⟨a2, b2⟩ := q2
      rw [h2] at h
      simp only [Option.some.injEq, Prod.mk.injEq, Nat.add_zero, Nat.max_zero] at h
      exact ⟨a, b, a2, b2, rfl, h2, h.1.symm, h.2.symm⟩
theorem one_unf {f : Nat} {x : Wt.Nd} {r : List Wt.Nd} {s d : Nat} (h : Wt.one (f + 1) (x :: r) = some (s, d)) : Wt.right x = true ∧ ∃ a b, Wt.many (Wt.one f) (Wt.parts x).toNat r = some (a, b) ∧ s = a + 1 ∧ d = b + 1 := by
  unfold Wt.one at h
  split at h
  · rename_i hx
    cases h1 : Wt.many (Wt.one f) (Wt.parts x).toNat r with
    | none => rw [h1] at h; cases h
    | some q =>
      obtain ⟨a, b⟩ := q
      rw [h1] at h
      simp only [Option.some.injEq, Prod.mk.injEq] at h
      exact ⟨hx, a, b, rfl, by omega, by omega⟩
  · cases h
theorem prS_ok {f : Nat} (ih : PrOk f) {x : Wt.Nd} (hx : Knd x) (hk : x.k = 1 ∨ x.k = 2 ∨ x.k = 3 ∨ x.k = 6) {r : List Wt.Nd} {a b : Nat} (h : Wt.many (Wt.one f) (Wt.parts x).toNat r = some (a, b)) :
    (prS (pr f) x r).2 = r.drop a ∧ (prS (pr f) x r).1.length ≤ 1000 * a + 900 := by
  unfold prS
  by_cases h1 : x.k = 1
  · rw [if_pos h1]
    rw [knd_parts0 hx (Or.inl h1)] at h
    simp only [Int.toNat_zero, Wt.many, Option.some.injEq, Prod.mk.injEq] at h
    have : Wt.vlOk x.v = true := by
      rcases hx with ⟨_, h, e⟩ | ⟨h, -, e⟩ | ⟨h, -, -, -, e⟩ | ⟨h, h2, -⟩ | ⟨h, h2, -⟩ | ⟨h, -, -, -, e⟩
      · exact h
      all_goals omega
    have := litT_len this
    exact ⟨by rw [← h.1]; rfl, by simp only; omega⟩
  rw [if_neg h1]
  by_cases h2 : x.k = 2
  · rw [if_pos h2]
    rw [knd_parts0 hx (Or.inr (Or.inl h2))] at h
    simp only [Int.toNat_zero, Wt.many, Option.some.injEq, Prod.mk.injEq] at h
    have : Wt.rfOk x.a = true := by
      rcases hx with ⟨h, -, e⟩ | ⟨_, h, e⟩ | ⟨h, -, -, -, e⟩ | ⟨h, h2, -⟩ | ⟨h, h2, -⟩ | ⟨h, -, -, -, e⟩
      · omega
      · exact h
      all_goals omega
    have := celT_len this
    exact ⟨by rw [← h.1]; rfl, by simp only; omega⟩
  rw [if_neg h2]
  by_cases h3 : x.k = 3
  · rw [if_pos h3]
    rw [knd_parts0 hx (Or.inr (Or.inr h3))] at h
    simp only [Int.toNat_zero, Wt.many, Option.some.injEq, Prod.mk.injEq] at h
    have : Wt.rfOk x.a = true ∧ Wt.rfOk x.b = true := by
      rcases hx with ⟨h, -, e⟩ | ⟨h, -, e⟩ | ⟨_, h, h', -, e⟩ | ⟨h, h2, -⟩ | ⟨h, h2, -⟩ | ⟨h, -, -, -, e⟩
      · omega
      · omega
      · exact ⟨h, h'⟩
      all_goals omega
    have l1 := celT_len this.1
    have l2 := celT_len this.2
    exact ⟨by rw [← h.1]; rfl, by simp only [List.length_append, List.length_cons]; omega⟩
  rw [if_neg h3]
  have h6 : x.k = 6 := by omega
  rw [knd_parts6 h6] at h
  have : Wt.fnNm x.nm = true ∧ 0 ≤ x.ar ∧ x.ar ≤ 30 := by
    rcases hx with ⟨h, -, e⟩ | ⟨h, -, e⟩ | ⟨h, -, -, -, e⟩ | ⟨h, h2, -⟩ | ⟨h, h2, -⟩ | ⟨_, h, h', h'', e⟩
    · omega
    · omega
    · omega
    · omega
    · omega
    · exact ⟨h, h', h''⟩
  have l1 := (isNm_len this.1).2
  obtain ⟨j1, j2⟩ := prA_ok ih _ true _ _ _ h
  exact ⟨j1, by simp only [List.length_append, List.length_cons, List.length_nil]; omega⟩
theorem prN_ok {f : Nat} (ih : PrOk f) {x : Wt.Nd} (hx : Knd x) {r : List Wt.Nd} {a b : Nat} (h : Wt.many (Wt.one f) (Wt.parts x).toNat r = some (a, b)) :
    (prN (pr f) x r).2 = r.drop a ∧ (prN (pr f) x r).1.length ≤ 1000 * a + 900 := by
  have hm := mrk_len x
  unfold prN
  rcases knd_tgh hx with ⟨h7, -, hk⟩ | ⟨h56, hp, -⟩ | ⟨h04, hp, -⟩
  · rw [if_pos h7]; exact prS_ok ih hx hk h
  · rw [if_neg (by omega)]
    rw [hp] at h
    have h' := many_one (show Wt.many (Wt.one f) 1 r = some (a, b) from h)
    rcases h56 with h5 | h6
    · rw [if_pos h5]
      obtain ⟨i1, i2⟩ := ih _ _ _ h' 5
      exact ⟨i1, by simp only [List.length_append]; omega⟩
    · rw [if_neg (by omega), if_pos h6]
      obtain ⟨i1, i2⟩ := ih _ _ _ h' 6
      exact ⟨i1, by simp only [List.length_append]; omega⟩
  · rw [if_neg (by omega), if_neg (by omega), if_neg (by omega)]
    rw [hp] at h
    obtain ⟨a1, b1, a2, b2, e1, e2, e3, e4⟩ := many_two (show Wt.many (Wt.one f) 2 r = some (a, b) from h)
    obtain ⟨i1, i2⟩ := ih _ _ _ e1 (tgh x)
    rw [i1]
    obtain ⟨j1, j2⟩ := ih _ _ _ e2 (tgh x + 1)
    refine ⟨by rw [j1, List.drop_drop, e3], by simp only [List.length_append]; omega⟩
theorem pr_ok : ∀ (f : Nat), PrOk f
  | 0, l, s, d, h => by simp [Wt.one] at h
  | f + 1, [], s, d, h => by simp [Wt.one] at h
  | f + 1, x :: r, s, d, h => fun least => by
    obtain ⟨hx, a, b, hm, rfl, rfl⟩ := one_unf h
    obtain ⟨i1, i2⟩ := prN_ok (pr_ok f) (right_knd hx) hm
    simp only [pr]
    split
    · exact ⟨by rw [i1]; rfl, by omega⟩
    · exact ⟨by rw [i1]; rfl, by simp only [List.length_append, List.length_cons, List.length_nil]; omega⟩
end Go.Proofs.YthofehcchickeaaGreatDoor
