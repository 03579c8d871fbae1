/- TParC, TExt. -/
import Derived.Test.YtifdemakjphfcaaGreatDoorQ36
namespace Go.Proofs.YtifdemakjphfcaaGreatDoor
open Go.RowKit Go.Shelf
set_option linter.unusedVariables false
theorem pl_code {ts : List Wlx.TV} {en c p : Int} (h : pl ts en = .inr (c, p)) : c ≠ 0 := by
  unfold pl at h
  split at h
  · cases h
  · simp only [Sum.inr.injEq, Prod.mk.injEq] at h; omega
theorem pc_code {ts : List Wlx.TV} {en c p : Int} (h : pc ts en = .inr (c, p)) : c ≠ 0 := by
  unfold pc at h
  repeat' split at h
  all_goals first | (simp only [Sum.inr.injEq, Prod.mk.injEq] at h; omega) | cases h
theorem pcs_code {s : ByteArray} {ts : List Wlx.TV} {en c p : Int} (h : pcs s ts en = .inr (c, p)) : c ≠ 0 := by
  unfold pcs at h
  cases h1 : pc ts en with
  | inr e => rw [h1] at h; simp only [Sum.inr.injEq] at h; rw [h] at h1; exact pc_code h1
  | inl q =>
    obtain ⟨a, r1⟩ := q
    rw [h1] at h
    simp only at h
    cases h2 : tk r1 [58] with
    | none => rw [h2] at h; cases h
    | some r2 =>
      rw [h2] at h
      simp only at h
      cases h3 : pc r2 en with
      | inr e => rw [h3] at h; simp only [Sum.inr.injEq] at h; rw [h] at h3; exact pc_code h3
      | inl q => rw [h3] at h; cases h
theorem more_code {sub : List Wlx.TV → PR} {N : Nat} (hsub : ∀ ts row r, sub ts = .inl (row, r) → r <:+ ts) (hcode : ∀ ts c p, ts.length ≤ N → sub ts = .inr (c, p) → c ≠ 0) (k : Int) : ∀ (n : Nat) (row : List Wt.Nd) (ts : List Wlx.TV) (c p : Int), ts.length ≤ N → more sub k n row ts = .inr (c, p) → c ≠ 0 := by
  intro n
  induction n with
  | zero => intro row ts c p hN h; cases h
  | succ n ih =>
    intro row ts c p hN h
    simp only [more] at h
    cases h1 : tkOp k ts with
    | none => rw [h1] at h; cases h
    | some q =>
      obtain ⟨o, r1⟩ := q
      rw [h1] at h
      simp only at h
      have s1 := (tkOp_suf h1).2
      cases h2 : sub r1 with
      | inr e => rw [h2] at h; simp only [Sum.inr.injEq] at h; rw [h] at h2; exact hcode _ _ _ (by omega) h2
      | inl q =>
        obtain ⟨row2, r2⟩ := q
        rw [h2] at h
        simp only at h
        have := (hsub _ _ _ h2).length_le
        exact ih _ _ _ _ (by omega) h
theorem argl_code {sub : List Wlx.TV → PR} {N : Nat} (hsub : ∀ ts row r, sub ts = .inl (row, r) → r <:+ ts) (hcode : ∀ ts c p, ts.length ≤ N → sub ts = .inr (c, p) → c ≠ 0) (en : Int) : ∀ (n c0 : Nat) (rows : List Wt.Nd) (ts : List Wlx.TV) (c p : Int), ts.length ≤ N → argl sub en n c0 rows ts = .inr (c, p) → c ≠ 0 := by
  intro n
  induction n with
  | zero => intro c0 rows ts c p hN h; simp only [argl, Sum.inr.injEq, Prod.mk.injEq] at h; omega
  | succ n ih =>
    intro c0 rows ts c p hN h
    simp only [argl] at h
    cases h1 : tk ts [41] with
    | some q => rw [h1] at h; cases h
    | none =>
      rw [h1] at h
      simp only at h
      split at h
      · simp only [Sum.inr.injEq, Prod.mk.injEq] at h; omega
      · cases h2 : tk ts [44] with
        | none => rw [h2] at h; simp only [Sum.inr.injEq, Prod.mk.injEq] at h; omega
        | some r1 =>
          rw [h2] at h
          simp only at h
          have s1 := (tk_suf h2).2
          cases h3 : sub r1 with
          | inr e => rw [h3] at h; simp only [Sum.inr.injEq] at h; rw [h] at h3; exact hcode _ _ _ (by omega) h3
          | inl q =>
            obtain ⟨row, r2⟩ := q
            rw [h3] at h
            simp only at h
            have := (hsub _ _ _ h3).length_le
            exact ih _ _ _ _ _ (by omega) h
theorem pargs_code {sub : List Wlx.TV → PR} {N : Nat} (hsub : ∀ ts row r, sub ts = .inl (row, r) → r <:+ ts) (hcode : ∀ ts c p, ts.length ≤ N → sub ts = .inr (c, p) → c ≠ 0) (en : Int) (nm : List UInt8) (ts : List Wlx.TV) (c p : Int) (hN : ts.length ≤ N) (h : pargs sub en nm ts = .inr (c, p)) : c ≠ 0 := by
  unfold pargs at h
  cases h1 : tk ts [41] with
  | some q => rw [h1] at h; cases h
  | none =>
    rw [h1] at h
    simp only at h
    cases h2 : sub ts with
    | inr e => rw [h2] at h; simp only [Sum.inr.injEq] at h; rw [h] at h2; exact hcode _ _ _ hN h2
    | inl q =>
      obtain ⟨row1, r1⟩ := q
      rw [h2] at h
      simp only at h
      have := (hsub _ _ _ h2).length_le
      cases h3 : argl sub en (r1.length + 1) 1 row1 r1 with
      | inr e => rw [h3] at h; simp only [Sum.inr.injEq] at h; rw [h] at h3; exact argl_code hsub hcode en _ _ _ _ _ _ (by omega) h3
      | inl q => rw [h3] at h; cases h
theorem pword_code {sub : List Wlx.TV → PR} {N : Nat} (hsub : ∀ ts row r, sub ts = .inl (row, r) → r <:+ ts) (hcode : ∀ ts c p, ts.length ≤ N → sub ts = .inr (c, p) → c ≠ 0) (en : Int) (ts : List Wlx.TV) (c p : Int) (hN : ts.length ≤ N + 2) (h : pword sub en ts = .inr (c, p)) : c ≠ 0 := by
  unfold pword at h
  split at h
  · split at h
    · exact pargs_code hsub hcode en _ _ _ _ (by rw [List.length_drop]; omega) h
    · simp only [Sum.inr.injEq, Prod.mk.injEq] at h; omega
  split at h
  · split at h
    · exact pcs_code h
    · simp only [Sum.inr.injEq, Prod.mk.injEq] at h; omega
  split at h
  · cases h
  split at h
  · cases h
  · exact pcs_code h
theorem pbrack_code {sub : List Wlx.TV → PR} {N : Nat}  (hcode : ∀ ts c p, ts.length ≤ N → sub ts = .inr (c, p) → c ≠ 0) (en : Int) (ts : List Wlx.TV) (c p : Int) (hN : ts.length ≤ N + 1) (h : pbrack sub en ts = .inr (c, p)) : c ≠ 0 := by
  unfold pbrack at h
  cases h1 : tk ts [40] with
  | none => rw [h1] at h; simp only [Sum.inr.injEq, Prod.mk.injEq] at h; omega
  | some r1 =>
    rw [h1] at h
    simp only at h
    have s1 := (tk_suf h1).2
    cases h2 : sub r1 with
    | inr e => rw [h2] at h; simp only [Sum.inr.injEq] at h; rw [h] at h2; exact hcode _ _ _ (by omega) h2
    | inl q =>
      obtain ⟨row2, r2⟩ := q
      rw [h2] at h
      simp only at h
      cases h3 : tk r2 [41] with
      | none => rw [h3] at h; simp only [Sum.inr.injEq, Prod.mk.injEq] at h; omega
      | some r3 => rw [h3] at h; cases h
theorem pct_code : ∀ (n : Nat) (row : List Wt.Nd) (ts : List Wlx.TV) (c p : Int), pct n row ts = .inr (c, p) → False := by
  intro n
  induction n with
  | zero => intro row ts c p h; cases h
  | succ n ih =>
    intro row ts c p h
    simp only [pct] at h
    cases h1 : tkOp 6 ts with
    | none => rw [h1] at h; cases h
    | some q => obtain ⟨o, r1⟩ := q; rw [h1] at h; simp only at h; exact ih _ _ _ _ h
theorem lv_code (en : Int) : ∀ (f k : Nat) (ts : List Wlx.TV) (c p : Int), k ≤ 7 → (if k < 5 then 10 * ts.length + 9 - k else if k = 5 then 10 * ts.length + 4 else if k = 6 then 10 * ts.length + 3 else 10 * ts.length + 2) ≤ f → lv en f k ts = .inr (c, p) → c ≠ 0 := by
  intro f
  induction f with
  | zero => intro k ts c p hk hf h; repeat' split at hf
            all_goals omega
  | succ f ih =>
    intro k ts c p hk hf h
    by_cases h5 : k < 5
    · rw [if_pos h5] at hf
      rw [lv_bt _ _ _ h5] at h
      unfold pbt at h
      have hs : ∀ us c p, us.length ≤ ts.length → lv en f (k + 1) us = .inr (c, p) → c ≠ 0 := by
        intro us c p hu hh
        refine ih (k + 1) us c p (by omega) ?_ hh
        split
        · omega
        · rw [if_pos (by omega)]; omega
      cases h1 : lv en f (k + 1) ts with
      | inr e => rw [h1] at h; simp only [Sum.inr.injEq] at h; rw [h] at h1; exact hs _ _ _ (Nat.le_refl _) h1
      | inl q =>
        obtain ⟨row1, r1⟩ := q
        rw [h1] at h
        simp only at h
        have := (lv_suf en _ _ _ _ _ h1).length_le
        exact more_code (N := ts.length) (lv_suf en f (k + 1)) hs _ _ _ _ _ _ (by omega) h
    rw [if_neg h5] at hf
    by_cases e5 : k = 5
    · subst e5
      rw [if_pos rfl] at hf
      rw [lv_sg] at h
      unfold psg at h
      cases h1 : tkOp 5 ts with
      | none => rw [h1] at h; exact ih 6 ts c p (by omega) (by simp; omega) h
      | some q =>
        obtain ⟨o, r1⟩ := q
        rw [h1] at h
        simp only at h
        have s1 := (tkOp_suf h1).2
        cases h2 : lv en f 5 r1 with
        | inr e => rw [h2] at h; simp only [Sum.inr.injEq] at h; rw [h] at h2; exact ih 5 r1 c p (by omega) (by simp; omega) h2
        | inl q => rw [h2] at h; cases h
    rw [if_neg e5] at hf
    by_cases e6 : k = 6
    · subst e6
      rw [if_pos rfl] at hf
      rw [lv_pc] at h
      unfold ppc at h
      cases h1 : lv en f 7 ts with
      | inr e => rw [h1] at h; simp only [Sum.inr.injEq] at h; rw [h] at h1; exact ih 7 ts c p (by omega) (by simp; omega) h1
      | inl q => obtain ⟨row1, r1⟩ := q; rw [h1] at h; simp only at h; exact (pct_code _ _ _ _ _ h).elim
    rw [if_neg e6] at hf
    obtain rfl : k = 7 := by omega
    rw [lv_si] at h
    unfold psi at h
    split at h
    · rename_i h3
      cases ts with
      | nil => exact absurd h3 (by rw [hd_nil]; decide)
      | cons t q =>
        simp only [List.length_cons] at hf
        refine pword_code (N := q.length) (lv_suf en f 0) (fun us c p hu hh => ih 0 us c p (by omega) (by simp; omega) hh) en _ _ _ (by simp only [List.length_cons]; omega) h
    split at h
    · cases ts with
      | nil => rename_i h3; exact absurd h3 (by rw [hd_nil]; decide)
      | cons t q =>
        simp only [List.length_cons] at hf
        refine pbrack_code (N := q.length) (fun us c p hu hh => ih 0 us c p (by omega) (by simp; omega) hh) en _ _ _ (by simp only [List.length_cons]; omega) h
    · exact pl_code h
theorem prsR_code {l : List UInt8} {c p : Int} (h : prsR l = .inr (c, p)) : c ≠ 0 := by
  unfold prsR at h
  cases hr : scanAll l with
  | inr q =>
    obtain ⟨c', p'⟩ := q
    rw [hr] at h
    simp only [Sum.inr.injEq, Prod.mk.injEq] at h
    have := scan_code hr
    omega
  | inl ts =>
    rw [hr] at h
    simp only at h
    unfold prsT at h
    cases hp : pall (lv (l.length : Int) (10 * (ts.map Wlx.tv).length + 9) 0) (l.length : Int) (ts.map Wlx.tv) with
    | inr q =>
      rw [hp] at h
      simp only [Sum.inr.injEq] at h
      subst h
      unfold pall at hp
      split at hp
      · rename_i e he
        simp only [Sum.inr.injEq] at hp
        subst hp
        exact lv_code _ _ 0 _ _ _ (by omega) (by simp) he
      · cases hp
      · simp only [Sum.inr.injEq, Prod.mk.injEq] at hp; omega
    | inl q =>
      obtain ⟨row, rr⟩ := q
      rw [hp] at h
      simp only at h
      split at h
      · cases h
      · rename_i hc
        simp only [Sum.inr.injEq, Prod.mk.injEq] at h
        omega
theorem prsR_row {l : List UInt8} {row : List Wt.Nd} (h : prsR l = .inl row) : (∀ x ∈ row, Wt.FitN x) ∧ Wt.check row = 0 := by
  unfold prsR at h
  cases hr : scanAll l with
  | inr q =>
    obtain ⟨c', p'⟩ := q
    rw [hr] at h; cases h
  | inl ts =>
    rw [hr] at h
    simp only at h
    have hok : ∀ t ∈ ts.map Wlx.tv, TokOk t := by
      unfold scanAll at hr
      split at hr
      · cases hr
      · exact (scan_ok _ 0 l (Nat.le_refl _) (by omega) ts hr).2
    unfold prsT at h
    cases hp : pall (lv (l.length : Int) (10 * (ts.map Wlx.tv).length + 9) 0) (l.length : Int) (ts.map Wlx.tv) with
    | inr q => rw [hp] at h; cases h
    | inl q =>
      obtain ⟨row', rr⟩ := q
      rw [hp] at h
      simp only at h
      split at h
      · rename_i hc
        simp only [Sum.inl.injEq] at h
        subst h
        refine ⟨?_, hc⟩
        unfold pall at hp
        split at hp
        · cases hp
        · rename_i row'' he
          simp only [Sum.inl.injEq, Prod.mk.injEq] at hp
          rw [← hp.1]
          exact (lv_fit _ _ _ _ _ _ hok he).1
        · cases hp
      · cases h
def kt (t : Wlx.TV) : Int × List UInt8 := (t.k, t.t)
def Same (us ts : List Wlx.TV) : Prop := us.map kt = ts.map kt
def Cl (tl : List Wlx.TV) : Prop := tl = [] ∨ ∃ c q, tl = c :: q ∧ c.k = 5 ∧ (c.t = [41] ∨ c.t = [44])
theorem Same.len {us ts : List Wlx.TV} (h : Same us ts) : us.length = ts.length := by
  have := congrArg List.length h
  simpa using this
theorem Same.cons {us : List Wlx.TV} {t : Wlx.TV} {r : List Wlx.TV} (h : Same us (t :: r)) : ∃ u q, us = u :: q ∧ u.k = t.k ∧ u.t = t.t ∧ Same q r := by
  cases us with
  | nil => simp [Same] at h
  | cons u q =>
    simp only [Same, List.map_cons, List.cons.injEq, kt, Prod.mk.injEq] at h
    exact ⟨u, q, rfl, h.1.1, h.1.2, h.2⟩
theorem Same.nil {us : List Wlx.TV} (h : Same us []) : us = [] := by
  cases us with
  | nil => rfl
  | cons u q => simp [Same] at h
theorem Same.drop {us ts : List Wlx.TV} (h : Same us ts) (n : Nat) : Same (us.drop n) (ts.drop n) := by
  unfold Same at *
  rw [List.map_drop, List.map_drop, h]
theorem isMk_same {u t : Wlx.TV} (hk : u.k = t.k) (ht : u.t = t.t) (m : List UInt8) : isMk u m = isMk t m := by unfold isMk; rw [hk, ht]
theorem tk_ext {us ts tl : List Wlx.TV} {m : List UInt8} {r : List Wlx.TV} (hs : Same us ts) (h : tk ts m = some r) : ∃ r', tk (us ++ tl) m = some (r' ++ tl) ∧ Same r' r := by
  cases ts with
  | nil => cases h
  | cons t q =>
    obtain ⟨u, q', rfl, hk, ht, hq⟩ := hs.cons
    simp only [tk, List.cons_append, isMk_same hk ht] at h ⊢
    split at h
    · rename_i hm
      obtain rfl := Option.some.inj h
      exact ⟨q', by rw [if_pos hm], hq⟩
    · cases h
theorem tk_none {us ts tl : List Wlx.TV} {m : List UInt8} (hs : Same us ts) (hc : Cl tl) (hm : (m ≠ [41] ∧ m ≠ [44]) ∨ ts ≠ []) (h : tk ts m = none) : tk (us ++ tl) m = none := by
  cases ts with
  | nil =>
    rw [hs.nil, List.nil_append]
    rcases hc with rfl | ⟨c, q, rfl, h1, h2⟩
    · rfl
    · rcases hm with hm | hm
      · have : (c.t == m) = false := by
          rcases h2 with h2 | h2
          · rw [h2]; simp; exact fun e => hm.1 e.symm
          · rw [h2]; simp; exact fun e => hm.2 e.symm
        simp only [tk, isMk, h1, this]
        simp
      · exact absurd rfl hm
  | cons t q =>
    obtain ⟨u, q', rfl, hk, ht, hq⟩ := hs.cons
    simp only [tk, List.cons_append, isMk_same hk ht] at h ⊢
    split at h
    · cases h
    · rename_i hm'; rw [if_neg hm']
theorem opAs_41 (k : Int) : Wt.opAs [41] k = none := by
  unfold Wt.opAs
  rw [List.find?_eq_none]
  intro x hx
  simp only [Wt.opsT, List.mem_cons, List.not_mem_nil, or_false] at hx
  rcases hx with rfl | rfl | rfl | rfl | rfl | rfl | rfl | rfl | rfl | rfl | rfl | rfl | rfl | rfl | rfl <;> simp
theorem opAs_44 (k : Int) : Wt.opAs [44] k = none := by
  unfold Wt.opAs
  rw [List.find?_eq_none]
  intro x hx
  simp only [Wt.opsT, List.mem_cons, List.not_mem_nil, or_false] at hx
  rcases hx with rfl | rfl | rfl | rfl | rfl | rfl | rfl | rfl | rfl | rfl | rfl | rfl | rfl | rfl | rfl <;> simp
theorem tkOp_ext {us ts tl : List Wlx.TV} {k : Int} {o : Int × List UInt8 × Int} {r : List Wlx.TV} (hs : Same us ts) (h : tkOp k ts = some (o, r)) : ∃ r', tkOp k (us ++ tl) = some (o, r' ++ tl) ∧ Same r' r := by
  cases ts with
  | nil => cases h
  | cons t q =>
    obtain ⟨u, q', rfl, hk, ht, hq⟩ := hs.cons
    simp only [tkOp, List.cons_append, hk, ht] at h ⊢
    split at h
    · rename_i h5
      rw [if_pos h5]
      cases ha : Wt.opAs t.t k with
      | none => rw [ha] at h; cases h
      | some x =>
        rw [ha] at h
        simp only [Option.map_some, Option.some.injEq, Prod.mk.injEq] at h
        exact ⟨q', by simp [h.1], by rw [← h.2]; exact hq⟩
    · cases h
theorem tkOp_none {us ts tl : List Wlx.TV} {k : Int} (hs : Same us ts) (hc : Cl tl) (h : tkOp k ts = none) : tkOp k (us ++ tl) = none := by
  cases ts with
  | nil =>
    rw [hs.nil, List.nil_append]
    rcases hc with rfl | ⟨c, q, rfl, h1, h2⟩
    · rfl
    · rcases h2 with h2 | h2
      · simp only [tkOp, h1, h2, opAs_41]; simp
      · simp only [tkOp, h1, h2, opAs_44]; simp
  | cons t q =>
    obtain ⟨u, q', rfl, hk, ht, hq⟩ := hs.cons
    simp only [tkOp, List.cons_append, hk, ht] at h ⊢
    split at h
    · rename_i h5
      rw [if_pos h5]
      cases ha : Wt.opAs t.t k with
      | none => rfl
      | some x => rw [ha] at h; cases h
    · rename_i h5; rw [if_neg h5]
theorem hd_ext {us ts tl : List Wlx.TV} (en en' : Int) (hs : Same us ts) (h : ts ≠ []) : (hd (us ++ tl) en').k = (hd ts en).k ∧ (hd (us ++ tl) en').t = (hd ts en).t := by
  cases ts with
  | nil => exact absurd rfl h
  | cons t q =>
    obtain ⟨u, q', rfl, hk, ht, hq⟩ := hs.cons
    exact ⟨hk, ht⟩
theorem fol_ext {us ts tl : List Wlx.TV} {m : List UInt8} (hs : Same us ts) (hc : Cl tl) (hm : m ≠ [41] ∧ m ≠ [44]) (h : ts ≠ []) : fol (us ++ tl) m = fol ts m := by
  cases ts with
  | nil => exact absurd rfl h
  | cons t q =>
    obtain ⟨u, q', rfl, hk, ht, hq⟩ := hs.cons
    cases q with
    | nil =>
      rw [hq.nil, List.cons_append, List.nil_append]
      rcases hc with rfl | ⟨c, q, rfl, h1, h2⟩
      · rfl
      · have : (c.t == m) = false := by
          rcases h2 with h2 | h2
          · rw [h2]; simp; exact fun e => hm.1 e.symm
          · rw [h2]; simp; exact fun e => hm.2 e.symm
        simp only [fol, isMk, h1, this]
        simp
    | cons t2 q2 =>
      obtain ⟨u2, q2', rfl, hk2, ht2, hq2⟩ := hq.cons
      simp only [List.cons_append, fol, isMk_same hk2 ht2]
theorem more_not' {sub : List Wlx.TV → PR} {k : Int} {n : Nat} {row : List Wt.Nd} {ts : List Wlx.TV} (h : tkOp k ts = none) : more sub k n row ts = .inl (row, ts) := by
  cases n with
  | zero => rfl
  | succ n => simp only [more, h]
def Ext (sub sub' : List Wlx.TV → PR) : Prop := ∀ ts row r, sub ts = .inl (row, r) → ∀ us tl, Same us ts → Cl tl → ∃ r', sub' (us ++ tl) = .inl (row, r' ++ tl) ∧ Same r' r
theorem more_ext {sub sub' : List Wlx.TV → PR} (hsub : ∀ ts row r, sub ts = .inl (row, r) → r <:+ ts) (hx : Ext sub sub') (k : Int) : ∀ (n n' : Nat) (row : List Wt.Nd) (ts : List Wlx.TV) (row' : List Wt.Nd) (r us tl : List Wlx.TV), n ≤ n' → ts.length ≤ n → more sub k n row ts = .inl (row', r) → Same us ts → Cl tl → ∃ r', more sub' k n' row (us ++ tl) = .inl (row', r' ++ tl) ∧ Same r' r := by
  intro n
  induction n with
  | zero =>
    intro n' row ts row' r us tl hn hl h hs hc
    simp only [more, Sum.inl.injEq, Prod.mk.injEq] at h
    obtain ⟨rfl, rfl⟩ := h
    have he : ts = [] := List.eq_nil_of_length_eq_zero (by omega)
    subst he
    exact ⟨us, more_not' (tkOp_none hs hc rfl), hs⟩
  | succ n ih =>
    intro n' row ts row' r us tl hn hl h hs hc
    obtain ⟨n', rfl⟩ : ∃ q, n' = q + 1 := ⟨n' - 1, by omega⟩
    simp only [more] at h ⊢
    cases h1 : tkOp k ts with
    | none =>
      rw [h1] at h
      simp only [Sum.inl.injEq, Prod.mk.injEq] at h
      obtain ⟨rfl, rfl⟩ := h
      rw [tkOp_none hs hc h1]
      exact ⟨us, rfl, hs⟩
    | some q =>
      obtain ⟨o, r1⟩ := q
      rw [h1] at h
      simp only at h
      obtain ⟨r1', e1, s1⟩ := tkOp_ext (tl := tl) hs h1
      rw [e1]
      simp only
      cases h2 : sub r1 with
      | inr e => rw [h2] at h; cases h
      | inl q =>
        obtain ⟨row2, r2⟩ := q
        rw [h2] at h
        simp only at h
        obtain ⟨r2', e2, s2⟩ := hx _ _ _ h2 r1' tl s1 hc
        rw [e2]
        simp only
        have l1 := (tkOp_suf h1).2
        have l2 := (hsub _ _ _ h2).length_le
        exact ih n' _ _ _ _ _ _ (by omega) (by omega) h s2 hc
theorem pct_ext : ∀ (n n' : Nat) (row : List Wt.Nd) (ts : List Wlx.TV) (row' : List Wt.Nd) (r us tl : List Wlx.TV), n ≤ n' → ts.length ≤ n → pct n row ts = .inl (row', r) → Same us ts → Cl tl → ∃ r', pct n' row (us ++ tl) = .inl (row', r' ++ tl) ∧ Same r' r := by
  have hnot : ∀ {n : Nat} {row : List Wt.Nd} {ts : List Wlx.TV}, tkOp 6 ts = none → pct n row ts = .inl (row, ts) := by
    intro n row ts h
    cases n with
    | zero => rfl
    | succ n => simp only [pct, h]
  intro n
  induction n with
  | zero =>
    intro n' row ts row' r us tl hn hl h hs hc
    simp only [pct, Sum.inl.injEq, Prod.mk.injEq] at h
    obtain ⟨rfl, rfl⟩ := h
    have he : ts = [] := List.eq_nil_of_length_eq_zero (by omega)
    subst he
    exact ⟨us, hnot (tkOp_none hs hc rfl), hs⟩
  | succ n ih =>
    intro n' row ts row' r us tl hn hl h hs hc
    obtain ⟨n', rfl⟩ : ∃ q, n' = q + 1 := ⟨n' - 1, by omega⟩
    simp only [pct] at h ⊢
    cases h1 : tkOp 6 ts with
    | none =>
      rw [h1] at h
      simp only [Sum.inl.injEq, Prod.mk.injEq] at h
      obtain ⟨rfl, rfl⟩ := h
      rw [tkOp_none hs hc h1]
      exact ⟨us, rfl, hs⟩
    | some q =>
      obtain ⟨o, r1⟩ := q
      rw [h1] at h
      simp only at h
      obtain ⟨r1', e1, s1⟩ := tkOp_ext (tl := tl) hs h1
      rw [e1]
      simp only
      have l1 := (tkOp_suf h1).2
      exact ih n' _ _ _ _ _ _ (by omega) (by omega) h s1 hc
theorem litV_same {u t : Wlx.TV} (hk : u.k = t.k) (ht : u.t = t.t) : litV u = litV t := by unfold litV; rw [hk, ht]
theorem pl_ext (en en' : Int) : Ext (fun ts => pl ts en) (fun ts => pl ts en') := by
  intro ts row r h us tl hs hc
  simp only [pl] at h ⊢
  split at h
  · rename_i v hv
    simp only [Sum.inl.injEq, Prod.mk.injEq] at h
    obtain ⟨q, hq⟩ := litV_cons hv
    obtain ⟨hk, ht⟩ := hd_ext (tl := tl) en en' hs (by rw [hq]; simp)
    rw [litV_same hk ht, hv]
    rw [hq] at hs h
    obtain ⟨u, q', rfl, _, _, hq'⟩ := hs.cons
    exact ⟨q', by simp [h.1], by rw [← h.2]; exact hq'⟩
  · cases h
theorem pc_ext (en en' : Int) {ts : List Wlx.TV} {a : Wt.Rf} {r : List Wlx.TV} (h : pc ts en = .inl (a, r)) {us tl : List Wlx.TV} (hs : Same us ts) (hc : Cl tl) : ∃ r', pc (us ++ tl) en' = .inl (a, r' ++ tl) ∧ Same r' r := by
  have hne : ts ≠ [] := by
    rintro rfl
    unfold pc at h
    rw [if_neg (by rw [hd_nil]; decide)] at h
    cases h
  obtain ⟨hk, ht⟩ := hd_ext (tl := tl) en en' hs hne
  have hr := pc_rest h
  unfold pc at h ⊢
  rw [hk, ht, fol_ext hs hc ⟨by decide, by decide⟩ hne, fol_ext hs hc ⟨by decide, by decide⟩ hne]
  split at h
  · rename_i h3
    rw [if_pos h3]
    split at h
    · cases h
    rename_i f1
    rw [if_neg f1]
    split at h
    · cases h
    rename_i f2
    rw [if_neg f2]
    split at h
    · rename_i a' ha
      simp only [Sum.inl.injEq, Prod.mk.injEq] at h
      try rw [ha]
      cases ts with
      | nil => exact absurd rfl hne
      | cons t q =>
        obtain ⟨u, q', rfl, _, _, hq'⟩ := hs.cons
        exact ⟨q', by simp [h.1], by rw [hr]; exact hq'⟩
    · cases h
  · cases h
theorem pcs_ext (s : ByteArray) (en en' : Int) : Ext (fun ts => pcs s ts en) (fun ts => pcs s ts en') := by
  intro ts row r h us tl hs hc
  simp only [pcs] at h ⊢
  cases h1 : pc ts en with
  | inr e => rw [h1] at h; cases h
  | inl q =>
    obtain ⟨a, r1⟩ := q
    rw [h1] at h
    simp only at h
    obtain ⟨r1', e1, s1⟩ := pc_ext en en' h1 hs hc
    rw [e1]
    simp only
    cases h2 : tk r1 [58] with
    | none =>
      rw [h2] at h
      simp only [Sum.inl.injEq, Prod.mk.injEq] at h
      rw [tk_none s1 hc (Or.inl ⟨by decide, by decide⟩) h2]
      exact ⟨r1', by simp [h.1], by rw [← h.2]; exact s1⟩
    | some r2 =>
      rw [h2] at h
      simp only at h
      obtain ⟨r2', e2, s2⟩ := tk_ext (tl := tl) s1 h2
      rw [e2]
      simp only
      cases h3 : pc r2 en with
      | inr e => rw [h3] at h; cases h
      | inl q =>
        obtain ⟨b, r3⟩ := q
        rw [h3] at h
        simp only [Sum.inl.injEq, Prod.mk.injEq] at h
        obtain ⟨r3', e3, s3⟩ := pc_ext en en' h3 s2 hc
        rw [e3]
        exact ⟨r3', by simp [h.1], by rw [← h.2]; exact s3⟩
theorem argl_ext {sub sub' : List Wlx.TV → PR} (hsub : ∀ ts row r, sub ts = .inl (row, r) → r <:+ ts) (hx : Ext sub sub') (en en' : Int) : ∀ (n n' c : Nat) (rows : List Wt.Nd) (ts : List Wlx.TV) (c' : Nat) (rows' : List Wt.Nd) (r us tl : List Wlx.TV), n ≤ n' → argl sub en n c rows ts = .inl (c', rows', r) → Same us ts → Cl tl → ∃ r', argl sub' en' n' c rows (us ++ tl) = .inl (c', rows', r' ++ tl) ∧ Same r' r := by
  intro n
  induction n with
  | zero => intro n' c rows ts c' rows' r us tl _ h; cases h
  | succ n ih =>
    intro n' c rows ts c' rows' r us tl hn h hs hc
    obtain ⟨n', rfl⟩ : ∃ q, n' = q + 1 := ⟨n' - 1, by omega⟩
    simp only [argl] at h ⊢
    cases h1 : tk ts [41] with
    | some q =>
      rw [h1] at h
      simp only [Sum.inl.injEq, Prod.mk.injEq] at h
      obtain ⟨rfl, rfl, rfl⟩ := h
      obtain ⟨r', e, s⟩ := tk_ext (tl := tl) hs h1
      rw [e]
      exact ⟨r', rfl, s⟩
    | none =>
      rw [h1] at h
      simp only at h
      have hne : ts ≠ [] := by
        rintro rfl
        split at h
        · cases h
        · simp only [tk] at h; cases h
      rw [tk_none hs hc (Or.inr hne) h1]
      simp only
      obtain ⟨hk, ht⟩ := hd_ext (tl := tl) en en' hs hne
      rw [isMk_same hk ht]
      split at h
      · cases h
      · rename_i hif
        rw [if_neg hif]
        cases h2 : tk ts [44] with
        | none => rw [h2] at h; cases h
        | some r1 =>
          rw [h2] at h
          simp only at h
          obtain ⟨r1', e1, s1⟩ := tk_ext (tl := tl) hs h2
          rw [e1]
          simp only
          cases h3 : sub r1 with
          | inr e => rw [h3] at h; cases h
          | inl q =>
            obtain ⟨row, r2⟩ := q
            rw [h3] at h
            simp only at h
            obtain ⟨r2', e2, s2⟩ := hx _ _ _ h3 r1' tl s1 hc
            rw [e2]
            simp only
            exact ih n' _ _ _ _ _ _ _ _ (by omega) h s2 hc
theorem pargs_ext {sub sub' : List Wlx.TV → PR} (hsub : ∀ ts row r, sub ts = .inl (row, r) → r <:+ ts) (hx : Ext sub sub') (en en' : Int) (nm : List UInt8) : Ext (pargs sub en nm) (pargs sub' en' nm) := by
  intro ts row r h us tl hs hc
  unfold pargs at h ⊢
  cases h1 : tk ts [41] with
  | some q =>
    rw [h1] at h
    simp only [Sum.inl.injEq, Prod.mk.injEq] at h
    obtain ⟨rfl, rfl⟩ := h
    obtain ⟨r', e, s⟩ := tk_ext (tl := tl) hs h1
    rw [e]
    exact ⟨r', rfl, s⟩
  | none =>
    rw [h1] at h
    simp only at h
    cases h2 : sub ts with
    | inr e => rw [h2] at h; cases h
    | inl q =>
      obtain ⟨row1, r1⟩ := q
      rw [h2] at h
      simp only at h
      obtain ⟨r1', e1, s1⟩ := hx _ _ _ h2 us tl hs hc
      cases h3 : argl sub en (r1.length + 1) 1 row1 r1 with
      | inr e => rw [h3] at h; cases h
      | inl q =>
        obtain ⟨c, rows, r2⟩ := q
        rw [h3] at h
        simp only [Sum.inl.injEq, Prod.mk.injEq] at h
        obtain ⟨rfl, rfl⟩ := h
        have hne : ts ≠ [] := by
          rintro rfl
          have hl := (hsub _ _ _ h2).length_le
          have : r1 = [] := List.eq_nil_of_length_eq_zero (by simpa using hl)
          subst this
          simp only [argl, tk] at h3
          split at h3 <;> cases h3
        rw [tk_none hs hc (Or.inr hne) h1]
        simp only
        rw [e1]
        simp only
        obtain ⟨r2', e2, s2⟩ := argl_ext hsub hx en en' (r1.length + 1) ((r1' ++ tl).length + 1) 1 row1 r1 c rows _ r1' tl (by have := s1.len; rw [List.length_append]; omega) h3 s1 hc
        rw [e2]
        exact ⟨r2', rfl, s2⟩
theorem pbrack_ext {sub sub' : List Wlx.TV → PR} (hx : Ext sub sub') (en en' : Int) : Ext (pbrack sub en) (pbrack sub' en') := by
  intro ts row r h us tl hs hc
  unfold pbrack at h ⊢
  cases h1 : tk ts [40] with
  | none => rw [h1] at h; cases h
  | some r1 =>
    rw [h1] at h
    simp only at h
    obtain ⟨r1', e1, s1⟩ := tk_ext (tl := tl) hs h1
    rw [e1]
    simp only
    cases h2 : sub r1 with
    | inr e => rw [h2] at h; cases h
    | inl q =>
      obtain ⟨row2, r2⟩ := q
      rw [h2] at h
      simp only at h
      obtain ⟨r2', e2, s2⟩ := hx _ _ _ h2 r1' tl s1 hc
      rw [e2]
      simp only
      cases h3 : tk r2 [41] with
      | none => rw [h3] at h; cases h
      | some r3 =>
        rw [h3] at h
        simp only [Sum.inl.injEq, Prod.mk.injEq] at h
        obtain ⟨rfl, rfl⟩ := h
        obtain ⟨r3', e3, s3⟩ := tk_ext (tl := tl) s2 h3
        rw [e3]
        exact ⟨r3', rfl, s3⟩
theorem pword_ext {sub sub' : List Wlx.TV → PR} (hsub : ∀ ts row r, sub ts = .inl (row, r) → r <:+ ts) (hx : Ext sub sub') (en en' : Int) {ts : List Wlx.TV} {row : List Wt.Nd} {r : List Wlx.TV} (h : pword sub en ts = .inl (row, r)) {us tl : List Wlx.TV} (hs : Same us ts) (hc : Cl tl) (hne : ts ≠ []) :
    ∃ r', pword sub' en' (us ++ tl) = .inl (row, r' ++ tl) ∧ Same r' r := by
  obtain ⟨hk, ht⟩ := hd_ext (tl := tl) en en' hs hne
  unfold pword at h ⊢
  rw [ht, fol_ext hs hc ⟨by decide, by decide⟩ hne, fol_ext hs hc ⟨by decide, by decide⟩ hne]
  have hdrop : ∀ n, fol ts [40] = true ∨ fol ts [33] = true → n = 2 → (us ++ tl).drop n = us.drop n ++ tl := by
    intro n hf hn
    subst hn
    have hl : 2 ≤ ts.length := by
      match ts, hf with
      | [], hf => simp [fol] at hf
      | [t], hf => simp [fol] at hf
      | _ :: _ :: _, _ => simp
    rw [List.drop_append_of_le_length (by rw [hs.len]; exact hl)]
  split at h
  · rename_i f1
    rw [if_pos f1]
    split at h
    · rename_i g1
      rw [if_pos g1, hdrop 2 (Or.inl f1) rfl]
      exact pargs_ext hsub hx en en' _ _ _ _ h _ _ (hs.drop 2) hc
    · cases h
  rename_i f1
  rw [if_neg f1]
  split at h
  · rename_i f2
    rw [if_pos f2]
    split at h
    · rename_i g1
      rw [if_pos g1, hdrop 2 (Or.inr f2) rfl]
      exact pcs_ext _ en en' _ _ _ h _ _ (hs.drop 2) hc
    · cases h
  rename_i f2
  rw [if_neg f2]
  have hd1 : (us ++ tl).drop 1 = us.drop 1 ++ tl := by
    rw [List.drop_append_of_le_length (by rw [hs.len]; exact List.length_pos_iff.2 hne)]
  split at h
  · rename_i f3
    simp only [Sum.inl.injEq, Prod.mk.injEq] at h
    rw [if_pos f3, hd1]
    exact ⟨us.drop 1, by rw [h.1], by rw [← h.2]; exact hs.drop 1⟩
  rename_i f3
  rw [if_neg f3]
  split at h
  · rename_i f4
    simp only [Sum.inl.injEq, Prod.mk.injEq] at h
    rw [if_pos f4, hd1]
    exact ⟨us.drop 1, by rw [h.1], by rw [← h.2]; exact hs.drop 1⟩
  rename_i f4
  rw [if_neg f4]
  exact pcs_ext _ en en' _ _ _ h _ _ hs hc
theorem lv_ext (en en' : Int) : ∀ (f f' : Nat), f ≤ f' → ∀ k, Ext (lv en f k) (lv en' f' k) := by
  intro f
  induction f with
  | zero => intro f' _ k ts row r h; cases h
  | succ f ih =>
    intro f' hf k ts row r h us tl hs hc
    obtain ⟨f', rfl⟩ : ∃ q, f' = q + 1 := ⟨f' - 1, by omega⟩
    have ih := ih f' (by omega)
    by_cases h5 : k < 5
    · rw [lv_bt _ _ _ h5] at h ⊢
      unfold pbt at h ⊢
      cases h1 : lv en f (k + 1) ts with
      | inr e => rw [h1] at h; cases h
      | inl q =>
        obtain ⟨row1, r1⟩ := q
        rw [h1] at h
        simp only at h
        obtain ⟨r1', e1, s1⟩ := ih (k + 1) _ _ _ h1 us tl hs hc
        rw [e1]
        simp only
        exact more_ext (lv_suf en f (k + 1)) (ih (k + 1)) k _ _ _ _ _ _ _ _ (by have := s1.len; rw [List.length_append]; omega) (Nat.le_refl _) h s1 hc
    by_cases e5 : k = 5
    · subst e5
      rw [lv_sg] at h ⊢
      unfold psg at h ⊢
      cases h1 : tkOp 5 ts with
      | none =>
        rw [h1] at h
        rw [tkOp_none hs hc h1]
        exact ih 6 _ _ _ h us tl hs hc
      | some q =>
        obtain ⟨o, r1⟩ := q
        rw [h1] at h
        simp only at h
        obtain ⟨r1', e1, s1⟩ := tkOp_ext (tl := tl) hs h1
        rw [e1]
        simp only
        cases h2 : lv en f 5 r1 with
        | inr e => rw [h2] at h; cases h
        | inl q =>
          obtain ⟨row2, r2⟩ := q
          rw [h2] at h
          simp only [Sum.inl.injEq, Prod.mk.injEq] at h
          obtain ⟨rfl, rfl⟩ := h
          obtain ⟨r2', e2, s2⟩ := ih 5 _ _ _ h2 r1' tl s1 hc
          rw [e2]
          exact ⟨r2', rfl, s2⟩
    by_cases e6 : k = 6
    · subst e6
      rw [lv_pc] at h ⊢
      unfold ppc at h ⊢
      cases h1 : lv en f 7 ts with
      | inr e => rw [h1] at h; cases h
      | inl q =>
        obtain ⟨row1, r1⟩ := q
        rw [h1] at h
        simp only at h
        obtain ⟨r1', e1, s1⟩ := ih 7 _ _ _ h1 us tl hs hc
        rw [e1]
        simp only
        exact pct_ext _ _ _ _ _ _ _ _ (by have := s1.len; rw [List.length_append]; omega) (Nat.le_refl _) h s1 hc
    have hne : ts ≠ [] := by
      rintro rfl
      simp only [lv, if_neg h5, if_neg e5, if_neg e6] at h
      rw [if_neg (by rw [hd_nil]; decide), if_neg (by rw [hd_nil]; decide)] at h
      unfold pl at h
      simp [litV, hd] at h
    obtain ⟨hk, ht⟩ := hd_ext (tl := tl) en en' hs hne
    simp only [lv, if_neg h5, if_neg e5, if_neg e6] at h ⊢
    rw [hk]
    split at h
    · rename_i h3
      rw [if_pos h3]
      exact pword_ext (lv_suf en f 0) (ih 0) en en' h hs hc hne
    rename_i h3
    rw [if_neg h3]
    split at h
    · rename_i h4
      rw [if_pos h4]
      exact pbrack_ext (ih 0) en en' _ _ _ h _ _ hs hc
    rename_i h4
    rw [if_neg h4]
    exact pl_ext en en' _ _ _ h _ _ hs hc
end Go.Proofs.YtifdemakjphfcaaGreatDoor
