/- TParC. -/
import Derived.Test.YtjkchneffcppmabGreatDoorQ40
/- What Parse's answer can be. -/
namespace Go.Proofs.YtjkchneffcppmabGreatDoor
open Go.RowKit Go.Shelf
set_option linter.unusedVariables false

theorem pl_code {ts : List Wlx.TV} {en c p : Int} (h : pl ts en = .inr (c, p)) : c ≠ 0 := by
  unfold pl at h
  split at h
  · cases h
  · simp only [Sum.inr.injEq, Prod.mk.injEq] at h; omega
theorem pc_code {ts : List Wlx.TV} {en c p : Int} (h : pc ts en = .inr (c, p)) : c ≠ 0 := by
  unfold pc at h
  repeat' split at h
  all_goals first | (simp only [Sum.inr.injEq, Prod.mk.injEq] at h; omega) | cases h
theorem pcs_code {s : ByteArray} {ts : List Wlx.TV} {en c p : Int} (h : pcs s ts en = .inr (c, p)) : c ≠ 0 := by
  unfold pcs at h
  cases h1 : pc ts en with
  | inr e => rw [h1] at h; simp only [Sum.inr.injEq] at h; rw [h] at h1; exact pc_code h1
  | inl q =>
    obtain ⟨a, r1⟩ := q
    rw [h1] at h
    simp only at h
    cases h2 : tk r1 [58] with
    | none => rw [h2] at h; cases h
    | some r2 =>
      rw [h2] at h
      simp only at h
      cases h3 : pc r2 en with
      | inr e => rw [h3] at h; simp only [Sum.inr.injEq] at h; rw [h] at h3; exact pc_code h3
      | inl q => rw [h3] at h; cases h
theorem more_code {sub : List Wlx.TV → PR} {N : Nat} (hsub : ∀ ts row r, sub ts = .inl (row, r) → r <:+ ts) (hcode : ∀ ts c p, ts.length ≤ N → sub ts = .inr (c, p) → c ≠ 0) (k : Int) : ∀ (n : Nat) (row : List Wt.Nd) (ts : List Wlx.TV) (c p : Int), ts.length ≤ N → more sub k n row ts = .inr (c, p) → c ≠ 0 := by
  intro n
  induction n with
  | zero => intro row ts c p hN h; cases h
  | succ n ih =>
    intro row ts c p hN h
    simp only [more] at h
    cases h1 : tkOp k ts with
    | none => rw [h1] at h; cases h
    | some q =>
      obtain ⟨o, r1⟩ := q
      rw [h1] at h
      simp only at h
      have s1 := (tkOp_suf h1).2
      cases h2 : sub r1 with
      | inr e => rw [h2] at h; simp only [Sum.inr.injEq] at h; rw [h] at h2; exact hcode _ _ _ (by omega) h2
      | inl q =>
        obtain ⟨row2, r2⟩ := q
        rw [h2] at h
        simp only at h
        have := (hsub _ _ _ h2).length_le
        exact ih _ _ _ _ (by omega) h
theorem argl_code {sub : List Wlx.TV → PR} {N : Nat} (hsub : ∀ ts row r, sub ts = .inl (row, r) → r <:+ ts) (hcode : ∀ ts c p, ts.length ≤ N → sub ts = .inr (c, p) → c ≠ 0) (en : Int) : ∀ (n c0 : Nat) (rows : List Wt.Nd) (ts : List Wlx.TV) (c p : Int), ts.length ≤ N → argl sub en n c0 rows ts = .inr (c, p) → c ≠ 0 := by
  intro n
  induction n with
  | zero => intro c0 rows ts c p hN h; simp only [argl, Sum.inr.injEq, Prod.mk.injEq] at h; omega
  | succ n ih =>
    intro c0 rows ts c p hN h
    simp only [argl] at h
    cases h1 : tk ts [41] with
    | some q => rw [h1] at h; cases h
    | none =>
      rw [h1] at h
      simp only at h
      split at h
      · simp only [Sum.inr.injEq, Prod.mk.injEq] at h; omega
      · cases h2 : tk ts [44] with
        | none => rw [h2] at h; simp only [Sum.inr.injEq, Prod.mk.injEq] at h; omega
        | some r1 =>
          rw [h2] at h
          simp only at h
          have s1 := (tk_suf h2).2
          cases h3 : sub r1 with
          | inr e => rw [h3] at h; simp only [Sum.inr.injEq] at h; rw [h] at h3; exact hcode _ _ _ (by omega) h3
          | inl q =>
            obtain ⟨row, r2⟩ := q
            rw [h3] at h
            simp only at h
            have := (hsub _ _ _ h3).length_le
            exact ih _ _ _ _ _ (by omega) h
theorem pargs_code {sub : List Wlx.TV → PR} {N : Nat} (hsub : ∀ ts row r, sub ts = .inl (row, r) → r <:+ ts) (hcode : ∀ ts c p, ts.length ≤ N → sub ts = .inr (c, p) → c ≠ 0) (en : Int) (nm : List UInt8) (ts : List Wlx.TV) (c p : Int) (hN : ts.length ≤ N) (h : pargs sub en nm ts = .inr (c, p)) : c ≠ 0 := by
  unfold pargs at h
  cases h1 : tk ts [41] with
  | some q => rw [h1] at h; cases h
  | none =>
    rw [h1] at h
    simp only at h
    cases h2 : sub ts with
    | inr e => rw [h2] at h; simp only [Sum.inr.injEq] at h; rw [h] at h2; exact hcode _ _ _ hN h2
    | inl q =>
      obtain ⟨row1, r1⟩ := q
      rw [h2] at h
      simp only at h
      have := (hsub _ _ _ h2).length_le
      cases h3 : argl sub en (r1.length + 1) 1 row1 r1 with
      | inr e => rw [h3] at h; simp only [Sum.inr.injEq] at h; rw [h] at h3; exact argl_code hsub hcode en _ _ _ _ _ _ (by omega) h3
      | inl q => rw [h3] at h; cases h
theorem pword_code {sub : List Wlx.TV → PR} {N : Nat} (hsub : ∀ ts row r, sub ts = .inl (row, r) → r <:+ ts) (hcode : ∀ ts c p, ts.length ≤ N → sub ts = .inr (c, p) → c ≠ 0) (en : Int) (ts : List Wlx.TV) (c p : Int) (hN : ts.length ≤ N + 2) (h : pword sub en ts = .inr (c, p)) : c ≠ 0 := by
  unfold pword at h
  split at h
  · split at h
    · exact pargs_code hsub hcode en _ _ _ _ (by rw [List.length_drop]; omega) h
    · simp only [Sum.inr.injEq, Prod.mk.injEq] at h; omega
  split at h
  · split at h
    · exact pcs_code h
    · simp only [Sum.inr.injEq, Prod.mk.injEq] at h; omega
  split at h
  · cases h
  split at h
  · cases h
  · exact pcs_code h
theorem pbrack_code {sub : List Wlx.TV → PR} {N : Nat}  (hcode : ∀ ts c p, ts.length ≤ N → sub ts = .inr (c, p) → c ≠ 0) (en : Int) (ts : List Wlx.TV) (c p : Int) (hN : ts.length ≤ N + 1) (h : pbrack sub en ts = .inr (c, p)) : c ≠ 0 := by
  unfold pbrack at h
  cases h1 : tk ts [40] with
  | none => rw [h1] at h; simp only [Sum.inr.injEq, Prod.mk.injEq] at h; omega
  | some r1 =>
    rw [h1] at h
    simp only at h
    have s1 := (tk_suf h1).2
    cases h2 : sub r1 with
    | inr e => rw [h2] at h; simp only [Sum.inr.injEq] at h; rw [h] at h2; exact hcode _ _ _ (by omega) h2
    | inl q =>
      obtain ⟨row2, r2⟩ := q
      rw [h2] at h
      simp only at h
      cases h3 : tk r2 [41] with
      | none => rw [h3] at h; simp only [Sum.inr.injEq, Prod.mk.injEq] at h; omega
      | some r3 => rw [h3] at h; cases h
theorem pct_code : ∀ (n : Nat) (row : List Wt.Nd) (ts : List Wlx.TV) (c p : Int), pct n row ts = .inr (c, p) → False := by
  intro n
  induction n with
  | zero => intro row ts c p h; cases h
  | succ n ih =>
    intro row ts c p h
    simp only [pct] at h
    cases h1 : tkOp 6 ts with
    | none => rw [h1] at h; cases h
    | some q => obtain ⟨o, r1⟩ := q; rw [h1] at h; simp only at h; exact ih _ _ _ _ h
theorem lv_code (en : Int) : ∀ (f k : Nat) (ts : List Wlx.TV) (c p : Int), k ≤ 7 → (if k < 5 then 10 * ts.length + 9 - k else if k = 5 then 10 * ts.length + 4 else if k = 6 then 10 * ts.length + 3 else 10 * ts.length + 2) ≤ f → lv en f k ts = .inr (c, p) → c ≠ 0 := by
  intro f
  induction f with
  | zero => intro k ts c p hk hf h; repeat' split at hf
            all_goals omega
  | succ f ih =>
    intro k ts c p hk hf h
    by_cases h5 : k < 5
    · rw [if_pos h5] at hf
      rw [lv_bt _ _ _ h5] at h
      unfold pbt at h
      have hs : ∀ us c p, us.length ≤ ts.length → lv en f (k + 1) us = .inr (c, p) → c ≠ 0 := by
        intro us c p hu hh
        refine ih (k + 1) us c p (by omega) ?_ hh
        split
        · omega
        · rw [if_pos (by omega)]; omega
      cases h1 : lv en f (k + 1) ts with
      | inr e => rw [h1] at h; simp only [Sum.inr.injEq] at h; rw [h] at h1; exact hs _ _ _ (Nat.le_refl _) h1
      | inl q =>
        obtain ⟨row1, r1⟩ := q
        rw [h1] at h
        simp only at h
        have := (lv_suf en _ _ _ _ _ h1).length_le
        exact more_code (N := ts.length) (lv_suf en f (k + 1)) hs _ _ _ _ _ _ (by omega) h
    rw [if_neg h5] at hf
    by_cases e5 : k = 5
    · subst e5
      rw [if_pos rfl] at hf
      rw [lv_sg] at h
      unfold psg at h
      cases h1 : tkOp 5 ts with
      | none => rw [h1] at h; exact ih 6 ts c p (by omega) (by simp; omega) h
      | some q =>
        obtain ⟨o, r1⟩ := q
        rw [h1] at h
        simp only at h
        have s1 := (tkOp_suf h1).2
        cases h2 : lv en f 5 r1 with
        | inr e => rw [h2] at h; simp only [Sum.inr.injEq] at h; rw [h] at h2; exact ih 5 r1 c p (by omega) (by simp; omega) h2
        | inl q => rw [h2] at h; cases h
    rw [if_neg e5] at hf
    by_cases e6 : k = 6
    · subst e6
      rw [if_pos rfl] at hf
      rw [lv_pc] at h
      unfold ppc at h
      cases h1 : lv en f 7 ts with
      | inr e => rw [h1] at h; simp only [Sum.inr.injEq] at h; rw [h] at h1; exact ih 7 ts c p (by omega) (by simp; omega) h1
      | inl q => obtain ⟨row1, r1⟩ := q; rw [h1] at h; simp only at h; exact (pct_code _ _ _ _ _ h).elim
    rw [if_neg e6] at hf
    obtain rfl : k = 7 := by omega
    rw [lv_si] at h
    unfold psi at h
    split at h
    · rename_i h3
      cases ts with
      | nil => exact absurd h3 (by rw [hd_nil]; decide)
      | cons t q =>
        simp only [List.length_cons] at hf
        refine pword_code (N := q.length) (lv_suf en f 0) (fun us c p hu hh => ih 0 us c p (by omega) (by simp; omega) hh) en _ _ _ (by simp only [List.length_cons]; omega) h
    split at h
    · cases ts with
      | nil => rename_i h3; exact absurd h3 (by rw [hd_nil]; decide)
      | cons t q =>
        simp only [List.length_cons] at hf
        refine pbrack_code (N := q.length) (fun us c p hu hh => ih 0 us c p (by omega) (by simp; omega) hh) en _ _ _ (by simp only [List.length_cons]; omega) h
    · exact pl_code h
/-- An error is one. -/
theorem prsR_code {l : List UInt8} {c p : Int} (h : prsR l = .inr (c, p)) : c ≠ 0 := by
  unfold prsR at h
  cases hr : scanAll l with
  | inr q =>
    obtain ⟨c', p'⟩ := q
    rw [hr] at h
    simp only [Sum.inr.injEq, Prod.mk.injEq] at h
    have := scan_code hr
    omega
  | inl ts =>
    rw [hr] at h
    simp only at h
    unfold prsT at h
    cases hp : pall (lv (l.length : Int) (10 * (ts.map Wlx.tv).length + 9) 0) (l.length : Int) (ts.map Wlx.tv) with
    | inr q =>
      rw [hp] at h
      simp only [Sum.inr.injEq] at h
      subst h
      unfold pall at hp
      split at hp
      · rename_i e he
        simp only [Sum.inr.injEq] at hp
        subst hp
        exact lv_code _ _ 0 _ _ _ (by omega) (by simp) he
      · cases hp
      · simp only [Sum.inr.injEq, Prod.mk.injEq] at hp; omega
    | inl q =>
      obtain ⟨row, rr⟩ := q
      rw [hp] at h
      simp only at h
      split at h
      · cases h
      · rename_i hc
        simp only [Sum.inr.injEq, Prod.mk.injEq] at h
        omega
end Go.Proofs.YtjkchneffcppmabGreatDoor
