/- TParC, TExt, LPlainC. -/
import Derived.Test.YtjkchneffcppmaaGreatDoorQ40
/- What Parse's answer can be. -/
namespace Go.Proofs.YtjkchneffcppmaaGreatDoor
open Go.RowKit Go.Shelf
set_option linter.unusedVariables false

theorem pl_code {ts : List Wlx.TV} {en c p : Int} (h : pl ts en = .inr (c, p)) : c ≠ 0 := by
  unfold pl at h
  split at h
  · cases h
  · simp only [Sum.inr.injEq, Prod.mk.injEq] at h; omega
theorem pc_code {ts : List Wlx.TV} {en c p : Int} (h : pc ts en = .inr (c, p)) : c ≠ 0 := by
  unfold pc at h
  repeat' split at h
  all_goals first | (simp only [Sum.inr.injEq, Prod.mk.injEq] at h; omega) | cases h
theorem pcs_code {s : ByteArray} {ts : List Wlx.TV} {en c p : Int} (h : pcs s ts en = .inr (c, p)) : c ≠ 0 := by
  unfold pcs at h
  cases h1 : pc ts en with
  | inr e => rw [h1] at h; simp only [Sum.inr.injEq] at h; rw [h] at h1; exact pc_code h1
  | inl q =>
    obtain ⟨a, r1⟩ := q
    rw [h1] at h
    simp only at h
    cases h2 : tk r1 [58] with
    | none => rw [h2] at h; cases h
    | some r2 =>
      rw [h2] at h
      simp only at h
      cases h3 : pc r2 en with
      | inr e => rw [h3] at h; simp only [Sum.inr.injEq] at h; rw [h] at h3; exact pc_code h3
      | inl q => rw [h3] at h; cases h
theorem more_code {sub : List Wlx.TV → PR} {N : Nat} (hsub : ∀ ts row r, sub ts = .inl (row, r) → r <:+ ts) (hcode : ∀ ts c p, ts.length ≤ N → sub ts = .inr (c, p) → c ≠ 0) (k : Int) : ∀ (n : Nat) (row : List Wt.Nd) (ts : List Wlx.TV) (c p : Int), ts.length ≤ N → more sub k n row ts = .inr (c, p) → c ≠ 0 := by
  intro n
  induction n with
  | zero => intro row ts c p hN h; cases h
  | succ n ih =>
    intro row ts c p hN h
    simp only [more] at h
    cases h1 : tkOp k ts with
    | none => rw [h1] at h; cases h
    | some q =>
      obtain ⟨o, r1⟩ := q
      rw [h1] at h
      simp only at h
      have s1 := (tkOp_suf h1).2
      cases h2 : sub r1 with
      | inr e => rw [h2] at h; simp only [Sum.inr.injEq] at h; rw [h] at h2; exact hcode _ _ _ (by omega) h2
      | inl q =>
        obtain ⟨row2, r2⟩ := q
        rw [h2] at h
        simp only at h
        have := (hsub _ _ _ h2).length_le
        exact ih _ _ _ _ (by omega) h
theorem argl_code {sub : List Wlx.TV → PR} {N : Nat} (hsub : ∀ ts row r, sub ts = .inl (row, r) → r <:+ ts) (hcode : ∀ ts c p, ts.length ≤ N → sub ts = .inr (c, p) → c ≠ 0) (en : Int) : ∀ (n c0 : Nat) (rows : List Wt.Nd) (ts : List Wlx.TV) (c p : Int), ts.length ≤ N → argl sub en n c0 rows ts = .inr (c, p) → c ≠ 0 := by
  intro n
  induction n with
  | zero => intro c0 rows ts c p hN h; simp only [argl, Sum.inr.injEq, Prod.mk.injEq] at h; omega
  | succ n ih =>
    intro c0 rows ts c p hN h
    simp only [argl] at h
    cases h1 : tk ts [41] with
    | some q => rw [h1] at h; cases h
    | none =>
      rw [h1] at h
      simp only at h
      split at h
      · simp only [Sum.inr.injEq, Prod.mk.injEq] at h; omega
      · cases h2 : tk ts [44] with
        | none => rw [h2] at h; simp only [Sum.inr.injEq, Prod.mk.injEq] at h; omega
        | some r1 =>
          rw [h2] at h
          simp only at h
          have s1 := (tk_suf h2).2
          cases h3 : sub r1 with
          | inr e => rw [h3] at h; simp only [Sum.inr.injEq] at h; rw [h] at h3; exact hcode _ _ _ (by omega) h3
          | inl q =>
            obtain ⟨row, r2⟩ := q
            rw [h3] at h
            simp only at h
            have := (hsub _ _ _ h3).length_le
            exact ih _ _ _ _ _ (by omega) h
theorem pargs_code {sub : List Wlx.TV → PR} {N : Nat} (hsub : ∀ ts row r, sub ts = .inl (row, r) → r <:+ ts) (hcode : ∀ ts c p, ts.length ≤ N → sub ts = .inr (c, p) → c ≠ 0) (en : Int) (nm : List UInt8) (ts : List Wlx.TV) (c p : Int) (hN : ts.length ≤ N) (h : pargs sub en nm ts = .inr (c, p)) : c ≠ 0 := by
  unfold pargs at h
  cases h1 : tk ts [41] with
  | some q => rw [h1] at h; cases h
  | none =>
    rw [h1] at h
    simp only at h
    cases h2 : sub ts with
    | inr e => rw [h2] at h; simp only [Sum.inr.injEq] at h; rw [h] at h2; exact hcode _ _ _ hN h2
    | inl q =>
      obtain ⟨row1, r1⟩ := q
      rw [h2] at h
      simp only at h
      have := (hsub _ _ _ h2).length_le
      cases h3 : argl sub en (r1.length + 1) 1 row1 r1 with
      | inr e => rw [h3] at h; simp only [Sum.inr.injEq] at h; rw [h] at h3; exact argl_code hsub hcode en _ _ _ _ _ _ (by omega) h3
      | inl q => rw [h3] at h; cases h
theorem pword_code {sub : List Wlx.TV → PR} {N : Nat} (hsub : ∀ ts row r, sub ts = .inl (row, r) → r <:+ ts) (hcode : ∀ ts c p, ts.length ≤ N → sub ts = .inr (c, p) → c ≠ 0) (en : Int) (ts : List Wlx.TV) (c p : Int) (hN : ts.length ≤ N + 2) (h : pword sub en ts = .inr (c, p)) : c ≠ 0 := by
  unfold pword at h
  split at h
  · split at h
    · exact pargs_code hsub hcode en _ _ _ _ (by rw [List.length_drop]; omega) h
    · simp only [Sum.inr.injEq, Prod.mk.injEq] at h; omega
  split at h
  · split at h
    · exact pcs_code h
    · simp only [Sum.inr.injEq, Prod.mk.injEq] at h; omega
  split at h
  · cases h
  split at h
  · cases h
  · exact pcs_code h
theorem pbrack_code {sub : List Wlx.TV → PR} {N : Nat}  (hcode : ∀ ts c p, ts.length ≤ N → sub ts = .inr (c, p) → c ≠ 0) (en : Int) (ts : List Wlx.TV) (c p : Int) (hN : ts.length ≤ N + 1) (h : pbrack sub en ts = .inr (c, p)) : c ≠ 0 := by
  unfold pbrack at h
  cases h1 : tk ts [40] with
  | none => rw [h1] at h; simp only [Sum.inr.injEq, Prod.mk.injEq] at h; omega
  | some r1 =>
    rw [h1] at h
    simp only at h
    have s1 := (tk_suf h1).2
    cases h2 : sub r1 with
    | inr e => rw [h2] at h; simp only [Sum.inr.injEq] at h; rw [h] at h2; exact hcode _ _ _ (by omega) h2
    | inl q =>
      obtain ⟨row2, r2⟩ := q
      rw [h2] at h
      simp only at h
      cases h3 : tk r2 [41] with
      | none => rw [h3] at h; simp only [Sum.inr.injEq, Prod.mk.injEq] at h; omega
      | some r3 => rw [h3] at h; cases h
theorem pct_code : ∀ (n : Nat) (row : List Wt.Nd) (ts : List Wlx.TV) (c p : Int), pct n row ts = .inr (c, p) → False := by
  intro n
  induction n with
  | zero => intro row ts c p h; cases h
  | succ n ih =>
    intro row ts c p h
    simp only [pct] at h
    cases h1 : tkOp 6 ts with
    | none => rw [h1] at h; cases h
    | some q => obtain ⟨o, r1⟩ := q; rw [h1] at h; simp only at h; exact ih _ _ _ _ h
theorem lv_code (en : Int) : ∀ (f k : Nat) (ts : List Wlx.TV) (c p : Int), k ≤ 7 → (if k < 5 then 10 * ts.length + 9 - k else if k = 5 then 10 * ts.length + 4 else if k = 6 then 10 * ts.length + 3 else 10 * ts.length + 2) ≤ f → lv en f k ts = .inr (c, p) → c ≠ 0 := by
  intro f
  induction f with
  | zero => intro k ts c p hk hf h; repeat' split at hf
            all_goals omega
  | succ f ih =>
    intro k ts c p hk hf h
    by_cases h5 : k < 5
    · rw [if_pos h5] at hf
      rw [lv_bt _ _ _ h5] at h
      unfold pbt at h
      have hs : ∀ us c p, us.length ≤ ts.length → lv en f (k + 1) us = .inr (c, p) → c ≠ 0 := by
        intro us c p hu hh
        refine ih (k + 1) us c p (by omega) ?_ hh
        split
        · omega
        · rw [if_pos (by omega)]; omega
      cases h1 : lv en f (k + 1) ts with
      | inr e => rw [h1] at h; simp only [Sum.inr.injEq] at h; rw [h] at h1; exact hs _ _ _ (Nat.le_refl _) h1
      | inl q =>
        obtain ⟨row1, r1⟩ := q
        rw [h1] at h
        simp only at h
        have := (lv_suf en _ _ _ _ _ h1).length_le
        exact more_code (N := ts.length) (lv_suf en f (k + 1)) hs _ _ _ _ _ _ (by omega) h
    rw [if_neg h5] at hf
    by_cases e5 : k = 5
    · subst e5
      rw [if_pos rfl] at hf
      rw [lv_sg] at h
      unfold psg at h
      cases h1 : tkOp 5 ts with
      | none => rw [h1] at h; exact ih 6 ts c p (by omega) (by simp; omega) h
      | some q =>
        obtain ⟨o, r1⟩ := q
        rw [h1] at h
        simp only at h
        have s1 := (tkOp_suf h1).2
        cases h2 : lv en f 5 r1 with
        | inr e => rw [h2] at h; simp only [Sum.inr.injEq] at h; rw [h] at h2; exact ih 5 r1 c p (by omega) (by simp; omega) h2
        | inl q => rw [h2] at h; cases h
    rw [if_neg e5] at hf
    by_cases e6 : k = 6
    · subst e6
      rw [if_pos rfl] at hf
      rw [lv_pc] at h
      unfold ppc at h
      cases h1 : lv en f 7 ts with
      | inr e => rw [h1] at h; simp only [Sum.inr.injEq] at h; rw [h] at h1; exact ih 7 ts c p (by omega) (by simp; omega) h1
      | inl q => obtain ⟨row1, r1⟩ := q; rw [h1] at h; simp only at h; exact (pct_code _ _ _ _ _ h).elim
    rw [if_neg e6] at hf
    obtain rfl : k = 7 := by omega
    rw [lv_si] at h
    unfold psi at h
    split at h
    · rename_i h3
      cases ts with
      | nil => exact absurd h3 (by rw [hd_nil]; decide)
      | cons t q =>
        simp only [List.length_cons] at hf
        refine pword_code (N := q.length) (lv_suf en f 0) (fun us c p hu hh => ih 0 us c p (by omega) (by simp; omega) hh) en _ _ _ (by simp only [List.length_cons]; omega) h
    split at h
    · cases ts with
      | nil => rename_i h3; exact absurd h3 (by rw [hd_nil]; decide)
      | cons t q =>
        simp only [List.length_cons] at hf
        refine pbrack_code (N := q.length) (fun us c p hu hh => ih 0 us c p (by omega) (by simp; omega) hh) en _ _ _ (by simp only [List.length_cons]; omega) h
    · exact pl_code h
/-- An error is one. -/
theorem prsR_code {l : List UInt8} {c p : Int} (h : prsR l = .inr (c, p)) : c ≠ 0 := by
  unfold prsR at h
  cases hr : scanAll l with
  | inr q =>
    obtain ⟨c', p'⟩ := q
    rw [hr] at h
    simp only [Sum.inr.injEq, Prod.mk.injEq] at h
    have := scan_code hr
    omega
  | inl ts =>
    rw [hr] at h
    simp only at h
    unfold prsT at h
    cases hp : pall (lv (l.length : Int) (10 * (ts.map Wlx.tv).length + 9) 0) (l.length : Int) (ts.map Wlx.tv) with
    | inr q =>
      rw [hp] at h
      simp only [Sum.inr.injEq] at h
      subst h
      unfold pall at hp
      split at hp
      · rename_i e he
        simp only [Sum.inr.injEq] at hp
        subst hp
        exact lv_code _ _ 0 _ _ _ (by omega) (by simp) he
      · cases hp
      · simp only [Sum.inr.injEq, Prod.mk.injEq] at hp; omega
    | inl q =>
      obtain ⟨row, rr⟩ := q
      rw [hp] at h
      simp only at h
      split at h
      · cases h
      · rename_i hc
        simp only [Sum.inr.injEq, Prod.mk.injEq] at h
        omega
/-- A tree is one. -/
theorem prsR_row {l : List UInt8} {row : List Wt.Nd} (h : prsR l = .inl row) : (∀ x ∈ row, Wt.FitN x) ∧ Wt.check row = 0 := by
  unfold prsR at h
  cases hr : scanAll l with
  | inr q =>
    obtain ⟨c', p'⟩ := q
    rw [hr] at h; cases h
  | inl ts =>
    rw [hr] at h
    simp only at h
    have hok : ∀ t ∈ ts.map Wlx.tv, TokOk t := by
      unfold scanAll at hr
      split at hr
      · cases hr
      · exact (scan_ok _ 0 l (Nat.le_refl _) (by omega) ts hr).2
    unfold prsT at h
    cases hp : pall (lv (l.length : Int) (10 * (ts.map Wlx.tv).length + 9) 0) (l.length : Int) (ts.map Wlx.tv) with
    | inr q => rw [hp] at h; cases h
    | inl q =>
      obtain ⟨row', rr⟩ := q
      rw [hp] at h
      simp only at h
      split at h
      · rename_i hc
        simp only [Sum.inl.injEq] at h
        subst h
        refine ⟨?_, hc⟩
        unfold pall at hp
        split at hp
        · cases hp
        · rename_i row'' he
          simp only [Sum.inl.injEq, Prod.mk.injEq] at hp
          rw [← hp.1]
          exact (lv_fit _ _ _ _ _ _ hok he).1
        · cases hp
      · cases h
end Go.Proofs.YtjkchneffcppmaaGreatDoor
/- What is read hangs neither on the tokens' places nor on a closing bracket behind. -/
namespace Go.Proofs.YtjkchneffcppmaaGreatDoor
open Go.RowKit Go.Shelf
set_option linter.unusedVariables false

def kt (t : Wlx.TV) : Int × List UInt8 := (t.k, t.t)
def Same (us ts : List Wlx.TV) : Prop := us.map kt = ts.map kt
/-- Nothing, or a closing bracket or a comma, and whatever stands behind. -/
def Cl (tl : List Wlx.TV) : Prop := tl = [] ∨ ∃ c q, tl = c :: q ∧ c.k = 5 ∧ (c.t = [41] ∨ c.t = [44])
theorem Same.len {us ts : List Wlx.TV} (h : Same us ts) : us.length = ts.length := by
  have := congrArg List.length h
  simpa using this
theorem Same.cons {us : List Wlx.TV} {t : Wlx.TV} {r : List Wlx.TV} (h : Same us (t :: r)) : ∃ u q, us = u :: q ∧ u.k = t.k ∧ u.t = t.t ∧ Same q r := by
  cases us with
  | nil => simp [Same] at h
  | cons u q =>
    simp only [Same, List.map_cons, List.cons.injEq, kt, Prod.mk.injEq] at h
    exact ⟨u, q, rfl, h.1.1, h.1.2, h.2⟩
theorem Same.nil {us : List Wlx.TV} (h : Same us []) : us = [] := by
  cases us with
  | nil => rfl
  | cons u q => simp [Same] at h
theorem Same.drop {us ts : List Wlx.TV} (h : Same us ts) (n : Nat) : Same (us.drop n) (ts.drop n) := by
  unfold Same at *
  rw [List.map_drop, List.map_drop, h]
theorem opAs_41 (k : Int) : Wt.opAs [41] k = none := by
  unfold Wt.opAs
  rw [List.find?_eq_none]
  intro x hx
  simp only [Wt.opsT, List.mem_cons, List.not_mem_nil, or_false] at hx
  rcases hx with rfl | rfl | rfl | rfl | rfl | rfl | rfl | rfl | rfl | rfl | rfl | rfl | rfl | rfl | rfl <;> simp
theorem opAs_44 (k : Int) : Wt.opAs [44] k = none := by
  unfold Wt.opAs
  rw [List.find?_eq_none]
  intro x hx
  simp only [Wt.opsT, List.mem_cons, List.not_mem_nil, or_false] at hx
  rcases hx with rfl | rfl | rfl | rfl | rfl | rfl | rfl | rfl | rfl | rfl | rfl | rfl | rfl | rfl | rfl <;> simp
theorem more_not' {sub : List Wlx.TV → PR} {k : Int} {n : Nat} {row : List Wt.Nd} {ts : List Wlx.TV} (h : tkOp k ts = none) : more sub k n row ts = .inl (row, ts) := by
  cases n with
  | zero => rfl
  | succ n => simp only [more, h]
end Go.Proofs.YtjkchneffcppmaaGreatDoor
/- What a token is does not hang on what stands behind the byte behind it. -/
namespace Wlx

/-- The bytes that begin a mark. -/
def mk (c : UInt8) : Bool := marks.any fun n => n.head? == some c
theorem numSz_pos {c : UInt8} {t : List UInt8} : 0 < numSz (c :: t) ↔ dig c = true := by
  unfold numSz
  cases h : dig c with
  | false => rw [runP_neg h, if_pos rfl]; simp
  | true =>
    rw [runP_pos h, if_neg (by omega)]
    have g : ∀ n l, 0 < n → 0 < numTl n l := by
      intro n l hn
      cases l with
      | nil => exact hn
      | cons c t => rw [numTl_cons]; split <;> omega
    simp [g]
theorem txtSz_pos {c : UInt8} {t : List UInt8} (h : 0 < txtSz (c :: t)) : c = 34 := by
  have e : txtSz (c :: t) = if c = 34 then quo true 1 t else 0 := rfl
  rw [e] at h
  by_cases hc : c = 34
  · exact hc
  · rw [if_neg hc] at h; omega
theorem wrdSz_pos {c : UInt8} {t : List UInt8} : 0 < runP wrd (c :: t) ↔ wrd c = true := by
  cases h : wrd c with
  | false => rw [runP_neg h]; simp
  | true => rw [runP_pos h]; simp
theorem nameSz_head {c : UInt8} {t : List UInt8} : ∀ (ns : List (List UInt8)), 0 < nameSz (c :: t) ns → ∃ n ∈ ns, n.head? = some c
  | [], h => by simp [nameSz] at h
  | n :: r, h => by
    unfold nameSz at h
    by_cases hb : begins n (c :: t) = true
    · rw [if_pos hb] at h
      cases n with
      | nil => simp at h
      | cons a p =>
        simp only [begins, Bool.and_eq_true, decide_eq_true_eq] at hb
        exact ⟨a :: p, by simp, by rw [hb.1]; rfl⟩
    · rw [if_neg hb] at h
      obtain ⟨x, hx, hh⟩ := nameSz_head r h
      exact ⟨x, by simp [hx], hh⟩
theorem faultSz_pos {c : UInt8} {t : List UInt8} (h : 0 < nameSz (c :: t) faults) : c = 35 := by
  obtain ⟨n, hn, hh⟩ := nameSz_head faults h
  have : ∀ n ∈ faults, n.head? = some 35 := by decide
  rw [this n hn] at hh
  exact (Option.some.inj hh).symm
theorem markSz_pos {c : UInt8} {t : List UInt8} (h : 0 < nameSz (c :: t) marks) : mk c = true := by
  obtain ⟨n, hn, hh⟩ := nameSz_head marks h
  unfold mk
  exact List.any_eq_true.2 ⟨n, hn, by rw [hh]; simp⟩
theorem sz1 (l : List UInt8) : sz 1 l = numSz l := rfl
theorem sz2 (l : List UInt8) : sz 2 l = txtSz l := rfl
theorem sz3 (l : List UInt8) : sz 3 l = runP wrd l := rfl
theorem sz4 (l : List UInt8) : sz 4 l = nameSz l faults := rfl
theorem sz5 (l : List UInt8) : sz 5 l = nameSz l marks := rfl
theorem cls : ∀ c : UInt8, (wrd c = true → ¬ c = 34 ∧ ¬ c = 35 ∧ mk c = false ∧ ¬ c = 32 ∧ ¬ c = 46) ∧ (dig c = true → wrd c = true) ∧ (mk c = true → ¬ c = 34 ∧ ¬ c = 35 ∧ wrd c = false ∧ ¬ c = 32 ∧ ¬ c = 46) := by
  intro c
  have key : ∀ n : Fin 256, (wrd (UInt8.ofNat n) = true → ¬ UInt8.ofNat n = 34 ∧ ¬ UInt8.ofNat n = 35 ∧ mk (UInt8.ofNat n) = false ∧ ¬ UInt8.ofNat n = 32 ∧ ¬ UInt8.ofNat n = 46) ∧ (dig (UInt8.ofNat n) = true → wrd (UInt8.ofNat n) = true) ∧ (mk (UInt8.ofNat n) = true → ¬ UInt8.ofNat n = 34 ∧ ¬ UInt8.ofNat n = 35 ∧ wrd (UInt8.ofNat n) = false ∧ ¬ UInt8.ofNat n = 32 ∧ ¬ UInt8.ofNat n = 46) := by decide +kernel
  have := key ⟨c.toNat, c.toNat_lt⟩
  simpa using this
/-- What the first byte tells of the kind, and the other way around. -/
theorem kind_of {c : UInt8} {t : List UInt8} {k : Nat} (hk : hit (c :: t) = k) (h6 : ¬ k = 6) :
    (k = 1 ∧ dig c = true ∨ k = 2 ∧ c = 34 ∨ k = 3 ∧ wrd c = true ∧ dig c = false ∨ k = 4 ∧ c = 35 ∨ k = 5 ∧ mk c = true) := by
  have hp := hit_pos (l := c :: t) (by rw [hk]; exact h6)
  have h1 := hit_low (c :: t)
  have h2 := hit_high (c :: t)
  rw [hk] at hp h1 h2
  have : k = 1 ∨ k = 2 ∨ k = 3 ∨ k = 4 ∨ k = 5 := by omega
  rcases this with rfl | rfl | rfl | rfl | rfl
  · exact Or.inl ⟨rfl, numSz_pos.1 hp⟩
  · exact Or.inr (Or.inl ⟨rfl, txtSz_pos hp⟩)
  · refine Or.inr (Or.inr (Or.inl ⟨rfl, wrdSz_pos.1 hp, ?_⟩))
    cases hd : dig c with
    | false => rfl
    | true =>
      have : hit (c :: t) = 1 := hit_first (by omega) (by omega) (numSz_pos.2 hd) (fun j a b => by omega)
      rw [this] at hk; omega
  · exact Or.inr (Or.inr (Or.inr (Or.inl ⟨rfl, faultSz_pos hp⟩)))
  · exact Or.inr (Or.inr (Or.inr (Or.inr ⟨rfl, markSz_pos hp⟩)))
/-- The kind by the first byte, where a token of it stands. -/
theorem hit_of {c : UInt8} {t : List UInt8} {k : Nat} (h : k = 1 ∧ dig c = true ∨ k = 2 ∧ c = 34 ∨ k = 3 ∧ wrd c = true ∧ dig c = false ∨ k = 4 ∧ c = 35 ∨ k = 5 ∧ mk c = true) (hp : 0 < sz k (c :: t)) : hit (c :: t) = k := by
  obtain ⟨c1, c2, c3⟩ := cls c
  have z1 : dig c = false → sz 1 (c :: t) = 0 := fun hd => by
    have : ¬ 0 < numSz (c :: t) := fun h => by rw [numSz_pos.1 h] at hd; cases hd
    rw [sz1]; omega
  have z2 : ¬ c = 34 → sz 2 (c :: t) = 0 := fun hd => by
    have : ¬ 0 < txtSz (c :: t) := fun h => hd (txtSz_pos h)
    rw [sz2]; omega
  have z3 : wrd c = false → sz 3 (c :: t) = 0 := fun hd => by
    have : ¬ 0 < runP wrd (c :: t) := fun h => by rw [wrdSz_pos.1 h] at hd; cases hd
    rw [sz3]; omega
  have z4 : ¬ c = 35 → sz 4 (c :: t) = 0 := fun hd => by
    have : ¬ 0 < nameSz (c :: t) faults := fun h => hd (faultSz_pos h)
    rw [sz4]; omega
  have nd : wrd c = false → dig c = false := fun h => by
    cases hd : dig c with
    | false => rfl
    | true => rw [c2 hd] at h; cases h
  rcases h with ⟨rfl, hd⟩ | ⟨rfl, rfl⟩ | ⟨rfl, hw, hd⟩ | ⟨rfl, rfl⟩ | ⟨rfl, hm⟩
  · exact hit_first (by omega) (by omega) hp (fun j a b => by omega)
  · exact hit_first (by omega) (by omega) hp (fun j a b => by
      obtain rfl : j = 1 := by omega
      exact z1 (by decide))
  · obtain ⟨a1, a2, a3, a4, a5⟩ := c1 hw
    exact hit_first (by omega) (by omega) hp (fun j a b => by
      have : j = 1 ∨ j = 2 := by omega
      rcases this with rfl | rfl
      · exact z1 hd
      · exact z2 a1)
  · exact hit_first (by omega) (by omega) hp (fun j a b => by
      have : j = 1 ∨ j = 2 ∨ j = 3 := by omega
      rcases this with rfl | rfl | rfl
      · exact z1 (by decide)
      · exact z2 (by decide)
      · exact z3 (by decide))
  · obtain ⟨a1, a2, a3, a4, a5⟩ := c3 hm
    exact hit_first (by omega) (by omega) hp (fun j a b => by
      have : j = 1 ∨ j = 2 ∨ j = 3 ∨ j = 4 := by omega
      rcases this with rfl | rfl | rfl | rfl
      · exact z1 (nd a3)
      · exact z2 a1
      · exact z3 a3
      · exact z4 a2)
end Wlx
