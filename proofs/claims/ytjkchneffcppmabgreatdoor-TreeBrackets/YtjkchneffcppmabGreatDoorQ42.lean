/- TExt, LPlainC. -/
import Derived.Test.YtjkchneffcppmabGreatDoorQ41
/- What is read hangs neither on the tokens' places nor on a closing bracket behind. -/
namespace Go.Proofs.YtjkchneffcppmabGreatDoor
open Go.RowKit Go.Shelf
set_option linter.unusedVariables false

def kt (t : Wlx.TV) : Int × List UInt8 := (t.k, t.t)
def Same (us ts : List Wlx.TV) : Prop := us.map kt = ts.map kt
/-- Nothing, or a closing bracket or a comma, and whatever stands behind. -/
def Cl (tl : List Wlx.TV) : Prop := tl = [] ∨ ∃ c q, tl = c :: q ∧ c.k = 5 ∧ (c.t = [41] ∨ c.t = [44])
theorem Same.len {us ts : List Wlx.TV} (h : Same us ts) : us.length = ts.length := by
  have := congrArg List.length h
  simpa using this
theorem Same.cons {us : List Wlx.TV} {t : Wlx.TV} {r : List Wlx.TV} (h : Same us (t :: r)) : ∃ u q, us = u :: q ∧ u.k = t.k ∧ u.t = t.t ∧ Same q r := by
  cases us with
  | nil => simp [Same] at h
  | cons u q =>
    simp only [Same, List.map_cons, List.cons.injEq, kt, Prod.mk.injEq] at h
    exact ⟨u, q, rfl, h.1.1, h.1.2, h.2⟩
theorem Same.nil {us : List Wlx.TV} (h : Same us []) : us = [] := by
  cases us with
  | nil => rfl
  | cons u q => simp [Same] at h
theorem Same.drop {us ts : List Wlx.TV} (h : Same us ts) (n : Nat) : Same (us.drop n) (ts.drop n) := by
  unfold Same at *
  rw [List.map_drop, List.map_drop, h]
theorem isMk_same {u t : Wlx.TV} (hk : u.k = t.k) (ht : u.t = t.t) (m : List UInt8) : isMk u m = isMk t m := by unfold isMk; rw [hk, ht]
theorem tk_ext {us ts tl : List Wlx.TV} {m : List UInt8} {r : List Wlx.TV} (hs : Same us ts) (h : tk ts m = some r) : ∃ r', tk (us ++ tl) m = some (r' ++ tl) ∧ Same r' r := by
  cases ts with
  | nil => cases h
  | cons t q =>
    obtain ⟨u, q', rfl, hk, ht, hq⟩ := hs.cons
    simp only [tk, List.cons_append, isMk_same hk ht] at h ⊢
    split at h
    · rename_i hm
      obtain rfl := Option.some.inj h
      exact ⟨q', by rw [if_pos hm], hq⟩
    · cases h
theorem tk_none {us ts tl : List Wlx.TV} {m : List UInt8} (hs : Same us ts) (hc : Cl tl) (hm : (m ≠ [41] ∧ m ≠ [44]) ∨ ts ≠ []) (h : tk ts m = none) : tk (us ++ tl) m = none := by
  cases ts with
  | nil =>
    rw [hs.nil, List.nil_append]
    rcases hc with rfl | ⟨c, q, rfl, h1, h2⟩
    · rfl
    · rcases hm with hm | hm
      · have : (c.t == m) = false := by
          rcases h2 with h2 | h2
          · rw [h2]; simp; exact fun e => hm.1 e.symm
          · rw [h2]; simp; exact fun e => hm.2 e.symm
        simp only [tk, isMk, h1, this]
        simp
      · exact absurd rfl hm
  | cons t q =>
    obtain ⟨u, q', rfl, hk, ht, hq⟩ := hs.cons
    simp only [tk, List.cons_append, isMk_same hk ht] at h ⊢
    split at h
    · cases h
    · rename_i hm'; rw [if_neg hm']
theorem opAs_41 (k : Int) : Wt.opAs [41] k = none := by
  unfold Wt.opAs
  rw [List.find?_eq_none]
  intro x hx
  simp only [Wt.opsT, List.mem_cons, List.not_mem_nil, or_false] at hx
  rcases hx with rfl | rfl | rfl | rfl | rfl | rfl | rfl | rfl | rfl | rfl | rfl | rfl | rfl | rfl | rfl <;> simp
theorem opAs_44 (k : Int) : Wt.opAs [44] k = none := by
  unfold Wt.opAs
  rw [List.find?_eq_none]
  intro x hx
  simp only [Wt.opsT, List.mem_cons, List.not_mem_nil, or_false] at hx
  rcases hx with rfl | rfl | rfl | rfl | rfl | rfl | rfl | rfl | rfl | rfl | rfl | rfl | rfl | rfl | rfl <;> simp
theorem tkOp_ext {us ts tl : List Wlx.TV} {k : Int} {o : Int × List UInt8 × Int} {r : List Wlx.TV} (hs : Same us ts) (h : tkOp k ts = some (o, r)) : ∃ r', tkOp k (us ++ tl) = some (o, r' ++ tl) ∧ Same r' r := by
  cases ts with
  | nil => cases h
  | cons t q =>
    obtain ⟨u, q', rfl, hk, ht, hq⟩ := hs.cons
    simp only [tkOp, List.cons_append, hk, ht] at h ⊢
    split at h
    · rename_i h5
      rw [if_pos h5]
      cases ha : Wt.opAs t.t k with
      | none => rw [ha] at h; cases h
      | some x =>
        rw [ha] at h
        simp only [Option.map_some, Option.some.injEq, Prod.mk.injEq] at h
        exact ⟨q', by simp [h.1], by rw [← h.2]; exact hq⟩
    · cases h
theorem tkOp_none {us ts tl : List Wlx.TV} {k : Int} (hs : Same us ts) (hc : Cl tl) (h : tkOp k ts = none) : tkOp k (us ++ tl) = none := by
  cases ts with
  | nil =>
    rw [hs.nil, List.nil_append]
    rcases hc with rfl | ⟨c, q, rfl, h1, h2⟩
    · rfl
    · rcases h2 with h2 | h2
      · simp only [tkOp, h1, h2, opAs_41]; simp
      · simp only [tkOp, h1, h2, opAs_44]; simp
  | cons t q =>
    obtain ⟨u, q', rfl, hk, ht, hq⟩ := hs.cons
    simp only [tkOp, List.cons_append, hk, ht] at h ⊢
    split at h
    · rename_i h5
      rw [if_pos h5]
      cases ha : Wt.opAs t.t k with
      | none => rfl
      | some x => rw [ha] at h; cases h
    · rename_i h5; rw [if_neg h5]
theorem hd_ext {us ts tl : List Wlx.TV} (en en' : Int) (hs : Same us ts) (h : ts ≠ []) : (hd (us ++ tl) en').k = (hd ts en).k ∧ (hd (us ++ tl) en').t = (hd ts en).t := by
  cases ts with
  | nil => exact absurd rfl h
  | cons t q =>
    obtain ⟨u, q', rfl, hk, ht, hq⟩ := hs.cons
    exact ⟨hk, ht⟩
theorem fol_ext {us ts tl : List Wlx.TV} {m : List UInt8} (hs : Same us ts) (hc : Cl tl) (hm : m ≠ [41] ∧ m ≠ [44]) (h : ts ≠ []) : fol (us ++ tl) m = fol ts m := by
  cases ts with
  | nil => exact absurd rfl h
  | cons t q =>
    obtain ⟨u, q', rfl, hk, ht, hq⟩ := hs.cons
    cases q with
    | nil =>
      rw [hq.nil, List.cons_append, List.nil_append]
      rcases hc with rfl | ⟨c, q, rfl, h1, h2⟩
      · rfl
      · have : (c.t == m) = false := by
          rcases h2 with h2 | h2
          · rw [h2]; simp; exact fun e => hm.1 e.symm
          · rw [h2]; simp; exact fun e => hm.2 e.symm
        simp only [fol, isMk, h1, this]
        simp
    | cons t2 q2 =>
      obtain ⟨u2, q2', rfl, hk2, ht2, hq2⟩ := hq.cons
      simp only [List.cons_append, fol, isMk_same hk2 ht2]
theorem more_not' {sub : List Wlx.TV → PR} {k : Int} {n : Nat} {row : List Wt.Nd} {ts : List Wlx.TV} (h : tkOp k ts = none) : more sub k n row ts = .inl (row, ts) := by
  cases n with
  | zero => rfl
  | succ n => simp only [more, h]
/-- One reading says all that another one says. -/
def Ext (sub sub' : List Wlx.TV → PR) : Prop := ∀ ts row r, sub ts = .inl (row, r) → ∀ us tl, Same us ts → Cl tl → ∃ r', sub' (us ++ tl) = .inl (row, r' ++ tl) ∧ Same r' r
theorem more_ext {sub sub' : List Wlx.TV → PR} (hsub : ∀ ts row r, sub ts = .inl (row, r) → r <:+ ts) (hx : Ext sub sub') (k : Int) : ∀ (n n' : Nat) (row : List Wt.Nd) (ts : List Wlx.TV) (row' : List Wt.Nd) (r us tl : List Wlx.TV), n ≤ n' → ts.length ≤ n → more sub k n row ts = .inl (row', r) → Same us ts → Cl tl → ∃ r', more sub' k n' row (us ++ tl) = .inl (row', r' ++ tl) ∧ Same r' r := by
  intro n
  induction n with
  | zero =>
    intro n' row ts row' r us tl hn hl h hs hc
    simp only [more, Sum.inl.injEq, Prod.mk.injEq] at h
    obtain ⟨rfl, rfl⟩ := h
    have he : ts = [] := List.eq_nil_of_length_eq_zero (by omega)
    subst he
    exact ⟨us, more_not' (tkOp_none hs hc rfl), hs⟩
  | succ n ih =>
    intro n' row ts row' r us tl hn hl h hs hc
    obtain ⟨n', rfl⟩ : ∃ q, n' = q + 1 := ⟨n' - 1, by omega⟩
    simp only [more] at h ⊢
    cases h1 : tkOp k ts with
    | none =>
      rw [h1] at h
      simp only [Sum.inl.injEq, Prod.mk.injEq] at h
      obtain ⟨rfl, rfl⟩ := h
      rw [tkOp_none hs hc h1]
      exact ⟨us, rfl, hs⟩
    | some q =>
      obtain ⟨o, r1⟩ := q
      rw [h1] at h
      simp only at h
      obtain ⟨r1', e1, s1⟩ := tkOp_ext (tl := tl) hs h1
      rw [e1]
      simp only
      cases h2 : sub r1 with
      | inr e => rw [h2] at h; cases h
      | inl q =>
        obtain ⟨row2, r2⟩ := q
        rw [h2] at h
        simp only at h
        obtain ⟨r2', e2, s2⟩ := hx _ _ _ h2 r1' tl s1 hc
        rw [e2]
        simp only
        have l1 := (tkOp_suf h1).2
        have l2 := (hsub _ _ _ h2).length_le
        exact ih n' _ _ _ _ _ _ (by omega) (by omega) h s2 hc
theorem pct_ext : ∀ (n n' : Nat) (row : List Wt.Nd) (ts : List Wlx.TV) (row' : List Wt.Nd) (r us tl : List Wlx.TV), n ≤ n' → ts.length ≤ n → pct n row ts = .inl (row', r) → Same us ts → Cl tl → ∃ r', pct n' row (us ++ tl) = .inl (row', r' ++ tl) ∧ Same r' r := by
  have hnot : ∀ {n : Nat} {row : List Wt.Nd} {ts : List Wlx.TV}, tkOp 6 ts = none → pct n row ts = .inl (row, ts) := by
    intro n row ts h
    cases n with
    | zero => rfl
    | succ n => simp only [pct, h]
  intro n
  induction n with
  | zero =>
    intro n' row ts row' r us tl hn hl h hs hc
    simp only [pct, Sum.inl.injEq, Prod.mk.injEq] at h
    obtain ⟨rfl, rfl⟩ := h
    have he : ts = [] := List.eq_nil_of_length_eq_zero (by omega)
    subst he
    exact ⟨us, hnot (tkOp_none hs hc rfl), hs⟩
  | succ n ih =>
    intro n' row ts row' r us tl hn hl h hs hc
    obtain ⟨n', rfl⟩ : ∃ q, n' = q + 1 := ⟨n' - 1, by omega⟩
    simp only [pct] at h ⊢
    cases h1 : tkOp 6 ts with
    | none =>
      rw [h1] at h
      simp only [Sum.inl.injEq, Prod.mk.injEq] at h
      obtain ⟨rfl, rfl⟩ := h
      rw [tkOp_none hs hc h1]
      exact ⟨us, rfl, hs⟩
    | some q =>
      obtain ⟨o, r1⟩ := q
      rw [h1] at h
      simp only at h
      obtain ⟨r1', e1, s1⟩ := tkOp_ext (tl := tl) hs h1
      rw [e1]
      simp only
      have l1 := (tkOp_suf h1).2
      exact ih n' _ _ _ _ _ _ (by omega) (by omega) h s1 hc
theorem litV_same {u t : Wlx.TV} (hk : u.k = t.k) (ht : u.t = t.t) : litV u = litV t := by unfold litV; rw [hk, ht]
theorem pl_ext (en en' : Int) : Ext (fun ts => pl ts en) (fun ts => pl ts en') := by
  intro ts row r h us tl hs hc
  simp only [pl] at h ⊢
  split at h
  · rename_i v hv
    simp only [Sum.inl.injEq, Prod.mk.injEq] at h
    obtain ⟨q, hq⟩ := litV_cons hv
    obtain ⟨hk, ht⟩ := hd_ext (tl := tl) en en' hs (by rw [hq]; simp)
    rw [litV_same hk ht, hv]
    rw [hq] at hs h
    obtain ⟨u, q', rfl, _, _, hq'⟩ := hs.cons
    exact ⟨q', by simp [h.1], by rw [← h.2]; exact hq'⟩
  · cases h
theorem pc_ext (en en' : Int) {ts : List Wlx.TV} {a : Wt.Rf} {r : List Wlx.TV} (h : pc ts en = .inl (a, r)) {us tl : List Wlx.TV} (hs : Same us ts) (hc : Cl tl) : ∃ r', pc (us ++ tl) en' = .inl (a, r' ++ tl) ∧ Same r' r := by
  have hne : ts ≠ [] := by
    rintro rfl
    unfold pc at h
    rw [if_neg (by rw [hd_nil]; decide)] at h
    cases h
  obtain ⟨hk, ht⟩ := hd_ext (tl := tl) en en' hs hne
  have hr := pc_rest h
  unfold pc at h ⊢
  rw [hk, ht, fol_ext hs hc ⟨by decide, by decide⟩ hne, fol_ext hs hc ⟨by decide, by decide⟩ hne]
  split at h
  · rename_i h3
    rw [if_pos h3]
    split at h
    · cases h
    rename_i f1
    rw [if_neg f1]
    split at h
    · cases h
    rename_i f2
    rw [if_neg f2]
    split at h
    · rename_i a' ha
      simp only [Sum.inl.injEq, Prod.mk.injEq] at h
      try rw [ha]
      cases ts with
      | nil => exact absurd rfl hne
      | cons t q =>
        obtain ⟨u, q', rfl, _, _, hq'⟩ := hs.cons
        exact ⟨q', by simp [h.1], by rw [hr]; exact hq'⟩
    · cases h
  · cases h
theorem pcs_ext (s : ByteArray) (en en' : Int) : Ext (fun ts => pcs s ts en) (fun ts => pcs s ts en') := by
  intro ts row r h us tl hs hc
  simp only [pcs] at h ⊢
  cases h1 : pc ts en with
  | inr e => rw [h1] at h; cases h
  | inl q =>
    obtain ⟨a, r1⟩ := q
    rw [h1] at h
    simp only at h
    obtain ⟨r1', e1, s1⟩ := pc_ext en en' h1 hs hc
    rw [e1]
    simp only
    cases h2 : tk r1 [58] with
    | none =>
      rw [h2] at h
      simp only [Sum.inl.injEq, Prod.mk.injEq] at h
      rw [tk_none s1 hc (Or.inl ⟨by decide, by decide⟩) h2]
      exact ⟨r1', by simp [h.1], by rw [← h.2]; exact s1⟩
    | some r2 =>
      rw [h2] at h
      simp only at h
      obtain ⟨r2', e2, s2⟩ := tk_ext (tl := tl) s1 h2
      rw [e2]
      simp only
      cases h3 : pc r2 en with
      | inr e => rw [h3] at h; cases h
      | inl q =>
        obtain ⟨b, r3⟩ := q
        rw [h3] at h
        simp only [Sum.inl.injEq, Prod.mk.injEq] at h
        obtain ⟨r3', e3, s3⟩ := pc_ext en en' h3 s2 hc
        rw [e3]
        exact ⟨r3', by simp [h.1], by rw [← h.2]; exact s3⟩
theorem argl_ext {sub sub' : List Wlx.TV → PR} (hsub : ∀ ts row r, sub ts = .inl (row, r) → r <:+ ts) (hx : Ext sub sub') (en en' : Int) : ∀ (n n' c : Nat) (rows : List Wt.Nd) (ts : List Wlx.TV) (c' : Nat) (rows' : List Wt.Nd) (r us tl : List Wlx.TV), n ≤ n' → argl sub en n c rows ts = .inl (c', rows', r) → Same us ts → Cl tl → ∃ r', argl sub' en' n' c rows (us ++ tl) = .inl (c', rows', r' ++ tl) ∧ Same r' r := by
  intro n
  induction n with
  | zero => intro n' c rows ts c' rows' r us tl _ h; cases h
  | succ n ih =>
    intro n' c rows ts c' rows' r us tl hn h hs hc
    obtain ⟨n', rfl⟩ : ∃ q, n' = q + 1 := ⟨n' - 1, by omega⟩
    simp only [argl] at h ⊢
    cases h1 : tk ts [41] with
    | some q =>
      rw [h1] at h
      simp only [Sum.inl.injEq, Prod.mk.injEq] at h
      obtain ⟨rfl, rfl, rfl⟩ := h
      obtain ⟨r', e, s⟩ := tk_ext (tl := tl) hs h1
      rw [e]
      exact ⟨r', rfl, s⟩
    | none =>
      rw [h1] at h
      simp only at h
      have hne : ts ≠ [] := by
        rintro rfl
        split at h
        · cases h
        · simp only [tk] at h; cases h
      rw [tk_none hs hc (Or.inr hne) h1]
      simp only
      obtain ⟨hk, ht⟩ := hd_ext (tl := tl) en en' hs hne
      rw [isMk_same hk ht]
      split at h
      · cases h
      · rename_i hif
        rw [if_neg hif]
        cases h2 : tk ts [44] with
        | none => rw [h2] at h; cases h
        | some r1 =>
          rw [h2] at h
          simp only at h
          obtain ⟨r1', e1, s1⟩ := tk_ext (tl := tl) hs h2
          rw [e1]
          simp only
          cases h3 : sub r1 with
          | inr e => rw [h3] at h; cases h
          | inl q =>
            obtain ⟨row, r2⟩ := q
            rw [h3] at h
            simp only at h
            obtain ⟨r2', e2, s2⟩ := hx _ _ _ h3 r1' tl s1 hc
            rw [e2]
            simp only
            exact ih n' _ _ _ _ _ _ _ _ (by omega) h s2 hc
theorem pargs_ext {sub sub' : List Wlx.TV → PR} (hsub : ∀ ts row r, sub ts = .inl (row, r) → r <:+ ts) (hx : Ext sub sub') (en en' : Int) (nm : List UInt8) : Ext (pargs sub en nm) (pargs sub' en' nm) := by
  intro ts row r h us tl hs hc
  unfold pargs at h ⊢
  cases h1 : tk ts [41] with
  | some q =>
    rw [h1] at h
    simp only [Sum.inl.injEq, Prod.mk.injEq] at h
    obtain ⟨rfl, rfl⟩ := h
    obtain ⟨r', e, s⟩ := tk_ext (tl := tl) hs h1
    rw [e]
    exact ⟨r', rfl, s⟩
  | none =>
    rw [h1] at h
    simp only at h
    cases h2 : sub ts with
    | inr e => rw [h2] at h; cases h
    | inl q =>
      obtain ⟨row1, r1⟩ := q
      rw [h2] at h
      simp only at h
      obtain ⟨r1', e1, s1⟩ := hx _ _ _ h2 us tl hs hc
      cases h3 : argl sub en (r1.length + 1) 1 row1 r1 with
      | inr e => rw [h3] at h; cases h
      | inl q =>
        obtain ⟨c, rows, r2⟩ := q
        rw [h3] at h
        simp only [Sum.inl.injEq, Prod.mk.injEq] at h
        obtain ⟨rfl, rfl⟩ := h
        have hne : ts ≠ [] := by
          rintro rfl
          have hl := (hsub _ _ _ h2).length_le
          have : r1 = [] := List.eq_nil_of_length_eq_zero (by simpa using hl)
          subst this
          simp only [argl, tk] at h3
          split at h3 <;> cases h3
        rw [tk_none hs hc (Or.inr hne) h1]
        simp only
        rw [e1]
        simp only
        obtain ⟨r2', e2, s2⟩ := argl_ext hsub hx en en' (r1.length + 1) ((r1' ++ tl).length + 1) 1 row1 r1 c rows _ r1' tl (by have := s1.len; rw [List.length_append]; omega) h3 s1 hc
        rw [e2]
        exact ⟨r2', rfl, s2⟩
theorem pbrack_ext {sub sub' : List Wlx.TV → PR} (hx : Ext sub sub') (en en' : Int) : Ext (pbrack sub en) (pbrack sub' en') := by
  intro ts row r h us tl hs hc
  unfold pbrack at h ⊢
  cases h1 : tk ts [40] with
  | none => rw [h1] at h; cases h
  | some r1 =>
    rw [h1] at h
    simp only at h
    obtain ⟨r1', e1, s1⟩ := tk_ext (tl := tl) hs h1
    rw [e1]
    simp only
    cases h2 : sub r1 with
    | inr e => rw [h2] at h; cases h
    | inl q =>
      obtain ⟨row2, r2⟩ := q
      rw [h2] at h
      simp only at h
      obtain ⟨r2', e2, s2⟩ := hx _ _ _ h2 r1' tl s1 hc
      rw [e2]
      simp only
      cases h3 : tk r2 [41] with
      | none => rw [h3] at h; cases h
      | some r3 =>
        rw [h3] at h
        simp only [Sum.inl.injEq, Prod.mk.injEq] at h
        obtain ⟨rfl, rfl⟩ := h
        obtain ⟨r3', e3, s3⟩ := tk_ext (tl := tl) s2 h3
        rw [e3]
        exact ⟨r3', rfl, s3⟩
theorem pword_ext {sub sub' : List Wlx.TV → PR} (hsub : ∀ ts row r, sub ts = .inl (row, r) → r <:+ ts) (hx : Ext sub sub') (en en' : Int) {ts : List Wlx.TV} {row : List Wt.Nd} {r : List Wlx.TV} (h : pword sub en ts = .inl (row, r)) {us tl : List Wlx.TV} (hs : Same us ts) (hc : Cl tl) (hne : ts ≠ []) :
    ∃ r', pword sub' en' (us ++ tl) = .inl (row, r' ++ tl) ∧ Same r' r := by
  obtain ⟨hk, ht⟩ := hd_ext (tl := tl) en en' hs hne
  unfold pword at h ⊢
  rw [ht, fol_ext hs hc ⟨by decide, by decide⟩ hne, fol_ext hs hc ⟨by decide, by decide⟩ hne]
  have hdrop : ∀ n, fol ts [40] = true ∨ fol ts [33] = true → n = 2 → (us ++ tl).drop n = us.drop n ++ tl := by
    intro n hf hn
    subst hn
    have hl : 2 ≤ ts.length := by
      match ts, hf with
      | [], hf => simp [fol] at hf
      | [t], hf => simp [fol] at hf
      | _ :: _ :: _, _ => simp
    rw [List.drop_append_of_le_length (by rw [hs.len]; exact hl)]
  split at h
  · rename_i f1
    rw [if_pos f1]
    split at h
    · rename_i g1
      rw [if_pos g1, hdrop 2 (Or.inl f1) rfl]
      exact pargs_ext hsub hx en en' _ _ _ _ h _ _ (hs.drop 2) hc
    · cases h
  rename_i f1
  rw [if_neg f1]
  split at h
  · rename_i f2
    rw [if_pos f2]
    split at h
    · rename_i g1
      rw [if_pos g1, hdrop 2 (Or.inr f2) rfl]
      exact pcs_ext _ en en' _ _ _ h _ _ (hs.drop 2) hc
    · cases h
  rename_i f2
  rw [if_neg f2]
  have hd1 : (us ++ tl).drop 1 = us.drop 1 ++ tl := by
    rw [List.drop_append_of_le_length (by rw [hs.len]; exact List.length_pos_iff.2 hne)]
  split at h
  · rename_i f3
    simp only [Sum.inl.injEq, Prod.mk.injEq] at h
    rw [if_pos f3, hd1]
    exact ⟨us.drop 1, by rw [h.1], by rw [← h.2]; exact hs.drop 1⟩
  rename_i f3
  rw [if_neg f3]
  split at h
  · rename_i f4
    simp only [Sum.inl.injEq, Prod.mk.injEq] at h
    rw [if_pos f4, hd1]
    exact ⟨us.drop 1, by rw [h.1], by rw [← h.2]; exact hs.drop 1⟩
  rename_i f4
  rw [if_neg f4]
  exact pcs_ext _ en en' _ _ _ h _ _ hs hc
/-- More fuel, other places, a closing bracket behind: what is read is the same. -/
theorem lv_ext (en en' : Int) : ∀ (f f' : Nat), f ≤ f' → ∀ k, Ext (lv en f k) (lv en' f' k) := by
  intro f
  induction f with
  | zero => intro f' _ k ts row r h; cases h
  | succ f ih =>
    intro f' hf k ts row r h us tl hs hc
    obtain ⟨f', rfl⟩ : ∃ q, f' = q + 1 := ⟨f' - 1, by omega⟩
    have ih := ih f' (by omega)
    by_cases h5 : k < 5
    · rw [lv_bt _ _ _ h5] at h ⊢
      unfold pbt at h ⊢
      cases h1 : lv en f (k + 1) ts with
      | inr e => rw [h1] at h; cases h
      | inl q =>
        obtain ⟨row1, r1⟩ := q
        rw [h1] at h
        simp only at h
        obtain ⟨r1', e1, s1⟩ := ih (k + 1) _ _ _ h1 us tl hs hc
        rw [e1]
        simp only
        exact more_ext (lv_suf en f (k + 1)) (ih (k + 1)) k _ _ _ _ _ _ _ _ (by have := s1.len; rw [List.length_append]; omega) (Nat.le_refl _) h s1 hc
    by_cases e5 : k = 5
    · subst e5
      rw [lv_sg] at h ⊢
      unfold psg at h ⊢
      cases h1 : tkOp 5 ts with
      | none =>
        rw [h1] at h
        rw [tkOp_none hs hc h1]
        exact ih 6 _ _ _ h us tl hs hc
      | some q =>
        obtain ⟨o, r1⟩ := q
        rw [h1] at h
        simp only at h
        obtain ⟨r1', e1, s1⟩ := tkOp_ext (tl := tl) hs h1
        rw [e1]
        simp only
        cases h2 : lv en f 5 r1 with
        | inr e => rw [h2] at h; cases h
        | inl q =>
          obtain ⟨row2, r2⟩ := q
          rw [h2] at h
          simp only [Sum.inl.injEq, Prod.mk.injEq] at h
          obtain ⟨rfl, rfl⟩ := h
          obtain ⟨r2', e2, s2⟩ := ih 5 _ _ _ h2 r1' tl s1 hc
          rw [e2]
          exact ⟨r2', rfl, s2⟩
    by_cases e6 : k = 6
    · subst e6
      rw [lv_pc] at h ⊢
      unfold ppc at h ⊢
      cases h1 : lv en f 7 ts with
      | inr e => rw [h1] at h; cases h
      | inl q =>
        obtain ⟨row1, r1⟩ := q
        rw [h1] at h
        simp only at h
        obtain ⟨r1', e1, s1⟩ := ih 7 _ _ _ h1 us tl hs hc
        rw [e1]
        simp only
        exact pct_ext _ _ _ _ _ _ _ _ (by have := s1.len; rw [List.length_append]; omega) (Nat.le_refl _) h s1 hc
    have hne : ts ≠ [] := by
      rintro rfl
      simp only [lv, if_neg h5, if_neg e5, if_neg e6] at h
      rw [if_neg (by rw [hd_nil]; decide), if_neg (by rw [hd_nil]; decide)] at h
      unfold pl at h
      simp [litV, hd] at h
    obtain ⟨hk, ht⟩ := hd_ext (tl := tl) en en' hs hne
    simp only [lv, if_neg h5, if_neg e5, if_neg e6] at h ⊢
    rw [hk]
    split at h
    · rename_i h3
      rw [if_pos h3]
      exact pword_ext (lv_suf en f 0) (ih 0) en en' h hs hc hne
    rename_i h3
    rw [if_neg h3]
    split at h
    · rename_i h4
      rw [if_pos h4]
      exact pbrack_ext (ih 0) en en' _ _ _ h _ _ hs hc
    rename_i h4
    rw [if_neg h4]
    exact pl_ext en en' _ _ _ h _ _ hs hc
end Go.Proofs.YtjkchneffcppmabGreatDoor
/- What a token is does not hang on what stands behind the byte behind it. -/
namespace Wlx

/-- The bytes that begin a mark. -/
def mk (c : UInt8) : Bool := marks.any fun n => n.head? == some c
theorem numSz_pos {c : UInt8} {t : List UInt8} : 0 < numSz (c :: t) ↔ dig c = true := by
  unfold numSz
  cases h : dig c with
  | false => rw [runP_neg h, if_pos rfl]; simp
  | true =>
    rw [runP_pos h, if_neg (by omega)]
    have g : ∀ n l, 0 < n → 0 < numTl n l := by
      intro n l hn
      cases l with
      | nil => exact hn
      | cons c t => rw [numTl_cons]; split <;> omega
    simp [g]
theorem txtSz_pos {c : UInt8} {t : List UInt8} (h : 0 < txtSz (c :: t)) : c = 34 := by
  have e : txtSz (c :: t) = if c = 34 then quo true 1 t else 0 := rfl
  rw [e] at h
  by_cases hc : c = 34
  · exact hc
  · rw [if_neg hc] at h; omega
theorem wrdSz_pos {c : UInt8} {t : List UInt8} : 0 < runP wrd (c :: t) ↔ wrd c = true := by
  cases h : wrd c with
  | false => rw [runP_neg h]; simp
  | true => rw [runP_pos h]; simp
theorem nameSz_head {c : UInt8} {t : List UInt8} : ∀ (ns : List (List UInt8)), 0 < nameSz (c :: t) ns → ∃ n ∈ ns, n.head? = some c
  | [], h => by simp [nameSz] at h
  | n :: r, h => by
    unfold nameSz at h
    by_cases hb : begins n (c :: t) = true
    · rw [if_pos hb] at h
      cases n with
      | nil => simp at h
      | cons a p =>
        simp only [begins, Bool.and_eq_true, decide_eq_true_eq] at hb
        exact ⟨a :: p, by simp, by rw [hb.1]; rfl⟩
    · rw [if_neg hb] at h
      obtain ⟨x, hx, hh⟩ := nameSz_head r h
      exact ⟨x, by simp [hx], hh⟩
theorem faultSz_pos {c : UInt8} {t : List UInt8} (h : 0 < nameSz (c :: t) faults) : c = 35 := by
  obtain ⟨n, hn, hh⟩ := nameSz_head faults h
  have : ∀ n ∈ faults, n.head? = some 35 := by decide
  rw [this n hn] at hh
  exact (Option.some.inj hh).symm
theorem markSz_pos {c : UInt8} {t : List UInt8} (h : 0 < nameSz (c :: t) marks) : mk c = true := by
  obtain ⟨n, hn, hh⟩ := nameSz_head marks h
  unfold mk
  exact List.any_eq_true.2 ⟨n, hn, by rw [hh]; simp⟩
theorem sz1 (l : List UInt8) : sz 1 l = numSz l := rfl
theorem sz2 (l : List UInt8) : sz 2 l = txtSz l := rfl
theorem sz3 (l : List UInt8) : sz 3 l = runP wrd l := rfl
theorem sz4 (l : List UInt8) : sz 4 l = nameSz l faults := rfl
theorem sz5 (l : List UInt8) : sz 5 l = nameSz l marks := rfl
theorem cls : ∀ c : UInt8, (wrd c = true → ¬ c = 34 ∧ ¬ c = 35 ∧ mk c = false ∧ ¬ c = 32 ∧ ¬ c = 46) ∧ (dig c = true → wrd c = true) ∧ (mk c = true → ¬ c = 34 ∧ ¬ c = 35 ∧ wrd c = false ∧ ¬ c = 32 ∧ ¬ c = 46) := by
  intro c
  have key : ∀ n : Fin 256, (wrd (UInt8.ofNat n) = true → ¬ UInt8.ofNat n = 34 ∧ ¬ UInt8.ofNat n = 35 ∧ mk (UInt8.ofNat n) = false ∧ ¬ UInt8.ofNat n = 32 ∧ ¬ UInt8.ofNat n = 46) ∧ (dig (UInt8.ofNat n) = true → wrd (UInt8.ofNat n) = true) ∧ (mk (UInt8.ofNat n) = true → ¬ UInt8.ofNat n = 34 ∧ ¬ UInt8.ofNat n = 35 ∧ wrd (UInt8.ofNat n) = false ∧ ¬ UInt8.ofNat n = 32 ∧ ¬ UInt8.ofNat n = 46) := by decide +kernel
  have := key ⟨c.toNat, c.toNat_lt⟩
  simpa using this
/-- What the first byte tells of the kind, and the other way around. -/
theorem kind_of {c : UInt8} {t : List UInt8} {k : Nat} (hk : hit (c :: t) = k) (h6 : ¬ k = 6) :
    (k = 1 ∧ dig c = true ∨ k = 2 ∧ c = 34 ∨ k = 3 ∧ wrd c = true ∧ dig c = false ∨ k = 4 ∧ c = 35 ∨ k = 5 ∧ mk c = true) := by
  have hp := hit_pos (l := c :: t) (by rw [hk]; exact h6)
  have h1 := hit_low (c :: t)
  have h2 := hit_high (c :: t)
  rw [hk] at hp h1 h2
  have : k = 1 ∨ k = 2 ∨ k = 3 ∨ k = 4 ∨ k = 5 := by omega
  rcases this with rfl | rfl | rfl | rfl | rfl
  · exact Or.inl ⟨rfl, numSz_pos.1 hp⟩
  · exact Or.inr (Or.inl ⟨rfl, txtSz_pos hp⟩)
  · refine Or.inr (Or.inr (Or.inl ⟨rfl, wrdSz_pos.1 hp, ?_⟩))
    cases hd : dig c with
    | false => rfl
    | true =>
      have : hit (c :: t) = 1 := hit_first (by omega) (by omega) (numSz_pos.2 hd) (fun j a b => by omega)
      rw [this] at hk; omega
  · exact Or.inr (Or.inr (Or.inr (Or.inl ⟨rfl, faultSz_pos hp⟩)))
  · exact Or.inr (Or.inr (Or.inr (Or.inr ⟨rfl, markSz_pos hp⟩)))
/-- The kind by the first byte, where a token of it stands. -/
theorem hit_of {c : UInt8} {t : List UInt8} {k : Nat} (h : k = 1 ∧ dig c = true ∨ k = 2 ∧ c = 34 ∨ k = 3 ∧ wrd c = true ∧ dig c = false ∨ k = 4 ∧ c = 35 ∨ k = 5 ∧ mk c = true) (hp : 0 < sz k (c :: t)) : hit (c :: t) = k := by
  obtain ⟨c1, c2, c3⟩ := cls c
  have z1 : dig c = false → sz 1 (c :: t) = 0 := fun hd => by
    have : ¬ 0 < numSz (c :: t) := fun h => by rw [numSz_pos.1 h] at hd; cases hd
    rw [sz1]; omega
  have z2 : ¬ c = 34 → sz 2 (c :: t) = 0 := fun hd => by
    have : ¬ 0 < txtSz (c :: t) := fun h => hd (txtSz_pos h)
    rw [sz2]; omega
  have z3 : wrd c = false → sz 3 (c :: t) = 0 := fun hd => by
    have : ¬ 0 < runP wrd (c :: t) := fun h => by rw [wrdSz_pos.1 h] at hd; cases hd
    rw [sz3]; omega
  have z4 : ¬ c = 35 → sz 4 (c :: t) = 0 := fun hd => by
    have : ¬ 0 < nameSz (c :: t) faults := fun h => hd (faultSz_pos h)
    rw [sz4]; omega
  have nd : wrd c = false → dig c = false := fun h => by
    cases hd : dig c with
    | false => rfl
    | true => rw [c2 hd] at h; cases h
  rcases h with ⟨rfl, hd⟩ | ⟨rfl, rfl⟩ | ⟨rfl, hw, hd⟩ | ⟨rfl, rfl⟩ | ⟨rfl, hm⟩
  · exact hit_first (by omega) (by omega) hp (fun j a b => by omega)
  · exact hit_first (by omega) (by omega) hp (fun j a b => by
      obtain rfl : j = 1 := by omega
      exact z1 (by decide))
  · obtain ⟨a1, a2, a3, a4, a5⟩ := c1 hw
    exact hit_first (by omega) (by omega) hp (fun j a b => by
      have : j = 1 ∨ j = 2 := by omega
      rcases this with rfl | rfl
      · exact z1 hd
      · exact z2 a1)
  · exact hit_first (by omega) (by omega) hp (fun j a b => by
      have : j = 1 ∨ j = 2 ∨ j = 3 := by omega
      rcases this with rfl | rfl | rfl
      · exact z1 (by decide)
      · exact z2 (by decide)
      · exact z3 (by decide))
  · obtain ⟨a1, a2, a3, a4, a5⟩ := c3 hm
    exact hit_first (by omega) (by omega) hp (fun j a b => by
      have : j = 1 ∨ j = 2 ∨ j = 3 ∨ j = 4 := by omega
      rcases this with rfl | rfl | rfl | rfl
      · exact z1 (nd a3)
      · exact z2 a1
      · exact z3 a3
      · exact z4 a2)
end Wlx
