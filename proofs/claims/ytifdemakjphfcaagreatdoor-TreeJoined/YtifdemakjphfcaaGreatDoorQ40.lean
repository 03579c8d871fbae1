/- TRtB, TRtC, TJoinP. -/
import Derived.Test.YtifdemakjphfcaaGreatDoorQ39
namespace Go.Proofs.YtifdemakjphfcaaGreatDoor
open Go.RowKit Go.Shelf
set_option linter.unusedVariables false
def Par6 (T : List (Nat × List UInt8)) (row : List Wt.Nd) : Prop := NoSg T ∧ ∀ (en : Int) (f : Nat) (us tl : List Wlx.TV), Rep us T → Fol tl → 10 * T.length + 3 ≤ f → lv en f 6 (us ++ tl) = pct tl.length row tl
def Par5 (T : List (Nat × List UInt8)) (row : List Wt.Nd) : Prop := ∀ (en : Int) (f : Nat) (us tl : List Wlx.TV), Rep us T → Fol tl → tkOp 6 tl = none → 10 * T.length + 4 ≤ f → lv en f 5 (us ++ tl) = .inl (row, tl)
def Lo (k : Nat) (tl : List Wlx.TV) : Prop := ∀ j : Nat, k < j → j ≤ 6 → ¬ j = 5 → tkOp (j : Int) tl = none
def ParK (k : Nat) (T : List (Nat × List UInt8)) (row : List Wt.Nd) : Prop := ∀ (en : Int) (f : Nat) (us tl : List Wlx.TV), Rep us T → Fol tl → Lo k tl → 10 * T.length + 9 - k ≤ f + 1 → lv en (f + 1) k (us ++ tl) = more (lv en f (k + 1)) (k : Int) tl.length row tl
def Par (k : Nat) (T : List (Nat × List UInt8)) (row : List Wt.Nd) : Prop := if k = 7 then Par7 T row else if k = 6 then Par6 T row else if k = 5 then Par5 T row else ParK k T row
theorem pct_no {n : Nat} {row : List Wt.Nd} {tl : List Wlx.TV} (h : tkOp 6 tl = none) : pct n row tl = .inl (row, tl) := by
  cases n with
  | zero => rfl
  | succ n => simp only [pct, h]
theorem NoSg.tk {T : List (Nat × List UInt8)} (h : NoSg T) {us : List Wlx.TV} (hr : Rep us T) (tl : List Wlx.TV) : tkOp 5 (us ++ tl) = none := by
  obtain ⟨k, t, q, rfl, hh⟩ := h
  obtain ⟨p, u, rfl, hu⟩ := hr.cons
  rw [List.cons_append]
  rcases hh with hh | rfl
  · unfold tkOp
    simp only
    rw [if_neg (by omega)]
  · unfold tkOp
    simp only
    rw [show Wt.opAs [40] 5 = none by decide]
    split <;> rfl
theorem par76 {T : List (Nat × List UInt8)} {row : List Wt.Nd} (h : Par7 T row) : Par6 T row := by
  refine ⟨h.1, fun en f us tl hr hf hl => ?_⟩
  obtain ⟨f, rfl⟩ : ∃ g, f = g + 1 := ⟨f - 1, by omega⟩
  rw [lv_pc]; unfold ppc
  rw [h.2 en f us tl hr hf (by omega)]
theorem par65 {T : List (Nat × List UInt8)} {row : List Wt.Nd} (h : Par6 T row) : Par5 T row := by
  intro en f us tl hr hf h6 hl
  obtain ⟨f, rfl⟩ : ∃ g, f = g + 1 := ⟨f - 1, by omega⟩
  rw [lv_sg]; unfold psg
  rw [h.1.tk hr tl]
  simp only
  rw [h.2 en f us tl hr hf (by omega), pct_no h6]
theorem par54 {T : List (Nat × List UInt8)} {row : List Wt.Nd} (h : Par5 T row) : ParK 4 T row := by
  intro en f us tl hr hf hlo hl
  rw [lv_bt _ _ _ (by omega)]; unfold pbt
  rw [h en f us tl hr hf (hlo 6 (by omega) (by omega) (by omega)) (by omega)]
theorem parkk {k : Nat} (hk : k < 4) {T : List (Nat × List UInt8)} {row : List Wt.Nd} (h : ParK (k + 1) T row) : ParK k T row := by
  intro en f us tl hr hf hlo hl
  obtain ⟨f, rfl⟩ : ∃ g, f = g + 1 := ⟨f - 1, by omega⟩
  rw [lv_bt _ _ _ (by omega)]; unfold pbt
  rw [h en f us tl hr hf (fun j h1 h2 h3 => hlo j (by omega) h2 h3) (by omega), more_not' (hlo (k + 1) (by omega) (by omega) (by omega))]
theorem par_step {k : Nat} (hk : k < 7) {T : List (Nat × List UInt8)} {row : List Wt.Nd} (h : Par (k + 1) T row) : Par k T row := by
  unfold Par at *
  by_cases h6 : k = 6
  · subst h6
    rw [if_pos rfl] at h
    rw [if_neg (by decide), if_pos rfl]
    exact par76 h
  by_cases h5 : k = 5
  · subst h5
    rw [if_neg (by decide), if_pos rfl] at h
    rw [if_neg (by decide), if_neg (by decide), if_pos rfl]
    exact par65 h
  by_cases h4 : k = 4
  · subst h4
    rw [if_neg (by decide), if_neg (by decide), if_pos rfl] at h
    rw [if_neg (by decide), if_neg (by decide), if_neg (by decide)]
    exact par54 h
  · rw [if_neg (by omega), if_neg (by omega), if_neg (by omega)] at h
    rw [if_neg (by omega), if_neg (by omega), if_neg (by omega)]
    exact parkk (by omega) h
theorem par_le {T : List (Nat × List UInt8)} {row : List Wt.Nd} : ∀ (n k : Nat), k + n ≤ 7 → Par (k + n) T row → Par k T row := by
  intro n
  induction n with
  | zero => intro k _ h; exact h
  | succ n ih => intro k hk h; exact ih k (by omega) (par_step (by omega) (by rw [Nat.add_assoc]; exact h))
theorem par_end {k : Nat} (hk : k < 5) {T : List (Nat × List UInt8)} {row : List Wt.Nd} (h : Par (k + 1) T row) {en : Int} {f : Nat} {us tl : List Wlx.TV} (hr : Rep us T) (hf : Fol tl) (hlo : Lo k tl) (hl : 10 * T.length + 8 - k ≤ f) : lv en f (k + 1) (us ++ tl) = .inl (row, tl) := by
  unfold Par at h
  obtain ⟨f, rfl⟩ : ∃ g, f = g + 1 := ⟨f - 1, by omega⟩
  by_cases h4 : k = 4
  · subst h4
    rw [if_neg (by decide), if_neg (by decide), if_pos rfl] at h
    exact h en _ us tl hr hf (hlo 6 (by omega) (by omega) (by omega)) (by omega)
  · rw [if_neg (by omega), if_neg (by omega), if_neg (by omega)] at h
    rw [h en f us tl hr hf (fun j h1 h2 h3 => hlo j (by omega) h2 h3) (by omega), more_not' (hlo (k + 1) (by omega) (by omega) (by omega))]
theorem par_form {T : List (Nat × List UInt8)} {row : List Wt.Nd} (h : Par 0 T row) {en : Int} {f : Nat} {us tl : List Wlx.TV} (hr : Rep us T) (hf : Fol tl) (hop : ∀ j, tkOp j tl = none) (hl : 10 * T.length + 9 ≤ f) : lv en f 0 (us ++ tl) = .inl (row, tl) := by
  unfold Par at h
  rw [if_neg (by decide), if_neg (by decide), if_neg (by decide)] at h
  obtain ⟨f, rfl⟩ : ∃ g, f = g + 1 := ⟨f - 1, by omega⟩
  rw [h en f us tl hr hf (fun j _ _ _ => hop j) (by omega), more_not' (hop _)]
theorem more_any {sub : List Wlx.TV → PR} (hsub : ∀ ts row r, sub ts = .inl (row, r) → r <:+ ts) (k : Int) : ∀ (n m : Nat) (row : List Wt.Nd) (ts : List Wlx.TV), ts.length ≤ n → ts.length ≤ m → more sub k n row ts = more sub k m row ts := by
  intro n
  induction n with
  | zero =>
    intro m row ts h1 h2
    obtain rfl := List.eq_nil_of_length_eq_zero (Nat.le_zero.1 h1)
    rw [more_not' rfl, more_not' rfl]
  | succ n ih =>
    intro m row ts h1 h2
    cases ht : tkOp k ts with
    | none => rw [more_not' ht, more_not' ht]
    | some q =>
      obtain ⟨o, r⟩ := q
      have l1 := (tkOp_suf ht).2
      obtain ⟨m, rfl⟩ : ∃ g, m = g + 1 := ⟨m - 1, by omega⟩
      simp only [more, ht]
      cases hs : sub r with
      | inr e => rfl
      | inl q2 =>
        obtain ⟨row2, r2⟩ := q2
        have l2 := (hsub _ _ _ hs).length_le
        simp only
        exact ih m _ _ (by omega) (by omega)
theorem tkOp_is {m : List UInt8} {k : Int} {o : Int × List UInt8 × Int} (h : Wt.opAs m k = some o) (p : Int) (r : List Wlx.TV) : tkOp k (⟨((5 : Nat) : Int), m, p⟩ :: r) = some (o, r) := by
  unfold tkOp
  simp only
  rw [if_pos (by rfl), h]
  rfl
theorem tkOp_not {m : List UInt8} {k : Int} (h : Wt.opAs m k = none) (p : Int) (r : List Wlx.TV) : tkOp k (⟨((5 : Nat) : Int), m, p⟩ :: r) = none := by
  unfold tkOp
  simp only
  rw [h]
  split <;> rfl
theorem fol_op {m : List UInt8} (h1 : ¬ m = [40]) (h2 : ¬ m = [33]) (h3 : ¬ m = [58]) (p : Int) (r : List Wlx.TV) : Fol (⟨((5 : Nat) : Int), m, p⟩ :: r) := by
  intro c q e
  obtain ⟨rfl, rfl⟩ := List.cons.inj e
  refine ⟨?_, ?_, ?_⟩
  · unfold isMk; simp [h1]
  · unfold isMk; simp [h2]
  · unfold isMk; simp [h3]
def Hd1 (T : List (Nat × List UInt8)) : Prop := ∃ k t q, T = (k, t) :: q ∧ ¬ (k = 5 ∧ t = [41])
theorem NoSg.hd {T : List (Nat × List UInt8)} (h : NoSg T) : Hd1 T := by
  obtain ⟨k, t, q, rfl, hh⟩ := h
  refine ⟨k, t, q, rfl, fun e => ?_⟩
  rcases hh with hh | rfl
  · exact hh e.1
  · exact absurd e.2 (by decide)
theorem Hd1.app {T : List (Nat × List UInt8)} (h : Hd1 T) (S : List (Nat × List UInt8)) : Hd1 (T ++ S) := by
  obtain ⟨k, t, q, rfl, hh⟩ := h
  exact ⟨k, t, q ++ S, rfl, hh⟩
theorem par_sign {T : List (Nat × List UInt8)} {row : List Wt.Nd} {m : List UInt8} {o : Int × List UInt8 × Int} (hm : Wt.opAs m 5 = some o) (h : Par5 T row) : Par5 ((5, m) :: T) (opN (opKd o.2.2) o.1 :: row) := by
  intro en f us tl hr hf h6 hl
  obtain ⟨p, q, rfl, hq⟩ := hr.cons
  simp only [List.length_cons] at hl
  obtain ⟨f, rfl⟩ : ∃ g, f = g + 1 := ⟨f - 1, by omega⟩
  rw [lv_sg, List.cons_append]; unfold psg
  rw [tkOp_is hm]
  simp only
  rw [h en f q tl hq hf h6 (by omega)]
theorem par_pct {T : List (Nat × List UInt8)} {row : List Wt.Nd} {m : List UInt8} {o : Int × List UInt8 × Int} (hm : Wt.opAs m 6 = some o) (h1 : ¬ m = [40]) (h2 : ¬ m = [33]) (h3 : ¬ m = [58]) (h : Par6 T row) : Par6 (T ++ [(5, m)]) (opN (opKd o.2.2) o.1 :: row) := by
  refine ⟨?_, fun en f us tl hr hf hl => ?_⟩
  · obtain ⟨k, t, q, rfl, hh⟩ := h.1
    exact ⟨k, t, _, rfl, hh⟩
  · obtain ⟨a, b, rfl, ha, hb⟩ := hr.app
    obtain ⟨p, q, rfl, hq⟩ := hb.cons
    rw [hq.nil, List.append_assoc, List.cons_append, List.nil_append]
    simp only [List.length_append, List.length_cons, List.length_nil] at hl
    rw [h.2 en f a _ ha (fol_op h1 h2 h3 p tl) (by omega), List.length_cons]
    simp only [pct, tkOp_is hm]
theorem par_bin {k : Nat} (hk : k < 5) {T S : List (Nat × List UInt8)} {row row2 : List Wt.Nd} {m : List UInt8} {o : Int × List UInt8 × Int} (hm : Wt.opAs m (k : Int) = some o) (hlo : ∀ j : Nat, k < j → j ≤ 6 → ¬ j = 5 → Wt.opAs m (j : Int) = none) (h1 : ¬ m = [40]) (h2 : ¬ m = [33]) (h3 : ¬ m = [58])
    (h : ParK k T row) (hS : Par (k + 1) S row2) : ParK k (T ++ (5, m) :: S) (opN (opKd o.2.2) o.1 :: (row ++ row2)) := by
  intro en f us tl hr hf ho hl
  obtain ⟨a, b, rfl, ha, hb⟩ := hr.app
  obtain ⟨p, q, rfl, hq⟩ := hb.cons
  simp only [List.length_append, List.length_cons] at hl
  rw [List.append_assoc, List.cons_append]
  rw [h en f a _ ha (fol_op h1 h2 h3 p _) (fun j x y z => tkOp_not (hlo j x y z) p _) (by omega), List.length_cons]
  simp only [more, tkOp_is hm]
  rw [par_end hk hS hq hf ho (by omega)]
  simp only
  exact more_any (lv_suf en f (k + 1)) _ _ _ _ _ (by rw [List.length_append]; omega) (Nat.le_refl _)
def Rt (k : Nat) (u : List UInt8) (row : List Wt.Nd) : Prop := ∃ T, Wlx.Wr u T ∧ Wlx.Hdk u ∧ Hd1 T ∧ Par k T row
theorem Rt.le {k k' : Nat} (h : k ≤ k') (h7 : k' ≤ 7) {u : List UInt8} {row : List Wt.Nd} (hr : Rt k' u row) : Rt k u row := by
  obtain ⟨T, h1, h2, h3, h4⟩ := hr
  exact ⟨T, h1, h2, h3, par_le (k' - k) k (by omega) (by rw [show k + (k' - k) = k' by omega]; exact h4)⟩
theorem Rt.single {u : List UInt8} {row : List Wt.Nd} {T : List (Nat × List UInt8)} (h1 : Wlx.Wr u T) (h2 : Wlx.Hdk u) (h3 : Par7 T row) : Rt 7 u row := ⟨T, h1, h2, h3.1.hd, by unfold Par; rw [if_pos rfl]; exact h3⟩
theorem ops_facts : ∀ o ∈ Wt.opsT, Wt.opAs o.2.1 o.2.2 = some o ∧ o.2.1 ∈ Wlx.marks ∧ ¬ o.2.1 = [40] ∧ ¬ o.2.1 = [33] ∧ ¬ o.2.1 = [58] ∧ ¬ o.2.1 = [41] ∧ (∀ j : Fin 7, o.2.2 < (j.val : Int) → ¬ j.val = 5 → o.2.2 < 5 → Wt.opAs o.2.1 (j.val : Int) = none) ∧ (5 ≤ o.2.2 → ¬ o.2.1 = [60] ∧ ¬ o.2.1 = [62] ∧ ¬ o.2.1 = [61]) ∧ 0 ≤ o.2.2 ∧ o.2.2 ≤ 6 := by
  intro o ho
  simp only [Wt.opsT, List.mem_cons, List.not_mem_nil, or_false] at ho
  rcases ho with rfl | rfl | rfl | rfl | rfl | rfl | rfl | rfl | rfl | rfl | rfl | rfl | rfl | rfl | rfl <;> exact ⟨by rfl, by decide, by decide, by decide, by decide, by decide, by decide, by decide, by decide, by decide⟩
theorem mark_hdk {m : List UInt8} (h : m ∈ Wlx.marks) (h5 : ¬ m = [60] ∧ ¬ m = [62] ∧ ¬ m = [61]) (h2 : m.length = 1) (u : List UInt8) : Wlx.Hdk (m ++ u) := by
  cases m with
  | nil => cases h2
  | cons c t =>
    simp only [List.length_cons, Nat.add_eq_right, List.length_eq_zero_iff] at h2
    subst h2
    exact ⟨c, u, rfl, fun e => h5.2.2 (by rw [e]), fun e => h5.2.1 (by rw [e])⟩
theorem Wlx.Hdk.app {u : List UInt8} (h : Wlx.Hdk u) (v : List UInt8) : Wlx.Hdk (u ++ v) := by
  obtain ⟨c, t, rfl, q⟩ := h
  exact ⟨c, t ++ v, rfl, q⟩
theorem Rt.sign {u : List UInt8} {row : List Wt.Nd} {o : Int × List UInt8 × Int} (ho : o ∈ Wt.opsT) (h5 : o.2.2 = 5) (h : Rt 5 u row) : Rt 5 (o.2.1 ++ u) (opN (opKd o.2.2) o.1 :: row) := by
  obtain ⟨T, h1, h2, h3, h4⟩ := h
  obtain ⟨f1, f2, f3, f4, f5, f6, f7, f8, -, -⟩ := ops_facts o ho
  have hl : ∀ o ∈ Wt.opsT, 5 ≤ o.2.2 → o.2.1.length = 1 := by decide
  refine ⟨(5, o.2.1) :: T, Wlx.Wr.mark f2 h2 h1, mark_hdk f2 (f8 (by omega)) (hl o ho (by omega)) u, ⟨5, o.2.1, T, rfl, fun e => f6 e.2⟩, ?_⟩
  unfold Par at *
  rw [if_neg (by decide), if_neg (by decide), if_pos rfl] at *
  rw [h5] at f1
  exact par_sign f1 h4
theorem Rt.pct {u : List UInt8} {row : List Wt.Nd} {o : Int × List UInt8 × Int} (ho : o ∈ Wt.opsT) (h6 : o.2.2 = 6) (h : Rt 6 u row) : Rt 6 (u ++ o.2.1) (opN (opKd o.2.2) o.1 :: row) := by
  obtain ⟨T, h1, h2, h3, h4⟩ := h
  obtain ⟨f1, f2, f3, f4, f5, f6, f7, f8, -, -⟩ := ops_facts o ho
  have hne : o.2.1 ≠ [] := fun e => by rw [e] at f2; exact absurd f2 (by decide)
  have ha := Wlx.mark_aft f2 []
  rw [List.append_nil] at ha
  refine ⟨T ++ [(5, o.2.1)], h1.app (Wlx.Wr.still f2 (f8 (by omega)).1 (f8 (by omega)).2.1) hne ha, Wlx.Hdk.app h2 _, h3.app _, ?_⟩
  unfold Par at *
  rw [if_neg (by decide), if_pos rfl] at *
  rw [h6] at f1
  exact par_pct f1 f3 f4 f5 h4
theorem Rt.bin {k : Nat} {u v : List UInt8} {row row2 : List Wt.Nd} {o : Int × List UInt8 × Int} (ho : o ∈ Wt.opsT) (hk : o.2.2 = (k : Int)) (h5 : k < 5) (h : Rt k u row) (hv : Rt (k + 1) v row2) : Rt k (u ++ o.2.1 ++ v) (opN (opKd o.2.2) o.1 :: (row ++ row2)) := by
  obtain ⟨T, h1, h2, h3, h4⟩ := h
  obtain ⟨S, g1, g2, g3, g4⟩ := hv
  obtain ⟨f1, f2, f3, f4, f5, f6, f7, f8, -, -⟩ := ops_facts o ho
  have hne : o.2.1 ≠ [] := fun e => by rw [e] at f2; exact absurd f2 (by decide)
  have hw := Wlx.Wr.mark f2 g2 g1
  rw [List.append_assoc]
  refine ⟨T ++ (5, o.2.1) :: S, h1.app hw (by simp [hne]) (Wlx.mark_aft f2 v), Wlx.Hdk.app h2 _, h3.app _, ?_⟩
  have hP : ParK k T row := by
    unfold Par at h4
    rw [if_neg (by omega), if_neg (by omega), if_neg (by omega)] at h4
    exact h4
  have := par_bin h5 (by rw [← hk]; exact f1) (fun j a b c => f7 ⟨j, by omega⟩ (by simp only; omega) c (by omega)) f3 f4 f5 hP g4
  unfold Par
  rw [if_neg (by omega), if_neg (by omega), if_neg (by omega)]
  exact this
theorem lv_first (en : Int) : ∀ (f k : Nat) (ts : List Wlx.TV) (row : List Wt.Nd) (r : List Wlx.TV), lv en f k ts = .inl (row, r) → ∃ t q, ts = t :: q ∧ isMk t [41] = false := by
  intro f
  induction f with
  | zero => intro k ts row r h; cases h
  | succ f ih =>
    intro k ts row r h
    by_cases h5 : k < 5
    · rw [lv_bt _ _ _ h5] at h
      unfold pbt at h
      cases h1 : lv en f (k + 1) ts with
      | inr e => rw [h1] at h; cases h
      | inl q => obtain ⟨row1, r1⟩ := q; exact ih _ _ _ _ h1
    by_cases e5 : k = 5
    · subst e5
      rw [lv_sg] at h
      unfold psg at h
      cases h1 : tkOp 5 ts with
      | none => rw [h1] at h; exact ih _ _ _ _ h
      | some q =>
        cases ts with
        | nil => cases h1
        | cons t q =>
          refine ⟨t, q, rfl, ?_⟩
          cases hm : isMk t [41] with
          | false => rfl
          | true =>
            unfold isMk at hm
            simp only [Bool.and_eq_true, beq_iff_eq] at hm
            unfold tkOp at h1
            simp only at h1
            rw [hm.2, opAs_41] at h1
            split at h1 <;> cases h1
    by_cases e6 : k = 6
    · subst e6
      rw [lv_pc] at h
      unfold ppc at h
      cases h1 : lv en f 7 ts with
      | inr e => rw [h1] at h; cases h
      | inl q => obtain ⟨row1, r1⟩ := q; exact ih _ _ _ _ h1
    cases ts with
    | nil =>
      simp only [lv, if_neg h5, if_neg e5, if_neg e6] at h
      rw [if_neg (by rw [hd_nil]; decide), if_neg (by rw [hd_nil]; decide)] at h
      unfold pl at h
      simp [litV, hd] at h
    | cons t q =>
      refine ⟨t, q, rfl, ?_⟩
      cases hm : isMk t [41] with
      | false => rfl
      | true =>
        exfalso
        unfold isMk at hm
        simp only [Bool.and_eq_true, beq_iff_eq] at hm
        simp only [lv, if_neg h5, if_neg e5, if_neg e6] at h
        rw [if_neg (by show ¬ t.k = 3; omega), if_pos (by show t.k = 5; exact hm.1)] at h
        unfold pbrack at h
        have : tk (t :: q) [40] = none := by simp only [tk, isMk, hm.2]; simp
        rw [this] at h
        cases h
theorem rep_same {us : List Wlx.TV} {ts : List Wlx.Tok} (h : Rep us (ts.map Wlx.kx)) : Same us (ts.map Wlx.tv) := by
  unfold Rep at h
  unfold Same
  rw [h, List.map_map, List.map_map]
  rfl
theorem rt_form {l : List UInt8} {row : List Wt.Nd} (h : prsR l = .inl row) : Rt 7 (40 :: (l ++ [41])) row := by
  obtain ⟨-, ts, hok, hlv, hc⟩ := prsR_inl h
  refine Rt.single (T := (5, [40]) :: (ts.map Wlx.kx ++ [(5, [41])])) ?_ ⟨40, _, rfl, by decide, by decide⟩ ⟨⟨5, [40], _, rfl, Or.inr rfl⟩, ?_⟩
  · intro p r ts2 hr h2
    refine ⟨⟨5, [40], p⟩ :: (ts.map (Wlx.shift (p + 1)) ++ [⟨5, [41], p + 1 + l.length⟩]), ?_, ?_⟩
    · have hs := hok.shift (p + 1)
      rw [Nat.zero_add] at hs
      have h3 : Wlx.Ok (p + 1 + l.length) (41 :: r) (⟨5, [41], p + 1 + l.length⟩ :: ts2) := Wlx.Ok.one (Or.inr (Or.inl rfl)) (by
        have e : p + (40 :: (l ++ [41])).length = p + 1 + l.length + 1 := by simp only [List.length_cons, List.length_append, List.length_nil]; omega
        rw [← e]; exact h2)
      have h4 := Wlx.Ok.one (p := p) (Or.inl rfl) (hs.app (Or.inr (Or.inl rfl)) h3)
      simpa using h4
    · simp [Wlx.kx, Wlx.shift, Function.comp_def]
  · intro en f us tl hr hf hl
    obtain ⟨p, q, rfl, hq⟩ := hr.cons
    obtain ⟨a, b, rfl, ha, hb⟩ := hq.app
    obtain ⟨p2, q2, rfl, hq2⟩ := hb.cons
    rw [hq2.nil]
    simp only [List.length_append, List.length_cons, List.length_nil, List.length_map] at hl
    obtain ⟨f, rfl⟩ : ∃ g, f = g + 1 := ⟨f - 1, by omega⟩
    rw [List.cons_append, List.append_assoc, List.cons_append, List.nil_append]
    exact lv_brack (by rw [List.length_map]; omega) hlv (rep_same ha) p p2 tl
theorem rt_prs {u : List UInt8} {row : List Wt.Nd} (h : Rt 0 u row) (hl : u.length ≤ 1024) : prsR u = if Wt.check row = 0 then .inl row else .inr (Wt.check row, 0) := by
  obtain ⟨T, t1, t2, t3, t4⟩ := h
  obtain ⟨ts, o1, o2⟩ := t1 0 [] [] Wlx.Aft.nil (Wlx.Ok.nil _)
  rw [List.append_nil, List.append_nil] at o1
  have hrep : Rep (ts.map Wlx.tv) T := by
    unfold Rep
    rw [← o2, List.map_map, List.map_map]
    rfl
  have hlv := par_form t4 (en := (u.length : Int)) (f := 10 * (ts.map Wlx.tv).length + 9) (tl := []) hrep (fun c q e => by cases e) (fun j => rfl) (by rw [hrep.len]; omega)
  rw [List.append_nil] at hlv
  exact prsR_of hl o1 hlv
theorem join_op {s t : List UInt8} {l m : List Wt.Nd} (hs : prsR s = .inl l) (ht : prsR t = .inl m) {o : Int × List UInt8 × Int} (ho : o ∈ Wt.opsT) (h5 : o.2.2 < 5) (hl : s.length + t.length ≤ 1000) :
    prsR (40 :: (s ++ [41]) ++ o.2.1 ++ 40 :: (t ++ [41])) = if Wt.check (opN 5 o.1 :: (l ++ m)) = 0 then .inl (opN 5 o.1 :: (l ++ m)) else .inr (Wt.check (opN 5 o.1 :: (l ++ m)), 0) := by
  obtain ⟨-, -, -, -, -, -, -, -, h0, -⟩ := ops_facts o ho
  have hm : ∀ o ∈ Wt.opsT, o.2.1.length ≤ 2 := by decide
  have hm2 := hm o ho
  obtain ⟨k, hk⟩ : ∃ k : Nat, o.2.2 = k := ⟨o.2.2.toNat, by omega⟩
  have R := Rt.bin ho hk (by omega) ((rt_form hs).le (show k ≤ 7 by omega) (Nat.le_refl _)) ((rt_form ht).le (show k + 1 ≤ 7 by omega) (Nat.le_refl _))
  have e : opKd o.2.2 = 5 := by unfold opKd; rw [if_pos h5]
  rw [e] at R
  refine rt_prs (R.le (Nat.zero_le _) (by omega)) ?_
  simp only [List.length_append, List.length_cons, List.length_nil]; omega
theorem join_call {s t : List UInt8} {l m : List Wt.Nd} (hs : prsR s = .inl l) (ht : prsR t = .inl m) (hl : s.length + t.length ≤ 1000) :
    prsR ([70, 78, 40] ++ s ++ [44] ++ t ++ [41]) = if Wt.check (callN ⟨#[70, 78]⟩ 2 :: (l ++ m)) = 0 then .inl (callN ⟨#[70, 78]⟩ 2 :: (l ++ m)) else .inr (Wt.check (callN ⟨#[70, 78]⟩ 2 :: (l ++ m)), 0) := by
  obtain ⟨-, ts, hok, hlv, -⟩ := prsR_inl hs
  obtain ⟨-, us, hok2, hlv2, -⟩ := prsR_inl ht
  have e0 : [70, 78, 40] ++ s ++ [44] ++ t ++ [41] = [70, 78] ++ (40 :: (s ++ 44 :: (t ++ [41]))) := by simp
  have hk : Wlx.Ok 0 ([70, 78] ++ (40 :: (s ++ 44 :: (t ++ [41])))) (⟨3, [70, 78], 0⟩ :: ⟨5, [40], 2⟩ :: (ts.map (Wlx.shift 3) ++ ⟨5, [44], 3 + s.length⟩ :: (us.map (Wlx.shift (3 + s.length + 1)) ++ [⟨5, [41], 3 + s.length + 1 + t.length⟩]))) := by
    have h1 := hok2.shift (3 + s.length + 1)
    rw [Nat.zero_add] at h1
    have h2 := h1.app (Or.inr (Or.inl rfl)) (Wlx.Ok.one (p := 3 + s.length + 1 + t.length) (Or.inr (Or.inl rfl)) (Wlx.Ok.nil _))
    have h3 := Wlx.Ok.one (p := 3 + s.length) (d := 44) (Or.inr (Or.inr rfl)) h2
    have h4 := hok.shift 3
    rw [Nat.zero_add] at h4
    have h5 := Wlx.Ok.one (p := 2) (d := 40) (Or.inl rfl) (h4.app (Or.inr (Or.inr rfl)) h3)
    have h6 := Wlx.Ok.tok (p := 0) (k := 3) (u := [70, 78]) (Wlx.at_word (c := 70) (t := [78]) (by decide) (by decide) (Wlx.Aft.cons (c := 40) (r := s ++ 44 :: (t ++ [41])) (by decide))) (by decide) h5
    rw [Wlx.said_other (by decide)] at h6
    exact h6
  rw [e0]
  refine prsR_of (by simp only [List.length_append, List.length_cons, List.length_nil]; omega) hk ?_
  obtain ⟨t0, q0, e1, hm1⟩ := lv_first _ _ _ _ _ _ hlv
  generalize (([70, 78] ++ (40 :: (s ++ 44 :: (t ++ [41])))).length : Int) = en
  have emap : (⟨3, [70, 78], 0⟩ :: ⟨5, [40], 2⟩ :: (ts.map (Wlx.shift 3) ++ ⟨5, [44], 3 + s.length⟩ :: (us.map (Wlx.shift (3 + s.length + 1)) ++ [⟨5, [41], 3 + s.length + 1 + t.length⟩])) : List Wlx.Tok).map Wlx.tv = (⟨3, [70, 78], 0⟩ : Wlx.TV) :: ⟨5, [40], 2⟩ :: ((ts.map (Wlx.shift 3)).map Wlx.tv ++ ⟨5, [44], ((3 + s.length : Nat) : Int)⟩ :: ((us.map (Wlx.shift (3 + s.length + 1))).map Wlx.tv ++ [⟨5, [41], ((3 + s.length + 1 + t.length : Nat) : Int)⟩])) := by
    simp [Wlx.tv]
  have s1 := shift_same ts 3
  have s2 := shift_same us (3 + s.length + 1)
  have l1 := s1.len
  have l2 := s2.len
  rw [emap]
  generalize (ts.map (Wlx.shift 3)).map Wlx.tv = a at *
  generalize (us.map (Wlx.shift (3 + s.length + 1))).map Wlx.tv = b at *
  have hf : 10 * ((⟨3, [70, 78], 0⟩ : Wlx.TV) :: ⟨5, [40], 2⟩ :: (a ++ ⟨5, [44], ((3 + s.length : Nat) : Int)⟩ :: (b ++ [⟨5, [41], ((3 + s.length + 1 + t.length : Nat) : Int)⟩]))).length + 9 = (10 * (a.length + b.length) + 41 + 1) + 7 := by
    simp only [List.length_cons, List.length_append, List.length_nil]; omega
  rw [hf]
  generalize ((3 + s.length : Nat) : Int) = p1
  generalize ((3 + s.length + 1 + t.length : Nat) : Int) = p2
  refine lv_down en _ ?_ (fun k => rfl) (by unfold tkOp; simp)
  rw [lv_si]
  unfold psi
  rw [if_pos (by rfl)]
  unfold pword
  rw [show fol ((⟨3, [70, 78], 0⟩ : Wlx.TV) :: ⟨5, [40], 2⟩ :: (a ++ ⟨5, [44], p1⟩ :: (b ++ [⟨5, [41], p2⟩]))) [40] = true from rfl, if_pos rfl, if_pos (by show Wt.fnNm ⟨#[70, 78]⟩ = true; decide)]
  show pargs _ en [70, 78] (a ++ ⟨5, [44], p1⟩ :: (b ++ [⟨5, [41], p2⟩])) = _
  unfold pargs
  have htk : tk (a ++ ⟨5, [44], p1⟩ :: (b ++ [⟨5, [41], p2⟩])) [41] = none := by
    rw [e1] at s1
    obtain ⟨u, q, rfl, hk, hT, -⟩ := s1.cons
    rw [List.cons_append]
    simp only [tk, isMk_same hk hT, hm1]
    rfl
  rw [htk]
  simp only
  obtain ⟨r1, f1, z1⟩ := lv_ext _ en _ (10 * (a.length + b.length) + 41) (by omega) 0 _ _ _ hlv a (⟨5, [44], p1⟩ :: (b ++ [⟨5, [41], p2⟩])) s1 (Or.inr ⟨_, _, rfl, rfl, Or.inr rfl⟩)
  rw [z1.nil, List.nil_append] at f1
  rw [f1]
  simp only
  obtain ⟨r2, f2, z2⟩ := lv_ext _ en _ (10 * (a.length + b.length) + 41) (by omega) 0 _ _ _ hlv2 b [⟨5, [41], p2⟩] s2 (Or.inr ⟨_, _, rfl, rfl, Or.inl rfl⟩)
  rw [z2.nil, List.nil_append] at f2
  have hN : (⟨5, [44], p1⟩ :: (b ++ [⟨5, [41], p2⟩]) : List Wlx.TV).length + 1 = b.length + 1 + 1 + 1 := by simp
  rw [hN]
  simp only [argl]
  rw [show tk (⟨5, [44], p1⟩ :: (b ++ [⟨5, [41], p2⟩])) [41] = none from rfl]
  simp only
  rw [if_neg (fun e => by have := e.1; omega), show tk (⟨5, [44], p1⟩ :: (b ++ [⟨5, [41], p2⟩])) [44] = some (b ++ [⟨5, [41], p2⟩]) from rfl]
  simp only
  rw [f2]
  simp only
  rw [show tk [⟨5, [41], p2⟩] [41] = some [] from rfl]
theorem check_two {x : Wt.Nd} {l m : List Wt.Nd} (hx : Wt.right x = true) (hp : Wt.parts x = 2) {f g d e : Nat} (hl : Wt.one f l = some (l.length, d)) (hm : Wt.one g m = some (m.length, e)) : Wt.check (x :: (l ++ m)) = if 256 < (x :: (l ++ m)).length then 52 else if 32 < max d e + 1 then 51 else 0 := by
  unfold Wt.check
  split
  · rfl
  · have q1 := one_loc f l _ _ hl
    have q2 := one_loc g m _ _ hm
    have h1 : Wt.one ((x :: (l ++ m)).length) (l ++ m) = some (l.length, d) := one_same hl (by simp only [List.length_cons, List.length_append]; omega) (by rw [List.take_left, List.take_length])
    have h2 : Wt.one ((x :: (l ++ m)).length) ((l ++ m).drop l.length) = some (m.length, e) := by
      rw [List.drop_left]
      exact one_same hm (by simp only [List.length_cons, List.length_append]; omega) rfl
    have h3 : Wt.many (Wt.one ((x :: (l ++ m)).length)) 2 (l ++ m) = some (l.length + m.length, max d e) := by
      simp only [Wt.many, h1, h2]
      simp
    have h4 : Wt.one ((x :: (l ++ m)).length + 1) (x :: (l ++ m)) = some (l.length + m.length + 1, max d e + 1) := by
      unfold Wt.one
      rw [if_pos hx, hp]
      show (match Wt.many (Wt.one ((x :: (l ++ m)).length)) 2 (l ++ m) with | none => none | some (s, d) => some (s + 1, d + 1)) = _
      rw [h3]
    rw [h4]
    simp only
    rw [if_neg (by simp)]
end Go.Proofs.YtifdemakjphfcaaGreatDoor
