/- TRtB. -/
import Derived.Test.YtjkchneffcppmaaGreatDoorQ45
/- Operators, brackets, calls: written and read: plain. -/
namespace Go.Proofs.YtjkchneffcppmaaGreatDoor
open Go.RowKit Go.Shelf
set_option linter.unusedVariables false

def Par6 (T : List (Nat × List UInt8)) (row : List Wt.Nd) : Prop := NoSg T ∧ ∀ (en : Int) (f : Nat) (us tl : List Wlx.TV), Rep us T → Fol tl → 10 * T.length + 3 ≤ f → lv en f 6 (us ++ tl) = pct tl.length row tl
def Par5 (T : List (Nat × List UInt8)) (row : List Wt.Nd) : Prop := ∀ (en : Int) (f : Nat) (us tl : List Wlx.TV), Rep us T → Fol tl → tkOp 6 tl = none → 10 * T.length + 4 ≤ f → lv en f 5 (us ++ tl) = .inl (row, tl)
/-- No operator that binds tighter than row k stands ahead. -/
def Lo (k : Nat) (tl : List Wlx.TV) : Prop := ∀ j : Nat, k < j → j ≤ 6 → ¬ j = 5 → tkOp (j : Int) tl = none
def ParK (k : Nat) (T : List (Nat × List UInt8)) (row : List Wt.Nd) : Prop := ∀ (en : Int) (f : Nat) (us tl : List Wlx.TV), Rep us T → Fol tl → Lo k tl → 10 * T.length + 9 - k ≤ f + 1 → lv en (f + 1) k (us ++ tl) = more (lv en f (k + 1)) (k : Int) tl.length row tl
/-- T is read as row, on row k of the grammar. -/
def Par (k : Nat) (T : List (Nat × List UInt8)) (row : List Wt.Nd) : Prop := if k = 7 then Par7 T row else if k = 6 then Par6 T row else if k = 5 then Par5 T row else ParK k T row
theorem pct_no {n : Nat} {row : List Wt.Nd} {tl : List Wlx.TV} (h : tkOp 6 tl = none) : pct n row tl = .inl (row, tl) := by
  cases n with
  | zero => rfl
  | succ n => simp only [pct, h]
theorem NoSg.tk {T : List (Nat × List UInt8)} (h : NoSg T) {us : List Wlx.TV} (hr : Rep us T) (tl : List Wlx.TV) : tkOp 5 (us ++ tl) = none := by
  obtain ⟨k, t, q, rfl, hh⟩ := h
  obtain ⟨p, u, rfl, hu⟩ := hr.cons
  rw [List.cons_append]
  rcases hh with hh | rfl
  · unfold tkOp
    simp only
    rw [if_neg (by omega)]
  · unfold tkOp
    simp only
    rw [show Wt.opAs [40] 5 = none by decide]
    split <;> rfl
theorem par76 {T : List (Nat × List UInt8)} {row : List Wt.Nd} (h : Par7 T row) : Par6 T row := by
  refine ⟨h.1, fun en f us tl hr hf hl => ?_⟩
  obtain ⟨f, rfl⟩ : ∃ g, f = g + 1 := ⟨f - 1, by omega⟩
  rw [lv_pc]; unfold ppc
  rw [h.2 en f us tl hr hf (by omega)]
theorem par65 {T : List (Nat × List UInt8)} {row : List Wt.Nd} (h : Par6 T row) : Par5 T row := by
  intro en f us tl hr hf h6 hl
  obtain ⟨f, rfl⟩ : ∃ g, f = g + 1 := ⟨f - 1, by omega⟩
  rw [lv_sg]; unfold psg
  rw [h.1.tk hr tl]
  simp only
  rw [h.2 en f us tl hr hf (by omega), pct_no h6]
theorem par54 {T : List (Nat × List UInt8)} {row : List Wt.Nd} (h : Par5 T row) : ParK 4 T row := by
  intro en f us tl hr hf hlo hl
  rw [lv_bt _ _ _ (by omega)]; unfold pbt
  rw [h en f us tl hr hf (hlo 6 (by omega) (by omega) (by omega)) (by omega)]
theorem parkk {k : Nat} (hk : k < 4) {T : List (Nat × List UInt8)} {row : List Wt.Nd} (h : ParK (k + 1) T row) : ParK k T row := by
  intro en f us tl hr hf hlo hl
  obtain ⟨f, rfl⟩ : ∃ g, f = g + 1 := ⟨f - 1, by omega⟩
  rw [lv_bt _ _ _ (by omega)]; unfold pbt
  rw [h en f us tl hr hf (fun j h1 h2 h3 => hlo j (by omega) h2 h3) (by omega), more_not' (hlo (k + 1) (by omega) (by omega) (by omega))]
theorem par_step {k : Nat} (hk : k < 7) {T : List (Nat × List UInt8)} {row : List Wt.Nd} (h : Par (k + 1) T row) : Par k T row := by
  unfold Par at *
  by_cases h6 : k = 6
  · subst h6
    rw [if_pos rfl] at h
    rw [if_neg (by decide), if_pos rfl]
    exact par76 h
  by_cases h5 : k = 5
  · subst h5
    rw [if_neg (by decide), if_pos rfl] at h
    rw [if_neg (by decide), if_neg (by decide), if_pos rfl]
    exact par65 h
  by_cases h4 : k = 4
  · subst h4
    rw [if_neg (by decide), if_neg (by decide), if_pos rfl] at h
    rw [if_neg (by decide), if_neg (by decide), if_neg (by decide)]
    exact par54 h
  · rw [if_neg (by omega), if_neg (by omega), if_neg (by omega)] at h
    rw [if_neg (by omega), if_neg (by omega), if_neg (by omega)]
    exact parkk (by omega) h
theorem par_le {T : List (Nat × List UInt8)} {row : List Wt.Nd} : ∀ (n k : Nat), k + n ≤ 7 → Par (k + n) T row → Par k T row := by
  intro n
  induction n with
  | zero => intro k _ h; exact h
  | succ n ih => intro k hk h; exact ih k (by omega) (par_step (by omega) (by rw [Nat.add_assoc]; exact h))
/-- On a row of operators, where none follows. -/
theorem par_end {k : Nat} (hk : k < 5) {T : List (Nat × List UInt8)} {row : List Wt.Nd} (h : Par (k + 1) T row) {en : Int} {f : Nat} {us tl : List Wlx.TV} (hr : Rep us T) (hf : Fol tl) (hlo : Lo k tl) (hl : 10 * T.length + 8 - k ≤ f) : lv en f (k + 1) (us ++ tl) = .inl (row, tl) := by
  unfold Par at h
  obtain ⟨f, rfl⟩ : ∃ g, f = g + 1 := ⟨f - 1, by omega⟩
  by_cases h4 : k = 4
  · subst h4
    rw [if_neg (by decide), if_neg (by decide), if_pos rfl] at h
    exact h en _ us tl hr hf (hlo 6 (by omega) (by omega) (by omega)) (by omega)
  · rw [if_neg (by omega), if_neg (by omega), if_neg (by omega)] at h
    rw [h en f us tl hr hf (fun j h1 h2 h3 => hlo j (by omega) h2 h3) (by omega), more_not' (hlo (k + 1) (by omega) (by omega) (by omega))]
/-- A whole formula, where no operator follows. -/
theorem par_form {T : List (Nat × List UInt8)} {row : List Wt.Nd} (h : Par 0 T row) {en : Int} {f : Nat} {us tl : List Wlx.TV} (hr : Rep us T) (hf : Fol tl) (hop : ∀ j, tkOp j tl = none) (hl : 10 * T.length + 9 ≤ f) : lv en f 0 (us ++ tl) = .inl (row, tl) := by
  unfold Par at h
  rw [if_neg (by decide), if_neg (by decide), if_neg (by decide)] at h
  obtain ⟨f, rfl⟩ : ∃ g, f = g + 1 := ⟨f - 1, by omega⟩
  rw [h en f us tl hr hf (fun j _ _ _ => hop j) (by omega), more_not' (hop _)]
theorem more_any {sub : List Wlx.TV → PR} (hsub : ∀ ts row r, sub ts = .inl (row, r) → r <:+ ts) (k : Int) : ∀ (n m : Nat) (row : List Wt.Nd) (ts : List Wlx.TV), ts.length ≤ n → ts.length ≤ m → more sub k n row ts = more sub k m row ts := by
  intro n
  induction n with
  | zero =>
    intro m row ts h1 h2
    obtain rfl := List.eq_nil_of_length_eq_zero (Nat.le_zero.1 h1)
    rw [more_not' rfl, more_not' rfl]
  | succ n ih =>
    intro m row ts h1 h2
    cases ht : tkOp k ts with
    | none => rw [more_not' ht, more_not' ht]
    | some q =>
      obtain ⟨o, r⟩ := q
      have l1 := (tkOp_suf ht).2
      obtain ⟨m, rfl⟩ : ∃ g, m = g + 1 := ⟨m - 1, by omega⟩
      simp only [more, ht]
      cases hs : sub r with
      | inr e => rfl
      | inl q2 =>
        obtain ⟨row2, r2⟩ := q2
        have l2 := (hsub _ _ _ hs).length_le
        simp only
        exact ih m _ _ (by omega) (by omega)
/-- A mark that is an operator's. -/
theorem tkOp_is {m : List UInt8} {k : Int} {o : Int × List UInt8 × Int} (h : Wt.opAs m k = some o) (p : Int) (r : List Wlx.TV) : tkOp k (⟨((5 : Nat) : Int), m, p⟩ :: r) = some (o, r) := by
  unfold tkOp
  simp only
  rw [if_pos (by rfl), h]
  rfl
theorem tkOp_not {m : List UInt8} {k : Int} (h : Wt.opAs m k = none) (p : Int) (r : List Wlx.TV) : tkOp k (⟨((5 : Nat) : Int), m, p⟩ :: r) = none := by
  unfold tkOp
  simp only
  rw [h]
  split <;> rfl
theorem fol_op {m : List UInt8} (h1 : ¬ m = [40]) (h2 : ¬ m = [33]) (h3 : ¬ m = [58]) (p : Int) (r : List Wlx.TV) : Fol (⟨((5 : Nat) : Int), m, p⟩ :: r) := by
  intro c q e
  obtain ⟨rfl, rfl⟩ := List.cons.inj e
  refine ⟨?_, ?_, ?_⟩
  · unfold isMk; simp [h1]
  · unfold isMk; simp [h2]
  · unfold isMk; simp [h3]
/-- The first token is no closing bracket. -/
def Hd1 (T : List (Nat × List UInt8)) : Prop := ∃ k t q, T = (k, t) :: q ∧ ¬ (k = 5 ∧ t = [41])
theorem NoSg.hd {T : List (Nat × List UInt8)} (h : NoSg T) : Hd1 T := by
  obtain ⟨k, t, q, rfl, hh⟩ := h
  refine ⟨k, t, q, rfl, fun e => ?_⟩
  rcases hh with hh | rfl
  · exact hh e.1
  · exact absurd e.2 (by decide)
theorem Hd1.app {T : List (Nat × List UInt8)} (h : Hd1 T) (S : List (Nat × List UInt8)) : Hd1 (T ++ S) := by
  obtain ⟨k, t, q, rfl, hh⟩ := h
  exact ⟨k, t, q ++ S, rfl, hh⟩
theorem par_sign {T : List (Nat × List UInt8)} {row : List Wt.Nd} {m : List UInt8} {o : Int × List UInt8 × Int} (hm : Wt.opAs m 5 = some o) (h : Par5 T row) : Par5 ((5, m) :: T) (opN (opKd o.2.2) o.1 :: row) := by
  intro en f us tl hr hf h6 hl
  obtain ⟨p, q, rfl, hq⟩ := hr.cons
  simp only [List.length_cons] at hl
  obtain ⟨f, rfl⟩ : ∃ g, f = g + 1 := ⟨f - 1, by omega⟩
  rw [lv_sg, List.cons_append]; unfold psg
  rw [tkOp_is hm]
  simp only
  rw [h en f q tl hq hf h6 (by omega)]
theorem par_pct {T : List (Nat × List UInt8)} {row : List Wt.Nd} {m : List UInt8} {o : Int × List UInt8 × Int} (hm : Wt.opAs m 6 = some o) (h1 : ¬ m = [40]) (h2 : ¬ m = [33]) (h3 : ¬ m = [58]) (h : Par6 T row) : Par6 (T ++ [(5, m)]) (opN (opKd o.2.2) o.1 :: row) := by
  refine ⟨?_, fun en f us tl hr hf hl => ?_⟩
  · obtain ⟨k, t, q, rfl, hh⟩ := h.1
    exact ⟨k, t, _, rfl, hh⟩
  · obtain ⟨a, b, rfl, ha, hb⟩ := hr.app
    obtain ⟨p, q, rfl, hq⟩ := hb.cons
    rw [hq.nil, List.append_assoc, List.cons_append, List.nil_append]
    simp only [List.length_append, List.length_cons, List.length_nil] at hl
    rw [h.2 en f a _ ha (fol_op h1 h2 h3 p tl) (by omega), List.length_cons]
    simp only [pct, tkOp_is hm]
theorem par_bin {k : Nat} (hk : k < 5) {T S : List (Nat × List UInt8)} {row row2 : List Wt.Nd} {m : List UInt8} {o : Int × List UInt8 × Int} (hm : Wt.opAs m (k : Int) = some o) (hlo : ∀ j : Nat, k < j → j ≤ 6 → ¬ j = 5 → Wt.opAs m (j : Int) = none) (h1 : ¬ m = [40]) (h2 : ¬ m = [33]) (h3 : ¬ m = [58])
    (h : ParK k T row) (hS : Par (k + 1) S row2) : ParK k (T ++ (5, m) :: S) (opN (opKd o.2.2) o.1 :: (row ++ row2)) := by
  intro en f us tl hr hf ho hl
  obtain ⟨a, b, rfl, ha, hb⟩ := hr.app
  obtain ⟨p, q, rfl, hq⟩ := hb.cons
  simp only [List.length_append, List.length_cons] at hl
  rw [List.append_assoc, List.cons_append]
  rw [h en f a _ ha (fol_op h1 h2 h3 p _) (fun j x y z => tkOp_not (hlo j x y z) p _) (by omega), List.length_cons]
  simp only [more, tkOp_is hm]
  rw [par_end hk hS hq hf ho (by omega)]
  simp only
  exact more_any (lv_suf en f (k + 1)) _ _ _ _ _ (by rw [List.length_append]; omega) (Nat.le_refl _)
theorem op41 (j : Int) (p : Int) (r : List Wlx.TV) : tkOp j (⟨((5 : Nat) : Int), [41], p⟩ :: r) = none := tkOp_not (opAs_41 j) p r
theorem op44 (j : Int) (p : Int) (r : List Wlx.TV) : tkOp j (⟨((5 : Nat) : Int), [44], p⟩ :: r) = none := tkOp_not (opAs_44 j) p r
theorem par_brack {T : List (Nat × List UInt8)} {row : List Wt.Nd} (h : Par 0 T row) : Par7 ((5, [40]) :: (T ++ [(5, [41])])) row := by
  refine ⟨⟨5, [40], _, rfl, Or.inr rfl⟩, fun en f us tl hr hf hl => ?_⟩
  obtain ⟨p, q, rfl, hq⟩ := hr.cons
  obtain ⟨a, b, rfl, ha, hb⟩ := hq.app
  obtain ⟨p2, q2, rfl, hq2⟩ := hb.cons
  rw [hq2.nil]
  simp only [List.length_append, List.length_cons, List.length_nil] at hl
  obtain ⟨f, rfl⟩ : ∃ g, f = g + 1 := ⟨f - 1, by omega⟩
  rw [lv_si, List.cons_append, List.append_assoc, List.cons_append, List.nil_append]
  unfold psi
  rw [if_neg (by show ¬ ((5 : Nat) : Int) = 3; decide), if_pos (by rfl)]
  unfold pbrack
  rw [show tk (⟨((5 : Nat) : Int), [40], p⟩ :: (a ++ ⟨((5 : Nat) : Int), [41], p2⟩ :: tl)) [40] = some (a ++ ⟨((5 : Nat) : Int), [41], p2⟩ :: tl) from rfl]
  simp only
  rw [par_form h ha (fol_op (by decide) (by decide) (by decide) p2 tl) (fun j => op41 j p2 tl) (by omega)]
  simp only
  rw [show tk (⟨((5 : Nat) : Int), [41], p2⟩ :: tl) [41] = some tl from rfl]

/-! A call's arguments. -/
/-- What is left of n arguments is T: commas ahead, a closing bracket at the end. -/
def ParA (n : Nat) (T : List (Nat × List UInt8)) (rows : List Wt.Nd) : Prop := n + 1 ≤ T.length ∧ (∃ m q, T = (5, m) :: q ∧ (m = [41] ∨ m = [44])) ∧
  ∀ (en : Int) (g N c : Nat) (rows0 : List Wt.Nd) (us tl : List Wlx.TV), Rep us T → n + 1 ≤ N → c + n ≤ 30 → 10 * T.length ≤ g → argl (lv en g 0) en N c rows0 (us ++ tl) = .inl (c + n, rows0 ++ rows, tl)
theorem parA_nil : ParA 0 [(5, [41])] [] := by
  refine ⟨by simp, ⟨[41], [], rfl, Or.inl rfl⟩, fun en g N c rows0 us tl hr hN hc hl => ?_⟩
  obtain ⟨p, q, rfl, hq⟩ := hr.cons
  rw [hq.nil, List.cons_append, List.nil_append]
  obtain ⟨N, rfl⟩ : ∃ m, N = m + 1 := ⟨N - 1, by omega⟩
  simp only [argl]
  rw [show tk (⟨((5 : Nat) : Int), [41], p⟩ :: tl) [41] = some tl from rfl]
  simp
/-- What stands behind an argument. -/
theorem argTl {T : List (Nat × List UInt8)} {us : List Wlx.TV} (h : ∃ m q, T = (5, m) :: q ∧ (m = [41] ∨ m = [44])) (hr : Rep us T) (tl : List Wlx.TV) : Fol (us ++ tl) ∧ ∀ j, tkOp j (us ++ tl) = none := by
  obtain ⟨m, q, rfl, hm⟩ := h
  obtain ⟨p, q, rfl, hq⟩ := hr.cons
  rw [List.cons_append]
  rcases hm with rfl | rfl
  · exact ⟨fol_op (by decide) (by decide) (by decide) p _, fun j => op41 j p _⟩
  · exact ⟨fol_op (by decide) (by decide) (by decide) p _, fun j => op44 j p _⟩
theorem parA_cons {n : Nat} {T S : List (Nat × List UInt8)} {row rows : List Wt.Nd} (h : Par 0 T row) (hS : ParA n S rows) : ParA (n + 1) ((5, [44]) :: (T ++ S)) (row ++ rows) := by
  obtain ⟨s1, s2, s3⟩ := hS
  refine ⟨by simp only [List.length_cons, List.length_append]; omega, ⟨[44], _, rfl, Or.inr rfl⟩, fun en g N c rows0 us tl hr hN hc hl => ?_⟩
  obtain ⟨p, q, rfl, hq⟩ := hr.cons
  obtain ⟨a, b, rfl, ha, hb⟩ := hq.app
  simp only [List.length_cons, List.length_append] at hl
  obtain ⟨N, rfl⟩ : ∃ m, N = m + 1 := ⟨N - 1, by omega⟩
  rw [List.cons_append, List.append_assoc]
  simp only [argl]
  rw [show tk (⟨((5 : Nat) : Int), [44], p⟩ :: (a ++ (b ++ tl))) [41] = none from rfl]
  simp only
  rw [if_neg (fun e => by have := e.1; omega)]
  rw [show tk (⟨((5 : Nat) : Int), [44], p⟩ :: (a ++ (b ++ tl))) [44] = some (a ++ (b ++ tl)) from rfl]
  simp only
  obtain ⟨t1, t2⟩ := argTl s2 hb tl
  rw [par_form h ha t1 t2 (by omega)]
  simp only
  rw [s3 en g N (c + 1) (rows0 ++ row) b tl hb (by omega) (by omega) (by omega), List.append_assoc]
  have : c + 1 + n = c + (n + 1) := by omega
  rw [this]
theorem par_call0 {nm : ByteArray} (h : Wt.fnNm nm = true) : Par7 [(3, nm.data.toList), (5, [40]), (5, [41])] [callN nm 0] := by
  refine ⟨⟨_, _, _, rfl, Or.inl (by decide)⟩, fun en f us tl hr hf hl => ?_⟩
  obtain ⟨p, q, rfl, hq⟩ := hr.cons
  obtain ⟨p2, q2, rfl, hq2⟩ := hq.cons
  obtain ⟨p3, q3, rfl, hq3⟩ := hq2.cons
  rw [hq3.nil]
  obtain ⟨f, rfl⟩ : ∃ g, f = g + 1 := ⟨f - 1, by omega⟩
  rw [lv_si, List.cons_append, List.cons_append, List.cons_append, List.nil_append]
  unfold psi
  rw [if_pos (by rfl)]
  unfold pword
  rw [show fol (⟨((3 : Nat) : Int), nm.data.toList, p⟩ :: ⟨((5 : Nat) : Int), [40], p2⟩ :: ⟨((5 : Nat) : Int), [41], p3⟩ :: tl) [40] = true from rfl]
  have e : (⟨(hd (⟨((3 : Nat) : Int), nm.data.toList, p⟩ :: ⟨((5 : Nat) : Int), [40], p2⟩ :: ⟨((5 : Nat) : Int), [41], p3⟩ :: tl) en).t.toArray⟩ : ByteArray) = nm := by
    show (⟨nm.data.toList.toArray⟩ : ByteArray) = nm
    rw [Array.toArray_toList]
  rw [e, if_pos rfl, if_pos h]
  show pargs _ en nm.data.toList (⟨((5 : Nat) : Int), [41], p3⟩ :: tl) = _
  unfold pargs
  rw [show tk (⟨((5 : Nat) : Int), [41], p3⟩ :: tl) [41] = some tl from rfl]
theorem par_call {nm : ByteArray} (h : Wt.fnNm nm = true) {n : Nat} (hn : n + 1 ≤ 30) {T S : List (Nat × List UInt8)} {row rows : List Wt.Nd} (h1 : Hd1 T) (hT : Par 0 T row) (hS : ParA n S rows) : Par7 ((3, nm.data.toList) :: (5, [40]) :: (T ++ S)) (callN nm (n + 1) :: (row ++ rows)) := by
  obtain ⟨s1, s2, s3⟩ := hS
  refine ⟨⟨_, _, _, rfl, Or.inl (by decide)⟩, fun en f us tl hr hf hl => ?_⟩
  obtain ⟨p, q, rfl, hq⟩ := hr.cons
  obtain ⟨p2, q2, rfl, hq2⟩ := hq.cons
  obtain ⟨a, b, rfl, ha, hb⟩ := hq2.app
  simp only [List.length_cons, List.length_append] at hl
  obtain ⟨f, rfl⟩ : ∃ g, f = g + 1 := ⟨f - 1, by omega⟩
  rw [lv_si, List.cons_append, List.cons_append, List.append_assoc]
  unfold psi
  rw [if_pos (by rfl)]
  unfold pword
  rw [show fol (⟨((3 : Nat) : Int), nm.data.toList, p⟩ :: ⟨((5 : Nat) : Int), [40], p2⟩ :: (a ++ (b ++ tl))) [40] = true from rfl]
  have e : (⟨(hd (⟨((3 : Nat) : Int), nm.data.toList, p⟩ :: ⟨((5 : Nat) : Int), [40], p2⟩ :: (a ++ (b ++ tl))) en).t.toArray⟩ : ByteArray) = nm := by
    show (⟨nm.data.toList.toArray⟩ : ByteArray) = nm
    rw [Array.toArray_toList]
  rw [e, if_pos rfl, if_pos h]
  show pargs _ en nm.data.toList (a ++ (b ++ tl)) = _
  unfold pargs
  have ht : tk (a ++ (b ++ tl)) [41] = none := by
    obtain ⟨k, t, q, rfl, hh⟩ := h1
    obtain ⟨p3, q3, rfl, hq3⟩ := ha.cons
    rw [List.cons_append]
    simp only [tk]
    have : isMk ⟨(k : Int), t, p3⟩ [41] = false := by
      unfold isMk
      by_cases hk : k = 5
      · have ht : ¬ t = [41] := fun e => hh ⟨hk, e⟩
        have h1 : (t == [41]) = false := by simp [ht]
        rw [h1, Bool.and_false]
      · have h1 : ((k : Int) == 5) = false := by simp; omega
        rw [h1, Bool.false_and]
    rw [this]; rfl
  rw [ht]
  simp only
  obtain ⟨t1, t2⟩ := argTl s2 hb tl
  rw [par_form hT ha t1 t2 (by omega)]
  simp only
  have hbl := hb.len
  rw [s3 en f _ 1 row b tl hb (by rw [List.length_append]; omega) (by omega) (by omega)]
  simp only
  rw [Array.toArray_toList, Nat.add_comm 1 n]
end Go.Proofs.YtjkchneffcppmaaGreatDoor
