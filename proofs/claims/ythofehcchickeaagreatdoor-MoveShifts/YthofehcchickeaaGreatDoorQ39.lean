/- TRtB, TRtC, WalkDg, WalkDc. -/
import Derived.Test.YthofehcchickeaaGreatDoorQ38
import Derived.Lib.ItoaNum
import Derived.Lib.ItoaLen
import Derived.Lib.Slices
import Derived.Laws.IdiomStrings
import Derived.Lib.Builder
import Derived.Laws.Externs
import Derived.OwnWalk
import Derived.Laws.OwnMore
import Derived.BigCall
namespace Go.Proofs.YthofehcchickeaaGreatDoor
open Go.RowKit Go.Shelf
set_option linter.unusedVariables false
def Par6 (T : List (Nat × List UInt8)) (row : List Wt.Nd) : Prop := NoSg T ∧ ∀ (en : Int) (f : Nat) (us tl : List Wlx.TV), Rep us T → Fol tl → 10 * T.length + 3 ≤ f → lv en f 6 (us ++ tl) = pct tl.length row tl
def Par5 (T : List (Nat × List UInt8)) (row : List Wt.Nd) : Prop := ∀ (en : Int) (f : Nat) (us tl : List Wlx.TV), Rep us T → Fol tl → tkOp 6 tl = none → 10 * T.length + 4 ≤ f → lv en f 5 (us ++ tl) = .inl (row, tl)
def Lo (k : Nat) (tl : List Wlx.TV) : Prop := ∀ j : Nat, k < j → j ≤ 6 → ¬ j = 5 → tkOp (j : Int) tl = none
def ParK (k : Nat) (T : List (Nat × List UInt8)) (row : List Wt.Nd) : Prop := ∀ (en : Int) (f : Nat) (us tl : List Wlx.TV), Rep us T → Fol tl → Lo k tl → 10 * T.length + 9 - k ≤ f + 1 → lv en (f + 1) k (us ++ tl) = more (lv en f (k + 1)) (k : Int) tl.length row tl
def Par (k : Nat) (T : List (Nat × List UInt8)) (row : List Wt.Nd) : Prop := if k = 7 then Par7 T row else if k = 6 then Par6 T row else if k = 5 then Par5 T row else ParK k T row
theorem pct_no {n : Nat} {row : List Wt.Nd} {tl : List Wlx.TV} (h : tkOp 6 tl = none) : pct n row tl = .inl (row, tl) := by
  cases n with
  | zero => rfl
  | succ n => simp only [pct, h]
theorem NoSg.tk {T : List (Nat × List UInt8)} (h : NoSg T) {us : List Wlx.TV} (hr : Rep us T) (tl : List Wlx.TV) : tkOp 5 (us ++ tl) = none := by
  obtain ⟨k, t, q, rfl, hh⟩ := h
  obtain ⟨p, u, rfl, hu⟩ := hr.cons
  rw [List.cons_append]
  rcases hh with hh | rfl
  · unfold tkOp
    simp only
    rw [if_neg (by omega)]
  · unfold tkOp
    simp only
    rw [show Wt.opAs [40] 5 = none by decide]
    split <;> rfl
theorem par76 {T : List (Nat × List UInt8)} {row : List Wt.Nd} (h : Par7 T row) : Par6 T row := by
  refine ⟨h.1, fun en f us tl hr hf hl => ?_⟩
  obtain ⟨f, rfl⟩ : ∃ g, f = g + 1 := ⟨f - 1, by omega⟩
  rw [lv_pc]; unfold ppc
  rw [h.2 en f us tl hr hf (by omega)]
theorem par65 {T : List (Nat × List UInt8)} {row : List Wt.Nd} (h : Par6 T row) : Par5 T row := by
  intro en f us tl hr hf h6 hl
  obtain ⟨f, rfl⟩ : ∃ g, f = g + 1 := ⟨f - 1, by omega⟩
  rw [lv_sg]; unfold psg
  rw [h.1.tk hr tl]
  simp only
  rw [h.2 en f us tl hr hf (by omega), pct_no h6]
theorem par54 {T : List (Nat × List UInt8)} {row : List Wt.Nd} (h : Par5 T row) : ParK 4 T row := by
  intro en f us tl hr hf hlo hl
  rw [lv_bt _ _ _ (by omega)]; unfold pbt
  rw [h en f us tl hr hf (hlo 6 (by omega) (by omega) (by omega)) (by omega)]
theorem parkk {k : Nat} (hk : k < 4) {T : List (Nat × List UInt8)} {row : List Wt.Nd} (h : ParK (k + 1) T row) : ParK k T row := by
  intro en f us tl hr hf hlo hl
  obtain ⟨f, rfl⟩ : ∃ g, f = g + 1 := ⟨f - 1, by omega⟩
  rw [lv_bt _ _ _ (by omega)]; unfold pbt
  rw [h en f us tl hr hf (fun j h1 h2 h3 => hlo j (by omega) h2 h3) (by omega), more_not' (hlo (k + 1) (by omega) (by omega) (by omega))]
theorem par_step {k : Nat} (hk : k < 7) {T : List (Nat × List UInt8)} {row : List Wt.Nd} (h : Par (k + 1) T row) : Par k T row := by
  unfold Par at *
  by_cases h6 : k = 6
  · subst h6
    rw [if_pos rfl] at h
    rw [if_neg (by decide), if_pos rfl]
    exact par76 h
  by_cases h5 : k = 5
  · subst h5
    rw [if_neg (by decide), if_pos rfl] at h
    rw [if_neg (by decide), if_neg (by decide), if_pos rfl]
    exact par65 h
  by_cases h4 : k = 4
  · subst h4
    rw [if_neg (by decide), if_neg (by decide), if_pos rfl] at h
    rw [if_neg (by decide), if_neg (by decide), if_neg (by decide)]
    exact par54 h
  · rw [if_neg (by omega), if_neg (by omega), if_neg (by omega)] at h
    rw [if_neg (by omega), if_neg (by omega), if_neg (by omega)]
    exact parkk (by omega) h
theorem par_le {T : List (Nat × List UInt8)} {row : List Wt.Nd} : ∀ (n k : Nat), k + n ≤ 7 → Par (k + n) T row → Par k T row := by
  intro n
  induction n with
  | zero => intro k _ h; exact h
  | succ n ih => intro k hk h; exact ih k (by omega) (par_step (by omega) (by rw [Nat.add_assoc]; exact h))
theorem par_end {k : Nat} (hk : k < 5) {T : List (Nat × List UInt8)} {row : List Wt.Nd} (h : Par (k + 1) T row) {en : Int} {f : Nat} {us tl : List Wlx.TV} (hr : Rep us T) (hf : Fol tl) (hlo : Lo k tl) (hl : 10 * T.length + 8 - k ≤ f) : lv en f (k + 1) (us ++ tl) = .inl (row, tl) := by
  unfold Par at h
  obtain ⟨f, rfl⟩ : ∃ g, f = g + 1 := ⟨f - 1, by omega⟩
  by_cases h4 : k = 4
  · subst h4
    rw [if_neg (by decide), if_neg (by decide), if_pos rfl] at h
    exact h en _ us tl hr hf (hlo 6 (by omega) (by omega) (by omega)) (by omega)
  · rw [if_neg (by omega), if_neg (by omega), if_neg (by omega)] at h
    rw [h en f us tl hr hf (fun j h1 h2 h3 => hlo j (by omega) h2 h3) (by omega), more_not' (hlo (k + 1) (by omega) (by omega) (by omega))]
theorem par_form {T : List (Nat × List UInt8)} {row : List Wt.Nd} (h : Par 0 T row) {en : Int} {f : Nat} {us tl : List Wlx.TV} (hr : Rep us T) (hf : Fol tl) (hop : ∀ j, tkOp j tl = none) (hl : 10 * T.length + 9 ≤ f) : lv en f 0 (us ++ tl) = .inl (row, tl) := by
  unfold Par at h
  rw [if_neg (by decide), if_neg (by decide), if_neg (by decide)] at h
  obtain ⟨f, rfl⟩ : ∃ g, f = g + 1 := ⟨f - 1, by omega⟩
  rw [h en f us tl hr hf (fun j _ _ _ => hop j) (by omega), more_not' (hop _)]
theorem more_any {sub : List Wlx.TV → PR} (hsub : ∀ ts row r, sub ts = .inl (row, r) → r <:+ ts) (k : Int) : ∀ (n m : Nat) (row : List Wt.Nd) (ts : List Wlx.TV), ts.length ≤ n → ts.length ≤ m → more sub k n row ts = more sub k m row ts := by
  intro n
  induction n with
  | zero =>
    intro m row ts h1 h2
    obtain rfl := List.eq_nil_of_length_eq_zero (Nat.le_zero.1 h1)
    rw [more_not' rfl, more_not' rfl]
  | succ n ih =>
    intro m row ts h1 h2
    cases ht : tkOp k ts with
    | none => rw [more_not' ht, more_not' ht]
    | some q =>
      obtain ⟨o, r⟩ := q
      have l1 := (tkOp_suf ht).2
      obtain ⟨m, rfl⟩ : ∃ g, m = g + 1 := ⟨m - 1, by omega⟩
      simp only [more, ht]
      cases hs : sub r with
      | inr e => rfl
      | inl q2 =>
        obtain ⟨row2, r2⟩ := q2
        have l2 := (hsub _ _ _ hs).length_le
        simp only
        exact ih m _ _ (by omega) (by omega)
theorem tkOp_is {m : List UInt8} {k : Int} {o : Int × List UInt8 × Int} (h : Wt.opAs m k = some o) (p : Int) (r : List Wlx.TV) : tkOp k (⟨((5 : Nat) : Int), m, p⟩ :: r) = some (o, r) := by
  unfold tkOp
  simp only
  rw [if_pos (by rfl), h]
  rfl
theorem tkOp_not {m : List UInt8} {k : Int} (h : Wt.opAs m k = none) (p : Int) (r : List Wlx.TV) : tkOp k (⟨((5 : Nat) : Int), m, p⟩ :: r) = none := by
  unfold tkOp
  simp only
  rw [h]
  split <;> rfl
theorem fol_op {m : List UInt8} (h1 : ¬ m = [40]) (h2 : ¬ m = [33]) (h3 : ¬ m = [58]) (p : Int) (r : List Wlx.TV) : Fol (⟨((5 : Nat) : Int), m, p⟩ :: r) := by
  intro c q e
  obtain ⟨rfl, rfl⟩ := List.cons.inj e
  refine ⟨?_, ?_, ?_⟩
  · unfold isMk; simp [h1]
  · unfold isMk; simp [h2]
  · unfold isMk; simp [h3]
def Hd1 (T : List (Nat × List UInt8)) : Prop := ∃ k t q, T = (k, t) :: q ∧ ¬ (k = 5 ∧ t = [41])
theorem NoSg.hd {T : List (Nat × List UInt8)} (h : NoSg T) : Hd1 T := by
  obtain ⟨k, t, q, rfl, hh⟩ := h
  refine ⟨k, t, q, rfl, fun e => ?_⟩
  rcases hh with hh | rfl
  · exact hh e.1
  · exact absurd e.2 (by decide)
theorem Hd1.app {T : List (Nat × List UInt8)} (h : Hd1 T) (S : List (Nat × List UInt8)) : Hd1 (T ++ S) := by
  obtain ⟨k, t, q, rfl, hh⟩ := h
  exact ⟨k, t, q ++ S, rfl, hh⟩
theorem par_sign {T : List (Nat × List UInt8)} {row : List Wt.Nd} {m : List UInt8} {o : Int × List UInt8 × Int} (hm : Wt.opAs m 5 = some o) (h : Par5 T row) : Par5 ((5, m) :: T) (opN (opKd o.2.2) o.1 :: row) := by
  intro en f us tl hr hf h6 hl
  obtain ⟨p, q, rfl, hq⟩ := hr.cons
  simp only [List.length_cons] at hl
  obtain ⟨f, rfl⟩ : ∃ g, f = g + 1 := ⟨f - 1, by omega⟩
  rw [lv_sg, List.cons_append]; unfold psg
  rw [tkOp_is hm]
  simp only
  rw [h en f q tl hq hf h6 (by omega)]
theorem par_pct {T : List (Nat × List UInt8)} {row : List Wt.Nd} {m : List UInt8} {o : Int × List UInt8 × Int} (hm : Wt.opAs m 6 = some o) (h1 : ¬ m = [40]) (h2 : ¬ m = [33]) (h3 : ¬ m = [58]) (h : Par6 T row) : Par6 (T ++ [(5, m)]) (opN (opKd o.2.2) o.1 :: row) := by
  refine ⟨?_, fun en f us tl hr hf hl => ?_⟩
  · obtain ⟨k, t, q, rfl, hh⟩ := h.1
    exact ⟨k, t, _, rfl, hh⟩
  · obtain ⟨a, b, rfl, ha, hb⟩ := hr.app
    obtain ⟨p, q, rfl, hq⟩ := hb.cons
    rw [hq.nil, List.append_assoc, List.cons_append, List.nil_append]
    simp only [List.length_append, List.length_cons, List.length_nil] at hl
    rw [h.2 en f a _ ha (fol_op h1 h2 h3 p tl) (by omega), List.length_cons]
    simp only [pct, tkOp_is hm]
theorem par_bin {k : Nat} (hk : k < 5) {T S : List (Nat × List UInt8)} {row row2 : List Wt.Nd} {m : List UInt8} {o : Int × List UInt8 × Int} (hm : Wt.opAs m (k : Int) = some o) (hlo : ∀ j : Nat, k < j → j ≤ 6 → ¬ j = 5 → Wt.opAs m (j : Int) = none) (h1 : ¬ m = [40]) (h2 : ¬ m = [33]) (h3 : ¬ m = [58])
    (h : ParK k T row) (hS : Par (k + 1) S row2) : ParK k (T ++ (5, m) :: S) (opN (opKd o.2.2) o.1 :: (row ++ row2)) := by
  intro en f us tl hr hf ho hl
  obtain ⟨a, b, rfl, ha, hb⟩ := hr.app
  obtain ⟨p, q, rfl, hq⟩ := hb.cons
  simp only [List.length_append, List.length_cons] at hl
  rw [List.append_assoc, List.cons_append]
  rw [h en f a _ ha (fol_op h1 h2 h3 p _) (fun j x y z => tkOp_not (hlo j x y z) p _) (by omega), List.length_cons]
  simp only [more, tkOp_is hm]
  rw [par_end hk hS hq hf ho (by omega)]
  simp only
  exact more_any (lv_suf en f (k + 1)) _ _ _ _ _ (by rw [List.length_append]; omega) (Nat.le_refl _)
theorem op41 (j : Int) (p : Int) (r : List Wlx.TV) : tkOp j (⟨((5 : Nat) : Int), [41], p⟩ :: r) = none := tkOp_not (opAs_41 j) p r
theorem op44 (j : Int) (p : Int) (r : List Wlx.TV) : tkOp j (⟨((5 : Nat) : Int), [44], p⟩ :: r) = none := tkOp_not (opAs_44 j) p r
theorem par_brack {T : List (Nat × List UInt8)} {row : List Wt.Nd} (h : Par 0 T row) : Par7 ((5, [40]) :: (T ++ [(5, [41])])) row := by
  refine ⟨⟨5, [40], _, rfl, Or.inr rfl⟩, fun en f us tl hr hf hl => ?_⟩
  obtain ⟨p, q, rfl, hq⟩ := hr.cons
  obtain ⟨a, b, rfl, ha, hb⟩ := hq.app
  obtain ⟨p2, q2, rfl, hq2⟩ := hb.cons
  rw [hq2.nil]
  simp only [List.length_append, List.length_cons, List.length_nil] at hl
  obtain ⟨f, rfl⟩ : ∃ g, f = g + 1 := ⟨f - 1, by omega⟩
  rw [lv_si, List.cons_append, List.append_assoc, List.cons_append, List.nil_append]
  unfold psi
  rw [if_neg (by show ¬ ((5 : Nat) : Int) = 3; decide), if_pos (by rfl)]
  unfold pbrack
  rw [show tk (⟨((5 : Nat) : Int), [40], p⟩ :: (a ++ ⟨((5 : Nat) : Int), [41], p2⟩ :: tl)) [40] = some (a ++ ⟨((5 : Nat) : Int), [41], p2⟩ :: tl) from rfl]
  simp only
  rw [par_form h ha (fol_op (by decide) (by decide) (by decide) p2 tl) (fun j => op41 j p2 tl) (by omega)]
  simp only
  rw [show tk (⟨((5 : Nat) : Int), [41], p2⟩ :: tl) [41] = some tl from rfl]
def ParA (n : Nat) (T : List (Nat × List UInt8)) (rows : List Wt.Nd) : Prop := n + 1 ≤ T.length ∧ (∃ m q, T = (5, m) :: q ∧ (m = [41] ∨ m = [44])) ∧
  ∀ (en : Int) (g N c : Nat) (rows0 : List Wt.Nd) (us tl : List Wlx.TV), Rep us T → n + 1 ≤ N → c + n ≤ 30 → 10 * T.length ≤ g → argl (lv en g 0) en N c rows0 (us ++ tl) = .inl (c + n, rows0 ++ rows, tl)
theorem parA_nil : ParA 0 [(5, [41])] [] := by
  refine ⟨by simp, ⟨[41], [], rfl, Or.inl rfl⟩, fun en g N c rows0 us tl hr hN hc hl => ?_⟩
  obtain ⟨p, q, rfl, hq⟩ := hr.cons
  rw [hq.nil, List.cons_append, List.nil_append]
  obtain ⟨N, rfl⟩ : ∃ m, N = m + 1 := ⟨N - 1, by omega⟩
  simp only [argl]
  rw [show tk (⟨((5 : Nat) : Int), [41], p⟩ :: tl) [41] = some tl from rfl]
  simp
theorem argTl {T : List (Nat × List UInt8)} {us : List Wlx.TV} (h : ∃ m q, T = (5, m) :: q ∧ (m = [41] ∨ m = [44])) (hr : Rep us T) (tl : List Wlx.TV) : Fol (us ++ tl) ∧ ∀ j, tkOp j (us ++ tl) = none := by
  obtain ⟨m, q, rfl, hm⟩ := h
  obtain ⟨p, q, rfl, hq⟩ := hr.cons
  rw [List.cons_append]
  rcases hm with rfl | rfl
  · exact ⟨fol_op (by decide) (by decide) (by decide) p _, fun j => op41 j p _⟩
  · exact ⟨fol_op (by decide) (by decide) (by decide) p _, fun j => op44 j p _⟩
theorem parA_cons {n : Nat} {T S : List (Nat × List UInt8)} {row rows : List Wt.Nd} (h : Par 0 T row) (hS : ParA n S rows) : ParA (n + 1) ((5, [44]) :: (T ++ S)) (row ++ rows) := by
  obtain ⟨s1, s2, s3⟩ := hS
  refine ⟨by simp only [List.length_cons, List.length_append]; omega, ⟨[44], _, rfl, Or.inr rfl⟩, fun en g N c rows0 us tl hr hN hc hl => ?_⟩
  obtain ⟨p, q, rfl, hq⟩ := hr.cons
  obtain ⟨a, b, rfl, ha, hb⟩ := hq.app
  simp only [List.length_cons, List.length_append] at hl
  obtain ⟨N, rfl⟩ : ∃ m, N = m + 1 := ⟨N - 1, by omega⟩
  rw [List.cons_append, List.append_assoc]
  simp only [argl]
  rw [show tk (⟨((5 : Nat) : Int), [44], p⟩ :: (a ++ (b ++ tl))) [41] = none from rfl]
  simp only
  rw [if_neg (fun e => by have := e.1; omega)]
  rw [show tk (⟨((5 : Nat) : Int), [44], p⟩ :: (a ++ (b ++ tl))) [44] = some (a ++ (b ++ tl)) from rfl]
  simp only
  obtain ⟨t1, t2⟩ := argTl s2 hb tl
  rw [par_form h ha t1 t2 (by omega)]
  simp only
  rw [s3 en g N (c + 1) (rows0 ++ row) b tl hb (by omega) (by omega) (by omega), List.append_assoc]
  have : c + 1 + n = c + (n + 1) := by omega
  rw [this]
theorem par_call0 {nm : ByteArray} (h : Wt.fnNm nm = true) : Par7 [(3, nm.data.toList), (5, [40]), (5, [41])] [callN nm 0] := by
  refine ⟨⟨_, _, _, rfl, Or.inl (by decide)⟩, fun en f us tl hr hf hl => ?_⟩
  obtain ⟨p, q, rfl, hq⟩ := hr.cons
  obtain ⟨p2, q2, rfl, hq2⟩ := hq.cons
  obtain ⟨p3, q3, rfl, hq3⟩ := hq2.cons
  rw [hq3.nil]
  obtain ⟨f, rfl⟩ : ∃ g, f = g + 1 := ⟨f - 1, by omega⟩
  rw [lv_si, List.cons_append, List.cons_append, List.cons_append, List.nil_append]
  unfold psi
  rw [if_pos (by rfl)]
  unfold pword
  rw [show fol (⟨((3 : Nat) : Int), nm.data.toList, p⟩ :: ⟨((5 : Nat) : Int), [40], p2⟩ :: ⟨((5 : Nat) : Int), [41], p3⟩ :: tl) [40] = true from rfl]
  have e : (⟨(hd (⟨((3 : Nat) : Int), nm.data.toList, p⟩ :: ⟨((5 : Nat) : Int), [40], p2⟩ :: ⟨((5 : Nat) : Int), [41], p3⟩ :: tl) en).t.toArray⟩ : ByteArray) = nm := by
    show (⟨nm.data.toList.toArray⟩ : ByteArray) = nm
    rw [Array.toArray_toList]
  rw [e, if_pos rfl, if_pos h]
  show pargs _ en nm.data.toList (⟨((5 : Nat) : Int), [41], p3⟩ :: tl) = _
  unfold pargs
  rw [show tk (⟨((5 : Nat) : Int), [41], p3⟩ :: tl) [41] = some tl from rfl]
theorem par_call {nm : ByteArray} (h : Wt.fnNm nm = true) {n : Nat} (hn : n + 1 ≤ 30) {T S : List (Nat × List UInt8)} {row rows : List Wt.Nd} (h1 : Hd1 T) (hT : Par 0 T row) (hS : ParA n S rows) : Par7 ((3, nm.data.toList) :: (5, [40]) :: (T ++ S)) (callN nm (n + 1) :: (row ++ rows)) := by
  obtain ⟨s1, s2, s3⟩ := hS
  refine ⟨⟨_, _, _, rfl, Or.inl (by decide)⟩, fun en f us tl hr hf hl => ?_⟩
  obtain ⟨p, q, rfl, hq⟩ := hr.cons
  obtain ⟨p2, q2, rfl, hq2⟩ := hq.cons
  obtain ⟨a, b, rfl, ha, hb⟩ := hq2.app
  simp only [List.length_cons, List.length_append] at hl
  obtain ⟨f, rfl⟩ : ∃ g, f = g + 1 := ⟨f - 1, by omega⟩
  rw [lv_si, List.cons_append, List.cons_append, List.append_assoc]
  unfold psi
  rw [if_pos (by rfl)]
  unfold pword
  rw [show fol (⟨((3 : Nat) : Int), nm.data.toList, p⟩ :: ⟨((5 : Nat) : Int), [40], p2⟩ :: (a ++ (b ++ tl))) [40] = true from rfl]
  have e : (⟨(hd (⟨((3 : Nat) : Int), nm.data.toList, p⟩ :: ⟨((5 : Nat) : Int), [40], p2⟩ :: (a ++ (b ++ tl))) en).t.toArray⟩ : ByteArray) = nm := by
    show (⟨nm.data.toList.toArray⟩ : ByteArray) = nm
    rw [Array.toArray_toList]
  rw [e, if_pos rfl, if_pos h]
  show pargs _ en nm.data.toList (a ++ (b ++ tl)) = _
  unfold pargs
  have ht : tk (a ++ (b ++ tl)) [41] = none := by
    obtain ⟨k, t, q, rfl, hh⟩ := h1
    obtain ⟨p3, q3, rfl, hq3⟩ := ha.cons
    rw [List.cons_append]
    simp only [tk]
    have : isMk ⟨(k : Int), t, p3⟩ [41] = false := by
      unfold isMk
      by_cases hk : k = 5
      · have ht : ¬ t = [41] := fun e => hh ⟨hk, e⟩
        have h1 : (t == [41]) = false := by simp [ht]
        rw [h1, Bool.and_false]
      · have h1 : ((k : Int) == 5) = false := by simp; omega
        rw [h1, Bool.false_and]
    rw [this]; rfl
  rw [ht]
  simp only
  obtain ⟨t1, t2⟩ := argTl s2 hb tl
  rw [par_form hT ha t1 t2 (by omega)]
  simp only
  have hbl := hb.len
  rw [s3 en f _ 1 row b tl hb (by rw [List.length_append]; omega) (by omega) (by omega)]
  simp only
  rw [Array.toArray_toList, Nat.add_comm 1 n]
def Rt (k : Nat) (u : List UInt8) (row : List Wt.Nd) : Prop := ∃ T, Wlx.Wr u T ∧ Wlx.Hdk u ∧ Hd1 T ∧ Par k T row
theorem Rt.le {k k' : Nat} (h : k ≤ k') (h7 : k' ≤ 7) {u : List UInt8} {row : List Wt.Nd} (hr : Rt k' u row) : Rt k u row := by
  obtain ⟨T, h1, h2, h3, h4⟩ := hr
  exact ⟨T, h1, h2, h3, par_le (k' - k) k (by omega) (by rw [show k + (k' - k) = k' by omega]; exact h4)⟩
theorem Rt.single {u : List UInt8} {row : List Wt.Nd} {T : List (Nat × List UInt8)} (h1 : Wlx.Wr u T) (h2 : Wlx.Hdk u) (h3 : Par7 T row) : Rt 7 u row := ⟨T, h1, h2, h3.1.hd, by unfold Par; rw [if_pos rfl]; exact h3⟩
theorem Rt.brack {u : List UInt8} {row : List Wt.Nd} (h : Rt 0 u row) : Rt 7 (40 :: (u ++ [41])) row := by
  obtain ⟨T, h1, h2, h3, h4⟩ := h
  exact Rt.single h1.brack ⟨40, _, rfl, by decide, by decide⟩ (par_brack h4)
theorem ops_facts : ∀ o ∈ Wt.opsT, Wt.opAs o.2.1 o.2.2 = some o ∧ o.2.1 ∈ Wlx.marks ∧ ¬ o.2.1 = [40] ∧ ¬ o.2.1 = [33] ∧ ¬ o.2.1 = [58] ∧ ¬ o.2.1 = [41] ∧ (∀ j : Fin 7, o.2.2 < (j.val : Int) → ¬ j.val = 5 → o.2.2 < 5 → Wt.opAs o.2.1 (j.val : Int) = none) ∧ (5 ≤ o.2.2 → ¬ o.2.1 = [60] ∧ ¬ o.2.1 = [62] ∧ ¬ o.2.1 = [61]) ∧ 0 ≤ o.2.2 ∧ o.2.2 ≤ 6 := by
  intro o ho
  simp only [Wt.opsT, List.mem_cons, List.not_mem_nil, or_false] at ho
  rcases ho with rfl | rfl | rfl | rfl | rfl | rfl | rfl | rfl | rfl | rfl | rfl | rfl | rfl | rfl | rfl <;> exact ⟨by rfl, by decide, by decide, by decide, by decide, by decide, by decide, by decide, by decide, by decide⟩
theorem opOf_mem {k : Int} {o : Int × List UInt8 × Int} (h : Wt.opOf k = some o) : o ∈ Wt.opsT ∧ o.1 = k := by
  unfold Wt.opOf at h
  exact ⟨List.mem_of_find?_eq_some h, by have := List.find?_some h; simpa using this⟩
theorem mark_hdk {m : List UInt8} (h : m ∈ Wlx.marks) (h5 : ¬ m = [60] ∧ ¬ m = [62] ∧ ¬ m = [61]) (h2 : m.length = 1) (u : List UInt8) : Wlx.Hdk (m ++ u) := by
  cases m with
  | nil => cases h2
  | cons c t =>
    simp only [List.length_cons, Nat.add_eq_right, List.length_eq_zero_iff] at h2
    subst h2
    exact ⟨c, u, rfl, fun e => h5.2.2 (by rw [e]), fun e => h5.2.1 (by rw [e])⟩
theorem Wlx.Hdk.app {u : List UInt8} (h : Wlx.Hdk u) (v : List UInt8) : Wlx.Hdk (u ++ v) := by
  obtain ⟨c, t, rfl, q⟩ := h
  exact ⟨c, t ++ v, rfl, q⟩
theorem Rt.sign {u : List UInt8} {row : List Wt.Nd} {o : Int × List UInt8 × Int} (ho : o ∈ Wt.opsT) (h5 : o.2.2 = 5) (h : Rt 5 u row) : Rt 5 (o.2.1 ++ u) (opN (opKd o.2.2) o.1 :: row) := by
  obtain ⟨T, h1, h2, h3, h4⟩ := h
  obtain ⟨f1, f2, f3, f4, f5, f6, f7, f8, -, -⟩ := ops_facts o ho
  have hl : ∀ o ∈ Wt.opsT, 5 ≤ o.2.2 → o.2.1.length = 1 := by decide
  refine ⟨(5, o.2.1) :: T, Wlx.Wr.mark f2 h2 h1, mark_hdk f2 (f8 (by omega)) (hl o ho (by omega)) u, ⟨5, o.2.1, T, rfl, fun e => f6 e.2⟩, ?_⟩
  unfold Par at *
  rw [if_neg (by decide), if_neg (by decide), if_pos rfl] at *
  rw [h5] at f1
  exact par_sign f1 h4
theorem Rt.pct {u : List UInt8} {row : List Wt.Nd} {o : Int × List UInt8 × Int} (ho : o ∈ Wt.opsT) (h6 : o.2.2 = 6) (h : Rt 6 u row) : Rt 6 (u ++ o.2.1) (opN (opKd o.2.2) o.1 :: row) := by
  obtain ⟨T, h1, h2, h3, h4⟩ := h
  obtain ⟨f1, f2, f3, f4, f5, f6, f7, f8, -, -⟩ := ops_facts o ho
  have hne : o.2.1 ≠ [] := fun e => by rw [e] at f2; exact absurd f2 (by decide)
  have ha := Wlx.mark_aft f2 []
  rw [List.append_nil] at ha
  refine ⟨T ++ [(5, o.2.1)], h1.app (Wlx.Wr.still f2 (f8 (by omega)).1 (f8 (by omega)).2.1) hne ha, Wlx.Hdk.app h2 _, h3.app _, ?_⟩
  unfold Par at *
  rw [if_neg (by decide), if_pos rfl] at *
  rw [h6] at f1
  exact par_pct f1 f3 f4 f5 h4
theorem Rt.bin {k : Nat} {u v : List UInt8} {row row2 : List Wt.Nd} {o : Int × List UInt8 × Int} (ho : o ∈ Wt.opsT) (hk : o.2.2 = (k : Int)) (h5 : k < 5) (h : Rt k u row) (hv : Rt (k + 1) v row2) : Rt k (u ++ o.2.1 ++ v) (opN (opKd o.2.2) o.1 :: (row ++ row2)) := by
  obtain ⟨T, h1, h2, h3, h4⟩ := h
  obtain ⟨S, g1, g2, g3, g4⟩ := hv
  obtain ⟨f1, f2, f3, f4, f5, f6, f7, f8, -, -⟩ := ops_facts o ho
  have hne : o.2.1 ≠ [] := fun e => by rw [e] at f2; exact absurd f2 (by decide)
  have hw := Wlx.Wr.mark f2 g2 g1
  rw [List.append_assoc]
  refine ⟨T ++ (5, o.2.1) :: S, h1.app hw (by simp [hne]) (Wlx.mark_aft f2 v), Wlx.Hdk.app h2 _, h3.app _, ?_⟩
  have hP : ParK k T row := by
    unfold Par at h4
    rw [if_neg (by omega), if_neg (by omega), if_neg (by omega)] at h4
    exact h4
  have := par_bin h5 (by rw [← hk]; exact f1) (fun j a b c => f7 ⟨j, by omega⟩ (by simp only; omega) c (by omega)) f3 f4 f5 hP g4
  unfold Par
  rw [if_neg (by omega), if_neg (by omega), if_neg (by omega)]
  exact this
theorem args_rt {F : Nat} (ih : ∀ (L : List Wt.Nd) (s d : Nat), Wt.one F L = some (s, d) → ∀ least : Nat, least ≤ 6 → Rt least (pr F (least : Int) L).1 (L.take s)) : ∀ (n : Nat) (L : List Wt.Nd) (s d : Nat), Wt.many (Wt.one F) n L = some (s, d) →
    ∃ T, Wlx.Wr ((prA (pr F) n false L).1 ++ [41]) T ∧ Wlx.Aft ((prA (pr F) n false L).1 ++ [41]) ∧ ParA n T (L.take s) := by
  intro n
  induction n with
  | zero =>
    intro L s d h
    simp only [Wt.many, Option.some.injEq, Prod.mk.injEq] at h
    obtain ⟨rfl, rfl⟩ := h
    exact ⟨[(5, [41])], Wlx.Wr.still (m := [41]) (by decide) (by decide) (by decide), Wlx.Aft.cons (c := 41) (r := []) (by decide), parA_nil⟩
  | succ n ihn =>
    intro L s d h
    simp only [Wt.many] at h
    cases h1 : Wt.one F L with
    | none => rw [h1] at h; cases h
    | some q =>
      obtain ⟨a, b⟩ := q
      rw [h1] at h
      simp only at h
      cases h2 : Wt.many (Wt.one F) n (L.drop a) with
      | none => rw [h2] at h; cases h
      | some q2 =>
        obtain ⟨a2, b2⟩ := q2
        rw [h2] at h
        simp only [Option.some.injEq, Prod.mk.injEq] at h
        obtain ⟨rfl, rfl⟩ := h
        obtain ⟨T, t1, t2, t3, t4⟩ := ih L a b h1 0 (by omega)
        obtain ⟨S, s1, s2, s3⟩ := ihn (L.drop a) a2 b2 h2
        have e2 : (pr F 0 L).2 = L.drop a := (pr_ok F L a b h1 0).1
        have e : (prA (pr F) (n + 1) false L).1 ++ [41] = [44] ++ ((pr F 0 L).1 ++ ((prA (pr F) n false (L.drop a)).1 ++ [41])) := by
          simp only [prA, e2]
          simp
        rw [e]
        have hw := t1.app s1 (by simp) s2
        refine ⟨(5, [44]) :: (T ++ S), Wlx.Wr.mark (by decide) (Wlx.Hdk.app t2 _) hw, Wlx.Aft.cons (by decide), ?_⟩
        have := parA_cons t4 s3
        rw [← List.take_add] at this
        exact this
theorem rt_single {F : Nat} (ih : ∀ (L : List Wt.Nd) (s d : Nat), Wt.one F L = some (s, d) → ∀ least : Nat, least ≤ 6 → Rt least (pr F (least : Int) L).1 (L.take s)) {x : Wt.Nd} (hx : Knd x) (hk : x.k = 1 ∨ x.k = 2 ∨ x.k = 3 ∨ x.k = 6) {r : List Wt.Nd} {a b : Nat} (h : Wt.many (Wt.one F) (Wt.parts x).toNat r = some (a, b)) :
    Rt 7 (prS (pr F) x r).1 (x :: r.take a) := by
  unfold prS
  by_cases h1 : x.k = 1
  · rw [if_pos h1]
    rw [knd_parts0 hx (Or.inl h1)] at h
    simp only [Int.toNat_zero, Wt.many, Option.some.injEq, Prod.mk.injEq] at h
    obtain ⟨rfl, rfl⟩ := h
    rcases hx with ⟨_, h, e⟩ | ⟨h, -, e⟩ | ⟨h, -, -, -, e⟩ | ⟨h, h2, -⟩ | ⟨h, h2, -⟩ | ⟨h, -, -, -, e⟩
    · obtain ⟨T, t1, t2, t3⟩ := wr_val h
      have := Rt.single t1 t2 t3
      unfold leafN at this
      rw [← e] at this
      exact this
    all_goals omega
  rw [if_neg h1]
  by_cases h2 : x.k = 2
  · rw [if_pos h2]
    rw [knd_parts0 hx (Or.inr (Or.inl h2))] at h
    simp only [Int.toNat_zero, Wt.many, Option.some.injEq, Prod.mk.injEq] at h
    obtain ⟨rfl, rfl⟩ := h
    rcases hx with ⟨h, _, e⟩ | ⟨_, h, e⟩ | ⟨h, -, -, -, e⟩ | ⟨h, h2, -⟩ | ⟨h, h2, -⟩ | ⟨h, -, -, -, e⟩
    · omega
    · obtain ⟨t1, t2⟩ := wr_cel h
      have := Rt.single t1 t2 (par_cel h)
      rw [← e] at this
      exact this
    all_goals omega
  rw [if_neg h2]
  by_cases h3 : x.k = 3
  · rw [if_pos h3]
    rw [knd_parts0 hx (Or.inr (Or.inr h3))] at h
    simp only [Int.toNat_zero, Wt.many, Option.some.injEq, Prod.mk.injEq] at h
    obtain ⟨rfl, rfl⟩ := h
    rcases hx with ⟨h, _, e⟩ | ⟨h, _, e⟩ | ⟨_, ha, hb, hs, e⟩ | ⟨h, h2, -⟩ | ⟨h, h2, -⟩ | ⟨h, -, -, -, e⟩
    · omega
    · omega
    · have hs : x.b.s = ⟨#[]⟩ := by
        rw [ByteArray.toList_eq, List.isEmpty_iff] at hs
        have : x.b.s = ⟨x.b.s.data.toList.toArray⟩ := by rw [Array.toArray_toList]
        rw [this, hs]
      obtain ⟨t1, t2⟩ := wr_area ha hb
      have := Rt.single t1 t2 (par_area ha hb hs)
      rw [← e] at this
      exact this
    all_goals omega
  rw [if_neg h3]
  have h6 : x.k = 6 := by omega
  rw [knd_parts6 h6] at h
  rcases hx with ⟨h', _, e⟩ | ⟨h', _, e⟩ | ⟨h', _, _, _, e⟩ | ⟨h', h2, -⟩ | ⟨h', h2, -⟩ | ⟨_, hn, ha0, ha30, e⟩
  · omega
  · omega
  · omega
  · omega
  · omega
  obtain ⟨n, hn0⟩ : ∃ n : Nat, x.ar = n := ⟨x.ar.toNat, by omega⟩
  have ex : x = callN x.nm n := by rw [e]; unfold callN; simp [hn0]
  rw [hn0, Int.toNat_natCast] at h ⊢
  obtain ⟨w1, w2⟩ := fn_word hn
  obtain ⟨n1, n2⟩ := Wr_word w1 w2
  cases n with
  | zero =>
    simp only [Wt.many, Option.some.injEq, Prod.mk.injEq] at h
    obtain ⟨rfl, rfl⟩ := h
    have hw : Wlx.Wr (x.nm.data.toList ++ [40, 41]) ([(3, x.nm.data.toList)] ++ [(5, [40]), (5, [41])]) := by
      refine n1.app ?_ (by simp) (Wlx.Aft.cons (by decide))
      have := Wlx.Wr.mark (m := [40]) (u := [41]) (by decide) ⟨41, [], rfl, by decide, by decide⟩ (Wlx.Wr.still (m := [41]) (by decide) (by decide) (by decide))
      exact this
    have := Rt.single hw (Wlx.Hdk.app n2 _) (par_call0 hn)
    have e3 : x.nm.data.toList ++ [40] ++ (prA (pr F) 0 true r).1 ++ [41] = x.nm.data.toList ++ [40, 41] := by simp [prA]
    rw [e3, List.take_zero]
    have ex' : [x] = [callN x.nm 0] := by rw [← ex]
    rw [ex']
    exact this
  | succ n =>
    simp only [Wt.many] at h
    cases h1' : Wt.one F r with
    | none => rw [h1'] at h; cases h
    | some q =>
      obtain ⟨a1, b1⟩ := q
      rw [h1'] at h
      simp only at h
      cases h2' : Wt.many (Wt.one F) n (r.drop a1) with
      | none => rw [h2'] at h; cases h
      | some q2 =>
        obtain ⟨a2, b2⟩ := q2
        rw [h2'] at h
        simp only [Option.some.injEq, Prod.mk.injEq] at h
        obtain ⟨rfl, rfl⟩ := h
        obtain ⟨T, t1, t2, t3, t4⟩ := ih r a1 b1 h1' 0 (by omega)
        obtain ⟨S, s1, s2, s3⟩ := args_rt ih n (r.drop a1) a2 b2 h2'
        have e2 : (pr F 0 r).2 = r.drop a1 := (pr_ok F r a1 b1 h1' 0).1
        have e3 : x.nm.data.toList ++ [40] ++ (prA (pr F) (n + 1) true r).1 ++ [41] = x.nm.data.toList ++ ([40] ++ ((pr F 0 r).1 ++ ((prA (pr F) n false (r.drop a1)).1 ++ [41]))) := by
          simp only [prA, e2]
          simp
        rw [e3]
        have hw := t1.app s1 (by simp) s2
        have hw2 := Wlx.Wr.mark (m := [40]) (by decide) (Wlx.Hdk.app t2 _) hw
        have hw3 := n1.app hw2 (by simp) (Wlx.Aft.cons (by decide))
        have := Rt.single hw3 (Wlx.Hdk.app n2 _) (par_call hn (by omega) t3 t4 s3)
        have ex' : x :: r.take (a1 + a2) = callN x.nm (n + 1) :: (r.take a1 ++ (r.drop a1).take a2) := by
          rw [← List.take_add, ← ex]
        rw [ex']
        exact this
theorem pr_rt : ∀ (F : Nat) (L : List Wt.Nd) (s d : Nat), Wt.one F L = some (s, d) → ∀ least : Nat, least ≤ 6 → Rt least (pr F (least : Int) L).1 (L.take s) := by
  intro F
  induction F with
  | zero => intro L s d h; cases h
  | succ F ih =>
    intro L s d h least hl
    cases L with
    | nil => cases h
    | cons x r =>
      obtain ⟨hx, a, b, hm, rfl, rfl⟩ := one_unf h
      have hK := right_knd hx
      rw [List.take_succ_cons]
      have key : ∃ t : Nat, tgh x = (t : Int) ∧ t ≤ 7 ∧ Rt t (prN (pr F) x r).1 (x :: r.take a) := by
        rcases knd_tgh hK with ⟨h7, -, hk⟩ | ⟨ht, hp, o, ho⟩ | ⟨ht, hp, o, ho⟩
        · refine ⟨7, h7, by omega, ?_⟩
          unfold prN
          rw [if_pos h7]
          exact rt_single ih hK hk hm
        · obtain ⟨om, oe⟩ := opOf_mem ho
          have htg : tgh x = o.2.2 := (opOf_tgh ho).1
          have hmk : mrk x = o.2.1 := by unfold mrk; rw [ho]
          rw [hp] at hm
          have hm1 := many_one hm
          have ex : x = opN (opKd o.2.2) o.1 := by
            rcases hK with ⟨h', _, e⟩ | ⟨h', _, e⟩ | ⟨h', _, _, _, e⟩ | ⟨h', h2, e⟩ | ⟨h', h2, e⟩ | ⟨h', _, _, _, e⟩
            · unfold Wt.parts at hp; rw [if_neg (by omega), if_neg (by omega), e] at hp; cases hp
            · unfold Wt.parts at hp; rw [if_neg (by omega), if_neg (by omega), e] at hp; cases hp
            · unfold Wt.parts at hp; rw [if_neg (by omega), if_neg (by omega), e] at hp; cases hp
            · rw [e, oe]; unfold opN opKd; rw [if_neg (by omega)]
            · unfold Wt.parts at hp; rw [if_neg (by omega), if_pos h'] at hp; cases hp
            · have := congrArg Wt.Nd.op e
              rw [this, opOf_zero] at ho; cases ho
          unfold prN
          rcases ht with h5 | h6
          · refine ⟨5, h5, by omega, ?_⟩
            rw [if_neg (by omega), if_pos h5, hmk]
            have := Rt.sign om (by omega) (ih r a b hm1 5 (by omega))
            rw [← ex] at this
            exact this
          · refine ⟨6, h6, by omega, ?_⟩
            rw [if_neg (by omega), if_neg (by omega), if_pos h6, hmk]
            have := Rt.pct om (by omega) (ih r a b hm1 6 (by omega))
            rw [← ex] at this
            exact this
        · obtain ⟨om, oe⟩ := opOf_mem ho
          have htg : tgh x = o.2.2 := (opOf_tgh ho).1
          have hmk : mrk x = o.2.1 := by unfold mrk; rw [ho]
          rw [hp] at hm
          obtain ⟨a1, b1, a2, b2, m1, m2, rfl, rfl⟩ := many_two hm
          have ex : x = opN (opKd o.2.2) o.1 := by
            rcases hK with ⟨h', _, e⟩ | ⟨h', _, e⟩ | ⟨h', _, _, _, e⟩ | ⟨h', h2, e⟩ | ⟨h', h2, e⟩ | ⟨h', _, _, _, e⟩
            · unfold Wt.parts at hp; rw [if_neg (by omega), if_neg (by omega), e] at hp; cases hp
            · unfold Wt.parts at hp; rw [if_neg (by omega), if_neg (by omega), e] at hp; cases hp
            · unfold Wt.parts at hp; rw [if_neg (by omega), if_neg (by omega), e] at hp; cases hp
            · unfold Wt.parts at hp; rw [if_pos h'] at hp; cases hp
            · rw [e, oe]; unfold opN opKd; rw [if_pos (by omega)]
            · have := congrArg Wt.Nd.op e
              rw [this, opOf_zero] at ho; cases ho
          obtain ⟨k, hk⟩ : ∃ k : Nat, tgh x = k := ⟨(tgh x).toNat, by omega⟩
          refine ⟨k, hk, by omega, ?_⟩
          unfold prN
          rw [if_neg (by omega), if_neg (by omega), if_neg (by omega), hmk, hk]
          have e2 : (pr F (k : Int) r).2 = r.drop a1 := (pr_ok F r a1 b1 m1 k).1
          rw [e2]
          have i1 := ih r a1 b1 m1 k (by omega)
          have i2 := ih (r.drop a1) a2 b2 m2 (k + 1) (by omega)
          rw [show (((k + 1 : Nat)) : Int) = (k : Int) + 1 by omega] at i2
          have := Rt.bin om (by omega) (by omega) i1 i2
          rw [← ex, ← List.take_add] at this
          exact this
      obtain ⟨t, ht, h7, hR⟩ := key
      show Rt least (if (least : Int) ≤ tgh x then prN (pr F) x r else (40 :: (prN (pr F) x r).1 ++ [41], (prN (pr F) x r).2)).1 _
      split
      · exact hR.le (by omega) h7
      · have := (hR.le (Nat.zero_le _) h7).brack
        exact Rt.le (by omega) (Nat.le_refl 7) this
open Go.RowKit
theorem app_mk (a b : List UInt8) : ((⟨a.toArray⟩ : ByteArray) ++ (⟨b.toArray⟩ : ByteArray)) = ⟨(a ++ b).toArray⟩ := by
  apply ByteArray.ext
  rw [ByteArray.data_append]
  simp
theorem dd_len (n : Nat) (h : n ≤ 9223372036854775807) : (Lib.decDigits n).length ≤ 21 := by
  have := Lib.itoa_length_le (n : Int) (by omega) (by omega)
  unfold Lib.itoa at this
  rw [if_neg (by omega), Int.toNat_natCast] at this
  exact this
theorem liesB : liesAt Tryz.prog Tryz.prog.depth 84 (2 / Tryz.prog.cellsOf 84) 0 84 1 = true := by kernel_rfl
theorem infoB : (Tryz.prog.info? 84).map (fun i => i.size) = some 2 := by kernel_rfl
set_option maxHeartbeats 800000 in
theorem ccheck1 {B b : Nat} {bs : List Value} {w : World} (h : Lib.BuilderAt 84 5 B b (.pointer none) bs w) :
    Calls Tryz.prog 89 #[.pointer (some ⟨b, 0, none⟩)] w fun e w' => e = .returned (.tuple #[]) ∧ w' = w.setCell ⟨b, 0, none⟩ (.pointer (some ⟨b, 0, none⟩)) := by
  have c0 := h.cell0
  have f0 := h.frozen0
  have hsh := h.shape
  obtain ⟨j, hj, hjs⟩ := Option.map_eq_some_iff.1 infoB
  have k1 := Lib.run_to_unsafe (P := Tryz.prog) w ⟨b, 0, none⟩ Tryz.underlying81 Tryz.underlying163 hj (by rw [hjs]; decide) hsh (Nat.zero_lt_succ 1)
  have k2 := Lib.run_from_unsafe (P := Tryz.prog) w ⟨b, 0, none⟩ Tryz.underlying163 Tryz.underlying81 hj hsh liesB
  have k3 : (callFunc 119 #[.pointer (some ⟨b, 0, none⟩)]).run Tryz.prog w = .ok (.value (.pointer (some ⟨b, 0, none⟩))) w := by
    rw [run_callFunc_extern Tryz.func119 (by kernel_rfl) (by kernel_rfl) (by kernel_rfl) (e := Extern.AbiNoEscape.same) (by kernel_rfl), Lib.run_noEscape]
    rfl
  go_enter Tryz.func89, Tryz.ntmps89
  go_wp2
  go_end0
  exact ⟨rfl, rfl⟩
set_option maxHeartbeats 800000 in
theorem ccheck2 {B b : Nat} {bs : List Value} {w : World} (h : Lib.BuilderAt 84 5 B b (.pointer (some ⟨b, 0, none⟩)) bs w) :
    Calls Tryz.prog 89 #[.pointer (some ⟨b, 0, none⟩)] w fun e w' => e = .returned (.tuple #[]) ∧ w' = w := by
  have c0 := h.cell0
  obtain ⟨j, hj, hjs⟩ := Option.map_eq_some_iff.1 infoB
  have k1 := Lib.run_neq_ptr_same (P := Tryz.prog) w ⟨b, 0, none⟩ Tryz.underlying81 hj
  go_enter Tryz.func89, Tryz.ntmps89
  go_wp2
  go_end0
  exact ⟨rfl, rfl⟩
theorem byteInfo : (Tryz.prog.info? 5).map (fun i => (i.zero, i.size, i.bytes)) = some (some (.int .u8 0), 1, 1) := by kernel_rfl
set_option maxHeartbeats 1600000 in
theorem wbyte {B b : Nat} {bs : List Value} (c : Int) (w : World) (h : Lib.IsBuilder 84 5 B b bs w) (hlen : bs.length ≤ 1000) (hBw : B ≤ w.heap.size) :
    Calls Tryz.prog 181 #[.pointer (some ⟨b, 0, none⟩), .int .u8 c] w fun e w' => e = .returned .nilIface ∧ Lib.IsBuilder 84 5 B b (bs ++ [.int .u8 c]) w' ∧ Below B w w' := by
  have CC : Calls Tryz.prog 89 #[.pointer (some ⟨b, 0, none⟩)] w fun e w' => e = .returned (.tuple #[]) ∧ Lib.BuilderAt 84 5 B b (.pointer (some ⟨b, 0, none⟩)) bs w' ∧ Below B w w' := by
    rcases h with h | h
    · exact (ccheck1 h).mono fun e w' ⟨he, hw⟩ => ⟨he, by rw [hw]; exact h.used _, by rw [hw]; exact (Below.refl B w).setCell (p := ⟨b, 0, none⟩) h.1 _⟩
    · exact (ccheck2 h).mono fun e w' ⟨he, hw⟩ => ⟨he, by rw [hw]; exact h, by rw [hw]; exact Below.refl B w⟩
  obtain ⟨i0, hi, hz0, hz1, hz2⟩ := info_parts byteInfo
  go_enter Tryz.func181, Tryz.ntmps181
  go_wp2_with (go_at_call 89; refine CC.mono ?_)
  rintro e w1 ⟨rfl, hat, hb1⟩
  have hlt := hat.lt
  obtain ⟨hB, v, hbk, hown, hne⟩ := hat
  have s1 := hb1.size
  have x1 : w1.cell? ⟨b, 1, none⟩ = some v := by rw [Lib.cell_of_heap hbk]; rfl
  have news : ∀ j u, [Value.int .u8 c][j]? = some u → (w1.alloc (.cells #[.int .u8 c] 5)).cell? ((⟨w1.heap.size, 0, none⟩ : Addr).add j) = some u := by
    intro j u hj
    cases j with
    | zero => simp at hj; subst hj; simp [Addr.add, go_sem]
    | succ j => simp at hj
  go_wp2_with (at_builtin; refine wpList_append_own _ rfl _ _ 82 rfl B 5 i0 (.int .u8 0) 1 1 Tryz.underlying82 hi hz0 hz1 hz2 rfl (by decide) _ _ _ rfl (hown.alloc _) ⟨w1.heap.size, 0, none⟩ 1 1 [.int .u8 c] rfl rfl news (by intro u hu; simp at hu; subst hu; rfl) (by unfold maxLen; omega) (by omega) (by simp; omega) ?_)
  intro v2 w2 hown2 hgrow _
  have hk2 : w2.heap[b]? = some (.cells #[.pointer (some ⟨b, 0, none⟩), v] 84 (0, 0)) := by
    rw [hgrow.block b (by simp; omega) (fun e => hne e.symm), Lib.alloc_old w1 _ b hlt]
    exact hbk
  have y0 : w2.cell? ⟨b, 0, none⟩ = some (.pointer (some ⟨b, 0, none⟩)) := by rw [Lib.cell_of_heap hk2]; rfl
  have y1 : w2.cell? ⟨b, 1, none⟩ = some v := by rw [Lib.cell_of_heap hk2]; rfl
  have y2 : w2.frozen? ⟨b, 1, none⟩ = false := Lib.frozen_of_heap hk2 1
  have hB2 := (hb1.alloc (by omega) (.cells #[.int .u8 c] 5)).grown hgrow (by simp; omega) (fun k hk => (hown.lt k hk).1)
  obtain ⟨g, cap, rfl⟩ : ∃ g cap, v2 = .slice (some ⟨g, 0, none⟩) (bs.length + 1) cap := by
    rcases hown2.2 with ⟨_, h0⟩ | ⟨g, cap, cur, hv, _⟩
    · omega
    · exact ⟨g, cap, hv⟩
  go_wp2
  go_ret
  exact ⟨rfl, Or.inr (Lib.BuilderAt.put hB hk2 (bs' := bs ++ [.int .u8 c]) (by simpa using hown2) (by decide)), hB2.setCell (p := ⟨b, 1, none⟩) hB _⟩
end Go.Proofs.YthofehcchickeaaGreatDoor
