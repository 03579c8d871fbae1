/- TCnt, TRtD. -/
import Derived.Test.YtifdemakjphfcaaGreatDoorQ41
namespace Go.Proofs.YtifdemakjphfcaaGreatDoor
open Go.RowKit Go.Shelf
set_option linter.unusedVariables false
def nC (s : ByteArray) : Nat := if s = ⟨#[]⟩ then 1 else 3
def ctA (sub : Int → List Wt.Nd → Nat × List Wt.Nd) : Nat → Bool → List Wt.Nd → Nat × List Wt.Nd
  | 0, _, l => (0, l)
  | n + 1, first, l => ((if first then 0 else 1) + (sub 0 l).1 + (ctA sub n false (sub 0 l).2).1, (ctA sub n false (sub 0 l).2).2)
def ctS (sub : Int → List Wt.Nd → Nat × List Wt.Nd) (x : Wt.Nd) (r : List Wt.Nd) : Nat × List Wt.Nd :=
  if x.k = 1 then (1, r)
  else if x.k = 2 then (nC x.a.s, r)
  else if x.k = 3 then (nC x.a.s + 1 + nC x.b.s, r)
  else (3 + (ctA sub x.ar.toNat true r).1, (ctA sub x.ar.toNat true r).2)
def ctN (sub : Int → List Wt.Nd → Nat × List Wt.Nd) (x : Wt.Nd) (r : List Wt.Nd) : Nat × List Wt.Nd :=
  if tgh x = 7 then ctS sub x r
  else if tgh x = 5 then (1 + (sub 5 r).1, (sub 5 r).2)
  else if tgh x = 6 then ((sub 6 r).1 + 1, (sub 6 r).2)
  else ((sub (tgh x) r).1 + 1 + (sub (tgh x + 1) (sub (tgh x) r).2).1, (sub (tgh x + 1) (sub (tgh x) r).2).2)
def ct : Nat → Int → List Wt.Nd → Nat × List Wt.Nd
  | 0, _, l => (0, l)
  | _ + 1, _, [] => (0, [])
  | f + 1, least, x :: r => if least ≤ tgh x then ctN (ct f) x r else ((ctN (ct f) x r).1 + 2, (ctN (ct f) x r).2)
theorem ct_cons (g : Nat) (k : Int) (x : Wt.Nd) (r : List Wt.Nd) : ct (g + 1) k (x :: r) = if k ≤ tgh x then ctN (ct g) x r else ((ctN (ct g) x r).1 + 2, (ctN (ct g) x r).2) := rfl
theorem tgh_pos (x : Wt.Nd) : 0 ≤ tgh x := by
  unfold tgh
  split
  · rename_i o ho
    have := (opOf_tgh (x := x) ho).2.1
    exact this
  · decide
def Lb (k : Int) (row : List Wt.Nd) (n : Nat) : Prop := row ≠ [] ∧ ∀ (g : Nat) (rest : List Wt.Nd), row.length ≤ g → (ct g k (row ++ rest)).2 = rest ∧ (ct g k (row ++ rest)).1 ≤ n
theorem Lb.node {k : Int} {x : Wt.Nd} {row : List Wt.Nd} {n m : Nat} (h : ∀ (g : Nat) (rest : List Wt.Nd), row.length ≤ g → (ctN (ct g) x (row ++ rest)).2 = rest ∧ (ctN (ct g) x (row ++ rest)).1 ≤ n) (hm : if k ≤ tgh x then n ≤ m else n + 2 ≤ m) : Lb k (x :: row) m := by
  refine ⟨by simp, fun g rest hg => ?_⟩
  cases g with
  | zero => simp at hg
  | succ g =>
    obtain ⟨h1, h2⟩ := h g rest (by simp only [List.length_cons] at hg; omega)
    rw [List.cons_append, ct_cons]
    split
    · rename_i hk; rw [if_pos hk] at hm; exact ⟨h1, by omega⟩
    · rename_i hk; rw [if_neg hk] at hm; exact ⟨h1, by simp only; omega⟩
theorem Lb.le {k k' : Int} (hk : k ≤ k') {row : List Wt.Nd} {n : Nat} (h : Lb k' row n) : Lb k row n := by
  obtain ⟨h0, h⟩ := h
  refine ⟨h0, fun g rest hg => ?_⟩
  have hh := h g rest hg
  cases row with
  | nil => exact absurd rfl h0
  | cons x row =>
    cases g with
    | zero => simp at hg
    | succ g =>
      rw [List.cons_append, ct_cons] at hh ⊢
      by_cases h1 : k' ≤ tgh x
      · rw [if_pos h1] at hh
        rw [if_pos (by omega)]
        exact hh
      · rw [if_neg h1] at hh
        simp only at hh
        by_cases h2 : k ≤ tgh x
        · rw [if_pos h2]; exact ⟨hh.1, by omega⟩
        · rw [if_neg h2]; exact hh
theorem Lb.more {k : Int} {row : List Wt.Nd} {n m : Nat} (h : Lb k row n) (hm : n ≤ m) : Lb k row m := ⟨h.1, fun g rest hg => ⟨(h.2 g rest hg).1, Nat.le_trans (h.2 g rest hg).2 hm⟩⟩
theorem Lb.brack {row : List Wt.Nd} {n : Nat} (h : Lb 0 row n) : Lb 7 row (n + 2) := by
  obtain ⟨h0, h⟩ := h
  refine ⟨h0, fun g rest hg => ?_⟩
  have hh := h g rest hg
  cases row with
  | nil => exact absurd rfl h0
  | cons x row =>
    cases g with
    | zero => simp at hg
    | succ g =>
      rw [List.cons_append, ct_cons] at hh ⊢
      rw [if_pos (tgh_pos x)] at hh
      split
      · exact ⟨hh.1, by omega⟩
      · exact ⟨hh.1, by simp only; omega⟩
theorem Lb.bin {k : Int} {x : Wt.Nd} (hx : tgh x = k) (h5 : k < 5) {row row2 : List Wt.Nd} {n m : Nat} (h : Lb k row n) (h2 : Lb (k + 1) row2 m) : Lb k (x :: (row ++ row2)) (n + 1 + m) := by
  refine Lb.node (n := n + 1 + m) (fun g rest hg => ?_) (by rw [if_pos (by omega)]; omega)
  rw [List.length_append] at hg
  obtain ⟨a1, a2⟩ := h.2 g (row2 ++ rest) (by omega)
  obtain ⟨b1, b2⟩ := h2.2 g rest (by omega)
  unfold ctN
  rw [hx, if_neg (by omega), if_neg (by omega), if_neg (by omega), List.append_assoc, a1]
  exact ⟨b1, by simp only; omega⟩
theorem Lb.sign {x : Wt.Nd} (hx : tgh x = 5) {row : List Wt.Nd} {n : Nat} (h : Lb 5 row n) : Lb 5 (x :: row) (n + 1) := by
  refine Lb.node (n := n + 1) (fun g rest hg => ?_) (by rw [if_pos (by omega)]; omega)
  obtain ⟨a1, a2⟩ := h.2 g rest (by omega)
  unfold ctN
  rw [hx, if_neg (by omega), if_pos rfl]
  exact ⟨a1, by simp only; omega⟩
theorem Lb.pct {x : Wt.Nd} (hx : tgh x = 6) {row : List Wt.Nd} {n : Nat} (h : Lb 6 row n) : Lb 6 (x :: row) (n + 1) := by
  refine Lb.node (n := n + 1) (fun g rest hg => ?_) (by rw [if_pos (by omega)]; omega)
  obtain ⟨a1, a2⟩ := h.2 g rest (by omega)
  unfold ctN
  rw [hx, if_neg (by omega), if_neg (by omega), if_pos rfl]
  exact ⟨a1, by simp only; omega⟩
theorem Lb.leaf {x : Wt.Nd} {n : Nat} (hx : tgh x = 7) (h : ∀ (sub : Int → List Wt.Nd → Nat × List Wt.Nd) (r : List Wt.Nd), ctS sub x r = (n, r)) : Lb 7 [x] n := by
  refine Lb.node (n := n) (fun g rest hg => ?_) (by rw [if_pos (by omega)]; omega)
  unfold ctN
  rw [hx, if_pos rfl, List.nil_append, h]
  exact ⟨rfl, Nat.le_refl _⟩
theorem ctA_snoc (sub : Int → List Wt.Nd → Nat × List Wt.Nd) : ∀ (c : Nat) (first : Bool) (l : List Wt.Nd), ctA sub (c + 2) first l = ((ctA sub (c + 1) first l).1 + 1 + (sub 0 (ctA sub (c + 1) first l).2).1, (sub 0 (ctA sub (c + 1) first l).2).2) := by
  intro c
  induction c with
  | zero =>
    intro first l
    simp only [ctA]
    simp
    omega
  | succ c ih =>
    intro first l
    have e : ∀ n, ctA sub (n + 1) first l = ((if first then 0 else 1) + (sub 0 l).1 + (ctA sub n false (sub 0 l).2).1, (ctA sub n false (sub 0 l).2).2) := fun n => rfl
    rw [e (c + 2), e (c + 1), ih false (sub 0 l).2]
    simp only [Prod.mk.injEq, and_true]
    omega
def LbA (c : Nat) (rows : List Wt.Nd) (n : Nat) : Prop := ∀ (g : Nat) (rest : List Wt.Nd), rows.length ≤ g → (ctA (ct g) c true (rows ++ rest)).2 = rest ∧ (ctA (ct g) c true (rows ++ rest)).1 ≤ n
theorem LbA.nil : LbA 0 [] 0 := fun g rest hg => ⟨rfl, Nat.le_refl _⟩
theorem LbA.one {row : List Wt.Nd} {n : Nat} (h : Lb 0 row n) : LbA 1 row n := fun g rest hg => by
  obtain ⟨a1, a2⟩ := h.2 g rest hg
  simp only [ctA, a1]
  exact ⟨trivial, by simp; omega⟩
theorem LbA.snoc {c : Nat} (hc : 0 < c) {rows row : List Wt.Nd} {n m : Nat} (h : LbA c rows n) (h2 : Lb 0 row m) : LbA (c + 1) (rows ++ row) (n + 1 + m) := fun g rest hg => by
  obtain ⟨c, rfl⟩ : ∃ d, c = d + 1 := ⟨c - 1, by omega⟩
  rw [List.length_append] at hg
  obtain ⟨a1, a2⟩ := h g (row ++ rest) (by omega)
  obtain ⟨b1, b2⟩ := h2.2 g rest (by omega)
  rw [List.append_assoc, ctA_snoc, a1]
  exact ⟨b1, by simp only; omega⟩
theorem Lb.call {nm : ByteArray} {c : Nat} {rows : List Wt.Nd} {n : Nat} (h : LbA c rows n) : Lb 7 (callN nm c :: rows) (n + 3) := by
  have hx : tgh (callN nm c) = 7 := tgh_zero rfl
  refine Lb.node (n := n + 3) (fun g rest hg => ?_) (by rw [if_pos (by omega)]; omega)
  obtain ⟨a1, a2⟩ := h g rest hg
  unfold ctN
  rw [hx, if_pos rfl]
  unfold ctS
  rw [if_neg (by show ¬ (6 : Int) = 1; decide), if_neg (by show ¬ (6 : Int) = 2; decide), if_neg (by show ¬ (6 : Int) = 3; decide)]
  have e : (callN nm c).ar.toNat = c := by show ((c : Int)).toNat = c; simp
  rw [e]
  exact ⟨a1, by simp only; omega⟩
def bt (t : Wlx.TV) : Int := if isMk t [40] then 1 else if isMk t [41] then -1 else 0
def bal : List Wlx.TV → Int
  | [] => 0
  | t :: r => bt t + bal r
theorem bal_app : ∀ (a b : List Wlx.TV), bal (a ++ b) = bal a + bal b
  | [], b => by simp [bal]
  | t :: r, b => by rw [List.cons_append]; simp only [bal]; rw [bal_app r b]; omega
def Bl (c : List Wlx.TV) : Prop := bal c = 0 ∧ ∀ a s, c = a ++ s → bal s ≤ 0
theorem Bl.nil : Bl [] := ⟨rfl, fun a s h => by
  have := List.append_eq_nil_iff.1 h.symm
  rw [this.2]; decide⟩
theorem Bl.app {a b : List Wlx.TV} (ha : Bl a) (hb : Bl b) : Bl (a ++ b) := by
  refine ⟨by rw [bal_app, ha.1, hb.1]; rfl, fun x s h => ?_⟩
  rcases List.append_eq_append_iff.1 h with ⟨q, h1, h2⟩ | ⟨q, h1, h2⟩
  · exact hb.2 q s h2
  · rw [h2, bal_app, hb.1, Int.add_zero]
    exact ha.2 x q h1
theorem Bl.one {t : Wlx.TV} (h : bt t = 0) : Bl [t] := by
  have hb : bal [t] = 0 := by simp [bal, h]
  refine ⟨hb, fun a s e => ?_⟩
  cases a with
  | nil => rw [List.nil_append] at e; rw [← e, hb]; decide
  | cons x a =>
    rw [List.cons_append] at e
    have := (List.cons.inj e).2
    have := List.append_eq_nil_iff.1 this.symm
    rw [this.2]; decide
theorem Bl.cons {t : Wlx.TV} {c : List Wlx.TV} (h : bt t = 0) (hc : Bl c) : Bl (t :: c) := (Bl.one h).app hc
theorem bt_open {t : Wlx.TV} (h : isMk t [40] = true) : bt t = 1 := by unfold bt; rw [if_pos h]
theorem bt_shut {t : Wlx.TV} (h : isMk t [41] = true) : bt t = -1 := by
  unfold bt
  rw [if_neg, if_pos h]
  intro h2
  unfold isMk at h h2
  simp only [Bool.and_eq_true, beq_iff_eq] at h h2
  exact absurd (h.2.symm.trans h2.2) (by decide)
theorem bt_mark {t : Wlx.TV} {m : List UInt8} (h : isMk t m = true) (h1 : ¬ m = [40]) (h2 : ¬ m = [41]) : bt t = 0 := by
  unfold isMk at h
  simp only [Bool.and_eq_true, beq_iff_eq] at h
  unfold bt isMk
  rw [h.2, if_neg (by simp [h1]), if_neg (by simp [h2])]
theorem bt_kind {t : Wlx.TV} (h : ¬ t.k = 5) : bt t = 0 := by
  unfold bt isMk
  rw [if_neg (by simp [h]), if_neg (by simp [h])]
theorem Bl.brack {t u : Wlx.TV} {c : List Wlx.TV} (h1 : isMk t [40] = true) (h2 : isMk u [41] = true) (hc : Bl c) : Bl (t :: (c ++ [u])) := by
  have hb : bal (c ++ [u]) = -1 := by rw [bal_app, hc.1]; simp [bal, bt_shut h2]
  have hb0 : bal (t :: (c ++ [u])) = 0 := by simp only [bal]; rw [hb, bt_open h1]; rfl
  refine ⟨hb0, fun a s e => ?_⟩
  cases a with
  | nil => rw [List.nil_append] at e; rw [← e, hb0]; decide
  | cons x a =>
    rw [List.cons_append] at e
    have e2 := (List.cons.inj e).2
    rcases List.append_eq_append_iff.1 e2 with ⟨q, g1, g2⟩ | ⟨q, g1, g2⟩
    · cases q with
      | nil => rw [List.nil_append] at g2; rw [← g2]; simp [bal, bt_shut h2]
      | cons y q =>
        rw [List.cons_append] at g2
        have := List.append_eq_nil_iff.1 (List.cons.inj g2).2.symm
        rw [this.2]; decide
    · rw [g2, bal_app]
      have := hc.2 a q g1
      have : bal [u] = -1 := by simp [bal, bt_shut h2]
      omega
def Cn (k : Int) (ts : List Wlx.TV) (row : List Wt.Nd) (r : List Wlx.TV) : Prop := ∃ c n, ts = c ++ r ∧ Bl c ∧ Lb k row n ∧ n ≤ c.length
theorem Cn.le {k k' : Int} {ts : List Wlx.TV} {row : List Wt.Nd} {r : List Wlx.TV} (h : Cn k' ts row r) (hk : k ≤ k') : Cn k ts row r := by
  obtain ⟨c, n, h1, h2, h3, h4⟩ := h
  exact ⟨c, n, h1, h2, h3.le hk, h4⟩
theorem tk_one {ts : List Wlx.TV} {m : List UInt8} {r : List Wlx.TV} (h : tk ts m = some r) : ∃ t, ts = t :: r ∧ isMk t m = true := by
  cases ts with
  | nil => cases h
  | cons t q =>
    unfold tk at h
    simp only at h
    split at h
    · rename_i hm
      obtain rfl := Option.some.inj h
      exact ⟨t, rfl, hm⟩
    · cases h
theorem pc_one {ts : List Wlx.TV} {en : Int} {a : Wt.Rf} {r : List Wlx.TV} (h : pc ts en = .inl (a, r)) : ∃ t, ts = t :: r ∧ t.k = 3 := by
  have hr := pc_rest h
  unfold pc at h
  split at h
  · rename_i hk
    cases ts with
    | nil => exact absurd hk (by rw [hd_nil]; decide)
    | cons t q => exact ⟨t, by rw [hr]; rfl, hk⟩
  · cases h
theorem lb_leaf (v : Wt.Vl) : Lb 7 [leafN v] 1 := Lb.leaf (tgh_zero rfl) (fun sub r => by unfold ctS; exact if_pos rfl)
theorem pl_cn {ts : List Wlx.TV} {en : Int} {row : List Wt.Nd} {r : List Wlx.TV} (h5 : ¬ (hd ts en).k = 5) (h : pl ts en = .inl (row, r)) : Cn 7 ts row r := by
  unfold pl at h
  split at h
  · rename_i v hv
    simp only [Sum.inl.injEq, Prod.mk.injEq] at h
    obtain ⟨q, hq⟩ := litV_cons hv
    rw [← h.1, ← h.2]
    refine ⟨[hd ts en], 1, ?_, Bl.one (bt_kind h5), lb_leaf v, Nat.le_refl _⟩
    rw [hq]; rfl
  · cases h
theorem pcs_cn {s : ByteArray} {ts : List Wlx.TV} {en : Int} {row : List Wt.Nd} {r : List Wlx.TV} (h : pcs s ts en = .inl (row, r)) : ∃ c n, ts = c ++ r ∧ Bl c ∧ Lb 7 row n ∧ n + 1 ≤ c.length + nC s := by
  unfold pcs at h
  cases h1 : pc ts en with
  | inr e => rw [h1] at h; cases h
  | inl q =>
    obtain ⟨a, r1⟩ := q
    rw [h1] at h
    simp only at h
    obtain ⟨t, e1, k1⟩ := pc_one h1
    cases h2 : tk r1 [58] with
    | none =>
      rw [h2] at h; simp only [Sum.inl.injEq, Prod.mk.injEq] at h
      rw [← h.1, ← h.2]
      refine ⟨[t], nC s, e1, Bl.one (bt_kind (by omega)), Lb.leaf (tgh_zero rfl) (fun sub r => ?_), by simp; omega⟩
      unfold ctS
      rw [if_neg (by show ¬ (2 : Int) = 1; decide)]
      exact if_pos rfl
    | some r2 =>
      rw [h2] at h
      simp only at h
      obtain ⟨t2, e2, m2⟩ := tk_one h2
      cases h3 : pc r2 en with
      | inr e => rw [h3] at h; cases h
      | inl q =>
        obtain ⟨b, r3⟩ := q
        rw [h3] at h
        simp only [Sum.inl.injEq, Prod.mk.injEq] at h
        have f3 := pc_fit h3
        obtain ⟨t3, e3, k3⟩ := pc_one h3
        rw [← h.1, ← h.2]
        have hb : nC b.s = 1 := by rw [f3.1]; exact if_pos rfl
        refine ⟨[t, t2, t3], nC s + 1 + 1, by rw [e1, e2, e3]; rfl, Bl.cons (bt_kind (by omega)) (Bl.cons (bt_mark m2 (by decide) (by decide)) (Bl.one (bt_kind (by omega)))), Lb.leaf (tgh_zero rfl) (fun sub r => ?_), by simp; omega⟩
        unfold ctS
        rw [if_neg (by show ¬ (3 : Int) = 1; decide), if_neg (by show ¬ (3 : Int) = 2; decide), if_pos rfl]
        show (nC s + 1 + nC b.s, r) = _
        rw [hb]
theorem ops_tgh : ∀ o ∈ Wt.opsT, Wt.opOf o.1 = some o := by
  intro o ho
  simp only [Wt.opsT, List.mem_cons, List.not_mem_nil, or_false] at ho
  rcases ho with rfl | rfl | rfl | rfl | rfl | rfl | rfl | rfl | rfl | rfl | rfl | rfl | rfl | rfl | rfl <;> rfl
theorem tkOp_tgh {k : Int} {ts : List Wlx.TV} {o : Int × List UInt8 × Int} {r : List Wlx.TV} (h : tkOp k ts = some (o, r)) (q : Int) : tgh (opN q o.1) = k := by
  cases ts with
  | nil => cases h
  | cons t p =>
    unfold tkOp at h
    simp only at h
    split at h
    · cases ha : Wt.opAs t.t k with
      | none => rw [ha] at h; cases h
      | some x =>
        rw [ha] at h
        simp only [Option.map_some, Option.some.injEq, Prod.mk.injEq] at h
        obtain ⟨rfl, -⟩ := h
        unfold Wt.opAs at ha
        have hm := List.mem_of_find?_eq_some ha
        have h2 := List.find?_some ha
        simp only [Bool.and_eq_true, beq_iff_eq] at h2
        unfold tgh
        have e : (opN q x.1).op = x.1 := rfl
        rw [e, ops_tgh x hm]
        exact h2.2
    · cases h
theorem ops_40 : ∀ o ∈ Wt.opsT, ¬ o.2.1 = [40] ∧ ¬ o.2.1 = [41] := by decide
theorem tkOp_one {k : Int} {ts : List Wlx.TV} {o : Int × List UInt8 × Int} {r : List Wlx.TV} (h : tkOp k ts = some (o, r)) : ∃ t, ts = t :: r ∧ bt t = 0 := by
  cases ts with
  | nil => cases h
  | cons t p =>
    unfold tkOp at h
    simp only at h
    split at h
    · cases ha : Wt.opAs t.t k with
      | none => rw [ha] at h; cases h
      | some x =>
        rw [ha] at h
        simp only [Option.map_some, Option.some.injEq, Prod.mk.injEq] at h
        unfold Wt.opAs at ha
        have hm := List.mem_of_find?_eq_some ha
        have h2 := List.find?_some ha
        simp only [Bool.and_eq_true, beq_iff_eq] at h2
        have h4 := ops_40 x hm
        rw [h2.1] at h4
        refine ⟨t, by rw [h.2], ?_⟩
        unfold bt isMk
        rw [if_neg (by simp [h4.1]), if_neg (by simp [h4.2])]
    · cases h
theorem more_cn {sub : List Wlx.TV → PR} {k : Int} (h5 : k < 5) (hcn : ∀ ts row r, sub ts = .inl (row, r) → Cn (k + 1) ts row r) : ∀ (n : Nat) (row : List Wt.Nd) (ts : List Wlx.TV) (row' : List Wt.Nd) (r : List Wlx.TV) (N : List Wlx.TV), Cn k N row ts → more sub k n row ts = .inl (row', r) → Cn k N row' r := by
  intro n
  induction n with
  | zero => intro row ts row' r N hf h; simp only [more, Sum.inl.injEq, Prod.mk.injEq] at h; rw [← h.2, ← h.1]; exact hf
  | succ n ih =>
    intro row ts row' r N hf h
    simp only [more] at h
    cases h1 : tkOp k ts with
    | none => rw [h1] at h; simp only [Sum.inl.injEq, Prod.mk.injEq] at h; rw [← h.2, ← h.1]; exact hf
    | some q =>
      obtain ⟨o, r1⟩ := q
      rw [h1] at h
      simp only at h
      obtain ⟨t, e1, m1⟩ := tkOp_one h1
      cases h2 : sub r1 with
      | inr e => rw [h2] at h; cases h
      | inl q =>
        obtain ⟨row2, r2⟩ := q
        rw [h2] at h
        simp only at h
        obtain ⟨c, a, a0, a1, a2, a3⟩ := hf
        obtain ⟨d, b, b0, b1, b2, b3⟩ := hcn _ _ _ h2
        exact ih _ _ _ _ N ⟨c ++ t :: d, a + 1 + b, by rw [a0, e1, b0, List.append_assoc, List.cons_append], a1.app (Bl.cons m1 b1), Lb.bin (tkOp_tgh h1 _) h5 a2 b2, by rw [List.length_append, List.length_cons]; omega⟩ h
theorem pct_cn : ∀ (n : Nat) (row : List Wt.Nd) (ts : List Wlx.TV) (row' : List Wt.Nd) (r : List Wlx.TV) (N : List Wlx.TV), Cn 6 N row ts → pct n row ts = .inl (row', r) → Cn 6 N row' r := by
  intro n
  induction n with
  | zero => intro row ts row' r N hf h; simp only [pct, Sum.inl.injEq, Prod.mk.injEq] at h; rw [← h.2, ← h.1]; exact hf
  | succ n ih =>
    intro row ts row' r N hf h
    simp only [pct] at h
    cases h1 : tkOp 6 ts with
    | none => rw [h1] at h; simp only [Sum.inl.injEq, Prod.mk.injEq] at h; rw [← h.2, ← h.1]; exact hf
    | some q =>
      obtain ⟨o, r1⟩ := q
      rw [h1] at h
      simp only at h
      obtain ⟨t, e1, m1⟩ := tkOp_one h1
      obtain ⟨c, a, a0, a1, a2, a3⟩ := hf
      exact ih _ _ _ _ N ⟨c ++ [t], a + 1, by rw [a0, e1, List.append_assoc]; rfl, a1.app (Bl.one m1), Lb.pct (tkOp_tgh h1 _) a2, by rw [List.length_append, List.length_cons, List.length_nil]; omega⟩ h
theorem argl_cn {sub : List Wlx.TV → PR} (hcn : ∀ ts row r, sub ts = .inl (row, r) → Cn 0 ts row r) (en : Int) : ∀ (n c : Nat) (rows : List Wt.Nd) (ts : List Wlx.TV) (c' : Nat) (rows' : List Wt.Nd) (r : List Wlx.TV) (a : Nat), 0 < c → LbA c rows a → argl sub en n c rows ts = .inl (c', rows', r) → ∃ d u b, ts = d ++ u :: r ∧ isMk u [41] = true ∧ Bl d ∧ LbA c' rows' b ∧ b ≤ a + d.length := by
  intro n
  induction n with
  | zero => intro c rows ts c' rows' r a _ _ h; cases h
  | succ n ih =>
    intro c rows ts c' rows' r a hc ha h
    simp only [argl] at h
    cases h1 : tk ts [41] with
    | some q =>
      rw [h1] at h; simp only [Sum.inl.injEq, Prod.mk.injEq] at h
      obtain ⟨t, e1, m1⟩ := tk_one h1
      rw [← h.2.2, ← h.2.1, ← h.1]
      exact ⟨[], t, a, e1, m1, Bl.nil, ha, by simp⟩
    | none =>
      rw [h1] at h
      simp only at h
      split at h
      · cases h
      · cases h2 : tk ts [44] with
        | none => rw [h2] at h; cases h
        | some r1 =>
          rw [h2] at h
          simp only at h
          obtain ⟨t, e1, m1⟩ := tk_one h2
          cases h3 : sub r1 with
          | inr e => rw [h3] at h; cases h
          | inl q =>
            obtain ⟨row, r2⟩ := q
            rw [h3] at h
            simp only at h
            obtain ⟨d, b, b0, b1, b2, b3⟩ := hcn _ _ _ h3
            obtain ⟨d2, u, b', g1, g2, g3, g4, g5⟩ := ih _ _ _ _ _ _ (a + 1 + b) (by omega) (LbA.snoc hc ha b2) h
            refine ⟨t :: (d ++ d2), u, b', by rw [e1, b0, g1]; simp, g2, Bl.cons (bt_mark m1 (by decide) (by decide)) (b1.app g3), g4, ?_⟩
            rw [List.length_cons, List.length_append]; omega
theorem pargs_cn {sub : List Wlx.TV → PR} (hcn : ∀ ts row r, sub ts = .inl (row, r) → Cn 0 ts row r) (en : Int) (nm : List UInt8) {ts : List Wlx.TV} {row : List Wt.Nd} {r : List Wlx.TV} (h : pargs sub en nm ts = .inl (row, r)) : ∃ d u n, ts = d ++ u :: r ∧ isMk u [41] = true ∧ Bl d ∧ Lb 7 row n ∧ n ≤ d.length + 3 := by
  unfold pargs at h
  cases h1 : tk ts [41] with
  | some q =>
    rw [h1] at h; simp only [Sum.inl.injEq, Prod.mk.injEq] at h
    obtain ⟨t, e1, m1⟩ := tk_one h1
    rw [← h.2, ← h.1]
    exact ⟨[], t, 0 + 3, e1, m1, Bl.nil, Lb.call LbA.nil, by simp⟩
  | none =>
    rw [h1] at h
    simp only at h
    cases h2 : sub ts with
    | inr e => rw [h2] at h; cases h
    | inl q =>
      obtain ⟨row1, r1⟩ := q
      rw [h2] at h
      simp only at h
      obtain ⟨d, a, a0, a1, a2, a3⟩ := hcn _ _ _ h2
      cases h3 : argl sub en (r1.length + 1) 1 row1 r1 with
      | inr e => rw [h3] at h; cases h
      | inl q =>
        obtain ⟨c, rows, r2⟩ := q
        rw [h3] at h
        simp only [Sum.inl.injEq, Prod.mk.injEq] at h
        obtain ⟨d2, u, b, g1, g2, g3, g4, g5⟩ := argl_cn hcn en _ _ _ _ _ _ _ a (by omega) (LbA.one a2) h3
        rw [← h.2, ← h.1]
        exact ⟨d ++ d2, u, b + 3, by rw [a0, g1, List.append_assoc], g2, a1.app g3, Lb.call g4, by rw [List.length_append]; omega⟩
theorem fol_two {ts : List Wlx.TV} {m : List UInt8} (h : fol ts m = true) : ∃ t u q, ts = t :: u :: q ∧ isMk u m = true := by
  cases ts with
  | nil => cases h
  | cons t q => cases q with
    | nil => cases h
    | cons u q => exact ⟨t, u, q, rfl, h⟩
theorem pword_cn {sub : List Wlx.TV → PR} (hcn : ∀ ts row r, sub ts = .inl (row, r) → Cn 0 ts row r) (en : Int) {ts : List Wlx.TV} {row : List Wt.Nd} {r : List Wlx.TV} (h3 : (hd ts en).k = 3) (h : pword sub en ts = .inl (row, r)) : Cn 7 ts row r := by
  obtain ⟨t0, q0, e0⟩ : ∃ t q, ts = t :: q := by
    cases ts with
    | nil => exact absurd h3 (by rw [hd_nil]; decide)
    | cons t q => exact ⟨t, q, rfl⟩
  have k0 : t0.k = 3 := by rw [e0] at h3; exact h3
  unfold pword at h
  split at h
  · rename_i hf
    obtain ⟨t, u, q, e, m⟩ := fol_two hf
    rw [e] at e0
    obtain ⟨rfl, rfl⟩ := List.cons.inj e0
    split at h
    · obtain ⟨d, v, n, g1, g2, g3, g4, g5⟩ := pargs_cn hcn en _ h
      have g1' : q = d ++ v :: r := by rw [← g1, e]; rfl
      refine ⟨t :: u :: (d ++ [v]), n, by rw [e, g1']; simp, Bl.cons (bt_kind (by omega)) (Bl.brack m g2 g3), g4, ?_⟩
      simp only [List.length_cons, List.length_append, List.length_nil]; omega
    · cases h
  split at h
  · rename_i hf
    obtain ⟨t, u, q, e, m⟩ := fol_two hf
    rw [e] at e0
    obtain ⟨rfl, rfl⟩ := List.cons.inj e0
    split at h
    · obtain ⟨c, n, g1, g2, g3, g4⟩ := pcs_cn h
      have g1' : q = c ++ r := by rw [← g1, e]; rfl
      refine ⟨t :: u :: c, n, by rw [e, g1']; rfl, Bl.cons (bt_kind (by omega)) (Bl.cons (bt_mark m (by decide) (by decide)) g2), g3, ?_⟩
      have : nC ⟨(hd ts en).t.toArray⟩ ≤ 3 := by unfold nC; split <;> omega
      simp only [List.length_cons]; omega
    · cases h
  split at h
  · simp only [Sum.inl.injEq, Prod.mk.injEq] at h; rw [← h.2, ← h.1, e0]
    exact ⟨[t0], 1, rfl, Bl.one (bt_kind (by omega)), lb_leaf _, Nat.le_refl _⟩
  split at h
  · simp only [Sum.inl.injEq, Prod.mk.injEq] at h; rw [← h.2, ← h.1, e0]
    exact ⟨[t0], 1, rfl, Bl.one (bt_kind (by omega)), lb_leaf _, Nat.le_refl _⟩
  · obtain ⟨c, n, g1, g2, g3, g4⟩ := pcs_cn h
    have : nC ⟨#[]⟩ = 1 := if_pos rfl
    exact ⟨c, n, g1, g2, g3, by omega⟩
theorem pbrack_cn {sub : List Wlx.TV → PR} (hcn : ∀ ts row r, sub ts = .inl (row, r) → Cn 0 ts row r) (en : Int) {ts : List Wlx.TV} {row : List Wt.Nd} {r : List Wlx.TV} (h : pbrack sub en ts = .inl (row, r)) : Cn 7 ts row r := by
  unfold pbrack at h
  cases h1 : tk ts [40] with
  | none => rw [h1] at h; cases h
  | some r1 =>
    rw [h1] at h
    simp only at h
    obtain ⟨t, e1, m1⟩ := tk_one h1
    cases h2 : sub r1 with
    | inr e => rw [h2] at h; cases h
    | inl q =>
      obtain ⟨row2, r2⟩ := q
      rw [h2] at h
      simp only at h
      obtain ⟨c, a, a0, a1, a2, a3⟩ := hcn _ _ _ h2
      cases h3 : tk r2 [41] with
      | none => rw [h3] at h; cases h
      | some r3 =>
        rw [h3] at h
        simp only [Sum.inl.injEq, Prod.mk.injEq] at h
        obtain ⟨u, e3, m3⟩ := tk_one h3
        rw [← h.2, ← h.1]
        exact ⟨t :: (c ++ [u]), a + 2, by rw [e1, a0, e3]; simp, Bl.brack m1 m3 a1, a2.brack, by simp only [List.length_cons, List.length_append, List.length_nil]; omega⟩
theorem lv_cn (en : Int) : ∀ (f k : Nat) (ts : List Wlx.TV) (row : List Wt.Nd) (r : List Wlx.TV), k ≤ 7 → lv en f k ts = .inl (row, r) → Cn (k : Int) ts row r := by
  intro f
  induction f with
  | zero => intro k ts row r _ h; cases h
  | succ f ih =>
    intro k ts row r hk h
    simp only [lv] at h
    split at h
    · rename_i h5
      cases h1 : lv en f (k + 1) ts with
      | inr e => rw [h1] at h; cases h
      | inl q =>
        obtain ⟨row1, r1⟩ := q
        rw [h1] at h
        simp only at h
        have f1 := ih _ _ _ _ (by omega) h1
        exact more_cn (by omega) (fun ts row r h => (ih (k + 1) ts row r (by omega) h).le (by omega)) _ _ _ _ _ _ (f1.le (by omega)) h
    split at h
    · rename_i h5
      subst h5
      cases h1 : tkOp 5 ts with
      | none => rw [h1] at h; exact (ih _ _ _ _ (by omega) h).le (by omega)
      | some q =>
        obtain ⟨o, r1⟩ := q
        rw [h1] at h
        simp only at h
        obtain ⟨t, e1, m1⟩ := tkOp_one h1
        cases h2 : lv en f 5 r1 with
        | inr e => rw [h2] at h; cases h
        | inl q =>
          obtain ⟨row2, r2⟩ := q
          rw [h2] at h
          simp only [Sum.inl.injEq, Prod.mk.injEq] at h
          obtain ⟨c, a, a0, a1, a2, a3⟩ := ih _ _ _ _ (by omega) h2
          rw [← h.2, ← h.1]
          exact ⟨t :: c, a + 1, by rw [e1, a0]; rfl, Bl.cons m1 a1, Lb.sign (tkOp_tgh h1 _) a2, by rw [List.length_cons]; omega⟩
    split at h
    · rename_i h6
      subst h6
      cases h1 : lv en f 7 ts with
      | inr e => rw [h1] at h; cases h
      | inl q =>
        obtain ⟨row1, r1⟩ := q
        rw [h1] at h
        simp only at h
        have f1 := ih _ _ _ _ (by omega) h1
        exact pct_cn _ _ _ _ _ _ (f1.le (by omega)) h
    have h7 : k = 7 := by omega
    subst h7
    split at h
    · rename_i h3
      exact pword_cn (fun ts row r h => ih 0 ts row r (by omega) h) _ h3 h
    split at h
    · exact pbrack_cn (fun ts row r h => ih 0 ts row r (by omega) h) _ h
    · rename_i h5
      exact pl_cn h5 h
theorem lv_few {en : Int} {f : Nat} {ts : List Wlx.TV} {row : List Wt.Nd} (h : lv en f 0 ts = .inl (row, [])) : (ct (row.length + 1) 0 row).1 ≤ ts.length ∧ Bl ts := by
  obtain ⟨c, n, h1, h2, h3, h4⟩ := lv_cn en f 0 ts row [] (by omega) h
  rw [List.append_nil] at h1
  subst h1
  have := (h3.2 (row.length + 1) [] (by omega)).2
  rw [List.append_nil] at this
  exact ⟨Nat.le_trans this h4, h2⟩
theorem prnt_read {L : List Wt.Nd} (hc : Wt.check L = 0) (hl : (prnt L).length ≤ 1024) : prsR (prnt L) = .inl L := by
  obtain ⟨h256, d, hone, hd⟩ := check_zero hc
  have hp : prnt L = (pr (L.length + 1) 0 L).1 := by unfold prnt; rw [if_pos hc]
  obtain ⟨T, t1, t2, t3, t4⟩ := pr_rt _ _ _ _ hone 0 (by omega)
  rw [List.take_length] at t4
  rw [show (((0 : Nat)) : Int) = 0 from rfl, ← hp] at t1
  obtain ⟨ts, o1, o2⟩ := t1 0 [] [] Wlx.Aft.nil (Wlx.Ok.nil _)
  rw [List.append_nil, List.append_nil] at o1
  have hrep : Rep (ts.map Wlx.tv) T := by
    unfold Rep
    rw [← o2, List.map_map, List.map_map]
    rfl
  have hlv := par_form t4 (en := ((prnt L).length : Int)) (f := 10 * (ts.map Wlx.tv).length + 9) (tl := []) hrep (fun c q e => by cases e) (fun j => rfl) (by rw [hrep.len]; omega)
  rw [List.append_nil] at hlv
  rw [prsR_of hl o1 hlv, if_pos hc]
end Go.Proofs.YtifdemakjphfcaaGreatDoor
