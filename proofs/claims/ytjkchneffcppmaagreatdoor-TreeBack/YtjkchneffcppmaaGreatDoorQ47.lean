/- LAppend, TParB, TRtC, TRtD, TSame, TCopy. -/
import Derived.Test.YtjkchneffcppmaaGreatDoorQ46
import Derived.OwnWalk
import Derived.Laws.AppendOwnNone
import Derived.Laws.OwnMore
import Derived.Deep.LoopGhost
import Derived.Deep.MidRow
import Derived.Laws.AppendOwn
import Derived.BigFrame
/- append of any slice to a slice of one's own; rows of tokens. -/
namespace Go.Proofs.YtjkchneffcppmaaGreatDoor
open Go.RowKit
set_option linter.unusedVariables false

/-- A slice's cells, one behind the other. -/
theorem ReadV.flat {w : World} {av : Option Addr} {len cap : Nat} {ts : List Wlx.TV} (h : ReadV w (.slice av len cap) ts) : ∀ ad, av = some ad → ∀ j u, (rowV ts)[j]? = some u → w.cell? (ad.add j) = some u := by
  obtain ⟨av', cap', e, h⟩ := h
  simp only [Value.slice.injEq] at e
  obtain ⟨rfl, rfl, rfl⟩ := e
  intro ad had j u hu
  have hj : j < ts.length * 3 := by
    have := (List.getElem?_eq_some_iff.1 hu).1
    rw [rowV_length] at this; exact this
  obtain ⟨bb, off, e1, hb, c0, c1, c2⟩ := h (j / 3) (by omega)
  obtain ⟨r0, r1, r2⟩ := rowV_get ts (j / 3) (by omega)
  rw [had] at e1
  obtain rfl := Option.some.inj e1
  have ea : (⟨bb, off, none⟩ : Addr).add j = ⟨bb, off + j, none⟩ := by
    unfold Addr.add
    by_cases h0 : j = 0
    · rw [if_pos h0, h0]; rfl
    · rw [if_neg h0]
  rw [ea]
  have hm : j % 3 = 0 ∨ j % 3 = 1 ∨ j % 3 = 2 := by omega
  rcases hm with hm | hm | hm
  · rw [show j / 3 * 3 = j by omega] at r0
    rw [r0] at hu
    rw [show off + j = off + j / 3 * 3 by omega, c0]; exact hu
  · rw [show j / 3 * 3 + 1 = j by omega] at r1
    rw [r1] at hu
    rw [show off + j = off + j / 3 * 3 + 1 by omega, c1]; exact hu
  · rw [show j / 3 * 3 + 2 = j by omega] at r2
    rw [r2] at hu
    rw [show off + j = off + j / 3 * 3 + 2 by omega, c2]; exact hu
end Go.Proofs.YtjkchneffcppmaaGreatDoor
/- Parse, walked. -/
namespace Go.Proofs.YtjkchneffcppmaaGreatDoor
open Go.RowKit Go.Shelf
set_option linter.unusedVariables false

theorem ndRow_length (l : List Wt.Nd) : (ndRow l).length = l.length * 20 := by
  induction l with
  | nil => rfl
  | cons x r ih =>
    have e : ndRow (x :: r) = nd20 x ++ ndRow r := by simp [ndRow]
    rw [e, List.length_append, ih, nd20_length, List.length_cons]; omega
end Go.Proofs.YtjkchneffcppmaaGreatDoor
/- What is printed of a tree is read as it: plain. -/
namespace Go.Proofs.YtjkchneffcppmaaGreatDoor
open Go.RowKit Go.Shelf
set_option linter.unusedVariables false

/-- u is written and read as row, on row k of the grammar. -/
def Rt (k : Nat) (u : List UInt8) (row : List Wt.Nd) : Prop := ∃ T, Wlx.Wr u T ∧ Wlx.Hdk u ∧ Hd1 T ∧ Par k T row
theorem Rt.le {k k' : Nat} (h : k ≤ k') (h7 : k' ≤ 7) {u : List UInt8} {row : List Wt.Nd} (hr : Rt k' u row) : Rt k u row := by
  obtain ⟨T, h1, h2, h3, h4⟩ := hr
  exact ⟨T, h1, h2, h3, par_le (k' - k) k (by omega) (by rw [show k + (k' - k) = k' by omega]; exact h4)⟩
theorem Rt.single {u : List UInt8} {row : List Wt.Nd} {T : List (Nat × List UInt8)} (h1 : Wlx.Wr u T) (h2 : Wlx.Hdk u) (h3 : Par7 T row) : Rt 7 u row := ⟨T, h1, h2, h3.1.hd, by unfold Par; rw [if_pos rfl]; exact h3⟩
theorem Rt.brack {u : List UInt8} {row : List Wt.Nd} (h : Rt 0 u row) : Rt 7 (40 :: (u ++ [41])) row := by
  obtain ⟨T, h1, h2, h3, h4⟩ := h
  exact Rt.single h1.brack ⟨40, _, rfl, by decide, by decide⟩ (par_brack h4)
/-- What the table of operations says of each. -/
theorem ops_facts : ∀ o ∈ Wt.opsT, Wt.opAs o.2.1 o.2.2 = some o ∧ o.2.1 ∈ Wlx.marks ∧ ¬ o.2.1 = [40] ∧ ¬ o.2.1 = [33] ∧ ¬ o.2.1 = [58] ∧ ¬ o.2.1 = [41] ∧ (∀ j : Fin 7, o.2.2 < (j.val : Int) → ¬ j.val = 5 → o.2.2 < 5 → Wt.opAs o.2.1 (j.val : Int) = none) ∧ (5 ≤ o.2.2 → ¬ o.2.1 = [60] ∧ ¬ o.2.1 = [62] ∧ ¬ o.2.1 = [61]) ∧ 0 ≤ o.2.2 ∧ o.2.2 ≤ 6 := by
  intro o ho
  simp only [Wt.opsT, List.mem_cons, List.not_mem_nil, or_false] at ho
  rcases ho with rfl | rfl | rfl | rfl | rfl | rfl | rfl | rfl | rfl | rfl | rfl | rfl | rfl | rfl | rfl <;> exact ⟨by rfl, by decide, by decide, by decide, by decide, by decide, by decide, by decide, by decide, by decide⟩
theorem opOf_mem {k : Int} {o : Int × List UInt8 × Int} (h : Wt.opOf k = some o) : o ∈ Wt.opsT ∧ o.1 = k := by
  unfold Wt.opOf at h
  exact ⟨List.mem_of_find?_eq_some h, by have := List.find?_some h; simpa using this⟩
theorem mark_hdk {m : List UInt8} (h : m ∈ Wlx.marks) (h5 : ¬ m = [60] ∧ ¬ m = [62] ∧ ¬ m = [61]) (h2 : m.length = 1) (u : List UInt8) : Wlx.Hdk (m ++ u) := by
  cases m with
  | nil => cases h2
  | cons c t =>
    simp only [List.length_cons, Nat.add_eq_right, List.length_eq_zero_iff] at h2
    subst h2
    exact ⟨c, u, rfl, fun e => h5.2.2 (by rw [e]), fun e => h5.2.1 (by rw [e])⟩
theorem Wlx.Hdk.app {u : List UInt8} (h : Wlx.Hdk u) (v : List UInt8) : Wlx.Hdk (u ++ v) := by
  obtain ⟨c, t, rfl, q⟩ := h
  exact ⟨c, t ++ v, rfl, q⟩
/-- A sign. -/
theorem Rt.sign {u : List UInt8} {row : List Wt.Nd} {o : Int × List UInt8 × Int} (ho : o ∈ Wt.opsT) (h5 : o.2.2 = 5) (h : Rt 5 u row) : Rt 5 (o.2.1 ++ u) (opN (opKd o.2.2) o.1 :: row) := by
  obtain ⟨T, h1, h2, h3, h4⟩ := h
  obtain ⟨f1, f2, f3, f4, f5, f6, f7, f8, -, -⟩ := ops_facts o ho
  have hl : ∀ o ∈ Wt.opsT, 5 ≤ o.2.2 → o.2.1.length = 1 := by decide
  refine ⟨(5, o.2.1) :: T, Wlx.Wr.mark f2 h2 h1, mark_hdk f2 (f8 (by omega)) (hl o ho (by omega)) u, ⟨5, o.2.1, T, rfl, fun e => f6 e.2⟩, ?_⟩
  unfold Par at *
  rw [if_neg (by decide), if_neg (by decide), if_pos rfl] at *
  rw [h5] at f1
  exact par_sign f1 h4
/-- A percent. -/
theorem Rt.pct {u : List UInt8} {row : List Wt.Nd} {o : Int × List UInt8 × Int} (ho : o ∈ Wt.opsT) (h6 : o.2.2 = 6) (h : Rt 6 u row) : Rt 6 (u ++ o.2.1) (opN (opKd o.2.2) o.1 :: row) := by
  obtain ⟨T, h1, h2, h3, h4⟩ := h
  obtain ⟨f1, f2, f3, f4, f5, f6, f7, f8, -, -⟩ := ops_facts o ho
  have hne : o.2.1 ≠ [] := fun e => by rw [e] at f2; exact absurd f2 (by decide)
  have ha := Wlx.mark_aft f2 []
  rw [List.append_nil] at ha
  refine ⟨T ++ [(5, o.2.1)], h1.app (Wlx.Wr.still f2 (f8 (by omega)).1 (f8 (by omega)).2.1) hne ha, Wlx.Hdk.app h2 _, h3.app _, ?_⟩
  unfold Par at *
  rw [if_neg (by decide), if_pos rfl] at *
  rw [h6] at f1
  exact par_pct f1 f3 f4 f5 h4
/-- An operator of two. -/
theorem Rt.bin {k : Nat} {u v : List UInt8} {row row2 : List Wt.Nd} {o : Int × List UInt8 × Int} (ho : o ∈ Wt.opsT) (hk : o.2.2 = (k : Int)) (h5 : k < 5) (h : Rt k u row) (hv : Rt (k + 1) v row2) : Rt k (u ++ o.2.1 ++ v) (opN (opKd o.2.2) o.1 :: (row ++ row2)) := by
  obtain ⟨T, h1, h2, h3, h4⟩ := h
  obtain ⟨S, g1, g2, g3, g4⟩ := hv
  obtain ⟨f1, f2, f3, f4, f5, f6, f7, f8, -, -⟩ := ops_facts o ho
  have hne : o.2.1 ≠ [] := fun e => by rw [e] at f2; exact absurd f2 (by decide)
  have hw := Wlx.Wr.mark f2 g2 g1
  rw [List.append_assoc]
  refine ⟨T ++ (5, o.2.1) :: S, h1.app hw (by simp [hne]) (Wlx.mark_aft f2 v), Wlx.Hdk.app h2 _, h3.app _, ?_⟩
  have hP : ParK k T row := by
    unfold Par at h4
    rw [if_neg (by omega), if_neg (by omega), if_neg (by omega)] at h4
    exact h4
  have := par_bin h5 (by rw [← hk]; exact f1) (fun j a b c => f7 ⟨j, by omega⟩ (by simp only; omega) c (by omega)) f3 f4 f5 hP g4
  unfold Par
  rw [if_neg (by omega), if_neg (by omega), if_neg (by omega)]
  exact this
/-- What is left of a call's arguments, with the closing bracket. -/
theorem args_rt {F : Nat} (ih : ∀ (L : List Wt.Nd) (s d : Nat), Wt.one F L = some (s, d) → ∀ least : Nat, least ≤ 6 → Rt least (pr F (least : Int) L).1 (L.take s)) : ∀ (n : Nat) (L : List Wt.Nd) (s d : Nat), Wt.many (Wt.one F) n L = some (s, d) →
    ∃ T, Wlx.Wr ((prA (pr F) n false L).1 ++ [41]) T ∧ Wlx.Aft ((prA (pr F) n false L).1 ++ [41]) ∧ ParA n T (L.take s) := by
  intro n
  induction n with
  | zero =>
    intro L s d h
    simp only [Wt.many, Option.some.injEq, Prod.mk.injEq] at h
    obtain ⟨rfl, rfl⟩ := h
    exact ⟨[(5, [41])], Wlx.Wr.still (m := [41]) (by decide) (by decide) (by decide), Wlx.Aft.cons (c := 41) (r := []) (by decide), parA_nil⟩
  | succ n ihn =>
    intro L s d h
    simp only [Wt.many] at h
    cases h1 : Wt.one F L with
    | none => rw [h1] at h; cases h
    | some q =>
      obtain ⟨a, b⟩ := q
      rw [h1] at h
      simp only at h
      cases h2 : Wt.many (Wt.one F) n (L.drop a) with
      | none => rw [h2] at h; cases h
      | some q2 =>
        obtain ⟨a2, b2⟩ := q2
        rw [h2] at h
        simp only [Option.some.injEq, Prod.mk.injEq] at h
        obtain ⟨rfl, rfl⟩ := h
        obtain ⟨T, t1, t2, t3, t4⟩ := ih L a b h1 0 (by omega)
        obtain ⟨S, s1, s2, s3⟩ := ihn (L.drop a) a2 b2 h2
        have e2 : (pr F 0 L).2 = L.drop a := (pr_ok F L a b h1 0).1
        have e : (prA (pr F) (n + 1) false L).1 ++ [41] = [44] ++ ((pr F 0 L).1 ++ ((prA (pr F) n false (L.drop a)).1 ++ [41])) := by
          simp only [prA, e2]
          simp
        rw [e]
        have hw := t1.app s1 (by simp) s2
        refine ⟨(5, [44]) :: (T ++ S), Wlx.Wr.mark (by decide) (Wlx.Hdk.app t2 _) hw, Wlx.Aft.cons (by decide), ?_⟩
        have := parA_cons t4 s3
        rw [← List.take_add] at this
        exact this
/-- A node that has no operator. -/
theorem rt_single {F : Nat} (ih : ∀ (L : List Wt.Nd) (s d : Nat), Wt.one F L = some (s, d) → ∀ least : Nat, least ≤ 6 → Rt least (pr F (least : Int) L).1 (L.take s)) {x : Wt.Nd} (hx : Knd x) (hk : x.k = 1 ∨ x.k = 2 ∨ x.k = 3 ∨ x.k = 6) {r : List Wt.Nd} {a b : Nat} (h : Wt.many (Wt.one F) (Wt.parts x).toNat r = some (a, b)) :
    Rt 7 (prS (pr F) x r).1 (x :: r.take a) := by
  unfold prS
  by_cases h1 : x.k = 1
  · rw [if_pos h1]
    rw [knd_parts0 hx (Or.inl h1)] at h
    simp only [Int.toNat_zero, Wt.many, Option.some.injEq, Prod.mk.injEq] at h
    obtain ⟨rfl, rfl⟩ := h
    rcases hx with ⟨_, h, e⟩ | ⟨h, -, e⟩ | ⟨h, -, -, -, e⟩ | ⟨h, h2, -⟩ | ⟨h, h2, -⟩ | ⟨h, -, -, -, e⟩
    · obtain ⟨T, t1, t2, t3⟩ := wr_val h
      have := Rt.single t1 t2 t3
      unfold leafN at this
      rw [← e] at this
      exact this
    all_goals omega
  rw [if_neg h1]
  by_cases h2 : x.k = 2
  · rw [if_pos h2]
    rw [knd_parts0 hx (Or.inr (Or.inl h2))] at h
    simp only [Int.toNat_zero, Wt.many, Option.some.injEq, Prod.mk.injEq] at h
    obtain ⟨rfl, rfl⟩ := h
    rcases hx with ⟨h, _, e⟩ | ⟨_, h, e⟩ | ⟨h, -, -, -, e⟩ | ⟨h, h2, -⟩ | ⟨h, h2, -⟩ | ⟨h, -, -, -, e⟩
    · omega
    · obtain ⟨t1, t2⟩ := wr_cel h
      have := Rt.single t1 t2 (par_cel h)
      rw [← e] at this
      exact this
    all_goals omega
  rw [if_neg h2]
  by_cases h3 : x.k = 3
  · rw [if_pos h3]
    rw [knd_parts0 hx (Or.inr (Or.inr h3))] at h
    simp only [Int.toNat_zero, Wt.many, Option.some.injEq, Prod.mk.injEq] at h
    obtain ⟨rfl, rfl⟩ := h
    rcases hx with ⟨h, _, e⟩ | ⟨h, _, e⟩ | ⟨_, ha, hb, hs, e⟩ | ⟨h, h2, -⟩ | ⟨h, h2, -⟩ | ⟨h, -, -, -, e⟩
    · omega
    · omega
    · have hs : x.b.s = ⟨#[]⟩ := by
        rw [ByteArray.toList_eq, List.isEmpty_iff] at hs
        have : x.b.s = ⟨x.b.s.data.toList.toArray⟩ := by rw [Array.toArray_toList]
        rw [this, hs]
      obtain ⟨t1, t2⟩ := wr_area ha hb
      have := Rt.single t1 t2 (par_area ha hb hs)
      rw [← e] at this
      exact this
    all_goals omega
  rw [if_neg h3]
  have h6 : x.k = 6 := by omega
  rw [knd_parts6 h6] at h
  rcases hx with ⟨h', _, e⟩ | ⟨h', _, e⟩ | ⟨h', _, _, _, e⟩ | ⟨h', h2, -⟩ | ⟨h', h2, -⟩ | ⟨_, hn, ha0, ha30, e⟩
  · omega
  · omega
  · omega
  · omega
  · omega
  obtain ⟨n, hn0⟩ : ∃ n : Nat, x.ar = n := ⟨x.ar.toNat, by omega⟩
  have ex : x = callN x.nm n := by rw [e]; unfold callN; simp [hn0]
  rw [hn0, Int.toNat_natCast] at h ⊢
  obtain ⟨w1, w2⟩ := fn_word hn
  obtain ⟨n1, n2⟩ := Wr_word w1 w2
  cases n with
  | zero =>
    simp only [Wt.many, Option.some.injEq, Prod.mk.injEq] at h
    obtain ⟨rfl, rfl⟩ := h
    have hw : Wlx.Wr (x.nm.data.toList ++ [40, 41]) ([(3, x.nm.data.toList)] ++ [(5, [40]), (5, [41])]) := by
      refine n1.app ?_ (by simp) (Wlx.Aft.cons (by decide))
      have := Wlx.Wr.mark (m := [40]) (u := [41]) (by decide) ⟨41, [], rfl, by decide, by decide⟩ (Wlx.Wr.still (m := [41]) (by decide) (by decide) (by decide))
      exact this
    have := Rt.single hw (Wlx.Hdk.app n2 _) (par_call0 hn)
    have e3 : x.nm.data.toList ++ [40] ++ (prA (pr F) 0 true r).1 ++ [41] = x.nm.data.toList ++ [40, 41] := by simp [prA]
    rw [e3, List.take_zero]
    have ex' : [x] = [callN x.nm 0] := by rw [← ex]
    rw [ex']
    exact this
  | succ n =>
    simp only [Wt.many] at h
    cases h1' : Wt.one F r with
    | none => rw [h1'] at h; cases h
    | some q =>
      obtain ⟨a1, b1⟩ := q
      rw [h1'] at h
      simp only at h
      cases h2' : Wt.many (Wt.one F) n (r.drop a1) with
      | none => rw [h2'] at h; cases h
      | some q2 =>
        obtain ⟨a2, b2⟩ := q2
        rw [h2'] at h
        simp only [Option.some.injEq, Prod.mk.injEq] at h
        obtain ⟨rfl, rfl⟩ := h
        obtain ⟨T, t1, t2, t3, t4⟩ := ih r a1 b1 h1' 0 (by omega)
        obtain ⟨S, s1, s2, s3⟩ := args_rt ih n (r.drop a1) a2 b2 h2'
        have e2 : (pr F 0 r).2 = r.drop a1 := (pr_ok F r a1 b1 h1' 0).1
        have e3 : x.nm.data.toList ++ [40] ++ (prA (pr F) (n + 1) true r).1 ++ [41] = x.nm.data.toList ++ ([40] ++ ((pr F 0 r).1 ++ ((prA (pr F) n false (r.drop a1)).1 ++ [41]))) := by
          simp only [prA, e2]
          simp
        rw [e3]
        have hw := t1.app s1 (by simp) s2
        have hw2 := Wlx.Wr.mark (m := [40]) (by decide) (Wlx.Hdk.app t2 _) hw
        have hw3 := n1.app hw2 (by simp) (Wlx.Aft.cons (by decide))
        have := Rt.single hw3 (Wlx.Hdk.app n2 _) (par_call hn (by omega) t3 t4 s3)
        have ex' : x :: r.take (a1 + a2) = callN x.nm (n + 1) :: (r.take a1 ++ (r.drop a1).take a2) := by
          rw [← List.take_add, ← ex]
        rw [ex']
        exact this
/-- A part, as it is printed. -/
theorem pr_rt : ∀ (F : Nat) (L : List Wt.Nd) (s d : Nat), Wt.one F L = some (s, d) → ∀ least : Nat, least ≤ 6 → Rt least (pr F (least : Int) L).1 (L.take s) := by
  intro F
  induction F with
  | zero => intro L s d h; cases h
  | succ F ih =>
    intro L s d h least hl
    cases L with
    | nil => cases h
    | cons x r =>
      obtain ⟨hx, a, b, hm, rfl, rfl⟩ := one_unf h
      have hK := right_knd hx
      rw [List.take_succ_cons]
      have key : ∃ t : Nat, tgh x = (t : Int) ∧ t ≤ 7 ∧ Rt t (prN (pr F) x r).1 (x :: r.take a) := by
        rcases knd_tgh hK with ⟨h7, -, hk⟩ | ⟨ht, hp, o, ho⟩ | ⟨ht, hp, o, ho⟩
        · refine ⟨7, h7, by omega, ?_⟩
          unfold prN
          rw [if_pos h7]
          exact rt_single ih hK hk hm
        · obtain ⟨om, oe⟩ := opOf_mem ho
          have htg : tgh x = o.2.2 := (opOf_tgh ho).1
          have hmk : mrk x = o.2.1 := by unfold mrk; rw [ho]
          rw [hp] at hm
          have hm1 := many_one hm
          have ex : x = opN (opKd o.2.2) o.1 := by
            rcases hK with ⟨h', _, e⟩ | ⟨h', _, e⟩ | ⟨h', _, _, _, e⟩ | ⟨h', h2, e⟩ | ⟨h', h2, e⟩ | ⟨h', _, _, _, e⟩
            · unfold Wt.parts at hp; rw [if_neg (by omega), if_neg (by omega), e] at hp; cases hp
            · unfold Wt.parts at hp; rw [if_neg (by omega), if_neg (by omega), e] at hp; cases hp
            · unfold Wt.parts at hp; rw [if_neg (by omega), if_neg (by omega), e] at hp; cases hp
            · rw [e, oe]; unfold opN opKd; rw [if_neg (by omega)]
            · unfold Wt.parts at hp; rw [if_neg (by omega), if_pos h'] at hp; cases hp
            · have := congrArg Wt.Nd.op e
              rw [this, opOf_zero] at ho; cases ho
          unfold prN
          rcases ht with h5 | h6
          · refine ⟨5, h5, by omega, ?_⟩
            rw [if_neg (by omega), if_pos h5, hmk]
            have := Rt.sign om (by omega) (ih r a b hm1 5 (by omega))
            rw [← ex] at this
            exact this
          · refine ⟨6, h6, by omega, ?_⟩
            rw [if_neg (by omega), if_neg (by omega), if_pos h6, hmk]
            have := Rt.pct om (by omega) (ih r a b hm1 6 (by omega))
            rw [← ex] at this
            exact this
        · obtain ⟨om, oe⟩ := opOf_mem ho
          have htg : tgh x = o.2.2 := (opOf_tgh ho).1
          have hmk : mrk x = o.2.1 := by unfold mrk; rw [ho]
          rw [hp] at hm
          obtain ⟨a1, b1, a2, b2, m1, m2, rfl, rfl⟩ := many_two hm
          have ex : x = opN (opKd o.2.2) o.1 := by
            rcases hK with ⟨h', _, e⟩ | ⟨h', _, e⟩ | ⟨h', _, _, _, e⟩ | ⟨h', h2, e⟩ | ⟨h', h2, e⟩ | ⟨h', _, _, _, e⟩
            · unfold Wt.parts at hp; rw [if_neg (by omega), if_neg (by omega), e] at hp; cases hp
            · unfold Wt.parts at hp; rw [if_neg (by omega), if_neg (by omega), e] at hp; cases hp
            · unfold Wt.parts at hp; rw [if_neg (by omega), if_neg (by omega), e] at hp; cases hp
            · unfold Wt.parts at hp; rw [if_pos h'] at hp; cases hp
            · rw [e, oe]; unfold opN opKd; rw [if_pos (by omega)]
            · have := congrArg Wt.Nd.op e
              rw [this, opOf_zero] at ho; cases ho
          obtain ⟨k, hk⟩ : ∃ k : Nat, tgh x = k := ⟨(tgh x).toNat, by omega⟩
          refine ⟨k, hk, by omega, ?_⟩
          unfold prN
          rw [if_neg (by omega), if_neg (by omega), if_neg (by omega), hmk, hk]
          have e2 : (pr F (k : Int) r).2 = r.drop a1 := (pr_ok F r a1 b1 m1 k).1
          rw [e2]
          have i1 := ih r a1 b1 m1 k (by omega)
          have i2 := ih (r.drop a1) a2 b2 m2 (k + 1) (by omega)
          rw [show (((k + 1 : Nat)) : Int) = (k : Int) + 1 by omega] at i2
          have := Rt.bin om (by omega) (by omega) i1 i2
          rw [← ex, ← List.take_add] at this
          exact this
      obtain ⟨t, ht, h7, hR⟩ := key
      show Rt least (if (least : Int) ≤ tgh x then prN (pr F) x r else (40 :: (prN (pr F) x r).1 ++ [41], (prN (pr F) x r).2)).1 _
      split
      · exact hR.le (by omega) h7
      · have := (hR.le (Nat.zero_le _) h7).brack
        exact Rt.le (by omega) (Nat.le_refl 7) this
end Go.Proofs.YtjkchneffcppmaaGreatDoor
/- What is printed of a tree is read as it: plain. -/
namespace Go.Proofs.YtjkchneffcppmaaGreatDoor
open Go.RowKit Go.Shelf
set_option linter.unusedVariables false

/-- What is printed of a tree is read as it. -/
theorem prnt_read {L : List Wt.Nd} (hc : Wt.check L = 0) (hl : (prnt L).length ≤ 1024) : prsR (prnt L) = .inl L := by
  obtain ⟨h256, d, hone, hd⟩ := check_zero hc
  have hp : prnt L = (pr (L.length + 1) 0 L).1 := by unfold prnt; rw [if_pos hc]
  obtain ⟨T, t1, t2, t3, t4⟩ := pr_rt _ _ _ _ hone 0 (by omega)
  rw [List.take_length] at t4
  rw [show (((0 : Nat)) : Int) = 0 from rfl, ← hp] at t1
  obtain ⟨ts, o1, o2⟩ := t1 0 [] [] Wlx.Aft.nil (Wlx.Ok.nil _)
  rw [List.append_nil, List.append_nil] at o1
  have hrep : Rep (ts.map Wlx.tv) T := by
    unfold Rep
    rw [← o2, List.map_map, List.map_map]
    rfl
  have hlv := par_form t4 (en := ((prnt L).length : Int)) (f := 10 * (ts.map Wlx.tv).length + 9) (tl := []) hrep (fun c q e => by cases e) (fun j => rfl) (by rw [hrep.len]; omega)
  rw [List.append_nil] at hlv
  rw [prsR_of hl o1 hlv, if_pos hc]
end Go.Proofs.YtjkchneffcppmaaGreatDoor
/- Rows of nodes, held against each other. -/
namespace Go.Proofs.YtjkchneffcppmaaGreatDoor
open Go.RowKit
set_option linter.unusedVariables false

theorem neqN_run (x : Wt.Nd) (w : World) : (binOp .neq 45 (ndV x) (ndV x)).run Tryz.prog w = .ok (.bool false) w := by
  have h := eqN_run x x w
  have e : eqN x x = true := (eqN_iff x x).2 rfl
  rw [e] at h
  unfold ndV at h ⊢
  rw [run_eql_struct] at h
  rw [run_neq_struct]
  revert h
  generalize (Op.equalIn 10000 45 (.agg (nd20 x).toArray) (.agg (nd20 x).toArray)).run Tryz.prog w = r
  intro h
  cases r <;> simp_all [Result.andThen]
theorem neqN_exec (x : Wt.Nd) (w : World) {a : Operand → Value} {ex ey : Operand} (h1 : a ex = .agg (nd20 x).toArray) (h2 : a ey = .agg (nd20 x).toArray) {d : Option Nat} {ty : TypeId} {p : String} {af : Array Edge} {g : Option (Nat × Bool)} :
    (execOp a { dst := d, op := Op.binOp BinOp.neq 45 ex ey 45, type := ty, pos := p, after := af, guard := g }).run Tryz.prog w = .ok (.value (.bool false)) w := by
  unfold execOp
  simp only [h1, h2]
  have h3 := neqN_run x w
  unfold ndV at h3
  have h4 : (eqGuard .neq 45 ex ey (.agg (nd20 x).toArray) (.agg (nd20 x).toArray)).run Tryz.prog w = .ok () w := by kernel_rfl
  simp only [Sem.run_bind, h3, h4, Result.andThen_ok, Sem.run_pure]
set_option maxRecDepth 100000 in
set_option maxHeartbeats 4000000 in
theorem nsame_true (av1 av2 : Option Addr) (cap1 cap2 : Nat) (L : List Wt.Nd) (w : World) (h1 : RdN w av1 L) (h2 : RdN w av2 L) (hl : L.length ≤ 4000000) :
    Calls Tryz.prog 12 #[.slice av1 L.length cap1, .slice av2 L.length cap2] w fun e w' => e = .returned (.bool true) ∧ Below w.heap.size w w' := by
  have H1 : Hid (RdN w av1 L) := h1
  have H2 : Hid (RdN w av2 L) := h2
  obtain ⟨n, hn⟩ : ∃ n, L.length = n := ⟨_, rfl⟩
  rw [hn] at hl ⊢
  clear h1 h2
  go_enter Tryz.func12, Tryz.ntmps12
  go_wp2_with fail
  go_loopg [5] n (fun gk x wr => ∃ i : Nat, x = .int .i64 i ∧ gk = n - i ∧ i ≤ n ∧ Below w.heap.size w wr)
  case atStart => exact ⟨0, rfl, rfl, Nat.zero_le _, Below.refl _ _⟩
  case round =>
    obtain ⟨i, rfl, hg, hi, hb⟩ := hrel
    by_cases hlt : i < n
    · have hli : (i : Int) < (n : Int) := by omega
      have hi0 : (0 : Int) ≤ (i : Int) := by omega
      have hwi : IntKind.i64.wrap ((i : Int) + 1) = (i : Int) + 1 := by rw [IntKind.wrap_i64]; omega
      obtain ⟨b1, o1, rfl, c1⟩ := RdN.below H1.out hb i (by omega)
      obtain ⟨b2, o2, rfl, c2⟩ := RdN.below H2.out hb i (by omega)
      generalize L[i] = x at c1 c2
      go_upto_region 6 with fail
      refine wp_region_held_drew (S := fun W => W.rangeAt b1 (o1 + i * 20) (nd20 x) ∧ W.rangeAt b2 (o2 + i * 20) (nd20 x)) (by kernel_rfl) ⟨c1, c2⟩ (fun hHeld => ?_)
      refine wpAnyH_take (i := 0) (oi := { dst := Option.some 17, op := Op.move (Operand.tmp 0), type := 22, pos := "law.go:22", after := #[], guard := Option.none }) (v := ?_) rfl (by kernel_rfl) (by kernel_rfl) (by kernel_rfl) (fun _ _ _ h => h) (Or.inl ⟨by rfl, ?_⟩) (by assumption) ?_
      rotate_left
      · intro w hSw
        (try dsimp only at hSw)
        go_simp
        try with_reducible rfl
      try simp only [Act.put, List.setIfInBounds_toArray, List.set_cons_zero, List.set_cons_succ]
      refine wpAnyH_take (i := 1) (oi := { dst := Option.some 18, op := Op.move (Operand.tmp 5), type := 3, pos := "law.go:22", after := #[], guard := Option.none }) (v := ?_) rfl (by kernel_rfl) (by kernel_rfl) (by kernel_rfl) (fun _ _ _ h => h) (Or.inl ⟨by rfl, ?_⟩) (by assumption) ?_
      rotate_left
      · intro w hSw
        (try dsimp only at hSw)
        go_simp
        try with_reducible rfl
      try simp only [Act.put, List.setIfInBounds_toArray, List.set_cons_zero, List.set_cons_succ]
      refine wpAnyH_take (i := 2) (oi := { dst := Option.some 19, op := Op.indexAddr 22 (Operand.tmp 17) (Operand.tmp 18), type := 0, pos := "law.go:22", after := #[{ on := 0, ground := Ground.data }, { on := 1, ground := Ground.data }], guard := Option.none }) (v := ?_) rfl (by kernel_rfl) (by kernel_rfl) (by kernel_rfl) (fun _ _ _ h => h) (Or.inl ⟨by rfl, ?_⟩) (by assumption) ?_
      rotate_left
      · intro w hSw
        (try dsimp only at hSw)
        go_simp
        try with_reducible rfl
      try simp only [Act.put, List.setIfInBounds_toArray, List.set_cons_zero, List.set_cons_succ]
      refine wpAnyH_take (i := 3) (oi := { dst := Option.some 20, op := Op.load 45 (Operand.tmp 19), type := 45, pos := "law.go:22", after := #[{ on := 2, ground := Ground.data }], guard := Option.none }) (v := .agg (nd20 x).toArray) rfl (by kernel_rfl) (by kernel_rfl) (by kernel_rfl) (fun _ _ _ h => h) (yieldsIf_load_mid (by rfl) 45 (.tmp 19) rfl b1 (o1 + i * 20) rfl (nd20 x) _ (fun _ h => h.1) Tryz.underlying45 rfl (by kernel_rfl)) (by assumption) ?_
      try simp only [Act.put, List.setIfInBounds_toArray, List.set_cons_zero, List.set_cons_succ]
      refine wpAnyH_take (i := 4) (oi := { dst := Option.some 21, op := Op.move (Operand.tmp 1), type := 22, pos := "law.go:22", after := #[], guard := Option.none }) (v := ?_) rfl (by kernel_rfl) (by kernel_rfl) (by kernel_rfl) (fun _ _ _ h => h) (Or.inl ⟨by rfl, ?_⟩) (by assumption) ?_
      rotate_left
      · intro w hSw
        (try dsimp only at hSw)
        go_simp
        try with_reducible rfl
      try simp only [Act.put, List.setIfInBounds_toArray, List.set_cons_zero, List.set_cons_succ]
      refine wpAnyH_take (i := 5) (oi := { dst := Option.some 22, op := Op.move (Operand.tmp 5), type := 3, pos := "law.go:22", after := #[], guard := Option.none }) (v := ?_) rfl (by kernel_rfl) (by kernel_rfl) (by kernel_rfl) (fun _ _ _ h => h) (Or.inl ⟨by rfl, ?_⟩) (by assumption) ?_
      rotate_left
      · intro w hSw
        (try dsimp only at hSw)
        go_simp
        try with_reducible rfl
      try simp only [Act.put, List.setIfInBounds_toArray, List.set_cons_zero, List.set_cons_succ]
      refine wpAnyH_take (i := 6) (oi := { dst := Option.some 23, op := Op.indexAddr 22 (Operand.tmp 21) (Operand.tmp 22), type := 0, pos := "law.go:22", after := #[{ on := 4, ground := Ground.data }, { on := 5, ground := Ground.data }], guard := Option.none }) (v := ?_) rfl (by kernel_rfl) (by kernel_rfl) (by kernel_rfl) (fun _ _ _ h => h) (Or.inl ⟨by rfl, ?_⟩) (by assumption) ?_
      rotate_left
      · intro w hSw
        (try dsimp only at hSw)
        go_simp
        try with_reducible rfl
      try simp only [Act.put, List.setIfInBounds_toArray, List.set_cons_zero, List.set_cons_succ]
      refine wpAnyH_take (i := 7) (oi := { dst := Option.some 24, op := Op.load 45 (Operand.tmp 23), type := 45, pos := "law.go:22", after := #[{ on := 6, ground := Ground.data }], guard := Option.none }) (v := .agg (nd20 x).toArray) rfl (by kernel_rfl) (by kernel_rfl) (by kernel_rfl) (fun _ _ _ h => h) (yieldsIf_load_mid (by rfl) 45 (.tmp 23) rfl b2 (o2 + i * 20) rfl (nd20 x) _ (fun _ h => h.2) Tryz.underlying45 rfl (by kernel_rfl)) (by assumption) ?_
      try simp only [Act.put, List.setIfInBounds_toArray, List.set_cons_zero, List.set_cons_succ]
      refine wpAnyH_take (i := 8) (oi := { dst := Option.some 25, op := Op.binOp BinOp.neq 45 (Operand.tmp 20) (Operand.tmp 24) 45, type := 4, pos := "law.go:22", after := #[{ on := 3, ground := Ground.data }, { on := 7, ground := Ground.data }], guard := Option.none }) (v := .bool false) rfl (by kernel_rfl) (by kernel_rfl) (by kernel_rfl) (fun _ _ _ h => h) (Or.inl ⟨by rfl, fun w _ => neqN_exec x w rfl rfl⟩) (by assumption) ?_
      try simp only [Act.put, List.setIfInBounds_toArray, List.set_cons_zero, List.set_cons_succ]
      refine wpAnyH_done (by kernel_rfl) ?_ _
      clear hHeld c1 c2
      have hbd := hb.drew
      go_wp2_with fail
      go_roundg (n - (i + 1))
      case rel => exact ⟨i + 1, by simp, rfl, by omega, hbd⟩
      case measure => omega
    · have hli : ¬ (i : Int) < (n : Int) := by omega
      go_wp2
      go_ret
      exact ⟨rfl, hb⟩
end Go.Proofs.YtjkchneffcppmaaGreatDoor
/- A row of nodes, copied: append to an empty one. -/
namespace Go.Proofs.YtjkchneffcppmaaGreatDoor
open Go.RowKit Go.Shelf
set_option linter.unusedVariables false

theorem RdN.flat {w : World} {av : Option Addr} {L : List Wt.Nd} (h : RdN w av L) : ∀ ad, av = some ad → ∀ j u, (ndRow L)[j]? = some u → w.cell? (ad.add j) = some u := by
  intro ad had j u hu
  have hj : j < L.length * 20 := by
    have := (List.getElem?_eq_some_iff.1 hu).1
    rw [ndRow_length] at this; exact this
  have hd : j / 20 < L.length := by omega
  obtain ⟨bb, off, e, hc⟩ := h (j / 20) hd
  rw [had] at e
  obtain rfl := Option.some.inj e
  have h1 := ndRow_get L (j / 20) hd (j % 20) (Nat.mod_lt _ (by omega))
  rw [show j / 20 * 20 + j % 20 = j by omega, hu] at h1
  have h2 := hc (j % 20) u h1.symm
  rw [show off + j / 20 * 20 + j % 20 = off + j by omega] at h2
  rw [Addr.add_mid]; exact h2
theorem ndRow_all (l : List Wt.Nd) : ∀ u ∈ ndRow l, u.oneCell' = true := by
  intro u hu
  unfold ndRow at hu
  obtain ⟨x, _, hu⟩ := List.mem_flatMap.1 hu
  exact nd_one x u hu
theorem wp_copyN {o : Oper} {a : Act} {K : Act → World → Prop} {Q : Exit → Act → World → Prop} (s x : Operand) (ho : o.op = .call { callee := .builtin .append, args := #[s, x], argTypes := #[22, 22] })
    (w : World) (hs : a.eval s = .slice (some ⟨w.heap.size, 0, none⟩) 0 0) (av : Option Addr) (L : List Wt.Nd) (cap : Nat) (hx : a.eval x = .slice av L.length cap) (hr : RdN w av L) (hno : av = none → L.length = 0 ∧ cap = 0) (hl : True → L.length ≤ 799644820177)
    (h : ∀ v' w', OwnN w' w.heap.size v' L → Below w.heap.size w w' → K (a.put o.dst v') w') : o.wp Tryz.prog a (w.alloc (.cells #[] 45)) K Q := by
  obtain ⟨i0, hi0, hz0, hz1, hz2⟩ := info_parts nodeInfo
  have hl := hl trivial
  have hBa := ball (Below.refl _ w) (.cells #[] 45)
  have hown : (w.alloc (.cells #[] 45)).ownsRow w.heap.size 45 20 (.slice (some ⟨w.heap.size, 0, none⟩) 0 0) 0 [] := ⟨rfl, .inr ⟨w.heap.size, 0, #[], rfl, Nat.le_refl _, heap_alloc_new w _, Nat.le_refl _, by unfold maxLen; omega, rfl, rfl⟩⟩
  cases av with
  | some ad =>
    refine wp_append_own _ s x 22 ho w.heap.size 45 i0 _ 20 176 Tryz.underlying22 hi0 hz0 hz1 hz2 rfl (by decide) _ 0 [] hs hown ad L.length cap (ndRow L) hx (ndRow_length L) ((hr.below hBa).flat ad rfl) (ndRow_all L) (by unfold maxLen; omega) (by omega) (by simp only [World.size_alloc]; omega) ?_
    intro v' w' own hg _
    rw [Nat.zero_add, List.nil_append] at own
    refine h v' w' own (hBa.grown hg (by simp only [World.size_alloc]; omega) (fun k e => by simp [Value.ownBlock] at e; omega))
  | none =>
    obtain ⟨h0, rfl⟩ := hno rfl
    have hL : L = [] := List.eq_nil_of_length_eq_zero h0
    subst hL
    have hrun := run_append_owned_none (P := Tryz.prog) (w := w.alloc (.cells #[] 45)) w.heap.size 22 o.type 45 i0 20 Tryz.underlying22 hi0 _ 0 [] hown
    have hx : a.eval x = .slice none 0 0 := hx
    unfold Oper.wp
    simp only [execOp, ho, resolve, invoke, builtin, Sem.run_bind, Sem.run_pure, Result.andThen_ok, List.map_toArray, List.map_cons, List.map_nil, hs, hx, hrun]
    exact h _ _ hown hBa
theorem wpList_copyN {ops : Array Oper} {rest : List Oper} {o : Oper} {a : Act} {Q : Exit → Act → World → Prop} (hw : Region.wanted o (yielded ops a.tmps) = true) (s x : Operand) (ho : o.op = .call { callee := .builtin .append, args := #[s, x], argTypes := #[22, 22] })
    (w : World) (hs : a.eval s = .slice (some ⟨w.heap.size, 0, none⟩) 0 0) (av : Option Addr) (L : List Wt.Nd) (cap : Nat) (hx : a.eval x = .slice av L.length cap) (hr : RdN w av L) (hno : av = none → L.length = 0 ∧ cap = 0) (hl : True → L.length ≤ 799644820177)
    (h : ∀ v' w', OwnN w' w.heap.size v' L → Below w.heap.size w w' → wpList Tryz.prog ops Q rest (a.put o.dst v') w') : wpList Tryz.prog ops Q (o :: rest) a (w.alloc (.cells #[] 45)) :=
  BigFrame.wpList_want hw fun _ hK => wp_copyN s x ho w hs av L cap hx hr hno hl fun v' w' h1 h2 => hK _ _ (h v' w' h1 h2)
end Go.Proofs.YtjkchneffcppmaaGreatDoor
