/- TRtC, TRtD, TPos. -/
import Derived.Test.YtjkchneffcppmaaGreatDoorQ46
/- What is printed of a tree is read as it: plain. -/
namespace Go.Proofs.YtjkchneffcppmaaGreatDoor
open Go.RowKit Go.Shelf
set_option linter.unusedVariables false

/-- u is written and read as row, on row k of the grammar. -/
def Rt (k : Nat) (u : List UInt8) (row : List Wt.Nd) : Prop := ∃ T, Wlx.Wr u T ∧ Wlx.Hdk u ∧ Hd1 T ∧ Par k T row
theorem Rt.le {k k' : Nat} (h : k ≤ k') (h7 : k' ≤ 7) {u : List UInt8} {row : List Wt.Nd} (hr : Rt k' u row) : Rt k u row := by
  obtain ⟨T, h1, h2, h3, h4⟩ := hr
  exact ⟨T, h1, h2, h3, par_le (k' - k) k (by omega) (by rw [show k + (k' - k) = k' by omega]; exact h4)⟩
theorem Rt.single {u : List UInt8} {row : List Wt.Nd} {T : List (Nat × List UInt8)} (h1 : Wlx.Wr u T) (h2 : Wlx.Hdk u) (h3 : Par7 T row) : Rt 7 u row := ⟨T, h1, h2, h3.1.hd, by unfold Par; rw [if_pos rfl]; exact h3⟩
theorem Rt.brack {u : List UInt8} {row : List Wt.Nd} (h : Rt 0 u row) : Rt 7 (40 :: (u ++ [41])) row := by
  obtain ⟨T, h1, h2, h3, h4⟩ := h
  exact Rt.single h1.brack ⟨40, _, rfl, by decide, by decide⟩ (par_brack h4)
/-- What the table of operations says of each. -/
theorem ops_facts : ∀ o ∈ Wt.opsT, Wt.opAs o.2.1 o.2.2 = some o ∧ o.2.1 ∈ Wlx.marks ∧ ¬ o.2.1 = [40] ∧ ¬ o.2.1 = [33] ∧ ¬ o.2.1 = [58] ∧ ¬ o.2.1 = [41] ∧ (∀ j : Fin 7, o.2.2 < (j.val : Int) → ¬ j.val = 5 → o.2.2 < 5 → Wt.opAs o.2.1 (j.val : Int) = none) ∧ (5 ≤ o.2.2 → ¬ o.2.1 = [60] ∧ ¬ o.2.1 = [62] ∧ ¬ o.2.1 = [61]) ∧ 0 ≤ o.2.2 ∧ o.2.2 ≤ 6 := by
  intro o ho
  simp only [Wt.opsT, List.mem_cons, List.not_mem_nil, or_false] at ho
  rcases ho with rfl | rfl | rfl | rfl | rfl | rfl | rfl | rfl | rfl | rfl | rfl | rfl | rfl | rfl | rfl <;> exact ⟨by rfl, by decide, by decide, by decide, by decide, by decide, by decide, by decide, by decide, by decide⟩
theorem opOf_mem {k : Int} {o : Int × List UInt8 × Int} (h : Wt.opOf k = some o) : o ∈ Wt.opsT ∧ o.1 = k := by
  unfold Wt.opOf at h
  exact ⟨List.mem_of_find?_eq_some h, by have := List.find?_some h; simpa using this⟩
theorem mark_hdk {m : List UInt8} (h : m ∈ Wlx.marks) (h5 : ¬ m = [60] ∧ ¬ m = [62] ∧ ¬ m = [61]) (h2 : m.length = 1) (u : List UInt8) : Wlx.Hdk (m ++ u) := by
  cases m with
  | nil => cases h2
  | cons c t =>
    simp only [List.length_cons, Nat.add_eq_right, List.length_eq_zero_iff] at h2
    subst h2
    exact ⟨c, u, rfl, fun e => h5.2.2 (by rw [e]), fun e => h5.2.1 (by rw [e])⟩
theorem Wlx.Hdk.app {u : List UInt8} (h : Wlx.Hdk u) (v : List UInt8) : Wlx.Hdk (u ++ v) := by
  obtain ⟨c, t, rfl, q⟩ := h
  exact ⟨c, t ++ v, rfl, q⟩
/-- A sign. -/
theorem Rt.sign {u : List UInt8} {row : List Wt.Nd} {o : Int × List UInt8 × Int} (ho : o ∈ Wt.opsT) (h5 : o.2.2 = 5) (h : Rt 5 u row) : Rt 5 (o.2.1 ++ u) (opN (opKd o.2.2) o.1 :: row) := by
  obtain ⟨T, h1, h2, h3, h4⟩ := h
  obtain ⟨f1, f2, f3, f4, f5, f6, f7, f8, -, -⟩ := ops_facts o ho
  have hl : ∀ o ∈ Wt.opsT, 5 ≤ o.2.2 → o.2.1.length = 1 := by decide
  refine ⟨(5, o.2.1) :: T, Wlx.Wr.mark f2 h2 h1, mark_hdk f2 (f8 (by omega)) (hl o ho (by omega)) u, ⟨5, o.2.1, T, rfl, fun e => f6 e.2⟩, ?_⟩
  unfold Par at *
  rw [if_neg (by decide), if_neg (by decide), if_pos rfl] at *
  rw [h5] at f1
  exact par_sign f1 h4
/-- A percent. -/
theorem Rt.pct {u : List UInt8} {row : List Wt.Nd} {o : Int × List UInt8 × Int} (ho : o ∈ Wt.opsT) (h6 : o.2.2 = 6) (h : Rt 6 u row) : Rt 6 (u ++ o.2.1) (opN (opKd o.2.2) o.1 :: row) := by
  obtain ⟨T, h1, h2, h3, h4⟩ := h
  obtain ⟨f1, f2, f3, f4, f5, f6, f7, f8, -, -⟩ := ops_facts o ho
  have hne : o.2.1 ≠ [] := fun e => by rw [e] at f2; exact absurd f2 (by decide)
  have ha := Wlx.mark_aft f2 []
  rw [List.append_nil] at ha
  refine ⟨T ++ [(5, o.2.1)], h1.app (Wlx.Wr.still f2 (f8 (by omega)).1 (f8 (by omega)).2.1) hne ha, Wlx.Hdk.app h2 _, h3.app _, ?_⟩
  unfold Par at *
  rw [if_neg (by decide), if_pos rfl] at *
  rw [h6] at f1
  exact par_pct f1 f3 f4 f5 h4
/-- An operator of two. -/
theorem Rt.bin {k : Nat} {u v : List UInt8} {row row2 : List Wt.Nd} {o : Int × List UInt8 × Int} (ho : o ∈ Wt.opsT) (hk : o.2.2 = (k : Int)) (h5 : k < 5) (h : Rt k u row) (hv : Rt (k + 1) v row2) : Rt k (u ++ o.2.1 ++ v) (opN (opKd o.2.2) o.1 :: (row ++ row2)) := by
  obtain ⟨T, h1, h2, h3, h4⟩ := h
  obtain ⟨S, g1, g2, g3, g4⟩ := hv
  obtain ⟨f1, f2, f3, f4, f5, f6, f7, f8, -, -⟩ := ops_facts o ho
  have hne : o.2.1 ≠ [] := fun e => by rw [e] at f2; exact absurd f2 (by decide)
  have hw := Wlx.Wr.mark f2 g2 g1
  rw [List.append_assoc]
  refine ⟨T ++ (5, o.2.1) :: S, h1.app hw (by simp [hne]) (Wlx.mark_aft f2 v), Wlx.Hdk.app h2 _, h3.app _, ?_⟩
  have hP : ParK k T row := by
    unfold Par at h4
    rw [if_neg (by omega), if_neg (by omega), if_neg (by omega)] at h4
    exact h4
  have := par_bin h5 (by rw [← hk]; exact f1) (fun j a b c => f7 ⟨j, by omega⟩ (by simp only; omega) c (by omega)) f3 f4 f5 hP g4
  unfold Par
  rw [if_neg (by omega), if_neg (by omega), if_neg (by omega)]
  exact this
/-- What is left of a call's arguments, with the closing bracket. -/
theorem args_rt {F : Nat} (ih : ∀ (L : List Wt.Nd) (s d : Nat), Wt.one F L = some (s, d) → ∀ least : Nat, least ≤ 6 → Rt least (pr F (least : Int) L).1 (L.take s)) : ∀ (n : Nat) (L : List Wt.Nd) (s d : Nat), Wt.many (Wt.one F) n L = some (s, d) →
    ∃ T, Wlx.Wr ((prA (pr F) n false L).1 ++ [41]) T ∧ Wlx.Aft ((prA (pr F) n false L).1 ++ [41]) ∧ ParA n T (L.take s) := by
  intro n
  induction n with
  | zero =>
    intro L s d h
    simp only [Wt.many, Option.some.injEq, Prod.mk.injEq] at h
    obtain ⟨rfl, rfl⟩ := h
    exact ⟨[(5, [41])], Wlx.Wr.still (m := [41]) (by decide) (by decide) (by decide), Wlx.Aft.cons (c := 41) (r := []) (by decide), parA_nil⟩
  | succ n ihn =>
    intro L s d h
    simp only [Wt.many] at h
    cases h1 : Wt.one F L with
    | none => rw [h1] at h; cases h
    | some q =>
      obtain ⟨a, b⟩ := q
      rw [h1] at h
      simp only at h
      cases h2 : Wt.many (Wt.one F) n (L.drop a) with
      | none => rw [h2] at h; cases h
      | some q2 =>
        obtain ⟨a2, b2⟩ := q2
        rw [h2] at h
        simp only [Option.some.injEq, Prod.mk.injEq] at h
        obtain ⟨rfl, rfl⟩ := h
        obtain ⟨T, t1, t2, t3, t4⟩ := ih L a b h1 0 (by omega)
        obtain ⟨S, s1, s2, s3⟩ := ihn (L.drop a) a2 b2 h2
        have e2 : (pr F 0 L).2 = L.drop a := (pr_ok F L a b h1 0).1
        have e : (prA (pr F) (n + 1) false L).1 ++ [41] = [44] ++ ((pr F 0 L).1 ++ ((prA (pr F) n false (L.drop a)).1 ++ [41])) := by
          simp only [prA, e2]
          simp
        rw [e]
        have hw := t1.app s1 (by simp) s2
        refine ⟨(5, [44]) :: (T ++ S), Wlx.Wr.mark (by decide) (Wlx.Hdk.app t2 _) hw, Wlx.Aft.cons (by decide), ?_⟩
        have := parA_cons t4 s3
        rw [← List.take_add] at this
        exact this
/-- A node that has no operator. -/
theorem rt_single {F : Nat} (ih : ∀ (L : List Wt.Nd) (s d : Nat), Wt.one F L = some (s, d) → ∀ least : Nat, least ≤ 6 → Rt least (pr F (least : Int) L).1 (L.take s)) {x : Wt.Nd} (hx : Knd x) (hk : x.k = 1 ∨ x.k = 2 ∨ x.k = 3 ∨ x.k = 6) {r : List Wt.Nd} {a b : Nat} (h : Wt.many (Wt.one F) (Wt.parts x).toNat r = some (a, b)) :
    Rt 7 (prS (pr F) x r).1 (x :: r.take a) := by
  unfold prS
  by_cases h1 : x.k = 1
  · rw [if_pos h1]
    rw [knd_parts0 hx (Or.inl h1)] at h
    simp only [Int.toNat_zero, Wt.many, Option.some.injEq, Prod.mk.injEq] at h
    obtain ⟨rfl, rfl⟩ := h
    rcases hx with ⟨_, h, e⟩ | ⟨h, -, e⟩ | ⟨h, -, -, -, e⟩ | ⟨h, h2, -⟩ | ⟨h, h2, -⟩ | ⟨h, -, -, -, e⟩
    · obtain ⟨T, t1, t2, t3⟩ := wr_val h
      have := Rt.single t1 t2 t3
      unfold leafN at this
      rw [← e] at this
      exact this
    all_goals omega
  rw [if_neg h1]
  by_cases h2 : x.k = 2
  · rw [if_pos h2]
    rw [knd_parts0 hx (Or.inr (Or.inl h2))] at h
    simp only [Int.toNat_zero, Wt.many, Option.some.injEq, Prod.mk.injEq] at h
    obtain ⟨rfl, rfl⟩ := h
    rcases hx with ⟨h, _, e⟩ | ⟨_, h, e⟩ | ⟨h, -, -, -, e⟩ | ⟨h, h2, -⟩ | ⟨h, h2, -⟩ | ⟨h, -, -, -, e⟩
    · omega
    · obtain ⟨t1, t2⟩ := wr_cel h
      have := Rt.single t1 t2 (par_cel h)
      rw [← e] at this
      exact this
    all_goals omega
  rw [if_neg h2]
  by_cases h3 : x.k = 3
  · rw [if_pos h3]
    rw [knd_parts0 hx (Or.inr (Or.inr h3))] at h
    simp only [Int.toNat_zero, Wt.many, Option.some.injEq, Prod.mk.injEq] at h
    obtain ⟨rfl, rfl⟩ := h
    rcases hx with ⟨h, _, e⟩ | ⟨h, _, e⟩ | ⟨_, ha, hb, hs, e⟩ | ⟨h, h2, -⟩ | ⟨h, h2, -⟩ | ⟨h, -, -, -, e⟩
    · omega
    · omega
    · have hs : x.b.s = ⟨#[]⟩ := by
        rw [ByteArray.toList_eq, List.isEmpty_iff] at hs
        have : x.b.s = ⟨x.b.s.data.toList.toArray⟩ := by rw [Array.toArray_toList]
        rw [this, hs]
      obtain ⟨t1, t2⟩ := wr_area ha hb
      have := Rt.single t1 t2 (par_area ha hb hs)
      rw [← e] at this
      exact this
    all_goals omega
  rw [if_neg h3]
  have h6 : x.k = 6 := by omega
  rw [knd_parts6 h6] at h
  rcases hx with ⟨h', _, e⟩ | ⟨h', _, e⟩ | ⟨h', _, _, _, e⟩ | ⟨h', h2, -⟩ | ⟨h', h2, -⟩ | ⟨_, hn, ha0, ha30, e⟩
  · omega
  · omega
  · omega
  · omega
  · omega
  obtain ⟨n, hn0⟩ : ∃ n : Nat, x.ar = n := ⟨x.ar.toNat, by omega⟩
  have ex : x = callN x.nm n := by rw [e]; unfold callN; simp [hn0]
  rw [hn0, Int.toNat_natCast] at h ⊢
  obtain ⟨w1, w2⟩ := fn_word hn
  obtain ⟨n1, n2⟩ := Wr_word w1 w2
  cases n with
  | zero =>
    simp only [Wt.many, Option.some.injEq, Prod.mk.injEq] at h
    obtain ⟨rfl, rfl⟩ := h
    have hw : Wlx.Wr (x.nm.data.toList ++ [40, 41]) ([(3, x.nm.data.toList)] ++ [(5, [40]), (5, [41])]) := by
      refine n1.app ?_ (by simp) (Wlx.Aft.cons (by decide))
      have := Wlx.Wr.mark (m := [40]) (u := [41]) (by decide) ⟨41, [], rfl, by decide, by decide⟩ (Wlx.Wr.still (m := [41]) (by decide) (by decide) (by decide))
      exact this
    have := Rt.single hw (Wlx.Hdk.app n2 _) (par_call0 hn)
    have e3 : x.nm.data.toList ++ [40] ++ (prA (pr F) 0 true r).1 ++ [41] = x.nm.data.toList ++ [40, 41] := by simp [prA]
    rw [e3, List.take_zero]
    have ex' : [x] = [callN x.nm 0] := by rw [← ex]
    rw [ex']
    exact this
  | succ n =>
    simp only [Wt.many] at h
    cases h1' : Wt.one F r with
    | none => rw [h1'] at h; cases h
    | some q =>
      obtain ⟨a1, b1⟩ := q
      rw [h1'] at h
      simp only at h
      cases h2' : Wt.many (Wt.one F) n (r.drop a1) with
      | none => rw [h2'] at h; cases h
      | some q2 =>
        obtain ⟨a2, b2⟩ := q2
        rw [h2'] at h
        simp only [Option.some.injEq, Prod.mk.injEq] at h
        obtain ⟨rfl, rfl⟩ := h
        obtain ⟨T, t1, t2, t3, t4⟩ := ih r a1 b1 h1' 0 (by omega)
        obtain ⟨S, s1, s2, s3⟩ := args_rt ih n (r.drop a1) a2 b2 h2'
        have e2 : (pr F 0 r).2 = r.drop a1 := (pr_ok F r a1 b1 h1' 0).1
        have e3 : x.nm.data.toList ++ [40] ++ (prA (pr F) (n + 1) true r).1 ++ [41] = x.nm.data.toList ++ ([40] ++ ((pr F 0 r).1 ++ ((prA (pr F) n false (r.drop a1)).1 ++ [41]))) := by
          simp only [prA, e2]
          simp
        rw [e3]
        have hw := t1.app s1 (by simp) s2
        have hw2 := Wlx.Wr.mark (m := [40]) (by decide) (Wlx.Hdk.app t2 _) hw
        have hw3 := n1.app hw2 (by simp) (Wlx.Aft.cons (by decide))
        have := Rt.single hw3 (Wlx.Hdk.app n2 _) (par_call hn (by omega) t3 t4 s3)
        have ex' : x :: r.take (a1 + a2) = callN x.nm (n + 1) :: (r.take a1 ++ (r.drop a1).take a2) := by
          rw [← List.take_add, ← ex]
        rw [ex']
        exact this
/-- A part, as it is printed. -/
theorem pr_rt : ∀ (F : Nat) (L : List Wt.Nd) (s d : Nat), Wt.one F L = some (s, d) → ∀ least : Nat, least ≤ 6 → Rt least (pr F (least : Int) L).1 (L.take s) := by
  intro F
  induction F with
  | zero => intro L s d h; cases h
  | succ F ih =>
    intro L s d h least hl
    cases L with
    | nil => cases h
    | cons x r =>
      obtain ⟨hx, a, b, hm, rfl, rfl⟩ := one_unf h
      have hK := right_knd hx
      rw [List.take_succ_cons]
      have key : ∃ t : Nat, tgh x = (t : Int) ∧ t ≤ 7 ∧ Rt t (prN (pr F) x r).1 (x :: r.take a) := by
        rcases knd_tgh hK with ⟨h7, -, hk⟩ | ⟨ht, hp, o, ho⟩ | ⟨ht, hp, o, ho⟩
        · refine ⟨7, h7, by omega, ?_⟩
          unfold prN
          rw [if_pos h7]
          exact rt_single ih hK hk hm
        · obtain ⟨om, oe⟩ := opOf_mem ho
          have htg : tgh x = o.2.2 := (opOf_tgh ho).1
          have hmk : mrk x = o.2.1 := by unfold mrk; rw [ho]
          rw [hp] at hm
          have hm1 := many_one hm
          have ex : x = opN (opKd o.2.2) o.1 := by
            rcases hK with ⟨h', _, e⟩ | ⟨h', _, e⟩ | ⟨h', _, _, _, e⟩ | ⟨h', h2, e⟩ | ⟨h', h2, e⟩ | ⟨h', _, _, _, e⟩
            · unfold Wt.parts at hp; rw [if_neg (by omega), if_neg (by omega), e] at hp; cases hp
            · unfold Wt.parts at hp; rw [if_neg (by omega), if_neg (by omega), e] at hp; cases hp
            · unfold Wt.parts at hp; rw [if_neg (by omega), if_neg (by omega), e] at hp; cases hp
            · rw [e, oe]; unfold opN opKd; rw [if_neg (by omega)]
            · unfold Wt.parts at hp; rw [if_neg (by omega), if_pos h'] at hp; cases hp
            · have := congrArg Wt.Nd.op e
              rw [this, opOf_zero] at ho; cases ho
          unfold prN
          rcases ht with h5 | h6
          · refine ⟨5, h5, by omega, ?_⟩
            rw [if_neg (by omega), if_pos h5, hmk]
            have := Rt.sign om (by omega) (ih r a b hm1 5 (by omega))
            rw [← ex] at this
            exact this
          · refine ⟨6, h6, by omega, ?_⟩
            rw [if_neg (by omega), if_neg (by omega), if_pos h6, hmk]
            have := Rt.pct om (by omega) (ih r a b hm1 6 (by omega))
            rw [← ex] at this
            exact this
        · obtain ⟨om, oe⟩ := opOf_mem ho
          have htg : tgh x = o.2.2 := (opOf_tgh ho).1
          have hmk : mrk x = o.2.1 := by unfold mrk; rw [ho]
          rw [hp] at hm
          obtain ⟨a1, b1, a2, b2, m1, m2, rfl, rfl⟩ := many_two hm
          have ex : x = opN (opKd o.2.2) o.1 := by
            rcases hK with ⟨h', _, e⟩ | ⟨h', _, e⟩ | ⟨h', _, _, _, e⟩ | ⟨h', h2, e⟩ | ⟨h', h2, e⟩ | ⟨h', _, _, _, e⟩
            · unfold Wt.parts at hp; rw [if_neg (by omega), if_neg (by omega), e] at hp; cases hp
            · unfold Wt.parts at hp; rw [if_neg (by omega), if_neg (by omega), e] at hp; cases hp
            · unfold Wt.parts at hp; rw [if_neg (by omega), if_neg (by omega), e] at hp; cases hp
            · unfold Wt.parts at hp; rw [if_pos h'] at hp; cases hp
            · rw [e, oe]; unfold opN opKd; rw [if_pos (by omega)]
            · have := congrArg Wt.Nd.op e
              rw [this, opOf_zero] at ho; cases ho
          obtain ⟨k, hk⟩ : ∃ k : Nat, tgh x = k := ⟨(tgh x).toNat, by omega⟩
          refine ⟨k, hk, by omega, ?_⟩
          unfold prN
          rw [if_neg (by omega), if_neg (by omega), if_neg (by omega), hmk, hk]
          have e2 : (pr F (k : Int) r).2 = r.drop a1 := (pr_ok F r a1 b1 m1 k).1
          rw [e2]
          have i1 := ih r a1 b1 m1 k (by omega)
          have i2 := ih (r.drop a1) a2 b2 m2 (k + 1) (by omega)
          rw [show (((k + 1 : Nat)) : Int) = (k : Int) + 1 by omega] at i2
          have := Rt.bin om (by omega) (by omega) i1 i2
          rw [← ex, ← List.take_add] at this
          exact this
      obtain ⟨t, ht, h7, hR⟩ := key
      show Rt least (if (least : Int) ≤ tgh x then prN (pr F) x r else (40 :: (prN (pr F) x r).1 ++ [41], (prN (pr F) x r).2)).1 _
      split
      · exact hR.le (by omega) h7
      · have := (hR.le (Nat.zero_le _) h7).brack
        exact Rt.le (by omega) (Nat.le_refl 7) this
end Go.Proofs.YtjkchneffcppmaaGreatDoor
/- What is printed of a tree is read as it: plain. -/
namespace Go.Proofs.YtjkchneffcppmaaGreatDoor
open Go.RowKit Go.Shelf
set_option linter.unusedVariables false

/-- What is printed of a tree is read as it. -/
theorem prnt_read {L : List Wt.Nd} (hc : Wt.check L = 0) (hl : (prnt L).length ≤ 1024) : prsR (prnt L) = .inl L := by
  obtain ⟨h256, d, hone, hd⟩ := check_zero hc
  have hp : prnt L = (pr (L.length + 1) 0 L).1 := by unfold prnt; rw [if_pos hc]
  obtain ⟨T, t1, t2, t3, t4⟩ := pr_rt _ _ _ _ hone 0 (by omega)
  rw [List.take_length] at t4
  rw [show (((0 : Nat)) : Int) = 0 from rfl, ← hp] at t1
  obtain ⟨ts, o1, o2⟩ := t1 0 [] [] Wlx.Aft.nil (Wlx.Ok.nil _)
  rw [List.append_nil, List.append_nil] at o1
  have hrep : Rep (ts.map Wlx.tv) T := by
    unfold Rep
    rw [← o2, List.map_map, List.map_map]
    rfl
  have hlv := par_form t4 (en := ((prnt L).length : Int)) (f := 10 * (ts.map Wlx.tv).length + 9) (tl := []) hrep (fun c q e => by cases e) (fun j => rfl) (by rw [hrep.len]; omega)
  rw [List.append_nil] at hlv
  rw [prsR_of hl o1 hlv, if_pos hc]
end Go.Proofs.YtjkchneffcppmaaGreatDoor
/- Where reading stops. -/
namespace Go.Proofs.YtjkchneffcppmaaGreatDoor
open Go.RowKit Go.Shelf
set_option linter.unusedVariables false

/-- The place of a token of ts, or the text's end; or 0. -/
def PIn (en : Int) (ts : List Wlx.TV) (p : Int) : Prop := p = 0 ∨ ∃ r, r <:+ ts ∧ p = pos r en
theorem PIn.here {en : Int} {ts : List Wlx.TV} : PIn en ts (pos ts en) := Or.inr ⟨ts, List.suffix_refl _, rfl⟩
theorem PIn.of {en : Int} {ts us : List Wlx.TV} {p : Int} (h : PIn en us p) (hs : us <:+ ts) : PIn en ts p := h.imp id fun ⟨r, h1, h2⟩ => ⟨r, h1.trans hs, h2⟩
def PSub (en : Int) (sub : List Wlx.TV → PR) : Prop := ∀ ts c p, sub ts = .inr (c, p) → PIn en ts p
theorem pl_pin (en : Int) : PSub en (fun ts => pl ts en) := by
  intro ts c p h
  simp only [pl] at h
  split at h
  · cases h
  · simp only [Sum.inr.injEq, Prod.mk.injEq] at h; rw [← h.2]; exact PIn.here
theorem pc_pin {ts : List Wlx.TV} {en c p : Int} (h : pc ts en = .inr (c, p)) : PIn en ts p := by
  unfold pc at h
  repeat' split at h
  all_goals first | (simp only [Sum.inr.injEq, Prod.mk.injEq] at h; rw [← h.2]; exact PIn.here) | cases h
theorem pcs_pin (s : ByteArray) (en : Int) : PSub en (fun ts => pcs s ts en) := by
  intro ts c p h
  simp only [pcs] at h
  cases h1 : pc ts en with
  | inr e => rw [h1] at h; simp only [Sum.inr.injEq] at h; rw [h] at h1; exact pc_pin h1
  | inl q =>
    obtain ⟨a, r1⟩ := q
    rw [h1] at h
    simp only at h
    have s1 := pc_suf h1
    cases h2 : tk r1 [58] with
    | none => rw [h2] at h; cases h
    | some r2 =>
      rw [h2] at h
      simp only at h
      have s2 := (tk_suf h2).1
      cases h3 : pc r2 en with
      | inr e => rw [h3] at h; simp only [Sum.inr.injEq] at h; rw [h] at h3; exact (pc_pin h3).of (s2.trans s1)
      | inl q => rw [h3] at h; cases h
theorem more_pin {sub : List Wlx.TV → PR} {en : Int} (hsub : ∀ ts row r, sub ts = .inl (row, r) → r <:+ ts) (hp : PSub en sub) (k : Int) : ∀ (n : Nat) (row : List Wt.Nd) (ts : List Wlx.TV) (c p : Int), more sub k n row ts = .inr (c, p) → PIn en ts p := by
  intro n
  induction n with
  | zero => intro row ts c p h; cases h
  | succ n ih =>
    intro row ts c p h
    simp only [more] at h
    cases h1 : tkOp k ts with
    | none => rw [h1] at h; cases h
    | some q =>
      obtain ⟨o, r1⟩ := q
      rw [h1] at h
      simp only at h
      have s1 := (tkOp_suf h1).1
      cases h2 : sub r1 with
      | inr e => rw [h2] at h; simp only [Sum.inr.injEq] at h; rw [h] at h2; exact (hp _ _ _ h2).of s1
      | inl q =>
        obtain ⟨row2, r2⟩ := q
        rw [h2] at h
        simp only at h
        exact (ih _ _ _ _ h).of ((hsub _ _ _ h2).trans s1)
theorem argl_pin {sub : List Wlx.TV → PR} {en : Int} (hsub : ∀ ts row r, sub ts = .inl (row, r) → r <:+ ts) (hp : PSub en sub) : ∀ (n c0 : Nat) (rows : List Wt.Nd) (ts : List Wlx.TV) (c p : Int), argl sub en n c0 rows ts = .inr (c, p) → PIn en ts p := by
  intro n
  induction n with
  | zero => intro c0 rows ts c p h; simp only [argl, Sum.inr.injEq, Prod.mk.injEq] at h; rw [← h.2]; exact PIn.here
  | succ n ih =>
    intro c0 rows ts c p h
    simp only [argl] at h
    cases h1 : tk ts [41] with
    | some q => rw [h1] at h; cases h
    | none =>
      rw [h1] at h
      simp only at h
      split at h
      · simp only [Sum.inr.injEq, Prod.mk.injEq] at h; rw [← h.2]; exact PIn.here
      · cases h2 : tk ts [44] with
        | none => rw [h2] at h; simp only [Sum.inr.injEq, Prod.mk.injEq] at h; rw [← h.2]; exact PIn.here
        | some r1 =>
          rw [h2] at h
          simp only at h
          have s1 := (tk_suf h2).1
          cases h3 : sub r1 with
          | inr e => rw [h3] at h; simp only [Sum.inr.injEq] at h; rw [h] at h3; exact (hp _ _ _ h3).of s1
          | inl q =>
            obtain ⟨row, r2⟩ := q
            rw [h3] at h
            simp only at h
            exact (ih _ _ _ _ _ h).of ((hsub _ _ _ h3).trans s1)
theorem pargs_pin {sub : List Wlx.TV → PR} {en : Int} (hsub : ∀ ts row r, sub ts = .inl (row, r) → r <:+ ts) (hp : PSub en sub) (nm : List UInt8) : PSub en (pargs sub en nm) := by
  intro ts c p h
  unfold pargs at h
  cases h1 : tk ts [41] with
  | some q => rw [h1] at h; cases h
  | none =>
    rw [h1] at h
    simp only at h
    cases h2 : sub ts with
    | inr e => rw [h2] at h; simp only [Sum.inr.injEq] at h; rw [h] at h2; exact hp _ _ _ h2
    | inl q =>
      obtain ⟨row1, r1⟩ := q
      rw [h2] at h
      simp only at h
      cases h3 : argl sub en (r1.length + 1) 1 row1 r1 with
      | inr e => rw [h3] at h; simp only [Sum.inr.injEq] at h; rw [h] at h3; exact (argl_pin hsub hp _ _ _ _ _ _ h3).of (hsub _ _ _ h2)
      | inl q => rw [h3] at h; cases h
theorem pword_pin {sub : List Wlx.TV → PR} {en : Int} (hsub : ∀ ts row r, sub ts = .inl (row, r) → r <:+ ts) (hp : PSub en sub) : PSub en (pword sub en) := by
  intro ts c p h
  unfold pword at h
  split at h
  · split at h
    · exact (pargs_pin hsub hp _ _ _ _ h).of (List.drop_suffix _ _)
    · simp only [Sum.inr.injEq, Prod.mk.injEq] at h; rw [← h.2]; exact PIn.here
  split at h
  · split at h
    · exact (pcs_pin _ _ _ _ _ h).of (List.drop_suffix _ _)
    · simp only [Sum.inr.injEq, Prod.mk.injEq] at h; rw [← h.2]; exact PIn.here
  split at h
  · cases h
  split at h
  · cases h
  · exact pcs_pin _ _ _ _ _ h
theorem pbrack_pin {sub : List Wlx.TV → PR} {en : Int} (hsub : ∀ ts row r, sub ts = .inl (row, r) → r <:+ ts) (hp : PSub en sub) : PSub en (pbrack sub en) := by
  intro ts c p h
  unfold pbrack at h
  cases h1 : tk ts [40] with
  | none => rw [h1] at h; simp only [Sum.inr.injEq, Prod.mk.injEq] at h; rw [← h.2]; exact PIn.here
  | some r1 =>
    rw [h1] at h
    simp only at h
    have s1 := (tk_suf h1).1
    cases h2 : sub r1 with
    | inr e => rw [h2] at h; simp only [Sum.inr.injEq] at h; rw [h] at h2; exact (hp _ _ _ h2).of s1
    | inl q =>
      obtain ⟨row2, r2⟩ := q
      rw [h2] at h
      simp only at h
      cases h3 : tk r2 [41] with
      | none => rw [h3] at h; simp only [Sum.inr.injEq, Prod.mk.injEq] at h; rw [← h.2]; exact PIn.here.of ((hsub _ _ _ h2).trans s1)
      | some r3 => rw [h3] at h; cases h
theorem lv_pin (en : Int) : ∀ (f k : Nat), PSub en (lv en f k) := by
  intro f
  induction f with
  | zero => intro k ts c p h; simp only [lv, Sum.inr.injEq, Prod.mk.injEq] at h; exact Or.inl h.2.symm
  | succ f ih =>
    intro k ts c p h
    by_cases h5 : k < 5
    · rw [lv_bt _ _ _ h5] at h
      unfold pbt at h
      cases h1 : lv en f (k + 1) ts with
      | inr e => rw [h1] at h; simp only [Sum.inr.injEq] at h; rw [h] at h1; exact ih _ _ _ _ h1
      | inl q =>
        obtain ⟨row1, r1⟩ := q
        rw [h1] at h
        simp only at h
        exact (more_pin (lv_suf en f (k + 1)) (ih (k + 1)) _ _ _ _ _ _ h).of (lv_suf en _ _ _ _ _ h1)
    by_cases e5 : k = 5
    · subst e5
      rw [lv_sg] at h
      unfold psg at h
      cases h1 : tkOp 5 ts with
      | none => rw [h1] at h; exact ih 6 ts c p h
      | some q =>
        obtain ⟨o, r1⟩ := q
        rw [h1] at h
        simp only at h
        have s1 := (tkOp_suf h1).1
        cases h2 : lv en f 5 r1 with
        | inr e => rw [h2] at h; simp only [Sum.inr.injEq] at h; rw [h] at h2; exact (ih 5 r1 c p h2).of s1
        | inl q => rw [h2] at h; cases h
    by_cases e6 : k = 6
    · subst e6
      rw [lv_pc] at h
      unfold ppc at h
      cases h1 : lv en f 7 ts with
      | inr e => rw [h1] at h; simp only [Sum.inr.injEq] at h; rw [h] at h1; exact ih 7 ts c p h1
      | inl q => obtain ⟨row1, r1⟩ := q; rw [h1] at h; simp only at h; exact (pct_code _ _ _ _ _ h).elim
    simp only [lv, if_neg h5, if_neg e5, if_neg e6] at h
    split at h
    · exact pword_pin (lv_suf en f 0) (ih 0) _ _ _ h
    split at h
    · exact pbrack_pin (lv_suf en f 0) (ih 0) _ _ _ h
    · exact pl_pin en _ _ _ h
/-- Where Parse stops lies in the text. -/
theorem prsR_place {l : List UInt8} {c p : Int} (h : prsR l = .inr (c, p)) : 0 ≤ p ∧ p ≤ l.length := by
  unfold prsR at h
  cases hr : scanAll l with
  | inr q =>
    obtain ⟨c', p'⟩ := q
    rw [hr] at h
    simp only [Sum.inr.injEq, Prod.mk.injEq] at h
    unfold scanAll at hr
    split at hr
    · simp only [Sum.inr.injEq, Prod.mk.injEq] at hr
      omega
    · have := (Wlx.Er.cut (p := 0) (l := l) (c := c') (q := p') hr)
      omega
  | inl ts =>
    rw [hr] at h
    simp only at h
    have hcnt : ∀ t ∈ ts, t.p < l.length := by
      unfold scanAll at hr
      split at hr
      · cases hr
      · intro t ht
        have := (Wlx.Ok.count (p := 0) (l := l) (ts := ts) hr).2 t ht
        omega
    have key : ∀ p, PIn (l.length : Int) (ts.map Wlx.tv) p → 0 ≤ p ∧ p ≤ l.length := by
      intro p hp
      rcases hp with rfl | ⟨r, hs, rfl⟩
      · omega
      · unfold pos
        cases r with
        | nil => show 0 ≤ (l.length : Int) ∧ (l.length : Int) ≤ l.length; omega
        | cons t q =>
          have hm : t ∈ ts.map Wlx.tv := hs.subset (by simp)
          obtain ⟨u, hu, rfl⟩ := List.mem_map.1 hm
          have := hcnt u hu
          show 0 ≤ (u.p : Int) ∧ (u.p : Int) ≤ l.length
          omega
    unfold prsT at h
    cases hp : pall (lv (l.length : Int) (10 * (ts.map Wlx.tv).length + 9) 0) (l.length : Int) (ts.map Wlx.tv) with
    | inr q =>
      rw [hp] at h
      simp only [Sum.inr.injEq] at h
      subst h
      unfold pall at hp
      split at hp
      · rename_i e he
        simp only [Sum.inr.injEq] at hp
        subst hp
        exact key _ (lv_pin _ _ _ _ _ _ he)
      · cases hp
      · rename_i row t r he
        simp only [Sum.inr.injEq, Prod.mk.injEq] at hp
        refine key _ (Or.inr ⟨t :: r, lv_suf _ _ _ _ _ _ he, hp.2.symm⟩)
    | inl q =>
      obtain ⟨row, rr⟩ := q
      rw [hp] at h
      simp only at h
      split at h
      · cases h
      · simp only [Sum.inr.injEq, Prod.mk.injEq] at h
        omega
end Go.Proofs.YtjkchneffcppmaaGreatDoor
