/- TCntB, TNeedP, TSameB, TKids. -/
import Derived.Test.YtifdemakjphfcaaGreatDoorQ42
import Derived.OwnWalk
import Derived.Laws.OwnMore
import Derived.Deep.LoopGhost
namespace Go.Proofs.YtifdemakjphfcaaGreatDoor
open Go.RowKit Go.Shelf
set_option linter.unusedVariables false
theorem wr_val1 {v : Wt.Vl} (h : Wt.vlOk v = true) : ∃ T, Wlx.Wr (litT v) T ∧ Wlx.Hdk (litT v) ∧ T.length = 1 := by
  obtain ⟨k, n, d, t, b, f⟩ := v
  have hk : k = 1 ∨ k = 2 ∨ k = 3 ∨ k = 4 := by
    by_cases h0 : k = 0
    · simp [Wt.vlOk, h0] at h
    by_cases h1 : k = 1
    · exact Or.inl h1
    simp only [Wt.vlOk, if_neg h0, if_neg h1, Wv.right] at h
    repeat' split at h
    all_goals first | omega | cases h
  rcases hk with rfl | rfl | rfl | rfl
  · simp [Wt.vlOk, Wv.right] at h
    obtain ⟨⟨⟨⟨⟨hr, rfl⟩, rfl⟩, rfl⟩, hn⟩, hd⟩ := h
    have hb := hr
    unfold Wnum.rightB at hb
    simp only [decide_eq_true_eq] at hb
    obtain ⟨b1, b2, b3, b4, b5⟩ := hb
    have hN : Wnum.cN n d = n := by unfold Wnum.cN; rw [if_pos hr]
    have hD : Wnum.cD n d = d := by unfold Wnum.cD; rw [if_pos hr]
    have hlt : litT ⟨1, n, d, ⟨#[]⟩, false, 0⟩ = Wnum.txt n d.toNat := by unfold litT; rw [if_pos rfl]; simp only [hN, hD]
    rw [hlt]
    obtain ⟨D, rfl⟩ : ∃ D : Nat, d = D := ⟨d.toNat, by omega⟩
    rw [Int.toNat_natCast]
    have hsg : Wnum.sgnT n = [] := by unfold Wnum.sgnT; rw [if_neg (by omega)]
    have hdv : 1000000 % D = 0 := by
      have h1 : ((1000000 % D : Nat) : Int) = ((1000000 : Nat) : Int) % (D : Int) := Int.natCast_emod _ _
      have h2 : ((1000000 : Nat) : Int) % (D : Int) = 0 := hd
      rw [h2] at h1
      exact Int.natCast_eq_zero.1 h1
    have key : Wlx.Wr (Wnum.txt n D) [(1, Wnum.txt n D)] ∧ Wlx.Hdk (Wnum.txt n D) := by
      by_cases hz : n.natAbs % D = 0
      · rw [Wnum.txt_whole hdv hz, hsg, List.nil_append]
        have g := dd_dig (n.natAbs / D)
        refine ⟨?_, by have := dig_hdk (dd_ne _) g []; rw [List.append_nil] at this; exact this⟩
        have := Wlx.Wr.one (k := 1) (fun r hr => Wlx.at_whole (dd_ne _) g hr) (dig_prt g)
        rw [Wlx.said_other (by decide)] at this
        exact this
      · rw [Wnum.txt_point hdv hz, hsg, List.nil_append]
        have g := dd_dig (n.natAbs / D)
        have hlt : n.natAbs % D < D := Nat.mod_lt _ (by omega)
        have g2 := allD_dig (Wnum.decs_facts (d := D) (by omega) 6 (n.natAbs % D) hlt (Wnum.ends_six hdv)).1
        have g0 : Wnum.decs D 6 (n.natAbs % D) ≠ [] := List.length_pos_iff.1 (Wnum.decs_some hz)
        refine ⟨?_, dig_hdk (dd_ne _) g _⟩
        have := Wlx.Wr.one (k := 1) (fun r hr => Wlx.at_point (dd_ne _) g0 g g2 hr) (fun c hc => by
          rcases List.mem_append.1 hc with hc | hc
          · exact dig_prt g c hc
          · rcases List.mem_cons.1 hc with rfl | hc
            · decide
            · exact dig_prt g2 c hc)
        rw [Wlx.said_other (by decide)] at this
        exact this
    exact ⟨_, key.1, key.2, rfl⟩
  · simp [Wt.vlOk, Wv.right] at h
    obtain ⟨⟨⟨⟨⟨h1, h2⟩, rfl⟩, rfl⟩, rfl⟩, rfl⟩ := h
    have hlt : litT ⟨2, 0, 0, t, false, 0⟩ = 34 :: (Wlx.dbl t.data.toList ++ [34]) := rfl
    rw [hlt]
    have hp : ∀ c ∈ t.data.toList, Wlx.prt c = true := by
      unfold Wv.prts at h2
      rw [List.all_eq_true] at h2
      exact h2
    refine ⟨[(2, t.data.toList)], ?_, ⟨34, _, rfl, by decide, by decide⟩, rfl⟩
    have := Wlx.Wr.one (k := 2) (fun r hr => Wlx.at_text t.data.toList hr) (Wlx.dbl_prt hp)
    rw [Wlx.said_text] at this
    exact this
  · simp [Wt.vlOk, Wv.right] at h
    obtain ⟨⟨⟨rfl, rfl⟩, rfl⟩, rfl⟩ := h
    have hlt : litT ⟨3, 0, 0, ⟨#[]⟩, b, 0⟩ = if b then [84, 82, 85, 69] else [70, 65, 76, 83, 69] := rfl
    rw [hlt]
    have := Wr_word (l := if b then [84, 82, 85, 69] else [70, 65, 76, 83, 69]) (by cases b <;> decide) (by cases b <;> exact ⟨_, _, rfl, by decide⟩)
    exact ⟨_, this.1, this.2, rfl⟩
  · simp [Wt.vlOk, Wv.right, Wv.flt] at h
    obtain ⟨⟨⟨⟨⟨h1, h2⟩, rfl⟩, rfl⟩, rfl⟩, rfl⟩ := h
    have hlt : litT ⟨4, 0, 0, ⟨#[]⟩, false, f⟩ = fNames.getD f.toNat [] := rfl
    rw [hlt]
    obtain ⟨i, rfl⟩ : ∃ i : Nat, f = i := ⟨f.toNat, by omega⟩
    rw [Int.toNat_natCast]
    have key : ∀ i : Fin 9, 1 ≤ i.val → fNames.getD i.val [] ∈ Wlx.faults ∧ (fi (fNames.getD i.val []) 0 fNames) = i.val := by decide
    obtain ⟨m1, m2⟩ := key ⟨i, by omega⟩ (by show 1 ≤ i; omega)
    simp only at m1 m2
    have hh : ∀ u ∈ Wlx.faults, Wlx.Hdk u ∧ ∀ c ∈ u, Wlx.prt c = true := by
      intro u hu
      refine ⟨?_, Wlx.runP_mem u (Wlx.fault_prt u hu)⟩
      have g : ∀ u ∈ Wlx.faults, u.head? = some 35 := by decide
      have := g u hu
      cases u with
      | nil => cases this
      | cons c t => obtain rfl := Option.some.inj this; exact ⟨35, t, rfl, by decide, by decide⟩
    refine ⟨[(4, fNames.getD i [])], ?_, (hh _ m1).1, rfl⟩
    have := Wlx.Wr.one (k := 4) (fun r hr => Wlx.at_fault (r := r) m1) (hh _ m1).2
    rw [Wlx.said_other (by decide)] at this
    exact this
theorem cTok_len (a : Wt.Rf) : (cTok a).length = nC a.s := by unfold cTok nC; split <;> rfl
def Rc (u : List UInt8) (n : Nat) : Prop := ∃ T, Wlx.Wr u T ∧ Wlx.Hdk u ∧ T.length = n
theorem Rc.brack {u : List UInt8} {n : Nat} (h : Rc u n) : Rc (40 :: (u ++ [41])) (n + 2) := by
  obtain ⟨T, h1, h2, h3⟩ := h
  exact ⟨_, h1.brack, ⟨40, _, rfl, by decide, by decide⟩, by simp [h3]⟩
theorem Rc.sign {u : List UInt8} {n : Nat} {o : Int × List UInt8 × Int} (ho : o ∈ Wt.opsT) (h5 : o.2.2 = 5) (h : Rc u n) : Rc (o.2.1 ++ u) (1 + n) := by
  obtain ⟨T, h1, h2, h3⟩ := h
  obtain ⟨f1, f2, f3, f4, f5, f6, f7, f8, -, -⟩ := ops_facts o ho
  have hl : ∀ o ∈ Wt.opsT, 5 ≤ o.2.2 → o.2.1.length = 1 := by decide
  exact ⟨(5, o.2.1) :: T, Wlx.Wr.mark f2 h2 h1, mark_hdk f2 (f8 (by omega)) (hl o ho (by omega)) u, by simp [h3]; omega⟩
theorem Rc.pct {u : List UInt8} {n : Nat} {o : Int × List UInt8 × Int} (ho : o ∈ Wt.opsT) (h6 : o.2.2 = 6) (h : Rc u n) : Rc (u ++ o.2.1) (n + 1) := by
  obtain ⟨T, h1, h2, h3⟩ := h
  obtain ⟨f1, f2, f3, f4, f5, f6, f7, f8, -, -⟩ := ops_facts o ho
  have hne : o.2.1 ≠ [] := fun e => by rw [e] at f2; exact absurd f2 (by decide)
  have ha := Wlx.mark_aft f2 []
  rw [List.append_nil] at ha
  exact ⟨T ++ [(5, o.2.1)], h1.app (Wlx.Wr.still f2 (f8 (by omega)).1 (f8 (by omega)).2.1) hne ha, Wlx.Hdk.app h2 _, by simp [h3]⟩
theorem Rc.bin {u v : List UInt8} {n m : Nat} {o : Int × List UInt8 × Int} (ho : o ∈ Wt.opsT) (h : Rc u n) (hv : Rc v m) : Rc (u ++ o.2.1 ++ v) (n + 1 + m) := by
  obtain ⟨T, h1, h2, h3⟩ := h
  obtain ⟨S, g1, g2, g3⟩ := hv
  obtain ⟨f1, f2, -⟩ := ops_facts o ho
  have hne : o.2.1 ≠ [] := fun e => by rw [e] at f2; exact absurd f2 (by decide)
  have hw := Wlx.Wr.mark f2 g2 g1
  rw [List.append_assoc]
  exact ⟨T ++ (5, o.2.1) :: S, h1.app hw (by simp [hne]) (Wlx.mark_aft f2 v), Wlx.Hdk.app h2 _, by simp [h3, g3]; omega⟩
def Pc (F : Nat) : Prop := ∀ (L : List Wt.Nd) (s d : Nat), Wt.one F L = some (s, d) → ∀ least : Int, Rc (pr F least L).1 (ct F least L).1 ∧ (ct F least L).2 = L.drop s
theorem args_rc {F : Nat} (ih : Pc F) : ∀ (n : Nat) (L : List Wt.Nd) (s d : Nat), Wt.many (Wt.one F) n L = some (s, d) →
    (∃ T, Wlx.Wr ((prA (pr F) n false L).1 ++ [41]) T ∧ Wlx.Aft ((prA (pr F) n false L).1 ++ [41]) ∧ T.length = (ctA (ct F) n false L).1 + 1) ∧ (ctA (ct F) n false L).2 = L.drop s := by
  intro n
  induction n with
  | zero =>
    intro L s d h
    simp only [Wt.many, Option.some.injEq, Prod.mk.injEq] at h
    obtain ⟨rfl, rfl⟩ := h
    exact ⟨⟨[(5, [41])], Wlx.Wr.still (m := [41]) (by decide) (by decide) (by decide), Wlx.Aft.cons (c := 41) (r := []) (by decide), rfl⟩, rfl⟩
  | succ n ihn =>
    intro L s d h
    simp only [Wt.many] at h
    cases h1 : Wt.one F L with
    | none => rw [h1] at h; cases h
    | some q =>
      obtain ⟨a, b⟩ := q
      rw [h1] at h
      simp only at h
      cases h2 : Wt.many (Wt.one F) n (L.drop a) with
      | none => rw [h2] at h; cases h
      | some q2 =>
        obtain ⟨a2, b2⟩ := q2
        rw [h2] at h
        simp only [Option.some.injEq, Prod.mk.injEq] at h
        obtain ⟨rfl, rfl⟩ := h
        obtain ⟨⟨T, t1, t2, t3⟩, c1⟩ := ih L a b h1 0
        obtain ⟨⟨S, s1, s2, s3⟩, c2⟩ := ihn (L.drop a) a2 b2 h2
        have e2 : (pr F 0 L).2 = L.drop a := (pr_ok F L a b h1 0).1
        have e : (prA (pr F) (n + 1) false L).1 ++ [41] = [44] ++ ((pr F 0 L).1 ++ ((prA (pr F) n false (L.drop a)).1 ++ [41])) := by
          simp only [prA, e2]
          simp
        have ec : ctA (ct F) (n + 1) false L = (1 + (ct F 0 L).1 + (ctA (ct F) n false (L.drop a)).1, (ctA (ct F) n false (L.drop a)).2) := by
          simp only [ctA, c1]
          simp
        rw [e, ec]
        have hw := t1.app s1 (by simp) s2
        refine ⟨⟨(5, [44]) :: (T ++ S), Wlx.Wr.mark (by decide) (Wlx.Hdk.app t2 _) hw, Wlx.Aft.cons (by decide), ?_⟩, ?_⟩
        · simp only [List.length_cons, List.length_append]; omega
        · simp only; rw [c2, List.drop_drop]
theorem rc_single {F : Nat} (ih : Pc F) {x : Wt.Nd} (hx : Knd x) (hk : x.k = 1 ∨ x.k = 2 ∨ x.k = 3 ∨ x.k = 6) {r : List Wt.Nd} {a b : Nat} (h : Wt.many (Wt.one F) (Wt.parts x).toNat r = some (a, b)) :
    Rc (prS (pr F) x r).1 (ctS (ct F) x r).1 ∧ (ctS (ct F) x r).2 = r.drop a := by
  unfold prS ctS
  by_cases h1 : x.k = 1
  · rw [if_pos h1, if_pos h1]
    rw [knd_parts0 hx (Or.inl h1)] at h
    simp only [Int.toNat_zero, Wt.many, Option.some.injEq, Prod.mk.injEq] at h
    obtain ⟨rfl, rfl⟩ := h
    rcases hx with ⟨_, h, e⟩ | ⟨h, -, e⟩ | ⟨h, -, -, -, e⟩ | ⟨h, h2, -⟩ | ⟨h, h2, -⟩ | ⟨h, -, -, -, e⟩
    · exact ⟨wr_val1 h, rfl⟩
    all_goals omega
  rw [if_neg h1, if_neg h1]
  by_cases h2 : x.k = 2
  · rw [if_pos h2, if_pos h2]
    rw [knd_parts0 hx (Or.inr (Or.inl h2))] at h
    simp only [Int.toNat_zero, Wt.many, Option.some.injEq, Prod.mk.injEq] at h
    obtain ⟨rfl, rfl⟩ := h
    rcases hx with ⟨h, _, e⟩ | ⟨_, h, e⟩ | ⟨h, -, -, -, e⟩ | ⟨h, h2, -⟩ | ⟨h, h2, -⟩ | ⟨h, -, -, -, e⟩
    · omega
    · obtain ⟨t1, t2⟩ := wr_cel h
      exact ⟨⟨_, t1, t2, cTok_len _⟩, rfl⟩
    all_goals omega
  rw [if_neg h2, if_neg h2]
  by_cases h3 : x.k = 3
  · rw [if_pos h3, if_pos h3]
    rw [knd_parts0 hx (Or.inr (Or.inr h3))] at h
    simp only [Int.toNat_zero, Wt.many, Option.some.injEq, Prod.mk.injEq] at h
    obtain ⟨rfl, rfl⟩ := h
    rcases hx with ⟨h, _, e⟩ | ⟨h, _, e⟩ | ⟨_, ha, hb, hs, e⟩ | ⟨h, h2, -⟩ | ⟨h, h2, -⟩ | ⟨h, -, -, -, e⟩
    · omega
    · omega
    · obtain ⟨t1, t2⟩ := wr_area ha hb
      exact ⟨⟨_, t1, t2, by rw [List.length_append, List.length_cons, cTok_len, cTok_len]; simp only; omega⟩, rfl⟩
    all_goals omega
  rw [if_neg h3, if_neg h3]
  have h6 : x.k = 6 := by omega
  rw [knd_parts6 h6] at h
  rcases hx with ⟨h', _, e⟩ | ⟨h', _, e⟩ | ⟨h', _, _, _, e⟩ | ⟨h', h2, -⟩ | ⟨h', h2, -⟩ | ⟨_, hn, ha0, ha30, e⟩
  · omega
  · omega
  · omega
  · omega
  · omega
  obtain ⟨n, hn0⟩ : ∃ n : Nat, x.ar = n := ⟨x.ar.toNat, by omega⟩
  rw [hn0, Int.toNat_natCast] at h ⊢
  obtain ⟨w1, w2⟩ := fn_word hn
  obtain ⟨n1, n2⟩ := Wr_word w1 w2
  cases n with
  | zero =>
    simp only [Wt.many, Option.some.injEq, Prod.mk.injEq] at h
    obtain ⟨rfl, rfl⟩ := h
    have hw : Wlx.Wr (x.nm.data.toList ++ [40, 41]) ([(3, x.nm.data.toList)] ++ [(5, [40]), (5, [41])]) := by
      refine n1.app ?_ (by simp) (Wlx.Aft.cons (by decide))
      have := Wlx.Wr.mark (m := [40]) (u := [41]) (by decide) ⟨41, [], rfl, by decide, by decide⟩ (Wlx.Wr.still (m := [41]) (by decide) (by decide) (by decide))
      exact this
    have e3 : x.nm.data.toList ++ [40] ++ (prA (pr F) 0 true r).1 ++ [41] = x.nm.data.toList ++ [40, 41] := by simp [prA]
    simp only
    rw [e3]
    exact ⟨⟨_, hw, Wlx.Hdk.app n2 _, rfl⟩, rfl⟩
  | succ n =>
    simp only [Wt.many] at h
    cases h1' : Wt.one F r with
    | none => rw [h1'] at h; cases h
    | some q =>
      obtain ⟨a1, b1⟩ := q
      rw [h1'] at h
      simp only at h
      cases h2' : Wt.many (Wt.one F) n (r.drop a1) with
      | none => rw [h2'] at h; cases h
      | some q2 =>
        obtain ⟨a2, b2⟩ := q2
        rw [h2'] at h
        simp only [Option.some.injEq, Prod.mk.injEq] at h
        obtain ⟨rfl, rfl⟩ := h
        obtain ⟨⟨T, t1, t2, t3⟩, c1⟩ := ih r a1 b1 h1' 0
        obtain ⟨⟨S, s1, s2, s3⟩, c2⟩ := args_rc ih n (r.drop a1) a2 b2 h2'
        have e2 : (pr F 0 r).2 = r.drop a1 := (pr_ok F r a1 b1 h1' 0).1
        have e3 : x.nm.data.toList ++ [40] ++ (prA (pr F) (n + 1) true r).1 ++ [41] = x.nm.data.toList ++ ([40] ++ ((pr F 0 r).1 ++ ((prA (pr F) n false (r.drop a1)).1 ++ [41]))) := by
          simp only [prA, e2]
          simp
        have ec : ctA (ct F) (n + 1) true r = ((ct F 0 r).1 + (ctA (ct F) n false (r.drop a1)).1, (ctA (ct F) n false (r.drop a1)).2) := by
          simp only [ctA, c1]
          simp
        simp only
        rw [e3, ec]
        have hw := t1.app s1 (by simp) s2
        have hw2 := Wlx.Wr.mark (m := [40]) (by decide) (Wlx.Hdk.app t2 _) hw
        have hw3 := n1.app hw2 (by simp) (Wlx.Aft.cons (by decide))
        refine ⟨⟨_, hw3, Wlx.Hdk.app n2 _, ?_⟩, ?_⟩
        · simp only [List.length_append, List.length_cons, List.length_nil]; omega
        · simp only; rw [c2, List.drop_drop]
theorem pr_rc : ∀ (F : Nat), Pc F := by
  intro F
  induction F with
  | zero => intro L s d h; cases h
  | succ F ih =>
    intro L s d h least
    cases L with
    | nil => cases h
    | cons x r =>
      obtain ⟨hx, a, b, hm, rfl, rfl⟩ := one_unf h
      have hK := right_knd hx
      have key : Rc (prN (pr F) x r).1 (ctN (ct F) x r).1 ∧ (ctN (ct F) x r).2 = r.drop a := by
        rcases knd_tgh hK with ⟨h7, -, hk⟩ | ⟨ht, hp, o, ho⟩ | ⟨ht, hp, o, ho⟩
        · unfold prN ctN
          rw [if_pos h7, if_pos h7]
          exact rc_single ih hK hk hm
        · obtain ⟨om, oe⟩ := opOf_mem ho
          have htg : tgh x = o.2.2 := (opOf_tgh ho).1
          have hmk : mrk x = o.2.1 := by unfold mrk; rw [ho]
          rw [hp] at hm
          have hm1 := many_one hm
          unfold prN ctN
          rcases ht with h5 | h6
          · have n7 : ¬ tgh x = 7 := by omega
            rw [if_neg n7, if_neg n7, if_pos h5, if_pos h5, hmk]
            obtain ⟨i1, i2⟩ := ih r a b hm1 5
            exact ⟨Rc.sign om (by omega) i1, i2⟩
          · have n7 : ¬ tgh x = 7 := by omega
            have n5 : ¬ tgh x = 5 := by omega
            rw [if_neg n7, if_neg n7, if_neg n5, if_neg n5, if_pos h6, if_pos h6, hmk]
            obtain ⟨i1, i2⟩ := ih r a b hm1 6
            exact ⟨Rc.pct om (by omega) i1, i2⟩
        · obtain ⟨om, oe⟩ := opOf_mem ho
          have htg : tgh x = o.2.2 := (opOf_tgh ho).1
          have hmk : mrk x = o.2.1 := by unfold mrk; rw [ho]
          rw [hp] at hm
          obtain ⟨a1, b1, a2, b2, m1, m2, rfl, rfl⟩ := many_two hm
          unfold prN ctN
          have n7 : ¬ tgh x = 7 := by omega
          have n5 : ¬ tgh x = 5 := by omega
          have n6 : ¬ tgh x = 6 := by omega
          rw [if_neg n7, if_neg n7, if_neg n5, if_neg n5, if_neg n6, if_neg n6, hmk]
          have e2 : (pr F (tgh x) r).2 = r.drop a1 := (pr_ok F r a1 b1 m1 (tgh x)).1
          obtain ⟨i1, j1⟩ := ih r a1 b1 m1 (tgh x)
          obtain ⟨i2, j2⟩ := ih (r.drop a1) a2 b2 m2 (tgh x + 1)
          rw [e2, j1]
          refine ⟨Rc.bin om i1 i2, ?_⟩
          simp only
          rw [j2, List.drop_drop]
      obtain ⟨hR, hD⟩ := key
      have ep : pr (F + 1) least (x :: r) = if least ≤ tgh x then prN (pr F) x r else (40 :: (prN (pr F) x r).1 ++ [41], (prN (pr F) x r).2) := rfl
      rw [ep, ct_cons]
      by_cases hl : least ≤ tgh x
      · rw [if_pos hl, if_pos hl]; exact ⟨hR, by rw [hD]; rfl⟩
      · rw [if_neg hl, if_neg hl]; exact ⟨hR.brack, by simp only; rw [hD]; rfl⟩
theorem prnt_toks {L : List Wt.Nd} (hc : Wt.check L = 0) : ∃ ts, Wlx.Ok 0 (prnt L) ts ∧ ts.length = (ct (L.length + 1) 0 L).1 := by
  obtain ⟨h256, d, hone, hd⟩ := check_zero hc
  have hp : prnt L = (pr (L.length + 1) 0 L).1 := by unfold prnt; rw [if_pos hc]
  obtain ⟨⟨T, t1, t2, t3⟩, -⟩ := pr_rc _ _ _ _ hone 0
  rw [← hp] at t1
  obtain ⟨ts, o1, o2⟩ := t1 0 [] [] Wlx.Aft.nil (Wlx.Ok.nil _)
  rw [List.append_nil, List.append_nil] at o1
  exact ⟨ts, o1, by rw [← t3, ← o2, List.length_map]⟩
end Go.Proofs.YtifdemakjphfcaaGreatDoor
namespace Wlx
theorem Ok.wipe {p : Nat} {l : List UInt8} {ts : List Tok} (h : Ok p l ts) : ∀ i (hi : i < ts.length), (ts[i]).k = 5 → (∃ d, (ts[i]).t = [d]) → (ts[i]).p - p < l.length ∧ Ok p (l.take ((ts[i]).p - p) ++ 32 :: l.drop ((ts[i]).p - p + 1)) (ts.eraseIdx i) := by
  induction h using Ok.ind with
  | nil p => intro i hi; exact absurd hi (Nat.not_lt_zero _)
  | @blank p t ts h ih =>
    intro i hi hk hd
    have hp := (h.count.2 (ts[i]) (List.getElem_mem hi)).1
    obtain ⟨h1, h2⟩ := ih i hi hk hd
    have e : (ts[i]).p - p = (ts[i]).p - (p + 1) + 1 := by omega
    rw [e]
    exact ⟨by simp only [List.length_cons]; omega, Ok.blank h2⟩
  | @tok p k u r ts ha hp h ih =>
    intro i hi hk hd
    cases i with
    | zero =>
      simp only [List.getElem_cons_zero] at hk hd ⊢
      subst hk
      obtain ⟨d, hd⟩ := hd
      rw [said_other (by decide)] at hd
      subst hd
      rw [Nat.sub_self]
      exact ⟨by simp, Ok.blank h⟩
    | succ i =>
      simp only [List.length_cons] at hi
      simp only [List.getElem_cons_succ] at hk hd ⊢
      have hi' : i < ts.length := by omega
      have hpp := (h.count.2 (ts[i]) (List.getElem_mem hi')).1
      obtain ⟨h1, h2⟩ := ih i hi' hk hd
      have e : (ts[i]).p - p = u.length + ((ts[i]).p - (p + u.length)) := by omega
      generalize (ts[i]).p - (p + u.length) = A at e h1 h2
      rw [e, List.eraseIdx_cons_succ]
      refine ⟨by rw [List.length_append]; omega, ?_⟩
      have e1 : (u ++ r).take (u.length + A) = u ++ r.take A := by rw [List.take_append, Nat.add_sub_cancel_left, List.take_of_length_le (by omega)]
      have e2 : (u ++ r).drop (u.length + A + 1) = r.drop (A + 1) := by rw [List.drop_append, List.drop_eq_nil_of_le (by omega), List.nil_append, show u.length + A + 1 - u.length = A + 1 by omega]
      rw [e1, e2, List.append_assoc]
      have hx : Nx k r (r.take A ++ 32 :: r.drop (A + 1)) := by
        cases r with
        | nil => simp at h1
        | cons x y =>
          cases A with
          | zero => exact ⟨Or.inr (Or.inr (Or.inl (by simp))), fun _ h => by simp at h⟩
          | succ A => exact ⟨Or.inl rfl, fun _ h2 => h.head h2⟩
      exact Ok.tok (ha.ctx hx) hp h2
theorem Ok.le {p : Nat} {l : List UInt8} {ts : List Tok} (h : Ok p l ts) : ∀ i j (hi : i < ts.length) (hj : j < ts.length), i < j → (ts[i]).p < (ts[j]).p := by
  induction h using Ok.ind with
  | nil p => intro i j hi; exact absurd hi (Nat.not_lt_zero _)
  | @blank p t ts h ih => exact ih
  | @tok p k u r ts ha hp h ih =>
    intro i j hi hj hij
    cases j with
    | zero => omega
    | succ j =>
      simp only [List.length_cons] at hj
      have hj' : j < ts.length := by omega
      have hpp := (h.count.2 (ts[j]) (List.getElem_mem hj')).1
      have hu := ha.pos
      cases i with
      | zero => simp only [List.getElem_cons_zero, List.getElem_cons_succ]; omega
      | succ i =>
        simp only [List.length_cons] at hi
        simp only [List.getElem_cons_succ]
        exact ih i j (by omega) hj' (by omega)
end Wlx
namespace Go.Proofs.YtifdemakjphfcaaGreatDoor
open Go.RowKit Go.Shelf
set_option linter.unusedVariables false
def wiped (s : List UInt8) (a b : Nat) : List UInt8 := s.take a ++ (32 :: ((s.drop (a + 1)).take (b - (a + 1)) ++ (32 :: s.drop (b + 1))))
theorem wiped_len {s : List UInt8} {a b : Nat} (hab : a < b) (hb : b < s.length) : (wiped s a b).length = s.length := by
  unfold wiped
  simp only [List.length_append, List.length_cons, List.length_take, List.length_drop]
  omega
theorem wiped_eq {s : List UInt8} {a b : Nat} (hab : a < b) (hb : b < s.length) : (s.take b ++ 32 :: s.drop (b + 1)).take a ++ 32 :: (s.take b ++ 32 :: s.drop (b + 1)).drop (a + 1) = wiped s a b := by
  unfold wiped
  rw [List.take_append_of_le_length (by rw [List.length_take]; omega), List.take_take, Nat.min_eq_left (by omega)]
  rw [List.drop_append_of_le_length (by rw [List.length_take]; omega), List.drop_take]
theorem needed {L : List Wt.Nd} (hc : Wt.check L = 0) {ts : List Wlx.Tok} (hok : Wlx.Ok 0 (prnt L) ts) {i j : Nat} (hi : i < ts.length) (hj : j < ts.length) (hij : i < j) (ki : (ts[i]).k = 5 ∧ (ts[i]).t = [40]) (kj : (ts[j]).k = 5 ∧ (ts[j]).t = [41]) :
    (ts[i]).p < (ts[j]).p ∧ (ts[j]).p < (prnt L).length ∧ prsR (wiped (prnt L) (ts[i]).p (ts[j]).p) ≠ .inl L := by
  obtain ⟨ts0, o1, o2⟩ := prnt_toks hc
  have e0 : ts0 = ts := Wlx.ok_inj (o1.scan.symm.trans hok.scan)
  subst e0
  have hlt := hok.le i j hi hj hij
  obtain ⟨h1, h2⟩ := hok.wipe j hj kj.1 ⟨_, kj.2⟩
  have hie : (ts0.eraseIdx j)[i]? = some ts0[i] := by
    rw [List.getElem?_eraseIdx, if_pos hij, List.getElem?_eq_getElem hi]
  obtain ⟨hi2, hie2⟩ := List.getElem?_eq_some_iff.1 hie
  obtain ⟨g1, g2⟩ := h2.wipe i hi2 (by rw [hie2]; exact ki.1) ⟨_, by rw [hie2]; exact ki.2⟩
  rw [hie2] at g1 g2
  simp only [Nat.sub_zero] at h1 g1 g2
  refine ⟨hlt, h1, fun hr => ?_⟩
  rw [wiped_eq hlt h1] at g2
  obtain ⟨-, us, hus, hlv, -⟩ := prsR_inl hr
  have e1 : us = (ts0.eraseIdx j).eraseIdx i := Wlx.ok_inj (hus.scan.symm.trans g2.scan)
  have := (lv_few hlv).1
  rw [List.length_map, e1, List.length_eraseIdx, if_pos hi2, List.length_eraseIdx, if_pos hj, ← o2] at this
  omega
def isO (t : Wlx.Tok) : Bool := (t.k == 5) && (t.t == [40])
def isS (t : Wlx.Tok) : Bool := (t.k == 5) && (t.t == [41])
theorem isO_mk (t : Wlx.Tok) : isMk (Wlx.tv t) [40] = isO t := by
  unfold isMk isO Wlx.tv
  simp only
  congr 1
  rw [Bool.eq_iff_iff]
  simp
  omega
theorem isS_mk (t : Wlx.Tok) : isMk (Wlx.tv t) [41] = isS t := by
  unfold isMk isS Wlx.tv
  simp only
  congr 1
  rw [Bool.eq_iff_iff]
  simp
  omega
theorem prnt_bl {L : List Wt.Nd} (hc : Wt.check L = 0) (hl : (prnt L).length ≤ 1024) {ts : List Wlx.Tok} (hok : Wlx.Ok 0 (prnt L) ts) : ∀ i, bal ((ts.drop i).map Wlx.tv) ≤ 0 := by
  intro i
  obtain ⟨-, us, hus, hlv, -⟩ := prsR_inl (prnt_read hc hl)
  have e1 : us = ts := Wlx.ok_inj (hus.scan.symm.trans hok.scan)
  subst e1
  have := (lv_few hlv).2.2 ((us.take i).map Wlx.tv) ((us.drop i).map Wlx.tv) (by rw [← List.map_append, List.take_append_drop])
  exact this
open Go.RowKit
theorem neqG_run (x y : Wt.Nd) (w : World) : (binOp .neq 45 (ndV x) (ndV y)).run Tryz.prog w = .ok (.bool (!eqN x y)) w := by
  have h := eqN_run x y w
  unfold ndV at h ⊢
  rw [run_eql_struct] at h
  rw [run_neq_struct]
  revert h
  generalize (Op.equalIn 10000 45 (.agg (nd20 x).toArray) (.agg (nd20 y).toArray)).run Tryz.prog w = r
  intro h
  cases r <;> simp_all [Result.andThen]
theorem neqG_exec (x y : Wt.Nd) (w : World) {a : Operand → Value} {ex ey : Operand} (h1 : a ex = .agg (nd20 x).toArray) (h2 : a ey = .agg (nd20 y).toArray) {d : Option Nat} {ty : TypeId} {p : String} {af : Array Edge} {g : Option (Nat × Bool)} :
    (execOp a { dst := d, op := .binOp BinOp.neq 45 ex ey 45, type := ty, pos := p, after := af, guard := g }).run Tryz.prog w = .ok (.value (.bool (!eqN x y))) w := by
  unfold execOp
  simp only [h1, h2]
  have h3 := neqG_run x y w
  unfold ndV at h3
  have h4 : (eqGuard .neq 45 ex ey (.agg (nd20 x).toArray) (.agg (nd20 y).toArray)).run Tryz.prog w = .ok () w := by kernel_rfl
  simp only [Sem.run_bind, h3, h4, Result.andThen_ok, Sem.run_pure]
set_option maxRecDepth 100000 in
set_option maxHeartbeats 4000000 in
theorem nsame_eqlen (av1 av2 : Option Addr) (cap1 cap2 : Nat) (L M : List Wt.Nd) (w : World) (h1 : RdN w av1 L) (h2 : RdN w av2 M) (hl : L.length ≤ 4000000) (hlm : L.length = M.length) (hne : L ≠ M) :
    Calls Tryz.prog 12 #[.slice av1 L.length cap1, .slice av2 M.length cap2] w fun e w' => e = .returned (.bool false) ∧ Below w.heap.size w w' := by
  have H1 : Hid (RdN w av1 L) := h1
  have H2 : Hid (RdN w av2 M) := h2
  have HNE : Hid (L ≠ M) := hne
  rw [← hlm]
  obtain ⟨n, hn⟩ : ∃ n, L.length = n := ⟨_, rfl⟩
  have HM : Hid (M.length = n) := by show _ = _; omega
  have HLn : Hid (L.length = n) := hn
  rw [hn] at hl ⊢
  have HL : True → n ≤ 4000000 := fun _ => hl
  clear h1 h2 hlm hne hn hl
  go_enter Tryz.func12, Tryz.ntmps12
  go_wp2_with fail
  go_loopg [5] n (fun gk x wr => ∃ i : Nat, x = .int .i64 i ∧ gk = n - i ∧ i ≤ n ∧ Hid (∀ (j : Nat) (h1 : j < L.length) (h2 : j < M.length), j < i → L[j] = M[j]) ∧ Below w.heap.size w wr)
  case atStart => exact ⟨0, rfl, rfl, Nat.zero_le _, fun _ _ _ h => absurd h (Nat.not_lt_zero _), Below.refl _ _⟩
  case round =>
    obtain ⟨i, rfl, hg, hi, HK, hb⟩ := hrel
    by_cases hlt : i < n
    · have hli : (i : Int) < (n : Int) := by omega
      have hi0 : (0 : Int) ≤ (i : Int) := by omega
      have hwi : IntKind.i64.wrap ((i : Int) + 1) = (i : Int) + 1 := by rw [IntKind.wrap_i64]; have := HL trivial; omega
      have hiL : i < L.length := by have := HLn.out; omega
      have hiM : i < M.length := by have := HM.out; omega
      obtain ⟨b1, o1, rfl, c1⟩ := RdN.below H1.out hb i hiL
      obtain ⟨b2, o2, rfl, c2⟩ := RdN.below H2.out hb i hiM
      obtain ⟨x, hx⟩ : ∃ x, L[i] = x := ⟨_, rfl⟩
      obtain ⟨y, hy⟩ : ∃ y, M[i] = y := ⟨_, rfl⟩
      have HX : Hid (L[i] = x) := hx
      have HY : Hid (M[i] = y) := hy
      rw [hx] at c1
      rw [hy] at c2
      clear hx hy
      go_upto_region 6 with fail
      refine wp_region_held_drew (S := fun W => W.rangeAt b1 (o1 + i * 20) (nd20 x) ∧ W.rangeAt b2 (o2 + i * 20) (nd20 y)) (by kernel_rfl) ⟨c1, c2⟩ (fun hHeld => ?_)
      refine wpAnyH_take (i := 0) (oi := { dst := some 17, op := .move (.tmp 0), type := 22, pos := "law.go:22", after := #[], guard := none }) (v := ?_) rfl (by kernel_rfl) (by kernel_rfl) (by kernel_rfl) (fun _ _ _ h => h) (Or.inl ⟨by rfl, ?_⟩) (by assumption) ?_
      rotate_left; (intro w hSw; (try dsimp only at hSw); go_simp; (try with_reducible rfl)); try simp only [Act.put, lA, lZ, lS]
      refine wpAnyH_take (i := 1) (oi := { dst := some 18, op := .move (.tmp 5), type := 3, pos := "law.go:22", after := #[], guard := none }) (v := ?_) rfl (by kernel_rfl) (by kernel_rfl) (by kernel_rfl) (fun _ _ _ h => h) (Or.inl ⟨by rfl, ?_⟩) (by assumption) ?_
      rotate_left; (intro w hSw; (try dsimp only at hSw); go_simp; (try with_reducible rfl)); try simp only [Act.put, lA, lZ, lS]
      refine wpAnyH_take (i := 2) (oi := { dst := some 19, op := .indexAddr 22 (.tmp 17) (.tmp 18), type := 0, pos := "law.go:22", after := #[⟨0, .data⟩, ⟨1, .data⟩], guard := none }) (v := ?_) rfl (by kernel_rfl) (by kernel_rfl) (by kernel_rfl) (fun _ _ _ h => h) (Or.inl ⟨by rfl, ?_⟩) (by assumption) ?_
      rotate_left; (intro w hSw; (try dsimp only at hSw); go_simp; (try with_reducible rfl)); try simp only [Act.put, lA, lZ, lS]
      refine wpAnyH_take (i := 3) (oi := { dst := some 20, op := .load 45 (.tmp 19), type := 45, pos := "law.go:22", after := #[⟨2, .data⟩], guard := none }) (v := .agg (nd20 x).toArray) rfl (by kernel_rfl) (by kernel_rfl) (by kernel_rfl) (fun _ _ _ h => h) (yieldsIf_load_mid (by rfl) 45 (.tmp 19) rfl b1 (o1 + i * 20) rfl (nd20 x) _ (fun _ h => h.1) Tryz.underlying45 rfl (by kernel_rfl)) (by assumption) ?_
      try simp only [Act.put, lA, lZ, lS]
      refine wpAnyH_take (i := 4) (oi := { dst := some 21, op := .move (.tmp 1), type := 22, pos := "law.go:22", after := #[], guard := none }) (v := ?_) rfl (by kernel_rfl) (by kernel_rfl) (by kernel_rfl) (fun _ _ _ h => h) (Or.inl ⟨by rfl, ?_⟩) (by assumption) ?_
      rotate_left; (intro w hSw; (try dsimp only at hSw); go_simp; (try with_reducible rfl)); try simp only [Act.put, lA, lZ, lS]
      refine wpAnyH_take (i := 5) (oi := { dst := some 22, op := .move (.tmp 5), type := 3, pos := "law.go:22", after := #[], guard := none }) (v := ?_) rfl (by kernel_rfl) (by kernel_rfl) (by kernel_rfl) (fun _ _ _ h => h) (Or.inl ⟨by rfl, ?_⟩) (by assumption) ?_
      rotate_left; (intro w hSw; (try dsimp only at hSw); go_simp; (try with_reducible rfl)); try simp only [Act.put, lA, lZ, lS]
      refine wpAnyH_take (i := 6) (oi := { dst := some 23, op := .indexAddr 22 (.tmp 21) (.tmp 22), type := 0, pos := "law.go:22", after := #[⟨4, .data⟩, ⟨5, .data⟩], guard := none }) (v := ?_) rfl (by kernel_rfl) (by kernel_rfl) (by kernel_rfl) (fun _ _ _ h => h) (Or.inl ⟨by rfl, ?_⟩) (by assumption) ?_
      rotate_left; (intro w hSw; (try dsimp only at hSw); go_simp; (try with_reducible rfl)); try simp only [Act.put, lA, lZ, lS]
      refine wpAnyH_take (i := 7) (oi := { dst := some 24, op := .load 45 (.tmp 23), type := 45, pos := "law.go:22", after := #[⟨6, .data⟩], guard := none }) (v := .agg (nd20 y).toArray) rfl (by kernel_rfl) (by kernel_rfl) (by kernel_rfl) (fun _ _ _ h => h) (yieldsIf_load_mid (by rfl) 45 (.tmp 23) rfl b2 (o2 + i * 20) rfl (nd20 y) _ (fun _ h => h.2) Tryz.underlying45 rfl (by kernel_rfl)) (by assumption) ?_
      try simp only [Act.put, lA, lZ, lS]
      refine wpAnyH_take (i := 8) (oi := { dst := some 25, op := .binOp BinOp.neq 45 (.tmp 20) (.tmp 24) 45, type := 4, pos := "law.go:22", after := #[⟨3, .data⟩, ⟨7, .data⟩], guard := none }) (v := .bool (!eqN x y)) rfl (by kernel_rfl) (by kernel_rfl) (by kernel_rfl) (fun _ _ _ h => h) (Or.inl ⟨by rfl, fun w _ => neqG_exec x y w rfl rfl⟩) (by assumption) ?_
      try simp only [Act.put, lA, lZ, lS]
      refine wpAnyH_done (by kernel_rfl) ?_ _
      clear hHeld c1 c2
      have hbd := hb.drew
      cases he : eqN x y with
      | true =>
        have HK2 : Hid (∀ (j : Nat) (h1 : j < L.length) (h2 : j < M.length), j < i + 1 → L[j] = M[j]) := by
          intro j g1 g2 hj
          by_cases hji : j < i
          · exact HK.out j g1 g2 hji
          · have : j = i := by omega
            subst this
            rw [HX.out, HY.out]
            exact (eqN_iff x y).1 he
        clear HK HX HY he
        go_wp2_with fail
        go_roundg (n - (i + 1))
        case rel => exact ⟨i + 1, by simp, rfl, by omega, HK2, hbd⟩
        case measure => omega
      | false =>
        clear HK HX HY he
        go_wp2
        go_ret
        exact ⟨rfl, hbd⟩
    · exfalso
      apply HNE.out
      apply List.ext_getElem (by rw [HM.out]; exact HLn.out)
      intro j g1 g2
      exact HK.out j g1 g2 (by have := HLn.out; omega)
set_option maxRecDepth 100000 in
theorem nsame_ne (av1 av2 : Option Addr) (cap1 cap2 : Nat) (L M : List Wt.Nd) (w : World) (h1 : RdN w av1 L) (h2 : RdN w av2 M) (hl : L.length ≤ 4000000) (hm : M.length ≤ 4000000) (hne : L ≠ M) :
    Calls Tryz.prog 12 #[.slice av1 L.length cap1, .slice av2 M.length cap2] w fun e w' => e = .returned (.bool false) ∧ Below w.heap.size w w' := by
  by_cases hlm : L.length = M.length
  · exact nsame_eqlen av1 av2 cap1 cap2 L M w h1 h2 hl hlm hne
  · have hb : ((L.length : Int) != (M.length : Int)) = true := bne_iff_ne.2 (by omega)
    generalize L.length = n at *
    generalize M.length = m at *
    clear hl hm hlm h1 h2
    go_enter Tryz.func12, Tryz.ntmps12
    go_wp2
    go_ret
    exact ⟨rfl, Below.refl _ _⟩
def intC (ks : List Nat) : List Value := ks.map fun (k : Nat) => .int .i64 (k : Int)
def OwnI (w : World) (B : Nat) (v : Value) (ks : List Nat) : Prop := w.ownsRow B 3 1 v ks.length (intC ks)
theorem OwnI.below {w w' : World} {B : Nat} {v : Value} {ks : List Nat} (h : OwnI w B v ks) (hb : Below w.heap.size w w') : OwnI w' B v ks :=
  World.ownsRow.kept h (row := none) ⟨hb.os, hb.tape, hb.output, hb.size, fun k hk _ => hb.block k hk⟩ (by cases v.ownBlock <;> simp)
theorem intInfo : (Tryz.prog.info? 3).map (fun i => (i.zero, i.size, i.bytes)) = some (some (.int .i64 0), 1, 8) := by kernel_rfl
end Go.Proofs.YtifdemakjphfcaaGreatDoor
