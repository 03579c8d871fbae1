/- Queues: what QueuePlays wants besides. -/
import Derived.Test.YtpbjmhcpaeillaaQLook
namespace Go.Proofs.Ytpbjmhcpaeillaa
open Go.RowKit
set_option linter.unusedVariables false

theorem Qn.ult {B : Nat} {w : World} {qb : Nat} {l : List Wq.Wr} {A : List Wpl.Ar} {S U : List Nat} (h : Qn B w qb l A S U) : ∀ k ∈ U, k < w.heap.size := by
  obtain ⟨hb, mb, rv, l', F, av, n, cap, e, eu, hq, hp, hB, h1, h2, h3⟩ := h
  subst eu
  intro k hk
  obtain ⟨off, e⟩ := blkO_of hk
  exact hq.al k off e
/-- What a call that turns the queue, and not what it reads besides, leaves. -/
def QnQ (B : Nat) (w : World) (qb : Nat) (l : List Wq.Wr) (A : List Wpl.Ar) (S U : List Nat) (r : Value) (en : Ending) (w' : World) : Prop := en = .returned r ∧ ∃ S', Qn B w' qb l A S' U ∧ Fr S w w' ∧ (∀ k ∈ S', k ∈ S ∨ w.heap.size ≤ k)
theorem n2_put {B : Nat} {w : World} {qb : Nat} {l : List Wq.Wr} {A : List Wpl.Ar} {S U : List Nat} (h : Qn B w qb l A S U) (x : Wpl.Cl) (lv : Int) (hN : True → l.length + 1 ≤ 1000000000) (hA : True → A.length ≤ 1000000000) :
    Calls Try.prog 11 #[.pointer (some ⟨qb, 0, none⟩), .agg #[.int .i64 x.s, .int .i64 x.r, .int .i64 x.c], .int .i64 lv] w (QnQ B w qb (⟨x.s, x.r, x.c, lnQ A x, lv⟩ :: offW x l) A S U (.tuple #[])) := by
  obtain ⟨hb, mb, rv, l', F, av, n, cap, e, eu, hq, hp, hB, h1, h2, h3⟩ := h
  subst e eu
  refine (qput_any qb hb mb _ rv l' F av n cap A x lv w hq (fun _ => by rw [hp.length_eq]; exact hN trivial) (fun _ => by rw [← hq.len]; exact hA trivial) hB).mono ?_
  rintro en w' ⟨rv', l2, F', he, hq', hp', fr, hz⟩
  exact ⟨he, _, ⟨hb, mb, rv', l2, F', av, n, cap, rfl, rfl, hq', hp'.trans ((offW_perm hp).cons _), Nat.le_trans hB fr.size, h1, h2, h3⟩, fr.mono (fun k hk => List.mem_cons_of_mem _ hk), own_new hz⟩
theorem n2_drop {B : Nat} {w : World} {qb : Nat} {l : List Wq.Wr} {A : List Wpl.Ar} {S U : List Nat} (h : Qn B w qb l A S U) (x : Wpl.Cl) (hN : True → l.length ≤ 1000000000) :
    Calls Try.prog 13 #[.pointer (some ⟨qb, 0, none⟩), .agg #[.int .i64 x.s, .int .i64 x.r, .int .i64 x.c]] w (QnQ B w qb (offW x l) A S U (.bool (hasW x l))) := by
  obtain ⟨hb, mb, rv, l', F, av, n, cap, e, eu, hq, hp, hB, h1, h2, h3⟩ := h
  subst e eu
  refine (qdrop_any qb hb mb _ rv l' F av n cap A x w hq (fun _ => by rw [hp.length_eq]; exact hN trivial)).mono ?_
  rintro en w' ⟨q, rv', l2, F', he, ht, hf, hq', hp', fr, hz⟩
  have eq : q = hasW x l := by
    cases q with
    | true =>
      obtain ⟨a, ha, e⟩ := ht rfl
      exact (hasW_iff.2 ⟨a, hp.mem_iff.1 ha, e⟩).symm
    | false =>
      cases c : hasW x l with
      | false => rfl
      | true =>
        obtain ⟨a, ha, e⟩ := hasW_iff.1 c
        exact absurd e (hf rfl a (hp.mem_iff.2 ha))
  subst eq
  exact ⟨he, _, ⟨hb, mb, rv', l2, F', av, n, cap, rfl, rfl, hq', hp'.trans (offW_perm hp), Nat.le_trans hB fr.size, h1, h2, h3⟩, fr.mono (fun k hk => List.mem_cons_of_mem _ hk), own_new hz⟩
theorem off_erase : ∀ (l : List Wq.Wr) (i : Nat) (a : Wq.Wr), (l.map clW).Nodup → l[i]? = some a → offW (clW a) l = l.eraseIdx i
  | [], i, a, _, h => by simp at h
  | b :: r, 0, a, hn, h => by
    rw [List.map_cons, List.nodup_cons] at hn
    simp at h
    subst h
    show offW (clW b) (b :: r) = r
    unfold offW
    rw [List.filter_cons, eqCl_iff.2 rfl]
    exact offW_none (fun c hc e => hn.1 (List.mem_map.2 ⟨c, hc, e⟩))
  | b :: r, i + 1, a, hn, h => by
    rw [List.map_cons, List.nodup_cons] at hn
    have h' : r[i]? = some a := by simpa using h
    have hb : eqCl (clW b) (clW a) = false := by
      cases c : eqCl (clW b) (clW a) with
      | false => rfl
      | true => exact absurd (List.mem_map.2 ⟨a, List.mem_of_getElem? h', (eqCl_iff.1 c).symm⟩) hn.1
    show offW (clW a) (b :: r) = b :: r.eraseIdx i
    rw [← off_erase r i a hn.2 h']
    unfold offW
    rw [List.filter_cons, hb]
    rfl
theorem put_rel {A : List Wpl.Ar} {R R' : List (Wpl.Cl × Int)} {x : Wpl.Cl} {lv : Int} (hn : ((R.map (wrR A)).map clW).Nodup) (h : RPut R x lv R') : ((⟨x.s, x.r, x.c, lnQ A x, lv⟩ : Wq.Wr) :: offW x (R.map (wrR A))).Perm (R'.map (wrR A)) ∧ R'.length ≤ R.length + 1 := by
  rcases h with ⟨hno, rfl⟩ | ⟨i, p, hp, rfl, rfl⟩
  · refine ⟨?_, by simp⟩
    rw [offW_none (fun b hb => by obtain ⟨p, hp, rfl⟩ := List.mem_map.1 hb; exact hno p hp), List.map_append]
    exact (List.perm_append_singleton (wrR A (x, lv)) _).symm
  · refine ⟨?_, by rw [List.length_set]; omega⟩
    have hp' : (R.map (wrR A))[i]? = some (wrR A p) := by rw [List.getElem?_map, hp]; rfl
    have e1 := off_erase _ i (wrR A p) hn hp'
    have hlt : i < (R.map (wrR A)).length := (List.getElem?_eq_some_iff.1 hp').1
    have e2 : (R.set i (p.1, lv)).map (wrR A) = (R.map (wrR A)).set i (wrR A (p.1, lv)) := List.map_set
    rw [e2]
    have e3 : offW p.1 (R.map (wrR A)) = (R.map (wrR A)).eraseIdx i := e1
    rw [e3]
    exact (set_perm hlt (wrR A (p.1, lv))).symm
theorem drop_no {A : List Wpl.Ar} {R : List (Wpl.Cl × Int)} {x : Wpl.Cl} (h : ∀ p ∈ R, p.1 ≠ x) : offW x (R.map (wrR A)) = R.map (wrR A) ∧ hasW x (R.map (wrR A)) = false := by
  have h' : ∀ b ∈ R.map (wrR A), clW b ≠ x := fun b hb => by
    obtain ⟨p, hp, rfl⟩ := List.mem_map.1 hb
    exact h p hp
  refine ⟨offW_none h', ?_⟩
  cases c : hasW x (R.map (wrR A)) with
  | false => rfl
  | true =>
    obtain ⟨b, hb, eb⟩ := hasW_iff.1 c
    exact absurd eb (h' b hb)
theorem drop_yes {A : List Wpl.Ar} {R : List (Wpl.Cl × Int)} {x : Wpl.Cl} (hn : ((R.map (wrR A)).map clW).Nodup) {i : Nat} {p : Wpl.Cl × Int} (hp : R[i]? = some p) (e : p.1 = x) : offW x (R.map (wrR A)) = (R.take i ++ R.drop (i + 1)).map (wrR A) ∧ hasW x (R.map (wrR A)) = true ∧ (R.take i ++ R.drop (i + 1)).length ≤ R.length := by
  subst e
  have hp' : (R.map (wrR A))[i]? = some (wrR A p) := by rw [List.getElem?_map, hp]; rfl
  have e1 : offW p.1 (R.map (wrR A)) = (R.map (wrR A)).eraseIdx i := off_erase _ i (wrR A p) hn hp'
  refine ⟨?_, hasW_iff.2 ⟨_, List.mem_of_getElem? hp', rfl⟩, ?_⟩
  · rw [e1, List.eraseIdx_eq_take_drop_succ, List.map_append, List.map_take, List.map_drop]
  · rw [List.length_append, List.length_take, List.length_drop]
    omega
theorem see_rel (A C : List Wpl.Ar) (R : List (Wpl.Cl × Int)) : (R.map (wrR A)).map (reW C) = R.map (wrR C) := by
  rw [List.map_map]
  rfl
theorem flatA_app : ∀ (A C : List Wpl.Ar), flatA (A ++ C) = flatA A ++ flatA C
  | [], C => rfl
  | x :: r, C => by simp [flatA, flatA_app r C]
theorem flatA_set (U : List Wpl.Ar) (i : Nat) (hi : i < U.length) (p : Wpl.Ar) : setL (flatA U) (i * 5) (arQ p) = flatA (U.set i p) := by
  have e1 : U = U.take i ++ U[i] :: U.drop (i + 1) := by rw [← List.drop_eq_getElem_cons hi, List.take_append_drop]
  have e2 : U.set i p = U.take i ++ p :: U.drop (i + 1) := List.set_eq_take_append_cons_drop.trans (if_pos hi)
  have hl : (flatA (U.take i)).length = i * 5 := by rw [flatA_len, List.length_take, Nat.min_eq_left (by omega)]
  rw [e2]
  conv => lhs; rw [e1]
  rw [flatA_app, flatA_app]
  show setL (flatA (U.take i) ++ (arQ U[i] ++ flatA (U.drop (i + 1)))) (i * 5) (arQ p) = flatA (U.take i) ++ (arQ p ++ flatA (U.drop (i + 1)))
  rw [← List.append_assoc, ← hl, setL_app (arQ p) _ (arQ U[i]) _ rfl, List.append_assoc]
theorem own_putA {w : World} {B g n cap : Nat} {D : List Wpl.Ar} (h : w.ownsRow B 39 5 (.slice (some ⟨g, 0, none⟩) n cap) n (flatA D)) (hn : D.length = n) {i : Nat} (hi : i < n) (x : Wpl.Ar) : (w.setCells g (i * 5) (arQ x)).ownsRow B 39 5 (.slice (some ⟨g, 0, none⟩) n cap) n (flatA (D.set i x)) := by
  rw [← flatA_set D i (by omega) x]
  exact (own_setAll (arQ x) (i * 5) w _ h).1
theorem own_thereA {w : World} {B g n cap : Nat} {xs : List Value} (h : w.ownsRow B 39 5 (.slice (some ⟨g, 0, none⟩) n cap) n xs) {i : Nat} (hi : i < n) : w.there g (i * 5) 5 := by
  obtain ⟨a, c, e1, _, hr⟩ := own_open h
  obtain ⟨g', e2, ht, _⟩ := hr (by omega)
  rw [e2] at e1
  simp only [Value.slice.injEq, Option.some.injEq, Addr.mk.injEq, and_true, true_and] at e1
  rw [e1.1]
  exact ht i hi
theorem RdQ.pre {w : World} {av : Option Addr} {C D : List Wpl.Ar} (h : RdQ w av (C ++ D)) : RdQ w av C := fun i a ha => h i a (by rw [List.getElem?_append_left (List.getElem?_eq_some_iff.1 ha).1]; exact ha)
theorem RdQ.at5 {w : World} {av : Option Addr} {C : List Wpl.Ar} (h : RdQ w av C) {i : Nat} {a : Wpl.Ar} (ha : C[i]? = some a) : ∃ bb off, av = some ⟨bb, off, none⟩ ∧ Five5 w bb (off + i * 5) a := by
  obtain ⟨bb, off, e, hr⟩ := h i a ha
  exact ⟨bb, off, e, ⟨hr 0 _ rfl, hr 1 _ rfl⟩, ⟨hr 2 _ rfl, hr 3 _ rfl⟩, hr 4 _ rfl⟩
theorem run_slHA (w : World) (g n cap k : Nat) (hk : k ≤ cap) : (Instr.sliceAt 29 (.slice (some ⟨g, 0, none⟩) n cap) none (some (.int .i64 (k : Int))) none).run Try.prog w = .ok (.slice (some ⟨g, 0, none⟩) k cap) w := by
  have hu : Try.prog.underlying 29 = some (.slice (Try.prog.elem 29)) := by kernel_rfl
  have hz : (sizeOf (Try.prog.elem 29)).run Try.prog w = .ok 5 w := by kernel_rfl
  rw [run_sliceAt_slice w _ _ _ _ _ hu, run_slice_h w _ _ _ _ hu _ (k : Int) (by omega) (by omega), hz]
  simp [sliced, Addr.add]
theorem wpList_slHA {ops : Array Oper} {rest : List Oper} {op : Oper} {a : Act} {w : World} {Q : Exit → Act → World → Prop} (hgd : op.guard = none) (s h : Operand) (ho : op.op = .slice 29 s none (some h) none) (g n cap k : Nat) (hs : a.eval s = .slice (some ⟨g, 0, none⟩) n cap) (hh : a.eval h = .int .i64 (k : Int)) (hk : k ≤ cap)
    (hc : wpList Try.prog ops Q rest (a.put op.dst (.slice (some ⟨g, 0, none⟩) k cap)) w) : wpList Try.prog ops Q (op :: rest) a w := by
  refine wpList_plain hgd fun K hK => ?_
  unfold Oper.wp execOp
  have hr := run_slHA w g n cap k hk
  simp only [ho, hs, hh, Option.map_some, Option.map_none, Sem.run_bind, Sem.run_pure, Result.andThen_ok, hr]
  exact hK _ _ hc
theorem neqAr_run (x : Wpl.Ar) (w : World) : (binOp .neq 39 (.agg #[.int .i64 x.s, .int .i64 x.t, .int .i64 x.l, .int .i64 x.b, .int .i64 x.r]) (.agg #[.int .i64 x.s, .int .i64 x.t, .int .i64 x.l, .int .i64 x.b, .int .i64 x.r])).run Try.prog w = .ok (.bool false) w := by
  simp [go_sem]
theorem oneA5 (x : Wpl.Ar) : (arQ x).toArray.all (·.oneCell') = true := all_oneCell_toArray (fun u h => by
  simp [arQ] at h
  rcases h with h | h | h | h | h <;> (subst h; rfl))
end Go.Proofs.Ytpbjmhcpaeillaa
