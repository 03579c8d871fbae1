/- Queues: which blocks are a queue's own. -/
import Derived.Test.YtpbjmhcpaeillaaQActs
namespace Go.Proofs.Ytpbjmhcpaeillaa
open Go.RowKit
set_option linter.unusedVariables false

/-- A queue that was made at w0, and its own blocks S. -/
def Qs (w0 w : World) (qb : Nat) (l : List Wq.Wr) (A : List Wpl.Ar) (S : List Nat) : Prop := ∃ (hb mb : Nat) (rv : Value) (l' : List Wq.Wr) (F : List (Wpl.Cl × Int)) (av : Option Addr) (n cap : Nat), S = qb :: hb :: mb :: rv.ownBlock.toList ∧ QQ w qb hb mb w0.heap.size rv l' F av n cap A ∧ l'.Perm l ∧ Below w0.heap.size w0 w ∧ w0.heap.size ≤ qb ∧ w0.heap.size ≤ hb ∧ w0.heap.size ≤ mb
theorem Qst.opn {w0 w : World} {qb : Nat} {l : List Wq.Wr} {A : List Wpl.Ar} (h : Qst w0 w qb l A) : ∃ S, Qs w0 w qb l A S := by
  obtain ⟨hb, mb, rv, l', F, av, n, cap, hq, hp, hB, h1, h2, h3⟩ := h
  exact ⟨_, hb, mb, rv, l', F, av, n, cap, rfl, hq, hp, hB, h1, h2, h3⟩
theorem Qs.st {w0 w : World} {qb : Nat} {l : List Wq.Wr} {A : List Wpl.Ar} {S : List Nat} (h : Qs w0 w qb l A S) : Qst w0 w qb l A := by
  obtain ⟨hb, mb, rv, l', F, av, n, cap, _, hq, hp, hB, h1, h2, h3⟩ := h
  exact ⟨hb, mb, rv, l', F, av, n, cap, hq, hp, hB, h1, h2, h3⟩
theorem Qs.below {w0 w w' : World} {qb : Nat} {l : List Wq.Wr} {A : List Wpl.Ar} {S : List Nat} (h : Qs w0 w qb l A S) (hb' : Below w.heap.size w w') : Qs w0 w' qb l A S := by
  obtain ⟨hb, mb, rv, l', F, av, n, cap, e, hq, hp, hB, h1, h2, h3⟩ := h
  exact ⟨hb, mb, rv, l', F, av, n, cap, e, hq.below hb', hp, below_end hB hb', h1, h2, h3⟩
theorem Qs.perm {w0 w : World} {qb : Nat} {l m : List Wq.Wr} {A : List Wpl.Ar} {S : List Nat} (h : Qs w0 w qb l A S) (hp : l.Perm m) : Qs w0 w qb m A S := by
  obtain ⟨hb, mb, rv, l', F, av, n, cap, e, hq, hp', hB, h1, h2, h3⟩ := h
  exact ⟨hb, mb, rv, l', F, av, n, cap, e, hq, hp'.trans hp, hB, h1, h2, h3⟩
theorem Qs.lt {w0 w : World} {qb : Nat} {l : List Wq.Wr} {A : List Wpl.Ar} {S : List Nat} (h : Qs w0 w qb l A S) : ∀ k ∈ S, k < w.heap.size := by
  obtain ⟨hb, mb, rv, l', F, av, n, cap, e, hq, hp, hB, h1, h2, h3⟩ := h
  subst e
  intro k hk
  simp only [List.mem_cons] at hk
  rcases hk with e | e | e | e
  · rw [e]; exact hq.hd.1
  · rw [e]; exact hq.h.q.hd.1
  · rw [e]; exact hq.h.q.mp.lt
  · rw [Option.mem_toList] at e
    exact (own_blk hq.h.q.own e).2
/-- A block that is not among those, and stands already. -/
def As (S : List Nat) (w : World) (b : Nat) : Prop := b < w.heap.size ∧ b ∉ S
/-- What a call that turns the queue leaves. -/
def QsP (w0 w : World) (qb : Nat) (l : List Wq.Wr) (A : List Wpl.Ar) (S : List Nat) (r : Value) (en : Ending) (w' : World) : Prop := en = .returned r ∧ ∃ S', Qs w0 w' qb l A S' ∧ Fr S w w' ∧ ∀ k ∈ S', k ∈ S ∨ w.heap.size ≤ k
theorem As.next {S S' : List Nat} {w w' : World} {b : Nat} (h : As S w b) (fr : Fr S w w') (hs : ∀ k ∈ S', k ∈ S ∨ w.heap.size ≤ k) : As S' w' b := ⟨Nat.lt_of_lt_of_le h.1 fr.size, fun hm => by
  rcases hs b hm with q | q
  · exact h.2 q
  · have := h.1
    omega⟩
theorem As.below {S : List Nat} {w w' : World} {b : Nat} (h : As S w b) (hb : Below w.heap.size w w') : As S w' b := ⟨Nat.lt_of_lt_of_le h.1 hb.size, h.2⟩
theorem own_new {rv rv' : Value} {qb hb mb : Nat} {w : World} (h : rv'.ownBlock = rv.ownBlock ∨ ∀ g, rv'.ownBlock = some g → w.heap.size ≤ g) : ∀ k ∈ qb :: hb :: mb :: rv'.ownBlock.toList, k ∈ qb :: hb :: mb :: rv.ownBlock.toList ∨ w.heap.size ≤ k := by
  intro k hk
  rcases h with q | q
  · rw [q] at hk
    exact Or.inl hk
  · simp only [List.mem_cons] at hk
    rcases hk with e | e | e | e
    · exact Or.inl (by simp [e])
    · exact Or.inl (by simp [e])
    · exact Or.inl (by simp [e])
    · rw [Option.mem_toList] at e
      exact Or.inr (q k e)
theorem sx_put {w0 w : World} {qb : Nat} {l : List Wq.Wr} {A : List Wpl.Ar} {S : List Nat} (h : Qs w0 w qb l A S) (x : Wpl.Cl) (lv : Int) (hN : True → l.length + 1 ≤ 1000000000) (hA : True → A.length ≤ 1000000000) :
    Calls Try.prog 11 #[.pointer (some ⟨qb, 0, none⟩), .agg #[.int .i64 x.s, .int .i64 x.r, .int .i64 x.c], .int .i64 lv] w (QsP w0 w qb (⟨x.s, x.r, x.c, lnQ A x, lv⟩ :: offW x l) A S (.tuple #[])) := by
  obtain ⟨hb, mb, rv, l', F, av, n, cap, e, hq, hp, hB, h1, h2, h3⟩ := h
  subst e
  refine (qput_any qb hb mb _ rv l' F av n cap A x lv w hq (fun _ => by rw [hp.length_eq]; exact hN trivial) (fun _ => by rw [← hq.len]; exact hA trivial) hB.size).mono ?_
  rintro en w' ⟨rv', l2, F', he, hq', hp', fr, hz⟩
  exact ⟨he, _, ⟨hb, mb, rv', l2, F', av, n, cap, rfl, hq', hp'.trans ((offW_perm hp).cons _), Below.of_fr hB fr (own_ge hq h2 h3) hB.size, h1, h2, h3⟩, fr.mono (fun k hk => List.mem_cons_of_mem _ hk), own_new hz⟩
theorem sx_drop {w0 w : World} {qb : Nat} {l : List Wq.Wr} {A : List Wpl.Ar} {S : List Nat} (h : Qs w0 w qb l A S) (x : Wpl.Cl) (hN : True → l.length ≤ 1000000000) :
    Calls Try.prog 13 #[.pointer (some ⟨qb, 0, none⟩), .agg #[.int .i64 x.s, .int .i64 x.r, .int .i64 x.c]] w (QsP w0 w qb (offW x l) A S (.bool (hasW x l))) := by
  obtain ⟨hb, mb, rv, l', F, av, n, cap, e, hq, hp, hB, h1, h2, h3⟩ := h
  subst e
  refine (qdrop_any qb hb mb _ rv l' F av n cap A x w hq (fun _ => by rw [hp.length_eq]; exact hN trivial)).mono ?_
  rintro en w' ⟨q, rv', l2, F', he, ht, hf, hq', hp', fr, hz⟩
  have eq : q = hasW x l := by
    cases q with
    | true =>
      obtain ⟨a, ha, e⟩ := ht rfl
      exact (hasW_iff.2 ⟨a, hp.mem_iff.1 ha, e⟩).symm
    | false =>
      cases c : hasW x l with
      | false => rfl
      | true =>
        obtain ⟨a, ha, e⟩ := hasW_iff.1 c
        exact absurd e (hf rfl a (hp.mem_iff.2 ha))
  subst eq
  exact ⟨he, _, ⟨hb, mb, rv', l2, F', av, n, cap, rfl, hq', hp'.trans (offW_perm hp), Below.of_fr hB fr (own_ge hq h2 h3) hB.size, h1, h2, h3⟩, fr.mono (fun k hk => List.mem_cons_of_mem _ hk), own_new hz⟩
theorem sx_see {w0 w : World} {qb : Nat} {l : List Wq.Wr} {A : List Wpl.Ar} {S : List Nat} (h : Qs w0 w qb l A S) (bv : Option Addr) (bn bc : Nat) (C : List Wpl.Ar) (hN : True → l.length ≤ 1000000000) (hr : RdQ w bv C) (hc : C.length = bn) (hz : bv = none → bn = 0) (hsp : ∀ p, bv = some p → p.spot = none) (hM : True → bn ≤ 1000000000) :
    Calls Try.prog 15 #[.pointer (some ⟨qb, 0, none⟩), .slice bv bn bc] w (QsP w0 w qb (l.map (reW C)) C S (.tuple #[])) := by
  obtain ⟨hb, mb, rv, l', F, av, n, cap, e, hq, hp, hB, h1, h2, h3⟩ := h
  subst e
  refine (qsee_any qb hb mb _ rv l' F av n cap A bv bn bc C w hq (fun _ => by rw [hp.length_eq]; exact hN trivial) hr hc hz hsp hM).mono ?_
  rintro en w' ⟨l2, F', av', cap', he, hq', hp', fr, _⟩
  exact ⟨he, _, ⟨hb, mb, rv, l2, F', av', bn, cap', rfl, hq', hp'.trans (hp.map _), Below.of_fr hB fr (fun k hk => by
    rcases List.mem_cons.1 hk with e | e
    · omega
    · exact own_ge hq h2 h3 k e) hB.size, h1, h2, h3⟩, fr, fun k hk => Or.inl hk⟩
theorem RdX.as {w w' : World} {S : List Nat} {av : Option Addr} {C : List Wpl.Cl} (h : RdX w av C) (fr : Fr S w w') (ha : ∀ bb off, av = some ⟨bb, off, none⟩ → As S w bb) : RdX w' av C := h.fr fr (fun bb off e => (ha bb off e).2)
/-- What stands behind the first ones of a row in order is in order. -/
theorem srt_drop {l : List Wq.Wr} (h : l.Pairwise (fun a b => Wq.ltW b a = false)) (i : Nat) : Wq.srt (l.drop i) = l.drop i := Wq.srt_of (List.Perm.refl _) (h.sublist (List.drop_sublist i l))
theorem drop_at {l : List Wq.Wr} {i : Nat} {a : Wq.Wr} (h : l[i]? = some a) : l.drop i = a :: l.drop (i + 1) := by
  obtain ⟨hlt, e⟩ := List.getElem?_eq_some_iff.1 h
  rw [List.drop_eq_getElem_cons hlt, e]
theorem drop_nd {l : List Wq.Wr} (hn : (l.map clW).Nodup) {i : Nat} {a : Wq.Wr} (h : l[i]? = some a) : ∀ b ∈ l.drop (i + 1), clW b ≠ clW a := by
  have h1 : ((l.drop i).map clW).Nodup := by rw [List.map_drop]; exact hn.sublist (List.drop_sublist _ _)
  rw [drop_at h, List.map_cons, List.nodup_cons] at h1
  exact fun b hb e => h1.1 (List.mem_map.2 ⟨b, hb, e⟩)
theorem drop_off {l : List Wq.Wr} (hn : (l.map clW).Nodup) {i : Nat} {a : Wq.Wr} (h : l[i]? = some a) : offW (clW a) (l.drop i) = l.drop (i + 1) ∧ hasW (clW a) (l.drop i) = true ∧ hasW (clW a) (l.drop (i + 1)) = false ∧ offW (clW a) (l.drop (i + 1)) = l.drop (i + 1) := by
  have h2 := drop_nd hn h
  have h3 := offW_none h2
  refine ⟨?_, ?_, ?_, h3⟩
  · rw [drop_at h]
    unfold offW at *
    rw [List.filter_cons, eqCl_iff.2 rfl]
    exact h3
  · rw [drop_at h]
    exact hasW_iff.2 ⟨a, List.mem_cons_self .., rfl⟩
  · cases c : hasW (clW a) (l.drop (i + 1)) with
    | false => rfl
    | true =>
      obtain ⟨b, hb, e⟩ := hasW_iff.1 c
      exact absurd e (h2 b hb)
end Go.Proofs.Ytpbjmhcpaeillaa
