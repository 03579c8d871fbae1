/- Queues: a queue as it stands between two calls, told by a row whose order says nothing. -/
import Derived.Test.YtpbjmhcpaeillaaQLev
namespace Go.Proofs.Ytpbjmhcpaeillaa
open Go.RowKit
set_option linter.unusedVariables false

theorem WF.nodup {l : List Wq.Wr} {F : List (Wpl.Cl × Int)} (h : WF l F) : (l.map clW).Nodup := by
  rw [List.Nodup, List.pairwise_iff_getElem]
  intro i j hi hj hij e
  simp only [List.getElem_map] at e
  have hi' : i < l.length := by simpa using hi
  have hj' : j < l.length := by simpa using hj
  have := h.one (List.getElem?_eq_getElem hi') (List.getElem?_eq_getElem hj') e
  omega
theorem Below.of_fr {K : Nat} {S : List Nat} {w0 w w' : World} (h : Below K w0 w) (hf : Fr S w w') (hs : ∀ k ∈ S, K ≤ k) (hK : K ≤ w.heap.size) : Below K w0 w' :=
  ⟨hf.os.trans h.os, hf.tape.trans h.tape, hf.output.trans h.output, Nat.le_trans h.size hf.size, fun k hk => (hf.block k (Nat.lt_of_lt_of_le hk hK) (fun e => absurd hk (Nat.not_lt.2 (hs k e)))).trans (h.block k hk)⟩
/-- A queue that was made at w0: its block, what waits, what is seen. -/
def Qst (w0 w : World) (qb : Nat) (l : List Wq.Wr) (A : List Wpl.Ar) : Prop := ∃ (hb mb : Nat) (rv : Value) (l' : List Wq.Wr) (F : List (Wpl.Cl × Int)) (av : Option Addr) (n cap : Nat), QQ w qb hb mb w0.heap.size rv l' F av n cap A ∧ l'.Perm l ∧ Below w0.heap.size w0 w ∧ w0.heap.size ≤ qb ∧ w0.heap.size ≤ hb ∧ w0.heap.size ≤ mb
theorem Qst.bl {w0 w : World} {qb : Nat} {l : List Wq.Wr} {A : List Wpl.Ar} (h : Qst w0 w qb l A) : Below w0.heap.size w0 w := by
  obtain ⟨hb, mb, rv, l', F, av, n, cap, hq, hp, hB, h1, h2, h3⟩ := h
  exact hB
theorem Qst.nd {w0 w : World} {qb : Nat} {l : List Wq.Wr} {A : List Wpl.Ar} (h : Qst w0 w qb l A) : (l.map clW).Nodup := by
  obtain ⟨hb, mb, rv, l', F, av, n, cap, hq, hp, hB, h1, h2, h3⟩ := h
  exact ((hp.map clW).nodup_iff).1 hq.h.f.nodup
theorem Qst.below {w0 w w' : World} {qb : Nat} {l : List Wq.Wr} {A : List Wpl.Ar} (h : Qst w0 w qb l A) (hb' : Below w.heap.size w w') : Qst w0 w' qb l A := by
  obtain ⟨hb, mb, rv, l', F, av, n, cap, hq, hp, hB, h1, h2, h3⟩ := h
  exact ⟨hb, mb, rv, l', F, av, n, cap, hq.below hb', hp, below_end hB hb', h1, h2, h3⟩
theorem Qst.perm {w0 w : World} {qb : Nat} {l m : List Wq.Wr} {A : List Wpl.Ar} (h : Qst w0 w qb l A) (hp : l.Perm m) : Qst w0 w qb m A := by
  obtain ⟨hb, mb, rv, l', F, av, n, cap, hq, hp', hB, h1, h2, h3⟩ := h
  exact ⟨hb, mb, rv, l', F, av, n, cap, hq, hp'.trans hp, hB, h1, h2, h3⟩
/-- What a call that turns the queue and answers en leaves. -/
def QstP (w0 : World) (qb : Nat) (l : List Wq.Wr) (A : List Wpl.Ar) (r : Value) (en : Ending) (w' : World) : Prop := en = .returned r ∧ Qst w0 w' qb l A
theorem st_new (w : World) : Calls Try.prog 10 #[] w fun en w' => en = .returned (.pointer (some ⟨w.heap.size + 2, 0, none⟩)) ∧ Qst w w' (w.heap.size + 2) [] [] := by
  refine (new_any w).mono ?_
  rintro en w' ⟨he, hq, hb, hs⟩
  exact ⟨he, _, _, _, _, _, _, _, _, hq, List.Perm.refl _, hb, by omega, by omega, by omega⟩
theorem own_ge {w : World} {qb hb mb B : Nat} {rv : Value} {l : List Wq.Wr} {F : List (Wpl.Cl × Int)} {av : Option Addr} {n cap : Nat} {A : List Wpl.Ar} (h : QQ w qb hb mb B rv l F av n cap A) (hh : B ≤ hb) (hm : B ≤ mb) : ∀ k ∈ hb :: mb :: rv.ownBlock.toList, B ≤ k := by
  intro k hk
  simp only [List.mem_cons] at hk
  rcases hk with e | e | e
  · omega
  · omega
  · cases c : rv.ownBlock with
    | none => rw [c] at e; simp at e
    | some y =>
      rw [c] at e
      simp at e
      have := (own_blk h.h.q.own c).1
      omega
theorem offW_perm {x : Wpl.Cl} {l m : List Wq.Wr} (h : l.Perm m) : (offW x l).Perm (offW x m) := h.filter _
theorem st_put {w0 w : World} {qb : Nat} {l : List Wq.Wr} {A : List Wpl.Ar} (h : Qst w0 w qb l A) (x : Wpl.Cl) (lv : Int) (hN : True → l.length + 1 ≤ 1000000000) (hA : True → A.length ≤ 1000000000) :
    Calls Try.prog 11 #[.pointer (some ⟨qb, 0, none⟩), .agg #[.int .i64 x.s, .int .i64 x.r, .int .i64 x.c], .int .i64 lv] w (QstP w0 qb (⟨x.s, x.r, x.c, lnQ A x, lv⟩ :: offW x l) A (.tuple #[])) := by
  obtain ⟨hb, mb, rv, l', F, av, n, cap, hq, hp, hB, h1, h2, h3⟩ := h
  refine (qput_any qb hb mb _ rv l' F av n cap A x lv w hq (fun _ => by rw [hp.length_eq]; exact hN trivial) (fun _ => by rw [← hq.len]; exact hA trivial) hB.size).mono ?_
  rintro en w' ⟨rv', l2, F', he, hq', hp', fr, _⟩
  exact ⟨he, hb, mb, rv', l2, F', av, n, cap, hq', hp'.trans ((offW_perm hp).cons _), Below.of_fr hB fr (own_ge hq h2 h3) hB.size, h1, h2, h3⟩
/-- Does a cell wait? -/
def hasW (x : Wpl.Cl) (l : List Wq.Wr) : Bool := l.any (fun a => eqCl (clW a) x)
theorem hasW_iff {x : Wpl.Cl} {l : List Wq.Wr} : hasW x l = true ↔ ∃ a ∈ l, clW a = x := by
  unfold hasW
  rw [List.any_eq_true]
  constructor
  · rintro ⟨a, ha, e⟩
    exact ⟨a, ha, eqCl_iff.1 e⟩
  · rintro ⟨a, ha, e⟩
    exact ⟨a, ha, eqCl_iff.2 e⟩
theorem st_drop {w0 w : World} {qb : Nat} {l : List Wq.Wr} {A : List Wpl.Ar} (h : Qst w0 w qb l A) (x : Wpl.Cl) (hN : True → l.length ≤ 1000000000) :
    Calls Try.prog 13 #[.pointer (some ⟨qb, 0, none⟩), .agg #[.int .i64 x.s, .int .i64 x.r, .int .i64 x.c]] w (QstP w0 qb (offW x l) A (.bool (hasW x l))) := by
  obtain ⟨hb, mb, rv, l', F, av, n, cap, hq, hp, hB, h1, h2, h3⟩ := h
  refine (qdrop_any qb hb mb _ rv l' F av n cap A x w hq (fun _ => by rw [hp.length_eq]; exact hN trivial)).mono ?_
  rintro en w' ⟨q, rv', l2, F', he, ht, hf, hq', hp', fr, _⟩
  have eq : q = hasW x l := by
    cases q with
    | true =>
      obtain ⟨a, ha, e⟩ := ht rfl
      exact (hasW_iff.2 ⟨a, hp.mem_iff.1 ha, e⟩).symm
    | false =>
      cases c : hasW x l with
      | false => rfl
      | true =>
        obtain ⟨a, ha, e⟩ := hasW_iff.1 c
        exact absurd e (hf rfl a (hp.mem_iff.2 ha))
  subst eq
  exact ⟨he, hb, mb, rv', l2, F', av, n, cap, hq', hp'.trans (offW_perm hp), Below.of_fr hB fr (own_ge hq h2 h3) hB.size, h1, h2, h3⟩
theorem st_see {w0 w : World} {qb : Nat} {l : List Wq.Wr} {A : List Wpl.Ar} (h : Qst w0 w qb l A) (bv : Option Addr) (bn bc : Nat) (C : List Wpl.Ar) (hN : True → l.length ≤ 1000000000) (hr : RdQ w bv C) (hc : C.length = bn) (hz : bv = none → bn = 0) (hsp : ∀ p, bv = some p → p.spot = none) (hM : True → bn ≤ 1000000000) :
    Calls Try.prog 15 #[.pointer (some ⟨qb, 0, none⟩), .slice bv bn bc] w (QstP w0 qb (l.map (reW C)) C (.tuple #[])) := by
  obtain ⟨hb, mb, rv, l', F, av, n, cap, hq, hp, hB, h1, h2, h3⟩ := h
  refine (qsee_any qb hb mb _ rv l' F av n cap A bv bn bc C w hq (fun _ => by rw [hp.length_eq]; exact hN trivial) hr hc hz hsp hM).mono ?_
  rintro en w' ⟨l2, F', av', cap', he, hq', hp', fr, _⟩
  exact ⟨he, hb, mb, rv, l2, F', av', bn, cap', hq', hp'.trans (hp.map _), Below.of_fr hB fr (fun k hk => by
    rcases List.mem_cons.1 hk with e | e
    · omega
    · exact own_ge hq h2 h3 k e) hB.size, h1, h2, h3⟩
theorem st_len {w0 w : World} {qb : Nat} {l : List Wq.Wr} {A : List Wpl.Ar} (h : Qst w0 w qb l A) :
    Calls Try.prog 21 #[.pointer (some ⟨qb, 0, none⟩)] w fun en w' => en = .returned (.int .i64 (l.length : Int)) ∧ Below w.heap.size w w' := by
  obtain ⟨hb, mb, rv, l', F, av, n, cap, hq, hp, hB, h1, h2, h3⟩ := h
  rw [← hp.length_eq]
  exact len_any qb hb mb _ rv l' F av n cap A w hq
/-- The entry of a cell; none, if it does not wait. -/
def atW (x : Wpl.Cl) (l : List Wq.Wr) : Wq.Wr := (l.find? (fun a => eqCl (clW a) x)).getD zeW
theorem atW_of {x : Wpl.Cl} {l : List Wq.Wr} (hn : (l.map clW).Nodup) {a : Wq.Wr} (ha : a ∈ l) (e : clW a = x) : atW x l = a := by
  unfold atW
  induction l with
  | nil => cases ha
  | cons b r ih =>
    rw [List.map_cons, List.nodup_cons] at hn
    rcases List.mem_cons.1 ha with rfl | hm
    · rw [List.find?_cons, eqCl_iff.2 e]
      rfl
    · have hbx : eqCl (clW b) x = false := by
        cases c : eqCl (clW b) x with
        | false => rfl
        | true =>
          have := eqCl_iff.1 c
          exact absurd (List.mem_map.2 ⟨a, hm, by rw [e, this]⟩) hn.1
      rw [List.find?_cons, hbx]
      exact ih hn.2 hm
theorem atW_no {x : Wpl.Cl} {l : List Wq.Wr} (h : ∀ b ∈ l, clW b ≠ x) : atW x l = zeW := by
  unfold atW
  rw [List.find?_eq_none.2 (fun b hb c => h b hb (eqCl_iff.1 c))]
  rfl
theorem st_level {w0 w : World} {qb : Nat} {l : List Wq.Wr} {A : List Wpl.Ar} (h : Qst w0 w qb l A) (x : Wpl.Cl) :
    Calls Try.prog 22 #[.pointer (some ⟨qb, 0, none⟩), .agg #[.int .i64 x.s, .int .i64 x.r, .int .i64 x.c]] w fun en w' => en = .returned (.tuple #[.int .i64 (atW x l).lv, .bool (hasW x l)]) ∧ Below w.heap.size w w' := by
  have hnd := h.nd
  obtain ⟨hb, mb, rv, l', F, av, n, cap, hq, hp, hB, h1, h2, h3⟩ := h
  refine (qlevel_any qb hb mb _ rv l' F av n cap A x w hq).mono ?_
  rintro en w' ⟨⟨a, q, he, ht, hf⟩, hb'⟩
  refine ⟨?_, hb'⟩
  rw [he]
  cases q with
  | true =>
    obtain ⟨ha, e⟩ := ht rfl
    have hm := hp.mem_iff.1 ha
    rw [atW_of hnd hm e, hasW_iff.2 ⟨a, hm, e⟩]
  | false =>
    obtain ⟨e, hno⟩ := hf rfl
    have hno' : ∀ b ∈ l, clW b ≠ x := fun b hb2 => hno b (hp.mem_iff.2 hb2)
    have hh : hasW x l = false := by
      cases c : hasW x l with
      | false => rfl
      | true =>
        obtain ⟨b, hb2, e2⟩ := hasW_iff.1 c
        exact absurd e2 (hno' b hb2)
    rw [atW_no hno', hh, e]
end Go.Proofs.Ytpbjmhcpaeillaa
