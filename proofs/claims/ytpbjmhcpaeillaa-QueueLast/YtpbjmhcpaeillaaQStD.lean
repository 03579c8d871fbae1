/- Queues: two queues side by side. -/
import Derived.Test.YtpbjmhcpaeillaaQStC
namespace Go.Proofs.Ytpbjmhcpaeillaa
open Go.RowKit
set_option linter.unusedVariables false

/-- The block of a row that is read. -/
def blkO : Option Addr → List Nat
  | some ⟨b, _, none⟩ => [b]
  | _ => []
theorem blkO_of {k : Nat} {av : Option Addr} (h : k ∈ blkO av) : ∃ off, av = some ⟨k, off, none⟩ := by
  rcases av with _ | ⟨b, o, _ | sp⟩
  · simp [blkO] at h
  · simp [blkO] at h
    exact ⟨o, by rw [h]⟩
  · simp [blkO] at h
/-- A queue whose blocks lie from B on: S its own, U what it reads besides. -/
def Qn (B : Nat) (w : World) (qb : Nat) (l : List Wq.Wr) (A : List Wpl.Ar) (S U : List Nat) : Prop := ∃ (hb mb : Nat) (rv : Value) (l' : List Wq.Wr) (F : List (Wpl.Cl × Int)) (av : Option Addr) (n cap : Nat), S = qb :: hb :: mb :: rv.ownBlock.toList ∧ U = blkO av ∧ QQ w qb hb mb B rv l' F av n cap A ∧ l'.Perm l ∧ B ≤ w.heap.size ∧ B ≤ qb ∧ B ≤ hb ∧ B ≤ mb
theorem Qs.nn {w0 w : World} {qb : Nat} {l : List Wq.Wr} {A : List Wpl.Ar} {S : List Nat} (h : Qs w0 w qb l A S) : ∃ U, Qn w0.heap.size w qb l A S U := by
  obtain ⟨hb, mb, rv, l', F, av, n, cap, e, hq, hp, hB, h1, h2, h3⟩ := h
  exact ⟨_, hb, mb, rv, l', F, av, n, cap, e, rfl, hq, hp, hB.size, h1, h2, h3⟩
theorem Qn.below {B : Nat} {w w' : World} {qb : Nat} {l : List Wq.Wr} {A : List Wpl.Ar} {S U : List Nat} (h : Qn B w qb l A S U) (hb' : Below w.heap.size w w') : Qn B w' qb l A S U := by
  obtain ⟨hb, mb, rv, l', F, av, n, cap, e, eu, hq, hp, hB, h1, h2, h3⟩ := h
  exact ⟨hb, mb, rv, l', F, av, n, cap, e, eu, hq.below hb', hp, Nat.le_trans hB hb'.size, h1, h2, h3⟩
theorem Qn.perm {B : Nat} {w : World} {qb : Nat} {l m : List Wq.Wr} {A : List Wpl.Ar} {S U : List Nat} (h : Qn B w qb l A S U) (hp : l.Perm m) : Qn B w qb m A S U := by
  obtain ⟨hb, mb, rv, l', F, av, n, cap, e, eu, hq, hp', hB, h1, h2, h3⟩ := h
  exact ⟨hb, mb, rv, l', F, av, n, cap, e, eu, hq, hp'.trans hp, hB, h1, h2, h3⟩
theorem Qn.ge {B : Nat} {w : World} {qb : Nat} {l : List Wq.Wr} {A : List Wpl.Ar} {S U : List Nat} (h : Qn B w qb l A S U) : ∀ k ∈ S, B ≤ k := by
  obtain ⟨hb, mb, rv, l', F, av, n, cap, e, eu, hq, hp, hB, h1, h2, h3⟩ := h
  subst e
  intro k hk
  rcases List.mem_cons.1 hk with e | e
  · omega
  · exact own_ge hq h2 h3 k e
theorem Qn.lt {B : Nat} {w : World} {qb : Nat} {l : List Wq.Wr} {A : List Wpl.Ar} {S U : List Nat} (h : Qn B w qb l A S U) : ∀ k ∈ S, k < w.heap.size := by
  obtain ⟨hb, mb, rv, l', F, av, n, cap, e, eu, hq, hp, hB, h1, h2, h3⟩ := h
  subst e
  intro k hk
  simp only [List.mem_cons] at hk
  rcases hk with e | e | e | e
  · rw [e]; exact hq.hd.1
  · rw [e]; exact hq.h.q.hd.1
  · rw [e]; exact hq.h.q.mp.lt
  · rw [Option.mem_toList] at e
    exact (own_blk hq.h.q.own e).2
theorem Qn.nd {B : Nat} {w : World} {qb : Nat} {l : List Wq.Wr} {A : List Wpl.Ar} {S U : List Nat} (h : Qn B w qb l A S U) : (l.map clW).Nodup := by
  obtain ⟨hb, mb, rv, l', F, av, n, cap, e, eu, hq, hp, hB, h1, h2, h3⟩ := h
  exact ((hp.map clW).nodup_iff).1 hq.h.f.nodup
/-- Others are turned: the queue stays. -/
theorem Qn.kept {B : Nat} {w w' : World} {qb : Nat} {l : List Wq.Wr} {A : List Wpl.Ar} {S U S' : List Nat} (h : Qn B w qb l A S U) (fr : Fr S' w w') (hs : ∀ k, (k ∈ S ∨ k ∈ U) → k ∉ S') : Qn B w' qb l A S U := by
  obtain ⟨hb, mb, rv, l', F, av, n, cap, e, eu, hq, hp, hB, h1, h2, h3⟩ := h
  subst e eu
  have sq : qb ∉ S' := hs qb (Or.inl (by simp))
  have sh : hb ∉ S' := hs hb (Or.inl (by simp))
  have sm : mb ∉ S' := hs mb (Or.inl (by simp))
  have sr : ∀ g, rv.ownBlock = some g → g ∉ S' := fun g e => hs g (Or.inl (by simp [e]))
  have sa : ∀ bb off, av = some ⟨bb, off, none⟩ → bb ∉ S' := fun bb off e => hs bb (Or.inr (by rw [e]; simp [blkO]))
  refine ⟨hb, mb, rv, l', F, av, n, cap, rfl, rfl, ⟨hq.hd.fr fr sq, ⟨hq.h.q.fr fr sh sm sr, hq.h.f, hq.h.o⟩, hq.rd.fr fr sa, hq.len, fun bb off e => Nat.lt_of_lt_of_le (hq.al bb off e) fr.size, hq.ab, hq.nq⟩, hp, Nat.le_trans hB fr.size, h1, h2, h3⟩
/-- What a call that turns the queue leaves. -/
def QnP (B : Nat) (w : World) (qb : Nat) (l : List Wq.Wr) (A : List Wpl.Ar) (S : List Nat) (r : Value) (en : Ending) (w' : World) : Prop := en = .returned r ∧ ∃ S' U', Qn B w' qb l A S' U' ∧ Fr S w w' ∧ (∀ k ∈ S', k ∈ S ∨ w.heap.size ≤ k)
theorem nn_put {B : Nat} {w : World} {qb : Nat} {l : List Wq.Wr} {A : List Wpl.Ar} {S U : List Nat} (h : Qn B w qb l A S U) (x : Wpl.Cl) (lv : Int) (hN : True → l.length + 1 ≤ 1000000000) (hA : True → A.length ≤ 1000000000) :
    Calls Try.prog 11 #[.pointer (some ⟨qb, 0, none⟩), .agg #[.int .i64 x.s, .int .i64 x.r, .int .i64 x.c], .int .i64 lv] w (QnP B w qb (⟨x.s, x.r, x.c, lnQ A x, lv⟩ :: offW x l) A S (.tuple #[])) := by
  obtain ⟨hb, mb, rv, l', F, av, n, cap, e, eu, hq, hp, hB, h1, h2, h3⟩ := h
  subst e
  refine (qput_any qb hb mb _ rv l' F av n cap A x lv w hq (fun _ => by rw [hp.length_eq]; exact hN trivial) (fun _ => by rw [← hq.len]; exact hA trivial) hB).mono ?_
  rintro en w' ⟨rv', l2, F', he, hq', hp', fr, hz⟩
  exact ⟨he, _, _, ⟨hb, mb, rv', l2, F', av, n, cap, rfl, rfl, hq', hp'.trans ((offW_perm hp).cons _), Nat.le_trans hB fr.size, h1, h2, h3⟩, fr.mono (fun k hk => List.mem_cons_of_mem _ hk), own_new hz⟩
/-- What See leaves: what is read besides is new. -/
def QnS (B : Nat) (w : World) (qb : Nat) (l : List Wq.Wr) (A : List Wpl.Ar) (S : List Nat) (en : Ending) (w' : World) : Prop := en = .returned (.tuple #[]) ∧ ∃ U', Qn B w' qb l A S U' ∧ Fr S w w' ∧ ∀ k ∈ U', w.heap.size ≤ k ∧ k < w'.heap.size
theorem nn_see {B : Nat} {w : World} {qb : Nat} {l : List Wq.Wr} {A : List Wpl.Ar} {S U : List Nat} (h : Qn B w qb l A S U) (bv : Option Addr) (bn bc : Nat) (C : List Wpl.Ar) (hN : True → l.length ≤ 1000000000) (hr : RdQ w bv C) (hc : C.length = bn) (hz : bv = none → bn = 0) (hsp : ∀ p, bv = some p → p.spot = none) (hM : True → bn ≤ 1000000000) :
    Calls Try.prog 15 #[.pointer (some ⟨qb, 0, none⟩), .slice bv bn bc] w (QnS B w qb (l.map (reW C)) C S) := by
  obtain ⟨hb, mb, rv, l', F, av, n, cap, e, eu, hq, hp, hB, h1, h2, h3⟩ := h
  subst e
  refine (qsee_any qb hb mb _ rv l' F av n cap A bv bn bc C w hq (fun _ => by rw [hp.length_eq]; exact hN trivial) hr hc hz hsp hM).mono ?_
  rintro en w' ⟨l2, F', av', cap', he, hq', hp', fr, hv⟩
  refine ⟨he, _, ⟨hb, mb, rv, l2, F', av', bn, cap', rfl, rfl, hq', hp'.trans (hp.map _), Nat.le_trans hB fr.size, h1, h2, h3⟩, fr, fun k hk => ?_⟩
  obtain ⟨off, e⟩ := blkO_of hk
  exact ⟨hv k off e, hq'.al k off e⟩
theorem nn_level {B : Nat} {w : World} {qb : Nat} {l : List Wq.Wr} {A : List Wpl.Ar} {S U : List Nat} (h : Qn B w qb l A S U) (x : Wpl.Cl) :
    Calls Try.prog 22 #[.pointer (some ⟨qb, 0, none⟩), .agg #[.int .i64 x.s, .int .i64 x.r, .int .i64 x.c]] w fun en w' => en = .returned (.tuple #[.int .i64 (atW x l).lv, .bool (hasW x l)]) ∧ Below w.heap.size w w' := by
  have hnd := h.nd
  obtain ⟨hb, mb, rv, l', F, av, n, cap, e, eu, hq, hp, hB, h1, h2, h3⟩ := h
  refine (qlevel_any qb hb mb _ rv l' F av n cap A x w hq).mono ?_
  rintro en w' ⟨⟨a, q, he, ht, hf⟩, hb'⟩
  refine ⟨?_, hb'⟩
  rw [he]
  cases q with
  | true =>
    obtain ⟨ha, e⟩ := ht rfl
    have hm := hp.mem_iff.1 ha
    rw [atW_of hnd hm e, hasW_iff.2 ⟨a, hm, e⟩]
  | false =>
    obtain ⟨e, hno⟩ := hf rfl
    have hno' : ∀ b ∈ l, clW b ≠ x := fun b hb2 => hno b (hp.mem_iff.2 hb2)
    have hh : hasW x l = false := by
      cases c : hasW x l with
      | false => rfl
      | true =>
        obtain ⟨b, hb2, e2⟩ := hasW_iff.1 c
        exact absurd e2 (hno' b hb2)
    rw [atW_no hno', hh, e]
theorem nn_cells {B : Nat} {w : World} {qb : Nat} {l : List Wq.Wr} {A : List Wpl.Ar} {S U : List Nat} (h : Qn B w qb l A S U) (hN : True → l.length ≤ 1000000000) :
    Calls Try.prog 19 #[.pointer (some ⟨qb, 0, none⟩)] w (CelP ((Wq.srt l).map clW) w) := by
  obtain ⟨hb, mb, rv, l', F, av, n, cap, e, eu, hq, hp, hB, h1, h2, h3⟩ := h
  rw [← Wq.srt_one hp]
  exact qcells_any qb hb mb _ rv l' F av n cap A l'.length w hq rfl (fun _ => by rw [hp.length_eq]; exact hN trivial)
end Go.Proofs.Ytpbjmhcpaeillaa
