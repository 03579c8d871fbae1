/- Queues: First and Cells, by the row in order; what every statement asks first. -/
import Derived.Test.YtpbjmhcpaeillaaQCel
import Derived.Test.YtpbjmhcpaeillaaQState
namespace Go.Proofs.Ytpbjmhcpaeillaa
open Go.RowKit
set_option linter.unusedVariables false

theorem neQ_len (l : List Wq.Wr) : neQ l = decide (0 < l.length) := by
  cases l with
  | nil => rfl
  | cons a r => simp [neQ]
theorem heap_first {l : List Wq.Wr} (h : Wq.Heap Wq.ltW l.length 0 (fnW l)) : hdW l = hdW (Wq.srt l) := by
  have hp := Wq.srt_perm l
  have hpw := Wq.srt_pw l
  cases l with
  | nil =>
    have : Wq.srt [] = [] := List.eq_nil_of_length_eq_zero (by rw [Wq.srt_len]; rfl)
    rw [this]
  | cons a r =>
    cases e : Wq.srt (a :: r) with
    | nil =>
      have := Wq.srt_len (a :: r)
      rw [e] at this
      simp at this
    | cons b s =>
      rw [e] at hp hpw
      show a = b
      have h1 : Wq.ltW b a = false := by
        have hb : b ∈ a :: r := hp.mem_iff.1 (List.mem_cons_self ..)
        obtain ⟨j, hj, ej⟩ := List.getElem_of_mem hb
        have := h.first Wq.ord_W j hj
        rw [fnW_at (List.getElem?_eq_getElem hj), ej] at this
        rwa [show fnW (a :: r) 0 = a from rfl] at this
      have ha : a ∈ b :: s := hp.mem_iff.2 (List.mem_cons_self ..)
      rcases List.mem_cons.1 ha with q | q
      · exact q
      · exact Wq.ltW_eq ((List.pairwise_cons.1 hpw).1 a q) h1
theorem st_first {w0 w : World} {qb : Nat} {l : List Wq.Wr} {A : List Wpl.Ar} (h : Qst w0 w qb l A) :
    Calls Try.prog 20 #[.pointer (some ⟨qb, 0, none⟩)] w fun en w' => en = .returned (.tuple #[.agg #[.int .i64 (hdW (Wq.srt l)).s, .int .i64 (hdW (Wq.srt l)).r, .int .i64 (hdW (Wq.srt l)).c], .bool (neQ (Wq.srt l))]) ∧ Below w.heap.size w w' := by
  obtain ⟨hb, mb, rv, l', F, av, n, cap, hq, hp, hB, h1, h2, h3⟩ := h
  have e1 : hdW (Wq.srt l) = hdW l' := by rw [heap_first hq.h.o, Wq.srt_one hp]
  have e2 : neQ (Wq.srt l) = neQ l' := by rw [neQ_len, neQ_len, Wq.srt_len, hp.length_eq]
  rw [e1, e2]
  exact qfirst_any qb hb mb _ rv l' F av n cap A w hq
theorem st_cells {w0 w : World} {qb : Nat} {l : List Wq.Wr} {A : List Wpl.Ar} (h : Qst w0 w qb l A) (hN : True → l.length ≤ 1000000000) :
    Calls Try.prog 19 #[.pointer (some ⟨qb, 0, none⟩)] w (CelP ((Wq.srt l).map clW) w) := by
  obtain ⟨hb, mb, rv, l', F, av, n, cap, hq, hp, hB, h1, h2, h3⟩ := h
  rw [← Wq.srt_one hp]
  exact qcells_any qb hb mb _ rv l' F av n cap A l'.length w hq rfl (fun _ => by rw [hp.length_eq]; exact hN trivial)
theorem RdX.of_own {w : World} {B n : Nat} {v : Value} {C : List Wpl.Cl} (h : w.ownsRow B 33 3 v n (flatX C)) (hn : C.length = n) : ∃ av cap, v = .slice av n cap ∧ RdX w av C ∧ (∀ bb off, av = some ⟨bb, off, none⟩ → v.ownBlock = some bb) := by
  rcases h.2 with ⟨e, h0⟩ | ⟨g, cap, cur, e, _⟩
  · subst e
    refine ⟨none, 0, by rw [h0], fun i a ha => ?_, fun bb off e => by cases e⟩
    have := (List.getElem?_eq_some_iff.1 ha).1
    omega
  · subst e
    refine ⟨some ⟨g, 0, none⟩, cap, rfl, fun i a ha => ?_, fun bb off e => by
      simp only [Option.some.injEq, Addr.mk.injEq] at e
      rw [← e.1]
      rfl⟩
    obtain ⟨hlt, ea⟩ := List.getElem?_eq_some_iff.1 ha
    refine ⟨g, 0, rfl, fun c u hu => ?_⟩
    have hc3 : c < 3 := by
      have := (List.getElem?_eq_some_iff.1 hu).1
      simpa [clQ] using this
    have q := flatX_gt C i hlt c hc3
    rw [ea, hu] at q
    have hc := h.cells (g := g) rfl (i * 3 + c) u q
    rwa [show (⟨g, 0, none⟩ : Addr).add (i * 3 + c) = ⟨g, 0 + i * 3 + c, none⟩ from by simp [Addr.add]; intro h; omega] at hc
theorem ab_srt : Wq.srt [⟨0, 2, 0, 1, 1⟩, ⟨0, 1, 0, 1, 2⟩] = [⟨0, 2, 0, 1, 1⟩, ⟨0, 1, 0, 1, 2⟩] := Wq.srt_of (List.Perm.refl _) (by
  rw [List.pairwise_cons]
  refine ⟨fun a ha => ?_, by simp⟩
  simp only [List.mem_cons, List.not_mem_nil, or_false] at ha
  subst ha
  rfl)
theorem neqQ (p : Addr) (w : World) : (binOp .eql 25 (.pointer (some p)) (.pointer none)).run Try.prog w = .ok (.bool false) w := by kernel_rfl
set_option maxRecDepth 100000 in
set_option maxHeartbeats 4000000 in
theorem able_any (w : World) : Calls Try.prog 8 #[] w fun en w' => en = .returned (.bool true) ∧ Below w.heap.size w w' := by
  have NW := st_new w
  have en := fun p w => neqQ p w
  go_enter Try.func8, Try.ntmps8
  go_wp2_with fail
  refine NW.mono ?_
  rintro e w1 ⟨rfl, h1⟩
  obtain ⟨qb, hqb⟩ : ∃ qb, w.heap.size + 2 = qb := ⟨_, rfl⟩
  rw [hqb] at h1
  rw [hqb]
  have P1 := st_put h1 ⟨0, 1, 0⟩ 2 (fun _ => by decide) (fun _ => by decide)
  clear NW hqb h1
  go_wp2_with fail
  refine P1.mono ?_
  rintro e w2 ⟨rfl, h2⟩
  have P2 := st_put h2 ⟨0, 2, 0⟩ 1 (fun _ => by decide) (fun _ => by decide)
  clear P1 h2
  go_wp2_with fail
  refine P2.mono ?_
  rintro e w3 ⟨rfl, h3'⟩
  have HQ3 : Hid (Qst w w3 qb [⟨0, 2, 0, 1, 1⟩, ⟨0, 1, 0, 1, 2⟩] []) := h3'
  have F1 := st_first HQ3.out
  rw [ab_srt] at F1
  clear P2 h3'
  go_wp2_with fail
  refine F1.mono ?_
  rintro e w4 ⟨rfl, hb4⟩
  have HQ4 : Hid (Qst w w4 qb [⟨0, 2, 0, 1, 1⟩, ⟨0, 1, 0, 1, 2⟩] []) := HQ3.out.below hb4
  have hb5 := ball (Below.refl _ w4) (.cells #[.int .i64 0, .int .i64 2, .int .i64 0] 33)
  have q5 := AtL.new0 w4 33 [.int .i64 0, .int .i64 2, .int .i64 0]
  have HQ5 : Hid (Qst w (w4.alloc (.cells #[.int .i64 0, .int .i64 2, .int .i64 0] 33)) qb [⟨0, 2, 0, 1, 1⟩, ⟨0, 1, 0, 1, 2⟩] []) := HQ4.out.below hb5
  clear F1 HQ3 HQ4 hb4 hb5
  simp only [hdW, neQ]
  go_upto_region 7 with fail
  generalize w4.alloc (.cells #[.int .i64 0, .int .i64 2, .int .i64 0] 33) = W5 at *
  obtain ⟨d0, d1, d2, _⟩ := q5.three
  have L1 := st_len HQ5.out
  go_wp2_with fail
  refine L1.mono ?_
  rintro e w6 ⟨rfl, hb6⟩
  have HQ6 : Hid (Qst w w6 qb [⟨0, 2, 0, 1, 1⟩, ⟨0, 1, 0, 1, 2⟩] []) := HQ5.out.below hb6
  have C1 := st_cells HQ6.out (fun _ => by decide)
  clear L1 HQ5 hb6 d0 d1 d2
  simp only [List.length_cons, List.length_nil]
  go_wp2_with fail
  refine C1.mono ?_
  rintro e w7 ⟨⟨v, rfl, ho⟩, hb7⟩
  rw [ab_srt] at ho
  obtain ⟨cv, cc, rfl, _, _⟩ := RdX.of_own ho rfl
  have HE : Hid (Below w.heap.size w w7) := below_end HQ6.out.bl hb7
  clear C1 ho hb7 HQ6
  go_wp2
  go_ret
  exact ⟨rfl, HE.out⟩
end Go.Proofs.Ytpbjmhcpaeillaa
