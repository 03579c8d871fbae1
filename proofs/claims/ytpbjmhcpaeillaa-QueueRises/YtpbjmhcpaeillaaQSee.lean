/- Queues: See, the call. -/

import Derived.Test.YtpbjmhcpaeillaaQSeeA
namespace Go.Proofs.Ytpbjmhcpaeillaa
open Go.RowKit
set_option linter.unusedVariables false

/-- What See answers. -/
def QSeeP (w : World) (qb hb mb B : Nat) (rv : Value) (l : List Wq.Wr) (n : Nat) (A : List Wpl.Ar) (en : Ending) (w' : World) : Prop := ∃ (l' : List Wq.Wr) (F' : List (Wpl.Cl × Int)) (av : Option Addr) (cap : Nat), en = .returned (.tuple #[]) ∧ QQ w' qb hb mb B rv l' F' av n cap A ∧ l'.Perm (l.map (reW A)) ∧ Fr (qb :: hb :: mb :: rv.ownBlock.toList) w w' ∧ ∀ bb off, av = some ⟨bb, off, none⟩ → w.heap.size ≤ bb
theorem QQ.seen {w w1 w4 : World} {qb hb mb B : Nat} {rv : Value} {l : List Wq.Wr} {F : List (Wpl.Cl × Int)} {av av4 : Option Addr} {n cap bn cap4 S1 : Nat} {A C : List Wpl.Ar} (h : QQ w4 qb hb mb B rv l F av n cap A) (hl : hb < S1 ∧ mb < S1 ∧ qb < S1 ∧ ∀ g, rv.ownBlock = some g → g < S1) (hr : RdQ w4 av4 C) (hc : C.length = bn) (hv : ∀ bb off, av4 = some ⟨bb, off, none⟩ → S1 ≤ bb ∧ bb < w4.heap.size) : QQ (w4.setCell ⟨qb, 1, none⟩ (.slice av4 bn cap4)) qb hb mb B rv l F av4 bn cap4 C := by
  have fr : Fr [qb] w4 (w4.setCell ⟨qb, 1, none⟩ (.slice av4 bn cap4)) := setCells_fr w4 qb [.slice av4 bn cap4] 1
  refine ⟨h.hd.set 1 _, ⟨h.h.q.fr fr (by simp; exact fun e => h.nq.1 e.symm) (by simp; exact fun e => h.nq.2.1 e.symm) (fun g e => by simp; exact fun e2 => h.nq.2.2 g e e2.symm), h.h.f, h.h.o⟩, hr.fr fr (fun bb off e => by simp; have := hv bb off e; omega), hc, fun bb off e => Nat.lt_of_lt_of_le (hv bb off e).2 fr.size, fun bb off e => ?_, h.nq⟩
  have h1 := hv bb off e
  exact ⟨by omega, by omega, by omega, fun g eg => by have := hl.2.2.2 g eg; omega⟩
set_option maxRecDepth 100000 in
set_option maxHeartbeats 8000000 in
theorem qsee_any (qb hb mb B : Nat) (rv : Value) (l : List Wq.Wr) (F : List (Wpl.Cl × Int)) (av : Option Addr) (n cap : Nat) (A : List Wpl.Ar) (bv : Option Addr) (bn bc : Nat) (C : List Wpl.Ar) (w : World) (h : QQ w qb hb mb B rv l F av n cap A) (hN : True → l.length ≤ 1000000000) (hr : RdQ w bv C) (hc : C.length = bn) (hz : bv = none → bn = 0) (hsp : ∀ p, bv = some p → p.spot = none) (hM : True → bn ≤ 1000000000) :
    Calls Try.prog 15 #[.pointer (some ⟨qb, 0, none⟩), .slice bv bn bc] w (QSeeP w qb hb mb B rv l bn C) := by
  have hb0 := ball (Below.refl _ w) (.cells #[.pointer (some ⟨qb, 0, none⟩)] 25)
  have HQ0 : Hid (QQ (w.alloc (.cells #[.pointer (some ⟨qb, 0, none⟩)] 25)) qb hb mb B rv l F av n cap A) := h.below hb0
  have HP : Hid (AtL (w.alloc (.cells #[.pointer (some ⟨qb, 0, none⟩)] 25)) w.heap.size [.pointer (some ⟨qb, 0, none⟩)]) := AtL.new0 w 25 [.pointer (some ⟨qb, 0, none⟩)]
  have HB0 : Hid (Below w.heap.size w (w.alloc (.cells #[.pointer (some ⟨qb, 0, none⟩)] 25))) := hb0
  have HR : Hid (RdQ w bv C ∧ C.length = bn ∧ (bv = none → bn = 0) ∧ ∀ p, bv = some p → p.spot = none) := ⟨hr, hc, hz, hsp⟩
  have HL : Hid (hb < w.heap.size ∧ mb < w.heap.size ∧ qb < w.heap.size ∧ ∀ g, rv.ownBlock = some g → g < w.heap.size) := ⟨h.h.q.hd.1, h.h.q.mp.lt, h.hd.1, fun g e => (own_blk h.h.q.own e).2⟩
  have HNE : Hid (qb ≠ w.heap.size) := by have := h.hd.1; show _ ≠ _; omega
  have HNN : Hid (True → l.length ≤ 1000000000) := hN
  have c0 : (w.alloc (.cells #[.pointer (some ⟨qb, 0, none⟩)] 25)).cell? ⟨w.heap.size, 0, none⟩ = some (.pointer (some ⟨qb, 0, none⟩)) := HP.out.2.1 0 _ rfl
  have d0 := HQ0.out.hd
  clear h hr hc hz hsp hb0 hN
  go_enter Try.func15, Try.ntmps15
  go_upto_region 1 with fail
  have HSZ : Hid (∃ eb, w.heap.size = eb) := ⟨_, rfl⟩
  generalize w.alloc (.cells #[.pointer (some ⟨qb, 0, none⟩)] 25) = W0 at *
  obtain ⟨eb, heb⟩ := HSZ.out
  have HEB : Hid (eb = w.heap.size) := heb.symm
  rw [heb] at c0
  have HP : Hid (AtL W0 eb [.pointer (some ⟨qb, 0, none⟩)]) := by rw [HEB.out]; exact HP.out
  have HNE : Hid (qb ≠ eb) := by rw [HEB.out]; exact HNE.out
  rw [heb]
  clear heb HSZ
  have hb1 := (Below.refl W0.heap.size W0).drew
  refine wp_region_held_drew (S := fun W => W.cell? ⟨eb, 0, none⟩ = some (.pointer (some ⟨qb, 0, none⟩))) (by kernel_rfl) (cell_below hb1 c0) (fun hHeld => ?_)
  replace c0 := cell_below hb1 c0
  replace d0 := AtL.below hb1 d0
  have HQ1 : Hid (QQ W0.drew qb hb mb B rv l F av n cap A) := HQ0.out.below hb1
  have HP1 : Hid (AtL W0.drew eb [.pointer (some ⟨qb, 0, none⟩)]) := AtL.below hb1 HP.out
  have HB1 : Hid (Below w.heap.size w W0.drew) := below_end HB0.out hb1
  have CL := cloneA_any bv bn bc C W0.drew (HR.out.1.below (below_end HB0.out hb1)) HR.out.2.1 HR.out.2.2.1 HR.out.2.2.2 hM
  clear hb1 HQ0 HP HB0
  generalize W0.drew = W1 at *
  refine wpAnyH_take (i := 0) (oi := { dst := Option.some 4, op := Op.load 25 (Operand.tmp 2), type := 25, pos := "queue.go:30", after := #[], guard := Option.none }) (v := ?_) rfl (by kernel_rfl) (by kernel_rfl) (by kernel_rfl) (fun _ _ _ h => h) (Or.inl ⟨by rfl, ?_⟩) (by assumption) ?_
  rotate_left
  · intro w hSw
    (try dsimp only at hSw)
    go_simp
    try with_reducible rfl
  try simp only [Act.put, List.setIfInBounds_toArray, List.set_cons_zero, List.set_cons_succ]
  refine wpAnyH_take (i := 1) (oi := { dst := Option.some 5, op := Op.move (Operand.tmp 1), type := 29, pos := "queue.go:30", after := #[], guard := Option.none }) (v := ?_) rfl (by kernel_rfl) (by kernel_rfl) (by kernel_rfl) (fun _ _ _ h => h) (Or.inl ⟨by rfl, ?_⟩) (by assumption) ?_
  rotate_left
  · intro w hSw
    (try dsimp only at hSw)
    go_simp
    try with_reducible rfl
  try simp only [Act.put, List.setIfInBounds_toArray, List.set_cons_zero, List.set_cons_succ]
  refine wpAnyH_ready (rs := [2]) (by kernel_rfl) (by simp) ?_
  refine AllReadyH.cons (o := { dst := Option.some 6, op := Op.call { callee := Callee.value (Operand.func 31), args := #[Operand.tmp 5], argTypes := #[29] }, type := 29, pos := "queue.go:30", after := #[{ on := 1, ground := Ground.data }], guard := Option.none }) rfl (fun K hK => ?_) AllReadyH.nil
  go_simp
  refine CL.mono ?_
  rintro en w4 ⟨⟨av4, cap4, rfl, hr4, hn4⟩, hb4⟩
  have HQ4 : Hid (QQ w4 qb hb mb B rv l F av n cap A) := HQ1.out.below hb4
  have HP4 : Hid (AtL w4 eb [.pointer (some ⟨qb, 0, none⟩)]) := AtL.below hb4 HP1.out
  have HB4 : Hid (Below w.heap.size w w4) := below_end HB1.out hb4
  have HS1 : Hid (w.heap.size ≤ W1.heap.size) := HB1.out.size
  have HV : Hid (RdQ w4 av4 C ∧ ∀ bb off, av4 = some ⟨bb, off, none⟩ → W1.heap.size ≤ bb ∧ bb < w4.heap.size) := ⟨hr4, hn4⟩
  replace c0 := cell_below hb4 c0
  replace d0 := AtL.below hb4 d0
  clear CL hr4 hn4 hb4 HQ1 HP1 HB1
  go_wp2_with fail
  refine hK.out _ _ c0 (fun hHeld => ?_)
  clear hK K
  try simp only [Act.put, List.setIfInBounds_toArray, List.set_cons_zero, List.set_cons_succ]
  refine wpAnyH_take (i := 3) (oi := { dst := Option.some 7, op := Op.nilCheck (Operand.tmp 4), type := 0, pos := "queue.go:30", after := #[{ on := 0, ground := Ground.data }, { on := 0, ground := Ground.phase }, { on := 1, ground := Ground.phase }, { on := 2, ground := Ground.phase }], guard := Option.none }) (v := ?_) rfl (by kernel_rfl) (by kernel_rfl) (by kernel_rfl) (fun _ _ _ h => h) (Or.inl ⟨by rfl, ?_⟩) (by assumption) ?_
  rotate_left
  · intro w hSw
    (try dsimp only at hSw)
    go_simp
    try with_reducible rfl
  try simp only [Act.put, List.setIfInBounds_toArray, List.set_cons_zero, List.set_cons_succ]
  refine wpAnyH_take (i := 4) (oi := { dst := Option.some 8, op := Op.fieldAddr 60 (Operand.tmp 7) 1, type := 0, pos := "queue.go:30", after := #[{ on := 3, ground := Ground.data }, { on := 0, ground := Ground.phase }, { on := 1, ground := Ground.phase }, { on := 2, ground := Ground.phase }], guard := Option.none }) (v := ?_) rfl (by kernel_rfl) (by kernel_rfl) (by kernel_rfl) (fun _ _ _ h => h) (Or.inl ⟨by rfl, ?_⟩) (by assumption) ?_
  rotate_left
  · intro w hSw
    (try dsimp only at hSw)
    go_simp
    try with_reducible rfl
  try simp only [Act.put, List.setIfInBounds_toArray, List.set_cons_zero, List.set_cons_succ]
  refine wpAnyH_ready (rs := [5]) (by kernel_rfl) (by simp) ?_
  refine AllReadyH.cons (o := { dst := Option.none, op := Op.store 29 (Operand.tmp 8) (Operand.tmp 6), type := 0, pos := "queue.go:30", after := #[{ on := 4, ground := Ground.data }, { on := 2, ground := Ground.data }, { on := 2, ground := Ground.chain }, { on := 0, ground := Ground.phase }, { on := 1, ground := Ground.phase }, { on := 2, ground := Ground.phase }], guard := Option.none }) rfl (fun K hK => ?_) AllReadyH.nil
  obtain ⟨_, d1, _, dz⟩ := d0.two
  go_simp
  have q5 : AtL (w4.setCell ⟨qb, 1, none⟩ (.slice av4 bn cap4)) qb [.pointer (some ⟨hb, 0, none⟩), .slice av4 bn cap4] := d0.set 1 _
  have c5 : (w4.setCell ⟨qb, 1, none⟩ (.slice av4 bn cap4)).cell? ⟨eb, 0, none⟩ = some (.pointer (some ⟨qb, 0, none⟩)) := (HP4.out.far HNE.out 1 (.slice av4 bn cap4)).2.1 0 _ rfl
  have fr5 := setCells_fr w4 qb [.slice av4 bn cap4] 1
  refine hK.out _ _ c5 (fun hHeld => ?_)
  clear hK K c0 d0 d1 dz
  try simp only [Act.put, List.setIfInBounds_toArray, List.set_cons_zero, List.set_cons_succ]
  refine wpAnyH_done (by kernel_rfl) ?_ _

  have HQ5 : Hid (QQ (w4.setCell ⟨qb, 1, none⟩ (.slice av4 bn cap4)) qb hb mb B rv l F av4 bn cap4 C) := HQ4.out.seen (S1 := w.heap.size) (w := w) (w1 := w) HL.out HV.out.1 HR.out.2.1 (fun bb off e => ⟨Nat.le_trans HS1.out (HV.out.2 bb off e).1, (HV.out.2 bb off e).2⟩)
  have HP5 : Hid (AtL (w4.setCell ⟨qb, 1, none⟩ (.slice av4 bn cap4)) eb [.pointer (some ⟨qb, 0, none⟩)]) := HP4.out.far HNE.out 1 (.slice av4 bn cap4)
  have HF5 : Hid (Fr (qb :: hb :: mb :: rv.ownBlock.toList) w (w4.setCell ⟨qb, 1, none⟩ (.slice av4 bn cap4))) := Fr.trans (Fr.of_below _ HB4.out) (Fr.mono (S := [qb]) fr5 (by simp))
  obtain ⟨d5, _, _, _⟩ := q5.two
  clear HQ4 HP4 HB4 q5 fr5
  generalize w4.setCell ⟨qb, 1, none⟩ (.slice av4 bn cap4) = W5 at *
  have TN := turn_any hb mb B rv l F eb qb _ C av4 bn cap4 W5 HQ5.out.h.q HQ5.out.h.f HNN.out HP5.out HQ5.out.hd HQ5.out.rd HR.out.2.1 hM (fun g e => ⟨by have := HL.out.2.2.2 g e; have := HEB.out; omega, HQ5.out.nq.2.2 g e, fun bb off e2 => (HQ5.out.ab bb off e2).2.2.2 g e⟩)
  clear hHeld
  go_wp2_with fail
  refine TN.mono ?_
  rintro en w6 ⟨l6, F6, rfl, h6, p6, fr6⟩
  have HE : Hid (QSeeP w qb hb mb B rv l bn C (.returned (.tuple #[])) w6) := ⟨l6, F6, av4, cap4, rfl, HQ5.out.turn h6 fr6 (Or.inl rfl), p6, Fr.trans HF5.out (fr6.mono (fun k hk => List.mem_cons_of_mem _ hk)), fun bb off e => Nat.le_trans HS1.out (HV.out.2 bb off e).1⟩
  clear TN h6 p6 fr6 HQ5 HP5 HF5
  go_wp2
  go_end0
  exact HE.out
end Go.Proofs.Ytpbjmhcpaeillaa
