/- Queues: Drop. -/

import Derived.Test.YtpbjmhcpaeillaaQQp
namespace Go.Proofs.Ytpbjmhcpaeillaa
open Go.RowKit
set_option linter.unusedVariables false

/-- What Drop answers. -/
def QDropP (w : World) (qb hb mb B : Nat) (rv : Value) (l : List Wq.Wr) (x : Wpl.Cl) (av : Option Addr) (n cap : Nat) (A : List Wpl.Ar) (en : Ending) (w' : World) : Prop := ∃ (q : Bool) (rv' : Value) (l' : List Wq.Wr) (F' : List (Wpl.Cl × Int)), en = .returned (.bool q) ∧ (q = true → ∃ a ∈ l, clW a = x) ∧ (q = false → ∀ a ∈ l, clW a ≠ x) ∧ QQ w' qb hb mb B rv' l' F' av n cap A ∧ l'.Perm (offW x l) ∧ Fr (hb :: mb :: rv.ownBlock.toList) w w' ∧ (rv'.ownBlock = rv.ownBlock ∨ ∀ g, rv'.ownBlock = some g → w.heap.size ≤ g)
set_option maxRecDepth 100000 in
set_option maxHeartbeats 4000000 in
theorem qdrop_any (qb hb mb B : Nat) (rv : Value) (l : List Wq.Wr) (F : List (Wpl.Cl × Int)) (av : Option Addr) (n cap : Nat) (A : List Wpl.Ar) (x : Wpl.Cl) (w : World) (h : QQ w qb hb mb B rv l F av n cap A) (hN : True → l.length ≤ 1000000000) :
    Calls Try.prog 13 #[.pointer (some ⟨qb, 0, none⟩), .agg #[.int .i64 x.s, .int .i64 x.r, .int .i64 x.c]] w (QDropP w qb hb mb B rv l x av n cap A) := by
  have hb0 := ball (Below.refl _ w) (.cells #[.int .i64 x.s, .int .i64 x.r, .int .i64 x.c] 33)
  have t3 := AtL.f3 (AtL.new0 w 33 [.int .i64 x.s, .int .i64 x.r, .int .i64 x.c])
  have HQ0 : Hid (QQ (w.alloc (.cells #[.int .i64 x.s, .int .i64 x.r, .int .i64 x.c] 33)) qb hb mb B rv l F av n cap A) := h.below hb0
  have HB0 : Hid (Below w.heap.size w (w.alloc (.cells #[.int .i64 x.s, .int .i64 x.r, .int .i64 x.c] 33))) := hb0
  have HNN : Hid (True → l.length ≤ 1000000000) := hN
  have HCB : Hid (w.heap.size ≠ hb ∧ w.heap.size ≠ mb ∧ ∀ g, rv.ownBlock = some g → w.heap.size ≠ g) := by
    have h1 := h.h.q.hd.1
    have h2 := h.h.q.mp.lt
    refine ⟨by omega, by omega, fun g e => ?_⟩
    have := (own_blk h.h.q.own e).2
    omega
  obtain ⟨c0, _, _, _⟩ := HQ0.out.hd.two
  clear h hN hb0
  go_enter Try.func13, Try.ntmps13
  go_upto_region 1 with fail
  generalize w.alloc (.cells #[.int .i64 x.s, .int .i64 x.r, .int .i64 x.c] 33) = W0 at *
  obtain ⟨cb, hcb⟩ : ∃ k, w.heap.size = k := ⟨_, rfl⟩
  have t3 : Three W0 cb (.int .i64 x.s) (.int .i64 x.r) (.int .i64 x.c) := by rw [← hcb]; exact t3
  have HCB : Hid (cb ≠ hb ∧ cb ≠ mb ∧ ∀ g, rv.ownBlock = some g → cb ≠ g) := by rw [← hcb]; exact HCB.out
  rw [hcb]
  clear hcb
  have hb1 := (Below.refl W0.heap.size W0).drew
  refine wp_region_held_drew (S := fun W => W.cell? ⟨qb, 0, none⟩ = some (.pointer (some ⟨hb, 0, none⟩)) ∧ Three W cb (.int .i64 x.s) (.int .i64 x.r) (.int .i64 x.c)) (by kernel_rfl) ⟨cell_below hb1 c0, three_below hb1 t3⟩ (fun hHeld => ?_)
  have HQ1 : Hid (QQ W0.drew qb hb mb B rv l F av n cap A) := HQ0.out.below hb1
  have HB1 : Hid (Below w.heap.size w W0.drew) := below_end HB0.out hb1
  replace t3 := three_below hb1 t3
  replace c0 := cell_below hb1 c0
  clear hb1 HQ0 HB0
  generalize W0.drew = W1 at *
  refine wpAnyH_take (i := 0) (oi := { dst := Option.some 5, op := Op.move (Operand.tmp 0), type := 25, pos := "queue.go:26", after := #[], guard := Option.none }) (v := ?_) rfl (by kernel_rfl) (by kernel_rfl) (by kernel_rfl) (fun _ _ _ h => h) (Or.inl ⟨by rfl, ?_⟩) (by assumption) ?_
  rotate_left
  · intro w hSw
    (try dsimp only at hSw)
    go_simp
    try with_reducible rfl
  try simp only [Act.put, List.setIfInBounds_toArray, List.set_cons_zero, List.set_cons_succ]
  refine wpAnyH_take (i := 1) (oi := { dst := Option.some 6, op := Op.nilCheck (Operand.tmp 5), type := 0, pos := "queue.go:26", after := #[{ on := 0, ground := Ground.data }], guard := Option.none }) (v := ?_) rfl (by kernel_rfl) (by kernel_rfl) (by kernel_rfl) (fun _ _ _ h => h) (Or.inl ⟨by rfl, ?_⟩) (by assumption) ?_
  rotate_left
  · intro w hSw
    (try dsimp only at hSw)
    go_simp
    try with_reducible rfl
  try simp only [Act.put, List.setIfInBounds_toArray, List.set_cons_zero, List.set_cons_succ]
  refine wpAnyH_take (i := 2) (oi := { dst := Option.some 7, op := Op.fieldAddr 60 (Operand.tmp 6) 0, type := 0, pos := "queue.go:26", after := #[{ on := 1, ground := Ground.data }], guard := Option.none }) (v := ?_) rfl (by kernel_rfl) (by kernel_rfl) (by kernel_rfl) (fun _ _ _ h => h) (Or.inl ⟨by rfl, ?_⟩) (by assumption) ?_
  rotate_left
  · intro w hSw
    (try dsimp only at hSw)
    go_simp
    try with_reducible rfl
  try simp only [Act.put, List.setIfInBounds_toArray, List.set_cons_zero, List.set_cons_succ]
  refine wpAnyH_take (i := 3) (oi := { dst := Option.some 8, op := Op.load 55 (Operand.tmp 7), type := 55, pos := "queue.go:26", after := #[{ on := 2, ground := Ground.data }], guard := Option.none }) (v := ?_) rfl (by kernel_rfl) (by kernel_rfl) (by kernel_rfl) (fun _ _ _ h => h) (Or.inl ⟨by rfl, ?_⟩) (by assumption) ?_
  rotate_left
  · intro w hSw
    (try dsimp only at hSw)
    go_simp
    try with_reducible rfl
  try simp only [Act.put, List.setIfInBounds_toArray, List.set_cons_zero, List.set_cons_succ]
  refine wpAnyH_take (i := 4) (oi := { dst := Option.some 9, op := Op.load 33 (Operand.tmp 3), type := 33, pos := "queue.go:26", after := #[], guard := Option.none }) (v := ?_) rfl (by kernel_rfl) (by kernel_rfl) (by kernel_rfl) (fun _ _ _ h => h) (Or.inl ⟨by rfl, ?_⟩) (by assumption) ?_
  rotate_left
  · intro w hSw
    (try dsimp only at hSw)
    go_simp
    try with_reducible rfl
  try simp only [Act.put, List.setIfInBounds_toArray, List.set_cons_zero, List.set_cons_succ]
  refine wpAnyH_ready (rs := [5]) (by kernel_rfl) (by simp) ?_
  refine AllReadyH.cons (o := { dst := Option.some 10, op := Op.call { callee := Callee.value (Operand.func 30), args := #[Operand.tmp 8, Operand.tmp 9], argTypes := #[55, 33] }, type := 4, pos := "queue.go:26", after := #[{ on := 3, ground := Ground.data }, { on := 4, ground := Ground.data }], guard := Option.none }) rfl (fun K hK => ?_) AllReadyH.nil
  go_simp
  refine (drop_any hb mb B rv l F x W1 HQ1.out.h HNN.out).mono ?_
  rintro en w3 ⟨q, rv3, l3, F3, rfl, hq1, hq2, h3, p3, fr3, hz3⟩
  have H3 : Hid (QDropP w qb hb mb B rv l x av n cap A (.returned (.bool q)) w3) := ⟨q, rv3, l3, F3, rfl, hq1, hq2, HQ1.out.turn h3 fr3 hz3, p3, Fr.trans (Fr.of_below _ HB1.out) fr3, hz3.elim Or.inl (fun z => Or.inr (fun g e => Nat.le_trans HB1.out.size (z g e)))⟩
  have c03 : w3.cell? ⟨qb, 0, none⟩ = some (.pointer (some ⟨hb, 0, none⟩)) := fr3.cell c0 (HQ1.out.nin HQ1.out.nq)
  have t33 : Three w3 cb (.int .i64 x.s) (.int .i64 x.r) (.int .i64 x.c) := three_fr fr3 (HQ1.out.nin HCB.out) t3
  clear HQ1 HB1 h3 p3 fr3 hz3 hq1 hq2
  go_wp2_with fail
  refine hK.out _ _ ⟨c03, t33⟩ (fun hHeld => ?_)
  clear hK K
  try simp only [Act.put, List.setIfInBounds_toArray, List.set_cons_zero, List.set_cons_succ]
  refine wpAnyH_ready (rs := [6]) (by kernel_rfl) (by simp) ?_
  refine AllReadyH.cons (o := { dst := Option.some 4, op := Op.assign (Operand.tmp 10), type := 4, pos := "queue.go:26", after := #[{ on := 5, ground := Ground.data }, { on := 5, ground := Ground.chain }, { on := 0, ground := Ground.phase }, { on := 1, ground := Ground.phase }, { on := 2, ground := Ground.phase }, { on := 3, ground := Ground.phase }, { on := 4, ground := Ground.phase }, { on := 5, ground := Ground.phase }], guard := Option.none }) rfl (fun K hK => ?_) AllReadyH.nil
  go_simp
  refine hK.out _ _ ⟨c03, t33⟩ (fun hHeld => ?_)
  clear hK K
  try simp only [Act.put, List.setIfInBounds_toArray, List.set_cons_zero, List.set_cons_succ]
  refine wpAnyH_done (by kernel_rfl) ?_ _
  clear hHeld

  go_wp2_with fail
  go_ret
  exact H3.out
end Go.Proofs.Ytpbjmhcpaeillaa
