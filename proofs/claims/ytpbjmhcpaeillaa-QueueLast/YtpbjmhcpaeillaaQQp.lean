/- Queues: Put. -/

import Derived.Test.YtpbjmhcpaeillaaQLaneB
namespace Go.Proofs.Ytpbjmhcpaeillaa
open Go.RowKit
set_option linter.unusedVariables false

theorem QQ.below {w w' : World} {qb hb mb B : Nat} {rv : Value} {l : List Wq.Wr} {F : List (Wpl.Cl × Int)} {av : Option Addr} {n cap : Nat} {A : List Wpl.Ar} (h : QQ w qb hb mb B rv l F av n cap A) (hb' : Below w.heap.size w w') : QQ w' qb hb mb B rv l F av n cap A :=
  ⟨AtL.below hb' h.hd, ⟨h.h.q.below hb', h.h.f, h.h.o⟩, h.rd.below hb', h.len, fun bb off e => Nat.lt_of_lt_of_le (h.al bb off e) hb'.size, h.ab, h.nq⟩
theorem QQ.nin {w : World} {qb hb mb B : Nat} {rv : Value} {l : List Wq.Wr} {F : List (Wpl.Cl × Int)} {av : Option Addr} {n cap : Nat} {A : List Wpl.Ar} (h : QQ w qb hb mb B rv l F av n cap A) {k : Nat} (hk : k ≠ hb ∧ k ≠ mb ∧ ∀ g, rv.ownBlock = some g → k ≠ g) : k ∉ (hb :: mb :: rv.ownBlock.toList) := fun hm => by
  simp only [List.mem_cons] at hm
  rcases hm with e | e | e
  · exact hk.1 e
  · exact hk.2.1 e
  · cases c : rv.ownBlock with
    | none => rw [c] at e; simp at e
    | some y =>
      rw [c] at e
      simp at e
      exact hk.2.2 y c e
/-- What Put answers. -/
def QPutP (w : World) (qb hb mb B : Nat) (rv : Value) (l : List Wq.Wr) (e : Wq.Wr) (av : Option Addr) (n cap : Nat) (A : List Wpl.Ar) (en : Ending) (w' : World) : Prop := ∃ (rv' : Value) (l' : List Wq.Wr) (F' : List (Wpl.Cl × Int)), en = .returned (.tuple #[]) ∧ QQ w' qb hb mb B rv' l' F' av n cap A ∧ l'.Perm (e :: offW (clW e) l) ∧ Fr (hb :: mb :: rv.ownBlock.toList) w w' ∧ (rv'.ownBlock = rv.ownBlock ∨ ∀ g, rv'.ownBlock = some g → w.heap.size ≤ g)
/-- The heap is turned by one of its calls: the queue stays. -/
theorem QQ.turn {w w' : World} {qb hb mb B : Nat} {rv rv' : Value} {l l' : List Wq.Wr} {F F' : List (Wpl.Cl × Int)} {av : Option Addr} {n cap : Nat} {A : List Wpl.Ar} (h : QQ w qb hb mb B rv l F av n cap A) (h' : QH w' hb mb B rv' l' F') (fr : Fr (hb :: mb :: rv.ownBlock.toList) w w') (hz : rv'.ownBlock = rv.ownBlock ∨ ∀ g, rv'.ownBlock = some g → w.heap.size ≤ g) : QQ w' qb hb mb B rv' l' F' av n cap A := by
  refine ⟨h.hd.fr fr (h.nin h.nq), h', fun i a ha => ?_, h.len, fun bb off e => Nat.lt_of_lt_of_le (h.al bb off e) fr.size, fun bb off e => ?_, ⟨h.nq.1, h.nq.2.1, fun g e => ?_⟩⟩
  · obtain ⟨bb, off, e, hr⟩ := h.rd i a ha
    have hab := h.ab bb off e
    exact ⟨bb, off, e, fr.range hr (h.nin ⟨hab.1, hab.2.1, hab.2.2.2⟩)⟩
  · have hab := h.ab bb off e
    refine ⟨hab.1, hab.2.1, hab.2.2.1, fun g eg => ?_⟩
    rcases hz with q | q
    · exact hab.2.2.2 g (by rw [← q]; exact eg)
    · have h1 := q g eg
      have h2 := h.al bb off e
      omega
  · rcases hz with q | q
    · exact h.nq.2.2 g (by rw [← q]; exact e)
    · have h1 := q g e
      have h2 := h.hd.1
      omega
theorem QQ.put {w0 w w' : World} {qb hb mb B : Nat} {rv rv' : Value} {l l' : List Wq.Wr} {F F' : List (Wpl.Cl × Int)} {av : Option Addr} {n cap : Nat} {A : List Wpl.Ar} {e : Wq.Wr} (h : QQ w qb hb mb B rv l F av n cap A) (hb0 : Below w0.heap.size w0 w) (h' : QH w' hb mb B rv' l' F') (p : l'.Perm (e :: offW (clW e) l)) (fr : Fr (hb :: mb :: rv.ownBlock.toList) w w') (hz : rv'.ownBlock = rv.ownBlock ∨ ∀ g, rv'.ownBlock = some g → w.heap.size ≤ g) : QPutP w0 qb hb mb B rv l e av n cap A (.returned (.tuple #[])) w' :=
  ⟨rv', l', F', rfl, h.turn h' fr hz, p, Fr.trans (Fr.of_below _ hb0) fr, hz.elim Or.inl (fun q => Or.inr (fun g e => Nat.le_trans hb0.size (q g e)))⟩
set_option maxRecDepth 100000 in
set_option maxHeartbeats 4000000 in
theorem qput_any (qb hb mb B : Nat) (rv : Value) (l : List Wq.Wr) (F : List (Wpl.Cl × Int)) (av : Option Addr) (n cap : Nat) (A : List Wpl.Ar) (x : Wpl.Cl) (lv : Int) (w : World) (h : QQ w qb hb mb B rv l F av n cap A) (hN : True → l.length + 1 ≤ 1000000000) (hN2 : True → n ≤ 1000000000) (hB : B ≤ w.heap.size) :
    Calls Try.prog 11 #[.pointer (some ⟨qb, 0, none⟩), .agg #[.int .i64 x.s, .int .i64 x.r, .int .i64 x.c], .int .i64 lv] w (QPutP w qb hb mb B rv l ⟨x.s, x.r, x.c, lnQ A x, lv⟩ av n cap A) := by
  have hb0 := ball (Below.refl _ w) (.cells #[.int .i64 x.s, .int .i64 x.r, .int .i64 x.c] 33)
  have t3 := AtL.f3 (AtL.new0 w 33 [.int .i64 x.s, .int .i64 x.r, .int .i64 x.c])
  have HQ0 : Hid (QQ (w.alloc (.cells #[.int .i64 x.s, .int .i64 x.r, .int .i64 x.c] 33)) qb hb mb B rv l F av n cap A) := h.below hb0
  have HB0 : Hid (Below w.heap.size w (w.alloc (.cells #[.int .i64 x.s, .int .i64 x.r, .int .i64 x.c] 33))) := hb0
  have HNN : Hid ((True → l.length + 1 ≤ 1000000000) ∧ (True → n ≤ 1000000000)) := ⟨hN, hN2⟩
  have HBB : Hid (B ≤ w.heap.size) := hB
  have HCB : Hid (w.heap.size ≠ hb ∧ w.heap.size ≠ mb ∧ ∀ g, rv.ownBlock = some g → w.heap.size ≠ g) := by
    have h1 := h.h.q.hd.1
    have h2 := h.h.q.mp.lt
    refine ⟨by omega, by omega, fun g e => ?_⟩
    have := (own_blk h.h.q.own e).2
    omega
  obtain ⟨c0, _, _, _⟩ := HQ0.out.hd.two
  clear h hN hN2 hB hb0
  go_enter Try.func11, Try.ntmps11
  go_upto_region 1 with fail
  generalize w.alloc (.cells #[.int .i64 x.s, .int .i64 x.r, .int .i64 x.c] 33) = W0 at *
  obtain ⟨cb, hcb⟩ : ∃ k, w.heap.size = k := ⟨_, rfl⟩
  have t3 : Three W0 cb (.int .i64 x.s) (.int .i64 x.r) (.int .i64 x.c) := by rw [← hcb]; exact t3
  have HCB : Hid (cb ≠ hb ∧ cb ≠ mb ∧ ∀ g, rv.ownBlock = some g → cb ≠ g) := by rw [← hcb]; exact HCB.out
  rw [hcb]
  clear hcb
  have hb1 := (Below.refl W0.heap.size W0).drew
  refine wp_region_held_drew (S := fun W => W.cell? ⟨qb, 0, none⟩ = some (.pointer (some ⟨hb, 0, none⟩)) ∧ Three W cb (.int .i64 x.s) (.int .i64 x.r) (.int .i64 x.c)) (by kernel_rfl) ⟨cell_below hb1 c0, three_below hb1 t3⟩ (fun hHeld => ?_)
  have HQ1 : Hid (QQ W0.drew qb hb mb B rv l F av n cap A) := HQ0.out.below hb1
  have HB1 : Hid (Below w.heap.size w W0.drew) := below_end HB0.out hb1
  replace t3 := three_below hb1 t3
  replace c0 := cell_below hb1 c0
  clear hb1 HQ0 HB0
  generalize W0.drew = W1 at *
  refine wpAnyH_take (i := 0) (oi := { dst := Option.some 6, op := Op.move (Operand.tmp 0), type := 25, pos := "queue.go:22", after := #[], guard := Option.none }) (v := ?_) rfl (by kernel_rfl) (by kernel_rfl) (by kernel_rfl) (fun _ _ _ h => h) (Or.inl ⟨by rfl, ?_⟩) (by assumption) ?_
  rotate_left
  · intro w hSw
    (try dsimp only at hSw)
    go_simp
    try with_reducible rfl
  try simp only [Act.put, List.setIfInBounds_toArray, List.set_cons_zero, List.set_cons_succ]
  refine wpAnyH_take (i := 1) (oi := { dst := Option.some 7, op := Op.nilCheck (Operand.tmp 6), type := 0, pos := "queue.go:22", after := #[{ on := 0, ground := Ground.data }], guard := Option.none }) (v := ?_) rfl (by kernel_rfl) (by kernel_rfl) (by kernel_rfl) (fun _ _ _ h => h) (Or.inl ⟨by rfl, ?_⟩) (by assumption) ?_
  rotate_left
  · intro w hSw
    (try dsimp only at hSw)
    go_simp
    try with_reducible rfl
  try simp only [Act.put, List.setIfInBounds_toArray, List.set_cons_zero, List.set_cons_succ]
  refine wpAnyH_take (i := 2) (oi := { dst := Option.some 8, op := Op.fieldAddr 60 (Operand.tmp 7) 0, type := 0, pos := "queue.go:22", after := #[{ on := 1, ground := Ground.data }], guard := Option.none }) (v := ?_) rfl (by kernel_rfl) (by kernel_rfl) (by kernel_rfl) (fun _ _ _ h => h) (Or.inl ⟨by rfl, ?_⟩) (by assumption) ?_
  rotate_left
  · intro w hSw
    (try dsimp only at hSw)
    go_simp
    try with_reducible rfl
  try simp only [Act.put, List.setIfInBounds_toArray, List.set_cons_zero, List.set_cons_succ]
  refine wpAnyH_take (i := 3) (oi := { dst := Option.some 9, op := Op.load 55 (Operand.tmp 8), type := 55, pos := "queue.go:22", after := #[{ on := 2, ground := Ground.data }], guard := Option.none }) (v := ?_) rfl (by kernel_rfl) (by kernel_rfl) (by kernel_rfl) (fun _ _ _ h => h) (Or.inl ⟨by rfl, ?_⟩) (by assumption) ?_
  rotate_left
  · intro w hSw
    (try dsimp only at hSw)
    go_simp
    try with_reducible rfl
  try simp only [Act.put, List.setIfInBounds_toArray, List.set_cons_zero, List.set_cons_succ]
  refine wpAnyH_take (i := 4) (oi := { dst := Option.some 10, op := Op.load 33 (Operand.tmp 4), type := 33, pos := "queue.go:22", after := #[], guard := Option.none }) (v := ?_) rfl (by kernel_rfl) (by kernel_rfl) (by kernel_rfl) (fun _ _ _ h => h) (Or.inl ⟨by rfl, ?_⟩) (by assumption) ?_
  rotate_left
  · intro w hSw
    (try dsimp only at hSw)
    go_simp
    try with_reducible rfl
  try simp only [Act.put, List.setIfInBounds_toArray, List.set_cons_zero, List.set_cons_succ]
  refine wpAnyH_take (i := 5) (oi := { dst := Option.some 11, op := Op.move (Operand.tmp 0), type := 25, pos := "queue.go:22", after := #[], guard := Option.none }) (v := ?_) rfl (by kernel_rfl) (by kernel_rfl) (by kernel_rfl) (fun _ _ _ h => h) (Or.inl ⟨by rfl, ?_⟩) (by assumption) ?_
  rotate_left
  · intro w hSw
    (try dsimp only at hSw)
    go_simp
    try with_reducible rfl
  try simp only [Act.put, List.setIfInBounds_toArray, List.set_cons_zero, List.set_cons_succ]
  refine wpAnyH_take (i := 6) (oi := { dst := Option.some 12, op := Op.load 33 (Operand.tmp 4), type := 33, pos := "queue.go:22", after := #[], guard := Option.none }) (v := ?_) rfl (by kernel_rfl) (by kernel_rfl) (by kernel_rfl) (fun _ _ _ h => h) (Or.inl ⟨by rfl, ?_⟩) (by assumption) ?_
  rotate_left
  · intro w hSw
    (try dsimp only at hSw)
    go_simp
    try with_reducible rfl
  try simp only [Act.put, List.setIfInBounds_toArray, List.set_cons_zero, List.set_cons_succ]
  refine wpAnyH_take (i := 8) (oi := { dst := Option.some 14, op := Op.move (Operand.tmp 2), type := 3, pos := "queue.go:22", after := #[], guard := Option.none }) (v := ?_) rfl (by kernel_rfl) (by kernel_rfl) (by kernel_rfl) (fun _ _ _ h => h) (Or.inl ⟨by rfl, ?_⟩) (by assumption) ?_
  rotate_left
  · intro w hSw
    (try dsimp only at hSw)
    go_simp
    try with_reducible rfl
  try simp only [Act.put, List.setIfInBounds_toArray, List.set_cons_zero, List.set_cons_succ]
  refine wpAnyH_ready (rs := [7]) (by kernel_rfl) (by simp) ?_
  refine AllReadyH.cons (o := { dst := Option.some 13, op := Op.call { callee := Callee.value (Operand.func 28), args := #[Operand.tmp 11, Operand.tmp 12], argTypes := #[25, 33] }, type := 3, pos := "queue.go:22", after := #[{ on := 5, ground := Ground.data }, { on := 6, ground := Ground.data }], guard := Option.none }) rfl (fun K hK => ?_) AllReadyH.nil
  go_simp
  refine (lane_any qb _ A x av n cap W1 HQ1.out.hd HQ1.out.rd HQ1.out.len HNN.out.2).mono ?_
  rintro en w2 ⟨rfl, hb2⟩
  have HQ2 : Hid (QQ w2 qb hb mb B rv l F av n cap A) := HQ1.out.below hb2
  have HB2 : Hid (Below w.heap.size w w2) := below_end HB1.out hb2
  replace t3 := three_below hb2 t3
  replace c0 := cell_below hb2 c0
  clear HQ1 HB1 hb2
  go_wp2_with fail
  refine hK.out _ _ ⟨c0, t3⟩ (fun hHeld => ?_)
  clear hK K
  try simp only [Act.put, List.setIfInBounds_toArray, List.set_cons_zero, List.set_cons_succ]
  refine wpAnyH_take (i := 9) (oi := { dst := Option.some 15, op := Op.build 58 #[(0, Operand.tmp 10), (1, Operand.tmp 13), (2, Operand.tmp 14)], type := 58, pos := "queue.go:22", after := #[{ on := 4, ground := Ground.data }, { on := 7, ground := Ground.data }, { on := 8, ground := Ground.data }], guard := Option.none }) (v := ?_) rfl (by kernel_rfl) (by kernel_rfl) (by kernel_rfl) (fun _ _ _ h => h) (Or.inl ⟨by rfl, ?_⟩) (by assumption) ?_
  rotate_left
  · intro w hSw
    (try dsimp only at hSw)
    go_simp
    try with_reducible rfl
  try simp only [Act.put, List.setIfInBounds_toArray, List.set_cons_zero, List.set_cons_succ]
  refine wpAnyH_ready (rs := [10]) (by kernel_rfl) (by simp) ?_
  refine AllReadyH.cons (o := { dst := Option.some 16, op := Op.call { callee := Callee.value (Operand.func 27), args := #[Operand.tmp 9, Operand.tmp 15], argTypes := #[55, 58] }, type := 0, pos := "queue.go:22", after := #[{ on := 3, ground := Ground.data }, { on := 9, ground := Ground.data }, { on := 7, ground := Ground.chain }], guard := Option.none }) rfl (fun K hK => ?_) AllReadyH.nil
  go_simp
  refine (put_any hb mb B rv l F ⟨x.s, x.r, x.c, lnQ A x, lv⟩ w2 HQ2.out.h HNN.out.1 (Nat.le_trans HBB.out HB2.out.size)).mono ?_
  rintro en w3 ⟨rv3, l3, F3, rfl, h3, p3, fr3, hz3⟩
  have H3 : Hid (QPutP w qb hb mb B rv l ⟨x.s, x.r, x.c, lnQ A x, lv⟩ av n cap A (.returned (.tuple #[])) w3) := HQ2.out.put HB2.out h3 p3 fr3 hz3
  have c03 : w3.cell? ⟨qb, 0, none⟩ = some (.pointer (some ⟨hb, 0, none⟩)) := fr3.cell c0 (HQ2.out.nin HQ2.out.nq)
  have t33 : Three w3 cb (.int .i64 x.s) (.int .i64 x.r) (.int .i64 x.c) := three_fr fr3 (HQ2.out.nin HCB.out) t3
  clear HQ2 HB2 h3 p3 fr3 hz3
  go_wp2_with fail
  refine hK.out _ _ ⟨c03, t33⟩ (fun hHeld => ?_)
  clear hK K
  try simp only [Act.put, List.setIfInBounds_toArray, List.set_cons_zero, List.set_cons_succ]
  refine wpAnyH_done (by kernel_rfl) ?_ _
  clear hHeld

  go_wp2
  go_end0
  exact H3.out
end Go.Proofs.Ytpbjmhcpaeillaa
