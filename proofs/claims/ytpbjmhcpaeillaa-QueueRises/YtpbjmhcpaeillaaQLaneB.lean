/- Queues: which lane a cell waits in: the call. -/

import Derived.Test.YtpbjmhcpaeillaaQLane
namespace Go.Proofs.Ytpbjmhcpaeillaa
open Go.RowKit
set_option linter.unusedVariables false

theorem contains_any (A : List Wpl.Ar) (x : Wpl.Cl) (cb : Nat) (av : Option Addr) (n cap : Nat) (w : World) (h : AtL w cb [.int .i64 x.s, .int .i64 x.r, .int .i64 x.c]) (hr : RdQ w av A) (hn : A.length = n) (hN : True → n ≤ 1000000000) :
    Calls Try.prog 53 #[.slice av n cap, .func (.func 54) #[] #[.pointer (some ⟨cb, 0, none⟩)]] w fun en w' => en = .returned (.bool (seeQ A x)) ∧ Below w.heap.size w w' := by
  have IX := index_any A x cb av n cap w h hr hn hN
  clear h hr hn hN
  go_enter Try.func53, Try.ntmps53
  go_wp2_with fail
  refine IX.mono ?_
  rintro en w1 ⟨⟨k, rfl, hk⟩, hb1⟩
  have HK : Hid (decide (k ≥ 0) = seeQ A x) := hk
  clear hk IX
  go_wp2_with fail
  go_ret
  exact ⟨by rw [← HK.out]; rfl, hb1⟩
theorem inAny_any (A : List Wpl.Ar) (x : Wpl.Cl) (av : Option Addr) (n cap : Nat) (w : World) (hr : RdQ w av A) (hn : A.length = n) (hN : True → n ≤ 1000000000) :
    Calls Try.prog 44 #[.slice av n cap, .agg #[.int .i64 x.s, .int .i64 x.r, .int .i64 x.c]] w fun en w' => en = .returned (.bool (seeQ A x)) ∧ Below w.heap.size w w' := by
  have hb0 := ball (Below.refl _ w) (.cells #[.int .i64 x.s, .int .i64 x.r, .int .i64 x.c] 33)
  have p := AtL.new0 w 33 [.int .i64 x.s, .int .i64 x.r, .int .i64 x.c]
  have CN := contains_any A x w.heap.size av n cap (w.alloc (.cells #[.int .i64 x.s, .int .i64 x.r, .int .i64 x.c] 33)) p (hr.below hb0) hn hN
  obtain ⟨q, hq⟩ : ∃ q, seeQ A x = q := ⟨_, rfl⟩
  rw [hq] at CN ⊢
  clear hr hn hN p hq
  go_enter Try.func44, Try.ntmps44
  go_upto_region 1 with fail
  generalize w.alloc (.cells #[.int .i64 x.s, .int .i64 x.r, .int .i64 x.c] 33) = W0 at *
  go_wp2_with fail
  refine CN.mono ?_
  rintro en w1 ⟨rfl, hb1⟩
  go_wp2
  go_ret
  exact ⟨rfl, below_end hb0 hb1⟩
theorem lane_any (qb : Nat) (pw : Value) (A : List Wpl.Ar) (x : Wpl.Cl) (av : Option Addr) (n cap : Nat) (w : World) (h : AtL w qb [pw, .slice av n cap]) (hr : RdQ w av A) (hn : A.length = n) (hN : True → n ≤ 1000000000) :
    Calls Try.prog 28 #[.pointer (some ⟨qb, 0, none⟩), .agg #[.int .i64 x.s, .int .i64 x.r, .int .i64 x.c]] w fun en w' => en = .returned (.int .i64 (lnQ A x)) ∧ Below w.heap.size w w' := by
  have hb0 := ball (Below.refl _ w) (.cells #[.int .i64 x.s, .int .i64 x.r, .int .i64 x.c] 33)
  have p := AtL.f3 (AtL.new0 w 33 [.int .i64 x.s, .int .i64 x.r, .int .i64 x.c])
  have hbd := hb0.drew
  have CN := inAny_any A x av n cap (w.alloc (.cells #[.int .i64 x.s, .int .i64 x.r, .int .i64 x.c] 33)).drew (hr.below hbd) hn hN
  obtain ⟨_, c1, _, _⟩ := (AtL.below hb0 h).two
  obtain ⟨q, hq⟩ : ∃ q, seeQ A x = q := ⟨_, rfl⟩
  have HQ : Hid (lnQ A x = bif q then 0 else 1) := by show _ = _; unfold lnQ; rw [hq]
  rw [hq] at CN
  clear h hr hn hN hq
  go_enter Try.func28, Try.ntmps28
  go_upto_region 1 with fail
  generalize w.alloc (.cells #[.int .i64 x.s, .int .i64 x.r, .int .i64 x.c] 33) = W0 at *
  obtain ⟨p0, p1, p2⟩ := p
  have hb9 := (Below.refl W0.heap.size W0).drew
  refine wp_region_held_drew (S := fun W => W.cell? ⟨qb, 1, none⟩ = some (.slice av n cap) ∧ Three W w.heap.size (.int .i64 x.s) (.int .i64 x.r) (.int .i64 x.c)) (by kernel_rfl) ⟨cell_below hb9 c1, three_below hb9 ⟨p0, p1, p2⟩⟩ (fun hHeld => ?_)
  replace c1 := cell_below hb9 c1
  have p3 : Three W0.drew w.heap.size (.int .i64 x.s) (.int .i64 x.r) (.int .i64 x.c) := three_below hb9 ⟨p0, p1, p2⟩
  clear hb9 p0 p1 p2
  generalize W0.drew = W1 at *
  refine wpAnyH_take (i := 0) (oi := { dst := Option.some 5, op := Op.move (Operand.tmp 0), type := 25, pos := "queue.go:63", after := #[], guard := Option.none }) (v := ?_) rfl (by kernel_rfl) (by kernel_rfl) (by kernel_rfl) (fun _ _ _ h => h) (Or.inl ⟨by rfl, ?_⟩) (by assumption) ?_
  rotate_left
  · intro w hSw
    (try dsimp only at hSw)
    go_simp
    try with_reducible rfl
  try simp only [Act.put, List.setIfInBounds_toArray, List.set_cons_zero, List.set_cons_succ]
  refine wpAnyH_take (i := 1) (oi := { dst := Option.some 6, op := Op.nilCheck (Operand.tmp 5), type := 0, pos := "queue.go:63", after := #[{ on := 0, ground := Ground.data }], guard := Option.none }) (v := ?_) rfl (by kernel_rfl) (by kernel_rfl) (by kernel_rfl) (fun _ _ _ h => h) (Or.inl ⟨by rfl, ?_⟩) (by assumption) ?_
  rotate_left
  · intro w hSw
    (try dsimp only at hSw)
    go_simp
    try with_reducible rfl
  try simp only [Act.put, List.setIfInBounds_toArray, List.set_cons_zero, List.set_cons_succ]
  refine wpAnyH_take (i := 2) (oi := { dst := Option.some 7, op := Op.fieldAddr 60 (Operand.tmp 6) 1, type := 0, pos := "queue.go:63", after := #[{ on := 1, ground := Ground.data }], guard := Option.none }) (v := ?_) rfl (by kernel_rfl) (by kernel_rfl) (by kernel_rfl) (fun _ _ _ h => h) (Or.inl ⟨by rfl, ?_⟩) (by assumption) ?_
  rotate_left
  · intro w hSw
    (try dsimp only at hSw)
    go_simp
    try with_reducible rfl
  try simp only [Act.put, List.setIfInBounds_toArray, List.set_cons_zero, List.set_cons_succ]
  refine wpAnyH_take (i := 3) (oi := { dst := Option.some 8, op := Op.load 29 (Operand.tmp 7), type := 29, pos := "queue.go:63", after := #[{ on := 2, ground := Ground.data }], guard := Option.none }) (v := ?_) rfl (by kernel_rfl) (by kernel_rfl) (by kernel_rfl) (fun _ _ _ h => h) (Or.inl ⟨by rfl, ?_⟩) (by assumption) ?_
  rotate_left
  · intro w hSw
    (try dsimp only at hSw)
    go_simp
    try with_reducible rfl
  try simp only [Act.put, List.setIfInBounds_toArray, List.set_cons_zero, List.set_cons_succ]
  refine wpAnyH_take (i := 4) (oi := { dst := Option.some 9, op := Op.load 33 (Operand.tmp 3), type := 33, pos := "queue.go:63", after := #[], guard := Option.none }) (v := ?_) rfl (by kernel_rfl) (by kernel_rfl) (by kernel_rfl) (fun _ _ _ h => h) (Or.inl ⟨by rfl, ?_⟩) (by assumption) ?_
  rotate_left
  · intro w hSw
    (try dsimp only at hSw)
    go_simp
    try with_reducible rfl
  try simp only [Act.put, List.setIfInBounds_toArray, List.set_cons_zero, List.set_cons_succ]
  refine wpAnyH_ready (rs := [5]) (by kernel_rfl) (by simp) ?_
  refine AllReadyH.cons (o := { dst := Option.some 10, op := Op.call { callee := Callee.value (Operand.func 44), args := #[Operand.tmp 8, Operand.tmp 9], argTypes := #[29, 33] }, type := 4, pos := "queue.go:63", after := #[{ on := 3, ground := Ground.data }, { on := 4, ground := Ground.data }], guard := Option.none }) rfl (fun K hK => ?_) AllReadyH.nil
  go_simp
  refine CN.mono ?_
  rintro en w1 ⟨rfl, hb1⟩
  clear CN
  go_wp2_with fail
  refine hK.out _ _ ⟨cell_below hb1 c1, three_below hb1 p3⟩ (fun hHeld => ?_)
  clear hK K hHeld
  try simp only [Act.put, List.setIfInBounds_toArray, List.set_cons_zero, List.set_cons_succ]
  refine wpAnyH_done (by kernel_rfl) ?_ _
  cases q with
  | true =>
    go_wp2
    go_ret
    exact ⟨by rw [HQ.out]; rfl, below_end hbd hb1⟩
  | false =>
    go_wp2
    go_ret
    exact ⟨by rw [HQ.out]; rfl, below_end hbd hb1⟩
/-- A queue: its block qb, its heap, what is seen. -/
structure QQ (w : World) (qb hb mb B : Nat) (rv : Value) (l : List Wq.Wr) (F : List (Wpl.Cl × Int)) (av : Option Addr) (n cap : Nat) (A : List Wpl.Ar) : Prop where
  hd : AtL w qb [.pointer (some ⟨hb, 0, none⟩), .slice av n cap]
  h : QH w hb mb B rv l F
  rd : RdQ w av A
  len : A.length = n
  al : ∀ bb off, av = some ⟨bb, off, none⟩ → bb < w.heap.size
  ab : ∀ bb off, av = some ⟨bb, off, none⟩ → bb ≠ hb ∧ bb ≠ mb ∧ bb ≠ qb ∧ ∀ g, rv.ownBlock = some g → bb ≠ g
  nq : qb ≠ hb ∧ qb ≠ mb ∧ ∀ g, rv.ownBlock = some g → qb ≠ g
theorem len_any (qb hb mb B : Nat) (rv : Value) (l : List Wq.Wr) (F : List (Wpl.Cl × Int)) (av : Option Addr) (n cap : Nat) (A : List Wpl.Ar) (w : World) (h : QQ w qb hb mb B rv l F av n cap A) :
    Calls Try.prog 21 #[.pointer (some ⟨qb, 0, none⟩)] w fun en w' => en = .returned (.int .i64 (l.length : Int)) ∧ Below w.heap.size w w' := by
  have SZ := size_any hb mb B rv l F w h.h.q
  obtain ⟨c0, _, _, _⟩ := h.hd.two
  clear h
  go_enter Try.func21, Try.ntmps21
  go_wp2_with fail
  refine SZ.mono ?_
  rintro en w1 ⟨rfl, hb1⟩
  go_wp2
  go_ret
  exact ⟨rfl, hb1⟩
theorem new_any (w : World) : Calls Try.prog 10 #[] w fun en w' => en = .returned (.pointer (some ⟨w.heap.size + 2, 0, none⟩)) ∧ QQ w' (w.heap.size + 2) (w.heap.size + 1) w.heap.size w.heap.size (.slice none 0 0) [] [] none 0 0 [] ∧ Below w.heap.size w w' ∧ w'.heap.size = w.heap.size + 3 := by
  have NH := newHeap_any w
  go_enter Try.func10, Try.ntmps10
  go_wp2_with fail
  refine NH.mono ?_
  rintro en w1 ⟨rfl, h1, hb1, hs1⟩
  have hb2 := ball (Below.refl _ w1) (.cells #[.pointer (some ⟨w.heap.size + 1, 0, none⟩), .slice none 0 0] 60)
  have p := AtL.new0 w1 60 [.pointer (some ⟨w.heap.size + 1, 0, none⟩), .slice none 0 0]
  have HE : Hid (QQ (w1.alloc (.cells #[.pointer (some ⟨w.heap.size + 1, 0, none⟩), .slice none 0 0] 60)) (w.heap.size + 2) (w.heap.size + 1) w.heap.size w.heap.size (.slice none 0 0) [] [] none 0 0 [] ∧ Below w.heap.size w (w1.alloc (.cells #[.pointer (some ⟨w.heap.size + 1, 0, none⟩), .slice none 0 0] 60)) ∧ (w1.alloc (.cells #[.pointer (some ⟨w.heap.size + 1, 0, none⟩), .slice none 0 0] 60)).heap.size = w.heap.size + 3) := by
    rw [hs1] at p
    exact ⟨⟨p, ⟨h1.q.below hb2, h1.f, h1.o⟩, (fun i a ha => by simp at ha), rfl, (fun bb off e => by cases e), (fun bb off e => by cases e), (by omega), (by omega), (fun g e => by cases e)⟩, below_end hb1 hb2, by simp [hs1]⟩
  clear NH h1 hb1 hb2 p
  go_wp2_with fail
  go_ret
  exact ⟨by rw [← hs1]; rfl, HE.out⟩
end Go.Proofs.Ytpbjmhcpaeillaa
