/- Queues: is all told alike? -/

import Derived.Test.YtpbjmhcpaeillaaQRefD
import Derived.Test.YtpbjmhcpaeillaaQStD
import Derived.Test.YtpbjmhcpaeillaaQLawFre
namespace Go.Proofs.Ytpbjmhcpaeillaa
open Go.RowKit
set_option linter.unusedVariables false

theorem nn_first {B : Nat} {w : World} {qb : Nat} {l : List Wq.Wr} {A : List Wpl.Ar} {S U : List Nat} (h : Qn B w qb l A S U) :
    Calls Try.prog 20 #[.pointer (some ⟨qb, 0, none⟩)] w fun en w' => en = .returned (.tuple #[.agg #[.int .i64 (hdW (Wq.srt l)).s, .int .i64 (hdW (Wq.srt l)).r, .int .i64 (hdW (Wq.srt l)).c], .bool (neQ (Wq.srt l))]) ∧ Below w.heap.size w w' := by
  obtain ⟨hb, mb, rv, l', F, av, n, cap, e, eu, hq, hp, hB, h1, h2, h3⟩ := h
  have e1 : hdW (Wq.srt l) = hdW l' := by rw [heap_first hq.h.o, Wq.srt_one hp]
  have e2 : neQ (Wq.srt l) = neQ l' := by rw [neQ_len, neQ_len, Wq.srt_len, hp.length_eq]
  rw [e1, e2]
  exact qfirst_any qb hb mb _ rv l' F av n cap A w hq
theorem nn_len {B : Nat} {w : World} {qb : Nat} {l : List Wq.Wr} {A : List Wpl.Ar} {S U : List Nat} (h : Qn B w qb l A S U) :
    Calls Try.prog 21 #[.pointer (some ⟨qb, 0, none⟩)] w fun en w' => en = .returned (.int .i64 (l.length : Int)) ∧ Below w.heap.size w w' := by
  obtain ⟨hb, mb, rv, l', F, av, n, cap, e, eu, hq, hp, hB, h1, h2, h3⟩ := h
  rw [← hp.length_eq]
  exact len_any qb hb mb _ rv l' F av n cap A w hq
set_option maxRecDepth 100000 in
set_option maxHeartbeats 16000000 in
theorem looks_any {B : Nat} {w : World} {qb db : Nat} {l : List Wq.Wr} {A : List Wpl.Ar} {Sq Uq : List Nat} {R : List (Wpl.Cl × Int)} {a1 : Option Addr} {n c1 : Nat} {a2 : Option Addr} {m c2 : Nat} (x : Wpl.Cl) (hq : Qn B w qb l A Sq Uq) (hd : Dr w db R A a1 n c1 a2 m c2) (hl : l = R.map (wrR A)) (hN : True → n ≤ 1000000000) (hM : True → m ≤ 1000000000) :
    Calls Try.prog 17 #[.pointer (some ⟨qb, 0, none⟩), .pointer (some ⟨db, 0, none⟩), .agg #[.int .i64 x.s, .int .i64 x.r, .int .i64 x.c]] w fun en w' => en = .returned (.bool true) ∧ Below w.heap.size w w' := by
  have hb0 := ball (Below.refl _ w) (.cells #[.int .i64 x.s, .int .i64 x.r, .int .i64 x.c] 33)
  have HQ0 : Hid (Qn B (w.alloc (.cells #[.int .i64 x.s, .int .i64 x.r, .int .i64 x.c] 33)) qb l A Sq Uq) := hq.below hb0
  have HD0 : Hid (Dr (w.alloc (.cells #[.int .i64 x.s, .int .i64 x.r, .int .i64 x.c] 33)) db R A a1 n c1 a2 m c2) := hd.below hb0
  have HB0 : Hid (Below w.heap.size w (w.alloc (.cells #[.int .i64 x.s, .int .i64 x.r, .int .i64 x.c] 33))) := hb0
  have t3 := AtL.f3 (AtL.new0 w 33 [.int .i64 x.s, .int .i64 x.r, .int .i64 x.c])
  have HLR : Hid (l = R.map (wrR A)) := hl
  have HLN : Hid (l.length = n) := by show _ = _; rw [hl, List.length_map]; exact hd.ll
  obtain ⟨C, hC⟩ : ∃ C, (Wq.srt l).map clW = C := ⟨_, rfl⟩
  have HCC : Hid ((Wq.srt l).map clW = C ∧ C.length = n) := ⟨hC, by rw [← hC, List.length_map, Wq.srt_len]; exact HLN.out⟩
  have HND : Hid ((l.map clW).Nodup) := hq.nd
  obtain ⟨y, hy⟩ : ∃ y, hdW (Wq.srt l) = y := ⟨_, rfl⟩
  obtain ⟨NN, hNN⟩ : ∃ NN, neQ (Wq.srt l) = NN := ⟨_, rfl⟩
  have HY : Hid (hdW (Wq.srt l) = y ∧ neQ (Wq.srt l) = NN) := ⟨hy, hNN⟩
  clear hq hd hl hC hy hNN hb0
  go_enter Try.func17, Try.ntmps17
  go_upto_region 1 with fail
  generalize w.alloc (.cells #[.int .i64 x.s, .int .i64 x.r, .int .i64 x.c] 33) = W0 at *
  have F1 := nn_first HQ0.out
  rw [HY.out.1, HY.out.2] at F1
  go_wp2_with fail
  refine F1.mono ?_
  rintro en w1 ⟨rfl, hb1⟩
  have ba1 := ball (Below.refl _ w1) (.cells #[.int .i64 y.s, .int .i64 y.r, .int .i64 y.c] 33)
  have t7 := AtL.f3 (AtL.new0 w1 33 [.int .i64 y.s, .int .i64 y.r, .int .i64 y.c])
  have HQ1 : Hid (Qn B (w1.alloc (.cells #[.int .i64 y.s, .int .i64 y.r, .int .i64 y.c] 33)) qb l A Sq Uq) := (HQ0.out.below hb1).below ba1
  have HD1 : Hid (Dr (w1.alloc (.cells #[.int .i64 y.s, .int .i64 y.r, .int .i64 y.c] 33)) db R A a1 n c1 a2 m c2) := (HD0.out.below hb1).below ba1
  have HB1 : Hid (Below w.heap.size w (w1.alloc (.cells #[.int .i64 y.s, .int .i64 y.r, .int .i64 y.c] 33))) := below_end (below_end HB0.out hb1) ba1
  replace t3 := three_below ba1 (three_below hb1 t3)
  clear F1 hb1 ba1 HQ0 HD0 HB0
  go_upto_region 2 with fail
  generalize w1.alloc (.cells #[.int .i64 y.s, .int .i64 y.r, .int .i64 y.c] 33) = W1 at *
  generalize hp7 : w1.heap.size = p7 at *
  clear hp7
  have F2 := rfirst_any db R A a1 n c1 a2 m c2 W1 HD1.out hN hM
  rw [← HLR.out, HY.out.1, HY.out.2] at F2
  go_wp2_with fail
  refine F2.mono ?_
  rintro en w2 ⟨rfl, hb2⟩
  have ba2 := ball (Below.refl _ w2) (.cells #[.int .i64 y.s, .int .i64 y.r, .int .i64 y.c] 33)
  have t9 := AtL.f3 (AtL.new0 w2 33 [.int .i64 y.s, .int .i64 y.r, .int .i64 y.c])
  have HQ2 : Hid (Qn B (w2.alloc (.cells #[.int .i64 y.s, .int .i64 y.r, .int .i64 y.c] 33)) qb l A Sq Uq) := (HQ1.out.below hb2).below ba2
  have HD2 : Hid (Dr (w2.alloc (.cells #[.int .i64 y.s, .int .i64 y.r, .int .i64 y.c] 33)) db R A a1 n c1 a2 m c2) := (HD1.out.below hb2).below ba2
  have HB2 : Hid (Below w.heap.size w (w2.alloc (.cells #[.int .i64 y.s, .int .i64 y.r, .int .i64 y.c] 33))) := below_end (below_end HB1.out hb2) ba2
  replace t3 := three_below ba2 (three_below hb2 t3)
  replace t7 := three_below ba2 (three_below hb2 t7)
  clear F2 hb2 ba2 HQ1 HD1 HB1
  go_upto_region 3 with fail
  generalize w2.alloc (.cells #[.int .i64 y.s, .int .i64 y.r, .int .i64 y.c] 33) = W2 at *
  generalize hp9 : w2.heap.size = p9 at *
  clear hp9
  have L1 := nn_level HQ2.out x
  obtain ⟨z, hz⟩ : ∃ z, (atW x l).lv = z := ⟨_, rfl⟩
  obtain ⟨hs, hhs⟩ : ∃ hs, hasW x l = hs := ⟨_, rfl⟩
  have HZ : Hid ((atW x l).lv = z ∧ hasW x l = hs) := ⟨hz, hhs⟩
  rw [hz, hhs] at L1
  clear hz hhs
  obtain ⟨f0, f1, f2⟩ := t3
  go_wp2_with fail
  refine L1.mono ?_
  rintro en w3 ⟨rfl, hb3⟩
  have HQ3 : Hid (Qn B w3 qb l A Sq Uq) := HQ2.out.below hb3
  have HD3 : Hid (Dr w3 db R A a1 n c1 a2 m c2) := HD2.out.below hb3
  have HB3 : Hid (Below w.heap.size w w3) := below_end HB2.out hb3
  replace t7 := three_below hb3 t7
  replace t9 := three_below hb3 t9
  replace f0 := cell_below hb3 f0
  replace f1 := cell_below hb3 f1
  replace f2 := cell_below hb3 f2
  have L2 := rlevel_any db R A a1 n c1 a2 m c2 x w3 HD3.out hN
  clear L1 hb3 HQ2 HD2 HB2
  go_wp2_with fail
  refine L2.mono ?_
  rintro en W0 ⟨⟨z2, q2, rfl, hq2⟩, hb4⟩
  have HQ : Hid (Qn B W0 qb l A Sq Uq) := HQ3.out.below hb4
  have HD : Hid (Dr W0 db R A a1 n c1 a2 m c2) := HD3.out.below hb4
  have HB : Hid (Below w.heap.size w W0) := below_end HB3.out hb4
  replace t7 := three_below hb4 t7
  replace t9 := three_below hb4 t9
  have hE : z2 = z ∧ q2 = hs := by
    have h1 := HZ.out
    rw [HLR.out] at h1
    have hnd := HND.out
    rw [HLR.out] at hnd
    rcases hq2 with ⟨e1, e2, hno⟩ | ⟨e1, p, hp, e2, e3⟩
    · have hno' : ∀ b ∈ R.map (wrR A), clW b ≠ x := fun b hb => by
        obtain ⟨p, hp, rfl⟩ := List.mem_map.1 hb
        exact hno p hp
      have h2 : hasW x (R.map (wrR A)) = false := by
        cases c : hasW x (R.map (wrR A)) with
        | false => rfl
        | true =>
          obtain ⟨b, hb, eb⟩ := hasW_iff.1 c
          exact absurd eb (hno' b hb)
      rw [atW_no hno', h2] at h1
      exact ⟨by rw [e2]; exact h1.1, by rw [e1]; exact h1.2⟩
    · have hm : wrR A p ∈ R.map (wrR A) := List.mem_map.2 ⟨p, hp, rfl⟩
      rw [atW_of hnd hm e2, hasW_iff.2 ⟨_, hm, e2⟩] at h1
      exact ⟨by rw [← e3]; exact h1.1, by rw [e1]; exact h1.2⟩
  obtain ⟨rfl, rfl⟩ := hE
  have eqy : ∀ w, (binOp .eql 33 (.agg #[.int .i64 y.s, .int .i64 y.r, .int .i64 y.c]) (.agg #[.int .i64 y.s, .int .i64 y.r, .int .i64 y.c])).run Try.prog w = .ok (.bool true) w := fun w => by
    have := eqCl_bin (clW y) (clW y) w
    rw [eqCl_iff.2 rfl] at this
    exact this
  clear L2 hb4 hq2 HQ3 HD3 HB3 f0 f1 f2 HZ HND
  go_upto_region 5 with fail
  have hb1 := (Below.refl W0.heap.size W0).drew
  obtain ⟨c0, _, _, _⟩ := HD.out.hd.two
  refine wp_region_held_drew (S := fun W => Three W p7 (.int .i64 y.s) (.int .i64 y.r) (.int .i64 y.c) ∧ Three W p9 (.int .i64 y.s) (.int .i64 y.r) (.int .i64 y.c) ∧ W.cell? ⟨db, 0, none⟩ = some (.slice a1 n c1)) (by kernel_rfl) ⟨three_below hb1 t7, three_below hb1 t9, cell_below hb1 c0⟩ (fun hHeld => ?_)
  have HQ1 : Hid (Qn B W0.drew qb l A Sq Uq) := HQ.out.below hb1
  have HD1 : Hid (Dr W0.drew db R A a1 n c1 a2 m c2) := HD.out.below hb1
  have HB1 : Hid (Below w.heap.size w W0.drew) := below_end HB.out hb1
  replace t7 := three_below hb1 t7
  replace t9 := three_below hb1 t9
  clear hb1 c0 HQ HD HB
  generalize W0.drew = W1 at *
  refine wpAnyH_take (i := 0) (oi := { dst := Option.some 37, op := Op.load 33 (Operand.tmp 7), type := 33, pos := "law.go:59", after := #[], guard := Option.none }) (v := ?_) rfl (by kernel_rfl) (by kernel_rfl) (by kernel_rfl) (fun _ _ _ h => h) (Or.inl ⟨by rfl, ?_⟩) (by assumption) ?_
  rotate_left
  · intro w hSw
    (try dsimp only at hSw)
    go_simp
    try with_reducible rfl
  try simp only [Act.put, List.setIfInBounds_toArray, List.set_cons_zero, List.set_cons_succ]
  refine wpAnyH_take (i := 1) (oi := { dst := Option.some 38, op := Op.load 33 (Operand.tmp 9), type := 33, pos := "law.go:59", after := #[], guard := Option.none }) (v := ?_) rfl (by kernel_rfl) (by kernel_rfl) (by kernel_rfl) (fun _ _ _ h => h) (Or.inl ⟨by rfl, ?_⟩) (by assumption) ?_
  rotate_left
  · intro w hSw
    (try dsimp only at hSw)
    go_simp
    try with_reducible rfl
  try simp only [Act.put, List.setIfInBounds_toArray, List.set_cons_zero, List.set_cons_succ]
  refine wpAnyH_take (i := 2) (oi := { dst := Option.some 39, op := Op.binOp BinOp.eql 33 (Operand.tmp 37) (Operand.tmp 38) 33, type := 4, pos := "law.go:59", after := #[{ on := 0, ground := Ground.data }, { on := 1, ground := Ground.data }], guard := Option.none }) (v := ?_) rfl (by kernel_rfl) (by kernel_rfl) (by kernel_rfl) (fun _ _ _ h => h) (Or.inl ⟨by rfl, ?_⟩) (by assumption) ?_
  rotate_left
  · intro w hSw
    (try dsimp only at hSw)
    go_simp
    try with_reducible rfl
  try simp only [Act.put, List.setIfInBounds_toArray, List.set_cons_zero, List.set_cons_succ]
  refine wpAnyH_take (i := 3) (oi := { dst := Option.some 40, op := Op.move (Operand.tmp 39), type := 4, pos := "law.go:59", after := #[{ on := 2, ground := Ground.data }], guard := Option.none }) (v := ?_) rfl (by kernel_rfl) (by kernel_rfl) (by kernel_rfl) (fun _ _ _ h => h) (Or.inl ⟨by rfl, ?_⟩) (by assumption) ?_
  rotate_left
  · intro w hSw
    (try dsimp only at hSw)
    go_simp
    try with_reducible rfl
  try simp only [Act.put, List.setIfInBounds_toArray, List.set_cons_zero, List.set_cons_succ]
  refine wpAnyH_take (i := 4) (oi := { dst := Option.some 41, op := Op.move (Operand.tmp 8), type := 4, pos := "law.go:59", after := #[{ on := 3, ground := Ground.guard }], guard := Option.some (3, Bool.true) }) (v := ?_) rfl (by kernel_rfl) (by kernel_rfl) (by kernel_rfl) (fun _ _ _ h => h) (Or.inl ⟨by rfl, ?_⟩) (by assumption) ?_
  rotate_left
  · intro w hSw
    (try dsimp only at hSw)
    go_simp
    try with_reducible rfl
  try simp only [Act.put, List.setIfInBounds_toArray, List.set_cons_zero, List.set_cons_succ]
  refine wpAnyH_take (i := 5) (oi := { dst := Option.some 42, op := Op.move (Operand.tmp 10), type := 4, pos := "law.go:59", after := #[{ on := 3, ground := Ground.guard }], guard := Option.some (3, Bool.true) }) (v := ?_) rfl (by kernel_rfl) (by kernel_rfl) (by kernel_rfl) (fun _ _ _ h => h) (Or.inl ⟨by rfl, ?_⟩) (by assumption) ?_
  rotate_left
  · intro w hSw
    (try dsimp only at hSw)
    go_simp
    try with_reducible rfl
  try simp only [Act.put, List.setIfInBounds_toArray, List.set_cons_zero, List.set_cons_succ]
  refine wpAnyH_take (i := 6) (oi := { dst := Option.some 43, op := Op.binOp BinOp.eql 4 (Operand.tmp 41) (Operand.tmp 42) 4, type := 4, pos := "law.go:59", after := #[{ on := 4, ground := Ground.data }, { on := 5, ground := Ground.data }, { on := 3, ground := Ground.guard }], guard := Option.some (3, Bool.true) }) (v := ?_) rfl (by kernel_rfl) (by kernel_rfl) (by kernel_rfl) (fun _ _ _ h => h) (Or.inl ⟨by rfl, ?_⟩) (by assumption) ?_
  rotate_left
  · intro w hSw
    (try dsimp only at hSw)
    go_simp
    try with_reducible rfl
  try simp only [Act.put, List.setIfInBounds_toArray, List.set_cons_zero, List.set_cons_succ]
  refine wpAnyH_take (i := 7) (oi := { dst := Option.some 44, op := Op.pick (Operand.tmp 40) (Operand.tmp 43) (Operand.const (Value.bool Bool.false)), type := 4, pos := "law.go:59", after := #[{ on := 3, ground := Ground.data }, { on := 6, ground := Ground.data }], guard := Option.none }) (v := ?_) rfl (by kernel_rfl) (by kernel_rfl) (by kernel_rfl) (fun _ _ _ h => h) (Or.inl ⟨by rfl, ?_⟩) (by assumption) ?_
  rotate_left
  · intro w hSw
    (try dsimp only at hSw)
    go_simp
    try with_reducible rfl
  try simp only [Act.put, List.setIfInBounds_toArray, List.set_cons_zero, List.set_cons_succ]
  refine wpAnyH_take (i := 8) (oi := { dst := Option.some 45, op := Op.move (Operand.tmp 44), type := 4, pos := "law.go:59", after := #[{ on := 7, ground := Ground.data }, { on := 3, ground := Ground.chain }], guard := Option.none }) (v := ?_) rfl (by kernel_rfl) (by kernel_rfl) (by kernel_rfl) (fun _ _ _ h => h) (Or.inl ⟨by rfl, ?_⟩) (by assumption) ?_
  rotate_left
  · intro w hSw
    (try dsimp only at hSw)
    go_simp
    try with_reducible rfl
  try simp only [Act.put, List.setIfInBounds_toArray, List.set_cons_zero, List.set_cons_succ]
  refine wpAnyH_take (i := 9) (oi := { dst := Option.some 46, op := Op.move (Operand.tmp 11), type := 3, pos := "law.go:59", after := #[{ on := 8, ground := Ground.guard }], guard := Option.some (8, Bool.true) }) (v := ?_) rfl (by kernel_rfl) (by kernel_rfl) (by kernel_rfl) (fun _ _ _ h => h) (Or.inl ⟨by rfl, ?_⟩) (by assumption) ?_
  rotate_left
  · intro w hSw
    (try dsimp only at hSw)
    go_simp
    try with_reducible rfl
  try simp only [Act.put, List.setIfInBounds_toArray, List.set_cons_zero, List.set_cons_succ]
  refine wpAnyH_take (i := 10) (oi := { dst := Option.some 47, op := Op.move (Operand.tmp 13), type := 3, pos := "law.go:59", after := #[{ on := 8, ground := Ground.guard }], guard := Option.some (8, Bool.true) }) (v := ?_) rfl (by kernel_rfl) (by kernel_rfl) (by kernel_rfl) (fun _ _ _ h => h) (Or.inl ⟨by rfl, ?_⟩) (by assumption) ?_
  rotate_left
  · intro w hSw
    (try dsimp only at hSw)
    go_simp
    try with_reducible rfl
  try simp only [Act.put, List.setIfInBounds_toArray, List.set_cons_zero, List.set_cons_succ]
  refine wpAnyH_take (i := 11) (oi := { dst := Option.some 48, op := Op.binOp BinOp.eql 3 (Operand.tmp 46) (Operand.tmp 47) 3, type := 4, pos := "law.go:59", after := #[{ on := 9, ground := Ground.data }, { on := 10, ground := Ground.data }, { on := 8, ground := Ground.guard }], guard := Option.some (8, Bool.true) }) (v := ?_) rfl (by kernel_rfl) (by kernel_rfl) (by kernel_rfl) (fun _ _ _ h => h) (Or.inl ⟨by rfl, ?_⟩) (by assumption) ?_
  rotate_left
  · intro w hSw
    (try dsimp only at hSw)
    go_simp
    try with_reducible rfl
  try simp only [Act.put, List.setIfInBounds_toArray, List.set_cons_zero, List.set_cons_succ]
  refine wpAnyH_take (i := 12) (oi := { dst := Option.some 49, op := Op.pick (Operand.tmp 45) (Operand.tmp 48) (Operand.const (Value.bool Bool.false)), type := 4, pos := "law.go:59", after := #[{ on := 8, ground := Ground.data }, { on := 11, ground := Ground.data }], guard := Option.none }) (v := ?_) rfl (by kernel_rfl) (by kernel_rfl) (by kernel_rfl) (fun _ _ _ h => h) (Or.inl ⟨by rfl, ?_⟩) (by assumption) ?_
  rotate_left
  · intro w hSw
    (try dsimp only at hSw)
    go_simp
    try with_reducible rfl
  try simp only [Act.put, List.setIfInBounds_toArray, List.set_cons_zero, List.set_cons_succ]
  refine wpAnyH_take (i := 13) (oi := { dst := Option.some 50, op := Op.move (Operand.tmp 49), type := 4, pos := "law.go:59", after := #[{ on := 12, ground := Ground.data }, { on := 8, ground := Ground.chain }], guard := Option.none }) (v := ?_) rfl (by kernel_rfl) (by kernel_rfl) (by kernel_rfl) (fun _ _ _ h => h) (Or.inl ⟨by rfl, ?_⟩) (by assumption) ?_
  rotate_left
  · intro w hSw
    (try dsimp only at hSw)
    go_simp
    try with_reducible rfl
  try simp only [Act.put, List.setIfInBounds_toArray, List.set_cons_zero, List.set_cons_succ]
  refine wpAnyH_take (i := 14) (oi := { dst := Option.some 51, op := Op.move (Operand.tmp 12), type := 4, pos := "law.go:59", after := #[{ on := 13, ground := Ground.guard }], guard := Option.some (13, Bool.true) }) (v := ?_) rfl (by kernel_rfl) (by kernel_rfl) (by kernel_rfl) (fun _ _ _ h => h) (Or.inl ⟨by rfl, ?_⟩) (by assumption) ?_
  rotate_left
  · intro w hSw
    (try dsimp only at hSw)
    go_simp
    try with_reducible rfl
  try simp only [Act.put, List.setIfInBounds_toArray, List.set_cons_zero, List.set_cons_succ]
  refine wpAnyH_take (i := 15) (oi := { dst := Option.some 52, op := Op.move (Operand.tmp 14), type := 4, pos := "law.go:59", after := #[{ on := 13, ground := Ground.guard }], guard := Option.some (13, Bool.true) }) (v := ?_) rfl (by kernel_rfl) (by kernel_rfl) (by kernel_rfl) (fun _ _ _ h => h) (Or.inl ⟨by rfl, ?_⟩) (by assumption) ?_
  rotate_left
  · intro w hSw
    (try dsimp only at hSw)
    go_simp
    try with_reducible rfl
  try simp only [Act.put, List.setIfInBounds_toArray, List.set_cons_zero, List.set_cons_succ]
  refine wpAnyH_take (i := 16) (oi := { dst := Option.some 53, op := Op.binOp BinOp.eql 4 (Operand.tmp 51) (Operand.tmp 52) 4, type := 4, pos := "law.go:59", after := #[{ on := 14, ground := Ground.data }, { on := 15, ground := Ground.data }, { on := 13, ground := Ground.guard }], guard := Option.some (13, Bool.true) }) (v := ?_) rfl (by kernel_rfl) (by kernel_rfl) (by kernel_rfl) (fun _ _ _ h => h) (Or.inl ⟨by rfl, ?_⟩) (by assumption) ?_
  rotate_left
  · intro w hSw
    (try dsimp only at hSw)
    go_simp
    try with_reducible rfl
  try simp only [Act.put, List.setIfInBounds_toArray, List.set_cons_zero, List.set_cons_succ]
  refine wpAnyH_take (i := 17) (oi := { dst := Option.some 54, op := Op.pick (Operand.tmp 50) (Operand.tmp 53) (Operand.const (Value.bool Bool.false)), type := 4, pos := "law.go:59", after := #[{ on := 13, ground := Ground.data }, { on := 16, ground := Ground.data }], guard := Option.none }) (v := ?_) rfl (by kernel_rfl) (by kernel_rfl) (by kernel_rfl) (fun _ _ _ h => h) (Or.inl ⟨by rfl, ?_⟩) (by assumption) ?_
  rotate_left
  · intro w hSw
    (try dsimp only at hSw)
    go_simp
    try with_reducible rfl
  try simp only [Act.put, List.setIfInBounds_toArray, List.set_cons_zero, List.set_cons_succ]
  refine wpAnyH_take (i := 18) (oi := { dst := Option.some 55, op := Op.move (Operand.tmp 54), type := 4, pos := "law.go:59", after := #[{ on := 17, ground := Ground.data }, { on := 13, ground := Ground.chain }], guard := Option.none }) (v := ?_) rfl (by kernel_rfl) (by kernel_rfl) (by kernel_rfl) (fun _ _ _ h => h) (Or.inl ⟨by rfl, ?_⟩) (by assumption) ?_
  rotate_left
  · intro w hSw
    (try dsimp only at hSw)
    go_simp
    try with_reducible rfl
  try simp only [Act.put, List.setIfInBounds_toArray, List.set_cons_zero, List.set_cons_succ]
  refine wpAnyH_take (i := 19) (oi := { dst := Option.some 56, op := Op.move (Operand.tmp 0), type := 25, pos := "law.go:59", after := #[{ on := 18, ground := Ground.guard }], guard := Option.some (18, Bool.true) }) (v := ?_) rfl (by kernel_rfl) (by kernel_rfl) (by kernel_rfl) (fun _ _ _ h => h) (Or.inl ⟨by rfl, ?_⟩) (by assumption) ?_
  rotate_left
  · intro w hSw
    (try dsimp only at hSw)
    go_simp
    try with_reducible rfl
  try simp only [Act.put, List.setIfInBounds_toArray, List.set_cons_zero, List.set_cons_succ]
  refine wpAnyH_take (i := 21) (oi := { dst := Option.some 58, op := Op.move (Operand.tmp 1), type := 27, pos := "law.go:59", after := #[{ on := 18, ground := Ground.guard }], guard := Option.some (18, Bool.true) }) (v := ?_) rfl (by kernel_rfl) (by kernel_rfl) (by kernel_rfl) (fun _ _ _ h => h) (Or.inl ⟨by rfl, ?_⟩) (by assumption) ?_
  rotate_left
  · intro w hSw
    (try dsimp only at hSw)
    go_simp
    try with_reducible rfl
  try simp only [Act.put, List.setIfInBounds_toArray, List.set_cons_zero, List.set_cons_succ]
  refine wpAnyH_take (i := 22) (oi := { dst := Option.some 59, op := Op.nilCheck (Operand.tmp 58), type := 0, pos := "law.go:59", after := #[{ on := 21, ground := Ground.data }, { on := 18, ground := Ground.guard }], guard := Option.some (18, Bool.true) }) (v := ?_) rfl (by kernel_rfl) (by kernel_rfl) (by kernel_rfl) (fun _ _ _ h => h) (Or.inl ⟨by rfl, ?_⟩) (by assumption) ?_
  rotate_left
  · intro w hSw
    (try dsimp only at hSw)
    go_simp
    try with_reducible rfl
  try simp only [Act.put, List.setIfInBounds_toArray, List.set_cons_zero, List.set_cons_succ]
  refine wpAnyH_take (i := 23) (oi := { dst := Option.some 60, op := Op.fieldAddr 31 (Operand.tmp 59) 0, type := 0, pos := "law.go:59", after := #[{ on := 22, ground := Ground.data }, { on := 18, ground := Ground.guard }], guard := Option.some (18, Bool.true) }) (v := ?_) rfl (by kernel_rfl) (by kernel_rfl) (by kernel_rfl) (fun _ _ _ h => h) (Or.inl ⟨by rfl, ?_⟩) (by assumption) ?_
  rotate_left
  · intro w hSw
    (try dsimp only at hSw)
    go_simp
    try with_reducible rfl
  try simp only [Act.put, List.setIfInBounds_toArray, List.set_cons_zero, List.set_cons_succ]
  refine wpAnyH_take (i := 24) (oi := { dst := Option.some 61, op := Op.load 28 (Operand.tmp 60), type := 28, pos := "law.go:59", after := #[{ on := 23, ground := Ground.data }, { on := 18, ground := Ground.guard }], guard := Option.some (18, Bool.true) }) (v := ?_) rfl (by kernel_rfl) (by kernel_rfl) (by kernel_rfl) (fun _ _ _ h => h) (Or.inl ⟨by rfl, ?_⟩) (by assumption) ?_
  rotate_left
  · intro w hSw
    (try dsimp only at hSw)
    go_simp
    try with_reducible rfl
  try simp only [Act.put, List.setIfInBounds_toArray, List.set_cons_zero, List.set_cons_succ]
  refine wpAnyH_take (i := 25) (oi := { dst := Option.some 62, op := Op.call { callee := Callee.builtin Builtin.len, args := #[Operand.tmp 61], argTypes := #[28] }, type := 3, pos := "law.go:59", after := #[{ on := 24, ground := Ground.data }, { on := 18, ground := Ground.guard }], guard := Option.some (18, Bool.true) }) (v := ?_) rfl (by kernel_rfl) (by kernel_rfl) (by kernel_rfl) (fun _ _ _ h => h) (Or.inl ⟨by rfl, ?_⟩) (by assumption) ?_
  rotate_left
  · intro w hSw
    (try dsimp only at hSw)
    go_simp
    try with_reducible rfl
  try simp only [Act.put, List.setIfInBounds_toArray, List.set_cons_zero, List.set_cons_succ]
  refine wpAnyH_ready (rs := [20]) (by kernel_rfl) (by simp) ?_
  refine AllReadyH.cons (o := { dst := Option.some 57, op := Op.call { callee := Callee.value (Operand.func 21), args := #[Operand.tmp 56], argTypes := #[25] }, type := 3, pos := "law.go:59", after := #[{ on := 19, ground := Ground.data }, { on := 18, ground := Ground.chain }, { on := 18, ground := Ground.guard }], guard := Option.some (18, Bool.true) }) rfl (fun K hK => ?_) AllReadyH.nil
  have CN := nn_len HQ1.out
  rw [HLN.out] at CN
  go_simp
  refine CN.mono ?_
  rintro en w2 ⟨rfl, hbn⟩
  have HQ2 : Hid (Qn B w2 qb l A Sq Uq) := HQ1.out.below hbn
  have HD2 : Hid (Dr w2 db R A a1 n c1 a2 m c2) := HD1.out.below hbn
  have HB2 : Hid (Below w.heap.size w w2) := below_end HB1.out hbn
  replace t7 := three_below hbn t7
  replace t9 := three_below hbn t9
  obtain ⟨c0, _, _, _⟩ := HD2.out.hd.two
  clear CN hbn HQ1 HD1 HB1
  go_wp2_with fail
  refine hK.out _ _ ⟨t7, t9, c0⟩ (fun hHeld => ?_)
  clear hK K c0
  try simp only [Act.put, List.setIfInBounds_toArray, List.set_cons_zero, List.set_cons_succ]
  refine wpAnyH_take (i := 26) (oi := { dst := Option.some 63, op := Op.binOp BinOp.eql 3 (Operand.tmp 57) (Operand.tmp 62) 3, type := 4, pos := "law.go:59", after := #[{ on := 20, ground := Ground.data }, { on := 25, ground := Ground.data }, { on := 18, ground := Ground.guard }], guard := Option.some (18, Bool.true) }) (v := ?_) rfl (by kernel_rfl) (by kernel_rfl) (by kernel_rfl) (fun _ _ _ h => h) (Or.inl ⟨by rfl, ?_⟩) (by assumption) ?_
  rotate_left
  · intro w hSw
    (try dsimp only at hSw)
    go_simp
    try with_reducible rfl
  try simp only [Act.put, List.setIfInBounds_toArray, List.set_cons_zero, List.set_cons_succ]
  refine wpAnyH_take (i := 27) (oi := { dst := Option.some 64, op := Op.pick (Operand.tmp 55) (Operand.tmp 63) (Operand.const (Value.bool Bool.false)), type := 4, pos := "law.go:59", after := #[{ on := 18, ground := Ground.data }, { on := 26, ground := Ground.data }], guard := Option.none }) (v := ?_) rfl (by kernel_rfl) (by kernel_rfl) (by kernel_rfl) (fun _ _ _ h => h) (Or.inl ⟨by rfl, ?_⟩) (by assumption) ?_
  rotate_left
  · intro w hSw
    (try dsimp only at hSw)
    go_simp
    try with_reducible rfl
  try simp only [Act.put, List.setIfInBounds_toArray, List.set_cons_zero, List.set_cons_succ]
  refine wpAnyH_take (i := 28) (oi := { dst := Option.some 65, op := Op.move (Operand.tmp 64), type := 4, pos := "law.go:59", after := #[{ on := 27, ground := Ground.data }, { on := 20, ground := Ground.chain }], guard := Option.none }) (v := ?_) rfl (by kernel_rfl) (by kernel_rfl) (by kernel_rfl) (fun _ _ _ h => h) (Or.inl ⟨by rfl, ?_⟩) (by assumption) ?_
  rotate_left
  · intro w hSw
    (try dsimp only at hSw)
    go_simp
    try with_reducible rfl
  try simp only [Act.put, List.setIfInBounds_toArray, List.set_cons_zero, List.set_cons_succ]
  refine wpAnyH_take (i := 29) (oi := { dst := Option.some 66, op := Op.move (Operand.tmp 0), type := 25, pos := "law.go:59", after := #[{ on := 28, ground := Ground.guard }], guard := Option.some (28, Bool.true) }) (v := ?_) rfl (by kernel_rfl) (by kernel_rfl) (by kernel_rfl) (fun _ _ _ h => h) (Or.inl ⟨by rfl, ?_⟩) (by assumption) ?_
  rotate_left
  · intro w hSw
    (try dsimp only at hSw)
    go_simp
    try with_reducible rfl
  try simp only [Act.put, List.setIfInBounds_toArray, List.set_cons_zero, List.set_cons_succ]
  refine wpAnyH_take (i := 31) (oi := { dst := Option.some 68, op := Op.move (Operand.tmp 1), type := 27, pos := "law.go:59", after := #[{ on := 28, ground := Ground.guard }], guard := Option.some (28, Bool.true) }) (v := ?_) rfl (by kernel_rfl) (by kernel_rfl) (by kernel_rfl) (fun _ _ _ h => h) (Or.inl ⟨by rfl, ?_⟩) (by assumption) ?_
  rotate_left
  · intro w hSw
    (try dsimp only at hSw)
    go_simp
    try with_reducible rfl
  try simp only [Act.put, List.setIfInBounds_toArray, List.set_cons_zero, List.set_cons_succ]
  refine wpAnyH_ready (rs := [30]) (by kernel_rfl) (by simp) ?_
  refine AllReadyH.cons (o := { dst := Option.some 67, op := Op.call { callee := Callee.value (Operand.func 19), args := #[Operand.tmp 66], argTypes := #[25] }, type := 44, pos := "law.go:59", after := #[{ on := 29, ground := Ground.data }, { on := 28, ground := Ground.chain }, { on := 28, ground := Ground.guard }], guard := Option.some (28, Bool.true) }) rfl (fun K hK => ?_) AllReadyH.nil
  have CN := nn_cells HQ2.out (fun _ => by have := HLN.out; have := hN trivial; omega)
  rw [HCC.out.1] at CN
  go_simp
  refine CN.mono ?_
  rintro en w3 ⟨⟨v3, rfl, ho3⟩, hbn⟩
  have HQ3 : Hid (Qn B w3 qb l A Sq Uq) := HQ2.out.below hbn
  have HD3 : Hid (Dr w3 db R A a1 n c1 a2 m c2) := HD2.out.below hbn
  have HB3 : Hid (Below w.heap.size w w3) := below_end HB2.out hbn
  replace t7 := three_below hbn t7
  replace t9 := three_below hbn t9
  obtain ⟨c0, _, _, _⟩ := HD3.out.hd.two
  rw [HCC.out.2] at ho3
  obtain ⟨b3, d3, e3, r3, z3⟩ := RdX.of_own ho3 HCC.out.2
  subst e3
  have HX3 : Hid (RdX w3 b3 C) := r3
  clear ho3 r3 z3
  clear CN hbn HQ2 HD2 HB2
  go_wp2_with fail
  refine hK.out _ _ ⟨t7, t9, c0⟩ (fun hHeld => ?_)
  clear hK K c0
  try simp only [Act.put, List.setIfInBounds_toArray, List.set_cons_zero, List.set_cons_succ]
  refine wpAnyH_ready (rs := [32]) (by kernel_rfl) (by simp) ?_
  refine AllReadyH.cons (o := { dst := Option.some 69, op := Op.call { callee := Callee.value (Operand.func 36), args := #[Operand.tmp 68], argTypes := #[27] }, type := 44, pos := "law.go:59", after := #[{ on := 31, ground := Ground.data }, { on := 30, ground := Ground.chain }, { on := 28, ground := Ground.guard }], guard := Option.some (28, Bool.true) }) rfl (fun K hK => ?_) AllReadyH.nil
  have CN := rcells_any db R A a1 n c1 a2 m c2 w3 HD3.out hN hM
  rw [← HLR.out, HCC.out.1] at CN
  go_simp
  refine CN.mono ?_
  rintro en w4 ⟨⟨v4, rfl, ho4⟩, hbn⟩
  have HQ4 : Hid (Qn B w4 qb l A Sq Uq) := HQ3.out.below hbn
  have HD4 : Hid (Dr w4 db R A a1 n c1 a2 m c2) := HD3.out.below hbn
  have HB4 : Hid (Below w.heap.size w w4) := below_end HB3.out hbn
  replace t7 := three_below hbn t7
  replace t9 := three_below hbn t9
  obtain ⟨c0, _, _, _⟩ := HD4.out.hd.two
  rw [HCC.out.2] at ho4
  obtain ⟨b4, d4, e4, r4, z4⟩ := RdX.of_own ho4 HCC.out.2
  subst e4
  have HX4 : Hid (RdX w4 b4 C ∧ RdX w4 b3 C) := ⟨r4, HX3.out.below hbn⟩
  clear ho4 r4 z4 HX3
  clear CN hbn HQ3 HD3 HB3
  go_wp2_with fail
  refine hK.out _ _ ⟨t7, t9, c0⟩ (fun hHeld => ?_)
  clear hK K c0
  try simp only [Act.put, List.setIfInBounds_toArray, List.set_cons_zero, List.set_cons_succ]
  refine wpAnyH_ready (rs := [33]) (by kernel_rfl) (by simp) ?_
  refine AllReadyH.cons (o := { dst := Option.some 70, op := Op.call { callee := Callee.value (Operand.func 25), args := #[Operand.tmp 67, Operand.tmp 69], argTypes := #[44, 44] }, type := 4, pos := "law.go:59", after := #[{ on := 30, ground := Ground.data }, { on := 32, ground := Ground.data }, { on := 32, ground := Ground.chain }, { on := 28, ground := Ground.guard }], guard := Option.some (28, Bool.true) }) rfl (fun K hK => ?_) AllReadyH.nil
  have CN := cells_any C b3 b4 n d3 d4 w4 HX4.out.2 HX4.out.1 HCC.out.2 hN
  go_simp
  refine CN.mono ?_
  rintro en w5 ⟨rfl, hbn⟩
  have HQ5 : Hid (Qn B w5 qb l A Sq Uq) := HQ4.out.below hbn
  have HD5 : Hid (Dr w5 db R A a1 n c1 a2 m c2) := HD4.out.below hbn
  have HB5 : Hid (Below w.heap.size w w5) := below_end HB4.out hbn
  replace t7 := three_below hbn t7
  replace t9 := three_below hbn t9
  obtain ⟨c0, _, _, _⟩ := HD5.out.hd.two
  clear CN hbn HQ4 HD4 HB4
  go_wp2_with fail
  refine hK.out _ _ ⟨t7, t9, c0⟩ (fun hHeld => ?_)
  clear hK K c0
  try simp only [Act.put, List.setIfInBounds_toArray, List.set_cons_zero, List.set_cons_succ]
  refine wpAnyH_take (i := 34) (oi := { dst := Option.some 71, op := Op.pick (Operand.tmp 65) (Operand.tmp 70) (Operand.const (Value.bool Bool.false)), type := 4, pos := "law.go:59", after := #[{ on := 28, ground := Ground.data }, { on := 33, ground := Ground.data }], guard := Option.none }) (v := ?_) rfl (by kernel_rfl) (by kernel_rfl) (by kernel_rfl) (fun _ _ _ h => h) (Or.inl ⟨by rfl, ?_⟩) (by assumption) ?_
  rotate_left
  · intro w hSw
    (try dsimp only at hSw)
    go_simp
    try with_reducible rfl
  try simp only [Act.put, List.setIfInBounds_toArray, List.set_cons_zero, List.set_cons_succ]
  refine wpAnyH_ready (rs := [35]) (by kernel_rfl) (by simp) ?_
  refine AllReadyH.cons (o := { dst := Option.some 6, op := Op.assign (Operand.tmp 71), type := 4, pos := "law.go:59", after := #[{ on := 34, ground := Ground.data }, { on := 33, ground := Ground.chain }, { on := 0, ground := Ground.phase }, { on := 1, ground := Ground.phase }, { on := 2, ground := Ground.phase }, { on := 3, ground := Ground.phase }, { on := 4, ground := Ground.phase }, { on := 5, ground := Ground.phase }, { on := 6, ground := Ground.phase }, { on := 7, ground := Ground.phase }, { on := 8, ground := Ground.phase }, { on := 9, ground := Ground.phase }, { on := 10, ground := Ground.phase }, { on := 11, ground := Ground.phase }, { on := 12, ground := Ground.phase }, { on := 13, ground := Ground.phase }, { on := 14, ground := Ground.phase }, { on := 15, ground := Ground.phase }, { on := 16, ground := Ground.phase }, { on := 17, ground := Ground.phase }, { on := 18, ground := Ground.phase }, { on := 19, ground := Ground.phase }, { on := 20, ground := Ground.phase }, { on := 21, ground := Ground.phase }, { on := 22, ground := Ground.phase }, { on := 23, ground := Ground.phase }, { on := 24, ground := Ground.phase }, { on := 25, ground := Ground.phase }, { on := 26, ground := Ground.phase }, { on := 27, ground := Ground.phase }, { on := 28, ground := Ground.phase }, { on := 29, ground := Ground.phase }, { on := 30, ground := Ground.phase }, { on := 31, ground := Ground.phase }, { on := 32, ground := Ground.phase }, { on := 33, ground := Ground.phase }, { on := 34, ground := Ground.phase }], guard := Option.none }) rfl (fun K hK => ?_) AllReadyH.nil
  obtain ⟨c0, _, _, _⟩ := HD5.out.hd.two
  go_simp
  refine hK.out _ _ ⟨t7, t9, c0⟩ (fun hHeld => ?_)
  clear hK K c0
  try simp only [Act.put, List.setIfInBounds_toArray, List.set_cons_zero, List.set_cons_succ]
  refine wpAnyH_done (by kernel_rfl) ?_ _
  clear hHeld

  go_wp2
  go_ret
  exact ⟨rfl, HB5.out⟩
end Go.Proofs.Ytpbjmhcpaeillaa
