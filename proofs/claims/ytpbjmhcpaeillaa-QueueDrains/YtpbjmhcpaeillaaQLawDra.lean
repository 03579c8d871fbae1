/- QueueDrains: dropping the first one again and again tells what Cells told. -/

import Derived.Test.YtpbjmhcpaeillaaQStC
import Derived.Test.YtpbjmhcpaeillaaQLawFre
namespace Go.Proofs.Ytpbjmhcpaeillaa
open Go.RowKit
set_option linter.unusedVariables false

set_option maxRecDepth 100000 in
set_option maxHeartbeats 16000000 in
theorem law_drains (T : List Ac) (av : Option Addr) (tn cap : Nat) (w : World) (h : RdS w av T) (hn : T.length = tn) (hB : True → tn ≤ 1000000000000000) (hA : True → ∀ a ∈ T, a.A.length ≤ 1000000000000000) :
    Calls Try.prog 5 #[.slice av tn cap] w fun en w' => en = .returned (.bool true) ∧ Below w.heap.size w w' := by
  have AB := able_any w
  have HS : Hid (RdS w av T ∧ T.length = tn) := ⟨h, hn⟩
  clear h hn
  go_enter Try.func5, Try.ntmps5
  go_wp2_with fail
  refine AB.mono ?_
  rintro en w1 ⟨rfl, hb1⟩
  have HB1 : Hid (Below w.heap.size w w1) := hb1
  have MU := much_any T av tn cap w1 (HS.out.1.below hb1) HS.out.2 hB hA
  clear AB hb1 hB hA
  go_wp2_with fail
  refine MU.mono ?_
  rintro en w1' ⟨⟨q, rfl, hq⟩, hw⟩
  obtain rfl : w1 = w1' := hw.symm
  have HT : Hid (q = false → tot T ≤ 400) := hq
  clear MU hq
  cases q with
  | true =>
    go_wp2
    go_ret
    exact ⟨rfl, HB1.out⟩
  | false =>
    have HT4 : Hid (tot T ≤ 400) := HT.out rfl
    clear HT
    have MA := made_any T av tn cap w1 (HS.out.1.below HB1.out) HS.out.2 HT4.out
    have HN : Hid ((plQ T).1.length ≤ 400 ∧ (plQ T).2.length ≤ 400) := by
      have h1 := plQ_len T
      have h2 := HT4.out
      exact ⟨by omega, by omega⟩
    clear HT4
    go_wp2_with fail
    refine MA.mono ?_
    rintro en w2 ⟨qb, rfl, h2⟩
    have HQ2 : Hid (Qst w1 w2 qb (plQ T).1 (plQ T).2) := h2
    obtain ⟨ls, hls⟩ : ∃ ls, Wq.srt (plQ T).1 = ls := ⟨_, rfl⟩
    obtain ⟨C, hC⟩ : ∃ C, ls.map clW = C := ⟨_, rfl⟩
    obtain ⟨n, hnC⟩ : ∃ n, C.length = n := ⟨_, rfl⟩
    have HC : Hid (ls.map clW = C ∧ C.length = n) := ⟨hC, hnC⟩
    have HL : Hid (ls.length = n ∧ n ≤ 400) := ⟨by rw [← hnC, ← hC, List.length_map], by
      have := HN.out
      rw [← hnC, ← hC, List.length_map, ← hls, Wq.srt_len]
      omega⟩
    have HP : Hid (ls.Pairwise (fun a b => Wq.ltW b a = false) ∧ (ls.map clW).Nodup) := ⟨by rw [← hls]; exact Wq.srt_pw _, by
      rw [← hls]
      exact (((Wq.srt_perm _).map clW).nodup_iff).2 h2.nd⟩
    have HQ2p : Hid (Qst w1 w2 qb ls (plQ T).2) := h2.perm (by rw [← hls]; exact (Wq.srt_perm _).symm)
    have C1 := st_cells h2 (fun _ => by have := HN.out; omega)
    rw [hls, hC] at C1
    clear MA h2 hC hnC hls HQ2
    go_wp2_with fail
    refine C1.mono ?_
    rintro en w3 ⟨⟨v1, rfl, ho1⟩, hb3⟩
    rw [HC.out.2] at ho1
    obtain ⟨a1, c1, e1, r1, z1⟩ := RdX.of_own ho1 HC.out.2
    subst e1
    obtain ⟨S0, hS0⟩ := HQ2p.out.opn
    have HQ3 : Hid (Qs w1 w3 qb (ls.drop 0) (plQ T).2 S0) := hS0.below hb3
    have HX3 : Hid (RdX w3 a1 C) := r1
    have HA3 : Hid (∀ bb off, a1 = some ⟨bb, off, none⟩ → As S0 w3 bb) := fun bb off e => by
      have h1 := own_blk ho1 (z1 bb off e)
      exact ⟨h1.2, fun hm => by have := hS0.lt bb hm; omega⟩
    clear C1 ho1 hb3 r1 z1 hS0 HQ2p
    go_upto_region 8 with fail
    go_loopg [5] n (fun gk x wr => ∃ (i : Nat) (SS : List Nat), x = .int .i64 (i : Int) ∧ gk = n - i ∧ Hid (i ≤ n) ∧ Hid (Qs w1 wr qb (ls.drop i) (plQ T).2 SS) ∧ Hid (RdX wr a1 C) ∧ Hid (∀ bb off, a1 = some ⟨bb, off, none⟩ → As SS wr bb))
    case atStart => exact ⟨0, S0, rfl, rfl, Nat.zero_le _, HQ3, HX3, HA3⟩
    case round =>
      clear HQ3 HX3 HA3
      obtain ⟨i, SS, rfl, hg, HI, HQ, HX, HA⟩ := hrel
      generalize hw9 : wr = W at *
      clear hw9
      by_cases hlt : i < n
      · have hii : (i : Int) < (n : Int) := by omega
        have hiz : (0 : Int) ≤ (i : Int) := by omega
        have hwi : IntKind.i64.wrap ((i : Int) + 1) = (i : Int) + 1 := by have := HL.out; rw [IntKind.wrap_i64]; omega
        have hw1 : IntKind.i64.wrap ((n : Int) - (i : Int)) = (n : Int) - (i : Int) := by have := HL.out; rw [IntKind.wrap_i64]; omega
        have hw2 : IntKind.i64.wrap ((n : Int) - (i : Int) - 1) = (n : Int) - (i : Int) - 1 := by have := HL.out; rw [IntKind.wrap_i64]; omega
        obtain ⟨a, ha⟩ : ∃ a, ls[i]? = some a := ⟨ls[i]'(by rw [HL.out.1]; exact hlt), List.getElem?_eq_getElem _⟩
        have HCI : Hid (C[i]? = some (clW a)) := by show _ = _; rw [← HC.out.1, List.getElem?_map, ha]; rfl
        have HO : Hid (offW (clW a) (ls.drop i) = ls.drop (i + 1) ∧ hasW (clW a) (ls.drop i) = true ∧ hasW (clW a) (ls.drop (i + 1)) = false ∧ offW (clW a) (ls.drop (i + 1)) = ls.drop (i + 1)) := drop_off HP.out.2 ha
        have HLE : Hid (((ls.drop (i + 1)).length : Int) = (n : Int) - (i : Int) - 1) := by have := HL.out; show _ = _; rw [List.length_drop]; omega
        have F1 := st_first HQ.out.st
        rw [srt_drop HP.out.1 i, drop_at ha] at F1
        simp only [hdW, neQ] at F1
        obtain ⟨bb, off, e, _⟩ := HX.out.at HCI.out
        subst e
        have HX : Hid (RdX W (some ⟨bb, off, none⟩) C) := HX
        clear ha
        have eq := fun x w => neqCl_run x w
        have eqa := eq (clW a)
        go_wp2_with fail
        refine F1.mono ?_
        rintro en w5 ⟨rfl, hb5⟩
        have ba := ball (Below.refl _ w5) (.cells #[.int .i64 a.s, .int .i64 a.r, .int .i64 a.c] 33)
        have t3 := AtL.f3 (AtL.new0 w5 33 [.int .i64 a.s, .int .i64 a.r, .int .i64 a.c])
        have HQ6 : Hid (Qs w1 (w5.alloc (.cells #[.int .i64 a.s, .int .i64 a.r, .int .i64 a.c] 33)) qb (ls.drop i) (plQ T).2 SS) := (HQ.out.below hb5).below ba
        have HX6 : Hid (RdX (w5.alloc (.cells #[.int .i64 a.s, .int .i64 a.r, .int .i64 a.c] 33)) (some ⟨bb, off, none⟩) C) := (HX.out.below hb5).below ba
        have HA6 : Hid (As SS (w5.alloc (.cells #[.int .i64 a.s, .int .i64 a.r, .int .i64 a.c] 33)) bb ∧ As SS (w5.alloc (.cells #[.int .i64 a.s, .int .i64 a.r, .int .i64 a.c] 33)) w5.heap.size) := ⟨((HA.out bb off rfl).below hb5).below ba, by simp, fun hm => by have := (HQ.out.below hb5).lt _ hm; omega⟩
        clear F1 hb5 ba HQ HX HA
        go_upto_region 11 with fail
        generalize w5.alloc (.cells #[.int .i64 a.s, .int .i64 a.r, .int .i64 a.c] 33) = W0 at *
        generalize hp6 : w5.heap.size = p6 at *
        clear hp6
        obtain ⟨b9, o9, e9, k0, k1, k2⟩ := HX6.out.at HCI.out
        obtain ⟨rfl, rfl⟩ : bb = b9 ∧ off = o9 := by simpa using e9
        clear e9
        have hb1 := (Below.refl W0.heap.size W0).drew
        refine wp_region_held_drew (S := fun W => Three W p6 (.int .i64 a.s) (.int .i64 a.r) (.int .i64 a.c) ∧ (W.cell? ⟨bb, off + i * 3, none⟩ = some (.int .i64 a.s) ∧ W.cell? ⟨bb, off + i * 3 + 1, none⟩ = some (.int .i64 a.r) ∧ W.cell? ⟨bb, off + i * 3 + 2, none⟩ = some (.int .i64 a.c))) (by kernel_rfl) ⟨three_drew t3, cell_below hb1 k0, cell_below hb1 k1, cell_below hb1 k2⟩ (fun hHeld => ?_)
        replace HQ6 := HQ6.out.below hb1
        have HQ6 : Hid (Qs w1 W0.drew qb (ls.drop i) (plQ T).2 SS) := HQ6
        replace HX6 := HX6.out.below hb1
        have HX6 : Hid (RdX W0.drew (some ⟨bb, off, none⟩) C) := HX6
        have HA6 : Hid (As SS W0.drew bb ∧ As SS W0.drew p6) := ⟨HA6.out.1.below hb1, HA6.out.2.below hb1⟩
        replace t3 := three_drew t3
        clear hb1 k0 k1 k2
        generalize W0.drew = W1 at *
        refine wpAnyH_take (i := 0) (oi := { dst := Option.some 29, op := Op.move (Operand.tmp 7), type := 4, pos := "outright.go:80", after := #[], guard := Option.none }) (v := ?_) rfl (by kernel_rfl) (by kernel_rfl) (by kernel_rfl) (fun _ _ _ h => h) (Or.inl ⟨by rfl, ?_⟩) (by assumption) ?_
        rotate_left
        · intro w hSw
          (try dsimp only at hSw)
          go_simp
          try with_reducible rfl
        try simp only [Act.put, List.setIfInBounds_toArray, List.set_cons_zero, List.set_cons_succ]
        refine wpAnyH_take (i := 1) (oi := { dst := Option.some 30, op := Op.unOp UnOp.not 4 (Operand.tmp 29), type := 4, pos := "outright.go:80", after := #[{ on := 0, ground := Ground.data }], guard := Option.none }) (v := ?_) rfl (by kernel_rfl) (by kernel_rfl) (by kernel_rfl) (fun _ _ _ h => h) (Or.inl ⟨by rfl, ?_⟩) (by assumption) ?_
        rotate_left
        · intro w hSw
          (try dsimp only at hSw)
          go_simp
          try with_reducible rfl
        try simp only [Act.put, List.setIfInBounds_toArray, List.set_cons_zero, List.set_cons_succ]
        refine wpAnyH_take (i := 2) (oi := { dst := Option.some 31, op := Op.move (Operand.tmp 30), type := 4, pos := "outright.go:80", after := #[{ on := 1, ground := Ground.data }], guard := Option.none }) (v := ?_) rfl (by kernel_rfl) (by kernel_rfl) (by kernel_rfl) (fun _ _ _ h => h) (Or.inl ⟨by rfl, ?_⟩) (by assumption) ?_
        rotate_left
        · intro w hSw
          (try dsimp only at hSw)
          go_simp
          try with_reducible rfl
        try simp only [Act.put, List.setIfInBounds_toArray, List.set_cons_zero, List.set_cons_succ]
        refine wpAnyH_take (i := 3) (oi := { dst := Option.some 32, op := Op.load 33 (Operand.tmp 6), type := 33, pos := "outright.go:80", after := #[{ on := 2, ground := Ground.guard }], guard := Option.some (2, Bool.false) }) (v := ?_) rfl (by kernel_rfl) (by kernel_rfl) (by kernel_rfl) (fun _ _ _ h => h) (Or.inl ⟨by rfl, ?_⟩) (by assumption) ?_
        rotate_left
        · intro w hSw
          (try dsimp only at hSw)
          go_simp
          try with_reducible rfl
        try simp only [Act.put, List.setIfInBounds_toArray, List.set_cons_zero, List.set_cons_succ]
        refine wpAnyH_take (i := 4) (oi := { dst := Option.some 33, op := Op.move (Operand.tmp 4), type := 44, pos := "outright.go:80", after := #[{ on := 2, ground := Ground.guard }], guard := Option.some (2, Bool.false) }) (v := ?_) rfl (by kernel_rfl) (by kernel_rfl) (by kernel_rfl) (fun _ _ _ h => h) (Or.inl ⟨by rfl, ?_⟩) (by assumption) ?_
        rotate_left
        · intro w hSw
          (try dsimp only at hSw)
          go_simp
          try with_reducible rfl
        try simp only [Act.put, List.setIfInBounds_toArray, List.set_cons_zero, List.set_cons_succ]
        refine wpAnyH_take (i := 5) (oi := { dst := Option.some 34, op := Op.move (Operand.tmp 5), type := 3, pos := "outright.go:80", after := #[{ on := 2, ground := Ground.guard }], guard := Option.some (2, Bool.false) }) (v := ?_) rfl (by kernel_rfl) (by kernel_rfl) (by kernel_rfl) (fun _ _ _ h => h) (Or.inl ⟨by rfl, ?_⟩) (by assumption) ?_
        rotate_left
        · intro w hSw
          (try dsimp only at hSw)
          go_simp
          try with_reducible rfl
        try simp only [Act.put, List.setIfInBounds_toArray, List.set_cons_zero, List.set_cons_succ]
        refine wpAnyH_take (i := 6) (oi := { dst := Option.some 35, op := Op.indexAddr 44 (Operand.tmp 33) (Operand.tmp 34), type := 0, pos := "outright.go:80", after := #[{ on := 4, ground := Ground.data }, { on := 5, ground := Ground.data }, { on := 2, ground := Ground.guard }], guard := Option.some (2, Bool.false) }) (v := ?_) rfl (by kernel_rfl) (by kernel_rfl) (by kernel_rfl) (fun _ _ _ h => h) (Or.inl ⟨by rfl, ?_⟩) (by assumption) ?_
        rotate_left
        · intro w hSw
          (try dsimp only at hSw)
          go_simp
          try with_reducible rfl
        try simp only [Act.put, List.setIfInBounds_toArray, List.set_cons_zero, List.set_cons_succ]
        refine wpAnyH_take (i := 7) (oi := { dst := Option.some 36, op := Op.load 33 (Operand.tmp 35), type := 33, pos := "outright.go:80", after := #[{ on := 6, ground := Ground.data }, { on := 2, ground := Ground.guard }], guard := Option.some (2, Bool.false) }) (v := ?_) rfl (by kernel_rfl) (by kernel_rfl) (by kernel_rfl) (fun _ _ _ h => h) (Or.inl ⟨by rfl, ?_⟩) (by assumption) ?_
        rotate_left
        · intro w hSw
          (try dsimp only at hSw)
          go_simp
          try with_reducible rfl
        try simp only [Act.put, List.setIfInBounds_toArray, List.set_cons_zero, List.set_cons_succ]
        refine wpAnyH_take (i := 8) (oi := { dst := Option.some 37, op := Op.binOp BinOp.neq 33 (Operand.tmp 32) (Operand.tmp 36) 33, type := 4, pos := "outright.go:80", after := #[{ on := 3, ground := Ground.data }, { on := 7, ground := Ground.data }, { on := 2, ground := Ground.guard }], guard := Option.some (2, Bool.false) }) (v := ?_) rfl (by kernel_rfl) (by kernel_rfl) (by kernel_rfl) (fun _ _ _ h => h) (Or.inl ⟨by rfl, ?_⟩) (by assumption) ?_
        rotate_left
        · intro w hSw
          (try dsimp only at hSw)
          go_simp
          try with_reducible rfl
        try simp only [Act.put, List.setIfInBounds_toArray, List.set_cons_zero, List.set_cons_succ]
        refine wpAnyH_take (i := 9) (oi := { dst := Option.some 38, op := Op.pick (Operand.tmp 31) (Operand.const (Value.bool Bool.true)) (Operand.tmp 37), type := 4, pos := "outright.go:80", after := #[{ on := 2, ground := Ground.data }, { on := 8, ground := Ground.data }], guard := Option.none }) (v := ?_) rfl (by kernel_rfl) (by kernel_rfl) (by kernel_rfl) (fun _ _ _ h => h) (Or.inl ⟨by rfl, ?_⟩) (by assumption) ?_
        rotate_left
        · intro w hSw
          (try dsimp only at hSw)
          go_simp
          try with_reducible rfl
        try simp only [Act.put, List.setIfInBounds_toArray, List.set_cons_zero, List.set_cons_succ]
        refine wpAnyH_take (i := 10) (oi := { dst := Option.some 39, op := Op.move (Operand.tmp 38), type := 4, pos := "outright.go:80", after := #[{ on := 9, ground := Ground.data }, { on := 2, ground := Ground.chain }], guard := Option.none }) (v := ?_) rfl (by kernel_rfl) (by kernel_rfl) (by kernel_rfl) (fun _ _ _ h => h) (Or.inl ⟨by rfl, ?_⟩) (by assumption) ?_
        rotate_left
        · intro w hSw
          (try dsimp only at hSw)
          go_simp
          try with_reducible rfl
        try simp only [Act.put, List.setIfInBounds_toArray, List.set_cons_zero, List.set_cons_succ]
        refine wpAnyH_take (i := 11) (oi := { dst := Option.some 40, op := Op.move (Operand.tmp 3), type := 25, pos := "outright.go:80", after := #[{ on := 10, ground := Ground.guard }], guard := Option.some (10, Bool.false) }) (v := ?_) rfl (by kernel_rfl) (by kernel_rfl) (by kernel_rfl) (fun _ _ _ h => h) (Or.inl ⟨by rfl, ?_⟩) (by assumption) ?_
        rotate_left
        · intro w hSw
          (try dsimp only at hSw)
          go_simp
          try with_reducible rfl
        try simp only [Act.put, List.setIfInBounds_toArray, List.set_cons_zero, List.set_cons_succ]
        refine wpAnyH_take (i := 12) (oi := { dst := Option.some 41, op := Op.load 33 (Operand.tmp 6), type := 33, pos := "outright.go:80", after := #[{ on := 10, ground := Ground.guard }], guard := Option.some (10, Bool.false) }) (v := ?_) rfl (by kernel_rfl) (by kernel_rfl) (by kernel_rfl) (fun _ _ _ h => h) (Or.inl ⟨by rfl, ?_⟩) (by assumption) ?_
        rotate_left
        · intro w hSw
          (try dsimp only at hSw)
          go_simp
          try with_reducible rfl
        try simp only [Act.put, List.setIfInBounds_toArray, List.set_cons_zero, List.set_cons_succ]
        refine wpAnyH_ready (rs := [13]) (by kernel_rfl) (by simp) ?_
        refine AllReadyH.cons (o := { dst := Option.some 42, op := Op.call { callee := Callee.value (Operand.func 13), args := #[Operand.tmp 40, Operand.tmp 41], argTypes := #[25, 33] }, type := 4, pos := "outright.go:80", after := #[{ on := 11, ground := Ground.data }, { on := 12, ground := Ground.data }, { on := 10, ground := Ground.chain }, { on := 10, ground := Ground.guard }], guard := Option.some (10, Bool.false) }) rfl (fun K hK => ?_) AllReadyH.nil
        have DR := sx_drop HQ6.out (clW a) (fun _ => by have := HL.out; simp only [List.length_drop]; omega)
        rw [HO.out.2.1] at DR
        go_simp
        refine DR.mono ?_
        rintro en w7 ⟨rfl, S7, hq7, fr7, hs7⟩
        have HQ7 : Hid (Qs w1 w7 qb (ls.drop (i + 1)) (plQ T).2 S7) := by
          have := hq7
          rw [HO.out.1] at this
          exact this
        have HX7 : Hid (RdX w7 (some ⟨bb, off, none⟩) C) := HX6.out.as fr7 (fun b2 o2 e => by cases e; exact HA6.out.1)
        have HA7 : Hid (As S7 w7 bb ∧ As S7 w7 p6) := ⟨HA6.out.1.next fr7 hs7, HA6.out.2.next fr7 hs7⟩
        have t3n : Three w7 p6 (.int .i64 a.s) (.int .i64 a.r) (.int .i64 a.c) := ⟨fr7.cell t3.1 HA6.out.2.2, fr7.cell t3.2.1 HA6.out.2.2, fr7.cell t3.2.2 HA6.out.2.2⟩
        clear DR hq7 fr7 hs7 HQ6 HX6 HA6 t3
        have t3 := t3n
        clear t3n
        obtain ⟨b9, o9, e9, m0, m1, m2⟩ := HX7.out.at HCI.out
        obtain ⟨rfl, rfl⟩ : bb = b9 ∧ off = o9 := by simpa using e9
        go_wp2_with fail
        refine hK.out _ _ ⟨t3, m0, m1, m2⟩ (fun hHeld => ?_)
        clear hK K m0 m1 m2 e9
        try simp only [Act.put, List.setIfInBounds_toArray, List.set_cons_zero, List.set_cons_succ]
        refine wpAnyH_take (i := 14) (oi := { dst := Option.some 43, op := Op.unOp UnOp.not 4 (Operand.tmp 42), type := 4, pos := "outright.go:80", after := #[{ on := 13, ground := Ground.data }, { on := 10, ground := Ground.guard }], guard := Option.some (10, Bool.false) }) (v := ?_) rfl (by kernel_rfl) (by kernel_rfl) (by kernel_rfl) (fun _ _ _ h => h) (Or.inl ⟨by rfl, ?_⟩) (by assumption) ?_
        rotate_left
        · intro w hSw
          (try dsimp only at hSw)
          go_simp
          try with_reducible rfl
        try simp only [Act.put, List.setIfInBounds_toArray, List.set_cons_zero, List.set_cons_succ]
        refine wpAnyH_take (i := 15) (oi := { dst := Option.some 44, op := Op.pick (Operand.tmp 39) (Operand.const (Value.bool Bool.true)) (Operand.tmp 43), type := 4, pos := "outright.go:80", after := #[{ on := 10, ground := Ground.data }, { on := 14, ground := Ground.data }], guard := Option.none }) (v := ?_) rfl (by kernel_rfl) (by kernel_rfl) (by kernel_rfl) (fun _ _ _ h => h) (Or.inl ⟨by rfl, ?_⟩) (by assumption) ?_
        rotate_left
        · intro w hSw
          (try dsimp only at hSw)
          go_simp
          try with_reducible rfl
        try simp only [Act.put, List.setIfInBounds_toArray, List.set_cons_zero, List.set_cons_succ]
        refine wpAnyH_take (i := 16) (oi := { dst := Option.some 45, op := Op.move (Operand.tmp 44), type := 4, pos := "outright.go:80", after := #[{ on := 15, ground := Ground.data }, { on := 13, ground := Ground.chain }], guard := Option.none }) (v := ?_) rfl (by kernel_rfl) (by kernel_rfl) (by kernel_rfl) (fun _ _ _ h => h) (Or.inl ⟨by rfl, ?_⟩) (by assumption) ?_
        rotate_left
        · intro w hSw
          (try dsimp only at hSw)
          go_simp
          try with_reducible rfl
        try simp only [Act.put, List.setIfInBounds_toArray, List.set_cons_zero, List.set_cons_succ]
        refine wpAnyH_take (i := 17) (oi := { dst := Option.some 46, op := Op.move (Operand.tmp 3), type := 25, pos := "outright.go:80", after := #[{ on := 16, ground := Ground.guard }], guard := Option.some (16, Bool.false) }) (v := ?_) rfl (by kernel_rfl) (by kernel_rfl) (by kernel_rfl) (fun _ _ _ h => h) (Or.inl ⟨by rfl, ?_⟩) (by assumption) ?_
        rotate_left
        · intro w hSw
          (try dsimp only at hSw)
          go_simp
          try with_reducible rfl
        try simp only [Act.put, List.setIfInBounds_toArray, List.set_cons_zero, List.set_cons_succ]
        refine wpAnyH_take (i := 18) (oi := { dst := Option.some 47, op := Op.load 33 (Operand.tmp 6), type := 33, pos := "outright.go:80", after := #[{ on := 16, ground := Ground.guard }], guard := Option.some (16, Bool.false) }) (v := ?_) rfl (by kernel_rfl) (by kernel_rfl) (by kernel_rfl) (fun _ _ _ h => h) (Or.inl ⟨by rfl, ?_⟩) (by assumption) ?_
        rotate_left
        · intro w hSw
          (try dsimp only at hSw)
          go_simp
          try with_reducible rfl
        try simp only [Act.put, List.setIfInBounds_toArray, List.set_cons_zero, List.set_cons_succ]
        refine wpAnyH_ready (rs := [19]) (by kernel_rfl) (by simp) ?_
        refine AllReadyH.cons (o := { dst := Option.some 48, op := Op.call { callee := Callee.value (Operand.func 13), args := #[Operand.tmp 46, Operand.tmp 47], argTypes := #[25, 33] }, type := 4, pos := "outright.go:80", after := #[{ on := 17, ground := Ground.data }, { on := 18, ground := Ground.data }, { on := 16, ground := Ground.chain }, { on := 16, ground := Ground.guard }], guard := Option.some (16, Bool.false) }) rfl (fun K hK => ?_) AllReadyH.nil
        have DR := sx_drop HQ7.out (clW a) (fun _ => by have := HL.out; simp only [List.length_drop]; omega)
        rw [HO.out.2.2.1] at DR
        go_simp
        refine DR.mono ?_
        rintro en w8 ⟨rfl, S8, hq7, fr7, hs7⟩
        have HQ8 : Hid (Qs w1 w8 qb (ls.drop (i + 1)) (plQ T).2 S8) := by
          have := hq7
          rw [HO.out.2.2.2] at this
          exact this
        have HX8 : Hid (RdX w8 (some ⟨bb, off, none⟩) C) := HX7.out.as fr7 (fun b2 o2 e => by cases e; exact HA7.out.1)
        have HA8 : Hid (As S8 w8 bb ∧ As S8 w8 p6) := ⟨HA7.out.1.next fr7 hs7, HA7.out.2.next fr7 hs7⟩
        have t3n : Three w8 p6 (.int .i64 a.s) (.int .i64 a.r) (.int .i64 a.c) := ⟨fr7.cell t3.1 HA7.out.2.2, fr7.cell t3.2.1 HA7.out.2.2, fr7.cell t3.2.2 HA7.out.2.2⟩
        clear DR hq7 fr7 hs7 HQ7 HX7 HA7 t3
        have t3 := t3n
        clear t3n
        obtain ⟨b9, o9, e9, m0, m1, m2⟩ := HX8.out.at HCI.out
        obtain ⟨rfl, rfl⟩ : bb = b9 ∧ off = o9 := by simpa using e9
        go_wp2_with fail
        refine hK.out _ _ ⟨t3, m0, m1, m2⟩ (fun hHeld => ?_)
        clear hK K m0 m1 m2 e9
        try simp only [Act.put, List.setIfInBounds_toArray, List.set_cons_zero, List.set_cons_succ]
        refine wpAnyH_take (i := 20) (oi := { dst := Option.some 49, op := Op.pick (Operand.tmp 45) (Operand.const (Value.bool Bool.true)) (Operand.tmp 48), type := 4, pos := "outright.go:80", after := #[{ on := 16, ground := Ground.data }, { on := 19, ground := Ground.data }], guard := Option.none }) (v := ?_) rfl (by kernel_rfl) (by kernel_rfl) (by kernel_rfl) (fun _ _ _ h => h) (Or.inl ⟨by rfl, ?_⟩) (by assumption) ?_
        rotate_left
        · intro w hSw
          (try dsimp only at hSw)
          go_simp
          try with_reducible rfl
        try simp only [Act.put, List.setIfInBounds_toArray, List.set_cons_zero, List.set_cons_succ]
        refine wpAnyH_take (i := 21) (oi := { dst := Option.some 50, op := Op.move (Operand.tmp 49), type := 4, pos := "outright.go:80", after := #[{ on := 20, ground := Ground.data }, { on := 19, ground := Ground.chain }], guard := Option.none }) (v := ?_) rfl (by kernel_rfl) (by kernel_rfl) (by kernel_rfl) (fun _ _ _ h => h) (Or.inl ⟨by rfl, ?_⟩) (by assumption) ?_
        rotate_left
        · intro w hSw
          (try dsimp only at hSw)
          go_simp
          try with_reducible rfl
        try simp only [Act.put, List.setIfInBounds_toArray, List.set_cons_zero, List.set_cons_succ]
        refine wpAnyH_take (i := 22) (oi := { dst := Option.some 51, op := Op.move (Operand.tmp 3), type := 25, pos := "outright.go:80", after := #[{ on := 21, ground := Ground.guard }], guard := Option.some (21, Bool.false) }) (v := ?_) rfl (by kernel_rfl) (by kernel_rfl) (by kernel_rfl) (fun _ _ _ h => h) (Or.inl ⟨by rfl, ?_⟩) (by assumption) ?_
        rotate_left
        · intro w hSw
          (try dsimp only at hSw)
          go_simp
          try with_reducible rfl
        try simp only [Act.put, List.setIfInBounds_toArray, List.set_cons_zero, List.set_cons_succ]
        refine wpAnyH_take (i := 24) (oi := { dst := Option.some 53, op := Op.move (Operand.tmp 4), type := 44, pos := "outright.go:80", after := #[{ on := 21, ground := Ground.guard }], guard := Option.some (21, Bool.false) }) (v := ?_) rfl (by kernel_rfl) (by kernel_rfl) (by kernel_rfl) (fun _ _ _ h => h) (Or.inl ⟨by rfl, ?_⟩) (by assumption) ?_
        rotate_left
        · intro w hSw
          (try dsimp only at hSw)
          go_simp
          try with_reducible rfl
        try simp only [Act.put, List.setIfInBounds_toArray, List.set_cons_zero, List.set_cons_succ]
        refine wpAnyH_take (i := 25) (oi := { dst := Option.some 54, op := Op.call { callee := Callee.builtin Builtin.len, args := #[Operand.tmp 53], argTypes := #[44] }, type := 3, pos := "outright.go:80", after := #[{ on := 24, ground := Ground.data }, { on := 21, ground := Ground.guard }], guard := Option.some (21, Bool.false) }) (v := ?_) rfl (by kernel_rfl) (by kernel_rfl) (by kernel_rfl) (fun _ _ _ h => h) (Or.inl ⟨by rfl, ?_⟩) (by assumption) ?_
        rotate_left
        · intro w hSw
          (try dsimp only at hSw)
          go_simp
          try with_reducible rfl
        try simp only [Act.put, List.setIfInBounds_toArray, List.set_cons_zero, List.set_cons_succ]
        refine wpAnyH_take (i := 26) (oi := { dst := Option.some 55, op := Op.move (Operand.tmp 5), type := 3, pos := "outright.go:80", after := #[{ on := 21, ground := Ground.guard }], guard := Option.some (21, Bool.false) }) (v := ?_) rfl (by kernel_rfl) (by kernel_rfl) (by kernel_rfl) (fun _ _ _ h => h) (Or.inl ⟨by rfl, ?_⟩) (by assumption) ?_
        rotate_left
        · intro w hSw
          (try dsimp only at hSw)
          go_simp
          try with_reducible rfl
        try simp only [Act.put, List.setIfInBounds_toArray, List.set_cons_zero, List.set_cons_succ]
        refine wpAnyH_take (i := 27) (oi := { dst := Option.some 56, op := Op.binOp BinOp.sub 3 (Operand.tmp 54) (Operand.tmp 55) 3, type := 3, pos := "outright.go:80", after := #[{ on := 25, ground := Ground.data }, { on := 26, ground := Ground.data }, { on := 21, ground := Ground.guard }], guard := Option.some (21, Bool.false) }) (v := ?_) rfl (by kernel_rfl) (by kernel_rfl) (by kernel_rfl) (fun _ _ _ h => h) (Or.inl ⟨by rfl, ?_⟩) (by assumption) ?_
        rotate_left
        · intro w hSw
          (try dsimp only at hSw)
          go_simp
          try with_reducible rfl
        try simp only [Act.put, List.setIfInBounds_toArray, List.set_cons_zero, List.set_cons_succ]
        refine wpAnyH_take (i := 28) (oi := { dst := Option.some 57, op := Op.binOp BinOp.sub 3 (Operand.tmp 56) (Operand.const (Value.int IntKind.i64 1)) 3, type := 3, pos := "outright.go:80", after := #[{ on := 27, ground := Ground.data }, { on := 21, ground := Ground.guard }], guard := Option.some (21, Bool.false) }) (v := ?_) rfl (by kernel_rfl) (by kernel_rfl) (by kernel_rfl) (fun _ _ _ h => h) (Or.inl ⟨by rfl, ?_⟩) (by assumption) ?_
        rotate_left
        · intro w hSw
          (try dsimp only at hSw)
          go_simp
          try with_reducible rfl
        try simp only [Act.put, List.setIfInBounds_toArray, List.set_cons_zero, List.set_cons_succ]
        refine wpAnyH_ready (rs := [23]) (by kernel_rfl) (by simp) ?_
        refine AllReadyH.cons (o := { dst := Option.some 52, op := Op.call { callee := Callee.value (Operand.func 21), args := #[Operand.tmp 51], argTypes := #[25] }, type := 3, pos := "outright.go:80", after := #[{ on := 22, ground := Ground.data }, { on := 21, ground := Ground.chain }, { on := 21, ground := Ground.guard }], guard := Option.some (21, Bool.false) }) rfl (fun K hK => ?_) AllReadyH.nil
        have LE := st_len HQ8.out.st
        rw [HLE.out] at LE
        go_simp
        refine LE.mono ?_
        rintro en w9 ⟨rfl, hb9⟩
        have HQ9 : Hid (Qs w1 w9 qb (ls.drop (i + 1)) (plQ T).2 S8) := HQ8.out.below hb9
        have HX9 : Hid (RdX w9 (some ⟨bb, off, none⟩) C) := HX8.out.below hb9
        have HA9 : Hid (As S8 w9 bb) := HA8.out.1.below hb9
        replace t3 := three_below hb9 t3
        obtain ⟨b7, o7, e7, m0, m1, m2⟩ := HX9.out.at HCI.out
        obtain ⟨rfl, rfl⟩ : bb = b7 ∧ off = o7 := by simpa using e7
        clear LE hb9 HQ8 HX8 HA8
        go_wp2_with fail
        refine hK.out _ _ ⟨t3, m0, m1, m2⟩ (fun hHeld => ?_)
        clear hK K m0 m1 m2 e7 t3
        try simp only [Act.put, List.setIfInBounds_toArray, List.set_cons_zero, List.set_cons_succ]
        refine wpAnyH_take (i := 29) (oi := { dst := Option.some 58, op := Op.binOp BinOp.neq 3 (Operand.tmp 52) (Operand.tmp 57) 3, type := 4, pos := "outright.go:80", after := #[{ on := 23, ground := Ground.data }, { on := 28, ground := Ground.data }, { on := 21, ground := Ground.guard }], guard := Option.some (21, Bool.false) }) (v := ?_) rfl (by kernel_rfl) (by kernel_rfl) (by kernel_rfl) (fun _ _ _ h => h) (Or.inl ⟨by rfl, ?_⟩) (by assumption) ?_
        rotate_left
        · intro w hSw
          (try dsimp only at hSw)
          go_simp
          try with_reducible rfl
        try simp only [Act.put, List.setIfInBounds_toArray, List.set_cons_zero, List.set_cons_succ]
        refine wpAnyH_take (i := 30) (oi := { dst := Option.some 59, op := Op.pick (Operand.tmp 50) (Operand.const (Value.bool Bool.true)) (Operand.tmp 58), type := 4, pos := "outright.go:80", after := #[{ on := 21, ground := Ground.data }, { on := 29, ground := Ground.data }], guard := Option.none }) (v := ?_) rfl (by kernel_rfl) (by kernel_rfl) (by kernel_rfl) (fun _ _ _ h => h) (Or.inl ⟨by rfl, ?_⟩) (by assumption) ?_
        rotate_left
        · intro w hSw
          (try dsimp only at hSw)
          go_simp
          try with_reducible rfl
        try simp only [Act.put, List.setIfInBounds_toArray, List.set_cons_zero, List.set_cons_succ]
        refine wpAnyH_done (by kernel_rfl) ?_ _
        clear hHeld

        go_wp2_with fail
        go_roundg (n - (i + 1))
        case rel => exact ⟨i + 1, S8, by simp, rfl, hlt, HQ9, HX9, fun b2 o2 e => by cases e; exact HA9.out⟩
        case measure => omega
      · have hii : ¬ (i : Int) < (n : Int) := by omega
        have HD : Hid (ls.drop i = []) := List.drop_eq_nil_of_le (by rw [HL.out.1]; omega)
        have HQn : Hid (Qst w1 W qb [] (plQ T).2) := by
          have := HQ.out.st
          rw [HD.out] at this
          exact this
        have e0 : Wq.srt [] = [] := List.eq_nil_of_length_eq_zero (by rw [Wq.srt_len]; rfl)
        have E0 : Hid (Wq.srt [] = []) := e0
        have F1 := st_first HQn.out
        rw [e0] at F1
        simp only [hdW, neQ] at F1
        clear HQ HX HA HI e0
        go_wp2_with fail
        refine F1.mono ?_
        rintro en w5 ⟨rfl, hb5⟩
        have HQ6 : Hid (Qst w1 (w5.alloc (.cells #[.int .i64 0, .int .i64 0, .int .i64 0] 33)) qb [] (plQ T).2) := (HQn.out.below hb5).below (ball (Below.refl _ w5) _)
        clear F1 hb5 HQn
        go_upto_region 14 with fail
        generalize w5.alloc (.cells #[.int .i64 0, .int .i64 0, .int .i64 0] 33) = W0 at *
        have C2 := st_cells HQ6.out (fun _ => by decide)
        go_wp2_with fail
        refine C2.mono ?_
        rintro en w7 ⟨⟨v2, rfl, ho2⟩, hb7⟩
        rw [E0.out] at ho2
        obtain ⟨a2, c2, e2, _, _⟩ := RdX.of_own ho2 rfl
        subst e2
        have HE : Hid (Below w.heap.size w w7) := below_end HB1.out (below_end HQ6.out.bl hb7)
        clear C2 ho2 hb7
        go_wp2
        go_ret
        exact ⟨rfl, HE.out⟩
end Go.Proofs.Ytpbjmhcpaeillaa
