/- Queues: two rows of cells that read alike. -/

import Derived.Test.YtpbjmhcpaeillaaQLev
namespace Go.Proofs.Ytpbjmhcpaeillaa
open Go.RowKit
set_option linter.unusedVariables false

/-- A cell, as memory has it. -/
def clQ (x : Wpl.Cl) : List Value := [.int .i64 x.s, .int .i64 x.r, .int .i64 x.c]
/-- A row of cells is read there. -/
def RdX (w : World) (av : Option Addr) (C : List Wpl.Cl) : Prop := ∀ (i : Nat) (x : Wpl.Cl), C[i]? = some x → ∃ bb off, av = some ⟨bb, off, none⟩ ∧ w.rangeAt bb (off + i * 3) (clQ x)
theorem RdX.below {w w' : World} {av : Option Addr} {C : List Wpl.Cl} (h : RdX w av C) (hb : Below w.heap.size w w') : RdX w' av C := fun i a ha => by
  obtain ⟨bb, off, e, hr⟩ := h i a ha
  exact ⟨bb, off, e, fun j v hv => cell_below hb (hr j v hv)⟩
theorem RdX.fr {S : List Nat} {w w' : World} {av : Option Addr} {C : List Wpl.Cl} (h : RdX w av C) (hf : Fr S w w') (hn : ∀ bb off, av = some ⟨bb, off, none⟩ → bb ∉ S) : RdX w' av C := fun i a ha => by
  obtain ⟨bb, off, e, hr⟩ := h i a ha
  exact ⟨bb, off, e, hf.range hr (hn bb off e)⟩
theorem neqCl_run (x : Wpl.Cl) (w : World) : (binOp .neq 33 (.agg #[.int .i64 x.s, .int .i64 x.r, .int .i64 x.c]) (.agg #[.int .i64 x.s, .int .i64 x.r, .int .i64 x.c])).run Try.prog w = .ok (.bool false) w := by
  simp [go_sem]
set_option maxRecDepth 100000 in
set_option maxHeartbeats 1600000 in
theorem cells_any (C : List Wpl.Cl) (av bv : Option Addr) (n cap cap2 : Nat) (w : World) (h1 : RdX w av C) (h2 : RdX w bv C) (hl : C.length = n) (hN : True → n ≤ 1000000000) : Calls Try.prog 25 #[.slice av n cap, .slice bv n cap2] w fun e w' => e = .returned (.bool true) ∧ Below w.heap.size w w' := by
  have HH : Hid (RdX w av C ∧ RdX w bv C ∧ C.length = n) := ⟨h1, h2, hl⟩
  have hnn : ((n : Int) != (n : Int)) = false := by simp
  have eq := fun x w => neqCl_run x w
  clear h1 h2 hl
  go_enter Try.func25, Try.ntmps25
  go_wp2_with fail
  go_loopg [5] n (fun gk u wr => ∃ i : Nat, u = .int .i64 i ∧ gk = n - i ∧ i ≤ n ∧ Hid (Below w.heap.size w wr))
  case atStart => exact ⟨0, rfl, rfl, Nat.zero_le _, Below.refl _ _⟩
  case round =>
    obtain ⟨i, rfl, hg, hi, HB⟩ := hrel
    generalize hw9 : wr = W1 at *
    clear hw9
    by_cases hlt : i < n
    · have hii : (i : Int) < (n : Int) := by omega
      have hiz : (0 : Int) ≤ (i : Int) := by omega
      have hwi : IntKind.i64.wrap ((i : Int) + 1) = (i : Int) + 1 := by have := hN trivial; rw [IntKind.wrap_i64]; omega
      obtain ⟨x, hx⟩ : ∃ x, C[i]? = some x := ⟨C[i]'(by rw [HH.out.2.2]; exact hlt), List.getElem?_eq_getElem _⟩
      obtain ⟨bb, off, e1, hr1⟩ := HH.out.1.below HB.out i x hx
      obtain ⟨bb2, off2, e2, hr2⟩ := HH.out.2.1.below HB.out i x hx
      subst e1 e2
      have k0 : W1.cell? ⟨bb, off + i * 3, none⟩ = some (.int .i64 x.s) := hr1 0 _ rfl
      have k1 : W1.cell? ⟨bb, off + i * 3 + 1, none⟩ = some (.int .i64 x.r) := hr1 1 _ rfl
      have k2 : W1.cell? ⟨bb, off + i * 3 + 2, none⟩ = some (.int .i64 x.c) := hr1 2 _ rfl
      have m0 : W1.cell? ⟨bb2, off2 + i * 3, none⟩ = some (.int .i64 x.s) := hr2 0 _ rfl
      have m1 : W1.cell? ⟨bb2, off2 + i * 3 + 1, none⟩ = some (.int .i64 x.r) := hr2 1 _ rfl
      have m2 : W1.cell? ⟨bb2, off2 + i * 3 + 2, none⟩ = some (.int .i64 x.c) := hr2 2 _ rfl
      clear hx hr1 hr2 HH
      go_upto_region 6 with fail
      have hb1 := (Below.refl W1.heap.size W1).drew
      refine wp_region_held_drew (S := fun W => (W.cell? ⟨bb, off + i * 3, none⟩ = some (.int .i64 x.s) ∧ W.cell? ⟨bb, off + i * 3 + 1, none⟩ = some (.int .i64 x.r) ∧ W.cell? ⟨bb, off + i * 3 + 2, none⟩ = some (.int .i64 x.c)) ∧ W.cell? ⟨bb2, off2 + i * 3, none⟩ = some (.int .i64 x.s) ∧ W.cell? ⟨bb2, off2 + i * 3 + 1, none⟩ = some (.int .i64 x.r) ∧ W.cell? ⟨bb2, off2 + i * 3 + 2, none⟩ = some (.int .i64 x.c)) (by kernel_rfl) ⟨⟨cell_below hb1 k0, cell_below hb1 k1, cell_below hb1 k2⟩, cell_below hb1 m0, cell_below hb1 m1, cell_below hb1 m2⟩ (fun hHeld => ?_)
      have HB2 : Hid (Below w.heap.size w W1.drew) := below_end HB.out hb1
      clear hb1 HB k0 k1 k2 m0 m1 m2
      generalize W1.drew = W2 at *
      refine wpAnyH_take (i := 0) (oi := { dst := Option.some 17, op := Op.move (Operand.tmp 0), type := 44, pos := "law.go:46", after := #[], guard := Option.none }) (v := ?_) rfl (by kernel_rfl) (by kernel_rfl) (by kernel_rfl) (fun _ _ _ h => h) (Or.inl ⟨by rfl, ?_⟩) (by assumption) ?_
      rotate_left
      · intro w hSw
        (try dsimp only at hSw)
        go_simp
        try with_reducible rfl
      try simp only [Act.put, List.setIfInBounds_toArray, List.set_cons_zero, List.set_cons_succ]
      refine wpAnyH_take (i := 1) (oi := { dst := Option.some 18, op := Op.move (Operand.tmp 5), type := 3, pos := "law.go:46", after := #[], guard := Option.none }) (v := ?_) rfl (by kernel_rfl) (by kernel_rfl) (by kernel_rfl) (fun _ _ _ h => h) (Or.inl ⟨by rfl, ?_⟩) (by assumption) ?_
      rotate_left
      · intro w hSw
        (try dsimp only at hSw)
        go_simp
        try with_reducible rfl
      try simp only [Act.put, List.setIfInBounds_toArray, List.set_cons_zero, List.set_cons_succ]
      refine wpAnyH_take (i := 2) (oi := { dst := Option.some 19, op := Op.indexAddr 44 (Operand.tmp 17) (Operand.tmp 18), type := 0, pos := "law.go:46", after := #[{ on := 0, ground := Ground.data }, { on := 1, ground := Ground.data }], guard := Option.none }) (v := ?_) rfl (by kernel_rfl) (by kernel_rfl) (by kernel_rfl) (fun _ _ _ h => h) (Or.inl ⟨by rfl, ?_⟩) (by assumption) ?_
      rotate_left
      · intro w hSw
        (try dsimp only at hSw)
        go_simp
        try with_reducible rfl
      try simp only [Act.put, List.setIfInBounds_toArray, List.set_cons_zero, List.set_cons_succ]
      refine wpAnyH_take (i := 3) (oi := { dst := Option.some 20, op := Op.load 33 (Operand.tmp 19), type := 33, pos := "law.go:46", after := #[{ on := 2, ground := Ground.data }], guard := Option.none }) (v := ?_) rfl (by kernel_rfl) (by kernel_rfl) (by kernel_rfl) (fun _ _ _ h => h) (Or.inl ⟨by rfl, ?_⟩) (by assumption) ?_
      rotate_left
      · intro w hSw
        (try dsimp only at hSw)
        go_simp
        try with_reducible rfl
      try simp only [Act.put, List.setIfInBounds_toArray, List.set_cons_zero, List.set_cons_succ]
      refine wpAnyH_take (i := 4) (oi := { dst := Option.some 21, op := Op.move (Operand.tmp 1), type := 44, pos := "law.go:46", after := #[], guard := Option.none }) (v := ?_) rfl (by kernel_rfl) (by kernel_rfl) (by kernel_rfl) (fun _ _ _ h => h) (Or.inl ⟨by rfl, ?_⟩) (by assumption) ?_
      rotate_left
      · intro w hSw
        (try dsimp only at hSw)
        go_simp
        try with_reducible rfl
      try simp only [Act.put, List.setIfInBounds_toArray, List.set_cons_zero, List.set_cons_succ]
      refine wpAnyH_take (i := 5) (oi := { dst := Option.some 22, op := Op.move (Operand.tmp 5), type := 3, pos := "law.go:46", after := #[], guard := Option.none }) (v := ?_) rfl (by kernel_rfl) (by kernel_rfl) (by kernel_rfl) (fun _ _ _ h => h) (Or.inl ⟨by rfl, ?_⟩) (by assumption) ?_
      rotate_left
      · intro w hSw
        (try dsimp only at hSw)
        go_simp
        try with_reducible rfl
      try simp only [Act.put, List.setIfInBounds_toArray, List.set_cons_zero, List.set_cons_succ]
      refine wpAnyH_take (i := 6) (oi := { dst := Option.some 23, op := Op.indexAddr 44 (Operand.tmp 21) (Operand.tmp 22), type := 0, pos := "law.go:46", after := #[{ on := 4, ground := Ground.data }, { on := 5, ground := Ground.data }], guard := Option.none }) (v := ?_) rfl (by kernel_rfl) (by kernel_rfl) (by kernel_rfl) (fun _ _ _ h => h) (Or.inl ⟨by rfl, ?_⟩) (by assumption) ?_
      rotate_left
      · intro w hSw
        (try dsimp only at hSw)
        go_simp
        try with_reducible rfl
      try simp only [Act.put, List.setIfInBounds_toArray, List.set_cons_zero, List.set_cons_succ]
      refine wpAnyH_take (i := 7) (oi := { dst := Option.some 24, op := Op.load 33 (Operand.tmp 23), type := 33, pos := "law.go:46", after := #[{ on := 6, ground := Ground.data }], guard := Option.none }) (v := ?_) rfl (by kernel_rfl) (by kernel_rfl) (by kernel_rfl) (fun _ _ _ h => h) (Or.inl ⟨by rfl, ?_⟩) (by assumption) ?_
      rotate_left
      · intro w hSw
        (try dsimp only at hSw)
        go_simp
        try with_reducible rfl
      try simp only [Act.put, List.setIfInBounds_toArray, List.set_cons_zero, List.set_cons_succ]
      refine wpAnyH_take (i := 8) (oi := { dst := Option.some 25, op := Op.binOp BinOp.neq 33 (Operand.tmp 20) (Operand.tmp 24) 33, type := 4, pos := "law.go:46", after := #[{ on := 3, ground := Ground.data }, { on := 7, ground := Ground.data }], guard := Option.none }) (v := ?_) rfl (by kernel_rfl) (by kernel_rfl) (by kernel_rfl) (fun _ _ _ h => h) (Or.inl ⟨by rfl, ?_⟩) (by assumption) ?_
      rotate_left
      · intro w hSw
        (try dsimp only at hSw)
        go_simp
        try with_reducible rfl
      try simp only [Act.put, List.setIfInBounds_toArray, List.set_cons_zero, List.set_cons_succ]
      refine wpAnyH_done (by kernel_rfl) ?_ _
      clear hHeld

      go_wp2_with fail
      go_roundg (n - (i + 1))
      case rel => exact ⟨i + 1, by simp, rfl, hlt, HB2⟩
      case measure => omega
    · have hii : ¬ (i : Int) < (n : Int) := by omega
      go_wp2_with fail
      go_ret
      exact ⟨rfl, HB.out⟩
end Go.Proofs.Ytpbjmhcpaeillaa
