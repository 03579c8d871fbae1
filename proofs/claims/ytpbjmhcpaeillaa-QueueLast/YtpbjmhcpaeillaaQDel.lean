/- Queues: slices.Delete of the last entry. -/

import Derived.Test.YtpbjmhcpaeillaaQOf
import Derived.ArgAppend
namespace Go.Proofs.Ytpbjmhcpaeillaa
open Go.RowKit
set_option linter.unusedVariables false

theorem setL_out : ∀ (vs xs : List Value) (o : Nat), xs.length ≤ o → setL xs o vs = xs
  | [], xs, o, h => rfl
  | v :: r, xs, o, h => by
    show setL (xs.set o v) (o + 1) r = xs
    rw [List.set_eq_of_length_le h]
    exact setL_out r xs (o + 1) (by omega)
theorem own_less {w : World} {B g n cap : Nat} {l : List Wq.Wr} {a : Wq.Wr} (h : w.ownsRow B 58 5 (.slice (some ⟨g, 0, none⟩) (n + 1) cap) (n + 1) (flatW (l ++ [a]))) (hl : l.length = n) : w.ownsRow B 58 5 (.slice (some ⟨g, 0, none⟩) n cap) n (flatW l) := by
  refine ⟨by rw [flatW_len, hl], ?_⟩
  rcases h.2 with ⟨e, _⟩ | ⟨g', cap', cur, e, hb, hg, h1, h2, h3, h4⟩
  · cases e
  · simp only [Value.slice.injEq, Option.some.injEq, Addr.mk.injEq, and_true, true_and] at e
    obtain ⟨e1, e2⟩ := e
    subst e1 e2
    refine Or.inr ⟨g, cap, cur, rfl, hb, hg, by omega, h2, h3, ?_⟩
    have h5 := congrArg (List.take (n * 5)) h4
    rw [List.take_take, Nat.min_eq_left (by omega), flatW_app, List.take_append_of_le_length (by rw [flatW_len]; omega)] at h5
    rw [h5, List.take_of_length_le (by rw [flatW_len]; omega)]
/-- Nothing is laid behind a row. -/
theorem wp_apZ {o : Oper} {a : Act} {K : Act → World → Prop} {Q : Exit → Act → World → Prop} (sl x : Operand) (ho : o.op = .call { callee := .builtin .append, args := #[sl, x], argTypes := #[68, 68] })
    (w : World) (g n cap : Nat) (hs : a.eval sl = .slice (some ⟨g, 0, none⟩) n cap) (ad : Addr) (c : Nat) (hx : a.eval x = .slice (some ad) 0 c) (hn : n ≤ cap) (h : K (a.put o.dst (.slice (some ⟨g, 0, none⟩) n cap)) w) : o.wp Try.prog a w K Q := by
  obtain ⟨i0, hi0, hz0, hz1, hz2⟩ := info_partsQ wrInfo
  have hr := run_append_room_cells (P := Try.prog) (w := w) 68 o.type 58 i0 undWrs hi0 g 0 n cap ad 0 c [] (by simp) (fun j u hj => by simp at hj) (by simp) (by omega) (fun j hj => absurd hj (Nat.not_lt_zero _)) (fun j hj => absurd hj (Nat.not_lt_zero _))
  unfold Oper.wp execOp
  simp only [ho, resolve, invoke, builtin, Sem.run_bind, Sem.run_pure, Result.andThen_ok, List.map_toArray, List.map_cons, List.map_nil, hs, hx, hr]
  exact h
theorem clr_run (w : World) (g o c : Nat) (ty : TypeId) (ht : w.there g o 5) : (Builtin.clear_ #[68] ty #[.slice (some ⟨g, o, none⟩) 1 c]).run Try.prog w = .ok (.tuple #[]) (w.setCells g o (wrV zeW)) := by
  have hst := run_storeCells_cells (P := Try.prog) g o (wrV zeW) 0 w (fun j hj => (ht j hj).1) (fun j hj => (ht j hj).2) (oneWl zeW)
  simp only [Nat.add_zero] at hst
  have hz : ∀ w, (zeroValue 58).run Try.prog w = .ok (.agg #[.int .i64 0, .int .i64 0, .int .i64 0, .int .i64 0, .int .i64 0]) w := fun w => by kernel_rfl
  have hzc : (Builtin.zeroCells (Value.agg #[.int .i64 0, .int .i64 0, .int .i64 0, .int .i64 0, .int .i64 0]).cells 1).toList = wrV zeW := by kernel_rfl
  simp [Builtin.clear_, run_underlying undWrs, hz, hzc, hst]
set_option maxRecDepth 100000 in
set_option maxHeartbeats 4000000 in
theorem delete_any (g n cap B : Nat) (l : List Wq.Wr) (a : Wq.Wr) (w : World) (h : w.ownsRow B 58 5 (.slice (some ⟨g, 0, none⟩) (n + 1) cap) (n + 1) (flatW (l ++ [a]))) (hl : l.length = n) (hN : True → n ≤ 1000000000) :
    Calls Try.prog 45 #[.slice (some ⟨g, 0, none⟩) (n + 1) cap, .int .i64 (n : Int), .int .i64 ((n + 1 : Nat) : Int)] w fun en w' => en = .returned (.slice (some ⟨g, 0, none⟩) n cap) ∧ w'.ownsRow B 58 5 (.slice (some ⟨g, 0, none⟩) n cap) n (flatW l) ∧ Fr [g] w w' := by
  have HO : Hid (w.ownsRow B 58 5 (.slice (some ⟨g, 0, none⟩) (n + 1) cap) (n + 1) (flatW (l ++ [a]))) := h
  have HL : Hid (l.length = n) := hl
  have hcap : n + 1 ≤ cap := by
    rcases h.2 with ⟨e, _⟩ | ⟨g', cap', cur, e, _, _, h1, _⟩
    · cases e
    · simp only [Value.slice.injEq, Option.some.injEq, Addr.mk.injEq, and_true, true_and] at e
      omega
  clear h hl
  have n0 : (0 : Int) ≤ (n : Int) := by omega
  have n1 : (n : Int) ≤ (n : Int) + 1 := by omega
  have n2 : ¬ (n : Int) = (n : Int) + 1 := by omega
  have n3 : (n : Int) ≤ (cap : Int) := by omega
  have n4 : (n : Int) + 1 ≤ (cap : Int) := by omega
  have n5 : (0 : Int) ≤ (n : Int) + 1 := by omega
  have n6 : ((n : Int) + 1).toNat = n + 1 := by omega
  have n7 : ¬ cap = 0 := by omega
  have n8 : ¬ cap = n := by omega
  have n9 : ¬ n + 1 = n := by omega
  have n10 : n + 1 - n = 1 := by omega
  by_cases hc : cap = n + 1
  · subst hc
    go_enter Try.func45, Try.ntmps45
    go_upto_region 5 with fail
    refine wp_region_held_drew (S := fun _ => True) (by kernel_rfl) trivial (fun hHeld => ?_)
    have HO1 : Hid (w.drew.ownsRow B 58 5 (.slice (some ⟨g, 0, none⟩) (n + 1) (n + 1)) (n + 1) (flatW (l ++ [a]))) := HO.out
    have HF1 : Hid (Fr [g] w w.drew) := Fr.of_below _ (Below.refl w.heap.size w).drew
    generalize w.drew = W1 at *
    refine wpAnyH_take (i := 0) (oi := { dst := Option.some 20, op := Op.move (Operand.tmp 0), type := 68, pos := "slices.go:232", after := #[], guard := Option.none }) (v := ?_) rfl (by kernel_rfl) (by kernel_rfl) (by kernel_rfl) (fun _ _ _ h => h) (Or.inl ⟨by rfl, ?_⟩) (by assumption) ?_
    rotate_left
    · intro w hSw
      (try dsimp only at hSw)
      go_simp
      try with_reducible rfl
    try simp only [Act.put, List.setIfInBounds_toArray, List.set_cons_zero, List.set_cons_succ]
    refine wpAnyH_take (i := 1) (oi := { dst := Option.some 21, op := Op.move (Operand.tmp 1), type := 3, pos := "slices.go:232", after := #[], guard := Option.none }) (v := ?_) rfl (by kernel_rfl) (by kernel_rfl) (by kernel_rfl) (fun _ _ _ h => h) (Or.inl ⟨by rfl, ?_⟩) (by assumption) ?_
    rotate_left
    · intro w hSw
      (try dsimp only at hSw)
      go_simp
      try with_reducible rfl
    try simp only [Act.put, List.setIfInBounds_toArray, List.set_cons_zero, List.set_cons_succ]
    refine wpAnyH_take (i := 2) (oi := { dst := Option.some 22, op := Op.slice 68 (Operand.tmp 20) Option.none (Option.some (Operand.tmp 21)) Option.none, type := 68, pos := "slices.go:232", after := #[{ on := 0, ground := Ground.data }, { on := 1, ground := Ground.data }], guard := Option.none }) (v := ?_) rfl (by kernel_rfl) (by kernel_rfl) (by kernel_rfl) (fun _ _ _ h => h) (Or.inl ⟨by rfl, ?_⟩) (by assumption) ?_
    rotate_left
    · intro w hSw
      (try dsimp only at hSw)
      go_simp
      try with_reducible rfl
    try simp only [Act.put, List.setIfInBounds_toArray, List.set_cons_zero, List.set_cons_succ]
    refine wpAnyH_take (i := 3) (oi := { dst := Option.some 23, op := Op.move (Operand.tmp 0), type := 68, pos := "slices.go:232", after := #[], guard := Option.none }) (v := ?_) rfl (by kernel_rfl) (by kernel_rfl) (by kernel_rfl) (fun _ _ _ h => h) (Or.inl ⟨by rfl, ?_⟩) (by assumption) ?_
    rotate_left
    · intro w hSw
      (try dsimp only at hSw)
      go_simp
      try with_reducible rfl
    try simp only [Act.put, List.setIfInBounds_toArray, List.set_cons_zero, List.set_cons_succ]
    refine wpAnyH_take (i := 4) (oi := { dst := Option.some 24, op := Op.move (Operand.tmp 2), type := 3, pos := "slices.go:232", after := #[], guard := Option.none }) (v := ?_) rfl (by kernel_rfl) (by kernel_rfl) (by kernel_rfl) (fun _ _ _ h => h) (Or.inl ⟨by rfl, ?_⟩) (by assumption) ?_
    rotate_left
    · intro w hSw
      (try dsimp only at hSw)
      go_simp
      try with_reducible rfl
    try simp only [Act.put, List.setIfInBounds_toArray, List.set_cons_zero, List.set_cons_succ]
    refine wpAnyH_take (i := 5) (oi := { dst := Option.some 25, op := Op.slice 68 (Operand.tmp 23) (Option.some (Operand.tmp 24)) Option.none Option.none, type := 68, pos := "slices.go:232", after := #[{ on := 3, ground := Ground.data }, { on := 4, ground := Ground.data }], guard := Option.none }) (v := ?_) rfl (by kernel_rfl) (by kernel_rfl) (by kernel_rfl) (fun _ _ _ h => h) (Or.inl ⟨by rfl, ?_⟩) (by assumption) ?_
    rotate_left
    · intro w hSw
      (try dsimp only at hSw)
      go_simp
      try with_reducible rfl
    try simp only [Act.put, List.setIfInBounds_toArray, List.set_cons_zero, List.set_cons_succ]
    refine wpAnyH_ready (rs := [6]) (by kernel_rfl) (by simp) ?_
    refine AllReadyH.cons (o := { dst := Option.some 26, op := Op.call { callee := Callee.builtin Builtin.append, args := #[Operand.tmp 22, Operand.tmp 25], argTypes := #[68, 68] }, type := 68, pos := "slices.go:232", after := #[{ on := 2, ground := Ground.data }, { on := 5, ground := Ground.data }], guard := Option.none }) rfl (fun K hK => ?_) AllReadyH.nil
    refine wp_apZ (.tmp 22) (.tmp 25) rfl W1 g n (n + 1) rfl _ _ rfl (by omega) ?_
    refine hK.out _ _ trivial (fun hHeld => ?_)
    clear hK K
    try simp only [Act.put, List.setIfInBounds_toArray, List.set_cons_zero, List.set_cons_succ]
    refine wpAnyH_ready (rs := [7]) (by kernel_rfl) (by simp) ?_
    refine AllReadyH.cons (o := { dst := Option.some 0, op := Op.assign (Operand.tmp 26), type := 68, pos := "slices.go:232", after := #[{ on := 6, ground := Ground.data }, { on := 6, ground := Ground.chain }, { on := 0, ground := Ground.phase }, { on := 1, ground := Ground.phase }, { on := 2, ground := Ground.phase }, { on := 3, ground := Ground.phase }, { on := 4, ground := Ground.phase }, { on := 5, ground := Ground.phase }, { on := 6, ground := Ground.phase }], guard := Option.none }) rfl (fun K hK => ?_) AllReadyH.nil
    go_simp
    refine hK.out _ _ trivial (fun hHeld => ?_)
    clear hK K
    try simp only [Act.put, List.setIfInBounds_toArray, List.set_cons_zero, List.set_cons_succ]
    refine wpAnyH_done (by kernel_rfl) ?_ _
    clear hHeld

    have hth : W1.there g (n * 5) 5 := by
      obtain ⟨x, c, e1, _, hr⟩ := own_open HO1.out
      obtain ⟨g', e2, ht, _⟩ := hr (by omega)
      rw [e2] at e1
      simp only [Value.slice.injEq, Option.some.injEq, Addr.mk.injEq, and_true, true_and] at e1
      rw [e1.1]
      exact ht n (by omega)
    have hcl := fun c ty => clr_run W1 g (n * 5) c ty hth
    have HE : Hid ((W1.setCells g (n * 5) (wrV zeW)).ownsRow B 58 5 (.slice (some ⟨g, 0, none⟩) n (n + 1)) n (flatW l) ∧ Fr [g] w (W1.setCells g (n * 5) (wrV zeW))) := by
      have o1 := own_less HO1.out HL.out
      have o2 := (own_setAll (wrV zeW) (n * 5) W1 _ o1).1
      rw [setL_out _ _ _ (by rw [flatW_len, HL.out]; omega)] at o2
      exact ⟨o2, Fr.trans HF1.out (setCells_fr W1 g (wrV zeW) (n * 5))⟩
    clear HO HO1 HF1 hth
    go_wp2
    go_ret
    exact ⟨rfl, HE.out⟩
  · skip
    go_enter Try.func45, Try.ntmps45
    go_upto_region 5 with fail
    refine wp_region_held_drew (S := fun _ => True) (by kernel_rfl) trivial (fun hHeld => ?_)
    have HO1 : Hid (w.drew.ownsRow B 58 5 (.slice (some ⟨g, 0, none⟩) (n + 1) cap) (n + 1) (flatW (l ++ [a]))) := HO.out
    have HF1 : Hid (Fr [g] w w.drew) := Fr.of_below _ (Below.refl w.heap.size w).drew
    generalize w.drew = W1 at *
    refine wpAnyH_take (i := 0) (oi := { dst := Option.some 20, op := Op.move (Operand.tmp 0), type := 68, pos := "slices.go:232", after := #[], guard := Option.none }) (v := ?_) rfl (by kernel_rfl) (by kernel_rfl) (by kernel_rfl) (fun _ _ _ h => h) (Or.inl ⟨by rfl, ?_⟩) (by assumption) ?_
    rotate_left
    · intro w hSw
      (try dsimp only at hSw)
      go_simp
      try with_reducible rfl
    try simp only [Act.put, List.setIfInBounds_toArray, List.set_cons_zero, List.set_cons_succ]
    refine wpAnyH_take (i := 1) (oi := { dst := Option.some 21, op := Op.move (Operand.tmp 1), type := 3, pos := "slices.go:232", after := #[], guard := Option.none }) (v := ?_) rfl (by kernel_rfl) (by kernel_rfl) (by kernel_rfl) (fun _ _ _ h => h) (Or.inl ⟨by rfl, ?_⟩) (by assumption) ?_
    rotate_left
    · intro w hSw
      (try dsimp only at hSw)
      go_simp
      try with_reducible rfl
    try simp only [Act.put, List.setIfInBounds_toArray, List.set_cons_zero, List.set_cons_succ]
    refine wpAnyH_take (i := 2) (oi := { dst := Option.some 22, op := Op.slice 68 (Operand.tmp 20) Option.none (Option.some (Operand.tmp 21)) Option.none, type := 68, pos := "slices.go:232", after := #[{ on := 0, ground := Ground.data }, { on := 1, ground := Ground.data }], guard := Option.none }) (v := ?_) rfl (by kernel_rfl) (by kernel_rfl) (by kernel_rfl) (fun _ _ _ h => h) (Or.inl ⟨by rfl, ?_⟩) (by assumption) ?_
    rotate_left
    · intro w hSw
      (try dsimp only at hSw)
      go_simp
      try with_reducible rfl
    try simp only [Act.put, List.setIfInBounds_toArray, List.set_cons_zero, List.set_cons_succ]
    refine wpAnyH_take (i := 3) (oi := { dst := Option.some 23, op := Op.move (Operand.tmp 0), type := 68, pos := "slices.go:232", after := #[], guard := Option.none }) (v := ?_) rfl (by kernel_rfl) (by kernel_rfl) (by kernel_rfl) (fun _ _ _ h => h) (Or.inl ⟨by rfl, ?_⟩) (by assumption) ?_
    rotate_left
    · intro w hSw
      (try dsimp only at hSw)
      go_simp
      try with_reducible rfl
    try simp only [Act.put, List.setIfInBounds_toArray, List.set_cons_zero, List.set_cons_succ]
    refine wpAnyH_take (i := 4) (oi := { dst := Option.some 24, op := Op.move (Operand.tmp 2), type := 3, pos := "slices.go:232", after := #[], guard := Option.none }) (v := ?_) rfl (by kernel_rfl) (by kernel_rfl) (by kernel_rfl) (fun _ _ _ h => h) (Or.inl ⟨by rfl, ?_⟩) (by assumption) ?_
    rotate_left
    · intro w hSw
      (try dsimp only at hSw)
      go_simp
      try with_reducible rfl
    try simp only [Act.put, List.setIfInBounds_toArray, List.set_cons_zero, List.set_cons_succ]
    refine wpAnyH_take (i := 5) (oi := { dst := Option.some 25, op := Op.slice 68 (Operand.tmp 23) (Option.some (Operand.tmp 24)) Option.none Option.none, type := 68, pos := "slices.go:232", after := #[{ on := 3, ground := Ground.data }, { on := 4, ground := Ground.data }], guard := Option.none }) (v := ?_) rfl (by kernel_rfl) (by kernel_rfl) (by kernel_rfl) (fun _ _ _ h => h) (Or.inl ⟨by rfl, ?_⟩) (by assumption) ?_
    rotate_left
    · intro w hSw
      (try dsimp only at hSw)
      go_simp
      try with_reducible rfl
    try simp only [Act.put, List.setIfInBounds_toArray, List.set_cons_zero, List.set_cons_succ]
    refine wpAnyH_ready (rs := [6]) (by kernel_rfl) (by simp) ?_
    refine AllReadyH.cons (o := { dst := Option.some 26, op := Op.call { callee := Callee.builtin Builtin.append, args := #[Operand.tmp 22, Operand.tmp 25], argTypes := #[68, 68] }, type := 68, pos := "slices.go:232", after := #[{ on := 2, ground := Ground.data }, { on := 5, ground := Ground.data }], guard := Option.none }) rfl (fun K hK => ?_) AllReadyH.nil
    refine wp_apZ (.tmp 22) (.tmp 25) rfl W1 g n cap rfl _ _ rfl (by omega) ?_
    refine hK.out _ _ trivial (fun hHeld => ?_)
    clear hK K
    try simp only [Act.put, List.setIfInBounds_toArray, List.set_cons_zero, List.set_cons_succ]
    refine wpAnyH_ready (rs := [7]) (by kernel_rfl) (by simp) ?_
    refine AllReadyH.cons (o := { dst := Option.some 0, op := Op.assign (Operand.tmp 26), type := 68, pos := "slices.go:232", after := #[{ on := 6, ground := Ground.data }, { on := 6, ground := Ground.chain }, { on := 0, ground := Ground.phase }, { on := 1, ground := Ground.phase }, { on := 2, ground := Ground.phase }, { on := 3, ground := Ground.phase }, { on := 4, ground := Ground.phase }, { on := 5, ground := Ground.phase }, { on := 6, ground := Ground.phase }], guard := Option.none }) rfl (fun K hK => ?_) AllReadyH.nil
    go_simp
    refine hK.out _ _ trivial (fun hHeld => ?_)
    clear hK K
    try simp only [Act.put, List.setIfInBounds_toArray, List.set_cons_zero, List.set_cons_succ]
    refine wpAnyH_done (by kernel_rfl) ?_ _
    clear hHeld

    have hth : W1.there g (n * 5) 5 := by
      obtain ⟨x, c, e1, _, hr⟩ := own_open HO1.out
      obtain ⟨g', e2, ht, _⟩ := hr (by omega)
      rw [e2] at e1
      simp only [Value.slice.injEq, Option.some.injEq, Addr.mk.injEq, and_true, true_and] at e1
      rw [e1.1]
      exact ht n (by omega)
    have hcl := fun c ty => clr_run W1 g (n * 5) c ty hth
    have HE : Hid ((W1.setCells g (n * 5) (wrV zeW)).ownsRow B 58 5 (.slice (some ⟨g, 0, none⟩) n cap) n (flatW l) ∧ Fr [g] w (W1.setCells g (n * 5) (wrV zeW))) := by
      have o1 := own_less HO1.out HL.out
      have o2 := (own_setAll (wrV zeW) (n * 5) W1 _ o1).1
      rw [setL_out _ _ _ (by rw [flatW_len, HL.out]; omega)] at o2
      exact ⟨o2, Fr.trans HF1.out (setCells_fr W1 g (wrV zeW) (n * 5))⟩
    clear HO HO1 HF1 hth
    go_wp2
    go_ret
    exact ⟨rfl, HE.out⟩
end Go.Proofs.Ytpbjmhcpaeillaa
