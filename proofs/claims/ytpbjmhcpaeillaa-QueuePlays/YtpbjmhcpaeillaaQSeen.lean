/- Queues: is a cell seen? -/

import Derived.Test.YtpbjmhcpaeillaaQStC
namespace Go.Proofs.Ytpbjmhcpaeillaa
open Go.RowKit
set_option linter.unusedVariables false

/-- An area of a row, cell by cell. -/
abbrev Five5 (W : World) (g o : Nat) (x : Wpl.Ar) : Prop := (W.cell? ⟨g, o, none⟩ = some (.int .i64 x.s) ∧ W.cell? ⟨g, o + 1, none⟩ = some (.int .i64 x.t)) ∧ (W.cell? ⟨g, o + 2, none⟩ = some (.int .i64 x.l) ∧ W.cell? ⟨g, o + 3, none⟩ = some (.int .i64 x.b)) ∧ W.cell? ⟨g, o + 4, none⟩ = some (.int .i64 x.r)
theorem Five5.below {W W' : World} {g o : Nat} {x : Wpl.Ar} (h : Five5 W g o x) (hb : Below W.heap.size W W') : Five5 W' g o x :=
  ⟨⟨cell_below hb h.1.1, cell_below hb h.1.2⟩, ⟨cell_below hb h.2.1.1, cell_below hb h.2.1.2⟩, cell_below hb h.2.2⟩
set_option maxRecDepth 100000 in
set_option maxHeartbeats 4000000 in
theorem seen_any (A : List Wpl.Ar) (x : Wpl.Cl) (av : Option Addr) (n cap : Nat) (w : World) (hr : RdQ w av A) (hn : A.length = n) (hN : True → n ≤ 1000000000) :
    Calls Try.prog 23 #[.slice av n cap, .agg #[.int .i64 x.s, .int .i64 x.r, .int .i64 x.c]] w fun en w' => en = .returned (.bool (seeQ A x)) ∧ Below w.heap.size w w' := by
  have hb0 := ball (Below.refl _ w) (.cells #[.int .i64 x.s, .int .i64 x.r, .int .i64 x.c] 33)
  have HH : Hid (RdQ (w.alloc (.cells #[.int .i64 x.s, .int .i64 x.r, .int .i64 x.c] 33)) av A ∧ A.length = n) := ⟨hr.below hb0, hn⟩
  have HT3 : Hid (Three (w.alloc (.cells #[.int .i64 x.s, .int .i64 x.r, .int .i64 x.c] 33)) w.heap.size (.int .i64 x.s) (.int .i64 x.r) (.int .i64 x.c)) := AtL.f3 (AtL.new0 w 33 [.int .i64 x.s, .int .i64 x.r, .int .i64 x.c])
  have HB0 : Hid (Below w.heap.size w (w.alloc (.cells #[.int .i64 x.s, .int .i64 x.r, .int .i64 x.c] 33))) := hb0
  clear hr hn hb0
  go_enter Try.func23, Try.ntmps23
  go_upto_region 2 with fail
  have HSZ : Hid (∃ eb, w.heap.size = eb) := ⟨_, rfl⟩
  generalize w.alloc (.cells #[.int .i64 x.s, .int .i64 x.r, .int .i64 x.c] 33) = W0 at *
  obtain ⟨eb, heb⟩ := HSZ.out
  have HT3 : Hid (Three W0 eb (.int .i64 x.s) (.int .i64 x.r) (.int .i64 x.c)) := by rw [← heb]; exact HT3.out
  rw [heb]
  clear heb HSZ
  go_loopg [5] n (fun gk u wr => ∃ i : Nat, u = .int .i64 (i : Int) ∧ gk = n - i ∧ i ≤ n ∧ Hid (Below W0.heap.size W0 wr) ∧ Hid (seeQ (A.take i) x = false))
  case atStart => exact ⟨0, rfl, rfl, Nat.zero_le _, Below.refl _ _, rfl⟩
  case round =>
    obtain ⟨i, rfl, hg, hi, HB, HS⟩ := hrel
    generalize hw9 : wr = W1 at *
    clear hw9
    by_cases hlt : i < n
    · have hii : (i : Int) < (n : Int) := by omega
      have hiz : (0 : Int) ≤ (i : Int) := by omega
      have hwi : IntKind.i64.wrap ((i : Int) + 1) = (i : Int) + 1 := by have := hN trivial; rw [IntKind.wrap_i64]; omega
      obtain ⟨a, ha⟩ : ∃ a, A[i]? = some a := ⟨A[i]'(by rw [HH.out.2]; exact hlt), List.getElem?_eq_getElem _⟩
      obtain ⟨bb, off, e, hrow⟩ := HH.out.1.below HB.out i a ha
      subst e
      have k5 : Five5 W1 bb (off + i * 5) a := ⟨⟨hrow 0 _ rfl, hrow 1 _ rfl⟩, ⟨hrow 2 _ rfl, hrow 3 _ rfl⟩, hrow 4 _ rfl⟩
      have t3 := three_below HB.out HT3.out
      obtain ⟨q, hq⟩ : ∃ q, Wpl.hasA a.s a.t a.l a.b a.r x.s x.r x.c = q := ⟨_, rfl⟩
      have HT : Hid (Wpl.hasA a.s a.t a.l a.b a.r x.s x.r x.c = q) := hq
      have HA : Hid (A[i]? = some a) := ha
      clear hq ha hrow
      go_upto_region 4 with fail
      have hb1 := (Below.refl W1.heap.size W1).drew
      refine wp_region_held_drew (S := fun W => Three W eb (.int .i64 x.s) (.int .i64 x.r) (.int .i64 x.c) ∧ Five5 W bb (off + i * 5) a) (by kernel_rfl) ⟨three_drew t3, k5.below hb1⟩ (fun hHeld => ?_)
      have HB2 : Hid (Below W0.heap.size W0 W1.drew) := below_end HB.out hb1
      replace t3 := three_drew t3
      replace k5 := k5.below hb1
      clear hb1 HB
      generalize W1.drew = W2 at *
      refine wpAnyH_take (i := 0) (oi := { dst := Option.some 12, op := Op.move (Operand.tmp 0), type := 29, pos := "outright.go:29", after := #[], guard := Option.none }) (v := ?_) rfl (by kernel_rfl) (by kernel_rfl) (by kernel_rfl) (fun _ _ _ h => h) (Or.inl ⟨by rfl, ?_⟩) (by assumption) ?_
      rotate_left
      · intro w hSw
        (try dsimp only at hSw)
        go_simp
        try with_reducible rfl
      try simp only [Act.put, List.setIfInBounds_toArray, List.set_cons_zero, List.set_cons_succ]
      refine wpAnyH_take (i := 1) (oi := { dst := Option.some 13, op := Op.move (Operand.tmp 5), type := 3, pos := "outright.go:29", after := #[], guard := Option.none }) (v := ?_) rfl (by kernel_rfl) (by kernel_rfl) (by kernel_rfl) (fun _ _ _ h => h) (Or.inl ⟨by rfl, ?_⟩) (by assumption) ?_
      rotate_left
      · intro w hSw
        (try dsimp only at hSw)
        go_simp
        try with_reducible rfl
      try simp only [Act.put, List.setIfInBounds_toArray, List.set_cons_zero, List.set_cons_succ]
      refine wpAnyH_take (i := 2) (oi := { dst := Option.some 14, op := Op.indexAddr 29 (Operand.tmp 12) (Operand.tmp 13), type := 0, pos := "outright.go:29", after := #[{ on := 0, ground := Ground.data }, { on := 1, ground := Ground.data }], guard := Option.none }) (v := ?_) rfl (by kernel_rfl) (by kernel_rfl) (by kernel_rfl) (fun _ _ _ h => h) (Or.inl ⟨by rfl, ?_⟩) (by assumption) ?_
      rotate_left
      · intro w hSw
        (try dsimp only at hSw)
        go_simp
        try with_reducible rfl
      try simp only [Act.put, List.setIfInBounds_toArray, List.set_cons_zero, List.set_cons_succ]
      refine wpAnyH_take (i := 3) (oi := { dst := Option.some 15, op := Op.load 39 (Operand.tmp 14), type := 39, pos := "outright.go:29", after := #[{ on := 2, ground := Ground.data }], guard := Option.none }) (v := ?_) rfl (by kernel_rfl) (by kernel_rfl) (by kernel_rfl) (fun _ _ _ h => h) (Or.inl ⟨by rfl, ?_⟩) (by assumption) ?_
      rotate_left
      · intro w hSw
        (try dsimp only at hSw)
        go_simp
        try with_reducible rfl
      try simp only [Act.put, List.setIfInBounds_toArray, List.set_cons_zero, List.set_cons_succ]
      refine wpAnyH_take (i := 4) (oi := { dst := Option.some 16, op := Op.load 33 (Operand.tmp 3), type := 33, pos := "outright.go:29", after := #[], guard := Option.none }) (v := ?_) rfl (by kernel_rfl) (by kernel_rfl) (by kernel_rfl) (fun _ _ _ h => h) (Or.inl ⟨by rfl, ?_⟩) (by assumption) ?_
      rotate_left
      · intro w hSw
        (try dsimp only at hSw)
        go_simp
        try with_reducible rfl
      try simp only [Act.put, List.setIfInBounds_toArray, List.set_cons_zero, List.set_cons_succ]
      refine wpAnyH_ready (rs := [5]) (by kernel_rfl) (by simp) ?_
      refine AllReadyH.cons (o := { dst := Option.some 17, op := Op.call { callee := Callee.value (Operand.func 41), args := #[Operand.tmp 15, Operand.tmp 16], argTypes := #[39, 33] }, type := 4, pos := "outright.go:29", after := #[{ on := 3, ground := Ground.data }, { on := 4, ground := Ground.data }], guard := Option.none }) rfl (fun K hK => ?_) AllReadyH.nil
      have HS := hasQ a.s a.t a.l a.b a.r x.s x.r x.c W2
      rw [HT.out] at HS
      go_simp
      refine HS.mono ?_
      rintro en w4 ⟨rfl, hb4⟩
      have HB4 : Hid (Below W0.heap.size W0 w4) := below_end HB2.out hb4
      replace t3 := three_below hb4 t3
      replace k5 := k5.below hb4
      clear HS hb4 HB2
      go_wp2_with fail
      refine hK.out _ _ ⟨t3, k5⟩ (fun hHeld => ?_)
      clear hK K t3 k5
      try simp only [Act.put, List.setIfInBounds_toArray, List.set_cons_zero, List.set_cons_succ]
      refine wpAnyH_done (by kernel_rfl) ?_ _
      clear hHeld

      cases q with
      | true =>
        have HE : Hid (seeQ A x = true) := by
          show _ = _
          unfold seeQ
          rw [List.any_eq_true]
          exact ⟨a, List.mem_of_getElem? HA.out, HT.out⟩
        go_wp2_with fail
        go_ret
        exact ⟨by rw [HE.out]; rfl, below_end HB0.out HB4.out⟩
      | false =>
        have HS2 : Hid (seeQ (A.take (i + 1)) x = false) := by
          have h1 := HS.out
          show seeQ (A.take (i + 1)) x = false
          unfold seeQ at *
          rw [List.take_add_one, HA.out, List.any_append, h1]
          simp [HT.out]
        clear HS
        go_wp2_with fail
        go_roundg (n - (i + 1))
        case rel => exact ⟨i + 1, by simp, rfl, hlt, HB4, HS2⟩
        case measure => omega
    · have hii : ¬ (i : Int) < (n : Int) := by omega
      have HE : Hid (seeQ A x = false) := by
        have h1 := HS.out
        rw [List.take_of_length_le (by rw [HH.out.2]; omega)] at h1
        exact h1
      go_wp2_with fail
      go_ret
      exact ⟨by rw [HE.out]; rfl, below_end HB0.out HB.out⟩
end Go.Proofs.Ytpbjmhcpaeillaa
