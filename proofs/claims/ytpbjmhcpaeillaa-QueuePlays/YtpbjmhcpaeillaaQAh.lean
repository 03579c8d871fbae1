/- Queues: which of two entries goes ahead. -/

import Derived.Test.YtpbjmhcpaeillaaQHp
namespace Wq
theorem cmpW_lt (a b : Wr) : decide (cmpW a b < 0) = ltW a b := by
  have hb : ∀ s r c s' r' c' : Int, Wpl.before s r c s' r' c' = true ↔ s < s' ∨ s = s' ∧ (r < r' ∨ r = r' ∧ c < c') := by
    intro s r c s' r' c'
    unfold Wpl.before
    by_cases h : s = s'
    · subst h
      rw [if_neg (by simp)]
      by_cases k : r = r'
      · subst k
        rw [if_neg (by simp), decide_eq_true_eq]
        omega
      · rw [if_pos k, decide_eq_true_eq]
        omega
    · rw [if_pos h, decide_eq_true_eq]
      omega
  rw [Bool.eq_iff_iff, decide_eq_true_eq]
  unfold ltW
  rw [decide_eq_true_eq]
  unfold cmpW cmp3 cmpC
  have h1 := hb a.s a.r a.c b.s b.r b.c
  have h2 := hb b.s b.r b.c a.s a.r a.c
  cases e1 : Wpl.before a.s a.r a.c b.s b.r b.c with
  | true =>
    have h3 := h1.1 e1
    simp only [if_true]
    split <;> split <;> (try split) <;> (try split) <;> (try split) <;> omega
  | false =>
    have h3 : ¬ _ := fun z => by rw [h1.2 z] at e1; cases e1
    cases e2 : Wpl.before b.s b.r b.c a.s a.r a.c with
    | true =>
      have h4 := h2.1 e2
      simp only [if_true, Bool.false_eq_true, if_false]
      split <;> split <;> (try split) <;> (try split) <;> (try split) <;> omega
    | false =>
      simp only [Bool.false_eq_true, if_false]
      split <;> split <;> (try split) <;> (try split) <;> (try split) <;> omega
end Wq
namespace Go.Proofs.Ytpbjmhcpaeillaa
open Go.RowKit
set_option linter.unusedVariables false

/-- An entry of a row, cell by cell. -/
def Row5 (W : World) (g o : Nat) (x : Wq.Wr) : Prop := (W.cell? ⟨g, o, none⟩ = some (.int .i64 x.s) ∧ W.cell? ⟨g, o + 1, none⟩ = some (.int .i64 x.r)) ∧ (W.cell? ⟨g, o + 2, none⟩ = some (.int .i64 x.c) ∧ W.cell? ⟨g, o + 3, none⟩ = some (.int .i64 x.ln)) ∧ W.cell? ⟨g, o + 4, none⟩ = some (.int .i64 x.lv)
theorem Row5.below {W W' : World} {g o : Nat} {x : Wq.Wr} (h : Row5 W g o x) (hb : Below W.heap.size W W') : Row5 W' g o x :=
  ⟨⟨cell_below hb h.1.1, cell_below hb h.1.2⟩, ⟨cell_below hb h.2.1.1, cell_below hb h.2.1.2⟩, cell_below hb h.2.2⟩
theorem HQ.row {w : World} {hb mb B g n cap : Nat} {l : List Wq.Wr} {F : List (Wpl.Cl × Int)} (h : HQ w hb mb B (.slice (some ⟨g, 0, none⟩) n cap) l F) (hn : l.length = n) {i : Nat} (hi : i < n) {a : Wq.Wr} (ha : l[i]? = some a) : Row5 w g (i * 5) a := by
  have o := h.own
  rw [hn] at o
  obtain ⟨x, c, e1, _, hr⟩ := own_open o
  obtain ⟨g', e2, _, hc⟩ := hr (by omega)
  rw [e2] at e1
  simp only [Value.slice.injEq, Option.some.injEq, Addr.mk.injEq, and_true, true_and] at e1
  obtain ⟨hlt, ea⟩ := List.getElem?_eq_some_iff.1 ha
  have key : ∀ c v, (wrV a)[c]? = some v → c < 5 → w.cell? ⟨g, i * 5 + c, none⟩ = some v := fun c v hv hc5 => by
    have q := flatW_gt l i hlt c hc5
    rw [ea, hv] at q
    obtain ⟨hj, q2⟩ := List.getElem?_eq_some_iff.1 q
    rw [e1.1, hc _ hj, q2]
  exact ⟨⟨key 0 _ rfl (by omega), key 1 _ rfl (by omega)⟩, ⟨key 2 _ rfl (by omega), key 3 _ rfl (by omega)⟩, key 4 _ rfl (by omega)⟩
set_option maxRecDepth 100000 in
set_option maxHeartbeats 4000000 in
theorem ahead_any (hb mb B g n cap : Nat) (l : List Wq.Wr) (F : List (Wpl.Cl × Int)) (i k : Nat) (a b : Wq.Wr) (w : World) (h : HQ w hb mb B (.slice (some ⟨g, 0, none⟩) n cap) l F) (hn : l.length = n) (hi : i < n) (hk : k < n) (ha : l[i]? = some a) (hbb : l[k]? = some b) :
    Calls Try.prog 55 #[.pointer (some ⟨hb, 0, none⟩), .int .i64 (i : Int), .int .i64 (k : Int)] w fun en w' => en = .returned (.bool (Wq.ltW a b)) ∧ Below w.heap.size w w' := by
  have ra := h.row hn hi ha
  have rb := h.row hn hk hbb
  obtain ⟨c0, _, _, _⟩ := h.hd.two
  have hii : (i : Int) < (n : Int) := by omega
  have hiz : (0 : Int) ≤ (i : Int) := by omega
  have hki : (k : Int) < (n : Int) := by omega
  have hkz : (0 : Int) ≤ (k : Int) := by omega
  have HL : Hid (decide (Wq.cmpW a b < 0) = Wq.ltW a b) := Wq.cmpW_lt a b
  clear h hn hi hk ha hbb
  go_enter Try.func55, Try.ntmps55
  go_upto_region 1 with fail
  have hb1 := (Below.refl w.heap.size w).drew
  refine wp_region_held_drew (S := fun W => W.cell? ⟨hb, 0, none⟩ = some (.slice (some ⟨g, 0, none⟩) n cap) ∧ Row5 W g (i * 5) a ∧ Row5 W g (k * 5) b) (by kernel_rfl) ⟨cell_below hb1 c0, ra.below hb1, rb.below hb1⟩ (fun hHeld => ?_)
  replace c0 := cell_below hb1 c0
  replace ra := ra.below hb1
  replace rb := rb.below hb1
  have HB : Hid (Below w.heap.size w w.drew) := hb1
  clear hb1
  generalize w.drew = W1 at *
  refine wpAnyH_take (i := 0) (oi := { dst := Option.some 7, op := Op.move (Operand.tmp 0), type := 55, pos := "heap.go:114", after := #[], guard := Option.none }) (v := ?_) rfl (by kernel_rfl) (by kernel_rfl) (by kernel_rfl) (fun _ _ _ h => h) (Or.inl ⟨by rfl, ?_⟩) (by assumption) ?_
  rotate_left
  · intro w hSw
    (try dsimp only [Row5] at hSw)
    go_simp
    try with_reducible rfl
  try simp only [Act.put, List.setIfInBounds_toArray, List.set_cons_zero, List.set_cons_succ]
  refine wpAnyH_take (i := 1) (oi := { dst := Option.some 8, op := Op.nilCheck (Operand.tmp 7), type := 0, pos := "heap.go:114", after := #[{ on := 0, ground := Ground.data }], guard := Option.none }) (v := ?_) rfl (by kernel_rfl) (by kernel_rfl) (by kernel_rfl) (fun _ _ _ h => h) (Or.inl ⟨by rfl, ?_⟩) (by assumption) ?_
  rotate_left
  · intro w hSw
    (try dsimp only [Row5] at hSw)
    go_simp
    try with_reducible rfl
  try simp only [Act.put, List.setIfInBounds_toArray, List.set_cons_zero, List.set_cons_succ]
  refine wpAnyH_take (i := 2) (oi := { dst := Option.some 9, op := Op.fieldAddr 76 (Operand.tmp 8) 0, type := 0, pos := "heap.go:114", after := #[{ on := 1, ground := Ground.data }], guard := Option.none }) (v := ?_) rfl (by kernel_rfl) (by kernel_rfl) (by kernel_rfl) (fun _ _ _ h => h) (Or.inl ⟨by rfl, ?_⟩) (by assumption) ?_
  rotate_left
  · intro w hSw
    (try dsimp only [Row5] at hSw)
    go_simp
    try with_reducible rfl
  try simp only [Act.put, List.setIfInBounds_toArray, List.set_cons_zero, List.set_cons_succ]
  refine wpAnyH_take (i := 3) (oi := { dst := Option.some 10, op := Op.load 68 (Operand.tmp 9), type := 68, pos := "heap.go:114", after := #[{ on := 2, ground := Ground.data }], guard := Option.none }) (v := ?_) rfl (by kernel_rfl) (by kernel_rfl) (by kernel_rfl) (fun _ _ _ h => h) (Or.inl ⟨by rfl, ?_⟩) (by assumption) ?_
  rotate_left
  · intro w hSw
    (try dsimp only [Row5] at hSw)
    go_simp
    try with_reducible rfl
  try simp only [Act.put, List.setIfInBounds_toArray, List.set_cons_zero, List.set_cons_succ]
  refine wpAnyH_take (i := 4) (oi := { dst := Option.some 11, op := Op.move (Operand.tmp 1), type := 3, pos := "heap.go:114", after := #[], guard := Option.none }) (v := ?_) rfl (by kernel_rfl) (by kernel_rfl) (by kernel_rfl) (fun _ _ _ h => h) (Or.inl ⟨by rfl, ?_⟩) (by assumption) ?_
  rotate_left
  · intro w hSw
    (try dsimp only [Row5] at hSw)
    go_simp
    try with_reducible rfl
  try simp only [Act.put, List.setIfInBounds_toArray, List.set_cons_zero, List.set_cons_succ]
  refine wpAnyH_take (i := 5) (oi := { dst := Option.some 12, op := Op.indexAddr 68 (Operand.tmp 10) (Operand.tmp 11), type := 0, pos := "heap.go:114", after := #[{ on := 3, ground := Ground.data }, { on := 4, ground := Ground.data }], guard := Option.none }) (v := ?_) rfl (by kernel_rfl) (by kernel_rfl) (by kernel_rfl) (fun _ _ _ h => h) (Or.inl ⟨by rfl, ?_⟩) (by assumption) ?_
  rotate_left
  · intro w hSw
    (try dsimp only [Row5] at hSw)
    go_simp
    try with_reducible rfl
  try simp only [Act.put, List.setIfInBounds_toArray, List.set_cons_zero, List.set_cons_succ]
  refine wpAnyH_take (i := 6) (oi := { dst := Option.some 13, op := Op.load 58 (Operand.tmp 12), type := 58, pos := "heap.go:114", after := #[{ on := 5, ground := Ground.data }], guard := Option.none }) (v := ?_) rfl (by kernel_rfl) (by kernel_rfl) (by kernel_rfl) (fun _ _ _ h => h) (Or.inl ⟨by rfl, ?_⟩) (by assumption) ?_
  rotate_left
  · intro w hSw
    (try dsimp only [Row5] at hSw)
    go_simp
    try with_reducible rfl
  try simp only [Act.put, List.setIfInBounds_toArray, List.set_cons_zero, List.set_cons_succ]
  refine wpAnyH_take (i := 7) (oi := { dst := Option.some 14, op := Op.makeInterface 58 (Operand.tmp 13), type := 20, pos := "heap.go:114", after := #[{ on := 6, ground := Ground.data }], guard := Option.none }) (v := ?_) rfl (by kernel_rfl) (by kernel_rfl) (by kernel_rfl) (fun _ _ _ h => h) (Or.inl ⟨by rfl, ?_⟩) (by assumption) ?_
  rotate_left
  · intro w hSw
    (try dsimp only [Row5] at hSw)
    go_simp
    try with_reducible rfl
  try simp only [Act.put, List.setIfInBounds_toArray, List.set_cons_zero, List.set_cons_succ]
  refine wpAnyH_take (i := 8) (oi := { dst := Option.some 15, op := Op.move (Operand.tmp 0), type := 55, pos := "heap.go:114", after := #[], guard := Option.none }) (v := ?_) rfl (by kernel_rfl) (by kernel_rfl) (by kernel_rfl) (fun _ _ _ h => h) (Or.inl ⟨by rfl, ?_⟩) (by assumption) ?_
  rotate_left
  · intro w hSw
    (try dsimp only [Row5] at hSw)
    go_simp
    try with_reducible rfl
  try simp only [Act.put, List.setIfInBounds_toArray, List.set_cons_zero, List.set_cons_succ]
  refine wpAnyH_take (i := 9) (oi := { dst := Option.some 16, op := Op.nilCheck (Operand.tmp 15), type := 0, pos := "heap.go:114", after := #[{ on := 8, ground := Ground.data }], guard := Option.none }) (v := ?_) rfl (by kernel_rfl) (by kernel_rfl) (by kernel_rfl) (fun _ _ _ h => h) (Or.inl ⟨by rfl, ?_⟩) (by assumption) ?_
  rotate_left
  · intro w hSw
    (try dsimp only [Row5] at hSw)
    go_simp
    try with_reducible rfl
  try simp only [Act.put, List.setIfInBounds_toArray, List.set_cons_zero, List.set_cons_succ]
  refine wpAnyH_take (i := 10) (oi := { dst := Option.some 17, op := Op.fieldAddr 76 (Operand.tmp 16) 0, type := 0, pos := "heap.go:114", after := #[{ on := 9, ground := Ground.data }], guard := Option.none }) (v := ?_) rfl (by kernel_rfl) (by kernel_rfl) (by kernel_rfl) (fun _ _ _ h => h) (Or.inl ⟨by rfl, ?_⟩) (by assumption) ?_
  rotate_left
  · intro w hSw
    (try dsimp only [Row5] at hSw)
    go_simp
    try with_reducible rfl
  try simp only [Act.put, List.setIfInBounds_toArray, List.set_cons_zero, List.set_cons_succ]
  refine wpAnyH_take (i := 11) (oi := { dst := Option.some 18, op := Op.load 68 (Operand.tmp 17), type := 68, pos := "heap.go:114", after := #[{ on := 10, ground := Ground.data }], guard := Option.none }) (v := ?_) rfl (by kernel_rfl) (by kernel_rfl) (by kernel_rfl) (fun _ _ _ h => h) (Or.inl ⟨by rfl, ?_⟩) (by assumption) ?_
  rotate_left
  · intro w hSw
    (try dsimp only [Row5] at hSw)
    go_simp
    try with_reducible rfl
  try simp only [Act.put, List.setIfInBounds_toArray, List.set_cons_zero, List.set_cons_succ]
  refine wpAnyH_take (i := 12) (oi := { dst := Option.some 19, op := Op.move (Operand.tmp 2), type := 3, pos := "heap.go:114", after := #[], guard := Option.none }) (v := ?_) rfl (by kernel_rfl) (by kernel_rfl) (by kernel_rfl) (fun _ _ _ h => h) (Or.inl ⟨by rfl, ?_⟩) (by assumption) ?_
  rotate_left
  · intro w hSw
    (try dsimp only [Row5] at hSw)
    go_simp
    try with_reducible rfl
  try simp only [Act.put, List.setIfInBounds_toArray, List.set_cons_zero, List.set_cons_succ]
  refine wpAnyH_take (i := 13) (oi := { dst := Option.some 20, op := Op.indexAddr 68 (Operand.tmp 18) (Operand.tmp 19), type := 0, pos := "heap.go:114", after := #[{ on := 11, ground := Ground.data }, { on := 12, ground := Ground.data }], guard := Option.none }) (v := ?_) rfl (by kernel_rfl) (by kernel_rfl) (by kernel_rfl) (fun _ _ _ h => h) (Or.inl ⟨by rfl, ?_⟩) (by assumption) ?_
  rotate_left
  · intro w hSw
    (try dsimp only [Row5] at hSw)
    go_simp
    try with_reducible rfl
  try simp only [Act.put, List.setIfInBounds_toArray, List.set_cons_zero, List.set_cons_succ]
  refine wpAnyH_take (i := 14) (oi := { dst := Option.some 21, op := Op.load 58 (Operand.tmp 20), type := 58, pos := "heap.go:114", after := #[{ on := 13, ground := Ground.data }], guard := Option.none }) (v := ?_) rfl (by kernel_rfl) (by kernel_rfl) (by kernel_rfl) (fun _ _ _ h => h) (Or.inl ⟨by rfl, ?_⟩) (by assumption) ?_
  rotate_left
  · intro w hSw
    (try dsimp only [Row5] at hSw)
    go_simp
    try with_reducible rfl
  try simp only [Act.put, List.setIfInBounds_toArray, List.set_cons_zero, List.set_cons_succ]
  refine wpAnyH_ready (rs := [15]) (by kernel_rfl) (by simp) ?_
  refine AllReadyH.cons (o := { dst := Option.some 22, op := Op.call { callee := Callee.invoke (Operand.tmp 14) "whittle/queue.compare", args := #[Operand.tmp 21], argTypes := #[58] }, type := 3, pos := "heap.go:114", after := #[{ on := 7, ground := Ground.data }, { on := 14, ground := Ground.data }], guard := Option.none }) rfl (fun K hK => ?_) AllReadyH.nil
  go_simp
  refine (compare_any a b W1).mono ?_
  rintro en w4 ⟨rfl, hb4⟩
  have HB4 : Hid (Below w.heap.size w w4) := below_end HB.out hb4
  go_wp2_with fail
  refine hK.out _ _ ⟨cell_below hb4 c0, ra.below hb4, rb.below hb4⟩ (fun hHeld => ?_)
  clear hK K c0 ra rb hb4
  try simp only [Act.put, List.setIfInBounds_toArray, List.set_cons_zero, List.set_cons_succ]
  refine wpAnyH_take (i := 16) (oi := { dst := Option.some 23, op := Op.binOp BinOp.lss 3 (Operand.tmp 22) (Operand.const (Value.int IntKind.i64 0)) 3, type := 4, pos := "heap.go:114", after := #[{ on := 15, ground := Ground.data }], guard := Option.none }) (v := ?_) rfl (by kernel_rfl) (by kernel_rfl) (by kernel_rfl) (fun _ _ _ h => h) (Or.inl ⟨by rfl, ?_⟩) (by assumption) ?_
  rotate_left
  · intro w hSw
    (try dsimp only [Row5] at hSw)
    go_simp
    try with_reducible rfl
  try simp only [Act.put, List.setIfInBounds_toArray, List.set_cons_zero, List.set_cons_succ]
  refine wpAnyH_ready (rs := [17]) (by kernel_rfl) (by simp) ?_
  refine AllReadyH.cons (o := { dst := Option.some 6, op := Op.assign (Operand.tmp 23), type := 4, pos := "heap.go:114", after := #[{ on := 16, ground := Ground.data }, { on := 15, ground := Ground.chain }, { on := 0, ground := Ground.phase }, { on := 1, ground := Ground.phase }, { on := 2, ground := Ground.phase }, { on := 3, ground := Ground.phase }, { on := 4, ground := Ground.phase }, { on := 5, ground := Ground.phase }, { on := 6, ground := Ground.phase }, { on := 7, ground := Ground.phase }, { on := 8, ground := Ground.phase }, { on := 9, ground := Ground.phase }, { on := 10, ground := Ground.phase }, { on := 11, ground := Ground.phase }, { on := 12, ground := Ground.phase }, { on := 13, ground := Ground.phase }, { on := 14, ground := Ground.phase }, { on := 15, ground := Ground.phase }, { on := 16, ground := Ground.phase }], guard := Option.none }) rfl (fun K hK => ?_) AllReadyH.nil
  go_simp
  refine hK.out _ _ (by assumption) (fun hHeld => ?_)
  clear hK K
  try simp only [Act.put, List.setIfInBounds_toArray, List.set_cons_zero, List.set_cons_succ]
  refine wpAnyH_done (by kernel_rfl) ?_ _

  go_wp2_with fail
  go_ret
  exact ⟨by rw [← HL.out]; rfl, HB4.out⟩
end Go.Proofs.Ytpbjmhcpaeillaa
