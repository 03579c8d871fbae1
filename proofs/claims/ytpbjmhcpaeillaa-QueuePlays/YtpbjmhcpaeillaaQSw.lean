/- Queues: two entries are changed. -/

import Derived.Test.YtpbjmhcpaeillaaQAh
namespace Go.Proofs.Ytpbjmhcpaeillaa
open Go.RowKit
set_option linter.unusedVariables false

theorem Row5.fr {S : List Nat} {W W' : World} {g o : Nat} {x : Wq.Wr} (h : Row5 W g o x) (hf : Fr S W W') (hn : g ∉ S) : Row5 W' g o x :=
  ⟨⟨hf.cell h.1.1 hn, hf.cell h.1.2 hn⟩, ⟨hf.cell h.2.1.1 hn, hf.cell h.2.1.2 hn⟩, hf.cell h.2.2 hn⟩
set_option maxRecDepth 100000 in
set_option maxHeartbeats 4000000 in
theorem swap_any (hb mb B g n cap : Nat) (l : List Wq.Wr) (F : List (Wpl.Cl × Int)) (i k : Nat) (a b : Wq.Wr) (w : World) (h : HQ w hb mb B (.slice (some ⟨g, 0, none⟩) n cap) l F) (hn : l.length = n) (hi : i < n) (hk : k < n) (ha : l[i]? = some a) (hbb : l[k]? = some b) :
    Calls Try.prog 56 #[.pointer (some ⟨hb, 0, none⟩), .int .i64 (i : Int), .int .i64 (k : Int)] w fun en w' => en = .returned (.tuple #[]) ∧ HQ w' hb mb B (.slice (some ⟨g, 0, none⟩) n cap) ((l.set i b).set k a) (putF ⟨a.s, a.r, a.c⟩ (k : Int) (putF ⟨b.s, b.r, b.c⟩ (i : Int) F)) ∧ Fr (hb :: mb :: [g]) w w' := by
  have ra := h.row hn hi ha
  have rb := h.row hn hk hbb
  obtain ⟨c0, _, _, _⟩ := h.hd.two
  have hii : (i : Int) < (n : Int) := by omega
  have hiz : (0 : Int) ≤ (i : Int) := by omega
  have hki : (k : Int) < (n : Int) := by omega
  have hkz : (0 : Int) ≤ (k : Int) := by omega
  have HN : Hid (l.length = n ∧ i < n ∧ k < n) := ⟨hn, hi, hk⟩
  have HQ0 : Hid (HQ w hb mb B (.slice (some ⟨g, 0, none⟩) n cap) l F) := h
  have HLT : Hid (hb < w.heap.size ∧ mb < w.heap.size ∧ g < w.heap.size) := ⟨h.hd.1, h.mp.lt, (own_blk h.own (g := g) rfl).2⟩
  clear h hn hi hk ha hbb
  go_enter Try.func56, Try.ntmps56
  go_upto_region 0 with fail
  have hb1 := (Below.refl w.heap.size w).drew
  refine wp_region_held_drew (S := fun W => W.cell? ⟨hb, 0, none⟩ = some (.slice (some ⟨g, 0, none⟩) n cap) ∧ Row5 W g (i * 5) a ∧ Row5 W g (k * 5) b) (by kernel_rfl) ⟨cell_below hb1 c0, ra.below hb1, rb.below hb1⟩ (fun hHeld => ?_)
  replace c0 := cell_below hb1 c0
  replace ra := ra.below hb1
  replace rb := rb.below hb1
  have HB : Hid (Below w.heap.size w w.drew) := hb1
  have HQ1 : Hid (HQ w.drew hb mb B (.slice (some ⟨g, 0, none⟩) n cap) l F) := HQ0.out.below hb1
  clear hb1 HQ0
  generalize w.drew = W1 at *
  refine wpAnyH_take (i := 0) (oi := { dst := Option.some 8, op := Op.move (Operand.tmp 0), type := 55, pos := "heap.go:117", after := #[], guard := Option.none }) (v := ?_) rfl (by kernel_rfl) (by kernel_rfl) (by kernel_rfl) (fun _ _ _ h => h) (Or.inl ⟨by rfl, ?_⟩) (by assumption) ?_
  rotate_left
  · intro w hSw
    (try dsimp only [Row5] at hSw)
    go_simp
    try with_reducible rfl
  try simp only [Act.put, List.setIfInBounds_toArray, List.set_cons_zero, List.set_cons_succ]
  refine wpAnyH_take (i := 1) (oi := { dst := Option.some 9, op := Op.nilCheck (Operand.tmp 8), type := 0, pos := "heap.go:117", after := #[{ on := 0, ground := Ground.data }], guard := Option.none }) (v := ?_) rfl (by kernel_rfl) (by kernel_rfl) (by kernel_rfl) (fun _ _ _ h => h) (Or.inl ⟨by rfl, ?_⟩) (by assumption) ?_
  rotate_left
  · intro w hSw
    (try dsimp only [Row5] at hSw)
    go_simp
    try with_reducible rfl
  try simp only [Act.put, List.setIfInBounds_toArray, List.set_cons_zero, List.set_cons_succ]
  refine wpAnyH_take (i := 2) (oi := { dst := Option.some 10, op := Op.fieldAddr 76 (Operand.tmp 9) 0, type := 0, pos := "heap.go:117", after := #[{ on := 1, ground := Ground.data }], guard := Option.none }) (v := ?_) rfl (by kernel_rfl) (by kernel_rfl) (by kernel_rfl) (fun _ _ _ h => h) (Or.inl ⟨by rfl, ?_⟩) (by assumption) ?_
  rotate_left
  · intro w hSw
    (try dsimp only [Row5] at hSw)
    go_simp
    try with_reducible rfl
  try simp only [Act.put, List.setIfInBounds_toArray, List.set_cons_zero, List.set_cons_succ]
  refine wpAnyH_take (i := 3) (oi := { dst := Option.some 11, op := Op.load 68 (Operand.tmp 10), type := 68, pos := "heap.go:117", after := #[{ on := 2, ground := Ground.data }], guard := Option.none }) (v := ?_) rfl (by kernel_rfl) (by kernel_rfl) (by kernel_rfl) (fun _ _ _ h => h) (Or.inl ⟨by rfl, ?_⟩) (by assumption) ?_
  rotate_left
  · intro w hSw
    (try dsimp only [Row5] at hSw)
    go_simp
    try with_reducible rfl
  try simp only [Act.put, List.setIfInBounds_toArray, List.set_cons_zero, List.set_cons_succ]
  refine wpAnyH_take (i := 4) (oi := { dst := Option.some 12, op := Op.move (Operand.tmp 1), type := 3, pos := "heap.go:117", after := #[], guard := Option.none }) (v := ?_) rfl (by kernel_rfl) (by kernel_rfl) (by kernel_rfl) (fun _ _ _ h => h) (Or.inl ⟨by rfl, ?_⟩) (by assumption) ?_
  rotate_left
  · intro w hSw
    (try dsimp only [Row5] at hSw)
    go_simp
    try with_reducible rfl
  try simp only [Act.put, List.setIfInBounds_toArray, List.set_cons_zero, List.set_cons_succ]
  refine wpAnyH_take (i := 5) (oi := { dst := Option.some 13, op := Op.indexAddr 68 (Operand.tmp 11) (Operand.tmp 12), type := 0, pos := "heap.go:117", after := #[{ on := 3, ground := Ground.data }, { on := 4, ground := Ground.data }], guard := Option.none }) (v := ?_) rfl (by kernel_rfl) (by kernel_rfl) (by kernel_rfl) (fun _ _ _ h => h) (Or.inl ⟨by rfl, ?_⟩) (by assumption) ?_
  rotate_left
  · intro w hSw
    (try dsimp only [Row5] at hSw)
    go_simp
    try with_reducible rfl
  try simp only [Act.put, List.setIfInBounds_toArray, List.set_cons_zero, List.set_cons_succ]
  refine wpAnyH_take (i := 6) (oi := { dst := Option.some 14, op := Op.load 58 (Operand.tmp 13), type := 58, pos := "heap.go:117", after := #[{ on := 5, ground := Ground.data }], guard := Option.none }) (v := ?_) rfl (by kernel_rfl) (by kernel_rfl) (by kernel_rfl) (fun _ _ _ h => h) (Or.inl ⟨by rfl, ?_⟩) (by assumption) ?_
  rotate_left
  · intro w hSw
    (try dsimp only [Row5] at hSw)
    go_simp
    try with_reducible rfl
  try simp only [Act.put, List.setIfInBounds_toArray, List.set_cons_zero, List.set_cons_succ]
  refine wpAnyH_take (i := 7) (oi := { dst := Option.some 15, op := Op.move (Operand.tmp 0), type := 55, pos := "heap.go:117", after := #[{ on := 16, ground := Ground.gcOnly Departure.lateStores }], guard := Option.none }) (v := ?_) rfl (by kernel_rfl) (by kernel_rfl) (by kernel_rfl) (fun _ _ _ h => h) (Or.inl ⟨by rfl, ?_⟩) (by assumption) ?_
  rotate_left
  · intro w hSw
    (try dsimp only [Row5] at hSw)
    go_simp
    try with_reducible rfl
  try simp only [Act.put, List.setIfInBounds_toArray, List.set_cons_zero, List.set_cons_succ]
  refine wpAnyH_take (i := 8) (oi := { dst := Option.some 16, op := Op.nilCheck (Operand.tmp 15), type := 0, pos := "heap.go:117", after := #[{ on := 7, ground := Ground.data }, { on := 16, ground := Ground.gcOnly Departure.lateStores }], guard := Option.none }) (v := ?_) rfl (by kernel_rfl) (by kernel_rfl) (by kernel_rfl) (fun _ _ _ h => h) (Or.inl ⟨by rfl, ?_⟩) (by assumption) ?_
  rotate_left
  · intro w hSw
    (try dsimp only [Row5] at hSw)
    go_simp
    try with_reducible rfl
  try simp only [Act.put, List.setIfInBounds_toArray, List.set_cons_zero, List.set_cons_succ]
  refine wpAnyH_take (i := 9) (oi := { dst := Option.some 17, op := Op.fieldAddr 76 (Operand.tmp 16) 0, type := 0, pos := "heap.go:117", after := #[{ on := 8, ground := Ground.data }, { on := 16, ground := Ground.gcOnly Departure.lateStores }], guard := Option.none }) (v := ?_) rfl (by kernel_rfl) (by kernel_rfl) (by kernel_rfl) (fun _ _ _ h => h) (Or.inl ⟨by rfl, ?_⟩) (by assumption) ?_
  rotate_left
  · intro w hSw
    (try dsimp only [Row5] at hSw)
    go_simp
    try with_reducible rfl
  try simp only [Act.put, List.setIfInBounds_toArray, List.set_cons_zero, List.set_cons_succ]
  refine wpAnyH_take (i := 10) (oi := { dst := Option.some 18, op := Op.load 68 (Operand.tmp 17), type := 68, pos := "heap.go:117", after := #[{ on := 9, ground := Ground.data }, { on := 16, ground := Ground.gcOnly Departure.lateStores }], guard := Option.none }) (v := ?_) rfl (by kernel_rfl) (by kernel_rfl) (by kernel_rfl) (fun _ _ _ h => h) (Or.inl ⟨by rfl, ?_⟩) (by assumption) ?_
  rotate_left
  · intro w hSw
    (try dsimp only [Row5] at hSw)
    go_simp
    try with_reducible rfl
  try simp only [Act.put, List.setIfInBounds_toArray, List.set_cons_zero, List.set_cons_succ]
  refine wpAnyH_take (i := 11) (oi := { dst := Option.some 19, op := Op.move (Operand.tmp 2), type := 3, pos := "heap.go:117", after := #[{ on := 16, ground := Ground.gcOnly Departure.lateStores }], guard := Option.none }) (v := ?_) rfl (by kernel_rfl) (by kernel_rfl) (by kernel_rfl) (fun _ _ _ h => h) (Or.inl ⟨by rfl, ?_⟩) (by assumption) ?_
  rotate_left
  · intro w hSw
    (try dsimp only [Row5] at hSw)
    go_simp
    try with_reducible rfl
  try simp only [Act.put, List.setIfInBounds_toArray, List.set_cons_zero, List.set_cons_succ]
  refine wpAnyH_take (i := 12) (oi := { dst := Option.some 20, op := Op.indexAddr 68 (Operand.tmp 18) (Operand.tmp 19), type := 0, pos := "heap.go:117", after := #[{ on := 10, ground := Ground.data }, { on := 11, ground := Ground.data }, { on := 16, ground := Ground.gcOnly Departure.lateStores }], guard := Option.none }) (v := ?_) rfl (by kernel_rfl) (by kernel_rfl) (by kernel_rfl) (fun _ _ _ h => h) (Or.inl ⟨by rfl, ?_⟩) (by assumption) ?_
  rotate_left
  · intro w hSw
    (try dsimp only [Row5] at hSw)
    go_simp
    try with_reducible rfl
  try simp only [Act.put, List.setIfInBounds_toArray, List.set_cons_zero, List.set_cons_succ]
  refine wpAnyH_take (i := 13) (oi := { dst := Option.some 21, op := Op.load 58 (Operand.tmp 20), type := 58, pos := "heap.go:117", after := #[{ on := 12, ground := Ground.data }, { on := 16, ground := Ground.gcOnly Departure.lateStores }], guard := Option.none }) (v := ?_) rfl (by kernel_rfl) (by kernel_rfl) (by kernel_rfl) (fun _ _ _ h => h) (Or.inl ⟨by rfl, ?_⟩) (by assumption) ?_
  rotate_left
  · intro w hSw
    (try dsimp only [Row5] at hSw)
    go_simp
    try with_reducible rfl
  try simp only [Act.put, List.setIfInBounds_toArray, List.set_cons_zero, List.set_cons_succ]
  refine wpAnyH_ready (rs := [14, 15]) (by kernel_rfl) (by simp) ?_
  refine AllReadyH.cons (o := { dst := Option.some 6, op := Op.alloc 58, type := 0, pos := "heap.go:117", after := #[], guard := Option.none }) rfl (fun K hK => ?_) (AllReadyH.cons (o := { dst := Option.some 7, op := Op.alloc 58, type := 0, pos := "heap.go:117", after := #[], guard := Option.none }) rfl (fun K hK => ?_) AllReadyH.nil)
  · have ba := ball (Below.refl W1.heap.size W1) (.cells #[.int .i64 0, .int .i64 0, .int .i64 0, .int .i64 0, .int .i64 0] 58)
    go_simp
    refine hK.out _ _ ⟨cell_below ba c0, ra.below ba, rb.below ba⟩ (fun hHeld => ?_)
    clear hK K
    try simp only [Act.put, List.setIfInBounds_toArray, List.set_cons_zero, List.set_cons_succ]
    refine wpAnyH_ready (rs := [15]) (by kernel_rfl) (by simp) ?_
    refine AllReadyH.cons (o := { dst := Option.some 7, op := Op.alloc 58, type := 0, pos := "heap.go:117", after := #[], guard := Option.none }) rfl (fun K hK => ?_) AllReadyH.nil
    have bb := ball ba (.cells #[.int .i64 0, .int .i64 0, .int .i64 0, .int .i64 0, .int .i64 0] 58)
    go_simp
    refine hK.out _ _ ⟨cell_below bb c0, ra.below bb, rb.below bb⟩ (fun hHeld => ?_)
    clear hK K
    try simp only [Act.put, List.setIfInBounds_toArray, List.set_cons_zero, List.set_cons_succ]
    have q6 : AtL ((W1.alloc (.cells #[.int .i64 0, .int .i64 0, .int .i64 0, .int .i64 0, .int .i64 0] 58)).alloc (.cells #[.int .i64 0, .int .i64 0, .int .i64 0, .int .i64 0, .int .i64 0] 58)) W1.heap.size [.int .i64 0, .int .i64 0, .int .i64 0, .int .i64 0, .int .i64 0] := (AtL.new0 W1 58 [.int .i64 0, .int .i64 0, .int .i64 0, .int .i64 0, .int .i64 0]).alloc _
    have q7 : AtL ((W1.alloc (.cells #[.int .i64 0, .int .i64 0, .int .i64 0, .int .i64 0, .int .i64 0] 58)).alloc (.cells #[.int .i64 0, .int .i64 0, .int .i64 0, .int .i64 0, .int .i64 0] 58)) (W1.heap.size + 1) [.int .i64 0, .int .i64 0, .int .i64 0, .int .i64 0, .int .i64 0] := AtL.new1 W1 _ 58 [.int .i64 0, .int .i64 0, .int .i64 0, .int .i64 0, .int .i64 0]
    have HB2 : Hid (Below w.heap.size w ((W1.alloc (.cells #[.int .i64 0, .int .i64 0, .int .i64 0, .int .i64 0, .int .i64 0] 58)).alloc (.cells #[.int .i64 0, .int .i64 0, .int .i64 0, .int .i64 0, .int .i64 0] 58))) := below_end HB.out bb
    have HQ2 : Hid (HQ ((W1.alloc (.cells #[.int .i64 0, .int .i64 0, .int .i64 0, .int .i64 0, .int .i64 0] 58)).alloc (.cells #[.int .i64 0, .int .i64 0, .int .i64 0, .int .i64 0, .int .i64 0] 58)) hb mb B (.slice (some ⟨g, 0, none⟩) n cap) l F) := HQ1.out.below bb
    have HG2 : Hid (Row5 ((W1.alloc (.cells #[.int .i64 0, .int .i64 0, .int .i64 0, .int .i64 0, .int .i64 0] 58)).alloc (.cells #[.int .i64 0, .int .i64 0, .int .i64 0, .int .i64 0, .int .i64 0] 58)) g (i * 5) a ∧ Row5 ((W1.alloc (.cells #[.int .i64 0, .int .i64 0, .int .i64 0, .int .i64 0, .int .i64 0] 58)).alloc (.cells #[.int .i64 0, .int .i64 0, .int .i64 0, .int .i64 0, .int .i64 0] 58)) g (k * 5) b) := ⟨ra.below bb, rb.below bb⟩
    have hne : W1.heap.size ≠ (W1.heap.size + 1) := by omega
    have HW : Hid (w.heap.size ≤ W1.heap.size ∧ w.heap.size ≤ (W1.heap.size + 1)) := by have := HB.out.size; constructor <;> omega
    clear ba bb HB HQ1 ra rb c0
    generalize (W1.alloc (.cells #[.int .i64 0, .int .i64 0, .int .i64 0, .int .i64 0, .int .i64 0] 58)).alloc (.cells #[.int .i64 0, .int .i64 0, .int .i64 0, .int .i64 0, .int .i64 0] 58) = W2 at *
    generalize hp7 : (W1.heap.size + 1) = p7 at *
    generalize hp6 : W1.heap.size = p6 at *
    clear hp6 hp7
    refine wpAnyH_ready (rs := [16]) (by kernel_rfl) (by simp) ?_
    refine AllReadyH.cons (o := { dst := Option.none, op := Op.store 58 (Operand.tmp 6) (Operand.tmp 14), type := 0, pos := "heap.go:117", after := #[{ on := 14, ground := Ground.data }, { on := 6, ground := Ground.data }, { on := 0, ground := Ground.phase }, { on := 1, ground := Ground.phase }, { on := 2, ground := Ground.phase }, { on := 3, ground := Ground.phase }, { on := 4, ground := Ground.phase }, { on := 5, ground := Ground.phase }, { on := 6, ground := Ground.phase }, { on := 7, ground := Ground.textOnly Departure.lateStores }, { on := 8, ground := Ground.textOnly Departure.lateStores }, { on := 9, ground := Ground.textOnly Departure.lateStores }, { on := 10, ground := Ground.textOnly Departure.lateStores }, { on := 11, ground := Ground.textOnly Departure.lateStores }, { on := 12, ground := Ground.textOnly Departure.lateStores }, { on := 13, ground := Ground.textOnly Departure.lateStores }, { on := 14, ground := Ground.phase }, { on := 15, ground := Ground.phase }], guard := Option.none }) rfl (fun K hK => ?_) AllReadyH.nil
    refine wp_store_mid 58 (.tmp 6) (.tmp 14) rfl p6 0 (wrV a).toArray rfl rfl q6.there (by kernel_rfl) (oneW a) ?_
    have HQ3 : Hid (HQ (W2.setCells p6 0 (wrV a)) hb mb B (.slice (some ⟨g, 0, none⟩) n cap) l F) := HQ2.out.fr (setCells_fr W2 p6 (wrV a) 0) (by simp; have := HLT.out; have := HW.out; omega) (by simp; have := HLT.out; have := HW.out; omega) (fun g' e => by simp [Value.ownBlock] at e; simp; have := HLT.out; have := HW.out; omega)
    have HG3 : Hid (Row5 (W2.setCells p6 0 (wrV a)) g (i * 5) a ∧ Row5 (W2.setCells p6 0 (wrV a)) g (k * 5) b) := ⟨HG2.out.1.fr (setCells_fr W2 p6 (wrV a) 0) (by simp; have := HLT.out; have := HW.out; omega), HG2.out.2.fr (setCells_fr W2 p6 (wrV a) 0) (by simp; have := HLT.out; have := HW.out; omega)⟩
    have HB3 : Hid (Below w.heap.size w (W2.setCells p6 0 (wrV a))) := bset HB2.out (by have := HW.out; omega) _ _
    have q6b : AtL (W2.setCells p6 0 (wrV a)) p6 (wrV a) := q6.setAll rfl
    have q7b := q7.farAll hne 0 (wrV a)
    clear q6 q7 HQ2 HG2 HB2
    refine hK.out _ _ ⟨HQ3.out.hd.two.1, HG3.out.1, HG3.out.2⟩ (fun hHeld => ?_)
    clear hK K
    try simp only [Act.put]
    generalize W2.setCells p6 0 (wrV a) = W3 at *
    refine wpAnyH_ready (rs := [17]) (by kernel_rfl) (by simp) ?_
    refine AllReadyH.cons (o := { dst := Option.none, op := Op.store 58 (Operand.tmp 7) (Operand.tmp 21), type := 0, pos := "heap.go:117", after := #[{ on := 15, ground := Ground.data }, { on := 13, ground := Ground.data }, { on := 16, ground := Ground.chain }, { on := 0, ground := Ground.phase }, { on := 1, ground := Ground.phase }, { on := 2, ground := Ground.phase }, { on := 3, ground := Ground.phase }, { on := 4, ground := Ground.phase }, { on := 5, ground := Ground.phase }, { on := 6, ground := Ground.phase }, { on := 7, ground := Ground.phase }, { on := 8, ground := Ground.phase }, { on := 9, ground := Ground.phase }, { on := 10, ground := Ground.phase }, { on := 11, ground := Ground.phase }, { on := 12, ground := Ground.phase }, { on := 13, ground := Ground.phase }, { on := 14, ground := Ground.phase }, { on := 15, ground := Ground.phase }, { on := 16, ground := Ground.phase }], guard := Option.none }) rfl (fun K hK => ?_) AllReadyH.nil
    refine wp_store_mid 58 (.tmp 7) (.tmp 21) rfl p7 0 (wrV b).toArray rfl rfl q7b.there (by kernel_rfl) (oneW b) ?_
    have HQ4 : Hid (HQ (W3.setCells p7 0 (wrV b)) hb mb B (.slice (some ⟨g, 0, none⟩) n cap) l F) := HQ3.out.fr (setCells_fr W3 p7 (wrV b) 0) (by simp; have := HLT.out; have := HW.out; omega) (by simp; have := HLT.out; have := HW.out; omega) (fun g' e => by simp [Value.ownBlock] at e; simp; have := HLT.out; have := HW.out; omega)
    have HG4 : Hid (Row5 (W3.setCells p7 0 (wrV b)) g (i * 5) a ∧ Row5 (W3.setCells p7 0 (wrV b)) g (k * 5) b) := ⟨HG3.out.1.fr (setCells_fr W3 p7 (wrV b) 0) (by simp; have := HLT.out; have := HW.out; omega), HG3.out.2.fr (setCells_fr W3 p7 (wrV b) 0) (by simp; have := HLT.out; have := HW.out; omega)⟩
    have HB4 : Hid (Below w.heap.size w (W3.setCells p7 0 (wrV b))) := bset HB3.out (by have := HW.out; omega) _ _
    have q7c : AtL (W3.setCells p7 0 (wrV b)) p7 (wrV b) := q7b.setAll rfl
    have q6c := q6b.farAll (Ne.symm hne) 0 (wrV b)
    clear q6b q7b HQ3 HG3 HB3
    refine hK.out _ _ ⟨HQ4.out.hd.two.1, HG4.out.1, HG4.out.2⟩ (fun hHeld => ?_)
    clear hK K
    try simp only [Act.put]
    generalize W3.setCells p7 0 (wrV b) = W4 at *
    refine wpAnyH_done (by kernel_rfl) ?_ _
    clear hHeld HG4
    obtain ⟨d0, d1, d2, d3, d4, _⟩ := AtL.five q7c
    go_wp2_with fail
    refine (lay_any hb mb B g n cap l F i b W4 HQ4.out HN.out.1 HN.out.2.1).mono ?_
    rintro en w5 ⟨rfl, h5, fr5⟩
    have HQ5 : Hid (HQ w5 hb mb B (.slice (some ⟨g, 0, none⟩) n cap) (l.set i b) (putF ⟨b.s, b.r, b.c⟩ (i : Int) F)) := h5
    have HF5 : Hid (Fr (hb :: mb :: [g]) w w5) := Fr.trans (Fr.of_below _ HB4.out) fr5
    have q6d := q6c.fr fr5 (by simp; have := HLT.out; have := HW.out; omega)
    obtain ⟨d0, d1, d2, d3, d4, _⟩ := AtL.five q6d
    clear q6c q7c HQ4 HB4 h5 fr5
    go_wp2_with fail
    refine (lay_any hb mb B g n cap _ _ k a w5 HQ5.out (by rw [List.length_set]; exact HN.out.1) HN.out.2.2).mono ?_
    rintro en w6 ⟨rfl, h6, fr6⟩
    go_wp2
    go_end0
    exact ⟨rfl, h6, Fr.trans HF5.out fr6⟩
  · have ba := ball (Below.refl W1.heap.size W1) (.cells #[.int .i64 0, .int .i64 0, .int .i64 0, .int .i64 0, .int .i64 0] 58)
    go_simp
    refine hK.out _ _ ⟨cell_below ba c0, ra.below ba, rb.below ba⟩ (fun hHeld => ?_)
    clear hK K
    try simp only [Act.put, List.setIfInBounds_toArray, List.set_cons_zero, List.set_cons_succ]
    refine wpAnyH_ready (rs := [14]) (by kernel_rfl) (by simp) ?_
    refine AllReadyH.cons (o := { dst := Option.some 6, op := Op.alloc 58, type := 0, pos := "heap.go:117", after := #[], guard := Option.none }) rfl (fun K hK => ?_) AllReadyH.nil
    have bb := ball ba (.cells #[.int .i64 0, .int .i64 0, .int .i64 0, .int .i64 0, .int .i64 0] 58)
    go_simp
    refine hK.out _ _ ⟨cell_below bb c0, ra.below bb, rb.below bb⟩ (fun hHeld => ?_)
    clear hK K
    try simp only [Act.put, List.setIfInBounds_toArray, List.set_cons_zero, List.set_cons_succ]
    have q6 : AtL ((W1.alloc (.cells #[.int .i64 0, .int .i64 0, .int .i64 0, .int .i64 0, .int .i64 0] 58)).alloc (.cells #[.int .i64 0, .int .i64 0, .int .i64 0, .int .i64 0, .int .i64 0] 58)) (W1.heap.size + 1) [.int .i64 0, .int .i64 0, .int .i64 0, .int .i64 0, .int .i64 0] := AtL.new1 W1 _ 58 [.int .i64 0, .int .i64 0, .int .i64 0, .int .i64 0, .int .i64 0]
    have q7 : AtL ((W1.alloc (.cells #[.int .i64 0, .int .i64 0, .int .i64 0, .int .i64 0, .int .i64 0] 58)).alloc (.cells #[.int .i64 0, .int .i64 0, .int .i64 0, .int .i64 0, .int .i64 0] 58)) W1.heap.size [.int .i64 0, .int .i64 0, .int .i64 0, .int .i64 0, .int .i64 0] := (AtL.new0 W1 58 [.int .i64 0, .int .i64 0, .int .i64 0, .int .i64 0, .int .i64 0]).alloc _
    have HB2 : Hid (Below w.heap.size w ((W1.alloc (.cells #[.int .i64 0, .int .i64 0, .int .i64 0, .int .i64 0, .int .i64 0] 58)).alloc (.cells #[.int .i64 0, .int .i64 0, .int .i64 0, .int .i64 0, .int .i64 0] 58))) := below_end HB.out bb
    have HQ2 : Hid (HQ ((W1.alloc (.cells #[.int .i64 0, .int .i64 0, .int .i64 0, .int .i64 0, .int .i64 0] 58)).alloc (.cells #[.int .i64 0, .int .i64 0, .int .i64 0, .int .i64 0, .int .i64 0] 58)) hb mb B (.slice (some ⟨g, 0, none⟩) n cap) l F) := HQ1.out.below bb
    have HG2 : Hid (Row5 ((W1.alloc (.cells #[.int .i64 0, .int .i64 0, .int .i64 0, .int .i64 0, .int .i64 0] 58)).alloc (.cells #[.int .i64 0, .int .i64 0, .int .i64 0, .int .i64 0, .int .i64 0] 58)) g (i * 5) a ∧ Row5 ((W1.alloc (.cells #[.int .i64 0, .int .i64 0, .int .i64 0, .int .i64 0, .int .i64 0] 58)).alloc (.cells #[.int .i64 0, .int .i64 0, .int .i64 0, .int .i64 0, .int .i64 0] 58)) g (k * 5) b) := ⟨ra.below bb, rb.below bb⟩
    have hne : (W1.heap.size + 1) ≠ W1.heap.size := by omega
    have HW : Hid (w.heap.size ≤ (W1.heap.size + 1) ∧ w.heap.size ≤ W1.heap.size) := by have := HB.out.size; constructor <;> omega
    clear ba bb HB HQ1 ra rb c0
    generalize (W1.alloc (.cells #[.int .i64 0, .int .i64 0, .int .i64 0, .int .i64 0, .int .i64 0] 58)).alloc (.cells #[.int .i64 0, .int .i64 0, .int .i64 0, .int .i64 0, .int .i64 0] 58) = W2 at *
    generalize hp6 : (W1.heap.size + 1) = p6 at *
    generalize hp7 : W1.heap.size = p7 at *
    clear hp6 hp7
    refine wpAnyH_ready (rs := [16]) (by kernel_rfl) (by simp) ?_
    refine AllReadyH.cons (o := { dst := Option.none, op := Op.store 58 (Operand.tmp 6) (Operand.tmp 14), type := 0, pos := "heap.go:117", after := #[{ on := 14, ground := Ground.data }, { on := 6, ground := Ground.data }, { on := 0, ground := Ground.phase }, { on := 1, ground := Ground.phase }, { on := 2, ground := Ground.phase }, { on := 3, ground := Ground.phase }, { on := 4, ground := Ground.phase }, { on := 5, ground := Ground.phase }, { on := 6, ground := Ground.phase }, { on := 7, ground := Ground.textOnly Departure.lateStores }, { on := 8, ground := Ground.textOnly Departure.lateStores }, { on := 9, ground := Ground.textOnly Departure.lateStores }, { on := 10, ground := Ground.textOnly Departure.lateStores }, { on := 11, ground := Ground.textOnly Departure.lateStores }, { on := 12, ground := Ground.textOnly Departure.lateStores }, { on := 13, ground := Ground.textOnly Departure.lateStores }, { on := 14, ground := Ground.phase }, { on := 15, ground := Ground.phase }], guard := Option.none }) rfl (fun K hK => ?_) AllReadyH.nil
    refine wp_store_mid 58 (.tmp 6) (.tmp 14) rfl p6 0 (wrV a).toArray rfl rfl q6.there (by kernel_rfl) (oneW a) ?_
    have HQ3 : Hid (HQ (W2.setCells p6 0 (wrV a)) hb mb B (.slice (some ⟨g, 0, none⟩) n cap) l F) := HQ2.out.fr (setCells_fr W2 p6 (wrV a) 0) (by simp; have := HLT.out; have := HW.out; omega) (by simp; have := HLT.out; have := HW.out; omega) (fun g' e => by simp [Value.ownBlock] at e; simp; have := HLT.out; have := HW.out; omega)
    have HG3 : Hid (Row5 (W2.setCells p6 0 (wrV a)) g (i * 5) a ∧ Row5 (W2.setCells p6 0 (wrV a)) g (k * 5) b) := ⟨HG2.out.1.fr (setCells_fr W2 p6 (wrV a) 0) (by simp; have := HLT.out; have := HW.out; omega), HG2.out.2.fr (setCells_fr W2 p6 (wrV a) 0) (by simp; have := HLT.out; have := HW.out; omega)⟩
    have HB3 : Hid (Below w.heap.size w (W2.setCells p6 0 (wrV a))) := bset HB2.out (by have := HW.out; omega) _ _
    have q6b : AtL (W2.setCells p6 0 (wrV a)) p6 (wrV a) := q6.setAll rfl
    have q7b := q7.farAll hne 0 (wrV a)
    clear q6 q7 HQ2 HG2 HB2
    refine hK.out _ _ ⟨HQ3.out.hd.two.1, HG3.out.1, HG3.out.2⟩ (fun hHeld => ?_)
    clear hK K
    try simp only [Act.put]
    generalize W2.setCells p6 0 (wrV a) = W3 at *
    refine wpAnyH_ready (rs := [17]) (by kernel_rfl) (by simp) ?_
    refine AllReadyH.cons (o := { dst := Option.none, op := Op.store 58 (Operand.tmp 7) (Operand.tmp 21), type := 0, pos := "heap.go:117", after := #[{ on := 15, ground := Ground.data }, { on := 13, ground := Ground.data }, { on := 16, ground := Ground.chain }, { on := 0, ground := Ground.phase }, { on := 1, ground := Ground.phase }, { on := 2, ground := Ground.phase }, { on := 3, ground := Ground.phase }, { on := 4, ground := Ground.phase }, { on := 5, ground := Ground.phase }, { on := 6, ground := Ground.phase }, { on := 7, ground := Ground.phase }, { on := 8, ground := Ground.phase }, { on := 9, ground := Ground.phase }, { on := 10, ground := Ground.phase }, { on := 11, ground := Ground.phase }, { on := 12, ground := Ground.phase }, { on := 13, ground := Ground.phase }, { on := 14, ground := Ground.phase }, { on := 15, ground := Ground.phase }, { on := 16, ground := Ground.phase }], guard := Option.none }) rfl (fun K hK => ?_) AllReadyH.nil
    refine wp_store_mid 58 (.tmp 7) (.tmp 21) rfl p7 0 (wrV b).toArray rfl rfl q7b.there (by kernel_rfl) (oneW b) ?_
    have HQ4 : Hid (HQ (W3.setCells p7 0 (wrV b)) hb mb B (.slice (some ⟨g, 0, none⟩) n cap) l F) := HQ3.out.fr (setCells_fr W3 p7 (wrV b) 0) (by simp; have := HLT.out; have := HW.out; omega) (by simp; have := HLT.out; have := HW.out; omega) (fun g' e => by simp [Value.ownBlock] at e; simp; have := HLT.out; have := HW.out; omega)
    have HG4 : Hid (Row5 (W3.setCells p7 0 (wrV b)) g (i * 5) a ∧ Row5 (W3.setCells p7 0 (wrV b)) g (k * 5) b) := ⟨HG3.out.1.fr (setCells_fr W3 p7 (wrV b) 0) (by simp; have := HLT.out; have := HW.out; omega), HG3.out.2.fr (setCells_fr W3 p7 (wrV b) 0) (by simp; have := HLT.out; have := HW.out; omega)⟩
    have HB4 : Hid (Below w.heap.size w (W3.setCells p7 0 (wrV b))) := bset HB3.out (by have := HW.out; omega) _ _
    have q7c : AtL (W3.setCells p7 0 (wrV b)) p7 (wrV b) := q7b.setAll rfl
    have q6c := q6b.farAll (Ne.symm hne) 0 (wrV b)
    clear q6b q7b HQ3 HG3 HB3
    refine hK.out _ _ ⟨HQ4.out.hd.two.1, HG4.out.1, HG4.out.2⟩ (fun hHeld => ?_)
    clear hK K
    try simp only [Act.put]
    generalize W3.setCells p7 0 (wrV b) = W4 at *
    refine wpAnyH_done (by kernel_rfl) ?_ _
    clear hHeld HG4
    obtain ⟨d0, d1, d2, d3, d4, _⟩ := AtL.five q7c
    go_wp2_with fail
    refine (lay_any hb mb B g n cap l F i b W4 HQ4.out HN.out.1 HN.out.2.1).mono ?_
    rintro en w5 ⟨rfl, h5, fr5⟩
    have HQ5 : Hid (HQ w5 hb mb B (.slice (some ⟨g, 0, none⟩) n cap) (l.set i b) (putF ⟨b.s, b.r, b.c⟩ (i : Int) F)) := h5
    have HF5 : Hid (Fr (hb :: mb :: [g]) w w5) := Fr.trans (Fr.of_below _ HB4.out) fr5
    have q6d := q6c.fr fr5 (by simp; have := HLT.out; have := HW.out; omega)
    obtain ⟨d0, d1, d2, d3, d4, _⟩ := AtL.five q6d
    clear q6c q7c HQ4 HB4 h5 fr5
    go_wp2_with fail
    refine (lay_any hb mb B g n cap _ _ k a w5 HQ5.out (by rw [List.length_set]; exact HN.out.1) HN.out.2.2).mono ?_
    rintro en w6 ⟨rfl, h6, fr6⟩
    go_wp2
    go_end0
    exact ⟨rfl, h6, Fr.trans HF5.out fr6⟩

end Go.Proofs.Ytpbjmhcpaeillaa
