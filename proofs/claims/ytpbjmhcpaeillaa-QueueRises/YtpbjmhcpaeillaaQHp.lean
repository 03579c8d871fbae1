/- Queues: the heap as memory has it; an entry is laid. -/

import Derived.Test.YtpbjmhcpaeillaaQKit
namespace Go.Proofs.Ytpbjmhcpaeillaa
open Go.RowKit
set_option linter.unusedVariables false

/-- A heap: its block, its map's, its row. -/
structure HQ (w : World) (hb mb B : Nat) (rv : Value) (l : List Wq.Wr) (F : List (Wpl.Cl × Int)) : Prop where
  hd : AtL w hb [rv, .map (some mb)]
  own : w.ownsRow B 58 5 rv l.length (flatW l)
  mp : CM w mb F
  nb : ∀ g, rv.ownBlock = some g → g ≠ hb ∧ g ≠ mb
  hm : hb ≠ mb
theorem HQ.fr {S : List Nat} {w w' : World} {hb mb B : Nat} {rv : Value} {l : List Wq.Wr} {F : List (Wpl.Cl × Int)} (h : HQ w hb mb B rv l F) (hf : Fr S w w') (h1 : hb ∉ S) (h2 : mb ∉ S) (h3 : ∀ g, rv.ownBlock = some g → g ∉ S) : HQ w' hb mb B rv l F := ⟨h.hd.fr hf h1, own_fr hf h.own h3, h.mp.fr hf h2, h.nb, h.hm⟩
theorem HQ.below {w w' : World} {hb mb B : Nat} {rv : Value} {l : List Wq.Wr} {F : List (Wpl.Cl × Int)} (h : HQ w hb mb B rv l F) (hf : Below w.heap.size w w') : HQ w' hb mb B rv l F := h.fr (Fr.of_below [] hf) (by simp) (by simp) (by simp)
theorem there_below {w w' : World} {b o n : Nat} (hb : Below w.heap.size w w') (h : w.there b o n) : w'.there b o n := fun j hj => by
  obtain ⟨h1, h2⟩ := h j hj
  obtain ⟨v, hv⟩ := Option.isSome_iff_exists.1 h1
  exact ⟨by rw [cell_below hb hv]; rfl, mark_below hb hv h2⟩
theorem own_blk2 {w : World} {B n cap g s : Nat} {T : TypeId} {xs : List Value} (h : w.ownsRow B T s (.slice (some ⟨g, 0, none⟩) n cap) n xs) : g < w.heap.size := (own_blk h rfl).2
theorem setCells_fr (w : World) (g : Nat) (vs : List Value) (o : Nat) : Fr [g] w (w.setCells g o vs) := by
  have h : ∀ (vs : List Value) (o : Nat) (w : World), Fr [g] w (w.setCells g o vs) := by
    intro vs
    induction vs with
    | nil => exact fun o w => Fr.refl _ _
    | cons v r ih =>
      intro o w
      refine Fr.trans (w' := w.setCell ⟨g, o, none⟩ v) ?_ (ih (o + 1) _)
      exact ⟨rfl, rfl, rfl, by simp [World.setCell], fun k hk hn => Below.heap_setCell _ _ _ _ (by simpa using hn)⟩
  exact h vs o w
theorem HQ.put {w : World} {hb mb B g n cap : Nat} {l : List Wq.Wr} {F : List (Wpl.Cl × Int)} (h : HQ w hb mb B (.slice (some ⟨g, 0, none⟩) n cap) l F) (hn : l.length = n) {i : Nat} (hi : i < n) {e : Wq.Wr} : HQ (w.setCells g (i * 5) (wrV e)) hb mb B (.slice (some ⟨g, 0, none⟩) n cap) (l.set i e) F := by
  have hg := h.nb g rfl
  have fr := setCells_fr w g (wrV e) (i * 5)
  refine ⟨h.hd.fr fr (by simp; exact fun e => hg.1 e.symm), ?_, h.mp.fr fr (by simp; exact fun e => hg.2 e.symm), h.nb, h.hm⟩
  have o := h.own
  rw [hn] at o
  have := (own_setAll (wrV e) (i * 5) w _ o).1
  rw [List.length_set, hn, ← flatW_set l i (by omega) e]
  exact this
theorem HQ.map {w w' : World} {hb mb B : Nat} {rv : Value} {l : List Wq.Wr} {F F' : List (Wpl.Cl × Int)} (h : HQ w hb mb B rv l F) (hc : CM w' mb F') (hg : w.grownBy w' (some mb)) : HQ w' hb mb B rv l F' := by
  have fr : Fr [mb] w w' := Fr.of_grown hg (fun k e => by simp at e; simp [e])
  exact ⟨h.hd.fr fr (by simp; exact h.hm), own_fr fr h.own (fun g e => by simp; exact (h.nb g e).2), hc, h.nb, h.hm⟩
theorem Fr.put {S : List Nat} {w W : World} (h : Fr S w W) {g : Nat} (hg : g ∈ S) {o : Nat} {vs : List Value} : Fr S w (W.setCells g o vs) := Fr.trans h ((setCells_fr W g vs o).mono (fun k hk => by simp at hk; rw [hk]; exact hg))
theorem five_fr {S : List Nat} {W W' : World} (hf : Fr S W W') {k : Nat} (hn : k ∉ S) {a b c d e : Value} (h : Five W k a b c d e) : Five W' k a b c d e := by
  obtain ⟨h0, h1, h2, h3, h4⟩ := h
  exact ⟨hf.cell h0 hn, hf.cell h1 hn, hf.cell h2 hn, hf.cell h3 hn, hf.cell h4 hn⟩
theorem five_cells {W : World} {k g : Nat} {a b c d e : Value} (h : Five W k a b c d e) (hk : k ≠ g) (o : Nat) (vs : List Value) : Five (W.setCells g o vs) k a b c d e := five_fr (setCells_fr W g vs o) (by simp; exact hk) h
theorem five_grown {W W' : World} {k m : Nat} {a b c d e : Value} (h : Five W k a b c d e) (hg : W.grownBy W' (some m)) (hk : k ≠ m) : Five W' k a b c d e := five_fr (S := [m]) (Fr.of_grown hg (fun k e => by simp at e; simp [e])) (by simp; exact hk) h
theorem oneWl (a : Wq.Wr) : ∀ u ∈ wrV a, u.oneCell' = true := fun u h => by
  simp [wrV] at h
  rcases h with h | h | h | h | h <;> (subst h; rfl)
theorem oneW (a : Wq.Wr) : (wrV a).toArray.all (·.oneCell') = true := all_oneCell_toArray (oneWl a)
set_option maxRecDepth 100000 in
set_option maxHeartbeats 4000000 in
theorem lay_any (hb mb B g n cap : Nat) (l : List Wq.Wr) (F : List (Wpl.Cl × Int)) (i : Nat) (e : Wq.Wr) (w : World) (h : HQ w hb mb B (.slice (some ⟨g, 0, none⟩) n cap) l F) (hn : l.length = n) (hi : i < n) :
    Calls Try.prog 42 #[.pointer (some ⟨hb, 0, none⟩), .int .i64 (i : Int), .agg (wrV e).toArray] w fun en w' => en = .returned (.tuple #[]) ∧ HQ w' hb mb B (.slice (some ⟨g, 0, none⟩) n cap) (l.set i e) (putF ⟨e.s, e.r, e.c⟩ (i : Int) F) ∧ Fr (hb :: mb :: [g]) w w' := by
  have hb0 := ball (Below.refl _ w) (.cells #[.int .i64 e.s, .int .i64 e.r, .int .i64 e.c, .int .i64 e.ln, .int .i64 e.lv] 58)
  have f1 := AtL.f5 (AtL.new0 w 58 [.int .i64 e.s, .int .i64 e.r, .int .i64 e.c, .int .i64 e.ln, .int .i64 e.lv])
  have HQ0 : Hid (HQ (w.alloc (.cells #[.int .i64 e.s, .int .i64 e.r, .int .i64 e.c, .int .i64 e.ln, .int .i64 e.lv] 58)) hb mb B (.slice (some ⟨g, 0, none⟩) n cap) l F) := h.below hb0
  have HFR : Hid (Fr (hb :: mb :: [g]) w (w.alloc (.cells #[.int .i64 e.s, .int .i64 e.r, .int .i64 e.c, .int .i64 e.ln, .int .i64 e.lv] 58))) := Fr.of_below _ hb0
  have HN : Hid (i < n ∧ l.length = n) := ⟨hi, hn⟩
  have HNE : Hid (w.heap.size ≠ g) := by
    have := (own_blk h.own (g := g) rfl).2
    show _ ≠ _
    omega
  have HNM : Hid (w.heap.size ≠ mb) := by
    have := h.mp.lt
    show _ ≠ _
    omega
  have hth : (w.alloc (.cells #[.int .i64 e.s, .int .i64 e.r, .int .i64 e.c, .int .i64 e.ln, .int .i64 e.lv] 58)).there g (i * 5) 5 := by
    have o := HQ0.out.own
    rw [hn] at o
    obtain ⟨a, c, e1, _, hr⟩ := own_open o
    obtain ⟨g', e2, ht, _⟩ := hr (by omega)
    rw [e2] at e1
    simp only [Value.slice.injEq, Option.some.injEq, Addr.mk.injEq, and_true, true_and] at e1
    rw [e1.1]
    exact ht i hi
  obtain ⟨c0, c1, _, _⟩ := HQ0.out.hd.two
  have hii : (i : Int) < (n : Int) := by omega
  have hiz : (0 : Int) ≤ (i : Int) := by omega
  show Calls _ _ #[.pointer (some ⟨hb, 0, none⟩), .int .i64 (i : Int), .agg #[.int .i64 e.s, .int .i64 e.r, .int .i64 e.c, .int .i64 e.ln, .int .i64 e.lv]] _ _
  clear hb0 h hn hi
  go_enter Try.func42, Try.ntmps42
  go_upto_region 1 with fail
  generalize w.alloc (.cells #[.int .i64 e.s, .int .i64 e.r, .int .i64 e.c, .int .i64 e.ln, .int .i64 e.lv] 58) = W0 at *
  generalize heb : w.heap.size = eb at *
  clear heb
  have hb1 := (Below.refl W0.heap.size W0).drew
  refine wp_region_held_drew (S := fun W => (W.cell? ⟨hb, 0, none⟩ = some (.slice (some ⟨g, 0, none⟩) n cap) ∧ W.cell? ⟨hb, 1, none⟩ = some (.map (some mb))) ∧ Five W eb (.int .i64 e.s) (.int .i64 e.r) (.int .i64 e.c) (.int .i64 e.ln) (.int .i64 e.lv)) (by kernel_rfl) ⟨⟨cell_below hb1 c0, cell_below hb1 c1⟩, five_drew f1⟩ (fun hHeld => ?_)
  replace HQ0 := HQ0.out.below hb1
  have HQ0 : Hid (HQ W0.drew hb mb B (.slice (some ⟨g, 0, none⟩) n cap) l F) := HQ0
  replace f1 := five_drew f1
  replace hth := there_below hb1 hth
  replace HFR := Fr.trans HFR.out (Fr.of_below _ hb1)
  have HFR : Hid (Fr (hb :: mb :: [g]) w W0.drew) := HFR
  clear hb1 c0 c1
  generalize W0.drew = W1 at *
  refine wpAnyH_take (i := 0) (oi := { dst := Option.some 6, op := Op.move (Operand.tmp 0), type := 55, pos := "heap.go:124", after := #[], guard := Option.none }) (v := ?_) rfl (by kernel_rfl) (by kernel_rfl) (by kernel_rfl) (fun _ _ _ h => h) (Or.inl ⟨by rfl, ?_⟩) (by assumption) ?_
  rotate_left
  · intro w hSw
    (try dsimp only at hSw)
    go_simp
    try with_reducible rfl
  try simp only [Act.put, List.setIfInBounds_toArray, List.set_cons_zero, List.set_cons_succ]
  refine wpAnyH_take (i := 1) (oi := { dst := Option.some 7, op := Op.nilCheck (Operand.tmp 6), type := 0, pos := "heap.go:124", after := #[{ on := 0, ground := Ground.data }], guard := Option.none }) (v := ?_) rfl (by kernel_rfl) (by kernel_rfl) (by kernel_rfl) (fun _ _ _ h => h) (Or.inl ⟨by rfl, ?_⟩) (by assumption) ?_
  rotate_left
  · intro w hSw
    (try dsimp only at hSw)
    go_simp
    try with_reducible rfl
  try simp only [Act.put, List.setIfInBounds_toArray, List.set_cons_zero, List.set_cons_succ]
  refine wpAnyH_take (i := 2) (oi := { dst := Option.some 8, op := Op.fieldAddr 76 (Operand.tmp 7) 0, type := 0, pos := "heap.go:124", after := #[{ on := 1, ground := Ground.data }], guard := Option.none }) (v := ?_) rfl (by kernel_rfl) (by kernel_rfl) (by kernel_rfl) (fun _ _ _ h => h) (Or.inl ⟨by rfl, ?_⟩) (by assumption) ?_
  rotate_left
  · intro w hSw
    (try dsimp only at hSw)
    go_simp
    try with_reducible rfl
  try simp only [Act.put, List.setIfInBounds_toArray, List.set_cons_zero, List.set_cons_succ]
  refine wpAnyH_take (i := 3) (oi := { dst := Option.some 9, op := Op.load 68 (Operand.tmp 8), type := 68, pos := "heap.go:124", after := #[{ on := 2, ground := Ground.data }], guard := Option.none }) (v := ?_) rfl (by kernel_rfl) (by kernel_rfl) (by kernel_rfl) (fun _ _ _ h => h) (Or.inl ⟨by rfl, ?_⟩) (by assumption) ?_
  rotate_left
  · intro w hSw
    (try dsimp only at hSw)
    go_simp
    try with_reducible rfl
  try simp only [Act.put, List.setIfInBounds_toArray, List.set_cons_zero, List.set_cons_succ]
  refine wpAnyH_take (i := 4) (oi := { dst := Option.some 10, op := Op.move (Operand.tmp 1), type := 3, pos := "heap.go:124", after := #[], guard := Option.none }) (v := ?_) rfl (by kernel_rfl) (by kernel_rfl) (by kernel_rfl) (fun _ _ _ h => h) (Or.inl ⟨by rfl, ?_⟩) (by assumption) ?_
  rotate_left
  · intro w hSw
    (try dsimp only at hSw)
    go_simp
    try with_reducible rfl
  try simp only [Act.put, List.setIfInBounds_toArray, List.set_cons_zero, List.set_cons_succ]
  refine wpAnyH_take (i := 5) (oi := { dst := Option.some 11, op := Op.load 58 (Operand.tmp 5), type := 58, pos := "heap.go:124", after := #[], guard := Option.none }) (v := ?_) rfl (by kernel_rfl) (by kernel_rfl) (by kernel_rfl) (fun _ _ _ h => h) (Or.inl ⟨by rfl, ?_⟩) (by assumption) ?_
  rotate_left
  · intro w hSw
    (try dsimp only at hSw)
    go_simp
    try with_reducible rfl
  try simp only [Act.put, List.setIfInBounds_toArray, List.set_cons_zero, List.set_cons_succ]
  refine wpAnyH_take (i := 6) (oi := { dst := Option.some 12, op := Op.indexAddr 68 (Operand.tmp 9) (Operand.tmp 10), type := 0, pos := "heap.go:124", after := #[{ on := 3, ground := Ground.data }, { on := 4, ground := Ground.data }, { on := 0, ground := Ground.phase }, { on := 1, ground := Ground.phase }, { on := 2, ground := Ground.phase }, { on := 3, ground := Ground.phase }, { on := 4, ground := Ground.phase }, { on := 5, ground := Ground.phase }], guard := Option.none }) (v := ?_) rfl (by kernel_rfl) (by kernel_rfl) (by kernel_rfl) (fun _ _ _ h => h) (Or.inl ⟨by rfl, ?_⟩) (by assumption) ?_
  rotate_left
  · intro w hSw
    (try dsimp only at hSw)
    go_simp
    try with_reducible rfl
  try simp only [Act.put, List.setIfInBounds_toArray, List.set_cons_zero, List.set_cons_succ]
  refine wpAnyH_ready (rs := [7]) (by kernel_rfl) (by simp) ?_
  refine AllReadyH.cons (o := { dst := Option.none, op := Op.store 58 (Operand.tmp 12) (Operand.tmp 11), type := 0, pos := "heap.go:124", after := #[{ on := 6, ground := Ground.data }, { on := 5, ground := Ground.data }, { on := 0, ground := Ground.phase }, { on := 1, ground := Ground.phase }, { on := 2, ground := Ground.phase }, { on := 3, ground := Ground.phase }, { on := 4, ground := Ground.phase }, { on := 5, ground := Ground.phase }], guard := Option.none }) rfl (fun K hK => ?_) AllReadyH.nil
  refine wp_store_mid 58 (.tmp 12) (.tmp 11) rfl g (i * 5) (wrV e).toArray rfl rfl hth (by kernel_rfl) (oneW e) ?_
  have HQ1 : Hid (HQ (W1.setCells g (i * 5) (wrV e)) hb mb B (.slice (some ⟨g, 0, none⟩) n cap) (l.set i e) F) := HQ0.out.put HN.out.2 HN.out.1
  have HFR1 : Hid (Fr (hb :: mb :: [g]) w (W1.setCells g (i * 5) (wrV e))) := HFR.out.put (by simp)
  have f2 := five_cells f1 HNE.out (i * 5) (wrV e)
  obtain ⟨c0, c1, _, _⟩ := HQ1.out.hd.two
  refine hK.out _ _ ⟨⟨c0, c1⟩, f2⟩ (fun hHeld => ?_)
  clear hK K HQ0 HFR f1 hth
  try simp only [Act.put]
  refine wpAnyH_done (by kernel_rfl) ?_ _

  generalize W1.setCells g (i * 5) (wrV e) = W2 at *
  go_upto_region 2 with fail
  have hb1 := (Below.refl W2.heap.size W2).drew
  refine wp_region_held_drew (S := fun W => (W.cell? ⟨hb, 0, none⟩ = some (.slice (some ⟨g, 0, none⟩) n cap) ∧ W.cell? ⟨hb, 1, none⟩ = some (.map (some mb))) ∧ Five W eb (.int .i64 e.s) (.int .i64 e.r) (.int .i64 e.c) (.int .i64 e.ln) (.int .i64 e.lv)) (by kernel_rfl) ⟨⟨cell_below hb1 c0, cell_below hb1 c1⟩, five_drew f2⟩ (fun hHeld => ?_)
  replace HQ1 := HQ1.out.below hb1
  have HQ1 : Hid (HQ W2.drew hb mb B (.slice (some ⟨g, 0, none⟩) n cap) (l.set i e) F) := HQ1
  replace f2 := five_drew f2
  replace HFR1 := Fr.trans HFR1.out (Fr.of_below _ hb1)
  have HFR1 : Hid (Fr (hb :: mb :: [g]) w W2.drew) := HFR1
  clear hb1 c0 c1
  generalize W2.drew = W3 at *
  refine wpAnyH_take (i := 0) (oi := { dst := Option.some 13, op := Op.move (Operand.tmp 0), type := 55, pos := "heap.go:125", after := #[], guard := Option.none }) (v := ?_) rfl (by kernel_rfl) (by kernel_rfl) (by kernel_rfl) (fun _ _ _ h => h) (Or.inl ⟨by rfl, ?_⟩) (by assumption) ?_
  rotate_left
  · intro w hSw
    (try dsimp only at hSw)
    go_simp
    try with_reducible rfl
  try simp only [Act.put, List.setIfInBounds_toArray, List.set_cons_zero, List.set_cons_succ]
  refine wpAnyH_take (i := 1) (oi := { dst := Option.some 14, op := Op.nilCheck (Operand.tmp 13), type := 0, pos := "heap.go:125", after := #[{ on := 0, ground := Ground.data }], guard := Option.none }) (v := ?_) rfl (by kernel_rfl) (by kernel_rfl) (by kernel_rfl) (fun _ _ _ h => h) (Or.inl ⟨by rfl, ?_⟩) (by assumption) ?_
  rotate_left
  · intro w hSw
    (try dsimp only at hSw)
    go_simp
    try with_reducible rfl
  try simp only [Act.put, List.setIfInBounds_toArray, List.set_cons_zero, List.set_cons_succ]
  refine wpAnyH_take (i := 2) (oi := { dst := Option.some 15, op := Op.fieldAddr 76 (Operand.tmp 14) 1, type := 0, pos := "heap.go:125", after := #[{ on := 1, ground := Ground.data }], guard := Option.none }) (v := ?_) rfl (by kernel_rfl) (by kernel_rfl) (by kernel_rfl) (fun _ _ _ h => h) (Or.inl ⟨by rfl, ?_⟩) (by assumption) ?_
  rotate_left
  · intro w hSw
    (try dsimp only at hSw)
    go_simp
    try with_reducible rfl
  try simp only [Act.put, List.setIfInBounds_toArray, List.set_cons_zero, List.set_cons_succ]
  refine wpAnyH_take (i := 3) (oi := { dst := Option.some 16, op := Op.load 74 (Operand.tmp 15), type := 74, pos := "heap.go:125", after := #[{ on := 2, ground := Ground.data }], guard := Option.none }) (v := ?_) rfl (by kernel_rfl) (by kernel_rfl) (by kernel_rfl) (fun _ _ _ h => h) (Or.inl ⟨by rfl, ?_⟩) (by assumption) ?_
  rotate_left
  · intro w hSw
    (try dsimp only at hSw)
    go_simp
    try with_reducible rfl
  try simp only [Act.put, List.setIfInBounds_toArray, List.set_cons_zero, List.set_cons_succ]
  refine wpAnyH_take (i := 4) (oi := { dst := Option.some 17, op := Op.load 58 (Operand.tmp 5), type := 58, pos := "heap.go:125", after := #[], guard := Option.none }) (v := ?_) rfl (by kernel_rfl) (by kernel_rfl) (by kernel_rfl) (fun _ _ _ h => h) (Or.inl ⟨by rfl, ?_⟩) (by assumption) ?_
  rotate_left
  · intro w hSw
    (try dsimp only at hSw)
    go_simp
    try with_reducible rfl
  try simp only [Act.put, List.setIfInBounds_toArray, List.set_cons_zero, List.set_cons_succ]
  refine wpAnyH_take (i := 5) (oi := { dst := Option.some 18, op := Op.makeInterface 58 (Operand.tmp 17), type := 20, pos := "heap.go:125", after := #[{ on := 4, ground := Ground.data }], guard := Option.none }) (v := ?_) rfl (by kernel_rfl) (by kernel_rfl) (by kernel_rfl) (fun _ _ _ h => h) (Or.inl ⟨by rfl, ?_⟩) (by assumption) ?_
  rotate_left
  · intro w hSw
    (try dsimp only at hSw)
    go_simp
    try with_reducible rfl
  try simp only [Act.put, List.setIfInBounds_toArray, List.set_cons_zero, List.set_cons_succ]
  refine wpAnyH_take (i := 7) (oi := { dst := Option.some 20, op := Op.move (Operand.tmp 1), type := 3, pos := "heap.go:125", after := #[], guard := Option.none }) (v := ?_) rfl (by kernel_rfl) (by kernel_rfl) (by kernel_rfl) (fun _ _ _ h => h) (Or.inl ⟨by rfl, ?_⟩) (by assumption) ?_
  rotate_left
  · intro w hSw
    (try dsimp only at hSw)
    go_simp
    try with_reducible rfl
  try simp only [Act.put, List.setIfInBounds_toArray, List.set_cons_zero, List.set_cons_succ]
  refine wpAnyH_ready (rs := [6]) (by kernel_rfl) (by simp) ?_
  refine AllReadyH.cons (o := { dst := Option.some 19, op := Op.call { callee := Callee.invoke (Operand.tmp 18) "whittle/queue.key", args := #[], argTypes := #[] }, type := 33, pos := "heap.go:125", after := #[{ on := 5, ground := Ground.data }], guard := Option.none }) rfl (fun K hK => ?_) AllReadyH.nil
  go_simp
  refine (key_any e W3).mono ?_
  rintro en w4 ⟨rfl, hb4⟩
  have HQ2 : Hid (HQ w4 hb mb B (.slice (some ⟨g, 0, none⟩) n cap) (l.set i e) F) := HQ1.out.below hb4
  have HFR2 : Hid (Fr (hb :: mb :: [g]) w w4) := Fr.trans HFR1.out (Fr.of_below _ hb4)
  replace f2 := five_below hb4 f2
  obtain ⟨c0, c1, _, _⟩ := HQ2.out.hd.two
  clear HQ1 HFR1 hb4
  go_wp2_with fail
  refine hK.out _ _ ⟨⟨c0, c1⟩, f2⟩ (fun hHeld => ?_)
  clear hK K
  try simp only [Act.put, List.setIfInBounds_toArray, List.set_cons_zero, List.set_cons_succ]
  refine wpAnyH_ready (rs := [8]) (by kernel_rfl) (by simp) ?_
  refine AllReadyH.cons (o := { dst := Option.none, op := Op.mapUpdate 74 (Operand.tmp 16) (Operand.tmp 19) (Operand.tmp 20), type := 0, pos := "heap.go:125", after := #[{ on := 3, ground := Ground.data }, { on := 6, ground := Ground.data }, { on := 7, ground := Ground.data }, { on := 6, ground := Ground.chain }, { on := 0, ground := Ground.phase }, { on := 1, ground := Ground.phase }, { on := 2, ground := Ground.phase }, { on := 3, ground := Ground.phase }, { on := 4, ground := Ground.phase }, { on := 5, ground := Ground.phase }, { on := 6, ground := Ground.phase }, { on := 7, ground := Ground.phase }], guard := Option.none }) rfl (fun K hK => ?_) AllReadyH.nil
  obtain ⟨w5, hu, hcm, hgr⟩ := updC HQ2.out.mp ⟨e.s, e.r, e.c⟩ (i : Int)
  have HQ3 : Hid (HQ w5 hb mb B (.slice (some ⟨g, 0, none⟩) n cap) (l.set i e) (putF ⟨e.s, e.r, e.c⟩ (i : Int) F)) := HQ2.out.map hcm hgr
  have HFR3 : Hid (Fr (hb :: mb :: [g]) w w5) := Fr.trans HFR2.out (Fr.of_grown hgr (fun k e => by simp at e; simp [e]))
  obtain ⟨c0, c1, _, _⟩ := HQ3.out.hd.two
  have f3 := five_grown f2 hgr HNM.out
  go_simp
  refine hK.out _ _ ⟨⟨c0, c1⟩, f3⟩ (fun hHeld => ?_)
  clear hK K
  try simp only [Act.put, List.setIfInBounds_toArray, List.set_cons_zero, List.set_cons_succ]
  refine wpAnyH_done (by kernel_rfl) ?_ _

  go_wp2
  go_end0
  exact ⟨rfl, HQ3.out, HFR3.out⟩
end Go.Proofs.Ytpbjmhcpaeillaa
