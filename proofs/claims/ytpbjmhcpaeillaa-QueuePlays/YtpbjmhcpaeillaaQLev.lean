/- Queues: First. -/
import Derived.Test.YtpbjmhcpaeillaaQSee
namespace Go.Proofs.Ytpbjmhcpaeillaa
open Go.RowKit
set_option linter.unusedVariables false

/-- The first entry of a row; is there one? -/
def hdW : List Wq.Wr → Wq.Wr
  | [] => zeW
  | a :: _ => a
def neQ : List Wq.Wr → Bool
  | [] => false
  | _ :: _ => true
theorem firstH_any (hb mb B : Nat) (rv : Value) (l : List Wq.Wr) (F : List (Wpl.Cl × Int)) (w : World) (h : HQ w hb mb B rv l F) :
    Calls Try.prog 38 #[.pointer (some ⟨hb, 0, none⟩)] w fun en w' => en = .returned (.tuple #[.agg (wrV (hdW l)).toArray, .bool (neQ l)]) ∧ Below w.heap.size w w' := by
  cases l with
  | nil => exact first_none hb mb B rv F w h
  | cons a r => exact first_some hb mb B rv a r F w h
theorem oneC3 (x : Wpl.Cl) : ([.int .i64 x.s, .int .i64 x.r, .int .i64 x.c] : List Value).toArray.all (·.oneCell') = true := all_oneCell_toArray (fun u h => by
  simp at h
  rcases h with h | h | h <;> (subst h; rfl))
set_option maxRecDepth 100000 in
set_option maxHeartbeats 4000000 in
theorem qfirst_any (qb hb mb B : Nat) (rv : Value) (l : List Wq.Wr) (F : List (Wpl.Cl × Int)) (av : Option Addr) (n cap : Nat) (A : List Wpl.Ar) (w : World) (h : QQ w qb hb mb B rv l F av n cap A) :
    Calls Try.prog 20 #[.pointer (some ⟨qb, 0, none⟩)] w fun en w' => en = .returned (.tuple #[.agg #[.int .i64 (hdW l).s, .int .i64 (hdW l).r, .int .i64 (hdW l).c], .bool (neQ l)]) ∧ Below w.heap.size w w' := by
  have hb0 := ball (Below.refl _ w) (.cells #[.int .i64 0, .int .i64 0, .int .i64 0] 33)
  have p := AtL.new0 w 33 [.int .i64 0, .int .i64 0, .int .i64 0]
  have h0 := h.below hb0
  obtain ⟨c0, _, _, _⟩ := h0.hd.two
  have FH := firstH_any hb mb B rv l F _ h0.h.q
  have HB0 : Hid (Below w.heap.size w (w.alloc (.cells #[.int .i64 0, .int .i64 0, .int .i64 0] 33))) := hb0
  generalize hdW l = a at *
  generalize neQ l = q at *
  clear h h0 hb0
  go_enter Try.func20, Try.ntmps20
  go_upto_region 1 with fail
  generalize w.alloc (.cells #[.int .i64 0, .int .i64 0, .int .i64 0] 33) = W0 at *
  go_wp2_with fail
  refine FH.mono ?_
  rintro en w1 ⟨rfl, hb1⟩
  have HB1 : Hid (Below w.heap.size w w1) := below_end HB0.out hb1
  have p1 := AtL.below hb1 p
  have p2 := p1.alloc (.cells #[.int .i64 a.s, .int .i64 a.r, .int .i64 a.c, .int .i64 a.ln, .int .i64 a.lv] 58)
  have q2 := AtL.new0 w1 58 [.int .i64 a.s, .int .i64 a.r, .int .i64 a.c, .int .i64 a.ln, .int .i64 a.lv]
  have HB2 : Hid (Below w.heap.size w (w1.alloc (.cells #[.int .i64 a.s, .int .i64 a.r, .int .i64 a.c, .int .i64 a.ln, .int .i64 a.lv] 58))) := ball HB1.out _
  clear FH hb1 HB0 HB1 p p1 c0
  have ev : (wrV a).toArray = #[.int .i64 a.s, .int .i64 a.r, .int .i64 a.c, .int .i64 a.ln, .int .i64 a.lv] := rfl
  rw [ev]
  clear ev
  go_upto_region 2 with fail
  generalize w1.alloc (.cells #[.int .i64 a.s, .int .i64 a.r, .int .i64 a.c, .int .i64 a.ln, .int .i64 a.lv] 58) = W2 at *
  obtain ⟨d0, d1, d2, d3, d4, _⟩ := AtL.five q2
  have hth : W2.there w.heap.size 0 3 := p2.there
  have p3 : AtL (W2.setCells w.heap.size 0 [.int .i64 a.s, .int .i64 a.r, .int .i64 a.c]) w.heap.size [.int .i64 a.s, .int .i64 a.r, .int .i64 a.c] := p2.setAll rfl
  have HB3 : Hid (Below w.heap.size w (W2.setCells w.heap.size 0 [.int .i64 a.s, .int .i64 a.r, .int .i64 a.c])) := bset HB2.out (Nat.le_refl _) _ _
  clear p2 q2 HB2
  go_wp2_with ((with_reducible refine wpList_store_mid ?_ 33 (.tmp 2) (.tmp 15) ?_ w.heap.size 0 ([.int .i64 a.s, .int .i64 a.r, .int .i64 a.c] : List Value).toArray ?_ ?_ ?_ ?_ ?_ ?_); rfl; rfl; rfl; rfl; exact hth; kernel_rfl; exact oneC3 (clW a))
  generalize W2.setCells w.heap.size 0 [.int .i64 a.s, .int .i64 a.r, .int .i64 a.c] = W3 at *
  obtain ⟨e0, e1, e2, _⟩ := p3.three
  refine bodyPost_ret (v := .tuple #[.agg #[.int .i64 a.s, .int .i64 a.r, .int .i64 a.c], .bool q]) (by simp [results, Try.results20, go_sem, e0, e1, e2]) rfl ⟨rfl, HB3.out⟩
end Go.Proofs.Ytpbjmhcpaeillaa
namespace Go.Proofs.Ytpbjmhcpaeillaa
open Go.RowKit
set_option linter.unusedVariables false

/-- What Level answers. -/
def QLvP (w : World) (l : List Wq.Wr) (x : Wpl.Cl) (en : Ending) (w' : World) : Prop := (∃ (a : Wq.Wr) (q : Bool), en = .returned (.tuple #[.int .i64 a.lv, .bool q]) ∧ (q = true → a ∈ l ∧ clW a = x) ∧ (q = false → a = zeW ∧ ∀ b ∈ l, clW b ≠ x)) ∧ Below w.heap.size w w'
set_option maxRecDepth 100000 in
set_option maxHeartbeats 4000000 in
theorem qlevel_any (qb hb mb B : Nat) (rv : Value) (l : List Wq.Wr) (F : List (Wpl.Cl × Int)) (av : Option Addr) (n cap : Nat) (A : List Wpl.Ar) (x : Wpl.Cl) (w : World) (h : QQ w qb hb mb B rv l F av n cap A) :
    Calls Try.prog 22 #[.pointer (some ⟨qb, 0, none⟩), .agg #[.int .i64 x.s, .int .i64 x.r, .int .i64 x.c]] w (QLvP w l x) := by
  have hb0 := ball (Below.refl _ w) (.cells #[.int .i64 x.s, .int .i64 x.r, .int .i64 x.c] 33)
  have t3 := AtL.f3 (AtL.new0 w 33 [.int .i64 x.s, .int .i64 x.r, .int .i64 x.c])
  have HQ0 : Hid (QQ (w.alloc (.cells #[.int .i64 x.s, .int .i64 x.r, .int .i64 x.c] 33)) qb hb mb B rv l F av n cap A) := h.below hb0
  have HB0 : Hid (Below w.heap.size w (w.alloc (.cells #[.int .i64 x.s, .int .i64 x.r, .int .i64 x.c] 33))) := hb0
  have HNQ : Hid (qb < w.heap.size) := h.hd.1
  obtain ⟨c0, _, _, _⟩ := HQ0.out.hd.two
  clear h hb0
  go_enter Try.func22, Try.ntmps22
  go_upto_region 1 with fail
  have HSZ : Hid (∃ eb, w.heap.size = eb) := ⟨_, rfl⟩
  generalize w.alloc (.cells #[.int .i64 x.s, .int .i64 x.r, .int .i64 x.c] 33) = W0 at *
  obtain ⟨eb, heb⟩ := HSZ.out
  rw [heb] at t3
  rw [heb]
  clear heb HSZ
  have hb1 := (Below.refl W0.heap.size W0).drew
  refine wp_region_held_drew (S := fun W => W.cell? ⟨qb, 0, none⟩ = some (.pointer (some ⟨hb, 0, none⟩)) ∧ Three W eb (.int .i64 x.s) (.int .i64 x.r) (.int .i64 x.c)) (by kernel_rfl) ⟨cell_below hb1 c0, three_drew t3⟩ (fun hHeld => ?_)
  replace c0 := cell_below hb1 c0
  replace t3 := three_drew t3
  have HQ1 : Hid (QQ W0.drew qb hb mb B rv l F av n cap A) := HQ0.out.below hb1
  have HB1 : Hid (Below w.heap.size w W0.drew) := below_end HB0.out hb1
  clear hb1 HQ0 HB0
  generalize W0.drew = W1 at *
  refine wpAnyH_take (i := 0) (oi := { dst := Option.some 9, op := Op.move (Operand.tmp 0), type := 25, pos := "queue.go:45", after := #[], guard := Option.none }) (v := ?_) rfl (by kernel_rfl) (by kernel_rfl) (by kernel_rfl) (fun _ _ _ h => h) (Or.inl ⟨by rfl, ?_⟩) (by assumption) ?_
  rotate_left
  · intro w hSw
    (try dsimp only at hSw)
    go_simp
    try with_reducible rfl
  try simp only [Act.put, List.setIfInBounds_toArray, List.set_cons_zero, List.set_cons_succ]
  refine wpAnyH_take (i := 1) (oi := { dst := Option.some 10, op := Op.nilCheck (Operand.tmp 9), type := 0, pos := "queue.go:45", after := #[{ on := 0, ground := Ground.data }], guard := Option.none }) (v := ?_) rfl (by kernel_rfl) (by kernel_rfl) (by kernel_rfl) (fun _ _ _ h => h) (Or.inl ⟨by rfl, ?_⟩) (by assumption) ?_
  rotate_left
  · intro w hSw
    (try dsimp only at hSw)
    go_simp
    try with_reducible rfl
  try simp only [Act.put, List.setIfInBounds_toArray, List.set_cons_zero, List.set_cons_succ]
  refine wpAnyH_take (i := 2) (oi := { dst := Option.some 11, op := Op.fieldAddr 60 (Operand.tmp 10) 0, type := 0, pos := "queue.go:45", after := #[{ on := 1, ground := Ground.data }], guard := Option.none }) (v := ?_) rfl (by kernel_rfl) (by kernel_rfl) (by kernel_rfl) (fun _ _ _ h => h) (Or.inl ⟨by rfl, ?_⟩) (by assumption) ?_
  rotate_left
  · intro w hSw
    (try dsimp only at hSw)
    go_simp
    try with_reducible rfl
  try simp only [Act.put, List.setIfInBounds_toArray, List.set_cons_zero, List.set_cons_succ]
  refine wpAnyH_take (i := 3) (oi := { dst := Option.some 12, op := Op.load 55 (Operand.tmp 11), type := 55, pos := "queue.go:45", after := #[{ on := 2, ground := Ground.data }], guard := Option.none }) (v := ?_) rfl (by kernel_rfl) (by kernel_rfl) (by kernel_rfl) (fun _ _ _ h => h) (Or.inl ⟨by rfl, ?_⟩) (by assumption) ?_
  rotate_left
  · intro w hSw
    (try dsimp only at hSw)
    go_simp
    try with_reducible rfl
  try simp only [Act.put, List.setIfInBounds_toArray, List.set_cons_zero, List.set_cons_succ]
  refine wpAnyH_take (i := 4) (oi := { dst := Option.some 13, op := Op.load 33 (Operand.tmp 3), type := 33, pos := "queue.go:45", after := #[], guard := Option.none }) (v := ?_) rfl (by kernel_rfl) (by kernel_rfl) (by kernel_rfl) (fun _ _ _ h => h) (Or.inl ⟨by rfl, ?_⟩) (by assumption) ?_
  rotate_left
  · intro w hSw
    (try dsimp only at hSw)
    go_simp
    try with_reducible rfl
  try simp only [Act.put, List.setIfInBounds_toArray, List.set_cons_zero, List.set_cons_succ]
  refine wpAnyH_ready (rs := [5, 9]) (by kernel_rfl) (by simp) ?_
  refine AllReadyH.cons (o := { dst := Option.some 14, op := Op.call { callee := Callee.value (Operand.func 40), args := #[Operand.tmp 12, Operand.tmp 13], argTypes := #[55, 33] }, type := 70, pos := "queue.go:45", after := #[{ on := 3, ground := Ground.data }, { on := 4, ground := Ground.data }], guard := Option.none }) rfl (fun K hK => ?_) (AllReadyH.cons (o := { dst := Option.some 6, op := Op.alloc 58, type := 0, pos := "queue.go:45", after := #[], guard := Option.none }) rfl (fun K hK => ?_) AllReadyH.nil)
  · go_simp
    refine (of_any hb mb B rv l F x W1 HQ1.out.h.q HQ1.out.h.f).mono ?_
    rintro en w4 ⟨⟨a, q, rfl, ht, hf⟩, hb4⟩
    have HE : Hid ((q = true → a ∈ l ∧ clW a = x) ∧ (q = false → a = zeW ∧ ∀ b ∈ l, clW b ≠ x)) := ⟨ht, hf⟩
    have HB4 : Hid (Below w.heap.size w w4) := below_end HB1.out hb4
    replace c0 := cell_below hb4 c0
    replace t3 := three_below hb4 t3
    clear ht hf hb4 HQ1 HB1
    go_wp2_with fail
    refine hK.out _ _ ⟨c0, t3⟩ (fun hHeld => ?_)
    clear hK K
    try simp only [Act.put, List.setIfInBounds_toArray, List.set_cons_zero, List.set_cons_succ]
    refine wpAnyH_take (i := 6) (oi := { dst := Option.some 8, op := Op.move (Operand.tmp 14), type := 70, pos := "queue.go:45", after := #[{ on := 5, ground := Ground.data }], guard := Option.none }) (v := ?_) rfl (by kernel_rfl) (by kernel_rfl) (by kernel_rfl) (fun _ _ _ h => h) (Or.inl ⟨by rfl, ?_⟩) (by assumption) ?_
    rotate_left
    · intro w hSw
      (try dsimp only at hSw)
      go_simp
      try with_reducible rfl
    try simp only [Act.put, List.setIfInBounds_toArray, List.set_cons_zero, List.set_cons_succ]
    refine wpAnyH_take (i := 7) (oi := { dst := Option.some 15, op := Op.extract (Operand.tmp 8) 0, type := 58, pos := "queue.go:45", after := #[{ on := 6, ground := Ground.data }], guard := Option.none }) (v := ?_) rfl (by kernel_rfl) (by kernel_rfl) (by kernel_rfl) (fun _ _ _ h => h) (Or.inl ⟨by rfl, ?_⟩) (by assumption) ?_
    rotate_left
    · intro w hSw
      (try dsimp only at hSw)
      go_simp
      try with_reducible rfl
    try simp only [Act.put, List.setIfInBounds_toArray, List.set_cons_zero, List.set_cons_succ]
    refine wpAnyH_take (i := 8) (oi := { dst := Option.some 16, op := Op.extract (Operand.tmp 8) 1, type := 4, pos := "queue.go:45", after := #[{ on := 6, ground := Ground.data }, { on := 10, ground := Ground.gcOnly Departure.lateStores }], guard := Option.none }) (v := ?_) rfl (by kernel_rfl) (by kernel_rfl) (by kernel_rfl) (fun _ _ _ h => h) (Or.inl ⟨by rfl, ?_⟩) (by assumption) ?_
    rotate_left
    · intro w hSw
      (try dsimp only at hSw)
      go_simp
      try with_reducible rfl
    try simp only [Act.put, List.setIfInBounds_toArray, List.set_cons_zero, List.set_cons_succ]
    refine wpAnyH_ready (rs := [9]) (by kernel_rfl) (by simp) ?_
    refine AllReadyH.cons (o := { dst := Option.some 6, op := Op.alloc 58, type := 0, pos := "queue.go:45", after := #[], guard := Option.none }) rfl (fun K hK => ?_) AllReadyH.nil
    go_simp
    have hb5 := ball (Below.refl w4.heap.size w4) (.cells #[.int .i64 0, .int .i64 0, .int .i64 0, .int .i64 0, .int .i64 0] 58)
    have p5 := AtL.new0 w4 58 [.int .i64 0, .int .i64 0, .int .i64 0, .int .i64 0, .int .i64 0]
    have HB5 : Hid (Below w.heap.size w (w4.alloc (.cells #[.int .i64 0, .int .i64 0, .int .i64 0, .int .i64 0, .int .i64 0] 58)) ∧ w.heap.size ≤ w4.heap.size ∧ qb ≠ w4.heap.size ∧ eb ≠ w4.heap.size) := ⟨ball HB4.out _, HB4.out.size, by have := HNQ.out; have := HB4.out.size; omega, by have := cell_lt t3.1; omega⟩
    refine hK.out _ _ ⟨cell_below hb5 c0, three_below hb5 t3⟩ (fun hHeld => ?_)
    replace c0 := cell_below hb5 c0
    replace t3 := three_below hb5 t3
    clear hK K hb5 HB4
    try simp only [Act.put, List.setIfInBounds_toArray, List.set_cons_zero, List.set_cons_succ]
    generalize w4.alloc (.cells #[.int .i64 0, .int .i64 0, .int .i64 0, .int .i64 0, .int .i64 0] 58) = W5 at *
    generalize hp6 : w4.heap.size = p6 at *
    clear hp6
    refine wpAnyH_ready (rs := [10]) (by kernel_rfl) (by simp) ?_
    refine AllReadyH.cons (o := { dst := Option.none, op := Op.store 58 (Operand.tmp 6) (Operand.tmp 15), type := 0, pos := "queue.go:45", after := #[{ on := 9, ground := Ground.data }, { on := 7, ground := Ground.data }, { on := 5, ground := Ground.chain }, { on := 0, ground := Ground.phase }, { on := 1, ground := Ground.phase }, { on := 2, ground := Ground.phase }, { on := 3, ground := Ground.phase }, { on := 4, ground := Ground.phase }, { on := 5, ground := Ground.phase }, { on := 6, ground := Ground.phase }, { on := 7, ground := Ground.phase }, { on := 8, ground := Ground.textOnly Departure.lateStores }, { on := 9, ground := Ground.phase }], guard := Option.none }) rfl (fun K hK => ?_) AllReadyH.nil
    refine wp_store_mid 58 (.tmp 6) (.tmp 15) rfl p6 0 (wrV a).toArray rfl rfl p5.there (by kernel_rfl) (oneW a) ?_
    have q6 : AtL (W5.setCells p6 0 (wrV a)) p6 (wrV a) := p5.setAll rfl
    have HB6 : Hid (Below w.heap.size w (W5.setCells p6 0 (wrV a))) := bset HB5.out.1 HB5.out.2.1 _ _
    have fr6 := setCells_fr W5 p6 (wrV a) 0
    have hS : (W5.setCells p6 0 (wrV a)).cell? ⟨qb, 0, none⟩ = some (.pointer (some ⟨hb, 0, none⟩)) ∧ Three (W5.setCells p6 0 (wrV a)) eb (.int .i64 x.s) (.int .i64 x.r) (.int .i64 x.c) := ⟨fr6.cell c0 (by simp; exact HB5.out.2.2.1), fr6.cell t3.1 (by simp; exact HB5.out.2.2.2), fr6.cell t3.2.1 (by simp; exact HB5.out.2.2.2), fr6.cell t3.2.2 (by simp; exact HB5.out.2.2.2)⟩
    refine hK.out _ _ hS (fun hHeld => ?_)
    clear hK K p5 HB5 fr6 c0 t3
    try simp only [Act.put]
    generalize W5.setCells p6 0 (wrV a) = W6 at *
    refine wpAnyH_ready (rs := [11]) (by kernel_rfl) (by simp) ?_
    refine AllReadyH.cons (o := { dst := Option.some 7, op := Op.assign (Operand.tmp 16), type := 4, pos := "queue.go:45", after := #[{ on := 8, ground := Ground.data }, { on := 10, ground := Ground.chain }, { on := 0, ground := Ground.phase }, { on := 1, ground := Ground.phase }, { on := 2, ground := Ground.phase }, { on := 3, ground := Ground.phase }, { on := 4, ground := Ground.phase }, { on := 5, ground := Ground.phase }, { on := 6, ground := Ground.phase }, { on := 7, ground := Ground.phase }, { on := 8, ground := Ground.phase }, { on := 9, ground := Ground.phase }, { on := 10, ground := Ground.phase }], guard := Option.none }) rfl (fun K hK => ?_) AllReadyH.nil
    go_simp
    refine hK.out _ _ hS (fun hHeld => ?_)
    clear hK K hS
    try simp only [Act.put, List.setIfInBounds_toArray, List.set_cons_zero, List.set_cons_succ]
    refine wpAnyH_done (by kernel_rfl) ?_ _
    obtain ⟨d0, d1, d2, d3, d4, _⟩ := AtL.five q6
    clear hHeld
    go_wp2
    refine bodyPost_ret (v := .tuple #[.int .i64 a.lv, .bool q]) (by simp [results, Try.results22, go_sem]) rfl ⟨⟨a, q, rfl, HE.out⟩, HB6.out⟩
  · have hb5 := ball (Below.refl W1.heap.size W1) (.cells #[.int .i64 0, .int .i64 0, .int .i64 0, .int .i64 0, .int .i64 0] 58)
    have p5 := AtL.new0 W1 58 [.int .i64 0, .int .i64 0, .int .i64 0, .int .i64 0, .int .i64 0]
    have HB5 : Hid (Below w.heap.size w (W1.alloc (.cells #[.int .i64 0, .int .i64 0, .int .i64 0, .int .i64 0, .int .i64 0] 58)) ∧ w.heap.size ≤ W1.heap.size ∧ qb ≠ W1.heap.size ∧ eb ≠ W1.heap.size) := ⟨ball HB1.out _, HB1.out.size, by have := HNQ.out; have := HB1.out.size; omega, by have := cell_lt t3.1; omega⟩
    have HQ5 : Hid (QQ (W1.alloc (.cells #[.int .i64 0, .int .i64 0, .int .i64 0, .int .i64 0, .int .i64 0] 58)) qb hb mb B rv l F av n cap A) := HQ1.out.below hb5
    go_simp
    refine hK.out _ _ ⟨cell_below hb5 c0, three_below hb5 t3⟩ (fun hHeld => ?_)
    replace c0 := cell_below hb5 c0
    replace t3 := three_below hb5 t3
    clear hK K hb5 HB1 HQ1
    try simp only [Act.put, List.setIfInBounds_toArray, List.set_cons_zero, List.set_cons_succ]
    generalize W1.alloc (.cells #[.int .i64 0, .int .i64 0, .int .i64 0, .int .i64 0, .int .i64 0] 58) = W3 at *
    generalize hp6 : W1.heap.size = p6 at *
    clear hp6
    refine wpAnyH_ready (rs := [5]) (by kernel_rfl) (by simp) ?_
    refine AllReadyH.cons (o := { dst := Option.some 14, op := Op.call { callee := Callee.value (Operand.func 40), args := #[Operand.tmp 12, Operand.tmp 13], argTypes := #[55, 33] }, type := 70, pos := "queue.go:45", after := #[{ on := 3, ground := Ground.data }, { on := 4, ground := Ground.data }], guard := Option.none }) rfl (fun K hK => ?_) AllReadyH.nil
    go_simp
    refine (of_any hb mb B rv l F x W3 HQ5.out.h.q HQ5.out.h.f).mono ?_
    rintro en W5 ⟨⟨a, q, rfl, ht, hf⟩, hb4⟩
    have HE : Hid ((q = true → a ∈ l ∧ clW a = x) ∧ (q = false → a = zeW ∧ ∀ b ∈ l, clW b ≠ x)) := ⟨ht, hf⟩
    have HB5 : Hid (Below w.heap.size w W5 ∧ w.heap.size ≤ p6 ∧ qb ≠ p6 ∧ eb ≠ p6) := ⟨below_end HB5.out.1 hb4, HB5.out.2⟩
    replace c0 := cell_below hb4 c0
    replace t3 := three_below hb4 t3
    replace p5 := AtL.below hb4 p5
    clear ht hf hb4 HQ5
    go_wp2_with fail
    refine hK.out _ _ ⟨c0, t3⟩ (fun hHeld => ?_)
    clear hK K
    try simp only [Act.put, List.setIfInBounds_toArray, List.set_cons_zero, List.set_cons_succ]
    refine wpAnyH_take (i := 6) (oi := { dst := Option.some 8, op := Op.move (Operand.tmp 14), type := 70, pos := "queue.go:45", after := #[{ on := 5, ground := Ground.data }], guard := Option.none }) (v := ?_) rfl (by kernel_rfl) (by kernel_rfl) (by kernel_rfl) (fun _ _ _ h => h) (Or.inl ⟨by rfl, ?_⟩) (by assumption) ?_
    rotate_left
    · intro w hSw
      (try dsimp only at hSw)
      go_simp
      try with_reducible rfl
    try simp only [Act.put, List.setIfInBounds_toArray, List.set_cons_zero, List.set_cons_succ]
    refine wpAnyH_take (i := 7) (oi := { dst := Option.some 15, op := Op.extract (Operand.tmp 8) 0, type := 58, pos := "queue.go:45", after := #[{ on := 6, ground := Ground.data }], guard := Option.none }) (v := ?_) rfl (by kernel_rfl) (by kernel_rfl) (by kernel_rfl) (fun _ _ _ h => h) (Or.inl ⟨by rfl, ?_⟩) (by assumption) ?_
    rotate_left
    · intro w hSw
      (try dsimp only at hSw)
      go_simp
      try with_reducible rfl
    try simp only [Act.put, List.setIfInBounds_toArray, List.set_cons_zero, List.set_cons_succ]
    refine wpAnyH_take (i := 8) (oi := { dst := Option.some 16, op := Op.extract (Operand.tmp 8) 1, type := 4, pos := "queue.go:45", after := #[{ on := 6, ground := Ground.data }, { on := 10, ground := Ground.gcOnly Departure.lateStores }], guard := Option.none }) (v := ?_) rfl (by kernel_rfl) (by kernel_rfl) (by kernel_rfl) (fun _ _ _ h => h) (Or.inl ⟨by rfl, ?_⟩) (by assumption) ?_
    rotate_left
    · intro w hSw
      (try dsimp only at hSw)
      go_simp
      try with_reducible rfl
    try simp only [Act.put, List.setIfInBounds_toArray, List.set_cons_zero, List.set_cons_succ]
    refine wpAnyH_ready (rs := [10]) (by kernel_rfl) (by simp) ?_
    refine AllReadyH.cons (o := { dst := Option.none, op := Op.store 58 (Operand.tmp 6) (Operand.tmp 15), type := 0, pos := "queue.go:45", after := #[{ on := 9, ground := Ground.data }, { on := 7, ground := Ground.data }, { on := 5, ground := Ground.chain }, { on := 0, ground := Ground.phase }, { on := 1, ground := Ground.phase }, { on := 2, ground := Ground.phase }, { on := 3, ground := Ground.phase }, { on := 4, ground := Ground.phase }, { on := 5, ground := Ground.phase }, { on := 6, ground := Ground.phase }, { on := 7, ground := Ground.phase }, { on := 8, ground := Ground.textOnly Departure.lateStores }, { on := 9, ground := Ground.phase }], guard := Option.none }) rfl (fun K hK => ?_) AllReadyH.nil
    refine wp_store_mid 58 (.tmp 6) (.tmp 15) rfl p6 0 (wrV a).toArray rfl rfl p5.there (by kernel_rfl) (oneW a) ?_
    have q6 : AtL (W5.setCells p6 0 (wrV a)) p6 (wrV a) := p5.setAll rfl
    have HB6 : Hid (Below w.heap.size w (W5.setCells p6 0 (wrV a))) := bset HB5.out.1 HB5.out.2.1 _ _
    have fr6 := setCells_fr W5 p6 (wrV a) 0
    have hS : (W5.setCells p6 0 (wrV a)).cell? ⟨qb, 0, none⟩ = some (.pointer (some ⟨hb, 0, none⟩)) ∧ Three (W5.setCells p6 0 (wrV a)) eb (.int .i64 x.s) (.int .i64 x.r) (.int .i64 x.c) := ⟨fr6.cell c0 (by simp; exact HB5.out.2.2.1), fr6.cell t3.1 (by simp; exact HB5.out.2.2.2), fr6.cell t3.2.1 (by simp; exact HB5.out.2.2.2), fr6.cell t3.2.2 (by simp; exact HB5.out.2.2.2)⟩
    refine hK.out _ _ hS (fun hHeld => ?_)
    clear hK K p5 HB5 fr6 c0 t3
    try simp only [Act.put]
    generalize W5.setCells p6 0 (wrV a) = W6 at *
    refine wpAnyH_ready (rs := [11]) (by kernel_rfl) (by simp) ?_
    refine AllReadyH.cons (o := { dst := Option.some 7, op := Op.assign (Operand.tmp 16), type := 4, pos := "queue.go:45", after := #[{ on := 8, ground := Ground.data }, { on := 10, ground := Ground.chain }, { on := 0, ground := Ground.phase }, { on := 1, ground := Ground.phase }, { on := 2, ground := Ground.phase }, { on := 3, ground := Ground.phase }, { on := 4, ground := Ground.phase }, { on := 5, ground := Ground.phase }, { on := 6, ground := Ground.phase }, { on := 7, ground := Ground.phase }, { on := 8, ground := Ground.phase }, { on := 9, ground := Ground.phase }, { on := 10, ground := Ground.phase }], guard := Option.none }) rfl (fun K hK => ?_) AllReadyH.nil
    go_simp
    refine hK.out _ _ hS (fun hHeld => ?_)
    clear hK K hS
    try simp only [Act.put, List.setIfInBounds_toArray, List.set_cons_zero, List.set_cons_succ]
    refine wpAnyH_done (by kernel_rfl) ?_ _
    obtain ⟨d0, d1, d2, d3, d4, _⟩ := AtL.five q6
    clear hHeld
    go_wp2
    refine bodyPost_ret (v := .tuple #[.int .i64 a.lv, .bool q]) (by simp [results, Try.results22, go_sem]) rfl ⟨⟨a, q, rfl, HE.out⟩, HB6.out⟩

end Go.Proofs.Ytpbjmhcpaeillaa
