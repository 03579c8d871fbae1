/- Queues: the entry of a cell. -/

import Derived.Test.YtpbjmhcpaeillaaQRead
namespace Go.Proofs.Ytpbjmhcpaeillaa
open Go.RowKit
set_option linter.unusedVariables false

/-- What of answers. -/
def OfP (w : World) (l : List Wq.Wr) (x : Wpl.Cl) (en : Ending) (w' : World) : Prop := (∃ (a : Wq.Wr) (q : Bool), en = .returned (.tuple #[.agg (wrV a).toArray, .bool q]) ∧ (q = true → a ∈ l ∧ clW a = x) ∧ (q = false → a = zeW ∧ ∀ b ∈ l, clW b ≠ x)) ∧ Below w.heap.size w w'
set_option maxRecDepth 100000 in
set_option maxHeartbeats 4000000 in
theorem of_any (hb mb B : Nat) (rv : Value) (l : List Wq.Wr) (F : List (Wpl.Cl × Int)) (x : Wpl.Cl) (w : World) (h : HQ w hb mb B rv l F) (hf : WF l F) :
    Calls Try.prog 40 #[.pointer (some ⟨hb, 0, none⟩), .agg #[.int .i64 x.s, .int .i64 x.r, .int .i64 x.c]] w (OfP w l x) := by
  obtain ⟨ra, rc, erv, _, hr⟩ := own_open h.own
  obtain ⟨n, hn⟩ : ∃ n, l.length = n := ⟨_, rfl⟩
  rw [hn] at erv
  subst erv
  have HRA : Hid (0 < n → ∃ g, ra = some ⟨g, 0, none⟩) := fun z => by
    obtain ⟨g, e, _⟩ := hr (by omega)
    exact ⟨g, e⟩
  have HNN : Hid (l.length = n) := hn
  have HF : Hid (WF l F) := hf
  have hb0 := ball (ball (Below.refl _ w) (.cells #[.int .i64 x.s, .int .i64 x.r, .int .i64 x.c] 33)) (.cells #[.int .i64 0, .int .i64 0, .int .i64 0, .int .i64 0, .int .i64 0] 58)
  have t3 := AtL.f3 ((AtL.new0 w 33 [.int .i64 x.s, .int .i64 x.r, .int .i64 x.c]).alloc (.cells #[.int .i64 0, .int .i64 0, .int .i64 0, .int .i64 0, .int .i64 0] 58))
  have p := AtL.new1 w (.cells #[.int .i64 x.s, .int .i64 x.r, .int .i64 x.c] 33) 58 [.int .i64 0, .int .i64 0, .int .i64 0, .int .i64 0, .int .i64 0]
  have HQ0 : Hid (HQ ((w.alloc (.cells #[.int .i64 x.s, .int .i64 x.r, .int .i64 x.c] 33)).alloc (.cells #[.int .i64 0, .int .i64 0, .int .i64 0, .int .i64 0, .int .i64 0] 58)) hb mb B (.slice ra n rc) l F) := h.below hb0
  have HB0 : Hid (Below w.heap.size w ((w.alloc (.cells #[.int .i64 x.s, .int .i64 x.r, .int .i64 x.c] 33)).alloc (.cells #[.int .i64 0, .int .i64 0, .int .i64 0, .int .i64 0, .int .i64 0] 58))) := hb0
  obtain ⟨_, c1, _, _⟩ := HQ0.out.hd.two
  obtain ⟨I, hI⟩ : ∃ I, gtI x F = I := ⟨_, rfl⟩
  obtain ⟨q, hq⟩ : ∃ q, gtB x F = q := ⟨_, rfl⟩
  have HGI : Hid (gtI x F = I) := hI
  have HGB : Hid (gtB x F = q) := hq
  clear h hf hr hn hI hq hb0
  go_enter Try.func40, Try.ntmps40
  go_upto_region 1 with fail
  generalize (w.alloc (.cells #[.int .i64 x.s, .int .i64 x.r, .int .i64 x.c] 33)).alloc (.cells #[.int .i64 0, .int .i64 0, .int .i64 0, .int .i64 0, .int .i64 0] 58) = W0 at *
  have HPB : Hid (w.heap.size ≤ w.heap.size + 1) := Nat.le_succ _
  obtain ⟨pb, hpb⟩ : ∃ k, w.heap.size + 1 = k := ⟨_, rfl⟩
  obtain ⟨cb, hcb⟩ : ∃ k, w.heap.size = k := ⟨_, rfl⟩
  have p : AtL W0 pb [.int .i64 0, .int .i64 0, .int .i64 0, .int .i64 0, .int .i64 0] := by rw [← hpb]; exact p
  have HPB : Hid (w.heap.size ≤ pb) := by rw [← hpb]; exact HPB.out
  have t3 : Three W0 cb (.int .i64 x.s) (.int .i64 x.r) (.int .i64 x.c) := by rw [← hcb]; exact t3
  rw [hpb, hcb]
  clear hpb hcb
  have hb1 := (Below.refl W0.heap.size W0).drew
  refine wp_region_held_drew (S := fun W => W.cell? ⟨hb, 1, none⟩ = some (.map (some mb)) ∧ Three W cb (.int .i64 x.s) (.int .i64 x.r) (.int .i64 x.c)) (by kernel_rfl) ⟨cell_below hb1 c1, three_below hb1 t3⟩ (fun hHeld => ?_)
  have HQ1 : Hid (HQ W0.drew hb mb B (.slice ra n rc) l F) := HQ0.out.below hb1
  have HB1 : Hid (Below w.heap.size w W0.drew) := below_end HB0.out hb1
  replace t3 := three_below hb1 t3
  replace p := AtL.below hb1 p
  clear hb1 c1 HQ0 HB0
  generalize W0.drew = W1 at *
  obtain ⟨c0, c1, _, _⟩ := HQ1.out.hd.two
  refine wpAnyH_take (i := 0) (oi := { dst := Option.some 8, op := Op.move (Operand.tmp 0), type := 55, pos := "heap.go:49", after := #[], guard := Option.none }) (v := ?_) rfl (by kernel_rfl) (by kernel_rfl) (by kernel_rfl) (fun _ _ _ h => h) (Or.inl ⟨by rfl, ?_⟩) (by assumption) ?_
  rotate_left
  · intro w hSw
    (try dsimp only at hSw)
    go_simp
    try with_reducible rfl
  try simp only [Act.put, List.setIfInBounds_toArray, List.set_cons_zero, List.set_cons_succ]
  refine wpAnyH_take (i := 1) (oi := { dst := Option.some 9, op := Op.nilCheck (Operand.tmp 8), type := 0, pos := "heap.go:49", after := #[{ on := 0, ground := Ground.data }], guard := Option.none }) (v := ?_) rfl (by kernel_rfl) (by kernel_rfl) (by kernel_rfl) (fun _ _ _ h => h) (Or.inl ⟨by rfl, ?_⟩) (by assumption) ?_
  rotate_left
  · intro w hSw
    (try dsimp only at hSw)
    go_simp
    try with_reducible rfl
  try simp only [Act.put, List.setIfInBounds_toArray, List.set_cons_zero, List.set_cons_succ]
  refine wpAnyH_take (i := 2) (oi := { dst := Option.some 10, op := Op.fieldAddr 76 (Operand.tmp 9) 1, type := 0, pos := "heap.go:49", after := #[{ on := 1, ground := Ground.data }], guard := Option.none }) (v := ?_) rfl (by kernel_rfl) (by kernel_rfl) (by kernel_rfl) (fun _ _ _ h => h) (Or.inl ⟨by rfl, ?_⟩) (by assumption) ?_
  rotate_left
  · intro w hSw
    (try dsimp only at hSw)
    go_simp
    try with_reducible rfl
  try simp only [Act.put, List.setIfInBounds_toArray, List.set_cons_zero, List.set_cons_succ]
  refine wpAnyH_take (i := 3) (oi := { dst := Option.some 11, op := Op.load 74 (Operand.tmp 10), type := 74, pos := "heap.go:49", after := #[{ on := 2, ground := Ground.data }], guard := Option.none }) (v := ?_) rfl (by kernel_rfl) (by kernel_rfl) (by kernel_rfl) (fun _ _ _ h => h) (Or.inl ⟨by rfl, ?_⟩) (by assumption) ?_
  rotate_left
  · intro w hSw
    (try dsimp only at hSw)
    go_simp
    try with_reducible rfl
  try simp only [Act.put, List.setIfInBounds_toArray, List.set_cons_zero, List.set_cons_succ]
  refine wpAnyH_take (i := 4) (oi := { dst := Option.some 12, op := Op.load 33 (Operand.tmp 3), type := 33, pos := "heap.go:49", after := #[], guard := Option.none }) (v := ?_) rfl (by kernel_rfl) (by kernel_rfl) (by kernel_rfl) (fun _ _ _ h => h) (Or.inl ⟨by rfl, ?_⟩) (by assumption) ?_
  rotate_left
  · intro w hSw
    (try dsimp only at hSw)
    go_simp
    try with_reducible rfl
  try simp only [Act.put, List.setIfInBounds_toArray, List.set_cons_zero, List.set_cons_succ]
  refine wpAnyH_ready (rs := [5]) (by kernel_rfl) (by simp) ?_
  refine AllReadyH.cons (o := { dst := Option.some 13, op := Op.lookup 74 (Operand.tmp 11) (Operand.tmp 12) Bool.true, type := 49, pos := "heap.go:49", after := #[{ on := 3, ground := Ground.data }, { on := 4, ground := Ground.data }], guard := Option.none }) rfl (fun K hK => ?_) AllReadyH.nil
  have hlk := lookC HQ1.out.mp x
  rw [HGI.out, HGB.out] at hlk
  go_simp
  refine hK.out _ _ ⟨c1, t3⟩ (fun hHeld => ?_)
  clear hK K hlk
  try simp only [Act.put, List.setIfInBounds_toArray, List.set_cons_zero, List.set_cons_succ]
  refine wpAnyH_take (i := 6) (oi := { dst := Option.some 7, op := Op.move (Operand.tmp 13), type := 49, pos := "heap.go:49", after := #[{ on := 5, ground := Ground.data }], guard := Option.none }) (v := ?_) rfl (by kernel_rfl) (by kernel_rfl) (by kernel_rfl) (fun _ _ _ h => h) (Or.inl ⟨by rfl, ?_⟩) (by assumption) ?_
  rotate_left
  · intro w hSw
    (try dsimp only at hSw)
    go_simp
    try with_reducible rfl
  try simp only [Act.put, List.setIfInBounds_toArray, List.set_cons_zero, List.set_cons_succ]
  refine wpAnyH_take (i := 7) (oi := { dst := Option.some 14, op := Op.extract (Operand.tmp 7) 0, type := 3, pos := "heap.go:49", after := #[{ on := 6, ground := Ground.data }], guard := Option.none }) (v := ?_) rfl (by kernel_rfl) (by kernel_rfl) (by kernel_rfl) (fun _ _ _ h => h) (Or.inl ⟨by rfl, ?_⟩) (by assumption) ?_
  rotate_left
  · intro w hSw
    (try dsimp only at hSw)
    go_simp
    try with_reducible rfl
  try simp only [Act.put, List.setIfInBounds_toArray, List.set_cons_zero, List.set_cons_succ]
  refine wpAnyH_take (i := 8) (oi := { dst := Option.some 15, op := Op.extract (Operand.tmp 7) 1, type := 4, pos := "heap.go:49", after := #[{ on := 6, ground := Ground.data }, { on := 9, ground := Ground.gcOnly Departure.lateStores }], guard := Option.none }) (v := ?_) rfl (by kernel_rfl) (by kernel_rfl) (by kernel_rfl) (fun _ _ _ h => h) (Or.inl ⟨by rfl, ?_⟩) (by assumption) ?_
  rotate_left
  · intro w hSw
    (try dsimp only at hSw)
    go_simp
    try with_reducible rfl
  try simp only [Act.put, List.setIfInBounds_toArray, List.set_cons_zero, List.set_cons_succ]
  refine wpAnyH_ready (rs := [9]) (by kernel_rfl) (by simp) ?_
  refine AllReadyH.cons (o := { dst := Option.some 6, op := Op.assign (Operand.tmp 14), type := 3, pos := "heap.go:49", after := #[{ on := 7, ground := Ground.data }, { on := 0, ground := Ground.phase }, { on := 1, ground := Ground.phase }, { on := 2, ground := Ground.phase }, { on := 3, ground := Ground.phase }, { on := 4, ground := Ground.phase }, { on := 5, ground := Ground.phase }, { on := 6, ground := Ground.phase }, { on := 7, ground := Ground.phase }, { on := 8, ground := Ground.textOnly Departure.lateStores }], guard := Option.none }) rfl (fun K hK => ?_) AllReadyH.nil
  go_simp
  refine hK.out _ _ ⟨c1, t3⟩ (fun hHeld => ?_)
  clear hK K
  try simp only [Act.put, List.setIfInBounds_toArray, List.set_cons_zero, List.set_cons_succ]
  refine wpAnyH_ready (rs := [10]) (by kernel_rfl) (by simp) ?_
  refine AllReadyH.cons (o := { dst := Option.some 5, op := Op.assign (Operand.tmp 15), type := 4, pos := "heap.go:49", after := #[{ on := 8, ground := Ground.data }, { on := 9, ground := Ground.chain }, { on := 0, ground := Ground.phase }, { on := 1, ground := Ground.phase }, { on := 2, ground := Ground.phase }, { on := 3, ground := Ground.phase }, { on := 4, ground := Ground.phase }, { on := 5, ground := Ground.phase }, { on := 6, ground := Ground.phase }, { on := 7, ground := Ground.phase }, { on := 8, ground := Ground.phase }, { on := 9, ground := Ground.phase }], guard := Option.none }) rfl (fun K hK => ?_) AllReadyH.nil
  go_simp
  refine hK.out _ _ ⟨c1, t3⟩ (fun hHeld => ?_)
  clear hK K
  try simp only [Act.put, List.setIfInBounds_toArray, List.set_cons_zero, List.set_cons_succ]
  refine wpAnyH_done (by kernel_rfl) ?_ _
  clear hHeld

  cases q with
  | true =>
    obtain ⟨i, a, hgi, ha, hae⟩ := HF.out.hit (by rw [HGB.out])
    have hIi : I = (i : Int) := by rw [← HGI.out]; exact hgi
    subst hIi
    have hil : i < n := by rw [← HNN.out]; exact (List.getElem?_eq_some_iff.1 ha).1
    have hii : (i : Int) < (n : Int) := by omega
    have hiz : (0 : Int) ≤ (i : Int) := by omega
    obtain ⟨g, eg⟩ := HRA.out (by omega)
    subst eg
    have HA : Hid (l[i]? = some a ∧ clW a = x) := ⟨ha, hae⟩
    obtain ⟨⟨a0, a1⟩, ⟨a2, a3⟩, a4⟩ := HQ1.out.row HNN.out hil ha
    have hth : W1.there pb 0 5 := p.there
    have pS : AtL (W1.setCells pb 0 (wrV a)) pb (wrV a) := p.setAll rfl
    have HB2 : Hid (Below w.heap.size w (W1.setCells pb 0 (wrV a))) := bset HB1.out HPB.out _ _
    clear hgi ha hae HQ1 HB1 c1 t3 p
    go_upto_region 4 with ((with_reducible refine wpList_store_mid ?_ 58 (.tmp 4) (.tmp 23) ?_ pb 0 (wrV a).toArray ?_ ?_ ?_ ?_ ?_ ?_); rfl; rfl; rfl; rfl; exact hth; kernel_rfl; exact oneW a)
    clear a0 a1 a2 a3 a4 hth c0
    generalize W1.setCells pb 0 (wrV a) = W2 at *
    obtain ⟨d0, d1, d2, d3, d4, _⟩ := AtL.five pS
    have hth : W2.there pb 0 5 := pS.there
    have pT : AtL (W2.setCells pb 0 (wrV a)) pb (wrV a) := pS.setAll rfl
    have HB3 : Hid (Below w.heap.size w (W2.setCells pb 0 (wrV a))) := bset HB2.out HPB.out _ _
    clear pS HB2
    go_wp2_with ((with_reducible refine wpList_store_mid ?_ 58 (.tmp 4) (.tmp 24) ?_ pb 0 (wrV a).toArray ?_ ?_ ?_ ?_ ?_ ?_); rfl; rfl; rfl; rfl; exact hth; kernel_rfl; exact oneW a)
    clear d0 d1 d2 d3 d4 hth
    generalize W2.setCells pb 0 (wrV a) = W3 at *
    obtain ⟨d0, d1, d2, d3, d4, _⟩ := AtL.five pT
    refine bodyPost_ret (v := .tuple #[.agg #[.int .i64 a.s, .int .i64 a.r, .int .i64 a.c, .int .i64 a.ln, .int .i64 a.lv], .bool true]) (by simp [results, Try.results40, go_sem, d0, d1, d2, d3, d4]) rfl ⟨⟨a, true, rfl, fun _ => ⟨List.mem_of_getElem? HA.out.1, HA.out.2⟩, fun z => by cases z⟩, HB3.out⟩

  | false =>
    have HM : Hid (∀ a ∈ l, clW a ≠ x) := (HF.out.miss (by rw [HGB.out])).2
    have hth : W1.there pb 0 5 := p.there
    have pT : AtL (W1.setCells pb 0 (wrV zeW)) pb (wrV zeW) := p.setAll rfl
    have HB3 : Hid (Below w.heap.size w (W1.setCells pb 0 (wrV zeW))) := bset HB1.out HPB.out _ _
    obtain ⟨d0, d1, d2, d3, d4, _⟩ := AtL.five p
    clear HQ1 HB1 c0 c1 t3 p
    go_wp2_with ((with_reducible refine wpList_store_mid ?_ 58 (.tmp 4) (.tmp 24) ?_ pb 0 (wrV zeW).toArray ?_ ?_ ?_ ?_ ?_ ?_); rfl; rfl; rfl; rfl; exact hth; kernel_rfl; exact oneW zeW)
    clear d0 d1 d2 d3 d4 hth
    generalize W1.setCells pb 0 (wrV zeW) = W3 at *
    obtain ⟨d0, d1, d2, d3, d4, _⟩ := AtL.five pT
    refine bodyPost_ret (v := .tuple #[.agg #[.int .i64 0, .int .i64 0, .int .i64 0, .int .i64 0, .int .i64 0], .bool false]) (by simp [results, Try.results40, go_sem, d0, d1, d2, d3, d4]) rfl ⟨⟨zeW, false, rfl, fun z => (by cases z), fun _ => ⟨rfl, HM.out⟩⟩, HB3.out⟩

end Go.Proofs.Ytpbjmhcpaeillaa
