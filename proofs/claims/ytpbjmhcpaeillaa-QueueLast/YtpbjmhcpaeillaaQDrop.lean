/- Queues: an entry is dropped. -/

import Derived.Test.YtpbjmhcpaeillaaQDel
namespace Go.Proofs.Ytpbjmhcpaeillaa
open Go.RowKit
set_option linter.unusedVariables false

theorem three_fr {S : List Nat} {W W' : World} (hf : Fr S W W') {k : Nat} (hn : k ∉ S) {a b c : Value} (h : Three W k a b c) : Three W' k a b c := by
  obtain ⟨h0, h1, h2⟩ := h
  exact ⟨hf.cell h0 hn, hf.cell h1 hn, hf.cell h2 hn⟩
theorem heap_less {l : List Wq.Wr} {b : Wq.Wr} (h : Wq.Heap Wq.ltW (l ++ [b]).length 0 (fnW (l ++ [b]))) : Wq.Heap Wq.ltW l.length 0 (fnW l) := fun j h0 hj hlo => by
  have h1 := h j h0 (by rw [List.length_append]; omega) hlo
  have hp := Wq.par_lt h0
  have e : ∀ k, k < l.length → fnW (l ++ [b]) k = fnW l k := fun k hk => by unfold fnW; rw [List.getElem?_append_left hk]
  rw [e j hj, e _ (by omega)] at h1
  exact h1
theorem WF.last {l : List Wq.Wr} {b : Wq.Wr} {F : List (Wpl.Cl × Int)} (h : WF (l ++ [b]) F) {x : Wpl.Cl} (hx : clW b = x) : WF l (delF x F) := by
  obtain ⟨k1, m1⟩ := h.1.del x
  have hb : (l ++ [b])[l.length]? = some b := by simp
  refine ⟨k1, fun y v => ?_⟩
  rw [m1]
  constructor
  · rintro ⟨n1, hm⟩
    obtain ⟨j, rfl, a, ha, rfl⟩ := (h.2 y v).1 hm
    have hj : j < l.length := by
      have := (List.getElem?_eq_some_iff.1 ha).1
      rw [List.length_append] at this
      simp at this
      rcases Nat.lt_or_ge j l.length with q | q
      · exact q
      · have e : j = l.length := by omega
        subst e
        rw [hb] at ha
        cases ha
        exact absurd hx n1
    exact ⟨j, rfl, a, by rw [List.getElem?_append_left hj] at ha; exact ha, rfl⟩
  · rintro ⟨j, rfl, a, ha, rfl⟩
    have hj := (List.getElem?_eq_some_iff.1 ha).1
    have ha' : (l ++ [b])[j]? = some a := by rw [List.getElem?_append_left hj]; exact ha
    exact ⟨fun e => by
      have := h.one ha' hb (e.trans hx.symm)
      omega, (h.2 _ _).2 ⟨j, rfl, a, ha', rfl⟩⟩
theorem WF.fill {l : List Wq.Wr} {b a : Wq.Wr} {F : List (Wpl.Cl × Int)} (h : WF (l ++ [b]) F) {x : Wpl.Cl} {i : Nat} (ha : (l ++ [b])[i]? = some a) (hx : clW a = x) (hi : i < l.length) : WF (l.set i b) (putF (clW b) (i : Int) (delF x F)) := by
  obtain ⟨k1, m1⟩ := h.1.del x
  obtain ⟨k2, m2⟩ := k1.put (clW b) (i : Int)
  have hb : (l ++ [b])[l.length]? = some b := by simp
  refine ⟨k2, fun y v => ?_⟩
  rw [m2, m1]
  constructor
  · rintro (⟨rfl, rfl⟩ | ⟨n1, n2, hm⟩)
    · exact ⟨i, rfl, b, by rw [List.getElem?_set_self hi], rfl⟩
    · obtain ⟨j, rfl, c, hc, rfl⟩ := (h.2 y v).1 hm
      have hji : i ≠ j := fun e => by subst e; rw [ha] at hc; cases hc; exact n2 hx
      have hj : j < l.length := by
        have := (List.getElem?_eq_some_iff.1 hc).1
        rw [List.length_append] at this
        simp at this
        rcases Nat.lt_or_ge j l.length with q | q
        · exact q
        · have e : j = l.length := by omega
          subst e
          rw [hb] at hc
          cases hc
          exact absurd rfl n1
      exact ⟨j, rfl, c, by rw [List.getElem?_set_ne hji]; rw [List.getElem?_append_left hj] at hc; exact hc, rfl⟩
  · rintro ⟨j, rfl, c, hc, rfl⟩
    by_cases e : i = j
    · subst e
      rw [List.getElem?_set_self hi] at hc
      cases hc
      exact Or.inl ⟨rfl, rfl⟩
    · rw [List.getElem?_set_ne e] at hc
      have hj := (List.getElem?_eq_some_iff.1 hc).1
      have hc' : (l ++ [b])[j]? = some c := by rw [List.getElem?_append_left hj]; exact hc
      refine Or.inr ⟨fun z => ?_, fun z => ?_, (h.2 _ _).2 ⟨j, rfl, c, hc', rfl⟩⟩
      · have := h.one hc' hb z
        omega
      · exact e (h.one ha hc' (hx.trans z.symm))
theorem fill_perm {l : List Wq.Wr} {b : Wq.Wr} {i : Nat} (hi : i < l.length) : (l.set i b).Perm ((l ++ [b]).eraseIdx i) := by
  refine (set_perm hi b).trans ?_
  rw [List.eraseIdx_append_of_lt_length hi]
  exact (List.perm_append_singleton _ _).symm
theorem last_off {l : List Wq.Wr} {b : Wq.Wr} : (l ++ [b]).eraseIdx l.length = l := by
  rw [List.eraseIdx_append_of_length_le (Nat.le_refl _), Nat.sub_self]
  simp
/-- What drop answers. -/
def DropP (w : World) (hb mb B : Nat) (rv : Value) (l : List Wq.Wr) (x : Wpl.Cl) (en : Ending) (w' : World) : Prop := ∃ (q : Bool) (rv' : Value) (l' : List Wq.Wr) (F' : List (Wpl.Cl × Int)), en = .returned (.bool q) ∧ (q = true → ∃ a ∈ l, clW a = x) ∧ (q = false → ∀ a ∈ l, clW a ≠ x) ∧ QH w' hb mb B rv' l' F' ∧ l'.Perm (offW x l) ∧ Fr (hb :: mb :: rv.ownBlock.toList) w w' ∧ (rv'.ownBlock = rv.ownBlock ∨ ∀ g, rv'.ownBlock = some g → w.heap.size ≤ g)
set_option maxRecDepth 100000 in
set_option maxHeartbeats 8000000 in
theorem drop_any (hb mb B : Nat) (rv : Value) (l : List Wq.Wr) (F : List (Wpl.Cl × Int)) (x : Wpl.Cl) (w : World) (h : QH w hb mb B rv l F) (hN : True → l.length ≤ 1000000000) :
    Calls Try.prog 30 #[.pointer (some ⟨hb, 0, none⟩), .agg #[.int .i64 x.s, .int .i64 x.r, .int .i64 x.c]] w (DropP w hb mb B rv l x) := by
  obtain ⟨ra, rc, erv, _, hr⟩ := own_open h.q.own
  obtain ⟨n, hn⟩ : ∃ n, l.length = n := ⟨_, rfl⟩
  rw [hn] at erv
  subst erv
  have HRA : Hid (0 < n → ∃ g, ra = some ⟨g, 0, none⟩) := fun z => by
    obtain ⟨g, e, _⟩ := hr (by omega)
    exact ⟨g, e⟩
  have HNN : Hid (l.length = n ∧ (True → n ≤ 1000000000)) := ⟨hn, fun _ => by have := hN trivial; omega⟩
  have HF : Hid (WF l F ∧ Wq.Heap Wq.ltW l.length 0 (fnW l)) := ⟨h.f, h.o⟩
  have hb0 := ball (Below.refl _ w) (.cells #[.int .i64 x.s, .int .i64 x.r, .int .i64 x.c] 33)
  have t3 := AtL.f3 (AtL.new0 w 33 [.int .i64 x.s, .int .i64 x.r, .int .i64 x.c])
  have HQ0 : Hid (HQ (w.alloc (.cells #[.int .i64 x.s, .int .i64 x.r, .int .i64 x.c] 33)) hb mb B (.slice ra n rc) l F) := h.q.below hb0
  have HB0 : Hid (Below w.heap.size w (w.alloc (.cells #[.int .i64 x.s, .int .i64 x.r, .int .i64 x.c] 33))) := hb0
  have HCB : Hid (w.heap.size ≠ hb ∧ w.heap.size ≠ mb ∧ ∀ g, ra = some ⟨g, 0, none⟩ → w.heap.size ≠ g) := by
    have h1 := h.q.hd.1
    have h2 := h.q.mp.lt
    refine ⟨by omega, by omega, fun g e => ?_⟩
    have := (own_blk h.q.own (g := g) (by rw [e]; rfl)).2
    omega
  obtain ⟨_, c1, _, _⟩ := HQ0.out.hd.two
  obtain ⟨I, hI⟩ : ∃ I, gtI x F = I := ⟨_, rfl⟩
  obtain ⟨q, hq⟩ : ∃ q, gtB x F = q := ⟨_, rfl⟩
  have HGI : Hid (gtI x F = I) := hI
  have HGB : Hid (gtB x F = q) := hq
  clear h hN hr hn hI hq hb0
  go_enter Try.func30, Try.ntmps30
  go_upto_region 1 with fail
  generalize w.alloc (.cells #[.int .i64 x.s, .int .i64 x.r, .int .i64 x.c] 33) = W0 at *
  obtain ⟨cb, hcb⟩ : ∃ k, w.heap.size = k := ⟨_, rfl⟩
  have t3 : Three W0 cb (.int .i64 x.s) (.int .i64 x.r) (.int .i64 x.c) := by rw [← hcb]; exact t3
  have HCB : Hid (cb ≠ hb ∧ cb ≠ mb ∧ (∀ g, ra = some ⟨g, 0, none⟩ → cb ≠ g)) := by rw [← hcb]; exact HCB.out
  rw [hcb]
  clear hcb
  have hb1 := (Below.refl W0.heap.size W0).drew
  refine wp_region_held_drew (S := fun W => W.cell? ⟨hb, 1, none⟩ = some (.map (some mb)) ∧ Three W cb (.int .i64 x.s) (.int .i64 x.r) (.int .i64 x.c)) (by kernel_rfl) ⟨cell_below hb1 c1, three_below hb1 t3⟩ (fun hHeld => ?_)
  have HQ1 : Hid (HQ W0.drew hb mb B (.slice ra n rc) l F) := HQ0.out.below hb1
  have HB1 : Hid (Below w.heap.size w W0.drew) := below_end HB0.out hb1
  replace t3 := three_below hb1 t3
  clear hb1 c1 HQ0 HB0
  generalize W0.drew = W1 at *
  obtain ⟨c0, c1, _, _⟩ := HQ1.out.hd.two
  refine wpAnyH_take (i := 0) (oi := { dst := Option.some 10, op := Op.move (Operand.tmp 0), type := 55, pos := "heap.go:32", after := #[], guard := Option.none }) (v := ?_) rfl (by kernel_rfl) (by kernel_rfl) (by kernel_rfl) (fun _ _ _ h => h) (Or.inl ⟨by rfl, ?_⟩) (by assumption) ?_
  rotate_left
  · intro w hSw
    (try dsimp only at hSw)
    go_simp
    try with_reducible rfl
  try simp only [Act.put, List.setIfInBounds_toArray, List.set_cons_zero, List.set_cons_succ]
  refine wpAnyH_take (i := 1) (oi := { dst := Option.some 11, op := Op.nilCheck (Operand.tmp 10), type := 0, pos := "heap.go:32", after := #[{ on := 0, ground := Ground.data }], guard := Option.none }) (v := ?_) rfl (by kernel_rfl) (by kernel_rfl) (by kernel_rfl) (fun _ _ _ h => h) (Or.inl ⟨by rfl, ?_⟩) (by assumption) ?_
  rotate_left
  · intro w hSw
    (try dsimp only at hSw)
    go_simp
    try with_reducible rfl
  try simp only [Act.put, List.setIfInBounds_toArray, List.set_cons_zero, List.set_cons_succ]
  refine wpAnyH_take (i := 2) (oi := { dst := Option.some 12, op := Op.fieldAddr 76 (Operand.tmp 11) 1, type := 0, pos := "heap.go:32", after := #[{ on := 1, ground := Ground.data }], guard := Option.none }) (v := ?_) rfl (by kernel_rfl) (by kernel_rfl) (by kernel_rfl) (fun _ _ _ h => h) (Or.inl ⟨by rfl, ?_⟩) (by assumption) ?_
  rotate_left
  · intro w hSw
    (try dsimp only at hSw)
    go_simp
    try with_reducible rfl
  try simp only [Act.put, List.setIfInBounds_toArray, List.set_cons_zero, List.set_cons_succ]
  refine wpAnyH_take (i := 3) (oi := { dst := Option.some 13, op := Op.load 74 (Operand.tmp 12), type := 74, pos := "heap.go:32", after := #[{ on := 2, ground := Ground.data }], guard := Option.none }) (v := ?_) rfl (by kernel_rfl) (by kernel_rfl) (by kernel_rfl) (fun _ _ _ h => h) (Or.inl ⟨by rfl, ?_⟩) (by assumption) ?_
  rotate_left
  · intro w hSw
    (try dsimp only at hSw)
    go_simp
    try with_reducible rfl
  try simp only [Act.put, List.setIfInBounds_toArray, List.set_cons_zero, List.set_cons_succ]
  refine wpAnyH_take (i := 4) (oi := { dst := Option.some 14, op := Op.load 33 (Operand.tmp 3), type := 33, pos := "heap.go:32", after := #[], guard := Option.none }) (v := ?_) rfl (by kernel_rfl) (by kernel_rfl) (by kernel_rfl) (fun _ _ _ h => h) (Or.inl ⟨by rfl, ?_⟩) (by assumption) ?_
  rotate_left
  · intro w hSw
    (try dsimp only at hSw)
    go_simp
    try with_reducible rfl
  try simp only [Act.put, List.setIfInBounds_toArray, List.set_cons_zero, List.set_cons_succ]
  refine wpAnyH_ready (rs := [5]) (by kernel_rfl) (by simp) ?_
  refine AllReadyH.cons (o := { dst := Option.some 15, op := Op.lookup 74 (Operand.tmp 13) (Operand.tmp 14) Bool.true, type := 49, pos := "heap.go:32", after := #[{ on := 3, ground := Ground.data }, { on := 4, ground := Ground.data }], guard := Option.none }) rfl (fun K hK => ?_) AllReadyH.nil
  have hlk := lookC HQ1.out.mp x
  rw [HGI.out, HGB.out] at hlk
  go_simp
  refine hK.out _ _ ⟨c1, t3⟩ (fun hHeld => ?_)
  clear hK K hlk
  try simp only [Act.put, List.setIfInBounds_toArray, List.set_cons_zero, List.set_cons_succ]
  refine wpAnyH_take (i := 6) (oi := { dst := Option.some 9, op := Op.move (Operand.tmp 15), type := 49, pos := "heap.go:32", after := #[{ on := 5, ground := Ground.data }], guard := Option.none }) (v := ?_) rfl (by kernel_rfl) (by kernel_rfl) (by kernel_rfl) (fun _ _ _ h => h) (Or.inl ⟨by rfl, ?_⟩) (by assumption) ?_
  rotate_left
  · intro w hSw
    (try dsimp only at hSw)
    go_simp
    try with_reducible rfl
  try simp only [Act.put, List.setIfInBounds_toArray, List.set_cons_zero, List.set_cons_succ]
  refine wpAnyH_take (i := 7) (oi := { dst := Option.some 16, op := Op.extract (Operand.tmp 9) 0, type := 3, pos := "heap.go:32", after := #[{ on := 6, ground := Ground.data }], guard := Option.none }) (v := ?_) rfl (by kernel_rfl) (by kernel_rfl) (by kernel_rfl) (fun _ _ _ h => h) (Or.inl ⟨by rfl, ?_⟩) (by assumption) ?_
  rotate_left
  · intro w hSw
    (try dsimp only at hSw)
    go_simp
    try with_reducible rfl
  try simp only [Act.put, List.setIfInBounds_toArray, List.set_cons_zero, List.set_cons_succ]
  refine wpAnyH_take (i := 8) (oi := { dst := Option.some 17, op := Op.extract (Operand.tmp 9) 1, type := 4, pos := "heap.go:32", after := #[{ on := 6, ground := Ground.data }, { on := 9, ground := Ground.gcOnly Departure.lateStores }], guard := Option.none }) (v := ?_) rfl (by kernel_rfl) (by kernel_rfl) (by kernel_rfl) (fun _ _ _ h => h) (Or.inl ⟨by rfl, ?_⟩) (by assumption) ?_
  rotate_left
  · intro w hSw
    (try dsimp only at hSw)
    go_simp
    try with_reducible rfl
  try simp only [Act.put, List.setIfInBounds_toArray, List.set_cons_zero, List.set_cons_succ]
  refine wpAnyH_ready (rs := [9]) (by kernel_rfl) (by simp) ?_
  refine AllReadyH.cons (o := { dst := Option.some 5, op := Op.assign (Operand.tmp 16), type := 3, pos := "heap.go:32", after := #[{ on := 7, ground := Ground.data }, { on := 0, ground := Ground.phase }, { on := 1, ground := Ground.phase }, { on := 2, ground := Ground.phase }, { on := 3, ground := Ground.phase }, { on := 4, ground := Ground.phase }, { on := 5, ground := Ground.phase }, { on := 6, ground := Ground.phase }, { on := 7, ground := Ground.phase }, { on := 8, ground := Ground.textOnly Departure.lateStores }], guard := Option.none }) rfl (fun K hK => ?_) AllReadyH.nil
  go_simp
  refine hK.out _ _ ⟨c1, t3⟩ (fun hHeld => ?_)
  clear hK K
  try simp only [Act.put, List.setIfInBounds_toArray, List.set_cons_zero, List.set_cons_succ]
  refine wpAnyH_ready (rs := [10]) (by kernel_rfl) (by simp) ?_
  refine AllReadyH.cons (o := { dst := Option.some 6, op := Op.assign (Operand.tmp 17), type := 4, pos := "heap.go:32", after := #[{ on := 8, ground := Ground.data }, { on := 9, ground := Ground.chain }, { on := 0, ground := Ground.phase }, { on := 1, ground := Ground.phase }, { on := 2, ground := Ground.phase }, { on := 3, ground := Ground.phase }, { on := 4, ground := Ground.phase }, { on := 5, ground := Ground.phase }, { on := 6, ground := Ground.phase }, { on := 7, ground := Ground.phase }, { on := 8, ground := Ground.phase }, { on := 9, ground := Ground.phase }], guard := Option.none }) rfl (fun K hK => ?_) AllReadyH.nil
  go_simp
  refine hK.out _ _ ⟨c1, t3⟩ (fun hHeld => ?_)
  clear hK K
  try simp only [Act.put, List.setIfInBounds_toArray, List.set_cons_zero, List.set_cons_succ]
  refine wpAnyH_done (by kernel_rfl) ?_ _
  clear hHeld

  cases q with
  | false =>
    have HM : Hid (∀ a ∈ l, clW a ≠ x) := (HF.out.1.miss (by rw [HGB.out])).2
    go_wp2_with fail
    go_ret
    exact ⟨false, _, l, F, rfl, (fun z => by cases z), (fun _ => HM.out), ⟨HQ1.out, HF.out.1, HF.out.2⟩, (by rw [offW_none HM.out]), Fr.of_below _ HB1.out, Or.inl rfl⟩

  | true =>
    obtain ⟨i, a, hgi, ha, hae⟩ := HF.out.1.hit (by rw [HGB.out])
    have hIi : I = (i : Int) := by rw [← HGI.out]; exact hgi
    subst hIi
    obtain ⟨l0, b, hlb⟩ : ∃ l0 b, l = l0 ++ [b] := by
      exact ⟨l.dropLast, l.getLast (fun z => by rw [z] at ha; simp at ha), (List.dropLast_concat_getLast _).symm⟩
    subst hlb
    obtain ⟨m, hm⟩ : ∃ m, l0.length = m := ⟨_, rfl⟩
    have hnm : n = m + 1 := by rw [← HNN.out.1, List.length_append, hm]; rfl
    subst hnm
    have him : i ≤ m := by
      have := (List.getElem?_eq_some_iff.1 ha).1
      rw [List.length_append, hm] at this
      simp at this
      omega
    obtain ⟨g, eg⟩ := HRA.out (by omega)
    subst eg
    have HA : Hid ((l0 ++ [b])[i]? = some a ∧ clW a = x ∧ l0.length = m ∧ i ≤ m) := ⟨ha, hae, hm, him⟩
    have hlast : (l0 ++ [b])[m]? = some b := by rw [← hm]; simp
    have HB0 : Hid (a ∈ l0 ++ [b]) := List.mem_of_getElem? ha
    have mw : IntKind.i64.wrap (m : Int) = (m : Int) := by have := HNN.out.2 trivial; rw [IntKind.wrap_i64]; omega
    have mw3 : IntKind.i64.wrap ((m : Int) + 1) = (m : Int) + 1 := by have := HNN.out.2 trivial; rw [IntKind.wrap_i64]; omega
    have m0 : (0 : Int) ≤ (m : Int) := by omega
    have m1 : (m : Int) < (m : Int) + 1 := by omega
    clear hgi ha hae hm him
    go_upto_region 5 with fail
    obtain ⟨⟨b0, b1⟩, ⟨b2, b3⟩, b4⟩ := HQ1.out.row HNN.out.1 (i := m) (by omega) hlast
    have ba := ball (Below.refl W1.heap.size W1) (.cells #[.int .i64 0, .int .i64 0, .int .i64 0, .int .i64 0, .int .i64 0] 58)
    have p := AtL.new0 W1 58 [.int .i64 0, .int .i64 0, .int .i64 0, .int .i64 0, .int .i64 0]
    have hth : (W1.alloc (.cells #[.int .i64 0, .int .i64 0, .int .i64 0, .int .i64 0, .int .i64 0] 58)).there W1.heap.size 0 5 := p.there
    have pS : AtL ((W1.alloc (.cells #[.int .i64 0, .int .i64 0, .int .i64 0, .int .i64 0, .int .i64 0] 58)).setCells W1.heap.size 0 (wrV b)) W1.heap.size (wrV b) := p.setAll rfl
    have HB2 : Hid (Below w.heap.size w ((W1.alloc (.cells #[.int .i64 0, .int .i64 0, .int .i64 0, .int .i64 0, .int .i64 0] 58)).setCells W1.heap.size 0 (wrV b))) := bset (below_end HB1.out ba) HB1.out.size _ _
    have bS : Below W1.heap.size W1 ((W1.alloc (.cells #[.int .i64 0, .int .i64 0, .int .i64 0, .int .i64 0, .int .i64 0] 58)).setCells W1.heap.size 0 (wrV b)) := bset ba (Nat.le_refl _) _ _
    have HQ2 : Hid (HQ ((W1.alloc (.cells #[.int .i64 0, .int .i64 0, .int .i64 0, .int .i64 0, .int .i64 0] 58)).setCells W1.heap.size 0 (wrV b)) hb mb B (.slice (some ⟨g, 0, none⟩) (m + 1) rc) (l0 ++ [b]) F) := HQ1.out.below bS
    have HPB : Hid (w.heap.size ≤ W1.heap.size) := HB1.out.size
    replace t3 := three_below bS t3
    have HLT : Hid (hb < W1.heap.size ∧ mb < W1.heap.size ∧ g < W1.heap.size) := ⟨HQ1.out.hd.1, HQ1.out.mp.lt, (own_blk HQ1.out.own (g := g) rfl).2⟩
    clear ba bS p HQ1 HB1 c1 hlast
    go_upto_region 6 with ((with_reducible refine wpList_store_mid ?_ 58 (.tmp 8) (.tmp 32) ?_ W1.heap.size 0 (wrV b).toArray ?_ ?_ ?_ ?_ ?_ ?_); rfl; rfl; rfl; rfl; exact hth; kernel_rfl; exact oneW b)
    clear b0 b1 b2 b3 b4 hth c0
    generalize (W1.alloc (.cells #[.int .i64 0, .int .i64 0, .int .i64 0, .int .i64 0, .int .i64 0] 58)).setCells W1.heap.size 0 (wrV b) = W2 at *
    generalize hpb : W1.heap.size = pb at *
    clear hpb
    obtain ⟨c0, c1, z0, _⟩ := HQ2.out.hd.two
    have DL := delete_any g m rc B l0 b W2 (by have := HQ2.out.own; rw [List.length_append, HA.out.2.2.1] at this; exact this) HA.out.2.2.1 (fun _ => by have := HNN.out.2 trivial; omega)
    rw [show ((m + 1 : Nat) : Int) = (m : Int) + 1 from rfl] at DL
    go_wp2_with fail
    refine DL.mono ?_
    rintro en w3 ⟨rfl, o3, fr3⟩
    have hgn := HQ2.out.nb g rfl
    have a3 := HQ2.out.hd.fr fr3 (by simp; exact fun z => hgn.1 z.symm)
    have HC3 : Hid (CM w3 mb F) := HQ2.out.mp.fr fr3 (by simp; exact fun z => hgn.2 z.symm)
    have HO3 : Hid (w3.ownsRow B 58 5 (.slice (some ⟨g, 0, none⟩) m rc) m (flatW l0)) := o3
    have HA3 : Hid (AtL w3 hb [.slice (some ⟨g, 0, none⟩) (m + 1) rc, .map (some mb)]) := a3
    have HF3 : Hid (Fr (hb :: mb :: [g]) w w3) := Fr.trans (Fr.of_below _ HB2.out) (fr3.mono (by simp))
    have pS3 := pS.fr fr3 (by simp; have := HLT.out; omega)
    have t33 : Three w3 cb (.int .i64 x.s) (.int .i64 x.r) (.int .i64 x.c) := three_fr fr3 (by simp; exact HCB.out.2.2 g rfl) t3
    have HG : Hid (g ≠ hb ∧ g ≠ mb ∧ hb ≠ mb) := ⟨hgn.1, hgn.2, HQ2.out.hm⟩
    clear c0 c1 z0 DL o3 fr3 hgn a3 HQ2 HB2 pS t3
    obtain ⟨c0, c1, z0, _⟩ := HA3.out.two
    go_upto_region 7 with fail
    have HQ4 : Hid (HQ (w3.setCell ⟨hb, 0, none⟩ (.slice (some ⟨g, 0, none⟩) m rc)) hb mb B (.slice (some ⟨g, 0, none⟩) m rc) l0 F) := by
      have fr := setCells_fr w3 hb [.slice (some ⟨g, 0, none⟩) m rc] 0
      refine ⟨HA3.out.set 0 _, ?_, HC3.out.fr fr (by simp; exact fun z => HG.out.2.2 z.symm), fun g' e => ?_, HG.out.2.2⟩
      · rw [HA.out.2.2.1]
        exact own_fr fr HO3.out (fun g' e => by
          have : some g = some g' := e
          simp at this
          simp
          rw [← this]
          exact HG.out.1)
      · have : some g = some g' := e
        simp at this
        rw [← this]
        exact ⟨HG.out.1, HG.out.2.1⟩
    have frS := setCells_fr w3 hb [.slice (some ⟨g, 0, none⟩) m rc] 0
    have HF4 : Hid (Fr (hb :: mb :: [g]) w (w3.setCell ⟨hb, 0, none⟩ (.slice (some ⟨g, 0, none⟩) m rc))) := Fr.trans HF3.out (frS.mono (by simp))
    have pS4 : AtL (w3.setCell ⟨hb, 0, none⟩ (.slice (some ⟨g, 0, none⟩) m rc)) pb (wrV b) := pS3.fr frS (by simp; have := HLT.out; omega)
    have t34 : Three (w3.setCell ⟨hb, 0, none⟩ (.slice (some ⟨g, 0, none⟩) m rc)) cb (.int .i64 x.s) (.int .i64 x.r) (.int .i64 x.c) := three_fr frS (by simp; exact HCB.out.1) t33
    clear frS pS3 t33 c0 c1 z0 HA3 HC3 HO3 HF3
    generalize w3.setCell ⟨hb, 0, none⟩ (.slice (some ⟨g, 0, none⟩) m rc) = w4 at *
    obtain ⟨_, c1, _, _⟩ := HQ4.out.hd.two
    have hb1 := (Below.refl w4.heap.size w4).drew
    refine wp_region_held_drew (S := fun W => W.cell? ⟨hb, 1, none⟩ = some (.map (some mb)) ∧ Three W cb (.int .i64 x.s) (.int .i64 x.r) (.int .i64 x.c)) (by kernel_rfl) ⟨cell_below hb1 c1, three_below hb1 t34⟩ (fun hHeld => ?_)
    have HQ5 : Hid (HQ w4.drew hb mb B (.slice (some ⟨g, 0, none⟩) m rc) l0 F) := HQ4.out.below hb1
    have HF5 : Hid (Fr (hb :: mb :: [g]) w w4.drew) := Fr.trans HF4.out (Fr.of_below _ hb1)
    replace t34 := three_below hb1 t34
    replace pS4 := AtL.below hb1 pS4
    clear hb1 c1 HQ4 HF4
    generalize w4.drew = w5 at *
    obtain ⟨_, c1, _, _⟩ := HQ5.out.hd.two
    refine wpAnyH_take (i := 0) (oi := { dst := Option.some 44, op := Op.move (Operand.tmp 0), type := 55, pos := "heap.go:39", after := #[], guard := Option.none }) (v := ?_) rfl (by kernel_rfl) (by kernel_rfl) (by kernel_rfl) (fun _ _ _ h => h) (Or.inl ⟨by rfl, ?_⟩) (by assumption) ?_
    rotate_left
    · intro w hSw
      (try dsimp only at hSw)
      go_simp
      try with_reducible rfl
    try simp only [Act.put, List.setIfInBounds_toArray, List.set_cons_zero, List.set_cons_succ]
    refine wpAnyH_take (i := 1) (oi := { dst := Option.some 45, op := Op.nilCheck (Operand.tmp 44), type := 0, pos := "heap.go:39", after := #[{ on := 0, ground := Ground.data }], guard := Option.none }) (v := ?_) rfl (by kernel_rfl) (by kernel_rfl) (by kernel_rfl) (fun _ _ _ h => h) (Or.inl ⟨by rfl, ?_⟩) (by assumption) ?_
    rotate_left
    · intro w hSw
      (try dsimp only at hSw)
      go_simp
      try with_reducible rfl
    try simp only [Act.put, List.setIfInBounds_toArray, List.set_cons_zero, List.set_cons_succ]
    refine wpAnyH_take (i := 2) (oi := { dst := Option.some 46, op := Op.fieldAddr 76 (Operand.tmp 45) 1, type := 0, pos := "heap.go:39", after := #[{ on := 1, ground := Ground.data }], guard := Option.none }) (v := ?_) rfl (by kernel_rfl) (by kernel_rfl) (by kernel_rfl) (fun _ _ _ h => h) (Or.inl ⟨by rfl, ?_⟩) (by assumption) ?_
    rotate_left
    · intro w hSw
      (try dsimp only at hSw)
      go_simp
      try with_reducible rfl
    try simp only [Act.put, List.setIfInBounds_toArray, List.set_cons_zero, List.set_cons_succ]
    refine wpAnyH_take (i := 3) (oi := { dst := Option.some 47, op := Op.load 74 (Operand.tmp 46), type := 74, pos := "heap.go:39", after := #[{ on := 2, ground := Ground.data }], guard := Option.none }) (v := ?_) rfl (by kernel_rfl) (by kernel_rfl) (by kernel_rfl) (fun _ _ _ h => h) (Or.inl ⟨by rfl, ?_⟩) (by assumption) ?_
    rotate_left
    · intro w hSw
      (try dsimp only at hSw)
      go_simp
      try with_reducible rfl
    try simp only [Act.put, List.setIfInBounds_toArray, List.set_cons_zero, List.set_cons_succ]
    refine wpAnyH_take (i := 4) (oi := { dst := Option.some 48, op := Op.load 33 (Operand.tmp 3), type := 33, pos := "heap.go:39", after := #[], guard := Option.none }) (v := ?_) rfl (by kernel_rfl) (by kernel_rfl) (by kernel_rfl) (fun _ _ _ h => h) (Or.inl ⟨by rfl, ?_⟩) (by assumption) ?_
    rotate_left
    · intro w hSw
      (try dsimp only at hSw)
      go_simp
      try with_reducible rfl
    try simp only [Act.put, List.setIfInBounds_toArray, List.set_cons_zero, List.set_cons_succ]
    refine wpAnyH_ready (rs := [5]) (by kernel_rfl) (by simp) ?_
    refine AllReadyH.cons (o := { dst := Option.none, op := Op.call { callee := Callee.builtin Builtin.delete, args := #[Operand.tmp 47, Operand.tmp 48], argTypes := #[74, 33] }, type := 0, pos := "heap.go:39", after := #[{ on := 3, ground := Ground.data }, { on := 4, ground := Ground.data }], guard := Option.none }) rfl (fun K hK => ?_) AllReadyH.nil
    obtain ⟨w6, hd6, hc6, hg6⟩ := delC HQ5.out.mp x 0
    have HQ6 : Hid (HQ w6 hb mb B (.slice (some ⟨g, 0, none⟩) m rc) l0 (delF x F)) := HQ5.out.map hc6 hg6
    have fr6 : Fr [mb] w5 w6 := Fr.of_grown hg6 (fun k e => by simp at e; simp [e])
    have HF6 : Hid (Fr (hb :: mb :: [g]) w w6) := Fr.trans HF5.out (fr6.mono (by simp))
    have pS6 := pS4.fr fr6 (by simp; have := HLT.out; omega)
    have t36 : Three w6 cb (.int .i64 x.s) (.int .i64 x.r) (.int .i64 x.c) := three_fr fr6 (by simp; exact HCB.out.2.1) t34
    obtain ⟨_, c16, _, _⟩ := HQ6.out.hd.two
    go_simp
    refine hK.out _ _ ⟨c16, t36⟩ (fun hHeld => ?_)
    clear hK K hd6 hc6 hg6 fr6 HQ5 HF5 pS4 t34 c1
    try simp only [Act.put, List.setIfInBounds_toArray, List.set_cons_zero, List.set_cons_succ]
    refine wpAnyH_done (by kernel_rfl) ?_ _
    clear hHeld t36 c16
    by_cases hie : i < m
    · have hii : (i : Int) < (m : Int) := by omega
      have LA := lay_any hb mb B g m rc l0 (delF x F) i b w6 HQ6.out HA.out.2.2.1 hie
      obtain ⟨d0, d1, d2, d3, d4, _⟩ := AtL.five pS6
      go_wp2_with fail
      refine LA.mono ?_
      rintro en w7 ⟨rfl, h7, fr7⟩
      have H7 : Hid (HQ w7 hb mb B (.slice (some ⟨g, 0, none⟩) m rc) (l0.set i b) (putF ⟨b.s, b.r, b.c⟩ (i : Int) (delF x F)) ∧ Fr (hb :: mb :: [g]) w w7) := ⟨h7, Fr.trans HF6.out fr7⟩
      have ST := settle_any hb mb B g m rc (l0.set i b) (putF ⟨b.s, b.r, b.c⟩ (i : Int) (delF x F)) i w7 H7.out.1 (HF.out.1.fill HA.out.1 HA.out.2.1 (by rw [HA.out.2.2.1]; exact hie)) (by rw [List.length_set]; exact HA.out.2.2.1) hie (fun _ => by have := HNN.out.2 trivial; omega)
      clear LA h7 fr7 d0 d1 d2 d3 d4 pS6
      go_wp2_with fail
      refine ST.mono ?_
      rintro en w8 ⟨l8, F8, rfl, h8, hu⟩
      have H8 : Hid (DropP w hb mb B (.slice (some ⟨g, 0, none⟩) (m + 1) rc) (l0 ++ [b]) x (.returned (.bool true)) w8) := by
        have hheap : Wq.Heap Wq.ltW m 0 (fnW l8) := hu (by
          rw [fnW_set (by rw [HA.out.2.2.1]; exact hie)]
          have := heap_less HF.out.2
          rw [HA.out.2.2.1] at this
          exact this.laid Wq.ord_W i b)
        refine ⟨true, _, l8, F8, rfl, (fun _ => ⟨a, HB0.out, HA.out.2.1⟩), (fun z => by cases z), ⟨h8.q, h8.f, by rw [h8.len]; exact hheap⟩, ?_, Fr.trans H7.out.2 h8.fr, Or.inl rfl⟩
        rw [← HA.out.2.1, offW_erase HF.out.1 HA.out.1]
        exact h8.p.trans (fill_perm (by rw [HA.out.2.2.1]; exact hie))
      clear ST h8 hu
      go_wp2
      go_ret
      exact H8.out
    · have hii : ¬ (i : Int) < (m : Int) := by omega
      have him : i = m := by have := HA.out.2.2.2; omega
      have H8 : Hid (DropP w hb mb B (.slice (some ⟨g, 0, none⟩) (m + 1) rc) (l0 ++ [b]) x (.returned (.bool true)) w6) := by
        have hab : a = b := by
          have := HA.out.1
          rw [him, ← HA.out.2.2.1] at this
          simpa using this.symm
        refine ⟨true, _, l0, _, rfl, (fun _ => ⟨a, HB0.out, HA.out.2.1⟩), (fun z => by cases z), ⟨HQ6.out, HF.out.1.last (by rw [← hab]; exact HA.out.2.1), heap_less HF.out.2⟩, ?_, HF6.out, Or.inl rfl⟩
        rw [← HA.out.2.1, offW_erase HF.out.1 HA.out.1, him, ← HA.out.2.2.1, last_off]
      clear HQ6 HF6 pS6
      go_wp2
      go_ret
      exact H8.out

end Go.Proofs.Ytpbjmhcpaeillaa
