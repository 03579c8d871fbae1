/- Queues: an entry is put. -/

import Derived.Test.YtpbjmhcpaeillaaQSet
import Derived.Maps.AppendAt
import Derived.OwnWalk
import Derived.Laws.OwnMore
namespace Go.Proofs.Ytpbjmhcpaeillaa
open Go.RowKit
set_option linter.unusedVariables false

theorem wrInfo : (Try.prog.info? 58).map (fun i => (i.zero, i.size, i.bytes)) = some (some (.agg #[.int .i64 0, .int .i64 0, .int .i64 0, .int .i64 0, .int .i64 0]), 5, 40) := by kernel_rfl
theorem undWrs : Try.prog.underlying 68 = some (.slice 58) := by kernel_rfl
theorem info_partsQ {P : Program} {t : TypeId} {z : Value} {s b : Nat} (h : (P.info? t).map (fun i => (i.zero, i.size, i.bytes)) = some (some z, s, b)) : ∃ i, P.info? t = some i ∧ i.zero = some z ∧ i.size = s ∧ i.bytes = b := by
  obtain ⟨i, h1, h2⟩ := Option.map_eq_some_iff.1 h
  simp only [Prod.mk.injEq] at h2
  exact ⟨i, h1, h2.1, h2.2.1, h2.2.2⟩
/-- A row of entries is grown by one. -/
theorem wp_apQ {o : Oper} {a : Act} {K : Act → World → Prop} {Q : Exit → Act → World → Prop} (sl x : Operand) (ho : o.op = .call { callee := .builtin .append, args := #[sl, x], argTypes := #[68, 68] })
    (w : World) (B : Nat) (hB : B ≤ w.heap.size) (v : Value) (n : Nat) (xs : List Value) (hs : a.eval sl = v) (hown : w.ownsRow B 58 5 v n xs) (k : Nat) (e : Wq.Wr) (hx : a.eval x = .slice (some ⟨k, 0, none⟩) 1 1) (hat : AtL w k (wrV e)) (hn : n + 1 ≤ 2000000000)
    (h : ∀ v' w', w'.ownsRow B 58 5 v' (n + 1) (xs ++ wrV e) → w.grownBy w' v.ownBlock → (v'.ownBlock = v.ownBlock ∨ v'.ownBlock = some w.heap.size) → K (a.put o.dst v') w') : o.wp Try.prog a w K Q := by
  obtain ⟨i0, hi0, hz0, hz1, hz2⟩ := info_partsQ wrInfo
  obtain ⟨v', w', hr, h2, h3, _, h5⟩ := run_append_own_at (P := Try.prog) w B 68 o.type 58 i0 _ 5 40 undWrs hi0 hz0 hz1 hz2 rfl (by decide) v n xs hown ⟨k, 0, none⟩ 1 1 (wrV e) rfl (fun j z hj => by
      have := hat.2.1 j z hj
      rw [show (⟨k, 0, none⟩ : Addr).add j = ⟨k, j, none⟩ from by
        simp [Addr.add]
        try (intro h0; omega)]
      exact this) (oneWl e) (by unfold maxLen; omega) (by omega) hB
  unfold Oper.wp execOp
  simp only [ho, resolve, invoke, builtin, Sem.run_bind, Sem.run_pure, Result.andThen_ok, List.map_toArray, List.map_cons, List.map_nil, hs, hx, hr]
  exact h v' w' h2 h3 h5
theorem fnW_set {l : List Wq.Wr} {i : Nat} (hi : i < l.length) {e : Wq.Wr} : fnW (l.set i e) = fun j => if j = i then e else fnW l j := by
  funext j
  unfold fnW
  rw [List.getElem?_set]
  by_cases c : i = j
  · rw [if_pos c, if_pos hi, if_pos c.symm]
    rfl
  · rw [if_neg c, if_neg (fun z => c z.symm)]
theorem fnW_app {l : List Wq.Wr} {e : Wq.Wr} : fnW (l ++ [e]) = fun j => if j = l.length then e else fnW l j := by
  funext j
  unfold fnW
  by_cases c : j = l.length
  · rw [if_pos c, c]
    simp
  · rw [if_neg c]
    by_cases d : j < l.length
    · rw [List.getElem?_append_left d]
    · rw [List.getElem?_eq_none (by simp; omega), List.getElem?_eq_none (by omega)]
/-- A heap, as it stands between two calls. -/
structure QH (w : World) (hb mb B : Nat) (rv : Value) (l : List Wq.Wr) (F : List (Wpl.Cl × Int)) : Prop where
  q : HQ w hb mb B rv l F
  f : WF l F
  o : Wq.Heap Wq.ltW l.length 0 (fnW l)
/-- What put answers. -/
def PutP (w : World) (hb mb B : Nat) (rv : Value) (l : List Wq.Wr) (e : Wq.Wr) (en : Ending) (w' : World) : Prop := ∃ (rv' : Value) (l' : List Wq.Wr) (F' : List (Wpl.Cl × Int)), en = .returned (.tuple #[]) ∧ QH w' hb mb B rv' l' F' ∧ l'.Perm (e :: offW (clW e) l) ∧ Fr (hb :: mb :: rv.ownBlock.toList) w w' ∧ (rv'.ownBlock = rv.ownBlock ∨ ∀ g, rv'.ownBlock = some g → w.heap.size ≤ g)
set_option maxRecDepth 100000 in
set_option maxHeartbeats 8000000 in
theorem put_any (hb mb B : Nat) (rv : Value) (l : List Wq.Wr) (F : List (Wpl.Cl × Int)) (e : Wq.Wr) (w : World) (h : QH w hb mb B rv l F) (hN : True → l.length + 1 ≤ 1000000000) (hB : B ≤ w.heap.size) :
    Calls Try.prog 27 #[.pointer (some ⟨hb, 0, none⟩), .agg (wrV e).toArray] w (PutP w hb mb B rv l e) := by
  obtain ⟨ra, rc, erv, _, hr⟩ := own_open h.q.own
  obtain ⟨n, hn⟩ : ∃ n, l.length = n := ⟨_, rfl⟩
  rw [hn] at erv
  subst erv
  have HRA : Hid (0 < n → ∃ g, ra = some ⟨g, 0, none⟩) := fun z => by
    obtain ⟨g, e, _⟩ := hr (by omega)
    exact ⟨g, e⟩
  have HNN : Hid (l.length = n ∧ (True → n ≤ 999999999)) := ⟨hn, fun _ => by have := hN trivial; omega⟩
  have hb0 := ball (Below.refl _ w) (.cells #[.int .i64 e.s, .int .i64 e.r, .int .i64 e.c, .int .i64 e.ln, .int .i64 e.lv] 58)
  have f1 := AtL.f5 (AtL.new0 w 58 [.int .i64 e.s, .int .i64 e.r, .int .i64 e.c, .int .i64 e.ln, .int .i64 e.lv])
  have HQ0 : Hid (HQ (w.alloc (.cells #[.int .i64 e.s, .int .i64 e.r, .int .i64 e.c, .int .i64 e.ln, .int .i64 e.lv] 58)) hb mb B (.slice ra n rc) l F) := h.q.below hb0
  have HB0 : Hid (Below w.heap.size w (w.alloc (.cells #[.int .i64 e.s, .int .i64 e.r, .int .i64 e.c, .int .i64 e.ln, .int .i64 e.lv] 58))) := hb0
  have HF : Hid (WF l F ∧ Wq.Heap Wq.ltW l.length 0 (fnW l)) := ⟨h.f, h.o⟩
  have HBB : Hid (B ≤ w.heap.size) := hB
  have HEH : Hid (w.heap.size ≠ hb) := by have := h.q.hd.1; show _ ≠ _; omega
  have HNM2 : Hid (hb ≠ mb) := h.q.hm
  have HRB : Hid (∀ y, (Value.slice ra n rc).ownBlock = some y → y < w.heap.size) := fun y e => (own_blk h.q.own e).2
  obtain ⟨I, hI⟩ : ∃ I, gtI (clW e) F = I := ⟨_, rfl⟩
  obtain ⟨q, hq⟩ : ∃ q, gtB (clW e) F = q := ⟨_, rfl⟩
  have HGI : Hid (gtI (clW e) F = I) := hI
  have HGB : Hid (gtB (clW e) F = q) := hq
  obtain ⟨c0, c1, _, _⟩ := HQ0.out.hd.two
  show Calls _ _ #[.pointer (some ⟨hb, 0, none⟩), .agg #[.int .i64 e.s, .int .i64 e.r, .int .i64 e.c, .int .i64 e.ln, .int .i64 e.lv]] _ _
  clear h hN hB hr hn hI hq hb0
  go_enter Try.func27, Try.ntmps27
  go_upto_region 1 with fail
  generalize w.alloc (.cells #[.int .i64 e.s, .int .i64 e.r, .int .i64 e.c, .int .i64 e.ln, .int .i64 e.lv] 58) = W0 at *
  obtain ⟨eb, heb⟩ : ∃ k, w.heap.size = k := ⟨_, rfl⟩
  have f1 : Five W0 eb (.int .i64 e.s) (.int .i64 e.r) (.int .i64 e.c) (.int .i64 e.ln) (.int .i64 e.lv) := by rw [← heb]; exact f1
  have HEH : Hid (eb ≠ hb) := by rw [← heb]; exact HEH.out
  have HRB : Hid (∀ y, (Value.slice ra n rc).ownBlock = some y → y < eb) := by rw [← heb]; exact HRB.out
  rw [heb]
  clear heb
  have hb1 := (Below.refl W0.heap.size W0).drew
  refine wp_region_held_drew (S := fun W => (W.cell? ⟨hb, 0, none⟩ = some (.slice ra n rc) ∧ W.cell? ⟨hb, 1, none⟩ = some (.map (some mb))) ∧ Five W eb (.int .i64 e.s) (.int .i64 e.r) (.int .i64 e.c) (.int .i64 e.ln) (.int .i64 e.lv)) (by kernel_rfl) ⟨⟨cell_below hb1 c0, cell_below hb1 c1⟩, five_drew f1⟩ (fun hHeld => ?_)
  replace f1 := five_drew f1
  have HQ1 : Hid (HQ W0.drew hb mb B (.slice ra n rc) l F) := HQ0.out.below hb1
  have HB1 : Hid (Below w.heap.size w W0.drew) := below_end HB0.out hb1
  clear hb1 c0 c1 HQ0 HB0
  generalize W0.drew = W1 at *
  refine wpAnyH_take (i := 0) (oi := { dst := Option.some 7, op := Op.move (Operand.tmp 0), type := 55, pos := "heap.go:21", after := #[], guard := Option.none }) (v := ?_) rfl (by kernel_rfl) (by kernel_rfl) (by kernel_rfl) (fun _ _ _ h => h) (Or.inl ⟨by rfl, ?_⟩) (by assumption) ?_
  rotate_left
  · intro w hSw
    (try dsimp only at hSw)
    go_simp
    try with_reducible rfl
  try simp only [Act.put, List.setIfInBounds_toArray, List.set_cons_zero, List.set_cons_succ]
  refine wpAnyH_take (i := 1) (oi := { dst := Option.some 8, op := Op.nilCheck (Operand.tmp 7), type := 0, pos := "heap.go:21", after := #[{ on := 0, ground := Ground.data }], guard := Option.none }) (v := ?_) rfl (by kernel_rfl) (by kernel_rfl) (by kernel_rfl) (fun _ _ _ h => h) (Or.inl ⟨by rfl, ?_⟩) (by assumption) ?_
  rotate_left
  · intro w hSw
    (try dsimp only at hSw)
    go_simp
    try with_reducible rfl
  try simp only [Act.put, List.setIfInBounds_toArray, List.set_cons_zero, List.set_cons_succ]
  refine wpAnyH_take (i := 2) (oi := { dst := Option.some 9, op := Op.fieldAddr 76 (Operand.tmp 8) 1, type := 0, pos := "heap.go:21", after := #[{ on := 1, ground := Ground.data }], guard := Option.none }) (v := ?_) rfl (by kernel_rfl) (by kernel_rfl) (by kernel_rfl) (fun _ _ _ h => h) (Or.inl ⟨by rfl, ?_⟩) (by assumption) ?_
  rotate_left
  · intro w hSw
    (try dsimp only at hSw)
    go_simp
    try with_reducible rfl
  try simp only [Act.put, List.setIfInBounds_toArray, List.set_cons_zero, List.set_cons_succ]
  refine wpAnyH_take (i := 3) (oi := { dst := Option.some 10, op := Op.load 74 (Operand.tmp 9), type := 74, pos := "heap.go:21", after := #[{ on := 2, ground := Ground.data }], guard := Option.none }) (v := ?_) rfl (by kernel_rfl) (by kernel_rfl) (by kernel_rfl) (fun _ _ _ h => h) (Or.inl ⟨by rfl, ?_⟩) (by assumption) ?_
  rotate_left
  · intro w hSw
    (try dsimp only at hSw)
    go_simp
    try with_reducible rfl
  try simp only [Act.put, List.setIfInBounds_toArray, List.set_cons_zero, List.set_cons_succ]
  refine wpAnyH_take (i := 4) (oi := { dst := Option.some 11, op := Op.load 58 (Operand.tmp 3), type := 58, pos := "heap.go:21", after := #[], guard := Option.none }) (v := ?_) rfl (by kernel_rfl) (by kernel_rfl) (by kernel_rfl) (fun _ _ _ h => h) (Or.inl ⟨by rfl, ?_⟩) (by assumption) ?_
  rotate_left
  · intro w hSw
    (try dsimp only at hSw)
    go_simp
    try with_reducible rfl
  try simp only [Act.put, List.setIfInBounds_toArray, List.set_cons_zero, List.set_cons_succ]
  refine wpAnyH_take (i := 5) (oi := { dst := Option.some 12, op := Op.makeInterface 58 (Operand.tmp 11), type := 20, pos := "heap.go:21", after := #[{ on := 4, ground := Ground.data }], guard := Option.none }) (v := ?_) rfl (by kernel_rfl) (by kernel_rfl) (by kernel_rfl) (fun _ _ _ h => h) (Or.inl ⟨by rfl, ?_⟩) (by assumption) ?_
  rotate_left
  · intro w hSw
    (try dsimp only at hSw)
    go_simp
    try with_reducible rfl
  try simp only [Act.put, List.setIfInBounds_toArray, List.set_cons_zero, List.set_cons_succ]
  refine wpAnyH_ready (rs := [6]) (by kernel_rfl) (by simp) ?_
  refine AllReadyH.cons (o := { dst := Option.some 13, op := Op.call { callee := Callee.invoke (Operand.tmp 12) "whittle/queue.key", args := #[], argTypes := #[] }, type := 33, pos := "heap.go:21", after := #[{ on := 5, ground := Ground.data }], guard := Option.none }) rfl (fun K hK => ?_) AllReadyH.nil
  go_simp
  refine (key_any e W1).mono ?_
  rintro en w2 ⟨rfl, hb2⟩
  have HQ2 : Hid (HQ w2 hb mb B (.slice ra n rc) l F) := HQ1.out.below hb2
  have HB2 : Hid (Below w.heap.size w w2) := below_end HB1.out hb2
  replace f1 := five_below hb2 f1
  obtain ⟨c0, c1, _, _⟩ := HQ2.out.hd.two
  clear HQ1 HB1 hb2
  go_wp2_with fail
  refine hK.out _ _ ⟨⟨c0, c1⟩, f1⟩ (fun hHeld => ?_)
  clear hK K
  try simp only [Act.put, List.setIfInBounds_toArray, List.set_cons_zero, List.set_cons_succ]
  refine wpAnyH_ready (rs := [7]) (by kernel_rfl) (by simp) ?_
  refine AllReadyH.cons (o := { dst := Option.some 14, op := Op.lookup 74 (Operand.tmp 10) (Operand.tmp 13) Bool.true, type := 49, pos := "heap.go:21", after := #[{ on := 3, ground := Ground.data }, { on := 6, ground := Ground.data }], guard := Option.none }) rfl (fun K hK => ?_) AllReadyH.nil
  have hlk := lookC HQ2.out.mp (clW e)
  rw [HGI.out, HGB.out] at hlk
  go_simp
  refine hK.out _ _ ⟨⟨c0, c1⟩, f1⟩ (fun hHeld => ?_)
  clear hK K hlk
  try simp only [Act.put, List.setIfInBounds_toArray, List.set_cons_zero, List.set_cons_succ]
  refine wpAnyH_take (i := 8) (oi := { dst := Option.some 6, op := Op.move (Operand.tmp 14), type := 49, pos := "heap.go:21", after := #[{ on := 7, ground := Ground.data }], guard := Option.none }) (v := ?_) rfl (by kernel_rfl) (by kernel_rfl) (by kernel_rfl) (fun _ _ _ h => h) (Or.inl ⟨by rfl, ?_⟩) (by assumption) ?_
  rotate_left
  · intro w hSw
    (try dsimp only at hSw)
    go_simp
    try with_reducible rfl
  try simp only [Act.put, List.setIfInBounds_toArray, List.set_cons_zero, List.set_cons_succ]
  refine wpAnyH_take (i := 9) (oi := { dst := Option.some 15, op := Op.extract (Operand.tmp 6) 0, type := 3, pos := "heap.go:21", after := #[{ on := 8, ground := Ground.data }], guard := Option.none }) (v := ?_) rfl (by kernel_rfl) (by kernel_rfl) (by kernel_rfl) (fun _ _ _ h => h) (Or.inl ⟨by rfl, ?_⟩) (by assumption) ?_
  rotate_left
  · intro w hSw
    (try dsimp only at hSw)
    go_simp
    try with_reducible rfl
  try simp only [Act.put, List.setIfInBounds_toArray, List.set_cons_zero, List.set_cons_succ]
  refine wpAnyH_take (i := 10) (oi := { dst := Option.some 16, op := Op.extract (Operand.tmp 6) 1, type := 4, pos := "heap.go:21", after := #[{ on := 8, ground := Ground.data }, { on := 11, ground := Ground.gcOnly Departure.lateStores }], guard := Option.none }) (v := ?_) rfl (by kernel_rfl) (by kernel_rfl) (by kernel_rfl) (fun _ _ _ h => h) (Or.inl ⟨by rfl, ?_⟩) (by assumption) ?_
  rotate_left
  · intro w hSw
    (try dsimp only at hSw)
    go_simp
    try with_reducible rfl
  try simp only [Act.put, List.setIfInBounds_toArray, List.set_cons_zero, List.set_cons_succ]
  refine wpAnyH_ready (rs := [11]) (by kernel_rfl) (by simp) ?_
  refine AllReadyH.cons (o := { dst := Option.some 4, op := Op.assign (Operand.tmp 15), type := 3, pos := "heap.go:21", after := #[{ on := 9, ground := Ground.data }, { on := 6, ground := Ground.chain }, { on := 0, ground := Ground.phase }, { on := 1, ground := Ground.phase }, { on := 2, ground := Ground.phase }, { on := 3, ground := Ground.phase }, { on := 4, ground := Ground.phase }, { on := 5, ground := Ground.phase }, { on := 6, ground := Ground.phase }, { on := 7, ground := Ground.phase }, { on := 8, ground := Ground.phase }, { on := 9, ground := Ground.phase }, { on := 10, ground := Ground.textOnly Departure.lateStores }], guard := Option.none }) rfl (fun K hK => ?_) AllReadyH.nil
  go_simp
  refine hK.out _ _ ⟨⟨c0, c1⟩, f1⟩ (fun hHeld => ?_)
  clear hK K
  try simp only [Act.put, List.setIfInBounds_toArray, List.set_cons_zero, List.set_cons_succ]
  refine wpAnyH_ready (rs := [12]) (by kernel_rfl) (by simp) ?_
  refine AllReadyH.cons (o := { dst := Option.some 5, op := Op.assign (Operand.tmp 16), type := 4, pos := "heap.go:21", after := #[{ on := 10, ground := Ground.data }, { on := 11, ground := Ground.chain }, { on := 0, ground := Ground.phase }, { on := 1, ground := Ground.phase }, { on := 2, ground := Ground.phase }, { on := 3, ground := Ground.phase }, { on := 4, ground := Ground.phase }, { on := 5, ground := Ground.phase }, { on := 6, ground := Ground.phase }, { on := 7, ground := Ground.phase }, { on := 8, ground := Ground.phase }, { on := 9, ground := Ground.phase }, { on := 10, ground := Ground.phase }, { on := 11, ground := Ground.phase }], guard := Option.none }) rfl (fun K hK => ?_) AllReadyH.nil
  go_simp
  refine hK.out _ _ ⟨⟨c0, c1⟩, f1⟩ (fun hHeld => ?_)
  clear hK K
  try simp only [Act.put, List.setIfInBounds_toArray, List.set_cons_zero, List.set_cons_succ]
  refine wpAnyH_done (by kernel_rfl) ?_ _
  clear hHeld

  cases q with
  | true =>
    obtain ⟨i, a, hgi, ha, hae⟩ := HF.out.1.hit (by rw [HGB.out])
    have hIi : I = (i : Int) := by rw [← HGI.out]; exact hgi
    subst hIi
    have hil : i < n := by rw [← HNN.out.1]; exact (List.getElem?_eq_some_iff.1 ha).1
    obtain ⟨g, eg⟩ := HRA.out (by omega)
    subst eg
    have HA : Hid (l[i]? = some a ∧ clW a = clW e) := ⟨ha, hae⟩
    have LA := lay_any hb mb B g n rc l F i e w2 HQ2.out HNN.out.1 hil
    obtain ⟨f10, f11, f12, f13, f14⟩ := f1
    clear hgi ha hae
    go_wp2_with fail
    refine LA.mono ?_
    rintro en w3 ⟨rfl, h3, fr3⟩
    have H3 : Hid (HQ w3 hb mb B (.slice (some ⟨g, 0, none⟩) n rc) (l.set i e) (putF ⟨e.s, e.r, e.c⟩ (i : Int) F) ∧ Fr (hb :: mb :: [g]) w w3) := ⟨h3, Fr.trans (Fr.of_below _ HB2.out) fr3⟩
    have ST := settle_any hb mb B g n rc (l.set i e) (putF ⟨e.s, e.r, e.c⟩ (i : Int) F) i w3 H3.out.1 (HF.out.1.lay HA.out.1 HA.out.2) (by rw [List.length_set]; exact HNN.out.1) hil (fun _ => by have := HNN.out.2 trivial; omega)
    clear LA h3 fr3 c0 c1
    go_wp2_with fail
    refine ST.mono ?_
    rintro en w4 ⟨l4, F4, rfl, h4, hu⟩
    have H4 : Hid (PutP w hb mb B (.slice (some ⟨g, 0, none⟩) n rc) l e (.returned (.tuple #[])) w4) := by
      have hheap : Wq.Heap Wq.ltW n 0 (fnW l4) := hu (by
        rw [fnW_set (by rw [HNN.out.1]; exact hil)]
        have := HF.out.2
        rw [HNN.out.1] at this
        exact this.laid Wq.ord_W i e)
      refine ⟨_, l4, F4, rfl, ⟨by have := h4.q; exact this, h4.f, by rw [h4.len]; exact hheap⟩, ?_, Fr.trans H3.out.2 h4.fr, Or.inl rfl⟩
      have p1 := set_perm (l := l) (i := i) (by rw [HNN.out.1]; exact hil) e
      rw [← offW_erase HF.out.1 HA.out.1, HA.out.2] at p1
      exact h4.p.trans p1
    clear ST h4 hu
    go_wp2
    go_end0
    exact H4.out

  | false =>
    obtain ⟨hmF, hmL⟩ := HF.out.1.miss (by rw [HGB.out])
    have HM : Hid ((∀ v, (clW e, v) ∉ F) ∧ ∀ a ∈ l, clW a ≠ clW e) := ⟨hmF, hmL⟩
    clear hmF hmL
    go_upto_region 4 with fail
    have hb1 := (Below.refl w2.heap.size w2).drew
    refine wp_region_held_drew (S := fun W => W.cell? ⟨hb, 1, none⟩ = some (.map (some mb)) ∧ Five W eb (.int .i64 e.s) (.int .i64 e.r) (.int .i64 e.c) (.int .i64 e.ln) (.int .i64 e.lv)) (by kernel_rfl) ⟨cell_below hb1 c1, five_drew f1⟩ (fun hHeld => ?_)
    replace f1 := five_drew f1
    have HQ3 : Hid (HQ w2.drew hb mb B (.slice ra n rc) l F) := HQ2.out.below hb1
    have HB3 : Hid (Below w.heap.size w w2.drew) := below_end HB2.out hb1
    clear hb1 c0 c1 HQ2 HB2
    generalize w2.drew = W3 at *
    obtain ⟨c0, c1, _, _⟩ := HQ3.out.hd.two
    refine wpAnyH_take (i := 0) (oi := { dst := Option.some 24, op := Op.move (Operand.tmp 0), type := 55, pos := "heap.go:24", after := #[], guard := Option.none }) (v := ?_) rfl (by kernel_rfl) (by kernel_rfl) (by kernel_rfl) (fun _ _ _ h => h) (Or.inl ⟨by rfl, ?_⟩) (by assumption) ?_
    rotate_left
    · intro w hSw
      (try dsimp only at hSw)
      go_simp
      try with_reducible rfl
    try simp only [Act.put, List.setIfInBounds_toArray, List.set_cons_zero, List.set_cons_succ]
    refine wpAnyH_take (i := 1) (oi := { dst := Option.some 25, op := Op.move (Operand.tmp 0), type := 55, pos := "heap.go:24", after := #[], guard := Option.none }) (v := ?_) rfl (by kernel_rfl) (by kernel_rfl) (by kernel_rfl) (fun _ _ _ h => h) (Or.inl ⟨by rfl, ?_⟩) (by assumption) ?_
    rotate_left
    · intro w hSw
      (try dsimp only at hSw)
      go_simp
      try with_reducible rfl
    try simp only [Act.put, List.setIfInBounds_toArray, List.set_cons_zero, List.set_cons_succ]
    refine wpAnyH_take (i := 2) (oi := { dst := Option.some 26, op := Op.nilCheck (Operand.tmp 25), type := 0, pos := "heap.go:24", after := #[{ on := 1, ground := Ground.data }], guard := Option.none }) (v := ?_) rfl (by kernel_rfl) (by kernel_rfl) (by kernel_rfl) (fun _ _ _ h => h) (Or.inl ⟨by rfl, ?_⟩) (by assumption) ?_
    rotate_left
    · intro w hSw
      (try dsimp only at hSw)
      go_simp
      try with_reducible rfl
    try simp only [Act.put, List.setIfInBounds_toArray, List.set_cons_zero, List.set_cons_succ]
    refine wpAnyH_take (i := 3) (oi := { dst := Option.some 27, op := Op.fieldAddr 76 (Operand.tmp 26) 0, type := 0, pos := "heap.go:24", after := #[{ on := 2, ground := Ground.data }], guard := Option.none }) (v := ?_) rfl (by kernel_rfl) (by kernel_rfl) (by kernel_rfl) (fun _ _ _ h => h) (Or.inl ⟨by rfl, ?_⟩) (by assumption) ?_
    rotate_left
    · intro w hSw
      (try dsimp only at hSw)
      go_simp
      try with_reducible rfl
    try simp only [Act.put, List.setIfInBounds_toArray, List.set_cons_zero, List.set_cons_succ]
    refine wpAnyH_take (i := 5) (oi := { dst := Option.some 29, op := Op.load 58 (Operand.tmp 3), type := 58, pos := "heap.go:24", after := #[], guard := Option.none }) (v := ?_) rfl (by kernel_rfl) (by kernel_rfl) (by kernel_rfl) (fun _ _ _ h => h) (Or.inl ⟨by rfl, ?_⟩) (by assumption) ?_
    rotate_left
    · intro w hSw
      (try dsimp only at hSw)
      go_simp
      try with_reducible rfl
    try simp only [Act.put, List.setIfInBounds_toArray, List.set_cons_zero, List.set_cons_succ]
    refine wpAnyH_ready (rs := [4, 6]) (by kernel_rfl) (by simp) ?_
    refine AllReadyH.cons (o := { dst := Option.some 28, op := Op.load 68 (Operand.tmp 27), type := 68, pos := "heap.go:24", after := #[{ on := 3, ground := Ground.data }], guard := Option.none }) rfl (fun K hK => ?_) (AllReadyH.cons (o := { dst := Option.some 30, op := Op.buildSlice 68 1 #[(0, Operand.tmp 29)], type := 68, pos := "heap.go:24", after := #[{ on := 5, ground := Ground.data }], guard := Option.none }) rfl (fun K hK => ?_) AllReadyH.nil)
    · go_simp
      refine hK.out _ _ ⟨c1, f1⟩ (fun hHeld => ?_)
      clear hK K
      try simp only [Act.put, List.setIfInBounds_toArray, List.set_cons_zero, List.set_cons_succ]
      refine wpAnyH_ready (rs := [6]) (by kernel_rfl) (by simp) ?_
      refine AllReadyH.cons (o := { dst := Option.some 30, op := Op.buildSlice 68 1 #[(0, Operand.tmp 29)], type := 68, pos := "heap.go:24", after := #[{ on := 5, ground := Ground.data }], guard := Option.none }) rfl (fun K hK => ?_) AllReadyH.nil
      have ba := ball (Below.refl W3.heap.size W3) (.cells #[.int .i64 e.s, .int .i64 e.r, .int .i64 e.c, .int .i64 e.ln, .int .i64 e.lv] 58)
      have aN := AtL.new0 W3 58 (wrV e)
      have HQ4 : Hid (HQ (W3.alloc (.cells #[.int .i64 e.s, .int .i64 e.r, .int .i64 e.c, .int .i64 e.ln, .int .i64 e.lv] 58)) hb mb B (.slice ra n rc) l F) := HQ3.out.below ba
      have HB4 : Hid (Below w.heap.size w (W3.alloc (.cells #[.int .i64 e.s, .int .i64 e.r, .int .i64 e.c, .int .i64 e.ln, .int .i64 e.lv] 58))) := below_end HB3.out ba
      replace f1 := five_below ba f1
      clear c0 c1
      obtain ⟨c0, c1, _, _⟩ := HQ4.out.hd.two
      go_simp
      refine hK.out _ _ ⟨c1, f1⟩ (fun hHeld => ?_)
      clear hK K ba HQ3 HB3
      try simp only [Act.put, List.setIfInBounds_toArray, List.set_cons_zero, List.set_cons_succ]
      have hS3 : W3.heap.size < (W3.alloc (.cells #[.int .i64 e.s, .int .i64 e.r, .int .i64 e.c, .int .i64 e.ln, .int .i64 e.lv] 58)).heap.size := by simp
      have aN2 : AtL (W3.alloc (.cells #[.int .i64 e.s, .int .i64 e.r, .int .i64 e.c, .int .i64 e.ln, .int .i64 e.lv] 58)) W3.heap.size (wrV e) := aN
      clear aN
      generalize W3.alloc (.cells #[.int .i64 e.s, .int .i64 e.r, .int .i64 e.c, .int .i64 e.ln, .int .i64 e.lv] 58) = W4 at *
      generalize hk3 : W3.heap.size = k3 at *
      clear hk3
      refine wpAnyH_ready (rs := [7]) (by kernel_rfl) (by simp) ?_
      refine AllReadyH.cons (o := { dst := Option.some 31, op := Op.call { callee := Callee.builtin Builtin.append, args := #[Operand.tmp 28, Operand.tmp 30], argTypes := #[68, 68] }, type := 68, pos := "heap.go:24", after := #[{ on := 4, ground := Ground.data }, { on := 6, ground := Ground.data }], guard := Option.none }) rfl (fun K hK => ?_) AllReadyH.nil
      have oR := HQ4.out.own
      rw [HNN.out.1] at oR
      refine wp_apQ (.tmp 28) (.tmp 30) rfl W4 B (Nat.le_trans HBB.out HB4.out.size) (.slice ra n rc) n (flatW l) rfl oR k3 e rfl aN2 (by have := HNN.out.2 trivial; omega) ?_
      intro v5 w5 o5 hg5 hz5
      obtain ⟨ra5, rc5, e5, _, hr5⟩ := own_open o5
      obtain ⟨g5, e6, _⟩ := hr5 (by omega)
      subst e6
      subst e5
      have HQ5 : Hid ((w5.ownsRow B 58 5 (.slice (some ⟨g5, 0, none⟩) (n + 1) rc5) (n + 1) (flatW (l ++ [e]))) ∧ AtL w5 hb [.slice ra n rc, .map (some mb)] ∧ CM w5 mb F ∧ (g5 ≠ hb ∧ g5 ≠ mb)) := by
        have fr : Fr (Value.slice ra n rc).ownBlock.toList W4 w5 := Fr.of_grown hg5 (fun k e => by rw [e]; simp)
        have nin : ∀ k, (∀ g, (Value.slice ra n rc).ownBlock = some g → g ≠ k) → k ∉ (Value.slice ra n rc).ownBlock.toList := fun k hk hm => by
          cases c : (Value.slice ra n rc).ownBlock with
          | none => rw [c] at hm; simp at hm
          | some y =>
            rw [c] at hm
            simp at hm
            exact hk y c hm.symm
        refine ⟨by rw [flatW_app]; simpa [flatW] using o5, HQ4.out.hd.fr fr (nin hb (fun g e => (HQ4.out.nb g e).1)), HQ4.out.mp.fr fr (nin mb (fun g e => (HQ4.out.nb g e).2)), ?_⟩
        rcases hz5 with q | q
        · exact HQ4.out.nb g5 (by rw [← q]; rfl)
        · have h1 := HQ4.out.hd.1
          have h2 := HQ4.out.mp.lt
          have : some g5 = some W4.heap.size := q
          simp at this
          omega
      have HF5 : Hid (Fr (hb :: mb :: (Value.slice ra n rc).ownBlock.toList) w w5 ∧ (g5 ∈ (Value.slice ra n rc).ownBlock.toList ∨ w.heap.size ≤ g5) ∧ ((Value.slice (some ⟨g5, 0, none⟩) (n + 1) rc5).ownBlock = (Value.slice ra n rc).ownBlock ∨ w.heap.size ≤ g5)) := by
        have fr : Fr (hb :: mb :: (Value.slice ra n rc).ownBlock.toList) W4 w5 := Fr.of_grown hg5 (fun k e => by rw [e]; simp)
        have hs := HB4.out.size
        refine ⟨Fr.trans (Fr.of_below _ HB4.out) fr, ?_, ?_⟩
        · rcases hz5 with q | q
          · left
            rw [← q]
            simp [Value.ownBlock]
          · have : some g5 = some W4.heap.size := q
            simp at this
            right
            omega
        · rcases hz5 with q | q
          · exact Or.inl q
          · have : some g5 = some W4.heap.size := q
            simp at this
            right
            omega
      have f5 := five_fr (S := (Value.slice ra n rc).ownBlock.toList) (Fr.of_grown hg5 (fun k e => by rw [e]; simp)) (by
          intro hm
          cases c : (Value.slice ra n rc).ownBlock with
          | none => rw [c] at hm; simp at hm
          | some y =>
            rw [c] at hm
            simp at hm
            have := HRB.out y c
            omega) f1
      obtain ⟨c0, c1, z0, _⟩ := HQ5.out.2.1.two
      refine hK.out _ _ ⟨c1, f5⟩ (fun hHeld => ?_)
      clear hK K oR o5 hg5 hz5 hr5 aN2 HQ4 HB4 f1
      try simp only [Act.put, List.setIfInBounds_toArray, List.set_cons_zero, List.set_cons_succ]
      refine wpAnyH_take (i := 8) (oi := { dst := Option.some 32, op := Op.nilCheck (Operand.tmp 24), type := 0, pos := "heap.go:24", after := #[{ on := 0, ground := Ground.data }, { on := 0, ground := Ground.phase }, { on := 1, ground := Ground.phase }, { on := 2, ground := Ground.phase }, { on := 3, ground := Ground.phase }, { on := 4, ground := Ground.phase }, { on := 5, ground := Ground.phase }, { on := 6, ground := Ground.phase }, { on := 7, ground := Ground.phase }], guard := Option.none }) (v := ?_) rfl (by kernel_rfl) (by kernel_rfl) (by kernel_rfl) (fun _ _ _ h => h) (Or.inl ⟨by rfl, ?_⟩) (by assumption) ?_
      rotate_left
      · intro w hSw
        (try dsimp only at hSw)
        go_simp
        try with_reducible rfl
      try simp only [Act.put, List.setIfInBounds_toArray, List.set_cons_zero, List.set_cons_succ]
      refine wpAnyH_take (i := 9) (oi := { dst := Option.some 33, op := Op.fieldAddr 76 (Operand.tmp 32) 0, type := 0, pos := "heap.go:24", after := #[{ on := 8, ground := Ground.data }, { on := 0, ground := Ground.phase }, { on := 1, ground := Ground.phase }, { on := 2, ground := Ground.phase }, { on := 3, ground := Ground.phase }, { on := 4, ground := Ground.phase }, { on := 5, ground := Ground.phase }, { on := 6, ground := Ground.phase }, { on := 7, ground := Ground.phase }], guard := Option.none }) (v := ?_) rfl (by kernel_rfl) (by kernel_rfl) (by kernel_rfl) (fun _ _ _ h => h) (Or.inl ⟨by rfl, ?_⟩) (by assumption) ?_
      rotate_left
      · intro w hSw
        (try dsimp only at hSw)
        go_simp
        try with_reducible rfl
      try simp only [Act.put, List.setIfInBounds_toArray, List.set_cons_zero, List.set_cons_succ]
      refine wpAnyH_ready (rs := [10]) (by kernel_rfl) (by simp) ?_
      refine AllReadyH.cons (o := { dst := Option.none, op := Op.store 68 (Operand.tmp 33) (Operand.tmp 31), type := 0, pos := "heap.go:24", after := #[{ on := 9, ground := Ground.data }, { on := 7, ground := Ground.data }, { on := 7, ground := Ground.chain }, { on := 0, ground := Ground.phase }, { on := 1, ground := Ground.phase }, { on := 2, ground := Ground.phase }, { on := 3, ground := Ground.phase }, { on := 4, ground := Ground.phase }, { on := 5, ground := Ground.phase }, { on := 6, ground := Ground.phase }, { on := 7, ground := Ground.phase }], guard := Option.none }) rfl (fun K hK => ?_) AllReadyH.nil
      go_simp
      have HQ6 : Hid (HQ (w5.setCell ⟨hb, 0, none⟩ (.slice (some ⟨g5, 0, none⟩) (n + 1) rc5)) hb mb B (.slice (some ⟨g5, 0, none⟩) (n + 1) rc5) (l ++ [e]) F) := by
        obtain ⟨q1, q2, q3, q4⟩ := HQ5.out
        have fr := setCells_fr w5 hb [.slice (some ⟨g5, 0, none⟩) (n + 1) rc5] 0
        refine ⟨q2.set 0 _, ?_, q3.fr fr (by simp; exact fun z => HNM2.out z.symm), fun g e => ?_, HNM2.out⟩
        · rw [List.length_append, HNN.out.1]
          exact own_fr fr q1 (fun g e => by
            have : some g5 = some g := e
            simp at this
            simp
            rw [← this]
            exact q4.1)
        · have : some g5 = some g := e
          simp at this
          rw [← this]
          exact q4
      have HF6 : Hid (Fr (hb :: mb :: (Value.slice ra n rc).ownBlock.toList) w (w5.setCell ⟨hb, 0, none⟩ (.slice (some ⟨g5, 0, none⟩) (n + 1) rc5))) := Fr.trans HF5.out.1 ((setCells_fr w5 hb [.slice (some ⟨g5, 0, none⟩) (n + 1) rc5] 0).mono (by simp))
      have f6 := five_cells f5 HEH.out 0 [.slice (some ⟨g5, 0, none⟩) (n + 1) rc5]
      generalize hw6 : w5.setCell ⟨hb, 0, none⟩ (.slice (some ⟨g5, 0, none⟩) (n + 1) rc5) = w6 at *
      have f7 : Five w6 eb (.int .i64 e.s) (.int .i64 e.r) (.int .i64 e.c) (.int .i64 e.ln) (.int .i64 e.lv) := by rw [← hw6]; exact f6
      clear hw6 f6
      have c16 := HQ6.out.hd.two.2.1
      refine hK.out _ _ ⟨c16, f7⟩ (fun hHeld => ?_)
      clear hK K hHeld
      try simp only [Act.put, List.setIfInBounds_toArray, List.set_cons_zero, List.set_cons_succ]
      refine wpAnyH_done (by kernel_rfl) ?_ _
      have LA := lay_any hb mb B g5 (n + 1) rc5 (l ++ [e]) F n e w6 HQ6.out (by rw [List.length_append, HNN.out.1]; rfl) (by omega)
      obtain ⟨f10, f11, f12, f13, f14⟩ := f7
      clear f5 c0 c1 z0 HQ5
      go_wp2_with fail
      refine LA.mono ?_
      rintro en w7 ⟨rfl, h7, fr7⟩
      have e7 : (l ++ [e]).set n e = l ++ [e] := by rw [← HNN.out.1]; simp
      rw [e7] at h7
      have HT : Hid (∀ k ∈ (hb :: mb :: [g5]), k ∈ (hb :: mb :: (Value.slice ra n rc).ownBlock.toList) ∨ w.heap.size ≤ k) := fun k hk => by
        simp only [List.mem_cons, List.not_mem_nil, or_false] at hk
        rcases hk with q | q | q
        · left; rw [q]; simp
        · left; rw [q]; simp
        · rw [q]
          rcases HF5.out.2.1 with z | z
          · left
            exact List.mem_cons_of_mem _ (List.mem_cons_of_mem _ z)
          · exact Or.inr z
      have H7 : Hid (HQ w7 hb mb B (.slice (some ⟨g5, 0, none⟩) (n + 1) rc5) (l ++ [e]) (putF ⟨e.s, e.r, e.c⟩ (n : Int) F) ∧ Fr (hb :: mb :: (Value.slice ra n rc).ownBlock.toList) w w7) := ⟨h7, Fr.new HF6.out fr7 HT.out⟩
      have hwf : WF (l ++ [e]) (putF ⟨e.s, e.r, e.c⟩ (n : Int) F) := by
        have := HF.out.1.more HM.out.1
        rw [HNN.out.1] at this
        exact this
      have ST := settle_any hb mb B g5 (n + 1) rc5 (l ++ [e]) (putF ⟨e.s, e.r, e.c⟩ (n : Int) F) n w7 H7.out.1 hwf (by rw [List.length_append, HNN.out.1]; rfl) (by omega) (fun _ => by have := HNN.out.2 trivial; omega)
      clear LA h7 fr7 hwf e7
      go_wp2_with fail
      refine ST.mono ?_
      rintro en w8 ⟨l8, F8, rfl, h8, hu⟩
      have H8 : Hid (PutP w hb mb B (.slice ra n rc) l e (.returned (.tuple #[])) w8) := by
        have hheap : Wq.Heap Wq.ltW (n + 1) 0 (fnW l8) := hu (by
          rw [fnW_app, HNN.out.1]
          have := HF.out.2
          rw [HNN.out.1] at this
          exact this.more e)
        refine ⟨_, l8, F8, rfl, ⟨h8.q, h8.f, by rw [h8.len]; exact hheap⟩, ?_, Fr.new H7.out.2 h8.fr HT.out, ?_⟩
        · rw [offW_none HM.out.2]
          exact h8.p.trans (List.perm_append_singleton _ _)
        · rcases HF5.out.2.2 with z | z
          · exact Or.inl z
          · refine Or.inr (fun g e => ?_)
            have : some g5 = some g := e
            simp at this
            omega
      clear ST h8 hu
      go_wp2
      go_end0
      exact H8.out
    · have ba := ball (Below.refl W3.heap.size W3) (.cells #[.int .i64 e.s, .int .i64 e.r, .int .i64 e.c, .int .i64 e.ln, .int .i64 e.lv] 58)
      have aN := AtL.new0 W3 58 (wrV e)
      have HQ4 : Hid (HQ (W3.alloc (.cells #[.int .i64 e.s, .int .i64 e.r, .int .i64 e.c, .int .i64 e.ln, .int .i64 e.lv] 58)) hb mb B (.slice ra n rc) l F) := HQ3.out.below ba
      have HB4 : Hid (Below w.heap.size w (W3.alloc (.cells #[.int .i64 e.s, .int .i64 e.r, .int .i64 e.c, .int .i64 e.ln, .int .i64 e.lv] 58))) := below_end HB3.out ba
      replace f1 := five_below ba f1
      clear c0 c1
      obtain ⟨c0, c1, _, _⟩ := HQ4.out.hd.two
      go_simp
      refine hK.out _ _ ⟨c1, f1⟩ (fun hHeld => ?_)
      clear hK K ba HQ3 HB3
      try simp only [Act.put, List.setIfInBounds_toArray, List.set_cons_zero, List.set_cons_succ]
      refine wpAnyH_ready (rs := [4]) (by kernel_rfl) (by simp) ?_
      refine AllReadyH.cons (o := { dst := Option.some 28, op := Op.load 68 (Operand.tmp 27), type := 68, pos := "heap.go:24", after := #[{ on := 3, ground := Ground.data }], guard := Option.none }) rfl (fun K hK => ?_) AllReadyH.nil
      go_simp
      refine hK.out _ _ ⟨c1, f1⟩ (fun hHeld => ?_)
      clear hK K
      try simp only [Act.put, List.setIfInBounds_toArray, List.set_cons_zero, List.set_cons_succ]
      have hS3 : W3.heap.size < (W3.alloc (.cells #[.int .i64 e.s, .int .i64 e.r, .int .i64 e.c, .int .i64 e.ln, .int .i64 e.lv] 58)).heap.size := by simp
      have aN2 : AtL (W3.alloc (.cells #[.int .i64 e.s, .int .i64 e.r, .int .i64 e.c, .int .i64 e.ln, .int .i64 e.lv] 58)) W3.heap.size (wrV e) := aN
      clear aN
      generalize W3.alloc (.cells #[.int .i64 e.s, .int .i64 e.r, .int .i64 e.c, .int .i64 e.ln, .int .i64 e.lv] 58) = W4 at *
      generalize hk3 : W3.heap.size = k3 at *
      clear hk3
      refine wpAnyH_ready (rs := [7]) (by kernel_rfl) (by simp) ?_
      refine AllReadyH.cons (o := { dst := Option.some 31, op := Op.call { callee := Callee.builtin Builtin.append, args := #[Operand.tmp 28, Operand.tmp 30], argTypes := #[68, 68] }, type := 68, pos := "heap.go:24", after := #[{ on := 4, ground := Ground.data }, { on := 6, ground := Ground.data }], guard := Option.none }) rfl (fun K hK => ?_) AllReadyH.nil
      have oR := HQ4.out.own
      rw [HNN.out.1] at oR
      refine wp_apQ (.tmp 28) (.tmp 30) rfl W4 B (Nat.le_trans HBB.out HB4.out.size) (.slice ra n rc) n (flatW l) rfl oR k3 e rfl aN2 (by have := HNN.out.2 trivial; omega) ?_
      intro v5 w5 o5 hg5 hz5
      obtain ⟨ra5, rc5, e5, _, hr5⟩ := own_open o5
      obtain ⟨g5, e6, _⟩ := hr5 (by omega)
      subst e6
      subst e5
      have HQ5 : Hid ((w5.ownsRow B 58 5 (.slice (some ⟨g5, 0, none⟩) (n + 1) rc5) (n + 1) (flatW (l ++ [e]))) ∧ AtL w5 hb [.slice ra n rc, .map (some mb)] ∧ CM w5 mb F ∧ (g5 ≠ hb ∧ g5 ≠ mb)) := by
        have fr : Fr (Value.slice ra n rc).ownBlock.toList W4 w5 := Fr.of_grown hg5 (fun k e => by rw [e]; simp)
        have nin : ∀ k, (∀ g, (Value.slice ra n rc).ownBlock = some g → g ≠ k) → k ∉ (Value.slice ra n rc).ownBlock.toList := fun k hk hm => by
          cases c : (Value.slice ra n rc).ownBlock with
          | none => rw [c] at hm; simp at hm
          | some y =>
            rw [c] at hm
            simp at hm
            exact hk y c hm.symm
        refine ⟨by rw [flatW_app]; simpa [flatW] using o5, HQ4.out.hd.fr fr (nin hb (fun g e => (HQ4.out.nb g e).1)), HQ4.out.mp.fr fr (nin mb (fun g e => (HQ4.out.nb g e).2)), ?_⟩
        rcases hz5 with q | q
        · exact HQ4.out.nb g5 (by rw [← q]; rfl)
        · have h1 := HQ4.out.hd.1
          have h2 := HQ4.out.mp.lt
          have : some g5 = some W4.heap.size := q
          simp at this
          omega
      have HF5 : Hid (Fr (hb :: mb :: (Value.slice ra n rc).ownBlock.toList) w w5 ∧ (g5 ∈ (Value.slice ra n rc).ownBlock.toList ∨ w.heap.size ≤ g5) ∧ ((Value.slice (some ⟨g5, 0, none⟩) (n + 1) rc5).ownBlock = (Value.slice ra n rc).ownBlock ∨ w.heap.size ≤ g5)) := by
        have fr : Fr (hb :: mb :: (Value.slice ra n rc).ownBlock.toList) W4 w5 := Fr.of_grown hg5 (fun k e => by rw [e]; simp)
        have hs := HB4.out.size
        refine ⟨Fr.trans (Fr.of_below _ HB4.out) fr, ?_, ?_⟩
        · rcases hz5 with q | q
          · left
            rw [← q]
            simp [Value.ownBlock]
          · have : some g5 = some W4.heap.size := q
            simp at this
            right
            omega
        · rcases hz5 with q | q
          · exact Or.inl q
          · have : some g5 = some W4.heap.size := q
            simp at this
            right
            omega
      have f5 := five_fr (S := (Value.slice ra n rc).ownBlock.toList) (Fr.of_grown hg5 (fun k e => by rw [e]; simp)) (by
          intro hm
          cases c : (Value.slice ra n rc).ownBlock with
          | none => rw [c] at hm; simp at hm
          | some y =>
            rw [c] at hm
            simp at hm
            have := HRB.out y c
            omega) f1
      obtain ⟨c0, c1, z0, _⟩ := HQ5.out.2.1.two
      refine hK.out _ _ ⟨c1, f5⟩ (fun hHeld => ?_)
      clear hK K oR o5 hg5 hz5 hr5 aN2 HQ4 HB4 f1
      try simp only [Act.put, List.setIfInBounds_toArray, List.set_cons_zero, List.set_cons_succ]
      refine wpAnyH_take (i := 8) (oi := { dst := Option.some 32, op := Op.nilCheck (Operand.tmp 24), type := 0, pos := "heap.go:24", after := #[{ on := 0, ground := Ground.data }, { on := 0, ground := Ground.phase }, { on := 1, ground := Ground.phase }, { on := 2, ground := Ground.phase }, { on := 3, ground := Ground.phase }, { on := 4, ground := Ground.phase }, { on := 5, ground := Ground.phase }, { on := 6, ground := Ground.phase }, { on := 7, ground := Ground.phase }], guard := Option.none }) (v := ?_) rfl (by kernel_rfl) (by kernel_rfl) (by kernel_rfl) (fun _ _ _ h => h) (Or.inl ⟨by rfl, ?_⟩) (by assumption) ?_
      rotate_left
      · intro w hSw
        (try dsimp only at hSw)
        go_simp
        try with_reducible rfl
      try simp only [Act.put, List.setIfInBounds_toArray, List.set_cons_zero, List.set_cons_succ]
      refine wpAnyH_take (i := 9) (oi := { dst := Option.some 33, op := Op.fieldAddr 76 (Operand.tmp 32) 0, type := 0, pos := "heap.go:24", after := #[{ on := 8, ground := Ground.data }, { on := 0, ground := Ground.phase }, { on := 1, ground := Ground.phase }, { on := 2, ground := Ground.phase }, { on := 3, ground := Ground.phase }, { on := 4, ground := Ground.phase }, { on := 5, ground := Ground.phase }, { on := 6, ground := Ground.phase }, { on := 7, ground := Ground.phase }], guard := Option.none }) (v := ?_) rfl (by kernel_rfl) (by kernel_rfl) (by kernel_rfl) (fun _ _ _ h => h) (Or.inl ⟨by rfl, ?_⟩) (by assumption) ?_
      rotate_left
      · intro w hSw
        (try dsimp only at hSw)
        go_simp
        try with_reducible rfl
      try simp only [Act.put, List.setIfInBounds_toArray, List.set_cons_zero, List.set_cons_succ]
      refine wpAnyH_ready (rs := [10]) (by kernel_rfl) (by simp) ?_
      refine AllReadyH.cons (o := { dst := Option.none, op := Op.store 68 (Operand.tmp 33) (Operand.tmp 31), type := 0, pos := "heap.go:24", after := #[{ on := 9, ground := Ground.data }, { on := 7, ground := Ground.data }, { on := 7, ground := Ground.chain }, { on := 0, ground := Ground.phase }, { on := 1, ground := Ground.phase }, { on := 2, ground := Ground.phase }, { on := 3, ground := Ground.phase }, { on := 4, ground := Ground.phase }, { on := 5, ground := Ground.phase }, { on := 6, ground := Ground.phase }, { on := 7, ground := Ground.phase }], guard := Option.none }) rfl (fun K hK => ?_) AllReadyH.nil
      go_simp
      have HQ6 : Hid (HQ (w5.setCell ⟨hb, 0, none⟩ (.slice (some ⟨g5, 0, none⟩) (n + 1) rc5)) hb mb B (.slice (some ⟨g5, 0, none⟩) (n + 1) rc5) (l ++ [e]) F) := by
        obtain ⟨q1, q2, q3, q4⟩ := HQ5.out
        have fr := setCells_fr w5 hb [.slice (some ⟨g5, 0, none⟩) (n + 1) rc5] 0
        refine ⟨q2.set 0 _, ?_, q3.fr fr (by simp; exact fun z => HNM2.out z.symm), fun g e => ?_, HNM2.out⟩
        · rw [List.length_append, HNN.out.1]
          exact own_fr fr q1 (fun g e => by
            have : some g5 = some g := e
            simp at this
            simp
            rw [← this]
            exact q4.1)
        · have : some g5 = some g := e
          simp at this
          rw [← this]
          exact q4
      have HF6 : Hid (Fr (hb :: mb :: (Value.slice ra n rc).ownBlock.toList) w (w5.setCell ⟨hb, 0, none⟩ (.slice (some ⟨g5, 0, none⟩) (n + 1) rc5))) := Fr.trans HF5.out.1 ((setCells_fr w5 hb [.slice (some ⟨g5, 0, none⟩) (n + 1) rc5] 0).mono (by simp))
      have f6 := five_cells f5 HEH.out 0 [.slice (some ⟨g5, 0, none⟩) (n + 1) rc5]
      generalize hw6 : w5.setCell ⟨hb, 0, none⟩ (.slice (some ⟨g5, 0, none⟩) (n + 1) rc5) = w6 at *
      have f7 : Five w6 eb (.int .i64 e.s) (.int .i64 e.r) (.int .i64 e.c) (.int .i64 e.ln) (.int .i64 e.lv) := by rw [← hw6]; exact f6
      clear hw6 f6
      have c16 := HQ6.out.hd.two.2.1
      refine hK.out _ _ ⟨c16, f7⟩ (fun hHeld => ?_)
      clear hK K hHeld
      try simp only [Act.put, List.setIfInBounds_toArray, List.set_cons_zero, List.set_cons_succ]
      refine wpAnyH_done (by kernel_rfl) ?_ _
      have LA := lay_any hb mb B g5 (n + 1) rc5 (l ++ [e]) F n e w6 HQ6.out (by rw [List.length_append, HNN.out.1]; rfl) (by omega)
      obtain ⟨f10, f11, f12, f13, f14⟩ := f7
      clear f5 c0 c1 z0 HQ5
      go_wp2_with fail
      refine LA.mono ?_
      rintro en w7 ⟨rfl, h7, fr7⟩
      have e7 : (l ++ [e]).set n e = l ++ [e] := by rw [← HNN.out.1]; simp
      rw [e7] at h7
      have HT : Hid (∀ k ∈ (hb :: mb :: [g5]), k ∈ (hb :: mb :: (Value.slice ra n rc).ownBlock.toList) ∨ w.heap.size ≤ k) := fun k hk => by
        simp only [List.mem_cons, List.not_mem_nil, or_false] at hk
        rcases hk with q | q | q
        · left; rw [q]; simp
        · left; rw [q]; simp
        · rw [q]
          rcases HF5.out.2.1 with z | z
          · left
            exact List.mem_cons_of_mem _ (List.mem_cons_of_mem _ z)
          · exact Or.inr z
      have H7 : Hid (HQ w7 hb mb B (.slice (some ⟨g5, 0, none⟩) (n + 1) rc5) (l ++ [e]) (putF ⟨e.s, e.r, e.c⟩ (n : Int) F) ∧ Fr (hb :: mb :: (Value.slice ra n rc).ownBlock.toList) w w7) := ⟨h7, Fr.new HF6.out fr7 HT.out⟩
      have hwf : WF (l ++ [e]) (putF ⟨e.s, e.r, e.c⟩ (n : Int) F) := by
        have := HF.out.1.more HM.out.1
        rw [HNN.out.1] at this
        exact this
      have ST := settle_any hb mb B g5 (n + 1) rc5 (l ++ [e]) (putF ⟨e.s, e.r, e.c⟩ (n : Int) F) n w7 H7.out.1 hwf (by rw [List.length_append, HNN.out.1]; rfl) (by omega) (fun _ => by have := HNN.out.2 trivial; omega)
      clear LA h7 fr7 hwf e7
      go_wp2_with fail
      refine ST.mono ?_
      rintro en w8 ⟨l8, F8, rfl, h8, hu⟩
      have H8 : Hid (PutP w hb mb B (.slice ra n rc) l e (.returned (.tuple #[])) w8) := by
        have hheap : Wq.Heap Wq.ltW (n + 1) 0 (fnW l8) := hu (by
          rw [fnW_app, HNN.out.1]
          have := HF.out.2
          rw [HNN.out.1] at this
          exact this.more e)
        refine ⟨_, l8, F8, rfl, ⟨h8.q, h8.f, by rw [h8.len]; exact hheap⟩, ?_, Fr.new H7.out.2 h8.fr HT.out, ?_⟩
        · rw [offW_none HM.out.2]
          exact h8.p.trans (List.perm_append_singleton _ _)
        · rcases HF5.out.2.2 with z | z
          · exact Or.inl z
          · refine Or.inr (fun g e => ?_)
            have : some g5 = some g := e
            simp at this
            omega
      clear ST h8 hu
      go_wp2
      go_end0
      exact H8.out

end Go.Proofs.Ytpbjmhcpaeillaa
