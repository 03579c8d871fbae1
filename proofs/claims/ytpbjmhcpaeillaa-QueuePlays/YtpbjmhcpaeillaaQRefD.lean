/- Queues: the document's own queue: Put, Drop, See. -/

import Derived.Test.YtpbjmhcpaeillaaQRefC
namespace Go.Proofs.Ytpbjmhcpaeillaa
open Go.RowKit
set_option linter.unusedVariables false

/-- The document's own queue, as it stands between two calls. -/
structure DQ (w : World) (db B : Nat) (v1 : Value) (R : List (Wpl.Cl × Int)) (v2 : Value) (A : List Wpl.Ar) : Prop where
  hd : AtL w db [v1, v2]
  ol : w.ownsRow B 64 4 v1 R.length (flatV R)
  os : w.ownsRow B 39 5 v2 A.length (flatA A)
  nl : ∀ g, v1.ownBlock = some g → g ≠ db
  ns : ∀ g, v2.ownBlock = some g → g ≠ db
  ls : ∀ g, v1.ownBlock = some g → v2.ownBlock ≠ some g
theorem DQ.fr {w w' : World} {db B : Nat} {v1 v2 : Value} {R : List (Wpl.Cl × Int)} {A : List Wpl.Ar} {S : List Nat} (h : DQ w db B v1 R v2 A) (fr : Fr S w w') (hd : db ∉ S) (h1 : ∀ g, v1.ownBlock = some g → g ∉ S) (h2 : ∀ g, v2.ownBlock = some g → g ∉ S) : DQ w' db B v1 R v2 A := ⟨h.hd.fr fr hd, own_fr fr h.ol h1, own_fr fr h.os h2, h.nl, h.ns, h.ls⟩
theorem DQ.below {w w' : World} {db B : Nat} {v1 v2 : Value} {R : List (Wpl.Cl × Int)} {A : List Wpl.Ar} (h : DQ w db B v1 R v2 A) (hb : Below w.heap.size w w') : DQ w' db B v1 R v2 A := h.fr (Fr.of_below [] hb) (by simp) (by simp) (by simp)
/-- Its blocks: S. -/
def Dn (B : Nat) (w : World) (db : Nat) (R : List (Wpl.Cl × Int)) (A : List Wpl.Ar) (S : List Nat) : Prop := ∃ v1 v2, S = db :: (v1.ownBlock.toList ++ v2.ownBlock.toList) ∧ DQ w db B v1 R v2 A ∧ B ≤ w.heap.size ∧ B ≤ db
def DnP (B : Nat) (w : World) (db : Nat) (R : List (Wpl.Cl × Int)) (A : List Wpl.Ar) (S : List Nat) (r : Value) (en : Ending) (w' : World) : Prop := en = .returned r ∧ ∃ S', Dn B w' db R A S' ∧ Fr S w w' ∧ ∀ k ∈ S', k ∈ S ∨ w.heap.size ≤ k
theorem Dn.below {B : Nat} {w w' : World} {db : Nat} {R : List (Wpl.Cl × Int)} {A : List Wpl.Ar} {S : List Nat} (h : Dn B w db R A S) (hb : Below w.heap.size w w') : Dn B w' db R A S := by
  obtain ⟨v1, v2, e, hq, h1, h2⟩ := h
  exact ⟨v1, v2, e, hq.below hb, Nat.le_trans h1 hb.size, h2⟩
theorem Dn.lt {B : Nat} {w : World} {db : Nat} {R : List (Wpl.Cl × Int)} {A : List Wpl.Ar} {S : List Nat} (h : Dn B w db R A S) : ∀ k ∈ S, B ≤ k ∧ k < w.heap.size := by
  obtain ⟨v1, v2, e, hq, h1, h2⟩ := h
  subst e
  intro k hk
  rcases List.mem_cons.1 hk with q | q
  · rw [q]; exact ⟨h2, hq.hd.1⟩
  · rcases List.mem_append.1 q with q | q
    · rw [Option.mem_toList] at q
      exact own_blk hq.ol q
    · rw [Option.mem_toList] at q
      exact own_blk hq.os q
theorem Dn.kept {B : Nat} {w w' : World} {db : Nat} {R : List (Wpl.Cl × Int)} {A : List Wpl.Ar} {S S' : List Nat} (h : Dn B w db R A S) (fr : Fr S' w w') (hs : ∀ k ∈ S, k ∉ S') : Dn B w' db R A S := by
  obtain ⟨v1, v2, e, hq, h1, h2⟩ := h
  subst e
  refine ⟨v1, v2, rfl, hq.fr fr (hs db (by simp)) (fun g e => hs g ?_) (fun g e => hs g ?_), Nat.le_trans h1 fr.size, h2⟩
  · simp [e]
  · simp [e]
theorem DQ.dr {w : World} {db B : Nat} {v1 v2 : Value} {R : List (Wpl.Cl × Int)} {A : List Wpl.Ar} (h : DQ w db B v1 R v2 A) : ∃ a1 c1 a2 c2, v1 = .slice a1 R.length c1 ∧ v2 = .slice a2 A.length c2 ∧ Dr w db R A a1 R.length c1 a2 A.length c2 := by
  obtain ⟨a1, c1, e1, r1, _⟩ := RdV.of_own h.ol rfl
  obtain ⟨a2, c2, e2, r2, _⟩ := RdQ.of_ownV h.os rfl
  subst e1 e2
  exact ⟨a1, c1, a2, c2, rfl, rfl, h.hd, r1, rfl, r2, rfl⟩
theorem set_same {xs : List Value} {o : Nat} {a : Value} (h : xs[o]? = some a) : xs.set o a = xs := by
  apply List.ext_getElem?
  intro j
  rw [List.getElem?_set]
  by_cases c : o = j
  · subst c
    rw [if_pos rfl, if_pos (List.getElem?_eq_some_iff.1 h).1, h]
  · rw [if_neg c]
theorem flatV_lev (U : List (Wpl.Cl × Int)) {i : Nat} {p : Wpl.Cl × Int} (hp : U[i]? = some p) (lv : Int) : (flatV U).set (i * 4 + 3) (.int .i64 lv) = flatV (U.set i (p.1, lv)) := by
  obtain ⟨hi, e⟩ := List.getElem?_eq_some_iff.1 hp
  have g : ∀ c, c < 4 → (flatV U)[i * 4 + c]? = (wtV p)[c]? := fun c hc => by rw [flatV_gt U i hi c hc, e]
  rw [← flatV_set U i hi (p.1, lv)]
  show _ = ((((flatV U).set (i * 4) (.int .i64 p.1.s)).set (i * 4 + 1) (.int .i64 p.1.r)).set (i * 4 + 1 + 1) (.int .i64 p.1.c)).set (i * 4 + 1 + 1 + 1) (.int .i64 lv)
  have s0 : (flatV U).set (i * 4) (.int .i64 p.1.s) = flatV U := set_same (by have := g 0 (by omega); rw [Nat.add_zero] at this; rw [this]; rfl)
  have s1 : (flatV U).set (i * 4 + 1) (.int .i64 p.1.r) = flatV U := set_same (by rw [g 1 (by omega)]; rfl)
  have s2 : (flatV U).set (i * 4 + 1 + 1) (.int .i64 p.1.c) = flatV U := set_same (by rw [show i * 4 + 1 + 1 = i * 4 + 2 from by omega, g 2 (by omega)]; rfl)
  rw [s0, s1, s2]
/-- A row with the level of a cell laid anew, or with the cell behind it. -/
def RPut (R : List (Wpl.Cl × Int)) (x : Wpl.Cl) (lv : Int) (R' : List (Wpl.Cl × Int)) : Prop := ((∀ p ∈ R, p.1 ≠ x) ∧ R' = R ++ [(x, lv)]) ∨ ∃ (i : Nat) (p : Wpl.Cl × Int), R[i]? = some p ∧ p.1 = x ∧ R' = R.set i (x, lv)
def RPutP (B : Nat) (w : World) (db : Nat) (R : List (Wpl.Cl × Int)) (A : List Wpl.Ar) (S : List Nat) (x : Wpl.Cl) (lv : Int) (en : Ending) (w' : World) : Prop := ∃ R', RPut R x lv R' ∧ DnP B w db R' A S (.tuple #[]) en w'
set_option maxRecDepth 100000 in
set_option maxHeartbeats 16000000 in
theorem rput_any {B : Nat} {w : World} {db : Nat} {R : List (Wpl.Cl × Int)} {A : List Wpl.Ar} {S : List Nat} (h : Dn B w db R A S) (x : Wpl.Cl) (lv : Int) (hN : True → R.length + 1 ≤ 1000000000) :
    Calls Try.prog 12 #[.pointer (some ⟨db, 0, none⟩), .agg #[.int .i64 x.s, .int .i64 x.r, .int .i64 x.c], .int .i64 lv] w (RPutP B w db R A S x lv) := by
  obtain ⟨v1, v2, eS, hq, hBw, hBd⟩ := h
  subst eS
  have hb0 := ball (Below.refl _ w) (.cells #[.int .i64 x.s, .int .i64 x.r, .int .i64 x.c] 33)
  have HD0 : Hid (DQ (w.alloc (.cells #[.int .i64 x.s, .int .i64 x.r, .int .i64 x.c] 33)) db B v1 R v2 A) := hq.below hb0
  have t3 := AtL.f3 (AtL.new0 w 33 [.int .i64 x.s, .int .i64 x.r, .int .i64 x.c])
  have HB0 : Hid (Below w.heap.size w (w.alloc (.cells #[.int .i64 x.s, .int .i64 x.r, .int .i64 x.c] 33))) := hb0
  have HBB : Hid (B ≤ w.heap.size) := hBw
  have HDB : Hid (B ≤ db) := hBd
  have HN : Hid (True → R.length + 1 ≤ 1000000000) := hN
  obtain ⟨a1, c1, a2, c2, e1, e2, hdr⟩ := HD0.out.dr
  have FD := find_any db R A a1 R.length c1 a2 A.length c2 x _ hdr (fun _ => by have := hN trivial; omega)
  have HE12 : Hid (v1 = .slice a1 R.length c1 ∧ v2 = .slice a2 A.length c2) := ⟨e1, e2⟩
  have hl1 : ∀ g, v1.ownBlock = some g → g < w.heap.size := fun g e => (own_blk hq.ol e).2
  have hl2 : db < w.heap.size := hq.hd.1
  have hl3 : ∀ g, v2.ownBlock = some g → g < w.heap.size := fun g e => (own_blk hq.os e).2
  clear hq hb0 hBw hBd hN e1 e2 hdr
  go_enter Try.func12, Try.ntmps12
  go_upto_region 1 with fail
  have HLT0 : Hid ((∀ g, v1.ownBlock = some g → g < w.heap.size) ∧ db < w.heap.size ∧ (∀ g, v2.ownBlock = some g → g < w.heap.size)) := ⟨hl1, hl2, hl3⟩
  clear hl1 hl2 hl3
  have HSZ : Hid (∃ eb, w.heap.size = eb) := ⟨_, rfl⟩
  generalize w.alloc (.cells #[.int .i64 x.s, .int .i64 x.r, .int .i64 x.c] 33) = W0 at *
  obtain ⟨eb, heb⟩ := HSZ.out
  have HEB : Hid (w.heap.size = eb) := heb
  rw [heb] at t3
  rw [heb]
  clear heb HSZ
  obtain ⟨f0, f1, f2⟩ := t3
  go_wp2_with fail
  refine FD.mono ?_
  rintro en w1 ⟨⟨z, rfl, hz⟩, hb1⟩
  have HB1 : Hid (Below w.heap.size w w1) := below_end HB0.out hb1
  have HD1 : Hid (DQ w1 db B v1 R v2 A) := HD0.out.below hb1
  have t3 : Three w1 eb (.int .i64 x.s) (.int .i64 x.r) (.int .i64 x.c) := three_below hb1 ⟨f0, f1, f2⟩
  clear FD hb1 HD0 HB0 f0 f1 f2
  obtain ⟨c0, _, _, _⟩ := HD1.out.hd.two
  rcases hz with ⟨rfl, hno⟩ | ⟨i, p, rfl, hp, e⟩
  · have HNO : Hid (∀ p ∈ R, p.1 ≠ x) := hno
    have HLT : Hid ((∀ g, v1.ownBlock = some g → g < eb) ∧ db < eb) := by rw [← HEB.out]; exact ⟨HLT0.out.1, HLT0.out.2.1⟩
    clear hno HE12 HEB
    go_upto_region 3 with fail
    have hb1 := (Below.refl w1.heap.size w1).drew
    refine wp_region_held_drew (S := fun W => Three W eb (.int .i64 x.s) (.int .i64 x.r) (.int .i64 x.c)) (by kernel_rfl) (three_below hb1 t3) (fun hHeld => ?_)
    have HD2 : Hid (DQ w1.drew db B v1 R v2 A) := HD1.out.below hb1
    have HB2 : Hid (Below w.heap.size w w1.drew) := below_end HB1.out hb1
    replace t3 := three_below hb1 t3
    clear hb1 HD1 HB1 c0
    generalize w1.drew = W2 at *
    obtain ⟨c0, _, _, _⟩ := HD2.out.hd.two
    refine wpAnyH_take (i := 0) (oi := { dst := Option.some 12, op := Op.move (Operand.tmp 0), type := 27, pos := "queue.go:34", after := #[], guard := Option.none }) (v := ?_) rfl (by kernel_rfl) (by kernel_rfl) (by kernel_rfl) (fun _ _ _ h => h) (Or.inl ⟨by rfl, ?_⟩) (by assumption) ?_
    rotate_left
    · intro w hSw
      (try dsimp only at hSw)
      go_simp
      try with_reducible rfl
    try simp only [Act.put, List.setIfInBounds_toArray, List.set_cons_zero, List.set_cons_succ]
    refine wpAnyH_take (i := 1) (oi := { dst := Option.some 13, op := Op.move (Operand.tmp 0), type := 27, pos := "queue.go:34", after := #[], guard := Option.none }) (v := ?_) rfl (by kernel_rfl) (by kernel_rfl) (by kernel_rfl) (fun _ _ _ h => h) (Or.inl ⟨by rfl, ?_⟩) (by assumption) ?_
    rotate_left
    · intro w hSw
      (try dsimp only at hSw)
      go_simp
      try with_reducible rfl
    try simp only [Act.put, List.setIfInBounds_toArray, List.set_cons_zero, List.set_cons_succ]
    refine wpAnyH_take (i := 2) (oi := { dst := Option.some 14, op := Op.nilCheck (Operand.tmp 13), type := 0, pos := "queue.go:34", after := #[{ on := 1, ground := Ground.data }], guard := Option.none }) (v := ?_) rfl (by kernel_rfl) (by kernel_rfl) (by kernel_rfl) (fun _ _ _ h => h) (Or.inl ⟨by rfl, ?_⟩) (by assumption) ?_
    rotate_left
    · intro w hSw
      (try dsimp only at hSw)
      go_simp
      try with_reducible rfl
    try simp only [Act.put, List.setIfInBounds_toArray, List.set_cons_zero, List.set_cons_succ]
    refine wpAnyH_take (i := 3) (oi := { dst := Option.some 15, op := Op.fieldAddr 31 (Operand.tmp 14) 0, type := 0, pos := "queue.go:34", after := #[{ on := 2, ground := Ground.data }], guard := Option.none }) (v := ?_) rfl (by kernel_rfl) (by kernel_rfl) (by kernel_rfl) (fun _ _ _ h => h) (Or.inl ⟨by rfl, ?_⟩) (by assumption) ?_
    rotate_left
    · intro w hSw
      (try dsimp only at hSw)
      go_simp
      try with_reducible rfl
    try simp only [Act.put, List.setIfInBounds_toArray, List.set_cons_zero, List.set_cons_succ]
    refine wpAnyH_take (i := 5) (oi := { dst := Option.some 17, op := Op.load 33 (Operand.tmp 4), type := 33, pos := "queue.go:34", after := #[], guard := Option.none }) (v := ?_) rfl (by kernel_rfl) (by kernel_rfl) (by kernel_rfl) (fun _ _ _ h => h) (Or.inl ⟨by rfl, ?_⟩) (by assumption) ?_
    rotate_left
    · intro w hSw
      (try dsimp only at hSw)
      go_simp
      try with_reducible rfl
    try simp only [Act.put, List.setIfInBounds_toArray, List.set_cons_zero, List.set_cons_succ]
    refine wpAnyH_take (i := 6) (oi := { dst := Option.some 18, op := Op.move (Operand.tmp 2), type := 3, pos := "queue.go:34", after := #[], guard := Option.none }) (v := ?_) rfl (by kernel_rfl) (by kernel_rfl) (by kernel_rfl) (fun _ _ _ h => h) (Or.inl ⟨by rfl, ?_⟩) (by assumption) ?_
    rotate_left
    · intro w hSw
      (try dsimp only at hSw)
      go_simp
      try with_reducible rfl
    try simp only [Act.put, List.setIfInBounds_toArray, List.set_cons_zero, List.set_cons_succ]
    refine wpAnyH_take (i := 7) (oi := { dst := Option.some 19, op := Op.build 64 #[(0, Operand.tmp 17), (1, Operand.tmp 18)], type := 64, pos := "queue.go:34", after := #[{ on := 5, ground := Ground.data }, { on := 6, ground := Ground.data }], guard := Option.none }) (v := ?_) rfl (by kernel_rfl) (by kernel_rfl) (by kernel_rfl) (fun _ _ _ h => h) (Or.inl ⟨by rfl, ?_⟩) (by assumption) ?_
    rotate_left
    · intro w hSw
      (try dsimp only at hSw)
      go_simp
      try with_reducible rfl
    try simp only [Act.put, List.setIfInBounds_toArray, List.set_cons_zero, List.set_cons_succ]
    refine wpAnyH_ready (rs := [4, 8]) (by kernel_rfl) (by simp) ?_
    refine AllReadyH.cons (o := { dst := Option.some 16, op := Op.load 28 (Operand.tmp 15), type := 28, pos := "queue.go:34", after := #[{ on := 3, ground := Ground.data }], guard := Option.none }) rfl (fun K hK => ?_) (AllReadyH.cons (o := { dst := Option.some 20, op := Op.buildSlice 28 1 #[(0, Operand.tmp 19)], type := 28, pos := "queue.go:34", after := #[{ on := 7, ground := Ground.data }], guard := Option.none }) rfl (fun K hK => ?_) AllReadyH.nil)
    · go_simp
      refine hK.out _ _ t3 (fun hHeld => ?_)
      clear hK K
      try simp only [Act.put, List.setIfInBounds_toArray, List.set_cons_zero, List.set_cons_succ]
      refine wpAnyH_ready (rs := [8]) (by kernel_rfl) (by simp) ?_
      refine AllReadyH.cons (o := { dst := Option.some 20, op := Op.buildSlice 28 1 #[(0, Operand.tmp 19)], type := 28, pos := "queue.go:34", after := #[{ on := 7, ground := Ground.data }], guard := Option.none }) rfl (fun K hK => ?_) AllReadyH.nil
      have ba := ball (Below.refl W2.heap.size W2) (.cells #[.int .i64 x.s, .int .i64 x.r, .int .i64 x.c, .int .i64 lv] 64)
      have aN := AtL.new0 W2 64 [.int .i64 x.s, .int .i64 x.r, .int .i64 x.c, .int .i64 lv]
      have HD3 : Hid (DQ (W2.alloc (.cells #[.int .i64 x.s, .int .i64 x.r, .int .i64 x.c, .int .i64 lv] 64)) db B v1 R v2 A) := HD2.out.below ba
      have HB3 : Hid (Below w.heap.size w (W2.alloc (.cells #[.int .i64 x.s, .int .i64 x.r, .int .i64 x.c, .int .i64 lv] 64))) := below_end HB2.out ba
      replace t3 := three_below ba t3
      clear c0
      obtain ⟨c0, _, _, _⟩ := HD3.out.hd.two
      go_simp
      refine hK.out _ _ t3 (fun hHeld => ?_)
      clear hK K ba HD2 HB2
      try simp only [Act.put, List.setIfInBounds_toArray, List.set_cons_zero, List.set_cons_succ]
      have HC2 : Hid (∀ j v, (flatV [(x, lv)])[j]? = some v → (W2.alloc (.cells #[.int .i64 x.s, .int .i64 x.r, .int .i64 x.c, .int .i64 lv] 64)).cell? ⟨W2.heap.size, 0 + j, none⟩ = some v) := fun j v hv => by rw [Nat.zero_add]; exact aN.2.1 j v hv
      clear aN c0
      generalize W2.alloc (.cells #[.int .i64 x.s, .int .i64 x.r, .int .i64 x.c, .int .i64 lv] 64) = W4 at *
      generalize hk3 : W2.heap.size = k3 at *
      clear hk3
      refine wpAnyH_ready (rs := [9]) (by kernel_rfl) (by simp) ?_
      refine AllReadyH.cons (o := { dst := Option.some 21, op := Op.call { callee := Callee.builtin Builtin.append, args := #[Operand.tmp 16, Operand.tmp 20], argTypes := #[28, 28] }, type := 28, pos := "queue.go:34", after := #[{ on := 4, ground := Ground.data }, { on := 8, ground := Ground.data }], guard := Option.none }) rfl (fun K hK => ?_) AllReadyH.nil
      refine wp_apV (.tmp 16) (.tmp 20) rfl W4 B (Nat.le_trans HBB.out HB3.out.size) v1 R.length (flatV R) (by rfl) HD3.out.ol k3 0 1 1 [(x, lv)] (by rfl) (by rfl) HC2.out (by have := HN.out trivial; omega) ?_
      intro v5 w5 o5 hg5 hz5
      obtain ⟨ra5, rc5, e5, _, _⟩ := own_open o5
      subst e5
      have HFR : Hid (Fr v1.ownBlock.toList W4 w5) := Fr.of_grown hg5 (fun k e => by rw [e]; simp)
      have HT5 : Hid (Three w5 eb (.int .i64 x.s) (.int .i64 x.r) (.int .i64 x.c)) := by
        have hn : eb ∉ v1.ownBlock.toList := fun hm => by
          rw [Option.mem_toList] at hm
          have := HLT.out.1 eb hm
          omega
        exact ⟨HFR.out.cell t3.1 hn, HFR.out.cell t3.2.1 hn, HFR.out.cell t3.2.2 hn⟩
      have HD5 : Hid (AtL w5 db [v1, v2] ∧ w5.ownsRow B 39 5 v2 A.length (flatA A) ∧ w5.ownsRow B 64 4 (.slice ra5 (R.length + 1) rc5) (R.length + 1) (flatV (R ++ [(x, lv)]))) := by
        refine ⟨HD3.out.hd.fr HFR.out (fun hm => ?_), own_fr HFR.out HD3.out.os (fun g e hm => ?_), by rw [flatV_app]; exact o5⟩
        · rw [Option.mem_toList] at hm
          exact HD3.out.nl db hm rfl
        · rw [Option.mem_toList] at hm
          exact HD3.out.ls g hm e
      have HZ5 : Hid ((Value.slice ra5 (R.length + 1) rc5).ownBlock = v1.ownBlock ∨ ∀ g, (Value.slice ra5 (R.length + 1) rc5).ownBlock = some g → W4.heap.size ≤ g) := by
        rcases hz5 with q | q
        · exact Or.inl q
        · exact Or.inr (fun g e => by rw [q] at e; simp at e; omega)
      clear o5 hg5 hz5 t3 HC2
      refine hK.out _ _ HT5.out (fun hHeld => ?_)
      clear hK K
      try simp only [Act.put, List.setIfInBounds_toArray, List.set_cons_zero, List.set_cons_succ]
      refine wpAnyH_take (i := 10) (oi := { dst := Option.some 22, op := Op.nilCheck (Operand.tmp 12), type := 0, pos := "queue.go:34", after := #[{ on := 0, ground := Ground.data }, { on := 0, ground := Ground.phase }, { on := 1, ground := Ground.phase }, { on := 2, ground := Ground.phase }, { on := 3, ground := Ground.phase }, { on := 4, ground := Ground.phase }, { on := 5, ground := Ground.phase }, { on := 6, ground := Ground.phase }, { on := 7, ground := Ground.phase }, { on := 8, ground := Ground.phase }, { on := 9, ground := Ground.phase }], guard := Option.none }) (v := ?_) rfl (by kernel_rfl) (by kernel_rfl) (by kernel_rfl) (fun _ _ _ h => h) (Or.inl ⟨by rfl, ?_⟩) (by assumption) ?_
      rotate_left
      · intro w hSw
        (try dsimp only at hSw)
        go_simp
        try with_reducible rfl
      try simp only [Act.put, List.setIfInBounds_toArray, List.set_cons_zero, List.set_cons_succ]
      refine wpAnyH_take (i := 11) (oi := { dst := Option.some 23, op := Op.fieldAddr 31 (Operand.tmp 22) 0, type := 0, pos := "queue.go:34", after := #[{ on := 10, ground := Ground.data }, { on := 0, ground := Ground.phase }, { on := 1, ground := Ground.phase }, { on := 2, ground := Ground.phase }, { on := 3, ground := Ground.phase }, { on := 4, ground := Ground.phase }, { on := 5, ground := Ground.phase }, { on := 6, ground := Ground.phase }, { on := 7, ground := Ground.phase }, { on := 8, ground := Ground.phase }, { on := 9, ground := Ground.phase }], guard := Option.none }) (v := ?_) rfl (by kernel_rfl) (by kernel_rfl) (by kernel_rfl) (fun _ _ _ h => h) (Or.inl ⟨by rfl, ?_⟩) (by assumption) ?_
      rotate_left
      · intro w hSw
        (try dsimp only at hSw)
        go_simp
        try with_reducible rfl
      try simp only [Act.put, List.setIfInBounds_toArray, List.set_cons_zero, List.set_cons_succ]
      refine wpAnyH_ready (rs := [12]) (by kernel_rfl) (by simp) ?_
      refine AllReadyH.cons (o := { dst := Option.none, op := Op.store 28 (Operand.tmp 23) (Operand.tmp 21), type := 0, pos := "queue.go:34", after := #[{ on := 11, ground := Ground.data }, { on := 9, ground := Ground.data }, { on := 9, ground := Ground.chain }, { on := 0, ground := Ground.phase }, { on := 1, ground := Ground.phase }, { on := 2, ground := Ground.phase }, { on := 3, ground := Ground.phase }, { on := 4, ground := Ground.phase }, { on := 5, ground := Ground.phase }, { on := 6, ground := Ground.phase }, { on := 7, ground := Ground.phase }, { on := 8, ground := Ground.phase }, { on := 9, ground := Ground.phase }], guard := Option.none }) rfl (fun K hK => ?_) AllReadyH.nil
      obtain ⟨d0, _, dz, _⟩ := HD5.out.1.two
      go_simp
      have HD6 : Hid (RPutP B w db R A (db :: (v1.ownBlock.toList ++ v2.ownBlock.toList)) x lv (.returned (.tuple #[])) (w5.setCell ⟨db, 0, none⟩ (.slice ra5 (R.length + 1) rc5))) := by
        have fr6 : Fr [db] w5 (w5.setCell ⟨db, 0, none⟩ (.slice ra5 (R.length + 1) rc5)) := setCells_fr w5 db [(.slice ra5 (R.length + 1) rc5)] 0
        have hw : w.heap.size ≤ W4.heap.size := HB3.out.size
        have n5 : ∀ g, (Value.slice ra5 (R.length + 1) rc5).ownBlock = some g → g ≠ db := fun g e => by
          rcases HZ5.out with q | q
          · exact HD3.out.nl g (by rw [← q]; exact e)
          · have h1 := q g e
            have h2 := HD3.out.hd.1
            omega
        have s5 : ∀ g, (Value.slice ra5 (R.length + 1) rc5).ownBlock = some g → v2.ownBlock ≠ some g := fun g e => by
          rcases HZ5.out with q | q
          · exact HD3.out.ls g (by rw [← q]; exact e)
          · intro e2
            have h1 := q g e
            have h2 := (own_blk HD3.out.os e2).2
            omega
        refine ⟨R ++ [(x, lv)], Or.inl ⟨HNO.out, rfl⟩, rfl, _, ⟨.slice ra5 (R.length + 1) rc5, v2, rfl, ⟨HD5.out.1.set 0 (.slice ra5 (R.length + 1) rc5), ?_, own_fr fr6 HD5.out.2.1 (fun g e => by simp; exact HD3.out.ns g e), n5, HD3.out.ns, s5⟩, ?_, HDB.out⟩, ?_, ?_⟩
        · rw [List.length_append]
          exact own_fr fr6 HD5.out.2.2 (fun g e => by simp; exact n5 g e)
        · have h1 := HFR.out.size
          have h2 := fr6.size
          have h3 := HBB.out
          omega
        · exact Fr.trans (Fr.of_below _ HB3.out) (Fr.trans (HFR.out.mono (fun k hk => List.mem_cons_of_mem _ (List.mem_append_left _ hk))) (fr6.mono (fun k hk => by simp at hk; simp [hk])))
        · intro k hk
          rcases List.mem_cons.1 hk with q | q
          · exact Or.inl (by simp [q])
          · rcases List.mem_append.1 q with q | q
            · rw [Option.mem_toList] at q
              rcases HZ5.out with z | z
              · exact Or.inl (List.mem_cons_of_mem _ (List.mem_append_left _ (by rw [Option.mem_toList, ← z]; exact q)))
              · exact Or.inr (Nat.le_trans hw (z k q))
            · exact Or.inl (List.mem_cons_of_mem _ (List.mem_append_right _ q))
      have hT6 : Three (w5.setCell ⟨db, 0, none⟩ (.slice ra5 (R.length + 1) rc5)) eb (.int .i64 x.s) (.int .i64 x.r) (.int .i64 x.c) := by
        have fr6 : Fr [db] w5 (w5.setCell ⟨db, 0, none⟩ (.slice ra5 (R.length + 1) rc5)) := setCells_fr w5 db [(.slice ra5 (R.length + 1) rc5)] 0
        have hn : eb ∉ [db] := by simp; have := HLT.out.2; omega
        exact ⟨fr6.cell HT5.out.1 hn, fr6.cell HT5.out.2.1 hn, fr6.cell HT5.out.2.2 hn⟩
      refine hK.out _ _ hT6 (fun hHeld => ?_)
      clear hK K hT6
      try simp only [Act.put, List.setIfInBounds_toArray, List.set_cons_zero, List.set_cons_succ]
      refine wpAnyH_done (by kernel_rfl) ?_ _
      clear hHeld HT5 HFR HD5 HZ5
      go_wp2
      go_end0
      exact HD6.out
    · have ba := ball (Below.refl W2.heap.size W2) (.cells #[.int .i64 x.s, .int .i64 x.r, .int .i64 x.c, .int .i64 lv] 64)
      have aN := AtL.new0 W2 64 [.int .i64 x.s, .int .i64 x.r, .int .i64 x.c, .int .i64 lv]
      have HD3 : Hid (DQ (W2.alloc (.cells #[.int .i64 x.s, .int .i64 x.r, .int .i64 x.c, .int .i64 lv] 64)) db B v1 R v2 A) := HD2.out.below ba
      have HB3 : Hid (Below w.heap.size w (W2.alloc (.cells #[.int .i64 x.s, .int .i64 x.r, .int .i64 x.c, .int .i64 lv] 64))) := below_end HB2.out ba
      replace t3 := three_below ba t3
      clear c0
      obtain ⟨c0, _, _, _⟩ := HD3.out.hd.two
      go_simp
      refine hK.out _ _ t3 (fun hHeld => ?_)
      clear hK K ba HD2 HB2
      try simp only [Act.put, List.setIfInBounds_toArray, List.set_cons_zero, List.set_cons_succ]
      refine wpAnyH_ready (rs := [4]) (by kernel_rfl) (by simp) ?_
      refine AllReadyH.cons (o := { dst := Option.some 16, op := Op.load 28 (Operand.tmp 15), type := 28, pos := "queue.go:34", after := #[{ on := 3, ground := Ground.data }], guard := Option.none }) rfl (fun K hK => ?_) AllReadyH.nil
      go_simp
      refine hK.out _ _ t3 (fun hHeld => ?_)
      clear hK K
      try simp only [Act.put, List.setIfInBounds_toArray, List.set_cons_zero, List.set_cons_succ]
      have HC2 : Hid (∀ j v, (flatV [(x, lv)])[j]? = some v → (W2.alloc (.cells #[.int .i64 x.s, .int .i64 x.r, .int .i64 x.c, .int .i64 lv] 64)).cell? ⟨W2.heap.size, 0 + j, none⟩ = some v) := fun j v hv => by rw [Nat.zero_add]; exact aN.2.1 j v hv
      clear aN c0
      generalize W2.alloc (.cells #[.int .i64 x.s, .int .i64 x.r, .int .i64 x.c, .int .i64 lv] 64) = W4 at *
      generalize hk3 : W2.heap.size = k3 at *
      clear hk3
      refine wpAnyH_ready (rs := [9]) (by kernel_rfl) (by simp) ?_
      refine AllReadyH.cons (o := { dst := Option.some 21, op := Op.call { callee := Callee.builtin Builtin.append, args := #[Operand.tmp 16, Operand.tmp 20], argTypes := #[28, 28] }, type := 28, pos := "queue.go:34", after := #[{ on := 4, ground := Ground.data }, { on := 8, ground := Ground.data }], guard := Option.none }) rfl (fun K hK => ?_) AllReadyH.nil
      refine wp_apV (.tmp 16) (.tmp 20) rfl W4 B (Nat.le_trans HBB.out HB3.out.size) v1 R.length (flatV R) (by rfl) HD3.out.ol k3 0 1 1 [(x, lv)] (by rfl) (by rfl) HC2.out (by have := HN.out trivial; omega) ?_
      intro v5 w5 o5 hg5 hz5
      obtain ⟨ra5, rc5, e5, _, _⟩ := own_open o5
      subst e5
      have HFR : Hid (Fr v1.ownBlock.toList W4 w5) := Fr.of_grown hg5 (fun k e => by rw [e]; simp)
      have HT5 : Hid (Three w5 eb (.int .i64 x.s) (.int .i64 x.r) (.int .i64 x.c)) := by
        have hn : eb ∉ v1.ownBlock.toList := fun hm => by
          rw [Option.mem_toList] at hm
          have := HLT.out.1 eb hm
          omega
        exact ⟨HFR.out.cell t3.1 hn, HFR.out.cell t3.2.1 hn, HFR.out.cell t3.2.2 hn⟩
      have HD5 : Hid (AtL w5 db [v1, v2] ∧ w5.ownsRow B 39 5 v2 A.length (flatA A) ∧ w5.ownsRow B 64 4 (.slice ra5 (R.length + 1) rc5) (R.length + 1) (flatV (R ++ [(x, lv)]))) := by
        refine ⟨HD3.out.hd.fr HFR.out (fun hm => ?_), own_fr HFR.out HD3.out.os (fun g e hm => ?_), by rw [flatV_app]; exact o5⟩
        · rw [Option.mem_toList] at hm
          exact HD3.out.nl db hm rfl
        · rw [Option.mem_toList] at hm
          exact HD3.out.ls g hm e
      have HZ5 : Hid ((Value.slice ra5 (R.length + 1) rc5).ownBlock = v1.ownBlock ∨ ∀ g, (Value.slice ra5 (R.length + 1) rc5).ownBlock = some g → W4.heap.size ≤ g) := by
        rcases hz5 with q | q
        · exact Or.inl q
        · exact Or.inr (fun g e => by rw [q] at e; simp at e; omega)
      clear o5 hg5 hz5 t3 HC2
      refine hK.out _ _ HT5.out (fun hHeld => ?_)
      clear hK K
      try simp only [Act.put, List.setIfInBounds_toArray, List.set_cons_zero, List.set_cons_succ]
      refine wpAnyH_take (i := 10) (oi := { dst := Option.some 22, op := Op.nilCheck (Operand.tmp 12), type := 0, pos := "queue.go:34", after := #[{ on := 0, ground := Ground.data }, { on := 0, ground := Ground.phase }, { on := 1, ground := Ground.phase }, { on := 2, ground := Ground.phase }, { on := 3, ground := Ground.phase }, { on := 4, ground := Ground.phase }, { on := 5, ground := Ground.phase }, { on := 6, ground := Ground.phase }, { on := 7, ground := Ground.phase }, { on := 8, ground := Ground.phase }, { on := 9, ground := Ground.phase }], guard := Option.none }) (v := ?_) rfl (by kernel_rfl) (by kernel_rfl) (by kernel_rfl) (fun _ _ _ h => h) (Or.inl ⟨by rfl, ?_⟩) (by assumption) ?_
      rotate_left
      · intro w hSw
        (try dsimp only at hSw)
        go_simp
        try with_reducible rfl
      try simp only [Act.put, List.setIfInBounds_toArray, List.set_cons_zero, List.set_cons_succ]
      refine wpAnyH_take (i := 11) (oi := { dst := Option.some 23, op := Op.fieldAddr 31 (Operand.tmp 22) 0, type := 0, pos := "queue.go:34", after := #[{ on := 10, ground := Ground.data }, { on := 0, ground := Ground.phase }, { on := 1, ground := Ground.phase }, { on := 2, ground := Ground.phase }, { on := 3, ground := Ground.phase }, { on := 4, ground := Ground.phase }, { on := 5, ground := Ground.phase }, { on := 6, ground := Ground.phase }, { on := 7, ground := Ground.phase }, { on := 8, ground := Ground.phase }, { on := 9, ground := Ground.phase }], guard := Option.none }) (v := ?_) rfl (by kernel_rfl) (by kernel_rfl) (by kernel_rfl) (fun _ _ _ h => h) (Or.inl ⟨by rfl, ?_⟩) (by assumption) ?_
      rotate_left
      · intro w hSw
        (try dsimp only at hSw)
        go_simp
        try with_reducible rfl
      try simp only [Act.put, List.setIfInBounds_toArray, List.set_cons_zero, List.set_cons_succ]
      refine wpAnyH_ready (rs := [12]) (by kernel_rfl) (by simp) ?_
      refine AllReadyH.cons (o := { dst := Option.none, op := Op.store 28 (Operand.tmp 23) (Operand.tmp 21), type := 0, pos := "queue.go:34", after := #[{ on := 11, ground := Ground.data }, { on := 9, ground := Ground.data }, { on := 9, ground := Ground.chain }, { on := 0, ground := Ground.phase }, { on := 1, ground := Ground.phase }, { on := 2, ground := Ground.phase }, { on := 3, ground := Ground.phase }, { on := 4, ground := Ground.phase }, { on := 5, ground := Ground.phase }, { on := 6, ground := Ground.phase }, { on := 7, ground := Ground.phase }, { on := 8, ground := Ground.phase }, { on := 9, ground := Ground.phase }], guard := Option.none }) rfl (fun K hK => ?_) AllReadyH.nil
      obtain ⟨d0, _, dz, _⟩ := HD5.out.1.two
      go_simp
      have HD6 : Hid (RPutP B w db R A (db :: (v1.ownBlock.toList ++ v2.ownBlock.toList)) x lv (.returned (.tuple #[])) (w5.setCell ⟨db, 0, none⟩ (.slice ra5 (R.length + 1) rc5))) := by
        have fr6 : Fr [db] w5 (w5.setCell ⟨db, 0, none⟩ (.slice ra5 (R.length + 1) rc5)) := setCells_fr w5 db [(.slice ra5 (R.length + 1) rc5)] 0
        have hw : w.heap.size ≤ W4.heap.size := HB3.out.size
        have n5 : ∀ g, (Value.slice ra5 (R.length + 1) rc5).ownBlock = some g → g ≠ db := fun g e => by
          rcases HZ5.out with q | q
          · exact HD3.out.nl g (by rw [← q]; exact e)
          · have h1 := q g e
            have h2 := HD3.out.hd.1
            omega
        have s5 : ∀ g, (Value.slice ra5 (R.length + 1) rc5).ownBlock = some g → v2.ownBlock ≠ some g := fun g e => by
          rcases HZ5.out with q | q
          · exact HD3.out.ls g (by rw [← q]; exact e)
          · intro e2
            have h1 := q g e
            have h2 := (own_blk HD3.out.os e2).2
            omega
        refine ⟨R ++ [(x, lv)], Or.inl ⟨HNO.out, rfl⟩, rfl, _, ⟨.slice ra5 (R.length + 1) rc5, v2, rfl, ⟨HD5.out.1.set 0 (.slice ra5 (R.length + 1) rc5), ?_, own_fr fr6 HD5.out.2.1 (fun g e => by simp; exact HD3.out.ns g e), n5, HD3.out.ns, s5⟩, ?_, HDB.out⟩, ?_, ?_⟩
        · rw [List.length_append]
          exact own_fr fr6 HD5.out.2.2 (fun g e => by simp; exact n5 g e)
        · have h1 := HFR.out.size
          have h2 := fr6.size
          have h3 := HBB.out
          omega
        · exact Fr.trans (Fr.of_below _ HB3.out) (Fr.trans (HFR.out.mono (fun k hk => List.mem_cons_of_mem _ (List.mem_append_left _ hk))) (fr6.mono (fun k hk => by simp at hk; simp [hk])))
        · intro k hk
          rcases List.mem_cons.1 hk with q | q
          · exact Or.inl (by simp [q])
          · rcases List.mem_append.1 q with q | q
            · rw [Option.mem_toList] at q
              rcases HZ5.out with z | z
              · exact Or.inl (List.mem_cons_of_mem _ (List.mem_append_left _ (by rw [Option.mem_toList, ← z]; exact q)))
              · exact Or.inr (Nat.le_trans hw (z k q))
            · exact Or.inl (List.mem_cons_of_mem _ (List.mem_append_right _ q))
      have hT6 : Three (w5.setCell ⟨db, 0, none⟩ (.slice ra5 (R.length + 1) rc5)) eb (.int .i64 x.s) (.int .i64 x.r) (.int .i64 x.c) := by
        have fr6 : Fr [db] w5 (w5.setCell ⟨db, 0, none⟩ (.slice ra5 (R.length + 1) rc5)) := setCells_fr w5 db [(.slice ra5 (R.length + 1) rc5)] 0
        have hn : eb ∉ [db] := by simp; have := HLT.out.2; omega
        exact ⟨fr6.cell HT5.out.1 hn, fr6.cell HT5.out.2.1 hn, fr6.cell HT5.out.2.2 hn⟩
      refine hK.out _ _ hT6 (fun hHeld => ?_)
      clear hK K hT6
      try simp only [Act.put, List.setIfInBounds_toArray, List.set_cons_zero, List.set_cons_succ]
      refine wpAnyH_done (by kernel_rfl) ?_ _
      clear hHeld HT5 HFR HD5 HZ5
      go_wp2
      go_end0
      exact HD6.out

  · obtain ⟨ra, rc, er, _, hr⟩ := own_open HD1.out.ol
    have hlt := (List.getElem?_eq_some_iff.1 hp).1
    obtain ⟨g, eg, _⟩ := hr (by omega)
    rw [eg] at er
    subst er
    have hii : (i : Int) < (R.length : Int) := by omega
    have hiz : (0 : Int) ≤ (i : Int) := by omega
    have hneg : ¬ ((i : Int) < 0) := by omega
    have hth := own_thereV HD1.out.ol hlt
    have k3 := (own_rowV HD1.out.ol rfl hp).2.2
    have z3 := (hth 3 (by omega)).2
    have HD6 : Hid (RPutP B w db R A (db :: ((Value.slice (some ⟨g, 0, none⟩) R.length rc).ownBlock.toList ++ v2.ownBlock.toList)) x lv (.returned (.tuple #[])) (w1.setCell ⟨g, i * 4 + 3, none⟩ (.int .i64 lv))) := by
      have fr6 : Fr [g] w1 (w1.setCell ⟨g, i * 4 + 3, none⟩ (.int .i64 lv)) := setCells_fr w1 g [.int .i64 lv] (i * 4 + 3)
      have o6 := (own_setAll [.int .i64 lv] (i * 4 + 3) w1 _ HD1.out.ol).1
      have o7 : (w1.setCell ⟨g, i * 4 + 3, none⟩ (.int .i64 lv)).ownsRow B 64 4 (.slice (some ⟨g, 0, none⟩) R.length rc) R.length (flatV (R.set i (x, lv))) := by
        rw [← e, ← flatV_lev R hp lv]
        exact o6
      refine ⟨R.set i (x, lv), Or.inr ⟨i, p, hp, e, rfl⟩, rfl, _, ⟨_, v2, rfl, ⟨HD1.out.hd.fr fr6 (by simp; exact fun z => HD1.out.nl g rfl z.symm), by rw [List.length_set]; exact o7, own_fr fr6 HD1.out.os (fun k ek => by simp; exact fun z => HD1.out.ls g rfl (by rw [← z]; exact ek)), HD1.out.nl, HD1.out.ns, HD1.out.ls⟩, ?_, HDB.out⟩, ?_, fun k hk => Or.inl hk⟩
      · have h1 := HB1.out.size
        have h2 := fr6.size
        have h3 := HBB.out
        omega
      · exact Fr.trans (Fr.of_below _ HB1.out) (fr6.mono (fun k hk => by simp at hk; simp [hk, Value.ownBlock]))
    clear hr eg hp e hth HD1 HB1 HE12 t3 hlt
    go_wp2
    go_end0
    exact HD6.out
/-- What Drop answers. -/
def RDrpP (B : Nat) (w : World) (db : Nat) (R : List (Wpl.Cl × Int)) (A : List Wpl.Ar) (S : List Nat) (x : Wpl.Cl) (en : Ending) (w' : World) : Prop := ((∀ p ∈ R, p.1 ≠ x) ∧ DnP B w db R A S (.bool false) en w') ∨ ∃ (i : Nat) (p : Wpl.Cl × Int), R[i]? = some p ∧ p.1 = x ∧ DnP B w db (R.take i ++ R.drop (i + 1)) A S (.bool true) en w'
theorem run_slH (w : World) (g n cap k : Nat) (hk : k ≤ cap) : (Instr.sliceAt 28 (.slice (some ⟨g, 0, none⟩) n cap) none (some (.int .i64 (k : Int))) none).run Try.prog w = .ok (.slice (some ⟨g, 0, none⟩) k cap) w := by
  have hu : Try.prog.underlying 28 = some (.slice (Try.prog.elem 28)) := by kernel_rfl
  have hz : (sizeOf (Try.prog.elem 28)).run Try.prog w = .ok 4 w := by kernel_rfl
  rw [run_sliceAt_slice w _ _ _ _ _ hu, run_slice_h w _ _ _ _ hu _ (k : Int) (by omega) (by omega), hz]
  simp [sliced, Addr.add]
theorem run_slL (w : World) (g n cap k : Nat) (hk : k ≤ n) : (Instr.sliceAt 28 (.slice (some ⟨g, 0, none⟩) n cap) (some (.int .i64 (k : Int))) none none).run Try.prog w = .ok (sliced (some ⟨g, 0, none⟩) k n cap 4) w := by
  have hu : Try.prog.underlying 28 = some (.slice (Try.prog.elem 28)) := by kernel_rfl
  have hz : (sizeOf (Try.prog.elem 28)).run Try.prog w = .ok 4 w := by kernel_rfl
  rw [run_sliceAt_slice w _ _ _ _ _ hu, run_slice_l w _ _ _ _ hu _ (k : Int) (by omega) (by omega), hz]
  simp
theorem wpList_slH {ops : Array Oper} {rest : List Oper} {op : Oper} {a : Act} {w : World} {Q : Exit → Act → World → Prop} (hgd : op.guard = none) (s h : Operand) (ho : op.op = .slice 28 s none (some h) none) (g n cap k : Nat) (hs : a.eval s = .slice (some ⟨g, 0, none⟩) n cap) (hh : a.eval h = .int .i64 (k : Int)) (hk : k ≤ cap)
    (hc : wpList Try.prog ops Q rest (a.put op.dst (.slice (some ⟨g, 0, none⟩) k cap)) w) : wpList Try.prog ops Q (op :: rest) a w := by
  refine wpList_plain hgd fun K hK => ?_
  unfold Oper.wp execOp
  have hr := run_slH w g n cap k hk
  simp only [ho, hs, hh, Option.map_some, Option.map_none, Sem.run_bind, Sem.run_pure, Result.andThen_ok, hr]
  exact hK _ _ hc
theorem wpList_slL {ops : Array Oper} {rest : List Oper} {op : Oper} {a : Act} {w : World} {Q : Exit → Act → World → Prop} (hgd : op.guard = none) (s h : Operand) (ho : op.op = .slice 28 s (some h) none none) (g n cap k : Nat) (hs : a.eval s = .slice (some ⟨g, 0, none⟩) n cap) (hh : a.eval h = .int .i64 (k : Int)) (hk : k ≤ n) (hcap : n ≤ cap)
    (hc : ∀ X C : Nat, (n - k ≠ 0 → X = k * 4) → wpList Try.prog ops Q rest (a.put op.dst (.slice (some ⟨g, X, none⟩) (n - k) C)) w) : wpList Try.prog ops Q (op :: rest) a w := by
  refine wpList_plain hgd fun K hK => ?_
  unfold Oper.wp execOp
  have hr := run_slL w g n cap k hk
  have he : sliced (some ⟨g, 0, none⟩) k n cap 4 = .slice (some ⟨g, (if cap = k then 0 else k * 4), none⟩) (n - k) (cap - k) := by
    unfold sliced
    split
    · rfl
    · simp [Addr.add]
      intro h
      exact h.symm
  rw [he] at hr
  simp only [ho, hs, hh, Option.map_some, Option.map_none, Sem.run_bind, Sem.run_pure, Result.andThen_ok, hr]
  exact hK _ _ (hc _ _ (fun hm => by rw [if_neg (by omega)]))
set_option maxRecDepth 100000 in
set_option maxHeartbeats 16000000 in
theorem rdrop_any {B : Nat} {w : World} {db : Nat} {R : List (Wpl.Cl × Int)} {A : List Wpl.Ar} {S : List Nat} (h : Dn B w db R A S) (x : Wpl.Cl) (hN : True → R.length ≤ 1000000000) :
    Calls Try.prog 14 #[.pointer (some ⟨db, 0, none⟩), .agg #[.int .i64 x.s, .int .i64 x.r, .int .i64 x.c]] w (RDrpP B w db R A S x) := by
  obtain ⟨v1, v2, eS, hq, hBw, hBd⟩ := h
  subst eS
  have hb0 := ball (Below.refl _ w) (.cells #[.int .i64 x.s, .int .i64 x.r, .int .i64 x.c] 33)
  have HD0 : Hid (DQ (w.alloc (.cells #[.int .i64 x.s, .int .i64 x.r, .int .i64 x.c] 33)) db B v1 R v2 A) := hq.below hb0
  have t3 := AtL.f3 (AtL.new0 w 33 [.int .i64 x.s, .int .i64 x.r, .int .i64 x.c])
  have HB0 : Hid (Below w.heap.size w (w.alloc (.cells #[.int .i64 x.s, .int .i64 x.r, .int .i64 x.c] 33))) := hb0
  have HBB : Hid (B ≤ w.heap.size) := hBw
  have HDB : Hid (B ≤ db) := hBd
  have HN : Hid (True → R.length ≤ 1000000000) := hN
  obtain ⟨a1, c1, a2, c2, e1, e2, hdr⟩ := HD0.out.dr
  have FD := find_any db R A a1 R.length c1 a2 A.length c2 x _ hdr hN
  clear hq hb0 hBw hBd hN e1 e2 hdr
  go_enter Try.func14, Try.ntmps14
  go_upto_region 1 with fail
  generalize w.alloc (.cells #[.int .i64 x.s, .int .i64 x.r, .int .i64 x.c] 33) = W0 at *
  obtain ⟨f0, f1, f2⟩ := t3
  go_wp2_with fail
  refine FD.mono ?_
  rintro en w1 ⟨⟨z, rfl, hz⟩, hb1⟩
  have HB1 : Hid (Below w.heap.size w w1) := below_end HB0.out hb1
  have HD1 : Hid (DQ w1 db B v1 R v2 A) := HD0.out.below hb1
  clear FD hb1 HD0 HB0 f0 f1 f2
  rcases hz with ⟨rfl, hno⟩ | ⟨i, p, rfl, hp, e⟩
  · have HR : Hid (RDrpP B w db R A (db :: (v1.ownBlock.toList ++ v2.ownBlock.toList)) x (.returned (.bool false)) w1) := Or.inl ⟨hno, rfl, _, ⟨v1, v2, rfl, HD1.out, Nat.le_trans HBB.out HB1.out.size, HDB.out⟩, Fr.of_below _ HB1.out, fun k hk => Or.inl hk⟩
    clear hno
    go_wp2
    go_ret
    exact HR.out
  · obtain ⟨ra, rc, er, hcap, hr⟩ := own_open HD1.out.ol
    have hlt := (List.getElem?_eq_some_iff.1 hp).1
    obtain ⟨g, eg, _⟩ := hr (by omega)
    rw [eg] at er
    subst er
    obtain ⟨n, hn⟩ : ∃ n, R.length = n := ⟨_, rfl⟩
    have HNN : Hid (R.length = n ∧ n ≤ 1000000000 ∧ i < n ∧ n ≤ rc) := ⟨hn, by have := HN.out trivial; omega, by omega, by omega⟩
    have HPP : Hid (R[i]? = some p ∧ p.1 = x) := ⟨hp, e⟩
    rw [hn] at HD1
    have hneg : ¬ ((i : Int) < 0) := by omega
    have hwi : IntKind.i64.wrap ((i : Int) + 1) = ((i + 1 : Nat) : Int) := by have := HNN.out; rw [IntKind.wrap_i64]; omega
    obtain ⟨c0, _, _, _⟩ := HD1.out.hd.two
    have HC : Hid (∀ j u, (flatV R)[j]? = some u → w1.cell? ⟨g, j, none⟩ = some u) := fun j u hu => by
      have hc := HD1.out.ol.cells (g := g) rfl j u hu
      rwa [show (⟨g, 0, none⟩ : Addr).add j = ⟨g, j, none⟩ from by simp [Addr.add]; intro h; exact h.symm] at hc
    have oN : w1.ownsRow w1.heap.size 64 4 (.slice none 0 0) 0 [] := ⟨rfl, Or.inl ⟨rfl, rfl⟩⟩
    have HT1 : Hid ((R.take i).length = i ∧ (R.drop (i + 1)).length = n - (i + 1) ∧ (R.take i ++ R.drop (i + 1)).length = i + (n - (i + 1))) := by
      have := HNN.out
      refine ⟨by rw [List.length_take]; omega, by rw [List.length_drop]; omega, by rw [List.length_append, List.length_take, List.length_drop]; omega⟩
    have HF1 : Hid (flatV R = flatV (R.take i) ++ flatV [p] ++ flatV (R.drop (i + 1))) := by
      show _ = _
      rw [← flatV_app, ← flatV_app]
      congr 1
      conv => lhs; rw [← List.take_append_drop (i + 1) R, List.take_add_one, hp]
      rfl
    clear hcap hr eg hp e hn hlt
    go_upto_region 5 with fail
    go_upto_region 6 with (first | (refine wpList_slH rfl (.tmp 16) (.tmp 17) rfl g n rc i (by rfl) (by rfl) (by have := HNN.out; omega) ?_) | (at_builtin; refine wpList_apV rfl (.tmp 12) (.tmp 18) rfl w1 w1.heap.size (Nat.le_refl _) (.slice none 0 0) 0 [] (by rfl) oN g 0 i rc (R.take i) HT1.out.1 (by rfl) (fun j u hu => by rw [Nat.zero_add]; exact HC.out j u (by rw [HF1.out, List.append_assoc, List.getElem?_append_left (List.getElem?_eq_some_iff.1 hu).1]; exact hu)) (by have := HNN.out; omega) ?_; intro v3 w3 o3 hg3 _))
    have HB3 : Hid (Below w1.heap.size w1 w3) := Below.of_fr (Below.refl _ w1) (Fr.of_grown (S := []) hg3 (fun k e => by cases e)) (by simp) (Nat.le_refl _)
    have HO3 : Hid (w3.ownsRow w1.heap.size 64 4 v3 i (flatV (R.take i))) := by
      have := o3
      rw [Nat.zero_add, List.nil_append] at this
      exact this
    have HD3 : Hid (DQ w3 db B (.slice (some ⟨g, 0, none⟩) n rc) R v2 A) := HD1.out.below HB3.out
    have HC3 : Hid (∀ j u, (flatV R)[j]? = some u → w3.cell? ⟨g, j, none⟩ = some u) := fun j u hu => cell_below HB3.out (HC.out j u hu)
    clear o3 hg3 oN HC c0
    obtain ⟨c0, c1, z0, z1⟩ := HD3.out.hd.two
    have hs3 : w1.heap.size ≤ w3.heap.size := HB3.out.size
    have HG : Hid (∀ X : Nat, (n - (i + 1) ≠ 0 → X = (i + 1) * 4) → ∀ j u, (flatV (R.drop (i + 1)))[j]? = some u → w3.cell? ⟨g, X + j, none⟩ = some u) := fun X hX j u hu => by
      have hj := (List.getElem?_eq_some_iff.1 hu).1
      rw [flatV_len, HT1.out.2.1] at hj
      rw [hX (by omega)]
      refine HC3.out _ u ?_
      have hl : (flatV (R.take i) ++ flatV [p]).length = (i + 1) * 4 := by rw [List.length_append, flatV_len, flatV_len, HT1.out.1]; simp; omega
      rw [HF1.out, List.getElem?_append_right (by omega), hl, Nat.add_sub_cancel_left]
      exact hu
    clear HC3
    go_upto_region 7 with (first | (refine wpList_slL rfl (.tmp 25) (.tmp 27) rfl g n rc (i + 1) (by rfl) (by rfl) (by have := HNN.out; omega) (by have := HNN.out; omega) (fun X C2 hX => ?_)) | (at_builtin; refine wpList_apV rfl (.tmp 21) (.tmp 28) rfl w3 w1.heap.size hs3 v3 i (flatV (R.take i)) (by rfl) HO3.out g _ (n - (i + 1)) _ (R.drop (i + 1)) HT1.out.2.1 (by rfl) (HG.out _ (by assumption)) (by have := HNN.out; omega) ?_; intro v4 w4 o4 hg4 hz4; obtain ⟨ra4, rc4, e4, _, _⟩ := own_open o4; subst e4; have HD4 := HD3.out.hd.fr (Fr.of_grown (S := v3.ownBlock.toList) hg4 (fun k e => by rw [e]; simp)) (fun hm => by rw [Option.mem_toList] at hm; have h1 := (own_blk HO3.out hm).1; have h2 := HD1.out.hd.1; omega); obtain ⟨d0, d1, dz0, dz1⟩ := HD4.two))
    have HE : Hid (RDrpP B w db R A (db :: ((Value.slice (some ⟨g, 0, none⟩) n rc).ownBlock.toList ++ v2.ownBlock.toList)) x (.returned (.bool true)) (w4.setCell ⟨db, 0, none⟩ (.slice ra4 (i + (n - (i + 1))) rc4))) := by
      have fr4 : Fr v3.ownBlock.toList w3 w4 := Fr.of_grown hg4 (fun k e => by rw [e]; simp)
      have fr5 : Fr [db] w4 (w4.setCell ⟨db, 0, none⟩ (.slice ra4 (i + (n - (i + 1))) rc4)) := setCells_fr w4 db [.slice ra4 (i + (n - (i + 1))) rc4] 0
      have hb := HB1.out.size
      have hdb := HD1.out.hd.1
      have n4 : ∀ k, (Value.slice ra4 (i + (n - (i + 1))) rc4).ownBlock = some k → w1.heap.size ≤ k := fun k e => (own_blk o4 e).1
      have o5 : w4.ownsRow B 64 4 (.slice ra4 (i + (n - (i + 1))) rc4) (R.take i ++ R.drop (i + 1)).length (flatV (R.take i ++ R.drop (i + 1))) := by
        rw [HT1.out.2.2, flatV_app]
        exact own_mono o4 (Nat.le_trans HBB.out hb)
      have h2 : ∀ k, v2.ownBlock = some k → k < w1.heap.size := fun k e => (own_blk HD1.out.os e).2
      refine Or.inr ⟨i, p, HPP.out.1, HPP.out.2, rfl, _, ⟨_, v2, rfl, ⟨HD4.set 0 _, own_fr fr5 o5 (fun k e => by simp; have := n4 k e; omega), own_fr fr5 (own_fr fr4 HD3.out.os (fun k e hm => ?_)) (fun k e => by simp; exact HD1.out.ns k e), fun k e => by have := n4 k e; omega, HD1.out.ns, fun k e e2 => by have := n4 k e; have := h2 k e2; omega⟩, ?_, HDB.out⟩, ?_, fun k hk => ?_⟩
      · rw [Option.mem_toList] at hm
        have h3 := (own_blk HO3.out hm).1
        have h4 := h2 k e
        omega
      · have h3 := fr4.size
        have h4 := fr5.size
        have h5 := HBB.out
        omega
      · refine Fr.trans (Fr.new (Fr.of_below _ (below_end HB1.out HB3.out)) fr4 (fun k hk => ?_)) (fr5.mono (fun k hk => by simp at hk; simp [hk]))
        rw [Option.mem_toList] at hk
        have h3 := (own_blk HO3.out hk).1
        exact Or.inr (by omega)
      · rcases List.mem_cons.1 hk with q | q
        · exact Or.inl (by simp [q])
        · rcases List.mem_append.1 q with q | q
          · rw [Option.mem_toList] at q
            exact Or.inr (Nat.le_trans hb (n4 k q))
          · exact Or.inl (List.mem_cons_of_mem _ (List.mem_append_right _ q))
    clear o4 hg4 hz4 d0 d1 dz0 dz1 c0 c1 z0 z1 HD4 HG
    go_wp2
    go_ret
    exact HE.out
theorem RdQ.asA {w w' : World} {S : List Nat} {av : Option Addr} {C : List Wpl.Ar} (h : RdQ w av C) (fr : Fr S w w') (ha : ∀ bb off, av = some ⟨bb, off, none⟩ → As S w bb) : RdQ w' av C := h.fr fr (fun bb off e => (ha bb off e).2)
set_option maxRecDepth 100000 in
set_option maxHeartbeats 16000000 in
theorem rsee_any {B : Nat} {w : World} {db : Nat} {R : List (Wpl.Cl × Int)} {A : List Wpl.Ar} {S : List Nat} (h : Dn B w db R A S) (bv : Option Addr) (m bcap : Nat) (C : List Wpl.Ar) (hr : RdQ w bv C) (hm : C.length = m) (hz : bv = none → m = 0 ∧ bcap = 0) (hM : True → m ≤ 1000000000) :
    Calls Try.prog 16 #[.pointer (some ⟨db, 0, none⟩), .slice bv m bcap] w (DnP B w db R C S (.tuple #[])) := by
  obtain ⟨v1, v2, eS, hq, hBw, hBd⟩ := h
  subst eS
  have HD0 : Hid (DQ w db B v1 R v2 A) := hq
  have HAR : Hid (RdQ w bv C ∧ C.length = m ∧ (bv = none → m = 0 ∧ bcap = 0)) := ⟨hr, hm, hz⟩
  have HBB : Hid (B ≤ w.heap.size ∧ B ≤ db) := ⟨hBw, hBd⟩
  have oN : w.ownsRow w.heap.size 39 5 (.slice none 0 0) 0 [] := ⟨rfl, Or.inl ⟨rfl, rfl⟩⟩
  have HM : Hid (True → m ≤ 1000000000) := hM
  clear hq hr hm hz hBw hBd hM
  go_enter Try.func16, Try.ntmps16
  go_wp2_with (at_builtin; refine wpList_copA rfl (.tmp 6) (.tmp 7) rfl w w.heap.size (Nat.le_refl _) (.slice none 0 0) (by rfl) oN bv m bcap C HAR.out.2.1 (by rfl) HAR.out.1 HAR.out.2.2 (by have := HM.out trivial; omega) ?_; intro v3 w3 o3 hg3; obtain ⟨ra3, rc3, e3, _, _⟩ := own_open o3; subst e3; have HB3 : Below w.heap.size w w3 := Below.of_fr (Below.refl _ w) (Fr.of_grown (S := []) hg3 (fun k e => by cases e)) (by simp) (Nat.le_refl _); have HD3 := AtL.below HB3 HD0.out.hd; obtain ⟨d0, d1, dz0, dz1⟩ := HD3.two)
  have HE : Hid (DnP B w db R C (db :: (v1.ownBlock.toList ++ v2.ownBlock.toList)) (.tuple #[]) (.returned (.tuple #[])) (w3.setCell ⟨db, 1, none⟩ (.slice ra3 m rc3))) := by
    have fr5 : Fr [db] w3 (w3.setCell ⟨db, 1, none⟩ (.slice ra3 m rc3)) := setCells_fr w3 db [.slice ra3 m rc3] 1
    have hdb := HD0.out.hd.1
    have n3 : ∀ k, (Value.slice ra3 m rc3).ownBlock = some k → w.heap.size ≤ k := fun k e => (own_blk o3 e).1
    have l1 : ∀ k, v1.ownBlock = some k → k < w.heap.size := fun k e => (own_blk HD0.out.ol e).2
    have HD4 := HD0.out.below HB3
    refine ⟨rfl, _, ⟨v1, _, rfl, ⟨HD3.set 1 _, own_fr fr5 HD4.ol (fun k e => by simp; exact HD0.out.nl k e), own_fr fr5 (by rw [HAR.out.2.1]; exact own_mono o3 HBB.out.1) (fun k e => by simp; have := n3 k e; omega), HD0.out.nl, fun k e => by have := n3 k e; omega, fun k e e2 => by have := n3 k e2; have := l1 k e; omega⟩, ?_, HBB.out.2⟩, ?_, fun k hk => ?_⟩
    · have h3 := HB3.size
      have h4 := fr5.size
      have h5 := HBB.out.1
      omega
    · exact Fr.trans (Fr.of_below _ HB3) (fr5.mono (fun k hk => by simp at hk; simp [hk]))
    · rcases List.mem_cons.1 hk with q | q
      · exact Or.inl (by simp [q])
      · rcases List.mem_append.1 q with q | q
        · exact Or.inl (List.mem_cons_of_mem _ (List.mem_append_left _ q))
        · rw [Option.mem_toList] at q
          exact Or.inr (n3 k q)
  go_end0
  exact HE.out
end Go.Proofs.Ytpbjmhcpaeillaa
