/- Queues: each entry is made another one of its cell, and the row a heap again. -/

import Derived.Test.YtpbjmhcpaeillaaQClos
namespace Go.Proofs.Ytpbjmhcpaeillaa
open Go.RowKit
set_option linter.unusedVariables false

theorem RdQ.fr {S : List Nat} {w w' : World} {av : Option Addr} {A : List Wpl.Ar} (h : RdQ w av A) (hf : Fr S w w') (hn : ∀ bb off, av = some ⟨bb, off, none⟩ → bb ∉ S) : RdQ w' av A := fun i a ha => by
  obtain ⟨bb, off, e, hr⟩ := h i a ha
  exact ⟨bb, off, e, hf.range hr (hn bb off e)⟩
theorem HQ.ther {w : World} {hb mb B g n cap : Nat} {l : List Wq.Wr} {F : List (Wpl.Cl × Int)} (h : HQ w hb mb B (.slice (some ⟨g, 0, none⟩) n cap) l F) (hn : l.length = n) {i : Nat} (hi : i < n) : w.there g (i * 5) 5 := by
  have o := h.own
  rw [hn] at o
  obtain ⟨a, c, e1, _, hr⟩ := own_open o
  obtain ⟨g', e2, ht, _⟩ := hr (by omega)
  rw [e2] at e1
  simp only [Value.slice.injEq, Option.some.injEq, Addr.mk.injEq, and_true, true_and] at e1
  rw [e1.1]
  exact ht i hi
/-- The first i entries are turned. -/
structure TS (w0 w : World) (hb mb B g n cap : Nat) (A : List Wpl.Ar) (l l1 : List Wq.Wr) (F : List (Wpl.Cl × Int)) (i : Nat) : Prop where
  q : HQ w hb mb B (.slice (some ⟨g, 0, none⟩) n cap) l1 F
  len : l1.length = n
  ol : l.length = n
  el : ∀ j, l1[j]? = if j < i then (l[j]?).map (reW A) else l[j]?
  fr : Fr [g] w0 w
theorem TS.below {w0 w w' : World} {hb mb B g n cap : Nat} {A : List Wpl.Ar} {l l1 : List Wq.Wr} {F : List (Wpl.Cl × Int)} {i : Nat} (h : TS w0 w hb mb B g n cap A l l1 F i) (hb' : Below w.heap.size w w') : TS w0 w' hb mb B g n cap A l l1 F i := ⟨h.q.below hb', h.len, h.ol, h.el, Fr.trans h.fr (Fr.of_below _ hb')⟩
theorem TS.step {w0 w : World} {hb mb B g n cap : Nat} {A : List Wpl.Ar} {l l1 : List Wq.Wr} {F : List (Wpl.Cl × Int)} {i : Nat} (h : TS w0 w hb mb B g n cap A l l1 F i) (hi : i < n) {a : Wq.Wr} (ha : l1[i]? = some a) : TS w0 (w.setCells g (i * 5) (wrV (reW A a))) hb mb B g n cap A l (l1.set i (reW A a)) F (i + 1) := by
  refine ⟨h.q.put h.len hi, by rw [List.length_set]; exact h.len, h.ol, fun j => ?_, h.fr.put (by simp)⟩
  rw [List.getElem?_set, h.len]
  by_cases c : i = j
  · subst c
    rw [if_pos rfl, if_pos hi, if_pos (Nat.lt_succ_self i)]
    have := h.el i
    rw [if_neg (Nat.lt_irrefl i), ha] at this
    rw [← this]
    rfl
  · rw [if_neg c, h.el j]
    by_cases d : j < i
    · rw [if_pos d, if_pos (by omega)]
    · rw [if_neg d, if_neg (by omega)]
theorem TS.done {w0 w : World} {hb mb B g n cap : Nat} {A : List Wpl.Ar} {l l1 : List Wq.Wr} {F : List (Wpl.Cl × Int)} {i : Nat} (h : TS w0 w hb mb B g n cap A l l1 F i) (hi : n ≤ i) : l1 = l.map (reW A) := by
  apply List.ext_getElem?
  intro j
  rw [h.el j, List.getElem?_map]
  by_cases c : j < i
  · rw [if_pos c]
  · rw [if_neg c, List.getElem?_eq_none (by rw [h.ol]; omega)]
    rfl
theorem WF.re {l : List Wq.Wr} {F : List (Wpl.Cl × Int)} (h : WF l F) (A : List Wpl.Ar) : WF (l.map (reW A)) F := by
  refine ⟨h.1, fun x v => ?_⟩
  rw [h.2 x v]
  constructor
  · rintro ⟨i, e, a, ha, hx⟩
    exact ⟨i, e, reW A a, by rw [List.getElem?_map, ha]; rfl, hx⟩
  · rintro ⟨i, e, a, ha, hx⟩
    rw [List.getElem?_map] at ha
    obtain ⟨b, hb, rfl⟩ := Option.map_eq_some_iff.1 ha
    exact ⟨i, e, b, hb, hx⟩
/-- What turn answers. -/
def TrnP (w : World) (hb mb B : Nat) (rv : Value) (l : List Wq.Wr) (A : List Wpl.Ar) (en : Ending) (w' : World) : Prop := ∃ (l' : List Wq.Wr) (F' : List (Wpl.Cl × Int)), en = .returned (.tuple #[]) ∧ QH w' hb mb B rv l' F' ∧ l'.Perm (l.map (reW A)) ∧ Fr (hb :: mb :: rv.ownBlock.toList) w w'
set_option maxRecDepth 100000 in
set_option maxHeartbeats 8000000 in
theorem turn_some (hb mb B g n cap : Nat) (l : List Wq.Wr) (F : List (Wpl.Cl × Int)) (pb qb : Nat) (pw : Value) (A : List Wpl.Ar) (av : Option Addr) (m acap : Nat) (w : World) (h : HQ w hb mb B (.slice (some ⟨g, 0, none⟩) n cap) l F) (hf : WF l F) (hn : l.length = n) (hN : True → n ≤ 1000000000) (hp : AtL w pb [.pointer (some ⟨qb, 0, none⟩)]) (hq : AtL w qb [pw, .slice av m acap]) (hr : RdQ w av A) (hm : A.length = m) (hM : True → m ≤ 1000000000) (hpg : pb ≠ g) (hqg : qb ≠ g) (hag : ∀ bb off, av = some ⟨bb, off, none⟩ → bb ≠ g) :
    Calls Try.prog 32 #[.pointer (some ⟨hb, 0, none⟩), .func (.func 33) #[] #[.pointer (some ⟨pb, 0, none⟩)]] w (TrnP w hb mb B (.slice (some ⟨g, 0, none⟩) n cap) l A) := by
  have HP : Hid (AtL w pb [.pointer (some ⟨qb, 0, none⟩)] ∧ AtL w qb [pw, .slice av m acap] ∧ RdQ w av A ∧ A.length = m ∧ pb ≠ g ∧ qb ≠ g ∧ ∀ bb off, av = some ⟨bb, off, none⟩ → bb ≠ g) := ⟨hp, hq, hr, hm, hpg, hqg, hag⟩
  have HF : Hid (WF l F) := hf
  have HT : Hid (TS w w hb mb B g n cap A l l F 0) := ⟨h, hn, hn, fun j => by rw [if_neg (Nat.not_lt_zero j)], Fr.refl _ _⟩
  obtain ⟨c0, _, _, _⟩ := h.hd.two
  clear h hf hn hp hq hr hm hpg hqg hag
  go_enter Try.func32, Try.ntmps32
  go_upto_region 1 with fail
  clear c0
  go_loopg [12] n (fun gk x wr => ∃ (i : Nat) (l1 : List Wq.Wr), x = .int .i64 (i : Int) ∧ gk = n - i ∧ Hid (i ≤ n) ∧ Hid (TS w wr hb mb B g n cap A l l1 F i))
  case atStart => exact ⟨0, l, rfl, rfl, Nat.zero_le _, HT⟩
  case round =>
    clear HT
    obtain ⟨i, l1, rfl, hg, HI, HT⟩ := hrel
    generalize hw9 : wr = W at *
    clear hw9
    by_cases hlt : i < n
    · have hii : (i : Int) < (n : Int) := by omega
      have hiz : (0 : Int) ≤ (i : Int) := by omega
      have hwi : IntKind.i64.wrap ((i : Int) + 1) = (i : Int) + 1 := by have := hN trivial; rw [IntKind.wrap_i64]; omega
      obtain ⟨a, ha⟩ : ∃ a, l1[i]? = some a := ⟨l1[i]'(by rw [HT.out.len]; exact hlt), List.getElem?_eq_getElem _⟩
      have HA : Hid (l1[i]? = some a) := ha
      obtain ⟨⟨r0, r1⟩, ⟨r2, r3⟩, r4⟩ := HT.out.q.row HT.out.len hlt ha
      have hb0 := ball (Below.refl _ W) (.cells #[.int .i64 a.s, .int .i64 a.r, .int .i64 a.c, .int .i64 a.ln, .int .i64 a.lv] 58)
      have f1 := AtL.f5 (AtL.new0 W 58 [.int .i64 a.s, .int .i64 a.r, .int .i64 a.c, .int .i64 a.ln, .int .i64 a.lv])
      have HT0 : Hid (TS w (W.alloc (.cells #[.int .i64 a.s, .int .i64 a.r, .int .i64 a.c, .int .i64 a.ln, .int .i64 a.lv] 58)) hb mb B g n cap A l l1 F i) := HT.out.below hb0
      have HNE : Hid (W.heap.size ≠ g) := by
        have := (own_blk HT.out.q.own (g := g) rfl).2
        show _ ≠ _
        omega
      clear ha hb0
      go_upto_region 3 with fail
      clear r0 r1 r2 r3 r4 HT
      obtain ⟨c0, _, _, _⟩ := HT0.out.q.hd.two
      generalize W.alloc (.cells #[.int .i64 a.s, .int .i64 a.r, .int .i64 a.c, .int .i64 a.ln, .int .i64 a.lv] 58) = W0 at *
      generalize heb : W.heap.size = eb at *
      clear heb
      have hb1 := (Below.refl W0.heap.size W0).drew
      refine wp_region_held_drew (S := fun W => W.cell? ⟨hb, 0, none⟩ = some (.slice (some ⟨g, 0, none⟩) n cap) ∧ Five W eb (.int .i64 a.s) (.int .i64 a.r) (.int .i64 a.c) (.int .i64 a.ln) (.int .i64 a.lv)) (by kernel_rfl) ⟨cell_below hb1 c0, five_drew f1⟩ (fun hHeld => ?_)
      have HT1 : Hid (TS w W0.drew hb mb B g n cap A l l1 F i) := HT0.out.below hb1
      replace f1 := five_drew f1
      replace c0 := cell_below hb1 c0
      have SE := see1_any pb qb pw A a av m acap W0.drew (HP.out.1.fr HT1.out.fr (by simp; exact HP.out.2.2.2.2.1)) (HP.out.2.1.fr HT1.out.fr (by simp; exact HP.out.2.2.2.2.2.1)) (HP.out.2.2.1.fr HT1.out.fr (fun bb off e => by simp; exact HP.out.2.2.2.2.2.2 bb off e)) HP.out.2.2.2.1 hM
      clear hb1 HT0
      generalize W0.drew = W1 at *
      refine wpAnyH_take (i := 0) (oi := { dst := Option.some 17, op := Op.move (Operand.tmp 0), type := 55, pos := "heap.go:76", after := #[], guard := Option.none }) (v := ?_) rfl (by kernel_rfl) (by kernel_rfl) (by kernel_rfl) (fun _ _ _ h => h) (Or.inl ⟨by rfl, ?_⟩) (by assumption) ?_
      rotate_left
      · intro w hSw
        (try dsimp only at hSw)
        go_simp
        try with_reducible rfl
      try simp only [Act.put, List.setIfInBounds_toArray, List.set_cons_zero, List.set_cons_succ]
      refine wpAnyH_take (i := 1) (oi := { dst := Option.some 18, op := Op.nilCheck (Operand.tmp 17), type := 0, pos := "heap.go:76", after := #[{ on := 0, ground := Ground.data }], guard := Option.none }) (v := ?_) rfl (by kernel_rfl) (by kernel_rfl) (by kernel_rfl) (fun _ _ _ h => h) (Or.inl ⟨by rfl, ?_⟩) (by assumption) ?_
      rotate_left
      · intro w hSw
        (try dsimp only at hSw)
        go_simp
        try with_reducible rfl
      try simp only [Act.put, List.setIfInBounds_toArray, List.set_cons_zero, List.set_cons_succ]
      refine wpAnyH_take (i := 2) (oi := { dst := Option.some 19, op := Op.fieldAddr 76 (Operand.tmp 18) 0, type := 0, pos := "heap.go:76", after := #[{ on := 1, ground := Ground.data }], guard := Option.none }) (v := ?_) rfl (by kernel_rfl) (by kernel_rfl) (by kernel_rfl) (fun _ _ _ h => h) (Or.inl ⟨by rfl, ?_⟩) (by assumption) ?_
      rotate_left
      · intro w hSw
        (try dsimp only at hSw)
        go_simp
        try with_reducible rfl
      try simp only [Act.put, List.setIfInBounds_toArray, List.set_cons_zero, List.set_cons_succ]
      refine wpAnyH_take (i := 3) (oi := { dst := Option.some 20, op := Op.load 68 (Operand.tmp 19), type := 68, pos := "heap.go:76", after := #[{ on := 2, ground := Ground.data }], guard := Option.none }) (v := ?_) rfl (by kernel_rfl) (by kernel_rfl) (by kernel_rfl) (fun _ _ _ h => h) (Or.inl ⟨by rfl, ?_⟩) (by assumption) ?_
      rotate_left
      · intro w hSw
        (try dsimp only at hSw)
        go_simp
        try with_reducible rfl
      try simp only [Act.put, List.setIfInBounds_toArray, List.set_cons_zero, List.set_cons_succ]
      refine wpAnyH_take (i := 4) (oi := { dst := Option.some 21, op := Op.move (Operand.tmp 4), type := 3, pos := "heap.go:76", after := #[], guard := Option.none }) (v := ?_) rfl (by kernel_rfl) (by kernel_rfl) (by kernel_rfl) (fun _ _ _ h => h) (Or.inl ⟨by rfl, ?_⟩) (by assumption) ?_
      rotate_left
      · intro w hSw
        (try dsimp only at hSw)
        go_simp
        try with_reducible rfl
      try simp only [Act.put, List.setIfInBounds_toArray, List.set_cons_zero, List.set_cons_succ]
      refine wpAnyH_take (i := 5) (oi := { dst := Option.some 22, op := Op.move (Operand.tmp 1), type := 67, pos := "heap.go:76", after := #[], guard := Option.none }) (v := ?_) rfl (by kernel_rfl) (by kernel_rfl) (by kernel_rfl) (fun _ _ _ h => h) (Or.inl ⟨by rfl, ?_⟩) (by assumption) ?_
      rotate_left
      · intro w hSw
        (try dsimp only at hSw)
        go_simp
        try with_reducible rfl
      try simp only [Act.put, List.setIfInBounds_toArray, List.set_cons_zero, List.set_cons_succ]
      refine wpAnyH_take (i := 6) (oi := { dst := Option.some 23, op := Op.load 58 (Operand.tmp 5), type := 58, pos := "heap.go:76", after := #[], guard := Option.none }) (v := ?_) rfl (by kernel_rfl) (by kernel_rfl) (by kernel_rfl) (fun _ _ _ h => h) (Or.inl ⟨by rfl, ?_⟩) (by assumption) ?_
      rotate_left
      · intro w hSw
        (try dsimp only at hSw)
        go_simp
        try with_reducible rfl
      try simp only [Act.put, List.setIfInBounds_toArray, List.set_cons_zero, List.set_cons_succ]
      refine wpAnyH_ready (rs := [7]) (by kernel_rfl) (by simp) ?_
      refine AllReadyH.cons (o := { dst := Option.some 24, op := Op.call { callee := Callee.value (Operand.tmp 22), args := #[Operand.tmp 23], argTypes := #[58] }, type := 58, pos := "heap.go:76", after := #[{ on := 5, ground := Ground.data }, { on := 6, ground := Ground.data }], guard := Option.none }) rfl (fun K hK => ?_) AllReadyH.nil
      go_simp
      refine SE.mono ?_
      rintro en w4 ⟨rfl, hb4⟩
      have HT2 : Hid (TS w w4 hb mb B g n cap A l l1 F i) := HT1.out.below hb4
      replace f1 := five_below hb4 f1
      replace c0 := cell_below hb4 c0
      clear HT1 hb4 SE
      go_wp2_with fail
      refine hK.out _ _ ⟨c0, f1⟩ (fun hHeld => ?_)
      clear hK K
      try simp only [Act.put, List.setIfInBounds_toArray, List.set_cons_zero, List.set_cons_succ]
      refine wpAnyH_take (i := 8) (oi := { dst := Option.some 25, op := Op.indexAddr 68 (Operand.tmp 20) (Operand.tmp 21), type := 0, pos := "heap.go:76", after := #[{ on := 3, ground := Ground.data }, { on := 4, ground := Ground.data }, { on := 0, ground := Ground.phase }, { on := 1, ground := Ground.phase }, { on := 2, ground := Ground.phase }, { on := 3, ground := Ground.phase }, { on := 4, ground := Ground.phase }, { on := 5, ground := Ground.phase }, { on := 6, ground := Ground.phase }, { on := 7, ground := Ground.phase }], guard := Option.none }) (v := ?_) rfl (by kernel_rfl) (by kernel_rfl) (by kernel_rfl) (fun _ _ _ h => h) (Or.inl ⟨by rfl, ?_⟩) (by assumption) ?_
      rotate_left
      · intro w hSw
        (try dsimp only at hSw)
        go_simp
        try with_reducible rfl
      try simp only [Act.put, List.setIfInBounds_toArray, List.set_cons_zero, List.set_cons_succ]
      refine wpAnyH_ready (rs := [9]) (by kernel_rfl) (by simp) ?_
      refine AllReadyH.cons (o := { dst := Option.none, op := Op.store 58 (Operand.tmp 25) (Operand.tmp 24), type := 0, pos := "heap.go:76", after := #[{ on := 8, ground := Ground.data }, { on := 7, ground := Ground.data }, { on := 7, ground := Ground.chain }, { on := 0, ground := Ground.phase }, { on := 1, ground := Ground.phase }, { on := 2, ground := Ground.phase }, { on := 3, ground := Ground.phase }, { on := 4, ground := Ground.phase }, { on := 5, ground := Ground.phase }, { on := 6, ground := Ground.phase }, { on := 7, ground := Ground.phase }], guard := Option.none }) rfl (fun K hK => ?_) AllReadyH.nil
      have hth := HT2.out.q.ther HT2.out.len hlt
      refine wp_store_mid 58 (.tmp 25) (.tmp 24) rfl g (i * 5) (wrV (reW A a)).toArray rfl rfl hth (by kernel_rfl) (oneW _) ?_
      have HT3 : Hid (TS w (w4.setCells g (i * 5) (wrV (reW A a))) hb mb B g n cap A l (l1.set i (reW A a)) F (i + 1)) := HT2.out.step hlt HA.out
      have f2 := five_cells f1 HNE.out (i * 5) (wrV (reW A a))
      have c2 : (w4.setCells g (i * 5) (wrV (reW A a))).cell? ⟨hb, 0, none⟩ = some (.slice (some ⟨g, 0, none⟩) n cap) := HT3.out.q.hd.two.1
      refine hK.out _ _ ⟨c2, f2⟩ (fun hHeld => ?_)
      clear hK K HT2 f1 f2 c0 c2 hth
      try simp only [Act.put]
      refine wpAnyH_done (by kernel_rfl) ?_ _

      generalize w4.setCells g (i * 5) (wrV (reW A a)) = W5 at *
      go_wp2_with fail
      go_roundg (n - (i + 1))
      case rel => exact ⟨i + 1, _, by simp, rfl, hlt, HT3⟩
      case measure => omega
    · have hii : ¬ (i : Int) < (n : Int) := by omega
      have HE : Hid (l1 = l.map (reW A)) := HT.out.done (by omega)
      obtain ⟨c0, _, _, _⟩ := HT.out.q.hd.two
      obtain ⟨k, hk⟩ : ∃ k, n / 2 = k := ⟨_, rfl⟩
      have hdv : ((n : Int)).tdiv 2 = (k : Int) := by rw [← hk]; rfl
      have hwk : IntKind.i64.wrap ((k : Nat) : Int) = (k : Int) := by have := hN trivial; rw [IntKind.wrap_i64]; omega
      have hwk1 : IntKind.i64.wrap ((k : Int) - 1) = (k : Int) - 1 := by have := hN trivial; rw [IntKind.wrap_i64]; omega
      have HW0 : Hid (HW W W hb mb B g n cap (l.map (reW A)) (l.map (reW A)) F) := by
        have := HT.out.q
        rw [HE.out] at this
        exact HW.start this (HF.out.re A) (by rw [List.length_map]; exact HT.out.ol)
      have HO0 : Hid (Wq.Heap Wq.ltW n k (fnW (l.map (reW A)))) := by
        have := Wq.Heap.none (lt := Wq.ltW) (n := n) (fnW (l.map (reW A)))
        rw [hk] at this
        exact this
      have HK : Hid (2 * k ≤ n) := by show _ ≤ _; omega
      have HFR : Hid (Fr [g] w W) := HT.out.fr
      clear hk HT HE HF HP
      go_upto_region 6 with fail
      clear c0 hdv
      go_loopg [6] k (fun gk x wr => ∃ (j : Nat) (z : Int) (l2 : List Wq.Wr) (F2 : List (Wpl.Cl × Int)), x = .int .i64 z ∧ gk = j ∧ z + 1 = (j : Int) ∧ Hid (2 * j ≤ n) ∧ Hid (HW W wr hb mb B g n cap (l.map (reW A)) l2 F2) ∧ Hid (Wq.Heap Wq.ltW n j (fnW l2)))
      case atStart => exact ⟨k, (k : Int) - 1, _, _, rfl, rfl, by omega, HK, HW0, HO0⟩
      case round =>
        clear HW0 HO0 HK hwk hwk1
        obtain ⟨j, z, l2, F2, rfl, hgk, hz, HJ, HH, HO⟩ := hrel
        generalize hw9 : wr = W2 at *
        clear hw9
        cases j with
        | zero =>
          have hz0 : ¬ (z ≥ 0) := by omega
          have HE : Hid (TrnP w hb mb B (.slice (some ⟨g, 0, none⟩) n cap) l A (.returned (.tuple #[])) W2) := by
            refine ⟨l2, F2, rfl, ⟨HH.out.q, HH.out.f, by rw [HH.out.len]; exact HO.out⟩, HH.out.p, ?_⟩
            exact Fr.trans (HFR.out.mono (by simp [Value.ownBlock])) (HH.out.fr.mono (by simp [Value.ownBlock]))
          clear HO HH HJ
          go_wp2
          go_end0
          exact HE.out
        | succ q =>
          have hz0 : z ≥ 0 := by omega
          have hzq : z = (q : Int) := by omega
          subst hzq
          have hwz : IntKind.i64.wrap ((q : Int) - 1) = (q : Int) - 1 := by have := hN trivial; have := HJ.out; rw [IntKind.wrap_i64]; omega
          have SK := sink_any hb mb B g n cap l2 F2 q W2 HH.out.q HH.out.f HH.out.len (by have := HJ.out; omega) hN
          go_wp2_with fail
          refine SK.mono ?_
          rintro en w3 ⟨l3, F3, rfl, h3, ho3⟩
          have HH3 : Hid (HW W w3 hb mb B g n cap (l.map (reW A)) l3 F3) := ⟨h3.q, h3.f, h3.p.trans HH.out.p, h3.len, Fr.trans HH.out.fr h3.fr⟩
          have HO3 : Hid (Wq.Heap Wq.ltW n q (fnW l3)) := ho3 q (Nat.le_refl _) HO.out.down
          have HJ3 : Hid (2 * q ≤ n) := by have := HJ.out; show _ ≤ _; omega
          clear SK h3 ho3 HH HO HJ
          go_wp2_with fail
          go_roundg q
          case rel => exact ⟨q, (q : Int) - 1, l3, F3, by simp, rfl, by omega, HJ3, HH3, HO3⟩
          case measure => omega
end Go.Proofs.Ytpbjmhcpaeillaa
