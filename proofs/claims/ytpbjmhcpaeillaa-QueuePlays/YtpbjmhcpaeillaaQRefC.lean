/- Queues: the document's own queue: Cells. -/

import Derived.Test.YtpbjmhcpaeillaaQRefB
namespace Go.Proofs.Ytpbjmhcpaeillaa
open Go.RowKit
set_option linter.unusedVariables false

theorem flatV_set (U : List (Wpl.Cl × Int)) (i : Nat) (hi : i < U.length) (p : Wpl.Cl × Int) : setL (flatV U) (i * 4) (wtV p) = flatV (U.set i p) := by
  have e1 : U = U.take i ++ U[i] :: U.drop (i + 1) := by rw [← List.drop_eq_getElem_cons hi, List.take_append_drop]
  have e2 : U.set i p = U.take i ++ p :: U.drop (i + 1) := List.set_eq_take_append_cons_drop.trans (if_pos hi)
  have hl : (flatV (U.take i)).length = i * 4 := by rw [flatV_len, List.length_take, Nat.min_eq_left (by omega)]
  rw [e2]
  conv => lhs; rw [e1]
  rw [flatV_app, flatV_app]
  show setL (flatV (U.take i) ++ (wtV U[i] ++ flatV (U.drop (i + 1)))) (i * 4) (wtV p) = flatV (U.take i) ++ (wtV p ++ flatV (U.drop (i + 1)))
  rw [← List.append_assoc, ← hl, setL_app (wtV p) _ (wtV U[i]) _ rfl, List.append_assoc]
theorem own_putV {w : World} {B g n cap : Nat} {D : List (Wpl.Cl × Int)} (h : w.ownsRow B 64 4 (.slice (some ⟨g, 0, none⟩) n cap) n (flatV D)) (hn : D.length = n) {i : Nat} (hi : i < n) (x : Wpl.Cl × Int) : (w.setCells g (i * 4) (wtV x)).ownsRow B 64 4 (.slice (some ⟨g, 0, none⟩) n cap) n (flatV (D.set i x)) := by
  rw [← flatV_set D i (by omega) x]
  exact (own_setAll (wtV x) (i * 4) w _ h).1
theorem own_thereV {w : World} {B g n cap : Nat} {xs : List Value} (h : w.ownsRow B 64 4 (.slice (some ⟨g, 0, none⟩) n cap) n xs) {i : Nat} (hi : i < n) : w.there g (i * 4) 4 := by
  obtain ⟨a, c, e1, _, hr⟩ := own_open h
  obtain ⟨g', e2, ht, _⟩ := hr (by omega)
  rw [e2] at e1
  simp only [Value.slice.injEq, Option.some.injEq, Addr.mk.injEq, and_true, true_and] at e1
  rw [e1.1]
  exact ht i hi
theorem RdV.of_own {w : World} {B n : Nat} {v : Value} {C : List (Wpl.Cl × Int)} (h : w.ownsRow B 64 4 v n (flatV C)) (hn : C.length = n) : ∃ av cap, v = .slice av n cap ∧ RdV w av C ∧ (∀ bb off, av = some ⟨bb, off, none⟩ → v.ownBlock = some bb ∧ off = 0) := by
  rcases h.2 with ⟨e, h0⟩ | ⟨g, cap, cur, e, _⟩
  · subst e
    refine ⟨none, 0, by rw [h0], fun i a ha => ?_, fun bb off e => by cases e⟩
    have := (List.getElem?_eq_some_iff.1 ha).1
    omega
  · subst e
    refine ⟨some ⟨g, 0, none⟩, cap, rfl, fun i a ha => ?_, fun bb off e => by
      simp only [Option.some.injEq, Addr.mk.injEq] at e
      rw [← e.1]
      exact ⟨rfl, e.2.1.symm⟩⟩
    obtain ⟨hlt, ea⟩ := List.getElem?_eq_some_iff.1 ha
    refine ⟨g, 0, rfl, fun c u hu => ?_⟩
    have hc3 : c < 4 := by
      have := (List.getElem?_eq_some_iff.1 hu).1
      simpa [wtV] using this
    have q := flatV_gt C i hlt c hc3
    rw [ea, hu] at q
    have hc := h.cells (g := g) rfl (i * 4 + c) u q
    rwa [show (⟨g, 0, none⟩ : Addr).add (i * 4 + c) = ⟨g, 0 + i * 4 + c, none⟩ from by simp [Addr.add]; intro h; omega] at hc
theorem own_rowV {w : World} {B g n cap : Nat} {C : List (Wpl.Cl × Int)} (h : w.ownsRow B 64 4 (.slice (some ⟨g, 0, none⟩) n cap) n (flatV C)) (hn : C.length = n) {i : Nat} {p : Wpl.Cl × Int} (hp : C[i]? = some p) : RowV w g (i * 4) p := by
  obtain ⟨av, c, e, hr, _⟩ := RdV.of_own h hn
  simp only [Value.slice.injEq, true_and] at e
  obtain ⟨bb, off, e2, hk⟩ := hr.at hp
  rw [← e.1] at e2
  simp only [Option.some.injEq, Addr.mk.injEq, and_true] at e2
  rw [← e2.1, ← e2.2, Nat.zero_add] at hk
  exact hk
theorem wtInfo : (Try.prog.info? 64).map (fun i => (i.zero, i.size, i.bytes)) = some (some (.agg #[.int .i64 0, .int .i64 0, .int .i64 0, .int .i64 0]), 4, 32) := by kernel_rfl
theorem undWts : Try.prog.underlying 28 = some (.slice 64) := by kernel_rfl
/-- A row of these is laid behind another one. -/
theorem wp_apV {o : Oper} {a : Act} {K : Act → World → Prop} {Q : Exit → Act → World → Prop} (sl x : Operand) (ho : o.op = .call { callee := .builtin .append, args := #[sl, x], argTypes := #[28, 28] })
    (w : World) (B : Nat) (hB : B ≤ w.heap.size) (v : Value) (n : Nat) (xs : List Value) (hs : a.eval sl = v) (hown : w.ownsRow B 64 4 v n xs) (k off m c : Nat) (l : List (Wpl.Cl × Int)) (hm : l.length = m) (hx : a.eval x = .slice (some ⟨k, off, none⟩) m c) (hat : ∀ j u, (flatV l)[j]? = some u → w.cell? ⟨k, off + j, none⟩ = some u) (hn : n + m ≤ 2000000000)
    (h : ∀ v' w', w'.ownsRow B 64 4 v' (n + m) (xs ++ flatV l) → w.grownBy w' v.ownBlock → (v'.ownBlock = v.ownBlock ∨ v'.ownBlock = some w.heap.size) → K (a.put o.dst v') w') : o.wp Try.prog a w K Q := by
  obtain ⟨i0, hi0, hz0, hz1, hz2⟩ := info_partsQ wtInfo
  obtain ⟨v', w', hr, h2, h3, _, h5⟩ := run_append_own_at (P := Try.prog) w B 28 o.type 64 i0 _ 4 32 undWts hi0 hz0 hz1 hz2 rfl (by decide) v n xs hown ⟨k, off, none⟩ m c (flatV l) (by rw [flatV_len, hm]) (fun j z hj => by
      have := hat j z hj
      rw [show (⟨k, off, none⟩ : Addr).add j = ⟨k, off + j, none⟩ from by
        simp [Addr.add]
        try (intro h0; omega)]
      exact this) (oneV l) (by unfold maxLen; omega) (by omega) hB
  unfold Oper.wp execOp
  simp only [ho, resolve, invoke, builtin, Sem.run_bind, Sem.run_pure, Result.andThen_ok, List.map_toArray, List.map_cons, List.map_nil, hs, hx, hr]
  exact h v' w' h2 h3 h5
theorem wpList_apV {ops : Array Oper} {rest : List Oper} {o : Oper} {a : Act} {Q : Exit → Act → World → Prop} (hgd : o.guard = none) (sl x : Operand) (ho : o.op = .call { callee := .builtin .append, args := #[sl, x], argTypes := #[28, 28] })
    (w : World) (B : Nat) (hB : B ≤ w.heap.size) (v : Value) (n : Nat) (xs : List Value) (hs : a.eval sl = v) (hown : w.ownsRow B 64 4 v n xs) (k off m c : Nat) (l : List (Wpl.Cl × Int)) (hm : l.length = m) (hx : a.eval x = .slice (some ⟨k, off, none⟩) m c) (hat : ∀ j u, (flatV l)[j]? = some u → w.cell? ⟨k, off + j, none⟩ = some u) (hn : n + m ≤ 2000000000)
    (h : ∀ v' w', w'.ownsRow B 64 4 v' (n + m) (xs ++ flatV l) → w.grownBy w' v.ownBlock → (v'.ownBlock = v.ownBlock ∨ v'.ownBlock = some w.heap.size) → wpList Try.prog ops Q rest (a.put o.dst v') w') : wpList Try.prog ops Q (o :: rest) a w :=
  wpList_plain hgd fun K hK => wp_apV sl x ho w B hB v n xs hs hown k off m c l hm hx hat hn (fun v' w' h1 h2 h3 => hK _ _ (h v' w' h1 h2 h3))
/-- In order. -/
def Srd (A : List Wpl.Ar) (l : List (Wpl.Cl × Int)) : Prop := (l.map (wrR A)).Pairwise (fun a b => Wq.ltW b a = false)
/-- An entry on its way to its place. -/
structure Ins (A : List Wpl.Ar) (P : List (Wpl.Cl × Int)) (e : Wpl.Cl × Int) (Q : List (Wpl.Cl × Int)) : Prop where
  so : Srd A (P ++ Q)
  be : ∀ q ∈ Q, Wq.ltW (wrR A e) (wrR A q) = true
theorem Ins.stop {A : List Wpl.Ar} {P Q : List (Wpl.Cl × Int)} {e : Wpl.Cl × Int} (h : Ins A P e Q) (hp : ∀ p ∈ P, Wq.ltW (wrR A e) (wrR A p) = false) : Srd A (P ++ e :: Q) := by
  have hs := h.so
  unfold Srd at *
  rw [List.map_append] at hs
  rw [List.map_append, List.map_cons]
  obtain ⟨h1, h2, h3⟩ := List.pairwise_append.1 hs
  refine List.pairwise_append.2 ⟨h1, List.pairwise_cons.2 ⟨fun b hb => ?_, h2⟩, fun a ha b hb => ?_⟩
  · obtain ⟨q, hq, rfl⟩ := List.mem_map.1 hb
    exact Wq.ord_W.asym _ _ (h.be q hq)
  · rcases List.mem_cons.1 hb with rfl | hb
    · obtain ⟨p, hp2, rfl⟩ := List.mem_map.1 ha
      exact hp p hp2
    · exact h3 a ha b hb
theorem Ins.last {A : List Wpl.Ar} {P Q : List (Wpl.Cl × Int)} {e y : Wpl.Cl × Int} (h : Ins A (P ++ [y]) e Q) (hy : Wq.ltW (wrR A e) (wrR A y) = false) : ∀ p ∈ P ++ [y], Wq.ltW (wrR A e) (wrR A p) = false := by
  intro p hp
  rcases List.mem_append.1 hp with q | q
  · have hs := h.so
    unfold Srd at hs
    rw [List.append_assoc, List.map_append] at hs
    have h3 := (List.pairwise_append.1 hs).2.2 (wrR A p) (List.mem_map.2 ⟨p, q, rfl⟩) (wrR A y) (List.mem_map.2 ⟨y, by simp, rfl⟩)
    exact Wq.ord_W.trans _ _ _ h3 hy
  · rw [List.mem_singleton.1 q]
    exact hy
theorem Ins.step {A : List Wpl.Ar} {P Q : List (Wpl.Cl × Int)} {e y : Wpl.Cl × Int} (h : Ins A (P ++ [y]) e Q) (hy : Wq.ltW (wrR A e) (wrR A y) = true) : Ins A P e (y :: Q) := by
  refine ⟨?_, fun q hq => ?_⟩
  · have := h.so
    rw [List.append_assoc] at this
    exact this
  · rcases List.mem_cons.1 hq with rfl | hq
    · exact hy
    · exact h.be q hq
theorem swap_row (P Q : List (Wpl.Cl × Int)) (e y : Wpl.Cl × Int) : ((P ++ [y] ++ e :: Q).set (P.length + 1) y).set P.length e = P ++ e :: y :: Q := by
  rw [List.append_assoc, List.set_append_right _ _ (by omega), List.set_append_right _ _ (by omega)]
  simp
set_option maxRecDepth 100000 in
set_option maxHeartbeats 16000000 in
theorem rcells_any (db : Nat) (R : List (Wpl.Cl × Int)) (A : List Wpl.Ar) (a1 : Option Addr) (n c1 : Nat) (a2 : Option Addr) (m c2 : Nat) (w : World) (h : Dr w db R A a1 n c1 a2 m c2) (hN : True → n ≤ 1000000000) (hM : True → m ≤ 1000000000) :
    Calls Try.prog 36 #[.pointer (some ⟨db, 0, none⟩)] w (CelP ((Wq.srt (R.map (wrR A))).map clW) w) := by
  have HD : Hid (Dr w db R A a1 n c1 a2 m c2) := h
  obtain ⟨D, hD⟩ : ∃ D, (Wq.srt (R.map (wrR A))).map clW = D := ⟨_, rfl⟩
  have HDD : Hid ((Wq.srt (R.map (wrR A))).map clW = D) := hD
  rw [hD]
  clear h hD
  go_enter Try.func36, Try.ntmps36
  go_upto_region 3 with fail
  go_loopg [3, 4] n (fun gk y x wr => ∃ (i : Nat) (u : Value) (L : List (Wpl.Cl × Int)), u = y ∧ x = .int .i64 (i : Int) ∧ gk = n - i ∧ Hid (i ≤ n) ∧ Hid (wr.ownsRow w.heap.size 64 4 u i (flatV L)) ∧ Hid (L.Perm (R.take i) ∧ Srd A L ∧ L.length = i) ∧ Hid (Below w.heap.size w wr))
  case atStart => exact ⟨0, _, [], rfl, rfl, rfl, Nat.zero_le _, ⟨rfl, Or.inl ⟨rfl, rfl⟩⟩, ⟨List.Perm.refl _, List.Pairwise.nil, rfl⟩, Below.refl _ _⟩
  case round =>
    obtain ⟨i, u, L, rfl, rfl, hg, HI, HO, HP, HB⟩ := hrel
    generalize hw9 : wr = W at *
    clear hw9
    obtain ⟨c0, _, _, _⟩ := (HD.out.below HB.out).hd.two
    by_cases hlt : i < n
    · have hii : (i : Int) < (n : Int) := by omega
      have hiz : (0 : Int) ≤ (i : Int) := by omega
      have hwi : IntKind.i64.wrap ((i : Int) + 1) = (i : Int) + 1 := by have := hN trivial; rw [IntKind.wrap_i64]; omega
      obtain ⟨e, he⟩ : ∃ e, R[i]? = some e := ⟨R[i]'(by rw [HD.out.ll]; exact hlt), List.getElem?_eq_getElem _⟩
      have HEE : Hid (R.take (i + 1) = R.take i ++ [e]) := by show _ = _; rw [List.take_add_one, he]; rfl
      obtain ⟨bb, off, ea, ⟨k0, k1⟩, k2, k3⟩ := (HD.out.rl.below HB.out).at he
      subst ea
      obtain ⟨ua, uc, eu, rL, zL⟩ := RdV.of_own HO.out HP.out.2.2
      clear rL zL
      subst eu
      have ba := ball (Below.refl _ W) (.cells #[.int .i64 e.1.s, .int .i64 e.1.r, .int .i64 e.1.c, .int .i64 e.2] 64)
      have q2 := AtL.new0 W 64 [.int .i64 e.1.s, .int .i64 e.1.r, .int .i64 e.1.c, .int .i64 e.2]
      have o2 : (W.alloc (.cells #[.int .i64 e.1.s, .int .i64 e.1.r, .int .i64 e.1.c, .int .i64 e.2] 64)).ownsRow w.heap.size 64 4 (.slice ua i uc) i (flatV L) := own_fr (Fr.of_below [] ba) HO.out (by simp)
      have HBA : Hid (Below w.heap.size w (W.alloc (.cells #[.int .i64 e.1.s, .int .i64 e.1.r, .int .i64 e.1.c, .int .i64 e.2] 64))) := below_end HB.out ba
      have hs2 := HBA.out.size
      have HC2 : Hid (∀ j v, (flatV [e])[j]? = some v → (W.alloc (.cells #[.int .i64 e.1.s, .int .i64 e.1.r, .int .i64 e.1.c, .int .i64 e.2] 64)).cell? ⟨W.heap.size, 0 + j, none⟩ = some v) := fun j v hv => by rw [Nat.zero_add]; exact q2.2.1 j v hv
      clear ba q2 he HO
      go_upto_region 7 with (at_builtin; refine wpList_apV rfl (.tmp 19) (.tmp 27) rfl (W.alloc (.cells #[.int .i64 e.1.s, .int .i64 e.1.r, .int .i64 e.1.c, .int .i64 e.2] 64)) w.heap.size hs2 (.slice ua i uc) i (flatV L) (by rfl) o2 W.heap.size 0 1 1 [e] (by rfl) (by rfl) HC2.out (by have := hN trivial; omega) ?_; intro v3 w3 o3 hg3 _)
      have HB3 : Hid (Below w.heap.size w w3) := HBA.out.grown hg3 HBA.out.size (fun k e => (own_blk o2 e).1)
      have HO3 : Hid (w3.ownsRow w.heap.size 64 4 v3 (i + 1) (flatV (L ++ e :: []))) := by show World.ownsRow _ _ _ _ _ _ _; rw [flatV_app]; exact o3
      obtain ⟨ra, rc, er, _, hr⟩ := own_open o3
      obtain ⟨g, eg, _⟩ := hr (by omega)
      rw [eg] at er
      subst er
      clear o2 o3 hg3 HBA HC2 hs2 k0 k1 k2 k3 c0 hr eg HB
      have HIN : Hid (Ins A L e []) := ⟨by rw [List.append_nil]; exact HP.out.2.1, fun q hq => by cases hq⟩
      go_loopg [5] i (fun gk x wr => ∃ (k : Nat) (P Q : List (Wpl.Cl × Int)), x = .int .i64 (k : Int) ∧ gk = k ∧ Hid (k ≤ i ∧ P.length = k ∧ (P ++ e :: Q).length = i + 1) ∧ Hid (Ins A P e Q ∧ (P ++ Q).Perm (R.take i)) ∧ Hid (wr.ownsRow w.heap.size 64 4 (.slice (some ⟨g, 0, none⟩) (i + 1) rc) (i + 1) (flatV (P ++ e :: Q))) ∧ Hid (Below w.heap.size w wr))
      case atStart => exact ⟨i, L, [], rfl, rfl, ⟨Nat.le_refl _, HP.out.2.2, by rw [List.length_append, HP.out.2.2]; rfl⟩, ⟨HIN.out, by rw [List.append_nil]; exact HP.out.1⟩, HO3, HB3⟩
      case round =>
        clear HO3 HB3 HIN HP HI
        obtain ⟨k, P, Q, rfl, hgk, HK, HIN, HO2, HB2⟩ := hrel
        generalize hw9 : wr = W2 at *
        clear hw9
        generalize hcp : rc = cp at *
        clear hcp
        by_cases hk0 : k = 0
        · have hz0 : (k : Int) = 0 := by omega
          have hz1 : ¬ (0 < k) := by omega
          have hz2 : decide (0 < k) = false := decide_eq_false hz1
          have HX : Hid ((P ++ e :: Q).Perm (R.take (i + 1)) ∧ Srd A (P ++ e :: Q) ∧ (P ++ e :: Q).length = i + 1) := by
            have hP : P = [] := List.eq_nil_of_length_eq_zero (by have := HK.out.2.1; omega)
            refine ⟨?_, HIN.out.1.stop (fun p hp => by rw [hP] at hp; cases hp), HK.out.2.2⟩
            rw [HEE.out]
            exact List.perm_middle.trans ((HIN.out.2.cons e).trans (List.perm_append_singleton e _).symm)
          clear hk0
          go_upto_region 7 with fail
          have hb1 := (Below.refl W2.heap.size W2).drew
          refine wp_region_held_drew (S := fun W => True) (by kernel_rfl) trivial (fun hHeld => ?_)
          have HO3 : Hid (W2.drew.ownsRow w.heap.size 64 4 (.slice (some ⟨g, 0, none⟩) (i + 1) cp) (i + 1) (flatV (P ++ e :: Q))) := own_fr (Fr.of_below [] hb1) HO2.out (by simp)
          have HB3 : Hid (Below w.heap.size w W2.drew) := below_end HB2.out hb1
          clear hb1 HO2 HB2
          generalize W2.drew = W3 at *
          refine wpAnyH_take (i := 0) (oi := { dst := Option.some 29, op := Op.move (Operand.tmp 5), type := 3, pos := "queue.go:87", after := #[], guard := Option.none }) (v := ?_) rfl (by kernel_rfl) (by kernel_rfl) (by kernel_rfl) (fun _ _ _ h => h) (Or.inl ⟨by rfl, ?_⟩) (by assumption) ?_
          rotate_left
          · intro w hSw
            (try dsimp only at hSw)
            go_simp
            try with_reducible rfl
          try simp only [Act.put, List.setIfInBounds_toArray, List.set_cons_zero, List.set_cons_succ]
          refine wpAnyH_take (i := 1) (oi := { dst := Option.some 30, op := Op.binOp BinOp.gtr 3 (Operand.tmp 29) (Operand.const (Value.int IntKind.i64 0)) 3, type := 4, pos := "queue.go:87", after := #[{ on := 0, ground := Ground.data }], guard := Option.none }) (v := ?_) rfl (by kernel_rfl) (by kernel_rfl) (by kernel_rfl) (fun _ _ _ h => h) (Or.inl ⟨by rfl, ?_⟩) (by assumption) ?_
          rotate_left
          · intro w hSw
            (try dsimp only at hSw)
            go_simp
            try with_reducible rfl
          try simp only [Act.put, List.setIfInBounds_toArray, List.set_cons_zero, List.set_cons_succ]
          refine wpAnyH_take (i := 2) (oi := { dst := Option.some 31, op := Op.move (Operand.tmp 30), type := 4, pos := "queue.go:87", after := #[{ on := 1, ground := Ground.data }], guard := Option.none }) (v := ?_) rfl (by kernel_rfl) (by kernel_rfl) (by kernel_rfl) (fun _ _ _ h => h) (Or.inl ⟨by rfl, ?_⟩) (by assumption) ?_
          rotate_left
          · intro w hSw
            (try dsimp only at hSw)
            go_simp
            try with_reducible rfl
          try simp only [Act.put, List.setIfInBounds_toArray, List.set_cons_zero, List.set_cons_succ]
          refine wpAnyH_take (i := 3) (oi := { dst := Option.some 32, op := Op.move (Operand.tmp 0), type := 27, pos := "queue.go:87", after := #[{ on := 2, ground := Ground.guard }], guard := Option.some (2, Bool.true) }) (v := undef) rfl (by kernel_rfl) (by kernel_rfl) (by kernel_rfl) (fun _ _ _ h => h) (Or.inr ⟨by rfl, rfl⟩) (by assumption) ?_
          try simp only [Act.put, List.setIfInBounds_toArray, List.set_cons_zero, List.set_cons_succ]
          refine wpAnyH_take (i := 4) (oi := { dst := Option.some 33, op := Op.move (Operand.tmp 3), type := 28, pos := "queue.go:87", after := #[{ on := 2, ground := Ground.guard }], guard := Option.some (2, Bool.true) }) (v := undef) rfl (by kernel_rfl) (by kernel_rfl) (by kernel_rfl) (fun _ _ _ h => h) (Or.inr ⟨by rfl, rfl⟩) (by assumption) ?_
          try simp only [Act.put, List.setIfInBounds_toArray, List.set_cons_zero, List.set_cons_succ]
          refine wpAnyH_take (i := 5) (oi := { dst := Option.some 34, op := Op.move (Operand.tmp 5), type := 3, pos := "queue.go:87", after := #[{ on := 2, ground := Ground.guard }], guard := Option.some (2, Bool.true) }) (v := undef) rfl (by kernel_rfl) (by kernel_rfl) (by kernel_rfl) (fun _ _ _ h => h) (Or.inr ⟨by rfl, rfl⟩) (by assumption) ?_
          try simp only [Act.put, List.setIfInBounds_toArray, List.set_cons_zero, List.set_cons_succ]
          refine wpAnyH_take (i := 6) (oi := { dst := Option.some 35, op := Op.indexAddr 28 (Operand.tmp 33) (Operand.tmp 34), type := 0, pos := "queue.go:87", after := #[{ on := 4, ground := Ground.data }, { on := 5, ground := Ground.data }, { on := 2, ground := Ground.guard }], guard := Option.some (2, Bool.true) }) (v := undef) rfl (by kernel_rfl) (by kernel_rfl) (by kernel_rfl) (fun _ _ _ h => h) (Or.inr ⟨by rfl, rfl⟩) (by assumption) ?_
          try simp only [Act.put, List.setIfInBounds_toArray, List.set_cons_zero, List.set_cons_succ]
          refine wpAnyH_take (i := 7) (oi := { dst := Option.some 36, op := Op.load 64 (Operand.tmp 35), type := 64, pos := "queue.go:87", after := #[{ on := 6, ground := Ground.data }, { on := 2, ground := Ground.guard }], guard := Option.some (2, Bool.true) }) (v := undef) rfl (by kernel_rfl) (by kernel_rfl) (by kernel_rfl) (fun _ _ _ h => h) (Or.inr ⟨by rfl, rfl⟩) (by assumption) ?_
          try simp only [Act.put, List.setIfInBounds_toArray, List.set_cons_zero, List.set_cons_succ]
          refine wpAnyH_take (i := 8) (oi := { dst := Option.some 37, op := Op.move (Operand.tmp 3), type := 28, pos := "queue.go:87", after := #[{ on := 2, ground := Ground.guard }], guard := Option.some (2, Bool.true) }) (v := undef) rfl (by kernel_rfl) (by kernel_rfl) (by kernel_rfl) (fun _ _ _ h => h) (Or.inr ⟨by rfl, rfl⟩) (by assumption) ?_
          try simp only [Act.put, List.setIfInBounds_toArray, List.set_cons_zero, List.set_cons_succ]
          refine wpAnyH_take (i := 9) (oi := { dst := Option.some 38, op := Op.move (Operand.tmp 5), type := 3, pos := "queue.go:87", after := #[{ on := 2, ground := Ground.guard }], guard := Option.some (2, Bool.true) }) (v := undef) rfl (by kernel_rfl) (by kernel_rfl) (by kernel_rfl) (fun _ _ _ h => h) (Or.inr ⟨by rfl, rfl⟩) (by assumption) ?_
          try simp only [Act.put, List.setIfInBounds_toArray, List.set_cons_zero, List.set_cons_succ]
          refine wpAnyH_take (i := 10) (oi := { dst := Option.some 39, op := Op.binOp BinOp.sub 3 (Operand.tmp 38) (Operand.const (Value.int IntKind.i64 1)) 3, type := 3, pos := "queue.go:87", after := #[{ on := 9, ground := Ground.data }, { on := 2, ground := Ground.guard }], guard := Option.some (2, Bool.true) }) (v := undef) rfl (by kernel_rfl) (by kernel_rfl) (by kernel_rfl) (fun _ _ _ h => h) (Or.inr ⟨by rfl, rfl⟩) (by assumption) ?_
          try simp only [Act.put, List.setIfInBounds_toArray, List.set_cons_zero, List.set_cons_succ]
          refine wpAnyH_take (i := 11) (oi := { dst := Option.some 40, op := Op.indexAddr 28 (Operand.tmp 37) (Operand.tmp 39), type := 0, pos := "queue.go:87", after := #[{ on := 8, ground := Ground.data }, { on := 10, ground := Ground.data }, { on := 2, ground := Ground.guard }], guard := Option.some (2, Bool.true) }) (v := undef) rfl (by kernel_rfl) (by kernel_rfl) (by kernel_rfl) (fun _ _ _ h => h) (Or.inr ⟨by rfl, rfl⟩) (by assumption) ?_
          try simp only [Act.put, List.setIfInBounds_toArray, List.set_cons_zero, List.set_cons_succ]
          refine wpAnyH_take (i := 12) (oi := { dst := Option.some 41, op := Op.load 64 (Operand.tmp 40), type := 64, pos := "queue.go:87", after := #[{ on := 11, ground := Ground.data }, { on := 2, ground := Ground.guard }], guard := Option.some (2, Bool.true) }) (v := undef) rfl (by kernel_rfl) (by kernel_rfl) (by kernel_rfl) (fun _ _ _ h => h) (Or.inr ⟨by rfl, rfl⟩) (by assumption) ?_
          try simp only [Act.put, List.setIfInBounds_toArray, List.set_cons_zero, List.set_cons_succ]
          refine wpAnyH_take (i := 13) (oi := { dst := Option.some 42, op := Op.call { callee := Callee.value (Operand.func 47), args := #[Operand.tmp 32, Operand.tmp 36, Operand.tmp 41], argTypes := #[27, 64, 64] }, type := 4, pos := "queue.go:87", after := #[{ on := 3, ground := Ground.data }, { on := 7, ground := Ground.data }, { on := 12, ground := Ground.data }, { on := 2, ground := Ground.chain }, { on := 2, ground := Ground.guard }], guard := Option.some (2, Bool.true) }) (v := undef) rfl (by kernel_rfl) (by kernel_rfl) (by kernel_rfl) (fun _ _ _ h => h) (Or.inr ⟨by rfl, rfl⟩) (by assumption) ?_
          try simp only [Act.put, List.setIfInBounds_toArray, List.set_cons_zero, List.set_cons_succ]
          refine wpAnyH_take (i := 14) (oi := { dst := Option.some 43, op := Op.pick (Operand.tmp 31) (Operand.tmp 42) (Operand.const (Value.bool Bool.false)), type := 4, pos := "queue.go:87", after := #[{ on := 2, ground := Ground.data }, { on := 13, ground := Ground.data }], guard := Option.none }) (v := ?_) rfl (by kernel_rfl) (by kernel_rfl) (by kernel_rfl) (fun _ _ _ h => h) (Or.inl ⟨by rfl, ?_⟩) (by assumption) ?_
          rotate_left
          · intro w hSw
            (try dsimp only at hSw)
            go_simp
            try with_reducible rfl
          try simp only [Act.put, List.setIfInBounds_toArray, List.set_cons_zero, List.set_cons_succ]
          refine wpAnyH_done (by kernel_rfl) ?_ _
          clear hHeld

          have HI3 : Hid (i + 1 ≤ n) := hlt
          clear HK HIN
          go_wp2_with fail
          go_roundg (n - (i + 1))
          case rel => exact ⟨i + 1, _, _, rfl, by simp, rfl, HI3, HO3, HX, HB3⟩
          case measure => omega
        · obtain ⟨k1, hk1⟩ : ∃ k1, k1 + 1 = k := ⟨k - 1, by omega⟩
          have hz1 : 0 < k := by omega
          have hz2 : decide (0 < k) = true := decide_eq_true hz1
          have hwk : IntKind.i64.wrap ((k : Int) - 1) = (k1 : Int) := by have := hN trivial; have := HK.out; rw [IntKind.wrap_i64]; omega
          have hki : (k : Int) < (i : Int) + 1 := by have := HK.out; omega
          have hkz : (0 : Int) ≤ (k : Int) := by omega
          have hk1i : (k1 : Int) < (i : Int) + 1 := by have := HK.out; omega
          have hk1z : (0 : Int) ≤ (k1 : Int) := by omega
          obtain ⟨P', y, hP⟩ : ∃ P' y, P = P' ++ [y] := by
            rcases List.eq_nil_or_concat P with q | ⟨P', y, q⟩
            · have := HK.out.2.1
              rw [q] at this
              simp at this
              omega
            · exact ⟨P', y, by rw [q]; simp⟩
          have hl' : P'.length = k1 := by
            have := HK.out.2.1
            rw [hP] at this
            simp at this
            omega
          have HKI : Hid (k < i + 1 ∧ k1 < i + 1 ∧ k1 < k) := by have := HK.out; exact ⟨by omega, by omega, by omega⟩
          have he : (P ++ e :: Q)[k]? = some e := by rw [List.getElem?_append_right (by have := HK.out.2.1; omega), HK.out.2.1, Nat.sub_self]; rfl
          have hy : (P ++ e :: Q)[k1]? = some y := by rw [hP, List.append_assoc, List.getElem?_append_right (by omega), hl', Nat.sub_self]; rfl
          have ke := own_rowV HO2.out HK.out.2.2 he
          have ky := own_rowV HO2.out HK.out.2.2 hy
          have HSW : Hid (((P ++ e :: Q).set k y).set k1 e = P' ++ e :: y :: Q) := by
            show _ = _
            rw [hP, ← hk1, ← hl']
            exact swap_row P' Q e y
          have HGG : Hid (w.heap.size ≤ g) := (own_blk HO2.out rfl).1
          have HK2 : Hid (k1 ≤ i ∧ P'.length = k1 ∧ (P' ++ e :: y :: Q).length = i + 1) := by
            have h1 := HK.out
            rw [hP] at h1
            simp only [List.length_append, List.length_cons, List.length_nil] at h1 ⊢
            exact ⟨by omega, hl', by omega⟩
          obtain ⟨t, ht⟩ : ∃ t, Wq.ltW (wrR A e) (wrR A y) = t := ⟨_, rfl⟩
          have HT : Hid (Wq.ltW (wrR A e) (wrR A y) = t) := ht
          have HPE : Hid (P = P' ++ [y]) := hP
          clear hk0 hk1 hP hl' he hy ht
          go_upto_region 7 with fail
          have hb1 := (Below.refl W2.heap.size W2).drew
          refine wp_region_held_drew (S := fun W => RowV W g (k * 4) e ∧ RowV W g (k1 * 4) y) (by kernel_rfl) ⟨ke.below hb1, ky.below hb1⟩ (fun hHeld => ?_)
          have HO3 : Hid (W2.drew.ownsRow w.heap.size 64 4 (.slice (some ⟨g, 0, none⟩) (i + 1) cp) (i + 1) (flatV (P ++ e :: Q))) := own_fr (Fr.of_below [] hb1) HO2.out (by simp)
          have HB3 : Hid (Below w.heap.size w W2.drew) := below_end HB2.out hb1
          replace ke := ke.below hb1
          replace ky := ky.below hb1
          clear hb1 HO2 HB2
          generalize W2.drew = W3 at *
          refine wpAnyH_take (i := 0) (oi := { dst := Option.some 29, op := Op.move (Operand.tmp 5), type := 3, pos := "queue.go:87", after := #[], guard := Option.none }) (v := ?_) rfl (by kernel_rfl) (by kernel_rfl) (by kernel_rfl) (fun _ _ _ h => h) (Or.inl ⟨by rfl, ?_⟩) (by assumption) ?_
          rotate_left
          · intro w hSw
            (try dsimp only at hSw)
            go_simp
            try with_reducible rfl
          try simp only [Act.put, List.setIfInBounds_toArray, List.set_cons_zero, List.set_cons_succ]
          refine wpAnyH_take (i := 1) (oi := { dst := Option.some 30, op := Op.binOp BinOp.gtr 3 (Operand.tmp 29) (Operand.const (Value.int IntKind.i64 0)) 3, type := 4, pos := "queue.go:87", after := #[{ on := 0, ground := Ground.data }], guard := Option.none }) (v := ?_) rfl (by kernel_rfl) (by kernel_rfl) (by kernel_rfl) (fun _ _ _ h => h) (Or.inl ⟨by rfl, ?_⟩) (by assumption) ?_
          rotate_left
          · intro w hSw
            (try dsimp only at hSw)
            go_simp
            try with_reducible rfl
          try simp only [Act.put, List.setIfInBounds_toArray, List.set_cons_zero, List.set_cons_succ]
          refine wpAnyH_take (i := 2) (oi := { dst := Option.some 31, op := Op.move (Operand.tmp 30), type := 4, pos := "queue.go:87", after := #[{ on := 1, ground := Ground.data }], guard := Option.none }) (v := ?_) rfl (by kernel_rfl) (by kernel_rfl) (by kernel_rfl) (fun _ _ _ h => h) (Or.inl ⟨by rfl, ?_⟩) (by assumption) ?_
          rotate_left
          · intro w hSw
            (try dsimp only at hSw)
            go_simp
            try with_reducible rfl
          try simp only [Act.put, List.setIfInBounds_toArray, List.set_cons_zero, List.set_cons_succ]
          refine wpAnyH_take (i := 3) (oi := { dst := Option.some 32, op := Op.move (Operand.tmp 0), type := 27, pos := "queue.go:87", after := #[{ on := 2, ground := Ground.guard }], guard := Option.some (2, Bool.true) }) (v := ?_) rfl (by kernel_rfl) (by kernel_rfl) (by kernel_rfl) (fun _ _ _ h => h) (Or.inl ⟨by rfl, ?_⟩) (by assumption) ?_
          rotate_left
          · intro w hSw
            (try dsimp only at hSw)
            go_simp
            try with_reducible rfl
          try simp only [Act.put, List.setIfInBounds_toArray, List.set_cons_zero, List.set_cons_succ]
          refine wpAnyH_take (i := 4) (oi := { dst := Option.some 33, op := Op.move (Operand.tmp 3), type := 28, pos := "queue.go:87", after := #[{ on := 2, ground := Ground.guard }], guard := Option.some (2, Bool.true) }) (v := ?_) rfl (by kernel_rfl) (by kernel_rfl) (by kernel_rfl) (fun _ _ _ h => h) (Or.inl ⟨by rfl, ?_⟩) (by assumption) ?_
          rotate_left
          · intro w hSw
            (try dsimp only at hSw)
            go_simp
            try with_reducible rfl
          try simp only [Act.put, List.setIfInBounds_toArray, List.set_cons_zero, List.set_cons_succ]
          refine wpAnyH_take (i := 5) (oi := { dst := Option.some 34, op := Op.move (Operand.tmp 5), type := 3, pos := "queue.go:87", after := #[{ on := 2, ground := Ground.guard }], guard := Option.some (2, Bool.true) }) (v := ?_) rfl (by kernel_rfl) (by kernel_rfl) (by kernel_rfl) (fun _ _ _ h => h) (Or.inl ⟨by rfl, ?_⟩) (by assumption) ?_
          rotate_left
          · intro w hSw
            (try dsimp only at hSw)
            go_simp
            try with_reducible rfl
          try simp only [Act.put, List.setIfInBounds_toArray, List.set_cons_zero, List.set_cons_succ]
          refine wpAnyH_take (i := 6) (oi := { dst := Option.some 35, op := Op.indexAddr 28 (Operand.tmp 33) (Operand.tmp 34), type := 0, pos := "queue.go:87", after := #[{ on := 4, ground := Ground.data }, { on := 5, ground := Ground.data }, { on := 2, ground := Ground.guard }], guard := Option.some (2, Bool.true) }) (v := ?_) rfl (by kernel_rfl) (by kernel_rfl) (by kernel_rfl) (fun _ _ _ h => h) (Or.inl ⟨by rfl, ?_⟩) (by assumption) ?_
          rotate_left
          · intro w hSw
            (try dsimp only at hSw)
            go_simp
            try with_reducible rfl
          try simp only [Act.put, List.setIfInBounds_toArray, List.set_cons_zero, List.set_cons_succ]
          refine wpAnyH_take (i := 7) (oi := { dst := Option.some 36, op := Op.load 64 (Operand.tmp 35), type := 64, pos := "queue.go:87", after := #[{ on := 6, ground := Ground.data }, { on := 2, ground := Ground.guard }], guard := Option.some (2, Bool.true) }) (v := ?_) rfl (by kernel_rfl) (by kernel_rfl) (by kernel_rfl) (fun _ _ _ h => h) (Or.inl ⟨by rfl, ?_⟩) (by assumption) ?_
          rotate_left
          · intro w hSw
            (try dsimp only at hSw)
            go_simp
            try with_reducible rfl
          try simp only [Act.put, List.setIfInBounds_toArray, List.set_cons_zero, List.set_cons_succ]
          refine wpAnyH_take (i := 8) (oi := { dst := Option.some 37, op := Op.move (Operand.tmp 3), type := 28, pos := "queue.go:87", after := #[{ on := 2, ground := Ground.guard }], guard := Option.some (2, Bool.true) }) (v := ?_) rfl (by kernel_rfl) (by kernel_rfl) (by kernel_rfl) (fun _ _ _ h => h) (Or.inl ⟨by rfl, ?_⟩) (by assumption) ?_
          rotate_left
          · intro w hSw
            (try dsimp only at hSw)
            go_simp
            try with_reducible rfl
          try simp only [Act.put, List.setIfInBounds_toArray, List.set_cons_zero, List.set_cons_succ]
          refine wpAnyH_take (i := 9) (oi := { dst := Option.some 38, op := Op.move (Operand.tmp 5), type := 3, pos := "queue.go:87", after := #[{ on := 2, ground := Ground.guard }], guard := Option.some (2, Bool.true) }) (v := ?_) rfl (by kernel_rfl) (by kernel_rfl) (by kernel_rfl) (fun _ _ _ h => h) (Or.inl ⟨by rfl, ?_⟩) (by assumption) ?_
          rotate_left
          · intro w hSw
            (try dsimp only at hSw)
            go_simp
            try with_reducible rfl
          try simp only [Act.put, List.setIfInBounds_toArray, List.set_cons_zero, List.set_cons_succ]
          refine wpAnyH_take (i := 10) (oi := { dst := Option.some 39, op := Op.binOp BinOp.sub 3 (Operand.tmp 38) (Operand.const (Value.int IntKind.i64 1)) 3, type := 3, pos := "queue.go:87", after := #[{ on := 9, ground := Ground.data }, { on := 2, ground := Ground.guard }], guard := Option.some (2, Bool.true) }) (v := ?_) rfl (by kernel_rfl) (by kernel_rfl) (by kernel_rfl) (fun _ _ _ h => h) (Or.inl ⟨by rfl, ?_⟩) (by assumption) ?_
          rotate_left
          · intro w hSw
            (try dsimp only at hSw)
            go_simp
            try with_reducible rfl
          try simp only [Act.put, List.setIfInBounds_toArray, List.set_cons_zero, List.set_cons_succ]
          refine wpAnyH_take (i := 11) (oi := { dst := Option.some 40, op := Op.indexAddr 28 (Operand.tmp 37) (Operand.tmp 39), type := 0, pos := "queue.go:87", after := #[{ on := 8, ground := Ground.data }, { on := 10, ground := Ground.data }, { on := 2, ground := Ground.guard }], guard := Option.some (2, Bool.true) }) (v := ?_) rfl (by kernel_rfl) (by kernel_rfl) (by kernel_rfl) (fun _ _ _ h => h) (Or.inl ⟨by rfl, ?_⟩) (by assumption) ?_
          rotate_left
          · intro w hSw
            (try dsimp only at hSw)
            go_simp
            try with_reducible rfl
          try simp only [Act.put, List.setIfInBounds_toArray, List.set_cons_zero, List.set_cons_succ]
          refine wpAnyH_take (i := 12) (oi := { dst := Option.some 41, op := Op.load 64 (Operand.tmp 40), type := 64, pos := "queue.go:87", after := #[{ on := 11, ground := Ground.data }, { on := 2, ground := Ground.guard }], guard := Option.some (2, Bool.true) }) (v := ?_) rfl (by kernel_rfl) (by kernel_rfl) (by kernel_rfl) (fun _ _ _ h => h) (Or.inl ⟨by rfl, ?_⟩) (by assumption) ?_
          rotate_left
          · intro w hSw
            (try dsimp only at hSw)
            go_simp
            try with_reducible rfl
          try simp only [Act.put, List.setIfInBounds_toArray, List.set_cons_zero, List.set_cons_succ]
          refine wpAnyH_ready (rs := [13]) (by kernel_rfl) (by simp) ?_
          refine AllReadyH.cons (o := { dst := Option.some 42, op := Op.call { callee := Callee.value (Operand.func 47), args := #[Operand.tmp 32, Operand.tmp 36, Operand.tmp 41], argTypes := #[27, 64, 64] }, type := 4, pos := "queue.go:87", after := #[{ on := 3, ground := Ground.data }, { on := 7, ground := Ground.data }, { on := 12, ground := Ground.data }, { on := 2, ground := Ground.chain }, { on := 2, ground := Ground.guard }], guard := Option.some (2, Bool.true) }) rfl (fun K hK => ?_) AllReadyH.nil
          have AH := rahead_any db R A _ n c1 a2 m c2 e y W3 (HD.out.below HB3.out) hM
          rw [HT.out, wtAgg, wtAgg] at AH
          go_simp
          refine AH.mono ?_
          rintro en w4 ⟨rfl, hb4⟩
          have HO4 : Hid (w4.ownsRow w.heap.size 64 4 (.slice (some ⟨g, 0, none⟩) (i + 1) cp) (i + 1) (flatV (P ++ e :: Q))) := own_fr (Fr.of_below [] hb4) HO3.out (by simp)
          have HB4 : Hid (Below w.heap.size w w4) := below_end HB3.out hb4
          replace ke := ke.below hb4
          replace ky := ky.below hb4
          clear AH hb4 HO3 HB3
          go_wp2_with fail
          refine hK.out _ _ ⟨ke, ky⟩ (fun hHeld => ?_)
          clear hK K
          try simp only [Act.put, List.setIfInBounds_toArray, List.set_cons_zero, List.set_cons_succ]
          refine wpAnyH_take (i := 14) (oi := { dst := Option.some 43, op := Op.pick (Operand.tmp 31) (Operand.tmp 42) (Operand.const (Value.bool Bool.false)), type := 4, pos := "queue.go:87", after := #[{ on := 2, ground := Ground.data }, { on := 13, ground := Ground.data }], guard := Option.none }) (v := ?_) rfl (by kernel_rfl) (by kernel_rfl) (by kernel_rfl) (fun _ _ _ h => h) (Or.inl ⟨by rfl, ?_⟩) (by assumption) ?_
          rotate_left
          · intro w hSw
            (try dsimp only at hSw)
            go_simp
            try with_reducible rfl
          try simp only [Act.put, List.setIfInBounds_toArray, List.set_cons_zero, List.set_cons_succ]
          refine wpAnyH_done (by kernel_rfl) ?_ _
          clear hHeld

          cases t with
          | false =>
            have HX : Hid ((P ++ e :: Q).Perm (R.take (i + 1)) ∧ Srd A (P ++ e :: Q) ∧ (P ++ e :: Q).length = i + 1) := by
              refine ⟨?_, HIN.out.1.stop (fun p hp => ?_), HK.out.2.2⟩
              · rw [HEE.out]
                exact List.perm_middle.trans ((HIN.out.2.cons e).trans (List.perm_append_singleton e _).symm)
              · have h1 := HIN.out.1
                rw [HPE.out] at h1 hp
                exact h1.last HT.out p hp
            have HI3 : Hid (i + 1 ≤ n) := hlt
            clear HK HIN ke ky
            go_wp2_with fail
            go_roundg (n - (i + 1))
            case rel => exact ⟨i + 1, _, _, rfl, by simp, rfl, HI3, HO4, HX, HB4⟩
            case measure => omega
          | true =>
            have HIN2 : Hid (Ins A P' e (y :: Q) ∧ (P' ++ y :: Q).Perm (R.take i)) := by
              have h1 := HIN.out
              rw [HPE.out, List.append_assoc] at h1
              have h2 := HIN.out.1
              rw [HPE.out] at h2
              exact ⟨h2.step HT.out, h1.2⟩
            clear HIN HPE
            go_upto_region 8 with fail
            have hb1 := (Below.refl w4.heap.size w4).drew
            refine wp_region_held_drew (S := fun W => True) (by kernel_rfl) trivial (fun hHeld => ?_)
            have HO5 : Hid (w4.drew.ownsRow w.heap.size 64 4 (.slice (some ⟨g, 0, none⟩) (i + 1) cp) (i + 1) (flatV (P ++ e :: Q))) := own_fr (Fr.of_below [] hb1) HO4.out (by simp)
            have HB5 : Hid (Below w.heap.size w w4.drew) := below_end HB4.out hb1
            replace ke := ke.below hb1
            replace ky := ky.below hb1
            obtain ⟨⟨e0, e1⟩, e2, e3⟩ := ke
            obtain ⟨⟨y0, y1⟩, y2, y3⟩ := ky
            clear hb1 HO4 HB4
            generalize w4.drew = W5 at *
            refine wpAnyH_take (i := 0) (oi := { dst := Option.some 44, op := Op.move (Operand.tmp 3), type := 28, pos := "queue.go:88", after := #[], guard := Option.none }) (v := ?_) rfl (by kernel_rfl) (by kernel_rfl) (by kernel_rfl) (fun _ _ _ h => h) (Or.inl ⟨by rfl, ?_⟩) (by assumption) ?_
            rotate_left
            · intro w hSw
              (try dsimp only at hSw)
              go_simp
              try with_reducible rfl
            try simp only [Act.put, List.setIfInBounds_toArray, List.set_cons_zero, List.set_cons_succ]
            refine wpAnyH_take (i := 1) (oi := { dst := Option.some 45, op := Op.move (Operand.tmp 5), type := 3, pos := "queue.go:88", after := #[], guard := Option.none }) (v := ?_) rfl (by kernel_rfl) (by kernel_rfl) (by kernel_rfl) (fun _ _ _ h => h) (Or.inl ⟨by rfl, ?_⟩) (by assumption) ?_
            rotate_left
            · intro w hSw
              (try dsimp only at hSw)
              go_simp
              try with_reducible rfl
            try simp only [Act.put, List.setIfInBounds_toArray, List.set_cons_zero, List.set_cons_succ]
            refine wpAnyH_take (i := 2) (oi := { dst := Option.some 46, op := Op.move (Operand.tmp 3), type := 28, pos := "queue.go:88", after := #[{ on := 15, ground := Ground.gcOnly Departure.lateStores }], guard := Option.none }) (v := ?_) rfl (by kernel_rfl) (by kernel_rfl) (by kernel_rfl) (fun _ _ _ h => h) (Or.inl ⟨by rfl, ?_⟩) (by assumption) ?_
            rotate_left
            · intro w hSw
              (try dsimp only at hSw)
              go_simp
              try with_reducible rfl
            try simp only [Act.put, List.setIfInBounds_toArray, List.set_cons_zero, List.set_cons_succ]
            refine wpAnyH_take (i := 3) (oi := { dst := Option.some 47, op := Op.move (Operand.tmp 5), type := 3, pos := "queue.go:88", after := #[{ on := 15, ground := Ground.gcOnly Departure.lateStores }], guard := Option.none }) (v := ?_) rfl (by kernel_rfl) (by kernel_rfl) (by kernel_rfl) (fun _ _ _ h => h) (Or.inl ⟨by rfl, ?_⟩) (by assumption) ?_
            rotate_left
            · intro w hSw
              (try dsimp only at hSw)
              go_simp
              try with_reducible rfl
            try simp only [Act.put, List.setIfInBounds_toArray, List.set_cons_zero, List.set_cons_succ]
            refine wpAnyH_take (i := 4) (oi := { dst := Option.some 48, op := Op.binOp BinOp.sub 3 (Operand.tmp 47) (Operand.const (Value.int IntKind.i64 1)) 3, type := 3, pos := "queue.go:88", after := #[{ on := 3, ground := Ground.data }, { on := 15, ground := Ground.gcOnly Departure.lateStores }], guard := Option.none }) (v := ?_) rfl (by kernel_rfl) (by kernel_rfl) (by kernel_rfl) (fun _ _ _ h => h) (Or.inl ⟨by rfl, ?_⟩) (by assumption) ?_
            rotate_left
            · intro w hSw
              (try dsimp only at hSw)
              go_simp
              try with_reducible rfl
            try simp only [Act.put, List.setIfInBounds_toArray, List.set_cons_zero, List.set_cons_succ]
            refine wpAnyH_take (i := 5) (oi := { dst := Option.some 49, op := Op.move (Operand.tmp 3), type := 28, pos := "queue.go:88", after := #[], guard := Option.none }) (v := ?_) rfl (by kernel_rfl) (by kernel_rfl) (by kernel_rfl) (fun _ _ _ h => h) (Or.inl ⟨by rfl, ?_⟩) (by assumption) ?_
            rotate_left
            · intro w hSw
              (try dsimp only at hSw)
              go_simp
              try with_reducible rfl
            try simp only [Act.put, List.setIfInBounds_toArray, List.set_cons_zero, List.set_cons_succ]
            refine wpAnyH_take (i := 6) (oi := { dst := Option.some 50, op := Op.move (Operand.tmp 5), type := 3, pos := "queue.go:88", after := #[], guard := Option.none }) (v := ?_) rfl (by kernel_rfl) (by kernel_rfl) (by kernel_rfl) (fun _ _ _ h => h) (Or.inl ⟨by rfl, ?_⟩) (by assumption) ?_
            rotate_left
            · intro w hSw
              (try dsimp only at hSw)
              go_simp
              try with_reducible rfl
            try simp only [Act.put, List.setIfInBounds_toArray, List.set_cons_zero, List.set_cons_succ]
            refine wpAnyH_take (i := 7) (oi := { dst := Option.some 51, op := Op.binOp BinOp.sub 3 (Operand.tmp 50) (Operand.const (Value.int IntKind.i64 1)) 3, type := 3, pos := "queue.go:88", after := #[{ on := 6, ground := Ground.data }], guard := Option.none }) (v := ?_) rfl (by kernel_rfl) (by kernel_rfl) (by kernel_rfl) (fun _ _ _ h => h) (Or.inl ⟨by rfl, ?_⟩) (by assumption) ?_
            rotate_left
            · intro w hSw
              (try dsimp only at hSw)
              go_simp
              try with_reducible rfl
            try simp only [Act.put, List.setIfInBounds_toArray, List.set_cons_zero, List.set_cons_succ]
            refine wpAnyH_take (i := 8) (oi := { dst := Option.some 52, op := Op.indexAddr 28 (Operand.tmp 49) (Operand.tmp 51), type := 0, pos := "queue.go:88", after := #[{ on := 5, ground := Ground.data }, { on := 7, ground := Ground.data }], guard := Option.none }) (v := ?_) rfl (by kernel_rfl) (by kernel_rfl) (by kernel_rfl) (fun _ _ _ h => h) (Or.inl ⟨by rfl, ?_⟩) (by assumption) ?_
            rotate_left
            · intro w hSw
              (try dsimp only at hSw)
              go_simp
              try with_reducible rfl
            try simp only [Act.put, List.setIfInBounds_toArray, List.set_cons_zero, List.set_cons_succ]
            refine wpAnyH_take (i := 10) (oi := { dst := Option.some 54, op := Op.move (Operand.tmp 3), type := 28, pos := "queue.go:88", after := #[], guard := Option.none }) (v := ?_) rfl (by kernel_rfl) (by kernel_rfl) (by kernel_rfl) (fun _ _ _ h => h) (Or.inl ⟨by rfl, ?_⟩) (by assumption) ?_
            rotate_left
            · intro w hSw
              (try dsimp only at hSw)
              go_simp
              try with_reducible rfl
            try simp only [Act.put, List.setIfInBounds_toArray, List.set_cons_zero, List.set_cons_succ]
            refine wpAnyH_take (i := 11) (oi := { dst := Option.some 55, op := Op.move (Operand.tmp 5), type := 3, pos := "queue.go:88", after := #[], guard := Option.none }) (v := ?_) rfl (by kernel_rfl) (by kernel_rfl) (by kernel_rfl) (fun _ _ _ h => h) (Or.inl ⟨by rfl, ?_⟩) (by assumption) ?_
            rotate_left
            · intro w hSw
              (try dsimp only at hSw)
              go_simp
              try with_reducible rfl
            try simp only [Act.put, List.setIfInBounds_toArray, List.set_cons_zero, List.set_cons_succ]
            refine wpAnyH_take (i := 12) (oi := { dst := Option.some 56, op := Op.indexAddr 28 (Operand.tmp 54) (Operand.tmp 55), type := 0, pos := "queue.go:88", after := #[{ on := 10, ground := Ground.data }, { on := 11, ground := Ground.data }], guard := Option.none }) (v := ?_) rfl (by kernel_rfl) (by kernel_rfl) (by kernel_rfl) (fun _ _ _ h => h) (Or.inl ⟨by rfl, ?_⟩) (by assumption) ?_
            rotate_left
            · intro w hSw
              (try dsimp only at hSw)
              go_simp
              try with_reducible rfl
            try simp only [Act.put, List.setIfInBounds_toArray, List.set_cons_zero, List.set_cons_succ]
            refine wpAnyH_ready (rs := [9, 13]) (by kernel_rfl) (by simp) ?_
            refine AllReadyH.cons (o := { dst := Option.some 53, op := Op.load 64 (Operand.tmp 52), type := 64, pos := "queue.go:88", after := #[{ on := 8, ground := Ground.data }], guard := Option.none }) rfl (fun K hK => ?_) (AllReadyH.cons (o := { dst := Option.some 57, op := Op.load 64 (Operand.tmp 56), type := 64, pos := "queue.go:88", after := #[{ on := 12, ground := Ground.data }], guard := Option.none }) rfl (fun K hK => ?_) AllReadyH.nil)
            · go_simp
              refine hK.out _ _ trivial (fun hHeld => ?_)
              clear hK K
              try simp only [Act.put, List.setIfInBounds_toArray, List.set_cons_zero, List.set_cons_succ]
              refine wpAnyH_ready (rs := [13]) (by kernel_rfl) (by simp) ?_
              refine AllReadyH.cons (o := { dst := Option.some 57, op := Op.load 64 (Operand.tmp 56), type := 64, pos := "queue.go:88", after := #[{ on := 12, ground := Ground.data }], guard := Option.none }) rfl (fun K hK => ?_) AllReadyH.nil
              go_simp
              refine hK.out _ _ trivial (fun hHeld => ?_)
              clear hK K
              try simp only [Act.put, List.setIfInBounds_toArray, List.set_cons_zero, List.set_cons_succ]
              clear e0 e1 e2 e3 y0 y1 y2 y3
              refine wpAnyH_take (i := 14) (oi := { dst := Option.some 58, op := Op.indexAddr 28 (Operand.tmp 44) (Operand.tmp 45), type := 0, pos := "queue.go:88", after := #[{ on := 0, ground := Ground.data }, { on := 1, ground := Ground.data }, { on := 0, ground := Ground.phase }, { on := 1, ground := Ground.phase }, { on := 2, ground := Ground.textOnly Departure.lateStores }, { on := 3, ground := Ground.textOnly Departure.lateStores }, { on := 4, ground := Ground.textOnly Departure.lateStores }, { on := 5, ground := Ground.phase }, { on := 6, ground := Ground.phase }, { on := 7, ground := Ground.phase }, { on := 8, ground := Ground.phase }, { on := 9, ground := Ground.phase }, { on := 10, ground := Ground.textOnly Departure.lateStores }, { on := 11, ground := Ground.textOnly Departure.lateStores }, { on := 12, ground := Ground.textOnly Departure.lateStoresUnsure }, { on := 13, ground := Ground.phase }], guard := Option.none }) (v := ?_) rfl (by kernel_rfl) (by kernel_rfl) (by kernel_rfl) (fun _ _ _ h => h) (Or.inl ⟨by rfl, ?_⟩) (by assumption) ?_
              rotate_left
              · intro w hSw
                (try dsimp only at hSw)
                go_simp
                try with_reducible rfl
              try simp only [Act.put, List.setIfInBounds_toArray, List.set_cons_zero, List.set_cons_succ]
              refine wpAnyH_ready (rs := [15]) (by kernel_rfl) (by simp) ?_
              refine AllReadyH.cons (o := { dst := Option.none, op := Op.store 64 (Operand.tmp 58) (Operand.tmp 53), type := 0, pos := "queue.go:88", after := #[{ on := 14, ground := Ground.data }, { on := 9, ground := Ground.data }, { on := 0, ground := Ground.phase }, { on := 1, ground := Ground.phase }, { on := 2, ground := Ground.textOnly Departure.lateStores }, { on := 3, ground := Ground.textOnly Departure.lateStores }, { on := 4, ground := Ground.textOnly Departure.lateStores }, { on := 5, ground := Ground.phase }, { on := 6, ground := Ground.phase }, { on := 7, ground := Ground.phase }, { on := 8, ground := Ground.phase }, { on := 9, ground := Ground.phase }, { on := 10, ground := Ground.textOnly Departure.lateStores }, { on := 11, ground := Ground.textOnly Departure.lateStores }, { on := 12, ground := Ground.textOnly Departure.lateStoresUnsure }, { on := 13, ground := Ground.phase }], guard := Option.none }) rfl (fun K hK => ?_) AllReadyH.nil
              refine wp_store_mid 64 (.tmp 58) (.tmp 53) rfl g (k * 4) (wtV y).toArray rfl rfl (own_thereV HO5.out HKI.out.1) (by kernel_rfl) (all_oneCell_toArray (oneVl y)) ?_
              have HO6 : Hid ((W5.setCells g (k * 4) (wtV y)).ownsRow w.heap.size 64 4 (.slice (some ⟨g, 0, none⟩) (i + 1) cp) (i + 1) (flatV ((P ++ e :: Q).set k y))) := own_putV HO5.out HK.out.2.2 HKI.out.1 y
              have HB6 : Hid (Below w.heap.size w (W5.setCells g (k * 4) (wtV y))) := bset HB5.out HGG.out _ _
              refine hK.out _ _ trivial (fun hHeld => ?_)
              clear hK K HO5 HB5
              try simp only [Act.put]
              generalize W5.setCells g (k * 4) (wtV y) = W6 at *
              refine wpAnyH_take (i := 16) (oi := { dst := Option.some 59, op := Op.indexAddr 28 (Operand.tmp 46) (Operand.tmp 48), type := 0, pos := "queue.go:88", after := #[{ on := 2, ground := Ground.data }, { on := 4, ground := Ground.data }, { on := 0, ground := Ground.phase }, { on := 1, ground := Ground.phase }, { on := 2, ground := Ground.phase }, { on := 3, ground := Ground.phase }, { on := 4, ground := Ground.phase }, { on := 5, ground := Ground.phase }, { on := 6, ground := Ground.phase }, { on := 7, ground := Ground.phase }, { on := 8, ground := Ground.phase }, { on := 9, ground := Ground.phase }, { on := 10, ground := Ground.phase }, { on := 11, ground := Ground.phase }, { on := 12, ground := Ground.phase }, { on := 13, ground := Ground.phase }, { on := 14, ground := Ground.phase }, { on := 15, ground := Ground.phase }], guard := Option.none }) (v := ?_) rfl (by kernel_rfl) (by kernel_rfl) (by kernel_rfl) (fun _ _ _ h => h) (Or.inl ⟨by rfl, ?_⟩) (by assumption) ?_
              rotate_left
              · intro w hSw
                (try dsimp only at hSw)
                go_simp
                try with_reducible rfl
              try simp only [Act.put, List.setIfInBounds_toArray, List.set_cons_zero, List.set_cons_succ]
              refine wpAnyH_ready (rs := [17]) (by kernel_rfl) (by simp) ?_
              refine AllReadyH.cons (o := { dst := Option.none, op := Op.store 64 (Operand.tmp 59) (Operand.tmp 57), type := 0, pos := "queue.go:88", after := #[{ on := 16, ground := Ground.data }, { on := 13, ground := Ground.data }, { on := 15, ground := Ground.chain }, { on := 0, ground := Ground.phase }, { on := 1, ground := Ground.phase }, { on := 2, ground := Ground.phase }, { on := 3, ground := Ground.phase }, { on := 4, ground := Ground.phase }, { on := 5, ground := Ground.phase }, { on := 6, ground := Ground.phase }, { on := 7, ground := Ground.phase }, { on := 8, ground := Ground.phase }, { on := 9, ground := Ground.phase }, { on := 10, ground := Ground.phase }, { on := 11, ground := Ground.phase }, { on := 12, ground := Ground.phase }, { on := 13, ground := Ground.phase }, { on := 14, ground := Ground.phase }, { on := 15, ground := Ground.phase }], guard := Option.none }) rfl (fun K hK => ?_) AllReadyH.nil
              refine wp_store_mid 64 (.tmp 59) (.tmp 57) rfl g (k1 * 4) (wtV e).toArray rfl rfl (own_thereV HO6.out HKI.out.2.1) (by kernel_rfl) (all_oneCell_toArray (oneVl e)) ?_
              have HO7 : Hid ((W6.setCells g (k1 * 4) (wtV e)).ownsRow w.heap.size 64 4 (.slice (some ⟨g, 0, none⟩) (i + 1) cp) (i + 1) (flatV (P' ++ e :: y :: Q))) := by
                have := own_putV HO6.out (by rw [List.length_set]; exact HK.out.2.2) HKI.out.2.1 e
                rw [HSW.out] at this
                exact this
              have HB7 : Hid (Below w.heap.size w (W6.setCells g (k1 * 4) (wtV e))) := bset HB6.out HGG.out _ _
              refine hK.out _ _ trivial (fun hHeld => ?_)
              clear hK K HO6 HB6
              try simp only [Act.put]
              refine wpAnyH_done (by kernel_rfl) ?_ _
              clear hHeld
              generalize W6.setCells g (k1 * 4) (wtV e) = W7 at *
              have HK7 : Hid (k1 ≤ i ∧ P'.length = k1 ∧ (P' ++ e :: y :: Q).length = i + 1) := HK2.out
              clear HK
              go_wp2_with fail
              go_roundg k1
              case rel => exact ⟨k1, P', y :: Q, by simp, rfl, HK7, HIN2, HO7, HB7⟩
              case measure => have := HKI.out; omega
            · go_simp
              refine hK.out _ _ trivial (fun hHeld => ?_)
              clear hK K
              try simp only [Act.put, List.setIfInBounds_toArray, List.set_cons_zero, List.set_cons_succ]
              refine wpAnyH_ready (rs := [9]) (by kernel_rfl) (by simp) ?_
              refine AllReadyH.cons (o := { dst := Option.some 53, op := Op.load 64 (Operand.tmp 52), type := 64, pos := "queue.go:88", after := #[{ on := 8, ground := Ground.data }], guard := Option.none }) rfl (fun K hK => ?_) AllReadyH.nil
              go_simp
              refine hK.out _ _ trivial (fun hHeld => ?_)
              clear hK K
              try simp only [Act.put, List.setIfInBounds_toArray, List.set_cons_zero, List.set_cons_succ]
              clear e0 e1 e2 e3 y0 y1 y2 y3
              refine wpAnyH_take (i := 14) (oi := { dst := Option.some 58, op := Op.indexAddr 28 (Operand.tmp 44) (Operand.tmp 45), type := 0, pos := "queue.go:88", after := #[{ on := 0, ground := Ground.data }, { on := 1, ground := Ground.data }, { on := 0, ground := Ground.phase }, { on := 1, ground := Ground.phase }, { on := 2, ground := Ground.textOnly Departure.lateStores }, { on := 3, ground := Ground.textOnly Departure.lateStores }, { on := 4, ground := Ground.textOnly Departure.lateStores }, { on := 5, ground := Ground.phase }, { on := 6, ground := Ground.phase }, { on := 7, ground := Ground.phase }, { on := 8, ground := Ground.phase }, { on := 9, ground := Ground.phase }, { on := 10, ground := Ground.textOnly Departure.lateStores }, { on := 11, ground := Ground.textOnly Departure.lateStores }, { on := 12, ground := Ground.textOnly Departure.lateStoresUnsure }, { on := 13, ground := Ground.phase }], guard := Option.none }) (v := ?_) rfl (by kernel_rfl) (by kernel_rfl) (by kernel_rfl) (fun _ _ _ h => h) (Or.inl ⟨by rfl, ?_⟩) (by assumption) ?_
              rotate_left
              · intro w hSw
                (try dsimp only at hSw)
                go_simp
                try with_reducible rfl
              try simp only [Act.put, List.setIfInBounds_toArray, List.set_cons_zero, List.set_cons_succ]
              refine wpAnyH_ready (rs := [15]) (by kernel_rfl) (by simp) ?_
              refine AllReadyH.cons (o := { dst := Option.none, op := Op.store 64 (Operand.tmp 58) (Operand.tmp 53), type := 0, pos := "queue.go:88", after := #[{ on := 14, ground := Ground.data }, { on := 9, ground := Ground.data }, { on := 0, ground := Ground.phase }, { on := 1, ground := Ground.phase }, { on := 2, ground := Ground.textOnly Departure.lateStores }, { on := 3, ground := Ground.textOnly Departure.lateStores }, { on := 4, ground := Ground.textOnly Departure.lateStores }, { on := 5, ground := Ground.phase }, { on := 6, ground := Ground.phase }, { on := 7, ground := Ground.phase }, { on := 8, ground := Ground.phase }, { on := 9, ground := Ground.phase }, { on := 10, ground := Ground.textOnly Departure.lateStores }, { on := 11, ground := Ground.textOnly Departure.lateStores }, { on := 12, ground := Ground.textOnly Departure.lateStoresUnsure }, { on := 13, ground := Ground.phase }], guard := Option.none }) rfl (fun K hK => ?_) AllReadyH.nil
              refine wp_store_mid 64 (.tmp 58) (.tmp 53) rfl g (k * 4) (wtV y).toArray rfl rfl (own_thereV HO5.out HKI.out.1) (by kernel_rfl) (all_oneCell_toArray (oneVl y)) ?_
              have HO6 : Hid ((W5.setCells g (k * 4) (wtV y)).ownsRow w.heap.size 64 4 (.slice (some ⟨g, 0, none⟩) (i + 1) cp) (i + 1) (flatV ((P ++ e :: Q).set k y))) := own_putV HO5.out HK.out.2.2 HKI.out.1 y
              have HB6 : Hid (Below w.heap.size w (W5.setCells g (k * 4) (wtV y))) := bset HB5.out HGG.out _ _
              refine hK.out _ _ trivial (fun hHeld => ?_)
              clear hK K HO5 HB5
              try simp only [Act.put]
              generalize W5.setCells g (k * 4) (wtV y) = W6 at *
              refine wpAnyH_take (i := 16) (oi := { dst := Option.some 59, op := Op.indexAddr 28 (Operand.tmp 46) (Operand.tmp 48), type := 0, pos := "queue.go:88", after := #[{ on := 2, ground := Ground.data }, { on := 4, ground := Ground.data }, { on := 0, ground := Ground.phase }, { on := 1, ground := Ground.phase }, { on := 2, ground := Ground.phase }, { on := 3, ground := Ground.phase }, { on := 4, ground := Ground.phase }, { on := 5, ground := Ground.phase }, { on := 6, ground := Ground.phase }, { on := 7, ground := Ground.phase }, { on := 8, ground := Ground.phase }, { on := 9, ground := Ground.phase }, { on := 10, ground := Ground.phase }, { on := 11, ground := Ground.phase }, { on := 12, ground := Ground.phase }, { on := 13, ground := Ground.phase }, { on := 14, ground := Ground.phase }, { on := 15, ground := Ground.phase }], guard := Option.none }) (v := ?_) rfl (by kernel_rfl) (by kernel_rfl) (by kernel_rfl) (fun _ _ _ h => h) (Or.inl ⟨by rfl, ?_⟩) (by assumption) ?_
              rotate_left
              · intro w hSw
                (try dsimp only at hSw)
                go_simp
                try with_reducible rfl
              try simp only [Act.put, List.setIfInBounds_toArray, List.set_cons_zero, List.set_cons_succ]
              refine wpAnyH_ready (rs := [17]) (by kernel_rfl) (by simp) ?_
              refine AllReadyH.cons (o := { dst := Option.none, op := Op.store 64 (Operand.tmp 59) (Operand.tmp 57), type := 0, pos := "queue.go:88", after := #[{ on := 16, ground := Ground.data }, { on := 13, ground := Ground.data }, { on := 15, ground := Ground.chain }, { on := 0, ground := Ground.phase }, { on := 1, ground := Ground.phase }, { on := 2, ground := Ground.phase }, { on := 3, ground := Ground.phase }, { on := 4, ground := Ground.phase }, { on := 5, ground := Ground.phase }, { on := 6, ground := Ground.phase }, { on := 7, ground := Ground.phase }, { on := 8, ground := Ground.phase }, { on := 9, ground := Ground.phase }, { on := 10, ground := Ground.phase }, { on := 11, ground := Ground.phase }, { on := 12, ground := Ground.phase }, { on := 13, ground := Ground.phase }, { on := 14, ground := Ground.phase }, { on := 15, ground := Ground.phase }], guard := Option.none }) rfl (fun K hK => ?_) AllReadyH.nil
              refine wp_store_mid 64 (.tmp 59) (.tmp 57) rfl g (k1 * 4) (wtV e).toArray rfl rfl (own_thereV HO6.out HKI.out.2.1) (by kernel_rfl) (all_oneCell_toArray (oneVl e)) ?_
              have HO7 : Hid ((W6.setCells g (k1 * 4) (wtV e)).ownsRow w.heap.size 64 4 (.slice (some ⟨g, 0, none⟩) (i + 1) cp) (i + 1) (flatV (P' ++ e :: y :: Q))) := by
                have := own_putV HO6.out (by rw [List.length_set]; exact HK.out.2.2) HKI.out.2.1 e
                rw [HSW.out] at this
                exact this
              have HB7 : Hid (Below w.heap.size w (W6.setCells g (k1 * 4) (wtV e))) := bset HB6.out HGG.out _ _
              refine hK.out _ _ trivial (fun hHeld => ?_)
              clear hK K HO6 HB6
              try simp only [Act.put]
              refine wpAnyH_done (by kernel_rfl) ?_ _
              clear hHeld
              generalize W6.setCells g (k1 * 4) (wtV e) = W7 at *
              have HK7 : Hid (k1 ≤ i ∧ P'.length = k1 ∧ (P' ++ e :: y :: Q).length = i + 1) := HK2.out
              clear HK
              go_wp2_with fail
              go_roundg k1
              case rel => exact ⟨k1, P', y :: Q, by simp, rfl, HK7, HIN2, HO7, HB7⟩
              case measure => have := HKI.out; omega

    · have hii : ¬ (i : Int) < (n : Int) := by omega
      have HDE : Hid (L.map (fun p => p.1) = D ∧ L.length = n) := by
        have hin : i = n := by have := HI.out; omega
        have h1 := HP.out
        rw [hin, List.take_of_length_le (by rw [HD.out.ll]; exact Nat.le_refl _)] at h1
        have h2 : Wq.srt (R.map (wrR A)) = L.map (wrR A) := Wq.srt_of (h1.1.map _) h1.2.1
        refine ⟨?_, h1.2.2⟩
        rw [← HDD.out, h2, List.map_map]
        rfl
      have HO9 : Hid (W.ownsRow w.heap.size 64 4 u n (flatV L)) := by
        have hin : i = n := by have := HI.out; omega
        have := HO.out
        rw [hin] at this
        exact this
      obtain ⟨ua, uc, eu, rL, zL⟩ := RdV.of_own HO9.out HDE.out.2
      clear zL
      subst eu
      have HRL : Hid (RdV W ua L) := rL
      clear HO HP HI rL HO9
      go_upto_region 12 with fail
      go_loopg [6, 7] n (fun gk y x wr => ∃ (j : Nat) (v : Value), v = y ∧ x = .int .i64 (j : Int) ∧ gk = n - j ∧ Hid (j ≤ n) ∧ Hid (wr.ownsRow W.heap.size 33 3 v j (flatX (D.take j))) ∧ Hid (Below W.heap.size W wr))
      case atStart => exact ⟨0, _, rfl, rfl, rfl, Nat.zero_le _, ⟨rfl, Or.inl ⟨rfl, rfl⟩⟩, Below.refl _ _⟩
      case round =>
        obtain ⟨j, v, rfl, rfl, hgj, HJ, HO, HBB⟩ := hrel
        generalize hw9 : wr = W1 at *
        clear hw9
        by_cases hjt : j < n
        · have hji : (j : Int) < (n : Int) := by omega
          have hjz : (0 : Int) ≤ (j : Int) := by omega
          have hwj : IntKind.i64.wrap ((j : Int) + 1) = (j : Int) + 1 := by have := hN trivial; rw [IntKind.wrap_i64]; omega
          obtain ⟨p, hp⟩ : ∃ p, L[j]? = some p := ⟨L[j]'(by rw [HDE.out.2]; exact hjt), List.getElem?_eq_getElem _⟩
          obtain ⟨bb, off, ea, ⟨k0, k1⟩, k2, k3⟩ := (HRL.out.below HBB.out).at hp
          subst ea
          have HT : Hid (flatX (D.take (j + 1)) = flatX (D.take j) ++ flatX [p.1]) := by
            show _ = _
            have : D[j]? = some p.1 := by rw [← HDE.out.1, List.getElem?_map, hp]; rfl
            rw [List.take_add_one, this, flatX_app]
            rfl
          have hb2 := ball (Below.refl _ W1) (.cells #[.int .i64 p.1.s, .int .i64 p.1.r, .int .i64 p.1.c] 33)
          have q2 := AtL.new0 W1 33 [.int .i64 p.1.s, .int .i64 p.1.r, .int .i64 p.1.c]
          have o2 : (W1.alloc (.cells #[.int .i64 p.1.s, .int .i64 p.1.r, .int .i64 p.1.c] 33)).ownsRow W.heap.size 33 3 v j (flatX (D.take j)) := own_fr (Fr.of_below [] hb2) HO.out (by simp)
          have HB2 : Hid (Below W.heap.size W (W1.alloc (.cells #[.int .i64 p.1.s, .int .i64 p.1.r, .int .i64 p.1.c] 33))) := below_end HBB.out hb2
          have hs2 := HB2.out.size
          have HC2 : Hid (∀ j v, (flatX [p.1])[j]? = some v → (W1.alloc (.cells #[.int .i64 p.1.s, .int .i64 p.1.r, .int .i64 p.1.c] 33)).cell? ⟨W1.heap.size, 0 + j, none⟩ = some v) := fun j v hv => by rw [Nat.zero_add]; exact q2.2.1 j v hv
          clear hb2 q2 HO HBB hp
          go_upto_region 14 with fail
          go_wp2_with (at_builtin; refine wpList_apX rfl (.tmp 68) (.tmp 74) rfl (W1.alloc (.cells #[.int .i64 p.1.s, .int .i64 p.1.r, .int .i64 p.1.c] 33)) W.heap.size hs2 v j (flatX (D.take j)) (by rfl) o2 W1.heap.size 0 1 1 [p.1] (by rfl) (by rfl) HC2.out (by have := hN trivial; omega) ?_; intro v3 w3 o3 hg3 _)
          have HO3 : Hid (w3.ownsRow W.heap.size 33 3 v3 (j + 1) (flatX (D.take (j + 1)))) := by show World.ownsRow _ _ _ _ _ _ _; rw [HT.out]; exact o3
          have HB3 : Hid (Below W.heap.size W w3) := HB2.out.grown hg3 HB2.out.size (fun k e => (own_blk o2 e).1)
          clear o2 o3 hg3 HB2 HC2 hs2 k0 k1 k2 k3
          go_wp2_with fail
          go_roundg (n - (j + 1))
          case rel => exact ⟨j + 1, v3, rfl, by simp, rfl, hjt, HO3, HB3⟩
          case measure => omega
        · have hji : ¬ (j : Int) < (n : Int) := by omega
          have HE : Hid (CelP D w (.returned v) W1) := by
            have hj : j = n := by have := HJ.out; omega
            have hDl : D.length = n := by rw [← HDE.out.1, List.length_map]; exact HDE.out.2
            have o := HO.out
            rw [hj, List.take_of_length_le (by omega)] at o
            refine ⟨⟨v, rfl, ?_⟩, below_end HB.out HBB.out⟩
            rw [hDl]
            exact own_mono o HB.out.size
          clear HO HBB HJ
          go_wp2
          go_ret
          exact HE.out
end Go.Proofs.Ytpbjmhcpaeillaa
