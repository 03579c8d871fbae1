/- Queues: a row is copied. -/
import Derived.Test.YtpbjmhcpaeillaaQQd
namespace Go.Proofs.Ytpbjmhcpaeillaa
open Go.RowKit
set_option linter.unusedVariables false

theorem oneF : ∀ (l : List Wq.Wr), ∀ u ∈ flatW l, u.oneCell' = true
  | [], u, hu => by cases hu
  | y :: r, u, hu => by
    rcases List.mem_append.1 hu with q | q
    · exact oneWl y u q
    · exact oneF r u q
/-- A row is laid behind another one. -/
theorem wpList_apR {ops : Array Oper} {rest : List Oper} {o : Oper} {a : Act} {Q : Exit → Act → World → Prop} (hgd : o.guard = none) (sl x : Operand) (ho : o.op = .call { callee := .builtin .append, args := #[sl, x], argTypes := #[68, 68] })
    (w : World) (B : Nat) (hB : B ≤ w.heap.size) (v : Value) (n : Nat) (xs : List Value) (hs : a.eval sl = v) (hown : w.ownsRow B 58 5 v n xs) (k m c : Nat) (l : List Wq.Wr) (hm : l.length = m) (hx : a.eval x = .slice (some ⟨k, 0, none⟩) m c) (hat : ∀ j u, (flatW l)[j]? = some u → w.cell? ⟨k, j, none⟩ = some u) (hn : n + m ≤ 2000000000)
    (h : ∀ v' w', w'.ownsRow B 58 5 v' (n + m) (xs ++ flatW l) → w.grownBy w' v.ownBlock → wpList Try.prog ops Q rest (a.put o.dst v') w') : wpList Try.prog ops Q (o :: rest) a w := by
  refine wpList_plain hgd fun K hK => ?_
  obtain ⟨i0, hi0, hz0, hz1, hz2⟩ := info_partsQ wrInfo
  obtain ⟨v', w', hr, h2, h3, _, h5⟩ := run_append_own_at (P := Try.prog) w B 68 o.type 58 i0 _ 5 40 undWrs hi0 hz0 hz1 hz2 rfl (by decide) v n xs hown ⟨k, 0, none⟩ m c (flatW l) (by rw [flatW_len, hm]) (fun j z hj => by
      have := hat j z hj
      rw [show (⟨k, 0, none⟩ : Addr).add j = ⟨k, j, none⟩ from by
        simp [Addr.add]
        try (intro h0; omega)]
      exact this) (oneF l) (by unfold maxLen; omega) (by omega) hB
  unfold Oper.wp execOp
  simp only [ho, resolve, invoke, builtin, Sem.run_bind, Sem.run_pure, Result.andThen_ok, List.map_toArray, List.map_cons, List.map_nil, hs, hx, hr]
  exact hK _ _ (h v' w' h2 h3)
theorem eqNil1 (g n c : Nat) (w : World) : (binOp .eql 68 (.slice (some ⟨g, 0, none⟩) n c) (.slice none 0 0)).run Try.prog w = .ok (.bool false) w := by kernel_rfl
theorem eqNil0 (w : World) : (binOp .eql 68 (.slice none 0 0) (.slice none 0 0)).run Try.prog w = .ok (.bool true) w := by kernel_rfl
/-- What Clone answers. -/
def CloP (l : List Wq.Wr) (w : World) (en : Ending) (w' : World) : Prop := (∃ v, en = .returned v ∧ w'.ownsRow w.heap.size 58 5 v l.length (flatW l)) ∧ Below w.heap.size w w'
set_option maxRecDepth 100000 in
set_option maxHeartbeats 4000000 in
theorem clone_any (rv : Value) (l : List Wq.Wr) (B : Nat) (w : World) (h : w.ownsRow B 58 5 rv l.length (flatW l)) (hN : True → l.length ≤ 1000000000) :
    Calls Try.prog 48 #[rv] w (CloP l w) := by
  rcases h.2 with ⟨e, h0⟩ | ⟨g, cap, cur, e, hbg, hg, h1, h2, h3, h4⟩
  · subst e
    have hl : l = [] := List.eq_nil_of_length_eq_zero h0
    subst hl
    clear h
    have en := fun w => eqNil0 w
    go_enter Try.func48, Try.ntmps48
    go_wp2
    go_ret
    exact ⟨⟨_, rfl, rfl, Or.inl ⟨rfl, rfl⟩⟩, Below.refl _ _⟩
  · subst e
    obtain ⟨n, hn⟩ : ∃ n, l.length = n := ⟨_, rfl⟩
    have HC : Hid (∀ j u, (flatW l)[j]? = some u → w.cell? ⟨g, j, none⟩ = some u) := fun j u hu => by
      have hc := h.cells (g := g) rfl j u hu
      rwa [show (⟨g, 0, none⟩ : Addr).add j = ⟨g, j, none⟩ from by simp [Addr.add]; intro h; exact h.symm] at hc
    have HL : Hid (l.length = n ∧ (True → n ≤ 1000000000)) := ⟨hn, fun _ => by have := hN trivial; omega⟩
    have ba := ball (Below.refl _ w) (.cells #[] 58)
    have oE : (w.alloc (.cells #[] 58)).ownsRow w.heap.size 58 5 (.slice (some ⟨w.heap.size, 0, none⟩) 0 0) 0 [] := ⟨rfl, Or.inr ⟨w.heap.size, 0, #[], rfl, Nat.le_refl _, (Go.MapKept.heap_alloc w _).1, Nat.le_refl _, by unfold maxLen; omega, rfl, rfl⟩⟩
    have HB0 : Hid (Below w.heap.size w (w.alloc (.cells #[] 58))) := ba
    have hs0 : w.heap.size ≤ (w.alloc (.cells #[] 58)).heap.size := ba.size
    rw [hn]
    clear h h1 h2 h3 h4 hg hbg hN hn ba
    have en := fun w => eqNil1 g n cap w
    go_enter Try.func48, Try.ntmps48
    go_wp2_with (at_builtin; refine wpList_apR rfl (.tmp 5) (.tmp 6) rfl (w.alloc (.cells #[] 58)) w.heap.size hs0 (.slice (some ⟨w.heap.size, 0, none⟩) 0 0) 0 [] rfl oE g n cap l HL.out.1 rfl (fun j u hu => cell_below HB0.out (HC.out j u hu)) (by have := HL.out.2 trivial; omega) ?_; intro v2 w2 o2 hg2)
    have HE : Hid (CloP l w (.returned v2) w2) := by
      refine ⟨⟨v2, rfl, by rw [HL.out.1]; simpa using o2⟩, HB0.out.grown hg2 HB0.out.size (fun k e => ?_)⟩
      have : some w.heap.size = some k := e
      simp at this
      omega
    clear o2 hg2
    go_wp2_with fail
    go_ret
    exact HE.out
end Go.Proofs.Ytpbjmhcpaeillaa
namespace Go.Proofs.Ytpbjmhcpaeillaa
open Go.RowKit
set_option linter.unusedVariables false

set_option maxRecDepth 100000 in
/-- What the sort asks. -/
theorem sorted1_any (a b : Wq.Wr) (w : World) : Calls Try.prog 50 #[.agg (wrV a).toArray, .agg (wrV b).toArray] w fun en w' => en = .returned (.int .i64 (Wq.cmpW a b)) ∧ Below w.heap.size w w' := by
  have p1 := (AtL.new0 w 58 [.int .i64 a.s, .int .i64 a.r, .int .i64 a.c, .int .i64 a.ln, .int .i64 a.lv]).alloc (.cells #[.int .i64 b.s, .int .i64 b.r, .int .i64 b.c, .int .i64 b.ln, .int .i64 b.lv] 58)
  have p2 := AtL.new1 w (.cells #[.int .i64 a.s, .int .i64 a.r, .int .i64 a.c, .int .i64 a.ln, .int .i64 a.lv] 58) 58 [.int .i64 b.s, .int .i64 b.r, .int .i64 b.c, .int .i64 b.ln, .int .i64 b.lv]
  have f1 := AtL.f5 p1
  have f2 := AtL.f5 p2
  have hb0 := ball (ball (Below.refl _ w) (.cells #[.int .i64 a.s, .int .i64 a.r, .int .i64 a.c, .int .i64 a.ln, .int .i64 a.lv] 58)) (.cells #[.int .i64 b.s, .int .i64 b.r, .int .i64 b.c, .int .i64 b.ln, .int .i64 b.lv] 58)
  clear p1 p2
  show Calls _ _ #[.agg #[.int .i64 a.s, .int .i64 a.r, .int .i64 a.c, .int .i64 a.ln, .int .i64 a.lv], .agg #[.int .i64 b.s, .int .i64 b.r, .int .i64 b.c, .int .i64 b.ln, .int .i64 b.lv]] _ _
  go_enter Try.func50, Try.ntmps50
  go_upto_region 1 with fail
  generalize (w.alloc (.cells #[.int .i64 a.s, .int .i64 a.r, .int .i64 a.c, .int .i64 a.ln, .int .i64 a.lv] 58)).alloc (.cells #[.int .i64 b.s, .int .i64 b.r, .int .i64 b.c, .int .i64 b.ln, .int .i64 b.lv] 58) = W0 at *
  obtain ⟨a0, a1, a2, a3, a4⟩ := f1
  obtain ⟨b0, b1, b2, b3, b4⟩ := f2
  go_wp2_with fail
  refine (compare_any a b _).mono ?_
  rintro en w1 ⟨rfl, hb1⟩
  go_wp2
  go_ret
  exact ⟨rfl, below_end hb0 hb1⟩
/-- An entry with the lane that its cell has now. -/
def reW (A : List Wpl.Ar) (a : Wq.Wr) : Wq.Wr := ⟨a.s, a.r, a.c, lnQ A (clW a), a.lv⟩
set_option maxHeartbeats 4000000 in
theorem see1_any (pb qb : Nat) (pw : Value) (A : List Wpl.Ar) (a : Wq.Wr) (av : Option Addr) (n cap : Nat) (w : World) (hp : AtL w pb [.pointer (some ⟨qb, 0, none⟩)]) (h : AtL w qb [pw, .slice av n cap]) (hr : RdQ w av A) (hn : A.length = n) (hN : True → n ≤ 1000000000) :
    Calls Try.prog 33 #[.agg (wrV a).toArray, .pointer (some ⟨pb, 0, none⟩)] w fun en w' => en = .returned (.agg (wrV (reW A a)).toArray) ∧ Below w.heap.size w w' := by
  have hb0 := ball (ball (Below.refl _ w) (.cells #[.int .i64 a.s, .int .i64 a.r, .int .i64 a.c, .int .i64 a.ln, .int .i64 a.lv] 58)) (.cells #[.int .i64 0, .int .i64 0, .int .i64 0, .int .i64 0, .int .i64 0] 58)
  have p1 := (AtL.new0 w 58 [.int .i64 a.s, .int .i64 a.r, .int .i64 a.c, .int .i64 a.ln, .int .i64 a.lv]).alloc (.cells #[.int .i64 0, .int .i64 0, .int .i64 0, .int .i64 0, .int .i64 0] 58)
  have p2 := AtL.new1 w (.cells #[.int .i64 a.s, .int .i64 a.r, .int .i64 a.c, .int .i64 a.ln, .int .i64 a.lv] 58) 58 [.int .i64 0, .int .i64 0, .int .i64 0, .int .i64 0, .int .i64 0]
  have c0 := (AtL.below hb0 hp).2.1 0 _ rfl
  have LN := lane_any qb pw A (clW a) av n cap ((w.alloc (.cells #[.int .i64 a.s, .int .i64 a.r, .int .i64 a.c, .int .i64 a.ln, .int .i64 a.lv] 58)).alloc (.cells #[.int .i64 0, .int .i64 0, .int .i64 0, .int .i64 0, .int .i64 0] 58)) (AtL.below hb0 h) (hr.below hb0) hn hN
  have HW : Hid (w.heap.size ≠ w.heap.size + 1) := by show _ ≠ _; omega
  obtain ⟨L, hL⟩ : ∃ L, lnQ A (clW a) = L := ⟨_, rfl⟩
  have HL : Hid (reW A a = ⟨a.s, a.r, a.c, L, a.lv⟩) := by show _ = _; unfold reW; rw [hL]
  rw [hL] at LN
  have HB0 : Hid (Below w.heap.size w ((w.alloc (.cells #[.int .i64 a.s, .int .i64 a.r, .int .i64 a.c, .int .i64 a.ln, .int .i64 a.lv] 58)).alloc (.cells #[.int .i64 0, .int .i64 0, .int .i64 0, .int .i64 0, .int .i64 0] 58))) := hb0
  clear hp h hr hn hN hL hb0
  show Calls _ _ #[.agg #[.int .i64 a.s, .int .i64 a.r, .int .i64 a.c, .int .i64 a.ln, .int .i64 a.lv], .pointer (some ⟨pb, 0, none⟩)] _ _
  go_enter Try.func33, Try.ntmps33
  go_upto_region 1 with fail
  generalize (w.alloc (.cells #[.int .i64 a.s, .int .i64 a.r, .int .i64 a.c, .int .i64 a.ln, .int .i64 a.lv] 58)).alloc (.cells #[.int .i64 0, .int .i64 0, .int .i64 0, .int .i64 0, .int .i64 0] 58) = W0 at *
  obtain ⟨a0, a1, a2, a3, a4⟩ := AtL.f5 p1
  go_wp2_with fail
  refine LN.mono ?_
  rintro en w1 ⟨rfl, hb1⟩
  have q1 := AtL.below hb1 p1
  have q2 := AtL.below hb1 p2
  have HB1 : Hid (Below w.heap.size w w1) := below_end HB0.out hb1
  clear LN hb1 p1 p2 a0 a1 a2 a3 a4 c0 HB0
  have r1 : AtL (w1.setCell ⟨w.heap.size, 3, none⟩ (.int .i64 L)) w.heap.size (wrV ⟨a.s, a.r, a.c, L, a.lv⟩) := q1.set 3 _
  have r2 := q2.far HW.out 3 (.int .i64 L)
  have HB2 : Hid (Below w.heap.size w (w1.setCell ⟨w.heap.size, 3, none⟩ (.int .i64 L))) := bset HB1.out (Nat.le_refl _) [_] 3
  obtain ⟨_, _, _, a3, _, z⟩ := AtL.five q1
  go_upto_region 2 with fail
  clear q1 q2 HB1 a3 z
  generalize w1.setCell ⟨w.heap.size, 3, none⟩ (.int .i64 L) = w2 at *
  obtain ⟨d0, d1, d2, d3, d4, _⟩ := AtL.five r1
  have hth : w2.there (w.heap.size + 1) 0 5 := r2.there
  have s2 : AtL (w2.setCells (w.heap.size + 1) 0 (wrV ⟨a.s, a.r, a.c, L, a.lv⟩)) (w.heap.size + 1) (wrV ⟨a.s, a.r, a.c, L, a.lv⟩) := r2.setAll rfl
  have HB3 : Hid (Below w.heap.size w (w2.setCells (w.heap.size + 1) 0 (wrV ⟨a.s, a.r, a.c, L, a.lv⟩))) := bset HB2.out (Nat.le_succ _) _ _
  go_wp2_with ((with_reducible refine wpList_store_mid ?_ 58 (.tmp 3) (.tmp 9) ?_ (w.heap.size + 1) 0 (wrV ⟨a.s, a.r, a.c, L, a.lv⟩).toArray ?_ ?_ ?_ ?_ ?_ ?_); rfl; rfl; rfl; rfl; exact hth; kernel_rfl; exact oneW _)
  generalize w2.setCells (w.heap.size + 1) 0 (wrV ⟨a.s, a.r, a.c, L, a.lv⟩) = w3 at *
  obtain ⟨e0, e1, e2, e3, e4, _⟩ := AtL.five s2
  refine bodyPost_ret (v := .agg #[.int .i64 a.s, .int .i64 a.r, .int .i64 a.c, .int .i64 L, .int .i64 a.lv]) (by simp [results, Try.results33, go_sem, e0, e1, e2, e3, e4]) rfl ⟨by rw [HL.out]; rfl, HB3.out⟩
end Go.Proofs.Ytpbjmhcpaeillaa
