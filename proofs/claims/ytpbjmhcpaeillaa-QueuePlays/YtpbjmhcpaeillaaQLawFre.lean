/- QueueFresh: what Cells tells is new memory. -/

import Derived.Test.YtpbjmhcpaeillaaQActs
namespace Go.Proofs.Ytpbjmhcpaeillaa
open Go.RowKit
set_option linter.unusedVariables false

theorem flatX_set (U : List Wpl.Cl) (i : Nat) (hi : i < U.length) (p : Wpl.Cl) : setL (flatX U) (i * 3) (clQ p) = flatX (U.set i p) := by
  have e1 : U = U.take i ++ U[i] :: U.drop (i + 1) := by rw [← List.drop_eq_getElem_cons hi, List.take_append_drop]
  have e2 : U.set i p = U.take i ++ p :: U.drop (i + 1) := List.set_eq_take_append_cons_drop.trans (if_pos hi)
  have hl : (flatX (U.take i)).length = i * 3 := by rw [flatX_len, List.length_take, Nat.min_eq_left (by omega)]
  rw [e2]
  conv => lhs; rw [e1]
  rw [flatX_app, flatX_app]
  show setL (flatX (U.take i) ++ (clQ U[i] ++ flatX (U.drop (i + 1)))) (i * 3) (clQ p) = flatX (U.take i) ++ (clQ p ++ flatX (U.drop (i + 1)))
  rw [← List.append_assoc, ← hl, setL_app (clQ p) _ (clQ U[i]) _ rfl, List.append_assoc]
theorem own_putX {w : World} {B g n cap : Nat} {D : List Wpl.Cl} (h : w.ownsRow B 33 3 (.slice (some ⟨g, 0, none⟩) n cap) n (flatX D)) (hn : D.length = n) {i : Nat} (hi : i < n) (x : Wpl.Cl) : (w.setCells g (i * 3) (clQ x)).ownsRow B 33 3 (.slice (some ⟨g, 0, none⟩) n cap) n (flatX (D.set i x)) := by
  rw [← flatX_set D i (by omega) x]
  exact (own_setAll (clQ x) (i * 3) w _ h).1
theorem own_thereX {w : World} {B g n cap : Nat} {xs : List Value} (h : w.ownsRow B 33 3 (.slice (some ⟨g, 0, none⟩) n cap) n xs) {i : Nat} (hi : i < n) : w.there g (i * 3) 3 := by
  obtain ⟨a, c, e1, _, hr⟩ := own_open h
  obtain ⟨g', e2, ht, _⟩ := hr (by omega)
  rw [e2] at e1
  simp only [Value.slice.injEq, Option.some.injEq, Addr.mk.injEq, and_true, true_and] at e1
  rw [e1.1]
  exact ht i hi
/-- The mark of a place. -/
def mk1 (j : Nat) : Wpl.Cl := ⟨1000 + (j : Int), 0, 0⟩
/-- The first i are marked. -/
def Mkd (C D : List Wpl.Cl) (i : Nat) : Prop := D.length = C.length ∧ ∀ j, D[j]? = if j < i then (C[j]?).map (fun _ => mk1 j) else C[j]?
theorem Mkd.step {C D : List Wpl.Cl} {i : Nat} (h : Mkd C D i) (hi : i < C.length) : Mkd C (D.set i (mk1 i)) (i + 1) := by
  refine ⟨by rw [List.length_set]; exact h.1, fun j => ?_⟩
  rw [List.getElem?_set, h.1]
  by_cases c : i = j
  · subst c
    rw [if_pos rfl, if_pos hi, if_pos (Nat.lt_succ_self i), List.getElem?_eq_getElem hi]
    rfl
  · rw [if_neg c, h.2 j]
    by_cases d : j < i
    · rw [if_pos d, if_pos (by omega)]
    · rw [if_neg d, if_neg (by omega)]
theorem RdX.at {w : World} {av : Option Addr} {C : List Wpl.Cl} (h : RdX w av C) {i : Nat} {x : Wpl.Cl} (hx : C[i]? = some x) : ∃ bb off, av = some ⟨bb, off, none⟩ ∧ w.cell? ⟨bb, off + i * 3, none⟩ = some (.int .i64 x.s) ∧ w.cell? ⟨bb, off + i * 3 + 1, none⟩ = some (.int .i64 x.r) ∧ w.cell? ⟨bb, off + i * 3 + 2, none⟩ = some (.int .i64 x.c) := by
  obtain ⟨bb, off, e, hr⟩ := h i x hx
  exact ⟨bb, off, e, hr 0 _ rfl, hr 1 _ rfl, hr 2 _ rfl⟩
/-- A row of one's own in which nothing stands. -/
theorem own_emp (w : World) (T : TypeId) (k : Nat) : (w.alloc (.cells #[] T)).ownsRow w.heap.size T k (.slice (some ⟨w.heap.size, 0, none⟩) 0 0) 0 [] := ⟨by simp, Or.inr ⟨w.heap.size, 0, #[], rfl, Nat.le_refl _, (Go.MapKept.heap_alloc w _).1, Nat.le_refl _, by unfold maxLen; omega, by simp, by simp⟩⟩
/-- A row of cells, laid behind an empty one; nil too. -/
theorem wpList_copX {ops : Array Oper} {rest : List Oper} {o : Oper} {a : Act} {Q : Exit → Act → World → Prop} (hgd : o.guard = none) (sl x : Operand) (ho : o.op = .call { callee := .builtin .append, args := #[sl, x], argTypes := #[44, 44] })
    (w : World) (B : Nat) (hB : B ≤ w.heap.size) (v : Value) (hs : a.eval sl = v) (hown : w.ownsRow B 33 3 v 0 []) (B2 n : Nat) (u : Value) (l : List Wpl.Cl) (hm : l.length = n) (hx : a.eval x = u) (hr : w.ownsRow B2 33 3 u n (flatX l)) (hn : n ≤ 2000000000)
    (h : ∀ v' w', w'.ownsRow B 33 3 v' n (flatX l) → w.grownBy w' v.ownBlock → wpList Try.prog ops Q rest (a.put o.dst v') w') : wpList Try.prog ops Q (o :: rest) a w := by
  rcases hr.2 with ⟨e, h0⟩ | ⟨g, cap, cur, e, _⟩
  · have hl : l = [] := List.eq_nil_of_length_eq_zero (by omega)
    subst hl
    subst h0
    refine wpList_plain hgd fun K hK => ?_
    obtain ⟨i0, hi0, hz0, hz1, hz2⟩ := info_partsQ clInfo
    have hr2 := run_append_owned_none (P := Try.prog) (w := w) B 44 o.type 33 i0 3 undCls hi0 v 0 [] hown
    unfold Oper.wp execOp
    simp only [ho, resolve, invoke, builtin, Sem.run_bind, Sem.run_pure, Result.andThen_ok, List.map_toArray, List.map_cons, List.map_nil, hs, hx, e, hr2]
    exact hK _ _ (h v w hown ⟨rfl, rfl, rfl, Nat.le_refl _, fun k _ _ => rfl⟩)
  · refine wpList_apX hgd sl x ho w B hB v 0 [] hs hown g 0 n cap l hm (by rw [hx, e]) (fun j z hz => ?_) (by omega) (fun v' w' h1 h2 _ => h v' w' (by simpa using h1) h2)
    have hc := hr.cells (g := g) (by rw [e]; rfl) j z hz
    rwa [show (⟨g, 0, none⟩ : Addr).add j = ⟨g, 0 + j, none⟩ from by simp [Addr.add]; intro h; omega] at hc
set_option maxRecDepth 100000 in
set_option maxHeartbeats 16000000 in
theorem law_fresh (T : List Ac) (av : Option Addr) (tn cap : Nat) (w : World) (h : RdS w av T) (hn : T.length = tn) (hB : True → tn ≤ 1000000000000000) (hA : True → ∀ a ∈ T, a.A.length ≤ 1000000000000000) :
    Calls Try.prog 7 #[.slice av tn cap] w fun en w' => en = .returned (.bool true) ∧ Below w.heap.size w w' := by
  have AB := able_any w
  have HS : Hid (RdS w av T ∧ T.length = tn) := ⟨h, hn⟩
  clear h hn
  go_enter Try.func7, Try.ntmps7
  go_wp2_with fail
  refine AB.mono ?_
  rintro en w1 ⟨rfl, hb1⟩
  have HB1 : Hid (Below w.heap.size w w1) := hb1
  have MU := much_any T av tn cap w1 (HS.out.1.below hb1) HS.out.2 hB hA
  clear AB hb1 hB hA
  go_wp2_with fail
  refine MU.mono ?_
  rintro en w1' ⟨⟨q, rfl, hq⟩, hw⟩
  obtain rfl : w1 = w1' := hw.symm
  have HT : Hid (q = false → tot T ≤ 400) := hq
  clear MU hq
  cases q with
  | true =>
    go_wp2
    go_ret
    exact ⟨rfl, HB1.out⟩
  | false =>
    have HT4 : Hid (tot T ≤ 400) := HT.out rfl
    clear HT
    have MA := made_any T av tn cap w1 (HS.out.1.below HB1.out) HS.out.2 HT4.out
    go_wp2_with fail
    refine MA.mono ?_
    rintro en w2 ⟨qb, rfl, h2⟩
    have HQ2 : Hid (Qst w1 w2 qb (plQ T).1 (plQ T).2) := h2
    obtain ⟨C, hC⟩ : ∃ C, (Wq.srt (plQ T).1).map clW = C := ⟨_, rfl⟩
    obtain ⟨n, hnC⟩ : ∃ n, C.length = n := ⟨_, rfl⟩
    have HC : Hid ((Wq.srt (plQ T).1).map clW = C ∧ C.length = n ∧ n ≤ 400) := ⟨hC, hnC, by
      have h1 := (plQ_len T).1
      have h2 := HT4.out
      rw [← hnC, ← hC, List.length_map, Wq.srt_len]
      omega⟩
    have HN : Hid ((plQ T).1.length ≤ 400) := by
      have h1 := (plQ_len T).1
      have h2 := HT4.out
      show _ ≤ _
      omega
    have C1 := st_cells h2 (fun _ => by have := HN.out; omega)
    rw [hC] at C1
    clear MA h2 hC hnC HT4
    go_wp2_with fail
    refine C1.mono ?_
    rintro en w3 ⟨⟨v1, rfl, ho1⟩, hb3⟩
    have HQ3 : Hid (Qst w1 w3 qb (plQ T).1 (plQ T).2) := HQ2.out.below hb3
    have HB3 : Hid (Below w2.heap.size w2 w3) := hb3
    rw [HC.out.2.1] at ho1
    have HO1 : Hid (w3.ownsRow w2.heap.size 33 3 v1 n (flatX C)) := ho1
    have C2 := st_cells HQ3.out (fun _ => by have := HN.out; omega)
    rw [HC.out.1] at C2
    clear C1 ho1 hb3
    go_wp2_with fail
    refine C2.mono ?_
    rintro en w4 ⟨⟨v2, rfl, ho2⟩, hb4⟩
    rw [HC.out.2.1] at ho2
    have HO2 : Hid (w4.ownsRow w3.heap.size 33 3 v2 n (flatX C)) := ho2
    have HO1b : Hid (w4.ownsRow w2.heap.size 33 3 v1 n (flatX C)) := own_fr (Fr.of_below [] hb4) HO1.out (by simp)
    have HL1 : Hid (∀ g, v1.ownBlock = some g → w2.heap.size ≤ g ∧ g < w3.heap.size) := fun g e => own_blk HO1.out e
    have HB4 : Hid (Below w2.heap.size w2 w4) := below_end HB3.out hb4
    have HS34 : Hid (w3.heap.size ≤ w4.heap.size) := hb4.size
    clear C2 ho2 hb4 HO1 HQ3
    obtain ⟨a1, c1, e1, r1, z1⟩ := RdX.of_own HO1b.out HC.out.2.1
    obtain ⟨a2, c2, e2, r2, z2⟩ := RdX.of_own HO2.out HC.out.2.1
    subst e1 e2
    have CC := cells_any C a1 a2 n c1 c2 w4 r1 r2 HC.out.2.1 (fun _ => by have := HC.out; omega)
    clear r1 r2 z1 z2
    go_wp2_with fail
    refine CC.mono ?_
    rintro en w5 ⟨rfl, hb5⟩
    have HO1c : Hid (w5.ownsRow w2.heap.size 33 3 (.slice a1 n c1) n (flatX C)) := own_fr (Fr.of_below [] hb5) HO1b.out (by simp)
    have HO2c : Hid (w5.ownsRow w3.heap.size 33 3 (.slice a2 n c2) n (flatX C)) := own_fr (Fr.of_below [] hb5) HO2.out (by simp)
    have HL2 : Hid (∀ g, (Value.slice a2 n c2).ownBlock = some g → w3.heap.size ≤ g ∧ g < w5.heap.size) := fun g e => own_blk HO2c.out e
    have HB5 : Hid (Below w2.heap.size w2 w5) := below_end HB4.out hb5
    have HS35 : Hid (w3.heap.size ≤ w5.heap.size) := Nat.le_trans HS34.out hb5.size
    clear CC hb5 HO1b HO2 HB4
    have ba := ball (Below.refl _ w5) (.cells #[] 33)
    have oE := own_emp w5 33 3
    have hs0 : w5.heap.size ≤ (w5.alloc (.cells #[] 33)).heap.size := ba.size
    have HBA : Hid (Below w5.heap.size w5 (w5.alloc (.cells #[] 33))) := ba
    have HO1d : Hid ((w5.alloc (.cells #[] 33)).ownsRow w2.heap.size 33 3 (.slice a1 n c1) n (flatX C)) := own_fr (Fr.of_below [] ba) HO1c.out (by simp)
    clear ba
    go_wp2_with (at_builtin; refine wpList_copX rfl (.tmp 23) (.tmp 24) rfl (w5.alloc (.cells #[] 33)) w5.heap.size hs0 (.slice (some ⟨w5.heap.size, 0, none⟩) 0 0) rfl oE w2.heap.size n (.slice a1 n c1) C HC.out.2.1 rfl HO1d.out (by have := HC.out; omega) ?_; intro v3 w6 o3 hg3)
    have HB56 : Hid (Below w5.heap.size w5 w6) := HBA.out.grown hg3 HBA.out.size (fun k e => by
      have : some w5.heap.size = some k := e
      simp at this
      omega)
    obtain ⟨a3, c3, e3, r3, z3⟩ := RdX.of_own o3 HC.out.2.1
    subst e3
    have HO1 : Hid (w6.ownsRow w2.heap.size 33 3 (.slice a1 n c1) n (flatX C)) := own_fr (Fr.of_below [] HB56.out) HO1c.out (by simp)
    have HO2 : Hid (w6.ownsRow w3.heap.size 33 3 (.slice a2 n c2) n (flatX C)) := own_fr (Fr.of_below [] HB56.out) HO2c.out (by simp)
    have HO3 : Hid (w6.ownsRow w5.heap.size 33 3 (.slice a3 n c3) n (flatX C)) := o3
    have HB6 : Hid (Below w2.heap.size w2 w6) := below_end HB5.out HB56.out
    have HS23 : Hid (w2.heap.size ≤ w3.heap.size ∧ w3.heap.size ≤ w5.heap.size) := ⟨HB3.out.size, HS35.out⟩
    have HL3 : Hid (w5.heap.size ≤ w6.heap.size) := HB56.out.size
    clear o3 hg3 r3 z3 HO1c HO2c HO1d HBA HB5 oE hs0 HS34 HS35 HB56
    go_upto_region 11 with fail
    go_loopg [7] n (fun gk x wr => ∃ (i : Nat) (D : List Wpl.Cl), x = .int .i64 (i : Int) ∧ gk = n - i ∧ Hid (i ≤ n ∧ Mkd C D i) ∧ Hid (wr.ownsRow w2.heap.size 33 3 (.slice a1 n c1) n (flatX D)) ∧ Hid (wr.ownsRow w3.heap.size 33 3 (.slice a2 n c2) n (flatX C)) ∧ Hid (wr.ownsRow w5.heap.size 33 3 (.slice a3 n c3) n (flatX C)) ∧ Hid (Below w2.heap.size w2 wr ∧ w6.heap.size ≤ wr.heap.size))
    case atStart => exact ⟨0, C, rfl, rfl, ⟨Nat.zero_le _, rfl, fun j => by rw [if_neg (Nat.not_lt_zero j)]⟩, HO1, HO2, HO3, HB6.out, Nat.le_refl _⟩
    case round =>
      clear HO1 HO2 HO3 HB6
      obtain ⟨i, D, rfl, hg, HI, HO1, HO2, HO3, HB6⟩ := hrel
      generalize hw9 : wr = W1 at *
      clear hw9
      by_cases hlt : i < n
      · have hii : (i : Int) < (n : Int) := by omega
        have hiz : (0 : Int) ≤ (i : Int) := by omega
        have hwi : IntKind.i64.wrap ((i : Int) + 1) = (i : Int) + 1 := by have := HC.out; rw [IntKind.wrap_i64]; omega
        have hwk : IntKind.i64.wrap (1000 + (i : Int)) = 1000 + (i : Int) := by have := HC.out; rw [IntKind.wrap_i64]; omega
        obtain ⟨ra, rc, er, _, hr⟩ := own_open HO1.out
        obtain ⟨g, eg, _⟩ := hr (by omega)
        simp only [Value.slice.injEq, true_and] at er
        rw [eg] at er
        have ea := er.1
        clear er hr eg
        subst ea
        have hth := own_thereX HO1.out hlt
        have HG : Hid (w2.heap.size ≤ g ∧ g < w3.heap.size) := HL1.out g rfl
        have HM : Hid (Mkd C (D.set i (mk1 i)) (i + 1)) := HI.out.2.step (by rw [HC.out.2.1]; exact hlt)
        have HO1n : Hid ((W1.setCells g (i * 3) (clQ (mk1 i))).ownsRow w2.heap.size 33 3 (.slice (some ⟨g, 0, none⟩) n c1) n (flatX (D.set i (mk1 i)))) := own_putX HO1.out (by rw [HI.out.2.1]; exact HC.out.2.1) hlt (mk1 i)
        have HO2n : Hid ((W1.setCells g (i * 3) (clQ (mk1 i))).ownsRow w3.heap.size 33 3 (.slice a2 n c2) n (flatX C)) := own_fr (setCells_fr W1 g (clQ (mk1 i)) (i * 3)) HO2.out (fun k e => by simp; have := HL2.out k e; have := HG.out; omega)
        have HO3n : Hid ((W1.setCells g (i * 3) (clQ (mk1 i))).ownsRow w5.heap.size 33 3 (.slice a3 n c3) n (flatX C)) := own_fr (setCells_fr W1 g (clQ (mk1 i)) (i * 3)) HO3.out (fun k e => by simp; have := (own_blk HO3.out e).1; have := HG.out; have := HS23.out; omega)
        have HB6n : Hid (Below w2.heap.size w2 (W1.setCells g (i * 3) (clQ (mk1 i))) ∧ w6.heap.size ≤ (W1.setCells g (i * 3) (clQ (mk1 i))).heap.size) := ⟨bset HB6.out.1 HG.out.1 _ _, by rw [size_setCells]; exact HB6.out.2⟩
        go_wp2_with ((with_reducible refine wpList_store_mid ?_ 33 (.tmp 37) (.tmp 36) ?_ g (i * 3) (clQ (mk1 i)).toArray ?_ ?_ ?_ ?_ ?_ ?_); rfl; rfl; rfl; rfl; exact hth; kernel_rfl; exact oneC3 (mk1 i))
        generalize W1.setCells g (i * 3) (clQ (mk1 i)) = W2 at *
        clear HO1 HO2 HO3 HB6 hth
        go_wp2_with fail
        go_roundg (n - (i + 1))
        case rel => exact ⟨i + 1, _, by simp, rfl, ⟨hlt, HM.out⟩, HO1n, HO2n, HO3n, HB6n⟩
        case measure => omega
      · have hii : ¬ (i : Int) < (n : Int) := by omega
        have HD : Hid (D.length = n ∧ ∀ j, j < n → D[j]? = some (mk1 j)) := ⟨by rw [HI.out.2.1]; exact HC.out.2.1, fun j hj => by
          rw [HI.out.2.2 j, if_pos (by omega), List.getElem?_eq_getElem (by rw [HC.out.2.1]; exact hj)]
          rfl⟩
        clear HI
        obtain ⟨_, _, e2, r2, z2⟩ := RdX.of_own HO2.out HC.out.2.1
        simp only [Value.slice.injEq, true_and] at e2
        have e2a := e2.1
        subst e2a
        obtain ⟨_, _, e3, r3, z3⟩ := RdX.of_own HO3.out HC.out.2.1
        simp only [Value.slice.injEq, true_and] at e3
        have e3a := e3.1
        subst e3a
        have CC := cells_any C a2 a3 n c2 c3 W1 r2 r3 HC.out.2.1 (fun _ => by have := HC.out; omega)
        clear e2 e3 r2 r3 z2 z3
        go_wp2_with fail
        refine CC.mono ?_
        rintro en w7 ⟨rfl, hb7⟩
        have HO1b : Hid (w7.ownsRow w2.heap.size 33 3 (.slice a1 n c1) n (flatX D)) := own_fr (Fr.of_below [] hb7) HO1.out (by simp)
        have HO2b : Hid (w7.ownsRow w3.heap.size 33 3 (.slice a2 n c2) n (flatX C)) := own_fr (Fr.of_below [] hb7) HO2.out (by simp)
        have HO3b : Hid (w7.ownsRow w5.heap.size 33 3 (.slice a3 n c3) n (flatX C)) := own_fr (Fr.of_below [] hb7) HO3.out (by simp)
        have HB7 : Hid (Below w2.heap.size w2 w7 ∧ w6.heap.size ≤ w7.heap.size) := ⟨below_end HB6.out.1 hb7, Nat.le_trans HB6.out.2 hb7.size⟩
        clear CC hb7 HO1 HO2 HO3 HB6
        -- append to l
        have ba := ball (Below.refl _ w7) (.cells #[.int .i64 (-1), .int .i64 0, .int .i64 0] 33)
        have HBA : Hid (Below w7.heap.size w7 (w7.alloc (.cells #[.int .i64 (-1), .int .i64 0, .int .i64 0] 33))) := ba
        have q2 := AtL.new0 w7 33 [.int .i64 (-1), .int .i64 0, .int .i64 0]
        have HC2 : Hid (∀ j v, (flatX [⟨-1, 0, 0⟩])[j]? = some v → (w7.alloc (.cells #[.int .i64 (-1), .int .i64 0, .int .i64 0] 33)).cell? ⟨w7.heap.size, 0 + j, none⟩ = some v) := fun j v hv => by rw [Nat.zero_add]; exact q2.2.1 j v hv
        have o1 : (w7.alloc (.cells #[.int .i64 (-1), .int .i64 0, .int .i64 0] 33)).ownsRow w2.heap.size 33 3 (.slice a1 n c1) n (flatX D) := own_fr (Fr.of_below [] ba) HO1b.out (by simp)
        have hs2 : w2.heap.size ≤ (w7.alloc (.cells #[.int .i64 (-1), .int .i64 0, .int .i64 0] 33)).heap.size := Nat.le_trans HB7.out.1.size ba.size
        clear ba q2
        go_upto_region 17 with (at_builtin; refine wpList_apX rfl (.tmp 42) (.tmp 44) rfl (w7.alloc (.cells #[.int .i64 (-1), .int .i64 0, .int .i64 0] 33)) w2.heap.size hs2 (.slice a1 n c1) n (flatX D) (by rfl) o1 w7.heap.size 0 1 1 [⟨-1, 0, 0⟩] (by rfl) (by rfl) HC2.out (by have := HC.out; omega) ?_; intro v8 w8 o8 hg8 hz8)
        have HFR8 : Hid (Fr (Value.slice a1 n c1).ownBlock.toList w7 w8) := Fr.trans (Fr.of_below _ HBA.out) (Fr.of_grown hg8 (fun k e => by rw [e]; simp))
        have HO8 : Hid (w8.ownsRow w2.heap.size 33 3 v8 (n + 1) (flatX (D ++ [⟨-1, 0, 0⟩]))) := by show World.ownsRow _ _ _ _ _ _ _; rw [flatX_app]; exact o8
        have HV8 : Hid (∀ g, v8.ownBlock = some g → g < w3.heap.size ∨ w6.heap.size ≤ g) := fun g e => by
          rcases hz8 with q | q
          · exact Or.inl (HL1.out g (by rw [← q]; exact e)).2
          · rw [q] at e
            simp at e
            have := HB7.out.2
            exact Or.inr (by omega)
        have HO2c : Hid (w8.ownsRow w3.heap.size 33 3 (.slice a2 n c2) n (flatX C)) := own_fr HFR8.out HO2b.out (fun g e hm => by
          simp only [Option.mem_toList] at hm
          have h1 := HL1.out g hm
          have h2 := HL2.out g e
          omega)
        have HO3c : Hid (w8.ownsRow w5.heap.size 33 3 (.slice a3 n c3) n (flatX C)) := own_fr HFR8.out HO3b.out (fun g e hm => by
          simp only [Option.mem_toList] at hm
          have h1 := HL1.out g hm
          have h2 := (own_blk HO3b.out e).1
          have h3 := HS23.out
          omega)
        have HB8 : Hid (Below w2.heap.size w2 w8 ∧ w6.heap.size ≤ w8.heap.size) := ⟨Below.of_fr HB7.out.1 HFR8.out (fun g hm => by
          simp only [Option.mem_toList] at hm
          exact (HL1.out g hm).1) HB7.out.1.size, Nat.le_trans HB7.out.2 HFR8.out.size⟩
        clear o8 hg8 hz8 HFR8 HO1b HO2b HO3b HB7 HBA HC2 o1 hs2
        -- append to m
        have ba := ball (Below.refl _ w8) (.cells #[.int .i64 (-2), .int .i64 0, .int .i64 0] 33)
        have HBA : Hid (Below w8.heap.size w8 (w8.alloc (.cells #[.int .i64 (-2), .int .i64 0, .int .i64 0] 33))) := ba
        have q2 := AtL.new0 w8 33 [.int .i64 (-2), .int .i64 0, .int .i64 0]
        have HC2 : Hid (∀ j v, (flatX [⟨-2, 0, 0⟩])[j]? = some v → (w8.alloc (.cells #[.int .i64 (-2), .int .i64 0, .int .i64 0] 33)).cell? ⟨w8.heap.size, 0 + j, none⟩ = some v) := fun j v hv => by rw [Nat.zero_add]; exact q2.2.1 j v hv
        have o1 : (w8.alloc (.cells #[.int .i64 (-2), .int .i64 0, .int .i64 0] 33)).ownsRow w3.heap.size 33 3 (.slice a2 n c2) n (flatX C) := own_fr (Fr.of_below [] ba) HO2c.out (by simp)
        have hs2 : w3.heap.size ≤ (w8.alloc (.cells #[.int .i64 (-2), .int .i64 0, .int .i64 0] 33)).heap.size := by have h1 := ba.size; have h2 := HB8.out.2; have h3 := HS23.out; have h4 := HL3.out; omega
        clear ba q2
        go_upto_region 18 with (at_builtin; refine wpList_apX rfl (.tmp 46) (.tmp 48) rfl (w8.alloc (.cells #[.int .i64 (-2), .int .i64 0, .int .i64 0] 33)) w3.heap.size hs2 (.slice a2 n c2) n (flatX C) (by rfl) o1 w8.heap.size 0 1 1 [⟨-2, 0, 0⟩] (by rfl) (by rfl) HC2.out (by have := HC.out; omega) ?_; intro v9 w9 o9 hg9 hz9)
        have HFR9 : Hid (Fr (Value.slice a2 n c2).ownBlock.toList w8 w9) := Fr.trans (Fr.of_below _ HBA.out) (Fr.of_grown hg9 (fun k e => by rw [e]; simp))
        have HO9 : Hid (w9.ownsRow w3.heap.size 33 3 v9 (n + 1) (flatX (C ++ [⟨-2, 0, 0⟩]))) := by show World.ownsRow _ _ _ _ _ _ _; rw [flatX_app]; exact o9
        have HO8b : Hid (w9.ownsRow w2.heap.size 33 3 v8 (n + 1) (flatX (D ++ [⟨-1, 0, 0⟩]))) := own_fr HFR9.out HO8.out (fun g e hm => by
          simp only [Option.mem_toList] at hm
          have h1 := HL2.out g hm
          have h2 := HV8.out g e
          have h3 := HL3.out
          omega)
        have HO3d : Hid (w9.ownsRow w5.heap.size 33 3 (.slice a3 n c3) n (flatX C)) := own_fr HFR9.out HO3c.out (fun g e hm => by
          simp only [Option.mem_toList] at hm
          have h1 := HL2.out g hm
          have h2 := (own_blk HO3c.out e).1
          omega)
        have HB9 : Hid (Below w2.heap.size w2 w9) := Below.of_fr HB8.out.1 HFR9.out (fun g hm => by
          simp only [Option.mem_toList] at hm
          have h1 := HL2.out g hm
          have h2 := HS23.out
          omega) HB8.out.1.size
        clear o9 hg9 hz9 HFR9 HO2c HO3c HB8 HBA HC2 o1 hs2 HO8 HV8
        obtain ⟨b1, d1, e1, r1, _⟩ := RdX.of_own HO8b.out (by rw [List.length_append, HD.out.1]; rfl)
        obtain ⟨b2, d2, e2, r2, _⟩ := RdX.of_own HO9.out (by rw [List.length_append, HC.out.2.1]; rfl)
        subst e1 e2
        obtain ⟨b3, d3, e3, r3, _⟩ := RdX.of_own HO3d.out HC.out.2.1
        simp only [Value.slice.injEq, true_and] at e3
        have e3a := e3.1
        clear e3
        subst e3a
        have HR : Hid (RdX w9 b1 (D ++ [⟨-1, 0, 0⟩]) ∧ RdX w9 b2 (C ++ [⟨-2, 0, 0⟩]) ∧ RdX w9 a3 C) := ⟨r1, r2, r3⟩
        clear r1 r2 r3 HO8b HO9 HO3d
        go_upto_region 19 with fail
        go_loopg [8] n (fun gk x wr => ∃ i : Nat, x = .int .i64 (i : Int) ∧ gk = n - i ∧ i ≤ n ∧ Hid (Below w9.heap.size w9 wr))
        case atStart => exact ⟨0, rfl, rfl, Nat.zero_le _, Below.refl _ _⟩
        case round =>
          obtain ⟨i, rfl, hg, hi, HB⟩ := hrel
          generalize hw9 : wr = W1 at *
          clear hw9
          by_cases hlt : i < n
          · have hii : (i : Int) < (n : Int) := by omega
            have hii1 : (i : Int) < (n : Int) + 1 := by omega
            have hiz : (0 : Int) ≤ (i : Int) := by omega
            have hwi : IntKind.i64.wrap ((i : Int) + 1) = (i : Int) + 1 := by have := HC.out; rw [IntKind.wrap_i64]; omega
            have hwk : IntKind.i64.wrap (1000 + (i : Int)) = 1000 + (i : Int) := by have := HC.out; rw [IntKind.wrap_i64]; omega
            obtain ⟨x, hx⟩ : ∃ x, C[i]? = some x := ⟨C[i]'(by rw [HC.out.2.1]; exact hlt), List.getElem?_eq_getElem _⟩
            have hx1 : (D ++ [(⟨-1, 0, 0⟩ : Wpl.Cl)])[i]? = some (mk1 i) := by rw [List.getElem?_append_left (by rw [HD.out.1]; exact hlt)]; exact HD.out.2 i hlt
            have hx2 : (C ++ [(⟨-2, 0, 0⟩ : Wpl.Cl)])[i]? = some x := by rw [List.getElem?_append_left (by rw [HC.out.2.1]; exact hlt)]; exact hx
            obtain ⟨b1', o1, e1, k0, _, _⟩ := (HR.out.1.below HB.out).at hx1
            obtain ⟨b2', o2, e2, m0, m1, m2⟩ := (HR.out.2.1.below HB.out).at hx2
            obtain ⟨b3', o3, e3, p0, p1, p2⟩ := (HR.out.2.2.below HB.out).at hx
            subst e1 e2 e3
            have k0 : W1.cell? ⟨b1', o1 + i * 3, none⟩ = some (.int .i64 (1000 + (i : Int))) := k0
            have eq := fun x w => neqCl_run x w
            clear hx hx1 hx2
            go_upto_region 21 with fail
            have hb1 := (Below.refl W1.heap.size W1).drew
            refine wp_region_held_drew (S := fun W => W.cell? ⟨b1', o1 + i * 3, none⟩ = some (.int .i64 (1000 + (i : Int))) ∧ (W.cell? ⟨b2', o2 + i * 3, none⟩ = some (.int .i64 x.s) ∧ W.cell? ⟨b2', o2 + i * 3 + 1, none⟩ = some (.int .i64 x.r) ∧ W.cell? ⟨b2', o2 + i * 3 + 2, none⟩ = some (.int .i64 x.c)) ∧ (W.cell? ⟨b3', o3 + i * 3, none⟩ = some (.int .i64 x.s) ∧ W.cell? ⟨b3', o3 + i * 3 + 1, none⟩ = some (.int .i64 x.r) ∧ W.cell? ⟨b3', o3 + i * 3 + 2, none⟩ = some (.int .i64 x.c))) (by kernel_rfl) ⟨cell_below hb1 k0, ⟨cell_below hb1 m0, cell_below hb1 m1, cell_below hb1 m2⟩, cell_below hb1 p0, cell_below hb1 p1, cell_below hb1 p2⟩ (fun hHeld => ?_)
            have HB2 : Hid (Below w9.heap.size w9 W1.drew) := below_end HB.out hb1
            clear hb1 HB k0 m0 m1 m2 p0 p1 p2
            generalize W1.drew = W2 at *
            refine wpAnyH_take (i := 0) (oi := { dst := Option.some 56, op := Op.move (Operand.tmp 4), type := 44, pos := "outright.go:131", after := #[], guard := Option.none }) (v := ?_) rfl (by kernel_rfl) (by kernel_rfl) (by kernel_rfl) (fun _ _ _ h => h) (Or.inl ⟨by rfl, ?_⟩) (by assumption) ?_
            rotate_left
            · intro w hSw
              (try dsimp only at hSw)
              go_simp
              try with_reducible rfl
            try simp only [Act.put, List.setIfInBounds_toArray, List.set_cons_zero, List.set_cons_succ]
            refine wpAnyH_take (i := 1) (oi := { dst := Option.some 57, op := Op.move (Operand.tmp 8), type := 3, pos := "outright.go:131", after := #[], guard := Option.none }) (v := ?_) rfl (by kernel_rfl) (by kernel_rfl) (by kernel_rfl) (fun _ _ _ h => h) (Or.inl ⟨by rfl, ?_⟩) (by assumption) ?_
            rotate_left
            · intro w hSw
              (try dsimp only at hSw)
              go_simp
              try with_reducible rfl
            try simp only [Act.put, List.setIfInBounds_toArray, List.set_cons_zero, List.set_cons_succ]
            refine wpAnyH_take (i := 2) (oi := { dst := Option.some 58, op := Op.indexAddr 44 (Operand.tmp 56) (Operand.tmp 57), type := 0, pos := "outright.go:131", after := #[{ on := 0, ground := Ground.data }, { on := 1, ground := Ground.data }], guard := Option.none }) (v := ?_) rfl (by kernel_rfl) (by kernel_rfl) (by kernel_rfl) (fun _ _ _ h => h) (Or.inl ⟨by rfl, ?_⟩) (by assumption) ?_
            rotate_left
            · intro w hSw
              (try dsimp only at hSw)
              go_simp
              try with_reducible rfl
            try simp only [Act.put, List.setIfInBounds_toArray, List.set_cons_zero, List.set_cons_succ]
            refine wpAnyH_take (i := 3) (oi := { dst := Option.some 59, op := Op.fieldAddr 33 (Operand.tmp 58) 0, type := 0, pos := "outright.go:131", after := #[{ on := 2, ground := Ground.data }], guard := Option.none }) (v := ?_) rfl (by kernel_rfl) (by kernel_rfl) (by kernel_rfl) (fun _ _ _ h => h) (Or.inl ⟨by rfl, ?_⟩) (by assumption) ?_
            rotate_left
            · intro w hSw
              (try dsimp only at hSw)
              go_simp
              try with_reducible rfl
            try simp only [Act.put, List.setIfInBounds_toArray, List.set_cons_zero, List.set_cons_succ]
            refine wpAnyH_take (i := 4) (oi := { dst := Option.some 60, op := Op.load 3 (Operand.tmp 59), type := 3, pos := "outright.go:131", after := #[{ on := 3, ground := Ground.data }], guard := Option.none }) (v := ?_) rfl (by kernel_rfl) (by kernel_rfl) (by kernel_rfl) (fun _ _ _ h => h) (Or.inl ⟨by rfl, ?_⟩) (by assumption) ?_
            rotate_left
            · intro w hSw
              (try dsimp only at hSw)
              go_simp
              try with_reducible rfl
            try simp only [Act.put, List.setIfInBounds_toArray, List.set_cons_zero, List.set_cons_succ]
            refine wpAnyH_take (i := 5) (oi := { dst := Option.some 61, op := Op.move (Operand.tmp 8), type := 3, pos := "outright.go:131", after := #[], guard := Option.none }) (v := ?_) rfl (by kernel_rfl) (by kernel_rfl) (by kernel_rfl) (fun _ _ _ h => h) (Or.inl ⟨by rfl, ?_⟩) (by assumption) ?_
            rotate_left
            · intro w hSw
              (try dsimp only at hSw)
              go_simp
              try with_reducible rfl
            try simp only [Act.put, List.setIfInBounds_toArray, List.set_cons_zero, List.set_cons_succ]
            refine wpAnyH_take (i := 6) (oi := { dst := Option.some 62, op := Op.binOp BinOp.add 3 (Operand.const (Value.int IntKind.i64 1000)) (Operand.tmp 61) 3, type := 3, pos := "outright.go:131", after := #[{ on := 5, ground := Ground.data }], guard := Option.none }) (v := ?_) rfl (by kernel_rfl) (by kernel_rfl) (by kernel_rfl) (fun _ _ _ h => h) (Or.inl ⟨by rfl, ?_⟩) (by assumption) ?_
            rotate_left
            · intro w hSw
              (try dsimp only at hSw)
              go_simp
              try with_reducible rfl
            try simp only [Act.put, List.setIfInBounds_toArray, List.set_cons_zero, List.set_cons_succ]
            refine wpAnyH_take (i := 7) (oi := { dst := Option.some 63, op := Op.binOp BinOp.neq 3 (Operand.tmp 60) (Operand.tmp 62) 3, type := 4, pos := "outright.go:131", after := #[{ on := 4, ground := Ground.data }, { on := 6, ground := Ground.data }], guard := Option.none }) (v := ?_) rfl (by kernel_rfl) (by kernel_rfl) (by kernel_rfl) (fun _ _ _ h => h) (Or.inl ⟨by rfl, ?_⟩) (by assumption) ?_
            rotate_left
            · intro w hSw
              (try dsimp only at hSw)
              go_simp
              try with_reducible rfl
            try simp only [Act.put, List.setIfInBounds_toArray, List.set_cons_zero, List.set_cons_succ]
            refine wpAnyH_take (i := 8) (oi := { dst := Option.some 64, op := Op.move (Operand.tmp 63), type := 4, pos := "outright.go:131", after := #[{ on := 7, ground := Ground.data }], guard := Option.none }) (v := ?_) rfl (by kernel_rfl) (by kernel_rfl) (by kernel_rfl) (fun _ _ _ h => h) (Or.inl ⟨by rfl, ?_⟩) (by assumption) ?_
            rotate_left
            · intro w hSw
              (try dsimp only at hSw)
              go_simp
              try with_reducible rfl
            try simp only [Act.put, List.setIfInBounds_toArray, List.set_cons_zero, List.set_cons_succ]
            refine wpAnyH_take (i := 9) (oi := { dst := Option.some 65, op := Op.move (Operand.tmp 5), type := 44, pos := "outright.go:131", after := #[{ on := 8, ground := Ground.guard }], guard := Option.some (8, Bool.false) }) (v := ?_) rfl (by kernel_rfl) (by kernel_rfl) (by kernel_rfl) (fun _ _ _ h => h) (Or.inl ⟨by rfl, ?_⟩) (by assumption) ?_
            rotate_left
            · intro w hSw
              (try dsimp only at hSw)
              go_simp
              try with_reducible rfl
            try simp only [Act.put, List.setIfInBounds_toArray, List.set_cons_zero, List.set_cons_succ]
            refine wpAnyH_take (i := 10) (oi := { dst := Option.some 66, op := Op.move (Operand.tmp 8), type := 3, pos := "outright.go:131", after := #[{ on := 8, ground := Ground.guard }], guard := Option.some (8, Bool.false) }) (v := ?_) rfl (by kernel_rfl) (by kernel_rfl) (by kernel_rfl) (fun _ _ _ h => h) (Or.inl ⟨by rfl, ?_⟩) (by assumption) ?_
            rotate_left
            · intro w hSw
              (try dsimp only at hSw)
              go_simp
              try with_reducible rfl
            try simp only [Act.put, List.setIfInBounds_toArray, List.set_cons_zero, List.set_cons_succ]
            refine wpAnyH_take (i := 11) (oi := { dst := Option.some 67, op := Op.indexAddr 44 (Operand.tmp 65) (Operand.tmp 66), type := 0, pos := "outright.go:131", after := #[{ on := 9, ground := Ground.data }, { on := 10, ground := Ground.data }, { on := 8, ground := Ground.guard }], guard := Option.some (8, Bool.false) }) (v := ?_) rfl (by kernel_rfl) (by kernel_rfl) (by kernel_rfl) (fun _ _ _ h => h) (Or.inl ⟨by rfl, ?_⟩) (by assumption) ?_
            rotate_left
            · intro w hSw
              (try dsimp only at hSw)
              go_simp
              try with_reducible rfl
            try simp only [Act.put, List.setIfInBounds_toArray, List.set_cons_zero, List.set_cons_succ]
            refine wpAnyH_take (i := 12) (oi := { dst := Option.some 68, op := Op.load 33 (Operand.tmp 67), type := 33, pos := "outright.go:131", after := #[{ on := 11, ground := Ground.data }, { on := 8, ground := Ground.guard }], guard := Option.some (8, Bool.false) }) (v := ?_) rfl (by kernel_rfl) (by kernel_rfl) (by kernel_rfl) (fun _ _ _ h => h) (Or.inl ⟨by rfl, ?_⟩) (by assumption) ?_
            rotate_left
            · intro w hSw
              (try dsimp only at hSw)
              go_simp
              try with_reducible rfl
            try simp only [Act.put, List.setIfInBounds_toArray, List.set_cons_zero, List.set_cons_succ]
            refine wpAnyH_take (i := 13) (oi := { dst := Option.some 69, op := Op.move (Operand.tmp 6), type := 44, pos := "outright.go:131", after := #[{ on := 8, ground := Ground.guard }], guard := Option.some (8, Bool.false) }) (v := ?_) rfl (by kernel_rfl) (by kernel_rfl) (by kernel_rfl) (fun _ _ _ h => h) (Or.inl ⟨by rfl, ?_⟩) (by assumption) ?_
            rotate_left
            · intro w hSw
              (try dsimp only at hSw)
              go_simp
              try with_reducible rfl
            try simp only [Act.put, List.setIfInBounds_toArray, List.set_cons_zero, List.set_cons_succ]
            refine wpAnyH_take (i := 14) (oi := { dst := Option.some 70, op := Op.move (Operand.tmp 8), type := 3, pos := "outright.go:131", after := #[{ on := 8, ground := Ground.guard }], guard := Option.some (8, Bool.false) }) (v := ?_) rfl (by kernel_rfl) (by kernel_rfl) (by kernel_rfl) (fun _ _ _ h => h) (Or.inl ⟨by rfl, ?_⟩) (by assumption) ?_
            rotate_left
            · intro w hSw
              (try dsimp only at hSw)
              go_simp
              try with_reducible rfl
            try simp only [Act.put, List.setIfInBounds_toArray, List.set_cons_zero, List.set_cons_succ]
            refine wpAnyH_take (i := 15) (oi := { dst := Option.some 71, op := Op.indexAddr 44 (Operand.tmp 69) (Operand.tmp 70), type := 0, pos := "outright.go:131", after := #[{ on := 13, ground := Ground.data }, { on := 14, ground := Ground.data }, { on := 8, ground := Ground.guard }], guard := Option.some (8, Bool.false) }) (v := ?_) rfl (by kernel_rfl) (by kernel_rfl) (by kernel_rfl) (fun _ _ _ h => h) (Or.inl ⟨by rfl, ?_⟩) (by assumption) ?_
            rotate_left
            · intro w hSw
              (try dsimp only at hSw)
              go_simp
              try with_reducible rfl
            try simp only [Act.put, List.setIfInBounds_toArray, List.set_cons_zero, List.set_cons_succ]
            refine wpAnyH_take (i := 16) (oi := { dst := Option.some 72, op := Op.load 33 (Operand.tmp 71), type := 33, pos := "outright.go:131", after := #[{ on := 15, ground := Ground.data }, { on := 8, ground := Ground.guard }], guard := Option.some (8, Bool.false) }) (v := ?_) rfl (by kernel_rfl) (by kernel_rfl) (by kernel_rfl) (fun _ _ _ h => h) (Or.inl ⟨by rfl, ?_⟩) (by assumption) ?_
            rotate_left
            · intro w hSw
              (try dsimp only at hSw)
              go_simp
              try with_reducible rfl
            try simp only [Act.put, List.setIfInBounds_toArray, List.set_cons_zero, List.set_cons_succ]
            refine wpAnyH_take (i := 17) (oi := { dst := Option.some 73, op := Op.binOp BinOp.neq 33 (Operand.tmp 68) (Operand.tmp 72) 33, type := 4, pos := "outright.go:131", after := #[{ on := 12, ground := Ground.data }, { on := 16, ground := Ground.data }, { on := 8, ground := Ground.guard }], guard := Option.some (8, Bool.false) }) (v := ?_) rfl (by kernel_rfl) (by kernel_rfl) (by kernel_rfl) (fun _ _ _ h => h) (Or.inl ⟨by rfl, ?_⟩) (by assumption) ?_
            rotate_left
            · intro w hSw
              (try dsimp only at hSw)
              go_simp
              try with_reducible rfl
            try simp only [Act.put, List.setIfInBounds_toArray, List.set_cons_zero, List.set_cons_succ]
            refine wpAnyH_take (i := 18) (oi := { dst := Option.some 74, op := Op.pick (Operand.tmp 64) (Operand.const (Value.bool Bool.true)) (Operand.tmp 73), type := 4, pos := "outright.go:131", after := #[{ on := 8, ground := Ground.data }, { on := 17, ground := Ground.data }], guard := Option.none }) (v := ?_) rfl (by kernel_rfl) (by kernel_rfl) (by kernel_rfl) (fun _ _ _ h => h) (Or.inl ⟨by rfl, ?_⟩) (by assumption) ?_
            rotate_left
            · intro w hSw
              (try dsimp only at hSw)
              go_simp
              try with_reducible rfl
            try simp only [Act.put, List.setIfInBounds_toArray, List.set_cons_zero, List.set_cons_succ]
            refine wpAnyH_done (by kernel_rfl) ?_ _
            clear hHeld

            go_wp2_with fail
            go_roundg (n - (i + 1))
            case rel => exact ⟨i + 1, by simp, rfl, hlt, HB2⟩
            case measure => omega
          · have hii : ¬ (i : Int) < (n : Int) := by omega
            have hnn : (n : Int) < (n : Int) + 1 := by omega
            have hnz : (0 : Int) ≤ (n : Int) := by omega
            have hx1 : (D ++ [(⟨-1, 0, 0⟩ : Wpl.Cl)])[n]? = some ⟨-1, 0, 0⟩ := by rw [List.getElem?_append_right (by rw [HD.out.1]; exact Nat.le_refl _), HD.out.1, Nat.sub_self]; rfl
            obtain ⟨b1', o1, e1, k0, _, _⟩ := (HR.out.1.below HB.out).at hx1
            subst e1
            have HQ9 : Hid (Qst w1 W1 qb (plQ T).1 (plQ T).2) := HQ2.out.below (below_end HB9.out HB.out)
            have C3 := st_cells HQ9.out (fun _ => by have := HN.out; omega)
            rw [HC.out.1] at C3
            clear hx1
            go_wp2_with fail
            refine C3.mono ?_
            rintro en w10 ⟨⟨v4, rfl, ho4⟩, hb10⟩
            rw [HC.out.2.1] at ho4
            obtain ⟨a4, c4, e4, r4, _⟩ := RdX.of_own ho4 HC.out.2.1
            subst e4
            have CC := cells_any C a4 a3 n c4 c3 w10 r4 ((HR.out.2.2.below HB.out).below hb10) HC.out.2.1 (fun _ => by have := HC.out; omega)
            have HE : Hid (Below w.heap.size w w10) := below_end HB1.out (below_end HQ9.out.bl hb10)
            clear C3 ho4 hb10 r4 k0
            go_wp2_with fail
            refine CC.mono ?_
            rintro en w11 ⟨rfl, hb11⟩
            have HE2 : Hid (Below w.heap.size w w11) := below_end HE.out hb11
            clear CC hb11
            go_wp2
            go_ret
            exact ⟨rfl, HE2.out⟩
end Go.Proofs.Ytpbjmhcpaeillaa
