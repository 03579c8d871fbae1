/- TBrack, TBuild, TSigned, TSingle. -/
import Derived.Test.YtlggnpohhahdlaaGreatDoorQ17
namespace Go.Proofs.YtlggnpohhahdlaaGreatDoor
open Go.RowKit Go.Shelf
set_option linter.unusedVariables false
def FormOk (kp : Nat) (en : Int) (sub : List Wlx.TV → PR) (n : Nat) : Prop :=
  ∀ (ts : List Wlx.TV) (w : World), PSt w kp ts en → ts.length ≤ n → ts.length ≤ 1024 → (∀ t ∈ ts, TokOk t) → Env w → Calls Tryz.prog 39 #[.pointer (some ⟨kp, 0, none⟩)] w fun e w' => PPost kp en (sub ts) w e w'
set_option maxHeartbeats 8000000 in
set_option maxRecDepth 100000 in
theorem brackets_any (kp : Nat) (en : Int) (sub : List Wlx.TV → PR) (n : Nat) (HF : FormOk kp en sub n) (hsub : ∀ ts row r, sub ts = .inl (row, r) → r <:+ ts) (ts : List Wlx.TV) (w : World) (h : PSt w kp ts en) (hn : ts.length ≤ n + 1) (hts : ts.length ≤ 1024) (hok : ∀ t ∈ ts, TokOk t) (hE : Env w) (hk8 : 8 ≤ kp) :
    Calls Tryz.prog 167 #[.pointer (some ⟨kp, 0, none⟩)] w fun e w' => PPost kp en (pbrack sub en ts) w e w' := by
  have hB0 := ball (Below.refl _ w) (.cells #[.int .i64 0, .int .i64 0, .int .i64 0, .int .i64 0, .string ⟨#[]⟩, .bool false, .int .i64 0, .int .i64 0, .string ⟨#[]⟩, .int .i64 0, .string ⟨#[]⟩, .int .i64 0, .int .i64 0, .bool false, .bool false, .string ⟨#[]⟩, .int .i64 0, .int .i64 0, .bool false, .bool false, .slice none 0 0] 56)
  have pZ : AtL (w.alloc (.cells #[.int .i64 0, .int .i64 0, .int .i64 0, .int .i64 0, .string ⟨#[]⟩, .bool false, .int .i64 0, .int .i64 0, .string ⟨#[]⟩, .int .i64 0, .string ⟨#[]⟩, .int .i64 0, .int .i64 0, .bool false, .bool false, .string ⟨#[]⟩, .int .i64 0, .int .i64 0, .bool false, .bool false, .slice none 0 0] 56)) w.heap.size (pt21 (bare 0) (.slice none 0 0)) := AtL.new0 w _ _
  have h0 := h.below hB0
  have hE0 := hE.below hB0
  have hkp := h.lt
  have T1 := take_any kp ts en [40] _ h0 hts
  unfold pbrack
  cases ht : tk ts [40] with
  | none =>
    rw [ht] at T1
    simp only [PPost] at T1 ⊢
    have M0 := fun w h => must_false kp ts en w h
    unfold stop at M0 ⊢
    go_enter Tryz.func167, Tryz.ntmps167
    go_wp2_with fail
    generalize w.alloc (.cells #[.int .i64 0, .int .i64 0, .int .i64 0, .int .i64 0, .string ⟨#[]⟩, .bool false, .int .i64 0, .int .i64 0, .string ⟨#[]⟩, .int .i64 0, .string ⟨#[]⟩, .int .i64 0, .int .i64 0, .bool false, .bool false, .string ⟨#[]⟩, .int .i64 0, .int .i64 0, .bool false, .bool false, .slice none 0 0] 56) = wa at *
    refine T1.mono ?_
    rintro e w1 ⟨rfl, h1, hg1⟩
    have pZ1 := pZ.grown hg1 (by intro e; have := Option.some.inj e; omega)
    have hG1 := grown_trans (below_grown hB0 (some kp)) hg1
    have hE1 := hE0.grown hg1 hk8
    clear pZ h0 hB0 hE0 T1 hg1
    go_wp2_with fail
    refine (M0 _ h1).mono ?_
    rintro e w2 ⟨rfl, hb⟩
    go_wp2
    exact ⟨rfl, rfl, grown_trans hG1 (below_grown hb (some kp))⟩
  | some r =>
    rw [ht] at T1
    obtain ⟨hsuf, hlt⟩ := tk_suf ht
    have hokr : ∀ t ∈ r, TokOk t := fun t h => hok t (hsuf.subset h)
    simp only at T1 ⊢
    cases hs : sub r with
    | inr q =>
      obtain ⟨c, p⟩ := q
      simp only [PPost]
      go_enter Tryz.func167, Tryz.ntmps167
      go_wp2_with fail
      generalize w.alloc (.cells #[.int .i64 0, .int .i64 0, .int .i64 0, .int .i64 0, .string ⟨#[]⟩, .bool false, .int .i64 0, .int .i64 0, .string ⟨#[]⟩, .int .i64 0, .string ⟨#[]⟩, .int .i64 0, .int .i64 0, .bool false, .bool false, .string ⟨#[]⟩, .int .i64 0, .int .i64 0, .bool false, .bool false, .slice none 0 0] 56) = wa at *
      refine T1.mono ?_
      rintro e w1 ⟨rfl, h1, hg1⟩
      have pZ1 := pZ.grown hg1 (by intro e; have := Option.some.inj e; omega)
      have hG1 := grown_trans (below_grown hB0 (some kp)) hg1
      have hE1 := hE0.grown hg1 hk8
      clear pZ h0 hB0 hE0 T1 hg1
      go_wp2_with fail
      refine (must_true kp _).mono ?_
      rintro e w2 ⟨rfl, rfl⟩
      go_wp2_with fail
      refine (HF r w1 h1 (by omega) (by omega) hokr hE1).mono ?_
      rintro e w2 hc
      rw [hs] at hc
      simp only [PPost] at hc
      obtain ⟨rfl, hg⟩ := hc
      unfold stop
      go_wp2
      exact ⟨rfl, rfl, grown_trans hG1 hg⟩
    | inl q =>
      obtain ⟨row, r2⟩ := q
      have hl2 := (hsub _ _ _ hs).length_le
      simp only
      cases ht2 : tk r2 [41] with
      | none =>
        simp only [PPost]
        have M0 := fun w h => must_false kp r2 en w h
        unfold stop at M0 ⊢
        go_enter Tryz.func167, Tryz.ntmps167
        go_wp2_with fail
        generalize w.alloc (.cells #[.int .i64 0, .int .i64 0, .int .i64 0, .int .i64 0, .string ⟨#[]⟩, .bool false, .int .i64 0, .int .i64 0, .string ⟨#[]⟩, .int .i64 0, .string ⟨#[]⟩, .int .i64 0, .int .i64 0, .bool false, .bool false, .string ⟨#[]⟩, .int .i64 0, .int .i64 0, .bool false, .bool false, .slice none 0 0] 56) = wa at *
        refine T1.mono ?_
        rintro e w1 ⟨rfl, h1, hg1⟩
        have pZ1 := pZ.grown hg1 (by intro e; have := Option.some.inj e; omega)
        have hG1 := grown_trans (below_grown hB0 (some kp)) hg1
        have hE1 := hE0.grown hg1 hk8
        clear pZ h0 hB0 hE0 T1 hg1
        go_wp2_with fail
        refine (must_true kp _).mono ?_
        rintro e w2 ⟨rfl, rfl⟩
        go_wp2_with fail
        refine (HF r w1 h1 (by omega) (by omega) hokr hE1).mono ?_
        rintro e w2 hc
        rw [hs] at hc
        simp only [PPost] at hc
        obtain ⟨v, rfl, hP, h2, hg2⟩ := hc
        have hsz1 : w.heap.size < w1.heap.size := pZ1.lt
        have pZ2 := pZ1.grown hg2 (by intro e; have := Option.some.inj e; omega)
        have hG2 := grown_trans hG1 hg2
        obtain ⟨nn, x, sl, rfl, hp⟩ := hP
        obtain ⟨av, len, cap, rfl⟩ := hp.one
        clear pZ1 hG1 hE1 h1
        unfold ptV
        have pX0 : AtL (w2.alloc (.cells #[.int .i64 0, .int .i64 0, .int .i64 0, .int .i64 0, .string ⟨#[]⟩, .bool false, .int .i64 0, .int .i64 0, .string ⟨#[]⟩, .int .i64 0, .string ⟨#[]⟩, .int .i64 0, .int .i64 0, .bool false, .bool false, .string ⟨#[]⟩, .int .i64 0, .int .i64 0, .bool false, .bool false, .slice none 0 0] 56)) w2.heap.size (pt21 (bare 0) (.slice none 0 0)) := AtL.new0 w2 _ _
        have hthX : World.there (w2.alloc (.cells #[.int .i64 0, .int .i64 0, .int .i64 0, .int .i64 0, .string ⟨#[]⟩, .bool false, .int .i64 0, .int .i64 0, .string ⟨#[]⟩, .int .i64 0, .string ⟨#[]⟩, .int .i64 0, .int .i64 0, .bool false, .bool false, .string ⟨#[]⟩, .int .i64 0, .int .i64 0, .bool false, .bool false, .slice none 0 0] 56)) w2.heap.size 0 (pt21 x (.slice av len cap)).toArray.size := pX0.there
        go_upto_region 3 with ((with_reducible refine wpList_store_mid ?_ 56 (.tmp 3) (.tmp 9) ?_ (w2.heap.size) 0 (pt21 x (.slice av len cap)).toArray ?_ ?_ ?_ ?_ ?_ ?_); rfl; rfl; rfl; rfl; exact hthX; kernel_rfl; exact one21 _ _ rfl)
        have hbX := bset (ball (Below.refl _ w2) (.cells #[.int .i64 0, .int .i64 0, .int .i64 0, .int .i64 0, .string ⟨#[]⟩, .bool false, .int .i64 0, .int .i64 0, .string ⟨#[]⟩, .int .i64 0, .string ⟨#[]⟩, .int .i64 0, .int .i64 0, .bool false, .bool false, .string ⟨#[]⟩, .int .i64 0, .int .i64 0, .bool false, .bool false, .slice none 0 0] 56)) (Nat.le_refl w2.heap.size) (pt21 x (.slice av len cap)) 0
        have pX : AtL ((w2.alloc (.cells #[.int .i64 0, .int .i64 0, .int .i64 0, .int .i64 0, .string ⟨#[]⟩, .bool false, .int .i64 0, .int .i64 0, .string ⟨#[]⟩, .int .i64 0, .string ⟨#[]⟩, .int .i64 0, .int .i64 0, .bool false, .bool false, .string ⟨#[]⟩, .int .i64 0, .int .i64 0, .bool false, .bool false, .slice none 0 0] 56)).setCells w2.heap.size 0 (pt21 x (.slice av len cap))) w2.heap.size (pt21 x (.slice av len cap)) := pX0.setAll rfl
        have pZ3 := AtL.below hbX pZ2
        have h3 := h2.below hbX
        have hG3 := grown_trans hG2 (below_grown hbX (some kp))
        have hP3 := Pt.below (v := ptV x (.slice av len cap)) ⟨nn, x, _, rfl, hp⟩ hbX
        have hkx : kp < w2.heap.size := h2.lt
        have hzx := pZ2.lt
        clear pX0 hthX hbX pZ2 h2 hG2 hp
        generalize (w2.alloc (.cells #[.int .i64 0, .int .i64 0, .int .i64 0, .int .i64 0, .string ⟨#[]⟩, .bool false, .int .i64 0, .int .i64 0, .string ⟨#[]⟩, .int .i64 0, .string ⟨#[]⟩, .int .i64 0, .int .i64 0, .bool false, .bool false, .string ⟨#[]⟩, .int .i64 0, .int .i64 0, .bool false, .bool false, .slice none 0 0] 56)).setCells w2.heap.size 0 (pt21 x (.slice av len cap)) = w3 at *
        generalize w2.heap.size = kx at *
        have T2 := take_any kp r2 en [41] w3 h3 (by omega)
        rw [ht2] at T2
        simp only at T2
        go_wp2_with fail
        refine T2.mono ?_
        rintro e w4 ⟨rfl, h4, hg4⟩
        have pX4 := pX.grown hg4 (by intro e; have := Option.some.inj e; omega)
        have pZ4 := pZ3.grown hg4 (by intro e; have := Option.some.inj e; omega)
        have hP4 := Pt.grown hP3 hg4 (by omega)
        have hG4 := grown_trans hG3 hg4
        clear pX pZ3 h3 hP3 hG3 T2 hg4
        go_wp2_with fail
        refine (M0 _ h4).mono ?_
        rintro e w5 ⟨rfl, hb⟩
        go_wp2
        exact ⟨rfl, rfl, grown_trans hG4 (below_grown hb (some kp))⟩
      | some r3 =>
        simp only [PPost]
        go_enter Tryz.func167, Tryz.ntmps167
        go_wp2_with fail
        generalize w.alloc (.cells #[.int .i64 0, .int .i64 0, .int .i64 0, .int .i64 0, .string ⟨#[]⟩, .bool false, .int .i64 0, .int .i64 0, .string ⟨#[]⟩, .int .i64 0, .string ⟨#[]⟩, .int .i64 0, .int .i64 0, .bool false, .bool false, .string ⟨#[]⟩, .int .i64 0, .int .i64 0, .bool false, .bool false, .slice none 0 0] 56) = wa at *
        refine T1.mono ?_
        rintro e w1 ⟨rfl, h1, hg1⟩
        have pZ1 := pZ.grown hg1 (by intro e; have := Option.some.inj e; omega)
        have hG1 := grown_trans (below_grown hB0 (some kp)) hg1
        have hE1 := hE0.grown hg1 hk8
        clear pZ h0 hB0 hE0 T1 hg1
        go_wp2_with fail
        refine (must_true kp _).mono ?_
        rintro e w2 ⟨rfl, rfl⟩
        go_wp2_with fail
        refine (HF r w1 h1 (by omega) (by omega) hokr hE1).mono ?_
        rintro e w2 hc
        rw [hs] at hc
        simp only [PPost] at hc
        obtain ⟨v, rfl, hP, h2, hg2⟩ := hc
        have hsz1 : w.heap.size < w1.heap.size := pZ1.lt
        have pZ2 := pZ1.grown hg2 (by intro e; have := Option.some.inj e; omega)
        have hG2 := grown_trans hG1 hg2
        obtain ⟨nn, x, sl, rfl, hp⟩ := hP
        obtain ⟨av, len, cap, rfl⟩ := hp.one
        clear pZ1 hG1 hE1 h1
        unfold ptV
        have pX0 : AtL (w2.alloc (.cells #[.int .i64 0, .int .i64 0, .int .i64 0, .int .i64 0, .string ⟨#[]⟩, .bool false, .int .i64 0, .int .i64 0, .string ⟨#[]⟩, .int .i64 0, .string ⟨#[]⟩, .int .i64 0, .int .i64 0, .bool false, .bool false, .string ⟨#[]⟩, .int .i64 0, .int .i64 0, .bool false, .bool false, .slice none 0 0] 56)) w2.heap.size (pt21 (bare 0) (.slice none 0 0)) := AtL.new0 w2 _ _
        have hthX : World.there (w2.alloc (.cells #[.int .i64 0, .int .i64 0, .int .i64 0, .int .i64 0, .string ⟨#[]⟩, .bool false, .int .i64 0, .int .i64 0, .string ⟨#[]⟩, .int .i64 0, .string ⟨#[]⟩, .int .i64 0, .int .i64 0, .bool false, .bool false, .string ⟨#[]⟩, .int .i64 0, .int .i64 0, .bool false, .bool false, .slice none 0 0] 56)) w2.heap.size 0 (pt21 x (.slice av len cap)).toArray.size := pX0.there
        go_upto_region 3 with ((with_reducible refine wpList_store_mid ?_ 56 (.tmp 3) (.tmp 9) ?_ (w2.heap.size) 0 (pt21 x (.slice av len cap)).toArray ?_ ?_ ?_ ?_ ?_ ?_); rfl; rfl; rfl; rfl; exact hthX; kernel_rfl; exact one21 _ _ rfl)
        have hbX := bset (ball (Below.refl _ w2) (.cells #[.int .i64 0, .int .i64 0, .int .i64 0, .int .i64 0, .string ⟨#[]⟩, .bool false, .int .i64 0, .int .i64 0, .string ⟨#[]⟩, .int .i64 0, .string ⟨#[]⟩, .int .i64 0, .int .i64 0, .bool false, .bool false, .string ⟨#[]⟩, .int .i64 0, .int .i64 0, .bool false, .bool false, .slice none 0 0] 56)) (Nat.le_refl w2.heap.size) (pt21 x (.slice av len cap)) 0
        have pX : AtL ((w2.alloc (.cells #[.int .i64 0, .int .i64 0, .int .i64 0, .int .i64 0, .string ⟨#[]⟩, .bool false, .int .i64 0, .int .i64 0, .string ⟨#[]⟩, .int .i64 0, .string ⟨#[]⟩, .int .i64 0, .int .i64 0, .bool false, .bool false, .string ⟨#[]⟩, .int .i64 0, .int .i64 0, .bool false, .bool false, .slice none 0 0] 56)).setCells w2.heap.size 0 (pt21 x (.slice av len cap))) w2.heap.size (pt21 x (.slice av len cap)) := pX0.setAll rfl
        have pZ3 := AtL.below hbX pZ2
        have h3 := h2.below hbX
        have hG3 := grown_trans hG2 (below_grown hbX (some kp))
        have hP3 := Pt.below (v := ptV x (.slice av len cap)) ⟨nn, x, _, rfl, hp⟩ hbX
        have hkx : kp < w2.heap.size := h2.lt
        have hzx := pZ2.lt
        clear pX0 hthX hbX pZ2 h2 hG2 hp
        generalize (w2.alloc (.cells #[.int .i64 0, .int .i64 0, .int .i64 0, .int .i64 0, .string ⟨#[]⟩, .bool false, .int .i64 0, .int .i64 0, .string ⟨#[]⟩, .int .i64 0, .string ⟨#[]⟩, .int .i64 0, .int .i64 0, .bool false, .bool false, .string ⟨#[]⟩, .int .i64 0, .int .i64 0, .bool false, .bool false, .slice none 0 0] 56)).setCells w2.heap.size 0 (pt21 x (.slice av len cap)) = w3 at *
        generalize w2.heap.size = kx at *
        have T2 := take_any kp r2 en [41] w3 h3 (by omega)
        rw [ht2] at T2
        simp only at T2
        go_wp2_with fail
        refine T2.mono ?_
        rintro e w4 ⟨rfl, h4, hg4⟩
        have pX4 := pX.grown hg4 (by intro e; have := Option.some.inj e; omega)
        have pZ4 := pZ3.grown hg4 (by intro e; have := Option.some.inj e; omega)
        have hP4 := Pt.grown hP3 hg4 (by omega)
        have hG4 := grown_trans hG3 hg4
        clear pX pZ3 h3 hP3 hG3 T2 hg4
        go_wp2_with fail
        refine (must_true kp _).mono ?_
        rintro e w5 ⟨rfl, rfl⟩
        have rX := pX4.range
        have hth : World.there w4 w.heap.size 0 (pt21 x (.slice av len cap)).toArray.size := pZ4.there
        go_wp2_with (first | ((with_reducible refine wpList_load_mid (cs := pt21 x (.slice av len cap)) ?_ 56 (.tmp 3) ?_ kx 0 ?_ _ ?_ Tryz.underlying56 ?_ ?_ ?_); rfl; rfl; rfl; exact rX; rfl; kernel_rfl) | ((with_reducible refine wpList_store_mid ?_ 56 (.tmp 2) (.tmp 14) ?_ (w.heap.size) 0 (pt21 x (.slice av len cap)).toArray ?_ ?_ ?_ ?_ ?_ ?_); rfl; rfl; rfl; rfl; exact hth; kernel_rfl; exact one21 _ _ rfl))
        have pZ9 : AtL (w4.setCells w.heap.size 0 (pt21 x (.slice av len cap))) w.heap.size (pt21 x (.slice av len cap)) := pZ4.setAll rfl
        refine bodyPost_ret (results_cell rfl _ _ w.heap.size (pt21 x (.slice av len cap)) _ rfl pZ9.range Tryz.underlying56 rfl (by kernel_rfl)) rfl ?_
        exact ⟨_, rfl, (hP4.far (by omega) 0 _).mono (by omega), h4.farAll hkp _ 0, grown_setAll hG4 (Nat.le_refl _) _ 0⟩
theorem bs1 (x : Wt.Nd) (av : Option Addr) (len cap : Nat) (w : World) : (Instr.buildSlice 54 1 #[(0, .agg (pt21 x (.slice av len cap)).toArray)]).run Tryz.prog w = .ok (.slice (some ⟨w.heap.size, 0, none⟩) 1 1) (w.alloc (.cells (pt21 x (.slice av len cap)).toArray 56)) := by kernel_rfl
theorem bs2 (x : Wt.Nd) (av : Option Addr) (len cap : Nat) (y : Wt.Nd) (bv : Option Addr) (ben bap : Nat) (w : World) : (Instr.buildSlice 54 2 #[(0, .agg (pt21 x (.slice av len cap)).toArray), (1, .agg (pt21 y (.slice bv ben bap)).toArray)]).run Tryz.prog w = .ok (.slice (some ⟨w.heap.size, 0, none⟩) 2 2) (w.alloc (.cells (pt21 x (.slice av len cap) ++ pt21 y (.slice bv ben bap)).toArray 56)) := by kernel_rfl
theorem wp_bs1 {op : Oper} {a : Act} {w : World} {K : Act → World → Prop} {Q : Exit → Act → World → Prop} (y : Operand) (ho : op.op = .buildSlice 54 1 #[(0, y)]) (x : Wt.Nd) (av : Option Addr) (len cap : Nat) (hy : a.eval y = .agg (pt21 x (.slice av len cap)).toArray)
    (h : K (a.put op.dst (.slice (some ⟨w.heap.size, 0, none⟩) 1 1)) (w.alloc (.cells (pt21 x (.slice av len cap)).toArray 56))) : op.wp Tryz.prog a w K Q := by
  unfold Oper.wp execOp
  simp only [ho, List.map_toArray, List.map_cons, List.map_nil, hy, Sem.run_bind, Sem.run_pure, Result.andThen_ok, bs1]
  exact h
theorem wp_bs2 {op : Oper} {a : Act} {w : World} {K : Act → World → Prop} {Q : Exit → Act → World → Prop} (y z : Operand) (ho : op.op = .buildSlice 54 2 #[(0, y), (1, z)]) (x : Wt.Nd) (av : Option Addr) (len cap : Nat) (u : Wt.Nd) (bv : Option Addr) (ben bap : Nat) (hy : a.eval y = .agg (pt21 x (.slice av len cap)).toArray) (hz : a.eval z = .agg (pt21 u (.slice bv ben bap)).toArray)
    (h : K (a.put op.dst (.slice (some ⟨w.heap.size, 0, none⟩) 2 2)) (w.alloc (.cells (pt21 x (.slice av len cap) ++ pt21 u (.slice bv ben bap)).toArray 56))) : op.wp Tryz.prog a w K Q := by
  unfold Oper.wp execOp
  simp only [ho, List.map_toArray, List.map_cons, List.map_nil, hy, hz, Sem.run_bind, Sem.run_pure, Result.andThen_ok, bs2]
  exact h
theorem wpList_bs1 {ops : Array Oper} {rest : List Oper} {op : Oper} {a : Act} {w : World} {Q : Exit → Act → World → Prop} (hgd : op.guard = none) (y : Operand) (ho : op.op = .buildSlice 54 1 #[(0, y)]) (x : Wt.Nd) (av : Option Addr) (len cap : Nat) (hy : a.eval y = .agg (pt21 x (.slice av len cap)).toArray)
    (h : wpList Tryz.prog ops Q rest (a.put op.dst (.slice (some ⟨w.heap.size, 0, none⟩) 1 1)) (w.alloc (.cells (pt21 x (.slice av len cap)).toArray 56))) : wpList Tryz.prog ops Q (op :: rest) a w :=
  wpList_plain hgd fun _ hK => wp_bs1 y ho x av len cap hy (hK _ _ h)
theorem PtIs.inside {w : World} {G G' : Nat → Prop} (hlo : ∀ b, G b → b < w.heap.size → G' b) : ∀ (n : Nat) {x : Wt.Nd} {sl : Value} {row : List Wt.Nd}, PtIs w G n x sl row → PtIs w G' n x sl row
  | 0, _, _, _, h => h
  | n + 1, x, sl, row, ⟨av, cap, ps, rows, e, hl, hr, hp⟩ => ⟨av, cap, ps, rows, e, hl, hr, fun i h h' => by
      obtain ⟨bb, e1, e2, e3, e4⟩ := hp i h h'
      exact ⟨bb, e1, hlo _ e2 (range_block e3), e3, PtIs.inside hlo n e4⟩⟩
theorem PtIs.un {w : World} {G : Nat → Prop} {n b : Nat} {x z : Wt.Nd} {sl : Value} {row : List Wt.Nd} (h : PtIs w G n x sl row) (hb : G b) (hr : w.rangeAt b 0 (pt21 x sl)) : PtIs w G (n + 1) z (.slice (some ⟨b, 0, none⟩) 1 1) (z :: row) := by
  refine ⟨some ⟨b, 0, none⟩, 1, [(x, sl)], [row], rfl, rfl, by simp, fun i hi hi' => ?_⟩
  obtain rfl : i = 0 := by simp at hi; exact hi
  exact ⟨b, rfl, hb, hr, h⟩
theorem PtIs.bin {w : World} {G : Nat → Prop} {n m b : Nat} {x y z : Wt.Nd} {sl tl : Value} {row rol : List Wt.Nd} (h : PtIs w G n x sl row) (h2 : PtIs w G m y tl rol) (hb : G b) (hr : w.rangeAt b 0 (pt21 x sl)) (hr2 : w.rangeAt b 21 (pt21 y tl)) : PtIs w G (max n m + 1) z (.slice (some ⟨b, 0, none⟩) 2 2) (z :: (row ++ rol)) := by
  refine ⟨some ⟨b, 0, none⟩, 2, [(x, sl), (y, tl)], [row, rol], rfl, rfl, by simp, fun i hi hi' => ?_⟩
  match i, hi with
  | 0, _ => exact ⟨b, rfl, hb, hr, h.upto (by omega)⟩
  | 1, _ => exact ⟨b, rfl, hb, hr2, h2.upto (by omega)⟩
theorem range_new (w : World) (T : TypeId) (a c : List Value) : (w.alloc (.cells (a ++ c).toArray T)).rangeAt w.heap.size 0 a ∧ (w.alloc (.cells (a ++ c).toArray T)).rangeAt w.heap.size a.length c := by
  have h := AtL.new0 w T (a ++ c)
  refine ⟨fun j v hv => ?_, fun j v hv => ?_⟩
  · rw [Nat.zero_add]
    exact h.2.1 j v (by rw [List.getElem?_append_left (List.getElem?_eq_some_iff.1 hv).1]; exact hv)
  · exact h.2.1 (a.length + j) v (by rw [List.getElem?_append_right (Nat.le_add_right _ _), Nat.add_sub_cancel_left]; exact hv)
def FnOk (kp : Nat) (en : Int) (F : Nat) (sub : List Wlx.TV → PR) (n : Nat) : Prop :=
  ∀ (ts : List Wlx.TV) (w : World), PSt w kp ts en → ts.length ≤ n → ts.length ≤ 1024 → (∀ t ∈ ts, TokOk t) → Env w → Calls Tryz.prog F #[.pointer (some ⟨kp, 0, none⟩)] w fun e w' => PPost kp en (sub ts) w e w'
def psg (sub5 sub6 : List Wlx.TV → PR) (ts : List Wlx.TV) : PR := match tkOp 5 ts with
  | some (o, r) => (match sub5 r with
    | .inr e => .inr e
    | .inl (row, r2) => .inl (opN (opKd o.2.2) o.1 :: row, r2))
  | none => sub6 ts
def psi (en : Int) (subW subB : List Wlx.TV → PR) (ts : List Wlx.TV) : PR :=
  if (hd ts en).k = 3 then subW ts else if (hd ts en).k = 5 then subB ts else pl ts en
def BetOk (kp : Nat) (en : Int) (k : Nat) (sub : List Wlx.TV → PR) (n : Nat) : Prop :=
  ∀ (ts : List Wlx.TV) (w : World), PSt w kp ts en → ts.length ≤ n → ts.length ≤ 1024 → (∀ t ∈ ts, TokOk t) → Env w → Calls Tryz.prog 61 #[.pointer (some ⟨kp, 0, none⟩), .int .i64 k] w fun e w' => PPost kp en (sub ts) w e w'
set_option maxHeartbeats 8000000 in
set_option maxRecDepth 100000 in
theorem formula_any (kp : Nat) (en : Int) (sub : List Wlx.TV → PR) (n : Nat) (HB : BetOk kp en 0 sub n) : FormOk kp en sub n := by
  intro ts w h hn hts hok hE
  have hB0 := ball (Below.refl _ w) (.cells #[.int .i64 0, .int .i64 0, .int .i64 0, .int .i64 0, .string ⟨#[]⟩, .bool false, .int .i64 0, .int .i64 0, .string ⟨#[]⟩, .int .i64 0, .string ⟨#[]⟩, .int .i64 0, .int .i64 0, .bool false, .bool false, .string ⟨#[]⟩, .int .i64 0, .int .i64 0, .bool false, .bool false, .slice none 0 0] 56)
  have pZ : AtL (w.alloc (.cells #[.int .i64 0, .int .i64 0, .int .i64 0, .int .i64 0, .string ⟨#[]⟩, .bool false, .int .i64 0, .int .i64 0, .string ⟨#[]⟩, .int .i64 0, .string ⟨#[]⟩, .int .i64 0, .int .i64 0, .bool false, .bool false, .string ⟨#[]⟩, .int .i64 0, .int .i64 0, .bool false, .bool false, .slice none 0 0] 56)) w.heap.size (pt21 (bare 0) (.slice none 0 0)) := AtL.new0 w _ _
  have h0 := h.below hB0
  have hE0 := hE.below hB0
  have hkp := h.lt
  cases hs : sub ts with
  | inr q =>
    obtain ⟨c, p⟩ := q
    simp only [PPost]
    go_enter Tryz.func39, Tryz.ntmps39
    have pZ1 := pZ
    have h1 := h0
    have hE1 := hE0
    have hG1 := below_grown hB0 (some kp)
    clear pZ h0 hB0 hE0
    go_wp2_with fail
    refine (HB ts _ h1 hn hts hok hE1).mono ?_
    rintro e w3 hc
    rw [hs] at hc
    simp only [PPost] at hc
    obtain ⟨rfl, hg⟩ := hc
    unfold stop
    go_wp2
    exact ⟨rfl, rfl, grown_trans hG1 hg⟩
  | inl q =>
    obtain ⟨row, r2⟩ := q
    simp only [PPost]
    go_enter Tryz.func39, Tryz.ntmps39
    have pZ1 := pZ
    have h1 := h0
    have hE1 := hE0
    have hG1 := below_grown hB0 (some kp)
    clear pZ h0 hB0 hE0
    have hz1 := pZ1.lt
    go_wp2_with fail
    refine (HB ts _ h1 hn hts hok hE1).mono ?_
    rintro e w3 hc
    rw [hs] at hc
    simp only [PPost] at hc
    obtain ⟨v, rfl, hP, h3, hg⟩ := hc
    have pZ3 := pZ1.grown hg (by intro e; have := Option.some.inj e; omega)
    have hG3 := grown_trans hG1 hg
    obtain ⟨nn, x, sl, rfl, hp⟩ := hP
    obtain ⟨av, len, cap, rfl⟩ := hp.one
    have hth : World.there w3 w.heap.size 0 (pt21 x (.slice av len cap)).toArray.size := pZ3.there
    clear pZ1 hG1 hE1 h1 hg
    unfold ptV
    go_wp2_with ((with_reducible refine wpList_store_mid ?_ 56 (.tmp 2) (.tmp 4) ?_ (w.heap.size) 0 (pt21 x (.slice av len cap)).toArray ?_ ?_ ?_ ?_ ?_ ?_); rfl; rfl; rfl; rfl; exact hth; kernel_rfl; exact one21 _ _ rfl)
    have pZ9 : AtL (w3.setCells w.heap.size 0 (pt21 x (.slice av len cap))) w.heap.size (pt21 x (.slice av len cap)) := pZ3.setAll rfl
    refine bodyPost_ret (results_cell rfl _ _ w.heap.size (pt21 x (.slice av len cap)) _ rfl pZ9.range Tryz.underlying56 rfl (by kernel_rfl)) rfl ?_
    exact ⟨_, rfl, (Pt.far (show Pt w3 _ (ptV x (.slice av len cap)) row from ⟨nn, x, _, rfl, hp⟩) (by omega) 0 _).mono (by omega), h3.farAll hkp _ 0, grown_setAll hG3 (Nat.le_refl _) _ 0⟩
end Go.Proofs.YtlggnpohhahdlaaGreatDoor
