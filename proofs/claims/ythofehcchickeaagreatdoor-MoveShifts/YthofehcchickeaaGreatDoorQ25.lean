/- TRow, MKit, MWalkB. -/
import Derived.Test.YthofehcchickeaaGreatDoorQ24
namespace Go.Proofs.YthofehcchickeaaGreatDoor
open Go.RowKit Go.Shelf
set_option linter.unusedVariables false
theorem stop_here {P : Prop} (h : Hid P) : P := h.out
theorem row_trans {a b c : World} {row : Option Nat} (h1 : a.grownBy b row) (h2 : b.grownBy c row) : a.grownBy c row :=
  ⟨h2.os.trans h1.os, h2.tape.trans h1.tape, h2.output.trans h1.output, Nat.le_trans h1.size h2.size, fun k hk hn => (h2.block k (Nat.lt_of_lt_of_le hk h1.size) hn).trans (h1.block k hk hn)⟩
theorem PtIs.pos {w : World} {G : Nat → Prop} {n : Nat} {x : Wt.Nd} {sl : Value} {row : List Wt.Nd} (h : PtIs w G n x sl row) : 0 < row.length := by
  cases n with
  | zero => exact absurd h (by simp [PtIs])
  | succ n =>
    obtain ⟨_, _, _, _, _, _, rfl, _⟩ := h
    simp
theorem flat_ge : ∀ (rows : List (List Wt.Nd)), (∀ r ∈ rows, 0 < r.length) → rows.length ≤ rows.flatten.length
  | [], _ => by simp
  | r :: l, h => by
    have h1 := h r (by simp)
    have h2 := flat_ge l (fun q hq => h q (by simp [hq]))
    simp only [List.length_cons, List.flatten_cons, List.length_append]
    omega
theorem bs1n (x : Wt.Nd) (w : World) : (Instr.buildSlice 22 1 #[(0, .agg (nd20 x).toArray)]).run Tryz.prog w = .ok (.slice (some ⟨w.heap.size, 0, none⟩) 1 1) (w.alloc (.cells (nd20 x).toArray 30)) := by kernel_rfl
theorem wp_bs1n {op : Oper} {a : Act} {w : World} {K : Act → World → Prop} {Q : Exit → Act → World → Prop} (y : Operand) (ho : op.op = .buildSlice 22 1 #[(0, y)]) (x : Wt.Nd) (hy : a.eval y = .agg (nd20 x).toArray)
    (h : K (a.put op.dst (.slice (some ⟨w.heap.size, 0, none⟩) 1 1)) (w.alloc (.cells (nd20 x).toArray 30))) : op.wp Tryz.prog a w K Q := by
  unfold Oper.wp execOp
  simp only [ho, List.map_toArray, List.map_cons, List.map_nil, hy, Sem.run_bind, Sem.run_pure, Result.andThen_ok, bs1n]
  exact h
theorem wpList_bs1n {ops : Array Oper} {rest : List Oper} {op : Oper} {a : Act} {w : World} {Q : Exit → Act → World → Prop} (hgd : op.guard = none) (y : Operand) (ho : op.op = .buildSlice 22 1 #[(0, y)]) (x : Wt.Nd) (hy : a.eval y = .agg (nd20 x).toArray)
    (h : wpList Tryz.prog ops Q rest (a.put op.dst (.slice (some ⟨w.heap.size, 0, none⟩) 1 1)) (w.alloc (.cells (nd20 x).toArray 30))) : wpList Tryz.prog ops Q (op :: rest) a w :=
  wpList_plain hgd fun _ hK => wp_bs1n y ho x hy (hK _ _ h)
theorem nd_new (w : World) (x : Wt.Nd) (j : Nat) (u : Value) (hu : (nd20 x)[j]? = some u) : (w.alloc (.cells (nd20 x).toArray 30)).cell? ((⟨w.heap.size, 0, none⟩ : Addr).add j) = some u := by
  have hadd : (⟨w.heap.size, 0, none⟩ : Addr).add j = ⟨w.heap.size, 0 + j, none⟩ := by unfold Addr.add; split <;> simp_all
  rw [hadd]
  exact (AtL.new0 w 30 (nd20 x)).range j u hu
theorem nd_one (x : Wt.Nd) (u : Value) (hu : u ∈ nd20 x) : u.oneCell' = true := pt_one x (.slice none 0 0) rfl u (by unfold pt21; exact List.mem_append_left _ hu)
def ndRow (l : List Wt.Nd) : List Value := l.flatMap nd20
theorem ndRow_app (a b : List Wt.Nd) : ndRow (a ++ b) = ndRow a ++ ndRow b := by simp [ndRow]
theorem ndRow_one (x : Wt.Nd) : ndRow [x] = nd20 x := by simp [ndRow]
def RPost (base : Nat) (v : Value) (l : List Wt.Nd) (w : World) (e : Ending) (w' : World) : Prop :=
  ∃ v', e = .returned v' ∧ w'.ownsRow base 30 20 v' l.length (ndRow l) ∧ w.grownBy w' v.ownBlock ∧ (v'.ownBlock = v.ownBlock ∨ ∃ b, v'.ownBlock = some b ∧ w.heap.size ≤ b)
set_option maxHeartbeats 8000000 in
set_option maxRecDepth 100000 in
theorem row_any (base : Nat) : ∀ (n : Nat) (x : Wt.Nd) (sl : Value) (row : List Wt.Nd) (G : Nat → Prop) (v : Value) (pre : List Wt.Nd) (w : World), PtIs w G n x sl row → w.ownsRow base 30 20 v pre.length (ndRow pre) → (∀ b, G b → some b ≠ v.ownBlock) → base ≤ w.heap.size → pre.length + row.length ≤ 100000 →
    Calls Tryz.prog 36 #[ptV x sl, v] w fun e w' => RPost base v (pre ++ row) w e w' := by
  intro n
  induction n with
  | zero => intro x sl row G v pre w h; exact absurd h (by simp [PtIs])
  | succ n ih =>
    intro x sl row G v pre w h hown hG hbase hlen
    obtain ⟨av, cap, ps, rows, rfl, hl, rfl, hp⟩ := h
    obtain ⟨i0, hi, hz0, hz1, hz2⟩ := info_parts nodeInfo
    unfold ptV
    have pX := AtL.new0 w 78 (pt21 x (.slice av ps.length cap))
    have rX : (w.alloc (.cells (pt21 x (.slice av ps.length cap)).toArray 78)).rangeAt w.heap.size 0 (nd20 x) := fun j u hu => pX.range j u (by
      unfold pt21
      rw [List.getElem?_append_left (List.getElem?_eq_some_iff.1 hu).1]
      exact hu)
    have cX : (w.alloc (.cells (pt21 x (.slice av ps.length cap)).toArray 78)).cell? ⟨w.heap.size, 20, none⟩ = some (.slice av ps.length cap) := pX.range 20 _ rfl
    have hlo : ∀ k, v.ownBlock = some k → k < w.heap.size := fun k hk => (hown.lt k hk).2
    have hpl : ps.length ≤ 100000 := by
      have := flat_ge rows (fun r hr => by
        obtain ⟨j, hj, e⟩ := List.getElem_of_mem hr
        obtain ⟨_, _, _, _, hq⟩ := hp j (by omega) hj
        rw [← e]
        exact hq.pos)
      simp only [List.length_cons] at hlen
      omega
    have hln : pre.length + 1 ≤ 100000 := by simp at hlen; omega
    have hs1 : (w.alloc (.cells (pt21 x (.slice av ps.length cap)).toArray 78)).heap.size = w.heap.size + 1 := by simp
    have N5 : ∀ j u, (nd20 x)[j]? = some u → ((w.alloc (.cells (pt21 x (.slice av ps.length cap)).toArray 78)).alloc (.cells (nd20 x).toArray 30)).cell? ((⟨w.heap.size + 1, 0, none⟩ : Addr).add j) = some u := by
      intro j u hu
      have := nd_new (w.alloc (.cells (pt21 x (.slice av ps.length cap)).toArray 78)) x j u hu
      rw [hs1] at this
      exact this
    have hb5 : base ≤ ((w.alloc (.cells (pt21 x (.slice av ps.length cap)).toArray 78)).alloc (.cells (nd20 x).toArray 30)).heap.size := by simp; omega
    have hown2 := (hown.alloc (.cells (pt21 x (.slice av ps.length cap)).toArray 78)).alloc (.cells (nd20 x).toArray 30)
    go_enter Tryz.func36, Tryz.ntmps36
    go_wp2_with (first | ((with_reducible refine wpList_load_mid (cs := nd20 x) ?_ 30 (.tmp 8) ?_ w.heap.size 0 ?_ _ ?_ Tryz.underlying30 ?_ ?_ ?_); rfl; rfl; rfl; exact rX; rfl; kernel_rfl) | ((with_reducible refine wpList_bs1n ?_ (.tmp 9) ?_ x ?_ ?_); rfl; rfl; rfl) | (at_builtin; refine stop_here ?_))
    show wpList _ _ _ _ _ _
    refine wpList_append_keep _ rfl _ _ 22 rfl base 30 i0 (.agg #[.int .i64 0, .int .i64 0, .int .i64 0, .int .i64 0, .string ⟨#[]⟩, .bool false, .int .i64 0, .int .i64 0, .string ⟨#[]⟩, .int .i64 0, .string ⟨#[]⟩, .int .i64 0, .int .i64 0, .bool false, .bool false, .string ⟨#[]⟩, .int .i64 0, .int .i64 0, .bool false, .bool false]) 20 176 Tryz.underlying22 hi hz0 hz1 hz2 rfl (by decide) _ _ _ rfl hown2 ⟨w.heap.size + 1, 0, none⟩ 1 1 (nd20 x) rfl rfl N5 (nd_one x) (by unfold maxLen; omega) (by omega) hb5 ?_
    intro v5 w5 hown5 hgrow hat hkeep
    have hg2 : ((w.alloc (.cells (pt21 x (.slice av ps.length cap)).toArray 78)).alloc (.cells (nd20 x).toArray 30)).grownBy w5 v.ownBlock := hgrow
    have hne : some w.heap.size ≠ v.ownBlock := fun e => by have := hlo _ e.symm; omega
    have c5 : w5.cell? ⟨w.heap.size, 20, none⟩ = some (.slice av ps.length cap) := hg2.cell ((World.grownBy_alloc _ _ v.ownBlock).cell cX hne) hne
    have g5 : w.grownBy w5 v.ownBlock := row_trans (World.grownBy_alloc w _ _) (row_trans (World.grownBy_alloc _ _ _) hg2)
    have own5 : Hid (w5.ownsRow base 30 20 v5 (pre ++ [x]).length (ndRow (pre ++ [x]))) := by
      show World.ownsRow _ _ _ _ _ _ _
      rw [ndRow_app, ndRow_one, List.length_append]
      exact hown5
    have at5 : Hid (v5.ownBlock = v.ownBlock ∨ ∃ b, v5.ownBlock = some b ∧ w.heap.size ≤ b) := by
      rcases hat with h | h
      · exact .inl h
      · exact .inr ⟨_, h, by simp; omega⟩
    have hform : ∃ a c, v5 = .slice a (pre.length + 1) c := by
      rcases hown5.2 with ⟨_, h0⟩ | ⟨g, cap, cur, e, _⟩
      · omega
      · exact ⟨_, _, e⟩
    have G5 : Hid (w.grownBy w5 v.ownBlock) := g5
    clear hgrow hg2 hat hkeep hown5 hown2 cX rX pX N5 hb5 hs1
    go_wp2_with fail
    go_loopg [1, 15] (ps.length) (fun gk a b wr => ∃ i : Nat, b = .int .i64 i ∧ gk = ps.length - i ∧ i ≤ ps.length ∧ Hid (wr.ownsRow base 30 20 a (pre ++ x :: (rows.take i).flatten).length (ndRow (pre ++ x :: (rows.take i).flatten))) ∧ Hid (w.grownBy wr v.ownBlock) ∧ Hid (a.ownBlock = v.ownBlock ∨ ∃ b, a.ownBlock = some b ∧ w.heap.size ≤ b))
    case atStart => exact ⟨0, rfl, rfl, by omega, own5, G5, at5⟩
    case round =>
      clear own5 G5 at5
      obtain ⟨i, rfl, hgk, hile, OW, GR, AT⟩ := hrel
      by_cases hlt : i < ps.length
      · have hlti : (i : Int) < ps.length := by omega
        obtain ⟨bb, rfl, hGb, hr, hpt⟩ := hp i hlt (by omega)
        have hrr : wr.rangeAt bb (i * 21) (pt21 (ps[i]).1 (ps[i]).2) := fun j u hu => GR.out.cell (hr j u hu) (hG bb hGb)
        obtain ⟨av', len', cap', hsl⟩ := hpt.one
        generalize hxx : (ps[i]).1 = x' at *
        generalize hss : (ps[i]).2 = sl' at *
        subst hsl
        have pN := AtL.new0 wr 78 (pt21 (bare 0) (.slice none 0 0))
        have hthN : World.there (wr.alloc (.cells #[.int .i64 0, .int .i64 0, .int .i64 0, .int .i64 0, .string ⟨#[]⟩, .bool false, .int .i64 0, .int .i64 0, .string ⟨#[]⟩, .int .i64 0, .string ⟨#[]⟩, .int .i64 0, .int .i64 0, .bool false, .bool false, .string ⟨#[]⟩, .int .i64 0, .int .i64 0, .bool false, .bool false, .slice none 0 0] 78)) wr.heap.size 0 (pt21 x' (.slice av' len' cap')).toArray.size := pN.there
        have pM : AtL ((wr.alloc (.cells #[.int .i64 0, .int .i64 0, .int .i64 0, .int .i64 0, .string ⟨#[]⟩, .bool false, .int .i64 0, .int .i64 0, .string ⟨#[]⟩, .int .i64 0, .string ⟨#[]⟩, .int .i64 0, .int .i64 0, .bool false, .bool false, .string ⟨#[]⟩, .int .i64 0, .int .i64 0, .bool false, .bool false, .slice none 0 0] 78)).setCells wr.heap.size 0 (pt21 x' (.slice av' len' cap'))) wr.heap.size (pt21 x' (.slice av' len' cap')) := AtL.setAll pN rfl
        have rM := pM.range
        have hbM := bset (ball (Below.refl _ wr) (.cells #[.int .i64 0, .int .i64 0, .int .i64 0, .int .i64 0, .string ⟨#[]⟩, .bool false, .int .i64 0, .int .i64 0, .string ⟨#[]⟩, .int .i64 0, .string ⟨#[]⟩, .int .i64 0, .int .i64 0, .bool false, .bool false, .string ⟨#[]⟩, .int .i64 0, .int .i64 0, .bool false, .bool false, .slice none 0 0] 78)) (Nat.le_refl wr.heap.size) (pt21 x' (.slice av' len' cap')) 0
        go_wp2_with (first | ((with_reducible refine wpList_load_mid (cs := pt21 x' (.slice av' len' cap')) ?_ 78 (.tmp 17) ?_ bb (i * 21) ?_ _ ?_ Tryz.underlying78 ?_ ?_ ?_); rfl; rfl; rfl; exact hrr; rfl; kernel_rfl) | ((with_reducible refine wpList_store_mid ?_ 78 (.tmp 6) (.tmp 18) ?_ (wr.heap.size) 0 (pt21 x' (.slice av' len' cap')).toArray ?_ ?_ ?_ ?_ ?_ ?_); rfl; rfl; rfl; rfl; exact hthN; kernel_rfl; exact one21 _ _ rfl) | ((with_reducible refine wpList_load_mid (cs := pt21 x' (.slice av' len' cap')) ?_ 78 (.tmp 6) ?_ wr.heap.size 0 ?_ _ ?_ Tryz.underlying78 ?_ ?_ ?_); rfl; rfl; rfl; exact rM; rfl; kernel_rfl))
        generalize ((wr.alloc (.cells #[.int .i64 0, .int .i64 0, .int .i64 0, .int .i64 0, .string ⟨#[]⟩, .bool false, .int .i64 0, .int .i64 0, .string ⟨#[]⟩, .int .i64 0, .string ⟨#[]⟩, .int .i64 0, .int .i64 0, .bool false, .bool false, .string ⟨#[]⟩, .int .i64 0, .int .i64 0, .bool false, .bool false, .slice none 0 0] 78)).setCells wr.heap.size 0 (pt21 x' (.slice av' len' cap'))) = wM at *
        have hir : i < rows.length := by omega
        have htk : rows.take (i + 1) = rows.take i ++ [rows[i]] := by rw [List.take_add_one, List.getElem?_eq_getElem hir]; rfl
        have hfl : (rows.take i).flatten.length + (rows[i]).length ≤ rows.flatten.length := by
          have := congrArg (fun l => l.flatten.length) (List.take_append_drop (i + 1) rows)
          simp only [htk, List.flatten_append, List.length_append, List.flatten_cons, List.flatten_nil, List.append_nil] at this
          omega
        have hsz1 := GR.out.size
        have hsz2 := hbM.size
        have hP1 := PtIs.inside (G' := fun b => G b ∧ b < w.heap.size) (fun b hb hl => ⟨hb, hl⟩) n hpt
        have hP2 := PtIs.keep (fun k hk h2 => GR.out.block k h2 (hG k hk.1)) n hP1
        have hP3 := PtIs.keep (fun k hk h2 => hbM.block k h2) n hP2
        have OWM := OW.out.kept (row := none) ⟨hbM.os, hbM.tape, hbM.output, hbM.size, fun k hk _ => hbM.block k hk⟩ (by cases u1.ownBlock <;> simp)
        have hGM : ∀ b, G b ∧ b < w.heap.size → some b ≠ u1.ownBlock := by
          intro b hb e
          rcases AT.out with h | ⟨b', h, h'⟩
          · exact hG b hb.1 (e.trans h)
          · rw [h] at e; have := Option.some.inj e; omega
        refine (ih x' (.slice av' len' cap') (rows[i]) _ u1 _ wM hP3 OWM hGM (by omega) (by simp only [List.length_append, List.length_cons] at hlen ⊢; omega)).mono ?_
        rintro e w7 ⟨v7, rfl, own7, g7, at7⟩
        have hsz3 := g7.size
        have OW7 : Hid (w7.ownsRow base 30 20 v7 (pre ++ x :: (rows.take (i + 1)).flatten).length (ndRow (pre ++ x :: (rows.take (i + 1)).flatten))) := by
          show World.ownsRow _ _ _ _ _ _ _
          rw [htk, List.flatten_append, List.flatten_cons, List.flatten_nil, List.append_nil, ← List.cons_append, ← List.append_assoc]
          exact own7
        have G7 : Hid (w.grownBy w7 v.ownBlock) := ⟨g7.os.trans (hbM.os.trans GR.out.os), g7.tape.trans (hbM.tape.trans GR.out.tape), g7.output.trans (hbM.output.trans GR.out.output), by omega, fun k hk hn => (g7.block k (by omega) (by
            intro e
            rcases AT.out with h | ⟨b', h, h'⟩
            · exact hn (e.trans h)
            · rw [h] at e; have := Option.some.inj e; omega)).trans ((hbM.block k (by omega)).trans (GR.out.block k hk hn))⟩
        have A7 : Hid (v7.ownBlock = v.ownBlock ∨ ∃ b, v7.ownBlock = some b ∧ w.heap.size ≤ b) := by
          rcases at7 with h | ⟨b, h, h'⟩
          · rcases AT.out with h2 | ⟨b', h2, h3⟩
            · exact .inl (h.trans h2)
            · exact .inr ⟨b', h.trans h2, h3⟩
          · exact .inr ⟨b, h, by omega⟩
        clear own7 g7 at7 OWM hP1 hP2 hP3 hbM pM rM hthN pN OW GR AT hGM
        go_wp2_with fail
        go_roundg (ps.length - (i + 1))
        case rel => exact ⟨i + 1, rfl, rfl, by omega, OW7, G7, A7⟩
        case measure => omega
      · obtain rfl : i = ps.length := by omega
        have hlti : ¬ (ps.length : Int) < ps.length := by omega
        go_wp2_with fail
        go_ret
        have hfull : rows.take ps.length = rows := by rw [← hl]; exact List.take_length
        have OW' := OW.out
        rw [hfull] at OW'
        exact ⟨_, rfl, OW', GR.out, AT.out⟩
def setL : List Value → Nat → List Value → List Value
  | us, _, [] => us
  | us, o, v :: r => setL (us.set o v) (o + 1) r
theorem AtL.setSub {k : Nat} : ∀ (vs : List Value) (o : Nat) {W : World} {us : List Value}, AtL W k us → AtL (W.setCells k o vs) k (setL us o vs)
  | [], o, W, us, h => h
  | v :: r, o, W, us, h => by
    rw [World.setCells, setL]
    exact AtL.setSub r (o + 1) (h.set o v)
theorem AtL.sub {W : World} {k : Nat} {us : List Value} (h : AtL W k us) (o : Nat) (vs : List Value) (hv : ∀ j v, vs[j]? = some v → us[o + j]? = some v) : W.rangeAt k o vs := fun j v hj => h.2.1 (o + j) v (hv j v hj)
theorem AtL.thereSub {W : World} {k : Nat} {us : List Value} (h : AtL W k us) (o n : Nat) (hn : o + n ≤ us.length) : W.there k o n := fun j hj =>
  ⟨by rw [h.2.1 (o + j) (us[o + j]'(by omega)) (List.getElem?_eq_getElem (by omega))]; rfl, h.2.2 (o + j) (by omega)⟩
theorem nd_a {W : World} {k : Nat} {x : Wt.Nd} (h : AtL W k (nd20 x)) : W.rangeAt k 10 (rf5 x.a) := h.sub 10 _ (fun j v hv => by
  match j, hv with
  | 0, hv => exact hv
  | 1, hv => exact hv
  | 2, hv => exact hv
  | 3, hv => exact hv
  | 4, hv => exact hv
  | j + 5, hv => simp [rf5] at hv)
theorem nd_b {W : World} {k : Nat} {x : Wt.Nd} (h : AtL W k (nd20 x)) : W.rangeAt k 15 (rf5 x.b) := h.sub 15 _ (fun j v hv => by
  match j, hv with
  | 0, hv => exact hv
  | 1, hv => exact hv
  | 2, hv => exact hv
  | 3, hv => exact hv
  | 4, hv => exact hv
  | j + 5, hv => simp [rf5] at hv)
theorem nd_setA {W : World} {k : Nat} {x : Wt.Nd} (h : AtL W k (nd20 x)) (a : Wt.Rf) : AtL (W.setCells k 10 (rf5 a)) k (nd20 ⟨x.k, x.v, x.op, x.nm, x.ar, a, x.b⟩) := h.setSub (rf5 a) 10
theorem nd_setB {W : World} {k : Nat} {x : Wt.Nd} (h : AtL W k (nd20 x)) (b : Wt.Rf) : AtL (W.setCells k 15 (rf5 b)) k (nd20 ⟨x.k, x.v, x.op, x.nm, x.ar, x.a, b⟩) := h.setSub (rf5 b) 15
theorem one5 (a : Wt.Rf) : (rf5 a).toArray.all (·.oneCell') = true := all_oneCell_toArray (fun v hv => by
  simp only [rf5, List.mem_cons, List.not_mem_nil, or_false] at hv
  rcases hv with rfl | rfl | rfl | rfl | rfl <;> rfl)
abbrev zC : Array Value := #[.int .i64 0, .int .i64 0, .int .i64 0, .int .i64 0, .string ⟨#[]⟩, .bool false, .int .i64 0, .int .i64 0, .string ⟨#[]⟩, .int .i64 0, .string ⟨#[]⟩, .int .i64 0, .int .i64 0, .bool false, .bool false, .string ⟨#[]⟩, .int .i64 0, .int .i64 0, .bool false, .bool false]
def zeroN : Wt.Nd := ⟨0, Wt.v0, 0, ⟨#[]⟩, 0, Wt.r0, Wt.r0⟩
set_option maxHeartbeats 4000000 in
set_option maxRecDepth 100000 in
theorem wnode_o (x y : Int) (n : Wt.Nd) (h2 : ¬ n.k = 2) (h3 : ¬ n.k = 3) (w : World) : Calls Tryz.prog 15 #[.agg #[.int .i64 x, .int .i64 y], .agg (nd20 n).toArray] w fun e w' => e = .returned (.agg (nd20 (mvN x y n)).toArray) ∧ Below w.heap.size w w' := by
  have hm : Hid (mvN x y n = n) := by show _ = _; unfold mvN; rw [if_neg h2, if_neg h3]
  rw [hm.out]
  clear hm
  have pB := ((AtL.new0 w 50 [.int .i64 x, .int .i64 y]).alloc (.cells (nd20 n).toArray 30)).alloc (.cells zC 30)
  have pN := (AtL.new1 w (.cells #[.int .i64 x, .int .i64 y] 50) 30 (nd20 n)).alloc (.cells zC 30)
  have pR : AtL (((w.alloc (.cells #[.int .i64 x, .int .i64 y] 50)).alloc (.cells (nd20 n).toArray 30)).alloc (.cells zC 30)) (w.heap.size + 2) (nd20 zeroN) := AtL.new _ _ (by simp) _
  have hB := ball (ball (ball (Below.refl _ w) (.cells #[.int .i64 x, .int .i64 y] 50)) (.cells (nd20 n).toArray 30)) (.cells zC 30)
  go_enter Tryz.func15, Tryz.ntmps15
  go_upto_region 1 with fail
  generalize (((w.alloc (.cells #[.int .i64 x, .int .i64 y] 50)).alloc (.cells (nd20 n).toArray 30)).alloc (.cells zC 30)) = W at *
  obtain ⟨b0, b1, k0, k1⟩ := pB.two
  have n0 : W.cell? ⟨w.heap.size + 1, 0, none⟩ = some (.int .i64 n.k) := pN.2.1 0 _ rfl
  have rN : W.rangeAt (w.heap.size + 1) 0 (nd20 n) := pN.range
  have rT : W.there (w.heap.size + 2) 0 (nd20 n).toArray.size := pR.there
  go_wp2_with (first | ((with_reducible refine wpList_load_mid (cs := nd20 n) ?_ 30 (.tmp 3) ?_ (w.heap.size + 1) 0 ?_ _ ?_ Tryz.underlying30 ?_ ?_ ?_); rfl; rfl; rfl; exact rN; rfl; kernel_rfl) | ((with_reducible refine wpList_store_mid ?_ 30 (.tmp 4) (.tmp 50) ?_ (w.heap.size + 2) 0 (nd20 n).toArray ?_ ?_ ?_ ?_ ?_ ?_); rfl; rfl; rfl; rfl; exact rT; kernel_rfl; exact one20 _))
  have rR2 := AtL.setAll pR (vs := nd20 n) rfl
  refine bodyPost_ret (v := .agg (nd20 n).toArray) (results_cell (by rfl) _ _ (w.heap.size + 2) (nd20 n) _ (by rfl) rR2.range Tryz.underlying30 rfl (by kernel_rfl)) rfl ⟨rfl, ?_⟩
  exact bset hB (by omega) _ _
set_option maxHeartbeats 4000000 in
set_option maxRecDepth 100000 in
theorem wnode_2t (x y : Int) (n : Wt.Nd) (h2 : n.k = 2) (hq : okR x y n.a = true) (w : World) : Calls Tryz.prog 15 #[.agg #[.int .i64 x, .int .i64 y], .agg (nd20 n).toArray] w fun e w' => e = .returned (.agg (nd20 (mvN x y n)).toArray) ∧ Below w.heap.size w w' := by
  have C := fun w => wref_any x y n.a w
  have hm : Hid (mvN x y n = ⟨n.k, n.v, n.op, n.nm, n.ar, mvR x y n.a, n.b⟩) := by show _ = _; unfold mvN; rw [if_pos h2, hq]; rfl
  rw [hm.out]
  rw [hq] at C
  clear hm hq
  obtain ⟨n2, hn2⟩ : ∃ n2 : Wt.Nd, (⟨n.k, n.v, n.op, n.nm, n.ar, mvR x y n.a, n.b⟩ : Wt.Nd) = n2 := ⟨_, rfl⟩
  rw [hn2]
  have Hn2 : Hid ((⟨n.k, n.v, n.op, n.nm, n.ar, mvR x y n.a, n.b⟩ : Wt.Nd) = n2) := hn2
  clear hn2
  generalize mvR x y n.a = a' at *
  have pB := ((AtL.new0 w 50 [.int .i64 x, .int .i64 y]).alloc (.cells (nd20 n).toArray 30)).alloc (.cells zC 30)
  have pN := (AtL.new1 w (.cells #[.int .i64 x, .int .i64 y] 50) 30 (nd20 n)).alloc (.cells zC 30)
  have pR : AtL (((w.alloc (.cells #[.int .i64 x, .int .i64 y] 50)).alloc (.cells (nd20 n).toArray 30)).alloc (.cells zC 30)) (w.heap.size + 2) (nd20 zeroN) := AtL.new _ _ (by simp) _
  have hB := ball (ball (ball (Below.refl _ w) (.cells #[.int .i64 x, .int .i64 y] 50)) (.cells (nd20 n).toArray 30)) (.cells zC 30)
  go_enter Tryz.func15, Tryz.ntmps15
  go_upto_region 1 with fail
  generalize (((w.alloc (.cells #[.int .i64 x, .int .i64 y] 50)).alloc (.cells (nd20 n).toArray 30)).alloc (.cells zC 30)) = W at *
  obtain ⟨b0, b1, k0, k1⟩ := pB.two
  have n0 : W.cell? ⟨w.heap.size + 1, 0, none⟩ = some (.int .i64 n.k) := pN.2.1 0 _ rfl
  have rA := nd_a pN
  rw [h2] at n0
  go_wp2_with ((with_reducible refine wpList_load_mid (cs := rf5 n.a) ?_ 28 (.tmp 16) ?_ (w.heap.size + 1) 10 ?_ _ ?_ Tryz.underlying28 ?_ ?_ ?_); rfl; rfl; rfl; exact rA; rfl; kernel_rfl)
  refine (C _).mono ?_
  rintro e w1 ⟨rfl, hb⟩
  have qN := AtL.below hb pN
  have qR := AtL.below hb pR
  have qB := below_end hB hb
  have sT : w1.there (w.heap.size + 1) 10 (rf5 a').toArray.size := qN.thereSub 10 5 (by show 10 + 5 ≤ 20; omega)
  have sN := nd_setA qN a'
  have sR := AtL.farAll qR (b := w.heap.size + 1) (by omega) 10 (rf5 a')
  have sB := bset qB (k := w.heap.size + 1) (by omega) (rf5 a') 10
  clear hb pN pR hB pB b0 b1 k0 k1 n0 rA C qN qR qB
  go_upto_region 9 with ((with_reducible refine wpList_store_mid ?_ 28 (.tmp 21) (.tmp 19) ?_ (w.heap.size + 1) 10 (rf5 a').toArray ?_ ?_ ?_ ?_ ?_ ?_); rfl; rfl; rfl; rfl; exact sT; kernel_rfl; exact one5 _)
  generalize w1.setCells (w.heap.size + 1) 10 (rf5 a').toArray.toList = W2 at *
  clear sT
  rw [Hn2.out] at sN
  have rN : W2.rangeAt (w.heap.size + 1) 0 (nd20 n2) := sN.range
  have rT : W2.there (w.heap.size + 2) 0 (nd20 n2).toArray.size := sR.there
  go_wp2_with (first | ((with_reducible refine wpList_load_mid (cs := nd20 n2) ?_ 30 (.tmp 3) ?_ (w.heap.size + 1) 0 ?_ _ ?_ Tryz.underlying30 ?_ ?_ ?_); rfl; rfl; rfl; exact rN; rfl; kernel_rfl) | ((with_reducible refine wpList_store_mid ?_ 30 (.tmp 4) (.tmp 50) ?_ (w.heap.size + 2) 0 (nd20 n2).toArray ?_ ?_ ?_ ?_ ?_ ?_); rfl; rfl; rfl; rfl; exact rT; kernel_rfl; exact one20 _))
  have rR2 := AtL.setAll sR (vs := nd20 n2) rfl
  refine bodyPost_ret (v := .agg (nd20 n2).toArray) (results_cell (by rfl) _ _ (w.heap.size + 2) (nd20 n2) _ (by rfl) rR2.range Tryz.underlying30 rfl (by kernel_rfl)) rfl ⟨rfl, ?_⟩
  exact bset sB (by omega) _ _
set_option maxHeartbeats 4000000 in
set_option maxRecDepth 100000 in
theorem wnode_2f (x y : Int) (n : Wt.Nd) (h2 : n.k = 2) (hq : okR x y n.a = false) (w : World) : Calls Tryz.prog 15 #[.agg #[.int .i64 x, .int .i64 y], .agg (nd20 n).toArray] w fun e w' => e = .returned (.agg (nd20 (mvN x y n)).toArray) ∧ Below w.heap.size w w' := by
  have C := fun w => wref_any x y n.a w
  have hm : Hid (mvN x y n = lostN) := by show _ = _; unfold mvN; rw [if_pos h2, hq]; rfl
  rw [hm.out]
  rw [hq] at C
  clear hm hq
  generalize mvR x y n.a = a' at *
  have pB := ((AtL.new0 w 50 [.int .i64 x, .int .i64 y]).alloc (.cells (nd20 n).toArray 30)).alloc (.cells zC 30)
  have pN := (AtL.new1 w (.cells #[.int .i64 x, .int .i64 y] 50) 30 (nd20 n)).alloc (.cells zC 30)
  have pR : AtL (((w.alloc (.cells #[.int .i64 x, .int .i64 y] 50)).alloc (.cells (nd20 n).toArray 30)).alloc (.cells zC 30)) (w.heap.size + 2) (nd20 zeroN) := AtL.new _ _ (by simp) _
  have hB := ball (ball (ball (Below.refl _ w) (.cells #[.int .i64 x, .int .i64 y] 50)) (.cells (nd20 n).toArray 30)) (.cells zC 30)
  go_enter Tryz.func15, Tryz.ntmps15
  go_upto_region 1 with fail
  generalize (((w.alloc (.cells #[.int .i64 x, .int .i64 y] 50)).alloc (.cells (nd20 n).toArray 30)).alloc (.cells zC 30)) = W at *
  obtain ⟨b0, b1, k0, k1⟩ := pB.two
  have n0 : W.cell? ⟨w.heap.size + 1, 0, none⟩ = some (.int .i64 n.k) := pN.2.1 0 _ rfl
  have rA := nd_a pN
  rw [h2] at n0
  go_wp2_with ((with_reducible refine wpList_load_mid (cs := rf5 n.a) ?_ 28 (.tmp 16) ?_ (w.heap.size + 1) 10 ?_ _ ?_ Tryz.underlying28 ?_ ?_ ?_); rfl; rfl; rfl; exact rA; rfl; kernel_rfl)
  refine (C _).mono ?_
  rintro e w1 ⟨rfl, hb⟩
  have qN := AtL.below hb pN
  have qR := AtL.below hb pR
  have qB := below_end hB hb
  have sT : w1.there (w.heap.size + 1) 10 (rf5 a').toArray.size := qN.thereSub 10 5 (by show 10 + 5 ≤ 20; omega)
  have sN := nd_setA qN a'
  have sR := AtL.farAll qR (b := w.heap.size + 1) (by omega) 10 (rf5 a')
  have sB := bset qB (k := w.heap.size + 1) (by omega) (rf5 a') 10
  clear hb pN pR hB pB b0 b1 k0 k1 n0 rA C qN qR qB
  go_upto_region 9 with ((with_reducible refine wpList_store_mid ?_ 28 (.tmp 21) (.tmp 19) ?_ (w.heap.size + 1) 10 (rf5 a').toArray ?_ ?_ ?_ ?_ ?_ ?_); rfl; rfl; rfl; rfl; exact sT; kernel_rfl; exact one5 _)
  generalize w1.setCells (w.heap.size + 1) 10 (rf5 a').toArray.toList = W2 at *
  clear sT
  have VF := fun w => vFault_any 3 w
  have ev : vlV (vFault 3) = .agg #[.int .i64 4, .int .i64 0, .int .i64 0, .string ⟨#[]⟩, .bool false, .int .i64 3] := rfl
  rw [ev] at VF
  clear ev
  go_wp2_with fail
  refine (VF _).mono ?_
  rintro e w9 ⟨rfl, hb9⟩
  have rR := AtL.below hb9 sR
  have rB := below_end sB hb9
  have rT : w9.there (w.heap.size + 2) 0 (nd20 lostN).toArray.size := rR.there
  go_wp2_with ((with_reducible refine wpList_store_mid ?_ 30 (.tmp 4) (.tmp 49) ?_ (w.heap.size + 2) 0 (nd20 lostN).toArray ?_ ?_ ?_ ?_ ?_ ?_); rfl; rfl; rfl; rfl; exact rT; kernel_rfl; exact one20 _)
  have rR2 := AtL.setAll rR (vs := nd20 lostN) rfl
  refine bodyPost_ret (v := .agg (nd20 lostN).toArray) (results_cell (by rfl) _ _ (w.heap.size + 2) (nd20 lostN) _ (by rfl) rR2.range Tryz.underlying30 rfl (by kernel_rfl)) rfl ⟨rfl, ?_⟩
  exact bset rB (by omega) _ _
end Go.Proofs.YthofehcchickeaaGreatDoor
