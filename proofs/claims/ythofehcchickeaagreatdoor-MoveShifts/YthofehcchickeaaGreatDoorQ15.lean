/- TPart, MWalkA, MRefA, TPartB. -/
import Derived.Test.YthofehcchickeaaGreatDoorQ14
namespace Go.Proofs.YthofehcchickeaaGreatDoor
open Go.RowKit Go.Shelf
set_option linter.unusedVariables false
theorem results_cell {P : Program} {fn : Func} {t : Tmp} {T : TypeId} (h : fn.results = #[.cell t T]) (tmps : Array Value) (w : World) (b : Nat) (cs : List Value) (d : TypeDesc) (ht : tmps.getD t undef = .pointer (some ⟨b, 0, none⟩)) (hc : w.rangeAt b 0 cs)
    (hu : P.underlying T = some d) (hd : d.isRow = true) (hi : (P.info? T).map (·.size) = some cs.length) : (results fn tmps).run P w = .ok (.agg cs.toArray) w := by
  have hl := run_loadVar_mid (P := P) w b 0 T cs d hc hu hd hi
  have ht' : tmps[t]?.getD undef = .pointer (some ⟨b, 0, none⟩) := by rw [← ht]; simp
  simp only [results, h]
  simp [ht', hl, asAddr]
def Env (w : World) : Prop := OpsAt w ∧ FltAt w ∧ MaxAt w ∧ Lib.TabIs Tryz.prog w "internal/strconv.uint64pow10" .u64 Lib.pow10Tab
theorem Env.below {w w' : World} (h : Env w) (hb : Below w.heap.size w w') : Env w' := ⟨h.1.below hb, h.2.1.below hb, h.2.2.1.below hb, (Lib.tabBelow_of_tabIs h.2.2.2).on hb |>.here⟩
theorem Env.grown {w w' : World} {kp : Nat} (h : Env w) (hg : w.grownBy w' (some kp)) (hk : 8 ≤ kp) : Env w' := by
  obtain ⟨h1, h2, ⟨m, h3⟩, h4⟩ := h
  have hn : ∀ g, g < 8 → some g ≠ some kp := fun g hg e => by have := Option.some.inj e; omega
  refine ⟨fun j v hv => hg.cell (h1 j v hv) (hn 0 (by decide)), fun j v hv => hg.cell (h2 j v hv) (hn 1 (by decide)), ⟨m, hg.cell h3 (hn _ (by decide))⟩, ?_⟩
  have e : Tryz.prog.globalNamed "internal/strconv.uint64pow10" = some 5 := by kernel_rfl
  unfold Lib.TabIs World.var? at h4 ⊢
  rw [e] at h4 ⊢
  simp only [Option.bind_some] at h4 ⊢
  have hlt : 5 < w.heap.size := by
    rcases Nat.lt_or_ge 5 w.heap.size with h | h
    · exact h
    · rw [Array.getElem?_eq_none h] at h4; cases h4
  rw [hg.block _ hlt (hn _ (by decide))]
  exact h4
def pt21 (x : Wt.Nd) (sl : Value) : List Value := nd20 x ++ [sl]
def ptV (x : Wt.Nd) (sl : Value) : Value := .agg (pt21 x sl).toArray
def PtIs (w : World) (G : Nat → Prop) : Nat → Wt.Nd → Value → List Wt.Nd → Prop
  | 0, _, _, _ => False
  | n + 1, x, sl, row => ∃ (av : Option Addr) (cap : Nat) (ps : List (Wt.Nd × Value)) (rows : List (List Wt.Nd)), sl = .slice av ps.length cap ∧ rows.length = ps.length ∧ row = x :: rows.flatten ∧
      ∀ i (h : i < ps.length) (h' : i < rows.length), ∃ bb, av = some ⟨bb, 0, none⟩ ∧ G bb ∧ w.rangeAt bb (i * 21) (pt21 (ps[i]).1 (ps[i]).2) ∧ PtIs w G n (ps[i]).1 (ps[i]).2 (rows[i])
theorem range_block {w : World} {bb o : Nat} {x : Wt.Nd} {sl : Value} (h : w.rangeAt bb o (pt21 x sl)) : bb < w.heap.size := World.block_lt_of_cell? _ _ (h 0 _ rfl)
theorem PtIs.keep {w w' : World} {G : Nat → Prop} (hk : ∀ k, G k → k < w.heap.size → w'.heap[k]? = w.heap[k]?) : ∀ (n : Nat) {x : Wt.Nd} {sl : Value} {row : List Wt.Nd}, PtIs w G n x sl row → PtIs w' G n x sl row
  | 0, _, _, _, h => h
  | n + 1, x, sl, row, ⟨av, cap, ps, rows, e, hl, hr, hp⟩ => ⟨av, cap, ps, rows, e, hl, hr, fun i h h' => by
      obtain ⟨bb, e1, e2, e3, e4⟩ := hp i h h'
      exact ⟨bb, e1, e2, fun j v hv => (World.cell?_of_block (a := ⟨bb, i * 21 + j, none⟩) (hk bb e2 (range_block e3))).trans (e3 j v hv), PtIs.keep hk n e4⟩⟩
theorem PtIs.mono {w : World} {G G' : Nat → Prop} (hlo : ∀ b, G b → G' b) : ∀ (n : Nat) {x : Wt.Nd} {sl : Value} {row : List Wt.Nd}, PtIs w G n x sl row → PtIs w G' n x sl row
  | 0, _, _, _, h => h
  | n + 1, x, sl, row, ⟨av, cap, ps, rows, e, hl, hr, hp⟩ => ⟨av, cap, ps, rows, e, hl, hr, fun i h h' => by
      obtain ⟨bb, e1, e2, e3, e4⟩ := hp i h h'
      exact ⟨bb, e1, hlo _ e2, e3, PtIs.mono hlo n e4⟩⟩
theorem PtIs.leaf (w : World) (G : Nat → Prop) (x : Wt.Nd) : PtIs w G 1 x (.slice none 0 0) [x] := ⟨none, 0, [], [], rfl, rfl, rfl, fun i h => absurd h (Nat.not_lt_zero _)⟩
theorem PtIs.more {w : World} {G : Nat → Prop} : ∀ {n : Nat} {x : Wt.Nd} {sl : Value} {row : List Wt.Nd}, PtIs w G n x sl row → PtIs w G (n + 1) x sl row
  | 0, _, _, _, h => h.elim
  | n + 1, x, sl, row, ⟨av, cap, ps, rows, e, hl, hr, hp⟩ => ⟨av, cap, ps, rows, e, hl, hr, fun i h h' => by
      obtain ⟨bb, e1, e2, e3, e4⟩ := hp i h h'
      exact ⟨bb, e1, e2, e3, PtIs.more e4⟩⟩
theorem PtIs.upto {w : World} {G : Nat → Prop} {n m : Nat} {x : Wt.Nd} {sl : Value} {row : List Wt.Nd} (h : PtIs w G n x sl row) (hm : n ≤ m) : PtIs w G m x sl row := by
  induction m with
  | zero => obtain rfl : n = 0 := by omega
            exact h
  | succ m ih =>
    rcases Nat.lt_or_ge n (m + 1) with h1 | h1
    · exact (ih (by omega)).more
    · obtain rfl : n = m + 1 := by omega
      exact h
theorem PtIs.one {w : World} {G : Nat → Prop} {n : Nat} {x : Wt.Nd} {sl : Value} {row : List Wt.Nd} (h : PtIs w G n x sl row) : ∃ av len cap, sl = .slice av len cap := by
  cases n with
  | zero => exact h.elim
  | succ n => obtain ⟨av, cap, ps, rows, e, _⟩ := h; exact ⟨av, ps.length, cap, e⟩
def Pt (w : World) (lo : Nat) (v : Value) (row : List Wt.Nd) : Prop := ∃ n x sl, v = ptV x sl ∧ PtIs w (fun b => lo ≤ b) n x sl row
theorem Pt.grown {w w' : World} {kp lo : Nat} {v : Value} {row : List Wt.Nd} (h : Pt w lo v row) (hg : w.grownBy w' (some kp)) (hk : kp < lo) : Pt w' lo v row := by
  obtain ⟨n, x, sl, e, h⟩ := h
  exact ⟨n, x, sl, e, PtIs.keep (fun k h1 h2 => hg.block k h2 (fun e => by have := Option.some.inj e; omega)) n h⟩
theorem Pt.below {w w' : World} {lo : Nat} {v : Value} {row : List Wt.Nd} (h : Pt w lo v row) (hb : Below w.heap.size w w') : Pt w' lo v row := by
  obtain ⟨n, x, sl, e, h⟩ := h
  exact ⟨n, x, sl, e, PtIs.keep (fun k h1 h2 => hb.block k h2) n h⟩
theorem heap_setCells_ne (b k : Nat) (hk : k ≠ b) : ∀ (vs : List Value) (o : Nat) (w : World), (w.setCells b o vs).heap[k]? = w.heap[k]?
  | [], _, _ => rfl
  | v :: r, o, w => by rw [World.setCells, heap_setCells_ne b k hk r]; exact Below.heap_setCell _ _ _ _ hk
theorem Pt.far {w : World} {lo b : Nat} {v : Value} {row : List Wt.Nd} (h : Pt w lo v row) (hb : b < lo) (o : Nat) (vs : List Value) : Pt (w.setCells b o vs) lo v row := by
  obtain ⟨n, x, sl, e, h⟩ := h
  exact ⟨n, x, sl, e, PtIs.keep (fun k h1 h2 => heap_setCells_ne b k (by omega) vs o w) n h⟩
theorem Pt.mono {w : World} {lo lo' : Nat} {v : Value} {row : List Wt.Nd} (h : Pt w lo v row) (hl : lo' ≤ lo) : Pt w lo' v row := by
  obtain ⟨n, x, sl, e, h⟩ := h
  exact ⟨n, x, sl, e, PtIs.mono (fun b hb => Nat.le_trans hl hb) n h⟩
set_option maxHeartbeats 2000000 in
theorem wref_ff (x y : Int) (s : ByteArray) (r c : Int) (w : World) (V : Wpl.Cl) (q : Bool) (S : ∀ w, Calls Tryz.prog 46 #[.agg #[.int .i64 0, .int .i64 r, .int .i64 c], .int .i64 x, .int .i64 y] w fun e w' => e = .returned (.tuple #[.agg #[.int .i64 V.s, .int .i64 V.r, .int .i64 V.c], .bool q]) ∧ Below w.heap.size w w') :
    Calls Tryz.prog 28 #[.agg #[.int .i64 x, .int .i64 y], .agg #[.string s, .int .i64 r, .int .i64 c, .bool false, .bool false]] w fun e w' => e = .returned (.tuple #[.agg #[.string s, .int .i64 V.r, .int .i64 V.c, .bool false, .bool false], .bool q]) ∧ Below w.heap.size w w' := by
  obtain ⟨vs, vr, vc⟩ := V
  simp only at S ⊢
  have pB := ((AtL.new0 w 50 [.int .i64 x, .int .i64 y]).alloc (.cells #[.string s, .int .i64 r, .int .i64 c, .bool false, .bool false] 28)).alloc (.cells #[.string ⟨#[]⟩, .int .i64 0, .int .i64 0, .bool false, .bool false] 28)
  have pA := (AtL.new1 w (.cells #[.int .i64 x, .int .i64 y] 50) 28 [.string s, .int .i64 r, .int .i64 c, .bool false, .bool false]).alloc (.cells #[.string ⟨#[]⟩, .int .i64 0, .int .i64 0, .bool false, .bool false] 28)
  have pR : AtL (((w.alloc (.cells #[.int .i64 x, .int .i64 y] 50)).alloc (.cells #[.string s, .int .i64 r, .int .i64 c, .bool false, .bool false] 28)).alloc (.cells #[.string ⟨#[]⟩, .int .i64 0, .int .i64 0, .bool false, .bool false] 28)) (w.heap.size + 2) [.string ⟨#[]⟩, .int .i64 0, .int .i64 0, .bool false, .bool false] := AtL.new _ _ (by simp) _
  have hB := ball (ball (ball (Below.refl _ w) (.cells #[.int .i64 x, .int .i64 y] 50)) (.cells #[.string s, .int .i64 r, .int .i64 c, .bool false, .bool false] 28)) (.cells #[.string ⟨#[]⟩, .int .i64 0, .int .i64 0, .bool false, .bool false] 28)
  go_enter Tryz.func28, Tryz.ntmps28
  go_upto_region 1 with fail
  generalize (((w.alloc (.cells #[.int .i64 x, .int .i64 y] 50)).alloc (.cells #[.string s, .int .i64 r, .int .i64 c, .bool false, .bool false] 28)).alloc (.cells #[.string ⟨#[]⟩, .int .i64 0, .int .i64 0, .bool false, .bool false] 28)) = W at *
  obtain ⟨b0, b1, k0, k1⟩ := pB.two
  obtain ⟨a0, a1, a2, a3, a4, f0, f1, f2, f3, f4⟩ := pA.five
  go_wp2_with fail
  refine (S _).mono ?_
  rintro e w1 ⟨rfl, hb⟩
  have qA := AtL.below (by first | exact hb | (simp only [World.size_setCell]; exact hb)) (pA)
  have qR := AtL.below (by first | exact hb | (simp only [World.size_setCell]; exact hb)) (pR)
  have qB := below_end (hB) (by first | exact hb | (simp only [World.size_setCell]; exact hb))
  clear hb pA pB pR hB b0 b1 k0 k1 a0 a1 a2 a3 a4 f0 f1 f2 f3 f4 S
  have sC : AtL (w1.alloc (.cells #[.int .i64 vs, .int .i64 vr, .int .i64 vc] 41)) w1.heap.size [.int .i64 vs, .int .i64 vr, .int .i64 vc] := AtL.new w1 _ rfl _
  have sA := qA.alloc (.cells #[.int .i64 vs, .int .i64 vr, .int .i64 vc] 41)
  have sR := qR.alloc (.cells #[.int .i64 vs, .int .i64 vr, .int .i64 vc] 41)
  have sB := ball qB (.cells #[.int .i64 vs, .int .i64 vr, .int .i64 vc] 41)
  have hlt := qR.lt
  clear qA qR qB
  go_upto_region 6 with fail
  generalize w1.alloc (.cells #[.int .i64 vs, .int .i64 vr, .int .i64 vc] 41) = W1 at *
  generalize w1.heap.size = kc at *
  obtain ⟨z0, z1, z2, g0, g1, g2⟩ := sC.three
  obtain ⟨a0, a1, a2, a3, a4, f0, f1, f2, f3, f4⟩ := sA.five
  have hkc : ¬ kc = w.heap.size + 1 := by omega
  go_cut [] (fun wx => Below w.heap.size w wx ∧ AtL wx (w.heap.size + 2) [.string ⟨#[]⟩, .int .i64 0, .int .i64 0, .bool false, .bool false] ∧ AtL wx (w.heap.size + 1) [.string s, .int .i64 vr, .int .i64 vc, .bool false, .bool false])
  case first =>
    go_region
    go_wp2_with fail
    all_goals go_meet
    all_goals
      clear a0 a1 a2 a3 a4 f0 f1 f2 f3 f4 z0 z1 z2 g0 g1 g2
      exact ⟨((sB.setCell (p := ⟨w.heap.size + 1, 1, none⟩) (by show w.heap.size ≤ w.heap.size + 1; omega) _).setCell (p := ⟨w.heap.size + 1, 2, none⟩) (by show w.heap.size ≤ w.heap.size + 1; omega) _).drew, ((sR.far (j := w.heap.size + 1) (by omega) 1 _).far (j := w.heap.size + 1) (by omega) 2 _).drew, ((sA.set 1 _).set 2 _).drew⟩
  case rest =>
  clear a0 a1 a2 a3 a4 f0 f1 f2 f3 f4 z0 z1 z2 g0 g1 g2 sA sR sB sC
  obtain ⟨tB, tR, tA⟩ := hcut
  obtain ⟨a0, a1, a2, a3, a4, f0, f1, f2, f3, f4⟩ := AtL.five tA
  obtain ⟨r0, r1, r2, r3, r4, h0, h1, h2, h3, h4⟩ := AtL.five tR
  go_wp2
  refine bodyPost_ret (v := .tuple #[.agg #[.string s, .int .i64 vr, .int .i64 vc, .bool false, .bool false], .bool q]) (by simp [results, Tryz.results28, go_sem, r0, r1, r2, r3, r4]) rfl ⟨rfl, ?_⟩
  exact put5_below tB (by omega) _ _ _ _ _
set_option maxHeartbeats 2000000 in
theorem wref_ft (x y : Int) (s : ByteArray) (r c : Int) (w : World) (V : Wpl.Cl) (q : Bool) (S : ∀ w, Calls Tryz.prog 46 #[.agg #[.int .i64 0, .int .i64 r, .int .i64 c], .int .i64 x, .int .i64 0] w fun e w' => e = .returned (.tuple #[.agg #[.int .i64 V.s, .int .i64 V.r, .int .i64 V.c], .bool q]) ∧ Below w.heap.size w w') :
    Calls Tryz.prog 28 #[.agg #[.int .i64 x, .int .i64 y], .agg #[.string s, .int .i64 r, .int .i64 c, .bool false, .bool true]] w fun e w' => e = .returned (.tuple #[.agg #[.string s, .int .i64 V.r, .int .i64 V.c, .bool false, .bool true], .bool q]) ∧ Below w.heap.size w w' := by
  obtain ⟨vs, vr, vc⟩ := V
  simp only at S ⊢
  have pB := ((AtL.new0 w 50 [.int .i64 x, .int .i64 y]).alloc (.cells #[.string s, .int .i64 r, .int .i64 c, .bool false, .bool true] 28)).alloc (.cells #[.string ⟨#[]⟩, .int .i64 0, .int .i64 0, .bool false, .bool false] 28)
  have pA := (AtL.new1 w (.cells #[.int .i64 x, .int .i64 y] 50) 28 [.string s, .int .i64 r, .int .i64 c, .bool false, .bool true]).alloc (.cells #[.string ⟨#[]⟩, .int .i64 0, .int .i64 0, .bool false, .bool false] 28)
  have pR : AtL (((w.alloc (.cells #[.int .i64 x, .int .i64 y] 50)).alloc (.cells #[.string s, .int .i64 r, .int .i64 c, .bool false, .bool true] 28)).alloc (.cells #[.string ⟨#[]⟩, .int .i64 0, .int .i64 0, .bool false, .bool false] 28)) (w.heap.size + 2) [.string ⟨#[]⟩, .int .i64 0, .int .i64 0, .bool false, .bool false] := AtL.new _ _ (by simp) _
  have hB := ball (ball (ball (Below.refl _ w) (.cells #[.int .i64 x, .int .i64 y] 50)) (.cells #[.string s, .int .i64 r, .int .i64 c, .bool false, .bool true] 28)) (.cells #[.string ⟨#[]⟩, .int .i64 0, .int .i64 0, .bool false, .bool false] 28)
  go_enter Tryz.func28, Tryz.ntmps28
  go_upto_region 1 with fail
  generalize (((w.alloc (.cells #[.int .i64 x, .int .i64 y] 50)).alloc (.cells #[.string s, .int .i64 r, .int .i64 c, .bool false, .bool true] 28)).alloc (.cells #[.string ⟨#[]⟩, .int .i64 0, .int .i64 0, .bool false, .bool false] 28)) = W at *
  obtain ⟨b0, b1, k0, k1⟩ := pB.two
  obtain ⟨a0, a1, a2, a3, a4, f0, f1, f2, f3, f4⟩ := pA.five
  go_wp2_with fail
  refine (S _).mono ?_
  rintro e w1 ⟨rfl, hb⟩
  have qA := AtL.below (by first | exact hb | (simp only [World.size_setCell]; exact hb)) ((pA).far (j := w.heap.size) (by omega) 1 (.int .i64 0))
  have qR := AtL.below (by first | exact hb | (simp only [World.size_setCell]; exact hb)) ((pR).far (j := w.heap.size) (by omega) 1 (.int .i64 0))
  have qB := below_end ((hB).setCell (p := ⟨w.heap.size, 1, none⟩) (Nat.le_refl _) (.int .i64 0)) (by first | exact hb | (simp only [World.size_setCell]; exact hb))
  clear hb pA pB pR hB b0 b1 k0 k1 a0 a1 a2 a3 a4 f0 f1 f2 f3 f4 S
  have sC : AtL (w1.alloc (.cells #[.int .i64 vs, .int .i64 vr, .int .i64 vc] 41)) w1.heap.size [.int .i64 vs, .int .i64 vr, .int .i64 vc] := AtL.new w1 _ rfl _
  have sA := qA.alloc (.cells #[.int .i64 vs, .int .i64 vr, .int .i64 vc] 41)
  have sR := qR.alloc (.cells #[.int .i64 vs, .int .i64 vr, .int .i64 vc] 41)
  have sB := ball qB (.cells #[.int .i64 vs, .int .i64 vr, .int .i64 vc] 41)
  have hlt := qR.lt
  clear qA qR qB
  go_upto_region 6 with fail
  generalize w1.alloc (.cells #[.int .i64 vs, .int .i64 vr, .int .i64 vc] 41) = W1 at *
  generalize w1.heap.size = kc at *
  obtain ⟨z0, z1, z2, g0, g1, g2⟩ := sC.three
  obtain ⟨a0, a1, a2, a3, a4, f0, f1, f2, f3, f4⟩ := sA.five
  have hkc : ¬ kc = w.heap.size + 1 := by omega
  go_cut [] (fun wx => Below w.heap.size w wx ∧ AtL wx (w.heap.size + 2) [.string ⟨#[]⟩, .int .i64 0, .int .i64 0, .bool false, .bool false] ∧ AtL wx (w.heap.size + 1) [.string s, .int .i64 vr, .int .i64 vc, .bool false, .bool true])
  case first =>
    go_region
    go_wp2_with fail
    all_goals go_meet
    all_goals
      clear a0 a1 a2 a3 a4 f0 f1 f2 f3 f4 z0 z1 z2 g0 g1 g2
      exact ⟨((sB.setCell (p := ⟨w.heap.size + 1, 1, none⟩) (by show w.heap.size ≤ w.heap.size + 1; omega) _).setCell (p := ⟨w.heap.size + 1, 2, none⟩) (by show w.heap.size ≤ w.heap.size + 1; omega) _).drew, ((sR.far (j := w.heap.size + 1) (by omega) 1 _).far (j := w.heap.size + 1) (by omega) 2 _).drew, ((sA.set 1 _).set 2 _).drew⟩
  case rest =>
  clear a0 a1 a2 a3 a4 f0 f1 f2 f3 f4 z0 z1 z2 g0 g1 g2 sA sR sB sC
  obtain ⟨tB, tR, tA⟩ := hcut
  obtain ⟨a0, a1, a2, a3, a4, f0, f1, f2, f3, f4⟩ := AtL.five tA
  obtain ⟨r0, r1, r2, r3, r4, h0, h1, h2, h3, h4⟩ := AtL.five tR
  go_wp2
  refine bodyPost_ret (v := .tuple #[.agg #[.string s, .int .i64 vr, .int .i64 vc, .bool false, .bool true], .bool q]) (by simp [results, Tryz.results28, go_sem, r0, r1, r2, r3, r4]) rfl ⟨rfl, ?_⟩
  exact put5_below tB (by omega) _ _ _ _ _
set_option maxHeartbeats 2000000 in
theorem wref_tf (x y : Int) (s : ByteArray) (r c : Int) (w : World) (V : Wpl.Cl) (q : Bool) (S : ∀ w, Calls Tryz.prog 46 #[.agg #[.int .i64 0, .int .i64 r, .int .i64 c], .int .i64 0, .int .i64 y] w fun e w' => e = .returned (.tuple #[.agg #[.int .i64 V.s, .int .i64 V.r, .int .i64 V.c], .bool q]) ∧ Below w.heap.size w w') :
    Calls Tryz.prog 28 #[.agg #[.int .i64 x, .int .i64 y], .agg #[.string s, .int .i64 r, .int .i64 c, .bool true, .bool false]] w fun e w' => e = .returned (.tuple #[.agg #[.string s, .int .i64 V.r, .int .i64 V.c, .bool true, .bool false], .bool q]) ∧ Below w.heap.size w w' := by
  obtain ⟨vs, vr, vc⟩ := V
  simp only at S ⊢
  have pB := ((AtL.new0 w 50 [.int .i64 x, .int .i64 y]).alloc (.cells #[.string s, .int .i64 r, .int .i64 c, .bool true, .bool false] 28)).alloc (.cells #[.string ⟨#[]⟩, .int .i64 0, .int .i64 0, .bool false, .bool false] 28)
  have pA := (AtL.new1 w (.cells #[.int .i64 x, .int .i64 y] 50) 28 [.string s, .int .i64 r, .int .i64 c, .bool true, .bool false]).alloc (.cells #[.string ⟨#[]⟩, .int .i64 0, .int .i64 0, .bool false, .bool false] 28)
  have pR : AtL (((w.alloc (.cells #[.int .i64 x, .int .i64 y] 50)).alloc (.cells #[.string s, .int .i64 r, .int .i64 c, .bool true, .bool false] 28)).alloc (.cells #[.string ⟨#[]⟩, .int .i64 0, .int .i64 0, .bool false, .bool false] 28)) (w.heap.size + 2) [.string ⟨#[]⟩, .int .i64 0, .int .i64 0, .bool false, .bool false] := AtL.new _ _ (by simp) _
  have hB := ball (ball (ball (Below.refl _ w) (.cells #[.int .i64 x, .int .i64 y] 50)) (.cells #[.string s, .int .i64 r, .int .i64 c, .bool true, .bool false] 28)) (.cells #[.string ⟨#[]⟩, .int .i64 0, .int .i64 0, .bool false, .bool false] 28)
  go_enter Tryz.func28, Tryz.ntmps28
  go_upto_region 1 with fail
  generalize (((w.alloc (.cells #[.int .i64 x, .int .i64 y] 50)).alloc (.cells #[.string s, .int .i64 r, .int .i64 c, .bool true, .bool false] 28)).alloc (.cells #[.string ⟨#[]⟩, .int .i64 0, .int .i64 0, .bool false, .bool false] 28)) = W at *
  obtain ⟨b0, b1, k0, k1⟩ := pB.two
  obtain ⟨a0, a1, a2, a3, a4, f0, f1, f2, f3, f4⟩ := pA.five
  go_wp2_with fail
  refine (S _).mono ?_
  rintro e w1 ⟨rfl, hb⟩
  have qA := AtL.below (by first | exact hb | (simp only [World.size_setCell]; exact hb)) ((pA).far (j := w.heap.size) (by omega) 0 (.int .i64 0))
  have qR := AtL.below (by first | exact hb | (simp only [World.size_setCell]; exact hb)) ((pR).far (j := w.heap.size) (by omega) 0 (.int .i64 0))
  have qB := below_end ((hB).setCell (p := ⟨w.heap.size, 0, none⟩) (Nat.le_refl _) (.int .i64 0)) (by first | exact hb | (simp only [World.size_setCell]; exact hb))
  clear hb pA pB pR hB b0 b1 k0 k1 a0 a1 a2 a3 a4 f0 f1 f2 f3 f4 S
  have sC : AtL (w1.alloc (.cells #[.int .i64 vs, .int .i64 vr, .int .i64 vc] 41)) w1.heap.size [.int .i64 vs, .int .i64 vr, .int .i64 vc] := AtL.new w1 _ rfl _
  have sA := qA.alloc (.cells #[.int .i64 vs, .int .i64 vr, .int .i64 vc] 41)
  have sR := qR.alloc (.cells #[.int .i64 vs, .int .i64 vr, .int .i64 vc] 41)
  have sB := ball qB (.cells #[.int .i64 vs, .int .i64 vr, .int .i64 vc] 41)
  have hlt := qR.lt
  clear qA qR qB
  go_upto_region 6 with fail
  generalize w1.alloc (.cells #[.int .i64 vs, .int .i64 vr, .int .i64 vc] 41) = W1 at *
  generalize w1.heap.size = kc at *
  obtain ⟨z0, z1, z2, g0, g1, g2⟩ := sC.three
  obtain ⟨a0, a1, a2, a3, a4, f0, f1, f2, f3, f4⟩ := sA.five
  have hkc : ¬ kc = w.heap.size + 1 := by omega
  go_cut [] (fun wx => Below w.heap.size w wx ∧ AtL wx (w.heap.size + 2) [.string ⟨#[]⟩, .int .i64 0, .int .i64 0, .bool false, .bool false] ∧ AtL wx (w.heap.size + 1) [.string s, .int .i64 vr, .int .i64 vc, .bool true, .bool false])
  case first =>
    go_region
    go_wp2_with fail
    all_goals go_meet
    all_goals
      clear a0 a1 a2 a3 a4 f0 f1 f2 f3 f4 z0 z1 z2 g0 g1 g2
      exact ⟨((sB.setCell (p := ⟨w.heap.size + 1, 1, none⟩) (by show w.heap.size ≤ w.heap.size + 1; omega) _).setCell (p := ⟨w.heap.size + 1, 2, none⟩) (by show w.heap.size ≤ w.heap.size + 1; omega) _).drew, ((sR.far (j := w.heap.size + 1) (by omega) 1 _).far (j := w.heap.size + 1) (by omega) 2 _).drew, ((sA.set 1 _).set 2 _).drew⟩
  case rest =>
  clear a0 a1 a2 a3 a4 f0 f1 f2 f3 f4 z0 z1 z2 g0 g1 g2 sA sR sB sC
  obtain ⟨tB, tR, tA⟩ := hcut
  obtain ⟨a0, a1, a2, a3, a4, f0, f1, f2, f3, f4⟩ := AtL.five tA
  obtain ⟨r0, r1, r2, r3, r4, h0, h1, h2, h3, h4⟩ := AtL.five tR
  go_wp2
  refine bodyPost_ret (v := .tuple #[.agg #[.string s, .int .i64 vr, .int .i64 vc, .bool true, .bool false], .bool q]) (by simp [results, Tryz.results28, go_sem, r0, r1, r2, r3, r4]) rfl ⟨rfl, ?_⟩
  exact put5_below tB (by omega) _ _ _ _ _
set_option maxHeartbeats 2000000 in
theorem wref_tt (x y : Int) (s : ByteArray) (r c : Int) (w : World) (V : Wpl.Cl) (q : Bool) (S : ∀ w, Calls Tryz.prog 46 #[.agg #[.int .i64 0, .int .i64 r, .int .i64 c], .int .i64 0, .int .i64 0] w fun e w' => e = .returned (.tuple #[.agg #[.int .i64 V.s, .int .i64 V.r, .int .i64 V.c], .bool q]) ∧ Below w.heap.size w w') :
    Calls Tryz.prog 28 #[.agg #[.int .i64 x, .int .i64 y], .agg #[.string s, .int .i64 r, .int .i64 c, .bool true, .bool true]] w fun e w' => e = .returned (.tuple #[.agg #[.string s, .int .i64 V.r, .int .i64 V.c, .bool true, .bool true], .bool q]) ∧ Below w.heap.size w w' := by
  obtain ⟨vs, vr, vc⟩ := V
  simp only at S ⊢
  have pB := ((AtL.new0 w 50 [.int .i64 x, .int .i64 y]).alloc (.cells #[.string s, .int .i64 r, .int .i64 c, .bool true, .bool true] 28)).alloc (.cells #[.string ⟨#[]⟩, .int .i64 0, .int .i64 0, .bool false, .bool false] 28)
  have pA := (AtL.new1 w (.cells #[.int .i64 x, .int .i64 y] 50) 28 [.string s, .int .i64 r, .int .i64 c, .bool true, .bool true]).alloc (.cells #[.string ⟨#[]⟩, .int .i64 0, .int .i64 0, .bool false, .bool false] 28)
  have pR : AtL (((w.alloc (.cells #[.int .i64 x, .int .i64 y] 50)).alloc (.cells #[.string s, .int .i64 r, .int .i64 c, .bool true, .bool true] 28)).alloc (.cells #[.string ⟨#[]⟩, .int .i64 0, .int .i64 0, .bool false, .bool false] 28)) (w.heap.size + 2) [.string ⟨#[]⟩, .int .i64 0, .int .i64 0, .bool false, .bool false] := AtL.new _ _ (by simp) _
  have hB := ball (ball (ball (Below.refl _ w) (.cells #[.int .i64 x, .int .i64 y] 50)) (.cells #[.string s, .int .i64 r, .int .i64 c, .bool true, .bool true] 28)) (.cells #[.string ⟨#[]⟩, .int .i64 0, .int .i64 0, .bool false, .bool false] 28)
  go_enter Tryz.func28, Tryz.ntmps28
  go_upto_region 1 with fail
  generalize (((w.alloc (.cells #[.int .i64 x, .int .i64 y] 50)).alloc (.cells #[.string s, .int .i64 r, .int .i64 c, .bool true, .bool true] 28)).alloc (.cells #[.string ⟨#[]⟩, .int .i64 0, .int .i64 0, .bool false, .bool false] 28)) = W at *
  obtain ⟨b0, b1, k0, k1⟩ := pB.two
  obtain ⟨a0, a1, a2, a3, a4, f0, f1, f2, f3, f4⟩ := pA.five
  go_wp2_with fail
  refine (S _).mono ?_
  rintro e w1 ⟨rfl, hb⟩
  have qA := AtL.below (by first | exact hb | (simp only [World.size_setCell]; exact hb)) (((pA).far (j := w.heap.size) (by omega) 0 (.int .i64 0)).far (j := w.heap.size) (by omega) 1 (.int .i64 0))
  have qR := AtL.below (by first | exact hb | (simp only [World.size_setCell]; exact hb)) (((pR).far (j := w.heap.size) (by omega) 0 (.int .i64 0)).far (j := w.heap.size) (by omega) 1 (.int .i64 0))
  have qB := below_end (((hB).setCell (p := ⟨w.heap.size, 0, none⟩) (Nat.le_refl _) (.int .i64 0)).setCell (p := ⟨w.heap.size, 1, none⟩) (Nat.le_refl _) (.int .i64 0)) (by first | exact hb | (simp only [World.size_setCell]; exact hb))
  clear hb pA pB pR hB b0 b1 k0 k1 a0 a1 a2 a3 a4 f0 f1 f2 f3 f4 S
  have sC : AtL (w1.alloc (.cells #[.int .i64 vs, .int .i64 vr, .int .i64 vc] 41)) w1.heap.size [.int .i64 vs, .int .i64 vr, .int .i64 vc] := AtL.new w1 _ rfl _
  have sA := qA.alloc (.cells #[.int .i64 vs, .int .i64 vr, .int .i64 vc] 41)
  have sR := qR.alloc (.cells #[.int .i64 vs, .int .i64 vr, .int .i64 vc] 41)
  have sB := ball qB (.cells #[.int .i64 vs, .int .i64 vr, .int .i64 vc] 41)
  have hlt := qR.lt
  clear qA qR qB
  go_upto_region 6 with fail
  generalize w1.alloc (.cells #[.int .i64 vs, .int .i64 vr, .int .i64 vc] 41) = W1 at *
  generalize w1.heap.size = kc at *
  obtain ⟨z0, z1, z2, g0, g1, g2⟩ := sC.three
  obtain ⟨a0, a1, a2, a3, a4, f0, f1, f2, f3, f4⟩ := sA.five
  have hkc : ¬ kc = w.heap.size + 1 := by omega
  go_cut [] (fun wx => Below w.heap.size w wx ∧ AtL wx (w.heap.size + 2) [.string ⟨#[]⟩, .int .i64 0, .int .i64 0, .bool false, .bool false] ∧ AtL wx (w.heap.size + 1) [.string s, .int .i64 vr, .int .i64 vc, .bool true, .bool true])
  case first =>
    go_region
    go_wp2_with fail
    all_goals go_meet
    all_goals
      clear a0 a1 a2 a3 a4 f0 f1 f2 f3 f4 z0 z1 z2 g0 g1 g2
      exact ⟨((sB.setCell (p := ⟨w.heap.size + 1, 1, none⟩) (by show w.heap.size ≤ w.heap.size + 1; omega) _).setCell (p := ⟨w.heap.size + 1, 2, none⟩) (by show w.heap.size ≤ w.heap.size + 1; omega) _).drew, ((sR.far (j := w.heap.size + 1) (by omega) 1 _).far (j := w.heap.size + 1) (by omega) 2 _).drew, ((sA.set 1 _).set 2 _).drew⟩
  case rest =>
  clear a0 a1 a2 a3 a4 f0 f1 f2 f3 f4 z0 z1 z2 g0 g1 g2 sA sR sB sC
  obtain ⟨tB, tR, tA⟩ := hcut
  obtain ⟨a0, a1, a2, a3, a4, f0, f1, f2, f3, f4⟩ := AtL.five tA
  obtain ⟨r0, r1, r2, r3, r4, h0, h1, h2, h3, h4⟩ := AtL.five tR
  go_wp2
  refine bodyPost_ret (v := .tuple #[.agg #[.string s, .int .i64 vr, .int .i64 vc, .bool true, .bool true], .bool q]) (by simp [results, Tryz.results28, go_sem, r0, r1, r2, r3, r4]) rfl ⟨rfl, ?_⟩
  exact put5_below tB (by omega) _ _ _ _ _
theorem wref_any (x y : Int) (a : Wt.Rf) (w : World) : Calls Tryz.prog 28 #[.agg #[.int .i64 x, .int .i64 y], .agg (rf5 a).toArray] w fun e w' => e = .returned (.tuple #[.agg (rf5 (mvR x y a)).toArray, .bool (okR x y a)]) ∧ Below w.heap.size w w' := by
  obtain ⟨s, r, c, fr, fc⟩ := a
  have S := fun w => shift_any 0 r c (mvX x fr) (mvX y fc) w
  cases fr <;> cases fc
  · exact wref_ff x y s r c w _ _ S
  · exact wref_ft x y s r c w _ _ S
  · exact wref_tf x y s r c w _ _ S
  · exact wref_tt x y s r c w _ _ S
def furB (n x : Int) (fx : Bool) (m : Int) : Bool := decide (0 ≤ n + mvX x fx) && decide (n + mvX x fx < m)
def furN (n x : Int) (fx : Bool) (m : Int) : Int := if furB n x fx m then n + mvX x fx else 0
theorem rfur_any (n x m : Int) (fx : Bool) (w : World) (h0 : 0 ≤ n) (h1 : n < m) (hm : m ≤ 65536) (hx1 : -9223372036854775808 ≤ x) (hx2 : x ≤ 9223372036854775807) :
    Calls Tryz.prog 31 #[.int .i64 n, .int .i64 x, .bool fx, .int .i64 m] w fun e w' => e = .returned (.tuple #[.int .i64 (furN n x fx m), .bool (furB n x fx m)]) ∧ w = w' := by
  cases fx
  · rw [show furN n x false m = if furB n x false m then n + x else 0 by simp [furN, mvX], show furB n x false m = (decide (0 ≤ n + x) && decide (n + x < m)) by simp [furB, mvX]]
    by_cases a : x < -n
    · rw [decide_eq_false (p := 0 ≤ n + x) (by omega)]
      go_enter Tryz.func31, Tryz.ntmps31
      go_wp2
      go_ret2
      exact ⟨rfl, rfl⟩
    · by_cases b : m - n ≤ x
      · rw [decide_eq_false (p := n + x < m) (by omega), Bool.and_false]
        go_enter Tryz.func31, Tryz.ntmps31
        go_wp2
        go_ret2
        exact ⟨rfl, rfl⟩
      · rw [decide_eq_true (p := 0 ≤ n + x) (by omega), decide_eq_true (p := n + x < m) (by omega)]
        go_enter Tryz.func31, Tryz.ntmps31
        go_wp2
        go_ret2
        exact ⟨rfl, rfl⟩
  · rw [show furN n x true m = if furB n x true m then n else 0 by simp [furN, mvX], show furB n x true m = true by simp [furB, mvX]; omega]
    go_enter Tryz.func31, Tryz.ntmps31
    go_wp2
    go_ret2
    exact ⟨rfl, rfl⟩
def rmvR (x y : Int) (a : Wt.Rf) : Wt.Rf := ⟨a.s, furN a.r x a.fr 65536, furN a.c y a.fc 256, a.fr, a.fc⟩
def rokR (x y : Int) (a : Wt.Rf) : Bool := furB a.r x a.fr 65536 && furB a.c y a.fc 256
theorem rokR_eq {x y : Int} {a : Wt.Rf} (h : Wt.rfOk a = true) : rokR x y a = okR x y a := by
  have hr := rfOk_rng h
  rw [Bool.eq_iff_iff, okR_iff]
  unfold rokR furB
  simp only [Bool.and_eq_true, decide_eq_true_eq]
  omega
theorem rmvR_eq {x y : Int} {a : Wt.Rf} (h : Wt.rfOk a = true) (hk : okR x y a = true) : rmvR x y a = mvR x y a := by
  rw [mvR_ok hk]
  rw [← rokR_eq h] at hk
  unfold rokR at hk
  rw [Bool.and_eq_true] at hk
  unfold rmvR furN
  rw [if_pos hk.1, if_pos hk.2]
set_option maxHeartbeats 2000000 in
theorem rref_any (x y : Int) (a : Wt.Rf) (w : World) (h : Wt.rfOk a = true) (hx : -9223372036854775808 ≤ x ∧ x ≤ 9223372036854775807) (hy : -9223372036854775808 ≤ y ∧ y ≤ 9223372036854775807) :
    Calls Tryz.prog 17 #[.agg (rf5 a).toArray, .int .i64 x, .int .i64 y] w fun e w' => e = .returned (.tuple #[.agg (rf5 (rmvR x y a)).toArray, .bool (rokR x y a)]) ∧ Below w.heap.size w w' := by
  obtain ⟨r0, r1, c0, c1⟩ := rfOk_rng h
  clear h
  obtain ⟨s, r, c, fr, fc⟩ := a
  unfold rmvR rokR
  simp only at r0 r1 c0 c1 ⊢
  have S1 := fun w => rfur_any r x 65536 fr w r0 r1 (by omega) hx.1 hx.2
  have S2 := fun w => rfur_any c y 256 fc w c0 c1 (by omega) hy.1 hy.2
  generalize furN r x fr 65536 = vr at *
  generalize furB r x fr 65536 = q1 at *
  generalize furN c y fc 256 = vc at *
  generalize furB c y fc 256 = q2 at *
  clear hx hy r0 r1 c0 c1
  show Calls _ _ #[.agg #[.string s, .int .i64 r, .int .i64 c, .bool fr, .bool fc], .int .i64 x, .int .i64 y] _ fun e w' => e = .returned (.tuple #[.agg #[.string s, .int .i64 vr, .int .i64 vc, .bool fr, .bool fc], .bool (q1 && q2)]) ∧ _
  have pA := (AtL.new0 w 28 [.string s, .int .i64 r, .int .i64 c, .bool fr, .bool fc]).alloc (.cells #[.string ⟨#[]⟩, .int .i64 0, .int .i64 0, .bool false, .bool false] 28)
  have pR := AtL.new1 w (.cells #[.string s, .int .i64 r, .int .i64 c, .bool fr, .bool fc] 28) 28 [.string ⟨#[]⟩, .int .i64 0, .int .i64 0, .bool false, .bool false]
  have hB := ball (ball (Below.refl _ w) (.cells #[.string s, .int .i64 r, .int .i64 c, .bool fr, .bool fc] 28)) (.cells #[.string ⟨#[]⟩, .int .i64 0, .int .i64 0, .bool false, .bool false] 28)
  go_enter Tryz.func17, Tryz.ntmps17
  go_upto_region 1 with fail
  generalize ((w.alloc (.cells #[.string s, .int .i64 r, .int .i64 c, .bool fr, .bool fc] 28)).alloc (.cells #[.string ⟨#[]⟩, .int .i64 0, .int .i64 0, .bool false, .bool false] 28)) = W at *
  obtain ⟨a0, a1, a2, a3, a4, f0, f1, f2, f3, f4⟩ := pA.five
  go_wp2_with fail
  refine (S1 _).mono ?_
  rintro e w1 ⟨rfl, rfl⟩
  go_wp2_with fail
  refine (S2 _).mono ?_
  rintro e w1 ⟨rfl, rfl⟩
  clear S1 S2
  have sA : AtL ((W.setCell ⟨w.heap.size, 1, none⟩ (.int .i64 vr)).setCell ⟨w.heap.size, 2, none⟩ (.int .i64 vc)) w.heap.size [.string s, .int .i64 vr, .int .i64 vc, .bool fr, .bool fc] := (pA.set 1 _).set 2 _
  have sR : AtL ((W.setCell ⟨w.heap.size, 1, none⟩ (.int .i64 vr)).setCell ⟨w.heap.size, 2, none⟩ (.int .i64 vc)) (w.heap.size + 1) [.string ⟨#[]⟩, .int .i64 0, .int .i64 0, .bool false, .bool false] := (pR.far (j := w.heap.size) (by omega) 1 _).far (j := w.heap.size) (by omega) 2 _
  have sB : Below w.heap.size w ((W.setCell ⟨w.heap.size, 1, none⟩ (.int .i64 vr)).setCell ⟨w.heap.size, 2, none⟩ (.int .i64 vc)) := (hB.setCell (p := ⟨w.heap.size, 1, none⟩) (Nat.le_refl _) _).setCell (p := ⟨w.heap.size, 2, none⟩) (Nat.le_refl _) _
  clear pA pR hB
  go_upto_region 5 with fail
  clear a0 a1 a2 a3 a4 f0 f1 f2 f3 f4
  generalize ((W.setCell ⟨w.heap.size, 1, none⟩ (.int .i64 vr)).setCell ⟨w.heap.size, 2, none⟩ (.int .i64 vc)) = W2 at *
  obtain ⟨a0, a1, a2, a3, a4, f0, f1, f2, f3, f4⟩ := AtL.five sA
  obtain ⟨r0, r1, r2, r3, r4, h0, h1, h2, h3, h4⟩ := AtL.five sR
  cases q1
  all_goals
    go_wp2
    refine bodyPost_ret (v := .tuple #[.agg #[.string s, .int .i64 vr, .int .i64 vc, .bool fr, .bool fc], .bool (_ && q2)]) (by simp [results, Tryz.results17, go_sem, r0, r1, r2, r3, r4]) rfl ⟨rfl, ?_⟩
    exact put5_below sB (by omega) _ _ _ _ _
theorem one21 (x : Wt.Nd) (sl : Value) (h : sl.oneCell' = true) : (pt21 x sl).toArray.all (·.oneCell') = true := all_oneCell_toArray (fun v hv => by
  unfold pt21 at hv
  rcases List.mem_append.1 hv with h1 | h1
  · exact one20l x v h1
  · simp only [List.mem_cons, List.not_mem_nil, or_false] at h1
    rw [h1]; exact h)
def leafN (v : Wt.Vl) : Wt.Nd := ⟨1, v, 0, ⟨#[]⟩, 0, Wt.r0, Wt.r0⟩
set_option maxHeartbeats 2000000 in
set_option maxRecDepth 100000 in
theorem const_any (v : Wt.Vl) (w : World) : Calls Tryz.prog 196 #[vlV v] w fun e w' => e = .returned (ptV (leafN v) (.slice none 0 0)) ∧ Below w.heap.size w w' := by
  obtain ⟨vk, vn, vd, vt, vb, vf⟩ := v
  show Calls _ _ #[.agg #[.int .i64 vk, .int .i64 vn, .int .i64 vd, .string vt, .bool vb, .int .i64 vf]] _ _
  have pR : AtL ((w.alloc (.cells #[.int .i64 vk, .int .i64 vn, .int .i64 vd, .string vt, .bool vb, .int .i64 vf] 26)).alloc (.cells #[.int .i64 0, .int .i64 0, .int .i64 0, .int .i64 0, .string ⟨#[]⟩, .bool false, .int .i64 0, .int .i64 0, .string ⟨#[]⟩, .int .i64 0, .string ⟨#[]⟩, .int .i64 0, .int .i64 0, .bool false, .bool false, .string ⟨#[]⟩, .int .i64 0, .int .i64 0, .bool false, .bool false, .slice none 0 0] 78)) (w.heap.size + 1) (pt21 (bare 0) (.slice none 0 0)) := AtL.new1 w _ _ _
  have hth : World.there ((w.alloc (.cells #[.int .i64 vk, .int .i64 vn, .int .i64 vd, .string vt, .bool vb, .int .i64 vf] 26)).alloc (.cells #[.int .i64 0, .int .i64 0, .int .i64 0, .int .i64 0, .string ⟨#[]⟩, .bool false, .int .i64 0, .int .i64 0, .string ⟨#[]⟩, .int .i64 0, .string ⟨#[]⟩, .int .i64 0, .int .i64 0, .bool false, .bool false, .string ⟨#[]⟩, .int .i64 0, .int .i64 0, .bool false, .bool false, .slice none 0 0] 78)) (w.heap.size + 1) 0 (pt21 ⟨1, ⟨vk, vn, vd, vt, vb, vf⟩, 0, ⟨#[]⟩, 0, Wt.r0, Wt.r0⟩ (.slice none 0 0)).toArray.size := pR.there
  have pR2 : AtL (((w.alloc (.cells #[.int .i64 vk, .int .i64 vn, .int .i64 vd, .string vt, .bool vb, .int .i64 vf] 26)).alloc (.cells #[.int .i64 0, .int .i64 0, .int .i64 0, .int .i64 0, .string ⟨#[]⟩, .bool false, .int .i64 0, .int .i64 0, .string ⟨#[]⟩, .int .i64 0, .string ⟨#[]⟩, .int .i64 0, .int .i64 0, .bool false, .bool false, .string ⟨#[]⟩, .int .i64 0, .int .i64 0, .bool false, .bool false, .slice none 0 0] 78)).setCells (w.heap.size + 1) 0 (pt21 ⟨1, ⟨vk, vn, vd, vt, vb, vf⟩, 0, ⟨#[]⟩, 0, Wt.r0, Wt.r0⟩ (.slice none 0 0))) (w.heap.size + 1) (pt21 ⟨1, ⟨vk, vn, vd, vt, vb, vf⟩, 0, ⟨#[]⟩, 0, Wt.r0, Wt.r0⟩ (.slice none 0 0)) := pR.setAll rfl
  have hB := bset (ball (ball (Below.refl _ w) (.cells #[.int .i64 vk, .int .i64 vn, .int .i64 vd, .string vt, .bool vb, .int .i64 vf] 26)) (.cells #[.int .i64 0, .int .i64 0, .int .i64 0, .int .i64 0, .string ⟨#[]⟩, .bool false, .int .i64 0, .int .i64 0, .string ⟨#[]⟩, .int .i64 0, .string ⟨#[]⟩, .int .i64 0, .int .i64 0, .bool false, .bool false, .string ⟨#[]⟩, .int .i64 0, .int .i64 0, .bool false, .bool false, .slice none 0 0] 78)) (Nat.le_succ w.heap.size) (pt21 ⟨1, ⟨vk, vn, vd, vt, vb, vf⟩, 0, ⟨#[]⟩, 0, Wt.r0, Wt.r0⟩ (.slice none 0 0)) 0
  go_enter Tryz.func196, Tryz.ntmps196
  go_upto_region 1 with fail
  go_wp2_with ((with_reducible refine wpList_store_mid ?_ 78 (.tmp 2) (.tmp 5) ?_ (w.heap.size + 1) 0 (pt21 ⟨1, ⟨vk, vn, vd, vt, vb, vf⟩, 0, ⟨#[]⟩, 0, Wt.r0, Wt.r0⟩ (.slice none 0 0)).toArray ?_ ?_ ?_ ?_ ?_ ?_); rfl; rfl; rfl; rfl; exact hth; kernel_rfl; exact one21 _ _ rfl)
  refine bodyPost_ret (results_cell rfl _ _ (w.heap.size + 1) (pt21 ⟨1, ⟨vk, vn, vd, vt, vb, vf⟩, 0, ⟨#[]⟩, 0, Wt.r0, Wt.r0⟩ (.slice none 0 0)) _ rfl pR2.range Tryz.underlying78 rfl (by kernel_rfl)) rfl ⟨rfl, hB⟩
end Go.Proofs.YthofehcchickeaaGreatDoor
