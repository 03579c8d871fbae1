/- TWordC, TPart. -/
import Derived.Test.YtalkiggclckcdaaGreatDoorQ16
namespace Go.Proofs.YtalkiggclckcdaaGreatDoor
open Go.RowKit Go.Shelf
set_option linter.unusedVariables false
theorem index_any (l : List UInt8) : decide (0 ≤ Lib.indexByte l 36) = l.any (fun c => c == 36) := by
  induction l with
  | nil => rfl
  | cons b t ih =>
    have hg := Lib.indexByte_ge t 36
    rw [List.any_cons, ← ih]
    have e : Lib.indexByte (b :: t) 36 = if b == 36 then 0 else if Lib.indexByte t 36 == -1 then -1 else Lib.indexByte t 36 + 1 := rfl
    rw [e]
    clear e
    by_cases h : b = 36
    · subst h; simp
    · rw [if_neg (by simpa using h)]
      have h' : (b == 36) = false := by simp [h]
      rw [h', Bool.false_or]
      by_cases h2 : Lib.indexByte t 36 = -1
      · rw [h2]; rfl
      · rw [if_neg (by simpa using h2), decide_eq_true (by omega), decide_eq_true (by omega)]
set_option maxRecDepth 100000 in
theorem contD_any (l : List UInt8) (w : World) : Calls Tryz.prog 157 #[.string ⟨l.toArray⟩, .string ⟨#[36]⟩] w fun e w' => e = .returned (.bool (l.any (fun c => c == 36))) ∧ w = w' := by
  have I := fun w => sindexD_any l w
  have J : ∀ w : World, Calls Tryz.prog 80 #[.string ⟨l.toArray⟩, .string ⟨#[36]⟩] w fun e w' => e = .returned (.int .i64 (Lib.indexByte l 36)) ∧ w = w' := by
    intro w
    go_enter Tryz.func80, Tryz.ntmps80
    go_wp2_with fail
    refine (I _).mono ?_
    rintro e w1 ⟨rfl, rfl⟩
    go_wp2
    go_ret
    exact ⟨rfl, rfl⟩
  have E : Hid (decide (0 ≤ Lib.indexByte l 36) = l.any (fun c => c == 36)) := index_any l
  rw [← E.out]
  clear I E
  generalize Lib.indexByte l 36 = n at *
  go_enter Tryz.func157, Tryz.ntmps157
  go_wp2_with fail
  refine (J _).mono ?_
  rintro e w1 ⟨rfl, rfl⟩
  go_wp2
  go_ret
  exact ⟨rfl, rfl⟩
def rfOf (l : List UInt8) : Wt.Rf := ⟨⟨#[]⟩, Wpl.rdR (undol l), Wpl.rdC (undol l), (if dol l then l.drop 1 else l).any (fun c => c == 36), dol l⟩
def rw1 (l : List UInt8) : Option Wt.Rf := if Wpl.rdOk (undol l) = true then (if cw (rfOf l) = l then some (rfOf l) else none) else none
def RwV (r : Option Wt.Rf) : Value := match r with
  | some a => .tuple #[rfV a, .bool true]
  | none => .tuple #[rfV Wt.r0, .bool false]
theorem rd_bd {l : List UInt8} (h : Wpl.rdOk l = true) : 0 ≤ Wpl.rdR l ∧ Wpl.rdR l < 65536 := by
  unfold Wpl.rdR
  rw [if_pos h]
  have := of_decide_eq_true h
  omega
set_option maxHeartbeats 4000000 in
set_option maxRecDepth 100000 in
theorem readWord_any (l : List UInt8) (w : World) (hm : MaxAt w) (htab : Lib.TabIs Tryz.prog w "internal/strconv.uint64pow10" .u64 Lib.pow10Tab) (hl : l.length ≤ 1024) :
    Calls Tryz.prog 149 #[.string ⟨l.toArray⟩] w fun e w' => e = .returned (RwV (rw1 l)) ∧ Below w.heap.size w w' := by
  have TB := Lib.tabBelow_of_tabIs htab
  clear htab
  have Z := AtL.new0 w 35 [.string ⟨#[]⟩, .int .i64 0, .int .i64 0, .bool false, .bool false]
  have hB0 := ball (Below.refl _ w) (.cells #[.string ⟨#[]⟩, .int .i64 0, .int .i64 0, .bool false, .bool false] 35)
  have C1 := replD_any ⟨l.toArray⟩ _ (hm.below hB0) (by show l.length ≤ _; omega)
  have hu : (undol l).length ≤ l.length := List.length_filter_le _ _
  have C2 := fun w => x3_read_any (undol l) w (by omega)
  have C3 := fun w => hasD_any l w (by omega)
  have C4 := fun w => trimD_any l w (by omega)
  have C5 := fun w => contD_any (if dol l then l.drop 1 else l) w
  have bd := @rd_bd (undol l)
  have C6 := fun w h0 h1 h => cellWord_any (rfOf l) w h0 h1 h
  have e1 : (⟨l.toArray⟩ : ByteArray).data.toList = l := rfl
  rw [e1] at C1
  unfold rw1
  obtain ⟨W, hW⟩ : ∃ W, cw (rfOf l) = W := ⟨_, rfl⟩
  rw [hW] at C6 ⊢
  clear hW e1
  unfold rfOf at C6 ⊢
  generalize undol l = u at *
  generalize (if dol l then l.drop 1 else l) = v at *
  generalize dol l = d at *
  generalize v.any (fun c => c == 36) = f at *
  generalize Wpl.rdR u = r at *
  generalize Wpl.rdC u = c at *
  generalize Wpl.rdOk u = q at *
  simp only [rfV, rf5] at C6
  cases q
  · rw [if_neg (by decide)]
    clear C6 bd
    go_enter Tryz.func149, Tryz.ntmps149
    go_wp2_with fail
    refine C1.mono ?_
    rintro e w1 ⟨rfl, hb⟩
    have Z1 := AtL.below hb Z
    have hB1 := below_end hB0 hb
    clear hb Z hB0
    go_wp2_with fail
    refine (C2 _).mono ?_
    rintro e w2 ⟨rfl, hb⟩
    have Z2 := AtL.below hb Z1
    have hB2 := below_end hB1 hb
    clear hb Z1 hB1
    go_wp2_with fail
    refine (C3 _).mono ?_
    rintro e w3 ⟨rfl, rfl⟩
    go_wp2_with fail
    refine (C4 _).mono ?_
    rintro e w3 ⟨rfl, rfl⟩
    go_wp2_with fail
    refine (C5 _).mono ?_
    rintro e w3 ⟨rfl, rfl⟩
    obtain ⟨a0, a1, a2, a3, a4, g0, g1, g2, g3, g4⟩ := Z2.five
    have hlt := Z2.lt
    have hne : ¬ w.heap.size = w2.heap.size := by omega
    have hne2 : ¬ w2.heap.size = w.heap.size := by omega
    go_wp2
    refine bodyPost_ret (v := .tuple #[rfV Wt.r0, .bool false]) (by simp [results, Tryz.results149, go_sem, rfV, rf5, Wt.r0, a0, a1, a2, a3, a4, hlt]) rfl ⟨rfl, ?_⟩
    exact by with_reducible repeat (first | exact hB2 | refine ball ?_ _ | refine Below.setCell ?_ (by first | (simp; done) | (simp; omega) | omega) _ | refine Below.drew ?_ | refine below_drewN ?_ _)
  · obtain ⟨b0, b1⟩ := bd rfl
    rw [if_pos rfl]
    replace C6 := fun w h => C6 w b0 b1 h
    by_cases hw : W = l
    · rw [if_pos hw]
      subst hw
      go_enter Tryz.func149, Tryz.ntmps149
      go_wp2_with fail
      refine C1.mono ?_
      rintro e w1 ⟨rfl, hb⟩
      have Z1 := AtL.below hb Z
      have hB1 := below_end hB0 hb
      clear hb Z hB0
      go_wp2_with fail
      refine (C2 _).mono ?_
      rintro e w2 ⟨rfl, hb⟩
      have Z2 := AtL.below hb Z1
      have hB2 := below_end hB1 hb
      clear hb Z1 hB1
      go_wp2_with fail
      refine (C3 _).mono ?_
      rintro e w3 ⟨rfl, rfl⟩
      go_wp2_with fail
      refine (C4 _).mono ?_
      rintro e w3 ⟨rfl, rfl⟩
      go_wp2_with fail
      refine (C5 _).mono ?_
      rintro e w3 ⟨rfl, rfl⟩
      have hB3 := ball hB2 (.cells #[.string ⟨#[]⟩, .int .i64 r, .int .i64 c, .bool f, .bool d] 35)
      have hT := (TB.on hB3).here
      have Z3 := AtL.alloc Z2 (.cells #[.string ⟨#[]⟩, .int .i64 r, .int .i64 c, .bool f, .bool d] 35)
      have Y3 := AtL.new0 w2 35 [.string ⟨#[]⟩, .int .i64 r, .int .i64 c, .bool f, .bool d]
      clear Z2 hB2 TB
      go_wp2_with fail
      refine (C6 _ hT).mono ?_
      rintro e w4 ⟨rfl, hb⟩
      have Z4 := AtL.below hb Z3
      have Y4 := AtL.below hb Y3
      have hB4 := below_end hB3 hb
      clear hb Z3 Y3 hB3 hT C1 C2 C3 C4 C5 C6
      obtain ⟨a0, a1, a2, a3, a4, g0, g1, g2, g3, g4⟩ := Z4.five
      obtain ⟨y0, y1, y2, y3, y4⟩ := Y4.f5
      have hlt := Z4.lt
      go_wp2
      refine bodyPost_ret (v := .tuple #[rfV ⟨⟨#[]⟩, r, c, f, d⟩, .bool true]) (by simp [results, Tryz.results149, go_sem, rfV, rf5, a0, a1, a2, a3, a4]) rfl ⟨rfl, ?_⟩
      exact by with_reducible repeat (first | exact hB4 | refine ball ?_ _ | refine Below.setCell ?_ (by first | (simp; done) | (simp; omega) | omega) _ | refine Below.drew ?_ | refine below_drewN ?_ _)
    · rw [if_neg hw]
      have hw' : (W == l) = false := by simp [hw]
      go_enter Tryz.func149, Tryz.ntmps149
      go_wp2_with fail
      refine C1.mono ?_
      rintro e w1 ⟨rfl, hb⟩
      have Z1 := AtL.below hb Z
      have hB1 := below_end hB0 hb
      clear hb Z hB0
      go_wp2_with fail
      refine (C2 _).mono ?_
      rintro e w2 ⟨rfl, hb⟩
      have Z2 := AtL.below hb Z1
      have hB2 := below_end hB1 hb
      clear hb Z1 hB1
      go_wp2_with fail
      refine (C3 _).mono ?_
      rintro e w3 ⟨rfl, rfl⟩
      go_wp2_with fail
      refine (C4 _).mono ?_
      rintro e w3 ⟨rfl, rfl⟩
      go_wp2_with fail
      refine (C5 _).mono ?_
      rintro e w3 ⟨rfl, rfl⟩
      have hB3 := ball hB2 (.cells #[.string ⟨#[]⟩, .int .i64 r, .int .i64 c, .bool f, .bool d] 35)
      have hT := (TB.on hB3).here
      have Z3 := AtL.alloc Z2 (.cells #[.string ⟨#[]⟩, .int .i64 r, .int .i64 c, .bool f, .bool d] 35)
      have Y3 := AtL.new0 w2 35 [.string ⟨#[]⟩, .int .i64 r, .int .i64 c, .bool f, .bool d]
      clear Z2 hB2 TB
      go_wp2_with fail
      refine (C6 _ hT).mono ?_
      rintro e w4 ⟨rfl, hb⟩
      have Z4 := AtL.below hb Z3
      have Y4 := AtL.below hb Y3
      have hB4 := below_end hB3 hb
      clear hb Z3 Y3 hB3 hT C1 C2 C3 C4 C5 C6
      obtain ⟨a0, a1, a2, a3, a4, g0, g1, g2, g3, g4⟩ := Z4.five
      obtain ⟨y0, y1, y2, y3, y4⟩ := Y4.f5
      have hlt := Z4.lt
      go_wp2
      refine bodyPost_ret (v := .tuple #[rfV Wt.r0, .bool false]) (by simp [results, Tryz.results149, go_sem, rfV, rf5, Wt.r0, a0, a1, a2, a3, a4]) rfl ⟨rfl, ?_⟩
      exact by with_reducible repeat (first | exact hB4 | refine ball ?_ _ | refine Below.setCell ?_ (by first | (simp; done) | (simp; omega) | omega) _ | refine Below.drew ?_ | refine below_drewN ?_ _)
theorem results_cell {P : Program} {fn : Func} {t : Tmp} {T : TypeId} (h : fn.results = #[.cell t T]) (tmps : Array Value) (w : World) (b : Nat) (cs : List Value) (d : TypeDesc) (ht : tmps.getD t undef = .pointer (some ⟨b, 0, none⟩)) (hc : w.rangeAt b 0 cs)
    (hu : P.underlying T = some d) (hd : d.isRow = true) (hi : (P.info? T).map (·.size) = some cs.length) : (results fn tmps).run P w = .ok (.agg cs.toArray) w := by
  have hl := run_loadVar_mid (P := P) w b 0 T cs d hc hu hd hi
  have ht' : tmps[t]?.getD undef = .pointer (some ⟨b, 0, none⟩) := by rw [← ht]; simp
  simp only [results, h]
  simp [ht', hl, asAddr]
def Env (w : World) : Prop := OpsAt w ∧ FltAt w ∧ MaxAt w ∧ Lib.TabIs Tryz.prog w "internal/strconv.uint64pow10" .u64 Lib.pow10Tab
theorem Env.below {w w' : World} (h : Env w) (hb : Below w.heap.size w w') : Env w' := ⟨h.1.below hb, h.2.1.below hb, h.2.2.1.below hb, (Lib.tabBelow_of_tabIs h.2.2.2).on hb |>.here⟩
theorem Env.grown {w w' : World} {kp : Nat} (h : Env w) (hg : w.grownBy w' (some kp)) (hk : 8 ≤ kp) : Env w' := by
  obtain ⟨h1, h2, ⟨m, h3⟩, h4⟩ := h
  have hn : ∀ g, g < 8 → some g ≠ some kp := fun g hg e => by have := Option.some.inj e; omega
  refine ⟨fun j v hv => hg.cell (h1 j v hv) (hn 0 (by decide)), fun j v hv => hg.cell (h2 j v hv) (hn 1 (by decide)), ⟨m, hg.cell h3 (hn _ (by decide))⟩, ?_⟩
  have e : Tryz.prog.globalNamed "internal/strconv.uint64pow10" = some 5 := by kernel_rfl
  unfold Lib.TabIs World.var? at h4 ⊢
  rw [e] at h4 ⊢
  simp only [Option.bind_some] at h4 ⊢
  have hlt : 5 < w.heap.size := by
    rcases Nat.lt_or_ge 5 w.heap.size with h | h
    · exact h
    · rw [Array.getElem?_eq_none h] at h4; cases h4
  rw [hg.block _ hlt (hn _ (by decide))]
  exact h4
def pt21 (x : Wt.Nd) (sl : Value) : List Value := nd20 x ++ [sl]
def ptV (x : Wt.Nd) (sl : Value) : Value := .agg (pt21 x sl).toArray
def PtIs (w : World) (G : Nat → Prop) : Nat → Wt.Nd → Value → List Wt.Nd → Prop
  | 0, _, _, _ => False
  | n + 1, x, sl, row => ∃ (av : Option Addr) (cap : Nat) (ps : List (Wt.Nd × Value)) (rows : List (List Wt.Nd)), sl = .slice av ps.length cap ∧ rows.length = ps.length ∧ row = x :: rows.flatten ∧
      ∀ i (h : i < ps.length) (h' : i < rows.length), ∃ bb, av = some ⟨bb, 0, none⟩ ∧ G bb ∧ w.rangeAt bb (i * 21) (pt21 (ps[i]).1 (ps[i]).2) ∧ PtIs w G n (ps[i]).1 (ps[i]).2 (rows[i])
theorem range_block {w : World} {bb o : Nat} {x : Wt.Nd} {sl : Value} (h : w.rangeAt bb o (pt21 x sl)) : bb < w.heap.size := World.block_lt_of_cell? _ _ (h 0 _ rfl)
theorem PtIs.keep {w w' : World} {G : Nat → Prop} (hk : ∀ k, G k → k < w.heap.size → w'.heap[k]? = w.heap[k]?) : ∀ (n : Nat) {x : Wt.Nd} {sl : Value} {row : List Wt.Nd}, PtIs w G n x sl row → PtIs w' G n x sl row
  | 0, _, _, _, h => h
  | n + 1, x, sl, row, ⟨av, cap, ps, rows, e, hl, hr, hp⟩ => ⟨av, cap, ps, rows, e, hl, hr, fun i h h' => by
      obtain ⟨bb, e1, e2, e3, e4⟩ := hp i h h'
      exact ⟨bb, e1, e2, fun j v hv => (World.cell?_of_block (a := ⟨bb, i * 21 + j, none⟩) (hk bb e2 (range_block e3))).trans (e3 j v hv), PtIs.keep hk n e4⟩⟩
theorem PtIs.mono {w : World} {G G' : Nat → Prop} (hlo : ∀ b, G b → G' b) : ∀ (n : Nat) {x : Wt.Nd} {sl : Value} {row : List Wt.Nd}, PtIs w G n x sl row → PtIs w G' n x sl row
  | 0, _, _, _, h => h
  | n + 1, x, sl, row, ⟨av, cap, ps, rows, e, hl, hr, hp⟩ => ⟨av, cap, ps, rows, e, hl, hr, fun i h h' => by
      obtain ⟨bb, e1, e2, e3, e4⟩ := hp i h h'
      exact ⟨bb, e1, hlo _ e2, e3, PtIs.mono hlo n e4⟩⟩
theorem PtIs.leaf (w : World) (G : Nat → Prop) (x : Wt.Nd) : PtIs w G 1 x (.slice none 0 0) [x] := ⟨none, 0, [], [], rfl, rfl, rfl, fun i h => absurd h (Nat.not_lt_zero _)⟩
theorem PtIs.more {w : World} {G : Nat → Prop} : ∀ {n : Nat} {x : Wt.Nd} {sl : Value} {row : List Wt.Nd}, PtIs w G n x sl row → PtIs w G (n + 1) x sl row
  | 0, _, _, _, h => h.elim
  | n + 1, x, sl, row, ⟨av, cap, ps, rows, e, hl, hr, hp⟩ => ⟨av, cap, ps, rows, e, hl, hr, fun i h h' => by
      obtain ⟨bb, e1, e2, e3, e4⟩ := hp i h h'
      exact ⟨bb, e1, e2, e3, PtIs.more e4⟩⟩
theorem PtIs.upto {w : World} {G : Nat → Prop} {n m : Nat} {x : Wt.Nd} {sl : Value} {row : List Wt.Nd} (h : PtIs w G n x sl row) (hm : n ≤ m) : PtIs w G m x sl row := by
  induction m with
  | zero => obtain rfl : n = 0 := by omega
            exact h
  | succ m ih =>
    rcases Nat.lt_or_ge n (m + 1) with h1 | h1
    · exact (ih (by omega)).more
    · obtain rfl : n = m + 1 := by omega
      exact h
theorem PtIs.one {w : World} {G : Nat → Prop} {n : Nat} {x : Wt.Nd} {sl : Value} {row : List Wt.Nd} (h : PtIs w G n x sl row) : ∃ av len cap, sl = .slice av len cap := by
  cases n with
  | zero => exact h.elim
  | succ n => obtain ⟨av, cap, ps, rows, e, _⟩ := h; exact ⟨av, ps.length, cap, e⟩
def Pt (w : World) (lo : Nat) (v : Value) (row : List Wt.Nd) : Prop := ∃ n x sl, v = ptV x sl ∧ PtIs w (fun b => lo ≤ b) n x sl row
theorem Pt.grown {w w' : World} {kp lo : Nat} {v : Value} {row : List Wt.Nd} (h : Pt w lo v row) (hg : w.grownBy w' (some kp)) (hk : kp < lo) : Pt w' lo v row := by
  obtain ⟨n, x, sl, e, h⟩ := h
  exact ⟨n, x, sl, e, PtIs.keep (fun k h1 h2 => hg.block k h2 (fun e => by have := Option.some.inj e; omega)) n h⟩
theorem Pt.below {w w' : World} {lo : Nat} {v : Value} {row : List Wt.Nd} (h : Pt w lo v row) (hb : Below w.heap.size w w') : Pt w' lo v row := by
  obtain ⟨n, x, sl, e, h⟩ := h
  exact ⟨n, x, sl, e, PtIs.keep (fun k h1 h2 => hb.block k h2) n h⟩
theorem heap_setCells_ne (b k : Nat) (hk : k ≠ b) : ∀ (vs : List Value) (o : Nat) (w : World), (w.setCells b o vs).heap[k]? = w.heap[k]?
  | [], _, _ => rfl
  | v :: r, o, w => by rw [World.setCells, heap_setCells_ne b k hk r]; exact Below.heap_setCell _ _ _ _ hk
theorem Pt.far {w : World} {lo b : Nat} {v : Value} {row : List Wt.Nd} (h : Pt w lo v row) (hb : b < lo) (o : Nat) (vs : List Value) : Pt (w.setCells b o vs) lo v row := by
  obtain ⟨n, x, sl, e, h⟩ := h
  exact ⟨n, x, sl, e, PtIs.keep (fun k h1 h2 => heap_setCells_ne b k (by omega) vs o w) n h⟩
theorem Pt.mono {w : World} {lo lo' : Nat} {v : Value} {row : List Wt.Nd} (h : Pt w lo v row) (hl : lo' ≤ lo) : Pt w lo' v row := by
  obtain ⟨n, x, sl, e, h⟩ := h
  exact ⟨n, x, sl, e, PtIs.mono (fun b hb => Nat.le_trans hl hb) n h⟩
end Go.Proofs.YtalkiggclckcdaaGreatDoor
