/- LexFresh, walked. -/
import Derived.Test.YtjkohkhngeioiaaDoorLKeep
import Derived.Test.YtjkohkhngeioiaaDoorLLawScans
namespace Go.Proofs.YtjkohkhngeioiaaDoor
open Go.Shelf Go.RowKit
set_option linter.unusedVariables false

theorem OwnV.base {w : World} {B n c : Nat} {a : Option Addr} {ts : List Wlx.TV} (h : OwnV w B (.slice a n c) ts) : ∀ g, a = some ⟨g, 0, none⟩ → B ≤ g ∧ g < w.heap.size := fun g e => h.lt g (by rw [e]; rfl)
/-- The three cells of a token of one's own, and that they may be written. -/
theorem OwnV.at {w : World} {B g n c : Nat} {a : List Wlx.TV} {t : Wlx.TV} {r : List Wlx.TV} (h : OwnV w B (.slice (some ⟨g, 0, none⟩) n c) (a ++ t :: r)) (k : Nat) (hk : k = a.length) (hn : n = (a ++ t :: r).length) :
    w.cell? ⟨g, k * 3, none⟩ = some (.int .i64 t.k) ∧ w.cell? ⟨g, k * 3 + 1, none⟩ = some (.string ⟨t.t.toArray⟩) ∧ w.cell? ⟨g, k * 3 + 2, none⟩ = some (.int .i64 t.p) ∧ w.frozen? ⟨g, k * 3, none⟩ = false ∧ w.frozen? ⟨g, k * 3 + 1, none⟩ = false ∧ w.frozen? ⟨g, k * 3 + 2, none⟩ = false := by
  subst hk hn
  have hl : a.length < (a ++ t :: r).length := by simp
  obtain ⟨r0, r1, r2⟩ := rowV_get (a ++ t :: r) a.length hl
  have e : (a ++ t :: r)[a.length] = t := by simp
  rw [e] at r0 r1 r2
  refine ⟨?_, ?_, ?_, World.ownsRow.frozenAt h _, World.ownsRow.frozenAt h _, World.ownsRow.frozenAt h _⟩
  · rw [World.ownsRow.cellAt h _ (by omega), r0]
  · rw [World.ownsRow.cellAt h _ (by omega), r1]
  · rw [World.ownsRow.cellAt h _ (by omega), r2]

theorem ownV_le {w : World} {B B' : Nat} {v : Value} {ts : List Wlx.TV} (h : OwnV w B v ts) (hb : B' ≤ B) : OwnV w B' v ts :=
  ⟨h.1, h.2.imp id fun ⟨g, cap, cur, a, b, c⟩ => ⟨g, cap, cur, a, Nat.le_trans hb b, c⟩⟩
theorem own_read1 {w : World} {B c : Nat} {a : Option Addr} {ts : List Wlx.TV} (h : OwnV w B (.slice a ts.length c) ts) : ReadV w (.slice a ts.length c) ts := by
  refine ⟨a, c, rfl, fun i hi => ?_⟩
  obtain ⟨g, e, hlt, c0, c1, c2⟩ := RdV.own h i hi
  exact ⟨g, 0, e, hlt, by rw [Nat.zero_add]; exact c0, by rw [Nat.zero_add]; exact c1, by rw [Nat.zero_add]; exact c2⟩

set_option maxRecDepth 100000 in
set_option maxHeartbeats 6400000 in
theorem fresh_main (b : ByteArray) (w : World) (hm : MaxAt w) (hs : b.size ≤ 9223372036854775807) : Calls Tryd.prog 5 #[.string b] w fun e w' => e = .returned (.bool true) ∧ Below w.heap.size w w' := by
  have A := able_any w hm
  have S := fun w hm => scan_any b w hm hs
  have hN := toks_few b.data.toList
  generalize scanAll b.data.toList = r at *
  obtain ⟨i0, hi, hz0, hz1, hz2⟩ := info_parts tokInfo
  go_enter Tryd.func5, Tryd.ntmps5
  go_wp2_with fail
  refine A.mono ?_
  rintro e w1 ⟨rfl, hb1⟩
  have hm1 := MaxAt.below hm hb1
  go_wp2_with fail
  refine (S _ hm1).mono ?_
  rintro e w2 ⟨hp1, hb2⟩
  obtain ⟨v1, he1, hown1⟩ := post_both hp1
  subst he1
  have hm2 := MaxAt.below hm1 hb2
  have own1 := OwnV.of hown1
  clear hp1 hown1
  go_wp2_with fail
  refine (S _ hm2).mono ?_
  rintro e w3 ⟨hp2, hb3⟩
  obtain ⟨v2, he2, hown2⟩ := post_both hp2
  subst he2
  have own2 := OwnV.of hown2
  have lt1 := own1.lt
  have own1 := own1.below hb3
  obtain ⟨cc, pp⟩ := codeOf r
  rw [← List.length_map (f := Wlx.tv)] at hN
  generalize (toksOf r).map Wlx.tv = ts at *
  have hB3 : Below w.heap.size w w3 := hb1.trans ((hb2.trans (hb3.mono hb2.size)).mono hb1.size)
  have s12 := hb2.size
  have s01 := hb1.size
  obtain ⟨a1, c1, hv1, -⟩ := own1.form
  obtain ⟨a2, c2, hv2, -⟩ := own2.form
  subst hv1 hv2
  have bs2 := own2.base
  have N12 : Hid (∀ g g', a1 = some ⟨g, 0, none⟩ → a2 = some ⟨g', 0, none⟩ → g ≠ g') := by
    intro g g' e1 e2
    have h1 := (lt1 g (by rw [e1]; rfl)).2
    have h2 := (bs2 g' e2).1
    omega
  have r1 : ReadV w3 (.slice a1 ts.length c1) ts := own_read1 own1
  have r2 : ReadV w3 (.slice a2 ts.length c2) ts := own_read1 own2
  have HO10 : Hid (OwnV w3 w.heap.size (.slice a1 ts.length c1) ts) := ownV_le own1 s01
  have HO20 : Hid (OwnV w3 w.heap.size (.slice a2 ts.length c2) ts) := ownV_le own2 (by omega)
  clear hp2 hown2 own1 own2 lt1 bs2 hb1 hb2 hb3 hm1 hm2 S A s01 s12
  go_wp2_with fail
  refine (same_true _ _ ts ts _ r1 r2 rfl (by omega) (fun i h1 h2 => rfl)).mono ?_
  rintro e w4 ⟨rfl, hb4⟩
  have hB : Below w.heap.size w w4 := hB3.trans (hb4.mono hB3.size)
  have HO1 : Hid (OwnV w4 w.heap.size (.slice a1 ts.length c1) (mks 1000 0 ++ ts.drop 0)) := HO10.out.below hb4
  have HO2 : Hid (OwnV w4 w.heap.size (.slice a2 ts.length c2) ts) := HO20.out.below hb4
  clear r1 r2 HO10 HO20 hb4 hB3 hm
  go_wp2_with fail
  go_loopg [9] (ts.length) (fun gk x wr => ∃ i : Nat, x = .int .i64 i ∧ gk = ts.length - i ∧ i ≤ ts.length ∧ Hid (OwnV wr w.heap.size (.slice a1 ts.length c1) (mks 1000 i ++ ts.drop i)) ∧ Hid (OwnV wr w.heap.size (.slice a2 ts.length c2) (ts)) ∧ Below w.heap.size w wr)
  case atStart => exact ⟨0, rfl, rfl, Nat.zero_le _, HO1, HO2, hB⟩
  case round =>
    clear HO1 HO2 hB
    obtain ⟨i, rfl, hg, hi1, HO, HX, hB⟩ := hrel
    by_cases hlt : i < ts.length
    · have hli : (i : Int) < (ts.length : Int) := by omega
      have hll : (mks 1000 i ++ ts.drop i).length = ts.length := by rw [List.length_append, mks_length, List.length_drop]; omega
      obtain ⟨g1, e1, hgb⟩ : ∃ g1, a1 = some ⟨g1, 0, none⟩ ∧ w.heap.size ≤ g1 := by
        rcases HO.out.2 with ⟨_, h0⟩ | ⟨g, _, _, e, hb, _⟩
        · omega
        · simp only [Value.slice.injEq] at e
          exact ⟨g, e.1, hb⟩
      subst e1
      have own := HO.out
      have hd := List.drop_eq_getElem_cons hlt
      rw [hd] at own hll
      obtain ⟨k0, k1, k2, f0, f1, f2⟩ := own.at i (by rw [mks_length]) hll.symm
      have HO5 : Hid (OwnV (((wr.setCell ⟨g1, i * 3, none⟩ (.int .i64 0)).setCell ⟨g1, i * 3 + 1, none⟩ (.string ⟨#[]⟩)).setCell ⟨g1, i * 3 + 2, none⟩ (.int .i64 (1000 + (i : Int)))) w.heap.size (.slice (some ⟨g1, 0, none⟩) ts.length c1) (mks 1000 (i + 1) ++ ts.drop (i + 1))) := by
        show OwnV _ _ _ _
        rw [mks_succ]
        exact own.put ⟨0, [], 1000 + (i : Int)⟩ (i * 3) (by rw [mks_length]) hll.symm
      have HX5 : Hid (OwnV (((wr.setCell ⟨g1, i * 3, none⟩ (.int .i64 0)).setCell ⟨g1, i * 3 + 1, none⟩ (.string ⟨#[]⟩)).setCell ⟨g1, i * 3 + 2, none⟩ (.int .i64 (1000 + (i : Int)))) w.heap.size (.slice a2 ts.length c2) (ts)) :=
        ((HX.out.far (fun g' e => fun e2 => N12.out g1 g' rfl e e2.symm) _ _).far (fun g' e => fun e2 => N12.out g1 g' rfl e e2.symm) _ _).far (fun g' e => fun e2 => N12.out g1 g' rfl e e2.symm) _ _
      have hB5 : Below w.heap.size w (((wr.setCell ⟨g1, i * 3, none⟩ (.int .i64 0)).setCell ⟨g1, i * 3 + 1, none⟩ (.string ⟨#[]⟩)).setCell ⟨g1, i * 3 + 2, none⟩ (.int .i64 (1000 + (i : Int)))) := ((hB.setCell (p := ⟨g1, _, none⟩) hgb _).setCell (p := ⟨g1, _, none⟩) hgb _).setCell (p := ⟨g1, _, none⟩) hgb _
      generalize (ts[i]).k = tk at k0
      generalize (⟨(ts[i]).t.toArray⟩ : ByteArray) = tt at k1
      generalize (ts[i]).p = tp at k2
      clear own HO HX hd hll hB
      go_wp2_with fail
      go_roundg (ts.length - (i + 1))
      case rel => exact ⟨i + 1, by simp, rfl, hlt, HO5, HX5, hB5⟩
      case measure => omega
    · have hli : ¬ (i : Int) < (ts.length : Int) := by omega
      have own := HO.out
      have hie : i = ts.length := by omega
      rw [hie, List.drop_eq_nil_of_le (Nat.le_refl _), List.append_nil] at own
      have HO1b : Hid (OwnV wr w.heap.size (.slice a1 ts.length c1) (mks 1000 ts.length)) := own
      have HO2b : Hid (OwnV wr w.heap.size (.slice a2 ts.length c2) (mks 2000 0 ++ ts.drop 0)) := HX.out
      clear HO HX own hie hli
      go_wp2_with fail
      go_loopg [10] (ts.length) (fun gk x wr => ∃ i : Nat, x = .int .i64 i ∧ gk = ts.length - i ∧ i ≤ ts.length ∧ Hid (OwnV wr w.heap.size (.slice a2 ts.length c2) (mks 2000 i ++ ts.drop i)) ∧ Hid (OwnV wr w.heap.size (.slice a1 ts.length c1) (mks 1000 ts.length)) ∧ Below w.heap.size w wr)
      case atStart => exact ⟨0, rfl, rfl, Nat.zero_le _, HO2b, HO1b, hB⟩
      case round =>
        clear HO2b HO1b hB
        obtain ⟨i, rfl, hg, hi1, HO, HX, hB⟩ := hrel
        by_cases hlt : i < ts.length
        · have hli : (i : Int) < (ts.length : Int) := by omega
          have hll : (mks 2000 i ++ ts.drop i).length = ts.length := by rw [List.length_append, mks_length, List.length_drop]; omega
          obtain ⟨g1, e1, hgb⟩ : ∃ g1, a2 = some ⟨g1, 0, none⟩ ∧ w.heap.size ≤ g1 := by
            rcases HO.out.2 with ⟨_, h0⟩ | ⟨g, _, _, e, hb, _⟩
            · omega
            · simp only [Value.slice.injEq] at e
              exact ⟨g, e.1, hb⟩
          subst e1
          have own := HO.out
          have hd := List.drop_eq_getElem_cons hlt
          rw [hd] at own hll
          obtain ⟨k0, k1, k2, f0, f1, f2⟩ := own.at i (by rw [mks_length]) hll.symm
          have HO5 : Hid (OwnV (((wr.setCell ⟨g1, i * 3, none⟩ (.int .i64 0)).setCell ⟨g1, i * 3 + 1, none⟩ (.string ⟨#[]⟩)).setCell ⟨g1, i * 3 + 2, none⟩ (.int .i64 (2000 + (i : Int)))) w.heap.size (.slice (some ⟨g1, 0, none⟩) ts.length c2) (mks 2000 (i + 1) ++ ts.drop (i + 1))) := by
            show OwnV _ _ _ _
            rw [mks_succ]
            exact own.put ⟨0, [], 2000 + (i : Int)⟩ (i * 3) (by rw [mks_length]) hll.symm
          have HX5 : Hid (OwnV (((wr.setCell ⟨g1, i * 3, none⟩ (.int .i64 0)).setCell ⟨g1, i * 3 + 1, none⟩ (.string ⟨#[]⟩)).setCell ⟨g1, i * 3 + 2, none⟩ (.int .i64 (2000 + (i : Int)))) w.heap.size (.slice a1 ts.length c1) (mks 1000 ts.length)) :=
            ((HX.out.far (fun g' e => fun e2 => N12.out g' g1 e rfl e2) _ _).far (fun g' e => fun e2 => N12.out g' g1 e rfl e2) _ _).far (fun g' e => fun e2 => N12.out g' g1 e rfl e2) _ _
          have hB5 : Below w.heap.size w (((wr.setCell ⟨g1, i * 3, none⟩ (.int .i64 0)).setCell ⟨g1, i * 3 + 1, none⟩ (.string ⟨#[]⟩)).setCell ⟨g1, i * 3 + 2, none⟩ (.int .i64 (2000 + (i : Int)))) := ((hB.setCell (p := ⟨g1, _, none⟩) hgb _).setCell (p := ⟨g1, _, none⟩) hgb _).setCell (p := ⟨g1, _, none⟩) hgb _
          generalize (ts[i]).k = tk at k0
          generalize (⟨(ts[i]).t.toArray⟩ : ByteArray) = tt at k1
          generalize (ts[i]).p = tp at k2
          clear own HO HX hd hll hB
          go_wp2_with fail
          go_roundg (ts.length - (i + 1))
          case rel => exact ⟨i + 1, by simp, rfl, hlt, HO5, HX5, hB5⟩
          case measure => omega
        · have hli : ¬ (i : Int) < (ts.length : Int) := by omega
          have own := HO.out
          have hie : i = ts.length := by omega
          rw [hie, List.drop_eq_nil_of_le (Nat.le_refl _), List.append_nil] at own
          have HM : Hid (OwnV wr w.heap.size (.slice a2 ts.length c2) (mks 2000 ts.length)) := own
          have HO3 : Hid (OwnV wr w.heap.size (.slice a1 ts.length c1) (mks 1000 ts.length ++ List.replicate 0 (⟨0, [], -1⟩ : Wlx.TV))) := by
            show OwnV _ _ _ _
            rw [List.replicate_zero, List.append_nil]; exact HX.out
          have R1 : Hid (RdV wr a1 (mks 1000 ts.length)) := RdV.own HX.out
          have NE3 : Hid (∀ g, (Value.slice a1 ts.length c1).ownBlock = some g → ∀ g', a2 = some ⟨g', 0, none⟩ → g ≠ g') := by
            intro g hgg g' e
            have ha1 : a1 = some ⟨g, 0, none⟩ := by
              rcases HX.out.2 with ⟨e, _⟩ | ⟨g', _, _, e, _⟩
              · simp only [Value.slice.injEq] at e
                rw [e.1] at hgg
                simp [Value.ownBlock] at hgg
              · simp only [Value.slice.injEq] at e
                rw [e.1] at hgg
                simp [Value.ownBlock] at hgg
                rw [e.1, hgg]
            exact N12.out g g' ha1 e
          clear HO HX own hie hli
          go_wp2_with fail
          go_loopg [11, 13] 40 (fun gk x y wr => ∃ i : Nat, y = .int .i64 i ∧ gk = 40 - i ∧ i ≤ 40 ∧ Hid (OwnV wr w.heap.size x (mks 1000 ts.length ++ List.replicate i (⟨0, [], -1⟩ : Wlx.TV))) ∧ Hid (RdV wr a1 (mks 1000 ts.length)) ∧ Hid (OwnV wr w.heap.size (.slice a2 ts.length c2) (mks 2000 ts.length)) ∧ Hid (∀ g, x.ownBlock = some g → ∀ g', a2 = some ⟨g', 0, none⟩ → g ≠ g') ∧ Below w.heap.size w wr)
          case atStart => exact ⟨0, rfl, rfl, by omega, HO3, R1, HM, NE3, hB⟩
          case round =>
            clear HO3 R1 HM NE3 hB
            obtain ⟨i, rfl, hg, hi1, HO, R1, HM, NE, hB⟩ := hrel
            have sw := hB.size
            by_cases hlt3 : i < 40
            · have hli : (i : Int) < 40 := by omega
              have own := HO.out
              have hl : (mks 1000 ts.length ++ List.replicate i (⟨0, [], -1⟩ : Wlx.TV)).length = ts.length + i := by rw [List.length_append, mks_length, List.length_replicate]
              go_wp2_with (at_builtin; refine wpList_append_keep _ rfl _ _ 22 rfl w.heap.size 31 i0 (.agg #[.int .i64 0, .string ⟨#[]⟩, .int .i64 0]) 3 32 Tryd.underlying22 hi hz0 hz1 hz2 rfl (by decide) _ _ _ rfl (own.alloc _) ⟨wr.heap.size, 0, none⟩ 1 1 [.int .i64 0, .string ⟨#[]⟩, .int .i64 (-1)] rfl rfl (cell_three_new _ _ _ _ _) (by intro u hu; simp at hu; rcases hu with rfl | rfl | rfl <;> rfl) (by unfold maxLen; omega) (by omega) (by simp; omega) ?_)
              intro vg w5 hown5 hgrow hat hkeep
              have hB5 : Below w.heap.size w w5 := (hB.alloc sw _).grown hgrow (by simp; omega) (fun k hk => (own.lt k hk).1)
              have HO5 : Hid (OwnV w5 w.heap.size vg (mks 1000 ts.length ++ List.replicate (i + 1) (⟨0, [], -1⟩ : Wlx.TV))) := by
                show World.ownsRow _ _ _ 3 _ _ _
                rw [List.replicate_succ', ← List.append_assoc, List.length_append, rowV_app, hl]
                exact hown5
              have R15 : Hid (RdV w5 a1 (mks 1000 ts.length)) := by
                refine (R1.out.alloc _).grown hgrow (fun _ g e => ?_)
                by_cases hx : u11.ownBlock = some g
                · right
                  intro j hj
                  rw [mks_length] at hj
                  exact hkeep g j hx (by omega)
                · left; exact fun h => hx h.symm
              have HM5 : Hid (OwnV w5 w.heap.size (.slice a2 ts.length c2) (mks 2000 ts.length)) := by
                refine (HM.out.alloc _).kept hgrow ?_
                rcases HM.out.2 with ⟨e, _⟩ | ⟨g', _, _, e, _⟩
                · left; rw [e]; rfl
                · right
                  simp only [Value.slice.injEq] at e
                  rw [e.1]
                  intro h
                  exact NE.out g' h.symm g' e.1 rfl
              have NE5 : Hid (∀ g, vg.ownBlock = some g → ∀ g', a2 = some ⟨g', 0, none⟩ → g ≠ g') := by
                intro g hg5 g' e
                rcases hat with h | h
                · exact NE.out g (by rw [← h]; exact hg5) g' e
                · have hgv : g = wr.heap.size + 1 := by
                    rw [h] at hg5
                    simpa using hg5.symm
                  have := (HM.out.base g' e).2
                  omega
              clear hown5 hgrow hat hkeep own HO NE R1 HM hB
              go_wp2_with fail
              go_roundg (40 - (i + 1))
              case rel => exact ⟨i + 1, by simp, rfl, by omega, HO5, R15, HM5, NE5, hB5⟩
              case measure => omega
            · have hli : ¬ (i : Int) < 40 := by omega
              have own := HO.out
              rw [show i = 40 by omega] at own
              have hl3 : (mks 1000 ts.length ++ List.replicate 40 (⟨0, [], -1⟩ : Wlx.TV)).length = ts.length + 40 := by rw [List.length_append, mks_length, List.length_replicate]
              obtain ⟨a3, c3, hv3, hf3⟩ := own.form
              rw [hl3] at hv3
              subst hv3
              have R3 : Hid (RdV wr a3 (mks 1000 ts.length ++ List.replicate 40 (⟨0, [], -1⟩ : Wlx.TV))) := RdV.own own
              have R2 : Hid (RdV wr a2 (mks 2000 ts.length)) := RdV.own HM.out
              have HO4 : Hid (OwnV wr w.heap.size (.slice a2 ts.length c2) (mks 2000 ts.length ++ List.replicate 0 (⟨0, [], -2⟩ : Wlx.TV))) := by
                show OwnV _ _ _ _
                rw [List.replicate_zero, List.append_nil]; exact HM.out
              have NE4 : Hid (∀ g, (Value.slice a2 ts.length c2).ownBlock = some g → (0 < ts.length → ∀ g', a1 = some ⟨g', 0, none⟩ → g ≠ g') ∧ (∀ g', a3 = some ⟨g', 0, none⟩ → g ≠ g')) := by
                intro g hgg
                have ha2 : a2 = some ⟨g, 0, none⟩ := by
                  obtain ⟨_, _⟩ | ⟨g', _, _, e, _⟩ := HM.out.2
                  · rename_i e _
                    simp only [Value.slice.injEq] at e
                    rw [e.1] at hgg
                    simp [Value.ownBlock] at hgg
                  · simp only [Value.slice.injEq] at e
                    rw [e.1] at hgg
                    simp [Value.ownBlock] at hgg
                    rw [e.1, hgg]
                refine ⟨fun _ g' e e2 => N12.out g' g e ha2 e2.symm, fun g' e e2 => ?_⟩
                exact NE.out g' (by rw [e]; rfl) g ha2 e2.symm
              clear HO own NE hf3 hl3 HM
              go_wp2_with fail
              go_loopg [12, 14] 40 (fun gk x y wr => ∃ i : Nat, y = .int .i64 i ∧ gk = 40 - i ∧ i ≤ 40 ∧ Hid (OwnV wr w.heap.size x (mks 2000 ts.length ++ List.replicate i (⟨0, [], -2⟩ : Wlx.TV))) ∧ Hid (RdV wr a2 (mks 2000 ts.length)) ∧ Hid (RdV wr a1 (mks 1000 ts.length)) ∧ Hid (RdV wr a3 (mks 1000 ts.length ++ List.replicate 40 (⟨0, [], -1⟩ : Wlx.TV))) ∧ Hid (∀ g, x.ownBlock = some g → (0 < ts.length → ∀ g', a1 = some ⟨g', 0, none⟩ → g ≠ g') ∧ (∀ g', a3 = some ⟨g', 0, none⟩ → g ≠ g')) ∧ Below w.heap.size w wr)
              case atStart => exact ⟨0, rfl, rfl, by omega, HO4, R2, R1, R3, NE4, hB⟩
              case round =>
                clear HO4 R2 R1 R3 NE4 hB
                obtain ⟨i, rfl, hg, hi1, HO, R2, R1, R3, NE, hB⟩ := hrel
                have sw := hB.size
                by_cases hlt4 : i < 40
                · have hli : (i : Int) < 40 := by omega
                  have own := HO.out
                  have hl : (mks 2000 ts.length ++ List.replicate i (⟨0, [], -2⟩ : Wlx.TV)).length = ts.length + i := by rw [List.length_append, mks_length, List.length_replicate]
                  go_wp2_with (at_builtin; refine wpList_append_keep _ rfl _ _ 22 rfl w.heap.size 31 i0 (.agg #[.int .i64 0, .string ⟨#[]⟩, .int .i64 0]) 3 32 Tryd.underlying22 hi hz0 hz1 hz2 rfl (by decide) _ _ _ rfl (own.alloc _) ⟨wr.heap.size, 0, none⟩ 1 1 [.int .i64 0, .string ⟨#[]⟩, .int .i64 (-2)] rfl rfl (cell_three_new _ _ _ _ _) (by intro u hu; simp at hu; rcases hu with rfl | rfl | rfl <;> rfl) (by unfold maxLen; omega) (by omega) (by simp; omega) ?_)
                  intro vh w5 hown5 hgrow hat hkeep
                  have hB5 : Below w.heap.size w w5 := (hB.alloc sw _).grown hgrow (by simp; omega) (fun k hk => (own.lt k hk).1)
                  have HO5 : Hid (OwnV w5 w.heap.size vh (mks 2000 ts.length ++ List.replicate (i + 1) (⟨0, [], -2⟩ : Wlx.TV))) := by
                    show World.ownsRow _ _ _ 3 _ _ _
                    rw [List.replicate_succ', ← List.append_assoc, List.length_append, rowV_app, hl]
                    exact hown5
                  have R25 : Hid (RdV w5 a2 (mks 2000 ts.length)) := by
                    refine (R2.out.alloc _).grown hgrow (fun _ g e => ?_)
                    by_cases hx : u12.ownBlock = some g
                    · right
                      intro j hj
                      rw [mks_length] at hj
                      exact hkeep g j hx (by omega)
                    · left; exact fun h => hx h.symm
                  have R15 : Hid (RdV w5 a1 (mks 1000 ts.length)) := by
                    refine (R1.out.alloc _).grown hgrow (fun h0 g e => Or.inl (fun h => ?_))
                    rw [mks_length] at h0
                    exact (NE.out g h.symm).1 h0 g e rfl
                  have R35 : Hid (RdV w5 a3 (mks 1000 ts.length ++ List.replicate 40 (⟨0, [], -1⟩ : Wlx.TV))) := by
                    refine (R3.out.alloc _).grown hgrow (fun h0 g e => Or.inl (fun h => ?_))
                    exact (NE.out g h.symm).2 g e rfl
                  have NE5 : Hid (∀ g, vh.ownBlock = some g → (0 < ts.length → ∀ g', a1 = some ⟨g', 0, none⟩ → g ≠ g') ∧ (∀ g', a3 = some ⟨g', 0, none⟩ → g ≠ g')) := by
                    intro g hg5
                    rcases hat with h | h
                    · exact NE.out g (by rw [← h]; exact hg5)
                    · have hgv : g = wr.heap.size + 1 := by
                        rw [h] at hg5
                        simpa using hg5.symm
                      refine ⟨fun h0 g' e => ?_, fun g' e => ?_⟩
                      · obtain ⟨g0, e0, hlt0, _⟩ := R1.out 0 (by rw [mks_length]; exact h0)
                        rw [e] at e0
                        simp only [Option.some.injEq, Addr.mk.injEq, and_true] at e0
                        omega
                      · obtain ⟨g0, e0, hlt0, _⟩ := R3.out 0 (by rw [List.length_append, List.length_replicate]; omega)
                        rw [e] at e0
                        simp only [Option.some.injEq, Addr.mk.injEq, and_true] at e0
                        omega
                  clear hown5 hgrow hat hkeep own HO NE R1 R2 R3 hB
                  go_wp2_with fail
                  go_roundg (40 - (i + 1))
                  case rel => exact ⟨i + 1, by simp, rfl, by omega, HO5, R25, R15, R35, NE5, hB5⟩
                  case measure => omega
                · have hli : ¬ (i : Int) < 40 := by omega
                  have own := HO.out
                  rw [show i = 40 by omega] at own
                  have hl4 : (mks 2000 ts.length ++ List.replicate 40 (⟨0, [], -2⟩ : Wlx.TV)).length = ts.length + 40 := by rw [List.length_append, mks_length, List.length_replicate]
                  obtain ⟨a4, c4, hv4, hf4⟩ := own.form
                  rw [hl4] at hv4
                  subst hv4
                  have R4 : Hid (RdV wr a4 (mks 2000 ts.length ++ List.replicate 40 (⟨0, [], -2⟩ : Wlx.TV))) := RdV.own own
                  clear HO own NE hf4 hl4
                  go_wp2_with fail
                  go_loopg [15] (ts.length) (fun gk x wr => ∃ i : Nat, x = .int .i64 i ∧ gk = ts.length - i ∧ i ≤ ts.length ∧ Hid (RdV wr a1 (mks 1000 ts.length)) ∧ Hid (RdV wr a2 (mks 2000 ts.length)) ∧ Hid (RdV wr a3 (mks 1000 ts.length ++ List.replicate 40 (⟨0, [], -1⟩ : Wlx.TV))) ∧ Hid (RdV wr a4 (mks 2000 ts.length ++ List.replicate 40 (⟨0, [], -2⟩ : Wlx.TV))) ∧ Below w.heap.size w wr)
                  case atStart => exact ⟨0, rfl, rfl, Nat.zero_le _, R1, R2, R3, R4, hB⟩
                  case round =>
                    clear R1 R2 R3 R4 hB
                    obtain ⟨i, rfl, hg, hi1, R1, R2, R3, R4, hB⟩ := hrel
                    by_cases hlt : i < ts.length
                    · have hli : (i : Int) < (ts.length : Int) := by omega
                      have hli2 : (i : Int) < (ts.length : Int) + 40 := by omega
                      obtain ⟨g1, e1, _, _, _, y1⟩ := R1.out i (by rw [mks_length]; exact hlt)
                      obtain ⟨g2, e2, _, _, _, y2⟩ := R2.out i (by rw [mks_length]; exact hlt)
                      obtain ⟨g3, e3, _, _, _, y3⟩ := R3.out i (by rw [List.length_append, mks_length]; omega)
                      obtain ⟨g4, e4, _, _, _, y4⟩ := R4.out i (by rw [List.length_append, mks_length]; omega)
                      subst e1 e2 e3 e4
                      rw [List.getElem_append_left (by rw [mks_length]; exact hlt)] at y3 y4
                      rw [mks_get] at y1 y2 y3 y4
                      go_wp2_with fail
                      go_roundg (ts.length - (i + 1))
                      case rel => exact ⟨i + 1, by simp, rfl, hlt, R1, R2, R3, R4, hB⟩
                      case measure => omega
                    · have hli : ¬ (i : Int) < (ts.length : Int) := by omega
                      clear R1 R2
                      go_wp2_with fail
                      go_loopg [16] 40 (fun gk x wr => ∃ i : Nat, x = .int .i64 i ∧ gk = ts.length + 40 - i ∧ ts.length ≤ i ∧ i ≤ ts.length + 40 ∧ Hid (RdV wr a3 (mks 1000 ts.length ++ List.replicate 40 (⟨0, [], -1⟩ : Wlx.TV))) ∧ Hid (RdV wr a4 (mks 2000 ts.length ++ List.replicate 40 (⟨0, [], -2⟩ : Wlx.TV))) ∧ Below w.heap.size w wr)
                      case atStart => exact ⟨ts.length, rfl, by omega, Nat.le_refl _, by omega, R3, R4, hB⟩
                      case round =>
                        clear R3 R4 hB
                        obtain ⟨i, rfl, hg, hi0, hi1, R3, R4, hB⟩ := hrel
                        by_cases hlt2 : i < ts.length + 40
                        · have hli2 : (i : Int) < (ts.length : Int) + 40 := by omega
                          obtain ⟨g3, e3, _, _, _, y3⟩ := R3.out i (by rw [List.length_append, mks_length, List.length_replicate]; exact hlt2)
                          obtain ⟨g4, e4, _, _, _, y4⟩ := R4.out i (by rw [List.length_append, mks_length, List.length_replicate]; exact hlt2)
                          subst e3 e4
                          rw [List.getElem_append_right (by rw [mks_length]; exact hi0), List.getElem_replicate] at y3 y4
                          simp only at y3 y4
                          go_wp2_with fail
                          go_roundg (ts.length + 40 - (i + 1))
                          case rel => exact ⟨i + 1, by simp, rfl, by omega, by omega, R3, R4, hB⟩
                          case measure => omega
                        · have hli2 : ¬ (i : Int) < (ts.length : Int) + 40 := by omega
                          go_wp2
                          go_ret
                          exact ⟨rfl, hB⟩
end Go.Proofs.YtjkohkhngeioiaaDoor
