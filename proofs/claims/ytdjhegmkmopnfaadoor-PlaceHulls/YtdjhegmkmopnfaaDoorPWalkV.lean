/- Rows of cells: what Hull and the document's Hull come to. -/
import Derived.Test.YtdjhegmkmopnfaaDoorPWalkH
import Derived.Test.YtdjhegmkmopnfaaDoorPWalkO
namespace Go.Proofs.YtdjhegmkmopnfaaDoor
open Go.RowKit
set_option linter.unusedVariables false

/-- A slice of cells, whatever it is: empty, or cells of memory that is there. -/
def Row3 (w : World) (av : Option Addr) (n : Nat) (F : Nat → Wpl.Cl) : Prop := n = 0 ∨ ∃ bb off, av = some ⟨bb, off, none⟩ ∧ bb < w.heap.size ∧ Cells w bb off n F
theorem Row3.below {W W' : World} {av : Option Addr} {n : Nat} {F : Nat → Wpl.Cl} (h : Row3 W av n F) (hB : Below W.heap.size W W') : Row3 W' av n F := by
  rcases h with h | ⟨bb, off, e, hb, hc⟩
  · exact Or.inl h
  · exact Or.inr ⟨bb, off, e, Nat.lt_of_lt_of_le hb hB.size, hc.below hb hB⟩

theorem row3_of {W : World} {av : Option Addr} {n : Nat} {G : Nat → Nat → Int} (h : ∀ i, i < n → ∃ bb off, av = some ⟨bb, off, none⟩ ∧ bb < W.heap.size ∧ ∀ c, c < 3 → W.cell? ⟨bb, off + i * 3 + c, none⟩ = some (.int .i64 (G i c)) ∧ (Lit.int .i64 (G i c)).wf = true) :
    Row3 W av n (fun i => ⟨G i 0, G i 1, G i 2⟩) := by
  by_cases h0 : n = 0
  · exact Or.inl h0
  · obtain ⟨bb, off, e, hl, _⟩ := h 0 (by omega)
    refine Or.inr ⟨bb, off, e, hl, fun i hi => ?_⟩
    obtain ⟨b2, o2, e2, _, g⟩ := h i hi
    obtain ⟨rfl, rfl⟩ : bb = b2 ∧ off = o2 := by have := e.symm.trans e2; simpa using this
    exact ⟨(g 0 (by omega)).1, (g 1 (by omega)).1, (g 2 (by omega)).1⟩
theorem hull_zero (av : Option Addr) (cap : Nat) (F : Nat → Wpl.Cl) (w : World) :
    Calls Tryd.prog 36 #[.slice av 0 cap] w fun e w' => e = .returned (.tuple #[.agg #[.int .i64 0, .int .i64 0, .int .i64 0, .int .i64 0, .int .i64 0], .bool false]) ∧ Below w.heap.size w w' := by
  go_enter Tryd.func36, Tryd.ntmps36
  go_wp2
  refine bodyPost_ret (v := .tuple #[.agg #[.int .i64 0, .int .i64 0, .int .i64 0, .int .i64 0, .int .i64 0], .bool false]) (by simp [results, Tryd.results36, go_sem]) rfl ⟨rfl, ?_⟩
  exact by with_reducible repeat (first | exact Below.refl _ _ | refine x3_below_drewN ?_ _ | refine Below.setCell ?_ (by first | (simp; done) | (simp; omega) | omega) _ | refine Below.drew ?_ | refine x3_below_end ?_ (by assumption) | refine x3_ball ?_ _)
theorem hull_row (av : Option Addr) (n cap : Nat) (F : Nat → Wpl.Cl) (w : World) (hn : n ≤ 1000000000000000) (hcap : n ≤ cap) (hcap2 : cap ≤ 9223372036854775807) (h : Row3 w av n F) :
    Calls Tryd.prog 36 #[.slice av n cap] w fun e w' => e = .returned (.tuple #[.agg #[.int .i64 (Wpl.hullV F n).s, .int .i64 (Wpl.hullV F n).t, .int .i64 (Wpl.hullV F n).l, .int .i64 (Wpl.hullV F n).b, .int .i64 (Wpl.hullV F n).r], .bool (Wpl.hullOk F n)]) ∧ Below w.heap.size w w' := by
  by_cases h0 : n = 0
  · subst h0
    exact hull_zero av cap F w
  · rcases h with h | ⟨bb, off, rfl, hb, hc⟩
    · omega
    · exact hull_any bb off n cap F w (by omega) hn hcap hcap2 hb hc

/-- The hull of the first j cells; zeros of none. -/
def hullW (F : Nat → Wpl.Cl) (j : Nat) : Wpl.Ar := if j = 0 then Wpl.nullA else Wpl.hullU F (j - 1)
theorem grow_one (c : Wpl.Cl) : Wpl.grow (Wpl.oneA c) c = Wpl.oneA c := by unfold Wpl.grow Wpl.oneA; simp

set_option maxRecDepth 100000 in
set_option maxHeartbeats 3200000 in
theorem rhull_row (av : Option Addr) (n cap : Nat) (F : Nat → Wpl.Cl) (w : World) (hn : n ≤ 1000000000000000) (h : Row3 w av n F) :
    Calls Tryd.prog 37 #[.slice av n cap] w fun e w' => e = .returned (.tuple #[.agg #[.int .i64 (Wpl.hullV F n).s, .int .i64 (Wpl.hullV F n).t, .int .i64 (Wpl.hullV F n).l, .int .i64 (Wpl.hullV F n).b, .int .i64 (Wpl.hullV F n).r], .bool (Wpl.hullOk F n)]) ∧ Below w.heap.size w w' := by
  have hh : Hid (Row3 w av n F) := h
  have EV : Hid (Wpl.hullV F n = if Wpl.hullOk F n then Wpl.hullU F (n - 1) else Wpl.nullA) := (rfl : Wpl.hullV F n = _)
  have EO : Hid (Wpl.hullOk F n = (decide (n ≠ 0) && !Wpl.anyN (F 0).s F n)) := (rfl : Wpl.hullOk F n = _)
  generalize Wpl.hullV F n = V at *
  generalize Wpl.hullOk F n = ok at *
  clear h
  have pR := AtL.new0 w 25 [.int .i64 0, .int .i64 0, .int .i64 0, .int .i64 0, .int .i64 0]
  have pA := AtL.new1 w (.cells #[.int .i64 0, .int .i64 0, .int .i64 0, .int .i64 0, .int .i64 0] 25) 25 [.int .i64 0, .int .i64 0, .int .i64 0, .int .i64 0, .int .i64 0]
  replace pR := AtL.alloc pR (.cells #[.int .i64 0, .int .i64 0, .int .i64 0, .int .i64 0, .int .i64 0] 25)
  have hB := x3_ball (x3_ball (Below.refl w.heap.size w) (.cells #[.int .i64 0, .int .i64 0, .int .i64 0, .int .i64 0, .int .i64 0] 25)) (.cells #[.int .i64 0, .int .i64 0, .int .i64 0, .int .i64 0, .int .i64 0] 25)
  go_enter Tryd.func37, Tryd.ntmps37
  go_wp2_with fail
  generalize (w.alloc (.cells #[.int .i64 0, .int .i64 0, .int .i64 0, .int .i64 0, .int .i64 0] 25)).alloc (.cells #[.int .i64 0, .int .i64 0, .int .i64 0, .int .i64 0, .int .i64 0] 25) = W at *
  go_loopw [5] (fun i wr => ∃ (j : Nat) (s t l b r : Int), j ≤ n ∧ i = .int .i64 j ∧ Hid (∀ m, m < j → Wpl.lacks (F 0).s (F m) = false) ∧ Hid (hullW F j = ⟨s, t, l, b, r⟩) ∧ Below w.heap.size w wr ∧ AtL wr w.heap.size [.int .i64 0, .int .i64 0, .int .i64 0, .int .i64 0, .int .i64 0] ∧ AtL wr (w.heap.size + 1) [.int .i64 s, .int .i64 t, .int .i64 l, .int .i64 b, .int .i64 r]) (fun i _ => n - (intOf i).toNat)
  case atStart => exact ⟨0, 0, 0, 0, 0, 0, Nat.zero_le _, rfl, (fun m hm => absurd hm (Nat.not_lt_zero _) : ∀ m, m < 0 → Wpl.lacks (F 0).s (F m) = false), (rfl : hullW F 0 = _), hB, pR, pA⟩
  case round =>
    clear pR pA hB
    obtain ⟨j, s, t, l, b, r, hj, rfl, HL, HW, hB, pR, pA⟩ := hrel
    by_cases hlt : j < n
    · have i1 : (j : Int) < (n : Int) := by omega
      have i0 : (0 : Int) < (n : Int) := by omega
      obtain ⟨bb, off, rfl, hbb, hcc⟩ : ∃ bb off, av = some ⟨bb, off, none⟩ ∧ bb < w.heap.size ∧ Cells w bb off n F := by
        rcases hh.out with h | h
        · omega
        · exact h
      obtain ⟨x0, x1, x2⟩ := hcc j hlt
      replace x0 := (hB.cell (p := ⟨bb, off + j * 3, none⟩) hbb).trans x0
      replace x1 := (hB.cell (p := ⟨bb, off + j * 3 + 1, none⟩) hbb).trans x1
      replace x2 := (hB.cell (p := ⟨bb, off + j * 3 + 2, none⟩) hbb).trans x2
      have z0 := (hcc 0 (by omega)).1
      rw [Nat.zero_mul, Nat.add_zero] at z0
      replace z0 := (hB.cell (p := ⟨bb, off, none⟩) hbb).trans z0
      have HK : Hid (Wpl.lacks (F 0).s (F j) = (decide ((F j).s ≠ (F 0).s) || !Wpl.rightC (F j).s (F j).r (F j).c)) := (rfl : Wpl.lacks (F 0).s (F j) = _)
      have HJ : Hid (j = 0 → (F j).s = (F 0).s) := fun e => by rw [e]
      have HG : Hid (hullW F (j + 1) = if j = 0 then ⟨(F j).s, (F j).r, (F j).c, (F j).r, (F j).c⟩ else ⟨s, min t (F j).r, min l (F j).c, max b (F j).r, max r (F j).c⟩) := by
        show _ = _
        unfold hullW
        rw [if_neg (by omega), Nat.add_sub_cancel]
        by_cases e : j = 0
        · subst e; rfl
        · rw [if_neg e]
          obtain ⟨i, rfl⟩ : ∃ i, j = i + 1 := ⟨j - 1, by omega⟩
          have := HW.out
          unfold hullW at this
          rw [if_neg (by omega), Nat.add_sub_cancel] at this
          show Wpl.grow (Wpl.hullU F i) (F (i + 1)) = _
          rw [this]
          rfl
      have HN : Hid (Wpl.lacks (F 0).s (F j) = true → V = Wpl.nullA ∧ ok = false) := fun e => by
        have e1 : ok = false := by rw [EO.out, Wpl.anyN_hit hlt e]; simp
        exact ⟨by rw [EV.out, e1]; rfl, e1⟩
      have RR := fun w => x3_rright_any (F j).s (F j).r (F j).c w
      have OO := fun w => rone_any (F j).s (F j).r (F j).c w
      have OV : Hid (Wpl.rightC (F j).s (F j).r (F j).c = true → oneV (F j).s (F j).r (F j).c = ⟨(F j).s, (F j).r, (F j).c, (F j).r, (F j).c⟩) := fun e => by unfold oneV; rw [e]; rfl
      clear hcc HW
      generalize hlk : Wpl.lacks (F 0).s (F j) = lk at *
      have HLK : Hid (Wpl.lacks (F 0).s (F j) = lk) := hlk
      clear hlk
      generalize oneV (F j).s (F j).r (F j).c = OA at *
      generalize Wpl.rightC (F j).s (F j).r (F j).c = rt at *
      generalize (F j).s = cs at *
      generalize (F j).r = cr at *
      generalize (F j).c = cc at *
      generalize hq : (F 0).s = q at *
      have Hq : Hid ((F 0).s = q) := hq
      clear hq
      have ka := pA.lt
      have kr := pR.lt
      have lbw : bb < wr.heap.size := Nat.lt_of_lt_of_le hbb hB.size
      go_wp2_with fail
      refine (RR _).mono ?_
      rintro e w1 ⟨rfl, hb1⟩
      replace pR := AtL.below hb1 (AtL.alloc pR _)
      replace pA := AtL.below hb1 (AtL.alloc pA _)
      have pC : AtL w1 wr.heap.size [.int .i64 cs, .int .i64 cr, .int .i64 cc] := AtL.below hb1 (AtL.new0 wr _ _)
      replace z0 := cell_below hb1 (cell_below ((Below.refl _ _).alloc (Nat.le_refl wr.heap.size) _) z0)
      have hB1 := x3_below_end (x3_ball hB _) hb1
      clear hb1 x0 x1 x2 RR hB
      generalize wr.heap.size = kC at *
      obtain ⟨c0, c1, c2⟩ := pC.f3
      cases rt with
      | false =>
        obtain ⟨rfl, rfl⟩ := HN.out (by rw [HK.out]; simp)
        go_wp2_with fail
        go_quiet (fail)
        obtain ⟨r0, r1, r2, r3, r4, f0, f1, f2, f3, f4⟩ := pR.five
        go_wp2
        refine bodyPost_ret (v := .tuple #[.agg #[.int .i64 0, .int .i64 0, .int .i64 0, .int .i64 0, .int .i64 0], .bool false]) (by simp [results, Tryd.results37, go_sem, r0, r1, r2, r3, r4]) rfl ⟨rfl, ?_⟩
        exact put5_below (x3_below_drewN hB1 _) (Nat.le_refl _) _ _ _ _ _
      | true =>
        by_cases hsq : cs = q
        · have LK : lk = false := by rw [HK.out]; simp [hsq]
          subst hsq
          replace OV := OV.out rfl
          clear HN HK
          subst OV
          have hne : (cs != cs) = false := by simp
          have LL : Hid (Wpl.lacks cs (F j) = false) := by show _ = _; rw [HLK.out, LK]
          clear HLK LK
          go_wp2_with fail
          go_quiet (fail)
          replace pA := AtL.below (x3_below_drewN (Below.refl _ _) nq) pA
          replace pR := AtL.below (x3_below_drewN (Below.refl _ _) nq) pR
          replace pC := AtL.below (x3_below_drewN (Below.refl _ _) nq) pC
          replace hB1 := x3_below_drewN hB1 nq
          clear z0 c0 c1 c2
          generalize w1.drewN nq = w2 at *
          have kC2 := pC.lt
          have HL' : Hid (∀ m, m < j + 1 → Wpl.lacks cs (F m) = false) := fun m hm => by
            by_cases e : m = j
            · rw [e]; exact LL.out
            · exact HL.out m (by omega)
          clear HL LL Hq
          obtain ⟨c0, c1, c2⟩ := pC.f3
          by_cases hj0 : j = 0
          · subst hj0
            rw [if_pos rfl] at HG
            clear HJ
            go_wp2_with fail
            refine (OO _).mono ?_
            rintro e w3 ⟨rfl, hb3⟩
            replace pA := AtL.below hb3 pA
            replace pR := AtL.below hb3 pR
            replace pC := AtL.below hb3 pC
            have hB3 := x3_below_end hB1 hb3
            clear hb3 hB1 c0 c1 c2 OO
            obtain ⟨c0, c1, c2⟩ := pC.f3
            obtain ⟨a0, a1, a2, a3, a4, f0, f1, f2, f3, f4⟩ := pA.five
            have n1 : ¬ kC = w.heap.size + 1 := by omega
            have n2 : ¬ w.heap.size + 1 = kC := by omega
            go_wp2_with fail
            clear c0 c1 c2 a0 a1 a2 a3 a4 f0 f1 f2 f3 f4
            go_roundw
            case rel =>
              refine ⟨1, cs, cr, cc, cr, cc, by omega, rfl, HL', HG, ?_, ?_, ?_⟩
              · exact ((((put5_below hB3 (by omega) _ _ _ _ _).setCell (p := ⟨w.heap.size + 1, 1, none⟩) (Nat.le_succ _) _).setCell (p := ⟨w.heap.size + 1, 3, none⟩) (Nat.le_succ _) _).setCell (p := ⟨w.heap.size + 1, 2, none⟩) (Nat.le_succ _) _).setCell (p := ⟨w.heap.size + 1, 4, none⟩) (Nat.le_succ _) _
              · exact ((((AtL.far5 pR (by omega) _ _ _ _ _).far (by omega) 1 _).far (by omega) 3 _).far (by omega) 2 _).far (by omega) 4 _
              · exact ((((AtL.put5 pA _ _ _ _ _).set 1 _).set 3 _).set 2 _).set 4 _
            case measure => simp [intOf]; omega
          · have hz : ((j : Int) == 0) = false := by simp; omega
            rw [if_neg hj0] at HG
            clear HJ OO
            have e1 := (Wpl.min_if t cr).symm
            have e2 := (Wpl.max_if b cr).symm
            have e3 := (Wpl.min_if l cc).symm
            have e4 := (Wpl.max_if r cc).symm
            generalize min t cr = t2 at *
            generalize max b cr = b2 at *
            generalize min l cc = l2 at *
            generalize max r cc = r2 at *
            obtain ⟨a0, a1, a2, a3, a4, f0, f1, f2, f3, f4⟩ := pA.five
            have n1 : ¬ kC = w.heap.size + 1 := by omega
            have n2 : ¬ w.heap.size + 1 = kC := by omega
            go_wp2_with fail
            clear c0 c1 c2 a0 a1 a2 a3 a4 f0 f1 f2 f3 f4 e1 e2 e3 e4
            go_roundw
            case rel =>
              refine ⟨j + 1, s, t2, l2, b2, r2, by omega, by go_num, HL', HG, ?_, ?_, ?_⟩
              · exact (((hB1.setCell (p := ⟨w.heap.size + 1, 1, none⟩) (Nat.le_succ _) _).setCell (p := ⟨w.heap.size + 1, 3, none⟩) (Nat.le_succ _) _).setCell (p := ⟨w.heap.size + 1, 2, none⟩) (Nat.le_succ _) _).setCell (p := ⟨w.heap.size + 1, 4, none⟩) (Nat.le_succ _) _
              · exact (((AtL.far pR (by omega) 1 _).far (by omega) 3 _).far (by omega) 2 _).far (by omega) 4 _
              · exact (((AtL.set pA 1 _).set 3 _).set 2 _).set 4 _
            case measure => simp [intOf]; omega
        · obtain ⟨rfl, rfl⟩ := HN.out (by rw [HK.out]; simp [hsq])
          have hne : (cs != q) = true := by simpa using hsq
          go_wp2_with fail
          go_quiet (fail)
          obtain ⟨r0, r1, r2, r3, r4, f0, f1, f2, f3, f4⟩ := pR.five
          go_wp2
          refine bodyPost_ret (v := .tuple #[.agg #[.int .i64 0, .int .i64 0, .int .i64 0, .int .i64 0, .int .i64 0], .bool false]) (by simp [results, Tryd.results37, go_sem, r0, r1, r2, r3, r4]) rfl ⟨rfl, ?_⟩
          exact put5_below (x3_below_drewN hB1 _) (Nat.le_refl _) _ _ _ _ _
    · have i1 : ¬ (j : Int) < (n : Int) := by omega
      obtain rfl : j = n := by omega
      have E1 : Hid (ok = decide ((0 : Int) < (j : Int))) := by
        show _ = _
        rw [EO.out, Wpl.anyN_miss HL.out, Bool.eq_iff_iff]; simp; omega
      have E2 : Hid (V = ⟨s, t, l, b, r⟩) := by
        show _ = _
        rw [EV.out, ← HW.out, EO.out, Wpl.anyN_miss HL.out]
        unfold hullW
        by_cases e : j = 0
        · subst e; rfl
        · rw [if_neg e, decide_eq_true e]; rfl
      obtain ⟨a0, a1, a2, a3, a4⟩ := pA.f5
      obtain ⟨r0, r1, r2, r3, r4, f0, f1, f2, f3, f4⟩ := pR.five
      go_wp2
      refine bodyPost_ret (v := .tuple #[.agg #[.int .i64 s, .int .i64 t, .int .i64 l, .int .i64 b, .int .i64 r], .bool (decide ((0 : Int) < (j : Int)))]) (by simp [results, Tryd.results37, go_sem, r0, r1, r2, r3, r4]) rfl ⟨by rw [E1.out, E2.out], ?_⟩
      exact put5_below hB (Nat.le_refl _) _ _ _ _ _
end Go.Proofs.YtdjhegmkmopnfaaDoor
