/- The contract of Hull. -/
import Derived.Test.YtdjhegmkmopnfabDoorPWalkB
namespace Go.Proofs.YtdjhegmkmopnfabDoor
open Go.RowKit
set_option linter.unusedVariables false

set_option maxHeartbeats 1600000 in
theorem hull_none (blk off n cap : Nat) (F : Nat → Wpl.Cl) (w : World) (hn0 : 0 < n) (hn : n ≤ 1000000000000000) (hcap : n ≤ cap) (hcap2 : cap ≤ 9223372036854775807) (hb : blk < w.heap.size) (hc : Cells w blk off n F) (hA : Wpl.anyN (F 0).s F n = true) :
    Calls Tryd.prog 23 #[.slice (some ⟨blk, off, none⟩) n cap] w fun e w' => e = .returned (.tuple #[.agg #[.int .i64 (Wpl.hullV F n).s, .int .i64 (Wpl.hullV F n).t, .int .i64 (Wpl.hullV F n).l, .int .i64 (Wpl.hullV F n).b, .int .i64 (Wpl.hullV F n).r], .bool (Wpl.hullOk F n)]) ∧ Below w.heap.size w w' := by
  obtain ⟨x0, x1, x2⟩ := hc 0 hn0
  simp only [Nat.zero_mul, Nat.add_zero] at x0 x1 x2
  have hmf : ∀ (fn : Fn) (first cap : Array Value) (w : World), (Instr.makeFunc fn first cap).run Tryd.prog w = .ok (.func fn first cap) w := fun _ _ _ _ => rfl
  have C := fun w h1 h2 => contains_any (F 0).s blk off n cap F w hn h1 h2
  rw [hA] at C
  have HA : Hid (Wpl.anyN (F 0).s F n = true) := hA
  clear hA
  have E0 : Hid (Wpl.hullU F 0 = ⟨(F 0).s, (F 0).r, (F 0).c, (F 0).r, (F 0).c⟩) := (rfl : Wpl.hullU F 0 = ⟨(F 0).s, (F 0).r, (F 0).c, (F 0).r, (F 0).c⟩)
  have HO : Hid (Wpl.hullOk F n = false) := by show _ = _; unfold Wpl.hullOk; rw [HA.out, decide_eq_true (show n ≠ 0 by omega)]; rfl
  have HV : Hid (Wpl.hullV F n = Wpl.nullA) := by show _ = _; unfold Wpl.hullV; rw [HO.out]; rfl
  clear HA
  generalize (F 0).s = s0 at *
  generalize (F 0).r = r0 at *
  generalize (F 0).c = c0 at *
  have hnz : ((n : Int) == 0) = false := by simp; omega
  go_enter Tryd.func23, Tryd.ntmps23
  go_wp2_with fail
  refine (C _ (by simp [go_sem]; omega) (hc.below hb ((Below.refl _ _).alloc (Nat.le_refl _) _))).mono ?_
  rintro e w1 ⟨rfl, hb1⟩
  have pR : AtL w1 w.heap.size [.int .i64 0, .int .i64 0, .int .i64 0, .int .i64 0, .int .i64 0] := AtL.below hb1 (AtL.new w _ rfl _)
  have hB : Below w.heap.size w w1 := by with_reducible repeat (first | exact Below.refl _ _ | refine x3_below_drewN ?_ _ | refine Below.setCell ?_ (by first | (simp; done) | (simp; omega) | omega) _ | refine Below.drew ?_ | refine x3_below_end ?_ (by assumption) | refine x3_ball ?_ _)
  clear hb1
  obtain ⟨r0', r1, r2, r3, r4, _, _, _, _, _⟩ := pR.five
  go_wp2
  refine bodyPost_ret (v := .tuple #[.agg #[.int .i64 0, .int .i64 0, .int .i64 0, .int .i64 0, .int .i64 0], .bool false]) (by simp [results, Tryd.results23, go_sem, r0', r1, r2, r3, r4]) rfl ⟨by rw [HV.out, HO.out]; rfl, ?_⟩
  exact put5_below hB (Nat.le_refl _) _ _ _ _ _

set_option maxHeartbeats 1600000 in
theorem hull_one (blk off n cap : Nat) (F : Nat → Wpl.Cl) (w : World) (hn0 : 0 < n) (hn : n ≤ 1000000000000000) (hcap : n ≤ cap) (hcap2 : cap ≤ 9223372036854775807) (hb : blk < w.heap.size) (hc : Cells w blk off n F) (hA : Wpl.anyN (F 0).s F n = false) (hc1 : cap = 1) :
    Calls Tryd.prog 23 #[.slice (some ⟨blk, off, none⟩) n cap] w fun e w' => e = .returned (.tuple #[.agg #[.int .i64 (Wpl.hullV F n).s, .int .i64 (Wpl.hullV F n).t, .int .i64 (Wpl.hullV F n).l, .int .i64 (Wpl.hullV F n).b, .int .i64 (Wpl.hullV F n).r], .bool (Wpl.hullOk F n)]) ∧ Below w.heap.size w w' := by
  subst hc1
  obtain ⟨x0, x1, x2⟩ := hc 0 hn0
  simp only [Nat.zero_mul, Nat.add_zero] at x0 x1 x2
  have hmf : ∀ (fn : Fn) (first cap : Array Value) (w : World), (Instr.makeFunc fn first cap).run Tryd.prog w = .ok (.func fn first cap) w := fun _ _ _ _ => rfl
  have C := fun w h1 h2 => contains_any (F 0).s blk off n 1 F w hn h1 h2
  rw [hA] at C
  have HA : Hid (Wpl.anyN (F 0).s F n = false) := hA
  clear hA
  have E0 : Hid (Wpl.hullU F 0 = ⟨(F 0).s, (F 0).r, (F 0).c, (F 0).r, (F 0).c⟩) := (rfl : Wpl.hullU F 0 = ⟨(F 0).s, (F 0).r, (F 0).c, (F 0).r, (F 0).c⟩)
  have HO : Hid (Wpl.hullOk F n = true) := by show _ = _; unfold Wpl.hullOk; rw [HA.out, decide_eq_true (show n ≠ 0 by omega)]; rfl
  have HV : Hid (Wpl.hullV F n = Wpl.hullU F (n - 1)) := by show _ = _; unfold Wpl.hullV; rw [HO.out]; rfl
  clear HA
  generalize (F 0).s = s0 at *
  generalize (F 0).r = r0 at *
  generalize (F 0).c = c0 at *
  have hnz : ((n : Int) == 0) = false := by simp; omega
  go_enter Tryd.func23, Tryd.ntmps23
  go_wp2_with fail
  refine (C _ (by simp [go_sem]; omega) (hc.below hb ((Below.refl _ _).alloc (Nat.le_refl _) _))).mono ?_
  rintro e w1 ⟨rfl, hb1⟩
  have pR : AtL w1 w.heap.size [.int .i64 0, .int .i64 0, .int .i64 0, .int .i64 0, .int .i64 0] := AtL.below hb1 (AtL.new w _ rfl _)
  have hB : Below w.heap.size w w1 := by with_reducible repeat (first | exact Below.refl _ _ | refine x3_below_drewN ?_ _ | refine Below.setCell ?_ (by first | (simp; done) | (simp; omega) | omega) _ | refine Below.drew ?_ | refine x3_below_end ?_ (by assumption) | refine x3_ball ?_ _)
  have y0 : w1.cell? ⟨blk, off, none⟩ = some (.int .i64 s0) := (hB.cell (p := ⟨blk, off, none⟩) hb).trans x0
  have y1 : w1.cell? ⟨blk, off + 1, none⟩ = some (.int .i64 r0) := (hB.cell (p := ⟨blk, off + 1, none⟩) hb).trans x1
  have y2 : w1.cell? ⟨blk, off + 2, none⟩ = some (.int .i64 c0) := (hB.cell (p := ⟨blk, off + 2, none⟩) hb).trans x2
  have hb' : blk < w1.heap.size := Nat.lt_of_lt_of_le hb hB.size
  have hz1 := hB.size
  clear hb1 x0 x1 x2 C
  go_wp2_with fail
  have pA : AtL ((w1.alloc (.cells #[.int .i64 s0, .int .i64 r0, .int .i64 c0] 23)).alloc (.cells #[.int .i64 s0, .int .i64 r0, .int .i64 c0, .int .i64 r0, .int .i64 c0] 25)) (w1.heap.size + 1) [.int .i64 s0, .int .i64 r0, .int .i64 c0, .int .i64 r0, .int .i64 c0] := AtL.new (w1.alloc _) _ (by simp [go_sem]) _
  have pR' := (pR.alloc (.cells #[.int .i64 s0, .int .i64 r0, .int .i64 c0] 23)).alloc (.cells #[.int .i64 s0, .int .i64 r0, .int .i64 c0, .int .i64 r0, .int .i64 c0] 25)
  have pB := x3_ball (x3_ball hB (.cells #[.int .i64 s0, .int .i64 r0, .int .i64 c0] 23)) (.cells #[.int .i64 s0, .int .i64 r0, .int .i64 c0, .int .i64 r0, .int .i64 c0] 25)
  clear y0 y1 y2 pR hB
  generalize hk : w1.heap.size + 1 = k at *
  have hkw : w.heap.size < k := by omega
  generalize (w1.alloc (.cells #[.int .i64 s0, .int .i64 r0, .int .i64 c0] 23)).alloc (.cells #[.int .i64 s0, .int .i64 r0, .int .i64 c0, .int .i64 r0, .int .i64 c0] 25) = W2 at *
  go_loopw [7, 38] (fun _ i wr => ∃ (j : Nat) (t l b r : Int), j ≤ n - 1 ∧ i = .int .i64 j ∧ Hid (Wpl.hullU F j = ⟨s0, t, l, b, r⟩) ∧ Below w.heap.size w wr ∧ AtL wr w.heap.size [.int .i64 0, .int .i64 0, .int .i64 0, .int .i64 0, .int .i64 0] ∧ AtL wr k [.int .i64 s0, .int .i64 t, .int .i64 l, .int .i64 b, .int .i64 r]) (fun _ i _ => n - (intOf i).toNat)
  case atStart => exact ⟨0, r0, c0, r0, c0, Nat.zero_le _, rfl, E0, pB, pR', pA⟩
  case round =>
    clear pB pR' pA
    obtain ⟨j, t, l, b, r, hj, rfl, E, qB, qR, qA⟩ := hrel
    · have hltz : ¬ (j : Int) < ((n - 1 : Nat) : Int) := by omega
      have hj' : j = n - 1 := by omega
      have HV' : Hid (Wpl.hullV F n = ⟨s0, t, l, b, r⟩) := by show _ = _; rw [HV.out, ← hj', E.out]
      clear hj' E HV
      have sR := qR.put5 (.int .i64 s0) (.int .i64 t) (.int .i64 l) (.int .i64 b) (.int .i64 r)
      have sB := put5_below qB (Nat.le_refl w.heap.size) (.int .i64 s0) (.int .i64 t) (.int .i64 l) (.int .i64 b) (.int .i64 r)
      obtain ⟨a0, a1, a2, a3, a4, f0, f1, f2, f3, f4⟩ := qA.five
      obtain ⟨z0, z1, z2, z3, z4, g0, g1, g2, g3, g4⟩ := qR.five
      go_wp2
      obtain ⟨r0', r1, r2, r3, r4, _, _, _, _, _⟩ := sR.five
      refine bodyPost_ret (v := .tuple #[.agg #[.int .i64 s0, .int .i64 t, .int .i64 l, .int .i64 b, .int .i64 r], .bool true]) (by simp [results, Tryd.results23, go_sem, z0, z1, z2, z3, z4]) rfl ⟨by rw [HV'.out, HO.out], ?_⟩
      exact sB

set_option maxHeartbeats 1600000 in
theorem hull_many (blk off n cap : Nat) (F : Nat → Wpl.Cl) (w : World) (hn0 : 0 < n) (hn : n ≤ 1000000000000000) (hcap : n ≤ cap) (hcap2 : cap ≤ 9223372036854775807) (hb : blk < w.heap.size) (hc : Cells w blk off n F) (hA : Wpl.anyN (F 0).s F n = false) (hc1 : ¬ cap = 1) :
    Calls Tryd.prog 23 #[.slice (some ⟨blk, off, none⟩) n cap] w fun e w' => e = .returned (.tuple #[.agg #[.int .i64 (Wpl.hullV F n).s, .int .i64 (Wpl.hullV F n).t, .int .i64 (Wpl.hullV F n).l, .int .i64 (Wpl.hullV F n).b, .int .i64 (Wpl.hullV F n).r], .bool (Wpl.hullOk F n)]) ∧ Below w.heap.size w w' := by
  obtain ⟨x0, x1, x2⟩ := hc 0 hn0
  simp only [Nat.zero_mul, Nat.add_zero] at x0 x1 x2
  have hmf : ∀ (fn : Fn) (first cap : Array Value) (w : World), (Instr.makeFunc fn first cap).run Tryd.prog w = .ok (.func fn first cap) w := fun _ _ _ _ => rfl
  have C := fun w h1 h2 => contains_any (F 0).s blk off n cap F w hn h1 h2
  rw [hA] at C
  have HA : Hid (Wpl.anyN (F 0).s F n = false) := hA
  clear hA
  have E0 : Hid (Wpl.hullU F 0 = ⟨(F 0).s, (F 0).r, (F 0).c, (F 0).r, (F 0).c⟩) := (rfl : Wpl.hullU F 0 = ⟨(F 0).s, (F 0).r, (F 0).c, (F 0).r, (F 0).c⟩)
  have HO : Hid (Wpl.hullOk F n = true) := by show _ = _; unfold Wpl.hullOk; rw [HA.out, decide_eq_true (show n ≠ 0 by omega)]; rfl
  have HV : Hid (Wpl.hullV F n = Wpl.hullU F (n - 1)) := by show _ = _; unfold Wpl.hullV; rw [HO.out]; rfl
  clear HA
  generalize (F 0).s = s0 at *
  generalize (F 0).r = r0 at *
  generalize (F 0).c = c0 at *
  have hnz : ((n : Int) == 0) = false := by simp; omega
  go_enter Tryd.func23, Tryd.ntmps23
  go_wp2_with fail
  refine (C _ (by simp [go_sem]; omega) (hc.below hb ((Below.refl _ _).alloc (Nat.le_refl _) _))).mono ?_
  rintro e w1 ⟨rfl, hb1⟩
  have pR : AtL w1 w.heap.size [.int .i64 0, .int .i64 0, .int .i64 0, .int .i64 0, .int .i64 0] := AtL.below hb1 (AtL.new w _ rfl _)
  have hB : Below w.heap.size w w1 := by with_reducible repeat (first | exact Below.refl _ _ | refine x3_below_drewN ?_ _ | refine Below.setCell ?_ (by first | (simp; done) | (simp; omega) | omega) _ | refine Below.drew ?_ | refine x3_below_end ?_ (by assumption) | refine x3_ball ?_ _)
  have y0 : w1.cell? ⟨blk, off, none⟩ = some (.int .i64 s0) := (hB.cell (p := ⟨blk, off, none⟩) hb).trans x0
  have y1 : w1.cell? ⟨blk, off + 1, none⟩ = some (.int .i64 r0) := (hB.cell (p := ⟨blk, off + 1, none⟩) hb).trans x1
  have y2 : w1.cell? ⟨blk, off + 2, none⟩ = some (.int .i64 c0) := (hB.cell (p := ⟨blk, off + 2, none⟩) hb).trans x2
  have hb' : blk < w1.heap.size := Nat.lt_of_lt_of_le hb hB.size
  have hz1 := hB.size
  clear hb1 x0 x1 x2 C
  go_wp2_with fail
  have pA : AtL ((w1.alloc (.cells #[.int .i64 s0, .int .i64 r0, .int .i64 c0] 23)).alloc (.cells #[.int .i64 s0, .int .i64 r0, .int .i64 c0, .int .i64 r0, .int .i64 c0] 25)) (w1.heap.size + 1) [.int .i64 s0, .int .i64 r0, .int .i64 c0, .int .i64 r0, .int .i64 c0] := AtL.new (w1.alloc _) _ (by simp [go_sem]) _
  have pR' := (pR.alloc (.cells #[.int .i64 s0, .int .i64 r0, .int .i64 c0] 23)).alloc (.cells #[.int .i64 s0, .int .i64 r0, .int .i64 c0, .int .i64 r0, .int .i64 c0] 25)
  have pB := x3_ball (x3_ball hB (.cells #[.int .i64 s0, .int .i64 r0, .int .i64 c0] 23)) (.cells #[.int .i64 s0, .int .i64 r0, .int .i64 c0, .int .i64 r0, .int .i64 c0] 25)
  clear y0 y1 y2 pR hB
  generalize hk : w1.heap.size + 1 = k at *
  have hkw : w.heap.size < k := by omega
  generalize (w1.alloc (.cells #[.int .i64 s0, .int .i64 r0, .int .i64 c0] 23)).alloc (.cells #[.int .i64 s0, .int .i64 r0, .int .i64 c0, .int .i64 r0, .int .i64 c0] 25) = W2 at *
  go_loopw [7, 38] (fun _ i wr => ∃ (j : Nat) (t l b r : Int), j ≤ n - 1 ∧ i = .int .i64 j ∧ Hid (Wpl.hullU F j = ⟨s0, t, l, b, r⟩) ∧ Below w.heap.size w wr ∧ AtL wr w.heap.size [.int .i64 0, .int .i64 0, .int .i64 0, .int .i64 0, .int .i64 0] ∧ AtL wr k [.int .i64 s0, .int .i64 t, .int .i64 l, .int .i64 b, .int .i64 r]) (fun _ i _ => n - (intOf i).toNat)
  case atStart => exact ⟨0, r0, c0, r0, c0, Nat.zero_le _, rfl, E0, pB, pR', pA⟩
  case round =>
    clear pB pR' pA
    obtain ⟨j, t, l, b, r, hj, rfl, E, qB, qR, qA⟩ := hrel
    by_cases hlt : j < n - 1
    · have hltz : (j : Int) < ((n - 1 : Nat) : Int) := by omega
      obtain ⟨x0, x1, x2⟩ := hc (j + 1) (by omega)
      have y0 : wr.cell? ⟨blk, off + 3 + j * 3, none⟩ = some (.int .i64 (F (j + 1)).s) := by
        have := (qB.cell (p := ⟨blk, off + (j + 1) * 3, none⟩) hb).trans x0
        rwa [show off + (j + 1) * 3 = off + 3 + j * 3 by omega] at this
      have y1 : wr.cell? ⟨blk, off + 3 + j * 3 + 1, none⟩ = some (.int .i64 (F (j + 1)).r) := by
        have := (qB.cell (p := ⟨blk, off + (j + 1) * 3 + 1, none⟩) hb).trans x1
        rwa [show off + (j + 1) * 3 + 1 = off + 3 + j * 3 + 1 by omega] at this
      have y2 : wr.cell? ⟨blk, off + 3 + j * 3 + 2, none⟩ = some (.int .i64 (F (j + 1)).c) := by
        have := (qB.cell (p := ⟨blk, off + (j + 1) * 3 + 2, none⟩) hb).trans x2
        rwa [show off + (j + 1) * 3 + 2 = off + 3 + j * 3 + 2 by omega] at this
      have E1 : Hid (Wpl.hullU F (j + 1) = ⟨s0, min t (F (j + 1)).r, min l (F (j + 1)).c, max b (F (j + 1)).r, max r (F (j + 1)).c⟩) := by show Wpl.grow (Wpl.hullU F j) (F (j + 1)) = _; rw [E.out]; rfl
      clear x0 x1 x2 E
      generalize (F (j + 1)).s = sj at *
      generalize (F (j + 1)).r = rj at *
      generalize (F (j + 1)).c = cj at *
      have sA := qA.alloc (.cells #[.int .i64 sj, .int .i64 rj, .int .i64 cj] 23)
      have sR := qR.alloc (.cells #[.int .i64 sj, .int .i64 rj, .int .i64 cj] 23)
      have sC : AtL (wr.alloc (.cells #[.int .i64 sj, .int .i64 rj, .int .i64 cj] 23)) wr.heap.size [.int .i64 sj, .int .i64 rj, .int .i64 cj] := AtL.new wr _ rfl _
      have sB := x3_ball qB (.cells #[.int .i64 sj, .int .i64 rj, .int .i64 cj] 23)
      have hkr : k < wr.heap.size := qA.lt
      go_upto_region 8 with fail
      clear qA qR qB y0 y1 y2
      generalize wr.alloc (.cells #[.int .i64 sj, .int .i64 rj, .int .i64 cj] 23) = W3 at *
      generalize wr.heap.size = kc at *
      obtain ⟨a0, a1, a2, a3, a4, f0, f1, f2, f3, f4⟩ := sA.five
      obtain ⟨z0, z1, z2, g0, g1, g2⟩ := sC.three
      have hkc : ¬ kc = k := by omega
      go_cut [] (fun wx => Below w.heap.size w wx ∧ AtL wx w.heap.size [.int .i64 0, .int .i64 0, .int .i64 0, .int .i64 0, .int .i64 0] ∧ AtL wx kc [.int .i64 sj, .int .i64 rj, .int .i64 cj] ∧ ∃ t' b' : Int, Hid (t' = min t rj) ∧ Hid (b' = max b rj) ∧ AtL wx k [.int .i64 s0, .int .i64 t', .int .i64 l, .int .i64 b', .int .i64 r])
      case first =>
        go_region
        go_wp2_with fail
        all_goals go_meet
        all_goals
          clear a0 a1 a2 a3 a4 f0 f1 f2 f3 f4 z0 z1 z2 g0 g1 g2
          refine ⟨((sB.setCell (p := ⟨k, 1, none⟩) (by show w.heap.size ≤ k; omega) _).setCell (p := ⟨k, 3, none⟩) (by show w.heap.size ≤ k; omega) _).drew, ((sR.far (j := k) (by omega) 1 _).far (j := k) (by omega) 3 _).drew, ((sC.far (j := k) (by omega) 1 _).far (j := k) (by omega) 3 _).drew, _, _, ?_, ?_, ((sA.set 1 _).set 3 _).drew⟩
          · go_light; show _ = _; omega
          · go_light; show _ = _; omega
      case rest =>
      clear sA sR sC sB a0 a1 a2 a3 a4 f0 f1 f2 f3 f4 z0 z1 z2 g0 g1 g2
      obtain ⟨tB, tR, tC, t', b', Et, Eb, tA⟩ := hcut
      rw [← Et.out, ← Eb.out] at E1
      clear Et Eb
      go_upto_region 9 with fail
      obtain ⟨a0, a1, a2, a3, a4, f0, f1, f2, f3, f4⟩ := AtL.five tA
      obtain ⟨z0, z1, z2, g0, g1, g2⟩ := tC.three
      refine last_of fun K9 hK9 => ?_
      go_cut [] (fun wx => Below w.heap.size w wx ∧ AtL wx w.heap.size [.int .i64 0, .int .i64 0, .int .i64 0, .int .i64 0, .int .i64 0] ∧ ∃ l' r' : Int, Hid (l' = min l cj) ∧ Hid (r' = max r cj) ∧ AtL wx k [.int .i64 s0, .int .i64 t', .int .i64 l', .int .i64 b', .int .i64 r'])
      case first =>
        go_region
        go_wp2_with fail
        all_goals go_meet
        all_goals
          clear a0 a1 a2 a3 a4 f0 f1 f2 f3 f4 z0 z1 z2 g0 g1 g2
          refine ⟨((tB.setCell (p := ⟨k, 2, none⟩) (by show w.heap.size ≤ k; omega) _).setCell (p := ⟨k, 4, none⟩) (by show w.heap.size ≤ k; omega) _).drew, ((tR.far (j := k) (by omega) 2 _).far (j := k) (by omega) 4 _).drew, _, _, ?_, ?_, ((AtL.set tA 2 _).set 4 _).drew⟩
          · go_light; show _ = _; omega
          · go_light; show _ = _; omega
      case rest =>
      obtain ⟨vB, vR, l', r', El, Er, vA⟩ := hcut
      rw [← El.out, ← Er.out] at E1
      clear El Er
      clear tB tR tA tC a0 a1 a2 a3 a4 f0 f1 f2 f3 f4 z0 z1 z2 g0 g1 g2
      refine hK9 _ _ ?_
      go_wp2_with fail
      go_roundw
      case rel =>
        exact ⟨j + 1, t', l', b', r', by omega, by go_num, E1, vB, vR, vA⟩
      case measure => simp [intOf]; omega
    · have hltz : ¬ (j : Int) < ((n - 1 : Nat) : Int) := by omega
      have hj' : j = n - 1 := by omega
      have HV' : Hid (Wpl.hullV F n = ⟨s0, t, l, b, r⟩) := by show _ = _; rw [HV.out, ← hj', E.out]
      clear hj' E HV
      have sR := qR.put5 (.int .i64 s0) (.int .i64 t) (.int .i64 l) (.int .i64 b) (.int .i64 r)
      have sB := put5_below qB (Nat.le_refl w.heap.size) (.int .i64 s0) (.int .i64 t) (.int .i64 l) (.int .i64 b) (.int .i64 r)
      obtain ⟨a0, a1, a2, a3, a4, f0, f1, f2, f3, f4⟩ := qA.five
      obtain ⟨z0, z1, z2, z3, z4, g0, g1, g2, g3, g4⟩ := qR.five
      go_wp2
      obtain ⟨r0', r1, r2, r3, r4, _, _, _, _, _⟩ := sR.five
      refine bodyPost_ret (v := .tuple #[.agg #[.int .i64 s0, .int .i64 t, .int .i64 l, .int .i64 b, .int .i64 r], .bool true]) (by simp [results, Tryd.results23, go_sem, z0, z1, z2, z3, z4]) rfl ⟨by rw [HV'.out, HO.out], ?_⟩
      exact sB

set_option maxHeartbeats 1600000 in
theorem hull_any (blk off n cap : Nat) (F : Nat → Wpl.Cl) (w : World) (hn0 : 0 < n) (hn : n ≤ 1000000000000000) (hcap : n ≤ cap) (hcap2 : cap ≤ 9223372036854775807) (hb : blk < w.heap.size) (hc : Cells w blk off n F) :
    Calls Tryd.prog 23 #[.slice (some ⟨blk, off, none⟩) n cap] w fun e w' => e = .returned (.tuple #[.agg #[.int .i64 (Wpl.hullV F n).s, .int .i64 (Wpl.hullV F n).t, .int .i64 (Wpl.hullV F n).l, .int .i64 (Wpl.hullV F n).b, .int .i64 (Wpl.hullV F n).r], .bool (Wpl.hullOk F n)]) ∧ Below w.heap.size w w' := by
  cases hA : Wpl.anyN (F 0).s F n with
  | true => exact hull_none blk off n cap F w hn0 hn hcap hcap2 hb hc hA
  | false =>
    by_cases h1 : cap = 1
    · exact hull_one blk off n cap F w hn0 hn hcap hcap2 hb hc hA h1
    · exact hull_many blk off n cap F w hn0 hn hcap hcap2 hb hc hA h1
end Go.Proofs.YtdjhegmkmopnfabDoor
