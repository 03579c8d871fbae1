/- MWalkB. -/
import Derived.Test.YthofehcchickeaaGreatDoorQ24
namespace Go.Proofs.YthofehcchickeaaGreatDoor
open Go.RowKit Go.Shelf
set_option linter.unusedVariables false
def zeroN : Wt.Nd := ⟨0, Wt.v0, 0, ⟨#[]⟩, 0, Wt.r0, Wt.r0⟩
set_option maxHeartbeats 4000000 in
set_option maxRecDepth 100000 in
theorem wnode_o (x y : Int) (n : Wt.Nd) (h2 : ¬ n.k = 2) (h3 : ¬ n.k = 3) (w : World) : Calls Tryz.prog 15 #[.agg #[.int .i64 x, .int .i64 y], .agg (nd20 n).toArray] w fun e w' => e = .returned (.agg (nd20 (mvN x y n)).toArray) ∧ Below w.heap.size w w' := by
  have hm : Hid (mvN x y n = n) := by show _ = _; unfold mvN; rw [if_neg h2, if_neg h3]
  rw [hm.out]
  clear hm
  have pB := ((AtL.new0 w 50 [.int .i64 x, .int .i64 y]).alloc (.cells (nd20 n).toArray 30)).alloc (.cells #[.int .i64 0, .int .i64 0, .int .i64 0, .int .i64 0, .string ⟨#[]⟩, .bool false, .int .i64 0, .int .i64 0, .string ⟨#[]⟩, .int .i64 0, .string ⟨#[]⟩, .int .i64 0, .int .i64 0, .bool false, .bool false, .string ⟨#[]⟩, .int .i64 0, .int .i64 0, .bool false, .bool false] 30)
  have pN := (AtL.new1 w (.cells #[.int .i64 x, .int .i64 y] 50) 30 (nd20 n)).alloc (.cells #[.int .i64 0, .int .i64 0, .int .i64 0, .int .i64 0, .string ⟨#[]⟩, .bool false, .int .i64 0, .int .i64 0, .string ⟨#[]⟩, .int .i64 0, .string ⟨#[]⟩, .int .i64 0, .int .i64 0, .bool false, .bool false, .string ⟨#[]⟩, .int .i64 0, .int .i64 0, .bool false, .bool false] 30)
  have pR : AtL (((w.alloc (.cells #[.int .i64 x, .int .i64 y] 50)).alloc (.cells (nd20 n).toArray 30)).alloc (.cells #[.int .i64 0, .int .i64 0, .int .i64 0, .int .i64 0, .string ⟨#[]⟩, .bool false, .int .i64 0, .int .i64 0, .string ⟨#[]⟩, .int .i64 0, .string ⟨#[]⟩, .int .i64 0, .int .i64 0, .bool false, .bool false, .string ⟨#[]⟩, .int .i64 0, .int .i64 0, .bool false, .bool false] 30)) (w.heap.size + 2) (nd20 zeroN) := AtL.new _ _ (by simp) _
  have hB := ball (ball (ball (Below.refl _ w) (.cells #[.int .i64 x, .int .i64 y] 50)) (.cells (nd20 n).toArray 30)) (.cells #[.int .i64 0, .int .i64 0, .int .i64 0, .int .i64 0, .string ⟨#[]⟩, .bool false, .int .i64 0, .int .i64 0, .string ⟨#[]⟩, .int .i64 0, .string ⟨#[]⟩, .int .i64 0, .int .i64 0, .bool false, .bool false, .string ⟨#[]⟩, .int .i64 0, .int .i64 0, .bool false, .bool false] 30)
  go_enter Tryz.func15, Tryz.ntmps15
  go_upto_region 1 with fail
  generalize (((w.alloc (.cells #[.int .i64 x, .int .i64 y] 50)).alloc (.cells (nd20 n).toArray 30)).alloc (.cells #[.int .i64 0, .int .i64 0, .int .i64 0, .int .i64 0, .string ⟨#[]⟩, .bool false, .int .i64 0, .int .i64 0, .string ⟨#[]⟩, .int .i64 0, .string ⟨#[]⟩, .int .i64 0, .int .i64 0, .bool false, .bool false, .string ⟨#[]⟩, .int .i64 0, .int .i64 0, .bool false, .bool false] 30)) = W at *
  obtain ⟨b0, b1, k0, k1⟩ := pB.two
  have n0 : W.cell? ⟨w.heap.size + 1, 0, none⟩ = some (.int .i64 n.k) := pN.2.1 0 _ rfl
  have rN : W.rangeAt (w.heap.size + 1) 0 (nd20 n) := pN.range
  have rT : W.there (w.heap.size + 2) 0 (nd20 n).toArray.size := pR.there
  go_wp2_with (first | ((with_reducible refine wpList_load_mid (cs := nd20 n) ?_ 30 (.tmp 3) ?_ (w.heap.size + 1) 0 ?_ _ ?_ Tryz.underlying30 ?_ ?_ ?_); rfl; rfl; rfl; exact rN; rfl; kernel_rfl) | ((with_reducible refine wpList_store_mid ?_ 30 (.tmp 4) (.tmp 50) ?_ (w.heap.size + 2) 0 (nd20 n).toArray ?_ ?_ ?_ ?_ ?_ ?_); rfl; rfl; rfl; rfl; exact rT; kernel_rfl; exact one20 _))
  have rR2 := AtL.setAll pR (vs := nd20 n) rfl
  refine bodyPost_ret (v := .agg (nd20 n).toArray) (results_cell (by rfl) _ _ (w.heap.size + 2) (nd20 n) _ (by rfl) rR2.range Tryz.underlying30 rfl (by kernel_rfl)) rfl ⟨rfl, ?_⟩
  exact bset hB (by omega) _ _
set_option maxHeartbeats 4000000 in
set_option maxRecDepth 100000 in
theorem wnode_2t (x y : Int) (n : Wt.Nd) (h2 : n.k = 2) (hq : okR x y n.a = true) (w : World) : Calls Tryz.prog 15 #[.agg #[.int .i64 x, .int .i64 y], .agg (nd20 n).toArray] w fun e w' => e = .returned (.agg (nd20 (mvN x y n)).toArray) ∧ Below w.heap.size w w' := by
  have C := fun w => wref_any x y n.a w
  have hm : Hid (mvN x y n = ⟨n.k, n.v, n.op, n.nm, n.ar, mvR x y n.a, n.b⟩) := by show _ = _; unfold mvN; rw [if_pos h2, hq]; rfl
  rw [hm.out]
  rw [hq] at C
  clear hm hq
  obtain ⟨n2, hn2⟩ : ∃ n2 : Wt.Nd, (⟨n.k, n.v, n.op, n.nm, n.ar, mvR x y n.a, n.b⟩ : Wt.Nd) = n2 := ⟨_, rfl⟩
  rw [hn2]
  have Hn2 : Hid ((⟨n.k, n.v, n.op, n.nm, n.ar, mvR x y n.a, n.b⟩ : Wt.Nd) = n2) := hn2
  clear hn2
  generalize mvR x y n.a = a' at *
  have pB := ((AtL.new0 w 50 [.int .i64 x, .int .i64 y]).alloc (.cells (nd20 n).toArray 30)).alloc (.cells #[.int .i64 0, .int .i64 0, .int .i64 0, .int .i64 0, .string ⟨#[]⟩, .bool false, .int .i64 0, .int .i64 0, .string ⟨#[]⟩, .int .i64 0, .string ⟨#[]⟩, .int .i64 0, .int .i64 0, .bool false, .bool false, .string ⟨#[]⟩, .int .i64 0, .int .i64 0, .bool false, .bool false] 30)
  have pN := (AtL.new1 w (.cells #[.int .i64 x, .int .i64 y] 50) 30 (nd20 n)).alloc (.cells #[.int .i64 0, .int .i64 0, .int .i64 0, .int .i64 0, .string ⟨#[]⟩, .bool false, .int .i64 0, .int .i64 0, .string ⟨#[]⟩, .int .i64 0, .string ⟨#[]⟩, .int .i64 0, .int .i64 0, .bool false, .bool false, .string ⟨#[]⟩, .int .i64 0, .int .i64 0, .bool false, .bool false] 30)
  have pR : AtL (((w.alloc (.cells #[.int .i64 x, .int .i64 y] 50)).alloc (.cells (nd20 n).toArray 30)).alloc (.cells #[.int .i64 0, .int .i64 0, .int .i64 0, .int .i64 0, .string ⟨#[]⟩, .bool false, .int .i64 0, .int .i64 0, .string ⟨#[]⟩, .int .i64 0, .string ⟨#[]⟩, .int .i64 0, .int .i64 0, .bool false, .bool false, .string ⟨#[]⟩, .int .i64 0, .int .i64 0, .bool false, .bool false] 30)) (w.heap.size + 2) (nd20 zeroN) := AtL.new _ _ (by simp) _
  have hB := ball (ball (ball (Below.refl _ w) (.cells #[.int .i64 x, .int .i64 y] 50)) (.cells (nd20 n).toArray 30)) (.cells #[.int .i64 0, .int .i64 0, .int .i64 0, .int .i64 0, .string ⟨#[]⟩, .bool false, .int .i64 0, .int .i64 0, .string ⟨#[]⟩, .int .i64 0, .string ⟨#[]⟩, .int .i64 0, .int .i64 0, .bool false, .bool false, .string ⟨#[]⟩, .int .i64 0, .int .i64 0, .bool false, .bool false] 30)
  go_enter Tryz.func15, Tryz.ntmps15
  go_upto_region 1 with fail
  generalize (((w.alloc (.cells #[.int .i64 x, .int .i64 y] 50)).alloc (.cells (nd20 n).toArray 30)).alloc (.cells #[.int .i64 0, .int .i64 0, .int .i64 0, .int .i64 0, .string ⟨#[]⟩, .bool false, .int .i64 0, .int .i64 0, .string ⟨#[]⟩, .int .i64 0, .string ⟨#[]⟩, .int .i64 0, .int .i64 0, .bool false, .bool false, .string ⟨#[]⟩, .int .i64 0, .int .i64 0, .bool false, .bool false] 30)) = W at *
  obtain ⟨b0, b1, k0, k1⟩ := pB.two
  have n0 : W.cell? ⟨w.heap.size + 1, 0, none⟩ = some (.int .i64 n.k) := pN.2.1 0 _ rfl
  have rA := nd_a pN
  rw [h2] at n0
  go_wp2_with ((with_reducible refine wpList_load_mid (cs := rf5 n.a) ?_ 28 (.tmp 16) ?_ (w.heap.size + 1) 10 ?_ _ ?_ Tryz.underlying28 ?_ ?_ ?_); rfl; rfl; rfl; exact rA; rfl; kernel_rfl)
  refine (C _).mono ?_
  rintro e w1 ⟨rfl, hb⟩
  have qN := AtL.below hb pN
  have qR := AtL.below hb pR
  have qB := below_end hB hb
  have sT : w1.there (w.heap.size + 1) 10 (rf5 a').toArray.size := qN.thereSub 10 5 (by show 10 + 5 ≤ 20; omega)
  have sN := nd_setA qN a'
  have sR := AtL.farAll qR (b := w.heap.size + 1) (by omega) 10 (rf5 a')
  have sB := bset qB (k := w.heap.size + 1) (by omega) (rf5 a') 10
  clear hb pN pR hB pB b0 b1 k0 k1 n0 rA C qN qR qB
  go_upto_region 9 with ((with_reducible refine wpList_store_mid ?_ 28 (.tmp 21) (.tmp 19) ?_ (w.heap.size + 1) 10 (rf5 a').toArray ?_ ?_ ?_ ?_ ?_ ?_); rfl; rfl; rfl; rfl; exact sT; kernel_rfl; exact one5 _)
  generalize w1.setCells (w.heap.size + 1) 10 (rf5 a').toArray.toList = W2 at *
  clear sT
  rw [Hn2.out] at sN
  have rN : W2.rangeAt (w.heap.size + 1) 0 (nd20 n2) := sN.range
  have rT : W2.there (w.heap.size + 2) 0 (nd20 n2).toArray.size := sR.there
  go_wp2_with (first | ((with_reducible refine wpList_load_mid (cs := nd20 n2) ?_ 30 (.tmp 3) ?_ (w.heap.size + 1) 0 ?_ _ ?_ Tryz.underlying30 ?_ ?_ ?_); rfl; rfl; rfl; exact rN; rfl; kernel_rfl) | ((with_reducible refine wpList_store_mid ?_ 30 (.tmp 4) (.tmp 50) ?_ (w.heap.size + 2) 0 (nd20 n2).toArray ?_ ?_ ?_ ?_ ?_ ?_); rfl; rfl; rfl; rfl; exact rT; kernel_rfl; exact one20 _))
  have rR2 := AtL.setAll sR (vs := nd20 n2) rfl
  refine bodyPost_ret (v := .agg (nd20 n2).toArray) (results_cell (by rfl) _ _ (w.heap.size + 2) (nd20 n2) _ (by rfl) rR2.range Tryz.underlying30 rfl (by kernel_rfl)) rfl ⟨rfl, ?_⟩
  exact bset sB (by omega) _ _
set_option maxHeartbeats 4000000 in
set_option maxRecDepth 100000 in
theorem wnode_2f (x y : Int) (n : Wt.Nd) (h2 : n.k = 2) (hq : okR x y n.a = false) (w : World) : Calls Tryz.prog 15 #[.agg #[.int .i64 x, .int .i64 y], .agg (nd20 n).toArray] w fun e w' => e = .returned (.agg (nd20 (mvN x y n)).toArray) ∧ Below w.heap.size w w' := by
  have C := fun w => wref_any x y n.a w
  have hm : Hid (mvN x y n = lostN) := by show _ = _; unfold mvN; rw [if_pos h2, hq]; rfl
  rw [hm.out]
  rw [hq] at C
  clear hm hq
  generalize mvR x y n.a = a' at *
  have pB := ((AtL.new0 w 50 [.int .i64 x, .int .i64 y]).alloc (.cells (nd20 n).toArray 30)).alloc (.cells #[.int .i64 0, .int .i64 0, .int .i64 0, .int .i64 0, .string ⟨#[]⟩, .bool false, .int .i64 0, .int .i64 0, .string ⟨#[]⟩, .int .i64 0, .string ⟨#[]⟩, .int .i64 0, .int .i64 0, .bool false, .bool false, .string ⟨#[]⟩, .int .i64 0, .int .i64 0, .bool false, .bool false] 30)
  have pN := (AtL.new1 w (.cells #[.int .i64 x, .int .i64 y] 50) 30 (nd20 n)).alloc (.cells #[.int .i64 0, .int .i64 0, .int .i64 0, .int .i64 0, .string ⟨#[]⟩, .bool false, .int .i64 0, .int .i64 0, .string ⟨#[]⟩, .int .i64 0, .string ⟨#[]⟩, .int .i64 0, .int .i64 0, .bool false, .bool false, .string ⟨#[]⟩, .int .i64 0, .int .i64 0, .bool false, .bool false] 30)
  have pR : AtL (((w.alloc (.cells #[.int .i64 x, .int .i64 y] 50)).alloc (.cells (nd20 n).toArray 30)).alloc (.cells #[.int .i64 0, .int .i64 0, .int .i64 0, .int .i64 0, .string ⟨#[]⟩, .bool false, .int .i64 0, .int .i64 0, .string ⟨#[]⟩, .int .i64 0, .string ⟨#[]⟩, .int .i64 0, .int .i64 0, .bool false, .bool false, .string ⟨#[]⟩, .int .i64 0, .int .i64 0, .bool false, .bool false] 30)) (w.heap.size + 2) (nd20 zeroN) := AtL.new _ _ (by simp) _
  have hB := ball (ball (ball (Below.refl _ w) (.cells #[.int .i64 x, .int .i64 y] 50)) (.cells (nd20 n).toArray 30)) (.cells #[.int .i64 0, .int .i64 0, .int .i64 0, .int .i64 0, .string ⟨#[]⟩, .bool false, .int .i64 0, .int .i64 0, .string ⟨#[]⟩, .int .i64 0, .string ⟨#[]⟩, .int .i64 0, .int .i64 0, .bool false, .bool false, .string ⟨#[]⟩, .int .i64 0, .int .i64 0, .bool false, .bool false] 30)
  go_enter Tryz.func15, Tryz.ntmps15
  go_upto_region 1 with fail
  generalize (((w.alloc (.cells #[.int .i64 x, .int .i64 y] 50)).alloc (.cells (nd20 n).toArray 30)).alloc (.cells #[.int .i64 0, .int .i64 0, .int .i64 0, .int .i64 0, .string ⟨#[]⟩, .bool false, .int .i64 0, .int .i64 0, .string ⟨#[]⟩, .int .i64 0, .string ⟨#[]⟩, .int .i64 0, .int .i64 0, .bool false, .bool false, .string ⟨#[]⟩, .int .i64 0, .int .i64 0, .bool false, .bool false] 30)) = W at *
  obtain ⟨b0, b1, k0, k1⟩ := pB.two
  have n0 : W.cell? ⟨w.heap.size + 1, 0, none⟩ = some (.int .i64 n.k) := pN.2.1 0 _ rfl
  have rA := nd_a pN
  rw [h2] at n0
  go_wp2_with ((with_reducible refine wpList_load_mid (cs := rf5 n.a) ?_ 28 (.tmp 16) ?_ (w.heap.size + 1) 10 ?_ _ ?_ Tryz.underlying28 ?_ ?_ ?_); rfl; rfl; rfl; exact rA; rfl; kernel_rfl)
  refine (C _).mono ?_
  rintro e w1 ⟨rfl, hb⟩
  have qN := AtL.below hb pN
  have qR := AtL.below hb pR
  have qB := below_end hB hb
  have sT : w1.there (w.heap.size + 1) 10 (rf5 a').toArray.size := qN.thereSub 10 5 (by show 10 + 5 ≤ 20; omega)
  have sN := nd_setA qN a'
  have sR := AtL.farAll qR (b := w.heap.size + 1) (by omega) 10 (rf5 a')
  have sB := bset qB (k := w.heap.size + 1) (by omega) (rf5 a') 10
  clear hb pN pR hB pB b0 b1 k0 k1 n0 rA C qN qR qB
  go_upto_region 9 with ((with_reducible refine wpList_store_mid ?_ 28 (.tmp 21) (.tmp 19) ?_ (w.heap.size + 1) 10 (rf5 a').toArray ?_ ?_ ?_ ?_ ?_ ?_); rfl; rfl; rfl; rfl; exact sT; kernel_rfl; exact one5 _)
  generalize w1.setCells (w.heap.size + 1) 10 (rf5 a').toArray.toList = W2 at *
  clear sT
  have VF := fun w => vFault_any 3 w
  have ev : vlV (vFault 3) = .agg #[.int .i64 4, .int .i64 0, .int .i64 0, .string ⟨#[]⟩, .bool false, .int .i64 3] := rfl
  rw [ev] at VF
  clear ev
  go_wp2_with fail
  refine (VF _).mono ?_
  rintro e w9 ⟨rfl, hb9⟩
  have rR := AtL.below hb9 sR
  have rB := below_end sB hb9
  have rT : w9.there (w.heap.size + 2) 0 (nd20 lostN).toArray.size := rR.there
  go_wp2_with ((with_reducible refine wpList_store_mid ?_ 30 (.tmp 4) (.tmp 49) ?_ (w.heap.size + 2) 0 (nd20 lostN).toArray ?_ ?_ ?_ ?_ ?_ ?_); rfl; rfl; rfl; rfl; exact rT; kernel_rfl; exact one20 _)
  have rR2 := AtL.setAll rR (vs := nd20 lostN) rfl
  refine bodyPost_ret (v := .agg (nd20 lostN).toArray) (results_cell (by rfl) _ _ (w.heap.size + 2) (nd20 lostN) _ (by rfl) rR2.range Tryz.underlying30 rfl (by kernel_rfl)) rfl ⟨rfl, ?_⟩
  exact bset rB (by omega) _ _
end Go.Proofs.YthofehcchickeaaGreatDoor
