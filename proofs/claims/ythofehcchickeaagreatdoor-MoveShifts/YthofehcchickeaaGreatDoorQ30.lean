/- TRefC. -/
import Derived.Test.YthofehcchickeaaGreatDoorQ29
import Derived.BigQuiet
namespace Go.Proofs.YthofehcchickeaaGreatDoor
open Go.RowKit
set_option linter.unusedVariables false
def nps (x : Wt.Nd) : Int := if x.k = 4 then 1 else if x.k = 5 then 2 else if x.k = 6 then x.ar else 0
theorem nps_parts {x : Wt.Nd} (h : Wt.right x = true) : nps x = Wt.parts x := by
  unfold Wt.right at h
  unfold Wt.parts nps
  by_cases h4 : x.k = 4
  · rw [if_pos h4, if_pos h4]
  rw [if_neg h4, if_neg h4]
  by_cases h5 : x.k = 5
  · rw [if_pos h5, if_pos h5]
  rw [if_neg h5, if_neg h5]
  by_cases h6 : x.k = 6
  · rw [if_pos h6]
  rw [if_neg h6]
  by_cases h1 : x.k = 1
  · rw [if_pos h1, Bool.and_eq_true, eqN_iff] at h
    have := congrArg Wt.Nd.ar h.2
    simp only at this; omega
  rw [if_neg h1] at h
  by_cases h1 : x.k = 2
  · rw [if_pos h1, Bool.and_eq_true, eqN_iff] at h
    have := congrArg Wt.Nd.ar h.2
    simp only at this; omega
  rw [if_neg h1] at h
  by_cases h1 : x.k = 3
  · rw [if_pos h1, Bool.and_eq_true, eqN_iff] at h
    have := congrArg Wt.Nd.ar h.2
    simp only at this; omega
  rw [if_neg h1, if_neg h4, if_neg h5, if_neg h6] at h
  cases h
theorem rbin_any4 (o : Int) (w : World) : Calls Tryz.prog 78 #[.int .i64 o] w fun e w' => e = .returned (.bool (Wt.isBin o)) ∧ Below w.heap.size w w' := (rbin_any o w).mono fun e w' h => ⟨h.1, h.2 ▸ Below.refl _ _⟩
set_option maxHeartbeats 4000000 in
set_option maxRecDepth 100000 in
theorem rnode_1 (x : Wt.Nd) (w : World) (hk : x.k = 1) (hf : Wt.FitV x.v) :
    Calls Tryz.prog 48 #[ndV x] w fun e w' => e = .returned (.tuple #[.int .i64 0, .bool (Wt.vlOk x.v && eqN x ⟨1, x.v, 0, ⟨#[]⟩, 0, Wt.r0, Wt.r0⟩)]) ∧ Below w.heap.size w w' := by
  have hq : ∀ w : World, (binOp .eql 30 (.agg (nd20 x).toArray) (.agg #[.int .i64 1, .int .i64 x.v.k, .int .i64 x.v.n, .int .i64 x.v.d, .string x.v.t, .bool x.v.b, .int .i64 x.v.f, .int .i64 0, .string ⟨#[]⟩, .int .i64 0, .string ⟨#[]⟩, .int .i64 0, .int .i64 0, .bool false, .bool false, .string ⟨#[]⟩, .int .i64 0, .int .i64 0, .bool false, .bool false])).run Tryz.prog w = .ok (.bool (eqN x ⟨1, x.v, 0, ⟨#[]⟩, 0, Wt.r0, Wt.r0⟩)) w := fun w => eqN_run x ⟨1, x.v, 0, ⟨#[]⟩, 0, Wt.r0, Wt.r0⟩ w
  generalize eqN x ⟨1, x.v, 0, ⟨#[]⟩, 0, Wt.r0, Wt.r0⟩ = R at *
  have C := fun w => rlit_any x.v w hf
  generalize Wt.vlOk x.v = q at *
  have pA : AtL (w.alloc (.cells (nd20 x).toArray 30)) w.heap.size (nd20 x) := AtL.new0 w _ _
  have hBa : Below w.heap.size w (w.alloc (.cells (nd20 x).toArray 30)) := ball (Below.refl _ w) _
  show Calls _ _ #[.agg (nd20 x).toArray] _ _
  cases R
  · go_enter Tryz.func48, Tryz.ntmps48
    go_upto_region 1 with fail
    generalize (w.alloc (.cells (nd20 x).toArray 30)) = W0 at *
    have rA := pA.range
    have a0 : W0.cell? ⟨w.heap.size, 0, none⟩ = some (.int .i64 1) := by rw [← hk]; exact pA.2.1 0 _ rfl
    have a1 := pA.2.1 1 _ rfl
    have a2 := pA.2.1 2 _ rfl
    have a3 := pA.2.1 3 _ rfl
    have a4 := pA.2.1 4 _ rfl
    have a5 := pA.2.1 5 _ rfl
    have a6 := pA.2.1 6 _ rfl
    go_wp2_with ((with_reducible refine wpList_load_want ?_ 30 (.tmp 1) ?_ w.heap.size 0 ?_ (nd20 x) _ ?_ Tryz.underlying30 ?_ ?_ ?_); rfl; rfl; rfl; exact rA; rfl; kernel_rfl)
    go_ret2
    exact ⟨by simp, hBa⟩
  · go_enter Tryz.func48, Tryz.ntmps48
    go_upto_region 1 with fail
    generalize (w.alloc (.cells (nd20 x).toArray 30)) = W0 at *
    have rA := pA.range
    have a0 : W0.cell? ⟨w.heap.size, 0, none⟩ = some (.int .i64 1) := by rw [← hk]; exact pA.2.1 0 _ rfl
    have a1 := pA.2.1 1 _ rfl
    have a2 := pA.2.1 2 _ rfl
    have a3 := pA.2.1 3 _ rfl
    have a4 := pA.2.1 4 _ rfl
    have a5 := pA.2.1 5 _ rfl
    have a6 := pA.2.1 6 _ rfl
    go_wp2_with ((with_reducible refine wpList_load_want ?_ 30 (.tmp 1) ?_ w.heap.size 0 ?_ (nd20 x) _ ?_ Tryz.underlying30 ?_ ?_ ?_); rfl; rfl; rfl; exact rA; rfl; kernel_rfl)
    refine (C _).mono ?_
    rintro e w1 ⟨rfl, hb⟩
    have hB1 := below_end hBa hb
    go_wp2
    go_ret2
    exact ⟨by simp, hB1⟩
set_option maxHeartbeats 4000000 in
set_option maxRecDepth 100000 in
theorem rnode_2 (x : Wt.Nd) (w : World) (hk : x.k = 2) (hs : x.a.s.size ≤ 9223372036854775807) :
    Calls Tryz.prog 48 #[ndV x] w fun e w' => e = .returned (.tuple #[.int .i64 0, .bool (Wt.rfOk x.a && eqN x ⟨2, Wt.v0, 0, ⟨#[]⟩, 0, x.a, Wt.r0⟩)]) ∧ Below w.heap.size w w' := by
  have hq : ∀ w : World, (binOp .eql 30 (.agg (nd20 x).toArray) (.agg #[.int .i64 2, .int .i64 0, .int .i64 0, .int .i64 0, .string ⟨#[]⟩, .bool false, .int .i64 0, .int .i64 0, .string ⟨#[]⟩, .int .i64 0, .string x.a.s, .int .i64 x.a.r, .int .i64 x.a.c, .bool x.a.fr, .bool x.a.fc, .string ⟨#[]⟩, .int .i64 0, .int .i64 0, .bool false, .bool false])).run Tryz.prog w = .ok (.bool (eqN x ⟨2, Wt.v0, 0, ⟨#[]⟩, 0, x.a, Wt.r0⟩)) w := fun w => eqN_run x ⟨2, Wt.v0, 0, ⟨#[]⟩, 0, x.a, Wt.r0⟩ w
  generalize eqN x ⟨2, Wt.v0, 0, ⟨#[]⟩, 0, x.a, Wt.r0⟩ = R at *
  have C := fun w => rrf_any x.a w hs
  generalize Wt.rfOk x.a = q at *
  have pA : AtL (w.alloc (.cells (nd20 x).toArray 30)) w.heap.size (nd20 x) := AtL.new0 w _ _
  have hBa : Below w.heap.size w (w.alloc (.cells (nd20 x).toArray 30)) := ball (Below.refl _ w) _
  show Calls _ _ #[.agg (nd20 x).toArray] _ _
  cases R
  · go_enter Tryz.func48, Tryz.ntmps48
    go_upto_region 1 with fail
    generalize (w.alloc (.cells (nd20 x).toArray 30)) = W0 at *
    have rA := pA.range
    have a0 : W0.cell? ⟨w.heap.size, 0, none⟩ = some (.int .i64 2) := by rw [← hk]; exact pA.2.1 0 _ rfl
    have a10 := pA.2.1 10 _ rfl
    have a11 := pA.2.1 11 _ rfl
    have a12 := pA.2.1 12 _ rfl
    have a13 := pA.2.1 13 _ rfl
    have a14 := pA.2.1 14 _ rfl
    go_wp2_with ((with_reducible refine wpList_load_want ?_ 30 (.tmp 1) ?_ w.heap.size 0 ?_ (nd20 x) _ ?_ Tryz.underlying30 ?_ ?_ ?_); rfl; rfl; rfl; exact rA; rfl; kernel_rfl)
    go_ret2
    exact ⟨by simp, hBa⟩
  · go_enter Tryz.func48, Tryz.ntmps48
    go_upto_region 1 with fail
    generalize (w.alloc (.cells (nd20 x).toArray 30)) = W0 at *
    have rA := pA.range
    have a0 : W0.cell? ⟨w.heap.size, 0, none⟩ = some (.int .i64 2) := by rw [← hk]; exact pA.2.1 0 _ rfl
    have a10 := pA.2.1 10 _ rfl
    have a11 := pA.2.1 11 _ rfl
    have a12 := pA.2.1 12 _ rfl
    have a13 := pA.2.1 13 _ rfl
    have a14 := pA.2.1 14 _ rfl
    go_wp2_with ((with_reducible refine wpList_load_want ?_ 30 (.tmp 1) ?_ w.heap.size 0 ?_ (nd20 x) _ ?_ Tryz.underlying30 ?_ ?_ ?_); rfl; rfl; rfl; exact rA; rfl; kernel_rfl)
    refine (C _).mono ?_
    rintro e w1 ⟨rfl, hb⟩
    have hB1 := below_end hBa hb
    go_wp2
    go_ret2
    exact ⟨by simp, hB1⟩
set_option maxHeartbeats 4000000 in
set_option maxRecDepth 100000 in
theorem rnode_5 (x : Wt.Nd) (w : World) (hk : x.k = 5) :
    Calls Tryz.prog 48 #[ndV x] w fun e w' => e = .returned (.tuple #[.int .i64 2, .bool (Wt.isBin x.op && eqN x ⟨5, Wt.v0, x.op, ⟨#[]⟩, 0, Wt.r0, Wt.r0⟩)]) ∧ Below w.heap.size w w' := by
  have hq : ∀ w : World, (binOp .eql 30 (.agg (nd20 x).toArray) (.agg #[.int .i64 5, .int .i64 0, .int .i64 0, .int .i64 0, .string ⟨#[]⟩, .bool false, .int .i64 0, .int .i64 x.op, .string ⟨#[]⟩, .int .i64 0, .string ⟨#[]⟩, .int .i64 0, .int .i64 0, .bool false, .bool false, .string ⟨#[]⟩, .int .i64 0, .int .i64 0, .bool false, .bool false])).run Tryz.prog w = .ok (.bool (eqN x ⟨5, Wt.v0, x.op, ⟨#[]⟩, 0, Wt.r0, Wt.r0⟩)) w := fun w => eqN_run x ⟨5, Wt.v0, x.op, ⟨#[]⟩, 0, Wt.r0, Wt.r0⟩ w
  generalize eqN x ⟨5, Wt.v0, x.op, ⟨#[]⟩, 0, Wt.r0, Wt.r0⟩ = R at *
  have C := fun w => rbin_any4 x.op w
  generalize Wt.isBin x.op = q at *
  have pA : AtL (w.alloc (.cells (nd20 x).toArray 30)) w.heap.size (nd20 x) := AtL.new0 w _ _
  have hBa : Below w.heap.size w (w.alloc (.cells (nd20 x).toArray 30)) := ball (Below.refl _ w) _
  show Calls _ _ #[.agg (nd20 x).toArray] _ _
  cases R
  · go_enter Tryz.func48, Tryz.ntmps48
    go_upto_region 1 with fail
    generalize (w.alloc (.cells (nd20 x).toArray 30)) = W0 at *
    have rA := pA.range
    have a0 : W0.cell? ⟨w.heap.size, 0, none⟩ = some (.int .i64 5) := by rw [← hk]; exact pA.2.1 0 _ rfl
    have a7 := pA.2.1 7 _ rfl
    go_wp2_with ((with_reducible refine wpList_load_want ?_ 30 (.tmp 1) ?_ w.heap.size 0 ?_ (nd20 x) _ ?_ Tryz.underlying30 ?_ ?_ ?_); rfl; rfl; rfl; exact rA; rfl; kernel_rfl)
    go_ret2
    exact ⟨by simp, hBa⟩
  · go_enter Tryz.func48, Tryz.ntmps48
    go_upto_region 1 with fail
    generalize (w.alloc (.cells (nd20 x).toArray 30)) = W0 at *
    have rA := pA.range
    have a0 : W0.cell? ⟨w.heap.size, 0, none⟩ = some (.int .i64 5) := by rw [← hk]; exact pA.2.1 0 _ rfl
    have a7 := pA.2.1 7 _ rfl
    go_wp2_with ((with_reducible refine wpList_load_want ?_ 30 (.tmp 1) ?_ w.heap.size 0 ?_ (nd20 x) _ ?_ Tryz.underlying30 ?_ ?_ ?_); rfl; rfl; rfl; exact rA; rfl; kernel_rfl)
    refine (C _).mono ?_
    rintro e w1 ⟨rfl, hb⟩
    have hB1 := below_end hBa hb
    go_wp2
    go_ret2
    exact ⟨by simp, hB1⟩
end Go.Proofs.YthofehcchickeaaGreatDoor
