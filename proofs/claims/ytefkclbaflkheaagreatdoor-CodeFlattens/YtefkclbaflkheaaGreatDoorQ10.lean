/- Lemmas. -/
import Derived.Test.YtefkclbaflkheaaGreatDoorQ09
set_option maxHeartbeats 4000000
set_option maxRecDepth 100000
namespace Go.Proofs.YtefkclbaflkheaaGreatDoor
open Tryz
open Go.RowKit
set_option linter.unusedVariables false
variable {k:Nat} {x:Wt.Nd} {W:World}
def zDd (o:Int):Bool:=decide (o=1) || decide (o=2) || decide (o=3)
abbrev zPO (k:Nat) (x:Wt.Nd) (W:World):Prop :=
 W.rangeAt k 0 (zAG x)/\W.cell? ⟨k,0,none⟩=some (.int .i64 4)/\W.cell? ⟨k,7,none⟩=some (.int .i64 x.op)
theorem zMb (hk:x.k=4) (h:AtL W k (zAG x)):zPO k x W :=
 ⟨h.range,by rw [<-hk];exact h.2.1 0 _ rfl,h.2.1 7 _ rfl⟩
abbrev zPM (k:Nat) (x:Wt.Nd) (W:World):Prop :=
 W.rangeAt k 0 (zAG x)/\W.cell? ⟨k,0,none⟩=some (.int .i64 6)/\W.cell? ⟨k,8,none⟩=some (.string x.nm)/\W.cell? ⟨k,9,none⟩=some (.int .i64 x.ar)
theorem zNO (hk:x.k=6) (h:AtL W k (zAG x)):zPM k x W :=
 ⟨h.range,by rw [<-hk];exact h.2.1 0 _ rfl,h.2.1 8 _ rfl,h.2.1 9 _ rfl⟩
theorem zMO (x:Wt.Nd) (w:World) (hk:x.k=4) :
  CR 85 #[ndV x] w (.tuple #[.int .i64 1,.bool (zDd x.op && eqN x ⟨4,Wt.v0,x.op,⟨#[]⟩,0,Wt.r0,Wt.r0⟩)]):=by
 have hq:∀ w:World,(binOp .eql 35 (.agg (zAG x).toArray) (.agg #[.int .i64 4,.int .i64 0,.int .i64 0,.int .i64 0,.string ⟨#[]⟩,.bool false,.int .i64 0,.int .i64 x.op,.string ⟨#[]⟩,.int .i64 0,.string ⟨#[]⟩,.int .i64 0,.int .i64 0,.bool false,.bool false,.string ⟨#[]⟩,.int .i64 0,.int .i64 0,.bool false,.bool false])).run prog w=.ok (.bool (eqN x ⟨4,Wt.v0,x.op,⟨#[]⟩,0,Wt.r0,Wt.r0⟩)) w:=λw=>zBC x ⟨4,Wt.v0,x.op,⟨#[]⟩,0,Wt.r0,Wt.r0⟩ w
 generalize eqN x ⟨4,Wt.v0,x.op,⟨#[]⟩,0,Wt.r0,Wt.r0⟩=R at *;have O:(∃ h1:(x.op == 1)=true,zDd x.op=true) \/ (∃ h1:(x.op == 1)=false,∃ h2:(x.op == 2)=true,zDd x.op=true) \/ (∃ h1:(x.op == 1)=false,∃ h2:(x.op == 2)=false,∃ h3:(x.op == 3)=true,zDd x.op=true) \/ (∃ h1:(x.op == 1)=false,∃ h2:(x.op == 2)=false,∃ h3:(x.op == 3)=false,zDd x.op=false):=by
  unfold zDd;by_cases h1:x.op=1
  ·exact Or.inl ⟨by simp [h1],by simp [h1]⟩
  by_cases h2:x.op=2
  ·exact Or.inr (Or.inl ⟨by simp [h1],by simp [h2],by simp [h2]⟩)
  by_cases h3:x.op=3
  ·exact Or.inr (Or.inr (Or.inl ⟨by simp [h1],by simp [h2],by simp [h3],by simp [h3]⟩))
  ·exact Or.inr (Or.inr (Or.inr ⟨by simp [h1],by simp [h2],by simp [h3],by simp [h1,h2,h3]⟩))
 generalize zDd x.op=q at *;have pA:AtL (w.alloc (.cells (zAG x).toArray 35)) w.heap.size (zAG x):=AtL.new0 w _ _;have hBa:Below w.heap.size w (w.alloc (.cells (zAG x).toArray 35)):=zAM (Below.refl _ w) _;show Calls _ _ #[.agg (zAG x).toArray] _ _
 go_enter func85,ntmps85;go_upto_region 1 with fail
 generalize (w.alloc (.cells (zAG x).toArray 35))=W0 at *;have a0:W0.cell? ⟨w.heap.size,0,none⟩=some (.int .i64 4):=by rw [<-hk];exact pA.2.1 0 _ rfl
 go_upto_region 9 with fail
 clear a0;refine wp_region_held_drew (S:=zPO w.heap.size x) (by kernel_rfl) (zMb hk (AtL.drew pA)) (λhHeld=>?_);refine wpAnyH_take (i:=0) (v:=.agg (zAG x).toArray) (atQ rfl) (by kernel_rfl) (by kernel_rfl) (by kernel_rfl) (λ_ _ _ h=>h) (yieldsIf_load_mid (by rfl) 35 (.tmp 1) rfl w.heap.size 0 rfl (zAG x) _ (λw h=>h.1) underlying35 rfl (by kernel_rfl)) (by assumption) ?_;try simp only [Act.put,lA,lZ,lS]
 refine tkQ 1 ?_
 refine tkQ 2 ?_
 refine tkQ 3 ?_
 refine tkQ 4 ?_
 refine tkQ 5 ?_
 refine tkQ 6 ?_
 refine tkQ 7 ?_
 cases R
 ·clear O;refine tnQ 8 ?_
  refine tnQ 9 ?_
  refine tnQ 10 ?_
  refine tnQ 11 ?_
  refine tnQ 12 ?_
  refine tnQ 13 ?_
  refine tnQ 14 ?_
  refine tnQ 15 ?_
  refine tnQ 16 ?_
  refine tnQ 17 ?_
  refine tnQ 18 ?_
  refine tnQ 19 ?_
  refine tnQ 20 ?_
  refine tkQ 21 ?_
  refine rdQ 22 (λK hK=>?_);go_simp
  refine hkQ hK (by assumption) (λhHeld=>?_);clear hK K
  refine rdQ 23 (λK hK=>?_);go_simp
  refine hkQ hK (by assumption) (λhHeld=>?_);clear hK K
  refine wpAnyH_done (by kernel_rfl) ?_ _;go_wp2;go_ret2
  exact ⟨by simp,hBa.drew⟩
 refine tkQ 8 ?_
 refine tkQ 9 ?_
 rcases O with ⟨h1,rfl⟩ | ⟨h1,h2,rfl⟩ | ⟨h1,h2,h3,rfl⟩ | ⟨h1,h2,h3,rfl⟩
 ·refine tkQ 10 ?_
  refine tkQ 11 ?_
  refine tnQ 12 ?_
  refine tnQ 13 ?_
  refine tnQ 14 ?_
  refine tkQ 15 ?_
  refine tkQ 16 ?_
  refine tnQ 17 ?_
  refine tnQ 18 ?_
  refine tnQ 19 ?_
  refine tkQ 20 ?_
  refine tkQ 21 ?_
  refine rdQ 22 (λK hK=>?_);go_simp
  refine hkQ hK (by assumption) (λhHeld=>?_);clear hK K
  refine rdQ 23 (λK hK=>?_);go_simp
  refine hkQ hK (by assumption) (λhHeld=>?_);clear hK K
  refine wpAnyH_done (by kernel_rfl) ?_ _;go_wp2;go_ret2
  exact ⟨by simp,hBa.drew⟩
 ·refine tkQ 10 ?_
  refine tkQ 11 ?_
  refine tkQ 12 ?_
  refine tkQ 13 ?_
  refine tkQ 14 ?_
  refine tkQ 15 ?_
  refine tkQ 16 ?_
  refine tnQ 17 ?_
  refine tnQ 18 ?_
  refine tnQ 19 ?_
  refine tkQ 20 ?_
  refine tkQ 21 ?_
  refine rdQ 22 (λK hK=>?_);go_simp
  refine hkQ hK (by assumption) (λhHeld=>?_);clear hK K
  refine rdQ 23 (λK hK=>?_);go_simp
  refine hkQ hK (by assumption) (λhHeld=>?_);clear hK K
  refine wpAnyH_done (by kernel_rfl) ?_ _;go_wp2;go_ret2
  exact ⟨by simp,hBa.drew⟩
 all_goals
  refine tkQ 10 ?_
  refine tkQ 11 ?_
  refine tkQ 12 ?_
  refine tkQ 13 ?_
  refine tkQ 14 ?_
  refine tkQ 15 ?_
  refine tkQ 16 ?_
  refine tkQ 17 ?_
  refine tkQ 18 ?_
  refine tkQ 19 ?_
  refine tkQ 20 ?_
  refine tkQ 21 ?_
  refine rdQ 22 (λK hK=>?_);go_simp
  refine hkQ hK (by assumption) (λhHeld=>?_);clear hK K
  refine rdQ 23 (λK hK=>?_);go_simp
  refine hkQ hK (by assumption) (λhHeld=>?_);clear hK K
  refine wpAnyH_done (by kernel_rfl) ?_ _;go_wp2;go_ret2
  exact ⟨by simp,hBa.drew⟩
theorem zN7 (x:Wt.Nd) (w:World) (hk:x.k=6) (hs:x.nm.size<=9223372036854775807) :
  CR 85 #[ndV x] w (.tuple #[.int .i64 x.ar,.bool ((Wt.fnNm x.nm && decide (0<=x.ar) && decide (x.ar<=30)) && eqN x ⟨6,Wt.v0,0,x.nm,x.ar,Wt.r0,Wt.r0⟩)]):=by
 have hq:∀ w:World,(binOp .eql 35 (.agg (zAG x).toArray) (.agg #[.int .i64 6,.int .i64 0,.int .i64 0,.int .i64 0,.string ⟨#[]⟩,.bool false,.int .i64 0,.int .i64 0,.string x.nm,.int .i64 x.ar,.string ⟨#[]⟩,.int .i64 0,.int .i64 0,.bool false,.bool false,.string ⟨#[]⟩,.int .i64 0,.int .i64 0,.bool false,.bool false])).run prog w=.ok (.bool (eqN x ⟨6,Wt.v0,0,x.nm,x.ar,Wt.r0,Wt.r0⟩)) w:=λw=>zBC x ⟨6,Wt.v0,0,x.nm,x.ar,Wt.r0,Wt.r0⟩ w
 generalize eqN x ⟨6,Wt.v0,0,x.nm,x.ar,Wt.r0,Wt.r0⟩=R at *;have C:=λw=>zKn x.nm w hs
 generalize Wt.fnNm x.nm=q at *;have pA:AtL (w.alloc (.cells (zAG x).toArray 35)) w.heap.size (zAG x):=AtL.new0 w _ _;have hBa:Below w.heap.size w (w.alloc (.cells (zAG x).toArray 35)):=zAM (Below.refl _ w) _;show Calls _ _ #[.agg (zAG x).toArray] _ _
 go_enter func85,ntmps85;go_upto_region 1 with fail
 generalize (w.alloc (.cells (zAG x).toArray 35))=W0 at *;have a0:W0.cell? ⟨w.heap.size,0,none⟩=some (.int .i64 6):=by rw [<-hk];exact pA.2.1 0 _ rfl
 go_upto_region 13 with fail
 clear a0;refine wp_region_held_drew (S:=zPM w.heap.size x) (by kernel_rfl) (zNO hk (AtL.drew pA)) (λhHeld=>?_);refine tkQ 0 ?_
 refine tkQ 1 ?_
 refine wpAnyH_take (i:=2) (v:=.agg (zAG x).toArray) (atQ rfl) (by kernel_rfl) (by kernel_rfl) (by kernel_rfl) (λ_ _ _ h=>h) (yieldsIf_load_mid (by rfl) 35 (.tmp 1) rfl w.heap.size 0 rfl (zAG x) _ (λw h=>h.1) underlying35 rfl (by kernel_rfl)) (by assumption) ?_;try simp only [Act.put,lA,lZ,lS]
 refine tkQ 3 ?_
 refine tkQ 4 ?_
 refine tkQ 5 ?_
 refine tkQ 6 ?_
 refine tkQ 7 ?_
 refine tkQ 8 ?_
 refine tkQ 9 ?_
 refine tkQ 10 ?_
 refine tkQ 11 ?_
 cases R
 ·clear C;refine tnQ 12 ?_
  refine tnQ 13 ?_
  refine tnQ 14 ?_
  refine tkQ 15 ?_
  refine tkQ 16 ?_
  refine tnQ 17 ?_
  refine tnQ 18 ?_
  refine tnQ 19 ?_
  refine tkQ 20 ?_
  refine tkQ 21 ?_
  refine tnQ 22 ?_
  refine tnQ 23 ?_
  refine tnQ 24 ?_
  refine tkQ 25 ?_
  refine rdQ 26 (λK hK=>?_);go_simp
  refine hkQ hK (by assumption) (λhHeld=>?_);clear hK K
  refine rdQ 27 (λK hK=>?_);go_simp
  refine hkQ hK (by assumption) (λhHeld=>?_);clear hK K
  refine wpAnyH_done (by kernel_rfl) ?_ _;go_wp2;go_ret2
  exact ⟨by simp,hBa.drew⟩
 refine tkQ 12 ?_
 refine tkQ 13 ?_
 refine rdQ 14 (λK hK=>?_);go_simp
 refine (C _).mono ?_;rintro e w1 ⟨rfl,rfl⟩;go_wp2_with fail
 refine hkQ hK (by assumption) (λhHeld=>?_);clear hK K
 refine tkQ 15 ?_
 refine tkQ 16 ?_
 cases q
 ·refine tnQ 17 ?_
  refine tnQ 18 ?_
  refine tnQ 19 ?_
  refine tkQ 20 ?_
  refine tkQ 21 ?_
  refine tnQ 22 ?_
  refine tnQ 23 ?_
  refine tnQ 24 ?_
  refine tkQ 25 ?_
  refine rdQ 26 (λK hK=>?_);go_simp
  refine hkQ hK (by assumption) (λhHeld=>?_);clear hK K
  refine rdQ 27 (λK hK=>?_);go_simp
  refine hkQ hK (by assumption) (λhHeld=>?_);clear hK K
  refine wpAnyH_done (by kernel_rfl) ?_ _;go_wp2;go_ret2
  exact ⟨by simp,hBa.drew⟩
 refine tkQ 17 ?_
 refine tkQ 18 ?_
 refine tkQ 19 ?_
 by_cases g0:0<=x.ar
 ·by_cases g1:x.ar<=30
  all_goals
   refine tkQ 20 ?_
   refine tkQ 21 ?_
   refine tkQ 22 ?_
   refine tkQ 23 ?_
   refine tkQ 24 ?_
   refine tkQ 25 ?_
   refine rdQ 26 (λK hK=>?_);go_simp
   refine hkQ hK (by assumption) (λhHeld=>?_);clear hK K
   refine rdQ 27 (λK hK=>?_);go_simp
   refine hkQ hK (by assumption) (λhHeld=>?_);clear hK K
   refine wpAnyH_done (by kernel_rfl) ?_ _;go_wp2;go_ret2
   exact ⟨by first | (simp [g0];done) | (simp [g0,g1];done),hBa.drew⟩
 ·have g0d:decide (0<=x.ar)=false:=decide_eq_false g0;refine tkQ 20 ?_
  refine tkQ 21 ?_
  refine tnQ 22 ?_
  refine tnQ 23 ?_
  refine tnQ 24 ?_
  refine tkQ 25 ?_
  refine rdQ 26 (λK hK=>?_);go_simp
  refine hkQ hK (by assumption) (λhHeld=>?_);clear hK K
  refine rdQ 27 (λK hK=>?_);go_simp
  refine hkQ hK (by assumption) (λhHeld=>?_);clear hK K
  refine wpAnyH_done (by kernel_rfl) ?_ _;go_wp2;go_ret2
  exact ⟨by simp,hBa.drew⟩
