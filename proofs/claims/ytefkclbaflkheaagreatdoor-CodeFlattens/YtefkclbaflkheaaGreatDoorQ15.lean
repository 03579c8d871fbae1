/- Lemmas. -/
import Derived.Test.YtefkclbaflkheaaGreatDoorQ14
set_option maxHeartbeats 4000000
set_option maxRecDepth 100000
namespace Go.Proofs.YtefkclbaflkheaaGreatDoor
open Tryz
variable {ka kb:Nat} {x y:Wc.In} {tv tu:Value} {W:World}
open Go.RowKit
set_option linter.unusedVariables false
abbrev zNS (ka kb:Nat) (x:Wc.In) (tv:Value) (W:World):Prop :=
 W.cell? ⟨ka,1,none⟩=some (.int .i64 x.a)/\W.frozen? ⟨kb,1,none⟩=false
theorem zBw (h0:AtL W ka (zAD x tv)) (h1:AtL W kb (zAD y tu)):zNS ka kb x tv W :=
 ⟨h0.2.1 1 _ rfl,h1.2.2 1 (by show 1<23;decide)⟩
theorem zDT (h:zNS ka kb x tv W) (hne:kb ≠ ka) (j:Nat) (u:Value):zNS ka kb x tv (W.setCell ⟨kb,j,none⟩ u):=by
 obtain ⟨h1,g1⟩:=h;refine ⟨?_,?_⟩;any_goals rw [World.cell?_setCell_far _ _ _ _ (by simpa using hne)];assumption
 all_goals rw [World.frozen?_setCell];assumption
theorem zKT (x:Wc.In) (av:Option Addr) (n c:Nat) (tl:List Int) (w:World) (hk:x.op=3) (hz:RdZ w (.slice av n c) tl) (hl:tl.length<=1000000) :
  CR 61 #[inV x (.slice av n c)] w (.bool ((decide (1<=x.a) && decide (x.a<=3)) && (smI x ⟨3,x.a,0,v0I,c0I,a0I,a0I⟩ && decide (tl=[])))):=by
 have CS:∀ w',Below w.heap.size w w'->Calls prog 97 #[.agg (zAD x (.slice av n c)).toArray,.agg (zAD ⟨3,x.a,0,v0I,c0I,a0I,a0I⟩ zAH).toArray] w' λe w''=>e=.returned (.bool (smI x ⟨3,x.a,0,v0I,c0I,a0I,a0I⟩ && decide (tl=[])))/\Below w'.heap.size w' w'':=λw' hb=>zA6 x ⟨3,x.a,0,v0I,c0I,a0I,a0I⟩ _ _ tl [] w' (hz.below hb) (RdZ.nil _) hl (by first | exact hl | simp)
 generalize (smI x ⟨3,x.a,0,v0I,c0I,a0I,a0I⟩ && decide (tl=[]))=R at *;obtain ⟨tv,htv⟩:∃ tv,Value.slice av n c=tv:=⟨_,rfl⟩
 rw [htv] at CS ⊢;have pA0:AtL (zAU w x tv) w.heap.size (zAD x tv):=(AtL.new0 w _ _).alloc _;have pO0:AtL (zAU w x tv) (w.heap.size+1) (zAD (zAI 0) zAH):=AtL.new1 w _ _ _;have hth:World.there (zAU w x tv) (w.heap.size+1) 0 (zAD (zAI 3) zAH).toArray.size:=pO0.there;have hne:w.heap.size+1 ≠ w.heap.size:=by omega
 have pA:=pA0.farAll hne 0 (zAD (zAI 3) zAH);have pO:AtL ((zAU w x tv).setCells (w.heap.size+1) 0 (zAD (zAI 3) zAH)) (w.heap.size+1) (zAD (zAI 3) zAH):=pO0.setAll rfl;have hBa:Below w.heap.size w ((zAU w x tv).setCells (w.heap.size+1) 0 (zAD (zAI 3) zAH)):=zAv (zAM (zAM (Below.refl _ w) _) _) (Nat.le_succ _) _ 0;clear pA0 pO0;have n0:(zAD x tv)[0]? = some (.int .i64 3):=by rw [<-hk];rfl
 have a0:World.cell? ((zAU w x tv).setCells (w.heap.size+1) 0 (zAD (zAI 3) zAH)) ⟨w.heap.size,0,none⟩=some (.int .i64 3):=pA.2.1 0 _ n0;show Calls _ _ #[.agg (zAD x tv).toArray] _ _
 have hS:zNS w.heap.size (w.heap.size+1) x tv ((zAU w x tv).setCells (w.heap.size+1) 0 (zAD (zAI 3) zAH)):=zBw pA pO;clear hz hl htv;by_cases g1:1<=x.a
 ·have g1n:¬ x.a<1:=by omega
  by_cases g2:x.a<=3
  ·have g2n:¬ 3<x.a:=by omega
   have hc:(decide (1<=x.a) && decide (x.a<=3))=true:=by simp [g1,g2]
   rw [hc];go_enter func61,ntmps61;go_upto_region 1 with fail
   go_upto_region 2 with ((with_reducible refine wpList_store_mid ?_ 56 (.tmp 3) (.tmp 7) ?_ (w.heap.size+1) 0 (zAD (zAI 3) zAH).toArray ?_ ?_ ?_ ?_ ?_ ?_);rfl;rfl;rfl;rfl;exact hth;kernel_rfl;exact zAj _ _ _ _)
   generalize (zAU w x tv).setCells (w.heap.size+1) 0 (zAD (zAI 3) zAH)=W0 at *;clear hth;go_upto_region 8 with fail
   have pA1:=AtL.drew pA;have pO1:=AtL.drew pO;have hB1:=hBa.drew;clear pA pO hBa hS;refine wp_region_held_drew (S:=zNS w.heap.size (w.heap.size+1) x tv) (by kernel_rfl) (zBw pA1 pO1) (λhHeld=>?_);generalize W0.drew=wd at *;refine tkQ 0 ?_
   refine tkQ 1 ?_
   refine tkQ 2 ?_
   refine tkQ 3 ?_
   refine tkQ 4 ?_
   refine tkQ 5 ?_
   refine tkQ 6 ?_
   refine tkQ 7 ?_
   refine tkQ 8 ?_
   refine tkQ 9 ?_
   refine tkQ 10 ?_
   refine rdQ 11 (λK hK=>?_);have o1:=pO1.2.1 1 _ rfl;obtain ⟨_,g1⟩:=hHeld;go_simp
   refine hkQ hK ((zDT (zBw pA1 pO1) (by omega) _ _)) (λhHeld=>?_);clear hK K o1 g1
   have pA2:AtL (wd.setCell ⟨w.heap.size+1,1,none⟩ (.int .i64 x.a)) w.heap.size (zAD x tv):=(pA1.far hne 1 (.int .i64 x.a))
   have pO2:AtL (wd.setCell ⟨w.heap.size+1,1,none⟩ (.int .i64 x.a)) (w.heap.size+1) (zAD ⟨3,x.a,0,v0I,c0I,a0I,a0I⟩ zAH):=(pO1.set 1 (.int .i64 x.a))
   have hB2:Below w.heap.size w (wd.setCell ⟨w.heap.size+1,1,none⟩ (.int .i64 x.a)):=(clB hB1)
   clear pA1 pO1 hB1;generalize (wd.setCell ⟨w.heap.size+1,1,none⟩ (.int .i64 x.a))=ws1 at *;have pA1:=pA2;have pO1:=pO2;have hB1:=hB2;clear pA2 pO2 hB2;refine rdQ 12 (λK hK=>?_);go_simp
   refine hkQ hK (by assumption) (λhHeld=>?_);clear hK K
   refine wpAnyH_done (by kernel_rfl) ?_ _;clear hHeld;have rA:=pA1.range;have rO:=pO1.range;have hB2:=hB1;clear pA1 pO1 hB1;go_wp2_with (first | ((with_reducible refine zAA ?_ 56 (.tmp 1) ?_ w.heap.size 0 ?_ (zAD x tv) _ ?_ underlying56 ?_ ?_ ?_);rfl;rfl;rfl;exact rA;rfl;kernel_rfl) | ((with_reducible refine zAA ?_ 56 (.tmp 3) ?_ (w.heap.size+1) 0 ?_ (zAD ⟨3,x.a,0,v0I,c0I,a0I,a0I⟩ zAH) _ ?_ underlying56 ?_ ?_ ?_);rfl;rfl;rfl;exact rO;rfl;kernel_rfl) | (go_at_call 97;refine (CS _ hB2).mono ?_;rintro e w3 ⟨rfl,hb3⟩;have hB3:=zAB hB2 hb3))
   go_wp2;go_ret;first
   | exact ⟨by simp,hB2⟩
   | exact ⟨by simp,hB3⟩
  ·have g2n:3<x.a:=by omega
   have hc:(decide (1<=x.a) && decide (x.a<=3))=false:=by simp [g2]
   rw [hc];go_enter func61,ntmps61;go_upto_region 1 with fail
   go_upto_region 2 with ((with_reducible refine wpList_store_mid ?_ 56 (.tmp 3) (.tmp 7) ?_ (w.heap.size+1) 0 (zAD (zAI 3) zAH).toArray ?_ ?_ ?_ ?_ ?_ ?_);rfl;rfl;rfl;rfl;exact hth;kernel_rfl;exact zAj _ _ _ _)
   generalize (zAU w x tv).setCells (w.heap.size+1) 0 (zAD (zAI 3) zAH)=W0 at *;clear hth;go_upto_region 8 with fail
   have pA1:=AtL.drew pA;have pO1:=AtL.drew pO;have hB1:=hBa.drew;clear pA pO hBa hS;refine wp_region_held_drew (S:=zNS w.heap.size (w.heap.size+1) x tv) (by kernel_rfl) (zBw pA1 pO1) (λhHeld=>?_);generalize W0.drew=wd at *;refine tkQ 0 ?_
   refine tkQ 1 ?_
   refine tkQ 2 ?_
   refine tkQ 3 ?_
   refine tkQ 4 ?_
   refine tkQ 5 ?_
   refine tkQ 6 ?_
   refine tkQ 7 ?_
   refine tkQ 8 ?_
   refine tkQ 9 ?_
   refine tkQ 10 ?_
   refine rdQ 11 (λK hK=>?_);have o1:=pO1.2.1 1 _ rfl;obtain ⟨_,g1⟩:=hHeld;go_simp
   refine hkQ hK ((zDT (zBw pA1 pO1) (by omega) _ _)) (λhHeld=>?_);clear hK K o1 g1
   have pA2:AtL (wd.setCell ⟨w.heap.size+1,1,none⟩ (.int .i64 x.a)) w.heap.size (zAD x tv):=(pA1.far hne 1 (.int .i64 x.a))
   have pO2:AtL (wd.setCell ⟨w.heap.size+1,1,none⟩ (.int .i64 x.a)) (w.heap.size+1) (zAD ⟨3,x.a,0,v0I,c0I,a0I,a0I⟩ zAH):=(pO1.set 1 (.int .i64 x.a))
   have hB2:Below w.heap.size w (wd.setCell ⟨w.heap.size+1,1,none⟩ (.int .i64 x.a)):=(clB hB1)
   clear pA1 pO1 hB1;generalize (wd.setCell ⟨w.heap.size+1,1,none⟩ (.int .i64 x.a))=ws1 at *;have pA1:=pA2;have pO1:=pO2;have hB1:=hB2;clear pA2 pO2 hB2;refine rdQ 12 (λK hK=>?_);go_simp
   refine hkQ hK (by assumption) (λhHeld=>?_);clear hK K
   refine wpAnyH_done (by kernel_rfl) ?_ _;clear hHeld;have rA:=pA1.range;have rO:=pO1.range;have hB2:=hB1;clear pA1 pO1 hB1;go_wp2_with (first | ((with_reducible refine zAA ?_ 56 (.tmp 1) ?_ w.heap.size 0 ?_ (zAD x tv) _ ?_ underlying56 ?_ ?_ ?_);rfl;rfl;rfl;exact rA;rfl;kernel_rfl) | ((with_reducible refine zAA ?_ 56 (.tmp 3) ?_ (w.heap.size+1) 0 ?_ (zAD ⟨3,x.a,0,v0I,c0I,a0I,a0I⟩ zAH) _ ?_ underlying56 ?_ ?_ ?_);rfl;rfl;rfl;exact rO;rfl;kernel_rfl) | (go_at_call 97;refine (CS _ hB2).mono ?_;rintro e w3 ⟨rfl,hb3⟩;have hB3:=zAB hB2 hb3))
   go_wp2;go_ret;first
   | exact ⟨by simp,hB2⟩
   | exact ⟨by simp,hB3⟩
 ·have g1n:x.a<1:=by omega
  have hc:(decide (1<=x.a) && decide (x.a<=3))=false:=by simp [g1]
  rw [hc];go_enter func61,ntmps61;go_upto_region 1 with fail
  go_upto_region 2 with ((with_reducible refine wpList_store_mid ?_ 56 (.tmp 3) (.tmp 7) ?_ (w.heap.size+1) 0 (zAD (zAI 3) zAH).toArray ?_ ?_ ?_ ?_ ?_ ?_);rfl;rfl;rfl;rfl;exact hth;kernel_rfl;exact zAj _ _ _ _)
  generalize (zAU w x tv).setCells (w.heap.size+1) 0 (zAD (zAI 3) zAH)=W0 at *;clear hth;go_upto_region 8 with fail
  have pA1:=AtL.drew pA;have pO1:=AtL.drew pO;have hB1:=hBa.drew;clear pA pO hBa hS;refine wp_region_held_drew (S:=zNS w.heap.size (w.heap.size+1) x tv) (by kernel_rfl) (zBw pA1 pO1) (λhHeld=>?_);generalize W0.drew=wd at *;refine tkQ 0 ?_
  refine tkQ 1 ?_
  refine tkQ 2 ?_
  refine tkQ 3 ?_
  refine tkQ 4 ?_
  refine tkQ 5 ?_
  refine tnQ 6 ?_
  refine tnQ 7 ?_
  refine tnQ 8 ?_
  refine tkQ 9 ?_
  refine tkQ 10 ?_
  refine rdQ 11 (λK hK=>?_);have o1:=pO1.2.1 1 _ rfl;obtain ⟨_,g1⟩:=hHeld;go_simp
  refine hkQ hK ((zDT (zBw pA1 pO1) (by omega) _ _)) (λhHeld=>?_);clear hK K o1 g1
  have pA2:AtL (wd.setCell ⟨w.heap.size+1,1,none⟩ (.int .i64 x.a)) w.heap.size (zAD x tv):=(pA1.far hne 1 (.int .i64 x.a))
  have pO2:AtL (wd.setCell ⟨w.heap.size+1,1,none⟩ (.int .i64 x.a)) (w.heap.size+1) (zAD ⟨3,x.a,0,v0I,c0I,a0I,a0I⟩ zAH):=(pO1.set 1 (.int .i64 x.a))
  have hB2:Below w.heap.size w (wd.setCell ⟨w.heap.size+1,1,none⟩ (.int .i64 x.a)):=(clB hB1)
  clear pA1 pO1 hB1;generalize (wd.setCell ⟨w.heap.size+1,1,none⟩ (.int .i64 x.a))=ws1 at *;have pA1:=pA2;have pO1:=pO2;have hB1:=hB2;clear pA2 pO2 hB2;refine rdQ 12 (λK hK=>?_);go_simp
  refine hkQ hK (by assumption) (λhHeld=>?_);clear hK K
  refine wpAnyH_done (by kernel_rfl) ?_ _;clear hHeld;have rA:=pA1.range;have rO:=pO1.range;have hB2:=hB1;clear pA1 pO1 hB1;go_wp2_with (first | ((with_reducible refine zAA ?_ 56 (.tmp 1) ?_ w.heap.size 0 ?_ (zAD x tv) _ ?_ underlying56 ?_ ?_ ?_);rfl;rfl;rfl;exact rA;rfl;kernel_rfl) | ((with_reducible refine zAA ?_ 56 (.tmp 3) ?_ (w.heap.size+1) 0 ?_ (zAD ⟨3,x.a,0,v0I,c0I,a0I,a0I⟩ zAH) _ ?_ underlying56 ?_ ?_ ?_);rfl;rfl;rfl;exact rO;rfl;kernel_rfl) | (go_at_call 97;refine (CS _ hB2).mono ?_;rintro e w3 ⟨rfl,hb3⟩;have hB3:=zAB hB2 hb3))
  go_wp2;go_ret;first
  | exact ⟨by simp,hB2⟩
  | exact ⟨by simp,hB3⟩
abbrev zKz (ka kb:Nat) (x:Wc.In) (tv:Value) (W:World):Prop :=
 W.cell? ⟨ka,1,none⟩=some (.int .i64 x.a)/\W.frozen? ⟨kb,1,none⟩=false
theorem zBK (h0:AtL W ka (zAD x tv)) (h1:AtL W kb (zAD y tu)):zKz ka kb x tv W :=
 ⟨h0.2.1 1 _ rfl,h1.2.2 1 (by show 1<23;decide)⟩
theorem zCI (h:zKz ka kb x tv W) (hne:kb ≠ ka) (j:Nat) (u:Value):zKz ka kb x tv (W.setCell ⟨kb,j,none⟩ u):=by
 obtain ⟨h1,g1⟩:=h;refine ⟨?_,?_⟩;any_goals rw [World.cell?_setCell_far _ _ _ _ (by simpa using hne)];assumption
 all_goals rw [World.frozen?_setCell];assumption
theorem zKs (x:Wc.In) (av:Option Addr) (n c:Nat) (tl:List Int) (w:World) (hk:x.op=4) (hz:RdZ w (.slice av n c) tl) (hl:tl.length<=1000000) :
  CR 61 #[inV x (.slice av n c)] w (.bool (Wt.isBin x.a && (smI x ⟨4,x.a,0,v0I,c0I,a0I,a0I⟩ && decide (tl=[])))):=by
 have CS:∀ w',Below w.heap.size w w'->Calls prog 97 #[.agg (zAD x (.slice av n c)).toArray,.agg (zAD ⟨4,x.a,0,v0I,c0I,a0I,a0I⟩ zAH).toArray] w' λe w''=>e=.returned (.bool (smI x ⟨4,x.a,0,v0I,c0I,a0I,a0I⟩ && decide (tl=[])))/\Below w'.heap.size w' w'':=λw' hb=>zA6 x ⟨4,x.a,0,v0I,c0I,a0I,a0I⟩ _ _ tl [] w' (hz.below hb) (RdZ.nil _) hl (by first | exact hl | simp)
 generalize (smI x ⟨4,x.a,0,v0I,c0I,a0I,a0I⟩ && decide (tl=[]))=R at *;obtain ⟨tv,htv⟩:∃ tv,Value.slice av n c=tv:=⟨_,rfl⟩
 rw [htv] at CS ⊢;have pA0:AtL (zAU w x tv) w.heap.size (zAD x tv):=(AtL.new0 w _ _).alloc _;have pO0:AtL (zAU w x tv) (w.heap.size+1) (zAD (zAI 0) zAH):=AtL.new1 w _ _ _;have hth:World.there (zAU w x tv) (w.heap.size+1) 0 (zAD (zAI 4) zAH).toArray.size:=pO0.there;have hne:w.heap.size+1 ≠ w.heap.size:=by omega
 have pA:=pA0.farAll hne 0 (zAD (zAI 4) zAH);have pO:AtL ((zAU w x tv).setCells (w.heap.size+1) 0 (zAD (zAI 4) zAH)) (w.heap.size+1) (zAD (zAI 4) zAH):=pO0.setAll rfl;have hBa:Below w.heap.size w ((zAU w x tv).setCells (w.heap.size+1) 0 (zAD (zAI 4) zAH)):=zAv (zAM (zAM (Below.refl _ w) _) _) (Nat.le_succ _) _ 0;clear pA0 pO0;have n0:(zAD x tv)[0]? = some (.int .i64 4):=by rw [<-hk];rfl
 have a0:World.cell? ((zAU w x tv).setCells (w.heap.size+1) 0 (zAD (zAI 4) zAH)) ⟨w.heap.size,0,none⟩=some (.int .i64 4):=pA.2.1 0 _ n0;show Calls _ _ #[.agg (zAD x tv).toArray] _ _
 have hS:zKz w.heap.size (w.heap.size+1) x tv ((zAU w x tv).setCells (w.heap.size+1) 0 (zAD (zAI 4) zAH)):=zBK pA pO;clear hz hl htv;by_cases g1:11<=x.a
 ·have g1n:¬ x.a<11:=by omega
  by_cases g2:x.a<=16
  ·have g2n:¬ 16<x.a:=by omega
   have hc:Wt.isBin x.a=true:=by simp only [Wt.isBin];simp;omega
   rw [hc];go_enter func61,ntmps61;go_upto_region 1 with fail
   go_upto_region 2 with ((with_reducible refine wpList_store_mid ?_ 56 (.tmp 3) (.tmp 7) ?_ (w.heap.size+1) 0 (zAD (zAI 4) zAH).toArray ?_ ?_ ?_ ?_ ?_ ?_);rfl;rfl;rfl;rfl;exact hth;kernel_rfl;exact zAj _ _ _ _)
   generalize (zAU w x tv).setCells (w.heap.size+1) 0 (zAD (zAI 4) zAH)=W0 at *;clear hth;go_upto_region 10 with fail
   have pA1:=AtL.drew pA;have pO1:=AtL.drew pO;have hB1:=hBa.drew;clear pA pO hBa hS;refine wp_region_held_drew (S:=zKz w.heap.size (w.heap.size+1) x tv) (by kernel_rfl) (zBK pA1 pO1) (λhHeld=>?_);generalize W0.drew=wd at *;refine tkQ 0 ?_
   refine tkQ 1 ?_
   refine tkQ 2 ?_
   refine tkQ 3 ?_
   refine tkQ 4 ?_
   refine tkQ 5 ?_
   refine tkQ 6 ?_
   refine tkQ 7 ?_
   refine tkQ 8 ?_
   refine tkQ 9 ?_
   refine tkQ 10 ?_
   refine tnQ 11 ?_
   refine tnQ 12 ?_
   refine tnQ 13 ?_
   refine tnQ 14 ?_
   refine tnQ 15 ?_
   refine tnQ 16 ?_
   refine tnQ 17 ?_
   refine tnQ 18 ?_
   refine tkQ 19 ?_
   refine tkQ 20 ?_
   refine rdQ 21 (λK hK=>?_);have o1:=pO1.2.1 1 _ rfl;obtain ⟨_,g1⟩:=hHeld;go_simp
   refine hkQ hK ((zCI (zBK pA1 pO1) (by omega) _ _)) (λhHeld=>?_);clear hK K o1 g1
   have pA2:AtL (wd.setCell ⟨w.heap.size+1,1,none⟩ (.int .i64 x.a)) w.heap.size (zAD x tv):=(pA1.far hne 1 (.int .i64 x.a))
   have pO2:AtL (wd.setCell ⟨w.heap.size+1,1,none⟩ (.int .i64 x.a)) (w.heap.size+1) (zAD ⟨4,x.a,0,v0I,c0I,a0I,a0I⟩ zAH):=(pO1.set 1 (.int .i64 x.a))
   have hB2:Below w.heap.size w (wd.setCell ⟨w.heap.size+1,1,none⟩ (.int .i64 x.a)):=(clB hB1)
   clear pA1 pO1 hB1;generalize (wd.setCell ⟨w.heap.size+1,1,none⟩ (.int .i64 x.a))=ws1 at *;have pA1:=pA2;have pO1:=pO2;have hB1:=hB2;clear pA2 pO2 hB2;refine rdQ 22 (λK hK=>?_);go_simp
   refine hkQ hK (by assumption) (λhHeld=>?_);clear hK K
   refine wpAnyH_done (by kernel_rfl) ?_ _;clear hHeld;have rA:=pA1.range;have rO:=pO1.range;have hB2:=hB1;clear pA1 pO1 hB1;go_wp2_with (first | ((with_reducible refine zAA ?_ 56 (.tmp 1) ?_ w.heap.size 0 ?_ (zAD x tv) _ ?_ underlying56 ?_ ?_ ?_);rfl;rfl;rfl;exact rA;rfl;kernel_rfl) | ((with_reducible refine zAA ?_ 56 (.tmp 3) ?_ (w.heap.size+1) 0 ?_ (zAD ⟨4,x.a,0,v0I,c0I,a0I,a0I⟩ zAH) _ ?_ underlying56 ?_ ?_ ?_);rfl;rfl;rfl;exact rO;rfl;kernel_rfl) | (go_at_call 97;refine (CS _ hB2).mono ?_;rintro e w3 ⟨rfl,hb3⟩;have hB3:=zAB hB2 hb3))
   go_wp2;go_ret;first
   | exact ⟨by simp,hB2⟩
   | exact ⟨by simp,hB3⟩
  ·have g2n:16<x.a:=by omega
   by_cases g3:21<=x.a
   ·have g3n:¬ x.a<21:=by omega
    by_cases g4:x.a<=26
    ·have g4n:¬ 26<x.a:=by omega
     have hc:Wt.isBin x.a=true:=by simp only [Wt.isBin];simp;omega
     rw [hc];go_enter func61,ntmps61;go_upto_region 1 with fail
     go_upto_region 2 with ((with_reducible refine wpList_store_mid ?_ 56 (.tmp 3) (.tmp 7) ?_ (w.heap.size+1) 0 (zAD (zAI 4) zAH).toArray ?_ ?_ ?_ ?_ ?_ ?_);rfl;rfl;rfl;rfl;exact hth;kernel_rfl;exact zAj _ _ _ _)
     generalize (zAU w x tv).setCells (w.heap.size+1) 0 (zAD (zAI 4) zAH)=W0 at *;clear hth;go_upto_region 10 with fail
     have pA1:=AtL.drew pA;have pO1:=AtL.drew pO;have hB1:=hBa.drew;clear pA pO hBa hS;refine wp_region_held_drew (S:=zKz w.heap.size (w.heap.size+1) x tv) (by kernel_rfl) (zBK pA1 pO1) (λhHeld=>?_);generalize W0.drew=wd at *;refine tkQ 0 ?_
     refine tkQ 1 ?_
     refine tkQ 2 ?_
     refine tkQ 3 ?_
     refine tkQ 4 ?_
     refine tkQ 5 ?_
     refine tkQ 6 ?_
     refine tkQ 7 ?_
     refine tkQ 8 ?_
     refine tkQ 9 ?_
     refine tkQ 10 ?_
     refine tkQ 11 ?_
     refine tkQ 12 ?_
     refine tkQ 13 ?_
     refine tkQ 14 ?_
     refine tkQ 15 ?_
     refine tkQ 16 ?_
     refine tkQ 17 ?_
     refine tkQ 18 ?_
     refine tkQ 19 ?_
     refine tkQ 20 ?_
     refine rdQ 21 (λK hK=>?_);have o1:=pO1.2.1 1 _ rfl;obtain ⟨_,g1⟩:=hHeld;go_simp
     refine hkQ hK ((zCI (zBK pA1 pO1) (by omega) _ _)) (λhHeld=>?_);clear hK K o1 g1
     have pA2:AtL (wd.setCell ⟨w.heap.size+1,1,none⟩ (.int .i64 x.a)) w.heap.size (zAD x tv):=(pA1.far hne 1 (.int .i64 x.a))
     have pO2:AtL (wd.setCell ⟨w.heap.size+1,1,none⟩ (.int .i64 x.a)) (w.heap.size+1) (zAD ⟨4,x.a,0,v0I,c0I,a0I,a0I⟩ zAH):=(pO1.set 1 (.int .i64 x.a))
     have hB2:Below w.heap.size w (wd.setCell ⟨w.heap.size+1,1,none⟩ (.int .i64 x.a)):=(clB hB1)
     clear pA1 pO1 hB1;generalize (wd.setCell ⟨w.heap.size+1,1,none⟩ (.int .i64 x.a))=ws1 at *;have pA1:=pA2;have pO1:=pO2;have hB1:=hB2;clear pA2 pO2 hB2;refine rdQ 22 (λK hK=>?_);go_simp
     refine hkQ hK (by assumption) (λhHeld=>?_);clear hK K
     refine wpAnyH_done (by kernel_rfl) ?_ _;clear hHeld;have rA:=pA1.range;have rO:=pO1.range;have hB2:=hB1;clear pA1 pO1 hB1;go_wp2_with (first | ((with_reducible refine zAA ?_ 56 (.tmp 1) ?_ w.heap.size 0 ?_ (zAD x tv) _ ?_ underlying56 ?_ ?_ ?_);rfl;rfl;rfl;exact rA;rfl;kernel_rfl) | ((with_reducible refine zAA ?_ 56 (.tmp 3) ?_ (w.heap.size+1) 0 ?_ (zAD ⟨4,x.a,0,v0I,c0I,a0I,a0I⟩ zAH) _ ?_ underlying56 ?_ ?_ ?_);rfl;rfl;rfl;exact rO;rfl;kernel_rfl) | (go_at_call 97;refine (CS _ hB2).mono ?_;rintro e w3 ⟨rfl,hb3⟩;have hB3:=zAB hB2 hb3))
     go_wp2;go_ret;first
     | exact ⟨by simp,hB2⟩
     | exact ⟨by simp,hB3⟩
    ·have g4n:26<x.a:=by omega
     have hc:Wt.isBin x.a=false:=by simp only [Wt.isBin];simp;omega
     rw [hc];go_enter func61,ntmps61;go_upto_region 1 with fail
     go_upto_region 2 with ((with_reducible refine wpList_store_mid ?_ 56 (.tmp 3) (.tmp 7) ?_ (w.heap.size+1) 0 (zAD (zAI 4) zAH).toArray ?_ ?_ ?_ ?_ ?_ ?_);rfl;rfl;rfl;rfl;exact hth;kernel_rfl;exact zAj _ _ _ _)
     generalize (zAU w x tv).setCells (w.heap.size+1) 0 (zAD (zAI 4) zAH)=W0 at *;clear hth;go_upto_region 10 with fail
     have pA1:=AtL.drew pA;have pO1:=AtL.drew pO;have hB1:=hBa.drew;clear pA pO hBa hS;refine wp_region_held_drew (S:=zKz w.heap.size (w.heap.size+1) x tv) (by kernel_rfl) (zBK pA1 pO1) (λhHeld=>?_);generalize W0.drew=wd at *;refine tkQ 0 ?_
     refine tkQ 1 ?_
     refine tkQ 2 ?_
     refine tkQ 3 ?_
     refine tkQ 4 ?_
     refine tkQ 5 ?_
     refine tkQ 6 ?_
     refine tkQ 7 ?_
     refine tkQ 8 ?_
     refine tkQ 9 ?_
     refine tkQ 10 ?_
     refine tkQ 11 ?_
     refine tkQ 12 ?_
     refine tkQ 13 ?_
     refine tkQ 14 ?_
     refine tkQ 15 ?_
     refine tkQ 16 ?_
     refine tkQ 17 ?_
     refine tkQ 18 ?_
     refine tkQ 19 ?_
     refine tkQ 20 ?_
     refine rdQ 21 (λK hK=>?_);have o1:=pO1.2.1 1 _ rfl;obtain ⟨_,g1⟩:=hHeld;go_simp
     refine hkQ hK ((zCI (zBK pA1 pO1) (by omega) _ _)) (λhHeld=>?_);clear hK K o1 g1
     have pA2:AtL (wd.setCell ⟨w.heap.size+1,1,none⟩ (.int .i64 x.a)) w.heap.size (zAD x tv):=(pA1.far hne 1 (.int .i64 x.a))
     have pO2:AtL (wd.setCell ⟨w.heap.size+1,1,none⟩ (.int .i64 x.a)) (w.heap.size+1) (zAD ⟨4,x.a,0,v0I,c0I,a0I,a0I⟩ zAH):=(pO1.set 1 (.int .i64 x.a))
     have hB2:Below w.heap.size w (wd.setCell ⟨w.heap.size+1,1,none⟩ (.int .i64 x.a)):=(clB hB1)
     clear pA1 pO1 hB1;generalize (wd.setCell ⟨w.heap.size+1,1,none⟩ (.int .i64 x.a))=ws1 at *;have pA1:=pA2;have pO1:=pO2;have hB1:=hB2;clear pA2 pO2 hB2;refine rdQ 22 (λK hK=>?_);go_simp
     refine hkQ hK (by assumption) (λhHeld=>?_);clear hK K
     refine wpAnyH_done (by kernel_rfl) ?_ _;clear hHeld;have rA:=pA1.range;have rO:=pO1.range;have hB2:=hB1;clear pA1 pO1 hB1;go_wp2_with (first | ((with_reducible refine zAA ?_ 56 (.tmp 1) ?_ w.heap.size 0 ?_ (zAD x tv) _ ?_ underlying56 ?_ ?_ ?_);rfl;rfl;rfl;exact rA;rfl;kernel_rfl) | ((with_reducible refine zAA ?_ 56 (.tmp 3) ?_ (w.heap.size+1) 0 ?_ (zAD ⟨4,x.a,0,v0I,c0I,a0I,a0I⟩ zAH) _ ?_ underlying56 ?_ ?_ ?_);rfl;rfl;rfl;exact rO;rfl;kernel_rfl) | (go_at_call 97;refine (CS _ hB2).mono ?_;rintro e w3 ⟨rfl,hb3⟩;have hB3:=zAB hB2 hb3))
     go_wp2;go_ret;first
     | exact ⟨by simp,hB2⟩
     | exact ⟨by simp,hB3⟩
   ·have g3n:x.a<21:=by omega
    have hc:Wt.isBin x.a=false:=by simp only [Wt.isBin];simp;omega
    rw [hc];go_enter func61,ntmps61;go_upto_region 1 with fail
    go_upto_region 2 with ((with_reducible refine wpList_store_mid ?_ 56 (.tmp 3) (.tmp 7) ?_ (w.heap.size+1) 0 (zAD (zAI 4) zAH).toArray ?_ ?_ ?_ ?_ ?_ ?_);rfl;rfl;rfl;rfl;exact hth;kernel_rfl;exact zAj _ _ _ _)
    generalize (zAU w x tv).setCells (w.heap.size+1) 0 (zAD (zAI 4) zAH)=W0 at *;clear hth;go_upto_region 10 with fail
    have pA1:=AtL.drew pA;have pO1:=AtL.drew pO;have hB1:=hBa.drew;clear pA pO hBa hS;refine wp_region_held_drew (S:=zKz w.heap.size (w.heap.size+1) x tv) (by kernel_rfl) (zBK pA1 pO1) (λhHeld=>?_);generalize W0.drew=wd at *;refine tkQ 0 ?_
    refine tkQ 1 ?_
    refine tkQ 2 ?_
    refine tkQ 3 ?_
    refine tkQ 4 ?_
    refine tkQ 5 ?_
    refine tkQ 6 ?_
    refine tkQ 7 ?_
    refine tkQ 8 ?_
    refine tkQ 9 ?_
    refine tkQ 10 ?_
    refine tkQ 11 ?_
    refine tkQ 12 ?_
    refine tkQ 13 ?_
    refine tkQ 14 ?_
    refine tnQ 15 ?_
    refine tnQ 16 ?_
    refine tnQ 17 ?_
    refine tkQ 18 ?_
    refine tkQ 19 ?_
    refine tkQ 20 ?_
    refine rdQ 21 (λK hK=>?_);have o1:=pO1.2.1 1 _ rfl;obtain ⟨_,g1⟩:=hHeld;go_simp
    refine hkQ hK ((zCI (zBK pA1 pO1) (by omega) _ _)) (λhHeld=>?_);clear hK K o1 g1
    have pA2:AtL (wd.setCell ⟨w.heap.size+1,1,none⟩ (.int .i64 x.a)) w.heap.size (zAD x tv):=(pA1.far hne 1 (.int .i64 x.a))
    have pO2:AtL (wd.setCell ⟨w.heap.size+1,1,none⟩ (.int .i64 x.a)) (w.heap.size+1) (zAD ⟨4,x.a,0,v0I,c0I,a0I,a0I⟩ zAH):=(pO1.set 1 (.int .i64 x.a))
    have hB2:Below w.heap.size w (wd.setCell ⟨w.heap.size+1,1,none⟩ (.int .i64 x.a)):=(clB hB1)
    clear pA1 pO1 hB1;generalize (wd.setCell ⟨w.heap.size+1,1,none⟩ (.int .i64 x.a))=ws1 at *;have pA1:=pA2;have pO1:=pO2;have hB1:=hB2;clear pA2 pO2 hB2;refine rdQ 22 (λK hK=>?_);go_simp
    refine hkQ hK (by assumption) (λhHeld=>?_);clear hK K
    refine wpAnyH_done (by kernel_rfl) ?_ _;clear hHeld;have rA:=pA1.range;have rO:=pO1.range;have hB2:=hB1;clear pA1 pO1 hB1;go_wp2_with (first | ((with_reducible refine zAA ?_ 56 (.tmp 1) ?_ w.heap.size 0 ?_ (zAD x tv) _ ?_ underlying56 ?_ ?_ ?_);rfl;rfl;rfl;exact rA;rfl;kernel_rfl) | ((with_reducible refine zAA ?_ 56 (.tmp 3) ?_ (w.heap.size+1) 0 ?_ (zAD ⟨4,x.a,0,v0I,c0I,a0I,a0I⟩ zAH) _ ?_ underlying56 ?_ ?_ ?_);rfl;rfl;rfl;exact rO;rfl;kernel_rfl) | (go_at_call 97;refine (CS _ hB2).mono ?_;rintro e w3 ⟨rfl,hb3⟩;have hB3:=zAB hB2 hb3))
    go_wp2;go_ret;first
    | exact ⟨by simp,hB2⟩
    | exact ⟨by simp,hB3⟩
 ·have g1n:x.a<11:=by omega
  have g3:¬ 21<=x.a:=by omega
  have g3n:x.a<21:=by omega
  have hc:Wt.isBin x.a=false:=by simp only [Wt.isBin];simp;omega
  rw [hc];go_enter func61,ntmps61;go_upto_region 1 with fail
  go_upto_region 2 with ((with_reducible refine wpList_store_mid ?_ 56 (.tmp 3) (.tmp 7) ?_ (w.heap.size+1) 0 (zAD (zAI 4) zAH).toArray ?_ ?_ ?_ ?_ ?_ ?_);rfl;rfl;rfl;rfl;exact hth;kernel_rfl;exact zAj _ _ _ _)
  generalize (zAU w x tv).setCells (w.heap.size+1) 0 (zAD (zAI 4) zAH)=W0 at *;clear hth;go_upto_region 10 with fail
  have pA1:=AtL.drew pA;have pO1:=AtL.drew pO;have hB1:=hBa.drew;clear pA pO hBa hS;refine wp_region_held_drew (S:=zKz w.heap.size (w.heap.size+1) x tv) (by kernel_rfl) (zBK pA1 pO1) (λhHeld=>?_);generalize W0.drew=wd at *;refine tkQ 0 ?_
  refine tkQ 1 ?_
  refine tkQ 2 ?_
  refine tkQ 3 ?_
  refine tkQ 4 ?_
  refine tkQ 5 ?_
  refine tnQ 6 ?_
  refine tnQ 7 ?_
  refine tnQ 8 ?_
  refine tkQ 9 ?_
  refine tkQ 10 ?_
  refine tkQ 11 ?_
  refine tkQ 12 ?_
  refine tkQ 13 ?_
  refine tkQ 14 ?_
  refine tnQ 15 ?_
  refine tnQ 16 ?_
  refine tnQ 17 ?_
  refine tkQ 18 ?_
  refine tkQ 19 ?_
  refine tkQ 20 ?_
  refine rdQ 21 (λK hK=>?_);have o1:=pO1.2.1 1 _ rfl;obtain ⟨_,g1⟩:=hHeld;go_simp
  refine hkQ hK ((zCI (zBK pA1 pO1) (by omega) _ _)) (λhHeld=>?_);clear hK K o1 g1
  have pA2:AtL (wd.setCell ⟨w.heap.size+1,1,none⟩ (.int .i64 x.a)) w.heap.size (zAD x tv):=(pA1.far hne 1 (.int .i64 x.a))
  have pO2:AtL (wd.setCell ⟨w.heap.size+1,1,none⟩ (.int .i64 x.a)) (w.heap.size+1) (zAD ⟨4,x.a,0,v0I,c0I,a0I,a0I⟩ zAH):=(pO1.set 1 (.int .i64 x.a))
  have hB2:Below w.heap.size w (wd.setCell ⟨w.heap.size+1,1,none⟩ (.int .i64 x.a)):=(clB hB1)
  clear pA1 pO1 hB1;generalize (wd.setCell ⟨w.heap.size+1,1,none⟩ (.int .i64 x.a))=ws1 at *;have pA1:=pA2;have pO1:=pO2;have hB1:=hB2;clear pA2 pO2 hB2;refine rdQ 22 (λK hK=>?_);go_simp
  refine hkQ hK (by assumption) (λhHeld=>?_);clear hK K
  refine wpAnyH_done (by kernel_rfl) ?_ _;clear hHeld;have rA:=pA1.range;have rO:=pO1.range;have hB2:=hB1;clear pA1 pO1 hB1;go_wp2_with (first | ((with_reducible refine zAA ?_ 56 (.tmp 1) ?_ w.heap.size 0 ?_ (zAD x tv) _ ?_ underlying56 ?_ ?_ ?_);rfl;rfl;rfl;exact rA;rfl;kernel_rfl) | ((with_reducible refine zAA ?_ 56 (.tmp 3) ?_ (w.heap.size+1) 0 ?_ (zAD ⟨4,x.a,0,v0I,c0I,a0I,a0I⟩ zAH) _ ?_ underlying56 ?_ ?_ ?_);rfl;rfl;rfl;exact rO;rfl;kernel_rfl) | (go_at_call 97;refine (CS _ hB2).mono ?_;rintro e w3 ⟨rfl,hb3⟩;have hB3:=zAB hB2 hb3))
  go_wp2;go_ret;first
  | exact ⟨by simp,hB2⟩
  | exact ⟨by simp,hB3⟩
