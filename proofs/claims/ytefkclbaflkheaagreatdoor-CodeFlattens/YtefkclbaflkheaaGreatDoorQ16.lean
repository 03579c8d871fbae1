/- Lemmas. -/
import Derived.Test.YtefkclbaflkheaaGreatDoorQ15
set_option maxHeartbeats 4000000
set_option maxRecDepth 100000
namespace Go.Proofs.YtefkclbaflkheaaGreatDoor
open Tryz
variable {ka kb:Nat} {x y:Wc.In} {tv tu:Value} {W:World}
open Go.RowKit
set_option linter.unusedVariables false
abbrev zIU (ka kb:Nat) (x:Wc.In) (tv:Value) (W:World):Prop :=
 W.cell? ⟨ka,1,none⟩=some (.int .i64 x.a)/\W.cell? ⟨ka,2,none⟩=some (.int .i64 x.b)/\W.frozen? ⟨kb,1,none⟩=false/\W.frozen? ⟨kb,2,none⟩=false
theorem zCd (h0:AtL W ka (zAD x tv)) (h1:AtL W kb (zAD y tu)):zIU ka kb x tv W :=
 ⟨h0.2.1 1 _ rfl,h0.2.1 2 _ rfl,h1.2.2 1 (by show 1<23;decide),h1.2.2 2 (by show 2<23;decide)⟩
theorem zDf (h:zIU ka kb x tv W) (hne:kb ≠ ka) (j:Nat) (u:Value):zIU ka kb x tv (W.setCell ⟨kb,j,none⟩ u):=by
 obtain ⟨h1,h2,g1,g2⟩:=h;refine ⟨?_,?_,?_,?_⟩;any_goals rw [World.cell?_setCell_far _ _ _ _ (by simpa using hne)];assumption
 all_goals rw [World.frozen?_setCell];assumption
theorem zHM (x:Wc.In) (av:Option Addr) (n c:Nat) (tl:List Int) (w:World) (hk:x.op=12) (hz:RdZ w (.slice av n c) tl) (hl:tl.length<=1000000) :
  CR 61 #[inV x (.slice av n c)] w (.bool (true && (smI x ⟨12,x.a,x.b,v0I,c0I,a0I,a0I⟩ && decide (tl=[])))):=by
 have CS:∀ w',Below w.heap.size w w'->Calls prog 97 #[.agg (zAD x (.slice av n c)).toArray,.agg (zAD ⟨12,x.a,x.b,v0I,c0I,a0I,a0I⟩ zAH).toArray] w' λe w''=>e=.returned (.bool (smI x ⟨12,x.a,x.b,v0I,c0I,a0I,a0I⟩ && decide (tl=[])))/\Below w'.heap.size w' w'':=λw' hb=>zA6 x ⟨12,x.a,x.b,v0I,c0I,a0I,a0I⟩ _ _ tl [] w' (hz.below hb) (RdZ.nil _) hl (by first | exact hl | simp)
 generalize (smI x ⟨12,x.a,x.b,v0I,c0I,a0I,a0I⟩ && decide (tl=[]))=R at *;obtain ⟨tv,htv⟩:∃ tv,Value.slice av n c=tv:=⟨_,rfl⟩
 rw [htv] at CS ⊢;have pA0:AtL (zAU w x tv) w.heap.size (zAD x tv):=(AtL.new0 w _ _).alloc _;have pO0:AtL (zAU w x tv) (w.heap.size+1) (zAD (zAI 0) zAH):=AtL.new1 w _ _ _;have hth:World.there (zAU w x tv) (w.heap.size+1) 0 (zAD (zAI 12) zAH).toArray.size:=pO0.there;have hne:w.heap.size+1 ≠ w.heap.size:=by omega
 have pA:=pA0.farAll hne 0 (zAD (zAI 12) zAH);have pO:AtL ((zAU w x tv).setCells (w.heap.size+1) 0 (zAD (zAI 12) zAH)) (w.heap.size+1) (zAD (zAI 12) zAH):=pO0.setAll rfl;have hBa:Below w.heap.size w ((zAU w x tv).setCells (w.heap.size+1) 0 (zAD (zAI 12) zAH)):=zAv (zAM (zAM (Below.refl _ w) _) _) (Nat.le_succ _) _ 0;clear pA0 pO0;have n0:(zAD x tv)[0]? = some (.int .i64 12):=by rw [<-hk];rfl
 have a0:World.cell? ((zAU w x tv).setCells (w.heap.size+1) 0 (zAD (zAI 12) zAH)) ⟨w.heap.size,0,none⟩=some (.int .i64 12):=pA.2.1 0 _ n0;show Calls _ _ #[.agg (zAD x tv).toArray] _ _
 have hS:zIU w.heap.size (w.heap.size+1) x tv ((zAU w x tv).setCells (w.heap.size+1) 0 (zAD (zAI 12) zAH)):=zCd pA pO;clear hz hl htv;go_enter func61,ntmps61;go_upto_region 1 with fail
 go_upto_region 2 with ((with_reducible refine wpList_store_mid ?_ 56 (.tmp 3) (.tmp 7) ?_ (w.heap.size+1) 0 (zAD (zAI 12) zAH).toArray ?_ ?_ ?_ ?_ ?_ ?_);rfl;rfl;rfl;rfl;exact hth;kernel_rfl;exact zAj _ _ _ _)
 generalize (zAU w x tv).setCells (w.heap.size+1) 0 (zAD (zAI 12) zAH)=W0 at *;clear hth;go_upto_region 27 with fail
 have pA1:=AtL.drew pA;have pO1:=AtL.drew pO;have hB1:=hBa.drew;clear pA pO hBa hS;refine wp_region_held_drew (S:=zIU w.heap.size (w.heap.size+1) x tv) (by kernel_rfl) (zCd pA1 pO1) (λhHeld=>?_);generalize W0.drew=wd at *;refine tkQ 0 ?_
 refine tkQ 1 ?_
 refine tkQ 2 ?_
 refine tkQ 3 ?_
 refine tkQ 4 ?_
 refine rdQ 5 (λK hK=>?_);have o1:=pO1.2.1 1 _ rfl;obtain ⟨_,_,g1,g2⟩:=hHeld;go_simp
 refine hkQ hK ((zDf (zCd pA1 pO1) (by omega) _ _)) (λhHeld=>?_);clear hK K o1 g1 g2
 have pA2:AtL (wd.setCell ⟨w.heap.size+1,1,none⟩ (.int .i64 x.a)) w.heap.size (zAD x tv):=(pA1.far hne 1 (.int .i64 x.a))
 have pO2:AtL (wd.setCell ⟨w.heap.size+1,1,none⟩ (.int .i64 x.a)) (w.heap.size+1) (zAD ⟨12,x.a,0,v0I,c0I,a0I,a0I⟩ zAH):=(pO1.set 1 (.int .i64 x.a))
 have hB2:Below w.heap.size w (wd.setCell ⟨w.heap.size+1,1,none⟩ (.int .i64 x.a)):=(clB hB1)
 clear pA1 pO1 hB1;generalize (wd.setCell ⟨w.heap.size+1,1,none⟩ (.int .i64 x.a))=ws1 at *;have pA1:=pA2;have pO1:=pO2;have hB1:=hB2;clear pA2 pO2 hB2;refine tkQ 6 ?_
 refine rdQ 7 (λK hK=>?_);have o2:=pO1.2.1 2 _ rfl;obtain ⟨_,_,g1,g2⟩:=hHeld;go_simp
 refine hkQ hK ((zDf (zCd pA1 pO1) (by omega) _ _)) (λhHeld=>?_);clear hK K o2 g1 g2
 have pA2:AtL (ws1.setCell ⟨w.heap.size+1,2,none⟩ (.int .i64 x.b)) w.heap.size (zAD x tv):=(pA1.far hne 2 (.int .i64 x.b))
 have pO2:AtL (ws1.setCell ⟨w.heap.size+1,2,none⟩ (.int .i64 x.b)) (w.heap.size+1) (zAD ⟨12,x.a,x.b,v0I,c0I,a0I,a0I⟩ zAH):=(pO1.set 2 (.int .i64 x.b))
 have hB2:Below w.heap.size w (ws1.setCell ⟨w.heap.size+1,2,none⟩ (.int .i64 x.b)):=(clB hB1)
 clear pA1 pO1 hB1;generalize (ws1.setCell ⟨w.heap.size+1,2,none⟩ (.int .i64 x.b))=ws2 at *;have pA1:=pA2;have pO1:=pO2;have hB1:=hB2;clear pA2 pO2 hB2;refine rdQ 8 (λK hK=>?_);go_simp
 refine hkQ hK (by assumption) (λhHeld=>?_);clear hK K
 refine wpAnyH_done (by kernel_rfl) ?_ _;clear hHeld;have rA:=pA1.range;have rO:=pO1.range;have hB2:=hB1;clear pA1 pO1 hB1;go_wp2_with (first | ((with_reducible refine zAA ?_ 56 (.tmp 1) ?_ w.heap.size 0 ?_ (zAD x tv) _ ?_ underlying56 ?_ ?_ ?_);rfl;rfl;rfl;exact rA;rfl;kernel_rfl) | ((with_reducible refine zAA ?_ 56 (.tmp 3) ?_ (w.heap.size+1) 0 ?_ (zAD ⟨12,x.a,x.b,v0I,c0I,a0I,a0I⟩ zAH) _ ?_ underlying56 ?_ ?_ ?_);rfl;rfl;rfl;exact rO;rfl;kernel_rfl) | (go_at_call 97;refine (CS _ hB2).mono ?_;rintro e w3 ⟨rfl,hb3⟩;have hB3:=zAB hB2 hb3))
 go_wp2;go_ret;first
 | exact ⟨by simp,hB2⟩
 | exact ⟨by simp,hB3⟩
abbrev zEz (ka kb:Nat) (x:Wc.In) (tv:Value) (W:World):Prop :=
 W.cell? ⟨ka,2,none⟩=some (.int .i64 x.b)/\W.cell? ⟨ka,22,none⟩=some (tv)/\W.frozen? ⟨kb,2,none⟩=false/\W.frozen? ⟨kb,22,none⟩=false
theorem zAy (h0:AtL W ka (zAD x tv)) (h1:AtL W kb (zAD y tu)):zEz ka kb x tv W :=
 ⟨h0.2.1 2 _ rfl,h0.2.1 22 _ rfl,h1.2.2 2 (by show 2<23;decide),h1.2.2 22 (by show 22<23;decide)⟩
theorem zB0 (h:zEz ka kb x tv W) (hne:kb ≠ ka) (j:Nat) (u:Value):zEz ka kb x tv (W.setCell ⟨kb,j,none⟩ u):=by
 obtain ⟨h2,h22,g2,g22⟩:=h;refine ⟨?_,?_,?_,?_⟩;any_goals rw [World.cell?_setCell_far _ _ _ _ (by simpa using hne)];assumption
 all_goals rw [World.frozen?_setCell];assumption
theorem zIz (x:Wc.In) (av:Option Addr) (n c:Nat) (tl:List Int) (w:World) (hk:x.op=15) (hz:RdZ w (.slice av n c) tl) (hl:tl.length<=1000000) :
  CR 61 #[inV x (.slice av n c)] w (.bool ((decide (1<=(tl.length:Int)) && decide ((tl.length:Int)<=30)) && (smI x ⟨15,0,x.b,v0I,c0I,a0I,a0I⟩ && decide (tl=tl)))):=by
 have CS:∀ w',Below w.heap.size w w'->Calls prog 97 #[.agg (zAD x (.slice av n c)).toArray,.agg (zAD ⟨15,0,x.b,v0I,c0I,a0I,a0I⟩ (.slice av n c)).toArray] w' λe w''=>e=.returned (.bool (smI x ⟨15,0,x.b,v0I,c0I,a0I,a0I⟩ && decide (tl=tl)))/\Below w'.heap.size w' w'':=λw' hb=>zA6 x ⟨15,0,x.b,v0I,c0I,a0I,a0I⟩ _ _ tl tl w' (hz.below hb) (hz.below hb) hl (by first | exact hl | simp)
 generalize (smI x ⟨15,0,x.b,v0I,c0I,a0I,a0I⟩ && decide (tl=tl))=R at *;have HL:(tl.length:Int)=n:=by obtain ⟨_,_,e,_⟩:=hz;injection e with e1 e2 e3;omega
 have pA0:AtL (zAU w x (.slice av n c)) w.heap.size (zAD x (.slice av n c)):=(AtL.new0 w _ _).alloc _;have pO0:AtL (zAU w x (.slice av n c)) (w.heap.size+1) (zAD (zAI 0) zAH):=AtL.new1 w _ _ _;have hth:World.there (zAU w x (.slice av n c)) (w.heap.size+1) 0 (zAD (zAI 15) zAH).toArray.size:=pO0.there;have hne:w.heap.size+1 ≠ w.heap.size:=by omega
 have pA:=pA0.farAll hne 0 (zAD (zAI 15) zAH);have pO:AtL ((zAU w x (.slice av n c)).setCells (w.heap.size+1) 0 (zAD (zAI 15) zAH)) (w.heap.size+1) (zAD (zAI 15) zAH):=pO0.setAll rfl;have hBa:Below w.heap.size w ((zAU w x (.slice av n c)).setCells (w.heap.size+1) 0 (zAD (zAI 15) zAH)):=zAv (zAM (zAM (Below.refl _ w) _) _) (Nat.le_succ _) _ 0;clear pA0 pO0;have n0:(zAD x (.slice av n c))[0]? = some (.int .i64 15):=by rw [<-hk];rfl
 have a0:World.cell? ((zAU w x (.slice av n c)).setCells (w.heap.size+1) 0 (zAD (zAI 15) zAH)) ⟨w.heap.size,0,none⟩=some (.int .i64 15):=pA.2.1 0 _ n0;show Calls _ _ #[.agg (zAD x (.slice av n c)).toArray] _ _
 have hS:zEz w.heap.size (w.heap.size+1) x (.slice av n c) ((zAU w x (.slice av n c)).setCells (w.heap.size+1) 0 (zAD (zAI 15) zAH)):=zAy pA pO;clear hz hl;by_cases g1:1<=(n:Int)
 ·have g1n:¬ (n:Int)<1:=by omega
  by_cases g2:(n:Int)<=30
  ·have g2n:¬ 30<(n:Int):=by omega
   have hc:(decide (1<=(tl.length:Int)) && decide ((tl.length:Int)<=30))=true:=by rw [HL];simp only [g1,g2,decide_true,Bool.and_self]
   rw [hc];go_enter func61,ntmps61;go_upto_region 1 with fail
   go_upto_region 2 with ((with_reducible refine wpList_store_mid ?_ 56 (.tmp 3) (.tmp 7) ?_ (w.heap.size+1) 0 (zAD (zAI 15) zAH).toArray ?_ ?_ ?_ ?_ ?_ ?_);rfl;rfl;rfl;rfl;exact hth;kernel_rfl;exact zAj _ _ _ _)
   generalize (zAU w x (.slice av n c)).setCells (w.heap.size+1) 0 (zAD (zAI 15) zAH)=W0 at *;clear hth;go_upto_region 32 with fail
   have pA1:=AtL.drew pA;have pO1:=AtL.drew pO;have hB1:=hBa.drew;clear pA pO hBa hS;refine wp_region_held_drew (S:=zEz w.heap.size (w.heap.size+1) x (.slice av n c)) (by kernel_rfl) (zAy pA1 pO1) (λhHeld=>?_);generalize W0.drew=wd at *;refine tkQ 0 ?_
   refine tkQ 1 ?_
   refine tkQ 2 ?_
   refine tkQ 3 ?_
   refine tkQ 4 ?_
   refine tkQ 5 ?_
   refine tkQ 6 ?_
   refine tkQ 7 ?_
   refine tkQ 8 ?_
   refine tkQ 9 ?_
   refine tkQ 10 ?_
   refine tkQ 11 ?_
   refine tkQ 12 ?_
   refine tkQ 13 ?_
   refine tkQ 14 ?_
   refine rdQ 15 (λK hK=>?_);have o22:=pO1.2.1 22 _ rfl;obtain ⟨_,_,g2,g22⟩:=hHeld;go_simp
   refine hkQ hK ((zB0 (zAy pA1 pO1) (by omega) _ _)) (λhHeld=>?_);clear hK K o22 g2 g22
   have pA2:AtL (wd.setCell ⟨w.heap.size+1,22,none⟩ (.slice av n c)) w.heap.size (zAD x (.slice av n c)):=(pA1.far hne 22 (.slice av n c))
   have pO2:AtL (wd.setCell ⟨w.heap.size+1,22,none⟩ (.slice av n c)) (w.heap.size+1) (zAD ⟨15,0,0,v0I,c0I,a0I,a0I⟩ (.slice av n c)):=(pO1.set 22 (.slice av n c))
   have hB2:Below w.heap.size w (wd.setCell ⟨w.heap.size+1,22,none⟩ (.slice av n c)):=(clB hB1)
   clear pA1 pO1 hB1;generalize (wd.setCell ⟨w.heap.size+1,22,none⟩ (.slice av n c))=ws1 at *;have pA1:=pA2;have pO1:=pO2;have hB1:=hB2;clear pA2 pO2 hB2;refine tkQ 16 ?_
   refine rdQ 17 (λK hK=>?_);have o2:=pO1.2.1 2 _ rfl;obtain ⟨_,_,g2,g22⟩:=hHeld;go_simp
   refine hkQ hK ((zB0 (zAy pA1 pO1) (by omega) _ _)) (λhHeld=>?_);clear hK K o2 g2 g22
   have pA2:AtL (ws1.setCell ⟨w.heap.size+1,2,none⟩ (.int .i64 x.b)) w.heap.size (zAD x (.slice av n c)):=(pA1.far hne 2 (.int .i64 x.b))
   have pO2:AtL (ws1.setCell ⟨w.heap.size+1,2,none⟩ (.int .i64 x.b)) (w.heap.size+1) (zAD ⟨15,0,x.b,v0I,c0I,a0I,a0I⟩ (.slice av n c)):=(pO1.set 2 (.int .i64 x.b))
   have hB2:Below w.heap.size w (ws1.setCell ⟨w.heap.size+1,2,none⟩ (.int .i64 x.b)):=(clB hB1)
   clear pA1 pO1 hB1;generalize (ws1.setCell ⟨w.heap.size+1,2,none⟩ (.int .i64 x.b))=ws2 at *;have pA1:=pA2;have pO1:=pO2;have hB1:=hB2;clear pA2 pO2 hB2;refine rdQ 18 (λK hK=>?_);go_simp
   refine hkQ hK (by assumption) (λhHeld=>?_);clear hK K
   refine wpAnyH_done (by kernel_rfl) ?_ _;clear hHeld;have rA:=pA1.range;have rO:=pO1.range;have hB2:=hB1;clear pA1 pO1 hB1;go_wp2_with (first | ((with_reducible refine zAA ?_ 56 (.tmp 1) ?_ w.heap.size 0 ?_ (zAD x (.slice av n c)) _ ?_ underlying56 ?_ ?_ ?_);rfl;rfl;rfl;exact rA;rfl;kernel_rfl) | ((with_reducible refine zAA ?_ 56 (.tmp 3) ?_ (w.heap.size+1) 0 ?_ (zAD ⟨15,0,x.b,v0I,c0I,a0I,a0I⟩ (.slice av n c)) _ ?_ underlying56 ?_ ?_ ?_);rfl;rfl;rfl;exact rO;rfl;kernel_rfl) | (go_at_call 97;refine (CS _ hB2).mono ?_;rintro e w3 ⟨rfl,hb3⟩;have hB3:=zAB hB2 hb3))
   go_wp2;go_ret;first
   | exact ⟨by simp,hB2⟩
   | exact ⟨by simp,hB3⟩
  ·have g2n:30<(n:Int):=by omega
   have hc:(decide (1<=(tl.length:Int)) && decide ((tl.length:Int)<=30))=false:=by rw [HL];simp only [g2,decide_false,Bool.and_false]
   rw [hc];go_enter func61,ntmps61;go_upto_region 1 with fail
   go_upto_region 2 with ((with_reducible refine wpList_store_mid ?_ 56 (.tmp 3) (.tmp 7) ?_ (w.heap.size+1) 0 (zAD (zAI 15) zAH).toArray ?_ ?_ ?_ ?_ ?_ ?_);rfl;rfl;rfl;rfl;exact hth;kernel_rfl;exact zAj _ _ _ _)
   generalize (zAU w x (.slice av n c)).setCells (w.heap.size+1) 0 (zAD (zAI 15) zAH)=W0 at *;clear hth;go_upto_region 32 with fail
   have pA1:=AtL.drew pA;have pO1:=AtL.drew pO;have hB1:=hBa.drew;clear pA pO hBa hS;refine wp_region_held_drew (S:=zEz w.heap.size (w.heap.size+1) x (.slice av n c)) (by kernel_rfl) (zAy pA1 pO1) (λhHeld=>?_);generalize W0.drew=wd at *;refine tkQ 0 ?_
   refine tkQ 1 ?_
   refine tkQ 2 ?_
   refine tkQ 3 ?_
   refine tkQ 4 ?_
   refine tkQ 5 ?_
   refine tkQ 6 ?_
   refine tkQ 7 ?_
   refine tkQ 8 ?_
   refine tkQ 9 ?_
   refine tkQ 10 ?_
   refine tkQ 11 ?_
   refine tkQ 12 ?_
   refine tkQ 13 ?_
   refine tkQ 14 ?_
   refine rdQ 15 (λK hK=>?_);have o22:=pO1.2.1 22 _ rfl;obtain ⟨_,_,g2,g22⟩:=hHeld;go_simp
   refine hkQ hK ((zB0 (zAy pA1 pO1) (by omega) _ _)) (λhHeld=>?_);clear hK K o22 g2 g22
   have pA2:AtL (wd.setCell ⟨w.heap.size+1,22,none⟩ (.slice av n c)) w.heap.size (zAD x (.slice av n c)):=(pA1.far hne 22 (.slice av n c))
   have pO2:AtL (wd.setCell ⟨w.heap.size+1,22,none⟩ (.slice av n c)) (w.heap.size+1) (zAD ⟨15,0,0,v0I,c0I,a0I,a0I⟩ (.slice av n c)):=(pO1.set 22 (.slice av n c))
   have hB2:Below w.heap.size w (wd.setCell ⟨w.heap.size+1,22,none⟩ (.slice av n c)):=(clB hB1)
   clear pA1 pO1 hB1;generalize (wd.setCell ⟨w.heap.size+1,22,none⟩ (.slice av n c))=ws1 at *;have pA1:=pA2;have pO1:=pO2;have hB1:=hB2;clear pA2 pO2 hB2;refine tkQ 16 ?_
   refine rdQ 17 (λK hK=>?_);have o2:=pO1.2.1 2 _ rfl;obtain ⟨_,_,g2,g22⟩:=hHeld;go_simp
   refine hkQ hK ((zB0 (zAy pA1 pO1) (by omega) _ _)) (λhHeld=>?_);clear hK K o2 g2 g22
   have pA2:AtL (ws1.setCell ⟨w.heap.size+1,2,none⟩ (.int .i64 x.b)) w.heap.size (zAD x (.slice av n c)):=(pA1.far hne 2 (.int .i64 x.b))
   have pO2:AtL (ws1.setCell ⟨w.heap.size+1,2,none⟩ (.int .i64 x.b)) (w.heap.size+1) (zAD ⟨15,0,x.b,v0I,c0I,a0I,a0I⟩ (.slice av n c)):=(pO1.set 2 (.int .i64 x.b))
   have hB2:Below w.heap.size w (ws1.setCell ⟨w.heap.size+1,2,none⟩ (.int .i64 x.b)):=(clB hB1)
   clear pA1 pO1 hB1;generalize (ws1.setCell ⟨w.heap.size+1,2,none⟩ (.int .i64 x.b))=ws2 at *;have pA1:=pA2;have pO1:=pO2;have hB1:=hB2;clear pA2 pO2 hB2;refine rdQ 18 (λK hK=>?_);go_simp
   refine hkQ hK (by assumption) (λhHeld=>?_);clear hK K
   refine wpAnyH_done (by kernel_rfl) ?_ _;clear hHeld;have rA:=pA1.range;have rO:=pO1.range;have hB2:=hB1;clear pA1 pO1 hB1;go_wp2_with (first | ((with_reducible refine zAA ?_ 56 (.tmp 1) ?_ w.heap.size 0 ?_ (zAD x (.slice av n c)) _ ?_ underlying56 ?_ ?_ ?_);rfl;rfl;rfl;exact rA;rfl;kernel_rfl) | ((with_reducible refine zAA ?_ 56 (.tmp 3) ?_ (w.heap.size+1) 0 ?_ (zAD ⟨15,0,x.b,v0I,c0I,a0I,a0I⟩ (.slice av n c)) _ ?_ underlying56 ?_ ?_ ?_);rfl;rfl;rfl;exact rO;rfl;kernel_rfl) | (go_at_call 97;refine (CS _ hB2).mono ?_;rintro e w3 ⟨rfl,hb3⟩;have hB3:=zAB hB2 hb3))
   go_wp2;go_ret;first
   | exact ⟨by simp,hB2⟩
   | exact ⟨by simp,hB3⟩
 ·have g1n:(n:Int)<1:=by omega
  have hc:(decide (1<=(tl.length:Int)) && decide ((tl.length:Int)<=30))=false:=by rw [HL];simp only [g1,decide_false,Bool.false_and]
  rw [hc];go_enter func61,ntmps61;go_upto_region 1 with fail
  go_upto_region 2 with ((with_reducible refine wpList_store_mid ?_ 56 (.tmp 3) (.tmp 7) ?_ (w.heap.size+1) 0 (zAD (zAI 15) zAH).toArray ?_ ?_ ?_ ?_ ?_ ?_);rfl;rfl;rfl;rfl;exact hth;kernel_rfl;exact zAj _ _ _ _)
  generalize (zAU w x (.slice av n c)).setCells (w.heap.size+1) 0 (zAD (zAI 15) zAH)=W0 at *;clear hth;go_upto_region 32 with fail
  have pA1:=AtL.drew pA;have pO1:=AtL.drew pO;have hB1:=hBa.drew;clear pA pO hBa hS;refine wp_region_held_drew (S:=zEz w.heap.size (w.heap.size+1) x (.slice av n c)) (by kernel_rfl) (zAy pA1 pO1) (λhHeld=>?_);generalize W0.drew=wd at *;refine tkQ 0 ?_
  refine tkQ 1 ?_
  refine tkQ 2 ?_
  refine tkQ 3 ?_
  refine tkQ 4 ?_
  refine tkQ 5 ?_
  refine tkQ 6 ?_
  refine tkQ 7 ?_
  refine tkQ 8 ?_
  refine tnQ 9 ?_
  refine tnQ 10 ?_
  refine tnQ 11 ?_
  refine tnQ 12 ?_
  refine tkQ 13 ?_
  refine tkQ 14 ?_
  refine rdQ 15 (λK hK=>?_);have o22:=pO1.2.1 22 _ rfl;obtain ⟨_,_,g2,g22⟩:=hHeld;go_simp
  refine hkQ hK ((zB0 (zAy pA1 pO1) (by omega) _ _)) (λhHeld=>?_);clear hK K o22 g2 g22
  have pA2:AtL (wd.setCell ⟨w.heap.size+1,22,none⟩ (.slice av n c)) w.heap.size (zAD x (.slice av n c)):=(pA1.far hne 22 (.slice av n c))
  have pO2:AtL (wd.setCell ⟨w.heap.size+1,22,none⟩ (.slice av n c)) (w.heap.size+1) (zAD ⟨15,0,0,v0I,c0I,a0I,a0I⟩ (.slice av n c)):=(pO1.set 22 (.slice av n c))
  have hB2:Below w.heap.size w (wd.setCell ⟨w.heap.size+1,22,none⟩ (.slice av n c)):=(clB hB1)
  clear pA1 pO1 hB1;generalize (wd.setCell ⟨w.heap.size+1,22,none⟩ (.slice av n c))=ws1 at *;have pA1:=pA2;have pO1:=pO2;have hB1:=hB2;clear pA2 pO2 hB2;refine tkQ 16 ?_
  refine rdQ 17 (λK hK=>?_);have o2:=pO1.2.1 2 _ rfl;obtain ⟨_,_,g2,g22⟩:=hHeld;go_simp
  refine hkQ hK ((zB0 (zAy pA1 pO1) (by omega) _ _)) (λhHeld=>?_);clear hK K o2 g2 g22
  have pA2:AtL (ws1.setCell ⟨w.heap.size+1,2,none⟩ (.int .i64 x.b)) w.heap.size (zAD x (.slice av n c)):=(pA1.far hne 2 (.int .i64 x.b))
  have pO2:AtL (ws1.setCell ⟨w.heap.size+1,2,none⟩ (.int .i64 x.b)) (w.heap.size+1) (zAD ⟨15,0,x.b,v0I,c0I,a0I,a0I⟩ (.slice av n c)):=(pO1.set 2 (.int .i64 x.b))
  have hB2:Below w.heap.size w (ws1.setCell ⟨w.heap.size+1,2,none⟩ (.int .i64 x.b)):=(clB hB1)
  clear pA1 pO1 hB1;generalize (ws1.setCell ⟨w.heap.size+1,2,none⟩ (.int .i64 x.b))=ws2 at *;have pA1:=pA2;have pO1:=pO2;have hB1:=hB2;clear pA2 pO2 hB2;refine rdQ 18 (λK hK=>?_);go_simp
  refine hkQ hK (by assumption) (λhHeld=>?_);clear hK K
  refine wpAnyH_done (by kernel_rfl) ?_ _;clear hHeld;have rA:=pA1.range;have rO:=pO1.range;have hB2:=hB1;clear pA1 pO1 hB1;go_wp2_with (first | ((with_reducible refine zAA ?_ 56 (.tmp 1) ?_ w.heap.size 0 ?_ (zAD x (.slice av n c)) _ ?_ underlying56 ?_ ?_ ?_);rfl;rfl;rfl;exact rA;rfl;kernel_rfl) | ((with_reducible refine zAA ?_ 56 (.tmp 3) ?_ (w.heap.size+1) 0 ?_ (zAD ⟨15,0,x.b,v0I,c0I,a0I,a0I⟩ (.slice av n c)) _ ?_ underlying56 ?_ ?_ ?_);rfl;rfl;rfl;exact rO;rfl;kernel_rfl) | (go_at_call 97;refine (CS _ hB2).mono ?_;rintro e w3 ⟨rfl,hb3⟩;have hB3:=zAB hB2 hb3))
  go_wp2;go_ret;first
  | exact ⟨by simp,hB2⟩
  | exact ⟨by simp,hB3⟩
