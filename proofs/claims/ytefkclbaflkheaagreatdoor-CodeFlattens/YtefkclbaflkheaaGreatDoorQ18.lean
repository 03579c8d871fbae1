/- Lemmas. -/
import Derived.Test.YtefkclbaflkheaaGreatDoorQ17
set_option maxHeartbeats 4000000
set_option maxRecDepth 100000
namespace Go.Proofs.YtefkclbaflkheaaGreatDoor
open Tryz
variable {ka kb:Nat} {x:Wc.In} {tv:Value} {W:World}
open Go.RowKit
set_option linter.unusedVariables false
abbrev zE1 (ka kb:Nat) (x:Wc.In) (tv:Value) (W:World):Prop :=
 W.cell? ⟨ka,2,none⟩=some (.int .i64 x.b)/\W.cell? ⟨ka,12,none⟩=some (.int .i64 x.ar.s)/\W.cell? ⟨ka,13,none⟩=some (.int .i64 x.ar.t)/\W.cell? ⟨ka,14,none⟩=some (.int .i64 x.ar.l)/\W.cell? ⟨ka,15,none⟩=some (.int .i64 x.ar.b)/\W.cell? ⟨ka,16,none⟩=some (.int .i64 x.ar.r)/\W.frozen? ⟨kb,2,none⟩=false/\W.frozen? ⟨kb,12,none⟩=false/\W.frozen? ⟨kb,13,none⟩=false/\W.frozen? ⟨kb,14,none⟩=false/\W.frozen? ⟨kb,15,none⟩=false/\W.frozen? ⟨kb,16,none⟩=false
theorem zA9 {y:Wc.In} {tu:Value} (h0:AtL W ka (zAD x tv)) (h1:AtL W kb (zAD y tu)):zE1 ka kb x tv W :=
 ⟨h0.2.1 2 _ rfl,h0.2.1 12 _ rfl,h0.2.1 13 _ rfl,h0.2.1 14 _ rfl,h0.2.1 15 _ rfl,h0.2.1 16 _ rfl,h1.2.2 2 (by show 2<23;decide),h1.2.2 12 (by show 12<23;decide),h1.2.2 13 (by show 13<23;decide),h1.2.2 14 (by show 14<23;decide),h1.2.2 15 (by show 15<23;decide),h1.2.2 16 (by show 16<23;decide)⟩
theorem zAV (h:zE1 ka kb x tv W) (hne:kb ≠ ka) (j:Nat) (u:Value):zE1 ka kb x tv (W.setCell ⟨kb,j,none⟩ u):=by
 obtain ⟨h2,h12,h13,h14,h15,h16,g2,g12,g13,g14,g15,g16⟩:=h;refine ⟨?_,?_,?_,?_,?_,?_,?_,?_,?_,?_,?_,?_⟩;any_goals rw [World.cell?_setCell_far _ _ _ _ (by simpa using hne)];assumption
 all_goals rw [World.frozen?_setCell];assumption
theorem zHB (x:Wc.In) (av:Option Addr) (n c:Nat) (tl:List Int) (w:World) (hk:x.op=11) (hz:RdZ w (.slice av n c) tl) (hl:tl.length<=1000000) :
  CR 61 #[inV x (.slice av n c)] w (.bool ((Wpl.rightA x.ar.s x.ar.t x.ar.l x.ar.b x.ar.r && (x.b == 1 || x.b == 2)) && (smI x ⟨11,0,x.b,v0I,c0I,x.ar,a0I⟩ && decide (tl=[])))):=by
 have CS:∀ w',Below w.heap.size w w'->Calls prog 97 #[.agg (zAD x (.slice av n c)).toArray,.agg (zAD ⟨11,0,x.b,v0I,c0I,x.ar,a0I⟩ zAH).toArray] w' λe w''=>e=.returned (.bool (smI x ⟨11,0,x.b,v0I,c0I,x.ar,a0I⟩ && decide (tl=[])))/\Below w'.heap.size w' w'':=λw' hb=>zA6 x ⟨11,0,x.b,v0I,c0I,x.ar,a0I⟩ _ _ tl [] w' (hz.below hb) (RdZ.nil _) hl (by first | exact hl | simp)
 generalize (smI x ⟨11,0,x.b,v0I,c0I,x.ar,a0I⟩ && decide (tl=[]))=R at *;have CA:=(λw=>zBF x.ar.s x.ar.t x.ar.l x.ar.b x.ar.r w:∀ w:World,CR 95 #[.agg #[.int .i64 x.ar.s,.int .i64 x.ar.t,.int .i64 x.ar.l,.int .i64 x.ar.b,.int .i64 x.ar.r]] w (.bool (Wpl.rightA x.ar.s x.ar.t x.ar.l x.ar.b x.ar.r)))
 generalize Wpl.rightA x.ar.s x.ar.t x.ar.l x.ar.b x.ar.r=q1 at *;obtain ⟨tv,htv⟩:∃ tv,Value.slice av n c=tv:=⟨_,rfl⟩
 rw [htv] at CS ⊢;have pA0:AtL (zAU w x tv) w.heap.size (zAD x tv):=(AtL.new0 w _ _).alloc _;have pO0:AtL (zAU w x tv) (w.heap.size+1) (zAD (zAI 0) zAH):=AtL.new1 w _ _ _;have hth:World.there (zAU w x tv) (w.heap.size+1) 0 (zAD (zAI 11) zAH).toArray.size:=pO0.there;have hne:w.heap.size+1 ≠ w.heap.size:=by omega
 have pA:=pA0.farAll hne 0 (zAD (zAI 11) zAH);have pO:AtL ((zAU w x tv).setCells (w.heap.size+1) 0 (zAD (zAI 11) zAH)) (w.heap.size+1) (zAD (zAI 11) zAH):=pO0.setAll rfl;have hBa:Below w.heap.size w ((zAU w x tv).setCells (w.heap.size+1) 0 (zAD (zAI 11) zAH)):=zAv (zAM (zAM (Below.refl _ w) _) _) (Nat.le_succ _) _ 0;clear pA0 pO0;have n0:(zAD x tv)[0]? = some (.int .i64 11):=by rw [<-hk];rfl
 have a0:World.cell? ((zAU w x tv).setCells (w.heap.size+1) 0 (zAD (zAI 11) zAH)) ⟨w.heap.size,0,none⟩=some (.int .i64 11):=pA.2.1 0 _ n0;show Calls _ _ #[.agg (zAD x tv).toArray] _ _
 have hS:zE1 w.heap.size (w.heap.size+1) x tv ((zAU w x tv).setCells (w.heap.size+1) 0 (zAD (zAI 11) zAH)):=zA9 pA pO;clear hz hl htv;cases q1 with
 | false =>
  go_enter func61,ntmps61;go_upto_region 1 with fail
  go_upto_region 2 with ((with_reducible refine wpList_store_mid ?_ 56 (.tmp 3) (.tmp 7) ?_ (w.heap.size+1) 0 (zAD (zAI 11) zAH).toArray ?_ ?_ ?_ ?_ ?_ ?_);rfl;rfl;rfl;rfl;exact hth;kernel_rfl;exact zAj _ _ _ _)
  generalize (zAU w x tv).setCells (w.heap.size+1) 0 (zAD (zAI 11) zAH)=W0 at *;clear hth;go_upto_region 25 with fail
  have pA1:=AtL.drew pA;have pO1:=AtL.drew pO;have hB1:=hBa.drew;clear pA pO hBa hS;refine wp_region_held_drew (S:=zE1 w.heap.size (w.heap.size+1) x tv) (by kernel_rfl) (zA9 pA1 pO1) (λhHeld=>?_);generalize W0.drew=wd at *;refine tkQ 0 ?_
  refine tkQ 1 ?_
  refine tkQ 2 ?_
  refine tkQ 3 ?_
  refine tkQ 4 ?_
  refine tkQ 5 ?_
  refine tkQ 17 ?_
  refine rdQ 6 (λK hK=>?_);go_simp
  refine (CA _).mono ?_;rintro e wc1 ⟨rfl,hb⟩;replace pA1:=AtL.below hb pA1
  replace pO1:=AtL.below hb pO1
  replace hB1:=zAB hB1 hb
  clear hb;go_wp2_with fail
  refine hkQ hK (zA9 pA1 pO1) (λhHeld=>?_);clear hK K
  refine tkQ 7 ?_
  refine tnQ 8 ?_
  refine tnQ 9 ?_
  refine tnQ 10 ?_
  refine tnQ 11 ?_
  refine tnQ 12 ?_
  refine tnQ 13 ?_
  refine tnQ 14 ?_
  refine tnQ 15 ?_
  refine tkQ 16 ?_
  refine rdQ 18 (λK hK=>?_);have o12:=pO1.2.1 12 _ rfl;have o13:=pO1.2.1 13 _ rfl;have o14:=pO1.2.1 14 _ rfl;have o15:=pO1.2.1 15 _ rfl;have o16:=pO1.2.1 16 _ rfl;obtain ⟨_,_,_,_,_,_,g2,g12,g13,g14,g15,g16⟩:=hHeld;go_simp
  refine hkQ hK ((zAV (zAV (zAV (zAV (zAV (zA9 pA1 pO1) (by omega) _ _) (by omega) _ _) (by omega) _ _) (by omega) _ _) (by omega) _ _)) (λhHeld=>?_);clear hK K o12 o13 o14 o15 o16 g2 g12 g13 g14 g15 g16
  have pA2:AtL (((((wc1.setCell ⟨w.heap.size+1,12,none⟩ (.int .i64 x.ar.s)).setCell ⟨w.heap.size+1,13,none⟩ (.int .i64 x.ar.t)).setCell ⟨w.heap.size+1,14,none⟩ (.int .i64 x.ar.l)).setCell ⟨w.heap.size+1,15,none⟩ (.int .i64 x.ar.b)).setCell ⟨w.heap.size+1,16,none⟩ (.int .i64 x.ar.r)) w.heap.size (zAD x tv):=(((((pA1.far hne 12 (.int .i64 x.ar.s)).far hne 13 (.int .i64 x.ar.t)).far hne 14 (.int .i64 x.ar.l)).far hne 15 (.int .i64 x.ar.b)).far hne 16 (.int .i64 x.ar.r))
  have pO2:AtL (((((wc1.setCell ⟨w.heap.size+1,12,none⟩ (.int .i64 x.ar.s)).setCell ⟨w.heap.size+1,13,none⟩ (.int .i64 x.ar.t)).setCell ⟨w.heap.size+1,14,none⟩ (.int .i64 x.ar.l)).setCell ⟨w.heap.size+1,15,none⟩ (.int .i64 x.ar.b)).setCell ⟨w.heap.size+1,16,none⟩ (.int .i64 x.ar.r)) (w.heap.size+1) (zAD ⟨11,0,0,v0I,c0I,x.ar,a0I⟩ zAH):=(((((pO1.set 12 (.int .i64 x.ar.s)).set 13 (.int .i64 x.ar.t)).set 14 (.int .i64 x.ar.l)).set 15 (.int .i64 x.ar.b)).set 16 (.int .i64 x.ar.r))
  have hB2:Below w.heap.size w (((((wc1.setCell ⟨w.heap.size+1,12,none⟩ (.int .i64 x.ar.s)).setCell ⟨w.heap.size+1,13,none⟩ (.int .i64 x.ar.t)).setCell ⟨w.heap.size+1,14,none⟩ (.int .i64 x.ar.l)).setCell ⟨w.heap.size+1,15,none⟩ (.int .i64 x.ar.b)).setCell ⟨w.heap.size+1,16,none⟩ (.int .i64 x.ar.r)):=(clB hB1)
  clear pA1 pO1 hB1;generalize (((((wc1.setCell ⟨w.heap.size+1,12,none⟩ (.int .i64 x.ar.s)).setCell ⟨w.heap.size+1,13,none⟩ (.int .i64 x.ar.t)).setCell ⟨w.heap.size+1,14,none⟩ (.int .i64 x.ar.l)).setCell ⟨w.heap.size+1,15,none⟩ (.int .i64 x.ar.b)).setCell ⟨w.heap.size+1,16,none⟩ (.int .i64 x.ar.r))=ws1 at *;have pA1:=pA2;have pO1:=pO2;have hB1:=hB2;clear pA2 pO2 hB2;refine tkQ 19 ?_
  refine rdQ 20 (λK hK=>?_);have o2:=pO1.2.1 2 _ rfl;obtain ⟨_,_,_,_,_,_,g2,g12,g13,g14,g15,g16⟩:=hHeld;go_simp
  refine hkQ hK ((zAV (zA9 pA1 pO1) (by omega) _ _)) (λhHeld=>?_);clear hK K o2 g2 g12 g13 g14 g15 g16
  have pA2:AtL (ws1.setCell ⟨w.heap.size+1,2,none⟩ (.int .i64 x.b)) w.heap.size (zAD x tv):=(pA1.far hne 2 (.int .i64 x.b))
  have pO2:AtL (ws1.setCell ⟨w.heap.size+1,2,none⟩ (.int .i64 x.b)) (w.heap.size+1) (zAD ⟨11,0,x.b,v0I,c0I,x.ar,a0I⟩ zAH):=(pO1.set 2 (.int .i64 x.b))
  have hB2:Below w.heap.size w (ws1.setCell ⟨w.heap.size+1,2,none⟩ (.int .i64 x.b)):=(clB hB1)
  clear pA1 pO1 hB1;generalize (ws1.setCell ⟨w.heap.size+1,2,none⟩ (.int .i64 x.b))=ws2 at *;have pA1:=pA2;have pO1:=pO2;have hB1:=hB2;clear pA2 pO2 hB2;refine rdQ 21 (λK hK=>?_);go_simp
  refine hkQ hK (by assumption) (λhHeld=>?_);clear hK K
  refine wpAnyH_done (by kernel_rfl) ?_ _;clear hHeld;have rA:=pA1.range;have rO:=pO1.range;have hB2:=hB1;clear pA1 pO1 hB1;go_wp2_with (first | ((with_reducible refine zAA ?_ 56 (.tmp 1) ?_ w.heap.size 0 ?_ (zAD x tv) _ ?_ underlying56 ?_ ?_ ?_);rfl;rfl;rfl;exact rA;rfl;kernel_rfl) | ((with_reducible refine zAA ?_ 56 (.tmp 3) ?_ (w.heap.size+1) 0 ?_ (zAD ⟨11,0,x.b,v0I,c0I,x.ar,a0I⟩ zAH) _ ?_ underlying56 ?_ ?_ ?_);rfl;rfl;rfl;exact rO;rfl;kernel_rfl) | (go_at_call 97;refine (CS _ hB2).mono ?_;rintro e w3 ⟨rfl,hb3⟩;have hB3:=zAB hB2 hb3))
  go_wp2;go_ret;first
  | exact ⟨by simp,hB2⟩
  | exact ⟨by simp,hB3⟩
 | true =>
  by_cases b1:x.b=1
  ·have hc:(true && (x.b == 1 || x.b == 2))=true:=by simp [b1]
   have b1e:(x.b == 1)=true:=by simp [b1]
   rw [hc];clear b1;go_enter func61,ntmps61;go_upto_region 1 with fail
   go_upto_region 2 with ((with_reducible refine wpList_store_mid ?_ 56 (.tmp 3) (.tmp 7) ?_ (w.heap.size+1) 0 (zAD (zAI 11) zAH).toArray ?_ ?_ ?_ ?_ ?_ ?_);rfl;rfl;rfl;rfl;exact hth;kernel_rfl;exact zAj _ _ _ _)
   generalize (zAU w x tv).setCells (w.heap.size+1) 0 (zAD (zAI 11) zAH)=W0 at *;clear hth;go_upto_region 25 with fail
   have pA1:=AtL.drew pA;have pO1:=AtL.drew pO;have hB1:=hBa.drew;clear pA pO hBa hS;refine wp_region_held_drew (S:=zE1 w.heap.size (w.heap.size+1) x tv) (by kernel_rfl) (zA9 pA1 pO1) (λhHeld=>?_);generalize W0.drew=wd at *;refine tkQ 0 ?_
   refine tkQ 1 ?_
   refine tkQ 2 ?_
   refine tkQ 3 ?_
   refine tkQ 4 ?_
   refine tkQ 5 ?_
   refine tkQ 17 ?_
   refine rdQ 6 (λK hK=>?_);go_simp
   refine (CA _).mono ?_;rintro e wc1 ⟨rfl,hb⟩;replace pA1:=AtL.below hb pA1
   replace pO1:=AtL.below hb pO1
   replace hB1:=zAB hB1 hb
   clear hb;go_wp2_with fail
   refine hkQ hK (zA9 pA1 pO1) (λhHeld=>?_);clear hK K
   refine tkQ 7 ?_
   refine tkQ 8 ?_
   refine tkQ 9 ?_
   refine tkQ 10 ?_
   refine tkQ 11 ?_
   refine tnQ 12 ?_
   refine tnQ 13 ?_
   refine tnQ 14 ?_
   refine tkQ 15 ?_
   refine tkQ 16 ?_
   refine rdQ 18 (λK hK=>?_);have o12:=pO1.2.1 12 _ rfl;have o13:=pO1.2.1 13 _ rfl;have o14:=pO1.2.1 14 _ rfl;have o15:=pO1.2.1 15 _ rfl;have o16:=pO1.2.1 16 _ rfl;obtain ⟨_,_,_,_,_,_,g2,g12,g13,g14,g15,g16⟩:=hHeld;go_simp
   refine hkQ hK ((zAV (zAV (zAV (zAV (zAV (zA9 pA1 pO1) (by omega) _ _) (by omega) _ _) (by omega) _ _) (by omega) _ _) (by omega) _ _)) (λhHeld=>?_);clear hK K o12 o13 o14 o15 o16 g2 g12 g13 g14 g15 g16
   have pA2:AtL (((((wc1.setCell ⟨w.heap.size+1,12,none⟩ (.int .i64 x.ar.s)).setCell ⟨w.heap.size+1,13,none⟩ (.int .i64 x.ar.t)).setCell ⟨w.heap.size+1,14,none⟩ (.int .i64 x.ar.l)).setCell ⟨w.heap.size+1,15,none⟩ (.int .i64 x.ar.b)).setCell ⟨w.heap.size+1,16,none⟩ (.int .i64 x.ar.r)) w.heap.size (zAD x tv):=(((((pA1.far hne 12 (.int .i64 x.ar.s)).far hne 13 (.int .i64 x.ar.t)).far hne 14 (.int .i64 x.ar.l)).far hne 15 (.int .i64 x.ar.b)).far hne 16 (.int .i64 x.ar.r))
   have pO2:AtL (((((wc1.setCell ⟨w.heap.size+1,12,none⟩ (.int .i64 x.ar.s)).setCell ⟨w.heap.size+1,13,none⟩ (.int .i64 x.ar.t)).setCell ⟨w.heap.size+1,14,none⟩ (.int .i64 x.ar.l)).setCell ⟨w.heap.size+1,15,none⟩ (.int .i64 x.ar.b)).setCell ⟨w.heap.size+1,16,none⟩ (.int .i64 x.ar.r)) (w.heap.size+1) (zAD ⟨11,0,0,v0I,c0I,x.ar,a0I⟩ zAH):=(((((pO1.set 12 (.int .i64 x.ar.s)).set 13 (.int .i64 x.ar.t)).set 14 (.int .i64 x.ar.l)).set 15 (.int .i64 x.ar.b)).set 16 (.int .i64 x.ar.r))
   have hB2:Below w.heap.size w (((((wc1.setCell ⟨w.heap.size+1,12,none⟩ (.int .i64 x.ar.s)).setCell ⟨w.heap.size+1,13,none⟩ (.int .i64 x.ar.t)).setCell ⟨w.heap.size+1,14,none⟩ (.int .i64 x.ar.l)).setCell ⟨w.heap.size+1,15,none⟩ (.int .i64 x.ar.b)).setCell ⟨w.heap.size+1,16,none⟩ (.int .i64 x.ar.r)):=(clB hB1)
   clear pA1 pO1 hB1;generalize (((((wc1.setCell ⟨w.heap.size+1,12,none⟩ (.int .i64 x.ar.s)).setCell ⟨w.heap.size+1,13,none⟩ (.int .i64 x.ar.t)).setCell ⟨w.heap.size+1,14,none⟩ (.int .i64 x.ar.l)).setCell ⟨w.heap.size+1,15,none⟩ (.int .i64 x.ar.b)).setCell ⟨w.heap.size+1,16,none⟩ (.int .i64 x.ar.r))=ws1 at *;have pA1:=pA2;have pO1:=pO2;have hB1:=hB2;clear pA2 pO2 hB2;refine tkQ 19 ?_
   refine rdQ 20 (λK hK=>?_);have o2:=pO1.2.1 2 _ rfl;obtain ⟨_,_,_,_,_,_,g2,g12,g13,g14,g15,g16⟩:=hHeld;go_simp
   refine hkQ hK ((zAV (zA9 pA1 pO1) (by omega) _ _)) (λhHeld=>?_);clear hK K o2 g2 g12 g13 g14 g15 g16
   have pA2:AtL (ws1.setCell ⟨w.heap.size+1,2,none⟩ (.int .i64 x.b)) w.heap.size (zAD x tv):=(pA1.far hne 2 (.int .i64 x.b))
   have pO2:AtL (ws1.setCell ⟨w.heap.size+1,2,none⟩ (.int .i64 x.b)) (w.heap.size+1) (zAD ⟨11,0,x.b,v0I,c0I,x.ar,a0I⟩ zAH):=(pO1.set 2 (.int .i64 x.b))
   have hB2:Below w.heap.size w (ws1.setCell ⟨w.heap.size+1,2,none⟩ (.int .i64 x.b)):=(clB hB1)
   clear pA1 pO1 hB1;generalize (ws1.setCell ⟨w.heap.size+1,2,none⟩ (.int .i64 x.b))=ws2 at *;have pA1:=pA2;have pO1:=pO2;have hB1:=hB2;clear pA2 pO2 hB2;refine rdQ 21 (λK hK=>?_);go_simp
   refine hkQ hK (by assumption) (λhHeld=>?_);clear hK K
   refine wpAnyH_done (by kernel_rfl) ?_ _;clear hHeld;have rA:=pA1.range;have rO:=pO1.range;have hB2:=hB1;clear pA1 pO1 hB1;go_wp2_with (first | ((with_reducible refine zAA ?_ 56 (.tmp 1) ?_ w.heap.size 0 ?_ (zAD x tv) _ ?_ underlying56 ?_ ?_ ?_);rfl;rfl;rfl;exact rA;rfl;kernel_rfl) | ((with_reducible refine zAA ?_ 56 (.tmp 3) ?_ (w.heap.size+1) 0 ?_ (zAD ⟨11,0,x.b,v0I,c0I,x.ar,a0I⟩ zAH) _ ?_ underlying56 ?_ ?_ ?_);rfl;rfl;rfl;exact rO;rfl;kernel_rfl) | (go_at_call 97;refine (CS _ hB2).mono ?_;rintro e w3 ⟨rfl,hb3⟩;have hB3:=zAB hB2 hb3))
   go_wp2;go_ret;first
   | exact ⟨by simp,hB2⟩
   | exact ⟨by simp,hB3⟩
  ·have b1e:(x.b == 1)=false:=by simp [b1]
   by_cases b2:x.b=2
   ·have hc:(true && (x.b == 1 || x.b == 2))=true:=by simp [b2]
    have b2e:(x.b == 2)=true:=by simp [b2]
    rw [hc];clear b2;go_enter func61,ntmps61;go_upto_region 1 with fail
    go_upto_region 2 with ((with_reducible refine wpList_store_mid ?_ 56 (.tmp 3) (.tmp 7) ?_ (w.heap.size+1) 0 (zAD (zAI 11) zAH).toArray ?_ ?_ ?_ ?_ ?_ ?_);rfl;rfl;rfl;rfl;exact hth;kernel_rfl;exact zAj _ _ _ _)
    generalize (zAU w x tv).setCells (w.heap.size+1) 0 (zAD (zAI 11) zAH)=W0 at *;clear hth;go_upto_region 25 with fail
    have pA1:=AtL.drew pA;have pO1:=AtL.drew pO;have hB1:=hBa.drew;clear pA pO hBa hS;refine wp_region_held_drew (S:=zE1 w.heap.size (w.heap.size+1) x tv) (by kernel_rfl) (zA9 pA1 pO1) (λhHeld=>?_);generalize W0.drew=wd at *;refine tkQ 0 ?_
    refine tkQ 1 ?_
    refine tkQ 2 ?_
    refine tkQ 3 ?_
    refine tkQ 4 ?_
    refine tkQ 5 ?_
    refine tkQ 17 ?_
    refine rdQ 6 (λK hK=>?_);go_simp
    refine (CA _).mono ?_;rintro e wc1 ⟨rfl,hb⟩;replace pA1:=AtL.below hb pA1
    replace pO1:=AtL.below hb pO1
    replace hB1:=zAB hB1 hb
    clear hb;go_wp2_with fail
    refine hkQ hK (zA9 pA1 pO1) (λhHeld=>?_);clear hK K
    refine tkQ 7 ?_
    refine tkQ 8 ?_
    refine tkQ 9 ?_
    refine tkQ 10 ?_
    refine tkQ 11 ?_
    refine tkQ 12 ?_
    refine tkQ 13 ?_
    refine tkQ 14 ?_
    refine tkQ 15 ?_
    refine tkQ 16 ?_
    refine rdQ 18 (λK hK=>?_);have o12:=pO1.2.1 12 _ rfl;have o13:=pO1.2.1 13 _ rfl;have o14:=pO1.2.1 14 _ rfl;have o15:=pO1.2.1 15 _ rfl;have o16:=pO1.2.1 16 _ rfl;obtain ⟨_,_,_,_,_,_,g2,g12,g13,g14,g15,g16⟩:=hHeld;go_simp
    refine hkQ hK ((zAV (zAV (zAV (zAV (zAV (zA9 pA1 pO1) (by omega) _ _) (by omega) _ _) (by omega) _ _) (by omega) _ _) (by omega) _ _)) (λhHeld=>?_);clear hK K o12 o13 o14 o15 o16 g2 g12 g13 g14 g15 g16
    have pA2:AtL (((((wc1.setCell ⟨w.heap.size+1,12,none⟩ (.int .i64 x.ar.s)).setCell ⟨w.heap.size+1,13,none⟩ (.int .i64 x.ar.t)).setCell ⟨w.heap.size+1,14,none⟩ (.int .i64 x.ar.l)).setCell ⟨w.heap.size+1,15,none⟩ (.int .i64 x.ar.b)).setCell ⟨w.heap.size+1,16,none⟩ (.int .i64 x.ar.r)) w.heap.size (zAD x tv):=(((((pA1.far hne 12 (.int .i64 x.ar.s)).far hne 13 (.int .i64 x.ar.t)).far hne 14 (.int .i64 x.ar.l)).far hne 15 (.int .i64 x.ar.b)).far hne 16 (.int .i64 x.ar.r))
    have pO2:AtL (((((wc1.setCell ⟨w.heap.size+1,12,none⟩ (.int .i64 x.ar.s)).setCell ⟨w.heap.size+1,13,none⟩ (.int .i64 x.ar.t)).setCell ⟨w.heap.size+1,14,none⟩ (.int .i64 x.ar.l)).setCell ⟨w.heap.size+1,15,none⟩ (.int .i64 x.ar.b)).setCell ⟨w.heap.size+1,16,none⟩ (.int .i64 x.ar.r)) (w.heap.size+1) (zAD ⟨11,0,0,v0I,c0I,x.ar,a0I⟩ zAH):=(((((pO1.set 12 (.int .i64 x.ar.s)).set 13 (.int .i64 x.ar.t)).set 14 (.int .i64 x.ar.l)).set 15 (.int .i64 x.ar.b)).set 16 (.int .i64 x.ar.r))
    have hB2:Below w.heap.size w (((((wc1.setCell ⟨w.heap.size+1,12,none⟩ (.int .i64 x.ar.s)).setCell ⟨w.heap.size+1,13,none⟩ (.int .i64 x.ar.t)).setCell ⟨w.heap.size+1,14,none⟩ (.int .i64 x.ar.l)).setCell ⟨w.heap.size+1,15,none⟩ (.int .i64 x.ar.b)).setCell ⟨w.heap.size+1,16,none⟩ (.int .i64 x.ar.r)):=(clB hB1)
    clear pA1 pO1 hB1;generalize (((((wc1.setCell ⟨w.heap.size+1,12,none⟩ (.int .i64 x.ar.s)).setCell ⟨w.heap.size+1,13,none⟩ (.int .i64 x.ar.t)).setCell ⟨w.heap.size+1,14,none⟩ (.int .i64 x.ar.l)).setCell ⟨w.heap.size+1,15,none⟩ (.int .i64 x.ar.b)).setCell ⟨w.heap.size+1,16,none⟩ (.int .i64 x.ar.r))=ws1 at *;have pA1:=pA2;have pO1:=pO2;have hB1:=hB2;clear pA2 pO2 hB2;refine tkQ 19 ?_
    refine rdQ 20 (λK hK=>?_);have o2:=pO1.2.1 2 _ rfl;obtain ⟨_,_,_,_,_,_,g2,g12,g13,g14,g15,g16⟩:=hHeld;go_simp
    refine hkQ hK ((zAV (zA9 pA1 pO1) (by omega) _ _)) (λhHeld=>?_);clear hK K o2 g2 g12 g13 g14 g15 g16
    have pA2:AtL (ws1.setCell ⟨w.heap.size+1,2,none⟩ (.int .i64 x.b)) w.heap.size (zAD x tv):=(pA1.far hne 2 (.int .i64 x.b))
    have pO2:AtL (ws1.setCell ⟨w.heap.size+1,2,none⟩ (.int .i64 x.b)) (w.heap.size+1) (zAD ⟨11,0,x.b,v0I,c0I,x.ar,a0I⟩ zAH):=(pO1.set 2 (.int .i64 x.b))
    have hB2:Below w.heap.size w (ws1.setCell ⟨w.heap.size+1,2,none⟩ (.int .i64 x.b)):=(clB hB1)
    clear pA1 pO1 hB1;generalize (ws1.setCell ⟨w.heap.size+1,2,none⟩ (.int .i64 x.b))=ws2 at *;have pA1:=pA2;have pO1:=pO2;have hB1:=hB2;clear pA2 pO2 hB2;refine rdQ 21 (λK hK=>?_);go_simp
    refine hkQ hK (by assumption) (λhHeld=>?_);clear hK K
    refine wpAnyH_done (by kernel_rfl) ?_ _;clear hHeld;have rA:=pA1.range;have rO:=pO1.range;have hB2:=hB1;clear pA1 pO1 hB1;go_wp2_with (first | ((with_reducible refine zAA ?_ 56 (.tmp 1) ?_ w.heap.size 0 ?_ (zAD x tv) _ ?_ underlying56 ?_ ?_ ?_);rfl;rfl;rfl;exact rA;rfl;kernel_rfl) | ((with_reducible refine zAA ?_ 56 (.tmp 3) ?_ (w.heap.size+1) 0 ?_ (zAD ⟨11,0,x.b,v0I,c0I,x.ar,a0I⟩ zAH) _ ?_ underlying56 ?_ ?_ ?_);rfl;rfl;rfl;exact rO;rfl;kernel_rfl) | (go_at_call 97;refine (CS _ hB2).mono ?_;rintro e w3 ⟨rfl,hb3⟩;have hB3:=zAB hB2 hb3))
    go_wp2;go_ret;first
    | exact ⟨by simp,hB2⟩
    | exact ⟨by simp,hB3⟩
   ·have hc:(true && (x.b == 1 || x.b == 2))=false:=by simp [b1,b2]
    have b2e:(x.b == 2)=false:=by simp [b2]
    rw [hc];go_enter func61,ntmps61;go_upto_region 1 with fail
    go_upto_region 2 with ((with_reducible refine wpList_store_mid ?_ 56 (.tmp 3) (.tmp 7) ?_ (w.heap.size+1) 0 (zAD (zAI 11) zAH).toArray ?_ ?_ ?_ ?_ ?_ ?_);rfl;rfl;rfl;rfl;exact hth;kernel_rfl;exact zAj _ _ _ _)
    generalize (zAU w x tv).setCells (w.heap.size+1) 0 (zAD (zAI 11) zAH)=W0 at *;clear hth;go_upto_region 25 with fail
    have pA1:=AtL.drew pA;have pO1:=AtL.drew pO;have hB1:=hBa.drew;clear pA pO hBa hS;refine wp_region_held_drew (S:=zE1 w.heap.size (w.heap.size+1) x tv) (by kernel_rfl) (zA9 pA1 pO1) (λhHeld=>?_);generalize W0.drew=wd at *;refine tkQ 0 ?_
    refine tkQ 1 ?_
    refine tkQ 2 ?_
    refine tkQ 3 ?_
    refine tkQ 4 ?_
    refine tkQ 5 ?_
    refine tkQ 17 ?_
    refine rdQ 6 (λK hK=>?_);go_simp
    refine (CA _).mono ?_;rintro e wc1 ⟨rfl,hb⟩;replace pA1:=AtL.below hb pA1
    replace pO1:=AtL.below hb pO1
    replace hB1:=zAB hB1 hb
    clear hb;go_wp2_with fail
    refine hkQ hK (zA9 pA1 pO1) (λhHeld=>?_);clear hK K
    refine tkQ 7 ?_
    refine tkQ 8 ?_
    refine tkQ 9 ?_
    refine tkQ 10 ?_
    refine tkQ 11 ?_
    refine tkQ 12 ?_
    refine tkQ 13 ?_
    refine tkQ 14 ?_
    refine tkQ 15 ?_
    refine tkQ 16 ?_
    refine rdQ 18 (λK hK=>?_);have o12:=pO1.2.1 12 _ rfl;have o13:=pO1.2.1 13 _ rfl;have o14:=pO1.2.1 14 _ rfl;have o15:=pO1.2.1 15 _ rfl;have o16:=pO1.2.1 16 _ rfl;obtain ⟨_,_,_,_,_,_,g2,g12,g13,g14,g15,g16⟩:=hHeld;go_simp
    refine hkQ hK ((zAV (zAV (zAV (zAV (zAV (zA9 pA1 pO1) (by omega) _ _) (by omega) _ _) (by omega) _ _) (by omega) _ _) (by omega) _ _)) (λhHeld=>?_);clear hK K o12 o13 o14 o15 o16 g2 g12 g13 g14 g15 g16
    have pA2:AtL (((((wc1.setCell ⟨w.heap.size+1,12,none⟩ (.int .i64 x.ar.s)).setCell ⟨w.heap.size+1,13,none⟩ (.int .i64 x.ar.t)).setCell ⟨w.heap.size+1,14,none⟩ (.int .i64 x.ar.l)).setCell ⟨w.heap.size+1,15,none⟩ (.int .i64 x.ar.b)).setCell ⟨w.heap.size+1,16,none⟩ (.int .i64 x.ar.r)) w.heap.size (zAD x tv):=(((((pA1.far hne 12 (.int .i64 x.ar.s)).far hne 13 (.int .i64 x.ar.t)).far hne 14 (.int .i64 x.ar.l)).far hne 15 (.int .i64 x.ar.b)).far hne 16 (.int .i64 x.ar.r))
    have pO2:AtL (((((wc1.setCell ⟨w.heap.size+1,12,none⟩ (.int .i64 x.ar.s)).setCell ⟨w.heap.size+1,13,none⟩ (.int .i64 x.ar.t)).setCell ⟨w.heap.size+1,14,none⟩ (.int .i64 x.ar.l)).setCell ⟨w.heap.size+1,15,none⟩ (.int .i64 x.ar.b)).setCell ⟨w.heap.size+1,16,none⟩ (.int .i64 x.ar.r)) (w.heap.size+1) (zAD ⟨11,0,0,v0I,c0I,x.ar,a0I⟩ zAH):=(((((pO1.set 12 (.int .i64 x.ar.s)).set 13 (.int .i64 x.ar.t)).set 14 (.int .i64 x.ar.l)).set 15 (.int .i64 x.ar.b)).set 16 (.int .i64 x.ar.r))
    have hB2:Below w.heap.size w (((((wc1.setCell ⟨w.heap.size+1,12,none⟩ (.int .i64 x.ar.s)).setCell ⟨w.heap.size+1,13,none⟩ (.int .i64 x.ar.t)).setCell ⟨w.heap.size+1,14,none⟩ (.int .i64 x.ar.l)).setCell ⟨w.heap.size+1,15,none⟩ (.int .i64 x.ar.b)).setCell ⟨w.heap.size+1,16,none⟩ (.int .i64 x.ar.r)):=(clB hB1)
    clear pA1 pO1 hB1;generalize (((((wc1.setCell ⟨w.heap.size+1,12,none⟩ (.int .i64 x.ar.s)).setCell ⟨w.heap.size+1,13,none⟩ (.int .i64 x.ar.t)).setCell ⟨w.heap.size+1,14,none⟩ (.int .i64 x.ar.l)).setCell ⟨w.heap.size+1,15,none⟩ (.int .i64 x.ar.b)).setCell ⟨w.heap.size+1,16,none⟩ (.int .i64 x.ar.r))=ws1 at *;have pA1:=pA2;have pO1:=pO2;have hB1:=hB2;clear pA2 pO2 hB2;refine tkQ 19 ?_
    refine rdQ 20 (λK hK=>?_);have o2:=pO1.2.1 2 _ rfl;obtain ⟨_,_,_,_,_,_,g2,g12,g13,g14,g15,g16⟩:=hHeld;go_simp
    refine hkQ hK ((zAV (zA9 pA1 pO1) (by omega) _ _)) (λhHeld=>?_);clear hK K o2 g2 g12 g13 g14 g15 g16
    have pA2:AtL (ws1.setCell ⟨w.heap.size+1,2,none⟩ (.int .i64 x.b)) w.heap.size (zAD x tv):=(pA1.far hne 2 (.int .i64 x.b))
    have pO2:AtL (ws1.setCell ⟨w.heap.size+1,2,none⟩ (.int .i64 x.b)) (w.heap.size+1) (zAD ⟨11,0,x.b,v0I,c0I,x.ar,a0I⟩ zAH):=(pO1.set 2 (.int .i64 x.b))
    have hB2:Below w.heap.size w (ws1.setCell ⟨w.heap.size+1,2,none⟩ (.int .i64 x.b)):=(clB hB1)
    clear pA1 pO1 hB1;generalize (ws1.setCell ⟨w.heap.size+1,2,none⟩ (.int .i64 x.b))=ws2 at *;have pA1:=pA2;have pO1:=pO2;have hB1:=hB2;clear pA2 pO2 hB2;refine rdQ 21 (λK hK=>?_);go_simp
    refine hkQ hK (by assumption) (λhHeld=>?_);clear hK K
    refine wpAnyH_done (by kernel_rfl) ?_ _;clear hHeld;have rA:=pA1.range;have rO:=pO1.range;have hB2:=hB1;clear pA1 pO1 hB1;go_wp2_with (first | ((with_reducible refine zAA ?_ 56 (.tmp 1) ?_ w.heap.size 0 ?_ (zAD x tv) _ ?_ underlying56 ?_ ?_ ?_);rfl;rfl;rfl;exact rA;rfl;kernel_rfl) | ((with_reducible refine zAA ?_ 56 (.tmp 3) ?_ (w.heap.size+1) 0 ?_ (zAD ⟨11,0,x.b,v0I,c0I,x.ar,a0I⟩ zAH) _ ?_ underlying56 ?_ ?_ ?_);rfl;rfl;rfl;exact rO;rfl;kernel_rfl) | (go_at_call 97;refine (CS _ hB2).mono ?_;rintro e w3 ⟨rfl,hb3⟩;have hB3:=zAB hB2 hb3))
    go_wp2;go_ret;first
    | exact ⟨by simp,hB2⟩
    | exact ⟨by simp,hB3⟩
