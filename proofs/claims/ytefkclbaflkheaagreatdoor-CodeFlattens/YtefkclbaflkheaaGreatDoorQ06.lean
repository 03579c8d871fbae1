/- Lemmas. -/
import Derived.Test.YtefkclbaflkheaaGreatDoorQ05
set_option maxHeartbeats 8000000
set_option maxRecDepth 100000
set_option linter.unusedVariables false
namespace Go.Proofs.YtefkclbaflkheaaGreatDoor
open Tryz
variable {ka kb kc:Nat} {x y:Wt.Nd} {W:World} {K o t:Int} {m:ByteArray}
open Go.RowKit
abbrev zOa (ka kb:Nat) (x:Wt.Nd) (W:World):Prop :=
 W.cell? ⟨ka,8,none⟩=some (.string x.nm)/\W.cell? ⟨ka,9,none⟩=some (.int .i64 x.ar)/\W.frozen? ⟨kb,8,none⟩=false/\W.frozen? ⟨kb,9,none⟩=false
theorem zBj (h0:AtL W ka (zAG x)) (h1:AtL W kb (zAG y)):zOa ka kb x W :=
 ⟨h0.2.1 8 _ rfl,h0.2.1 9 _ rfl,h1.2.2 8 (by show 8<20;decide),h1.2.2 9 (by show 9<20;decide)⟩
theorem zBH (h:zOa ka kb x W) (hne:kb ≠ ka) (j:Nat) (u:Value):zOa ka kb x (W.setCell ⟨kb,j,none⟩ u):=by
 obtain ⟨h8,h9,g8,g9⟩:=h;refine ⟨?_,?_,?_,?_⟩;any_goals rw [World.cell?_setCell_far _ _ _ _ (by simpa using hne)];assumption
 all_goals rw [World.frozen?_setCell];assumption
theorem zKR (x:Wt.Nd) (w:World) (hk:x.k=6) (hs:x.nm.size<=9223372036854775807) :
  CR 75 #[ndV x] w (.bool ((Wt.fnNm x.nm && decide (0<=x.ar) && decide (x.ar<=30)) && eqN x ⟨6,Wt.v0,0,x.nm,x.ar,Wt.r0,Wt.r0⟩)):=by
 have C:∀ w:World,CR 113 #[.string x.nm] w (.bool (Wt.fnNm x.nm)):=λw=>(zNL x.nm w hs).mono λe w' h=>⟨h.1,h.2 ▸ Below.refl _ _⟩
 have hq:∀ w:World,(binOp .eql 35 (.agg (zAG x).toArray) (.agg (zAG ⟨6,Wt.v0,0,x.nm,x.ar,Wt.r0,Wt.r0⟩).toArray)).run prog w=.ok (.bool (eqN x ⟨6,Wt.v0,0,x.nm,x.ar,Wt.r0,Wt.r0⟩)) w:=λw=>zBC x ⟨6,Wt.v0,0,x.nm,x.ar,Wt.r0,Wt.r0⟩ w
 generalize eqN x ⟨6,Wt.v0,0,x.nm,x.ar,Wt.r0,Wt.r0⟩=R at *;generalize Wt.fnNm x.nm=q at *;have pA0:AtL (two w x) w.heap.size (zAG x):=(AtL.new0 w _ _).alloc _;have pO0:AtL (two w x) (w.heap.size+1) (zAG (bare 0)):=AtL.new1 w _ _ _;have hth:World.there (two w x) (w.heap.size+1) 0 (zAG (bare 6)).toArray.size:=pO0.there;have hne:w.heap.size+1 ≠ w.heap.size:=by omega
 have pA:=pA0.farAll hne 0 (zAG (bare 6));have pO:AtL ((two w x).setCells (w.heap.size+1) 0 (zAG (bare 6))) (w.heap.size+1) (zAG (bare 6)):=pO0.setAll rfl;have hBa:Below w.heap.size w ((two w x).setCells (w.heap.size+1) 0 (zAG (bare 6))):=zAv (zAM (zAM (Below.refl _ w) _) _) (Nat.le_succ _) _ 0;clear pA0 pO0;have n0:(zAG x)[0]? = some (.int .i64 6):=by rw [<-hk];rfl
 have a0:World.cell? ((two w x).setCells (w.heap.size+1) 0 (zAG (bare 6))) ⟨w.heap.size,0,none⟩=some (.int .i64 6):=pA.2.1 0 _ n0;show Calls _ _ #[.agg (zAG x).toArray] _ _
 go_enter func75,ntmps75;go_upto_region 1 with fail
 go_upto_region 2 with ((with_reducible refine wpList_store_mid ?_ 35 (.tmp 3) (.tmp 9) ?_ (w.heap.size+1) 0 (zAG (bare 6)).toArray ?_ ?_ ?_ ?_ ?_ ?_);rfl;rfl;rfl;rfl;exact hth;kernel_rfl;exact zC6 _)
 generalize (two w x).setCells (w.heap.size+1) 0 (zAG (bare 6))=W0 at *;clear hth;go_upto_region 14 with fail
 refine wp_region_held_drew (S:=zOa w.heap.size (w.heap.size+1) x) (by kernel_rfl) (zBj (AtL.drew pA) (AtL.drew pO)) (λhHeld=>?_);refine tkQ 0 ?_
 refine tkQ 1 ?_
 refine tkQ 2 ?_
 refine tkQ 3 ?_
 refine tkQ 4 ?_
 refine tkQ 5 ?_
 refine tkQ 17 ?_
 refine rdQ 6 (λK hK=>?_);go_simp
 refine (C _).mono ?_;rintro e w1 ⟨rfl,hb⟩;have pA1:=AtL.below hb (AtL.drew pA);have pO1:=AtL.below hb (AtL.drew pO);have hB1:=zAB hBa.drew hb;clear hb;go_wp2_with fail
 refine hkQ hK (zBj pA1 pO1) (λhHeld=>?_);clear hK K
 refine tkQ 7 ?_
 cases q
 ·refine tnQ 8 ?_
  refine tnQ 9 ?_
  refine tnQ 10 ?_
  refine tkQ 11 ?_
  refine tkQ 12 ?_
  refine tnQ 13 ?_
  refine tnQ 14 ?_
  refine tnQ 15 ?_
  refine tkQ 16 ?_
  refine rdQ 18 (λK hK=>?_);have o8:=pO1.2.1 8 _ rfl;have o9:=pO1.2.1 9 _ rfl;obtain ⟨_,_,g8,g9⟩:=hHeld;go_simp
  refine hkQ hK ((zBH (zBj pA1 pO1) (by omega) _ _)) (λhHeld=>?_);clear hK K
  refine tkQ 19 ?_
  refine rdQ 20 (λK hK=>?_);clear o8 o9 g8 g9;have o8:=(pO1.set 8 (.string x.nm)).2.1 8 _ rfl;have o9:=(pO1.set 8 (.string x.nm)).2.1 9 _ rfl;obtain ⟨_,_,g8,g9⟩:=hHeld;go_simp
  refine hkQ hK ((zBH (zBH (zBj pA1 pO1) (by omega) _ _) (by omega) _ _)) (λhHeld=>?_);clear hK K
  refine rdQ 21 (λK hK=>?_);go_simp
  refine hkQ hK (by assumption) (λhHeld=>?_);clear hK K
  refine wpAnyH_done (by kernel_rfl) ?_ _;clear o8 o9 g8 g9;have pA2:AtL ((w1.setCell ⟨w.heap.size+1,8,none⟩ (.string x.nm)).setCell ⟨w.heap.size+1,9,none⟩ (.int .i64 x.ar)) w.heap.size (zAG x):=((pA1.far hne 8 (.string x.nm)).far hne 9 (.int .i64 x.ar))
  have pO2:AtL ((w1.setCell ⟨w.heap.size+1,8,none⟩ (.string x.nm)).setCell ⟨w.heap.size+1,9,none⟩ (.int .i64 x.ar)) (w.heap.size+1) (zAG ⟨6,Wt.v0,0,x.nm,x.ar,Wt.r0,Wt.r0⟩):=((pO1.set 8 (.string x.nm)).set 9 (.int .i64 x.ar))
  have hB2:Below w.heap.size w ((w1.setCell ⟨w.heap.size+1,8,none⟩ (.string x.nm)).setCell ⟨w.heap.size+1,9,none⟩ (.int .i64 x.ar)):=(clB hB1)
  clear pA1 pO1 hB1;generalize ((w1.setCell ⟨w.heap.size+1,8,none⟩ (.string x.nm)).setCell ⟨w.heap.size+1,9,none⟩ (.int .i64 x.ar))=W2 at *;have rA:=pA2.range;have rO:=pO2.range;clear pA2 pO2;go_wp2_with (first | ((with_reducible refine zAA ?_ 35 (.tmp 1) ?_ w.heap.size 0 ?_ (zAG x) _ ?_ underlying35 ?_ ?_ ?_);rfl;rfl;rfl;exact rA;rfl;kernel_rfl) | ((with_reducible refine zAA ?_ 35 (.tmp 3) ?_ (w.heap.size+1) 0 ?_ (zAG ⟨6,Wt.v0,0,x.nm,x.ar,Wt.r0,Wt.r0⟩) _ ?_ underlying35 ?_ ?_ ?_);rfl;rfl;rfl;exact rO;rfl;kernel_rfl))
  go_wp2;go_ret;exact ⟨by simp,hB2⟩
 refine tkQ 8 ?_
 refine tkQ 9 ?_
 refine tkQ 10 ?_
 by_cases h0:0<=x.ar
 ·by_cases h3:x.ar<=30
  all_goals
   refine tkQ 11 ?_
   refine tkQ 12 ?_
   refine tkQ 13 ?_
   refine tkQ 14 ?_
   refine tkQ 15 ?_
   refine tkQ 16 ?_
   refine rdQ 18 (λK hK=>?_);have o8:=pO1.2.1 8 _ rfl;have o9:=pO1.2.1 9 _ rfl;obtain ⟨_,_,g8,g9⟩:=hHeld;go_simp
   refine hkQ hK ((zBH (zBj pA1 pO1) (by omega) _ _)) (λhHeld=>?_);clear hK K
   refine tkQ 19 ?_
   refine rdQ 20 (λK hK=>?_);clear o8 o9 g8 g9;have o8:=(pO1.set 8 (.string x.nm)).2.1 8 _ rfl;have o9:=(pO1.set 8 (.string x.nm)).2.1 9 _ rfl;obtain ⟨_,_,g8,g9⟩:=hHeld;go_simp
   refine hkQ hK ((zBH (zBH (zBj pA1 pO1) (by omega) _ _) (by omega) _ _)) (λhHeld=>?_);clear hK K
   refine rdQ 21 (λK hK=>?_);go_simp
   refine hkQ hK (by assumption) (λhHeld=>?_);clear hK K
   refine wpAnyH_done (by kernel_rfl) ?_ _;clear o8 o9 g8 g9;have pA2:AtL ((w1.setCell ⟨w.heap.size+1,8,none⟩ (.string x.nm)).setCell ⟨w.heap.size+1,9,none⟩ (.int .i64 x.ar)) w.heap.size (zAG x):=((pA1.far hne 8 (.string x.nm)).far hne 9 (.int .i64 x.ar))
   have pO2:AtL ((w1.setCell ⟨w.heap.size+1,8,none⟩ (.string x.nm)).setCell ⟨w.heap.size+1,9,none⟩ (.int .i64 x.ar)) (w.heap.size+1) (zAG ⟨6,Wt.v0,0,x.nm,x.ar,Wt.r0,Wt.r0⟩):=((pO1.set 8 (.string x.nm)).set 9 (.int .i64 x.ar))
   have hB2:Below w.heap.size w ((w1.setCell ⟨w.heap.size+1,8,none⟩ (.string x.nm)).setCell ⟨w.heap.size+1,9,none⟩ (.int .i64 x.ar)):=(clB hB1)
   clear pA1 pO1 hB1;generalize ((w1.setCell ⟨w.heap.size+1,8,none⟩ (.string x.nm)).setCell ⟨w.heap.size+1,9,none⟩ (.int .i64 x.ar))=W2 at *;have rA:=pA2.range;have rO:=pO2.range;clear pA2 pO2;go_wp2_with (first | ((with_reducible refine zAA ?_ 35 (.tmp 1) ?_ w.heap.size 0 ?_ (zAG x) _ ?_ underlying35 ?_ ?_ ?_);rfl;rfl;rfl;exact rA;rfl;kernel_rfl) | ((with_reducible refine zAA ?_ 35 (.tmp 3) ?_ (w.heap.size+1) 0 ?_ (zAG ⟨6,Wt.v0,0,x.nm,x.ar,Wt.r0,Wt.r0⟩) _ ?_ underlying35 ?_ ?_ ?_);rfl;rfl;rfl;exact rO;rfl;kernel_rfl))
   go_wp2;go_ret;exact ⟨by first | (simp;done) | (simp;omega) | (simp [h0,h3];done) | (simp [h0];omega),hB2⟩
 ·have hd0:decide (0<=x.ar)=false:=decide_eq_false h0;refine tkQ 11 ?_
  refine tkQ 12 ?_
  refine tnQ 13 ?_
  refine tnQ 14 ?_
  refine tnQ 15 ?_
  refine tkQ 16 ?_
  refine rdQ 18 (λK hK=>?_);have o8:=pO1.2.1 8 _ rfl;have o9:=pO1.2.1 9 _ rfl;obtain ⟨_,_,g8,g9⟩:=hHeld;go_simp
  refine hkQ hK ((zBH (zBj pA1 pO1) (by omega) _ _)) (λhHeld=>?_);clear hK K
  refine tkQ 19 ?_
  refine rdQ 20 (λK hK=>?_);clear o8 o9 g8 g9;have o8:=(pO1.set 8 (.string x.nm)).2.1 8 _ rfl;have o9:=(pO1.set 8 (.string x.nm)).2.1 9 _ rfl;obtain ⟨_,_,g8,g9⟩:=hHeld;go_simp
  refine hkQ hK ((zBH (zBH (zBj pA1 pO1) (by omega) _ _) (by omega) _ _)) (λhHeld=>?_);clear hK K
  refine rdQ 21 (λK hK=>?_);go_simp
  refine hkQ hK (by assumption) (λhHeld=>?_);clear hK K
  refine wpAnyH_done (by kernel_rfl) ?_ _;clear o8 o9 g8 g9;have pA2:AtL ((w1.setCell ⟨w.heap.size+1,8,none⟩ (.string x.nm)).setCell ⟨w.heap.size+1,9,none⟩ (.int .i64 x.ar)) w.heap.size (zAG x):=((pA1.far hne 8 (.string x.nm)).far hne 9 (.int .i64 x.ar))
  have pO2:AtL ((w1.setCell ⟨w.heap.size+1,8,none⟩ (.string x.nm)).setCell ⟨w.heap.size+1,9,none⟩ (.int .i64 x.ar)) (w.heap.size+1) (zAG ⟨6,Wt.v0,0,x.nm,x.ar,Wt.r0,Wt.r0⟩):=((pO1.set 8 (.string x.nm)).set 9 (.int .i64 x.ar))
  have hB2:Below w.heap.size w ((w1.setCell ⟨w.heap.size+1,8,none⟩ (.string x.nm)).setCell ⟨w.heap.size+1,9,none⟩ (.int .i64 x.ar)):=(clB hB1)
  clear pA1 pO1 hB1;generalize ((w1.setCell ⟨w.heap.size+1,8,none⟩ (.string x.nm)).setCell ⟨w.heap.size+1,9,none⟩ (.int .i64 x.ar))=W2 at *;have rA:=pA2.range;have rO:=pO2.range;clear pA2 pO2;go_wp2_with (first | ((with_reducible refine zAA ?_ 35 (.tmp 1) ?_ w.heap.size 0 ?_ (zAG x) _ ?_ underlying35 ?_ ?_ ?_);rfl;rfl;rfl;exact rA;rfl;kernel_rfl) | ((with_reducible refine zAA ?_ 35 (.tmp 3) ?_ (w.heap.size+1) 0 ?_ (zAG ⟨6,Wt.v0,0,x.nm,x.ar,Wt.r0,Wt.r0⟩) _ ?_ underlying35 ?_ ?_ ?_);rfl;rfl;rfl;exact rO;rfl;kernel_rfl))
  go_wp2;go_ret;exact ⟨by simp,hB2⟩
def opK (o:Int):Int:=match Wt.opOf o with
 | none=>0
 | some (_,_,t)=>if t<5 then 5 else 4
abbrev zNx (K:Int) (ka kb kc:Nat) (x:Wt.Nd) (o:Int) (m:ByteArray) (t:Int) (W:World):Prop :=
 W.cell? ⟨ka,7,none⟩=some (.int .i64 x.op)/\W.cell? ⟨ka,0,none⟩=some (.int .i64 K)/\W.cell? ⟨kc,0,none⟩=some (.int .i64 o)/\W.cell? ⟨kc,1,none⟩=some (.string m)/\W.cell? ⟨kc,2,none⟩=some (.int .i64 t)/\W.frozen? ⟨kb,7,none⟩=false
theorem zCr (hk:x.k=K) (h0:AtL W ka (zAG x)) (h1:AtL W kb (zAG y)) (h2:AtL W kc [.int .i64 o,.string m,.int .i64 t]):zNx K ka kb kc x o m t W :=
 ⟨h0.2.1 7 _ rfl,by rw [<-hk];exact h0.2.1 0 _ rfl,h2.2.1 0 _ rfl,h2.2.1 1 _ rfl,h2.2.1 2 _ rfl,h1.2.2 7 (by show 7<20;decide)⟩
theorem zFq (h:zNx K ka kb kc x o m t W) (hne:kb ≠ ka) (hne2:kb ≠ kc) (j:Nat) (u:Value):zNx K ka kb kc x o m t (W.setCell ⟨kb,j,none⟩ u):=by
 obtain ⟨h0,h1,h2,h3,h4,g⟩:=h;refine ⟨?_,?_,?_,?_,?_,?_⟩;any_goals first | (rw [World.cell?_setCell_far _ _ _ _ (by simpa using hne)];assumption) | (rw [World.cell?_setCell_far _ _ _ _ (by simpa using hne2)];assumption)
 rw [World.frozen?_setCell];assumption
theorem zEC (x:Wt.Nd) (w:World) (K:Int) (hK:K=4 \/ K=5) (hk:x.k=K) (hO:OpsAt w) :
  CR 75 #[ndV x] w (.bool (opK x.op == K && eqN x ⟨K,Wt.v0,x.op,⟨#[]⟩,0,Wt.r0,Wt.r0⟩)):=by
 have C:∀ w:World,OpsAt w->CR 111 #[.int .i64 x.op] w (opV (Wt.opOf x.op)):=λw h=>zIT x.op w h
 have hq:∀ w:World,(binOp .eql 35 (.agg (zAG x).toArray) (.agg (zAG ⟨K,Wt.v0,x.op,⟨#[]⟩,0,Wt.r0,Wt.r0⟩).toArray)).run prog w=.ok (.bool (eqN x ⟨K,Wt.v0,x.op,⟨#[]⟩,0,Wt.r0,Wt.r0⟩)) w:=λw=>zBC x ⟨K,Wt.v0,x.op,⟨#[]⟩,0,Wt.r0,Wt.r0⟩ w
 generalize eqN x ⟨K,Wt.v0,x.op,⟨#[]⟩,0,Wt.r0,Wt.r0⟩=R at *;have pA0:AtL (two w x) w.heap.size (zAG x):=(AtL.new0 w _ _).alloc _;have pO0:AtL (two w x) (w.heap.size+1) (zAG (bare 0)):=AtL.new1 w _ _ _;have hth:World.there (two w x) (w.heap.size+1) 0 (zAG (bare K)).toArray.size:=pO0.there;have hne:w.heap.size+1 ≠ w.heap.size:=by omega
 have pA:=pA0.farAll hne 0 (zAG (bare K));have pO:AtL ((two w x).setCells (w.heap.size+1) 0 (zAG (bare K))) (w.heap.size+1) (zAG (bare K)):=pO0.setAll rfl;have hBa:Below w.heap.size w ((two w x).setCells (w.heap.size+1) 0 (zAG (bare K))):=zAv (zAM (zAM (Below.refl _ w) _) _) (Nat.le_succ _) _ 0;clear pA0 pO0;have n0:(zAG x)[0]? = some (.int .i64 K):=by rw [<-hk];rfl
 have a0:World.cell? ((two w x).setCells (w.heap.size+1) 0 (zAG (bare K))) ⟨w.heap.size,0,none⟩=some (.int .i64 K):=pA.2.1 0 _ n0;have OpW:=hO.below hBa;have c7:World.cell? ((two w x).setCells (w.heap.size+1) 0 (zAG (bare K))) ⟨w.heap.size,7,none⟩=some (.int .i64 x.op):=pA.2.1 7 _ rfl;have hS:∀ (W:World) (k:Nat),AtL W k (zAG (bare K))->AtL (W.setCell ⟨k,7,none⟩ (.int .i64 x.op)) k (zAG ⟨K,Wt.v0,x.op,⟨#[]⟩,0,Wt.r0,Wt.r0⟩):=λW k h=>h.set 7 (.int .i64 x.op)
 show Calls _ _ #[.agg (zAG x).toArray] _ _
 unfold opK;generalize hW:(two w x).setCells (w.heap.size+1) 0 (zAG (bare K))=W0 at pA pO hBa a0 c7 OpW;have HW:Hid ((two w x).setCells (w.heap.size+1) 0 (zAG (bare K))=W0):=hW;clear hW;rcases hK with rfl | rfl
 all_goals
  cases hop:Wt.opOf x.op with
  | none =>
   rw [hop] at C;simp only [opV] at C ⊢;go_enter func75,ntmps75;go_upto_region 1 with fail
   go_upto_region 2 with (first | ((with_reducible refine wpList_store_mid ?_ 35 (.tmp 3) (.tmp 9) ?_ (w.heap.size+1) 0 (zAG (bare 4)).toArray ?_ ?_ ?_ ?_ ?_ ?_);rfl;rfl;rfl;rfl;exact hth;kernel_rfl;exact zC6 _) | ((with_reducible refine wpList_store_mid ?_ 35 (.tmp 3) (.tmp 9) ?_ (w.heap.size+1) 0 (zAG (bare 5)).toArray ?_ ?_ ?_ ?_ ?_ ?_);rfl;rfl;rfl;rfl;exact hth;kernel_rfl;exact zC6 _))
   rw [HW.out];clear hth HW;go_upto_region 11 with fail
   go_wp2_with fail
   refine (C _ OpW).mono ?_;rintro e w1 ⟨rfl,hb⟩;have pA1:=AtL.below hb pA;have pO1:=AtL.below hb pO;have hB1:=zAB hBa hb;have pOlt:=pO1.lt;clear hb pA pO hBa a0 C OpW;go_upto_region 12 with fail
   replace pA1:=AtL.alloc pA1 (.cells #[.int .i64 0,.string ⟨#[]⟩,.int .i64 0] 169)
   replace pO1:=AtL.alloc pO1 (.cells #[.int .i64 0,.string ⟨#[]⟩,.int .i64 0] 169)
   have pC1:AtL (w1.alloc (.cells #[.int .i64 0,.string ⟨#[]⟩,.int .i64 0] 169)) w1.heap.size [.int .i64 0,.string ⟨#[]⟩,.int .i64 0]:=AtL.new0 w1 _ _;have hnc:w.heap.size+1 ≠ w1.heap.size:=by have:=pOlt;omega
   replace hB1:=zAM hB1 (.cells #[.int .i64 0,.string ⟨#[]⟩,.int .i64 0] 169)
   generalize w1.heap.size=kc at *;generalize w1.alloc (.cells #[.int .i64 0,.string ⟨#[]⟩,.int .i64 0] 169)=w3 at *;refine wp_region_held_drew (S:=zNx _ w.heap.size (w.heap.size+1) kc x 0 ⟨#[]⟩ 0) (by kernel_rfl) (zCr hk (AtL.drew pA1) (AtL.drew pO1) (AtL.drew pC1)) (λhHeld=>?_);refine tkQ 0 ?_
   refine tkQ 1 ?_
   refine tkQ 2 ?_
   refine tkQ 3 ?_
   refine tnQ 4 ?_
   refine tnQ 6 ?_
   refine tnQ 7 ?_
   refine tkQ 10 ?_
   refine tnQ 5 ?_
   refine tnQ 8 ?_
   refine tkQ 9 ?_
   refine rdQ 11 (λK hK=>?_);have o7:=(AtL.drew pO1).2.1 7 _ rfl;obtain ⟨_,_,_,_,_,g7⟩:=hHeld;go_simp
   refine hkQ hK (zFq (zCr hk (AtL.drew pA1) (AtL.drew pO1) (AtL.drew pC1)) hne hnc _ _) (λhHeld=>?_);clear hK K
   refine rdQ 12 (λK hK=>?_);go_simp
   refine hkQ hK (by assumption) (λhHeld=>?_);clear hK K
   refine wpAnyH_done (by kernel_rfl) ?_ _;clear o7 g7 pC1;have pA2:AtL (w3.setCell ⟨w.heap.size+1,7,none⟩ (.int .i64 x.op)).drew w.heap.size (zAG x):=AtL.drew (pA1.far hne 7 (.int .i64 x.op));have pO2:=AtL.drew (hS _ _ pO1);have hB2:Below w.heap.size w (w3.setCell ⟨w.heap.size+1,7,none⟩ (.int .i64 x.op)).drew:=(clB hB1)
   clear pA1 pO1 hB1;generalize (w3.setCell ⟨w.heap.size+1,7,none⟩ (.int .i64 x.op)).drew=W2 at *;have rA:=pA2.range;have rO:=pO2.range;clear pA2 pO2;go_wp2_with (first | ((with_reducible refine zAA ?_ 35 (.tmp 1) ?_ w.heap.size 0 ?_ (zAG x) _ ?_ underlying35 ?_ ?_ ?_);rfl;rfl;rfl;exact rA;rfl;kernel_rfl) | ((with_reducible refine zAA ?_ 35 (.tmp 3) ?_ (w.heap.size+1) 0 ?_ (zAG ⟨4,Wt.v0,x.op,⟨#[]⟩,0,Wt.r0,Wt.r0⟩) _ ?_ underlying35 ?_ ?_ ?_);rfl;rfl;rfl;exact rO;rfl;kernel_rfl) | ((with_reducible refine zAA ?_ 35 (.tmp 3) ?_ (w.heap.size+1) 0 ?_ (zAG ⟨5,Wt.v0,x.op,⟨#[]⟩,0,Wt.r0,Wt.r0⟩) _ ?_ underlying35 ?_ ?_ ?_);rfl;rfl;rfl;exact rO;rfl;kernel_rfl))
   go_wp2;go_ret;exact ⟨by simp,hB2⟩
  | some q =>
   obtain ⟨o2,m2,t2⟩:=q;rw [hop] at C;simp only [opV] at C ⊢;by_cases ht:t2<5
   all_goals
    first | rw [if_pos ht] | rw [if_neg ht]
    have KK:=λw=>zIv o2 ⟨m2.toArray⟩ t2 w
    first | rw [if_pos ht] at KK | rw [if_neg ht] at KK
    go_enter func75,ntmps75;go_upto_region 1 with fail
    go_upto_region 2 with (first | ((with_reducible refine wpList_store_mid ?_ 35 (.tmp 3) (.tmp 9) ?_ (w.heap.size+1) 0 (zAG (bare 4)).toArray ?_ ?_ ?_ ?_ ?_ ?_);rfl;rfl;rfl;rfl;exact hth;kernel_rfl;exact zC6 _) | ((with_reducible refine wpList_store_mid ?_ 35 (.tmp 3) (.tmp 9) ?_ (w.heap.size+1) 0 (zAG (bare 5)).toArray ?_ ?_ ?_ ?_ ?_ ?_);rfl;rfl;rfl;rfl;exact hth;kernel_rfl;exact zC6 _))
    rw [HW.out];clear hth HW;go_upto_region 11 with fail
    go_wp2_with fail
    refine (C _ OpW).mono ?_;rintro e w1 ⟨rfl,hb⟩;have pA1:=AtL.below hb pA;have pO1:=AtL.below hb pO;have hB1:=zAB hBa hb;have pOlt:=pO1.lt;clear hb pA pO hBa a0 C OpW;go_upto_region 12 with fail
    replace pA1:=AtL.alloc pA1 (.cells #[.int .i64 o2,.string ⟨m2.toArray⟩,.int .i64 t2] 169)
    replace pO1:=AtL.alloc pO1 (.cells #[.int .i64 o2,.string ⟨m2.toArray⟩,.int .i64 t2] 169)
    have pC1:AtL (w1.alloc (.cells #[.int .i64 o2,.string ⟨m2.toArray⟩,.int .i64 t2] 169)) w1.heap.size [.int .i64 o2,.string ⟨m2.toArray⟩,.int .i64 t2]:=AtL.new0 w1 _ _;have hnc:w.heap.size+1 ≠ w1.heap.size:=by have:=pOlt;omega
    replace hB1:=zAM hB1 (.cells #[.int .i64 o2,.string ⟨m2.toArray⟩,.int .i64 t2] 169)
    generalize w1.heap.size=kc at *;generalize w1.alloc (.cells #[.int .i64 o2,.string ⟨m2.toArray⟩,.int .i64 t2] 169)=w3 at *;refine wp_region_held_drew (S:=zNx _ w.heap.size (w.heap.size+1) kc x o2 ⟨m2.toArray⟩ t2) (by kernel_rfl) (zCr hk (AtL.drew pA1) (AtL.drew pO1) (AtL.drew pC1)) (λhHeld=>?_);replace pA1:=AtL.drew pA1
    replace pO1:=AtL.drew pO1
    replace pC1:=AtL.drew pC1
    replace hB1:=hB1.drew
    refine tkQ 0 ?_
    refine tkQ 1 ?_
    refine tkQ 2 ?_
    refine tkQ 3 ?_
    refine tkQ 4 ?_
    refine tkQ 6 ?_
    refine tkQ 7 ?_
    refine tkQ 10 ?_
    refine rdQ 5 (λK hK=>?_);go_simp
    refine (KK _).mono ?_;rintro e w4 ⟨rfl,hb⟩;replace pA1:=AtL.below hb pA1
    replace pO1:=AtL.below hb pO1
    replace pC1:=AtL.below hb pC1
    replace hB1:=zAB hB1 hb
    clear hb;go_wp2_with fail
    refine hkQ hK (zCr hk pA1 pO1 pC1) (λhHeld=>?_);clear hK K
    refine tkQ 8 ?_
    refine tkQ 9 ?_
    refine rdQ 11 (λK hK=>?_);have o7:=pO1.2.1 7 _ rfl;obtain ⟨_,_,_,_,_,g7⟩:=hHeld;go_simp
    refine hkQ hK (zFq (zCr hk pA1 pO1 pC1) hne hnc _ _) (λhHeld=>?_);clear hK K
    refine rdQ 12 (λK hK=>?_);go_simp
    refine hkQ hK (by assumption) (λhHeld=>?_);clear hK K
    refine wpAnyH_done (by kernel_rfl) ?_ _;clear o7 g7 pC1;have pA2:AtL (w4.setCell ⟨w.heap.size+1,7,none⟩ (.int .i64 x.op)) w.heap.size (zAG x):=(pA1.far hne 7 (.int .i64 x.op))
    have pO2:=hS _ _ pO1;have hB2:Below w.heap.size w (w4.setCell ⟨w.heap.size+1,7,none⟩ (.int .i64 x.op)):=(clB hB1)
    clear pA1 pO1 hB1;generalize (w4.setCell ⟨w.heap.size+1,7,none⟩ (.int .i64 x.op))=W2 at *;have rA:=pA2.range;have rO:=pO2.range;clear pA2 pO2;go_wp2_with (first | ((with_reducible refine zAA ?_ 35 (.tmp 1) ?_ w.heap.size 0 ?_ (zAG x) _ ?_ underlying35 ?_ ?_ ?_);rfl;rfl;rfl;exact rA;rfl;kernel_rfl) | ((with_reducible refine zAA ?_ 35 (.tmp 3) ?_ (w.heap.size+1) 0 ?_ (zAG ⟨4,Wt.v0,x.op,⟨#[]⟩,0,Wt.r0,Wt.r0⟩) _ ?_ underlying35 ?_ ?_ ?_);rfl;rfl;rfl;exact rO;rfl;kernel_rfl) | ((with_reducible refine zAA ?_ 35 (.tmp 3) ?_ (w.heap.size+1) 0 ?_ (zAG ⟨5,Wt.v0,x.op,⟨#[]⟩,0,Wt.r0,Wt.r0⟩) _ ?_ underlying35 ?_ ?_ ?_);rfl;rfl;rfl;exact rO;rfl;kernel_rfl))
    go_wp2;go_ret;exact ⟨by simp,hB2⟩
end Go.Proofs.YtefkclbaflkheaaGreatDoor
namespace Go.Proofs.YtefkclbaflkheaaGreatDoor.Wt
open Go.Proofs.YtefkclbaflkheaaGreatDoor
def right (x:Nd):Bool :=
 if x.k=1 then vlOk x.v && eqN x ⟨1,x.v,0,⟨#[]⟩,0,Wt.r0,Wt.r0⟩
 else if x.k=2 then rfOk x.a && eqN x ⟨2,Wt.v0,0,⟨#[]⟩,0,x.a,Wt.r0⟩
 else if x.k=3 then (rfOk x.a && rfOk x.b && x.b.s.toList.isEmpty) && eqN x ⟨3,Wt.v0,0,⟨#[]⟩,0,x.a,x.b⟩
 else if x.k=4 then opK x.op == 4 && eqN x ⟨4,Wt.v0,x.op,⟨#[]⟩,0,Wt.r0,Wt.r0⟩
 else if x.k=5 then opK x.op == 5 && eqN x ⟨5,Wt.v0,x.op,⟨#[]⟩,0,Wt.r0,Wt.r0⟩
 else if x.k=6 then (fnNm x.nm && decide (0<=x.ar) && decide (x.ar<=30)) && eqN x ⟨6,Wt.v0,0,x.nm,x.ar,Wt.r0,Wt.r0⟩
 else false
def FitV (v:Vl):Prop:=(-9223372036854775808<=v.n/\v.n<=9223372036854775807)/\(-9223372036854775808<=v.d/\v.d<=9223372036854775807)/\v.t.size<=9223372036854775807
def FitN (x:Nd):Prop:=FitV x.v/\x.nm.size<=9223372036854775807/\x.a.s.size<=9223372036854775807/\x.b.s.size<=9223372036854775807
theorem parts_le {x:Nd} (h:right x=true):0<=parts x/\parts x<=30:=by
 unfold right at h;unfold parts;by_cases h4:x.k=4
 ·rw [if_pos h4];omega
 rw [if_neg h4];by_cases h5:x.k=5
 ·rw [if_pos h5];omega
 rw [if_neg h5];by_cases h1:x.k=1
 ·rw [if_pos h1,Bool.and_eq_true,zBe] at h;have:=congrArg Nd.ar h.2;simp only at this;omega
 rw [if_neg h1] at h;by_cases h1:x.k=2
 ·rw [if_pos h1,Bool.and_eq_true,zBe] at h;have:=congrArg Nd.ar h.2;simp only at this;omega
 rw [if_neg h1] at h;by_cases h1:x.k=3
 ·rw [if_pos h1,Bool.and_eq_true,zBe] at h;have:=congrArg Nd.ar h.2;simp only at this;omega
 rw [if_neg h1,if_neg h4,if_neg h5] at h;by_cases h1:x.k=6
 ·rw [if_pos h1] at h;simp only [Bool.and_eq_true,decide_eq_true_eq] at h;omega
 ·rw [if_neg h1] at h;cases h
def many (sub:List Nd->Option (Nat × Nat)):Nat->List Nd->Option (Nat × Nat)
 | 0,_=>some (0,0)
 | k+1,l=>match sub l with
  | none=>none
  | some (s,d)=>match many sub k (l.drop s) with
   | none=>none
   | some (s',d')=>some (s+s',max d d')
def one:Nat->List Nd->Option (Nat × Nat)
 | 0,_=>none
 | _+1,[]=>none
 | f+1,x::r=>if right x then (match many (one f) (parts x).toNat r with | none=>none | some (s,d)=>some (s+1,d+1)) else none
def check (l:List Nd):Int :=
 if 256<l.length then 52
 else match one (l.length+1) l with
  | none=>53
  | some (s,d)=>if s ≠ l.length then 53 else if 32<d then 51 else 0
end Go.Proofs.YtefkclbaflkheaaGreatDoor.Wt
namespace Go.Proofs.YtefkclbaflkheaaGreatDoor
open Tryz
open Go.RowKit
theorem zKi (x:Wt.Nd) (w:World) (h1:(x.k == 1)=false) (h2:(x.k == 2)=false) (h3:(x.k == 3)=false) (h4:(x.k == 4)=false) (h5:(x.k == 5)=false) (h6:(x.k == 6)=false) :
  CR 75 #[ndV x] w (.bool false):=by
 obtain ⟨k,hk⟩:∃ k,x.k=k:=⟨_,rfl⟩
 rw [hk] at h1 h2 h3 h4 h5 h6;have pA0:AtL (two w x) w.heap.size (zAG x):=(AtL.new0 w _ _).alloc _;have pO0:AtL (two w x) (w.heap.size+1) (zAG (bare 0)):=AtL.new1 w _ _ _;have hth:World.there (two w x) (w.heap.size+1) 0 (zAG (bare k)).toArray.size:=pO0.there;have hne:w.heap.size+1 ≠ w.heap.size:=by omega
 have pA:=pA0.farAll hne 0 (zAG (bare k));have pO:AtL ((two w x).setCells (w.heap.size+1) 0 (zAG (bare k))) (w.heap.size+1) (zAG (bare k)):=pO0.setAll rfl;have hBa:Below w.heap.size w ((two w x).setCells (w.heap.size+1) 0 (zAG (bare k))):=zAv (zAM (zAM (Below.refl _ w) _) _) (Nat.le_succ _) _ 0;clear pA0 pO0;have n0:(zAG x)[0]? = some (.int .i64 k):=by rw [<-hk];rfl
 have a0:World.cell? ((two w x).setCells (w.heap.size+1) 0 (zAG (bare k))) ⟨w.heap.size,0,none⟩=some (.int .i64 k):=pA.2.1 0 _ n0;show Calls _ _ #[.agg (zAG x).toArray] _ _
 go_enter func75,ntmps75;go_upto_region 1 with fail
 go_upto_region 2 with ((with_reducible refine wpList_store_mid ?_ 35 (.tmp 3) (.tmp 9) ?_ (w.heap.size+1) 0 (zAG (bare k)).toArray ?_ ?_ ?_ ?_ ?_ ?_);rfl;rfl;rfl;rfl;exact hth;kernel_rfl;exact zC6 _)
 generalize (two w x).setCells (w.heap.size+1) 0 (zAG (bare k))=W0 at *;clear hth;go_wp2;go_ret;exact ⟨rfl,hBa⟩
theorem zG6 (x:Wt.Nd) (w:World) (hf:Wt.FitN x) (hO:OpsAt w):CR 75 #[ndV x] w (.bool (Wt.right x)):=by
 obtain ⟨⟨⟨f1,f2⟩,⟨f3,f4⟩,f5⟩,f6,f7,f8⟩:=hf;unfold Wt.right;by_cases h1:x.k=1
 ·rw [if_pos h1];exact zLL x w h1 f1 f2 f3 f4 f5
 rw [if_neg h1];by_cases h2:x.k=2
 ·rw [if_pos h2];exact zLW x w h2 f7
 rw [if_neg h2];by_cases h3:x.k=3
 ·rw [if_pos h3];exact zJb x w h3 f7 f8
 rw [if_neg h3];by_cases h4:x.k=4
 ·rw [if_pos h4];exact zEC x w 4 (Or.inl rfl) h4 hO
 rw [if_neg h4];by_cases h5:x.k=5
 ·rw [if_pos h5];exact zEC x w 5 (Or.inr rfl) h5 hO
 rw [if_neg h5];by_cases h6:x.k=6
 ·rw [if_pos h6];exact zKR x w h6 f6
 rw [if_neg h6];exact zKi x w (by simp [h1]) (by simp [h2]) (by simp [h3]) (by simp [h4]) (by simp [h5]) (by simp [h6])
