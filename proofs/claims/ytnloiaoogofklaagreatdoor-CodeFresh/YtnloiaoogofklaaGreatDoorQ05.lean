/- TRightD. -/
import Derived.Test.YtnloiaoogofklaaGreatDoorQ04
set_option maxHeartbeats 8000000
set_option maxRecDepth 100000
namespace Go.Proofs.YtnloiaoogofklaaGreatDoor
open Tryz
variable {ka kb kc:Nat} {x y:Wt.Nd} {o t:Int} {m:ByteArray} {W:World}
abbrev zQY:Oper:=⟨some 59,.fieldAddr 56 (.tmp 1) 2,0,"tree.go:78",#[],none⟩
abbrev zQX:Oper:=⟨some 60,.load 3 (.tmp 59),3,"tree.go:78",#[⟨0,.data⟩],none⟩
abbrev zQU:Oper:=⟨some 61,.move (.tmp 6),4,"tree.go:78",#[],none⟩
abbrev zQT:Oper:=⟨some 62,.move (.tmp 61),4,"tree.go:78",#[⟨2,.data⟩],none⟩
abbrev zQN:Oper:=⟨some 63,.load 155 (.tmp 5),155,"tree.go:78",#[⟨3,.guard⟩],some (3,Bool.true)⟩
abbrev zQS:Oper:=⟨some 65,.fieldAddr 56 (.tmp 1) 0,0,"tree.go:78",#[⟨3,.guard⟩,⟨11,.gcOnly .lateStores⟩],some (3,Bool.true)⟩
abbrev zQW:Oper:=⟨some 66,.load 3 (.tmp 65),3,"tree.go:78",#[⟨6,.data⟩,⟨3,.guard⟩,⟨11,.gcOnly .lateStores⟩],some (3,Bool.true)⟩
abbrev zQO:Oper:=⟨some 69,.fieldAddr 56 (.tmp 3) 2,0,"tree.go:78",#[⟨0,.phase⟩,⟨1,.phase⟩,⟨2,.textOnly .lateStores⟩,⟨3,.textOnly .lateStores⟩,⟨4,.textOnly .lateStores⟩,⟨5,.textOnly .lateStoresUnsure⟩,⟨6,.textOnly .lateStores⟩,⟨7,.textOnly .lateStores⟩,⟨8,.textOnly .lateStores⟩,⟨9,.textOnly .lateStores⟩],none⟩
abbrev zQP:Oper:=⟨some 64,.call {callee:=Callee.value (Operand.func 81),args:=#[.tmp 63],argTypes:=#[155]},3,"tree.go:78",#[⟨4,.data⟩,⟨3,.chain⟩,⟨3,.guard⟩],some (3,Bool.true)⟩
abbrev zQQ:Oper:=⟨some 67,.binOp BinOp.eql 3 (.tmp 64) (.tmp 66) 3,4,"tree.go:78",#[⟨5,.data⟩,⟨7,.data⟩,⟨3,.guard⟩,⟨11,.gcOnly .lateStores⟩],some (3,Bool.true)⟩
abbrev zL7:Oper:=⟨some 68,.pick (.tmp 62) (.tmp 67) (Operand.const (Value.bool Bool.false)),4,"tree.go:78",#[⟨3,.data⟩,⟨8,.data⟩,⟨11,.gcOnly .lateStores⟩],none⟩
abbrev zLg:Oper:=⟨none,.store 3 (.tmp 69) (.tmp 60),0,"tree.go:78",#[⟨10,.data⟩,⟨1,.data⟩,⟨5,.chain⟩,⟨0,.phase⟩,⟨1,.phase⟩,⟨2,.textOnly .lateStores⟩,⟨3,.textOnly .lateStores⟩,⟨4,.textOnly .lateStores⟩,⟨5,.textOnly .lateStoresUnsure⟩,⟨6,.textOnly .lateStores⟩,⟨7,.textOnly .lateStores⟩,⟨8,.textOnly .lateStores⟩,⟨9,.textOnly .lateStores⟩],none⟩
abbrev zLT:Oper:=⟨some 4,.assign (.tmp 68),4,"tree.go:78",#[⟨9,.data⟩,⟨11,.chain⟩,⟨0,.phase⟩,⟨1,.phase⟩,⟨2,.phase⟩,⟨3,.phase⟩,⟨4,.phase⟩,⟨5,.phase⟩,⟨6,.phase⟩,⟨7,.phase⟩,⟨8,.phase⟩,⟨9,.phase⟩,⟨10,.phase⟩,⟨11,.phase⟩],none⟩
open Go.RowKit
set_option linter.unusedVariables false
def opK (o:Int):Int:=match Wt.opOf o with
 | none=>0
 | some (_,_,t)=>if t<5 then 5 else 4
abbrev zO7 (ka kb kc:Nat) (x:Wt.Nd) (o:Int) (m:ByteArray) (t:Int) (W:World):Prop :=
 W.cell? ⟨ka,7,none⟩=some (.int .i64 x.op)/\W.cell? ⟨ka,0,none⟩=some (.int .i64 4)/\W.cell? ⟨kc,0,none⟩=some (.int .i64 o)/\W.cell? ⟨kc,1,none⟩=some (.string m)/\W.cell? ⟨kc,2,none⟩=some (.int .i64 t)/\W.frozen? ⟨kb,7,none⟩=false
theorem zCn (hk:x.k=4) (h0:AtL W ka (zAM x)) (h1:AtL W kb (zAM y)) (h2:AtL W kc [.int .i64 o,.string m,.int .i64 t]):zO7 ka kb kc x o m t W :=
 ⟨h0.2.1 7 _ rfl,by rw [<-hk];exact h0.2.1 0 _ rfl,h2.2.1 0 _ rfl,h2.2.1 1 _ rfl,h2.2.1 2 _ rfl,h1.2.2 7 (by show 7<20;decide)⟩
theorem zGU (h:zO7 ka kb kc x o m t W) (hne:kb ≠ ka) (hne2:kb ≠ kc) (j:Nat) (u:Value):zO7 ka kb kc x o m t (W.setCell ⟨kb,j,none⟩ u):=by
 obtain ⟨h0,h1,h2,h3,h4,g⟩:=h;refine ⟨?_,?_,?_,?_,?_,?_⟩;any_goals first | (rw [World.cell?_setCell_far _ _ _ _ (by simpa using hne)];assumption) | (rw [World.cell?_setCell_far _ _ _ _ (by simpa using hne2)];assumption)
 rw [World.frozen?_setCell];assumption
theorem zKj (x:Wt.Nd) (w:World) (hk:x.k=4) (hO:OpsAt w) :
  CR 55 #[ndV x] w (.bool (opK x.op == 4 && eqN x ⟨4,Wt.v0,x.op,⟨#[]⟩,0,Wt.r0,Wt.r0⟩)):=by
 have C:∀ w:World,OpsAt w->CR 80 #[.int .i64 x.op] w (opV (Wt.opOf x.op)):=λw h=>zDu x.op w h
 have hq:∀ w:World,(binOp .eql 56 (.agg (zAM x).toArray) (.agg (zAM ⟨4,Wt.v0,x.op,⟨#[]⟩,0,Wt.r0,Wt.r0⟩).toArray)).run prog w=.ok (.bool (eqN x ⟨4,Wt.v0,x.op,⟨#[]⟩,0,Wt.r0,Wt.r0⟩)) w:=λw=>zCS x ⟨4,Wt.v0,x.op,⟨#[]⟩,0,Wt.r0,Wt.r0⟩ w
 generalize eqN x ⟨4,Wt.v0,x.op,⟨#[]⟩,0,Wt.r0,Wt.r0⟩=R at *;have pA0:AtL (two w x) w.heap.size (zAM x):=(AtL.new0 w _ _).alloc _;have pO0:AtL (two w x) (w.heap.size+1) (zAM (bare 0)):=AtL.new1 w _ _ _;have hth:World.there (two w x) (w.heap.size+1) 0 (zAM (bare 4)).toArray.size:=pO0.there;have hne:w.heap.size+1 ≠ w.heap.size:=by omega
 have pA:=pA0.farAll hne 0 (zAM (bare 4));have pO:AtL ((two w x).setCells (w.heap.size+1) 0 (zAM (bare 4))) (w.heap.size+1) (zAM (bare 4)):=pO0.setAll rfl;have hBa:Below w.heap.size w ((two w x).setCells (w.heap.size+1) 0 (zAM (bare 4))):=zAs (zAL (zAL (Below.refl _ w) _) _) (Nat.le_succ _) _ 0;clear pA0 pO0;have n0:(zAM x)[0]? = some (.int .i64 4):=by rw [<-hk];rfl
 have a0:World.cell? ((two w x).setCells (w.heap.size+1) 0 (zAM (bare 4))) ⟨w.heap.size,0,none⟩=some (.int .i64 4):=pA.2.1 0 _ n0;show Calls _ _ #[.agg (zAM x).toArray] _ _
 have OpW:=hO.below hBa;have c7:World.cell? ((two w x).setCells (w.heap.size+1) 0 (zAM (bare 4))) ⟨w.heap.size,7,none⟩=some (.int .i64 x.op):=pA.2.1 7 _ rfl;unfold opK;cases hop:Wt.opOf x.op with
 | none =>
  rw [hop] at C;simp only [opV] at C ⊢;go_enter func55,ntmps55;go_upto_region 1 with fail
  go_upto_region 2 with ((with_reducible refine wpList_store_mid ?_ 56 (.tmp 3) (.tmp 9) ?_ (w.heap.size+1) 0 (zAM (bare 4)).toArray ?_ ?_ ?_ ?_ ?_ ?_);rfl;rfl;rfl;rfl;exact hth;kernel_rfl;exact zDe _)
  generalize (two w x).setCells (w.heap.size+1) 0 (zAM (bare 4))=W0 at *;clear hth;go_upto_region 11 with fail
  go_wp2_with fail
  refine (C _ OpW).mono ?_;rintro e w1 ⟨rfl,hb⟩;have pA1:=AtL.below hb pA;have pO1:=AtL.below hb pO;have hB1:=zAB hBa hb;have pOlt:=pO1.lt;clear hb pA pO hBa a0 C OpW;go_upto_region 12 with fail
  replace pA1:=AtL.alloc pA1 (.cells #[.int .i64 0,.string ⟨#[]⟩,.int .i64 0] 155)
  replace pO1:=AtL.alloc pO1 (.cells #[.int .i64 0,.string ⟨#[]⟩,.int .i64 0] 155)
  have pC1:AtL (w1.alloc (.cells #[.int .i64 0,.string ⟨#[]⟩,.int .i64 0] 155)) w1.heap.size [.int .i64 0,.string ⟨#[]⟩,.int .i64 0]:=AtL.new0 w1 _ _;have hnc:w.heap.size+1 ≠ w1.heap.size:=by have:=pOlt;omega
  replace hB1:=zAL hB1 (.cells #[.int .i64 0,.string ⟨#[]⟩,.int .i64 0] 155)
  generalize w1.heap.size=kc at *;generalize w1.alloc (.cells #[.int .i64 0,.string ⟨#[]⟩,.int .i64 0] 155)=w3 at *;refine wp_region_held_drew (S:=zO7 w.heap.size (w.heap.size+1) kc x 0 ⟨#[]⟩ 0) (by kernel_rfl) (zCn hk (AtL.drew pA1) (AtL.drew pO1) (AtL.drew pC1)) (λhHeld=>?_);refine tkQ 0 zQY ?_
  refine tkQ 1 zQX ?_
  refine tkQ 2 zQU ?_
  refine tkQ 3 zQT ?_
  refine tnQ 4 zQN ?_
  refine tnQ 6 zQS ?_
  refine tnQ 7 zQW ?_
  refine tkQ 10 zQO ?_
  refine tnQ 5 zQP ?_
  refine tnQ 8 zQQ ?_
  refine tkQ 9 zL7 ?_
  refine rdQ 11 zLg (λK hK=>?_);have o7:=(AtL.drew pO1).2.1 7 _ rfl;obtain ⟨_,_,_,_,_,g7⟩:=hHeld;go_simp
  refine hkQ hK (zGU (zCn hk (AtL.drew pA1) (AtL.drew pO1) (AtL.drew pC1)) hne hnc _ _) (λhHeld=>?_);clear hK K
  refine rdQ 12 zLT (λK hK=>?_);go_simp
  refine hkQ hK (by assumption) (λhHeld=>?_);clear hK K
  refine wpAnyH_done (by kernel_rfl) ?_ _;clear o7 g7 pC1;have pA2:AtL (w3.setCell ⟨w.heap.size+1,7,none⟩ (.int .i64 x.op)).drew w.heap.size (zAM x):=AtL.drew (pA1.far hne 7 (.int .i64 x.op));have pO2:AtL (w3.setCell ⟨w.heap.size+1,7,none⟩ (.int .i64 x.op)).drew (w.heap.size+1) (zAM ⟨4,Wt.v0,x.op,⟨#[]⟩,0,Wt.r0,Wt.r0⟩):=AtL.drew (pO1.set 7 (.int .i64 x.op));have hB2:Below w.heap.size w (w3.setCell ⟨w.heap.size+1,7,none⟩ (.int .i64 x.op)).drew:=(clB hB1)
  clear pA1 pO1 hB1;generalize (w3.setCell ⟨w.heap.size+1,7,none⟩ (.int .i64 x.op)).drew=W2 at *;have rA:=pA2.range;have rO:=pO2.range;clear pA2 pO2;go_wp2_with (first | ((with_reducible refine zAA ?_ 56 (.tmp 1) ?_ w.heap.size 0 ?_ (zAM x) _ ?_ underlying56 ?_ ?_ ?_);rfl;rfl;rfl;exact rA;rfl;kernel_rfl) | ((with_reducible refine zAA ?_ 56 (.tmp 3) ?_ (w.heap.size+1) 0 ?_ (zAM ⟨4,Wt.v0,x.op,⟨#[]⟩,0,Wt.r0,Wt.r0⟩) _ ?_ underlying56 ?_ ?_ ?_);rfl;rfl;rfl;exact rO;rfl;kernel_rfl))
  go_wp2;go_ret;exact ⟨by simp,hB2⟩
 | some q =>
  obtain ⟨o2,m2,t2⟩:=q;rw [hop] at C;simp only [opV] at C ⊢;by_cases ht:t2<5
  all_goals
   first | rw [if_pos ht] | rw [if_neg ht]
   have KK:=λw=>zEd o2 ⟨m2.toArray⟩ t2 w
   first | rw [if_pos ht] at KK | rw [if_neg ht] at KK
   go_enter func55,ntmps55;go_upto_region 1 with fail
   go_upto_region 2 with ((with_reducible refine wpList_store_mid ?_ 56 (.tmp 3) (.tmp 9) ?_ (w.heap.size+1) 0 (zAM (bare 4)).toArray ?_ ?_ ?_ ?_ ?_ ?_);rfl;rfl;rfl;rfl;exact hth;kernel_rfl;exact zDe _)
   generalize (two w x).setCells (w.heap.size+1) 0 (zAM (bare 4))=W0 at *;clear hth;go_upto_region 11 with fail
   go_wp2_with fail
   refine (C _ OpW).mono ?_;rintro e w1 ⟨rfl,hb⟩;have pA1:=AtL.below hb pA;have pO1:=AtL.below hb pO;have hB1:=zAB hBa hb;have pOlt:=pO1.lt;clear hb pA pO hBa a0 C OpW;go_upto_region 12 with fail
   replace pA1:=AtL.alloc pA1 (.cells #[.int .i64 o2,.string ⟨m2.toArray⟩,.int .i64 t2] 155)
   replace pO1:=AtL.alloc pO1 (.cells #[.int .i64 o2,.string ⟨m2.toArray⟩,.int .i64 t2] 155)
   have pC1:AtL (w1.alloc (.cells #[.int .i64 o2,.string ⟨m2.toArray⟩,.int .i64 t2] 155)) w1.heap.size [.int .i64 o2,.string ⟨m2.toArray⟩,.int .i64 t2]:=AtL.new0 w1 _ _;have hnc:w.heap.size+1 ≠ w1.heap.size:=by have:=pOlt;omega
   replace hB1:=zAL hB1 (.cells #[.int .i64 o2,.string ⟨m2.toArray⟩,.int .i64 t2] 155)
   generalize w1.heap.size=kc at *;generalize w1.alloc (.cells #[.int .i64 o2,.string ⟨m2.toArray⟩,.int .i64 t2] 155)=w3 at *;refine wp_region_held_drew (S:=zO7 w.heap.size (w.heap.size+1) kc x o2 ⟨m2.toArray⟩ t2) (by kernel_rfl) (zCn hk (AtL.drew pA1) (AtL.drew pO1) (AtL.drew pC1)) (λhHeld=>?_);replace pA1:=AtL.drew pA1
   replace pO1:=AtL.drew pO1
   replace pC1:=AtL.drew pC1
   replace hB1:=hB1.drew
   refine tkQ 0 zQY ?_
   refine tkQ 1 zQX ?_
   refine tkQ 2 zQU ?_
   refine tkQ 3 zQT ?_
   refine tkQ 4 zQN ?_
   refine tkQ 6 zQS ?_
   refine tkQ 7 zQW ?_
   refine tkQ 10 zQO ?_
   refine rdQ 5 zQP (λK hK=>?_);go_simp
   refine (KK _).mono ?_;rintro e w4 ⟨rfl,hb⟩;replace pA1:=AtL.below hb pA1
   replace pO1:=AtL.below hb pO1
   replace pC1:=AtL.below hb pC1
   replace hB1:=zAB hB1 hb
   clear hb;go_wp2_with fail
   refine hkQ hK (zCn hk pA1 pO1 pC1) (λhHeld=>?_);clear hK K
   refine tkQ 8 zQQ ?_
   refine tkQ 9 zL7 ?_
   refine rdQ 11 zLg (λK hK=>?_);have o7:=pO1.2.1 7 _ rfl;obtain ⟨_,_,_,_,_,g7⟩:=hHeld;go_simp
   refine hkQ hK (zGU (zCn hk pA1 pO1 pC1) hne hnc _ _) (λhHeld=>?_);clear hK K
   refine rdQ 12 zLT (λK hK=>?_);go_simp
   refine hkQ hK (by assumption) (λhHeld=>?_);clear hK K
   refine wpAnyH_done (by kernel_rfl) ?_ _;clear o7 g7 pC1;have pA2:AtL (w4.setCell ⟨w.heap.size+1,7,none⟩ (.int .i64 x.op)) w.heap.size (zAM x):=(pA1.far hne 7 (.int .i64 x.op))
   have pO2:AtL (w4.setCell ⟨w.heap.size+1,7,none⟩ (.int .i64 x.op)) (w.heap.size+1) (zAM ⟨4,Wt.v0,x.op,⟨#[]⟩,0,Wt.r0,Wt.r0⟩):=(pO1.set 7 (.int .i64 x.op))
   have hB2:Below w.heap.size w (w4.setCell ⟨w.heap.size+1,7,none⟩ (.int .i64 x.op)):=(clB hB1)
   clear pA1 pO1 hB1;generalize (w4.setCell ⟨w.heap.size+1,7,none⟩ (.int .i64 x.op))=W2 at *;have rA:=pA2.range;have rO:=pO2.range;clear pA2 pO2;go_wp2_with (first | ((with_reducible refine zAA ?_ 56 (.tmp 1) ?_ w.heap.size 0 ?_ (zAM x) _ ?_ underlying56 ?_ ?_ ?_);rfl;rfl;rfl;exact rA;rfl;kernel_rfl) | ((with_reducible refine zAA ?_ 56 (.tmp 3) ?_ (w.heap.size+1) 0 ?_ (zAM ⟨4,Wt.v0,x.op,⟨#[]⟩,0,Wt.r0,Wt.r0⟩) _ ?_ underlying56 ?_ ?_ ?_);rfl;rfl;rfl;exact rO;rfl;kernel_rfl))
   go_wp2;go_ret;exact ⟨by simp,hB2⟩
abbrev zP6 (ka kb kc:Nat) (x:Wt.Nd) (o:Int) (m:ByteArray) (t:Int) (W:World):Prop :=
 W.cell? ⟨ka,7,none⟩=some (.int .i64 x.op)/\W.cell? ⟨ka,0,none⟩=some (.int .i64 5)/\W.cell? ⟨kc,0,none⟩=some (.int .i64 o)/\W.cell? ⟨kc,1,none⟩=some (.string m)/\W.cell? ⟨kc,2,none⟩=some (.int .i64 t)/\W.frozen? ⟨kb,7,none⟩=false
theorem zCm (hk:x.k=5) (h0:AtL W ka (zAM x)) (h1:AtL W kb (zAM y)) (h2:AtL W kc [.int .i64 o,.string m,.int .i64 t]):zP6 ka kb kc x o m t W :=
 ⟨h0.2.1 7 _ rfl,by rw [<-hk];exact h0.2.1 0 _ rfl,h2.2.1 0 _ rfl,h2.2.1 1 _ rfl,h2.2.1 2 _ rfl,h1.2.2 7 (by show 7<20;decide)⟩
theorem zFd (h:zP6 ka kb kc x o m t W) (hne:kb ≠ ka) (hne2:kb ≠ kc) (j:Nat) (u:Value):zP6 ka kb kc x o m t (W.setCell ⟨kb,j,none⟩ u):=by
 obtain ⟨h0,h1,h2,h3,h4,g⟩:=h;refine ⟨?_,?_,?_,?_,?_,?_⟩;any_goals first | (rw [World.cell?_setCell_far _ _ _ _ (by simpa using hne)];assumption) | (rw [World.cell?_setCell_far _ _ _ _ (by simpa using hne2)];assumption)
 rw [World.frozen?_setCell];assumption
theorem zJg (x:Wt.Nd) (w:World) (hk:x.k=5) (hO:OpsAt w) :
  CR 55 #[ndV x] w (.bool (opK x.op == 5 && eqN x ⟨5,Wt.v0,x.op,⟨#[]⟩,0,Wt.r0,Wt.r0⟩)):=by
 have C:∀ w:World,OpsAt w->CR 80 #[.int .i64 x.op] w (opV (Wt.opOf x.op)):=λw h=>zDu x.op w h
 have hq:∀ w:World,(binOp .eql 56 (.agg (zAM x).toArray) (.agg (zAM ⟨5,Wt.v0,x.op,⟨#[]⟩,0,Wt.r0,Wt.r0⟩).toArray)).run prog w=.ok (.bool (eqN x ⟨5,Wt.v0,x.op,⟨#[]⟩,0,Wt.r0,Wt.r0⟩)) w:=λw=>zCS x ⟨5,Wt.v0,x.op,⟨#[]⟩,0,Wt.r0,Wt.r0⟩ w
 generalize eqN x ⟨5,Wt.v0,x.op,⟨#[]⟩,0,Wt.r0,Wt.r0⟩=R at *;have pA0:AtL (two w x) w.heap.size (zAM x):=(AtL.new0 w _ _).alloc _;have pO0:AtL (two w x) (w.heap.size+1) (zAM (bare 0)):=AtL.new1 w _ _ _;have hth:World.there (two w x) (w.heap.size+1) 0 (zAM (bare 5)).toArray.size:=pO0.there;have hne:w.heap.size+1 ≠ w.heap.size:=by omega
 have pA:=pA0.farAll hne 0 (zAM (bare 5));have pO:AtL ((two w x).setCells (w.heap.size+1) 0 (zAM (bare 5))) (w.heap.size+1) (zAM (bare 5)):=pO0.setAll rfl;have hBa:Below w.heap.size w ((two w x).setCells (w.heap.size+1) 0 (zAM (bare 5))):=zAs (zAL (zAL (Below.refl _ w) _) _) (Nat.le_succ _) _ 0;clear pA0 pO0;have n0:(zAM x)[0]? = some (.int .i64 5):=by rw [<-hk];rfl
 have a0:World.cell? ((two w x).setCells (w.heap.size+1) 0 (zAM (bare 5))) ⟨w.heap.size,0,none⟩=some (.int .i64 5):=pA.2.1 0 _ n0;show Calls _ _ #[.agg (zAM x).toArray] _ _
 have OpW:=hO.below hBa;have c7:World.cell? ((two w x).setCells (w.heap.size+1) 0 (zAM (bare 5))) ⟨w.heap.size,7,none⟩=some (.int .i64 x.op):=pA.2.1 7 _ rfl;unfold opK;cases hop:Wt.opOf x.op with
 | none =>
  rw [hop] at C;simp only [opV] at C ⊢;go_enter func55,ntmps55;go_upto_region 1 with fail
  go_upto_region 2 with ((with_reducible refine wpList_store_mid ?_ 56 (.tmp 3) (.tmp 9) ?_ (w.heap.size+1) 0 (zAM (bare 5)).toArray ?_ ?_ ?_ ?_ ?_ ?_);rfl;rfl;rfl;rfl;exact hth;kernel_rfl;exact zDe _)
  generalize (two w x).setCells (w.heap.size+1) 0 (zAM (bare 5))=W0 at *;clear hth;go_upto_region 11 with fail
  go_wp2_with fail
  refine (C _ OpW).mono ?_;rintro e w1 ⟨rfl,hb⟩;have pA1:=AtL.below hb pA;have pO1:=AtL.below hb pO;have hB1:=zAB hBa hb;have pOlt:=pO1.lt;clear hb pA pO hBa a0 C OpW;go_upto_region 12 with fail
  replace pA1:=AtL.alloc pA1 (.cells #[.int .i64 0,.string ⟨#[]⟩,.int .i64 0] 155)
  replace pO1:=AtL.alloc pO1 (.cells #[.int .i64 0,.string ⟨#[]⟩,.int .i64 0] 155)
  have pC1:AtL (w1.alloc (.cells #[.int .i64 0,.string ⟨#[]⟩,.int .i64 0] 155)) w1.heap.size [.int .i64 0,.string ⟨#[]⟩,.int .i64 0]:=AtL.new0 w1 _ _;have hnc:w.heap.size+1 ≠ w1.heap.size:=by have:=pOlt;omega
  replace hB1:=zAL hB1 (.cells #[.int .i64 0,.string ⟨#[]⟩,.int .i64 0] 155)
  generalize w1.heap.size=kc at *;generalize w1.alloc (.cells #[.int .i64 0,.string ⟨#[]⟩,.int .i64 0] 155)=w3 at *;refine wp_region_held_drew (S:=zP6 w.heap.size (w.heap.size+1) kc x 0 ⟨#[]⟩ 0) (by kernel_rfl) (zCm hk (AtL.drew pA1) (AtL.drew pO1) (AtL.drew pC1)) (λhHeld=>?_);refine tkQ 0 zQY ?_
  refine tkQ 1 zQX ?_
  refine tkQ 2 zQU ?_
  refine tkQ 3 zQT ?_
  refine tnQ 4 zQN ?_
  refine tnQ 6 zQS ?_
  refine tnQ 7 zQW ?_
  refine tkQ 10 zQO ?_
  refine tnQ 5 zQP ?_
  refine tnQ 8 zQQ ?_
  refine tkQ 9 zL7 ?_
  refine rdQ 11 zLg (λK hK=>?_);have o7:=(AtL.drew pO1).2.1 7 _ rfl;obtain ⟨_,_,_,_,_,g7⟩:=hHeld;go_simp
  refine hkQ hK (zFd (zCm hk (AtL.drew pA1) (AtL.drew pO1) (AtL.drew pC1)) hne hnc _ _) (λhHeld=>?_);clear hK K
  refine rdQ 12 zLT (λK hK=>?_);go_simp
  refine hkQ hK (by assumption) (λhHeld=>?_);clear hK K
  refine wpAnyH_done (by kernel_rfl) ?_ _;clear o7 g7 pC1;have pA2:AtL (w3.setCell ⟨w.heap.size+1,7,none⟩ (.int .i64 x.op)).drew w.heap.size (zAM x):=AtL.drew (pA1.far hne 7 (.int .i64 x.op));have pO2:AtL (w3.setCell ⟨w.heap.size+1,7,none⟩ (.int .i64 x.op)).drew (w.heap.size+1) (zAM ⟨5,Wt.v0,x.op,⟨#[]⟩,0,Wt.r0,Wt.r0⟩):=AtL.drew (pO1.set 7 (.int .i64 x.op));have hB2:Below w.heap.size w (w3.setCell ⟨w.heap.size+1,7,none⟩ (.int .i64 x.op)).drew:=(clB hB1)
  clear pA1 pO1 hB1;generalize (w3.setCell ⟨w.heap.size+1,7,none⟩ (.int .i64 x.op)).drew=W2 at *;have rA:=pA2.range;have rO:=pO2.range;clear pA2 pO2;go_wp2_with (first | ((with_reducible refine zAA ?_ 56 (.tmp 1) ?_ w.heap.size 0 ?_ (zAM x) _ ?_ underlying56 ?_ ?_ ?_);rfl;rfl;rfl;exact rA;rfl;kernel_rfl) | ((with_reducible refine zAA ?_ 56 (.tmp 3) ?_ (w.heap.size+1) 0 ?_ (zAM ⟨5,Wt.v0,x.op,⟨#[]⟩,0,Wt.r0,Wt.r0⟩) _ ?_ underlying56 ?_ ?_ ?_);rfl;rfl;rfl;exact rO;rfl;kernel_rfl))
  go_wp2;go_ret;exact ⟨by simp,hB2⟩
 | some q =>
  obtain ⟨o2,m2,t2⟩:=q;rw [hop] at C;simp only [opV] at C ⊢;by_cases ht:t2<5
  all_goals
   first | rw [if_pos ht] | rw [if_neg ht]
   have KK:=λw=>zEd o2 ⟨m2.toArray⟩ t2 w
   first | rw [if_pos ht] at KK | rw [if_neg ht] at KK
   go_enter func55,ntmps55;go_upto_region 1 with fail
   go_upto_region 2 with ((with_reducible refine wpList_store_mid ?_ 56 (.tmp 3) (.tmp 9) ?_ (w.heap.size+1) 0 (zAM (bare 5)).toArray ?_ ?_ ?_ ?_ ?_ ?_);rfl;rfl;rfl;rfl;exact hth;kernel_rfl;exact zDe _)
   generalize (two w x).setCells (w.heap.size+1) 0 (zAM (bare 5))=W0 at *;clear hth;go_upto_region 11 with fail
   go_wp2_with fail
   refine (C _ OpW).mono ?_;rintro e w1 ⟨rfl,hb⟩;have pA1:=AtL.below hb pA;have pO1:=AtL.below hb pO;have hB1:=zAB hBa hb;have pOlt:=pO1.lt;clear hb pA pO hBa a0 C OpW;go_upto_region 12 with fail
   replace pA1:=AtL.alloc pA1 (.cells #[.int .i64 o2,.string ⟨m2.toArray⟩,.int .i64 t2] 155)
   replace pO1:=AtL.alloc pO1 (.cells #[.int .i64 o2,.string ⟨m2.toArray⟩,.int .i64 t2] 155)
   have pC1:AtL (w1.alloc (.cells #[.int .i64 o2,.string ⟨m2.toArray⟩,.int .i64 t2] 155)) w1.heap.size [.int .i64 o2,.string ⟨m2.toArray⟩,.int .i64 t2]:=AtL.new0 w1 _ _;have hnc:w.heap.size+1 ≠ w1.heap.size:=by have:=pOlt;omega
   replace hB1:=zAL hB1 (.cells #[.int .i64 o2,.string ⟨m2.toArray⟩,.int .i64 t2] 155)
   generalize w1.heap.size=kc at *;generalize w1.alloc (.cells #[.int .i64 o2,.string ⟨m2.toArray⟩,.int .i64 t2] 155)=w3 at *;refine wp_region_held_drew (S:=zP6 w.heap.size (w.heap.size+1) kc x o2 ⟨m2.toArray⟩ t2) (by kernel_rfl) (zCm hk (AtL.drew pA1) (AtL.drew pO1) (AtL.drew pC1)) (λhHeld=>?_);replace pA1:=AtL.drew pA1
   replace pO1:=AtL.drew pO1
   replace pC1:=AtL.drew pC1
   replace hB1:=hB1.drew
   refine tkQ 0 zQY ?_
   refine tkQ 1 zQX ?_
   refine tkQ 2 zQU ?_
   refine tkQ 3 zQT ?_
   refine tkQ 4 zQN ?_
   refine tkQ 6 zQS ?_
   refine tkQ 7 zQW ?_
   refine tkQ 10 zQO ?_
   refine rdQ 5 zQP (λK hK=>?_);go_simp
   refine (KK _).mono ?_;rintro e w4 ⟨rfl,hb⟩;replace pA1:=AtL.below hb pA1
   replace pO1:=AtL.below hb pO1
   replace pC1:=AtL.below hb pC1
   replace hB1:=zAB hB1 hb
   clear hb;go_wp2_with fail
   refine hkQ hK (zCm hk pA1 pO1 pC1) (λhHeld=>?_);clear hK K
   refine tkQ 8 zQQ ?_
   refine tkQ 9 zL7 ?_
   refine rdQ 11 zLg (λK hK=>?_);have o7:=pO1.2.1 7 _ rfl;obtain ⟨_,_,_,_,_,g7⟩:=hHeld;go_simp
   refine hkQ hK (zFd (zCm hk pA1 pO1 pC1) hne hnc _ _) (λhHeld=>?_);clear hK K
   refine rdQ 12 zLT (λK hK=>?_);go_simp
   refine hkQ hK (by assumption) (λhHeld=>?_);clear hK K
   refine wpAnyH_done (by kernel_rfl) ?_ _;clear o7 g7 pC1;have pA2:AtL (w4.setCell ⟨w.heap.size+1,7,none⟩ (.int .i64 x.op)) w.heap.size (zAM x):=(pA1.far hne 7 (.int .i64 x.op))
   have pO2:AtL (w4.setCell ⟨w.heap.size+1,7,none⟩ (.int .i64 x.op)) (w.heap.size+1) (zAM ⟨5,Wt.v0,x.op,⟨#[]⟩,0,Wt.r0,Wt.r0⟩):=(pO1.set 7 (.int .i64 x.op))
   have hB2:Below w.heap.size w (w4.setCell ⟨w.heap.size+1,7,none⟩ (.int .i64 x.op)):=(clB hB1)
   clear pA1 pO1 hB1;generalize (w4.setCell ⟨w.heap.size+1,7,none⟩ (.int .i64 x.op))=W2 at *;have rA:=pA2.range;have rO:=pO2.range;clear pA2 pO2;go_wp2_with (first | ((with_reducible refine zAA ?_ 56 (.tmp 1) ?_ w.heap.size 0 ?_ (zAM x) _ ?_ underlying56 ?_ ?_ ?_);rfl;rfl;rfl;exact rA;rfl;kernel_rfl) | ((with_reducible refine zAA ?_ 56 (.tmp 3) ?_ (w.heap.size+1) 0 ?_ (zAM ⟨5,Wt.v0,x.op,⟨#[]⟩,0,Wt.r0,Wt.r0⟩) _ ?_ underlying56 ?_ ?_ ?_);rfl;rfl;rfl;exact rO;rfl;kernel_rfl))
   go_wp2;go_ret;exact ⟨by simp,hB2⟩
