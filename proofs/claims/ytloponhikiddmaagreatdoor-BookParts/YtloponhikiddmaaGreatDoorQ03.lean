/- Lemmas. -/
import Derived.Test.YtloponhikiddmaaGreatDoorQ02
set_option maxHeartbeats 8000000
set_option maxRecDepth 100000
set_option linter.unusedVariables false
open Go.IntKind renaming wrap_i64->aZ
open Go.RowKit.Below renaming refl->bZ
open Go.World renaming cell?_setCell_far->cZ,frozen?_setCell->eZ,there->fZ,cell?->hZ
open Bool renaming and_eq_true->dZ,eq_iff_iff->gZ
open Go renaming World->wW,Value->vW,Calls->cW
open Go.Value renaming int->O,slice->U,string->V,bool->Y,agg->gX,tuple->uX
open Go.IntKind renaming i64->J
open Go.Obj renaming cells->Z
open Go.Ending renaming returned->rX
open Go.Operand renaming tmp->mX
namespace Go.Proofs.YtloponhikiddmaaGreatDoor
open Tryz
variable {ka kb kc:Nat} {x y:Wt.Nd} {W:wW} {K o t:Int} {m:ByteArray}
open Go.RowKit
abbrev zQJ (ka kb:Nat) (x:Wt.Nd) (W:wW):Prop :=
 W.cell? ⟨ka,8,none⟩=some (V x.nm)/\W.cell? ⟨ka,9,none⟩=some (O J x.ar)/\W.frozen? ⟨kb,8,none⟩=false/\W.frozen? ⟨kb,9,none⟩=false
theorem J5 (a:AtL W ka (QN x)) (c:AtL W kb (QN y)):zQJ ka kb x W :=
 ⟨a.2.1 8 _ rfl,a.2.1 9 _ rfl,c.2.2 8 (by show 8<20;decide),c.2.2 9 (by show 9<20;decide)⟩
theorem JK (h:zQJ ka kb x W) (a:kb ≠ ka) (j:Nat) (u:vW):zQJ ka kb x (W.setCell ⟨kb,j,none⟩ u):=by
 obtain ⟨i,l,c,g⟩:=h;refine ⟨?_,?_,?_,?_⟩;any_goals rw [cZ _ _ _ _ (by simpa using a)];assumption
 all_goals rw [eZ];assumption
theorem zK8 (x:Wt.Nd) (w:wW) (X:x.k=6) (hs:x.nm.size<=9223372036854775807) :
  CR 99 #[ndV x] w (Y ((Wt.fnNm x.nm && decide (0<=x.ar) && decide (x.ar<=30)) && eqN x ⟨6,Wt.v0,0,x.nm,x.ar,Wt.r0,Wt.r0⟩)):=by
 have C:∀ w:wW,CR 130 #[V x.nm] w (Y (Wt.fnNm x.nm)):=λw=>(zIX x.nm w hs).mono λe w' h=>⟨h.1,h.2 ▸ bZ _ _⟩
 have hq:∀ w:wW,(binOp .eql 98 (gX (QN x).toArray) (gX (QN ⟨6,Wt.v0,0,x.nm,x.ar,Wt.r0,Wt.r0⟩).toArray)).run prog w=.ok (Y (eqN x ⟨6,Wt.v0,0,x.nm,x.ar,Wt.r0,Wt.r0⟩)) w:=λw=>zBd x ⟨6,Wt.v0,0,x.nm,x.ar,Wt.r0,Wt.r0⟩ w
 generalize eqN x ⟨6,Wt.v0,0,x.nm,x.ar,Wt.r0,Wt.r0⟩=R at *;generalize Wt.fnNm x.nm=q at *;have E:AtL (two w x) w.heap.size (QN x):=(AtL.new0 w _ _).alloc _;have A:AtL (two w x) (w.heap.size+1) (QN (bare 0)):=AtL.new1 w _ _ _;have D:fZ (two w x) (w.heap.size+1) 0 (QN (bare 6)).toArray.size:=A.there;have n:w.heap.size+1 ≠ w.heap.size:=oM;have pA:=E.farAll n 0 (QN (bare 6));have P:AtL ((two w x).setCells (w.heap.size+1) 0 (QN (bare 6))) (w.heap.size+1) (QN (bare 6)):=A.setAll rfl;have M:bL w ((two w x).setCells (w.heap.size+1) 0 (QN (bare 6))):=Qm (QJ (QJ (bZ _ w) _) _) (Nat.le_succ _) _ 0;clear E A;have n0:(QN x)[0]? = some (O J 6):=by rw [<-X];rfl
 have a0:=pA.2.1 0 _ n0;show cW _ _ #[gX (QN x).toArray] _ _
 go_enter func99,ntmps99;go_upto_region 1 with fail
 go_upto_region 2 with ((with_reducible refine wpList_store_mid ?_ 98 (mX 3) (mX 9) ?_ (w.heap.size+1) 0 (QN (bare 6)).toArray ?_ ?_ ?_ ?_ ?_ ?_);rfl;rfl;rfl;rfl;exact D;kernel_rfl;exact Jl _)
 generalize (two w x).setCells (w.heap.size+1) 0 (QN (bare 6))=W0 at *;clear D;go_upto_region 14 with fail
 refine wp_region_held_drew (S:=zQJ w.heap.size (w.heap.size+1) x) kR (J5 (AtL.drew pA) (AtL.drew P)) (λa=>?_);refine tkQ 0 ?_
 refine tkQ 1 ?_
 refine tkQ 2 ?_
 refine tkQ 3 ?_
 refine tkQ 4 ?_
 refine tkQ 5 ?_
 refine tkQ 17 ?_
 refine rdQ 6 (λK g=>?_);go_simp
 refine (C _).mono ?_;rintro e B ⟨rfl,H⟩;have i:=AtL.below H (AtL.drew pA);have c:=AtL.below H (AtL.drew P);have p:=QA M.drew H;clear H;go_wp2_with fail
 refine hkQ g (J5 i c) (λa=>?_);clear g K
 refine tkQ 7 ?_
 cases q
 ·refine tnQ 8 ?_
  refine tnQ 9 ?_
  refine tnQ 10 ?_
  refine tkQ 11 ?_
  refine tkQ 12 ?_
  refine tnQ 13 ?_
  refine tnQ 14 ?_
  refine tnQ 15 ?_
  refine tkQ 16 ?_
  refine rdQ 18 (λK g=>?_);have v:=c.2.1 8 _ rfl;have z:=c.2.1 9 _ rfl;obtain ⟨_,_,r,s⟩:=a;go_simp
  refine hkQ g ((JK (J5 i c) oM _ _)) (λa=>?_);clear g K
  refine tkQ 19 ?_
  refine rdQ 20 (λK g=>?_);clear v z r s;have v:=(c.set 8 (V x.nm)).2.1 8 _ rfl;have z:=(c.set 8 (V x.nm)).2.1 9 _ rfl;obtain ⟨_,_,r,s⟩:=a;go_simp
  refine hkQ g ((JK (JK (J5 i c) oM _ _) oM _ _)) (λa=>?_);clear g K
  refine rdQ 21 (λK g=>?_);go_simp
  refine hkQ g (by assumption) (λa=>?_);clear g K
  refine wpAnyH_done kR ?_ _;clear v z r s;have j:=((i.far n 8 (V x.nm)).far n 9 (O J x.ar))
  have l:=((c.set 8 (V x.nm)).set 9 (O J x.ar))
  have u:bL w ((B.setCell ⟨w.heap.size+1,8,none⟩ (V x.nm)).setCell ⟨w.heap.size+1,9,none⟩ (O J x.ar)):=(clB p)
  clear i c p;generalize ((B.setCell ⟨w.heap.size+1,8,none⟩ (V x.nm)).setCell ⟨w.heap.size+1,9,none⟩ (O J x.ar))=N at *;have F:=j.range;have G:=l.range;clear j l;go_wp2_with (first | ((with_reducible refine QB ?_ 98 (mX 1) ?_ w.heap.size 0 ?_ (QN x) _ ?_ underlying98 ?_ ?_ ?_);rfl;rfl;rfl;exact F;rfl;kernel_rfl) | ((with_reducible refine QB ?_ 98 (mX 3) ?_ (w.heap.size+1) 0 ?_ (QN ⟨6,Wt.v0,0,x.nm,x.ar,Wt.r0,Wt.r0⟩) _ ?_ underlying98 ?_ ?_ ?_);rfl;rfl;rfl;exact G;rfl;kernel_rfl))
  go_wp2;go_ret;exact ⟨sM,u⟩
 refine tkQ 8 ?_
 refine tkQ 9 ?_
 refine tkQ 10 ?_
 by_cases I:0<=x.ar
 ·by_cases Q:x.ar<=30
  all_goals
   refine tkQ 11 ?_
   refine tkQ 12 ?_
   refine tkQ 13 ?_
   refine tkQ 14 ?_
   refine tkQ 15 ?_
   refine tkQ 16 ?_
   refine rdQ 18 (λK g=>?_);have v:=c.2.1 8 _ rfl;have z:=c.2.1 9 _ rfl;obtain ⟨_,_,r,s⟩:=a;go_simp
   refine hkQ g ((JK (J5 i c) oM _ _)) (λa=>?_);clear g K
   refine tkQ 19 ?_
   refine rdQ 20 (λK g=>?_);clear v z r s;have v:=(c.set 8 (V x.nm)).2.1 8 _ rfl;have z:=(c.set 8 (V x.nm)).2.1 9 _ rfl;obtain ⟨_,_,r,s⟩:=a;go_simp
   refine hkQ g ((JK (JK (J5 i c) oM _ _) oM _ _)) (λa=>?_);clear g K
   refine rdQ 21 (λK g=>?_);go_simp
   refine hkQ g (by assumption) (λa=>?_);clear g K
   refine wpAnyH_done kR ?_ _;clear v z r s;have j:=((i.far n 8 (V x.nm)).far n 9 (O J x.ar))
   have l:=((c.set 8 (V x.nm)).set 9 (O J x.ar))
   have u:bL w ((B.setCell ⟨w.heap.size+1,8,none⟩ (V x.nm)).setCell ⟨w.heap.size+1,9,none⟩ (O J x.ar)):=(clB p)
   clear i c p;generalize ((B.setCell ⟨w.heap.size+1,8,none⟩ (V x.nm)).setCell ⟨w.heap.size+1,9,none⟩ (O J x.ar))=N at *;have F:=j.range;have G:=l.range;clear j l;go_wp2_with (first | ((with_reducible refine QB ?_ 98 (mX 1) ?_ w.heap.size 0 ?_ (QN x) _ ?_ underlying98 ?_ ?_ ?_);rfl;rfl;rfl;exact F;rfl;kernel_rfl) | ((with_reducible refine QB ?_ 98 (mX 3) ?_ (w.heap.size+1) 0 ?_ (QN ⟨6,Wt.v0,0,x.nm,x.ar,Wt.r0,Wt.r0⟩) _ ?_ underlying98 ?_ ?_ ?_);rfl;rfl;rfl;exact G;rfl;kernel_rfl))
   go_wp2;go_ret;exact ⟨by first | (simp;done) | (simp;omega) | (simp [I,Q];done) | (simp [I];omega),u⟩
 ·have T:=decide_eq_false I;refine tkQ 11 ?_
  refine tkQ 12 ?_
  refine tnQ 13 ?_
  refine tnQ 14 ?_
  refine tnQ 15 ?_
  refine tkQ 16 ?_
  refine rdQ 18 (λK g=>?_);have v:=c.2.1 8 _ rfl;have z:=c.2.1 9 _ rfl;obtain ⟨_,_,r,s⟩:=a;go_simp
  refine hkQ g ((JK (J5 i c) oM _ _)) (λa=>?_);clear g K
  refine tkQ 19 ?_
  refine rdQ 20 (λK g=>?_);clear v z r s;have v:=(c.set 8 (V x.nm)).2.1 8 _ rfl;have z:=(c.set 8 (V x.nm)).2.1 9 _ rfl;obtain ⟨_,_,r,s⟩:=a;go_simp
  refine hkQ g ((JK (JK (J5 i c) oM _ _) oM _ _)) (λa=>?_);clear g K
  refine rdQ 21 (λK g=>?_);go_simp
  refine hkQ g (by assumption) (λa=>?_);clear g K
  refine wpAnyH_done kR ?_ _;clear v z r s;have j:=((i.far n 8 (V x.nm)).far n 9 (O J x.ar))
  have l:=((c.set 8 (V x.nm)).set 9 (O J x.ar))
  have u:bL w ((B.setCell ⟨w.heap.size+1,8,none⟩ (V x.nm)).setCell ⟨w.heap.size+1,9,none⟩ (O J x.ar)):=(clB p)
  clear i c p;generalize ((B.setCell ⟨w.heap.size+1,8,none⟩ (V x.nm)).setCell ⟨w.heap.size+1,9,none⟩ (O J x.ar))=N at *;have F:=j.range;have G:=l.range;clear j l;go_wp2_with (first | ((with_reducible refine QB ?_ 98 (mX 1) ?_ w.heap.size 0 ?_ (QN x) _ ?_ underlying98 ?_ ?_ ?_);rfl;rfl;rfl;exact F;rfl;kernel_rfl) | ((with_reducible refine QB ?_ 98 (mX 3) ?_ (w.heap.size+1) 0 ?_ (QN ⟨6,Wt.v0,0,x.nm,x.ar,Wt.r0,Wt.r0⟩) _ ?_ underlying98 ?_ ?_ ?_);rfl;rfl;rfl;exact G;rfl;kernel_rfl))
  go_wp2;go_ret;exact ⟨sM,u⟩
def opK (o:Int):Int:=match Wt.opOf o with
 | none=>0
 | some (_,_,t)=>if t<5 then 5 else 4
abbrev zPb (K:Int) (ka kb kc:Nat) (x:Wt.Nd) (o:Int) (m:ByteArray) (t:Int) (W:wW):Prop :=
 W.cell? ⟨ka,7,none⟩=some (O J x.op)/\W.cell? ⟨ka,0,none⟩=some (O J K)/\W.cell? ⟨kc,0,none⟩=some (O J o)/\W.cell? ⟨kc,1,none⟩=some (V m)/\W.cell? ⟨kc,2,none⟩=some (O J t)/\W.frozen? ⟨kb,7,none⟩=false
theorem zBg (i:x.k=K) (c:AtL W ka (QN x)) (g:AtL W kb (QN y)) (a:AtL W kc [O J o,V m,O J t]):zPb K ka kb kc x o m t W :=
 ⟨c.2.1 7 _ rfl,by rw [<-i];exact c.2.1 0 _ rfl,a.2.1 0 _ rfl,a.2.1 1 _ rfl,a.2.1 2 _ rfl,g.2.2 7 (by show 7<20;decide)⟩
theorem zGB (h:zPb K ka kb kc x o m t W) (c:kb ≠ ka) (a:kb ≠ kc) (j:Nat) (u:vW):zPb K ka kb kc x o m t (W.setCell ⟨kb,j,none⟩ u):=by
 obtain ⟨i,l,n,p,q,g⟩:=h;refine ⟨?_,?_,?_,?_,?_,?_⟩;any_goals first | (rw [cZ _ _ _ _ (by simpa using c)];assumption) | (rw [cZ _ _ _ _ (by simpa using a)];assumption)
 rw [eZ];assumption
theorem zDK (x:Wt.Nd) (w:wW) (K:Int) (l:K=4 \/ K=5) (M:x.k=K) (hO:OpsAt w) :
  CR 99 #[ndV x] w (Y (opK x.op == K && eqN x ⟨K,Wt.v0,x.op,⟨#[]⟩,0,Wt.r0,Wt.r0⟩)):=by
 have C:∀ w:wW,OpsAt w->CR 128 #[O J x.op] w (opV (Wt.opOf x.op)):=λw h=>zH7 x.op w h
 have hq:∀ w:wW,(binOp .eql 98 (gX (QN x).toArray) (gX (QN ⟨K,Wt.v0,x.op,⟨#[]⟩,0,Wt.r0,Wt.r0⟩).toArray)).run prog w=.ok (Y (eqN x ⟨K,Wt.v0,x.op,⟨#[]⟩,0,Wt.r0,Wt.r0⟩)) w:=λw=>zBd x ⟨K,Wt.v0,x.op,⟨#[]⟩,0,Wt.r0,Wt.r0⟩ w
 generalize eqN x ⟨K,Wt.v0,x.op,⟨#[]⟩,0,Wt.r0,Wt.r0⟩=R at *;have P:AtL (two w x) w.heap.size (QN x):=(AtL.new0 w _ _).alloc _;have I:AtL (two w x) (w.heap.size+1) (QN (bare 0)):=AtL.new1 w _ _ _;have r:fZ (two w x) (w.heap.size+1) 0 (QN (bare K)).toArray.size:=I.there;have v:w.heap.size+1 ≠ w.heap.size:=oM;have pA:=P.farAll v 0 (QN (bare K));have Q:AtL ((two w x).setCells (w.heap.size+1) 0 (QN (bare K))) (w.heap.size+1) (QN (bare K)):=I.setAll rfl;have p:bL w ((two w x).setCells (w.heap.size+1) 0 (QN (bare K))):=Qm (QJ (QJ (bZ _ w) _) _) (Nat.le_succ _) _ 0;clear P I;have n0:(QN x)[0]? = some (O J K):=by rw [<-M];rfl
 have a0:hZ ((two w x).setCells (w.heap.size+1) 0 (QN (bare K))) ⟨w.heap.size,0,none⟩=some (O J K):=pA.2.1 0 _ n0;have u:=hO.below p;have c7:hZ ((two w x).setCells (w.heap.size+1) 0 (QN (bare K))) ⟨w.heap.size,7,none⟩=some (O J x.op):=pA.2.1 7 _ rfl;have hS:∀ (W:wW) (k:Nat),AtL W k (QN (bare K))->AtL (W.setCell ⟨k,7,none⟩ (O J x.op)) k (QN ⟨K,Wt.v0,x.op,⟨#[]⟩,0,Wt.r0,Wt.r0⟩):=λW k h=>h.set 7 (O J x.op)
 show cW _ _ #[gX (QN x).toArray] _ _
 unfold opK;generalize hW:(two w x).setCells (w.heap.size+1) 0 (QN (bare K))=W0 at pA Q p a0 c7 u;have X:=hid hW;clear hW;rcases l with rfl | rfl
 all_goals
  cases N:Wt.opOf x.op with
  | none =>
   rw [N] at C;simp only [opV] at C ⊢;go_enter func99,ntmps99;go_upto_region 1 with fail
   go_upto_region 2 with (first | ((with_reducible refine wpList_store_mid ?_ 98 (mX 3) (mX 9) ?_ (w.heap.size+1) 0 (QN (bare 4)).toArray ?_ ?_ ?_ ?_ ?_ ?_);rfl;rfl;rfl;rfl;exact r;kernel_rfl;exact Jl _) | ((with_reducible refine wpList_store_mid ?_ 98 (mX 3) (mX 9) ?_ (w.heap.size+1) 0 (QN (bare 5)).toArray ?_ ?_ ?_ ?_ ?_ ?_);rfl;rfl;rfl;rfl;exact r;kernel_rfl;exact Jl _))
   rw [X.out];clear r X;go_upto_region 11 with fail
   go_wp2_with fail
   refine (C _ u).mono ?_;rintro e s ⟨rfl,n⟩;have c:=AtL.below n pA;have a:=AtL.below n Q;have i:=QA p n;have B:=a.lt;clear n pA Q p a0 C u;go_upto_region 12 with fail
   replace c:=AtL.alloc c (Z #[O J 0,V ⟨#[]⟩,O J 0] 223)
   replace a:=AtL.alloc a (Z #[O J 0,V ⟨#[]⟩,O J 0] 223)
   have j:AtL (s.alloc (Z #[O J 0,V ⟨#[]⟩,O J 0] 223)) s.heap.size [O J 0,V ⟨#[]⟩,O J 0]:=AtL.new0 s _ _;have H:w.heap.size+1 ≠ s.heap.size:=by have:=B;omega
   replace i:=QJ i (Z #[O J 0,V ⟨#[]⟩,O J 0] 223)
   generalize s.heap.size=kc at *;generalize s.alloc (Z #[O J 0,V ⟨#[]⟩,O J 0] 223)=w3 at *;refine wp_region_held_drew (S:=zPb _ w.heap.size (w.heap.size+1) kc x 0 ⟨#[]⟩ 0) kR (zBg M (AtL.drew c) (AtL.drew a) (AtL.drew j)) (λg=>?_);refine tkQ 0 ?_
   refine tkQ 1 ?_
   refine tkQ 2 ?_
   refine tkQ 3 ?_
   refine tnQ 4 ?_
   refine tnQ 6 ?_
   refine tnQ 7 ?_
   refine tkQ 10 ?_
   refine tnQ 5 ?_
   refine tnQ 8 ?_
   refine tkQ 9 ?_
   refine rdQ 11 (λK l=>?_);have o7:=(AtL.drew a).2.1 7 _ rfl;obtain ⟨_,_,_,_,_,g7⟩:=g;go_simp
   refine hkQ l (zGB (zBg M (AtL.drew c) (AtL.drew a) (AtL.drew j)) v H _ _) (λg=>?_);clear l K
   refine rdQ 12 (λK l=>?_);go_simp
   refine hkQ l (by assumption) (λg=>?_);clear l K
   refine wpAnyH_done kR ?_ _;clear o7 g7 j;have z:AtL (w3.setCell ⟨w.heap.size+1,7,none⟩ (O J x.op)).drew w.heap.size (QN x):=AtL.drew (c.far v 7 (O J x.op));have A:=AtL.drew (hS _ _ a);have G:bL w (w3.setCell ⟨w.heap.size+1,7,none⟩ (O J x.op)).drew:=(clB i)
   clear c a i;generalize (w3.setCell ⟨w.heap.size+1,7,none⟩ (O J x.op)).drew=W2 at *;have rA:=z.range;have T:=A.range;clear z A;go_wp2_with (first | ((with_reducible refine QB ?_ 98 (mX 1) ?_ w.heap.size 0 ?_ (QN x) _ ?_ underlying98 ?_ ?_ ?_);rfl;rfl;rfl;exact rA;rfl;kernel_rfl) | ((with_reducible refine QB ?_ 98 (mX 3) ?_ (w.heap.size+1) 0 ?_ (QN ⟨4,Wt.v0,x.op,⟨#[]⟩,0,Wt.r0,Wt.r0⟩) _ ?_ underlying98 ?_ ?_ ?_);rfl;rfl;rfl;exact T;rfl;kernel_rfl) | ((with_reducible refine QB ?_ 98 (mX 3) ?_ (w.heap.size+1) 0 ?_ (QN ⟨5,Wt.v0,x.op,⟨#[]⟩,0,Wt.r0,Wt.r0⟩) _ ?_ underlying98 ?_ ?_ ?_);rfl;rfl;rfl;exact T;rfl;kernel_rfl))
   go_wp2;go_ret;exact ⟨sM,G⟩
  | some q =>
   obtain ⟨F,E,D⟩:=q;rw [N] at C;simp only [opV] at C ⊢;by_cases ht:D<5
   all_goals
    first | rw [if_pos ht] | rw [if_neg ht]
    have KK:=λw=>zD2 F ⟨E.toArray⟩ D w
    first | rw [if_pos ht] at KK | rw [if_neg ht] at KK
    go_enter func99,ntmps99;go_upto_region 1 with fail
    go_upto_region 2 with (first | ((with_reducible refine wpList_store_mid ?_ 98 (mX 3) (mX 9) ?_ (w.heap.size+1) 0 (QN (bare 4)).toArray ?_ ?_ ?_ ?_ ?_ ?_);rfl;rfl;rfl;rfl;exact r;kernel_rfl;exact Jl _) | ((with_reducible refine wpList_store_mid ?_ 98 (mX 3) (mX 9) ?_ (w.heap.size+1) 0 (QN (bare 5)).toArray ?_ ?_ ?_ ?_ ?_ ?_);rfl;rfl;rfl;rfl;exact r;kernel_rfl;exact Jl _))
    rw [X.out];clear r X;go_upto_region 11 with fail
    go_wp2_with fail
    refine (C _ u).mono ?_;rintro e s ⟨rfl,n⟩;have c:=AtL.below n pA;have a:=AtL.below n Q;have i:=QA p n;have B:=a.lt;clear n pA Q p a0 C u;go_upto_region 12 with fail
    replace c:=AtL.alloc c (Z #[O J F,V ⟨E.toArray⟩,O J D] 223)
    replace a:=AtL.alloc a (Z #[O J F,V ⟨E.toArray⟩,O J D] 223)
    have j:AtL (s.alloc (Z #[O J F,V ⟨E.toArray⟩,O J D] 223)) s.heap.size [O J F,V ⟨E.toArray⟩,O J D]:=AtL.new0 s _ _;have H:w.heap.size+1 ≠ s.heap.size:=by have:=B;omega
    replace i:=QJ i (Z #[O J F,V ⟨E.toArray⟩,O J D] 223)
    generalize s.heap.size=kc at *;generalize s.alloc (Z #[O J F,V ⟨E.toArray⟩,O J D] 223)=w3 at *;refine wp_region_held_drew (S:=zPb _ w.heap.size (w.heap.size+1) kc x F ⟨E.toArray⟩ D) kR (zBg M (AtL.drew c) (AtL.drew a) (AtL.drew j)) (λg=>?_);replace c:=AtL.drew c
    replace a:=AtL.drew a
    replace j:=AtL.drew j
    replace i:=i.drew
    refine tkQ 0 ?_
    refine tkQ 1 ?_
    refine tkQ 2 ?_
    refine tkQ 3 ?_
    refine tkQ 4 ?_
    refine tkQ 6 ?_
    refine tkQ 7 ?_
    refine tkQ 10 ?_
    refine rdQ 5 (λK l=>?_);go_simp
    refine (KK _).mono ?_;rintro e w4 ⟨rfl,n⟩;replace c:=AtL.below n c
    replace a:=AtL.below n a
    replace j:=AtL.below n j
    replace i:=QA i n
    clear n;go_wp2_with fail
    refine hkQ l (zBg M c a j) (λg=>?_);clear l K
    refine tkQ 8 ?_
    refine tkQ 9 ?_
    refine rdQ 11 (λK l=>?_);have o7:=a.2.1 7 _ rfl;obtain ⟨_,_,_,_,_,g7⟩:=g;go_simp
    refine hkQ l (zGB (zBg M c a j) v H _ _) (λg=>?_);clear l K
    refine rdQ 12 (λK l=>?_);go_simp
    refine hkQ l (by assumption) (λg=>?_);clear l K
    refine wpAnyH_done kR ?_ _;clear o7 g7 j;have z:=(c.far v 7 (O J x.op))
    have A:=hS _ _ a;have G:bL w (w4.setCell ⟨w.heap.size+1,7,none⟩ (O J x.op)):=(clB i)
    clear c a i;generalize (w4.setCell ⟨w.heap.size+1,7,none⟩ (O J x.op))=W2 at *;have rA:=z.range;have T:=A.range;clear z A;go_wp2_with (first | ((with_reducible refine QB ?_ 98 (mX 1) ?_ w.heap.size 0 ?_ (QN x) _ ?_ underlying98 ?_ ?_ ?_);rfl;rfl;rfl;exact rA;rfl;kernel_rfl) | ((with_reducible refine QB ?_ 98 (mX 3) ?_ (w.heap.size+1) 0 ?_ (QN ⟨4,Wt.v0,x.op,⟨#[]⟩,0,Wt.r0,Wt.r0⟩) _ ?_ underlying98 ?_ ?_ ?_);rfl;rfl;rfl;exact T;rfl;kernel_rfl) | ((with_reducible refine QB ?_ 98 (mX 3) ?_ (w.heap.size+1) 0 ?_ (QN ⟨5,Wt.v0,x.op,⟨#[]⟩,0,Wt.r0,Wt.r0⟩) _ ?_ underlying98 ?_ ?_ ?_);rfl;rfl;rfl;exact T;rfl;kernel_rfl))
    go_wp2;go_ret;exact ⟨sM,G⟩
end Go.Proofs.YtloponhikiddmaaGreatDoor
namespace Go.Proofs.YtloponhikiddmaaGreatDoor.Wt
open Go.Proofs.YtloponhikiddmaaGreatDoor
def right (x:Nd):Bool :=
 if x.k=1 then vlOk x.v && eqN x ⟨1,x.v,0,⟨#[]⟩,0,Wt.r0,Wt.r0⟩
 else if x.k=2 then rfOk x.a && eqN x ⟨2,Wt.v0,0,⟨#[]⟩,0,x.a,Wt.r0⟩
 else if x.k=3 then (rfOk x.a && rfOk x.b && x.b.s.toList.isEmpty) && eqN x ⟨3,Wt.v0,0,⟨#[]⟩,0,x.a,x.b⟩
 else if x.k=4 then opK x.op == 4 && eqN x ⟨4,Wt.v0,x.op,⟨#[]⟩,0,Wt.r0,Wt.r0⟩
 else if x.k=5 then opK x.op == 5 && eqN x ⟨5,Wt.v0,x.op,⟨#[]⟩,0,Wt.r0,Wt.r0⟩
 else if x.k=6 then (fnNm x.nm && decide (0<=x.ar) && decide (x.ar<=30)) && eqN x ⟨6,Wt.v0,0,x.nm,x.ar,Wt.r0,Wt.r0⟩
 else false
def FitV (v:Vl):Prop:=(-9223372036854775808<=v.n/\v.n<=9223372036854775807)/\(-9223372036854775808<=v.d/\v.d<=9223372036854775807)/\v.t.size<=9223372036854775807
def FitN (x:Nd):Prop:=FitV x.v/\x.nm.size<=9223372036854775807/\x.a.s.size<=9223372036854775807/\x.b.s.size<=9223372036854775807
theorem parts_le {x:Nd} (h:right x=true):0<=parts x/\parts x<=30:=by
 unfold right at h;unfold parts;by_cases c:x.k=4
 ·rw [if_pos c];omega
 rw [if_neg c];by_cases g:x.k=5
 ·rw [if_pos g];omega
 rw [if_neg g];by_cases a:x.k=1
 ·rw [if_pos a,dZ,zEc] at h;have:=congrArg Nd.ar h.2;simp only at this;omega
 rw [if_neg a] at h;by_cases a:x.k=2
 ·rw [if_pos a,dZ,zEc] at h;have:=congrArg Nd.ar h.2;simp only at this;omega
 rw [if_neg a] at h;by_cases a:x.k=3
 ·rw [if_pos a,dZ,zEc] at h;have:=congrArg Nd.ar h.2;simp only at this;omega
 rw [if_neg a,if_neg c,if_neg g] at h;by_cases a:x.k=6
 ·rw [if_pos a] at h;simp only [dZ,decide_eq_true_eq] at h;omega
 ·rw [if_neg a] at h;cases h
def many (a:List Nd->Option (Nat × Nat)):Nat->List Nd->Option (Nat × Nat)
 | 0,_=>some (0,0)
 | k+1,l=>match a l with
  | none=>none
  | some (s,d)=>match many a k (l.drop s) with
   | none=>none
   | some (s',d')=>some (s+s',max d d')
def one:Nat->List Nd->Option (Nat × Nat)
 | 0,_=>none
 | _+1,[]=>none
 | f+1,x::r=>if right x then (match many (one f) (parts x).toNat r with | none=>none | some (s,d)=>some (s+1,d+1)) else none
def check (l:List Nd):Int :=
 if 256<l.length then 52
 else match one (l.length+1) l with
  | none=>53
  | some (s,d)=>if s ≠ l.length then 53 else if 32<d then 51 else 0
end Go.Proofs.YtloponhikiddmaaGreatDoor.Wt
namespace Go.Proofs.YtloponhikiddmaaGreatDoor
open Tryz
open Go.RowKit
variable {f k e d:Nat} {L:List Wt.Nd} {x:Wt.Nd}
theorem zLx (x:Wt.Nd) (w:wW) (n:(x.k == 1)=false) (p:(x.k == 2)=false) (q:(x.k == 3)=false) (r:(x.k == 4)=false) (s:(x.k == 5)=false) (u:(x.k == 6)=false) :
  CR 99 #[ndV x] w (Y false):=by
 obtain ⟨k,l⟩:=xV x.k
 rw [l] at n p q r s u;have g:AtL (two w x) w.heap.size (QN x):=(AtL.new0 w _ _).alloc _;have a:AtL (two w x) (w.heap.size+1) (QN (bare 0)):=AtL.new1 w _ _ _;have c:fZ (two w x) (w.heap.size+1) 0 (QN (bare k)).toArray.size:=a.there;have j:w.heap.size+1 ≠ w.heap.size:=oM;have pA:=g.farAll j 0 (QN (bare k));have B:AtL ((two w x).setCells (w.heap.size+1) 0 (QN (bare k))) (w.heap.size+1) (QN (bare k)):=a.setAll rfl;have i:bL w ((two w x).setCells (w.heap.size+1) 0 (QN (bare k))):=Qm (QJ (QJ (bZ _ w) _) _) (Nat.le_succ _) _ 0;clear g a;have v:(QN x)[0]? = some (O J k):=by rw [<-l];rfl
 have A:=pA.2.1 0 _ v;show cW _ _ #[gX (QN x).toArray] _ _
 go_enter func99,ntmps99;go_upto_region 1 with fail
 go_upto_region 2 with ((with_reducible refine wpList_store_mid ?_ 98 (mX 3) (mX 9) ?_ (w.heap.size+1) 0 (QN (bare k)).toArray ?_ ?_ ?_ ?_ ?_ ?_);rfl;rfl;rfl;rfl;exact c;kernel_rfl;exact Jl _)
 generalize (two w x).setCells (w.heap.size+1) 0 (QN (bare k))=z at *;clear c;go_wp2;go_ret;exact ⟨rfl,i⟩
theorem zGV (x:Wt.Nd) (w:wW) (v:Wt.FitN x) (p:OpsAt w):CR 99 #[ndV x] w (Y (Wt.right x)):=by
 obtain ⟨⟨⟨q,r⟩,⟨f3,s⟩,f5⟩,f6,n,u⟩:=v;unfold Wt.right;by_cases a:x.k=1
 ·rw [if_pos a];exact zLn x w a q r f3 s f5
 rw [if_neg a];by_cases c:x.k=2
 ·rw [if_pos c];exact zL0 x w c n
 rw [if_neg c];by_cases g:x.k=3
 ·rw [if_pos g];exact zKx x w g n u
 rw [if_neg g];by_cases i:x.k=4
 ·rw [if_pos i];exact zDK x w 4 (Or.inl rfl) i p
 rw [if_neg i];by_cases j:x.k=5
 ·rw [if_pos j];exact zDK x w 5 (Or.inr rfl) j p
 rw [if_neg j];by_cases l:x.k=6
 ·rw [if_pos l];exact zK8 x w l f6
 rw [if_neg l];exact zLx x w (by simp [a]) (by simp [c]) (by simp [g]) (by simp [i]) (by simp [j]) (by simp [l])
def RdN (w:wW) (a:Option Addr) (L:List Wt.Nd):Prop:=∀ i (h:i<L.length),∃ bb off,a=some ⟨bb,off,none⟩/\w.rangeAt bb (off+i * 20) (QN (L[i]))
theorem RdN.below {w w':wW} {c:Option Addr} (h:RdN w c L) (l:bL w w'):RdN w' c L:=λi n=>by
 obtain ⟨g,a,e,p⟩:=h i n;exact ⟨g,a,e,λj v q=>QC l (p j v q)⟩
def MP (r:Option (Nat × Nat)) (p:Nat):vW:=match r with
 | some (s,d)=>uX #[O J ((p+s:Nat):Int),O J (d:Int),Y true]
 | none=>uX #[O J 0,O J 0,Y false]
def left (f k:Nat) (L:List Wt.Nd) (e d:Nat):Option (Nat × Nat):=match Wt.many (Wt.one f) k (L.drop e) with
 | some (s,d')=>some (e+s,max d d')
 | none=>none
theorem zJJ (f:Nat) (L:List Wt.Nd) (e d:Nat):left f 0 L e d=some (e,d):=by simp [left,Wt.many]
theorem zIE (h:Wt.one f (L.drop e)=none):left f (k+1) L e d=none:=by simp [left,Wt.many,h]
theorem zJQ {s c:Nat} (h:Wt.one f (L.drop e)=some (s,c)):left f (k+1) L e d=left f k L (e+s) (max d c):=by
 simp only [left,Wt.many,h,List.drop_drop];cases Wt.many (Wt.one f) k (List.drop (e+s) L) with
 | none=>rfl
 | some q=>obtain ⟨a,b⟩:=q;simp only [Option.some.injEq,Prod.mk.injEq];omega
theorem zND (n:∀ (l:List Wt.Nd) (s d:Nat),Wt.one f l=some (s,d)->s<=l.length):∀ (k:Nat) (l:List Wt.Nd) (s d:Nat),Wt.many (Wt.one f) k l=some (s,d)->s<=l.length:=by
 intro k;induction k with
 | zero=>intro l s d h;simp only [Wt.many,Option.some.injEq,Prod.mk.injEq] at h;omega
 | succ k i =>
  intro l s d h;simp only [Wt.many] at h;cases c:Wt.one f l with
  | none=>rw [c] at h;cases h
  | some q =>
   obtain ⟨a,b⟩:=q;rw [c] at h;simp only at h;cases g:Wt.many (Wt.one f) k (l.drop a) with
   | none=>rw [g] at h;cases h
   | some p =>
    obtain ⟨j,b2⟩:=p;rw [g] at h;simp only [Option.some.injEq,Prod.mk.injEq] at h;have:=n l a b c;have:=i _ j b2 g;rw [List.length_drop] at this;omega
theorem zIS:∀ (f:Nat) (l:List Wt.Nd) (s d:Nat),Wt.one f l=some (s,d)->s<=l.length
 | 0,l,s,d,h=>by simp [Wt.one] at h
 | f+1,[],s,d,h=>by simp [Wt.one] at h
 | f+1,x::r,s,d,h=>by
  unfold Wt.one at h;split at h
  ·cases c:Wt.many (Wt.one f) (Wt.parts x).toNat r with
   | none=>rw [c] at h;cases h
   | some q =>
    obtain ⟨a,b⟩:=q;rw [c] at h;simp only [Option.some.injEq,Prod.mk.injEq] at h;have:=zND (zIS f) _ _ _ _ c;simp only [List.length_cons];omega
  ·cases h
theorem zHA (n:∀ (l:List Wt.Nd) (s d:Nat),Wt.one f l=some (s,d)->d<=f):∀ (k:Nat) (l:List Wt.Nd) (s d:Nat),Wt.many (Wt.one f) k l=some (s,d)->d<=f:=by
 intro k;induction k with
 | zero=>intro l s d h;simp only [Wt.many,Option.some.injEq,Prod.mk.injEq] at h;omega
 | succ k i =>
  intro l s d h;simp only [Wt.many] at h;cases c:Wt.one f l with
  | none=>rw [c] at h;cases h
  | some q =>
   obtain ⟨a,b⟩:=q;rw [c] at h;simp only at h;cases g:Wt.many (Wt.one f) k (l.drop a) with
   | none=>rw [g] at h;cases h
   | some p =>
    obtain ⟨j,b2⟩:=p;rw [g] at h;simp only [Option.some.injEq,Prod.mk.injEq] at h;have:=n l a b c;have:=i _ j b2 g;omega
theorem zCk:∀ (f:Nat) (l:List Wt.Nd) (s d:Nat),Wt.one f l=some (s,d)->d<=f
 | 0,l,s,d,h=>by simp [Wt.one] at h
 | f+1,[],s,d,h=>by simp [Wt.one] at h
 | f+1,x::r,s,d,h=>by
  unfold Wt.one at h;split at h
  ·cases c:Wt.many (Wt.one f) (Wt.parts x).toNat r with
   | none=>rw [c] at h;cases h
   | some q =>
    obtain ⟨a,b⟩:=q;rw [c] at h;simp only [Option.some.injEq,Prod.mk.injEq] at h;have:=zHA (zCk f) _ _ _ _ c;omega
  ·cases h
def MR (r:Option (Nat × Nat)):vW:=match r with
 | some (e,d)=>uX #[O J (e:Int),O J ((d:Int)+1),Y true]
 | none=>uX #[O J 0,O J 0,Y false]
theorem zN6 (h:Wt.right x=true) (f:Nat) (L:List Wt.Nd) (p:Nat):MP (Wt.one (f+1) (x::L.drop (p+1))) p=MR (left f (Wt.parts x).toNat L (p+1) 0):=by
 unfold left;simp only [Wt.one];rw [if_pos h];cases Wt.many (Wt.one f) (Wt.parts x).toNat (L.drop (p+1)) with
 | none=>rfl
 | some q =>
  obtain ⟨s,d⟩:=q;simp only [MP,MR];rw [show ((p+(s+1):Nat):Int)=((p+1+s:Nat):Int) by omega,show ((d+1:Nat):Int)=((max 0 d:Nat):Int)+1 by omega]
theorem zNe (h:Wt.right x=false) (f:Nat) (r:List Wt.Nd):Wt.one (f+1) (x::r)=none:=by
 simp only [Wt.one];rw [if_neg (by rw [h];decide)]
theorem zL5 (av:Option Addr) (cap:Nat) (L:List Wt.Nd) (hL:L.length<=256) (hF:∀ x ∈ L,Wt.FitN x) (f:Nat):f<=1000->∀ (p:Nat) (w:wW),L.length<f+p->p<=256->OpsAt w->RdN w av L ->
  CR 72 #[U av L.length cap,O J p] w (MP (Wt.one f (L.drop p)) p):=by
 have r:∀ (f p:Nat) (w:wW),¬ p<L.length->p<=256->CR 72 #[U av L.length cap,O J p] w (MP (Wt.one f (L.drop p)) p):=by
  intro f p w l hp;have hd:L.drop p=[]:=List.drop_eq_nil_of_le oM;have E:Hid (Wt.one f (L.drop p)=none):=by
   show _=_
   rw [hd];cases f <;> rfl
  rw [E.out];clear E hd;have aj:(L.length:Int)<=(p:Int):=oM;go_enter func72,ntmps72;go_wp2;go_ret3
  exact ⟨rfl,bZ _ _⟩
 induction f with
 | zero=>intro _ p w hf hp hO hr;exact r 0 p w oM hp
 | succ f ih =>
  intro an p w hf hp hO hr;by_cases l:p<L.length
  ·clear r;replace ih:=ih oM
   obtain ⟨P,n,rfl,hx⟩:=hr p l;have hd:=List.drop_eq_getElem_cons l;have A:=hF _ (List.getElem_mem l);have HR:=hid hr;clear hr;rw [hd];generalize L[p]=x at *;have C:=zGV x w A hO;have B:=@Wt.parts_le x;have aj:¬ (L.length:Int)<=(p:Int):=oM;cases G:Wt.right x with
   | false =>
    rw [G] at C;rw [zNe G];clear ih;go_enter func72,ntmps72;go_wp2_with ((with_reducible refine QB ?_ 98 (mX 17) ?_ P (n+p * 20) ?_ (QN x) _ ?_ underlying98 ?_ ?_ ?_);rfl;rfl;rfl;exact hx;rfl;kernel_rfl)
    refine C.mono ?_;rintro e w1 ⟨rfl,i⟩;go_wp2;go_ret3
    exact ⟨rfl,i⟩
   | true =>
    rw [G] at C;obtain ⟨ag,ah⟩:=B G;rw [zN6 G];clear B G;have D:=λw=>zGQ x w
    obtain ⟨k,hk⟩:∃ k:Nat,(Wt.parts x).toNat=k:=⟨_,rfl⟩
    have aa:Wt.parts x=(k:Int):=oM;rw [hk];rw [aa] at D;have ao:k<=30:=oM;clear ag ah hk aa;obtain ⟨R,hR⟩:=xV (left f k L (p+1) 0)
    have E0:=hid hR.symm;rw [hR];clear hR;have IH:=hid ih;clear ih;go_enter func72,ntmps72;go_wp2_with ((with_reducible refine QB ?_ 98 (mX 17) ?_ P (n+p * 20) ?_ (QN x) _ ?_ underlying98 ?_ ?_ ?_);rfl;rfl;rfl;exact hx;rfl;kernel_rfl)
    refine C.mono ?_;rintro e w1 ⟨rfl,i⟩;have ab:w1.rangeAt P (n+p * 20) (QN x):=λj v hv=>QC i (hx j v hv)
    have Q:=hO.below i;have H:=hid (HR.out.below i);clear C hx HR;go_wp2_with ((with_reducible refine QB ?_ 98 (mX 26) ?_ P (n+p * 20) ?_ (QN x) _ ?_ underlying98 ?_ ?_ ?_);rfl;rfl;rfl;exact ab;rfl;kernel_rfl)
    refine (D _).mono ?_;rintro e w2 ⟨rfl,z⟩;have ad:=QA i z;have ae:=Q.below z;have ac:=hid (H.out.below z);clear i z Q H D ab A;go_wp2_with fail
    go_loopg [4,5,29] k (λgk a b c wr=>∃ j e d:Nat,a=O J e/\b=O J d/\c=O J j/\gk=k - j/\j<=k/\p+1<=e/\e<=L.length/\d<=f/\Hid (R=left f (k - j) L e d)/\bL w wr/\OpsAt wr/\Hid (RdN wr (some ⟨P,n,none⟩) L))
    case atStart=>exact ⟨0,p+1,0,sM,rfl,rfl,rfl,Nat.zero_le _,Nat.le_refl _,l,Nat.zero_le _,E0,ad,ae,ac⟩
    case round =>
     obtain ⟨j,e,d,rfl,rfl,rfl,hg,hj,al,am,ak,F,hB,S,I⟩:=hrel;by_cases X:j<k
     ·have af:(j:Int)<(k:Int):=oM;have M:=IH.out e wr oM oM S I.out;have ai:k - j=(k - (j+1))+1:=oM;rw [ai] at F;cases g:Wt.one f (L.drop e) with
      | none =>
       have E:Hid (R=none):=by show _=_;rw [F.out,zIE g]
       rw [g] at M;clear F g IH;go_wp2_with fail
       refine M.mono ?_;rintro e9 w3 ⟨rfl,i⟩;have u:=QA hB i;simp only [MP];go_wp2;go_ret3
       exact ⟨by rw [E.out];rfl,u⟩
      | some q =>
       obtain ⟨s,d'⟩:=q;have h1:=zIS _ _ _ _ g;have h2:=zCk _ _ _ _ g;rw [List.length_drop] at h1;have E:Hid (R=left f (k - (j+1)) L (e+s) (max d d')):=by show _=_;rw [F.out,zJQ g]
       rw [g] at M;clear F g IH;go_wp2_with fail
       refine M.mono ?_;rintro e9 w3 ⟨rfl,i⟩;have u:=QA hB i;have T:=S.below i;have N:=hid (I.out.below i);simp only [MP];go_wp2_with fail
       ·go_roundg (k - (j+1))
        case rel=>exact ⟨j+1,e+s,max d d',sM,by simp;omega,sM,rfl,X,oM,oM,oM,E,u,T,N⟩
        case measure=>omega
       ·go_roundg (k - (j+1))
        case rel=>exact ⟨j+1,e+s,max d d',sM,by simp;omega,sM,rfl,X,oM,oM,oM,E,u,T,N⟩
        case measure=>omega
     ·have af:¬ (j:Int)<(k:Int):=oM;have E:Hid (R=some (e,d)):=by show _=_;rw [F.out,show k - j=0 by omega,zJJ]
      clear F IH;go_wp2;go_ret3
      exact ⟨by rw [E.out];rfl,hB⟩
  ·exact r (f+1) p w l hp
end Go.Proofs.YtloponhikiddmaaGreatDoor
namespace Go.Proofs.YtloponhikiddmaaGreatDoor.Wf
open Go.Proofs.YtloponhikiddmaaGreatDoor
structure Br (α:Type) where
 x:Wt.Nd
 ks:List α
def Tr:Nat->Type
 | 0=>Empty
 | n+1=>Br (Tr n)
def hd:(n:Nat)->Tr n->Wt.Nd
 | 0,t=>Empty.elim t
 | _+1,t=>Br.x t
def row:(n:Nat)->Tr n->List Wt.Nd
 | 0,t=>Empty.elim t
 | n+1,t=>Br.x t::((Br.ks t).map (row n)).flatten
def Jw:(n:Nat)->Tr n->Prop
 | 0,t=>Empty.elim t
 | n+1,t=>Wt.right (Br.x t)=true/\Wt.parts (Br.x t)=((Br.ks t).length:Int)/\∀ k ∈ Br.ks t,Jw n k
theorem zJ0 {f:Nat} (B:∀ (l:List Wt.Nd) (s d:Nat),Wt.one f l=some (s,d)->∃ t:Tr f,row f t=l.take s/\Jw f t) :
  ∀ (k:Nat) (l:List Wt.Nd) (s d:Nat),Wt.many (Wt.one f) k l=some (s,d)->∃ ks:List (Tr f),ks.length=k/\(ks.map (row f)).flatten=l.take s/\∀ t ∈ ks,Jw f t:=by
 intro k;induction k with
 | zero=>intro l s d h;simp only [Wt.many,Option.some.injEq,Prod.mk.injEq] at h;obtain ⟨rfl,rfl⟩:=h;exact ⟨[],rfl,sM,λt A=>by cases A⟩
 | succ k i =>
  intro l s d h;simp only [Wt.many] at h;cases c:Wt.one f l with
  | none=>rw [c] at h;cases h
  | some q =>
   obtain ⟨a,b⟩:=q;rw [c] at h;simp only at h;cases g:Wt.many (Wt.one f) k (l.drop a) with
   | none=>rw [g] at h;cases h
   | some C =>
    obtain ⟨j,b2⟩:=C;rw [g] at h;simp only [Option.some.injEq,Prod.mk.injEq] at h;obtain ⟨rfl,rfl⟩:=h;obtain ⟨t,n,v⟩:=B l a b c;obtain ⟨ks,p,r,z⟩:=i _ j b2 g;refine ⟨t::ks,by simp [p],?_,λu hu=>?_⟩
    ·simp only [List.map_cons,List.flatten_cons,n,r];rw [List.take_add]
    ·rcases List.mem_cons.1 hu with rfl | hu
     ·exact v
     ·exact z u hu
theorem zFw:∀ (f:Nat) (l:List Wt.Nd) (s d:Nat),Wt.one f l=some (s,d)->∃ t:Tr f,row f t=l.take s/\Jw f t
 | 0,l,s,d,h=>by simp [Wt.one] at h
 | f+1,[],s,d,h=>by simp [Wt.one] at h
 | f+1,x::r,s,d,h=>by
  unfold Wt.one at h;split at h
  ·rename_i g
   cases c:Wt.many (Wt.one f) (Wt.parts x).toNat r with
   | none=>rw [c] at h;cases h
   | some q =>
    obtain ⟨a,b⟩:=q;rw [c] at h;simp only [Option.some.injEq,Prod.mk.injEq] at h;obtain ⟨rfl,rfl⟩:=h;obtain ⟨ks,n,i,j⟩:=zJ0 (zFw f) _ _ _ _ c;refine ⟨(⟨x,ks⟩:Br (Tr f)),?_,g,?_,j⟩
    ·show x::(ks.map (row f)).flatten=(x::r).take (a+1)
     rw [i,List.take_succ_cons]
    ·show Wt.parts x=(ks.length:Int)
     have:=(Wt.parts_le g).1;omega
  ·cases h
theorem zGf {l:List Wt.Nd} (h:Wt.check l=0):∃ t:Tr (l.length+1),row _ t=l/\Jw _ t/\l.length<=256:=by
 unfold Wt.check at h;split at h
 ·omega
 ·rename_i c
  split at h
  ·omega
  ·rename_i s d a
   split at h
   ·omega
   ·rename_i g
    obtain ⟨t,e,f⟩:=zFw _ _ _ _ a;refine ⟨t,?_,f,oM⟩;rw [e,show s=l.length from by omega,List.take_length]
end Go.Proofs.YtloponhikiddmaaGreatDoor.Wf
namespace Go.Proofs.YtloponhikiddmaaGreatDoor.Wc
structure In where
 op:Int
 a:Int
 b:Int
 v:Wt.Vl
 ce:Wpl.Cl
 ar:Wpl.Ar
 pr:Wpl.Ar
def pairs (id:Int):Bool:=id == 22 || (id == 23 || id == 24)
def swO (o b:Int):Int × Int :=
 if o=1 \/ o=2 \/ o=10 then (0,1) else if o=3 then (1,1) else if o=4 then (2,1) else if o=5 \/ o=11 then (b,1)
 else if o=7 \/ o=12 \/ o=14 \/ o=15 \/ o=16 then (1,0) else (0,0)
def nds (o b:Int):Int × Int × Int :=
 if o=1 \/ o=2 then (0,0,1) else if o=3 then (1,0,0) else if o=4 then (2,0,-1) else if o=5 \/ o=11 then (b,0,1 - b)
 else if o=7 then (1,1,-1) else if o=8 \/ o=9 then (0,1,0) else if o=10 then (0,1,1)
 else if o=12 \/ o=15 \/ o=14 then (1,0,-1) else (0,0,0)
end Go.Proofs.YtloponhikiddmaaGreatDoor.Wc
namespace Go.Proofs.YtloponhikiddmaaGreatDoor
open Tryz
open Go.RowKit
variable {w:wW} {b:Nat} {tv:vW} {x:Int}
def QF (x:Wc.In) (tv:vW):List vW :=
 [O J x.op,O J x.a,O J x.b,O J x.v.k,O J x.v.n,O J x.v.d,V x.v.t,Y x.v.b,O J x.v.f,
  O J x.ce.s,O J x.ce.r,O J x.ce.c,
  O J x.ar.s,O J x.ar.t,O J x.ar.l,O J x.ar.b,O J x.ar.r,
  O J x.pr.s,O J x.pr.t,O J x.pr.l,O J x.pr.b,O J x.pr.r,tv]
abbrev inV (x:Wc.In) (tv:vW):vW:=gX (QF x tv).toArray
theorem zA4 (id:Int) (w:wW):cW prog 171 #[O J id] w λe w'=>e=rX (Y (Wc.pairs id))/\w=w':=by
 have e:∀ b,Wc.pairs id=b->Hid (Wc.pairs id=b):=λ_ h=>h
 unfold Wc.pairs;by_cases a:id=22
 ·subst a;clear e;go_enter func171,ntmps171;go_wp2;go_ret;exact ⟨sM,rfl⟩
 by_cases c:id=23
 ·subst c;clear e;go_enter func171,ntmps171;go_wp2;go_ret;exact ⟨sM,rfl⟩
 have g:(id == 22)=false:=by simp [a]
 have i:(id == 23)=false:=by simp [c]
 rw [g,i];clear e a c;go_enter func171,ntmps171;go_wp2;go_ret;exact ⟨sM,rfl⟩
theorem zOj (o:Int):o=1 \/ o=2 \/ o=3 \/ o=4 \/ o=5 \/ o=6 \/ o=7 \/ o=8 \/ o=9 \/ o=10 \/ o=11 \/ o=12 \/ o=13 \/ o=14 \/ o=15 \/ o=16 \/ (o<1 \/ 16<o):=oM
theorem zGO (x:Wc.In) (tv:vW) (w:wW):CR 138 #[inV x tv] w (uX #[O J (Wc.swO x.op x.b).1,O J (Wc.swO x.op x.b).2]):=by
 have pA:=AtL.new0 w 87 (QF x tv);have g:=QJ (bZ _ w) (Z (QF x tv).toArray 87);have i:(w.alloc (Z (QF x tv).toArray 87)).cell? ⟨w.heap.size,0,none⟩=some (O J x.op):=pA.2.1 0 _ rfl;have v:(w.alloc (Z (QF x tv).toArray 87)).cell? ⟨w.heap.size,2,none⟩=some (O J x.b):=pA.2.1 2 _ rfl;obtain ⟨q,c⟩:=xV (Wc.swO x.op x.b)
 rw [c];have a:Hid (Wc.swO x.op x.b=q):=c;clear c pA;rcases zOj x.op with h | h | h | h | h | h | h | h | h | h | h | h | h | h | h | h | h
 case inr.inr.inr.inr.inr.inr.inr.inr.inr.inr.inr.inr.inr.inr.inr.inr =>
  have e:q=(0,0):=by
   have:=a.out;unfold Wc.swO at this;rw [<-this];repeat rw [if_neg oM]
  have z:(x.op == 1)=false:=by simp;omega
  have A:(x.op == 2)=false:=by simp;omega
  have B:(x.op == 3)=false:=by simp;omega
  have C:(x.op == 4)=false:=by simp;omega
  have D:(x.op == 5)=false:=by simp;omega
  have E:(x.op == 6)=false:=by simp;omega
  have F:(x.op == 7)=false:=by simp;omega
  have G:(x.op == 8)=false:=by simp;omega
  have H:(x.op == 9)=false:=by simp;omega
  have j:(x.op == 10)=false:=by simp;omega
  have l:(x.op == 11)=false:=by simp;omega
  have n:(x.op == 12)=false:=by simp;omega
  have p:(x.op == 13)=false:=by simp;omega
  have r:(x.op == 14)=false:=by simp;omega
  have s:(x.op == 15)=false:=by simp;omega
  have u:(x.op == 16)=false:=by simp;omega
  clear a h;subst e;go_enter func138,ntmps138;go_upto_region 1 with fail
  generalize (w.alloc (Z (QF x tv).toArray 87))=W at *;go_wp2;go_ret2
  exact ⟨rfl,g⟩
 all_goals
  have e:=a.out;rw [h] at i e;subst e;clear a h;go_enter func138,ntmps138;go_upto_region 1 with fail
  generalize (w.alloc (Z (QF x tv).toArray 87))=W at *;go_wp2;go_ret2
  exact ⟨rfl,g⟩
def RdZ (w:wW) (v:vW) (l:List Int):Prop:=∃ a cap,v=U a l.length cap/\∀ i (h:i<l.length),∃ bb off,a=some ⟨bb,off,none⟩/\w.cell? ⟨bb,off+i,none⟩=some (O J (l[i]))
theorem RdZ.below {w':wW} {v:vW} {l:List Int} (h:RdZ w v l) (p:bL w w'):RdZ w' v l:=by
 obtain ⟨c,cap,e,h⟩:=h;refine ⟨c,cap,e,λi q=>?_⟩;obtain ⟨g,a,j,n⟩:=h i q;exact ⟨g,a,j,QC p n⟩
theorem RdZ.nil (w:wW):RdZ w (U none 0 0) []:=⟨none,0,rfl,λi a=>absurd a (Nat.not_lt_zero _)⟩
theorem RdZ.one (h:w.cell? ⟨b,0,none⟩=some (O J x)):RdZ w (U (some ⟨b,0,none⟩) 1 1) [x]:=by
 refine ⟨_,1,rfl,λi a=>⟨b,0,rfl,?_⟩⟩;have:i=0:=by simp at a;omega
 subst this;exact h
theorem RdZ.two {y:Int} (h:w.cell? ⟨b,0,none⟩=some (O J x)) (a:w.cell? ⟨b,1,none⟩=some (O J y)):RdZ w (U (some ⟨b,0,none⟩) 2 2) [x,y]:=by
 refine ⟨_,2,rfl,λi c=>⟨b,0,rfl,?_⟩⟩;have:i=0 \/ i=1:=by simp at c;omega
 rcases this with rfl | rfl
 ·exact h
 ·exact a
def onw (o a b:Int) (c:List Int) (at':Int):List Int × List Int :=
 if o=12 then ([at'+1,a],[b]) else if o=13 then ([],[a]) else if o=14 then ([at'+1],[a]) else if o=15 then (c,[b]) else if o=16 then ([],[]) else ([at'+1],[])
def Bk (w:wW) (tv v:vW):Prop:=v=tv \/ ∀ g,v.ownBlock=some g->w.heap.size<=g
theorem Bk.nil:Bk w tv (U none 0 0):=Or.inr λg e=>by cases e
theorem Bk.new {n c:Nat} (h:w.heap.size<=b):Bk w tv (U (some ⟨b,0,none⟩) n c):=Or.inr λg e=>by
 have a:b=g:=by simpa [Value.ownBlock] using e
 subst a;exact h
theorem Bk.own:Bk w tv tv:=Or.inl rfl
def OnP (w:wW) (tv:vW) (w':wW) (q:List Int × List Int) (e:Ending):Prop:=∃ c k,e=rX (uX #[c,k])/\RdZ w' c q.1/\RdZ w' k q.2/\Bk w tv c/\Bk w tv k
theorem zHf (x:Wc.In) (tv:vW) (at':Int) (w:wW) (h:x.op=12) (i:0<=at'/\at'<=1000000):cW prog 103 #[inV x tv,O J at'] w λe w'=>OnP w tv w' ([at'+1,x.a],[x.b]) e/\bL w w':=by
 have pA:=AtL.new0 w 87 (QF x tv);have g:=QJ (bZ _ w) (Z (QF x tv).toArray 87);have c:(w.alloc (Z (QF x tv).toArray 87)).cell? ⟨w.heap.size,0,none⟩=some (O J x.op):=pA.2.1 0 _ rfl;have l:(w.alloc (Z (QF x tv).toArray 87)).cell? ⟨w.heap.size,1,none⟩=some (O J x.a):=pA.2.1 1 _ rfl;have n:(w.alloc (Z (QF x tv).toArray 87)).cell? ⟨w.heap.size,2,none⟩=some (O J x.b):=pA.2.1 2 _ rfl;have j:=pA.lt;have p:J.wrap (at'+1)=at'+1:=by rw [aZ];omega
 rw [h] at c;clear pA h i;go_enter func103,ntmps103;go_upto_region 1 with fail
 generalize (w.alloc (Z (QF x tv).toArray 87))=W at *;go_upto_region 3 with fail
 go_region
 all_goals
  go_wp2_with fail
  go_ret2
  refine ⟨⟨_,_,rfl,RdZ.two ?_ ?_,RdZ.one ?_,Bk.new ?_,Bk.new ?_⟩,(clB g)⟩;all_goals first
   | (simp;done)
   | (simp;omega)
   | omega
theorem zJg (x:Wc.In) (c:Option Addr) (n cap:Nat) (r:List Int) (at':Int) (w:wW) (h:x.op=13) (p:0<=at'/\at'<=1000000) (g:RdZ w (U c n cap) r):cW prog 103 #[inV x (U c n cap),O J at'] w λe w'=>OnP w (U c n cap) w' ([],[x.a]) e/\bL w w':=by
 have pA:=AtL.new0 w 87 (QF x (U c n cap));have l:=QJ (bZ _ w) (Z (QF x (U c n cap)).toArray 87);have i:(w.alloc (Z (QF x (U c n cap)).toArray 87)).cell? ⟨w.heap.size,0,none⟩=some (O J x.op):=pA.2.1 0 _ rfl;have u:(w.alloc (Z (QF x (U c n cap)).toArray 87)).cell? ⟨w.heap.size,1,none⟩=some (O J x.a):=pA.2.1 1 _ rfl;have v:(w.alloc (Z (QF x (U c n cap)).toArray 87)).cell? ⟨w.heap.size,2,none⟩=some (O J x.b):=pA.2.1 2 _ rfl;have j:(w.alloc (Z (QF x (U c n cap)).toArray 87)).cell? ⟨w.heap.size,22,none⟩=some (U c n cap):=pA.2.1 22 _ rfl;have q:=pA.lt;have z:J.wrap (at'+1)=at'+1:=by rw [aZ];omega
 have s:=hid g;rw [h] at i;clear pA h p g;go_enter func103,ntmps103;go_upto_region 1 with fail
 generalize (w.alloc (Z (QF x (U c n cap)).toArray 87))=W at *;go_upto_region 5 with fail
 go_region
 all_goals
  go_wp2_with fail
  go_ret2
  refine ⟨⟨_,_,rfl,RdZ.nil _,RdZ.one ?_,Bk.nil,Bk.new ?_⟩,(clB l)⟩;all_goals first
   | (simp;done)
   | (simp;omega)
   | omega
theorem zHD (x:Wc.In) (c:Option Addr) (n cap:Nat) (r:List Int) (at':Int) (w:wW) (h:x.op=14) (p:0<=at'/\at'<=1000000) (g:RdZ w (U c n cap) r):cW prog 103 #[inV x (U c n cap),O J at'] w λe w'=>OnP w (U c n cap) w' ([at'+1],[x.a]) e/\bL w w':=by
 have pA:=AtL.new0 w 87 (QF x (U c n cap));have l:=QJ (bZ _ w) (Z (QF x (U c n cap)).toArray 87);have i:(w.alloc (Z (QF x (U c n cap)).toArray 87)).cell? ⟨w.heap.size,0,none⟩=some (O J x.op):=pA.2.1 0 _ rfl;have u:(w.alloc (Z (QF x (U c n cap)).toArray 87)).cell? ⟨w.heap.size,1,none⟩=some (O J x.a):=pA.2.1 1 _ rfl;have v:(w.alloc (Z (QF x (U c n cap)).toArray 87)).cell? ⟨w.heap.size,2,none⟩=some (O J x.b):=pA.2.1 2 _ rfl;have j:(w.alloc (Z (QF x (U c n cap)).toArray 87)).cell? ⟨w.heap.size,22,none⟩=some (U c n cap):=pA.2.1 22 _ rfl;have q:=pA.lt;have z:J.wrap (at'+1)=at'+1:=by rw [aZ];omega
 have s:=hid g;rw [h] at i;clear pA h p g;go_enter func103,ntmps103;go_upto_region 1 with fail
 generalize (w.alloc (Z (QF x (U c n cap)).toArray 87))=W at *;go_upto_region 7 with fail
 go_region
 all_goals
  go_wp2_with fail
  go_ret2
  refine ⟨⟨_,_,rfl,RdZ.one ?_,RdZ.one ?_,Bk.new ?_,Bk.new ?_⟩,(clB l)⟩;all_goals first
   | (simp;done)
   | (simp;omega)
   | omega
theorem zHj (x:Wc.In) (c:Option Addr) (n cap:Nat) (j:List Int) (at':Int) (w:wW) (h:x.op=15) (r:0<=at'/\at'<=1000000) (i:RdZ w (U c n cap) j):cW prog 103 #[inV x (U c n cap),O J at'] w λe w'=>OnP w (U c n cap) w' (j,[x.b]) e/\bL w w':=by
 have pA:=AtL.new0 w 87 (QF x (U c n cap));have g:=QJ (bZ _ w) (Z (QF x (U c n cap)).toArray 87);have p:(w.alloc (Z (QF x (U c n cap)).toArray 87)).cell? ⟨w.heap.size,0,none⟩=some (O J x.op):=pA.2.1 0 _ rfl;have u:(w.alloc (Z (QF x (U c n cap)).toArray 87)).cell? ⟨w.heap.size,1,none⟩=some (O J x.a):=pA.2.1 1 _ rfl;have v:(w.alloc (Z (QF x (U c n cap)).toArray 87)).cell? ⟨w.heap.size,2,none⟩=some (O J x.b):=pA.2.1 2 _ rfl;have q:(w.alloc (Z (QF x (U c n cap)).toArray 87)).cell? ⟨w.heap.size,22,none⟩=some (U c n cap):=pA.2.1 22 _ rfl;have s:=pA.lt;have z:J.wrap (at'+1)=at'+1:=by rw [aZ];omega
 have l:=hid i;rw [h] at p;clear pA h r i;go_enter func103,ntmps103;go_upto_region 1 with fail
 generalize (w.alloc (Z (QF x (U c n cap)).toArray 87))=W at *;go_upto_region 9 with fail
 go_region
 all_goals
  go_wp2_with fail
  go_ret2
  refine ⟨⟨_,_,rfl,l.out.below (clB g),RdZ.one ?_,Bk.own,Bk.new ?_⟩,(clB g)⟩;all_goals first
   | (simp;done)
   | (simp;omega)
   | omega
theorem zGx (x:Wc.In) (c:Option Addr) (n cap:Nat) (r:List Int) (at':Int) (w:wW) (h:x.op=16) (p:0<=at'/\at'<=1000000) (g:RdZ w (U c n cap) r):cW prog 103 #[inV x (U c n cap),O J at'] w λe w'=>OnP w (U c n cap) w' ([],[]) e/\bL w w':=by
 have pA:=AtL.new0 w 87 (QF x (U c n cap));have l:=QJ (bZ _ w) (Z (QF x (U c n cap)).toArray 87);have i:(w.alloc (Z (QF x (U c n cap)).toArray 87)).cell? ⟨w.heap.size,0,none⟩=some (O J x.op):=pA.2.1 0 _ rfl;have u:(w.alloc (Z (QF x (U c n cap)).toArray 87)).cell? ⟨w.heap.size,1,none⟩=some (O J x.a):=pA.2.1 1 _ rfl;have v:(w.alloc (Z (QF x (U c n cap)).toArray 87)).cell? ⟨w.heap.size,2,none⟩=some (O J x.b):=pA.2.1 2 _ rfl;have j:(w.alloc (Z (QF x (U c n cap)).toArray 87)).cell? ⟨w.heap.size,22,none⟩=some (U c n cap):=pA.2.1 22 _ rfl;have q:=pA.lt;have z:J.wrap (at'+1)=at'+1:=by rw [aZ];omega
 have s:=hid g;rw [h] at i;clear pA h p g;go_enter func103,ntmps103;go_upto_region 1 with fail
 generalize (w.alloc (Z (QF x (U c n cap)).toArray 87))=W at *;all_goals
  go_wp2;go_ret2
  exact ⟨⟨_,_,rfl,RdZ.nil _,RdZ.nil _,Bk.nil,Bk.nil⟩,l⟩
theorem zLA (x:Wc.In) (c:Option Addr) (n cap:Nat) (at':Int) (w:wW) (h:¬ (12<=x.op/\x.op<=16)) (j:0<=at'/\at'<=1000000):cW prog 103 #[inV x (U c n cap),O J at'] w λe w'=>OnP w (U c n cap) w' ([at'+1],[]) e/\bL w w':=by
 have pA:=AtL.new0 w 87 (QF x (U c n cap));have i:=QJ (bZ _ w) (Z (QF x (U c n cap)).toArray 87);have v:(w.alloc (Z (QF x (U c n cap)).toArray 87)).cell? ⟨w.heap.size,0,none⟩=some (O J x.op):=pA.2.1 0 _ rfl;have z:(w.alloc (Z (QF x (U c n cap)).toArray 87)).cell? ⟨w.heap.size,1,none⟩=some (O J x.a):=pA.2.1 1 _ rfl;have A:(w.alloc (Z (QF x (U c n cap)).toArray 87)).cell? ⟨w.heap.size,2,none⟩=some (O J x.b):=pA.2.1 2 _ rfl;have g:(w.alloc (Z (QF x (U c n cap)).toArray 87)).cell? ⟨w.heap.size,22,none⟩=some (U c n cap):=pA.2.1 22 _ rfl;have l:=pA.lt;have B:J.wrap (at'+1)=at'+1:=by rw [aZ];omega
 have p:(x.op == 12)=false:=by simp;omega
 have q:(x.op == 13)=false:=by simp;omega
 have r:(x.op == 14)=false:=by simp;omega
 have s:(x.op == 15)=false:=by simp;omega
 have u:(x.op == 16)=false:=by simp;omega
 clear pA h j;go_enter func103,ntmps103;go_upto_region 1 with fail
 generalize (w.alloc (Z (QF x (U c n cap)).toArray 87))=W at *;go_wp2;go_ret2
 refine ⟨⟨_,_,rfl,RdZ.one ?_,RdZ.nil _,Bk.new ?_,Bk.nil⟩,(clB i)⟩;all_goals first
  | (simp;done)
  | (simp;omega)
  | omega
theorem zA5 (x:Wc.In) (l:Option Addr) (n cap:Nat) (r:List Int) (at':Int) (w:wW) (q:0<=at'/\at'<=1000000) (s:RdZ w (U l n cap) r):cW prog 103 #[inV x (U l n cap),O J at'] w λe w'=>OnP w (U l n cap) w' (onw x.op x.a x.b r at') e/\bL w w':=by
 unfold onw;by_cases c:x.op=12
 ·rw [if_pos c];exact zHf x _ at' w c q
 by_cases g:x.op=13
 ·rw [if_neg c,if_pos g];exact zJg x l n cap r at' w g q s
 by_cases i:x.op=14
 ·rw [if_neg c,if_neg g,if_pos i];exact zHD x l n cap r at' w i q s
 by_cases j:x.op=15
 ·rw [if_neg c,if_neg g,if_neg i,if_pos j];exact zHj x l n cap r at' w j q s
 by_cases p:x.op=16
 ·rw [if_neg c,if_neg g,if_neg i,if_neg j,if_pos p];exact zGx x l n cap r at' w p q s
 rw [if_neg c,if_neg g,if_neg i,if_neg j,if_neg p];exact zLA x l n cap at' w oM q
def SmA (a:Wpl.Ar):Prop:=(-1000000<=a.t/\a.t<=1000000)/\(-1000000<=a.l/\a.l<=1000000)/\(-1000000<=a.b/\a.b<=1000000)/\(-1000000<=a.r/\a.r<=1000000)
abbrev ar5 (a:Wpl.Ar):List vW:=[O J a.s,O J a.t,O J a.l,O J a.b,O J a.r]
def shp (a b:Wpl.Ar):Bool:=(a.b - a.t == b.b - b.t) && (a.r - a.l == b.r - b.l)
theorem zBa (a:Wpl.Ar) (w:wW) (h:SmA a):CR 166 #[gX (ar5 a).toArray] w (O J (a.b - a.t+1)):=by
 have pA:=AtL.new0 w 84 (ar5 a);have l:=QJ (bZ _ w) (Z (ar5 a).toArray 84);have n:=pA.2.1 1 _ rfl;have p:=pA.2.1 3 _ rfl;obtain ⟨c,g,i,j⟩:=h;have q:J.wrap (a.b - a.t)=a.b - a.t:=by rw [aZ];omega
 have r:J.wrap (a.b - a.t+1)=a.b - a.t+1:=by rw [aZ];omega
 clear pA c g i j;go_enter func166,ntmps166;go_upto_region 1 with fail
 generalize (w.alloc (Z (ar5 a).toArray 84))=W at *;go_wp2;go_ret;exact ⟨sM,l⟩
theorem zBn (a:Wpl.Ar) (w:wW) (h:SmA a):CR 167 #[gX (ar5 a).toArray] w (O J (a.r - a.l+1)):=by
 have pA:=AtL.new0 w 84 (ar5 a);have n:=QJ (bZ _ w) (Z (ar5 a).toArray 84);have p:=pA.2.1 2 _ rfl;have q:=pA.2.1 4 _ rfl;obtain ⟨c,g,i,j⟩:=h;have s:J.wrap (a.r - a.l)=a.r - a.l:=by rw [aZ];omega
 have u:J.wrap (a.r - a.l+1)=a.r - a.l+1:=by rw [aZ];omega
 clear pA c g i j;go_enter func167,ntmps167;go_upto_region 1 with fail
 generalize (w.alloc (Z (ar5 a).toArray 84))=W at *;go_wp2;go_ret;exact ⟨sM,n⟩
theorem zAc (a b:Wpl.Ar) (w:wW) (h:SmA a) (g:SmA b):CR 135 #[gX (ar5 a).toArray,gX (ar5 b).toArray] w (Y (shp a b)):=by
 have pA:=(AtL.new0 w 84 (ar5 a)).alloc (Z (ar5 b).toArray 84);have pB:=AtL.new1 w (Z (ar5 a).toArray 84) 84 (ar5 b);have hB:=QJ (QJ (bZ _ w) (Z (ar5 a).toArray 84)) (Z (ar5 b).toArray 84);have RA:=λw=>zBa a w h
 have RB:=λw=>zBa b w g
 have CA:=λw=>zBn a w h
 have CB:=λw=>zBn b w g
 have T:(a.b - a.t+1 == b.b - b.t+1)=(a.b - a.t == b.b - b.t):=by rw [gZ];simp
 have X:(a.r - a.l+1 == b.r - b.l+1)=(a.r - a.l == b.r - b.l):=by rw [gZ];simp
 unfold shp;rw [<-T,<-X];clear T X h g;generalize a.b - a.t+1=x1 at *;generalize b.b - b.t+1=x2 at *;generalize a.r - a.l+1=y1 at *;generalize b.r - b.l+1=y2 at *;go_enter func135,ntmps135;go_upto_region 1 with fail
 generalize (w.alloc (Z (ar5 a).toArray 84)).alloc (Z (ar5 b).toArray 84)=W at *;have C:=AtL.drew pA;have G:=AtL.drew pB;have N:=hB.drew;clear pA pB hB;refine wp_region_held_drew (S:=λW=>W.rangeAt w.heap.size 0 (ar5 a)/\W.rangeAt (w.heap.size+1) 0 (ar5 b)) kR ⟨C.range,G.range⟩ (λc=>?_);generalize W.drew=WD at *;refine wpAnyH_take (i:=0) (v:=gX (ar5 a).toArray) (atQ rfl) kR kR kR (λ_ _ _ h=>h) (yieldsIf_load_mid (by rfl) 84 (mX 2) rfl (w.heap.size) 0 rfl (ar5 a) _ (λ_ h=>h.1) underlying84 rfl kR) (by assumption) ?_;try simp only [Act.put,lA,lZ,lS]
 refine wpAnyH_take (i:=2) (v:=gX (ar5 b).toArray) (atQ rfl) kR kR kR (λ_ _ _ h=>h) (yieldsIf_load_mid (by rfl) 84 (mX 3) rfl (w.heap.size+1) 0 rfl (ar5 b) _ (λ_ h=>h.2) underlying84 rfl kR) (by assumption) ?_;try simp only [Act.put,lA,lZ,lS]
 refine rdQ 1 (λK j=>?_);go_simp
 refine (RA _).mono ?_;rintro e w1 ⟨rfl,p⟩;have D:=AtL.below p C;have H:=AtL.below p G;have P:=QA N p;go_wp2_with fail
 refine hkQ j ⟨D.range,H.range⟩ (λc=>?_);clear j K
 refine rdQ 3 (λK j=>?_);go_simp
 refine (RB _).mono ?_;rintro e w2 ⟨rfl,q⟩;have z:=AtL.below q D;have A:=AtL.below q H;have B:=QA P q;go_wp2_with fail
 refine hkQ j ⟨z.range,A.range⟩ (λc=>?_);clear j K
 cases hq:(x1 == x2) with
 | false =>
  refine tkQ 4 ?_
  refine tkQ 5 ?_
  refine tnQ 6 ?_
  refine tnQ 7 ?_
  refine tnQ 8 ?_
  refine tnQ 9 ?_
  refine tnQ 10 ?_
  refine tkQ 11 ?_
  refine rdQ 12 (λK j=>?_);go_simp
  refine hkQ j ⟨z.range,A.range⟩ (λc=>?_);clear j K
  refine wpAnyH_done kR ?_ _;go_wp2;go_ret;have n:=hq;simp only [beq_eq_false_iff_ne,ne_eq] at n;exact ⟨by simp [n],B⟩
 | true =>
  refine tkQ 4 ?_
  refine tkQ 5 ?_
  refine wpAnyH_take (i:=6) (v:=gX (ar5 a).toArray) (atQ rfl) kR kR kR (λ_ _ _ h=>h) (yieldsIf_load_mid (by rfl) 84 (mX 2) rfl (w.heap.size) 0 rfl (ar5 a) _ (λ_ h=>h.1) underlying84 rfl kR) (by assumption) ?_;try simp only [Act.put,lA,lZ,lS]
  refine wpAnyH_take (i:=8) (v:=gX (ar5 b).toArray) (atQ rfl) kR kR kR (λ_ _ _ h=>h) (yieldsIf_load_mid (by rfl) 84 (mX 3) rfl (w.heap.size+1) 0 rfl (ar5 b) _ (λ_ h=>h.2) underlying84 rfl kR) (by assumption) ?_;try simp only [Act.put,lA,lZ,lS]
  refine rdQ 7 (λK j=>?_);go_simp
  refine (CA _).mono ?_;rintro e w3 ⟨rfl,s⟩;have E:=AtL.below s z;have I:=AtL.below s A;have Q:=QA B s;go_wp2_with fail
  refine hkQ j ⟨E.range,I.range⟩ (λc=>?_);clear j K
  refine rdQ 9 (λK j=>?_);go_simp
  refine (CB _).mono ?_;rintro e w4 ⟨rfl,u⟩;have F:=AtL.below u E;have M:=AtL.below u I;have R:=QA Q u;go_wp2_with fail
  refine hkQ j ⟨F.range,M.range⟩ (λc=>?_);clear j K
  refine tkQ 10 ?_
  refine tkQ 11 ?_
  refine rdQ 12 (λK j=>?_);go_simp
  refine hkQ j ⟨F.range,M.range⟩ (λc=>?_);clear j K
  refine wpAnyH_done kR ?_ _;go_wp2;go_ret;have n:=hq;simp only [beq_iff_eq] at n;exact ⟨by simp [n],R⟩
