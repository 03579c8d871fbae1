/- Lemmas. -/
import Derived.Below
import Derived.Test.YthcblmpncpcfkaaGreatDoorChecked
import Derived.WalkKit
import Derived.WalkSpells
import Derived.RowKit3
import Derived.Deep.QuietTactic
import Derived.BigQuiet
import Derived.Deep.RegionWith
import Derived.Deep.RegionHeld3
import Derived.Deep.DeepCutAuto
import Derived.Deep.Light
import Derived.Deep.CutBlock
import Derived.Maps.OwnSet
import Derived.Laws.AppendOwn
import Derived.Lib.OthersKept
import Derived.Lib.Strings
import Derived.Deep.LoopGhost
import Derived.Deep.MidRow
import Derived.OwnWalk
set_option maxHeartbeats 8000000
set_option maxRecDepth 100000
set_option linter.unusedVariables false
open Option renaming none->kX,some->lX
open Bool renaming true->nX,false->oX
open Decidable renaming decide->qX
open Go.RowKit.Below renaming refl->aZ,setCell->bX,drew->jX
open Go.IntKind renaming wrap_i64->bZ
open List renaming getElem?_map->cZ,drop_eq_getElem_cons->gZ,drop_eq_nil_of_le->jZ,getElem?_eq_getElem->mZ,mem_of_getElem?->oZ,getElem?_set->pZ,take_of_length_le->uZ,find?_cons_of_neg->wZ,length_cons->yZ,length_drop->zZ,map_append->cY,ext_getElem?->dY,find?_cons_of_pos->kY,eraseIdx_sublist->lY,getElem?_modify->mY,map_cons->nY,take_succ_cons->oY,extract->tY,nodup_append->uY,getElem?_inj->vY,take_add_one->wY,getElem_mem->xY,drop_drop->zY,map->fX,length->hX
open Nat renaming le_refl->dZ,zero_le->iZ,le_succ->bY,zero_add->gY,lt_of_lt_of_le->qY,pos_of_ne_zero->rY,eq_zero_or_pos->sY,gcd->cX,gcd_comm->eX
open Go.World renaming cell?_setCell_far->eZ,frozen?_setCell->hZ,iterPos->rZ,block_lt_of_cell?->tZ,there->aY,iter_heap->hY,frozen?_setCells->jY,setCells->aX,rangeAt->dX,cell?->iX
open Int renaming gcd->fZ,mul_ediv_cancel_left->fY,gcd_dvd_left->yY
open Go.Result renaming andThen->kZ,ok->eY
open Bool renaming eq_iff_iff->nZ,and_eq_true->qZ
open Or renaming inr->sZ,inl->xZ
open ByteArray renaming data_extract->vZ,size_extract->iY,ext->pY
open Go renaming World->wW,Value->vW,Calls->cW,Addr->dW
open Go.RowKit renaming Hid->hH
open Go.Value renaming int->O,slice->U,string->V,bool->Y,pointer->pX,agg->gX,tuple->uX
open Go.IntKind renaming i64->J
open Go.Obj renaming cells->Z
open Go.Ending renaming returned->rX
open Go.Operand renaming tmp->mX
namespace Go.Proofs.YthcblmpncpcfkaaGreatDoor
open Tryz
open Go.RowKit
theorem oM{p:Prop}(h:p:=by omega):p:=h
theorem sM{p:Prop}(h:p:=by simp):p:=h
theorem kR{p:Prop}(h:p:=by kernel_rfl):p:=h
theorem dM{p:Prop}(h:p:=by decide):p:=h
theorem xV{A:Sort _}(a:A):∃x,a=x:=⟨a,rfl⟩
abbrev bL(w W:wW):Prop:=Below w.heap.size w W
theorem bQD{B:Nat}{a w:wW}(h:Below B a w)(n:Nat):Below B a (w.drewN n):=⟨h.os,h.tape,h.output,h.size,h.block⟩
theorem bQE{w W w1:wW}(g:Below w.heap.size w W)(j:Below W.heap.size W w1):Below w.heap.size w w1:=g.trans (j.mono g.size)
theorem bQA{w W:wW}(h:Below w.heap.size w W)(o:Obj):Below w.heap.size w (W.alloc o):=h.alloc h.size o
theorem clA{P:Prop}(h:P:=by with_reducible repeat(first|exact Below.refl _ _|refine bQD ?_ _|refine Below.setCell ?_ (by first|(simp;done)|(simp;omega)|omega) _|refine Below.drew ?_|refine bQE ?_ (by assumption)|refine bQA ?_ _)):P:=h
theorem clB{P Q:Prop}(h:P)(f:P->Q:=by (intro q;with_reducible repeat(first|exact q|refine bQD ?_ _|refine Below.setCell ?_ (by first|(simp;done)|(simp;omega)|omega) _|refine Below.drew ?_|refine bQA ?_ _))):Q:=f h
abbrev CR(f:Nat)(x:Array vW)(w:wW)(v:vW):Prop:=cW prog f x w λe w'=>e=rX v/\Below w.heap.size w w'
theorem lA{α:Type}(l:List α)(i:Nat)(a:α):l.toArray.setIfInBounds i a=(l.set i a).toArray:=by simp
theorem lZ{α:Type}(x a:α)(l:List α):(x::l).set 0 a=a::l:=rfl
theorem lS{α:Type}(x a:α)(l:List α)(i:Nat):(x::l).set (i+1) a=x::l.set i a:=rfl
abbrev zN0:Array vW:=#[O J 0,O J 0,O J 0,O J 0,V ⟨#[]⟩,Y oX,O J 0,O J 0,V ⟨#[]⟩,O J 0,V ⟨#[]⟩,O J 0,O J 0,Y oX,Y oX,V ⟨#[]⟩,O J 0,O J 0,Y oX,Y oX]
abbrev zP0:Array vW:=#[O J 0,O J 0,O J 0,O J 0,V ⟨#[]⟩,Y oX,O J 0,O J 0,V ⟨#[]⟩,O J 0,V ⟨#[]⟩,O J 0,O J 0,Y oX,Y oX,V ⟨#[]⟩,O J 0,O J 0,Y oX,Y oX,U kX 0 0]
abbrev zR0:Array vW:=#[V ⟨#[]⟩,O J 0,O J 0,Y oX,Y oX]
abbrev zV0:Array vW:=#[O J 0,O J 0,O J 0,V ⟨#[]⟩,Y oX,O J 0]
theorem atQ{g:Array Oper}{i:Nat}{o:Oper}(h:g.toList[i]?=lX o):g[i]?=lX o:=by rwa [Array.getElem?_toList]at h
theorem tkQ{P:Program}{j:Array Oper}{Q:Exit->Act->World->Prop}{q:Region.Mode}{S:World->Prop}{v:Value}{l:Nat}{g u:Array Bool}{a s:Act}{w:World}(i:Nat){p:Oper}(h:wpAnyH P q j Q S l u s w)(C:j.toList[i]?=some p:=by rfl)(I:Region.noSelect j=true:=by kernel_rfl)(B:Region.free q j g i=true:=by kernel_rfl)(H:(Region.ready q j g).contains i=true:=by kernel_rfl)(z:∀c a w,Q (.panic c) (a.put p.dst v) w->Q (.panic c) a w:=by exactλ_ _ _ h=>h)(M:Region.wanted p (yielded j a.tmps)=true:=by rfl)(N:∀w,S w->(execOp a.eval p).run P w=.ok (.value v) w:=by (intro w hSw;(try dsimp only at hSw);go_simp;(try with_reducible rfl)))(A:S w:=by assumption)(G:a.put p.dst v=s:=by ((try simp only[Act.put,lA,lZ,lS]);(try rfl)))(D:g.setIfInBounds i true=u:=by ((try simp only[Act.put,lA,lZ,lS]);(try rfl))):wpAnyH P q j Q S (l+1) g a w:=by subst G;subst D;exact wpAnyH_take (atQ C) I B H z (Or.inl ⟨M,N⟩) A h
theorem tnQ{P:Program}{j:Array Oper}{Q:Exit->Act->World->Prop}{p:Region.Mode}{S:World->Prop}{l:Nat}{g u:Array Bool}{a s:Act}{w:World}(i:Nat){q:Oper}(h:wpAnyH P p j Q S l u s w)(B:j.toList[i]?=some q:=by rfl)(H:Region.noSelect j=true:=by kernel_rfl)(A:Region.free p j g i=true:=by kernel_rfl)(G:(Region.ready p j g).contains i=true:=by kernel_rfl)(v:∀c a w,Q (.panic c) (a.put q.dst undef) w->Q (.panic c) a w:=by exactλ_ _ _ h=>h)(I:Region.wanted q (yielded j a.tmps)=false:=by rfl)(z:S w:=by assumption)(D:a.put q.dst undef=s:=by ((try simp only[Act.put,lA,lZ,lS]);(try rfl)))(C:g.setIfInBounds i true=u:=by ((try simp only[Act.put,lA,lZ,lS]);(try rfl))):wpAnyH P p j Q S (l+1) g a w:=by subst D;subst C;exact wpAnyH_take (atQ B) H A G v (Or.inr ⟨I,rfl⟩) z h
theorem hkQ{S:World->Prop}{W:Act->World->Prop}{K:Act->World->Prop}{a g:Act}{w:World}(j:Shut (∀a w,S w->(S w->W a w)->K a w))(l:S w)(h:S w->W g w)(p:a=g:=by ((try simp only[Act.put,lA,lZ,lS]);(try rfl))):K a w:=by subst p;exact j.out _ _ l h
theorem rdQ{P:Program}{j:Array Oper}{Q:Exit->Act->World->Prop}{p:Region.Mode}{S:World->Prop}{l:Nat}{g:Array Bool}{a:Act}{w:World}(i:Nat){o:Oper}(h:∀K:Act->World->Prop,Shut (∀a w,S w->(S w->wpAnyH P p j Q S l (g.setIfInBounds i true) a w)->K a w)->if Region.wanted o (yielded j a.tmps)=true then Oper.wp P o a w K Q else K (a.put o.dst undef) w)(q:j.toList[i]?=some o:=by rfl)(s:Region.ready p j g=[i]:=by kernel_rfl):wpAnyH P p j Q S (l+1) g a w:=wpAnyH_ready s (by simp) (AllReadyH.cons (atQ q) h AllReadyH.nil)
theorem tkH{P:Program}{j:Array Oper}{Q:Exit→Act→World→Prop}{p:Region.Mode}{S:World→Prop}{l:Nat}{g:Array Bool}{a:Act}{w:World}{q:Oper}(i:Nat)(v:Value)(A:j.toList[i]?=some q)(D:YieldsIf P j S q v a)(h:wpAnyH P p j Q S l (g.setIfInBounds i true) (a.put q.dst v) w)(C:Region.noSelect j=true:=by kernel_rfl)(z:Region.free p j g i=true:=by kernel_rfl)(B:(Region.ready p j g).contains i=true:=by kernel_rfl)(s:∀c a w,Q (.panic c) (a.put q.dst v) w→Q (.panic c) a w:=by exact fun _ _ _ h=>h)(u:S w:=by assumption):wpAnyH P p j Q S (l+1) g a w:=wpAnyH_take (atQ A) C z B s D u h
theorem yiQ{P:Program}{g:Array Oper}{S:World→Prop}{l:Oper}{a:Act}(j:TypeId)(x:Operand)(b o:Nat)(cs:List Value)(d:TypeDesc)(p:∀w,S w→w.rangeAt b o cs)(u:P.underlying j=some d)(v:Region.wanted l (yielded g a.tmps)=true:=by rfl)(s:l.op=.load j x:=by rfl)(z:a.eval x=.pointer (some ⟨b,o,none⟩):=by rfl)(hd:d.isRow=true:=by rfl)(q:(P.info? j).map (·.size)=some cs.length:=by kernel_rfl):YieldsIf P g S l (.agg cs.toArray) a:=yieldsIf_load_mid v j x s b o z cs d p u hd q
variable {W W' w:wW}{k:Nat}{a b c d e:vW}{vs:List vW}
theorem hid{p:Prop}(h:p):Go.RowKit.Hid p:=h
open Go.RowKit
theorem zGr{k:IntKind}{a b:Int}(h:a=b):rX (.int k a)=rX (.int k b):=by rw[h]
theorem Qk{a b:Bool}(h:a=b):rX (Y a)=rX (Y b):=by rw[h]
theorem zO4{P:Program}{c:Code}{Q:Exit->Act->wW->Prop}{a:Act}(h:∀K:Act->wW->Prop,(∀a w,Q .normal a w->K a w)->c.wp P (Exit.then K Q) a w):c.wp P Q a w :=
 Code.wp_mono (λe a w g=>by cases e <;> exact g) (h (λa w=>Q .normal a w) (λ_ _ h=>h))
def AtL(W:wW)(k:Nat)(vs:List vW):Prop :=
 k<W.heap.size/\(∀i v,vs[i]?=lX v->W.cell? ⟨k,i,kX⟩=lX v)/\(∀i,i<vs.length->W.frozen? ⟨k,i,kX⟩=oX)
theorem AtL.lt(h:AtL W k vs):k<W.heap.size:=h.1
theorem AtL.new(W:wW)(t:TypeId){k:Nat}(g:k=W.heap.size)(vs:List vW):AtL (W.alloc (Z vs.toArray t)) k vs:=by
 subst g;refine⟨by simp[go_sem],λi v h=>?_,λi h=>?_⟩
 ·simp[go_sem,h]
 ·simp[go_sem]
theorem AtL.new0(W:wW)(t:TypeId)(vs:List vW):AtL (W.alloc (Z vs.toArray t)) W.heap.size vs:=AtL.new W t rfl vs
theorem AtL.new1(W:wW)(o:Obj)(t:TypeId)(vs:List vW):AtL ((W.alloc o).alloc (Z vs.toArray t)) (W.heap.size+1) vs:=AtL.new (W.alloc o) t (by simp only[World.size_alloc]) vs
theorem AtL.alloc(h:AtL W k vs)(o:Obj):AtL (W.alloc o) k vs:=by
 obtain⟨j,l,p⟩:=h;refine⟨by simp[go_sem];omega,λi v g=>?_,λi g=>?_⟩
 ·rw[World.cell?_alloc_past _ _ _ j];exact l i v g
 ·rw[World.frozen?_alloc_old _ _ _ (by simp;omega)];exact p i g
theorem AtL.below(j:bL W W'){k:Nat}{vs:List vW}(h:AtL W k vs):AtL W' k vs:=by
 obtain⟨g,q,s⟩:=h;refine⟨qY g j.size,λi v l=>?_,λi l=>?_⟩
 ·exact(j.cell (p:=⟨k,i,kX⟩) g).trans (q i v l)
 ·exact(j.frozen (p:=⟨k,i,kX⟩) g).trans (s i l)
theorem AtL.drew(h:AtL W k vs):AtL W.drew k vs:=AtL.below (aZ _ _).drew h
theorem AtL.far(h:AtL W k vs){j:Nat}(s:j≠k)(o:Nat)(v:vW):AtL (W.setCell ⟨j,o,kX⟩ v) k vs:=by
 obtain⟨l,p,q⟩:=h;refine⟨by simpa[go_sem]using l,λi u g=>?_,λi g=>?_⟩
 ·rw[eZ _ _ _ _ (by simpa using s)];exact p i u g
 ·rw[hZ];exact q i g
theorem AtL.set(h:AtL W k vs)(o:Nat)(u:vW):AtL (W.setCell ⟨k,o,kX⟩ u) k (vs.set o u):=by
 obtain⟨p,j,q⟩:=h;refine⟨by simpa[go_sem]using p,λi v g=>?_,λi g=>?_⟩
 ·by_cases e:o=i
  ·subst e;by_cases l:o<vs.length
   ·rw[List.getElem?_set_self l]at g;obtain rfl:=Option.some.inj g;exact World.cell?_setCell_same _ _ _ (j o vs[o] (mZ l))
   ·rw[List.getElem?_eq_none (by simp;omega)]at g;cases g
  ·rw[List.getElem?_set_ne e]at g;rw[World.cell?_setCell_other _ _ _ _ (by first|(simp;done)|(simp;omega))];exact j i v g
 ·rw[hZ];exact q i (by simpa using g)
theorem AtL.two(h:AtL W k [a,b]) :
  W.cell? ⟨k,0,kX⟩=lX a/\W.cell? ⟨k,1,kX⟩=lX b/\W.frozen? ⟨k,0,kX⟩=oX/\W.frozen? ⟨k,1,kX⟩=oX :=
 ⟨h.2.1 0 a rfl,h.2.1 1 b rfl,h.2.2 0 sM,h.2.2 1 sM⟩
theorem AtL.three(h:AtL W k [a,b,c]) :
  W.cell? ⟨k,0,kX⟩=lX a/\W.cell? ⟨k,1,kX⟩=lX b/\W.cell? ⟨k,2,kX⟩=lX c/\W.frozen? ⟨k,0,kX⟩=oX/\W.frozen? ⟨k,1,kX⟩=oX/\W.frozen? ⟨k,2,kX⟩=oX :=
 ⟨h.2.1 0 a rfl,h.2.1 1 b rfl,h.2.1 2 c rfl,h.2.2 0 sM,h.2.2 1 sM,h.2.2 2 sM⟩
theorem AtL.five(h:AtL W k [a,b,c,d,e]) :
  W.cell? ⟨k,0,kX⟩=lX a/\W.cell? ⟨k,1,kX⟩=lX b/\W.cell? ⟨k,2,kX⟩=lX c/\W.cell? ⟨k,3,kX⟩=lX d/\W.cell? ⟨k,4,kX⟩=lX e /\
  W.frozen? ⟨k,0,kX⟩=oX/\W.frozen? ⟨k,1,kX⟩=oX/\W.frozen? ⟨k,2,kX⟩=oX/\W.frozen? ⟨k,3,kX⟩=oX/\W.frozen? ⟨k,4,kX⟩=oX :=
 ⟨h.2.1 0 a rfl,h.2.1 1 b rfl,h.2.1 2 c rfl,h.2.1 3 d rfl,h.2.1 4 e rfl,h.2.2 0 sM,h.2.2 1 sM,h.2.2 2 sM,h.2.2 3 sM,h.2.2 4 sM⟩
abbrev zP1(W:wW)(k:Nat)(a b c d e:vW):Prop :=
 W.cell? ⟨k,0,kX⟩=lX a/\W.cell? ⟨k,1,kX⟩=lX b/\W.cell? ⟨k,2,kX⟩=lX c/\W.cell? ⟨k,3,kX⟩=lX d/\W.cell? ⟨k,4,kX⟩=lX e
theorem zCV(g:bL W W'){k:Nat}{a b c d e:vW}(h:zP1 W k a b c d e):zP1 W' k a b c d e:=by
 have j:=tZ W ⟨k,0,kX⟩ h.1;obtain⟨l,q,s,u,v⟩:=h;exact⟨(g.cell (p:=⟨k,0,kX⟩) j).trans l,(g.cell (p:=⟨k,1,kX⟩) j).trans q,(g.cell (p:=⟨k,2,kX⟩) j).trans s,(g.cell (p:=⟨k,3,kX⟩) j).trans u,(g.cell (p:=⟨k,4,kX⟩) j).trans v⟩
theorem zKG(h:zP1 W k a b c d e):zP1 W.drew k a b c d e:=zCV (aZ _ _).drew h
abbrev JI(W:wW)(k:Nat)(a b c:vW):Prop :=
 W.cell? ⟨k,0,kX⟩=lX a/\W.cell? ⟨k,1,kX⟩=lX b/\W.cell? ⟨k,2,kX⟩=lX c
theorem QG(g:bL W W'){k:Nat}{a b c:vW}(h:JI W k a b c):JI W' k a b c:=by
 have j:=tZ W ⟨k,0,kX⟩ h.1;obtain⟨l,q,s⟩:=h;exact⟨(g.cell (p:=⟨k,0,kX⟩) j).trans l,(g.cell (p:=⟨k,1,kX⟩) j).trans q,(g.cell (p:=⟨k,2,kX⟩) j).trans s⟩
theorem AtL.f5(h:AtL W k [a,b,c,d,e]):zP1 W k a b c d e:=⟨h.2.1 0 a rfl,h.2.1 1 b rfl,h.2.1 2 c rfl,h.2.1 3 d rfl,h.2.1 4 e rfl⟩
theorem AtL.f3(h:AtL W k [a,b,c]):JI W k a b c:=⟨h.2.1 0 a rfl,h.2.1 1 b rfl,h.2.1 2 c rfl⟩
theorem AtL.put3(h:AtL W k [a,b,c])(x y z:vW) :
  AtL (((W.setCell ⟨k,0,kX⟩ x).setCell ⟨k,1,kX⟩ y).setCell ⟨k,2,kX⟩ z) k [x,y,z]:=((h.set 0 x).set 1 y).set 2 z
theorem AtL.far3(h:AtL W k vs){j:Nat}(g:j≠k)(x y z:vW) :
  AtL (((W.setCell ⟨j,0,kX⟩ x).setCell ⟨j,1,kX⟩ y).setCell ⟨j,2,kX⟩ z) k vs:=((h.far g 0 x).far g 1 y).far g 2 z
theorem AtL.put5(h:AtL W k [a,b,c,d,e])(x y z u v:vW) :
  AtL (((((W.setCell ⟨k,0,kX⟩ x).setCell ⟨k,1,kX⟩ y).setCell ⟨k,2,kX⟩ z).setCell ⟨k,3,kX⟩ u).setCell ⟨k,4,kX⟩ v) k [x,y,z,u,v]:=((((h.set 0 x).set 1 y).set 2 z).set 3 u).set 4 v
theorem zA7{n:Nat}(j:Below n w W)(g:n<=k)(x y z u v:vW) :
  Below n w (((((W.setCell ⟨k,0,kX⟩ x).setCell ⟨k,1,kX⟩ y).setCell ⟨k,2,kX⟩ z).setCell ⟨k,3,kX⟩ u).setCell ⟨k,4,kX⟩ v) :=
 ((((j.setCell (p:=⟨k,0,kX⟩) g x).setCell (p:=⟨k,1,kX⟩) g y).setCell (p:=⟨k,2,kX⟩) g z).setCell (p:=⟨k,3,kX⟩) g u).setCell (p:=⟨k,4,kX⟩) g v
theorem QB(g:bL W W'){k o:Nat}{v:vW}(h:W.cell? ⟨k,o,kX⟩=lX v):W'.cell? ⟨k,o,kX⟩=lX v :=
 (g.cell (p:=⟨k,o,kX⟩) (tZ W ⟨k,o,kX⟩ h)).trans h
end Go.Proofs.YthcblmpncpcfkaaGreatDoor
namespace Wpl
structure Cl where
 s:Int
 r:Int
 c:Int
structure Ar where
 s:Int
 t:Int
 l:Int
 b:Int
 r:Int
def inB(n m:Int):Bool:=qX (0<=n)&&qX (n<m)
theorem inB_iff{n m:Int}:inB n m=nX↔0<=n/\n<m:=by simp[inB]
def rightC(s r c:Int):Bool:=inB s 16&&inB r 65536&&inB c 256
theorem rightC_iff{s r c:Int}:rightC s r c=nX↔0<=s/\s<16/\0<=r/\r<65536/\0<=c/\c<256:=by simp[rightC,inB];omega
def rightA(s t l b r:Int):Bool:=qX (0<=s/\s<16/\0<=t/\t<=b/\b<65536/\0<=l/\l<=r/\r<256)
theorem rightA_iff{s t l b r:Int}:rightA s t l b r=nX↔0<=s/\s<16/\0<=t/\t<=b/\b<65536/\0<=l/\l<=r/\r<256:=by simp[rightA]
def lacks(q:Int)(c:Cl):Bool:=qX (c.s≠q) || !rightC c.s c.r c.c
def grow(a:Ar)(c:Cl):Ar:=⟨a.s,min a.t c.r,min a.l c.c,max a.b c.r,max a.r c.c⟩
def oneA(c:Cl):Ar:=⟨c.s,c.r,c.c,c.r,c.c⟩
def nullA:Ar:=⟨0,0,0,0,0⟩
def anyN(q:Int)(F:Nat->Cl):Nat->Bool
 |0=>oX
 |n+1=>anyN q F n||lacks q (F n)
theorem anyN_hit{q:Int}{F:Nat->Cl}{n j:Nat}(l:j<n)(h:lacks q (F j)=nX):anyN q F n=nX:=by
 induction n with
 |zero=>omega
 |succ n g =>
  by_cases e:j=n
  ·subst e;simp[anyN,h]
  ·simp[anyN,g (by omega)]
theorem anyN_miss{q:Int}{F:Nat->Cl}{n:Nat}(h:∀j,j<n->lacks q (F j)=oX):anyN q F n=oX:=by
 induction n with
 |zero=>rfl
 |succ n g=>simp[anyN,g (λj l=>h j (by omega)),h n (by omega)]
def hullU(F:Nat->Cl):Nat->Ar
 |0=>oneA (F 0)
 |j+1=>grow (hullU F j) (F (j+1))
def hullOk(F:Nat->Cl)(n:Nat):Bool:=qX (n≠0) && !anyN (F 0).s F n
def hullV(F:Nat->Cl)(n:Nat):Ar:=if hullOk F n then hullU F (n-1)else nullA
def before(s r c j g l:Int):Bool:=if s≠j then qX (s<j)else if r≠g then qX (r<g)else qX (c<l)
def zR9(s t l b r:Int)(i:Nat):Cl:=if i=0 then⟨s,t,l⟩else⟨s,b,r⟩
def isA(a:Ar)(s t l b r:Int):Bool:=qX (a.s=s/\a.t=t/\a.l=l/\a.b=b/\a.r=r)
end Wpl
namespace Go.Proofs.YthcblmpncpcfkaaGreatDoor
open Tryz
open Go.RowKit
variable {w W:wW}{b ck:Nat}{es:Array MapEntry}{P:Program}{E:List MapEntry}
theorem zK2{B:Nat}{a:wW}(h:Below B a w)(n:Nat):Below B a (w.drewN n):=⟨h.os,h.tape,h.output,h.size,h.block⟩
theorem zAC{w1:wW}(g:bL w W)(j:bL W w1):bL w w1:=g.trans (j.mono g.size)
theorem zBA(h:bL w W)(o:Obj):bL w (W.alloc o):=h.alloc h.size o
theorem zAv(n m:Int)(w:wW) :
  cW prog 75 #[O J n,O J m] w λe w'=>e=rX (Y (Wpl.inB n m))/\w=w':=by
 unfold Wpl.inB;by_cases h:0<=n
 ·rw[decide_eq_true h];go_enter func75,ntmps75;go_wp2;go_ret;exact⟨sM,rfl⟩
 ·rw[decide_eq_false h];go_enter func75,ntmps75;go_wp2;go_ret;exact⟨sM,rfl⟩
theorem Qh(s r c:Int)(w:wW) :
  CR 48 #[gX #[O J s,O J r,O J c]] w (Y (Wpl.rightC s r c)):=by
 have g:=λw=>zAv s 16 w
 have j:=λw=>zAv r 65536 w
 have l:=λw=>zAv c 256 w
 unfold Wpl.rightC;generalize Wpl.inB s 16=b1 at*;generalize Wpl.inB r 65536=b2 at*;generalize Wpl.inB c 256=b3 at*;cases b1
 ·go_enter func48,ntmps48;go_wp2_with fail
  refine(g _).mono ?_;rintro e w1 ⟨rfl,rfl⟩;go_wp2;go_ret;exact⟨rfl,clA⟩
 cases b2
 ·go_enter func48,ntmps48;go_wp2_with fail
  refine(g _).mono ?_;rintro e w1 ⟨rfl,rfl⟩;go_wp2_with fail
  refine(j _).mono ?_;rintro e w1 ⟨rfl,rfl⟩;go_wp2;go_ret;exact⟨rfl,clA⟩
 ·go_enter func48,ntmps48;go_wp2_with fail
  refine(g _).mono ?_;rintro e w1 ⟨rfl,rfl⟩;go_wp2_with fail
  refine(j _).mono ?_;rintro e w1 ⟨rfl,rfl⟩;go_wp2_with fail
  refine(l _).mono ?_;rintro e w1 ⟨rfl,rfl⟩;go_wp2;go_ret;exact⟨rfl,clA⟩
theorem zHg(s t l b r:Int)(w:wW) :
  CR 162 #[gX #[O J s,O J t,O J l,O J b,O J r]] w (gX #[O J s,O J t,O J l]):=by
 go_enter func162,ntmps162;go_wp2;refine bodyPost_ret (v:=gX #[O J s,O J t,O J l]) (by simp[results,results162,go_sem]) rfl ⟨rfl,?_⟩;exact clA
theorem zL4(s t l b r:Int)(w:wW) :
  CR 163 #[gX #[O J s,O J t,O J l,O J b,O J r]] w (gX #[O J s,O J b,O J r]):=by
 go_enter func163,ntmps163;go_wp2;refine bodyPost_ret (v:=gX #[O J s,O J b,O J r]) (by simp[results,results163,go_sem]) rfl ⟨rfl,?_⟩;exact clA
theorem zH4(q s r c:Int)(w:wW) :
  CR 139 #[O J q,gX #[O J s,O J r,O J c]] w (Y (Wpl.lacks q ⟨s,r,c⟩)):=by
 have R:=λw=>Qh s r c w
 unfold Wpl.lacks;show cW _ _ _ _ λe w'=>e=rX (Y (qX (s≠q) || !Wpl.rightC s r c))/\_
 generalize Wpl.rightC s r c=b at*;by_cases h:s=q
 ·subst h;go_enter func139,ntmps139;go_wp2_with fail
  refine(R _).mono ?_;rintro e w1 ⟨rfl,g⟩;go_wp2;go_ret;exact⟨sM,clA⟩
 ·rw[decide_eq_true (show s≠q from h)];go_enter func139,ntmps139;go_wp2;go_ret;exact⟨rfl,clA⟩
open Go.ChangeMaps (setBlock heap_setBlock_same heap_setBlock_other)
open Go.ChangeShapes Go.WideShapes Go.MapKept
structure Ct where
 t:ByteArray
 a:Option dW
 n:Nat
 k:Nat
abbrev Ct.v(c:Ct):vW:=.slice c.a c.n c.k
abbrev ctV(c:Ct):vW:=gX #[V c.t,.slice c.a c.n c.k]
abbrev ct0:Ct:=⟨⟨#[]⟩,kX,0,0⟩
def StB(E:List MapEntry)(ck:Nat):Prop:=(∀x∈E,x.born<ck)/\(E.map (·.born)).Nodup
theorem StB.push(h:StB E ck)(k v:vW):StB (E++[⟨k,v,ck⟩]) (ck+1):=by
 refine⟨λx g=>?_,?_⟩
 ·rcases List.mem_append.1 g with q|q
  ·have:=h.1 x q;omega
  ·simp at q;rw[q];exact Nat.lt_succ_self _
 ·rw[cY,uY];refine⟨h.2,sM,λa j b l e=>?_⟩;obtain⟨x,g,rfl⟩:=List.mem_map.1 j;simp at l;have:=h.1 x g;omega
theorem StB.mod(h:StB E ck)(i:Nat)(k v:vW):StB (E.modify i λe=>{e with key:=k,val:=v}) ck:=by
 have g:(E.modify i λe=>{e with key:=k,val:=v}).map (·.born)=E.map (·.born):=by
  refine dY (λj=>?_);rw[cZ,cZ,mY];cases E[j]? with
  |none=>rfl
  |some x=>by_cases c:i=j <;> simp[c]
 refine⟨λx l=>?_,by rw[g];exact h.2⟩;have:x.born∈(E.modify i λe=>{e with key:=k,val:=v}).map (·.born):=List.mem_map.2 ⟨x,l,rfl⟩;rw[g]at this;obtain⟨y,p,e⟩:=List.mem_map.1 this;rw[<-e];exact h.1 y p
def zPy(r:Option (Nat×vW))(es:Array MapEntry):Array MapEntry :=
 match r with
 |some q=>es.eraseIdxIfInBounds q.1
 |none=>es
theorem zF0(r:Option (Nat×vW))(es:Array MapEntry):(zPy r es).toList.Sublist es.toList:=by
 cases r with
 |none=>exact List.Sublist.refl _
 |some q =>
  show(es.eraseIdxIfInBounds q.1).toList.Sublist _
  unfold Array.eraseIdxIfInBounds;by_cases h:q.1<es.size
  ·rw[dif_pos h,Array.toList_eraseIdx];exact lY _ _
  ·rw[dif_neg h];exact List.Sublist.refl _
theorem StB.ers(h:StB es.toList ck)(r:Option (Nat×vW)):StB (zPy r es).toList ck :=
 ⟨λx g=>h.1 x ((zF0 r es).subset g),((zF0 r es).map _).nodup h.2⟩
abbrev ceV(x:Wpl.Cl):vW:=gX #[O J x.s,O J x.r,O J x.c]
def eqB(x y:Wpl.Cl):Bool:=qX (x.s=y.s/\x.r=y.r/\x.c=y.c)
theorem eqB_iff{x y:Wpl.Cl}:eqB x y=nX↔x=y:=by
 unfold eqB;rw[decide_eq_true_eq];constructor
 ·intro h;cases x
  cases y
  simp at h;simp[h]
 ·rintro rfl;simp
theorem zLA(x y:Wpl.Cl):eqB x y=eqB y x:=by
 rw[nZ,eqB_iff,eqB_iff];exact⟨λh=>h.symm,λh=>h.symm⟩
theorem XB(g:Bool)(x:Wpl.Cl)(w:wW):(Instr.checkKey g 10000 36 (ceV x)).run prog w=.ok () w:=kR
theorem zOk(x y:Wpl.Cl)(w:wW):(Op.equal 36 (ceV x) (ceV y)).run prog w=.ok (eqB x y) w:=by
 show(Op.equalIn (9998+2) 36 _ _).run _ _=_
 unfold eqB;by_cases g:x.s=y.s
 ·by_cases j:x.r=y.r
  ·by_cases l:x.c=y.c
   ·simp[go_sem,g,j,l]
   ·simp[go_sem,g,j,l]
  ·simp[go_sem,g,j]
 ·simp[go_sem,g]
def fnB{α:Type}(x:Wpl.Cl):List (Wpl.Cl×α)->Nat->Option (Nat×α)
 |[],_=>kX
 |p::r,i=>if eqB p.1 x then lX (i,p.2)else fnB x r (i+1)
def enB(E:List MapEntry)(F:List (Wpl.Cl×Ct)):Prop:=E.map (λe=>(e.key,e.val))=F.map (λp=>(ceV p.1,ctV p.2))
theorem enB.cons{e:MapEntry}{F:List (Wpl.Cl×Ct)}(h:enB (e::E) F):∃p r,F=p::r/\e.key=ceV p.1/\e.val=ctV p.2/\enB E r:=by
 cases F with
 |nil=>simp[enB]at h
 |cons p r =>
  simp only[enB,nY,List.cons.injEq,Prod.mk.injEq]at h;exact⟨p,r,rfl,h.1.1,h.1.2,h.2⟩
theorem zQ9(x:Wpl.Cl)(w:wW):∀(E:List MapEntry)(F:List (Wpl.Cl×Ct))(i:Nat),enB E F->(Instr.findAsking 36 (ceV x) E i).run prog w=.ok ((fnB x F i).map λq=>(q.1,ctV q.2)) w
 |[],F,i,h=>by
  have:F=[]:=by
   cases F with
   |nil=>rfl
   |cons p r=>simp[enB]at h
  subst this;rfl
 |e::E,F,i,h=>by
  obtain⟨p,r,rfl,j,s,u⟩:=h.cons;have v:=zQ9 x w E r (i+1) u;have g:=zOk x p.1 w;rw[zLA]at g;unfold fnB;cases l:eqB p.1 x with
  |true =>
   rw[l]at g;simp[Instr.findAsking,j,s,g,kZ]
  |false =>
   rw[l]at g;simp[Instr.findAsking,j,g,kZ,v]
theorem zQq(x:Wpl.Cl){E:List MapEntry}{F:List (Wpl.Cl×Ct)}(h:enB E F)(w:wW):(Instr.findKey 36 (ceV x) E).run prog w=.ok ((fnB x F 0).map λq=>(q.1,ctV q.2)) w:=by
 have j:=zQ9 x w E F 0 h;cases E with
 |nil =>
  have:F=[]:=by
   cases F with
   |nil=>rfl
   |cons p r=>simp[enB]at h
  subst this;simp[Instr.findKey,go_sem,Instr.findNow,fnB]
 |cons e r =>
  obtain⟨p,v,rfl,g,s,u⟩:=h.cons;have l:∀d:TypeDesc,Instr.sameNow d (ceV x) e.key=kX:=λd=>by rw[g];cases d <;> rfl
  simp[Instr.findKey,go_sem,Instr.findNow,l];simpa using j
def MB(w:wW)(b:Nat)(F:List (Wpl.Cl×Ct)):Prop:=∃(es:Array MapEntry)(ck:Nat),w.heap[b]?=lX (.map es ck)/\enB es.toList F/\StB es.toList ck
theorem MB.lt{F:List (Wpl.Cl×Ct)}(h:MB w b F):b<w.heap.size:=by
 obtain⟨es,ck,g,_⟩:=h;exact(Array.getElem?_eq_some_iff.1 g).1
theorem Vr:prog.underlying 49=lX (.map 36 56):=kR
theorem zHy{t k e:TypeId}(q:P.underlying t=lX (.map k e))(g:w.heap[b]?=lX (.map es ck)){key v:vW}{j:Nat}
  (l:(Instr.checkKey es.isEmpty 10000 k key).run P w=.ok () w) (p:(Instr.findKey k key es.toList).run P w=.ok (lX (j,v)) w) :
  (Instr.lookup t (.map (lX b)) key nX).run P w=.ok (uX #[v,Y nX]) w:=by
 simp[Instr.lookup,run_underlying q,MapKept.run_getObj_map g,l,p,kZ]
theorem zHF{t k e:TypeId}(p:P.underlying t=lX (.map k e))(g:w.heap[b]?=lX (.map es ck)){key z:vW}
  (j:(Instr.checkKey es.isEmpty 10000 k key).run P w=.ok () w) (l:(Instr.findKey k key es.toList).run P w=.ok kX w) (q:(zeroValue e).run P w=.ok z w) :
  (Instr.lookup t (.map (lX b)) key nX).run P w=.ok (uX #[z,Y oX]) w:=by
 simp[Instr.lookup,run_underlying p,MapKept.run_getObj_map g,j,l,q,kZ]
def gtC(x:Wpl.Cl)(F:List (Wpl.Cl×Ct)):Ct:=((fnB x F 0).map (λq=>q.2)).getD ct0
def gtH(x:Wpl.Cl)(F:List (Wpl.Cl×Ct)):Bool:=(fnB x F 0).isSome
theorem zRI{F:List (Wpl.Cl×Ct)}(h:MB w b F)(x:Wpl.Cl):(Instr.lookup 49 (.map (lX b)) (ceV x) nX).run prog w=.ok (uX #[ctV (gtC x F),Y (gtH x F)]) w:=by
 obtain⟨es,ck,j,p,_⟩:=h;have g:=zQq x p w;unfold gtC gtH;cases l:fnB x F 0 with
 |none =>
  rw[l]at g;exact zHF Vr j (XB _ _ _) g kR
 |some q =>
  rw[l]at g;exact zHy Vr j (XB _ _ _) g
theorem zGf{t k e:TypeId}(q:P.underlying t=lX (.map k e))(g:w.heap[b]?=lX (.map es ck)){key v:vW}{j:Nat}
  (l:(Instr.checkKey es.isEmpty 10000 k key).run P w=.ok () w) (p:(Instr.findKey k key es.toList).run P w=.ok (lX (j,v)) w) :
  (Instr.lookup t (.map (lX b)) key oX).run P w=.ok v w:=by
 simp[Instr.lookup,run_underlying q,MapKept.run_getObj_map g,l,p,kZ]
theorem zFF{t k e:TypeId}(p:P.underlying t=lX (.map k e))(g:w.heap[b]?=lX (.map es ck)){key z:vW}
  (j:(Instr.checkKey es.isEmpty 10000 k key).run P w=.ok () w) (l:(Instr.findKey k key es.toList).run P w=.ok kX w) (q:(zeroValue e).run P w=.ok z w) :
  (Instr.lookup t (.map (lX b)) key oX).run P w=.ok z w:=by
 simp[Instr.lookup,run_underlying p,MapKept.run_getObj_map g,j,l,q,kZ]
theorem zDP{F:List (Wpl.Cl×Ct)}(h:MB w b F)(x:Wpl.Cl):(Instr.lookup 49 (.map (lX b)) (ceV x) oX).run prog w=.ok (ctV (gtC x F)) w:=by
 obtain⟨es,ck,j,p,_⟩:=h;have g:=zQq x p w;unfold gtC;cases l:fnB x F 0 with
 |none =>
  rw[l]at g;exact zFF Vr j (XB _ _ _) g kR
 |some q =>
  rw[l]at g;exact zGf Vr j (XB _ _ _) g
def V0{α:Type}(x:Wpl.Cl)(v:α)(F:List (Wpl.Cl×α)):List (Wpl.Cl×α) :=
 match fnB x F 0 with
 |some q=>F.set q.1 (x,v)
 |none=>F++[(x,v)]
def Vb{α:Type}(x:Wpl.Cl)(F:List (Wpl.Cl×α)):List (Wpl.Cl×α) :=
 match fnB x F 0 with
 |some q=>F.eraseIdx q.1
 |none=>F
theorem VF{α:Type}(x:Wpl.Cl):∀(F:List (Wpl.Cl×α))(i:Nat)(q:Nat×α),fnB x F i=lX q->∃j,q.1=i+j/\F[j]?=lX (x,q.2)
 |[],i,q,h=>by simp[fnB]at h
 |p::r,i,q,h=>by
  unfold fnB at h;cases g:eqB p.1 x with
  |true =>
   rw[g]at h;simp only[if_true,Option.some.injEq]at h;subst h;refine⟨0,rfl,?_⟩;rw[<-eqB_iff.1 g];rfl
  |false =>
   rw[g]at h;obtain⟨j,s,l⟩:=VF x r (i+1) q (by simpa using h);exact⟨j+1,oM,by simpa using l⟩
theorem zAm{α:Type}(x:Wpl.Cl):∀(F:List (Wpl.Cl×α))(i:Nat),fnB x F i=kX->∀p∈F,p.1≠x
 |[],i,_,p,hp=>by cases hp
 |p::r,i,h,y,hy=>by
  unfold fnB at h;cases g:eqB p.1 x with
  |true =>
   rw[g]at h;simp at h
  |false =>
   rw[g]at h;rcases List.mem_cons.1 hy with e|e
   ·subst e;intro z;rw[eqB_iff.2 z]at g;cases g
   ·exact zAm x r (i+1) (by simpa using h) y e
def KB{α:Type}(F:List (Wpl.Cl×α)):Prop:=(F.map (λp=>p.1)).Nodup
theorem KB.one{α:Type}{F:List (Wpl.Cl×α)}(h:KB F){x:Wpl.Cl}{a b:α}(g:(x,a)∈F)(j:(x,b)∈F):a=b:=by
 unfold KB at h;induction F with
 |nil=>cases g
 |cons p r l =>
  rw[nY,List.nodup_cons]at h;rcases List.mem_cons.1 g with e|e
  ·rcases List.mem_cons.1 j with e2|e2
   ·rw[<-e]at e2;simpa using e2.symm
   ·exact absurd (List.mem_map.2 ⟨_,e2,rfl⟩) (by rw[<-e]at h;exact h.1)
  ·rcases List.mem_cons.1 j with e2|e2
   ·exact absurd (List.mem_map.2 ⟨_,e,rfl⟩) (by rw[<-e2]at h;exact h.1)
   ·exact l h.2 e e2
theorem zBB(g:w.heap[b]?=lX (.map es ck))(o:Obj):w.grownBy (setBlock w b o) (lX b) :=
 ⟨rfl,rfl,rfl,by simp[setBlock],λi _ j=>heap_setBlock_other g _ (λe=>j (by rw[e]))⟩
theorem zKn{t k e:TypeId}(p:P.underlying t=lX (.map k e))(g:w.heap[b]?=lX (.map es ck)){key:vW}(val:vW)
  (j:(Instr.checkKey oX 10000 k key).run P w=.ok () w) (l:(Instr.findKey k key es.toList).run P w=.ok kX w) :
  (Instr.mapUpdate t (.map (lX b)) key val).run P w=.ok () (setBlock w b (.map (es.push ⟨key,val,ck⟩) (ck+1))):=by
 simp[Instr.mapUpdate,run_underlying p,MapKept.run_getObj_map g,j,l,MapKept.run_setObj_map _ g,kZ,setBlock]
theorem zKl{t k e:TypeId}(u:P.underlying t=lX (.map k e))(g:w.heap[b]?=lX (.map es ck)){key:vW}(val:vW){j:Nat}{v:vW}
  (l:(Instr.checkKey oX 10000 k key).run P w=.ok () w) (p:(Instr.findKey k key es.toList).run P w=.ok (lX (j,v)) w) (q:(es[j]?).map (·.key)=lX key) (s:Instr.sameBits 10000 key key=nX) :
  (Instr.mapUpdate t (.map (lX b)) key val).run P w=.ok () (setBlock w b (.map (es.modify j λe=>{e with key:=key,val:=val}) ck)):=by
 simp[Instr.mapUpdate,Instr.keyThatStays,run_underlying u,MapKept.run_getObj_map g,l,p,q,s,MapKept.run_setObj_map _ g,kZ,setBlock]
theorem zRR(x:Wpl.Cl):Instr.sameBits 10000 (ceV x) (ceV x)=nX:=by
 show Instr.sameBits (9998+1+1) _ _=nX
 simp[Instr.sameBits]
theorem enB.at{F:List (Wpl.Cl×Ct)}(h:enB E F){i:Nat}{p:Wpl.Cl×Ct}(l:F[i]?=lX p):∃e,E[i]?=lX e/\e.key=ceV p.1/\e.val=ctV p.2:=by
 have:(E.map (λe=>(e.key,e.val)))[i]?=lX (ceV p.1,ctV p.2):=by
  rw[h,cZ,l];rfl
 rw[cZ]at this;obtain⟨e,j,g⟩:=Option.map_eq_some_iff.1 this;simp only[Prod.mk.injEq]at g;exact⟨e,j,g.1,g.2⟩
theorem zSF{F:List (Wpl.Cl×Ct)}(h:MB w b F)(x:Wpl.Cl)(v:Ct):∃w',(Instr.mapUpdate 49 (.map (lX b)) (ceV x) (ctV v)).run prog w=.ok () w'/\MB w' b (V0 x v F)/\w.grownBy w' (lX b):=by
 obtain⟨es,ck,g,u,s⟩:=h;have z:=zQq x u w;unfold V0;cases C:fnB x F 0 with
 |none =>
  rw[C]at z;refine⟨_,zKn Vr g _ (XB _ _ _) z,⟨es.push ⟨ceV x,ctV v,ck⟩,ck+1,heap_setBlock_same g _,?_,by rw[Array.toList_push];exact s.push _ _⟩,zBB g _⟩;unfold enB at*;rw[Array.toList_push,cY,u,cY];rfl
 |some q =>
  rw[C]at z;obtain⟨j,M,D⟩:=VF x F 0 q C;have A:q.1=j:=oM;obtain⟨e,G,I,N⟩:=u.at D;have p:(es[q.1]?).map (·.key)=lX (ceV x):=by
   rw[A,<-Array.getElem?_toList,G];simp[I]
  refine⟨_,zKl Vr g _ (XB _ _ _) z p (zRR x),⟨_,ck,heap_setBlock_same g _,?_,by rw[Array.toList_modify];exact s.mod _ _ _⟩,zBB g _⟩;unfold enB at*;rw[Array.toList_modify];refine dY (λi=>?_);have H:=congrArg (λl=>l[i]?) u;simp only[cZ]at H;rw[cZ,cZ,mY,pZ];by_cases c:q.1=i
  ·subst c;have B:q.1<F.length:=by
    rw[A];exact(List.getElem?_eq_some_iff.1 D).1
   rw[if_pos rfl,if_pos B,A,G];simp
  ·rw[if_neg c];simp only[c,if_false];simpa using H
theorem zFS{α β:Type}(f:α->β)(l:List α)(i:Nat):(l.eraseIdx i).map f=(l.map f).eraseIdx i:=by simp[List.eraseIdx_eq_take_drop_succ]
theorem zLO{t k e s:TypeId}(p:P.underlying t=lX (.map k e))(g:w.heap[b]?=lX (.map es ck)){key:vW}{r:Option (Nat×vW)}
  (j:(Instr.checkKey es.isEmpty 10000 k key).run P w=.ok () w) (l:(Instr.findKey k key es.toList).run P w=.ok r w) :
  (Builtin.delete_ #[t,k] s #[.map (lX b),key]).run P w=.ok (uX #[]) (setBlock w b (.map (zPy r es) ck)):=by
 cases r with
 |none=>simp[Builtin.delete_,run_underlying p,MapKept.run_getObj_map g,j,l,MapKept.run_setObj_map _ g,kZ,setBlock,zPy]
 |some q=>simp[Builtin.delete_,run_underlying p,MapKept.run_getObj_map g,j,l,MapKept.run_setObj_map _ g,kZ,setBlock,zPy]
theorem zRo{F:List (Wpl.Cl×Ct)}(h:MB w b F)(x:Wpl.Cl)(C:TypeId):∃w',(Builtin.delete_ #[49,36] C #[.map (lX b),ceV x]).run prog w=.ok (uX #[]) w'/\MB w' b (Vb x F)/\w.grownBy w' (lX b):=by
 obtain⟨es,ck,l,g,s⟩:=h;have A:=zQq x g w;refine⟨_,zLO Vr l (XB _ _ _) A,⟨_,ck,heap_setBlock_same l _,?_,s.ers _⟩,zBB l _⟩;unfold Vb;cases B:fnB x F 0 with
 |none=>exact g
 |some q =>
  obtain⟨j,D,u⟩:=VF x F 0 q B;have v:q.1=j:=oM;have p:q.1<es.size:=by
   obtain⟨e,z,_⟩:=g.at u;rw[v];simpa using(List.getElem?_eq_some_iff.1 z).1
  show enB (es.eraseIdxIfInBounds q.1).toList (F.eraseIdx q.1)
  unfold enB at*;unfold Array.eraseIdxIfInBounds;rw[dif_pos p,Array.toList_eraseIdx,zFS,g,<-zFS]
theorem KB.put{α:Type}{F:List (Wpl.Cl×α)}(h:KB F)(x:Wpl.Cl)(v:α):KB (V0 x v F)/\∀y a,(y,a)∈V0 x v F↔(y=x/\a=v)\/(y≠x/\(y,a)∈F):=by
 unfold V0;cases G:fnB x F 0 with
 |none =>
  have D:=zAm x F 0 G;refine⟨?_,λy a=>?_⟩
  ·show(fX _ (F++[(x,v)])).Nodup
   rw[cY,uY];refine⟨h,sM,λa I b C e=>?_⟩;obtain⟨p,M,rfl⟩:=List.mem_map.1 I;simp at C;exact D p M (by rw[e,C])
  ·simp only[List.mem_append,List.mem_singleton,Prod.mk.injEq];constructor
   ·rintro(q|q)
    ·exact sZ ⟨D _ q,q⟩
    ·exact xZ q
   ·rintro(q|q)
    ·exact sZ q
    ·exact xZ q.2
 |some q =>
  obtain⟨j,Q,A⟩:=VF x F 0 q G;have B:q.1=j:=oM;obtain⟨l,R⟩:=List.getElem?_eq_some_iff.1 A;have s:(F.set q.1 (x,v)).map (λp=>p.1)=F.map (λp=>p.1):=by
   rw[List.map_set,B];refine dY (λi=>?_);rw[pZ];by_cases c:j=i
   ·subst c;rw[if_pos rfl,if_pos (by simpa using l),cZ,A];rfl
   ·rw[if_neg c]
  refine⟨by show(fX _ _).Nodup;rw[s];exact h,λy a=>?_⟩;show(y,a)∈F.set q.1 (x,v)↔_
  rw[B];have u:∀z,z∈F.set j (x,v)↔∃i,(i=j/\z=(x,v))\/(i≠j/\F[i]?=lX z):=λz=>by
   rw[List.mem_iff_getElem?];constructor
   ·rintro⟨i,g⟩;rw[pZ]at g;by_cases c:j=i
    ·rw[if_pos c]at g;refine⟨i,xZ ⟨c.symm,?_⟩⟩;by_cases d:j<F.length
     ·rw[if_pos d]at g;simpa using g.symm
     ·rw[if_neg d]at g;cases g
    ·rw[if_neg c]at g;exact⟨i,sZ ⟨λe=>c e.symm,g⟩⟩
   ·rintro⟨i,q|q⟩
    ·exact⟨i,by rw[pZ,if_pos q.1.symm,if_pos l,q.2]⟩
    ·exact⟨i,by rw[pZ,if_neg (λe=>q.1 e.symm)];exact q.2⟩
  rw[u];constructor
  ·rintro⟨i,c|c⟩
   ·simp only[Prod.mk.injEq]at c;exact xZ c.2
   ·refine sZ ⟨λe=>?_,oZ c.2⟩;subst e;have H:(F.map (λp=>p.1))[i]?=lX y:=by rw[cZ,c.2];rfl
    have N:(F.map (λp=>p.1))[j]?=lX y:=by rw[cZ,A];rfl
    exact c.1 ((vY (List.getElem?_eq_some_iff.1 H).1 h).1 (H.trans N.symm))
  ·rintro(c|c)
   ·exact⟨j,xZ ⟨rfl,by rw[c.1,c.2]⟩⟩
   ·obtain⟨i,g⟩:=List.mem_iff_getElem?.1 c.2;refine⟨i,sZ ⟨λe=>?_,g⟩⟩;subst e;rw[A]at g;simp only[Option.some.injEq,Prod.mk.injEq]at g;exact c.1 g.1.symm
theorem KB.del{α:Type}{F:List (Wpl.Cl×α)}(h:KB F)(x:Wpl.Cl):KB (Vb x F)/\∀y a,(y,a)∈Vb x F↔y≠x/\(y,a)∈F:=by
 unfold Vb;cases v:fnB x F 0 with
 |none =>
  have B:=zAm x F 0 v;exact⟨h,λy a=>⟨λq=>⟨B _ q,q⟩,λq=>q.2⟩⟩
 |some q =>
  obtain⟨j,D,u⟩:=VF x F 0 q v;have A:q.1=j:=oM;refine⟨?_,λy a=>?_⟩
  ·show(fX _ (F.eraseIdx q.1)).Nodup
   rw[zFS];exact(lY _ _).nodup h
  ·show(y,a)∈F.eraseIdx q.1↔_
   rw[A,List.mem_eraseIdx_iff_getElem?];constructor
   ·rintro⟨i,s,g⟩;refine⟨λe=>?_,oZ g⟩;subst e;have z:(F.map (λp=>p.1))[i]?=lX y:=by rw[cZ,g];rfl
    have C:(F.map (λp=>p.1))[j]?=lX y:=by rw[cZ,u];rfl
    exact s ((vY (List.getElem?_eq_some_iff.1 z).1 h).1 (z.trans C.symm))
   ·rintro⟨s,g⟩;obtain⟨i,l⟩:=List.mem_iff_getElem?.1 g;refine⟨i,λe=>?_,l⟩;subst e;rw[u]at l;simp only[Option.some.injEq,Prod.mk.injEq]at l;exact s l.1.symm
end Go.Proofs.YthcblmpncpcfkaaGreatDoor
namespace Wlx
def dig(c:UInt8):Bool:=qX (48<=(c.toNat:Int))&&qX ((c.toNat:Int)<=57)
def cap(c:UInt8):Bool:=qX (65<=(c.toNat:Int))&&qX ((c.toNat:Int)<=90)
def low(c:UInt8):Bool:=qX (97<=(c.toNat:Int))&&qX ((c.toNat:Int)<=122)
def wrd(c:UInt8):Bool:=cap c||low c||decide ((c.toNat:Int)=36)||dig c
def prt(c:UInt8):Bool:=qX (32<=(c.toNat:Int))&&qX ((c.toNat:Int)<=126)
def runP(p:UInt8->Bool):List UInt8->Nat
 |[]=>0
 |c::t=>if p c then runP p t+1 else 0
theorem runP_le(p:UInt8->Bool)(l:List UInt8):runP p l<=l.length:=by
 induction l with
 |nil=>exact dZ _
 |cons c t g =>
  unfold runP;split
  ·simp only[yZ];omega
  ·exact iZ _
theorem runP_pos{p:UInt8->Bool}{c:UInt8}{t:List UInt8}(h:p c=nX):runP p (c::t)=runP p t+1:=by
 show(if p c then runP p t+1 else 0)=_
 rw[if_pos h]
theorem runP_neg{p:UInt8->Bool}{c:UInt8}{t:List UInt8}(h:p c=oX):runP p (c::t)=0:=by
 show(if p c then runP p t+1 else 0)=_
 rw[if_neg (by rw[h];decide)]
def numTl(n:Nat):List UInt8->Nat
 |[]=>n
 |c::t=>if c=46/\0<runP dig t then n+1+runP dig t else n
theorem numTl_cons(n:Nat)(c:UInt8)(t:List UInt8):numTl n (c::t)=if c=46/\0<runP dig t then n+1+runP dig t else n:=rfl
def numSz(l:List UInt8):Nat:=if runP dig l=0 then 0 else numTl (runP dig l) (l.drop (runP dig l))
def quo:Bool->Nat->List UInt8->Nat
 |w,i,[]=>if w then 0 else i
 |w,i,c::t=>if c=34 then quo (!w) (i+1) t else if w then quo w (i+1) t else i
def txtSz:List UInt8->Nat
 |[]=>0
 |c::t=>if c=34 then quo nX 1 t else 0
def begins:List UInt8->List UInt8->Bool
 |[],_=>nX
 |_::_,[]=>oX
 |a::p,b::t=>qX (a=b)&&begins p t
def nameSz(l:List UInt8):List (List UInt8)->Nat
 |[]=>0
 |n::r=>if begins n l then n.length else nameSz l r
def faults:List (List UInt8):=[[35,68,73,86,47,48,33],[35,86,65,76,85,69,33],[35,82,69,70,33],[35,78,85,77,33],[35,78,47,65],[35,67,73,82,67,76,69,33],[35,76,79,78,71,33],[35,65,82,71,33]]
def marks:List (List UInt8):=[[60,62],[60,61],[62,61],[43],[45],[42],[47],[94],[38],[37],[40],[41],[44],[58],[33],[61],[60],[62]]
def sz(k:Nat)(l:List UInt8):Nat :=
 if k=1 then numSz l else if k=2 then txtSz l else if k=3 then runP wrd l else if k=4 then nameSz l faults else if k=5 then nameSz l marks else 0
def undbl:List UInt8->List UInt8
 |[]=>[]
 |[c]=>[c]
 |c::d::t=>if c=34/\d=34 then 34::undbl t else c::undbl (d::t)
def said(k:Nat)(l:List UInt8):List UInt8:=if k=2 then undbl ((l.drop 1).take (l.length-2))else l
end Wlx
namespace Go.Proofs.YthcblmpncpcfkaaGreatDoor
open Tryz
open Go.RowKit
variable {c:UInt8}{r:Int}
theorem zCI(r:Int)(w:wW):cW prog 171 #[O .i32 r] w λe w'=>e=rX (Y (qX (48<=r)&&qX (r<=57)))/\w=w':=by
 go_enter func171,ntmps171;by_cases a:48<=r
 ·go_wp2;go_ret;exact⟨Qk (by simp[a]),rfl⟩
 ·go_wp2;go_ret;exact⟨Qk (by rw[decide_eq_false oM];rfl),rfl⟩
theorem zBt(r:Int)(w:wW):cW prog 108 #[O .i32 r] w λe w'=>e=rX (Y (qX (32<=r)&&qX (r<=126)))/\w=w':=by
 go_enter func108,ntmps108;by_cases a:32<=r
 ·go_wp2;go_ret;exact⟨Qk (by simp[a]),rfl⟩
 ·go_wp2;go_ret;exact⟨Qk (by rw[decide_eq_false oM];rfl),rfl⟩
theorem zDN(r:Int)(w:wW):cW prog 142 #[O .i32 r] w λe w'=>e=rX (Y ((qX (65<=r)&&qX (r<=90))||(qX (97<=r)&&qX (r<=122))||decide (r=36)||(qX (48<=r)&&qX (r<=57))))/\w=w':=by
 have B:undef=Value.tuple #[]:=rfl;go_enter func142,ntmps142;by_cases a:65<=r/\r<=90
 ·obtain⟨j,l⟩:=a;go_wp2;go_ret;exact⟨Qk (by simp[j,l]),rfl⟩
 ·by_cases b:97<=r/\r<=122
  ·obtain⟨j,l⟩:=b;have s:65<=r:=oM;have u:¬r<=90:=oM;go_wp2;go_ret;exact⟨Qk sM,rfl⟩
  ·by_cases c:r=36
   ·subst c;go_wp2;go_ret;exact⟨rfl,rfl⟩
   ·have E:hH (((qX (65<=r)&&qX (r<=90))||(qX (97<=r)&&qX (r<=122))||decide (r=36)||(qX (48<=r)&&qX (r<=57)))=(qX (48<=r)&&qX (r<=57))):=by
     show _=_
     have p:(qX (65<=r)&&qX (r<=90))=oX:=by simp;omega
     have q:(qX (97<=r)&&qX (r<=122))=oX:=by simp;omega
     rw[p,q,decide_eq_false c];rfl
    have g:∀w',w=w'->cW prog 171 #[O .i32 r] w' λe w'=>e=rX (Y (qX (48<=r)&&qX (r<=57)))/\w=w':=λw' h=>by rw[<-h];exact zCI r w
    rw[E.out];generalize(qX (48<=r)&&qX (r<=57))=v at g;clear E;by_cases d:65<=r
    ·have z:¬r<=90:=oM;by_cases f:97<=r
     ·have A:¬r<=122:=oM;go_wp2_with fail
      refine(g _ rfl).mono ?_;rintro e w1 ⟨rfl,rfl⟩;go_wp2;go_ret;exact⟨Qk (by simp[c]),rfl⟩
     ·go_wp2_with fail
      refine(g _ rfl).mono ?_;rintro e w1 ⟨rfl,rfl⟩;go_wp2;go_ret;exact⟨Qk (by simp[c]),rfl⟩
    ·have f:¬97<=r:=oM;go_wp2_with fail
     refine(g _ rfl).mono ?_;rintro e w1 ⟨rfl,rfl⟩;go_wp2;go_ret;exact⟨Qk (by simp[c]),rfl⟩
theorem Qs(b:ByteArray)(i:Nat)(h:i<b.size):b.data.toList.drop i=b[i]::b.data.toList.drop (i+1):=gZ (by simpa using h)
theorem JV(b:ByteArray)(i:Nat)(h:¬i<b.size):b.data.toList.drop i=[]:=jZ (by have:b.data.toList.length=b.size:=rfl;omega)
theorem zCE(b:ByteArray)(i:Nat)(h:i<b.size):((b[i]).toNat<128/\Utf8.decode b i=((b[i]).toNat,1))\/(128<=(b[i]).toNat/\128<=(Utf8.decode b i).1):=by
 by_cases c:(b[i]).toNat<128
 ·exact xZ ⟨c,decode_ascii b i h c⟩
 ·exact sZ ⟨oM,(decode_high b i h oM).1⟩
theorem zPp(h:128<=c.toNat):Wlx.dig c=oX:=by unfold Wlx.dig;simp;omega
theorem zQX(h:128<=c.toNat):Wlx.prt c=oX:=by unfold Wlx.prt;simp;omega
theorem zQY(h:128<=c.toNat):Wlx.wrd c=oX:=by unfold Wlx.wrd Wlx.cap Wlx.low Wlx.dig;simp;omega
def zBs(r:Int):Bool:=(qX (48<=r)&&qX (r<=57))
theorem zGk(h:128<=r):zBs r=oX:=by unfold zBs;simp;omega
theorem zEO(b:ByteArray)(w:wW)(R:b.size<=9223372036854775807):CR 107 #[V b,.func (.func 171) #[] #[]] w (O J (Wlx.runP Wlx.dig b.data.toList:Nat)):=by
 have C:∀(r:Int)(w:wW),cW prog 171 #[O .i32 r] w λe w'=>e=rX (Y (zBs r))/\w=w':=λr w=>zCI r w
 go_enter func107,ntmps107;go_wp2_with fail
 go_loopw [5] (λ_ wr=>∃pos:Nat,pos<=b.size/\wr.heap[w.heap.size]?=lX (.stringIter b pos)/\hH (Wlx.runP Wlx.dig b.data.toList=pos+Wlx.runP Wlx.dig (b.data.toList.drop pos))/\bL w wr) (λ_ wr=>b.size-wr.iterPos w.heap.size)
 case atStart=>exact⟨0,iZ _,hY w b 0,(by simp:Wlx.runP Wlx.dig b.data.toList=0+Wlx.runP Wlx.dig (b.data.toList.drop 0)),(aZ _ w).alloc (dZ _) _⟩
 case round =>
  obtain⟨pos,Q,hit,s,G⟩:=hrel;by_cases g:pos<b.size
  ·have A:=λD=>Lib.run_next_any_at (P:=prog) wr w.heap.size b pos D hit g
   have p:=λq=>Lib.iterAt_heap wr w.heap.size b pos q hit
   have j:=λq=>Lib.below_iterAt G (dZ w.heap.size) b q
   rcases zCE b pos g with⟨H,e⟩|⟨H,e⟩
   ·rw[e]at A;cases z:zBs ((b[pos]).toNat:Int)with
    |true =>
     have E:hH (Wlx.runP Wlx.dig b.data.toList=(pos+1)+Wlx.runP Wlx.dig (b.data.toList.drop (pos+1))):=by
      show _=_
      rw[s.out,Qs b pos g,Wlx.runP_pos z];omega
     have I:=p (pos+1);have l:=j (pos+1);have N:wr.iterPos w.heap.size=pos:=by simp[rZ,hit]
     have v:(wr.iterAt w.heap.size b (pos+1)).iterPos w.heap.size=pos+1:=by simp[rZ,I]
     clear s p j;go_wp2_with fail
     refine(C _ _).mono ?_;rintro e w1 ⟨rfl,rfl⟩;go_wp2_with fail
     go_roundw
     case rel=>exact⟨pos+1,g,I,E,l⟩
     case measure=>rw[N,v];omega
    |false =>
     have E:hH (Wlx.runP Wlx.dig b.data.toList=pos):=by
      show _=_
      rw[s.out,Qs b pos g,Wlx.runP_neg z];rfl
     have l:=j (pos+1);clear s p j;go_wp2_with fail
     refine(C _ _).mono ?_;rintro e w1 ⟨rfl,rfl⟩;go_wp2;go_ret;exact⟨by rw[E.out];rfl,l⟩
   ·have E:hH (Wlx.runP Wlx.dig b.data.toList=pos):=by
     show _=_
     rw[s.out,Qs b pos g,Wlx.runP_neg (zPp H)];rfl
    obtain⟨B,u⟩:∃B:Nat,(Utf8.decode b pos).1=B:=⟨_,rfl⟩
    obtain⟨n,M⟩:∃n:Nat,(Utf8.decode b pos).2=n:=⟨_,rfl⟩
    rw[u,M]at A;rw[u]at e;have z:zBs (B:Int)=oX:=zGk oM;have l:=j (pos+n);clear s p j u M e;go_wp2_with fail
    refine(C _ _).mono ?_;rintro e w1 ⟨rfl,rfl⟩;go_wp2;go_ret;exact⟨by rw[E.out];rfl,l⟩
  ·have A:=λD=>Lib.run_next_end_at (P:=prog) wr w.heap.size b pos D hit g
   have E:hH (Wlx.runP Wlx.dig b.data.toList=b.size):=by
    show _=_
    rw[s.out,JV b pos g];simp[Wlx.runP];omega
   clear s;go_wp2;go_ret;exact⟨by rw[E.out];rfl,G⟩
def zBq(r:Int):Bool:=(qX (32<=r)&&qX (r<=126))
theorem zGo(h:128<=r):zBq r=oX:=by unfold zBq;simp;omega
theorem zJt(b:ByteArray)(w:wW)(R:b.size<=9223372036854775807):CR 107 #[V b,.func (.func 108) #[] #[]] w (O J (Wlx.runP Wlx.prt b.data.toList:Nat)):=by
 have C:∀(r:Int)(w:wW),cW prog 108 #[O .i32 r] w λe w'=>e=rX (Y (zBq r))/\w=w':=λr w=>zBt r w
 go_enter func107,ntmps107;go_wp2_with fail
 go_loopw [5] (λ_ wr=>∃pos:Nat,pos<=b.size/\wr.heap[w.heap.size]?=lX (.stringIter b pos)/\hH (Wlx.runP Wlx.prt b.data.toList=pos+Wlx.runP Wlx.prt (b.data.toList.drop pos))/\bL w wr) (λ_ wr=>b.size-wr.iterPos w.heap.size)
 case atStart=>exact⟨0,iZ _,hY w b 0,(by simp:Wlx.runP Wlx.prt b.data.toList=0+Wlx.runP Wlx.prt (b.data.toList.drop 0)),(aZ _ w).alloc (dZ _) _⟩
 case round =>
  obtain⟨pos,Q,hit,s,G⟩:=hrel;by_cases g:pos<b.size
  ·have A:=λD=>Lib.run_next_any_at (P:=prog) wr w.heap.size b pos D hit g
   have p:=λq=>Lib.iterAt_heap wr w.heap.size b pos q hit
   have j:=λq=>Lib.below_iterAt G (dZ w.heap.size) b q
   rcases zCE b pos g with⟨H,e⟩|⟨H,e⟩
   ·rw[e]at A;cases z:zBq ((b[pos]).toNat:Int)with
    |true =>
     have E:hH (Wlx.runP Wlx.prt b.data.toList=(pos+1)+Wlx.runP Wlx.prt (b.data.toList.drop (pos+1))):=by
      show _=_
      rw[s.out,Qs b pos g,Wlx.runP_pos z];omega
     have I:=p (pos+1);have l:=j (pos+1);have N:wr.iterPos w.heap.size=pos:=by simp[rZ,hit]
     have v:(wr.iterAt w.heap.size b (pos+1)).iterPos w.heap.size=pos+1:=by simp[rZ,I]
     clear s p j;go_wp2_with fail
     refine(C _ _).mono ?_;rintro e w1 ⟨rfl,rfl⟩;go_wp2_with fail
     go_roundw
     case rel=>exact⟨pos+1,g,I,E,l⟩
     case measure=>rw[N,v];omega
    |false =>
     have E:hH (Wlx.runP Wlx.prt b.data.toList=pos):=by
      show _=_
      rw[s.out,Qs b pos g,Wlx.runP_neg z];rfl
     have l:=j (pos+1);clear s p j;go_wp2_with fail
     refine(C _ _).mono ?_;rintro e w1 ⟨rfl,rfl⟩;go_wp2;go_ret;exact⟨by rw[E.out];rfl,l⟩
   ·have E:hH (Wlx.runP Wlx.prt b.data.toList=pos):=by
     show _=_
     rw[s.out,Qs b pos g,Wlx.runP_neg (zQX H)];rfl
    obtain⟨B,u⟩:∃B:Nat,(Utf8.decode b pos).1=B:=⟨_,rfl⟩
    obtain⟨n,M⟩:∃n:Nat,(Utf8.decode b pos).2=n:=⟨_,rfl⟩
    rw[u,M]at A;rw[u]at e;have z:zBq (B:Int)=oX:=zGo oM;have l:=j (pos+n);clear s p j u M e;go_wp2_with fail
    refine(C _ _).mono ?_;rintro e w1 ⟨rfl,rfl⟩;go_wp2;go_ret;exact⟨by rw[E.out];rfl,l⟩
  ·have A:=λD=>Lib.run_next_end_at (P:=prog) wr w.heap.size b pos D hit g
   have E:hH (Wlx.runP Wlx.prt b.data.toList=b.size):=by
    show _=_
    rw[s.out,JV b pos g];simp[Wlx.runP];omega
   clear s;go_wp2;go_ret;exact⟨by rw[E.out];rfl,G⟩
def zDo(r:Int):Bool:=((qX (65<=r)&&qX (r<=90))||(qX (97<=r)&&qX (r<=122))||decide (r=36)||(qX (48<=r)&&qX (r<=57)))
theorem zKZ(h:128<=r):zDo r=oX:=by unfold zDo;simp;omega
theorem zMf(b:ByteArray)(w:wW)(R:b.size<=9223372036854775807):CR 107 #[V b,.func (.func 142) #[] #[]] w (O J (Wlx.runP Wlx.wrd b.data.toList:Nat)):=by
 have C:∀(r:Int)(w:wW),cW prog 142 #[O .i32 r] w λe w'=>e=rX (Y (zDo r))/\w=w':=λr w=>zDN r w
 go_enter func107,ntmps107;go_wp2_with fail
 go_loopw [5] (λ_ wr=>∃pos:Nat,pos<=b.size/\wr.heap[w.heap.size]?=lX (.stringIter b pos)/\hH (Wlx.runP Wlx.wrd b.data.toList=pos+Wlx.runP Wlx.wrd (b.data.toList.drop pos))/\bL w wr) (λ_ wr=>b.size-wr.iterPos w.heap.size)
 case atStart=>exact⟨0,iZ _,hY w b 0,(by simp:Wlx.runP Wlx.wrd b.data.toList=0+Wlx.runP Wlx.wrd (b.data.toList.drop 0)),(aZ _ w).alloc (dZ _) _⟩
 case round =>
  obtain⟨pos,Q,hit,s,G⟩:=hrel;by_cases g:pos<b.size
  ·have A:=λD=>Lib.run_next_any_at (P:=prog) wr w.heap.size b pos D hit g
   have p:=λq=>Lib.iterAt_heap wr w.heap.size b pos q hit
   have j:=λq=>Lib.below_iterAt G (dZ w.heap.size) b q
   rcases zCE b pos g with⟨H,e⟩|⟨H,e⟩
   ·rw[e]at A;cases z:zDo ((b[pos]).toNat:Int)with
    |true =>
     have E:hH (Wlx.runP Wlx.wrd b.data.toList=(pos+1)+Wlx.runP Wlx.wrd (b.data.toList.drop (pos+1))):=by
      show _=_
      rw[s.out,Qs b pos g,Wlx.runP_pos z];omega
     have I:=p (pos+1);have l:=j (pos+1);have N:wr.iterPos w.heap.size=pos:=by simp[rZ,hit]
     have v:(wr.iterAt w.heap.size b (pos+1)).iterPos w.heap.size=pos+1:=by simp[rZ,I]
     clear s p j;go_wp2_with fail
     refine(C _ _).mono ?_;rintro e w1 ⟨rfl,rfl⟩;go_wp2_with fail
     go_roundw
     case rel=>exact⟨pos+1,g,I,E,l⟩
     case measure=>rw[N,v];omega
    |false =>
     have E:hH (Wlx.runP Wlx.wrd b.data.toList=pos):=by
      show _=_
      rw[s.out,Qs b pos g,Wlx.runP_neg z];rfl
     have l:=j (pos+1);clear s p j;go_wp2_with fail
     refine(C _ _).mono ?_;rintro e w1 ⟨rfl,rfl⟩;go_wp2;go_ret;exact⟨by rw[E.out];rfl,l⟩
   ·have E:hH (Wlx.runP Wlx.wrd b.data.toList=pos):=by
     show _=_
     rw[s.out,Qs b pos g,Wlx.runP_neg (zQY H)];rfl
    obtain⟨B,u⟩:∃B:Nat,(Utf8.decode b pos).1=B:=⟨_,rfl⟩
    obtain⟨n,M⟩:∃n:Nat,(Utf8.decode b pos).2=n:=⟨_,rfl⟩
    rw[u,M]at A;rw[u]at e;have z:zDo (B:Int)=oX:=zKZ oM;have l:=j (pos+n);clear s p j u M e;go_wp2_with fail
    refine(C _ _).mono ?_;rintro e w1 ⟨rfl,rfl⟩;go_wp2;go_ret;exact⟨by rw[E.out];rfl,l⟩
  ·have A:=λD=>Lib.run_next_end_at (P:=prog) wr w.heap.size b pos D hit g
   have E:hH (Wlx.runP Wlx.wrd b.data.toList=b.size):=by
    show _=_
    rw[s.out,JV b pos g];simp[Wlx.runP];omega
   clear s;go_wp2;go_ret;exact⟨by rw[E.out];rfl,G⟩
theorem zFM(p:List UInt8):∀l:List UInt8,Wlx.begins p l=(qX (p.length<=l.length)&&(l.take p.length == p)):=by
 induction p with
 |nil=>intro l;simp[Wlx.begins]
 |cons a p q =>
  intro l;cases l with
  |nil=>simp[Wlx.begins]
  |cons b t =>
   have e:((b::t).take (a::p).length == a::p)=(qX (a=b)&&(t.take p.length == p)):=by
    simp only[yZ,oY];by_cases h:a=b
    ·subst h;simp
    ·have j:¬b=a:=λe=>h e.symm
     simp[h,j]
   rw[e];have g:qX ((a::p).length<=(b::t).length)=qX (p.length<=t.length):=sM;rw[g];show(qX (a=b)&&Wlx.begins p t)=_
   rw[q t];cases qX (a=b) <;> cases qX (p.length<=t.length) <;> rfl
theorem zHH(b p:ByteArray)(w:wW)(l:b.size<=9223372036854775807):cW prog 71 #[V b,V p] w λe w'=>e=rX (Y (Wlx.begins p.data.toList b.data.toList))/\w=w':=by
 have E:hH (Wlx.begins p.data.toList b.data.toList=(qX (p.size<=b.size)&&((b.extract 0 p.size).toList == p.toList))):=by
  show _=_
  rw[zFM,Lib.extract_toList,Lib.toList_data];rfl
 by_cases h:p.size<=b.size
 ·have g:hH (Wlx.begins p.data.toList b.data.toList=((b.extract 0 p.size).toList == p.toList)):=by
   show _=_;rw[E.out,decide_eq_true h];rfl
  clear E;have j:(p.size:Int)<=(b.size:Int):=oM;generalize Wlx.begins p.data.toList b.data.toList=r at*;go_enter func71,ntmps71;go_wp2;go_ret;exact⟨by rw[g.out];rfl,rfl⟩
 ·have g:hH (Wlx.begins p.data.toList b.data.toList=oX):=by
   show _=_;rw[E.out,decide_eq_false h];rfl
  clear E;have j:¬(p.size:Int)<=(b.size:Int):=oM;generalize Wlx.begins p.data.toList b.data.toList=r at*;go_enter func71,ntmps71;go_wp2;go_ret;exact⟨by rw[g.out];rfl,rfl⟩
theorem zAD(b p:ByteArray)(w:wW)(g:b.size<=9223372036854775807):cW prog 45 #[V b,V p] w λe w'=>e=rX (Y (Wlx.begins p.data.toList b.data.toList))/\w=w':=by
 go_enter func45,ntmps45;go_wp2_with fail
 refine(zHH _ _ _ g).mono ?_;rintro e w1 ⟨rfl,rfl⟩;go_wp2;go_ret;exact⟨rfl,rfl⟩
theorem zD7(b:ByteArray)(k:Nat)(g:List (List UInt8))(n:Nat)(w:wW)(I:b.size<=9223372036854775807)(G:n=g.length)(H:g.length<=100)(A:∀x∈g,x.length<=100)
  (B:∀i (h:i<g.length),w.cell? ⟨k,i,kX⟩=lX (V ⟨(g[i]).toArray⟩)) :
  cW prog 143 #[V b,U (lX ⟨k,0,kX⟩) n n] w λe w'=>e=rX (O J (Wlx.nameSz b.data.toList g:Nat))/\w=w':=by
 subst G;have C:=hid B;clear B;go_enter func143,ntmps143;go_wp2_with fail
 go_loopw [9] (λx wr=>∃i:Nat,x=O J i/\i<=g.length/\hH (Wlx.nameSz b.data.toList g=Wlx.nameSz b.data.toList (g.drop i))/\wr=w) (λx _=>match x with | .int _ i=>g.length-i.toNat|_=>0)
 case atStart=>exact⟨0,rfl,iZ _,(rfl:Wlx.nameSz b.data.toList g=_),rfl⟩
 case round =>
  obtain⟨i,rfl,N,u,rfl⟩:=hrel;by_cases l:i<g.length
  ·have z:(i:Int)<(g.length:Int):=oM;have D:=C.out i l;obtain⟨x,v⟩:=xV (g[i])
   have M:x.length<=100:=A x (by rw[<-v];exact xY l);rw[v]at D;have q:hH (Wlx.nameSz b.data.toList g=if Wlx.begins x b.data.toList then x.length else Wlx.nameSz b.data.toList (g.drop (i+1))):=by
    show _=_
    rw[u.out,gZ l,v];rfl
   clear u v;have s:=zAD b ⟨x.toArray⟩ wr I;cases j:Wlx.begins x b.data.toList with
   |true =>
    have E:hH (Wlx.nameSz b.data.toList g=x.length):=by show _=_;rw[q.out,if_pos j]
    have p:Wlx.begins (⟨x.toArray⟩:ByteArray).data.toList b.data.toList=nX:=by simpa using j
    rw[p]at s;clear q p j;go_wp2_with fail
    refine s.mono ?_;rintro e w1 ⟨rfl,rfl⟩;go_wp2;go_ret;exact⟨by rw[E.out];simp,rfl⟩
   |false =>
    have E:hH (Wlx.nameSz b.data.toList g=Wlx.nameSz b.data.toList (g.drop (i+1))):=by show _=_;rw[q.out,if_neg (by rw[j];decide)]
    have p:Wlx.begins (⟨x.toArray⟩:ByteArray).data.toList b.data.toList=oX:=by simpa using j
    rw[p]at s;clear q p j;go_wp2_with fail
    refine s.mono ?_;rintro e w1 ⟨rfl,rfl⟩;go_wp2_with fail
    go_roundw
    case rel=>exact⟨i+1,sM,l,E,by first|trivial|rfl⟩
    case measure=>simp;omega
  ·have z:¬(i:Int)<(g.length:Int):=oM;have E:hH (Wlx.nameSz b.data.toList g=0):=by
    show _=_;rw[u.out,jZ oM];rfl
   clear u;go_wp2;go_ret;exact⟨by rw[E.out];rfl,rfl⟩
theorem zB0(b:ByteArray)(n:Nat):(b.extract n b.size).data.toList=b.data.toList.drop n:=by
 rw[Lib.extract_data];exact uZ (by rw[zZ];exact dZ _)
theorem zBI(c:UInt8)(l:List UInt8):Wlx.begins [c] l=match l with|[]=>oX|d::_=>qX (c=d):=by
 cases l with
 |nil=>rfl
 |cons d t=>show(qX (c=d)&&Wlx.begins [] t)=_;simp[Wlx.begins]
theorem zCJ(b:ByteArray)(w:wW)(X:b.size<=9223372036854775806):CR 140 #[V b] w (O J (Wlx.numSz b.data.toList:Nat)):=by
 obtain⟨n,C⟩:=xV (Wlx.runP Wlx.dig b.data.toList)
 have I:n<=b.size:=by rw[<-C];exact Wlx.runP_le _ _
 have q:=zEO b w oM;rw[C]at q;have j:hH (Wlx.numSz b.data.toList=if n=0 then 0 else Wlx.numTl n (b.data.toList.drop n)):=by
  show _=_;unfold Wlx.numSz;rw[C]
 clear C;by_cases u:n=0
 ·subst u;have E:hH (Wlx.numSz b.data.toList=0):=by show _=_;rw[j.out,if_pos rfl]
  clear j;go_enter func140,ntmps140;go_wp2_with fail
  refine q.mono ?_;rintro e w1 ⟨rfl,g⟩;go_wp2;go_ret;exact⟨by rw[E.out];rfl,g⟩
 ·have N:((n:Int) == 0)=oX:=beq_eq_false_iff_ne.2 oM;have S:(n:Int)<=(b.size:Int):=oM;have R:(0:Int)<=(n:Int):=oM;have l:=λw=>zAD (b.extract n b.size) ⟨#[46]⟩ w (by rw[iY];omega)
  rw[zB0,zBI]at l;cases hd:b.data.toList.drop n with
  |nil =>
   have E:hH (Wlx.numSz b.data.toList=n):=by show _=_;rw[j.out,if_neg u,hd];rfl
   simp only[hd]at l;clear j hd;go_enter func140,ntmps140;go_wp2_with fail
   refine q.mono ?_;rintro e w1 ⟨rfl,g⟩;go_wp2_with fail
   refine(l _).mono ?_;rintro e z ⟨rfl,rfl⟩;go_wp2;go_ret;exact⟨by rw[E.out];rfl,g⟩
  |cons c t =>
   simp only[hd]at l;by_cases B:c=46
   ·subst B;have Q:n+1+t.length=b.size:=by
     have:=congrArg hX hd;simp only[zZ,yZ]at this;have e:b.data.toList.length=b.size:=rfl;omega
    have T:(n:Int)+1<=(b.size:Int):=oM;have A:=λw=>zEO (b.extract (n+1) b.size) w (by rw[iY];omega)
    have D:b.data.toList.drop (n+1)=t:=by rw[show n+1=n+1 from rfl,<-zY,hd];rfl
    rw[zB0,D]at A;obtain⟨m,s⟩:=xV (Wlx.runP Wlx.dig t)
    have M:m<=t.length:=by rw[<-s];exact Wlx.runP_le _ _
    rw[s]at A;by_cases H:0<m
    ·have E:hH (Wlx.numSz b.data.toList=n+1+m):=by show _=_;rw[j.out,if_neg u,hd];rw[Wlx.numTl_cons,s,if_pos ⟨rfl,H⟩]
     have G:(0:Int)<(m:Int):=oM;clear j hd D s;go_enter func140,ntmps140;go_wp2_with fail
     refine q.mono ?_;rintro e w1 ⟨rfl,g⟩;go_wp2_with fail
     refine(l _).mono ?_;rintro e z ⟨rfl,rfl⟩;go_wp2_with fail
     refine(A _).mono ?_;rintro e z ⟨rfl,p⟩;go_wp2;go_ret;exact⟨by rw[E.out];exact zGr oM,g.trans (p.mono g.size)⟩
    ·have E:hH (Wlx.numSz b.data.toList=n):=by show _=_;rw[j.out,if_neg u,hd];rw[Wlx.numTl_cons,s,if_neg (λh=>H h.2)]
     have G:¬(0:Int)<(m:Int):=oM;clear j hd D s;go_enter func140,ntmps140;go_wp2_with fail
     refine q.mono ?_;rintro e w1 ⟨rfl,g⟩;go_wp2_with fail
     refine(l _).mono ?_;rintro e z ⟨rfl,rfl⟩;go_wp2_with fail
     refine(A _).mono ?_;rintro e z ⟨rfl,p⟩;go_wp2;go_ret;exact⟨by rw[E.out];rfl,g.trans (p.mono g.size)⟩
   ·have v:¬(46:UInt8)=c:=λe=>B e.symm
    rw[decide_eq_false v]at l;have E:hH (Wlx.numSz b.data.toList=n):=by show _=_;rw[j.out,if_neg u,hd];rw[Wlx.numTl_cons,if_neg (λh=>B h.1)]
    clear j hd B v;go_enter func140,ntmps140;go_wp2_with fail
    refine q.mono ?_;rintro e w1 ⟨rfl,g⟩;go_wp2_with fail
    refine(l _).mono ?_;rintro e z ⟨rfl,rfl⟩;go_wp2;go_ret;exact⟨by rw[E.out];rfl,g⟩
theorem JW(w:Bool)(i:Nat)(t:List UInt8):Wlx.quo w i (34::t)=Wlx.quo (!w) (i+1) t:=by
 conv=>lhs;unfold Wlx.quo
 rw[if_pos rfl]
theorem zCS(h:¬c=34)(i:Nat)(t:List UInt8):Wlx.quo nX i (c::t)=Wlx.quo nX (i+1) t:=by
 conv=>lhs;unfold Wlx.quo
 rw[if_neg h,if_pos rfl]
theorem J7(h:¬c=34)(i:Nat)(t:List UInt8):Wlx.quo oX i (c::t)=i:=by
 conv=>lhs;unfold Wlx.quo
 rw[if_neg h,if_neg dM]
end Go.Proofs.YthcblmpncpcfkaaGreatDoor
namespace Go.Proofs.YthcblmpncpcfkaaGreatDoor.Wnum
def rightB(n d:Int):Bool:=qX (-1000000000000<=n/\n<=1000000000000/\1<=d/\d<=1000000/\fZ n d=1)
def cN(n d:Int):Int:=if rightB n d=nX then n else 0
def cD(n d:Int):Int:=if rightB n d=nX then d else 1
def okQ(r:Rat):Bool:=qX (-1000000000000<=r.num/\r.num<=1000000000000/\r.den<=1000000)
def oB:Option Rat->Bool
 |none=>oX
 |some r=>okQ r
def oN:Option Rat->Int
 |none=>0
 |some r=>if okQ r=nX then r.num else 0
def oD:Option Rat->Int
 |none=>0
 |some r=>if okQ r=nX then(r.den:Int)else 0
def mk(n d:Int):Option Rat:=if d=0 then kX else lX (Rat.divInt n d)
theorem right_iff{n d:Int}:rightB n d=nX↔(-1000000000000<=n/\n<=1000000000000/\1<=d/\d<=1000000/\fZ n d=1):=by
 unfold rightB;exact decide_eq_true_iff
theorem cN_bd(n d:Int):-1000000000000<=cN n d/\cN n d<=1000000000000:=by
 unfold cN;split
 ·rename_i h;have:=right_iff.1 h;omega
 ·omega
theorem cD_bd(n d:Int):1<=cD n d/\cD n d<=1000000:=by
 unfold cD;split
 ·rename_i h;have:=right_iff.1 h;omega
 ·omega
theorem zBL{n d:Int}(hd:1<=d)(l:fZ n d=1):(Rat.divInt n d).num=n/\((Rat.divInt n d).den:Int)=d:=by
 rw[Rat.num_divInt,Rat.den_divInt];have g:d.sign=1:=Int.sign_eq_one_of_pos oM;have j:fZ d n=1:=by rw[Int.gcd_comm];exact l
 rw[if_neg oM,g,j];constructor
 ·simp
 ·simp;omega
theorem mk_zero(n:Int):mk n 0=kX:=by simp[mk]
theorem mk_pos{n d:Int}(h:d≠0):mk n d=lX (Rat.divInt n d):=by simp[mk,h]
theorem zPr{n d:Int}(hd:1<=d):let g:Int:=fZ n d
  1<=g/\1<=d/g/\d/g<=d/\(mk n d=lX (Rat.divInt (n/g) (d/g)))/\(Rat.divInt n d).num=n/g/\(((Rat.divInt n d).den:Nat):Int)=d/g:=by
 intro g;have G:fZ n d≠0:=by
  intro h;rw[Int.gcd_eq_zero_iff]at h;omega
 have C:1<=g:=by show(1:Int)<=(fZ n d:Int);omega
 have q:g∣d:=Int.gcd_dvd_right ..;have z:g∣n:=yY ..;obtain⟨k,l⟩:=q;obtain⟨m,u⟩:=z;have p:d/g=k:=by rw[l];exact fY _ oM
 have v:n/g=m:=by rw[u];exact fY _ oM
 have j:1<=k:=by
  rcases Int.lt_or_le 0 k with h|h
  ·omega
  ·have:g*k<=g*0:=Int.mul_le_mul_of_nonneg_left h oM;omega
 have s:k<=d:=by
  rw[l];have:1*k<=g*k:=Int.mul_le_mul_of_nonneg_right C oM;omega
 have A:Rat.divInt n d=Rat.divInt m k:=by
  rw[u,l];exact Rat.divInt_mul_left oM
 have B:fZ m k=1:=by
  have:=Int.gcd_mul_left g m k;rw[<-u,<-l]at this;have D:g.natAbs=fZ n d:=by show(Int.natAbs (fZ n d:Int))=_;simp
  rw[D]at this;have e:fZ n d*fZ m k=fZ n d*1:=by rw[Nat.mul_one];exact this.symm
  exact Nat.eq_of_mul_eq_mul_left oM e
 rw[p,v];refine⟨C,j,s,?_,?_,?_⟩
 ·rw[mk_pos oM,A]
 ·rw[A];exact(zBL j B).1
 ·rw[A];exact(zBL j B).2
theorem mk_tdiv{n d:Int}(hd:1<=d)(s:-9223372036854775807<=n)(q:n<=9223372036854775807) :
  1<=((fZ n d:Nat):Int) /\ -9223372036854775807<=n.tdiv ((fZ n d:Nat):Int)/\n.tdiv ((fZ n d:Nat):Int)<=9223372036854775807/\(Rat.divInt n d).num=n.tdiv ((fZ n d:Nat):Int)/\(((Rat.divInt n d).den:Nat):Int)=d/((fZ n d:Nat):Int):=by
 obtain⟨j,_,_,_,l,p⟩:=zPr (n:=n) hd;have g:((fZ n d:Nat):Int)∣n:=yY ..;have e:n.tdiv ((fZ n d:Nat):Int)=n/((fZ n d:Nat):Int):=Int.tdiv_eq_ediv_of_dvd g;have b1:(n.tdiv ((fZ n d:Nat):Int)).natAbs<=n.natAbs:=Int.natAbs_tdiv_le_natAbs ..;refine⟨j,oM,oM,by rw[e];exact l,p⟩
end Go.Proofs.YthcblmpncpcfkaaGreatDoor.Wnum
namespace Go.Proofs.YthcblmpncpcfkaaGreatDoor
open Tryz
open Go.RowKit
variable {w W w1 w':wW}{b i:Nat}{F:List (Wpl.Cl×Ct)}{av:Option dW}
theorem zEg{k:IntKind}{a b:Int}(h:a=b):rX (.int k a)=rX (.int k b):=by rw[h]
theorem zB1(a:Int)(w:wW)(g:-9223372036854775807<=a)(j:a<=9223372036854775807) :
  cW prog 156 #[O J a] w λe w'=>e=rX (O J (a.natAbs:Int))/\w=w':=by
 by_cases h:a<0
 ·go_enter func156,ntmps156;go_wp2;go_ret;exact⟨zEg oM,rfl⟩
 ·go_enter func156,ntmps156;go_wp2;go_ret;exact⟨zEg oM,rfl⟩
theorem zAd(a b:Int)(w:wW)(u:-9223372036854775807<=a)(v:a<=9223372036854775807)(z:-9223372036854775807<=b)(A:b<=9223372036854775807) :
  cW prog 121 #[O J a,O J b] w λe w'=>e=rX (O J (fZ a b:Int))/\∃n,w'=w.drewN n:=by
 have b1:a.natAbs<=9223372036854775807:=oM;have b2:b.natAbs<=9223372036854775807:=oM;have H:hH (cX a.natAbs b.natAbs=fZ a b):=(rfl:cX a.natAbs b.natAbs=fZ a b)
 go_enter func121,ntmps121;go_wp2_with (go_at_call 156;refine(zB1 _ _ (by assumption) (by assumption)).mono ?_;rintro e w' ⟨rfl,rfl⟩)
 go_loopw [0,1] (λx y wr=>∃p q:Nat,x=O J p/\y=O J q/\p<=9223372036854775807/\q<=9223372036854775807/\hH (cX p q=fZ a b)/\∃n,wr=w.drewN n) (λ_ y _=>(intOf y).toNat)
 case atStart=>exact⟨a.natAbs,b.natAbs,rfl,rfl,b1,b2,H,0,rfl⟩
 case round =>
  obtain⟨p,q,rfl,rfl,B,l,j,n,rfl⟩:=hrel;by_cases g:q=0
  ·subst g;go_wp2;go_ret;exact⟨zEg (by rw[<-j.out,Nat.gcd_zero_right]),n,rfl⟩
  ·have s:((q:Int) != 0)=nX:=by simp;omega
   go_wp2;go_quiet (fail)
   go_wp2;go_roundw
   case rel=>exact⟨q,p%q,rfl,by go_num,l,by have:=Nat.mod_lt p (rY g);omega,by exact(show cX q (p%q)=fZ a b by rw[<-j.out,eX p q,Nat.gcd_rec q p,eX]),_,World.drewN_drewN ..⟩
   case measure=>simp[intOf];have:=Nat.mod_lt p (rY g);omega
theorem zBk(n d:Int)(r:Rat)(w:wW)(B:-9223372036854775807<=n)(C:n<=9223372036854775807)(s:hH (r.num=n))(hd:hH ((r.den:Int)=d)) :
  CR 122 #[O J n,O J d] w (uX #[gX #[O J (Wnum.oN (lX r)),O J (Wnum.oD (lX r))],Y (Wnum.oB (lX r))]):=by
 by_cases c:n.natAbs<=1000000000000/\d<=1000000
 ·obtain⟨q,A⟩:=c;have g:Wnum.okQ r=nX:=by unfold Wnum.okQ;rw[decide_eq_true_iff,s.out];have:=hd.out;omega
  have j:hH (Wnum.oN (lX r)=n):=by show(if Wnum.okQ r=nX then r.num else 0)=n;rw[if_pos g];exact s.out
  have l:hH (Wnum.oD (lX r)=d):=by show(if Wnum.okQ r=nX then(r.den:Int)else 0)=d;rw[if_pos g];exact hd.out
  have p:hH (Wnum.oB (lX r)=nX):=g;rw[j.out,l.out,p.out];clear g j l p;have u:qX ((1000000000000:Int)<(n.natAbs:Int))=oX:=by simp;omega
  have z:qX ((1000000:Int)<d)=oX:=by simp;omega
  go_enter func122,ntmps122;go_wp2_with (go_at_call 156;refine(zB1 _ _ (by assumption) (by assumption)).mono ?_;rintro e w' ⟨rfl,rfl⟩)
  exact bodyPost_ret (v:=uX #[gX #[O J n,O J d],Y nX]) (by simp[results,results122,go_sem]) rfl ⟨rfl,(aZ _ _).alloc (dZ _) _⟩
 ·have g:Wnum.okQ r=oX:=by unfold Wnum.okQ;rw[decide_eq_false_iff_not,s.out];have:=hd.out;omega
  have j:hH (Wnum.oN (lX r)=0):=by show(if Wnum.okQ r=nX then r.num else 0)=0;rw[g];rfl
  have l:hH (Wnum.oD (lX r)=0):=by show(if Wnum.okQ r=nX then(r.den:Int)else 0)=0;rw[g];rfl
  have p:hH (Wnum.oB (lX r)=oX):=g;rw[j.out,l.out,p.out];clear g j l p;by_cases q:n.natAbs<=1000000000000
  ·have u:qX ((1000000000000:Int)<(n.natAbs:Int))=oX:=by simp;omega
   have z:qX ((1000000:Int)<d)=nX:=by simp;omega
   clear c q;go_enter func122,ntmps122;go_wp2_with (go_at_call 156;refine(zB1 _ _ (by assumption) (by assumption)).mono ?_;rintro e w' ⟨rfl,rfl⟩)
   exact bodyPost_ret (v:=uX #[gX #[O J 0,O J 0],Y oX]) (by simp[results,results122,go_sem]) rfl ⟨rfl,(aZ _ _).alloc (dZ _) _⟩
  ·have u:qX ((1000000000000:Int)<(n.natAbs:Int))=nX:=by simp;omega
   clear c q;go_enter func122,ntmps122;go_wp2_with (go_at_call 156;refine(zB1 _ _ (by assumption) (by assumption)).mono ?_;rintro e w' ⟨rfl,rfl⟩)
   exact bodyPost_ret (v:=uX #[gX #[O J 0,O J 0],Y oX]) (by simp[results,results122,go_sem]) rfl ⟨rfl,(aZ _ _).alloc (dZ _) _⟩
theorem Q9{B:Nat}{a:wW}(h:Below B a w)(n:Nat):Below B a (w.drewN n):=⟨h.os,h.tape,h.output,h.size,h.block⟩
theorem zQE(g:bL W w1):(∀b o,b<W.heap.size->w1.cell? ⟨b,o,kX⟩=W.cell? ⟨b,o,kX⟩)/\(∀b o,b<W.heap.size->w1.frozen? ⟨b,o,kX⟩=W.frozen? ⟨b,o,kX⟩) :=
 ⟨λb o h=>g.cell (p:=⟨b,o,kX⟩) h,λb o h=>g.frozen (p:=⟨b,o,kX⟩) h⟩
theorem QA(g:bL w W)(j:bL W w1):bL w w1:=g.trans (j.mono g.size)
theorem QI(h:bL w W)(o:Obj):bL w (W.alloc o):=h.alloc h.size o
theorem bsz{k:Nat}(g:bL W w1)(h:k<W.heap.size):k<w1.heap.size:=qY h g.size
theorem Qu{a b:Bool}(h:a=b):rX (Y a)=rX (Y b):=by rw[h]
theorem zER(n d:Int)(w:wW)(s:-9223372036854775808<=n)(u:n<=9223372036854775807)(v:-9223372036854775808<=d)(z:d<=9223372036854775807) :
  CR 90 #[gX #[O J n,O J d]] w (Y (Wnum.rightB n d)):=by
 by_cases j:n < -1000000000000
 ·have e:hH (Wnum.rightB n d=oX):=by show Wnum.rightB n d=oX;unfold Wnum.rightB;rw[decide_eq_false_iff_not];omega
  rw[e.out];clear e;go_enter func90,ntmps90;go_wp2;go_ret;exact⟨rfl,(aZ _ _).alloc (dZ _) _⟩
 by_cases l:1000000000000<n
 ·have e:hH (Wnum.rightB n d=oX):=by show Wnum.rightB n d=oX;unfold Wnum.rightB;rw[decide_eq_false_iff_not];omega
  rw[e.out];clear e;go_enter func90,ntmps90;go_wp2;go_ret;exact⟨rfl,(aZ _ _).alloc (dZ _) _⟩
 by_cases p:d<1
 ·have e:hH (Wnum.rightB n d=oX):=by show Wnum.rightB n d=oX;unfold Wnum.rightB;rw[decide_eq_false_iff_not];omega
  rw[e.out];clear e;go_enter func90,ntmps90;go_wp2;go_ret;exact⟨rfl,(aZ _ _).alloc (dZ _) _⟩
 by_cases q:1000000<d
 ·have e:hH (Wnum.rightB n d=oX):=by show Wnum.rightB n d=oX;unfold Wnum.rightB;rw[decide_eq_false_iff_not];omega
  rw[e.out];clear e;go_enter func90,ntmps90;go_wp2;go_ret;exact⟨rfl,(aZ _ _).alloc (dZ _) _⟩
 have e:hH ((((fZ n d:Nat):Int) == 1)=Wnum.rightB n d):=by
  show _=_
  unfold Wnum.rightB;by_cases g:fZ n d=1
  ·rw[g,decide_eq_true oM];rfl
  ·rw[decide_eq_false oM,beq_eq_false_iff_ne];omega
 rw[<-e.out];clear e;go_enter func90,ntmps90;go_wp2_with (go_at_call 121;refine(zAd _ _ _ oM oM oM oM).mono ?_;rintro e w' ⟨rfl,A,rfl⟩)
 go_ret;exact⟨rfl,Q9 ((aZ _ _).alloc (dZ _) _) _⟩
theorem zMW{t:ByteArray}(h:¬t=⟨#[]⟩):(t.toList == [])=oX:=by
 rw[beq_eq_false_iff_ne];intro e;rw[ByteArray.toList_eq]at e;exact h (pY (Array.ext' e))
def knd(t:ByteArray):Int:=if t=⟨#[]⟩then 0 else if Wlx.begins [61] t.data.toList then 2 else 1
theorem zFi(f:Ct)(w:wW)(u:f.t.size<=9223372036854775807):CR 31 #[ctV f] w (O J (knd f.t)):=by
 obtain⟨t,a,n,k⟩:=f;have g:=QI (aZ _ w) (Z #[V t,U a n k] 56);have p:=AtL.new0 w 56 [V t,U a n k];have j:=zAD t ⟨#[61]⟩ (w.alloc (Z #[V t,U a n k] 56)) u;unfold knd;simp only at u ⊢;by_cases l:t=⟨#[]⟩
 ·rw[if_pos l];subst l;clear j;go_enter func31,ntmps31;go_upto_region 1 with fail
  generalize w.alloc (Z #[V ⟨#[]⟩,U a n k] 56)=v at*;obtain⟨z,_,_,_⟩:=p.two;go_wp2;go_ret;exact⟨rfl,g⟩
 ·rw[if_neg l];obtain⟨q,s⟩:=xV (Wlx.begins [61] t.data.toList)
  rw[s];have j:cW prog 45 #[V t,V ⟨#[61]⟩] (w.alloc (Z #[V t,U a n k] 56)) λe w'=>e=rX (Y q)/\(w.alloc (Z #[V t,U a n k] 56))=w':=by rw[<-s];exact j
  have A:=zMW l;clear s u;go_enter func31,ntmps31;go_upto_region 1 with fail
  generalize w.alloc (Z #[V t,U a n k] 56)=v at*;obtain⟨z,_,_,_⟩:=p.two;go_wp2_with fail
  refine j.mono ?_;rintro e w1 ⟨rfl,rfl⟩;clear j;cases q with
  |true =>
   go_wp2;go_ret;exact⟨rfl,g⟩
  |false =>
   go_wp2;go_ret;exact⟨rfl,g⟩
theorem zOO(s:ByteArray)(w:wW)(g:¬s.data.toList.head? = lX 61) :
  cW prog 50 #[V s,V ⟨#[61]⟩] w λe w'=>e=rX (uX #[V s,Y oX])/\w=w':=by
 by_cases q:0<s.size
 ·have l:(1:Int)<=(s.size:Int):=oM;have p:((s.extract 0 1).toList == [61])=oX:=by
   rw[beq_eq_false_iff_ne];intro e;apply g
   rw[ByteArray.toList_eq,vZ,Array.toList_extract]at e;cases j:s.data.toList with
   |nil=>rw[j]at e;simp at e
   |cons c t=>rw[j]at e;simp[tY]at e;rw[e];rfl
  clear g;go_enter func50,ntmps50;go_wp2;go_ret2
  exact⟨rfl,rfl⟩
 ·have l:¬(1:Int)<=(s.size:Int):=oM;clear g;go_enter func50,ntmps50;go_wp2;go_ret2
  exact⟨rfl,rfl⟩
theorem zCp(t:List UInt8)(w:wW)(u:t.length<=9223372036854775806) :
  cW prog 50 #[V ⟨(61::t).toArray⟩,V ⟨#[61]⟩] w λe w'=>e=rX (uX #[V ⟨t.toArray⟩,Y nX])/\w=w':=by
 obtain⟨s,g⟩:∃s:ByteArray,s=⟨(61::t).toArray⟩:=⟨_,rfl⟩
 have j:s.size=t.length+1:=by rw[g];rfl
 have l:((s.extract 0 1).toList == [61])=nX:=by rw[g];simp[ByteArray.toList_eq,vZ,tY]
 have p:s.extract 1 s.size=⟨t.toArray⟩:=by
  rw[j,g];apply pY
  rw[vZ];apply Array.ext'
  simp[tY]
 have q:(1:Int)<=(s.size:Int):=oM;rw[<-g];clear g j;go_enter func50,ntmps50;go_wp2;go_ret2
 exact⟨rfl,rfl⟩
def fgn:List UInt8->Nat->Int
 |[],_=>-1
 |b::r,i=>if b.toNat<32\/126<b.toNat then(i:Int)else fgn r (i+1)
theorem zAM(t:ByteArray)(w:wW)(hs:t.size<=1024):CR 49 #[V t] w (O J (fgn t.data.toList 0)):=by
 obtain⟨l,A⟩:∃l,t=(⟨l.toArray⟩:ByteArray):=⟨t.data.toList,by apply pY;simp⟩
 have X:t.size=l.length:=by rw[A];rfl
 have M:t.data.toList=l:=by rw[A]
 rw[M];rw[X]at hs;have v:hH (∀(i:Nat)(h:i<l.length)(N:i<t.size),t[i]=l[i]):=λi h N=>by
  subst A;rfl
 obtain⟨R,p⟩:=xV (fgn l 0)
 rw[p];have B:hH (fgn (l.drop 0) 0=R):=p;clear A M p;go_enter func49,ntmps49;go_upto_region 2 with fail
 go_loopg [6,3] l.length (λgk x y wr=>∃i:Nat,x=O J (i:Int)/\gk=l.length-i/\hH (i<=l.length)/\hH (fgn (l.drop i) i=R)/\wr=w)
 case atStart=>exact⟨0,rfl,rfl,iZ _,B,rfl⟩
 case round =>
  obtain⟨i,rfl,hg,HI,j,rfl⟩:=hrel;by_cases q:i<l.length
  ·have H:(i:Int)<(t.size:Int):=oM;have T:(0:Int)<=(i:Int):=oM;have aa:J.wrap ((i:Int)+1)=(i:Int)+1:=by rw[bZ];omega
   have I:i<t.size:=oM;obtain⟨b,G⟩:=xV (l[i])
   have g:t[i]=b:=by rw[v.out i q I,G]
   have s:hH (fgn (l.drop i) i=if b.toNat<32\/126<b.toNat then(i:Int)else fgn (l.drop (i+1)) (i+1)):=by
    show _=_
    rw[gZ q,G];rfl
   clear G;by_cases z:b.toNat<32
   ·have Q:((t[i]).toNat:Int)<32:=by rw[g];omega
    have u:hH (R=(i:Int)):=by show _=_;rw[<-j.out,s.out,if_pos (xZ z)]
    clear s j v z g;go_wp2;go_ret;exact⟨by rw[u.out];rfl,aZ _ _⟩
   ·have Q:¬((t[i]).toNat:Int)<32:=by rw[g];omega
    by_cases D:126<b.toNat
    ·have S:(126:Int)<((t[i]).toNat:Int):=by rw[g];omega
     have u:hH (R=(i:Int)):=by show _=_;rw[<-j.out,s.out,if_pos (sZ D)]
     clear s j v z D g;go_wp2;go_ret;exact⟨by rw[u.out];rfl,aZ _ _⟩
    ·have S:¬(126:Int)<((t[i]).toNat:Int):=by rw[g];omega
     have C:hH (fgn (l.drop (i+1)) (i+1)=R):=by show _=_;rw[<-j.out,s.out,if_neg oM]
     clear s j v z D g;go_wp2_with fail
     go_roundg (l.length-(i+1))
     case rel=>exact⟨i+1,sM,rfl,q,C,rfl⟩
     case measure=>omega
  ·have H:¬(i:Int)<(t.size:Int):=oM;have u:hH (R=-1):=by
    show _=_
    rw[<-j.out,jZ oM];rfl
   clear j v;go_wp2;go_ret;exact⟨by rw[u.out];rfl,aZ _ _⟩
theorem zSK(t:ByteArray)(a:Option dW)(n k:Nat)(w:wW):(Instr.field 56 (gX #[V t,U a n k]) 0).run prog w=.ok (V t) w:=kR
theorem zSJ(t:ByteArray)(a:Option dW)(n k:Nat)(w:wW):(Instr.field 56 (gX #[V t,U a n k]) 1).run prog w=.ok (U a n k) w:=kR
theorem MB.below(h:MB w b F)(p:bL w w'):MB w' b F:=by
 have g:=h.lt;obtain⟨es,ck,j,l⟩:=h;exact⟨es,ck,by rw[p.block b g];exact j,l⟩
theorem zBn(I D:Nat)(nv:vW)(Q:Int)(F:List (Wpl.Cl×Ct))(x:Wpl.Cl)(w:wW)(h:AtL w I [nv,O J Q,.map (lX D)])(hm:MB w D F) :
  CR 10 #[pX (lX ⟨I,0,kX⟩),gX #[O J x.s,O J x.r,O J x.c]] w (V (gtC x F).t):=by
 have q:=QI (aZ _ w) (Z #[O J x.s,O J x.r,O J x.c] 36);have p:=AtL.f3 (AtL.new0 w 36 [O J x.s,O J x.r,O J x.c]);have h':=AtL.below q h;obtain⟨_,_,z,_⟩:=h'.three;have v:=hid (hm.below q);have u:=hid q;clear h hm h' q;obtain⟨g,M⟩:=xV (gtC x F)
 have HG:=hid M;rw[M];clear M;obtain⟨gt,T,X,gk⟩:=g;go_enter func10,ntmps10;go_upto_region 1 with fail
 generalize w.alloc (Z #[O J x.s,O J x.r,O J x.c] 36)=C at*;have B:JI C w.heap.size (O J x.s) (O J x.r) (O J x.c):=p;clear p;have l:=(aZ C.heap.size C).drew;refine wp_region_held_drew (S:=λW=>W.cell? ⟨I,2,kX⟩=lX (.map (lX D))/\JI W w.heap.size (O J x.s) (O J x.r) (O J x.c)) kR ⟨QB l z,QG l B⟩ (λj=>?_);have H:=hid (MB.below v.out l);have G:=hid (QA u.out l);replace B:=QG l B
 replace z:=QB l z
 clear l v u;generalize C.drew=R at*;refine tkQ 0 ?_
 refine tkQ 1 ?_
 refine tkQ 2 ?_
 refine tkQ 3 ?_
 refine tkQ 4 ?_
 refine rdQ 5 (λK A=>?_);have N:(Instr.lookup 49 (.map (lX D)) (gX #[O J x.s,O J x.r,O J x.c]) oX).run prog R=.ok (gX #[V gt,U T X gk]) R:=by have:=zDP H.out x;rw[HG.out]at this;exact this
 go_simp
 refine hkQ A ⟨z,B⟩ (λj=>?_);clear A K N
 have f0:=λw=>zSK gt T X gk w
 refine tkQ 6 ?_
 refine rdQ 7 (λK A=>?_);go_simp
 refine hkQ A ⟨z,B⟩ (λj=>?_);clear A K
 refine wpAnyH_done kR ?_ _;clear j;go_wp2;go_ret;exact⟨rfl,G.out⟩
theorem zAr(N I:Nat)(nv:vW)(X:Int)(F:List (Wpl.Cl×Ct))(x:Wpl.Cl)(w:wW)(h:AtL w N [nv,O J X,.map (lX I)])(hm:MB w I F)(T:(gtC x F).t.size<=9223372036854775807) :
  CR 14 #[pX (lX ⟨N,0,kX⟩),gX #[O J x.s,O J x.r,O J x.c]] w (O J (knd (gtC x F).t)):=by
 have q:=QI (aZ _ w) (Z #[O J x.s,O J x.r,O J x.c] 36);have p:=AtL.f3 (AtL.new0 w 36 [O J x.s,O J x.r,O J x.c]);have h':=AtL.below q h;obtain⟨_,_,v,_⟩:=h'.three;have D:=hid (hm.below q);have B:=hid q;clear h hm h' q;obtain⟨g,Q⟩:=xV (gtC x F)
 have HG:=hid Q;rw[Q]at T ⊢;have KA:=λW=>zFi g W T
 clear Q T;obtain⟨gt,ga,gn,gk⟩:=g;go_enter func14,ntmps14;go_upto_region 1 with fail
 generalize w.alloc (Z #[O J x.s,O J x.r,O J x.c] 36)=H at*;have A:JI H w.heap.size (O J x.s) (O J x.r) (O J x.c):=p;clear p;have l:=(aZ H.heap.size H).drew;refine wp_region_held_drew (S:=λW=>W.cell? ⟨N,2,kX⟩=lX (.map (lX I))/\JI W w.heap.size (O J x.s) (O J x.r) (O J x.c)) kR ⟨QB l v,QG l A⟩ (λj=>?_);have G:=hid (MB.below D.out l);have C:=hid (QA B.out l);replace A:=QG l A
 replace v:=QB l v
 clear l D B;generalize H.drew=W1 at*;refine tkQ 0 ?_
 refine tkQ 1 ?_
 refine tkQ 2 ?_
 refine tkQ 3 ?_
 refine tkQ 4 ?_
 refine rdQ 5 (λK z=>?_);have R:(Instr.lookup 49 (.map (lX I)) (gX #[O J x.s,O J x.r,O J x.c]) oX).run prog W1=.ok (gX #[V gt,U ga gn gk]) W1:=by have:=zDP G.out x;rw[HG.out]at this;exact this
 go_simp
 refine hkQ z ⟨v,A⟩ (λj=>?_);clear z K R
 refine rdQ 6 (λK z=>?_);go_simp
 refine(KA _).mono ?_;rintro e w2 ⟨rfl,u⟩;have M:=hid (QA C.out u);replace A:=QG u A
 replace v:=QB u v
 clear u C KA G;go_wp2_with fail
 refine hkQ z ⟨v,A⟩ (λj=>?_);clear z K
 refine rdQ 7 (λK z=>?_);go_simp
 refine hkQ z ⟨v,A⟩ (λj=>?_);clear z K
 refine wpAnyH_done kR ?_ _;clear j;go_wp2;go_ret;exact⟨rfl,M.out⟩
theorem zAF(j l:Nat)(p:vW)(g:Int)(w:wW)(h:AtL w j [p,O J g,.map (lX l)]):CR 9 #[pX (lX ⟨j,0,kX⟩)] w (O J g):=by
 obtain⟨_,q,_,_⟩:=h.three;clear h;go_enter func9,ntmps9;go_wp2;go_ret;exact⟨rfl,aZ _ _⟩
theorem zLa(h:MB w b F)(l:TypeId):(Builtin.len_ #[49] l #[.map (lX b)]).run prog w=.ok (O J (F.length:Int)) w:=by
 obtain⟨es,ck,g,j,_⟩:=h;have e:es.size=F.length:=by
  have:=congrArg hX j;simpa using this
 simp[Builtin.len_,run_underlying Vr,MapKept.run_getObj_map g,kZ,e,goInt]
theorem zCl(j q:Nat)(s:vW)(g:Int)(F:List (Wpl.Cl×Ct))(w:wW)(h:AtL w j [s,O J g,.map (lX q)])(p:MB w q F):CR 13 #[pX (lX ⟨j,0,kX⟩)] w (O J (F.length:Int)):=by
 obtain⟨_,_,v,_⟩:=h.three;have l:=λu=>zLa p u
 clear h p;go_enter func13,ntmps13;go_wp2;go_ret;exact⟨rfl,aZ _ _⟩
structure Ch where
 x:Wpl.Cl
 t:ByteArray
def chL(a:Ch):List vW:=[O J a.x.s,O J a.x.r,O J a.x.c,V a.t]
def RdH(w:wW)(av:Option dW)(L:List Ch):Prop:=∀(i:Nat)(a:Ch),L[i]?=lX a->∃bb off,av=lX ⟨bb,off,kX⟩/\w.rangeAt bb (off+i*4) (chL a)
theorem RdH.below{L:List Ch}(h:RdH w av L)(q:bL w w'):RdH w' av L:=λi a p=>by
 obtain⟨l,g,e,s⟩:=h i a p;exact⟨l,g,e,λj v u=>QB q (s j v u)⟩
def lbP(F:List (Wpl.Cl×Ct)):List Ch->Int->Int
 |[],n=>n
 |a::r,n=>lbP F r ((if knd (gtC a.x F).t≠0 then n-1 else n)+(if a.t=⟨#[]⟩then 0 else 1))
theorem zGN(bb mb:Nat)(nv:vW)(I:Int)(F:List (Wpl.Cl×Ct))(av:Option dW)(n cap:Nat)(L:List Ch)(w:wW)(h:AtL w bb [nv,O J I,.map (lX mb)])(hm:MB w mb F)(hr:RdH w av L)(hn:L.length=n)(hN:True->n<=256)(hF:True->F.length<=1000000)(hs:∀y,(gtC y F).t.size<=9223372036854775807) :
  CR 18 #[pX (lX ⟨bb,0,kX⟩),U av n cap] w (O J (lbP F L (F.length:Int))):=by
 have LN:=zCl bb mb nv I F w h hm;have KN:=λy W (hb:bL w W)=>zAr bb mb nv I F y W (AtL.below hb h) (hm.below hb) (hs y)
 obtain⟨R,hR⟩:=xV (lbP F L (F.length:Int))
 obtain⟨M,T⟩:=xV F.length
 rw[hR];rw[T]at LN hF hR;have ab:=hid hR;have C:=hid (And.intro hr hn);clear h hm hs hR hr hn T;go_enter func18,ntmps18;go_wp2_with fail
 refine LN.mono ?_;rintro e w1 ⟨rfl,S⟩;have aa:=hid S;clear LN S;go_upto_region 3 with fail
 go_loopg [5,12] n (λgk y x wr=>∃(i:Nat)(m:Int),y=O J m/\x=O J (i:Int)/\gk=n-i/\hH (i<=n)/\hH (lbP F (L.drop i) m=R)/\hH (-(i:Int)<=m/\m<=(M:Int)+i)/\hH (bL w wr))
 case atStart=>exact⟨0,M,rfl,rfl,rfl,iZ _,ab,⟨oM,oM⟩,aa⟩
 case round =>
  obtain⟨i,m,rfl,rfl,hg,HI,HR,z,HB⟩:=hrel;generalize ag:wr=W at*;clear ag;by_cases g:i<n
  ·have ad:(i:Int)<(n:Int):=oM;have ah:(0:Int)<=(i:Int):=oM;have ak:J.wrap ((i:Int)+1)=(i:Int)+1:=by have:=hN trivial;rw[bZ];omega
   obtain⟨a,ha⟩:∃a,L[i]?=lX a:=⟨L[i]'(by rw[C.out.2];exact g),mZ _⟩
   obtain⟨cb,A,e,j⟩:=C.out.1.below HB.out i a ha;subst e;have k0:W.cell? ⟨cb,A+i*4,kX⟩=lX (O J a.x.s):=j 0 _ rfl;have k1:W.cell? ⟨cb,A+i*4+1,kX⟩=lX (O J a.x.r):=j 1 _ rfl;have k2:W.cell? ⟨cb,A+i*4+2,kX⟩=lX (O J a.x.c):=j 2 _ rfl;have k3:W.cell? ⟨cb,A+i*4+3,kX⟩=lX (V a.t):=j 3 _ rfl;obtain⟨kd,G⟩:=xV (knd (gtC a.x F).t)
   have v:hH (lbP F (L.drop (i+1)) ((if kd≠0 then m-1 else m)+(if a.t=⟨#[]⟩then 0 else 1))=R):=by
    show _=_
    have e1:L[i]'(by rw[C.out.2];exact g)=a:=by
     have:=mZ (l:=L) (i:=i) (by rw[C.out.2];exact g);rw[ha]at this;exact(Option.some.inj this).symm
    have:=HR.out;rw[gZ (by rw[C.out.2];exact g),e1]at this;rw[<-G];exact this
   have Q:=QI (aZ _ W) (Z #[O J a.x.s,O J a.x.r,O J a.x.c,V a.t] 38);have X:=AtL.new0 W 38 [O J a.x.s,O J a.x.r,O J a.x.c,V a.t];have B:=hid (QA HB.out Q);have KK:=KN a.x _ B.out;rw[G]at KK;clear ha j Q G HR;go_upto_region 5 with fail
   clear k0 k1 k2 k3 HB;generalize W.alloc (Z #[O J a.x.s,O J a.x.r,O J a.x.c,V a.t] 38)=W0 at*;generalize ac:W.heap.size=eb at*;clear ac;have j0:=X.2.1 0 _ rfl;have j1:=X.2.1 1 _ rfl;have j2:=X.2.1 2 _ rfl;go_wp2_with fail
   refine KK.mono ?_;rintro e w2 ⟨rfl,D⟩;have u:=hid (QA B.out D);have j3:w2.cell? ⟨eb,3,kX⟩=lX (V a.t):=(AtL.below D X).2.1 3 _ rfl;clear KK D B X j0 j1 j2;have ae:=z.out;have ai:J.wrap (m-1)=m-1:=by have:=hN trivial;have:=hF trivial;rw[bZ];omega
   have af:wrap64 m=m:=by have:=hN trivial;have:=hF trivial;unfold wrap64;omega
   have aj:J.wrap (m+1)=m+1:=by have:=hN trivial;have:=hF trivial;rw[bZ];omega
   clear ae;obtain⟨at_,N⟩:∃t,a.t=t:=⟨_,rfl⟩
   rw[N]at j3 v;clear N;by_cases hk:kd=0
   ·by_cases H:at_=⟨#[]⟩
    ·subst H;have p:hH (lbP F (L.drop (i+1)) m=R /\ -((i+1:Nat):Int)<=m/\m<=(M:Int)+((i+1:Nat):Int)):=by
      have q:=v.out;have h2:=z.out;rw[hk]at q;exact⟨by simpa using q,oM,oM⟩
     clear v z;go_wp2_with fail
     go_roundg (n-(i+1))
     case rel=>exact⟨i+1,m,rfl,sM,rfl,g,p.out.1,p.out.2,u⟩
     case measure=>omega
    ·have x1:=zMW H;have p:hH (lbP F (L.drop (i+1)) (m+1)=R /\ -((i+1:Nat):Int)<=(m+1)/\(m+1)<=(M:Int)+((i+1:Nat):Int)):=by
      have q:=v.out;have h2:=z.out;rw[if_neg (not_not_intro hk),if_neg H]at q;exact⟨q,oM,oM⟩
     clear v z;go_wp2_with fail
     go_roundg (n-(i+1))
     case rel=>exact⟨i+1,(m+1),rfl,sM,rfl,g,p.out.1,p.out.2,u⟩
     case measure=>omega
   ·by_cases H:at_=⟨#[]⟩
    ·subst H;have p:hH (lbP F (L.drop (i+1)) (m-1)=R /\ -((i+1:Nat):Int)<=(m-1)/\(m-1)<=(M:Int)+((i+1:Nat):Int)):=by
      have q:=v.out;have h2:=z.out;rw[if_pos hk]at q;exact⟨by simpa using q,oM,oM⟩
     clear v z;go_wp2_with fail
     go_roundg (n-(i+1))
     case rel=>exact⟨i+1,(m-1),rfl,sM,rfl,g,p.out.1,p.out.2,u⟩
     case measure=>omega
    ·have x1:=zMW H;have p:hH (lbP F (L.drop (i+1)) m=R /\ -((i+1:Nat):Int)<=m/\m<=(M:Int)+((i+1:Nat):Int)):=by
      have q:=v.out;have h2:=z.out;rw[if_pos hk,if_neg H]at q;rw[show m-1+1=m from by omega]at q;exact⟨q,oM,oM⟩
     clear v z;go_wp2_with fail
     go_roundg (n-(i+1))
     case rel=>exact⟨i+1,m,by rw[af],sM,rfl,g,p.out.1,p.out.2,u⟩
     case measure=>omega
  ·have ad:¬(i:Int)<(n:Int):=oM;have p:hH (R=m):=by
    show _=_
    have:=C.out.2;rw[<-HR.out,jZ oM];rfl
   clear HR C KN;go_wp2;go_ret;exact⟨by rw[p.out];rfl,HB.out⟩
def RdE(w:wW)(av:Option dW)(E:List (List Ch)):Prop:=∀(i:Nat)(L:List Ch),E[i]?=lX L->∃bb off p m k,av=lX ⟨bb,off,kX⟩/\w.cell? ⟨bb,off+i,kX⟩=lX (U p m k)/\L.length=m/\RdH w p L/\(p=kX->m=0/\k=0)
theorem RdE.below{E:List (List Ch)}(h:RdE w av E)(j:bL w w'):RdE w' av E:=λi L z=>by
 obtain⟨l,g,p,m,k,e,q,s,u,v⟩:=h i L z;exact⟨l,g,p,m,k,e,QB j q,s,u.below j,v⟩
def szH(L:List Ch):Nat:=(L.map (λa=>a.t.size)).sum
def wtE(E:List (List Ch)):Nat:=(E.map (λL=>L.length+szH L)).sum
theorem zLV{L:List Ch}{a:Ch}(h:L[i]?=lX a):szH (L.take (i+1))=szH (L.take i)+a.t.size:=by
 unfold szH;rw[wY,h];simp
theorem zFh{E:List (List Ch)}{L:List Ch}(h:E[i]?=lX L):wtE (E.take (i+1))=wtE (E.take i)+(L.length+szH L):=by
 unfold wtE;rw[wY,h];simp
def MuQ(E:List (List Ch))(w:wW)(e:Ending)(w':wW):Prop:=(∃b,e=rX (Y b)/\(b=oX->E.length+wtE E<=6000))/\w=w'
theorem zNN(E:List (List Ch))(av:Option dW)(n cap:Nat)(w:wW)(X:RdE w av E)(T:E.length=n)(I:True->n<=1000000000000000)(g:∀L∈E,L.length<=1000000000000000/\∀a∈L,a.t.size<=1000000000000000) :
  cW prog 5 #[U kX 0 0,U av n cap,U kX 0 0] w (MuQ E w):=by
 have z:=hid (And.intro X (And.intro T g));have af:J.wrap ((n:Int))=(n:Int):=by have:=I trivial;rw[bZ];omega
 clear X T g;go_enter func5,ntmps5;go_upto_region 3 with fail
 go_loopg [7,8] 1 (λgk y x wr=>y=O J (n:Int)/\x=O J 0/\w=wr)
 case atStart=>exact⟨sM,rfl,rfl⟩
 case round =>
  obtain⟨rfl,rfl,rfl⟩:=hrel;go_upto_region 7 with fail
  go_loopg [7,9] n (λgk y x wr=>∃(i m:Nat),y=O J (m:Int)/\x=O J (i:Int)/\gk=n-i/\hH (i<=n)/\hH ((6000<m\/m=n+wtE (E.take i))/\m<=4000000000000000)/\w=wr)
  case atStart=>exact⟨0,n,rfl,rfl,rfl,iZ _,⟨sZ (by simp[wtE]),by have:=I trivial;omega⟩,rfl⟩
  case round =>
   obtain⟨i,m,rfl,rfl,hg,HI,S,rfl⟩:=hrel;by_cases v:i<n
   ·have M:(i:Int)<(n:Int):=oM;have ac:(0:Int)<=(i:Int):=oM;have ai:J.wrap ((i:Int)+1)=(i:Int)+1:=by have:=I trivial;rw[bZ];omega
    by_cases hm:m<=6000
    ·have Q:(m:Int)<=6000:=oM;obtain⟨L,g⟩:∃L,E[i]?=lX L:=⟨E[i]'(by rw[z.out.2.1];exact v),mZ _⟩
     obtain⟨bb,ak,p,l,kk,e,k0,u,C,_⟩:=z.out.1 i L g;subst e;have ae:l<=1000000000000000:=by rw[<-u];exact(z.out.2.2 L (oZ g)).1
     have A:hH (RdH w p L/\L.length=l/\(∀a∈L,a.t.size<=1000000000000000)/\m+l+szH L=n+wtE (E.take (i+1))):=by
      refine⟨C,u,(z.out.2.2 L (oZ g)).2,?_⟩;rw[zFh g];have:=S.out.1;omega
     have ag:J.wrap ((m:Int)+(l:Int))=(m:Int)+(l:Int):=by rw[bZ];omega
     clear g C u;go_upto_region 11 with fail
     go_loopg [7,10] l (λgk y x wr=>∃(k q:Nat),y=O J (q:Int)/\x=O J (k:Int)/\gk=l-k/\hH (k<=l)/\hH ((6000<q\/q=m+l+szH (L.take k))/\q<=4000000000000000)/\w=wr)
     case atStart=>exact⟨0,m+l,sM,rfl,rfl,iZ _,⟨sZ (by simp[szH]),oM⟩,rfl⟩
     case round =>
      obtain⟨k,q,rfl,rfl,ab,HK,D,rfl⟩:=hrel;by_cases B:k<l
      ·have N:(k:Int)<(l:Int):=oM;have ad:(0:Int)<=(k:Int):=oM;have aj:J.wrap ((k:Int)+1)=(k:Int)+1:=by rw[bZ];omega
       by_cases hq:q<=6000
       ·have R:(q:Int)<=6000:=oM;obtain⟨a,G⟩:∃a,L[k]?=lX a:=⟨L[k]'(by rw[A.out.2.1];exact B),mZ _⟩
        obtain⟨cb,co,e,j⟩:=A.out.1 k a G;subst e;have k3:w.cell? ⟨cb,co+k*4+3,kX⟩=lX (V a.t):=j 3 _ rfl;have aa:=A.out.2.2.1 a (oZ G);have ah:J.wrap ((q:Int)+(a.t.size:Int))=(q:Int)+(a.t.size:Int):=by rw[bZ];omega
        have H:hH ((6000<q+a.t.size\/q+a.t.size=m+l+szH (L.take (k+1)))/\q+a.t.size<=4000000000000000):=by
         refine⟨?_,oM⟩;rw[zLV G];have:=D.out.1;omega
        clear G j;go_wp2_with fail
        go_roundg (l-(k+1))
        case rel=>exact⟨k+1,q+a.t.size,sM,sM,rfl,B,H,rfl⟩
        case measure=>omega
       ·have R:¬(q:Int)<=6000:=oM;have s:hH ((6000<q\/q=n+wtE (E.take (i+1)))/\q<=4000000000000000):=⟨xZ oM,D.out.2⟩
        go_wp2_with fail
        go_roundg (n-(i+1))
        case rel=>exact⟨i+1,q,rfl,sM,rfl,v,s,rfl⟩
        case measure=>omega
      ·have N:¬(k:Int)<(l:Int):=oM;have s:hH ((6000<q\/q=n+wtE (E.take (i+1)))/\q<=4000000000000000):=by
        refine⟨?_,D.out.2⟩;rcases D.out.1 with h|h
        ·exact xZ h
        ·rw[uZ (by rw[A.out.2.1];omega)]at h;exact sZ (by rw[h];exact A.out.2.2.2)
       go_wp2_with fail
       go_roundg (n-(i+1))
       case rel=>exact⟨i+1,q,rfl,sM,rfl,v,s,rfl⟩
       case measure=>omega
    ·have Q:¬(m:Int)<=6000:=oM;go_wp2;go_ret;exact⟨⟨nX,by simp;try omega,λh=>by cases h⟩,rfl⟩
   ·have M:¬(i:Int)<(n:Int):=oM;have HE:hH (¬6000<m->E.length+wtE E<=6000):=λh=>by
     have:=S.out.1;rw[uZ (by rw[z.out.2.1];omega)]at this;have:=z.out.2.1;omega
    go_wp2;go_ret;refine⟨⟨qX (6000<(m:Int)),rfl,λh=>HE.out ?_⟩,rfl⟩;have:=of_decide_eq_false h;omega
end Go.Proofs.YthcblmpncpcfkaaGreatDoor
namespace Go.Proofs.YthcblmpncpcfkaaGreatDoor.Wv
def prts(l:List UInt8):Bool:=l.all Wlx.prt
theorem prts_cons(c:UInt8)(t:List UInt8):prts (c::t)=(Wlx.prt c&&prts t):=rfl
def flt(f:Int):Bool:=qX (1<=f)&&qX (f<=8)
def right(k n d:Int)(t:ByteArray)(b:Bool)(f:Int):Bool :=
 if k=0 then qX (n=0)&&qX (d=0)&&qX (t=⟨#[]⟩) && !b&&qX (f=0)
 else if k=1 then Wnum.rightB n d&&qX (t=⟨#[]⟩) && !b&&qX (f=0)
 else if k=2 then(qX (t.size<=256)&&prts t.data.toList)&&qX (n=0)&&qX (d=0) && !b&&qX (f=0)
 else if k=3 then qX (n=0)&&qX (d=0)&&qX (t=⟨#[]⟩)&&qX (f=0)
 else if k=4 then flt f&&qX (n=0)&&qX (d=0)&&qX (t=⟨#[]⟩) && !b
 else oX
end Go.Proofs.YthcblmpncpcfkaaGreatDoor.Wv
namespace Go.Proofs.YthcblmpncpcfkaaGreatDoor.Wt
structure Vl where
 k:Int
 n:Int
 d:Int
 t:ByteArray
 b:Bool
 f:Int
structure Rf where
 s:ByteArray
 r:Int
 c:Int
 fr:Bool
 fc:Bool
structure Nd where
 k:Int
 v:Vl
 op:Int
 nm:ByteArray
 ar:Int
 a:Rf
 b:Rf
def v0:Vl:=⟨0,0,0,⟨#[]⟩,oX,0⟩
def r0:Rf:=⟨⟨#[]⟩,0,0,oX,oX⟩
def isNm(p:UInt8->Bool)(l:List UInt8):Bool:=qX (1<=l.length)&&qX (l.length<=16)&&p (l.headD 0)&&l.all (λc=>p c||Wlx.dig c)
def ltr(c:UInt8):Bool:=Wlx.cap c||Wlx.low c
def fnNm(b:ByteArray):Bool:=isNm Wlx.cap b.data.toList
def shNm(b:ByteArray):Bool:=isNm ltr b.data.toList
def inR(r c:Int):Bool:=qX (0<=r)&&qX (r<65536)&&(qX (0<=c)&&qX (c<256))
def rfOk(a:Rf):Bool:=inR a.r a.c&&(qX (a.s=⟨#[]⟩)||shNm a.s)
def vlOk(v:Vl):Bool :=
 if v.k=0 then oX
 else if v.k=1 then Wv.right v.k v.n v.d v.t v.b v.f&&qX (0<=v.n)&&qX (1000000%v.d=0)
 else Wv.right v.k v.n v.d v.t v.b v.f
def opsT:List (Int×List UInt8×Int) :=
 [(21,[61],0),(22,[60,62],0),(23,[60],0),(24,[60,61],0),(25,[62],0),(26,[62,61],0),(16,[38],1),(11,[43],2),(12,[45],2),(13,[42],3),(14,[47],3),(15,[94],4),(1,[45],5),(2,[43],5),(3,[37],6)]
def opOf(o:Int):Option (Int×List UInt8×Int):=opsT.find? λx=>x.1 == o
def opAs(m:List UInt8)(t:Int):Option (Int×List UInt8×Int):=opsT.find? λx=>(x.2.1 == m)&&(x.2.2 == t)
def isBin(o:Int):Bool:=(qX (11<=o)&&qX (o<=16))||(qX (21<=o)&&qX (o<=26))
def parts(x:Nd):Int:=if x.k=4 then 1 else if x.k=5 then 2 else x.ar
end Go.Proofs.YthcblmpncpcfkaaGreatDoor.Wt
namespace Go.Proofs.YthcblmpncpcfkaaGreatDoor
open Tryz
open Go.RowKit
variable {W w:wW}{ka kb k kc:Nat}{x y:Wt.Nd}{us:List vW}{n d f K o:Int}{t m:ByteArray}{b:Bool}
theorem zC2(f:Int)(w:wW):cW prog 91 #[O J f] w λe w'=>e=rX (Y (Wv.flt f))/\w=w':=by
 unfold Wv.flt;go_enter func91,ntmps91;by_cases a:1<=f
 ·go_wp2;go_ret;exact⟨Qu (by simp[a]),rfl⟩
 ·go_wp2;go_ret;exact⟨Qu (by rw[decide_eq_false oM];rfl),rfl⟩
theorem zN4(c:UInt8):Wlx.prt c=(qX (32<=(c.toNat:Int))&&qX ((c.toNat:Int)<=126)):=by
 unfold Wlx.prt;simp
theorem zF2(b:ByteArray)(w:wW)(D:b.size<=9223372036854775807):cW prog 87 #[V b] w λe w'=>e=rX (Y (Wv.prts b.data.toList))/\w=w':=by
 obtain⟨R,s⟩:=xV (Wv.prts b.data.toList)
 have v:hH (R=Wv.prts (b.data.toList.drop 0)):=s.symm;rw[s];clear s;go_enter func87,ntmps87;go_wp2_with fail
 go_loopg [6] (b.size) (λgk x wr=>∃j:Nat,x=O J j/\gk=b.size-j/\j<=b.size/\hH (R=Wv.prts (b.data.toList.drop j))/\wr=w)
 case atStart=>exact⟨0,rfl,rfl,iZ _,v,rfl⟩
 case round =>
  obtain⟨j,rfl,B,C,g,rfl⟩:=hrel;by_cases l:j<b.size
  ·have u:(j:Int)<(b.size:Int):=oM;have hd:=Qs b j l;have q:=zN4 (b[j]);by_cases z:((b[j]).toNat:Int)<32
   ·have E:hH (R=oX):=by show _=_;rw[g.out,hd,Wv.prts_cons,q,decide_eq_false oM];rfl
    clear g hd q;go_wp2;go_ret;exact⟨by rw[E.out];rfl,rfl⟩
   ·by_cases A:(126:Int)<((b[j]).toNat:Int)
    ·have E:hH (R=oX):=by show _=_;rw[g.out,hd,Wv.prts_cons,q,decide_eq_false (p:=((b[j]).toNat:Int)<=126) oM];simp
     clear g hd q;go_wp2;go_ret;exact⟨by rw[E.out];rfl,rfl⟩
    ·have E:hH (R=Wv.prts (b.data.toList.drop (j+1))):=by show _=_;rw[g.out,hd,Wv.prts_cons,q,decide_eq_true oM,decide_eq_true oM];rfl
     clear g hd q;go_wp2_with fail
     go_roundg (b.size-(j+1))
     case rel=>exact⟨j+1,sM,rfl,l,E,by first|trivial|rfl⟩
     case measure=>omega
  ·have u:¬(j:Int)<(b.size:Int):=oM;have E:hH (R=nX):=by show _=_;rw[g.out,JV b j l];rfl
   clear g;go_wp2;go_ret;exact⟨by rw[E.out];rfl,rfl⟩
theorem zQ0(a b:Int)(w:wW):(if a=b then(eY nX w:Result Bool)else eY oX w)=eY (a == b) w:=by by_cases h:a=b <;> simp[h]
theorem zNq(a b:Bool)(w:wW):(if a=b then(eY nX w:Result Bool)else eY oX w)=eY (a == b) w:=by by_cases h:a=b <;> simp[h]
theorem Js(a b:ByteArray):((a == b)=nX)=(a=b):=by
 obtain⟨⟨x⟩⟩:=a;obtain⟨⟨y⟩⟩:=b;have h:((⟨⟨x⟩⟩:ByteArray) == ⟨⟨y⟩⟩)=(x == y):=by
  show((⟨x⟩:Array UInt8) == ⟨y⟩)=(x == y)
  simp
 rw[h];simp
def eqV(k n d:Int)(t:ByteArray)(b:Bool)(f:Int)(p q j:Int)(s:ByteArray)(g:Bool)(l:Int):Bool :=
 (k == p)&&((n == q)&&((d == j)&&((t == s)&&((b == g)&&(f == l)))))
theorem zNO(x:Nat)(k n d:Int)(t:ByteArray)(b:Bool)(f:Int)(u v q:Int)(z:ByteArray)(p:Bool)(A:Int)(w:wW) :
  (Op.equalIn (x+3) 64 (gX #[O J k,O J n,O J d,V t,Y b,O J f]) (gX #[O J u,O J v,O J q,V z,Y p,O J A])).run prog w=.ok (eqV k n d t b f u v q z p A) w:=by
 unfold eqV;rw[beq_toListBytes];by_cases g:k=u
 ·by_cases j:n=v
  ·by_cases l:d=q
   ·by_cases s:t.toList=z.toList
    ·by_cases B:b=p
     ·simp[go_sem,g,j,l,s,B,zQ0]
     ·simp[go_sem,g,j,l,s,B]
    ·simp[go_sem,g,j,l,s]
   ·simp[go_sem,g,j,l]
  ·simp[go_sem,g,j]
 ·simp[go_sem,g]
theorem zAz(k n d:Int)(t:ByteArray)(b:Bool)(f:Int)(p q j:Int)(s:ByteArray)(g:Bool)(l:Int)(w:wW) :
  (binOp .eql 64 (gX #[O J k,O J n,O J d,V t,Y b,O J f]) (gX #[O J p,O J q,O J j,V s,Y g,O J l])).run prog w=.ok (Y (eqV k n d t b f p q j s g l)) w:=by
 rw[run_eql_struct,show(10000:Nat)=9997+3 from rfl,zNO];rfl
def eqR(s:ByteArray)(r c:Int)(fr p:Bool)(u:ByteArray)(q l:Int)(j g:Bool):Bool :=
 (s == u)&&((r == q)&&((c == l)&&((fr == j)&&(p == g))))
theorem zNH(x:Nat)(s:ByteArray)(r c:Int)(fr A:Bool)(z:ByteArray)(v q:Int)(g j:Bool)(w:wW) :
  (Op.equalIn (x+2) 95 (gX #[V s,O J r,O J c,Y fr,Y A]) (gX #[V z,O J v,O J q,Y g,Y j])).run prog w=.ok (eqR s r c fr A z v q g j) w:=by
 unfold eqR;rw[beq_toListBytes];by_cases l:s.toList=z.toList
 ·by_cases p:r=v
  ·by_cases u:c=q
   ·by_cases B:fr=g
    ·simp[go_sem,l,p,u,B,zNq]
    ·simp[go_sem,l,p,u,B]
   ·simp[go_sem,l,p,u]
  ·simp[go_sem,l,p]
 ·simp[go_sem,l]
abbrev Six(W:wW)(k:Nat)(a b c d e f:vW):Prop :=
 W.cell? ⟨k,0,kX⟩=lX a/\W.cell? ⟨k,1,kX⟩=lX b/\W.cell? ⟨k,2,kX⟩=lX c/\W.cell? ⟨k,3,kX⟩=lX d/\W.cell? ⟨k,4,kX⟩=lX e/\W.cell? ⟨k,5,kX⟩=lX f
theorem AtL.f6{a b c d e f:vW}(h:AtL W k [a,b,c,d,e,f]):Six W k a b c d e f:=⟨h.2.1 0 a rfl,h.2.1 1 b rfl,h.2.1 2 c rfl,h.2.1 3 d rfl,h.2.1 4 e rfl,h.2.1 5 f rfl⟩
theorem zRM(n d:Int)(t:ByteArray)(b:Bool)(f:Int):eqV 0 n d t b f 0 0 0 ⟨#[]⟩ oX 0=Wv.right 0 n d t b f:=by
 unfold eqV Wv.right;rw[if_pos rfl];rw[nZ];simp[and_assoc,Js]
theorem zMY(n d:Int)(t:ByteArray)(b:Bool)(f:Int)(w:wW) :
  CR 129 #[gX #[O J 0,O J n,O J d,V t,Y b,O J f]] w (Y (Wv.right 0 n d t b f)):=by
 rw[<-zRM];have g:=zAz 0 n d t b f 0 0 0 ⟨#[]⟩ oX 0;generalize eqV 0 n d t b f 0 0 0 ⟨#[]⟩ oX 0=R at*;go_enter func129,ntmps129;go_wp2;go_ret;exact⟨rfl,clA⟩
abbrev VrS(ka kb:Nat)(k n d:Int)(t:ByteArray)(b:Bool)(f:Int)(W:wW):Prop :=
 Six W ka (O J k) (O J n) (O J d) (V t) (Y b) (O J f)/\W.frozen? ⟨kb,0,kX⟩=oX/\W.frozen? ⟨kb,1,kX⟩=oX/\W.frozen? ⟨kb,2,kX⟩=oX/\W.frozen? ⟨kb,3,kX⟩=oX/\W.frozen? ⟨kb,4,kX⟩=oX/\W.frozen? ⟨kb,5,kX⟩=oX
theorem Jk{k:Int}(j:AtL W ka [O J k,O J n,O J d,V t,Y b,O J f])(g:AtL W kb us)(l:us.length=6):VrS ka kb k n d t b f W :=
 ⟨j.f6,g.2.2 0 oM,g.2.2 1 oM,g.2.2 2 oM,g.2.2 3 oM,g.2.2 4 oM,g.2.2 5 oM⟩
theorem Jf{k:Int}(h:VrS ka kb k n d t b f W)(g:kb≠ka)(o:Nat)(u:vW):VrS ka kb k n d t b f (W.setCell ⟨kb,o,kX⟩ u):=by
 obtain⟨⟨z,A,B,C,D,G⟩,j,l,p,q,s,v⟩:=h;refine⟨⟨?_,?_,?_,?_,?_,?_⟩,?_,?_,?_,?_,?_,?_⟩;any_goals rw[eZ _ _ _ _ (by simpa using g)];assumption
 all_goals rw[hZ];assumption
theorem zE4(f:Int)(w:wW):CR 91 #[O J f] w (Y (Wv.flt f)):=(zC2 f w).mono λe w' h=>⟨h.1,h.2 ▸ aZ _ _⟩
theorem zH5(b:ByteArray)(w:wW)(g:b.size<=9223372036854775807):CR 87 #[V b] w (Y (Wv.prts b.data.toList)):=(zF2 b w g).mono λe w' h=>⟨h.1,h.2 ▸ aZ _ _⟩
theorem zRv(n d:Int)(t:ByteArray)(b:Bool)(f:Int):(Wnum.rightB n d&&eqV 1 n d t b f 1 n d ⟨#[]⟩ oX 0)=Wv.right 1 n d t b f:=by
 unfold eqV Wv.right;rw[if_neg dM];rw[if_pos rfl];rw[nZ];simp[and_assoc,Js]
theorem zL7(n d:Int)(t:ByteArray)(b:Bool)(f:Int)(w:wW)(u:-9223372036854775808<=n)(v:n<=9223372036854775807)(z:-9223372036854775808<=d)(A:d<=9223372036854775807) :
  CR 129 #[gX #[O J 1,O J n,O J d,V t,Y b,O J f]] w (Y (Wv.right 1 n d t b f)):=by
 rw[<-zRv];have C:=λw=>zER n d w u v z A
 have Q:=zAz 1 n d t b f 1 n d ⟨#[]⟩ oX 0;generalize eqV 1 n d t b f 1 n d ⟨#[]⟩ oX 0=R at*;generalize Wnum.rightB n d=q at*;have pA:AtL ((w.alloc (Z #[O J 1,O J n,O J d,V t,Y b,O J f] 64)).alloc (Z #[O J 1,O J 0,O J 0,V ⟨#[]⟩,Y oX,O J 0] 64)) w.heap.size [O J 1,O J n,O J d,V t,Y b,O J f]:=(AtL.new0 w _ _).alloc _;have s:AtL ((w.alloc (Z #[O J 1,O J n,O J d,V t,Y b,O J f] 64)).alloc (Z #[O J 1,O J 0,O J 0,V ⟨#[]⟩,Y oX,O J 0] 64)) (w.heap.size+1) [O J 1,O J 0,O J 0,V ⟨#[]⟩,Y oX,O J 0]:=AtL.new1 w _ _ _;have B:=Jk pA s rfl;cases q
 all_goals
  go_enter func129,ntmps129;go_upto_region 6 with fail
  go_region_held3 (VrS w.heap.size (w.heap.size+1) 1 n d t b f)
   (with_reducible first|exact B|assumption|exact Jk g j rfl|exact Jf (by assumption) oM _ _|exact Jf (Jf (by assumption) oM _ _) oM _ _|exact Jk (AtL.drew pA) (AtL.drew s) rfl)
   (first|(go_at_call 90;refine(C _).mono ?_;rintro e w1 ⟨rfl,p⟩;have g:=AtL.below p (AtL.drew pA);have j:=AtL.below p (AtL.drew s);obtain⟨D,G,H,I,M,N⟩:=g.f6;obtain⟨S,T,X,o3,o4,o5⟩:=j.f6;have l:=QA (QI (QI (aZ _ w) _) _).drew p))
  all_goals
   go_wp2;go_ret;exact⟨sM,(clB l)⟩
theorem zRZ(n d:Int)(t:ByteArray)(b:Bool)(f:Int):(Wv.flt f&&eqV 4 n d t b f 4 0 0 ⟨#[]⟩ oX f)=Wv.right 4 n d t b f:=by
 unfold eqV Wv.right;rw[if_neg dM];rw[if_neg dM];rw[if_neg dM];rw[if_neg dM];rw[if_pos rfl];rw[nZ];simp[and_assoc,Js]
theorem zKu(n d:Int)(t:ByteArray)(b:Bool)(f:Int)(w:wW) :
  CR 129 #[gX #[O J 4,O J n,O J d,V t,Y b,O J f]] w (Y (Wv.right 4 n d t b f)):=by
 rw[<-zRZ];have C:=λw=>zE4 f w
 have H:=zAz 4 n d t b f 4 0 0 ⟨#[]⟩ oX f;generalize eqV 4 n d t b f 4 0 0 ⟨#[]⟩ oX f=R at*;generalize Wv.flt f=q at*;have pA:AtL ((w.alloc (Z #[O J 4,O J n,O J d,V t,Y b,O J f] 64)).alloc (Z #[O J 4,O J 0,O J 0,V ⟨#[]⟩,Y oX,O J 0] 64)) w.heap.size [O J 4,O J n,O J d,V t,Y b,O J f]:=(AtL.new0 w _ _).alloc _;have s:AtL ((w.alloc (Z #[O J 4,O J n,O J d,V t,Y b,O J f] 64)).alloc (Z #[O J 4,O J 0,O J 0,V ⟨#[]⟩,Y oX,O J 0] 64)) (w.heap.size+1) [O J 4,O J 0,O J 0,V ⟨#[]⟩,Y oX,O J 0]:=AtL.new1 w _ _ _;have u:=Jk pA s rfl;cases q
 all_goals
  go_enter func129,ntmps129;go_upto_region 12 with fail
  go_region_held3 (VrS w.heap.size (w.heap.size+1) 4 n d t b f)
   (with_reducible first|exact u|assumption|exact Jk g j rfl|exact Jf (by assumption) oM _ _|exact Jf (Jf (by assumption) oM _ _) oM _ _|exact Jk (AtL.drew pA) (AtL.drew s) rfl)
   (first|(go_at_call 91;refine(C _).mono ?_;rintro e w1 ⟨rfl,p⟩;have g:=AtL.below p (AtL.drew pA);have j:=AtL.below p (AtL.drew s);obtain⟨v,z,A,B,D,G⟩:=g.f6;obtain⟨I,M,N,Q,S,T⟩:=j.f6;have l:=QA (QI (QI (aZ _ w) _) _).drew p))
  all_goals
   go_wp2;go_ret;exact⟨sM,(clB l)⟩
theorem zRe(n d:Int)(t:ByteArray)(b:Bool)(f:Int):((qX (t.size<=256)&&Wv.prts t.data.toList)&&eqV 2 n d t b f 2 0 0 t oX 0)=Wv.right 2 n d t b f:=by
 unfold eqV Wv.right;rw[if_neg dM];rw[if_neg dM];rw[if_pos rfl];rw[nZ];simp[and_assoc,Js]
theorem zR5(n d:Int)(t:ByteArray)(b:Bool)(f:Int):eqV 3 n d t b f 3 0 0 ⟨#[]⟩ b 0=Wv.right 3 n d t b f:=by
 unfold eqV Wv.right;rw[if_neg dM];rw[if_neg dM];rw[if_neg dM];rw[if_pos rfl];rw[nZ];simp[and_assoc,Js]
theorem zLT(n d:Int)(t:ByteArray)(b:Bool)(f:Int)(w:wW) :
  CR 129 #[gX #[O J 3,O J n,O J d,V t,Y b,O J f]] w (Y (Wv.right 3 n d t b f)):=by
 rw[<-zR5];have g:=zAz 3 n d t b f 3 0 0 ⟨#[]⟩ b 0;generalize eqV 3 n d t b f 3 0 0 ⟨#[]⟩ b 0=R at*;go_enter func129,ntmps129;go_wp2;go_ret;exact⟨rfl,clA⟩
theorem zLM(k n d:Int)(t:ByteArray)(b:Bool)(f:Int)(w:wW)(g:k<0\/4<k) :
  CR 129 #[gX #[O J k,O J n,O J d,V t,Y b,O J f]] w (Y (Wv.right k n d t b f)):=by
 have E:hH (Wv.right k n d t b f=oX):=by
  show _=_
  unfold Wv.right;rw[if_neg oM,if_neg oM,if_neg oM,if_neg oM,if_neg oM]
 rw[E.out];clear E;go_enter func129,ntmps129;go_wp2;go_ret;exact⟨rfl,clA⟩
theorem zL8(n d:Int)(t:ByteArray)(b:Bool)(f:Int)(w:wW)(A:t.size<=9223372036854775807) :
  CR 129 #[gX #[O J 2,O J n,O J d,V t,Y b,O J f]] w (Y (Wv.right 2 n d t b f)):=by
 rw[<-zRe];have C:=λw=>zH5 t w A
 have N:=zAz 2 n d t b f 2 0 0 t oX 0;generalize eqV 2 n d t b f 2 0 0 t oX 0=R at*;generalize Wv.prts t.data.toList=q at*;have pA:AtL ((w.alloc (Z #[O J 2,O J n,O J d,V t,Y b,O J f] 64)).alloc (Z #[O J 2,O J 0,O J 0,V ⟨#[]⟩,Y oX,O J 0] 64)) w.heap.size [O J 2,O J n,O J d,V t,Y b,O J f]:=(AtL.new0 w _ _).alloc _;have u:AtL ((w.alloc (Z #[O J 2,O J n,O J d,V t,Y b,O J f] 64)).alloc (Z #[O J 2,O J 0,O J 0,V ⟨#[]⟩,Y oX,O J 0] 64)) (w.heap.size+1) [O J 2,O J 0,O J 0,V ⟨#[]⟩,Y oX,O J 0]:=AtL.new1 w _ _ _;have z:=Jk pA u rfl;by_cases v:t.size<=256
 ·have s:(t.size:Int)<=256:=oM;rw[decide_eq_true v];cases q
  all_goals
   go_enter func129,ntmps129;go_upto_region 8 with fail
   go_region_held3 (VrS w.heap.size (w.heap.size+1) 2 n d t b f)
    (with_reducible first|exact z|assumption|exact Jk g j rfl|exact Jf (by assumption) oM _ _|exact Jk (AtL.drew pA) (AtL.drew u) rfl)
    (first|(go_at_call 87;refine(C _).mono ?_;rintro e w1 ⟨rfl,p⟩;have g:=AtL.below p (AtL.drew pA);have j:=AtL.below p (AtL.drew u);obtain⟨B,D,G,H,I,M⟩:=g.f6;obtain⟨Q,S,T,X,o4,o5⟩:=j.f6;have l:=QA (QI (QI (aZ _ w) _) _).drew p))
   all_goals
    go_wp2;go_ret;exact⟨sM,(clB l)⟩
 ·have s:¬(t.size:Int)<=256:=oM;rw[decide_eq_false v];go_enter func129,ntmps129;go_upto_region 8 with fail
  go_big_region
  all_goals
   go_wp2;go_ret;exact⟨sM,clA⟩
def vl6(v:Wt.Vl):List vW:=[O J v.k,O J v.n,O J v.d,V v.t,Y v.b,O J v.f]
def rf5(a:Wt.Rf):List vW:=[V a.s,O J a.r,O J a.c,Y a.fr,Y a.fc]
def QM(x:Wt.Nd):List vW:=[O J x.k,O J x.v.k,O J x.v.n,O J x.v.d,V x.v.t,Y x.v.b,O J x.v.f,O J x.op,V x.nm,O J x.ar,V x.a.s,O J x.a.r,O J x.a.c,Y x.a.fr,Y x.a.fc,V x.b.s,O J x.b.r,O J x.b.c,Y x.b.fr,Y x.b.fc]
def vlV(v:Wt.Vl):vW:=gX (vl6 v).toArray
def rfV(a:Wt.Rf):vW:=gX (rf5 a).toArray
def ndV(x:Wt.Nd):vW:=gX (QM x).toArray
theorem zL2:(prog.info? 97).map (λi=>(i.zero,i.size,i.bytes))=lX (lX (gX #[O J 0,O J 0,O J 0,O J 0,V ⟨#[]⟩,Y oX,O J 0,O J 0,V ⟨#[]⟩,O J 0,V ⟨#[]⟩,O J 0,O J 0,Y oX,Y oX,V ⟨#[]⟩,O J 0,O J 0,Y oX,Y oX]),20,176):=kR
def opsR:List vW:=Wt.opsT.flatMap λx=>[O J x.1,V ⟨x.2.1.toArray⟩,O J x.2.2]
def OpsAt(w:wW):Prop:=w.rangeAt 1 0 opsR
theorem OpsAt.below{w':wW}(h:OpsAt w)(g:bL w w'):OpsAt w':=λj v l=>QB g (h j v l)
theorem OpsAt.alloc(h:OpsAt w)(o:Obj):OpsAt (w.alloc o):=h.below ((aZ _ _).alloc (dZ _) _)
theorem AtL.there(h:AtL W k us):W.there k 0 us.length:=λj g =>
 ⟨by rw[gY,h.2.1 j us[j] (mZ g)];rfl,by rw[gY];exact h.2.2 j g⟩
theorem AtL.range(h:AtL W k us):W.rangeAt k 0 us:=λj v g=>by rw[gY];exact h.2.1 j v g
theorem zAJ(k:Nat):∀(vs:List vW)(o:Nat)(W:wW),(W.setCells k o vs).heap.size=W.heap.size
 |[],_,_=>rfl
 |v::r,o,W=>by rw[aX,zAJ k r];simp[go_sem]
theorem AtL.setAll{vs:List vW}(h:AtL W k us)(g:vs.length=us.length):AtL (W.setCells k 0 vs) k vs:=by
 refine⟨by rw[zAJ];exact h.1,λi v j=>?_,λi hi=>?_⟩
 ·have:=World.rangeAt_setCells_same W k 0 vs (by rw[g];exact h.there) i v j;rw[gY]at this;exact this
 ·rw[jY];exact h.2.2 i oM
theorem AtL.farAll{b:Nat}(h:AtL W k us)(j:b≠k)(o:Nat)(vs:List vW):AtL (W.setCells b o vs) k us:=by
 refine⟨by rw[zAJ];exact h.1,λi v l=>?_,λi hi=>?_⟩
 ·rw[World.cell?_setCells_out b vs o W _ (λg=>absurd g.symm j)];exact h.2.1 i v l
 ·rw[jY];exact h.2.2 i hi
theorem Ql(g:bL w W)(j:w.heap.size<=k):∀(vs:List vW)(o:Nat),bL w (W.setCells k o vs):=by
 intro vs;induction vs generalizing W with
 |nil=>intro o;exact g
 |cons v r l=>intro o;rw[aX];exact l (g.setCell (p:=⟨k,o,kX⟩) j v) (o+1)
theorem zGB(c:UInt8)(w:wW):cW prog 159 #[O .u8 c.toNat] w λe w'=>e=rX (Y (Wlx.cap c))/\w=w':=by
 unfold Wlx.cap;go_enter func159,ntmps159;by_cases a:65<=(c.toNat:Int)
 ·go_wp2;go_ret;exact⟨Qu (by simp[a]),rfl⟩
 ·go_wp2;go_ret;exact⟨Qu (by rw[decide_eq_false oM];rfl),rfl⟩
theorem zGT(c:UInt8)(w:wW):cW prog 189 #[O .u8 c.toNat] w λe w'=>e=rX (Y (Wlx.dig c))/\w=w':=by
 unfold Wlx.dig;go_enter func189,ntmps189;by_cases a:48<=(c.toNat:Int)
 ·go_wp2;go_ret;exact⟨Qu (by simp[a]),rfl⟩
 ·go_wp2;go_ret;exact⟨Qu (by rw[decide_eq_false oM];rfl),rfl⟩
theorem zMg(c:UInt8)(w:wW):cW prog 188 #[O .u8 c.toNat] w λe w'=>e=rX (Y (Wt.ltr c))/\w=w':=by
 unfold Wt.ltr;have C:=zGB c w;unfold Wlx.low;generalize Wlx.cap c=q at*;go_enter func188,ntmps188;cases q
 ·by_cases a:97<=(c.toNat:Int)
  ·go_wp2_with fail
   refine C.mono ?_;rintro e w1 ⟨rfl,rfl⟩;go_wp2;go_ret;exact⟨Qu (by simp[a]),rfl⟩
  ·go_wp2_with fail
   refine C.mono ?_;rintro e w1 ⟨rfl,rfl⟩;go_wp2;go_ret;exact⟨Qu (by rw[decide_eq_false (p:=97<=(c.toNat:Int)) oM];rfl),rfl⟩
 ·go_wp2_with fail
  refine C.mono ?_;rintro e w1 ⟨rfl,rfl⟩;go_wp2;go_ret;exact⟨Qu sM,rfl⟩
theorem zJ3(b:ByteArray)(h:0<b.size):b.data.toList.headD 0=b[0]:=by
 have:=Qs b 0 h;rw[List.drop_zero]at this;rw[this];rfl
theorem zDX(p:UInt8->Bool)(b:ByteArray)(j:Nat)(h:j<b.size):(b.data.toList.drop j).all p=(p (b[j])&&(b.data.toList.drop (j+1)).all p):=by
 rw[Qs b j h];rfl
theorem zHl(b:ByteArray)(w:wW)(X:b.size<=9223372036854775807) :
  cW prog 158 #[V b,.func (.func 159) #[] #[]] w λe w'=>e=rX (Y (Wt.isNm Wlx.cap b.data.toList))/\w=w':=by
 have C:=zGB;have B:b.data.toList.length=b.size:=rfl;by_cases I:b=⟨#[]⟩
 ·subst I;go_enter func158,ntmps158;go_wp2;go_ret;exact⟨rfl,rfl⟩
 have g:0<b.size:=by
  rcases sY b.size with h|h
  ·exact absurd (ByteArray.size_eq_zero_iff.1 h) I
  ·exact h
 have N:b.toList.isEmpty=oX:=by
  rw[ByteArray.toList_eq];cases Q:b.data.toList with
  |nil=>rw[Q]at B;exact absurd B (by show¬0=_;omega)
  |cons _ _=>rfl
 by_cases M:16<b.size
 ·have z:(16:Int)<(b.size:Int):=oM;have E:hH (Wt.isNm Wlx.cap b.data.toList=oX):=by
   show _=_
   unfold Wt.isNm;rw[B,decide_eq_false (p:=b.size<=16) oM];simp
  rw[E.out];clear E;go_enter func158,ntmps158;go_wp2;go_ret;exact⟨rfl,rfl⟩
 have z:¬(16:Int)<(b.size:Int):=oM;have A:Wt.isNm Wlx.cap b.data.toList=(Wlx.cap (b[0])&&b.data.toList.all (λc=>Wlx.cap c||Wlx.dig c)):=by
  unfold Wt.isNm;rw[B,decide_eq_true oM,decide_eq_true oM,zJ3 b g];simp
 rw[A];clear A;have C0:=C (b[0]) w;cases H:Wlx.cap (b[0])with
 |false =>
  rw[H]at C0;go_enter func158,ntmps158;go_wp2_with fail
  refine C0.mono ?_;rintro e w1 ⟨rfl,rfl⟩;go_wp2;go_ret;exact⟨rfl,rfl⟩
 |true =>
  rw[H]at C0;clear H;obtain⟨R,D⟩:=xV (b.data.toList.all (λc=>Wlx.cap c||Wlx.dig c))
  have A:hH (R=(b.data.toList.drop 0).all (λc=>Wlx.cap c||Wlx.dig c)):=D.symm;rw[D];clear D;go_enter func158,ntmps158;go_wp2_with fail
  refine C0.mono ?_;rintro e w1 ⟨rfl,rfl⟩;go_wp2_with fail
  go_loopg [22] (b.size) (λgk x wr=>∃j:Nat,x=O J j/\gk=b.size-j/\j<=b.size/\hH (R=(b.data.toList.drop j).all (λc=>Wlx.cap c||Wlx.dig c))/\wr=w)
  case atStart=>exact⟨0,rfl,rfl,iZ _,A,rfl⟩
  case round =>
   obtain⟨j,rfl,S,T,q,rfl⟩:=hrel;by_cases l:j<b.size
   ·have G:(j:Int)<(b.size:Int):=oM;have hd:=zDX (λc=>Wlx.cap c||Wlx.dig c) b j l;have s:=C (b[j]) wr;have v:=zGT (b[j]) wr;cases g:Wlx.cap (b[j])with
    |true =>
     have E:hH (R=(b.data.toList.drop (j+1)).all (λc=>Wlx.cap c||Wlx.dig c)):=by show _=_;rw[q.out,hd,g];rfl
     rw[g]at s;clear q hd g v C0;go_wp2_with fail
     refine s.mono ?_;rintro e w1 ⟨rfl,rfl⟩;go_wp2_with fail
     go_roundg (b.size-(j+1))
     case rel=>exact⟨j+1,sM,rfl,l,E,by first|trivial|rfl⟩
     case measure=>omega
    |false =>
     cases u:Wlx.dig (b[j])with
     |true =>
      have E:hH (R=(b.data.toList.drop (j+1)).all (λc=>Wlx.cap c||Wlx.dig c)):=by show _=_;rw[q.out,hd,g,u];rfl
      rw[g]at s;rw[u]at v;clear q hd g u C0;go_wp2_with fail
      refine s.mono ?_;rintro e w1 ⟨rfl,rfl⟩;go_wp2_with fail
      refine v.mono ?_;rintro e w1 ⟨rfl,rfl⟩;go_wp2_with fail
      go_roundg (b.size-(j+1))
      case rel=>exact⟨j+1,sM,rfl,l,E,by first|trivial|rfl⟩
      case measure=>omega
     |false =>
      have E:hH (R=oX):=by show _=_;rw[q.out,hd,g,u];rfl
      rw[g]at s;rw[u]at v;clear q hd g u C0;go_wp2_with fail
      refine s.mono ?_;rintro e w1 ⟨rfl,rfl⟩;go_wp2_with fail
      refine v.mono ?_;rintro e w1 ⟨rfl,rfl⟩;go_wp2;go_ret;exact⟨by rw[E.out];rfl,rfl⟩
   ·have G:¬(j:Int)<(b.size:Int):=oM;have E:hH (R=nX):=by show _=_;rw[q.out,JV b j l];rfl
    clear q C0;go_wp2;go_ret;exact⟨by rw[E.out];rfl,rfl⟩
theorem zK1(b:ByteArray)(w:wW)(X:b.size<=9223372036854775807) :
  cW prog 158 #[V b,.func (.func 188) #[] #[]] w λe w'=>e=rX (Y (Wt.isNm Wt.ltr b.data.toList))/\w=w':=by
 have C:=zMg;have B:b.data.toList.length=b.size:=rfl;by_cases I:b=⟨#[]⟩
 ·subst I;go_enter func158,ntmps158;go_wp2;go_ret;exact⟨rfl,rfl⟩
 have g:0<b.size:=by
  rcases sY b.size with h|h
  ·exact absurd (ByteArray.size_eq_zero_iff.1 h) I
  ·exact h
 have N:b.toList.isEmpty=oX:=by
  rw[ByteArray.toList_eq];cases Q:b.data.toList with
  |nil=>rw[Q]at B;exact absurd B (by show¬0=_;omega)
  |cons _ _=>rfl
 by_cases M:16<b.size
 ·have z:(16:Int)<(b.size:Int):=oM;have E:hH (Wt.isNm Wt.ltr b.data.toList=oX):=by
   show _=_
   unfold Wt.isNm;rw[B,decide_eq_false (p:=b.size<=16) oM];simp
  rw[E.out];clear E;go_enter func158,ntmps158;go_wp2;go_ret;exact⟨rfl,rfl⟩
 have z:¬(16:Int)<(b.size:Int):=oM;have A:Wt.isNm Wt.ltr b.data.toList=(Wt.ltr (b[0])&&b.data.toList.all (λc=>Wt.ltr c||Wlx.dig c)):=by
  unfold Wt.isNm;rw[B,decide_eq_true oM,decide_eq_true oM,zJ3 b g];simp
 rw[A];clear A;have C0:=C (b[0]) w;cases H:Wt.ltr (b[0])with
 |false =>
  rw[H]at C0;go_enter func158,ntmps158;go_wp2_with fail
  refine C0.mono ?_;rintro e w1 ⟨rfl,rfl⟩;go_wp2;go_ret;exact⟨rfl,rfl⟩
 |true =>
  rw[H]at C0;clear H;obtain⟨R,D⟩:=xV (b.data.toList.all (λc=>Wt.ltr c||Wlx.dig c))
  have A:hH (R=(b.data.toList.drop 0).all (λc=>Wt.ltr c||Wlx.dig c)):=D.symm;rw[D];clear D;go_enter func158,ntmps158;go_wp2_with fail
  refine C0.mono ?_;rintro e w1 ⟨rfl,rfl⟩;go_wp2_with fail
  go_loopg [22] (b.size) (λgk x wr=>∃j:Nat,x=O J j/\gk=b.size-j/\j<=b.size/\hH (R=(b.data.toList.drop j).all (λc=>Wt.ltr c||Wlx.dig c))/\wr=w)
  case atStart=>exact⟨0,rfl,rfl,iZ _,A,rfl⟩
  case round =>
   obtain⟨j,rfl,S,T,q,rfl⟩:=hrel;by_cases l:j<b.size
   ·have G:(j:Int)<(b.size:Int):=oM;have hd:=zDX (λc=>Wt.ltr c||Wlx.dig c) b j l;have s:=C (b[j]) wr;have v:=zGT (b[j]) wr;cases g:Wt.ltr (b[j])with
    |true =>
     have E:hH (R=(b.data.toList.drop (j+1)).all (λc=>Wt.ltr c||Wlx.dig c)):=by show _=_;rw[q.out,hd,g];rfl
     rw[g]at s;clear q hd g v C0;go_wp2_with fail
     refine s.mono ?_;rintro e w1 ⟨rfl,rfl⟩;go_wp2_with fail
     go_roundg (b.size-(j+1))
     case rel=>exact⟨j+1,sM,rfl,l,E,by first|trivial|rfl⟩
     case measure=>omega
    |false =>
     cases u:Wlx.dig (b[j])with
     |true =>
      have E:hH (R=(b.data.toList.drop (j+1)).all (λc=>Wt.ltr c||Wlx.dig c)):=by show _=_;rw[q.out,hd,g,u];rfl
      rw[g]at s;rw[u]at v;clear q hd g u C0;go_wp2_with fail
      refine s.mono ?_;rintro e w1 ⟨rfl,rfl⟩;go_wp2_with fail
      refine v.mono ?_;rintro e w1 ⟨rfl,rfl⟩;go_wp2_with fail
      go_roundg (b.size-(j+1))
      case rel=>exact⟨j+1,sM,rfl,l,E,by first|trivial|rfl⟩
      case measure=>omega
     |false =>
      have E:hH (R=oX):=by show _=_;rw[q.out,hd,g,u];rfl
      rw[g]at s;rw[u]at v;clear q hd g u C0;go_wp2_with fail
      refine s.mono ?_;rintro e w1 ⟨rfl,rfl⟩;go_wp2_with fail
      refine v.mono ?_;rintro e w1 ⟨rfl,rfl⟩;go_wp2;go_ret;exact⟨by rw[E.out];rfl,rfl⟩
   ·have G:¬(j:Int)<(b.size:Int):=oM;have E:hH (R=nX):=by show _=_;rw[q.out,JV b j l];rfl
    clear q C0;go_wp2;go_ret;exact⟨by rw[E.out];rfl,rfl⟩
theorem zJV(b:ByteArray)(w:wW)(g:b.size<=9223372036854775807):cW prog 128 #[V b] w λe w'=>e=rX (Y (Wt.fnNm b))/\w=w':=by
 have C:=zHl b w g;unfold Wt.fnNm;generalize Wt.isNm Wlx.cap b.data.toList=R at*;go_enter func128,ntmps128;go_wp2_with fail
 refine C.mono ?_;rintro e w1 ⟨rfl,rfl⟩;go_wp2;go_ret;exact⟨rfl,rfl⟩
theorem zJJ(b:ByteArray)(w:wW)(g:b.size<=9223372036854775807):cW prog 157 #[V b] w λe w'=>e=rX (Y (Wt.shNm b))/\w=w':=by
 have C:=zK1 b w g;unfold Wt.shNm;generalize Wt.isNm Wt.ltr b.data.toList=R at*;go_enter func157,ntmps157;go_wp2_with fail
 refine C.mono ?_;rintro e w1 ⟨rfl,rfl⟩;go_wp2;go_ret;exact⟨rfl,rfl⟩
theorem zQM(r c:Int):Wpl.rightC 0 r c=Wt.inR r c:=by
 unfold Wpl.rightC Wpl.inB Wt.inR;rw[nZ];simp
theorem zDF{b:ByteArray}(h:¬b=⟨#[]⟩):b.toList.isEmpty=oX:=by
 rw[ByteArray.toList_eq];cases g:b.data.toList with
 |nil=>exact absurd (by obtain⟨⟨l⟩⟩:=b;simp at g;subst g;rfl) h
 |cons _ _=>rfl
theorem zFU(a:Wt.Rf)(w:wW)(G:a.s.size<=9223372036854775807):CR 125 #[rfV a] w (Y (Wt.rfOk a)):=by
 obtain⟨s,r,c,fr,p⟩:=a;unfold Wt.rfOk;simp only;show cW _ _ #[gX #[V s,O J r,O J c,Y fr,Y p]] _ _
 have l:=λw=>Qh 0 r c w
 rw[zQM]at l;have v:=λw=>zJJ s w G
 generalize Wt.inR r c=q at*;cases q
 ·go_enter func125,ntmps125;go_wp2_with fail
  refine(l _).mono ?_;rintro e w1 ⟨rfl,g⟩;have j:=QA (QI (aZ _ w) _) g;go_wp2;go_ret;exact⟨rfl,j⟩
 by_cases u:s=⟨#[]⟩
 ·subst u;go_enter func125,ntmps125;go_wp2_with fail
  refine(l _).mono ?_;rintro e w1 ⟨rfl,g⟩;have j:=QA (QI (aZ _ w) _) g;obtain⟨z,A,B,C,D⟩:=(AtL.below g (AtL.new0 w _ [V ⟨#[]⟩,O J r,O J c,Y fr,Y p])).f5;go_wp2;go_ret;exact⟨rfl,j⟩
 ·have H:=zDF u;rw[decide_eq_false u];generalize Wt.shNm s=q at*;go_enter func125,ntmps125;go_wp2_with fail
  refine(l _).mono ?_;rintro e w1 ⟨rfl,g⟩;have j:=QA (QI (aZ _ w) _) g;obtain⟨z,A,B,C,D⟩:=(AtL.below g (AtL.new0 w _ [V s,O J r,O J c,Y fr,Y p])).f5;go_wp2_with fail
  refine(v _).mono ?_;rintro e I ⟨rfl,rfl⟩;go_wp2;go_ret;exact⟨sM,j⟩
theorem zC4(v:Wt.Vl)(w:wW)(g:-9223372036854775808<=v.n)(j:v.n<=9223372036854775807)(l:-9223372036854775808<=v.d)(p:v.d<=9223372036854775807)(q:v.t.size<=9223372036854775807) :
  CR 129 #[vlV v] w (Y (Wv.right v.k v.n v.d v.t v.b v.f)):=by
 obtain⟨k,n,d,t,b,f⟩:=v;simp only at g j l p q ⊢;show cW _ _ #[gX #[O J k,O J n,O J d,V t,Y b,O J f]] _ _
 by_cases e0:k=0
 ·subst e0;exact zMY n d t b f w
 by_cases e0:k=1
 ·subst e0;exact zL7 n d t b f w g j l p
 by_cases e0:k=2
 ·subst e0;exact zL8 n d t b f w q
 by_cases e0:k=3
 ·subst e0;exact zLT n d t b f w
 by_cases e0:k=4
 ·subst e0;exact zKu n d t b f w
 exact zLM k n d t b f w oM
theorem zPK(v:Wt.Vl)(w:wW)(p:-9223372036854775808<=v.n)(s:v.n<=9223372036854775807)(u:-9223372036854775808<=v.d)(z:v.d<=9223372036854775807)(D:v.t.size<=9223372036854775807) :
  CR 124 #[vlV v] w (Y (Wt.vlOk v)):=by
 have C:=λw=>zC4 v w p s u z D
 obtain⟨k,n,d,t,b,f⟩:=v;unfold Wt.vlOk;simp only[vlV,vl6]at p s u z D C ⊢;show cW _ _ #[gX #[O J k,O J n,O J d,V t,Y b,O J f]] _ _
 by_cases e0:k=0
 ·subst e0;go_enter func124,ntmps124;go_wp2;go_ret;exact⟨rfl,clA⟩
 rw[if_neg e0];by_cases l:k=1
 ·subst l;rw[if_pos rfl];have B:Wv.right 1 n d t b f=nX->1<=d:=by
   unfold Wv.right;rw[if_neg dM,if_pos rfl];intro h;simp only[qZ]at h;have:=h.1.1.1;unfold Wnum.rightB at this;have:=of_decide_eq_true this;omega
  generalize Wv.right 1 n d t b f=q at*;cases q
  ·go_enter func124,ntmps124;go_wp2_with fail
   refine(C _).mono ?_;rintro e w1 ⟨rfl,g⟩;have j:=QA (QI (aZ _ w) _) g;go_wp2;go_ret;exact⟨rfl,j⟩
  have hd:=B rfl;clear B;by_cases A:0<=n
  ·have T:¬d=0:=oM;have X:¬d=-1:=oM;rw[decide_eq_true A];go_enter func124,ntmps124;go_wp2_with fail
   refine(C _).mono ?_;rintro e w1 ⟨rfl,g⟩;have j:=QA (QI (aZ _ w) _) g;obtain⟨G,H,I,M,N,Q⟩:=(AtL.below g (AtL.new0 w _ [O J 1,O J n,O J d,V t,Y b,O J f])).f6;go_wp2;go_ret;refine⟨Qu ?_,j⟩;rw[nZ];simp
  ·rw[decide_eq_false A];go_enter func124,ntmps124;go_wp2_with fail
   refine(C _).mono ?_;rintro e w1 ⟨rfl,g⟩;have j:=QA (QI (aZ _ w) _) g;obtain⟨G,H,I,M,N,Q⟩:=(AtL.below g (AtL.new0 w _ [O J 1,O J n,O J d,V t,Y b,O J f])).f6;go_wp2;go_ret;exact⟨Qu sM,j⟩
 rw[if_neg l];generalize Wv.right k n d t b f=q at*;have R:(k == 0)=oX:=by simp[e0]
 have S:(k == 1)=oX:=by simp[l]
 go_enter func124,ntmps124;go_wp2_with fail
 refine(C _).mono ?_;rintro e w1 ⟨rfl,g⟩;have j:=QA (QI (aZ _ w) _) g;go_wp2;go_ret;exact⟨rfl,j⟩
theorem zD9(o:Int)(m:ByteArray)(g:Int)(w:wW):CR 127 #[gX #[O J o,V m,O J g]] w (O J (if g<5 then 5 else 4)):=by
 by_cases h:g<5
 ·rw[if_pos h];go_enter func127,ntmps127;go_wp2;go_ret;exact⟨rfl,clA⟩
 ·rw[if_neg h];go_enter func127,ntmps127;go_wp2;go_ret;exact⟨rfl,clA⟩
def opV(x:Option (Int×List UInt8×Int)):vW:=match x with
 |some (o,m,t)=>uX #[gX #[O J o,V ⟨m.toArray⟩,O J t],Y nX]
 |none=>uX #[gX #[O J 0,V ⟨#[]⟩,O J 0],Y oX]
theorem zEG:∀(j:Nat)(h:j<Wt.opsT.length)(w:wW),(Instr.index 247 (gX opsR.toArray) (O J (j:Int))).run prog w=.ok (gX #[O J (Wt.opsT[j]).1,V ⟨(Wt.opsT[j]).2.1.toArray⟩,O J (Wt.opsT[j]).2.2]) w
 |0,_,w=>by kernel_rfl
 |1,_,w=>by kernel_rfl
 |2,_,w=>by kernel_rfl
 |3,_,w=>by kernel_rfl
 |4,_,w=>by kernel_rfl
 |5,_,w=>by kernel_rfl
 |6,_,w=>by kernel_rfl
 |7,_,w=>by kernel_rfl
 |8,_,w=>by kernel_rfl
 |9,_,w=>by kernel_rfl
 |10,_,w=>by kernel_rfl
 |11,_,w=>by kernel_rfl
 |12,_,w=>by kernel_rfl
 |13,_,w=>by kernel_rfl
 |14,_,w=>by kernel_rfl
 |j+15,h,w=>absurd h (by show¬j+15<15;omega)
theorem zHc(o:Int)(w:wW)(hO:OpsAt w):CR 126 #[O J o] w (opV (Wt.opOf o)):=by
 have I:hH (Wt.opOf o=(Wt.opsT.drop 0).find? λx=>x.1 == o):=(rfl:Wt.opOf o=_)
 obtain⟨R,M⟩:=xV (Wt.opOf o)
 rw[M]at I ⊢;clear M;have B:dX (w.alloc (Z #[O J 0,V ⟨#[]⟩,O J 0] 222)) 1 0 opsR:=hO.alloc (Z #[O J 0,V ⟨#[]⟩,O J 0] 222);go_enter func126,ntmps126;go_upto_region 1 with fail
 go_wp2_with ((with_reducible refine wpList_load_mid (cs:=opsR) ?_ 247 (.global 1) ?_ 1 0 ?_ _ B underlying247 ?_ ?_ ?_);rfl;rfl;rfl;rfl;kernel_rfl)
 go_loopg [7] 15 (λgk x wr=>∃j:Nat,x=O J j/\gk=15-j/\j<=15/\hH (R=(Wt.opsT.drop j).find? λx=>x.1 == o)/\bL w wr/\hH (AtL wr w.heap.size [O J 0,V ⟨#[]⟩,O J 0]))
 case atStart=>exact⟨0,rfl,rfl,iZ _,I,QI (aZ _ _) _,AtL.new0 w _ [O J 0,V ⟨#[]⟩,O J 0]⟩
 case round =>
  obtain⟨j,rfl,hg,hj,g,C,s⟩:=hrel;by_cases p:j<15
  ·have H:(j:Int)<15:=oM;have G:=zEG j p;have hd:=gZ (l:=Wt.opsT) p;generalize Wt.opsT[j]=x at*;obtain⟨q,z,A⟩:=x;simp only at G;rw[hd]at g;clear hd;have Q:=AtL.alloc s.out (Z #[O J q,V ⟨z.toArray⟩,O J A] 222);have D:=QI C (Z #[O J q,V ⟨z.toArray⟩,O J A] 222);obtain⟨S,T,X,f0,f1,f2⟩:=s.out.three;have ac:=s.out.1;have aa:¬w.heap.size=wr.heap.size:=oM;have N:¬wr.heap.size=w.heap.size:=oM;by_cases u:q=o
   ·have E:hH (R=lX (q,z,A)):=by show _=_;rw[g.out,kY (by simp[u])]
    clear g;subst u;go_wp2;refine bodyPost_ret (v:=uX #[gX #[O J q,V ⟨z.toArray⟩,O J A],Y nX]) (by simp[results,results126,go_sem, *]) rfl ⟨by rw[E.out];rfl,?_⟩;exact(clB C)
   ·have ab:(q == o)=oX:=by simp[u]
    have E:hH (R=(Wt.opsT.drop (j+1)).find? λx=>x.1 == o):=by show _=_;rw[g.out,wZ (by simp[u])]
    clear g;go_wp2_with fail
    go_roundg (15-(j+1))
    case rel=>exact⟨j+1,sM,rfl,p,E,D,Q⟩
    case measure=>omega
  ·have H:¬(j:Int)<15:=oM;have E:hH (R=kX):=by
    show _=_
    rw[g.out,jZ (by show 15<=j;omega)];rfl
   clear g;obtain⟨S,T,X,f0,f1,f2⟩:=s.out.three;go_wp2;refine bodyPost_ret (v:=uX #[gX #[O J 0,V ⟨#[]⟩,O J 0],Y oX]) (by simp[results,results126,go_sem, *]) rfl ⟨by rw[E.out];rfl,?_⟩;exact(clB C)
theorem zJD(m:ByteArray)(g:Int)(w:wW)(hO:OpsAt w):CR 200 #[V m,O J g] w (opV (Wt.opAs m.data.toList g)):=by
 have Q:hH (Wt.opAs m.data.toList g=(Wt.opsT.drop 0).find? λx=>(x.2.1 == m.data.toList)&&(x.2.2 == g)):=(rfl:Wt.opAs m.data.toList g=_)
 obtain⟨R,T⟩:=xV (Wt.opAs m.data.toList g)
 rw[T]at Q ⊢;clear T;have H:dX (w.alloc (Z #[O J 0,V ⟨#[]⟩,O J 0] 222)) 1 0 opsR:=hO.alloc (Z #[O J 0,V ⟨#[]⟩,O J 0] 222);go_enter func200,ntmps200;go_upto_region 1 with fail
 go_wp2_with ((with_reducible refine wpList_load_mid (cs:=opsR) ?_ 247 (.global 1) ?_ 1 0 ?_ _ H underlying247 ?_ ?_ ?_);rfl;rfl;rfl;rfl;kernel_rfl)
 go_loopg [9] 15 (λgk x wr=>∃j:Nat,x=O J j/\gk=15-j/\j<=15/\hH (R=(Wt.opsT.drop j).find? λx=>(x.2.1 == m.data.toList)&&(x.2.2 == g))/\bL w wr/\hH (AtL wr w.heap.size [O J 0,V ⟨#[]⟩,O J 0]))
 case atStart=>exact⟨0,rfl,rfl,iZ _,Q,QI (aZ _ _) _,AtL.new0 w _ [O J 0,V ⟨#[]⟩,O J 0]⟩
 case round =>
  obtain⟨j,rfl,hg,hj,p,I,C⟩:=hrel;by_cases q:j<15
  ·have N:(j:Int)<15:=oM;have M:=zEG j q;have hd:=gZ (l:=Wt.opsT) q;generalize Wt.opsT[j]=x at*;obtain⟨G,B,z⟩:=x;simp only at M;rw[hd]at p;clear hd;have S:=AtL.alloc C.out (Z #[O J G,V ⟨B.toArray⟩,O J z] 222);have A:=QI I (Z #[O J G,V ⟨B.toArray⟩,O J z] 222);obtain⟨a0,a1,a2,f0,f1,f2⟩:=C.out.three;have ad:=C.out.1;have ab:¬w.heap.size=wr.heap.size:=oM;have X:¬wr.heap.size=w.heap.size:=oM;by_cases s:B=m.toList
   ·subst s;have u:=ByteArray.toList_eq m;by_cases D:z=g
    ·have E:hH (R=lX (G,m.toList,z)):=by show _=_;rw[p.out,kY (by simp[D,u])]
     clear p u;subst D;go_wp2;refine bodyPost_ret (v:=uX #[gX #[O J G,V ⟨m.toList.toArray⟩,O J z],Y nX]) (by simp[results,results200,go_sem, *]) rfl ⟨by rw[E.out];rfl,?_⟩;exact(clB I)
    ·have ac:(z == g)=oX:=by simp[D]
     have E:hH (R=(Wt.opsT.drop (j+1)).find? λx=>(x.2.1 == m.data.toList)&&(x.2.2 == g)):=by show _=_;rw[p.out,wZ (by simp[D])]
     clear p u;go_wp2_with fail
     go_roundg (15-(j+1))
     case rel=>exact⟨j+1,sM,rfl,q,E,A,S⟩
     case measure=>omega
   ·have u:¬B=m.data.toList:=by rw[<-ByteArray.toList_eq];exact s
    have aa:(B == m.toList)=oX:=by simp[s]
    have E:hH (R=(Wt.opsT.drop (j+1)).find? λx=>(x.2.1 == m.data.toList)&&(x.2.2 == g)):=by show _=_;rw[p.out,wZ (by simp[u])]
    clear p u;go_wp2_with fail
    go_roundg (15-(j+1))
    case rel=>exact⟨j+1,sM,rfl,q,E,A,S⟩
    case measure=>omega
  ·have N:¬(j:Int)<15:=oM;have E:hH (R=kX):=by
    show _=_
    rw[p.out,jZ (by show 15<=j;omega)];rfl
   clear p;obtain⟨a0,a1,a2,f0,f1,f2⟩:=C.out.three;go_wp2;refine bodyPost_ret (v:=uX #[gX #[O J 0,V ⟨#[]⟩,O J 0],Y oX]) (by simp[results,results200,go_sem, *]) rfl ⟨by rw[E.out];rfl,?_⟩;exact(clB I)
theorem zHD(x:Wt.Nd)(w:wW):CR 98 #[ndV x] w (O J (Wt.parts x)):=by
 obtain⟨k,⟨R,S,N,T,M,Q⟩,C,nm,z,⟨H,D,A,q,l⟩,⟨I,G,B,s,p⟩⟩:=x;unfold Wt.parts;simp only[ndV,QM];by_cases g:k=4
 ·subst g;go_enter func98,ntmps98;go_wp2;go_ret;exact⟨rfl,clA⟩
 have u:(k == 4)=oX:=by simp[g]
 rw[if_neg g];by_cases j:k=5
 ·subst j;go_enter func98,ntmps98;go_wp2;go_ret;exact⟨rfl,clA⟩
 have v:(k == 5)=oX:=by simp[j]
 rw[if_neg j];go_enter func98,ntmps98;go_wp2;go_ret;exact⟨rfl,clA⟩
def XC(x y:Wt.Vl):Bool:=eqV x.k x.n x.d x.t x.b x.f y.k y.n y.d y.t y.b y.f
def zQ2(x y:Wt.Rf):Bool:=eqR x.s x.r x.c x.fr x.fc y.s y.r y.c y.fr y.fc
def eqN(x y:Wt.Nd):Bool:=(x.k == y.k)&&(XC x.v y.v&&((x.op == y.op)&&((x.nm == y.nm)&&((x.ar == y.ar)&&(zQ2 x.a y.a&&zQ2 x.b y.b)))))
theorem zMD(x y:Wt.Vl):XC x y=nX↔x=y:=by
 obtain⟨k,n,d,t,b,f⟩:=x;obtain⟨p,q,j,s,g,l⟩:=y;simp[XC,eqV,Js]
theorem zMV(x y:Wt.Rf):zQ2 x y=nX↔x=y:=by
 obtain⟨k,n,d,t,b⟩:=x;obtain⟨l,p,j,q,g⟩:=y;simp[zQ2,eqR,Js]
theorem zEz(x y:Wt.Nd):eqN x y=nX↔x=y:=by
 obtain⟨k,v,z,nm,q,a,b⟩:=x;obtain⟨u,A,l,j,g,p,s⟩:=y;simp[eqN,Js,zMD,zMV]
theorem zBi(x y:Wt.Nd)(w:wW):(binOp .eql 97 (ndV x) (ndV y)).run prog w=.ok (Y (eqN x y)) w:=by
 obtain⟨k,⟨vk,vn,vd,vt,vb,vf⟩,op,nm,ar,⟨sa,ra,ca,B,z⟩,⟨sb,rb,cb,C,A⟩⟩:=x;obtain⟨k',⟨S,T,Q,X,N,R⟩,ac,ab,aa,⟨I,G,u,l,g⟩,⟨M,H,v,p,j⟩⟩:=y;have q:=λw=>zNO 9996 vk vn vd vt vb vf S T Q X N R w
 have e2:=λw=>zNH 9997 sa ra ca B z I G u l g w
 have e3:=λw=>zNH 9997 sb rb cb C A M H v p j w
 simp only[Nat.reduceAdd]at q e2 e3;simp only[ndV,QM,eqN,XC,zQ2];generalize eqV vk vn vd vt vb vf S T Q X N R=q1 at*;generalize eqR sa ra ca B z I G u l g=q2 at*;generalize eqR sb rb cb C A M H v p j=q3 at*;rw[run_eql_struct,beq_toListBytes];by_cases s:k=k'
 ·cases q1
  ·simp[go_sem,s,q]
  ·by_cases D:op=ac
   ·by_cases h3:nm.toList=ab.toList
    ·by_cases h4:ar=aa
     ·cases q2
      ·simp[go_sem,s,D,h3,h4,q,e2]
      ·cases q3 <;> simp[go_sem,s,D,h3,h4,q,e2,e3]
     ·simp[go_sem,s,D,h3,h4,q]
    ·simp[go_sem,s,D,h3,q]
   ·simp[go_sem,s,D,q]
 ·simp[go_sem,s]
theorem zAW{P:Program}{j:Array Oper}{g:List Oper}{l:Oper}{a:Act}{Q:Exit->Act->wW->Prop}(A:Region.wanted l (yielded j a.tmps)=nX)(p:TypeId)(x:Operand)(v:l.op=.load p x)
  (b o:Nat) (B:a.eval x=pX (lX ⟨b,o,kX⟩)) (cs:List vW) (d:TypeDesc) (s:w.rangeAt b o cs)
  (z:P.underlying p=lX d) (hd:d.isRow=nX) (u:(P.info? p).map (·.size)=lX cs.length)
  (h:wpList P j Q g (a.put l.dst (gX cs.toArray)) w):wpList P j Q (l::g) a w :=
 BigFrame.wpList_want A λ_ q=>wp_load_mid p x v b o B cs d s z hd u (q _ _ h)
theorem stQ{P:Program}{l:Array Oper}{j:List Oper}{p:Oper}{a:Act}{w:World}{Q:Exit→Act→World→Prop}(s:TypeId)(x y:Operand)(b o:Nat)(g:Array Value)(A:w.there b o g.size)(u:g.all (·.oneCell')=true)(h:wpList P l Q j (a.put p.dst undef) (w.setCells b o g.toList))(q:p.guard=none:=by with_unfolding_all rfl)(z:p.op=.store s x y:=by with_unfolding_all rfl)(B:a.eval x=.pointer (some ⟨b,o,none⟩):=by with_unfolding_all rfl)(C:a.eval y=.agg g:=by with_unfolding_all rfl)(v:(P.info? s).map (·.size)=some g.size:=by kernel_rfl):wpList P l Q (p::j) a w:=wpList_store_mid q s x y z b o g B C A v u h
theorem ldQ{P:Program}{j:Array Oper}{g:List Oper}{l:Oper}{a:Act}{w:World}{Q:Exit→Act→World→Prop}(p:TypeId)(x:Operand)(b o:Nat)(cs:List Value)(d:TypeDesc)(q:w.rangeAt b o cs)(v:P.underlying p=some d)(h:wpList P j Q g (a.put l.dst (.agg cs.toArray)) w)(z:Region.wanted l (yielded j a.tmps)=true:=by with_unfolding_all rfl)(u:l.op=.load p x:=by with_unfolding_all rfl)(A:a.eval x=.pointer (some ⟨b,o,none⟩):=by with_unfolding_all rfl)(hd:d.isRow=true:=by with_unfolding_all rfl)(s:(P.info? p).map (·.size)=some cs.length:=by kernel_rfl):wpList P j Q (l::g) a w:=zAW z p x u b o A cs d q v hd s h
def bare(k:Int):Wt.Nd:=⟨k,Wt.v0,0,⟨#[]⟩,0,Wt.r0,Wt.r0⟩
abbrev two(w:wW)(x:Wt.Nd):wW:=(w.alloc (Z (QM x).toArray 97)).alloc (Z #[O J 0,O J 0,O J 0,O J 0,V ⟨#[]⟩,Y oX,O J 0,O J 0,V ⟨#[]⟩,O J 0,V ⟨#[]⟩,O J 0,O J 0,Y oX,Y oX,V ⟨#[]⟩,O J 0,O J 0,Y oX,Y oX] 97)
theorem zIw(x:Wt.Nd):∀v∈QM x,v.oneCell'=nX:=by
 intro v g;simp only[QM,List.mem_cons,List.not_mem_nil,or_false]at g;rcases g with rfl|rfl|rfl|rfl|rfl|rfl|rfl|rfl|rfl|rfl|rfl|rfl|rfl|rfl|rfl|rfl|rfl|rfl|rfl|rfl <;> rfl
theorem Jp(x:Wt.Nd):(QM x).toArray.all (·.oneCell')=nX:=all_oneCell_toArray (zIw x)
abbrev zQo(ka kb:Nat)(x:Wt.Nd)(W:wW):Prop :=
 W.cell? ⟨ka,1,kX⟩=lX (O J x.v.k)/\W.cell? ⟨ka,2,kX⟩=lX (O J x.v.n)/\W.cell? ⟨ka,3,kX⟩=lX (O J x.v.d)/\W.cell? ⟨ka,4,kX⟩=lX (V x.v.t)/\W.cell? ⟨ka,5,kX⟩=lX (Y x.v.b)/\W.cell? ⟨ka,6,kX⟩=lX (O J x.v.f)/\W.frozen? ⟨kb,1,kX⟩=oX/\W.frozen? ⟨kb,2,kX⟩=oX/\W.frozen? ⟨kb,3,kX⟩=oX/\W.frozen? ⟨kb,4,kX⟩=oX/\W.frozen? ⟨kb,5,kX⟩=oX/\W.frozen? ⟨kb,6,kX⟩=oX
theorem zE8(g:AtL W ka (QM x))(j:AtL W kb (QM y)):zQo ka kb x W :=
 ⟨g.2.1 1 _ rfl,g.2.1 2 _ rfl,g.2.1 3 _ rfl,g.2.1 4 _ rfl,g.2.1 5 _ rfl,g.2.1 6 _ rfl,j.2.2 1 (by show 1<20;decide),j.2.2 2 (by show 2<20;decide),j.2.2 3 (by show 3<20;decide),j.2.2 4 (by show 4<20;decide),j.2.2 5 (by show 5<20;decide),j.2.2 6 (by show 6<20;decide)⟩
theorem zA0(h:zQo ka kb x W)(g:kb≠ka)(j:Nat)(u:vW):zQo ka kb x (W.setCell ⟨kb,j,kX⟩ u):=by
 obtain⟨A,B,C,D,G,H,l,p,q,s,v,z⟩:=h;refine⟨?_,?_,?_,?_,?_,?_,?_,?_,?_,?_,?_,?_⟩;any_goals rw[eZ _ _ _ _ (by simpa using g)];assumption
 all_goals rw[hZ];assumption
theorem zLL(x:Wt.Nd)(w:wW)(hk:x.k=1)(Q:-9223372036854775808<=x.v.n)(S:x.v.n<=9223372036854775807)(T:-9223372036854775808<=x.v.d)(X:x.v.d<=9223372036854775807)(hs:x.v.t.size<=9223372036854775807) :
  CR 97 #[ndV x] w (Y (Wt.vlOk x.v&&eqN x ⟨1,x.v,0,⟨#[]⟩,0,Wt.r0,Wt.r0⟩)):=by
 have C:=(λw=>zPK x.v w Q S T X hs:∀w:wW,CR 124 #[gX #[O J x.v.k,O J x.v.n,O J x.v.d,V x.v.t,Y x.v.b,O J x.v.f]] w (Y (Wt.vlOk x.v)))
 have hq:∀w:wW,(binOp .eql 97 (gX (QM x).toArray) (gX (QM ⟨1,x.v,0,⟨#[]⟩,0,Wt.r0,Wt.r0⟩).toArray)).run prog w=.ok (Y (eqN x ⟨1,x.v,0,⟨#[]⟩,0,Wt.r0,Wt.r0⟩)) w:=λw=>zBi x ⟨1,x.v,0,⟨#[]⟩,0,Wt.r0,Wt.r0⟩ w
 generalize eqN x ⟨1,x.v,0,⟨#[]⟩,0,Wt.r0,Wt.r0⟩=R at*;generalize Wt.vlOk x.v=q at*;have A:AtL (two w x) w.heap.size (QM x):=(AtL.new0 w _ _).alloc _;have p:AtL (two w x) (w.heap.size+1) (QM (bare 0)):=AtL.new1 w _ _ _;have z:aY (two w x) (w.heap.size+1) 0 (QM (bare 1)).toArray.size:=p.there;have j:w.heap.size+1≠w.heap.size:=oM;have pA:=A.farAll j 0 (QM (bare 1));have G:AtL ((two w x).setCells (w.heap.size+1) 0 (QM (bare 1))) (w.heap.size+1) (QM (bare 1)):=p.setAll rfl;have u:bL w ((two w x).setCells (w.heap.size+1) 0 (QM (bare 1))):=Ql (QI (QI (aZ _ w) _) _) (bY _) _ 0;clear A p;have n0:(QM x)[0]?=lX (O J 1):=by rw[<-hk];rfl
 have N:=pA.2.1 0 _ n0;show cW _ _ #[gX (QM x).toArray] _ _
 have M:=zE8 pA G;cases q
 all_goals
  go_enter func97,ntmps97;go_upto_region 1 with fail
  go_upto_region 2 with((with_reducible refine stQ 97 (mX 3) (mX 9) (w.heap.size+1) 0 (QM (bare 1)).toArray ?_ ?_ ?_);exact z;exact Jp _)
  generalize(two w x).setCells (w.heap.size+1) 0 (QM (bare 1))=W0 at*;clear z;go_upto_region 4 with fail
  go_region_held3 (zQo w.heap.size (w.heap.size+1) x)
   (with_reducible first|exact M|assumption|exact zE8 l g|exact(zA0 (zA0 (zA0 (zA0 (zA0 (zA0 (by assumption) oM _ _) oM _ _) oM _ _) oM _ _) oM _ _) oM _ _)|exact zE8 (AtL.drew pA) (AtL.drew G))
   (first|(go_at_call 124;refine(C _).mono ?_;rintro e w1 ⟨rfl,I⟩;have l:=AtL.below I (AtL.drew pA);have g:=AtL.below I (AtL.drew G);have o1:=g.2.1 1 _ rfl;have o2:=g.2.1 2 _ rfl;have o3:=g.2.1 3 _ rfl;have o4:=g.2.1 4 _ rfl;have o5:=g.2.1 5 _ rfl;have o6:=g.2.1 6 _ rfl;have s:=QA u.drew I))
  all_goals
   clear pA G M C u o1 o2 o3 o4 o5 o6 N;have B:=((((((l.far j 1 (O J x.v.k)).far j 2 (O J x.v.n)).far j 3 (O J x.v.d)).far j 4 (V x.v.t)).far j 5 (Y x.v.b)).far j 6 (O J x.v.f))
   have D:=((((((g.set 1 (O J x.v.k)).set 2 (O J x.v.n)).set 3 (O J x.v.d)).set 4 (V x.v.t)).set 5 (Y x.v.b)).set 6 (O J x.v.f))
   have H:bL w ((((((w1.setCell ⟨w.heap.size+1,1,kX⟩ (O J x.v.k)).setCell ⟨w.heap.size+1,2,kX⟩ (O J x.v.n)).setCell ⟨w.heap.size+1,3,kX⟩ (O J x.v.d)).setCell ⟨w.heap.size+1,4,kX⟩ (V x.v.t)).setCell ⟨w.heap.size+1,5,kX⟩ (Y x.v.b)).setCell ⟨w.heap.size+1,6,kX⟩ (O J x.v.f)):=(clB s)
   clear l g s;generalize((((((w1.setCell ⟨w.heap.size+1,1,kX⟩ (O J x.v.k)).setCell ⟨w.heap.size+1,2,kX⟩ (O J x.v.n)).setCell ⟨w.heap.size+1,3,kX⟩ (O J x.v.d)).setCell ⟨w.heap.size+1,4,kX⟩ (V x.v.t)).setCell ⟨w.heap.size+1,5,kX⟩ (Y x.v.b)).setCell ⟨w.heap.size+1,6,kX⟩ (O J x.v.f))=W2 at*;have rA:=B.range;have rO:=D.range;clear B D;go_wp2_with (first|((with_reducible refine ldQ 97 (mX 1) w.heap.size 0 (QM x) _ ?_ underlying97 ?_);exact rA)|((with_reducible refine ldQ 97 (mX 3) (w.heap.size+1) 0 (QM ⟨1,x.v,0,⟨#[]⟩,0,Wt.r0,Wt.r0⟩) _ ?_ underlying97 ?_);exact rO))
   go_wp2;go_ret;exact⟨sM,H⟩
abbrev zQu(ka kb:Nat)(x:Wt.Nd)(W:wW):Prop :=
 W.cell? ⟨ka,10,kX⟩=lX (V x.a.s)/\W.cell? ⟨ka,11,kX⟩=lX (O J x.a.r)/\W.cell? ⟨ka,12,kX⟩=lX (O J x.a.c)/\W.cell? ⟨ka,13,kX⟩=lX (Y x.a.fr)/\W.cell? ⟨ka,14,kX⟩=lX (Y x.a.fc)/\W.frozen? ⟨kb,10,kX⟩=oX/\W.frozen? ⟨kb,11,kX⟩=oX/\W.frozen? ⟨kb,12,kX⟩=oX/\W.frozen? ⟨kb,13,kX⟩=oX/\W.frozen? ⟨kb,14,kX⟩=oX
theorem zFI(g:AtL W ka (QM x))(j:AtL W kb (QM y)):zQu ka kb x W :=
 ⟨g.2.1 10 _ rfl,g.2.1 11 _ rfl,g.2.1 12 _ rfl,g.2.1 13 _ rfl,g.2.1 14 _ rfl,j.2.2 10 (by show 10<20;decide),j.2.2 11 (by show 11<20;decide),j.2.2 12 (by show 12<20;decide),j.2.2 13 (by show 13<20;decide),j.2.2 14 (by show 14<20;decide)⟩
theorem zAu(h:zQu ka kb x W)(g:kb≠ka)(j:Nat)(u:vW):zQu ka kb x (W.setCell ⟨kb,j,kX⟩ u):=by
 obtain⟨z,A,B,C,D,l,p,q,s,v⟩:=h;refine⟨?_,?_,?_,?_,?_,?_,?_,?_,?_,?_⟩;any_goals rw[eZ _ _ _ _ (by simpa using g)];assumption
 all_goals rw[hZ];assumption
theorem zK8(x:Wt.Nd)(w:wW)(hk:x.k=2)(hs:x.a.s.size<=9223372036854775807) :
  CR 97 #[ndV x] w (Y (Wt.rfOk x.a&&eqN x ⟨2,Wt.v0,0,⟨#[]⟩,0,x.a,Wt.r0⟩)):=by
 have C:=(λw=>zFU x.a w hs:∀w:wW,CR 125 #[gX #[V x.a.s,O J x.a.r,O J x.a.c,Y x.a.fr,Y x.a.fc]] w (Y (Wt.rfOk x.a)))
 have hq:∀w:wW,(binOp .eql 97 (gX (QM x).toArray) (gX (QM ⟨2,Wt.v0,0,⟨#[]⟩,0,x.a,Wt.r0⟩).toArray)).run prog w=.ok (Y (eqN x ⟨2,Wt.v0,0,⟨#[]⟩,0,x.a,Wt.r0⟩)) w:=λw=>zBi x ⟨2,Wt.v0,0,⟨#[]⟩,0,x.a,Wt.r0⟩ w
 generalize eqN x ⟨2,Wt.v0,0,⟨#[]⟩,0,x.a,Wt.r0⟩=R at*;generalize Wt.rfOk x.a=q at*;have A:AtL (two w x) w.heap.size (QM x):=(AtL.new0 w _ _).alloc _;have p:AtL (two w x) (w.heap.size+1) (QM (bare 0)):=AtL.new1 w _ _ _;have z:aY (two w x) (w.heap.size+1) 0 (QM (bare 2)).toArray.size:=p.there;have j:w.heap.size+1≠w.heap.size:=oM;have pA:=A.farAll j 0 (QM (bare 2));have G:AtL ((two w x).setCells (w.heap.size+1) 0 (QM (bare 2))) (w.heap.size+1) (QM (bare 2)):=p.setAll rfl;have v:bL w ((two w x).setCells (w.heap.size+1) 0 (QM (bare 2))):=Ql (QI (QI (aZ _ w) _) _) (bY _) _ 0;clear A p;have n0:(QM x)[0]?=lX (O J 2):=by rw[<-hk];rfl
 have a0:=pA.2.1 0 _ n0;show cW _ _ #[gX (QM x).toArray] _ _
 have X:=zFI pA G;cases q
 all_goals
  go_enter func97,ntmps97;go_upto_region 1 with fail
  go_upto_region 2 with((with_reducible refine stQ 97 (mX 3) (mX 9) (w.heap.size+1) 0 (QM (bare 2)).toArray ?_ ?_ ?_);exact z;exact Jp _)
  generalize(two w x).setCells (w.heap.size+1) 0 (QM (bare 2))=W0 at*;clear z;go_upto_region 6 with fail
  go_region_held3 (zQu w.heap.size (w.heap.size+1) x)
   (with_reducible first|exact X|assumption|exact zFI l g|exact(zAu (zAu (zAu (zAu (zAu (by assumption) oM _ _) oM _ _) oM _ _) oM _ _) oM _ _)|exact zFI (AtL.drew pA) (AtL.drew G))
   (first|(go_at_call 125;refine(C _).mono ?_;rintro e w1 ⟨rfl,I⟩;have l:=AtL.below I (AtL.drew pA);have g:=AtL.below I (AtL.drew G);have M:=g.2.1 10 _ rfl;have N:=g.2.1 11 _ rfl;have Q:=g.2.1 12 _ rfl;have S:=g.2.1 13 _ rfl;have T:=g.2.1 14 _ rfl;have u:=QA v.drew I))
  all_goals
   clear pA G X C v M N Q S T a0;have B:=(((((l.far j 10 (V x.a.s)).far j 11 (O J x.a.r)).far j 12 (O J x.a.c)).far j 13 (Y x.a.fr)).far j 14 (Y x.a.fc))
   have D:=(((((g.set 10 (V x.a.s)).set 11 (O J x.a.r)).set 12 (O J x.a.c)).set 13 (Y x.a.fr)).set 14 (Y x.a.fc))
   have H:bL w (((((w1.setCell ⟨w.heap.size+1,10,kX⟩ (V x.a.s)).setCell ⟨w.heap.size+1,11,kX⟩ (O J x.a.r)).setCell ⟨w.heap.size+1,12,kX⟩ (O J x.a.c)).setCell ⟨w.heap.size+1,13,kX⟩ (Y x.a.fr)).setCell ⟨w.heap.size+1,14,kX⟩ (Y x.a.fc)):=(clB u)
   clear l g u;generalize(((((w1.setCell ⟨w.heap.size+1,10,kX⟩ (V x.a.s)).setCell ⟨w.heap.size+1,11,kX⟩ (O J x.a.r)).setCell ⟨w.heap.size+1,12,kX⟩ (O J x.a.c)).setCell ⟨w.heap.size+1,13,kX⟩ (Y x.a.fr)).setCell ⟨w.heap.size+1,14,kX⟩ (Y x.a.fc))=W2 at*;have rA:=B.range;have rO:=D.range;clear B D;go_wp2_with (first|((with_reducible refine ldQ 97 (mX 1) w.heap.size 0 (QM x) _ ?_ underlying97 ?_);exact rA)|((with_reducible refine ldQ 97 (mX 3) (w.heap.size+1) 0 (QM ⟨2,Wt.v0,0,⟨#[]⟩,0,x.a,Wt.r0⟩) _ ?_ underlying97 ?_);exact rO))
   go_wp2;go_ret;exact⟨sM,H⟩
abbrev zQr(ka kb:Nat)(x:Wt.Nd)(W:wW):Prop :=
 W.cell? ⟨ka,10,kX⟩=lX (V x.a.s)/\W.cell? ⟨ka,11,kX⟩=lX (O J x.a.r)/\W.cell? ⟨ka,12,kX⟩=lX (O J x.a.c)/\W.cell? ⟨ka,13,kX⟩=lX (Y x.a.fr)/\W.cell? ⟨ka,14,kX⟩=lX (Y x.a.fc)/\W.cell? ⟨ka,15,kX⟩=lX (V x.b.s)/\W.cell? ⟨ka,16,kX⟩=lX (O J x.b.r)/\W.cell? ⟨ka,17,kX⟩=lX (O J x.b.c)/\W.cell? ⟨ka,18,kX⟩=lX (Y x.b.fr)/\W.cell? ⟨ka,19,kX⟩=lX (Y x.b.fc)/\W.frozen? ⟨kb,10,kX⟩=oX/\W.frozen? ⟨kb,11,kX⟩=oX/\W.frozen? ⟨kb,12,kX⟩=oX/\W.frozen? ⟨kb,13,kX⟩=oX/\W.frozen? ⟨kb,14,kX⟩=oX/\W.frozen? ⟨kb,15,kX⟩=oX/\W.frozen? ⟨kb,16,kX⟩=oX/\W.frozen? ⟨kb,17,kX⟩=oX/\W.frozen? ⟨kb,18,kX⟩=oX/\W.frozen? ⟨kb,19,kX⟩=oX
theorem JZ(g:AtL W ka (QM x))(j:AtL W kb (QM y)):zQr ka kb x W :=
 ⟨g.2.1 10 _ rfl,g.2.1 11 _ rfl,g.2.1 12 _ rfl,g.2.1 13 _ rfl,g.2.1 14 _ rfl,g.2.1 15 _ rfl,g.2.1 16 _ rfl,g.2.1 17 _ rfl,g.2.1 18 _ rfl,g.2.1 19 _ rfl,j.2.2 10 (by show 10<20;decide),j.2.2 11 (by show 11<20;decide),j.2.2 12 (by show 12<20;decide),j.2.2 13 (by show 13<20;decide),j.2.2 14 (by show 14<20;decide),j.2.2 15 (by show 15<20;decide),j.2.2 16 (by show 16<20;decide),j.2.2 17 (by show 17<20;decide),j.2.2 18 (by show 18<20;decide),j.2.2 19 (by show 19<20;decide)⟩
theorem QW(h:zQr ka kb x W)(g:kb≠ka)(j:Nat)(u:vW):zQr ka kb x (W.setCell ⟨kb,j,kX⟩ u):=by
 obtain⟨G,H,I,M,N,Q,R,S,T,X,l,p,q,s,v,z,A,B,C,D⟩:=h;refine⟨?_,?_,?_,?_,?_,?_,?_,?_,?_,?_,?_,?_,?_,?_,?_,?_,?_,?_,?_,?_⟩;any_goals rw[eZ _ _ _ _ (by simpa using g)];assumption
 all_goals rw[hZ];assumption
theorem zLC(x:Wt.Nd)(w:wW)(hk:x.k=3)(hs:x.a.s.size<=9223372036854775807)(ar:x.b.s.size<=9223372036854775807) :
  CR 97 #[ndV x] w (Y ((Wt.rfOk x.a&&Wt.rfOk x.b&&x.b.s.toList.isEmpty)&&eqN x ⟨3,Wt.v0,0,⟨#[]⟩,0,x.a,x.b⟩)):=by
 have CA:=(λw=>zFU x.a w hs:∀w:wW,CR 125 #[gX #[V x.a.s,O J x.a.r,O J x.a.c,Y x.a.fr,Y x.a.fc]] w (Y (Wt.rfOk x.a)))
 have CB:=(λw=>zFU x.b w ar:∀w:wW,CR 125 #[gX #[V x.b.s,O J x.b.r,O J x.b.c,Y x.b.fr,Y x.b.fc]] w (Y (Wt.rfOk x.b)))
 have hq:∀w:wW,(binOp .eql 97 (gX (QM x).toArray) (gX (QM ⟨3,Wt.v0,0,⟨#[]⟩,0,x.a,x.b⟩).toArray)).run prog w=.ok (Y (eqN x ⟨3,Wt.v0,0,⟨#[]⟩,0,x.a,x.b⟩)) w:=λw=>zBi x ⟨3,Wt.v0,0,⟨#[]⟩,0,x.a,x.b⟩ w
 generalize eqN x ⟨3,Wt.v0,0,⟨#[]⟩,0,x.a,x.b⟩=R at*;generalize Wt.rfOk x.a=qa at*;generalize Wt.rfOk x.b=qb at*;have ap:AtL (two w x) w.heap.size (QM x):=(AtL.new0 w _ _).alloc _;have am:AtL (two w x) (w.heap.size+1) (QM (bare 0)):=AtL.new1 w _ _ _;have ao:aY (two w x) (w.heap.size+1) 0 (QM (bare 3)).toArray.size:=am.there;have p:w.heap.size+1≠w.heap.size:=oM;have pA:=ap.farAll p 0 (QM (bare 3));have pO:AtL ((two w x).setCells (w.heap.size+1) 0 (QM (bare 3))) (w.heap.size+1) (QM (bare 3)):=am.setAll rfl;have aq:bL w ((two w x).setCells (w.heap.size+1) 0 (QM (bare 3))):=Ql (QI (QI (aZ _ w) _) _) (bY _) _ 0;clear ap am;have n0:(QM x)[0]?=lX (O J 3):=by rw[<-hk];rfl
 have a0:=pA.2.1 0 _ n0;show cW _ _ #[gX (QM x).toArray] _ _
 go_enter func97,ntmps97;go_upto_region 1 with fail
 go_upto_region 2 with((with_reducible refine stQ 97 (mX 3) (mX 9) (w.heap.size+1) 0 (QM (bare 3)).toArray ?_ ?_ ?_);exact ao;exact Jp _)
 generalize(two w x).setCells (w.heap.size+1) 0 (QM (bare 3))=W0 at*;clear ao;go_upto_region 8 with fail
 refine wp_region_held_drew (S:=zQr w.heap.size (w.heap.size+1) x) kR (JZ (AtL.drew pA) (AtL.drew pO)) (λl=>?_);refine tkQ 0 ?_
 refine tkQ 1 ?_
 refine tkQ 2 ?_
 refine tkQ 3 ?_
 refine tkQ 4 ?_
 refine tkQ 5 ?_
 refine tkQ 18 ?_
 refine rdQ 6 (λK q=>?_);go_simp
 refine(CA _).mono ?_;rintro e w1 ⟨rfl,hb⟩;have u:=AtL.below hb (AtL.drew pA);have g:=AtL.below hb (AtL.drew pO);have ah:=QA aq.drew hb;clear hb;go_wp2_with fail
 refine hkQ q (JZ u g) (λl=>?_);clear q K
 refine tkQ 7 ?_
 cases qa
 ·clear CB;refine tnQ 8 ?_
  refine tnQ 9 ?_
  refine tnQ 10 ?_
  refine tkQ 11 ?_
  refine tkQ 12 ?_
  refine tnQ 13 ?_
  refine tnQ 14 ?_
  refine tnQ 15 ?_
  refine tnQ 16 ?_
  refine tkQ 17 ?_
  refine rdQ 19 (λK q=>?_);have N:=g.2.1 10 _ rfl;have Q:=g.2.1 11 _ rfl;have T:=g.2.1 12 _ rfl;have X:=g.2.1 13 _ rfl;have aa:=g.2.1 14 _ rfl;have ab:=g.2.1 15 _ rfl;have ac:=g.2.1 16 _ rfl;have ad:=g.2.1 17 _ rfl;have ae:=g.2.1 18 _ rfl;have af:=g.2.1 19 _ rfl;obtain⟨_,_,_,_,_,_,_,_,_,_,v,z,A,B,C,D,G,H,I,M⟩:=l;go_simp
  refine hkQ q ((QW (QW (QW (QW (QW (JZ u g) oM _ _) oM _ _) oM _ _) oM _ _) oM _ _)) (λl=>?_);clear q K
  refine tkQ 20 ?_
  refine rdQ 21 (λK q=>?_);have ag:AtL (((((w1.setCell ⟨w.heap.size+1,10,kX⟩ (V x.a.s)).setCell ⟨w.heap.size+1,11,kX⟩ (O J x.a.r)).setCell ⟨w.heap.size+1,12,kX⟩ (O J x.a.c)).setCell ⟨w.heap.size+1,13,kX⟩ (Y x.a.fr)).setCell ⟨w.heap.size+1,14,kX⟩ (Y x.a.fc)) w.heap.size (QM x):=(((((u.far p 10 (V x.a.s)).far p 11 (O J x.a.r)).far p 12 (O J x.a.c)).far p 13 (Y x.a.fr)).far p 14 (Y x.a.fc))
  have j:AtL (((((w1.setCell ⟨w.heap.size+1,10,kX⟩ (V x.a.s)).setCell ⟨w.heap.size+1,11,kX⟩ (O J x.a.r)).setCell ⟨w.heap.size+1,12,kX⟩ (O J x.a.c)).setCell ⟨w.heap.size+1,13,kX⟩ (Y x.a.fr)).setCell ⟨w.heap.size+1,14,kX⟩ (Y x.a.fc)) (w.heap.size+1) (QM ⟨3,Wt.v0,0,⟨#[]⟩,0,x.a,Wt.r0⟩):=(((((g.set 10 (V x.a.s)).set 11 (O J x.a.r)).set 12 (O J x.a.c)).set 13 (Y x.a.fr)).set 14 (Y x.a.fc))
  have ai:bL w (((((w1.setCell ⟨w.heap.size+1,10,kX⟩ (V x.a.s)).setCell ⟨w.heap.size+1,11,kX⟩ (O J x.a.r)).setCell ⟨w.heap.size+1,12,kX⟩ (O J x.a.c)).setCell ⟨w.heap.size+1,13,kX⟩ (Y x.a.fr)).setCell ⟨w.heap.size+1,14,kX⟩ (Y x.a.fc)):=(clB ah)
  clear u g ah N Q T X aa ab ac ad ae af v z A B C D G H I M;generalize(((((w1.setCell ⟨w.heap.size+1,10,kX⟩ (V x.a.s)).setCell ⟨w.heap.size+1,11,kX⟩ (O J x.a.r)).setCell ⟨w.heap.size+1,12,kX⟩ (O J x.a.c)).setCell ⟨w.heap.size+1,13,kX⟩ (Y x.a.fr)).setCell ⟨w.heap.size+1,14,kX⟩ (Y x.a.fc))=w9 at*;have N:=j.2.1 10 _ rfl;have Q:=j.2.1 11 _ rfl;have T:=j.2.1 12 _ rfl;have X:=j.2.1 13 _ rfl;have aa:=j.2.1 14 _ rfl;have ab:=j.2.1 15 _ rfl;have ac:=j.2.1 16 _ rfl;have ad:=j.2.1 17 _ rfl;have ae:=j.2.1 18 _ rfl;have af:=j.2.1 19 _ rfl;obtain⟨_,_,_,_,_,_,_,_,_,_,v,z,A,B,C,D,G,H,I,M⟩:=l;go_simp
  refine hkQ q ((QW (QW (QW (QW (QW (JZ ag j) oM _ _) oM _ _) oM _ _) oM _ _) oM _ _)) (λl=>?_);clear q K
  refine rdQ 22 (λK q=>?_);go_simp
  refine hkQ q (by assumption) (λl=>?_);clear q K
  refine wpAnyH_done kR ?_ _;have aj:=(((((ag.far p 15 (V x.b.s)).far p 16 (O J x.b.r)).far p 17 (O J x.b.c)).far p 18 (Y x.b.fr)).far p 19 (Y x.b.fc))
  have ak:AtL (((((w9.setCell ⟨w.heap.size+1,15,kX⟩ (V x.b.s)).setCell ⟨w.heap.size+1,16,kX⟩ (O J x.b.r)).setCell ⟨w.heap.size+1,17,kX⟩ (O J x.b.c)).setCell ⟨w.heap.size+1,18,kX⟩ (Y x.b.fr)).setCell ⟨w.heap.size+1,19,kX⟩ (Y x.b.fc)) (w.heap.size+1) (QM ⟨3,Wt.v0,0,⟨#[]⟩,0,x.a,x.b⟩):=(((((j.set 15 (V x.b.s)).set 16 (O J x.b.r)).set 17 (O J x.b.c)).set 18 (Y x.b.fr)).set 19 (Y x.b.fc))
  have al:bL w (((((w9.setCell ⟨w.heap.size+1,15,kX⟩ (V x.b.s)).setCell ⟨w.heap.size+1,16,kX⟩ (O J x.b.r)).setCell ⟨w.heap.size+1,17,kX⟩ (O J x.b.c)).setCell ⟨w.heap.size+1,18,kX⟩ (Y x.b.fr)).setCell ⟨w.heap.size+1,19,kX⟩ (Y x.b.fc)):=(clB ai)
  clear ag j ai N Q T X aa ab ac ad ae af v z A B C D G H I M;generalize(((((w9.setCell ⟨w.heap.size+1,15,kX⟩ (V x.b.s)).setCell ⟨w.heap.size+1,16,kX⟩ (O J x.b.r)).setCell ⟨w.heap.size+1,17,kX⟩ (O J x.b.c)).setCell ⟨w.heap.size+1,18,kX⟩ (Y x.b.fr)).setCell ⟨w.heap.size+1,19,kX⟩ (Y x.b.fc))=W2 at*;have rA:=aj.range;have rO:=ak.range;clear aj ak;go_wp2_with (first|((with_reducible refine ldQ 97 (mX 1) w.heap.size 0 (QM x) _ ?_ underlying97 ?_);exact rA)|((with_reducible refine ldQ 97 (mX 3) (w.heap.size+1) 0 (QM ⟨3,Wt.v0,0,⟨#[]⟩,0,x.a,x.b⟩) _ ?_ underlying97 ?_);exact rO))
  go_wp2;go_ret;exact⟨sM,al⟩
 refine tkQ 8 ?_
 refine tkQ 9 ?_
 refine rdQ 10 (λK q=>?_);go_simp
 refine(CB _).mono ?_;rintro e w2 ⟨rfl,hb⟩;replace u:=AtL.below hb u
 replace g:=AtL.below hb g
 replace ah:=QA ah hb
 clear hb;go_wp2_with fail
 refine hkQ q (JZ u g) (λl=>?_);clear q K
 refine tkQ 11 ?_
 refine tkQ 12 ?_
 cases qb
 ·refine tnQ 13 ?_
  refine tnQ 14 ?_
  refine tnQ 15 ?_
  refine tnQ 16 ?_
  refine tkQ 17 ?_
  refine rdQ 19 (λK q=>?_);have N:=g.2.1 10 _ rfl;have Q:=g.2.1 11 _ rfl;have T:=g.2.1 12 _ rfl;have X:=g.2.1 13 _ rfl;have aa:=g.2.1 14 _ rfl;have ab:=g.2.1 15 _ rfl;have ac:=g.2.1 16 _ rfl;have ad:=g.2.1 17 _ rfl;have ae:=g.2.1 18 _ rfl;have af:=g.2.1 19 _ rfl;obtain⟨_,_,_,_,_,_,_,_,_,_,v,z,A,B,C,D,G,H,I,M⟩:=l;go_simp
  refine hkQ q ((QW (QW (QW (QW (QW (JZ u g) oM _ _) oM _ _) oM _ _) oM _ _) oM _ _)) (λl=>?_);clear q K
  refine tkQ 20 ?_
  refine rdQ 21 (λK q=>?_);have ag:AtL (((((w2.setCell ⟨w.heap.size+1,10,kX⟩ (V x.a.s)).setCell ⟨w.heap.size+1,11,kX⟩ (O J x.a.r)).setCell ⟨w.heap.size+1,12,kX⟩ (O J x.a.c)).setCell ⟨w.heap.size+1,13,kX⟩ (Y x.a.fr)).setCell ⟨w.heap.size+1,14,kX⟩ (Y x.a.fc)) w.heap.size (QM x):=(((((u.far p 10 (V x.a.s)).far p 11 (O J x.a.r)).far p 12 (O J x.a.c)).far p 13 (Y x.a.fr)).far p 14 (Y x.a.fc))
  have j:AtL (((((w2.setCell ⟨w.heap.size+1,10,kX⟩ (V x.a.s)).setCell ⟨w.heap.size+1,11,kX⟩ (O J x.a.r)).setCell ⟨w.heap.size+1,12,kX⟩ (O J x.a.c)).setCell ⟨w.heap.size+1,13,kX⟩ (Y x.a.fr)).setCell ⟨w.heap.size+1,14,kX⟩ (Y x.a.fc)) (w.heap.size+1) (QM ⟨3,Wt.v0,0,⟨#[]⟩,0,x.a,Wt.r0⟩):=(((((g.set 10 (V x.a.s)).set 11 (O J x.a.r)).set 12 (O J x.a.c)).set 13 (Y x.a.fr)).set 14 (Y x.a.fc))
  have ai:bL w (((((w2.setCell ⟨w.heap.size+1,10,kX⟩ (V x.a.s)).setCell ⟨w.heap.size+1,11,kX⟩ (O J x.a.r)).setCell ⟨w.heap.size+1,12,kX⟩ (O J x.a.c)).setCell ⟨w.heap.size+1,13,kX⟩ (Y x.a.fr)).setCell ⟨w.heap.size+1,14,kX⟩ (Y x.a.fc)):=(clB ah)
  clear u g ah N Q T X aa ab ac ad ae af v z A B C D G H I M;generalize(((((w2.setCell ⟨w.heap.size+1,10,kX⟩ (V x.a.s)).setCell ⟨w.heap.size+1,11,kX⟩ (O J x.a.r)).setCell ⟨w.heap.size+1,12,kX⟩ (O J x.a.c)).setCell ⟨w.heap.size+1,13,kX⟩ (Y x.a.fr)).setCell ⟨w.heap.size+1,14,kX⟩ (Y x.a.fc))=w9 at*;have N:=j.2.1 10 _ rfl;have Q:=j.2.1 11 _ rfl;have T:=j.2.1 12 _ rfl;have X:=j.2.1 13 _ rfl;have aa:=j.2.1 14 _ rfl;have ab:=j.2.1 15 _ rfl;have ac:=j.2.1 16 _ rfl;have ad:=j.2.1 17 _ rfl;have ae:=j.2.1 18 _ rfl;have af:=j.2.1 19 _ rfl;obtain⟨_,_,_,_,_,_,_,_,_,_,v,z,A,B,C,D,G,H,I,M⟩:=l;go_simp
  refine hkQ q ((QW (QW (QW (QW (QW (JZ ag j) oM _ _) oM _ _) oM _ _) oM _ _) oM _ _)) (λl=>?_);clear q K
  refine rdQ 22 (λK q=>?_);go_simp
  refine hkQ q (by assumption) (λl=>?_);clear q K
  refine wpAnyH_done kR ?_ _;have aj:AtL (((((w9.setCell ⟨w.heap.size+1,15,kX⟩ (V x.b.s)).setCell ⟨w.heap.size+1,16,kX⟩ (O J x.b.r)).setCell ⟨w.heap.size+1,17,kX⟩ (O J x.b.c)).setCell ⟨w.heap.size+1,18,kX⟩ (Y x.b.fr)).setCell ⟨w.heap.size+1,19,kX⟩ (Y x.b.fc)) w.heap.size (QM x):=(((((ag.far p 15 (V x.b.s)).far p 16 (O J x.b.r)).far p 17 (O J x.b.c)).far p 18 (Y x.b.fr)).far p 19 (Y x.b.fc))
  have ak:AtL (((((w9.setCell ⟨w.heap.size+1,15,kX⟩ (V x.b.s)).setCell ⟨w.heap.size+1,16,kX⟩ (O J x.b.r)).setCell ⟨w.heap.size+1,17,kX⟩ (O J x.b.c)).setCell ⟨w.heap.size+1,18,kX⟩ (Y x.b.fr)).setCell ⟨w.heap.size+1,19,kX⟩ (Y x.b.fc)) (w.heap.size+1) (QM ⟨3,Wt.v0,0,⟨#[]⟩,0,x.a,x.b⟩):=(((((j.set 15 (V x.b.s)).set 16 (O J x.b.r)).set 17 (O J x.b.c)).set 18 (Y x.b.fr)).set 19 (Y x.b.fc))
  have al:bL w (((((w9.setCell ⟨w.heap.size+1,15,kX⟩ (V x.b.s)).setCell ⟨w.heap.size+1,16,kX⟩ (O J x.b.r)).setCell ⟨w.heap.size+1,17,kX⟩ (O J x.b.c)).setCell ⟨w.heap.size+1,18,kX⟩ (Y x.b.fr)).setCell ⟨w.heap.size+1,19,kX⟩ (Y x.b.fc)):=(clB ai)
  clear ag j ai N Q T X aa ab ac ad ae af v z A B C D G H I M;generalize(((((w9.setCell ⟨w.heap.size+1,15,kX⟩ (V x.b.s)).setCell ⟨w.heap.size+1,16,kX⟩ (O J x.b.r)).setCell ⟨w.heap.size+1,17,kX⟩ (O J x.b.c)).setCell ⟨w.heap.size+1,18,kX⟩ (Y x.b.fr)).setCell ⟨w.heap.size+1,19,kX⟩ (Y x.b.fc))=W2 at*;have rA:=aj.range;have rO:=ak.range;clear aj ak;go_wp2_with (first|((with_reducible refine ldQ 97 (mX 1) w.heap.size 0 (QM x) _ ?_ underlying97 ?_);exact rA)|((with_reducible refine ldQ 97 (mX 3) (w.heap.size+1) 0 (QM ⟨3,Wt.v0,0,⟨#[]⟩,0,x.a,x.b⟩) _ ?_ underlying97 ?_);exact rO))
  go_wp2;go_ret;exact⟨sM,al⟩
 cases he:x.b.s.toList.isEmpty
 all_goals
  refine tkQ 13 ?_
  refine tkQ 14 ?_
  refine tkQ 15 ?_
  refine tkQ 16 ?_
  refine tkQ 17 ?_
  refine rdQ 19 (λK q=>?_);have N:=g.2.1 10 _ rfl;have Q:=g.2.1 11 _ rfl;have T:=g.2.1 12 _ rfl;have X:=g.2.1 13 _ rfl;have aa:=g.2.1 14 _ rfl;have ab:=g.2.1 15 _ rfl;have ac:=g.2.1 16 _ rfl;have ad:=g.2.1 17 _ rfl;have ae:=g.2.1 18 _ rfl;have af:=g.2.1 19 _ rfl;obtain⟨_,_,_,_,_,_,_,_,_,_,v,z,A,B,C,D,G,H,I,M⟩:=l;go_simp
  refine hkQ q ((QW (QW (QW (QW (QW (JZ u g) oM _ _) oM _ _) oM _ _) oM _ _) oM _ _)) (λl=>?_);clear q K
  refine tkQ 20 ?_
  refine rdQ 21 (λK q=>?_);have ag:AtL (((((w2.setCell ⟨w.heap.size+1,10,kX⟩ (V x.a.s)).setCell ⟨w.heap.size+1,11,kX⟩ (O J x.a.r)).setCell ⟨w.heap.size+1,12,kX⟩ (O J x.a.c)).setCell ⟨w.heap.size+1,13,kX⟩ (Y x.a.fr)).setCell ⟨w.heap.size+1,14,kX⟩ (Y x.a.fc)) w.heap.size (QM x):=(((((u.far p 10 (V x.a.s)).far p 11 (O J x.a.r)).far p 12 (O J x.a.c)).far p 13 (Y x.a.fr)).far p 14 (Y x.a.fc))
  have j:AtL (((((w2.setCell ⟨w.heap.size+1,10,kX⟩ (V x.a.s)).setCell ⟨w.heap.size+1,11,kX⟩ (O J x.a.r)).setCell ⟨w.heap.size+1,12,kX⟩ (O J x.a.c)).setCell ⟨w.heap.size+1,13,kX⟩ (Y x.a.fr)).setCell ⟨w.heap.size+1,14,kX⟩ (Y x.a.fc)) (w.heap.size+1) (QM ⟨3,Wt.v0,0,⟨#[]⟩,0,x.a,Wt.r0⟩):=(((((g.set 10 (V x.a.s)).set 11 (O J x.a.r)).set 12 (O J x.a.c)).set 13 (Y x.a.fr)).set 14 (Y x.a.fc))
  have ai:bL w (((((w2.setCell ⟨w.heap.size+1,10,kX⟩ (V x.a.s)).setCell ⟨w.heap.size+1,11,kX⟩ (O J x.a.r)).setCell ⟨w.heap.size+1,12,kX⟩ (O J x.a.c)).setCell ⟨w.heap.size+1,13,kX⟩ (Y x.a.fr)).setCell ⟨w.heap.size+1,14,kX⟩ (Y x.a.fc)):=(clB ah)
  clear u g ah N Q T X aa ab ac ad ae af v z A B C D G H I M;generalize(((((w2.setCell ⟨w.heap.size+1,10,kX⟩ (V x.a.s)).setCell ⟨w.heap.size+1,11,kX⟩ (O J x.a.r)).setCell ⟨w.heap.size+1,12,kX⟩ (O J x.a.c)).setCell ⟨w.heap.size+1,13,kX⟩ (Y x.a.fr)).setCell ⟨w.heap.size+1,14,kX⟩ (Y x.a.fc))=w9 at*;have N:=j.2.1 10 _ rfl;have Q:=j.2.1 11 _ rfl;have T:=j.2.1 12 _ rfl;have X:=j.2.1 13 _ rfl;have aa:=j.2.1 14 _ rfl;have ab:=j.2.1 15 _ rfl;have ac:=j.2.1 16 _ rfl;have ad:=j.2.1 17 _ rfl;have ae:=j.2.1 18 _ rfl;have af:=j.2.1 19 _ rfl;obtain⟨_,_,_,_,_,_,_,_,_,_,v,z,A,B,C,D,G,H,I,M⟩:=l;go_simp
  refine hkQ q ((QW (QW (QW (QW (QW (JZ ag j) oM _ _) oM _ _) oM _ _) oM _ _) oM _ _)) (λl=>?_);clear q K
  refine rdQ 22 (λK q=>?_);go_simp
  refine hkQ q (by assumption) (λl=>?_);clear q K
  refine wpAnyH_done kR ?_ _;have aj:=(((((ag.far p 15 (V x.b.s)).far p 16 (O J x.b.r)).far p 17 (O J x.b.c)).far p 18 (Y x.b.fr)).far p 19 (Y x.b.fc))
  have ak:=(((((j.set 15 (V x.b.s)).set 16 (O J x.b.r)).set 17 (O J x.b.c)).set 18 (Y x.b.fr)).set 19 (Y x.b.fc))
  have al:bL w (((((w9.setCell ⟨w.heap.size+1,15,kX⟩ (V x.b.s)).setCell ⟨w.heap.size+1,16,kX⟩ (O J x.b.r)).setCell ⟨w.heap.size+1,17,kX⟩ (O J x.b.c)).setCell ⟨w.heap.size+1,18,kX⟩ (Y x.b.fr)).setCell ⟨w.heap.size+1,19,kX⟩ (Y x.b.fc)):=(clB ai)
  clear ag j ai N Q T X aa ab ac ad ae af v z A B C D G H I M;generalize(((((w9.setCell ⟨w.heap.size+1,15,kX⟩ (V x.b.s)).setCell ⟨w.heap.size+1,16,kX⟩ (O J x.b.r)).setCell ⟨w.heap.size+1,17,kX⟩ (O J x.b.c)).setCell ⟨w.heap.size+1,18,kX⟩ (Y x.b.fr)).setCell ⟨w.heap.size+1,19,kX⟩ (Y x.b.fc))=W2 at*;have rA:=aj.range;have rO:=ak.range;clear aj ak;go_wp2_with (first|((with_reducible refine ldQ 97 (mX 1) w.heap.size 0 (QM x) _ ?_ underlying97 ?_);exact rA)|((with_reducible refine ldQ 97 (mX 3) (w.heap.size+1) 0 (QM ⟨3,Wt.v0,0,⟨#[]⟩,0,x.a,x.b⟩) _ ?_ underlying97 ?_);exact rO))
  go_wp2;go_ret;have an:=he;simp only[List.isEmpty_iff,List.isEmpty_eq_false_iff]at an;exact⟨by simp[an],al⟩
abbrev zQx(ka kb:Nat)(x:Wt.Nd)(W:wW):Prop :=
 W.cell? ⟨ka,8,kX⟩=lX (V x.nm)/\W.cell? ⟨ka,9,kX⟩=lX (O J x.ar)/\W.frozen? ⟨kb,8,kX⟩=oX/\W.frozen? ⟨kb,9,kX⟩=oX
theorem J8(g:AtL W ka (QM x))(j:AtL W kb (QM y)):zQx ka kb x W :=
 ⟨g.2.1 8 _ rfl,g.2.1 9 _ rfl,j.2.2 8 (by show 8<20;decide),j.2.2 9 (by show 9<20;decide)⟩
theorem JK(h:zQx ka kb x W)(g:kb≠ka)(j:Nat)(u:vW):zQx ka kb x (W.setCell ⟨kb,j,kX⟩ u):=by
 obtain⟨q,s,l,p⟩:=h;refine⟨?_,?_,?_,?_⟩;any_goals rw[eZ _ _ _ _ (by simpa using g)];assumption
 all_goals rw[hZ];assumption
theorem zLh(x:Wt.Nd)(w:wW)(hk:x.k=6)(hs:x.nm.size<=9223372036854775807) :
  CR 97 #[ndV x] w (Y ((Wt.fnNm x.nm&&qX (0<=x.ar)&&qX (x.ar<=30))&&eqN x ⟨6,Wt.v0,0,x.nm,x.ar,Wt.r0,Wt.r0⟩)):=by
 have C:∀w:wW,CR 128 #[V x.nm] w (Y (Wt.fnNm x.nm)):=λw=>(zJV x.nm w hs).mono λe w' h=>⟨h.1,h.2 ▸ aZ _ _⟩
 have hq:∀w:wW,(binOp .eql 97 (gX (QM x).toArray) (gX (QM ⟨6,Wt.v0,0,x.nm,x.ar,Wt.r0,Wt.r0⟩).toArray)).run prog w=.ok (Y (eqN x ⟨6,Wt.v0,0,x.nm,x.ar,Wt.r0,Wt.r0⟩)) w:=λw=>zBi x ⟨6,Wt.v0,0,x.nm,x.ar,Wt.r0,Wt.r0⟩ w
 generalize eqN x ⟨6,Wt.v0,0,x.nm,x.ar,Wt.r0,Wt.r0⟩=R at*;generalize Wt.fnNm x.nm=q at*;have N:AtL (two w x) w.heap.size (QM x):=(AtL.new0 w _ _).alloc _;have I:AtL (two w x) (w.heap.size+1) (QM (bare 0)):=AtL.new1 w _ _ _;have M:aY (two w x) (w.heap.size+1) 0 (QM (bare 6)).toArray.size:=I.there;have v:w.heap.size+1≠w.heap.size:=oM;have pA:=N.farAll v 0 (QM (bare 6));have pO:AtL ((two w x).setCells (w.heap.size+1) 0 (QM (bare 6))) (w.heap.size+1) (QM (bare 6)):=I.setAll rfl;have aa:bL w ((two w x).setCells (w.heap.size+1) 0 (QM (bare 6))):=Ql (QI (QI (aZ _ w) _) _) (bY _) _ 0;clear N I;have n0:(QM x)[0]?=lX (O J 6):=by rw[<-hk];rfl
 have a0:=pA.2.1 0 _ n0;show cW _ _ #[gX (QM x).toArray] _ _
 go_enter func97,ntmps97;go_upto_region 1 with fail
 go_upto_region 2 with((with_reducible refine stQ 97 (mX 3) (mX 9) (w.heap.size+1) 0 (QM (bare 6)).toArray ?_ ?_ ?_);exact M;exact Jp _)
 generalize(two w x).setCells (w.heap.size+1) 0 (QM (bare 6))=W0 at*;clear M;go_upto_region 14 with fail
 refine wp_region_held_drew (S:=zQx w.heap.size (w.heap.size+1) x) kR (J8 (AtL.drew pA) (AtL.drew pO)) (λg=>?_);refine tkQ 0 ?_
 refine tkQ 1 ?_
 refine tkQ 2 ?_
 refine tkQ 3 ?_
 refine tkQ 4 ?_
 refine tkQ 5 ?_
 refine tkQ 17 ?_
 refine rdQ 6 (λK l=>?_);go_simp
 refine(C _).mono ?_;rintro e w1 ⟨rfl,X⟩;have p:=AtL.below X (AtL.drew pA);have j:=AtL.below X (AtL.drew pO);have z:=QA aa.drew X;clear X;go_wp2_with fail
 refine hkQ l (J8 p j) (λg=>?_);clear l K
 refine tkQ 7 ?_
 cases q
 ·refine tnQ 8 ?_
  refine tnQ 9 ?_
  refine tnQ 10 ?_
  refine tkQ 11 ?_
  refine tkQ 12 ?_
  refine tnQ 13 ?_
  refine tnQ 14 ?_
  refine tnQ 15 ?_
  refine tkQ 16 ?_
  refine rdQ 18 (λK l=>?_);have G:=j.2.1 8 _ rfl;have H:=j.2.1 9 _ rfl;obtain⟨_,_,A,B⟩:=g;go_simp
  refine hkQ l ((JK (J8 p j) oM _ _)) (λg=>?_);clear l K
  refine tkQ 19 ?_
  refine rdQ 20 (λK l=>?_);clear G H A B;have G:=(j.set 8 (V x.nm)).2.1 8 _ rfl;have H:=(j.set 8 (V x.nm)).2.1 9 _ rfl;obtain⟨_,_,A,B⟩:=g;go_simp
  refine hkQ l ((JK (JK (J8 p j) oM _ _) oM _ _)) (λg=>?_);clear l K
  refine rdQ 21 (λK l=>?_);go_simp
  refine hkQ l (by assumption) (λg=>?_);clear l K
  refine wpAnyH_done kR ?_ _;clear G H A B;have s:=((p.far v 8 (V x.nm)).far v 9 (O J x.ar))
  have u:=((j.set 8 (V x.nm)).set 9 (O J x.ar))
  have D:bL w ((w1.setCell ⟨w.heap.size+1,8,kX⟩ (V x.nm)).setCell ⟨w.heap.size+1,9,kX⟩ (O J x.ar)):=(clB z)
  clear p j z;generalize((w1.setCell ⟨w.heap.size+1,8,kX⟩ (V x.nm)).setCell ⟨w.heap.size+1,9,kX⟩ (O J x.ar))=W2 at*;have Q:=s.range;have T:=u.range;clear s u;go_wp2_with (first|((with_reducible refine ldQ 97 (mX 1) w.heap.size 0 (QM x) _ ?_ underlying97 ?_);exact Q)|((with_reducible refine ldQ 97 (mX 3) (w.heap.size+1) 0 (QM ⟨6,Wt.v0,0,x.nm,x.ar,Wt.r0,Wt.r0⟩) _ ?_ underlying97 ?_);exact T))
  go_wp2;go_ret;exact⟨sM,D⟩
 refine tkQ 8 ?_
 refine tkQ 9 ?_
 refine tkQ 10 ?_
 by_cases h0:0<=x.ar
 ·by_cases h3:x.ar<=30
  all_goals
   refine tkQ 11 ?_
   refine tkQ 12 ?_
   refine tkQ 13 ?_
   refine tkQ 14 ?_
   refine tkQ 15 ?_
   refine tkQ 16 ?_
   refine rdQ 18 (λK l=>?_);have G:=j.2.1 8 _ rfl;have H:=j.2.1 9 _ rfl;obtain⟨_,_,A,B⟩:=g;go_simp
   refine hkQ l ((JK (J8 p j) oM _ _)) (λg=>?_);clear l K
   refine tkQ 19 ?_
   refine rdQ 20 (λK l=>?_);clear G H A B;have G:=(j.set 8 (V x.nm)).2.1 8 _ rfl;have H:=(j.set 8 (V x.nm)).2.1 9 _ rfl;obtain⟨_,_,A,B⟩:=g;go_simp
   refine hkQ l ((JK (JK (J8 p j) oM _ _) oM _ _)) (λg=>?_);clear l K
   refine rdQ 21 (λK l=>?_);go_simp
   refine hkQ l (by assumption) (λg=>?_);clear l K
   refine wpAnyH_done kR ?_ _;clear G H A B;have s:=((p.far v 8 (V x.nm)).far v 9 (O J x.ar))
   have u:=((j.set 8 (V x.nm)).set 9 (O J x.ar))
   have D:bL w ((w1.setCell ⟨w.heap.size+1,8,kX⟩ (V x.nm)).setCell ⟨w.heap.size+1,9,kX⟩ (O J x.ar)):=(clB z)
   clear p j z;generalize((w1.setCell ⟨w.heap.size+1,8,kX⟩ (V x.nm)).setCell ⟨w.heap.size+1,9,kX⟩ (O J x.ar))=W2 at*;have Q:=s.range;have T:=u.range;clear s u;go_wp2_with (first|((with_reducible refine ldQ 97 (mX 1) w.heap.size 0 (QM x) _ ?_ underlying97 ?_);exact Q)|((with_reducible refine ldQ 97 (mX 3) (w.heap.size+1) 0 (QM ⟨6,Wt.v0,0,x.nm,x.ar,Wt.r0,Wt.r0⟩) _ ?_ underlying97 ?_);exact T))
   go_wp2;go_ret;exact⟨by first|(simp;done)|(simp;omega)|(simp[h0,h3];done)|(simp[h0];omega),D⟩
 ·have ab:=decide_eq_false h0;refine tkQ 11 ?_
  refine tkQ 12 ?_
  refine tnQ 13 ?_
  refine tnQ 14 ?_
  refine tnQ 15 ?_
  refine tkQ 16 ?_
  refine rdQ 18 (λK l=>?_);have G:=j.2.1 8 _ rfl;have H:=j.2.1 9 _ rfl;obtain⟨_,_,A,B⟩:=g;go_simp
  refine hkQ l ((JK (J8 p j) oM _ _)) (λg=>?_);clear l K
  refine tkQ 19 ?_
  refine rdQ 20 (λK l=>?_);clear G H A B;have G:=(j.set 8 (V x.nm)).2.1 8 _ rfl;have H:=(j.set 8 (V x.nm)).2.1 9 _ rfl;obtain⟨_,_,A,B⟩:=g;go_simp
  refine hkQ l ((JK (JK (J8 p j) oM _ _) oM _ _)) (λg=>?_);clear l K
  refine rdQ 21 (λK l=>?_);go_simp
  refine hkQ l (by assumption) (λg=>?_);clear l K
  refine wpAnyH_done kR ?_ _;clear G H A B;have s:=((p.far v 8 (V x.nm)).far v 9 (O J x.ar))
  have u:=((j.set 8 (V x.nm)).set 9 (O J x.ar))
  have D:bL w ((w1.setCell ⟨w.heap.size+1,8,kX⟩ (V x.nm)).setCell ⟨w.heap.size+1,9,kX⟩ (O J x.ar)):=(clB z)
  clear p j z;generalize((w1.setCell ⟨w.heap.size+1,8,kX⟩ (V x.nm)).setCell ⟨w.heap.size+1,9,kX⟩ (O J x.ar))=W2 at*;have Q:=s.range;have T:=u.range;clear s u;go_wp2_with (first|((with_reducible refine ldQ 97 (mX 1) w.heap.size 0 (QM x) _ ?_ underlying97 ?_);exact Q)|((with_reducible refine ldQ 97 (mX 3) (w.heap.size+1) 0 (QM ⟨6,Wt.v0,0,x.nm,x.ar,Wt.r0,Wt.r0⟩) _ ?_ underlying97 ?_);exact T))
  go_wp2;go_ret;exact⟨sM,D⟩
def opK(o:Int):Int:=match Wt.opOf o with
 |none=>0
 |some (_,_,t)=>if t<5 then 5 else 4
abbrev zQZ(K:Int)(ka kb kc:Nat)(x:Wt.Nd)(o:Int)(m:ByteArray)(t:Int)(W:wW):Prop :=
 W.cell? ⟨ka,7,kX⟩=lX (O J x.op)/\W.cell? ⟨ka,0,kX⟩=lX (O J K)/\W.cell? ⟨kc,0,kX⟩=lX (O J o)/\W.cell? ⟨kc,1,kX⟩=lX (V m)/\W.cell? ⟨kc,2,kX⟩=lX (O J t)/\W.frozen? ⟨kb,7,kX⟩=oX
theorem zBo{t:Int}(p:x.k=K)(j:AtL W ka (QM x))(l:AtL W kb (QM y))(g:AtL W kc [O J o,V m,O J t]):zQZ K ka kb kc x o m t W :=
 ⟨j.2.1 7 _ rfl,by rw[<-p];exact j.2.1 0 _ rfl,g.2.1 0 _ rfl,g.2.1 1 _ rfl,g.2.1 2 _ rfl,l.2.2 7 (by show 7<20;decide)⟩
theorem zGE{t:Int}(h:zQZ K ka kb kc x o m t W)(p:kb≠ka)(l:kb≠kc)(j:Nat)(u:vW):zQZ K ka kb kc x o m t (W.setCell ⟨kb,j,kX⟩ u):=by
 obtain⟨q,s,v,z,A,g⟩:=h;refine⟨?_,?_,?_,?_,?_,?_⟩;any_goals first|(rw[eZ _ _ _ _ (by simpa using p)];assumption)|(rw[eZ _ _ _ _ (by simpa using l)];assumption)
 rw[hZ];assumption
theorem zDV(x:Wt.Nd)(w:wW)(K:Int)(u:K=4\/K=5)(hk:x.k=K)(hO:OpsAt w) :
  CR 97 #[ndV x] w (Y (opK x.op == K&&eqN x ⟨K,Wt.v0,x.op,⟨#[]⟩,0,Wt.r0,Wt.r0⟩)):=by
 have C:∀w:wW,OpsAt w->CR 126 #[O J x.op] w (opV (Wt.opOf x.op)):=λw h=>zHc x.op w h
 have hq:∀w:wW,(binOp .eql 97 (gX (QM x).toArray) (gX (QM ⟨K,Wt.v0,x.op,⟨#[]⟩,0,Wt.r0,Wt.r0⟩).toArray)).run prog w=.ok (Y (eqN x ⟨K,Wt.v0,x.op,⟨#[]⟩,0,Wt.r0,Wt.r0⟩)) w:=λw=>zBi x ⟨K,Wt.v0,x.op,⟨#[]⟩,0,Wt.r0,Wt.r0⟩ w
 generalize eqN x ⟨K,Wt.v0,x.op,⟨#[]⟩,0,Wt.r0,Wt.r0⟩=R at*;have ac:AtL (two w x) w.heap.size (QM x):=(AtL.new0 w _ _).alloc _;have aa:AtL (two w x) (w.heap.size+1) (QM (bare 0)):=AtL.new1 w _ _ _;have A:aY (two w x) (w.heap.size+1) 0 (QM (bare K)).toArray.size:=aa.there;have D:w.heap.size+1≠w.heap.size:=oM;have pA:=ac.farAll D 0 (QM (bare K));have pO:AtL ((two w x).setCells (w.heap.size+1) 0 (QM (bare K))) (w.heap.size+1) (QM (bare K)):=aa.setAll rfl;have z:bL w ((two w x).setCells (w.heap.size+1) 0 (QM (bare K))):=Ql (QI (QI (aZ _ w) _) _) (bY _) _ 0;clear ac aa;have n0:(QM x)[0]?=lX (O J K):=by rw[<-hk];rfl
 have a0:iX ((two w x).setCells (w.heap.size+1) 0 (QM (bare K))) ⟨w.heap.size,0,kX⟩=lX (O J K):=pA.2.1 0 _ n0;have B:=hO.below z;have c7:iX ((two w x).setCells (w.heap.size+1) 0 (QM (bare K))) ⟨w.heap.size,7,kX⟩=lX (O J x.op):=pA.2.1 7 _ rfl;have hS:∀(W:wW)(k:Nat),AtL W k (QM (bare K))->AtL (W.setCell ⟨k,7,kX⟩ (O J x.op)) k (QM ⟨K,Wt.v0,x.op,⟨#[]⟩,0,Wt.r0,Wt.r0⟩):=λW k h=>h.set 7 (O J x.op)
 show cW _ _ #[gX (QM x).toArray] _ _
 unfold opK;generalize hW:(two w x).setCells (w.heap.size+1) 0 (QM (bare K))=W0 at pA pO z a0 c7 B;have HW:=hid hW;clear hW;rcases u with rfl|rfl
 all_goals
  cases ab:Wt.opOf x.op with
  |none =>
   rw[ab]at C;simp only[opV]at C ⊢;go_enter func97,ntmps97;go_upto_region 1 with fail
   go_upto_region 2 with(first|((with_reducible refine stQ 97 (mX 3) (mX 9) (w.heap.size+1) 0 (QM (bare 4)).toArray ?_ ?_ ?_);exact A;exact Jp _)|((with_reducible refine stQ 97 (mX 3) (mX 9) (w.heap.size+1) 0 (QM (bare 5)).toArray ?_ ?_ ?_);exact A;exact Jp _))
   rw[HW.out];clear A HW;go_upto_region 11 with fail
   go_wp2_with fail
   refine(C _ B).mono ?_;rintro e w1 ⟨rfl,v⟩;have j:=AtL.below v pA;have g:=AtL.below v pO;have p:=QA z v;have I:=g.lt;clear v pA pO z a0 C B;go_upto_region 12 with fail
   replace j:=AtL.alloc j (Z #[O J 0,V ⟨#[]⟩,O J 0] 222)
   replace g:=AtL.alloc g (Z #[O J 0,V ⟨#[]⟩,O J 0] 222)
   have s:AtL (w1.alloc (Z #[O J 0,V ⟨#[]⟩,O J 0] 222)) w1.heap.size [O J 0,V ⟨#[]⟩,O J 0]:=AtL.new0 w1 _ _;have X:w.heap.size+1≠w1.heap.size:=by have:=I;omega
   replace p:=QI p (Z #[O J 0,V ⟨#[]⟩,O J 0] 222)
   generalize w1.heap.size=kc at*;generalize w1.alloc (Z #[O J 0,V ⟨#[]⟩,O J 0] 222)=w3 at*;refine wp_region_held_drew (S:=zQZ _ w.heap.size (w.heap.size+1) kc x 0 ⟨#[]⟩ 0) kR (zBo hk (AtL.drew j) (AtL.drew g) (AtL.drew s)) (λl=>?_);refine tkQ 0 ?_
   refine tkQ 1 ?_
   refine tkQ 2 ?_
   refine tkQ 3 ?_
   refine tnQ 4 ?_
   refine tnQ 6 ?_
   refine tnQ 7 ?_
   refine tkQ 10 ?_
   refine tnQ 5 ?_
   refine tnQ 8 ?_
   refine tkQ 9 ?_
   refine rdQ 11 (λK u=>?_);have o7:=(AtL.drew g).2.1 7 _ rfl;obtain⟨_,_,_,_,_,g7⟩:=l;go_simp
   refine hkQ u (zGE (zBo hk (AtL.drew j) (AtL.drew g) (AtL.drew s)) D X _ _) (λl=>?_);clear u K
   refine rdQ 12 (λK u=>?_);go_simp
   refine hkQ u (by assumption) (λl=>?_);clear u K
   refine wpAnyH_done kR ?_ _;clear o7 g7 s;have G:AtL (w3.setCell ⟨w.heap.size+1,7,kX⟩ (O J x.op)).drew w.heap.size (QM x):=AtL.drew (j.far D 7 (O J x.op));have H:=AtL.drew (hS _ _ g);have T:bL w (w3.setCell ⟨w.heap.size+1,7,kX⟩ (O J x.op)).drew:=(clB p)
   clear j g p;generalize(w3.setCell ⟨w.heap.size+1,7,kX⟩ (O J x.op)).drew=W2 at*;have rA:=G.range;have rO:=H.range;clear G H;go_wp2_with (first|((with_reducible refine ldQ 97 (mX 1) w.heap.size 0 (QM x) _ ?_ underlying97 ?_);exact rA)|((with_reducible refine ldQ 97 (mX 3) (w.heap.size+1) 0 (QM ⟨4,Wt.v0,x.op,⟨#[]⟩,0,Wt.r0,Wt.r0⟩) _ ?_ underlying97 ?_);exact rO)|((with_reducible refine ldQ 97 (mX 3) (w.heap.size+1) 0 (QM ⟨5,Wt.v0,x.op,⟨#[]⟩,0,Wt.r0,Wt.r0⟩) _ ?_ underlying97 ?_);exact rO))
   go_wp2;go_ret;exact⟨sM,T⟩
  |some q =>
   obtain⟨Q,N,M⟩:=q;rw[ab]at C;simp only[opV]at C ⊢;by_cases ht:M<5
   all_goals
    first|rw[if_pos ht]|rw[if_neg ht]
    have KK:=λw=>zD9 Q ⟨N.toArray⟩ M w
    first|rw[if_pos ht]at KK|rw[if_neg ht]at KK
    go_enter func97,ntmps97;go_upto_region 1 with fail
    go_upto_region 2 with(first|((with_reducible refine stQ 97 (mX 3) (mX 9) (w.heap.size+1) 0 (QM (bare 4)).toArray ?_ ?_ ?_);exact A;exact Jp _)|((with_reducible refine stQ 97 (mX 3) (mX 9) (w.heap.size+1) 0 (QM (bare 5)).toArray ?_ ?_ ?_);exact A;exact Jp _))
    rw[HW.out];clear A HW;go_upto_region 11 with fail
    go_wp2_with fail
    refine(C _ B).mono ?_;rintro e w1 ⟨rfl,v⟩;have j:=AtL.below v pA;have g:=AtL.below v pO;have p:=QA z v;have I:=g.lt;clear v pA pO z a0 C B;go_upto_region 12 with fail
    replace j:=AtL.alloc j (Z #[O J Q,V ⟨N.toArray⟩,O J M] 222)
    replace g:=AtL.alloc g (Z #[O J Q,V ⟨N.toArray⟩,O J M] 222)
    have s:AtL (w1.alloc (Z #[O J Q,V ⟨N.toArray⟩,O J M] 222)) w1.heap.size [O J Q,V ⟨N.toArray⟩,O J M]:=AtL.new0 w1 _ _;have X:w.heap.size+1≠w1.heap.size:=by have:=I;omega
    replace p:=QI p (Z #[O J Q,V ⟨N.toArray⟩,O J M] 222)
    generalize w1.heap.size=kc at*;generalize w1.alloc (Z #[O J Q,V ⟨N.toArray⟩,O J M] 222)=w3 at*;refine wp_region_held_drew (S:=zQZ _ w.heap.size (w.heap.size+1) kc x Q ⟨N.toArray⟩ M) kR (zBo hk (AtL.drew j) (AtL.drew g) (AtL.drew s)) (λl=>?_);replace j:=AtL.drew j
    replace g:=AtL.drew g
    replace s:=AtL.drew s
    replace p:=p.drew
    refine tkQ 0 ?_
    refine tkQ 1 ?_
    refine tkQ 2 ?_
    refine tkQ 3 ?_
    refine tkQ 4 ?_
    refine tkQ 6 ?_
    refine tkQ 7 ?_
    refine tkQ 10 ?_
    refine rdQ 5 (λK u=>?_);go_simp
    refine(KK _).mono ?_;rintro e w4 ⟨rfl,v⟩;replace j:=AtL.below v j
    replace g:=AtL.below v g
    replace s:=AtL.below v s
    replace p:=QA p v
    clear v;go_wp2_with fail
    refine hkQ u (zBo hk j g s) (λl=>?_);clear u K
    refine tkQ 8 ?_
    refine tkQ 9 ?_
    refine rdQ 11 (λK u=>?_);have o7:=g.2.1 7 _ rfl;obtain⟨_,_,_,_,_,g7⟩:=l;go_simp
    refine hkQ u (zGE (zBo hk j g s) D X _ _) (λl=>?_);clear u K
    refine rdQ 12 (λK u=>?_);go_simp
    refine hkQ u (by assumption) (λl=>?_);clear u K
    refine wpAnyH_done kR ?_ _;clear o7 g7 s;have G:=(j.far D 7 (O J x.op))
    have H:=hS _ _ g;have T:bL w (w4.setCell ⟨w.heap.size+1,7,kX⟩ (O J x.op)):=(clB p)
    clear j g p;generalize(w4.setCell ⟨w.heap.size+1,7,kX⟩ (O J x.op))=W2 at*;have rA:=G.range;have rO:=H.range;clear G H;go_wp2_with (first|((with_reducible refine ldQ 97 (mX 1) w.heap.size 0 (QM x) _ ?_ underlying97 ?_);exact rA)|((with_reducible refine ldQ 97 (mX 3) (w.heap.size+1) 0 (QM ⟨4,Wt.v0,x.op,⟨#[]⟩,0,Wt.r0,Wt.r0⟩) _ ?_ underlying97 ?_);exact rO)|((with_reducible refine ldQ 97 (mX 3) (w.heap.size+1) 0 (QM ⟨5,Wt.v0,x.op,⟨#[]⟩,0,Wt.r0,Wt.r0⟩) _ ?_ underlying97 ?_);exact rO))
    go_wp2;go_ret;exact⟨sM,T⟩
end Go.Proofs.YthcblmpncpcfkaaGreatDoor
namespace Go.Proofs.YthcblmpncpcfkaaGreatDoor.Wt
open Go.Proofs.YthcblmpncpcfkaaGreatDoor
def right(x:Nd):Bool :=
 if x.k=1 then vlOk x.v&&eqN x ⟨1,x.v,0,⟨#[]⟩,0,Wt.r0,Wt.r0⟩
 else if x.k=2 then rfOk x.a&&eqN x ⟨2,Wt.v0,0,⟨#[]⟩,0,x.a,Wt.r0⟩
 else if x.k=3 then(rfOk x.a&&rfOk x.b&&x.b.s.toList.isEmpty)&&eqN x ⟨3,Wt.v0,0,⟨#[]⟩,0,x.a,x.b⟩
 else if x.k=4 then opK x.op == 4&&eqN x ⟨4,Wt.v0,x.op,⟨#[]⟩,0,Wt.r0,Wt.r0⟩
 else if x.k=5 then opK x.op == 5&&eqN x ⟨5,Wt.v0,x.op,⟨#[]⟩,0,Wt.r0,Wt.r0⟩
 else if x.k=6 then(fnNm x.nm&&qX (0<=x.ar)&&qX (x.ar<=30))&&eqN x ⟨6,Wt.v0,0,x.nm,x.ar,Wt.r0,Wt.r0⟩
 else oX
def FitV(v:Vl):Prop:=(-9223372036854775808<=v.n/\v.n<=9223372036854775807)/\(-9223372036854775808<=v.d/\v.d<=9223372036854775807)/\v.t.size<=9223372036854775807
def FitN(x:Nd):Prop:=FitV x.v/\x.nm.size<=9223372036854775807/\x.a.s.size<=9223372036854775807/\x.b.s.size<=9223372036854775807
theorem parts_le{x:Nd}(h:right x=nX):0<=parts x/\parts x<=30:=by
 unfold right at h;unfold parts;by_cases j:x.k=4
 ·rw[if_pos j];omega
 rw[if_neg j];by_cases l:x.k=5
 ·rw[if_pos l];omega
 rw[if_neg l];by_cases g:x.k=1
 ·rw[if_pos g,qZ,zEz]at h;have:=congrArg Nd.ar h.2;simp only at this;omega
 rw[if_neg g]at h;by_cases g:x.k=2
 ·rw[if_pos g,qZ,zEz]at h;have:=congrArg Nd.ar h.2;simp only at this;omega
 rw[if_neg g]at h;by_cases g:x.k=3
 ·rw[if_pos g,qZ,zEz]at h;have:=congrArg Nd.ar h.2;simp only at this;omega
 rw[if_neg g,if_neg j,if_neg l]at h;by_cases g:x.k=6
 ·rw[if_pos g]at h;simp only[qZ,decide_eq_true_eq]at h;omega
 ·rw[if_neg g]at h;cases h
def many(g:List Nd->Option (Nat×Nat)):Nat->List Nd->Option (Nat×Nat)
 |0,_=>lX (0,0)
 |k+1,l=>match g l with
  |none=>kX
  |some (s,d)=>match many g k (l.drop s)with
   |none=>kX
   |some (s',d')=>lX (s+s',max d d')
def one:Nat->List Nd->Option (Nat×Nat)
 |0,_=>kX
 |_+1,[]=>kX
 |f+1,x::r=>if right x then(match many (one f) (parts x).toNat r with|none=>kX|some (s,d)=>lX (s+1,d+1))else kX
def check(l:List Nd):Int :=
 if 256<l.length then 52
 else match one (l.length+1) l with
  |none=>53
  |some (s,d)=>if s≠l.length then 53 else if 32<d then 51 else 0
end Go.Proofs.YthcblmpncpcfkaaGreatDoor.Wt
namespace Go.Proofs.YthcblmpncpcfkaaGreatDoor
open Tryz
open Go.RowKit
variable {f k e d:Nat}{L:List Wt.Nd}{x:Wt.Nd}
theorem zLB(x:Wt.Nd)(w:wW)(u:(x.k == 1)=oX)(v:(x.k == 2)=oX)(z:(x.k == 3)=oX)(A:(x.k == 4)=oX)(B:(x.k == 5)=oX)(C:(x.k == 6)=oX) :
  CR 97 #[ndV x] w (Y oX):=by
 obtain⟨k,s⟩:=xV x.k
 rw[s]at u v z A B C;have l:AtL (two w x) w.heap.size (QM x):=(AtL.new0 w _ _).alloc _;have g:AtL (two w x) (w.heap.size+1) (QM (bare 0)):=AtL.new1 w _ _ _;have j:aY (two w x) (w.heap.size+1) 0 (QM (bare k)).toArray.size:=g.there;have q:w.heap.size+1≠w.heap.size:=oM;have pA:=l.farAll q 0 (QM (bare k));have I:AtL ((two w x).setCells (w.heap.size+1) 0 (QM (bare k))) (w.heap.size+1) (QM (bare k)):=g.setAll rfl;have p:bL w ((two w x).setCells (w.heap.size+1) 0 (QM (bare k))):=Ql (QI (QI (aZ _ w) _) _) (bY _) _ 0;clear l g;have D:(QM x)[0]?=lX (O J k):=by rw[<-s];rfl
 have H:=pA.2.1 0 _ D;show cW _ _ #[gX (QM x).toArray] _ _
 go_enter func97,ntmps97;go_upto_region 1 with fail
 go_upto_region 2 with((with_reducible refine stQ 97 (mX 3) (mX 9) (w.heap.size+1) 0 (QM (bare k)).toArray ?_ ?_ ?_);exact j;exact Jp _)
 generalize(two w x).setCells (w.heap.size+1) 0 (QM (bare k))=G at*;clear j;go_wp2;go_ret;exact⟨rfl,p⟩
theorem zG4(x:Wt.Nd)(w:wW)(D:Wt.FitN x)(v:OpsAt w):CR 97 #[ndV x] w (Y (Wt.right x)):=by
 obtain⟨⟨⟨z,A⟩,⟨f3,B⟩,f5⟩,f6,u,C⟩:=D;unfold Wt.right;by_cases g:x.k=1
 ·rw[if_pos g];exact zLL x w g z A f3 B f5
 rw[if_neg g];by_cases j:x.k=2
 ·rw[if_pos j];exact zK8 x w j u
 rw[if_neg j];by_cases l:x.k=3
 ·rw[if_pos l];exact zLC x w l u C
 rw[if_neg l];by_cases p:x.k=4
 ·rw[if_pos p];exact zDV x w 4 (xZ rfl) p v
 rw[if_neg p];by_cases q:x.k=5
 ·rw[if_pos q];exact zDV x w 5 (sZ rfl) q v
 rw[if_neg q];by_cases s:x.k=6
 ·rw[if_pos s];exact zLh x w s f6
 rw[if_neg s];exact zLB x w (by simp[g]) (by simp[j]) (by simp[l]) (by simp[p]) (by simp[q]) (by simp[s])
def RdN(w:wW)(av:Option dW)(L:List Wt.Nd):Prop:=∀i (h:i<L.length),∃bb off,av=lX ⟨bb,off,kX⟩/\w.rangeAt bb (off+i*20) (QM (L[i]))
theorem RdN.below{w w':wW}{av:Option dW}(h:RdN w av L)(p:bL w w'):RdN w' av L:=λi q=>by
 obtain⟨l,g,e,s⟩:=h i q;exact⟨l,g,e,λj v u=>QB p (s j v u)⟩
def MP(r:Option (Nat×Nat))(p:Nat):vW:=match r with
 |some (s,d)=>uX #[O J ((p+s:Nat):Int),O J (d:Int),Y nX]
 |none=>uX #[O J 0,O J 0,Y oX]
def left(f k:Nat)(L:List Wt.Nd)(e d:Nat):Option (Nat×Nat):=match Wt.many (Wt.one f) k (L.drop e)with
 |some (s,d')=>lX (e+s,max d d')
 |none=>kX
theorem zHz(f:Nat)(L:List Wt.Nd)(e d:Nat):left f 0 L e d=lX (e,d):=by simp[left,Wt.many]
theorem zIC(h:Wt.one f (L.drop e)=kX):left f (k+1) L e d=kX:=by simp[left,Wt.many,h]
theorem zJW{s g:Nat}(h:Wt.one f (L.drop e)=lX (s,g)):left f (k+1) L e d=left f k L (e+s) (max d g):=by
 simp only[left,Wt.many,h,zY];cases Wt.many (Wt.one f) k (List.drop (e+s) L)with
 |none=>rfl
 |some q=>obtain⟨a,b⟩:=q;simp only[Option.some.injEq,Prod.mk.injEq];omega
theorem zOt(v:∀(l:List Wt.Nd)(s d:Nat),Wt.one f l=lX (s,d)->s<=l.length):∀(k:Nat)(l:List Wt.Nd)(s d:Nat),Wt.many (Wt.one f) k l=lX (s,d)->s<=l.length:=by
 intro k;induction k with
 |zero=>intro l s d h;simp only[Wt.many,Option.some.injEq,Prod.mk.injEq]at h;omega
 |succ k p =>
  intro l s d h;simp only[Wt.many]at h;cases g:Wt.one f l with
  |none=>rw[g]at h;cases h
  |some q =>
   obtain⟨a,b⟩:=q;rw[g]at h;simp only at h;cases j:Wt.many (Wt.one f) k (l.drop a)with
   |none=>rw[j]at h;cases h
   |some z =>
    obtain⟨u,b2⟩:=z;rw[j]at h;simp only[Option.some.injEq,Prod.mk.injEq]at h;have:=v l a b g;have:=p _ u b2 j;rw[zZ]at this;omega
theorem zHP:∀(f:Nat)(l:List Wt.Nd)(s d:Nat),Wt.one f l=lX (s,d)->s<=l.length
 |0,l,s,d,h=>by simp[Wt.one]at h
 |f+1,[],s,d,h=>by simp[Wt.one]at h
 |f+1,x::r,s,d,h=>by
  unfold Wt.one at h;split at h
  ·cases g:Wt.many (Wt.one f) (Wt.parts x).toNat r with
   |none=>rw[g]at h;cases h
   |some q =>
    obtain⟨a,b⟩:=q;rw[g]at h;simp only[Option.some.injEq,Prod.mk.injEq]at h;have:=zOt (zHP f) _ _ _ _ g;simp only[yZ];omega
  ·cases h
theorem zKV(v:∀(l:List Wt.Nd)(s d:Nat),Wt.one f l=lX (s,d)->d<=f):∀(k:Nat)(l:List Wt.Nd)(s d:Nat),Wt.many (Wt.one f) k l=lX (s,d)->d<=f:=by
 intro k;induction k with
 |zero=>intro l s d h;simp only[Wt.many,Option.some.injEq,Prod.mk.injEq]at h;omega
 |succ k p =>
  intro l s d h;simp only[Wt.many]at h;cases g:Wt.one f l with
  |none=>rw[g]at h;cases h
  |some q =>
   obtain⟨a,b⟩:=q;rw[g]at h;simp only at h;cases j:Wt.many (Wt.one f) k (l.drop a)with
   |none=>rw[j]at h;cases h
   |some z =>
    obtain⟨u,b2⟩:=z;rw[j]at h;simp only[Option.some.injEq,Prod.mk.injEq]at h;have:=v l a b g;have:=p _ u b2 j;omega
theorem zCu:∀(f:Nat)(l:List Wt.Nd)(s d:Nat),Wt.one f l=lX (s,d)->d<=f
 |0,l,s,d,h=>by simp[Wt.one]at h
 |f+1,[],s,d,h=>by simp[Wt.one]at h
 |f+1,x::r,s,d,h=>by
  unfold Wt.one at h;split at h
  ·cases g:Wt.many (Wt.one f) (Wt.parts x).toNat r with
   |none=>rw[g]at h;cases h
   |some q =>
    obtain⟨a,b⟩:=q;rw[g]at h;simp only[Option.some.injEq,Prod.mk.injEq]at h;have:=zKV (zCu f) _ _ _ _ g;omega
  ·cases h
def MR(r:Option (Nat×Nat)):vW:=match r with
 |some (e,d)=>uX #[O J (e:Int),O J ((d:Int)+1),Y nX]
 |none=>uX #[O J 0,O J 0,Y oX]
theorem zOd(h:Wt.right x=nX)(f:Nat)(L:List Wt.Nd)(p:Nat):MP (Wt.one (f+1) (x::L.drop (p+1))) p=MR (left f (Wt.parts x).toNat L (p+1) 0):=by
 unfold left;simp only[Wt.one];rw[if_pos h];cases Wt.many (Wt.one f) (Wt.parts x).toNat (L.drop (p+1))with
 |none=>rfl
 |some q =>
  obtain⟨s,d⟩:=q;simp only[MP,MR];rw[show((p+(s+1):Nat):Int)=((p+1+s:Nat):Int) by omega,show((d+1:Nat):Int)=((max 0 d:Nat):Int)+1 by omega]
theorem zOQ(h:Wt.right x=oX)(f:Nat)(r:List Wt.Nd):Wt.one (f+1) (x::r)=kX:=by
 simp only[Wt.one];rw[if_neg (by rw[h];decide)]
theorem zK3(av:Option dW)(cap:Nat)(L:List Wt.Nd)(hL:L.length<=256)(hF:∀x∈L,Wt.FitN x)(f:Nat):f<=1000->∀(p:Nat)(w:wW),L.length<f+p->p<=256->OpsAt w->RdN w av L ->
  CR 70 #[U av L.length cap,O J p] w (MP (Wt.one f (L.drop p)) p):=by
 have A:∀(f p:Nat)(w:wW),¬p<L.length->p<=256->CR 70 #[U av L.length cap,O J p] w (MP (Wt.one f (L.drop p)) p):=by
  intro f p w u hp;have hd:L.drop p=[]:=jZ oM;have E:hH (Wt.one f (L.drop p)=kX):=by
   show _=_
   rw[hd];cases f <;> rfl
  rw[E.out];clear E hd;have an:(L.length:Int)<=(p:Int):=oM;go_enter func70,ntmps70;go_wp2;go_ret3
  exact⟨rfl,aZ _ _⟩
 induction f with
 |zero=>intro _ p w hf hp hO hr;exact A 0 p w oM hp
 |succ f ih =>
  intro ar p w hf hp hO hr;by_cases u:p<L.length
  ·clear A;replace ih:=ih oM
   obtain⟨bb,z,rfl,hx⟩:=hr p u;have hd:=gZ u;have H:=hF _ (xY u);have HR:=hid hr;clear hr;rw[hd];generalize L[p]=x at*;have C:=zG4 x w H hO;have I:=@Wt.parts_le x;have an:¬(L.length:Int)<=(p:Int):=oM;cases Q:Wt.right x with
   |false =>
    rw[Q]at C;rw[zOQ Q];clear ih;go_enter func70,ntmps70;go_wp2_with ((with_reducible refine ldQ 97 (mX 17) bb (z+p*20) (QM x) _ ?_ underlying97 ?_);exact hx)
    refine C.mono ?_;rintro e w1 ⟨rfl,l⟩;go_wp2;go_ret3
    exact⟨rfl,l⟩
   |true =>
    rw[Q]at C;obtain⟨ak,al⟩:=I Q;rw[zOd Q];clear I Q;have D:=λw=>zHD x w
    obtain⟨k,hk⟩:∃k:Nat,(Wt.parts x).toNat=k:=⟨_,rfl⟩
    have ae:Wt.parts x=(k:Int):=oM;rw[hk];rw[ae]at D;have au:k<=30:=oM;clear ak al hk ae;obtain⟨R,hR⟩:=xV (left f k L (p+1) 0)
    have E0:=hid hR.symm;rw[hR];clear hR;have IH:=hid ih;clear ih;go_enter func70,ntmps70;go_wp2_with ((with_reducible refine ldQ 97 (mX 17) bb (z+p*20) (QM x) _ ?_ underlying97 ?_);exact hx)
    refine C.mono ?_;rintro e w1 ⟨rfl,l⟩;have af:w1.rangeAt bb (z+p*20) (QM x):=λj v hv=>QB l (hx j v hv)
    have aa:=hO.below l;have S:=hid (HR.out.below l);clear C hx HR;go_wp2_with ((with_reducible refine ldQ 97 (mX 26) bb (z+p*20) (QM x) _ ?_ underlying97 ?_);exact af)
    refine(D _).mono ?_;rintro e w2 ⟨rfl,G⟩;have ah:=QA l G;have ai:=aa.below G;have ag:=hid (S.out.below G);clear l G aa S D af H;go_wp2_with fail
    go_loopg [4,5,29] k (λgk a b c wr=>∃j e d:Nat,a=O J e/\b=O J d/\c=O J j/\gk=k-j/\j<=k/\p+1<=e/\e<=L.length/\d<=f/\hH (R=left f (k-j) L e d)/\bL w wr/\OpsAt wr/\hH (RdN wr (lX ⟨bb,z,kX⟩) L))
    case atStart=>exact⟨0,p+1,0,sM,rfl,rfl,rfl,iZ _,dZ _,u,iZ _,E0,ah,ai,ag⟩
    case round =>
     obtain⟨j,e,d,rfl,rfl,rfl,hg,hj,ap,aq,ao,N,hB,ab,T⟩:=hrel;by_cases ad:j<k
     ·have aj:(j:Int)<(k:Int):=oM;have M:=IH.out e wr oM oM ab T.out;have am:k-j=(k-(j+1))+1:=oM;rw[am]at N;cases g:Wt.one f (L.drop e)with
      |none =>
       have E:hH (R=kX):=by show _=_;rw[N.out,zIC g]
       rw[g]at M;clear N g IH;go_wp2_with fail
       refine M.mono ?_;rintro e9 w3 ⟨rfl,l⟩;have B:=QA hB l;simp only[MP];go_wp2;go_ret3
       exact⟨by rw[E.out];rfl,B⟩
      |some q =>
       obtain⟨s,d'⟩:=q;have h1:=zHP _ _ _ _ g;have h2:=zCu _ _ _ _ g;rw[zZ]at h1;have E:hH (R=left f (k-(j+1)) L (e+s) (max d d')):=by show _=_;rw[N.out,zJW g]
       rw[g]at M;clear N g IH;go_wp2_with fail
       refine M.mono ?_;rintro e9 w3 ⟨rfl,l⟩;have B:=QA hB l;have ac:=ab.below l;have X:=hid (T.out.below l);simp only[MP];go_wp2_with fail
       ·go_roundg (k-(j+1))
        case rel=>exact⟨j+1,e+s,max d d',sM,by simp;omega,sM,rfl,ad,oM,oM,oM,E,B,ac,X⟩
        case measure=>omega
       ·go_roundg (k-(j+1))
        case rel=>exact⟨j+1,e+s,max d d',sM,by simp;omega,sM,rfl,ad,oM,oM,oM,E,B,ac,X⟩
        case measure=>omega
     ·have aj:¬(j:Int)<(k:Int):=oM;have E:hH (R=lX (e,d)):=by show _=_;rw[N.out,show k-j=0 by omega,zHz]
      clear N IH;go_wp2;go_ret3
      exact⟨by rw[E.out];rfl,hB⟩
  ·exact A (f+1) p w u hp
end Go.Proofs.YthcblmpncpcfkaaGreatDoor
namespace Go.Proofs.YthcblmpncpcfkaaGreatDoor.Wf
open Go.Proofs.YthcblmpncpcfkaaGreatDoor
structure Br(α:Type) where
 x:Wt.Nd
 ks:List α
def Tr:Nat->Type
 |0=>Empty
 |n+1=>Br (Tr n)
def hd:(n:Nat)->Tr n->Wt.Nd
 |0,t=>Empty.elim t
 |_+1,t=>Br.x t
def row:(n:Nat)->Tr n->List Wt.Nd
 |0,t=>Empty.elim t
 |n+1,t=>Br.x t::((Br.ks t).map (row n)).flatten
def VD:(n:Nat)->Tr n->Prop
 |0,t=>Empty.elim t
 |n+1,t=>Wt.right (Br.x t)=nX/\Wt.parts (Br.x t)=((Br.ks t).length:Int)/\∀k∈Br.ks t,VD n k
theorem zI9{f:Nat}(H:∀(l:List Wt.Nd)(s d:Nat),Wt.one f l=lX (s,d)->∃t:Tr f,row f t=l.take s/\VD f t) :
  ∀(k:Nat)(l:List Wt.Nd)(s d:Nat),Wt.many (Wt.one f) k l=lX (s,d)->∃ks:List (Tr f),ks.length=k/\(ks.map (row f)).flatten=l.take s/\∀t∈ks,VD f t:=by
 intro k;induction k with
 |zero=>intro l s d h;simp only[Wt.many,Option.some.injEq,Prod.mk.injEq]at h;obtain⟨rfl,rfl⟩:=h;exact⟨[],rfl,sM,λt G=>by cases G⟩
 |succ k p =>
  intro l s d h;simp only[Wt.many]at h;cases g:Wt.one f l with
  |none=>rw[g]at h;cases h
  |some q =>
   obtain⟨a,b⟩:=q;rw[g]at h;simp only at h;cases j:Wt.many (Wt.one f) k (l.drop a)with
   |none=>rw[j]at h;cases h
   |some I =>
    obtain⟨v,b2⟩:=I;rw[j]at h;simp only[Option.some.injEq,Prod.mk.injEq]at h;obtain⟨rfl,rfl⟩:=h;obtain⟨t,z,C⟩:=H l a b g;obtain⟨ks,A,B,D⟩:=p _ v b2 j;refine⟨t::ks,by simp[A],?_,λu hu=>?_⟩
    ·simp only[nY,List.flatten_cons,z,B];rw[List.take_add]
    ·rcases List.mem_cons.1 hu with rfl|hu
     ·exact C
     ·exact D u hu
theorem zFl:∀(f:Nat)(l:List Wt.Nd)(s d:Nat),Wt.one f l=lX (s,d)->∃t:Tr f,row f t=l.take s/\VD f t
 |0,l,s,d,h=>by simp[Wt.one]at h
 |f+1,[],s,d,h=>by simp[Wt.one]at h
 |f+1,x::r,s,d,h=>by
  unfold Wt.one at h;split at h
  ·rename_i j
   cases g:Wt.many (Wt.one f) (Wt.parts x).toNat r with
   |none=>rw[g]at h;cases h
   |some q =>
    obtain⟨a,b⟩:=q;rw[g]at h;simp only[Option.some.injEq,Prod.mk.injEq]at h;obtain⟨rfl,rfl⟩:=h;obtain⟨ks,v,p,u⟩:=zI9 (zFl f) _ _ _ _ g;refine⟨(⟨x,ks⟩:Br (Tr f)),?_,j,?_,u⟩
    ·show x::(ks.map (row f)).flatten=(x::r).take (a+1)
     rw[p,oY]
    ·show Wt.parts x=(ks.length:Int)
     have:=(Wt.parts_le j).1;omega
  ·cases h
theorem zHB{l:List Wt.Nd}(h:Wt.check l=0):∃t:Tr (l.length+1),row _ t=l/\VD _ t/\l.length<=256:=by
 unfold Wt.check at h;split at h
 ·omega
 ·rename_i j
  split at h
  ·omega
  ·rename_i s d g
   split at h
   ·omega
   ·rename_i p
    obtain⟨t,e,f⟩:=zFl _ _ _ _ g;refine⟨t,?_,f,oM⟩;rw[e,show s=l.length from by omega,List.take_length]
end Go.Proofs.YthcblmpncpcfkaaGreatDoor.Wf
namespace Go.Proofs.YthcblmpncpcfkaaGreatDoor.Wc
structure In where
 op:Int
 a:Int
 b:Int
 v:Wt.Vl
 ce:Wpl.Cl
 ar:Wpl.Ar
 pr:Wpl.Ar
def pairs(id:Int):Bool:=id == 22||(id == 23||id == 24)
def swO(o b:Int):Int×Int :=
 if o=1\/o=2\/o=10 then(0,1)else if o=3 then(1,1)else if o=4 then(2,1)else if o=5\/o=11 then(b,1)
 else if o=7\/o=12\/o=14\/o=15\/o=16 then(1,0)else(0,0)
def nds(o b:Int):Int×Int×Int :=
 if o=1\/o=2 then(0,0,1)else if o=3 then(1,0,0)else if o=4 then(2,0,-1)else if o=5\/o=11 then(b,0,1-b)
 else if o=7 then(1,1,-1)else if o=8\/o=9 then(0,1,0)else if o=10 then(0,1,1)
 else if o=12\/o=15\/o=14 then(1,0,-1)else(0,0,0)
end Go.Proofs.YthcblmpncpcfkaaGreatDoor.Wc
namespace Go.Proofs.YthcblmpncpcfkaaGreatDoor
open Tryz
open Go.RowKit
variable {w:wW}{b:Nat}{tv:vW}{x:Int}
def QE(x:Wc.In)(tv:vW):List vW :=
 [O J x.op,O J x.a,O J x.b,O J x.v.k,O J x.v.n,O J x.v.d,V x.v.t,Y x.v.b,O J x.v.f,
  O J x.ce.s,O J x.ce.r,O J x.ce.c,
  O J x.ar.s,O J x.ar.t,O J x.ar.l,O J x.ar.b,O J x.ar.r,
  O J x.pr.s,O J x.pr.t,O J x.pr.l,O J x.pr.b,O J x.pr.r,tv]
abbrev inV(x:Wc.In)(tv:vW):vW:=gX (QE x tv).toArray
theorem zA5(id:Int)(w:wW):cW prog 169 #[O J id] w λe w'=>e=rX (Y (Wc.pairs id))/\w=w':=by
 have e:∀b,Wc.pairs id=b->hH (Wc.pairs id=b):=λ_ h=>h
 unfold Wc.pairs;by_cases g:id=22
 ·subst g;clear e;go_enter func169,ntmps169;go_wp2;go_ret;exact⟨sM,rfl⟩
 by_cases j:id=23
 ·subst j;clear e;go_enter func169,ntmps169;go_wp2;go_ret;exact⟨sM,rfl⟩
 have l:(id == 22)=oX:=by simp[g]
 have p:(id == 23)=oX:=by simp[j]
 rw[l,p];clear e g j;go_enter func169,ntmps169;go_wp2;go_ret;exact⟨sM,rfl⟩
theorem zQa(o:Int):o=1\/o=2\/o=3\/o=4\/o=5\/o=6\/o=7\/o=8\/o=9\/o=10\/o=11\/o=12\/o=13\/o=14\/o=15\/o=16\/(o<1\/16<o):=oM
theorem zG9(x:Wc.In)(tv:vW)(w:wW):CR 136 #[inV x tv] w (uX #[O J (Wc.swO x.op x.b).1,O J (Wc.swO x.op x.b).2]):=by
 have pA:=AtL.new0 w 86 (QE x tv);have l:=QI (aZ _ w) (Z (QE x tv).toArray 86);have p:(w.alloc (Z (QE x tv).toArray 86)).cell? ⟨w.heap.size,0,kX⟩=lX (O J x.op):=pA.2.1 0 _ rfl;have D:(w.alloc (Z (QE x tv).toArray 86)).cell? ⟨w.heap.size,2,kX⟩=lX (O J x.b):=pA.2.1 2 _ rfl;obtain⟨q,j⟩:=xV (Wc.swO x.op x.b)
 rw[j];have g:hH (Wc.swO x.op x.b=q):=j;clear j pA;rcases zQa x.op with h|h|h|h|h|h|h|h|h|h|h|h|h|h|h|h|h
 case inr.inr.inr.inr.inr.inr.inr.inr.inr.inr.inr.inr.inr.inr.inr.inr =>
  have e:q=(0,0):=by
   have:=g.out;unfold Wc.swO at this;rw[<-this];repeat rw[if_neg oM]
  have G:(x.op == 1)=oX:=by simp;omega
  have H:(x.op == 2)=oX:=by simp;omega
  have I:(x.op == 3)=oX:=by simp;omega
  have M:(x.op == 4)=oX:=by simp;omega
  have N:(x.op == 5)=oX:=by simp;omega
  have Q:(x.op == 6)=oX:=by simp;omega
  have R:(x.op == 7)=oX:=by simp;omega
  have S:(x.op == 8)=oX:=by simp;omega
  have T:(x.op == 9)=oX:=by simp;omega
  have s:(x.op == 10)=oX:=by simp;omega
  have u:(x.op == 11)=oX:=by simp;omega
  have v:(x.op == 12)=oX:=by simp;omega
  have z:(x.op == 13)=oX:=by simp;omega
  have A:(x.op == 14)=oX:=by simp;omega
  have B:(x.op == 15)=oX:=by simp;omega
  have C:(x.op == 16)=oX:=by simp;omega
  clear g h;subst e;go_enter func136,ntmps136;go_upto_region 1 with fail
  generalize(w.alloc (Z (QE x tv).toArray 86))=W at*;go_wp2;go_ret2
  exact⟨rfl,l⟩
 all_goals
  have e:=g.out;rw[h]at p e;subst e;clear g h;go_enter func136,ntmps136;go_upto_region 1 with fail
  generalize(w.alloc (Z (QE x tv).toArray 86))=W at*;go_wp2;go_ret2
  exact⟨rfl,l⟩
def RdZ(w:wW)(v:vW)(l:List Int):Prop:=∃av cap,v=U av l.length cap/\∀i (h:i<l.length),∃bb off,av=lX ⟨bb,off,kX⟩/\w.cell? ⟨bb,off+i,kX⟩=lX (O J (l[i]))
theorem RdZ.below{w':wW}{v:vW}{l:List Int}(h:RdZ w v l)(s:bL w w'):RdZ w' v l:=by
 obtain⟨av,cap,e,h⟩:=h;refine⟨av,cap,e,λi u=>?_⟩;obtain⟨j,g,p,q⟩:=h i u;exact⟨j,g,p,QB s q⟩
theorem RdZ.nil(w:wW):RdZ w (U kX 0 0) []:=⟨kX,0,rfl,λi g=>absurd g (Nat.not_lt_zero _)⟩
theorem RdZ.one(h:w.cell? ⟨b,0,kX⟩=lX (O J x)):RdZ w (U (lX ⟨b,0,kX⟩) 1 1) [x]:=by
 refine⟨_,1,rfl,λi g=>⟨b,0,rfl,?_⟩⟩;have:i=0:=by simp at g;omega
 subst this;exact h
theorem RdZ.two{y:Int}(h:w.cell? ⟨b,0,kX⟩=lX (O J x))(g:w.cell? ⟨b,1,kX⟩=lX (O J y)):RdZ w (U (lX ⟨b,0,kX⟩) 2 2) [x,y]:=by
 refine⟨_,2,rfl,λi j=>⟨b,0,rfl,?_⟩⟩;have:i=0\/i=1:=by simp at j;omega
 rcases this with rfl|rfl
 ·exact h
 ·exact g
def onw(o a b:Int)(g:List Int)(at':Int):List Int×List Int :=
 if o=12 then([at'+1,a],[b])else if o=13 then([],[a])else if o=14 then([at'+1],[a])else if o=15 then(g,[b])else if o=16 then([],[])else([at'+1],[])
def Bk(w:wW)(tv v:vW):Prop:=v=tv \/ ∀g,v.ownBlock=lX g->w.heap.size<=g
theorem Bk.nil:Bk w tv (U kX 0 0):=sZ λg e=>by cases e
theorem Bk.new{n c:Nat}(h:w.heap.size<=b):Bk w tv (U (lX ⟨b,0,kX⟩) n c):=sZ λg e=>by
 have j:b=g:=by simpa[Value.ownBlock]using e
 subst j;exact h
theorem Bk.own:Bk w tv tv:=xZ rfl
def OnP(w:wW)(tv:vW)(w':wW)(q:List Int×List Int)(e:Ending):Prop:=∃c k,e=rX (uX #[c,k])/\RdZ w' c q.1/\RdZ w' k q.2/\Bk w tv c/\Bk w tv k
theorem zHf(x:Wc.In)(tv:vW)(at':Int)(w:wW)(h:x.op=12)(l:0<=at'/\at'<=1000000):cW prog 101 #[inV x tv,O J at'] w λe w'=>OnP w tv w' ([at'+1,x.a],[x.b]) e/\bL w w':=by
 have pA:=AtL.new0 w 86 (QE x tv);have j:=QI (aZ _ w) (Z (QE x tv).toArray 86);have g:(w.alloc (Z (QE x tv).toArray 86)).cell? ⟨w.heap.size,0,kX⟩=lX (O J x.op):=pA.2.1 0 _ rfl;have q:(w.alloc (Z (QE x tv).toArray 86)).cell? ⟨w.heap.size,1,kX⟩=lX (O J x.a):=pA.2.1 1 _ rfl;have s:(w.alloc (Z (QE x tv).toArray 86)).cell? ⟨w.heap.size,2,kX⟩=lX (O J x.b):=pA.2.1 2 _ rfl;have p:=pA.lt;have u:J.wrap (at'+1)=at'+1:=by rw[bZ];omega
 rw[h]at g;clear pA h l;go_enter func101,ntmps101;go_upto_region 1 with fail
 generalize(w.alloc (Z (QE x tv).toArray 86))=W at*;go_upto_region 3 with fail
 go_region
 all_goals
  go_wp2_with fail
  go_ret2
  refine⟨⟨_,_,rfl,RdZ.two ?_ ?_,RdZ.one ?_,Bk.new ?_,Bk.new ?_⟩,(clB j)⟩;all_goals first
   |(simp;done)
   |(simp;omega)
   |omega
theorem zI0(x:Wc.In)(av:Option dW)(n cap:Nat)(u:List Int)(at':Int)(w:wW)(h:x.op=13)(q:0<=at'/\at'<=1000000)(g:RdZ w (U av n cap) u):cW prog 101 #[inV x (U av n cap),O J at'] w λe w'=>OnP w (U av n cap) w' ([],[x.a]) e/\bL w w':=by
 have pA:=AtL.new0 w 86 (QE x (U av n cap));have p:=QI (aZ _ w) (Z (QE x (U av n cap)).toArray 86);have j:(w.alloc (Z (QE x (U av n cap)).toArray 86)).cell? ⟨w.heap.size,0,kX⟩=lX (O J x.op):=pA.2.1 0 _ rfl;have z:(w.alloc (Z (QE x (U av n cap)).toArray 86)).cell? ⟨w.heap.size,1,kX⟩=lX (O J x.a):=pA.2.1 1 _ rfl;have A:(w.alloc (Z (QE x (U av n cap)).toArray 86)).cell? ⟨w.heap.size,2,kX⟩=lX (O J x.b):=pA.2.1 2 _ rfl;have l:(w.alloc (Z (QE x (U av n cap)).toArray 86)).cell? ⟨w.heap.size,22,kX⟩=lX (U av n cap):=pA.2.1 22 _ rfl;have s:=pA.lt;have B:J.wrap (at'+1)=at'+1:=by rw[bZ];omega
 have v:=hid g;rw[h]at j;clear pA h q g;go_enter func101,ntmps101;go_upto_region 1 with fail
 generalize(w.alloc (Z (QE x (U av n cap)).toArray 86))=W at*;go_upto_region 5 with fail
 go_region
 all_goals
  go_wp2_with fail
  go_ret2
  refine⟨⟨_,_,rfl,RdZ.nil _,RdZ.one ?_,Bk.nil,Bk.new ?_⟩,(clB p)⟩;all_goals first
   |(simp;done)
   |(simp;omega)
   |omega
theorem zJf(x:Wc.In)(av:Option dW)(n cap:Nat)(u:List Int)(at':Int)(w:wW)(h:x.op=14)(q:0<=at'/\at'<=1000000)(g:RdZ w (U av n cap) u):cW prog 101 #[inV x (U av n cap),O J at'] w λe w'=>OnP w (U av n cap) w' ([at'+1],[x.a]) e/\bL w w':=by
 have pA:=AtL.new0 w 86 (QE x (U av n cap));have p:=QI (aZ _ w) (Z (QE x (U av n cap)).toArray 86);have j:(w.alloc (Z (QE x (U av n cap)).toArray 86)).cell? ⟨w.heap.size,0,kX⟩=lX (O J x.op):=pA.2.1 0 _ rfl;have z:(w.alloc (Z (QE x (U av n cap)).toArray 86)).cell? ⟨w.heap.size,1,kX⟩=lX (O J x.a):=pA.2.1 1 _ rfl;have A:(w.alloc (Z (QE x (U av n cap)).toArray 86)).cell? ⟨w.heap.size,2,kX⟩=lX (O J x.b):=pA.2.1 2 _ rfl;have l:(w.alloc (Z (QE x (U av n cap)).toArray 86)).cell? ⟨w.heap.size,22,kX⟩=lX (U av n cap):=pA.2.1 22 _ rfl;have s:=pA.lt;have B:J.wrap (at'+1)=at'+1:=by rw[bZ];omega
 have v:=hid g;rw[h]at j;clear pA h q g;go_enter func101,ntmps101;go_upto_region 1 with fail
 generalize(w.alloc (Z (QE x (U av n cap)).toArray 86))=W at*;go_upto_region 7 with fail
 go_region
 all_goals
  go_wp2_with fail
  go_ret2
  refine⟨⟨_,_,rfl,RdZ.one ?_,RdZ.one ?_,Bk.new ?_,Bk.new ?_⟩,(clB p)⟩;all_goals first
   |(simp;done)
   |(simp;omega)
   |omega
theorem zIu(x:Wc.In)(av:Option dW)(n cap:Nat)(l:List Int)(at':Int)(w:wW)(h:x.op=15)(u:0<=at'/\at'<=1000000)(j:RdZ w (U av n cap) l):cW prog 101 #[inV x (U av n cap),O J at'] w λe w'=>OnP w (U av n cap) w' (l,[x.b]) e/\bL w w':=by
 have pA:=AtL.new0 w 86 (QE x (U av n cap));have g:=QI (aZ _ w) (Z (QE x (U av n cap)).toArray 86);have q:(w.alloc (Z (QE x (U av n cap)).toArray 86)).cell? ⟨w.heap.size,0,kX⟩=lX (O J x.op):=pA.2.1 0 _ rfl;have z:(w.alloc (Z (QE x (U av n cap)).toArray 86)).cell? ⟨w.heap.size,1,kX⟩=lX (O J x.a):=pA.2.1 1 _ rfl;have A:(w.alloc (Z (QE x (U av n cap)).toArray 86)).cell? ⟨w.heap.size,2,kX⟩=lX (O J x.b):=pA.2.1 2 _ rfl;have s:(w.alloc (Z (QE x (U av n cap)).toArray 86)).cell? ⟨w.heap.size,22,kX⟩=lX (U av n cap):=pA.2.1 22 _ rfl;have v:=pA.lt;have B:J.wrap (at'+1)=at'+1:=by rw[bZ];omega
 have p:=hid j;rw[h]at q;clear pA h u j;go_enter func101,ntmps101;go_upto_region 1 with fail
 generalize(w.alloc (Z (QE x (U av n cap)).toArray 86))=W at*;go_upto_region 9 with fail
 go_region
 all_goals
  go_wp2_with fail
  go_ret2
  refine⟨⟨_,_,rfl,p.out.below (clB g),RdZ.one ?_,Bk.own,Bk.new ?_⟩,(clB g)⟩;all_goals first
   |(simp;done)
   |(simp;omega)
   |omega
theorem zHo(x:Wc.In)(av:Option dW)(n cap:Nat)(u:List Int)(at':Int)(w:wW)(h:x.op=16)(q:0<=at'/\at'<=1000000)(g:RdZ w (U av n cap) u):cW prog 101 #[inV x (U av n cap),O J at'] w λe w'=>OnP w (U av n cap) w' ([],[]) e/\bL w w':=by
 have pA:=AtL.new0 w 86 (QE x (U av n cap));have p:=QI (aZ _ w) (Z (QE x (U av n cap)).toArray 86);have j:(w.alloc (Z (QE x (U av n cap)).toArray 86)).cell? ⟨w.heap.size,0,kX⟩=lX (O J x.op):=pA.2.1 0 _ rfl;have z:(w.alloc (Z (QE x (U av n cap)).toArray 86)).cell? ⟨w.heap.size,1,kX⟩=lX (O J x.a):=pA.2.1 1 _ rfl;have A:(w.alloc (Z (QE x (U av n cap)).toArray 86)).cell? ⟨w.heap.size,2,kX⟩=lX (O J x.b):=pA.2.1 2 _ rfl;have l:(w.alloc (Z (QE x (U av n cap)).toArray 86)).cell? ⟨w.heap.size,22,kX⟩=lX (U av n cap):=pA.2.1 22 _ rfl;have s:=pA.lt;have B:J.wrap (at'+1)=at'+1:=by rw[bZ];omega
 have v:=hid g;rw[h]at j;clear pA h q g;go_enter func101,ntmps101;go_upto_region 1 with fail
 generalize(w.alloc (Z (QE x (U av n cap)).toArray 86))=W at*;all_goals
  go_wp2;go_ret2
  exact⟨⟨_,_,rfl,RdZ.nil _,RdZ.nil _,Bk.nil,Bk.nil⟩,p⟩
theorem zLr(x:Wc.In)(av:Option dW)(n cap:Nat)(at':Int)(w:wW)(h:¬(12<=x.op/\x.op<=16))(l:0<=at'/\at'<=1000000):cW prog 101 #[inV x (U av n cap),O J at'] w λe w'=>OnP w (U av n cap) w' ([at'+1],[]) e/\bL w w':=by
 have pA:=AtL.new0 w 86 (QE x (U av n cap));have j:=QI (aZ _ w) (Z (QE x (U av n cap)).toArray 86);have A:(w.alloc (Z (QE x (U av n cap)).toArray 86)).cell? ⟨w.heap.size,0,kX⟩=lX (O J x.op):=pA.2.1 0 _ rfl;have B:(w.alloc (Z (QE x (U av n cap)).toArray 86)).cell? ⟨w.heap.size,1,kX⟩=lX (O J x.a):=pA.2.1 1 _ rfl;have C:(w.alloc (Z (QE x (U av n cap)).toArray 86)).cell? ⟨w.heap.size,2,kX⟩=lX (O J x.b):=pA.2.1 2 _ rfl;have g:(w.alloc (Z (QE x (U av n cap)).toArray 86)).cell? ⟨w.heap.size,22,kX⟩=lX (U av n cap):=pA.2.1 22 _ rfl;have p:=pA.lt;have D:J.wrap (at'+1)=at'+1:=by rw[bZ];omega
 have q:(x.op == 12)=oX:=by simp;omega
 have s:(x.op == 13)=oX:=by simp;omega
 have u:(x.op == 14)=oX:=by simp;omega
 have v:(x.op == 15)=oX:=by simp;omega
 have z:(x.op == 16)=oX:=by simp;omega
 clear pA h l;go_enter func101,ntmps101;go_upto_region 1 with fail
 generalize(w.alloc (Z (QE x (U av n cap)).toArray 86))=W at*;go_wp2;go_ret2
 refine⟨⟨_,_,rfl,RdZ.one ?_,RdZ.nil _,Bk.new ?_,Bk.nil⟩,(clB j)⟩;all_goals first
  |(simp;done)
  |(simp;omega)
  |omega
theorem zA2(x:Wc.In)(av:Option dW)(n cap:Nat)(u:List Int)(at':Int)(w:wW)(s:0<=at'/\at'<=1000000)(v:RdZ w (U av n cap) u):cW prog 101 #[inV x (U av n cap),O J at'] w λe w'=>OnP w (U av n cap) w' (onw x.op x.a x.b u at') e/\bL w w':=by
 unfold onw;by_cases g:x.op=12
 ·rw[if_pos g];exact zHf x _ at' w g s
 by_cases j:x.op=13
 ·rw[if_neg g,if_pos j];exact zI0 x av n cap u at' w j s v
 by_cases l:x.op=14
 ·rw[if_neg g,if_neg j,if_pos l];exact zJf x av n cap u at' w l s v
 by_cases p:x.op=15
 ·rw[if_neg g,if_neg j,if_neg l,if_pos p];exact zIu x av n cap u at' w p s v
 by_cases q:x.op=16
 ·rw[if_neg g,if_neg j,if_neg l,if_neg p,if_pos q];exact zHo x av n cap u at' w q s v
 rw[if_neg g,if_neg j,if_neg l,if_neg p,if_neg q];exact zLr x av n cap at' w oM s
end Go.Proofs.YthcblmpncpcfkaaGreatDoor
namespace Go.Proofs.YthcblmpncpcfkaaGreatDoor
