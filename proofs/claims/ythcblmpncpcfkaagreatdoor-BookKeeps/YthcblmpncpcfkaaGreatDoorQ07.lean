/- Lemmas. -/
import Derived.Test.YthcblmpncpcfkaaGreatDoorQ06
import Derived.Maps.RangeRun
import Derived.Sort.Grow
import Derived.Lib.QuietBelow
import Derived.Shelf.SlSortCmp.WholeK
import Derived.Ground.SlsfProg
import Derived.Shelf.SlGeneric
import Derived.Shelf.SlSortCmp.NoneTotal
set_option maxHeartbeats 8000000
set_option maxRecDepth 100000
set_option linter.unusedVariables false
open Option renaming none->zX,some->eW
open Bool renaming true->fW,false->gW
open Go.RowKit.Below renaming refl->cZ
open List renaming length_cons->dZ,cons_append->fZ,eq_nil_of_length_eq_zero->iZ,getElem?_eq_getElem->kZ,take_append_drop->mZ,length_append->oZ,length_drop->sZ,getElem?_append_right->tZ,getElem?_eq_none->uZ,getElem?_append_left->vZ,mem_cons_of_mem->wZ,getElem_mem->zZ,mem_cons->cY,take_succ_cons->dY,length->fY,getElem?_map->hY,append_assoc->jY,drop_eq_nil_of_le->kY,take_of_length_le->lY,not_mem_nil->mY,map_toArray->nY,map_cons->oY,mem_cons_self->rY,getD_eq_getElem?_getD->tY,perm_ext_iff_of_nodup->uY,drop_eq_getElem_cons->vY,length_take->yY,getElem?_replicate->cX,getElem?_cons_zero->dX,map_nil->eX,length_nil->iX,replicate->jX,mem_of_getElem?->kX,map_map->lX,getElem?_inj->nX,filter_cons->oX,drop_suffix->qX,nil_append->sX,take_zero->vX,mem_map->yX
open Nat renaming le_refl->eZ,le_trans->nZ,zero_le->qZ,zero_add->xZ,not_lt_zero->eY,add_sub_cancel_left->gY,lt_of_lt_of_le->sY,le_of_succ_le->wY,lt_or_ge->zY,lt_trans->wX,zero_mul->xX
open Or renaming inr->gZ,inl->pZ
open Go.IntKind renaming wrap_i64->jZ
open Bool renaming and_eq_true->rZ,not_eq_true'->iY,eq_false_or_eq_true->xY,or_eq_true->fX
open Go.Result renaming andThen_ok->yZ,andThen->tX
open Go.Sem renaming run_bind->pY,run_pure->qY
open Go renaming World->wW,Value->vW,Calls->cW,Addr->dW
open Go.Value renaming int->O,slice->U,string->V,bool->Y,pointer->pX,agg->gX,tuple->uX
open Go.IntKind renaming i64->J
open Go.Obj renaming cells->Z
open Go.Ending renaming returned->rX
open Go.Operand renaming tmp->mX
namespace Go.Proofs.YthcblmpncpcfkaaGreatDoor
open Tryz
variable {w w':wW}{mb b B k n r m2 m mk i cap:Nat}{v lv:vW}{F:List (Wpl.Cl×Ct)}{S:List Nat}{A:List Wpl.Ar}{M:List (Option (Int×Nat))}{tl:List Int}{v2:Int}{D:List Wpl.Cl}{E:List MapEntry}{ops:Array Oper}{rest:List Oper}{a:Act}{Q:Exit->Act->wW->Prop}{F2:List (Nat×Int)}{x:Wc.In}{ok:Bool}{C:List Wf.I}
open Go.RowKit
open Go.ChangeMaps (setBlock heap_setBlock_same heap_setBlock_other)
open Go.ChangeShapes Go.WideShapes Go.MapKept
abbrev J4(x:Wpl.Ar):List vW:=[O J x.s,O J x.t,O J x.l,O J x.b,O J x.r]
abbrev arV(x:Wpl.Ar):vW:=gX #[O J x.s,O J x.t,O J x.l,O J x.b,O J x.r]
def rdA(x:Wc.In):List Wpl.Ar:=if x.op=2 then[Vm x.ce.s x.ce.r x.ce.c]else if x.op=8\/x.op=11 then[x.ar]else if x.op=9 then[x.ar,x.pr]else[]
def ddA(d:List Wpl.Ar):List Wpl.Ar->List Wpl.Ar
 |[]=>d
 |a::r=>if d.any (λy=>Jl y a)=fW then ddA d r else ddA (d++[a]) r
theorem zN5(A C:List Wpl.Ar):∀(d:List Wpl.Ar),ddA d (A++C)=ddA (ddA d A) C:=by
 induction A with
 |nil=>intro d;rfl
 |cons a r e =>
  intro d;simp only[fZ,ddA];split
  ·exact e _
  ·exact e _
theorem zDD:∀(A d:List Wpl.Ar),(ddA d A).length<=d.length+A.length
 |[],d=>eZ _
 |a::r,d=>by
  simp only[ddA];split
  ·have:=zDD r d;simp;omega
  ·have:=zDD r (d++[a]);simp at this ⊢;omega
def VR(L:List (Wc.In×List Int)):List Wpl.Ar:=L.flatMap λx=>rdA x.1
theorem zJP(x:Wc.In):(rdA x).length<=2:=by
 unfold rdA;repeat' split
 all_goals simp
theorem zCc:∀(L:List (Wc.In×List Int)),(VR L).length<=2*L.length
 |[]=>eZ _
 |x::r=>by
  have d:=zCc r;have e:=zJP x.1;unfold VR at d ⊢;simp only[List.flatMap_cons,oZ,dZ];omega
theorem zJ0{L:List (Wc.In×List Int)}(h:i<L.length):VR (L.take (i+1))=VR (L.take i)++rdA (L[i]).1:=by
 unfold VR;rw[List.take_succ_eq_append_getElem h,List.flatMap_append];simp
def Vg:Nat->List Wpl.Ar->List MapEntry
 |_,[]=>[]
 |i,x::r=>⟨arV x,gX #[],i⟩::Vg (i+1) r
theorem zFn:∀(F:List Wpl.Ar)(i:Nat)(x:Wpl.Ar),Vg i (F++[x])=Vg i F++[⟨arV x,gX #[],i+F.length⟩]
 |[],i,x=>rfl
 |y::r,i,x=>by
  show _::Vg (i+1) (r++[x])=_::(Vg (i+1) r++_)
  rw[zFn r (i+1) x];have e:i+1+r.length=i+(r.length+1):=oM;rw[e];rfl
def AM(w:wW)(b:Nat)(F:List Wpl.Ar):Prop:=∃d:Array MapEntry,w.heap[b]?=eW (.map d F.length)/\d.toList=Vg 0 F
theorem AM.lt{F:List Wpl.Ar}(h:AM w b F):b<w.heap.size:=by
 obtain⟨d,h,_⟩:=h;rcases zY b w.heap.size with g|g
 ·exact g
 ·rw[Array.getElem?_eq_none g]at h;cases h
theorem AM.fr{F:List Wpl.Ar}(h:AM w b F)(j:Fr S w w')(l:b∉S):AM w' b F:=by
 have d:=h.lt;obtain⟨e,f,g⟩:=h;exact⟨e,by rw[j.block b d l];exact f,g⟩
theorem AM.below{F:List Wpl.Ar}(h:AM w b F)(d:bL w w'):AM w' b F:=h.fr (Fr.of_below [] d) sM
theorem zRA(d:Bool)(x:Wpl.Ar)(w:wW):(Instr.checkKey d 10000 83 (arV x)).run prog w=.ok () w:=kR
theorem zOb(x y:Wpl.Ar)(w:wW):(Op.equal 83 (arV x) (arV y)).run prog w=.ok (Jl x y) w:=by
 show(Op.equalIn (9998+2) 83 _ _).run _ _=_
 unfold Jl;by_cases d:x.s=y.s
 ·by_cases e:x.t=y.t
  ·by_cases f:x.l=y.l
   ·by_cases g:x.b=y.b
    ·by_cases j:x.r=y.r
     ·simp[go_sem,d,e,f,g,j]
     ·simp[go_sem,d,e,f,g,j]
    ·simp[go_sem,d,e,f,g]
   ·simp[go_sem,d,e,f]
  ·simp[go_sem,d,e]
 ·simp[go_sem,d]
theorem zHj(x y:Wpl.Ar):Jl x y=Jl y x:=by
 rw[Bool.eq_iff_iff,zGL,zGL];exact⟨λh=>h.symm,λh=>h.symm⟩
theorem zPV(x:Wpl.Ar)(w:wW):∀(F:List Wpl.Ar)(i:Nat),(Instr.findAsking 83 (arV x) (Vg i F) i).run prog w=.ok ((F.findIdx? (λy=>Jl y x)).map λk=>(i+k,gX #[])) w
 |[],i=>rfl
 |y::r,i=>by
  have h:=zPV x w r (i+1);have e:=zOb x y w;rw[zHj]at e;unfold Vg;rw[List.findIdx?_cons];cases d:Jl y x with
  |true =>
   rw[d]at e;simp[Instr.findAsking,e,tX]
  |false =>
   rw[d]at e;simp[Instr.findAsking,e,tX,h];cases r.findIdx? (λy=>Jl y x)with
   |none=>rfl
   |some k =>
    simp;omega
theorem zRq(x:Wpl.Ar)(F:List Wpl.Ar)(w:wW):(Instr.findKey 83 (arV x) (Vg 0 F)).run prog w=.ok ((F.findIdx? (λy=>Jl y x)).map λk=>(k,gX #[])) w:=by
 have h:=zPV x w F 0;cases F with
 |nil=>simp[Instr.findKey,go_sem,Vg,Instr.findNow]
 |cons y r =>
  simp[Instr.findKey,go_sem,Vg,Instr.findNow,Instr.sameNow];simpa[Vg]using h
theorem zO9:prog.underlying 102=eW (.map 83 104):=kR
theorem zC9(F:List Wpl.Ar)(x:Wpl.Ar):F.findIdx? (λy=>Jl y x)=zX↔F.any (λy=>Jl y x)=gW:=by
 rw[List.findIdx?_eq_none_iff,List.any_eq_false];exact⟨λh y d=>by simp[h y d],λh y d=>by simpa using h y d⟩
theorem zQy{F:List Wpl.Ar}(h:AM w mb F)(x:Wpl.Ar):(Instr.lookup 102 (.map (eW mb)) (arV x) fW).run prog w=.ok (uX #[gX #[],Y (F.any (λy=>Jl y x))]) w:=by
 obtain⟨g,e,f⟩:=h;cases d:F.findIdx? (λy=>Jl y x)with
 |none =>
  rw[(zC9 F x).1 d];refine zBh zO9 e (zRA _ _ _) ?_ kR;rw[f,zRq,d];rfl
 |some k =>
  have:F.any (λy=>Jl y x)=fW:=by
   cases q:F.any (λy=>Jl y x)with
   |true=>rfl
   |false=>rw[(zC9 F x).2 q]at d;cases d
  rw[this];refine zCj (j:=k) zO9 e (zRA _ _ _) ?_;rw[f,zRq,d];rfl
theorem zRr{F:List Wpl.Ar}(h:AM w mb F){x:Wpl.Ar}(g:F.any (λy=>Jl y x)=gW):∃w',(Instr.mapUpdate 102 (.map (eW mb)) (arV x) (gX #[])).run prog w=.ok () w'/\AM w' mb (F++[x])/\w.grownBy w' (eW mb):=by
 obtain⟨f,d,e⟩:=h;refine⟨_,zE1 zO9 d _ (zRA _ _ _) (by rw[e,zRq,(zC9 F x).2 g];rfl),⟨f.push ⟨arV x,gX #[],F.length⟩,?_,?_⟩,zAY d _⟩
 ·rw[heap_setBlock_same d,oZ];rfl
 ·rw[Array.toList_push,e,zFn];simp
theorem zDT{d:Oper}(f:d.guard=zX)(m x v:Operand)(u:d.op=.mapUpdate 102 m x v)(b:Nat)(t:a.eval m=.map (eW b))(y:Wpl.Ar)(P:a.eval x=arV y)(N:a.eval v=gX #[])
  (F:List Wpl.Ar) (l:AM w b F) (s:F.any (λz=>Jl z y)=gW) (h:∀w',AM w' b (F++[y])->w.grownBy w' (eW b)->wpList prog ops Q rest (a.put d.dst (uX #[])) w'):wpList prog ops Q (d::rest) a w:=by
 obtain⟨w',e,g,q⟩:=zRr l s;refine wpList_plain f λK j=>?_
 unfold Oper.wp execOp;simp only[u,t,P,N,pY,qY,yZ,e];exact j _ _ (h w' g q)
def JQ:List Wpl.Ar->List vW
 |[]=>[]
 |x::r=>J4 x++JQ r
theorem zBj:∀A:List Wpl.Ar,(JQ A).length=A.length*5
 |[]=>rfl
 |x::r=>by simp[JQ,zBj r];omega
theorem zDU:∀(A C:List Wpl.Ar),JQ (A++C)=JQ A++JQ C
 |[],C=>rfl
 |x::r,C=>by simp[JQ,zDU r C]
theorem zEN:∀(A:List Wpl.Ar),∀v∈JQ A,v.oneCell'=fW
 |[],v,h=>by cases h
 |x::r,v,h=>by
  simp only[JQ,J4,List.mem_append,cY,mY,or_false]at h;rcases h with(rfl|rfl|rfl|rfl|rfl)|h
  ·rfl
  ·rfl
  ·rfl
  ·rfl
  ·rfl
  ·exact zEN r v h
theorem zEF:∀(A:List Wpl.Ar)(i j:Nat)(h:i<A.length),j<5->(JQ A)[i*5+j]?=(J4 (A[i]))[j]?
 |x::r,0,j,_,hj=>by
  show(J4 x++JQ r)[0*5+j]?=_
  rw[vZ (by simp;omega)];simp
 |x::r,i+1,j,h,hj=>by
  have d:=zEF r i j (by simpa using h) hj;show(J4 x++JQ r)[(i+1)*5+j]?=_
  rw[tZ (by simp;omega)];have e:(i+1)*5+j-(J4 x).length=i*5+j:=by simp;omega
  rw[e,d];rfl
def OwnA(w:wW)(B:Nat)(v:vW)(A:List Wpl.Ar):Prop:=w.ownsRow B 83 5 v A.length (JQ A)
theorem OwnA.nil(w:wW)(B:Nat):OwnA w B (U zX 0 0) []:=⟨rfl,pZ ⟨rfl,rfl⟩⟩
theorem OwnA.blk(h:OwnA w B v A){g:Nat}(e:v.ownBlock=eW g):B<=g/\g<w.heap.size:=QL h e
theorem OwnA.below(h:OwnA w B v A)(d:bL w w'):OwnA w' B v A:=QZ (Fr.of_below [] d) h sM
def RdA(w:wW)(v:vW)(A:List Wpl.Ar):Prop:=∃d cap,v=U d A.length cap/\∀i (h:i<A.length),∃bb off,d=eW ⟨bb,off,zX⟩/\w.rangeAt bb (off+i*5) (J4 (A[i]))
theorem RdA.below(h:RdA w v A)(q:bL w w'):RdA w' v A:=by
 obtain⟨f,cap,e,h⟩:=h;refine⟨f,cap,e,λi s=>?_⟩;obtain⟨bb,d,g,l⟩:=h i s;exact⟨bb,d,g,λj v t=>QB q (l j v t)⟩
theorem RdA.nil(w:wW):RdA w (U zX 0 0) []:=⟨zX,0,rfl,λi d=>absurd d (eY _)⟩
theorem RdA.at0(h:∀j u,(JQ A)[j]?=eW u->w.cell? ⟨b,j,zX⟩=eW u):RdA w (U (eW ⟨b,0,zX⟩) A.length cap) A:=by
 refine⟨_,_,rfl,λi d=>⟨b,0,rfl,λj u hu=>?_⟩⟩;have e:j<5:=by
  rcases zY j 5 with q|q
  ·exact q
  ·rw[uZ (by simpa using q)]at hu;cases hu
 rw[xZ];exact h _ _ (by rw[zEF A i j d e];exact hu)
theorem OwnA.rd(h:OwnA w B v A):RdA w v A:=by
 rcases h.2 with⟨e,l⟩|⟨g,cap,f,e,R,y,K,N,P,s⟩
 ·have t:A=[]:=iZ l;subst t;rw[e];exact RdA.nil w
 ·rw[e];refine RdA.at0 λj u d=>?_
  have z:=zBj A;have T:j<A.length*5:=by
   rw[<-z];rcases zY j (JQ A).length with q|q
   ·exact q
   ·rw[uZ q]at d;cases d
  rw[<-s,List.getElem?_take_of_lt oM]at d;unfold World.cell?;simp only[y];simpa using d
theorem zJq:(prog.info? 83).map (λi=>(i.zero,i.size,i.bytes))=eW (eW (gX #[O J 0,O J 0,O J 0,O J 0,O J 0]),5,40):=kR
theorem zDc{ops:Array Oper}{rest:List Oper}{o:Oper}{a:Act}{Q:Exit->Act->wW->Prop}(l:o.guard=zX)(s x:Operand)(ho:o.op=.call {callee:=.builtin .append,args:=#[s,x],argTypes:=#[45,45]})
  (w:wW) (B:Nat) (N:B<=w.heap.size) (v:vW) (A:List Wpl.Ar) (hs:a.eval s=v) (d:OwnA w B v A) (g n:Nat) (L:List Wpl.Ar) (X:n=L.length) (hx:a.eval x=U (eW ⟨g,0,zX⟩) n n) (f:AtL w g (JQ L)) (hl:A.length+L.length<=4000000)
  (h:∀e w',OwnA w' B e (A++L)->w.grownBy w' v.ownBlock->wpList prog ops Q rest (a.put o.dst e) w'):wpList prog ops Q (o::rest) a w:=by
 subst X;obtain⟨i0,q,t,y,z⟩:=info_parts zJq;refine wpList_plain l λK P=>?_
 refine wp_append_own _ s x 45 ho B 83 i0 _ 5 40 underlying45 q t y z rfl dM v A.length (JQ A) hs d ⟨g,0,zX⟩ L.length L.length (JQ L) hx (zBj L) (λj u T=>?_) (zEN L) (by unfold maxLen;omega) oM N ?_
 ·have:=f.2.1 j u T;rw[show(⟨g,0,zX⟩:dW).add j=⟨g,j,zX⟩from by
   simp[Addr.add];try(intro h0;omega)]
  exact this
 ·intro e w' own R _;refine P _ _ (h e w' ?_ R);unfold OwnA;rw[oZ,zDU];exact own
theorem JB(i:Nat)(x:Wc.In)(tl:List Int)(M:List (Option (Int×Nat)))(F:List (Nat×Int)):Wc.spI i (x,tl) (M,F)=match M.getD i zX with
  |none=>zX
  |some (v,m)=>match Vk F x v m with
   |none=>zX
   |some (h2,F2)=>match Wc.handP h2 (onw x.op x.a x.b tl i).1 M with
    |none=>zX
    |some d=>match Wc.handP (v,m) (onw x.op x.a x.b tl i).2 d with
     |none=>zX
     |some e=>eW (e,F2):=by
 unfold Wc.spI Wc.stepP Vk;simp only;cases M.getD i zX with
 |none=>rfl
 |some q =>
  obtain⟨v,m⟩:=q;simp only;cases Wc.behF F x.op x.a m with
  |none=>rfl
  |some q =>
   obtain⟨m2,F2⟩:=q;simp only;split
   ·rfl
   ·rfl
theorem zMn{F:List (Nat×Int)}{o a:Int}(h:Wc.behF F o a m=eW (m2,F2)):F2.length<=F.length+1:=by
 unfold Wc.behF at h;repeat' split at h
 all_goals first
  |cases h;done
  |(cases h;simp)
theorem zPX{F:List (Nat×Int)}(g:Wc.Rows F){o a:Int}{m m2:Nat}{F2:List (Nat×Int)}(f:m<=F.length)(h:Wc.behF F o a m=eW (m2,F2)):Wc.Beh F o a m m2 F2:=by
 cases e:Wc.bst o (Wc.rw0 F m)with
 |false=>rw[Wc.beh_none g f e]at h;cases h
 |true =>
  obtain⟨l,j,d,B⟩:=Wc.beh_some (a:=a) g f e;rw[h]at d;cases d
  exact B
structure PInv(i:Nat)(M:List (Option (Int×Nat)))(F:List (Nat×Int)):Prop where
 len:F.length<=i
 rows:Wc.Rows F
 zero:M.getD 0 zX=eW (0,0)
 at':∀(j:Nat)(v:Int)(m:Nat),M.getD j zX=eW (v,m)->0<=v/\v<=i/\m<=F.length
theorem zD6{α:Type}(l:List (Option α))(i j:Nat)(x:Option α):(l.set i x).getD j zX=if i=j/\i<l.length then x else l.getD j zX:=by
 by_cases d:i<l.length
 ·rw[Wc.getD_set l i j x d];by_cases h:i=j
  ·simp[h,h ▸ d]
  ·simp[h]
 ·rw[List.set_eq_of_length_le oM,if_neg oM]
theorem zDk{h:Int×Nat}:∀(pl:List Int)(M d:List (Option (Int×Nat))),Wc.handP h pl M=eW d->(∀j∈pl,0<j)->d.getD 0 zX=M.getD 0 zX/\∀(j:Nat)(g:Int×Nat),d.getD j zX=eW g->g=h\/M.getD j zX=eW g:=by
 intro pl;induction pl with
 |nil =>
  intro M d e _;cases e
  exact⟨rfl,λj g q=>gZ q⟩
 |cons p r z =>
  intro M d e f;have u:=f p (rY ..);have y:∀j∈r,0<j:=λj hj=>f j (wZ _ hj)
  have key:Wc.handP h r (M.set p.toNat (eW h))=eW d->d.getD 0 zX=M.getD 0 zX/\∀(j:Nat)(g:Int×Nat),d.getD j zX=eW g->g=h\/M.getD j zX=eW g:=by
   intro l;obtain⟨s,t⟩:=z _ _ l y;refine⟨by rw[s,zD6,if_neg oM],λj g q=>?_⟩;rcases t j g q with q2|q2
   ·exact pZ q2
   ·rw[zD6]at q2;split at q2
    ·exact pZ (by cases q2;rfl)
    ·exact gZ q2
  simp only[Wc.handP]at e;split at e
  ·exact key e
  ·split at e
   ·exact key e
   ·cases e
theorem zQ6(h:rgt x tl=fW):0<=(Wc.swO x.op x.b).1/\(Wc.swO x.op x.b).1<=1000/\0<=(Wc.swO x.op x.b).2/\(Wc.swO x.op x.b).2<=1:=by
 by_cases f:x.op=5
 ·rw[zPl f,rZ]at h;have g:=h.1;unfold apl at g;simp only[rZ,decide_eq_true_eq]at g;have j:0<=(QR x.a).l/\(QR x.a).m<=30:=by
   unfold QR;split
   ·exact⟨dM,dM⟩
   ·split
    ·unfold zKC;repeat' split
     all_goals exact⟨dM,dM⟩
    ·split
     ·unfold zHt;repeat' split
      all_goals exact⟨dM,dM⟩
     ·unfold zJi;repeat' split
      all_goals exact⟨dM,dM⟩
  have e:Wc.swO x.op x.b=(x.b,1):=by simp[Wc.swO,f]
  rw[e];simp only;omega
 ·by_cases d:x.op=11
  ·rw[zNS d,rZ,rZ]at h;have j:=h.1.2;simp only[fX,beq_iff_eq]at j;have e:Wc.swO x.op x.b=(x.b,1):=by simp[Wc.swO,d]
   rw[e];simp only;omega
  ·unfold Wc.swO;rw[if_neg (show¬(x.op=5\/x.op=11) by omega)];repeat' split
   all_goals exact⟨dM,dM,dM,dM⟩
theorem zKt:(prog.info? 192).map (λi=>(i.zero,i.size,i.bytes))=eW (eW (gX #[O J 0,O J 0,Y gW]),3,24):=kR
theorem MkS.call(h:MkS w b mk n M)(d:Fr S w w')(hd:w'.cell? ⟨b,0,zX⟩=eW (U (eW ⟨mk,0,zX⟩) n n))(e:mk∉S):MkS w' b mk n M :=
 ⟨hd,λj f=>d.range (h.at' j f) e,λi hi=>by rw[d.frozen h.mlt e];exact h.fz i hi,h.len,sY h.mlt d.size⟩
theorem zJb{r:Option ((Int×Nat)×List (Nat×Int))}{e:Ending}{F:List (Nat×Int)}(d:FS w b mb lv F)(h:Vz r b mb lv w e w'):∃(v2:Int)(m2:Nat)(ok:Bool),e=rX (uX #[gX #[O J v2,O J (m2:Int)],Y ok])/\Fr (b::mb::lv.ownBlock.toList) w w' /\
  ((ok=gW/\r=zX)\/(ok=fW/\∃F2,r=eW ((v2,m2),F2)/\(∃lv',FS w' b mb lv' F2)/\(∀u,w.cell? ⟨b,0,zX⟩=eW u->w'.cell? ⟨b,0,zX⟩=eW u))):=by
 cases r with
 |none=>exact⟨0,0,gW,h.1,h.2,pZ ⟨rfl,rfl⟩⟩
 |some q =>
  obtain⟨⟨v,k⟩,F2⟩:=q;exact⟨v,k,fW,h.1,h.2.2.1,gZ ⟨rfl,F2,rfl,h.2.1,h.2.2.2⟩⟩
theorem zRy(n j:Nat)(f:j<n):(madeCells (gX #[O J 0,O J 0,Y gW]).cells (n*3)).toList[j*3]?=eW (O J 0)/\(madeCells (gX #[O J 0,O J 0,Y gW]).cells (n*3)).toList[j*3+1]?=eW (O J 0)/\(madeCells (gX #[O J 0,O J 0,Y gW]).cells (n*3)).toList[j*3+2]?=eW (Y gW):=by
 have e0:j*3%3=0:=oM;have d:(j*3+1)%3=1:=oM;have e:(j*3+2)%3=2:=oM;refine⟨?_,?_,?_⟩
 ·simp[madeCells,Value.cells,show j*3<n*3 by omega,e0]
 ·simp[madeCells,Value.cells,show j*3+1<n*3 by omega,d]
 ·simp[madeCells,Value.cells,show j*3+2<n*3 by omega,e]
theorem mk0(n j:Nat)(d:0<n):mkC ((jX n zX).set 0 (eW ((0:Int),(0:Nat)))) j=[O J 0,O J 0,Y gW]:=by
 unfold mkC;rw[Wc.getD_set _ 0 j _ (by simpa using d)];by_cases h:0=j
 ·rw[if_pos h];subst h;rfl
 ·have e:(if j<n then eW (zX:Option (Int×Nat))else zX).getD zX=zX:=by split <;> rfl
  rw[if_neg h,tY,cX,e]
theorem zRg(n:Nat)(d:0<n):PInv 0 ((jX n zX).set 0 (eW ((0:Int),(0:Nat)))) []:=by
 refine⟨eZ _,Wc.Rows.nil,by rw[Wc.getD_set _ 0 0 _ (by simpa using d),if_pos rfl],λj v m e=>?_⟩;rw[Wc.getD_set _ 0 j _ (by simpa using d)]at e;split at e
 ·cases e
  exact⟨Int.le_refl _,Int.le_refl _,eZ _⟩
 ·rw[tY,cX]at e;split at e <;> cases e
theorem zDj{s t:List (Option (Int×Nat))}{F:List (Nat×Int)}{v:Int}(h:PInv i M F)(X:M.getD i zX=eW (v,m))(hr:rgt x tl=fW)(d:Vk F x v m=eW ((v2,m2),F2)){pl1 g:List Int}(R:Wc.handP (v2,m2) pl1 M=eW s)(T:Wc.handP (v,m) g s=eW t)(p1:∀j∈pl1,0<j)(p2:∀j∈g,0<j):PInv (i+1) t F2:=by
 obtain⟨N,g2,P⟩:=h.at' i v m X;have hs:=zQ6 hr;unfold Vk at d;cases l:Wc.behF F x.op x.a m with
 |none=>rw[l]at d;cases d
 |some q =>
  obtain⟨m3,F3⟩:=q;rw[l]at d;simp only at d;split at d
  ·cases d
  ·rename_i hq
   cases d
   have hl:=zMn l;have B:=zPX h.rows P l;obtain⟨z,K⟩:=zDk _ _ _ R p1;obtain⟨b1,b2⟩:=zDk _ _ _ T p2;have y:=h.len;refine⟨oM,B.rows,by rw[b1,z];exact h.zero,λj u k e=>?_⟩;have aa:=B.le;have f:=B.le2;rcases b2 j _ e with q|q
   ·cases q
    exact⟨N,oM,oM⟩
   ·rcases K j _ q with q|q
    ·cases q
     refine⟨oM,oM,f⟩
    ·obtain⟨k1,k2,k3⟩:=h.at' j u k q;exact⟨k1,oM,oM⟩
theorem zQf{P:wW}{p:Option dW}{j f:Nat}{u:List Int}(h:RdZ w (U p j f) tl)(y:RdZ P (U p j f) u)(d:u≠[]){g:Nat}(e:(U p j f).ownBlock=eW g):g<w.heap.size:=by
 obtain⟨R,X,l,t⟩:=h;obtain⟨T,c2,q,f2⟩:=y;simp only[U.injEq]at l q;have hl:tl.length=u.length:=oM;have hu:=List.length_pos_iff.2 d;obtain⟨bb,z,K,N⟩:=t 0 oM;rw[l.1,K]at e;have s:bb=g:=by simpa[Value.ownBlock]using e
 subst s;exact Q7 N
theorem zMs{l:List Int}(h:RdZ w v l)(y:Fr S w w')(u:l≠[]->∀g,v.ownBlock=eW g->g∉S):RdZ w' v l:=by
 obtain⟨t,cap,e,f⟩:=h;refine⟨t,cap,e,λi d=>?_⟩;obtain⟨bb,j,s,z⟩:=f i d;refine⟨bb,j,s,y.cell z (u (by intro q;rw[q]at d;simp at d) bb ?_)⟩;rw[e,s];rfl
def OKF(w:wW)(b mb mk n:Nat)(M:List (Option (Int×Nat)))(r:Option ((Int×Nat)×List (Nat×Int)))(ok:Bool)(v2:Int)(m2:Nat):Prop:=(ok=gW/\r=zX)\/(ok=fW/\∃F2,r=eW ((v2,m2),F2)/\(∃lv',FS w b mb lv' F2)/\MkS w b mk n M)
theorem OKF.below{r:Option ((Int×Nat)×List (Nat×Int))}(h:OKF w b mb mk n M r ok v2 m2)(d:bL w w'):OKF w' b mb mk n M r ok v2 m2:=by
 rcases h with h|⟨e,F2,f,⟨lv',g⟩,j⟩
 ·exact pZ h
 ·exact gZ ⟨e,F2,f,⟨lv',g.below d⟩,j.fr (Fr.of_below [] d) sM sM⟩
theorem zMz(h:∃c f,w.heap[k]?=eW (Z c 190 f))(i:Nat)(v:vW):∃c f,(w.setCell ⟨k,i,zX⟩ v).heap[k]?=eW (Z c 190 f):=by
 obtain⟨c,f,h⟩:=h;exact⟨c.setIfInBounds i v,f,by simp[World.setCell,Array.getElem?_modify,h]⟩
theorem OKF.set{r:Option ((Int×Nat)×List (Nat×Int))}(h:OKF w b mb mk n M r ok v2 m2)(X:b<k)(hm:mk<k)(d:∃c f,w.heap[k]?=eW (Z c 190 f))(i:Nat)(u:vW):OKF (w.setCell ⟨k,i,zX⟩ u) b mb mk n M r ok v2 m2:=by
 rcases h with h|⟨N,F2,P,⟨lv',l⟩,R⟩
 ·exact pZ h
 ·obtain⟨c,f,d⟩:=d;have fr:Fr [k] w (w.setCell ⟨k,i,zX⟩ u):=Fr.of_grown (QT _ _ _ _) (λj e=>by cases e;simp);have T:=l.lt;refine gZ ⟨N,F2,P,⟨lv',l.fr fr (by simp;omega) (by simp;omega) (λg e s=>?_)⟩,R.fr fr (by simp;omega) (by simp;omega)⟩;simp at s;subst s;rcases l.own.2 with⟨q,_⟩|⟨K,cap,y,q,_,t,_⟩
  ·rw[q]at e;cases e
  ·rw[q]at e;have z:K=g:=by simpa[Value.ownBlock]using e
   subst z;rw[d]at t;cases t
theorem Qn{d e:wW}(h:bL w d)(f:Fr S d e)(j:∀k∈S,w.heap.size<=k):bL w e :=
 ((Fr.of_below [] h).new f (λk g=>gZ (j k g))).to_below sM
theorem zOG(L:List (Wc.In×List Int))(v:vW)(w:wW)(h:RdC w v L)(hl:L.length<=1000000)(z:0<L.length)(ht:∀x∈L,x.2.length<=1000000)(bT:Wc.plcs rgt L.length 0 L=fW)(bP:∀x∈L,V3 x.1) :
  cW prog 73 #[v] w λe w'=>(∃p,e=rX (uX #[p,Y (Wc.runP Wc.spI 0 L (Wc.sP L.length))]))/\bL w w':=by
 obtain⟨a1,c1,rfl,r1⟩:=h;have HR:Hid (RdC w (U a1 L.length c1) L):=⟨a1,c1,rfl,r1⟩
 have HT:=hid ht;have bZ:=hid bP;clear bP;have b1:Hid (∀(k:Nat)(hk:k<L.length),Wc.plc rgt L.length k (L[k])=fW):=λk hk=>by have:=(Wc.plcs_iff rgt L.length L 0).1 bT k hk;rwa [xZ]at this
 obtain⟨n,hn⟩:=xV L.length
 have HL:=hid hn;rw[hn]at hl z ⊢;obtain⟨q,hq⟩:=xV (Wc.runP Wc.spI 0 L (Wc.sP n))
 have HQ:=hid hq;rw[hq];have HN:=hid (And.intro z hl);obtain⟨i0,bw,bV,bW,bX⟩:=info_parts zKt;have b9:∀w:wW,(Instr.makeMap 183 zX).run prog w=.ok (.map (eW w.heap.size)) (w.alloc (.map #[] 0)):=λw=>by kernel_rfl
 clear r1 ht bT hn hq;go_enter func73,ntmps73;go_upto_region 1 with fail
 go_upto_region 2 with(refine wpList_make_full w rfl (mX 13) (mX 13) 182 rfl w.heap.size 192 i0 _ 3 underlying182 bw bV bW J J _ _ n rfl rfl rfl rfl (by rw[bX];omega) (by unfold maxLen;omega) (eZ _) ?_;intro w2 aH aK)
 have bQ:bL w w2:=⟨aK.os,aK.tape,aK.output,aK.size,λk hk=>aK.block k hk sM⟩
 have bc:w.heap.size<w2.heap.size:=(QL aH (g:=w.heap.size) rfl).2;have s:=QI (QI (cZ _ w2) (.map #[] 0)) (Z #[U (eW ⟨w.heap.size,0,zX⟩) n n,U zX 0 0,.map (eW w2.heap.size)] 188);have bO:=QA bQ s;have pB:=AtL.new1 w2 (.map #[] 0) 188 [U (eW ⟨w.heap.size,0,zX⟩) n n,U zX 0 0,.map (eW w2.heap.size)];have bS:FM ((w2.alloc (.map #[] 0)).alloc (Z #[U (eW ⟨w.heap.size,0,zX⟩) n n,U zX 0 0,.map (eW w2.heap.size)] 188)) w2.heap.size []:=FM.below (w:=w2.alloc (.map #[] 0)) ⟨#[],zAh _ _ _ rfl,rfl⟩ (QI (cZ _ _) _);have aI:Hid (FS ((w2.alloc (.map #[] 0)).alloc (Z #[U (eW ⟨w.heap.size,0,zX⟩) n n,U zX 0 0,.map (eW w2.heap.size)] 188)) (w2.heap.size+1) w2.heap.size (U zX 0 0) []):=⟨pB.2.1 1 _ rfl,pB.2.2 1 sM,⟨rfl,pZ ⟨rfl,rfl⟩⟩,pB.2.1 2 _ rfl,bS,Nat.lt_succ_self _⟩
 have aB:Hid (MkS ((w2.alloc (.map #[] 0)).alloc (Z #[U (eW ⟨w.heap.size,0,zX⟩) n n,U zX 0 0,.map (eW w2.heap.size)] 188)) (w2.heap.size+1) w.heap.size n ((jX n zX).set 0 (eW ((0:Int),(0:Nat))))):=by
  have b6:=aH.cells (g:=w.heap.size) rfl;have aY:∀(j:Nat)(u:vW),(madeCells (gX #[O J 0,O J 0,Y gW]).cells (n*3)).toList[j]?=eW u->w2.cell? ⟨w.heap.size,j,zX⟩=eW u:=by
   intro j u hu;have:=b6 j u hu;rwa [show(⟨w.heap.size,0,zX⟩:dW).add j=⟨w.heap.size,j,zX⟩from by simp[Addr.add];intro h;exact h.symm]at this
  refine⟨pB.2.1 0 _ rfl,λj hj=>?_,λi hi=>?_,sM,sY bc s.size⟩
  ·rw[mk0 n j z];obtain⟨d0,d1,d2⟩:=zRy n j hj;intro r u hu;match r,hu with
   |0,hu=>cases hu;exact QB s (aY _ _ d0)
   |1,hu=>cases hu;exact QB s (aY _ _ d1)
   |2,hu=>cases hu;exact QB s (aY _ _ d2)
  ·have b7:w2.frozen? ⟨w.heap.size,i,zX⟩=gW:=by
    rcases aH.2 with⟨e,_⟩|⟨g,cf,cg,e,_,hg,_,_,hs,_⟩
    ·cases e
    ·simp only[U.injEq,Option.some.injEq,Addr.mk.injEq]at e;obtain⟨⟨e1,-,-⟩,-,-⟩:=e;rw[<-e1]at hg;simp[World.frozen?,hg]
   rw[(Fr.of_below [] s).frozen bc sM];exact b7
 have bJ:=hid (zRg n z);have bG:=hid bO;have bK:=hid bc;clear bQ bc s bO pB bS aH aK bw bV bW bX b9 i0;obtain⟨b,hb⟩:=xV (w2.heap.size+1)
 obtain⟨mb,be⟩:∃b,w2.heap.size=b:=⟨_,rfl⟩
 obtain⟨mk,aG⟩:∃b,w.heap.size=b:=⟨_,rfl⟩
 have d:Hid (mk<mb/\mb+1=b/\w.heap.size=mk):=⟨by rw[<-aG,<-be];exact bK.out,by rw[<-be];exact hb,aG⟩
 generalize((w2.alloc (.map #[] 0)).alloc (Z #[U (eW ⟨w.heap.size,0,zX⟩) n n,U zX 0 0,.map (eW w2.heap.size)] 188))=w0 at*;rw[hb,aG]at aB;rw[hb,be]at aI;simp only[be,aG];simp only[d.out.2.1];clear bK;go_wp2_with fail
 go_loopg [21] n (λgk x wr=>∃(i:Nat)(M:List (Option (Int×Nat)))(F:List (Nat×Int))(lv:vW),x=O J i/\gk=n-i/\i<=n/\Hid (Wc.runP Wc.spI i (L.drop i) (M,F)=q)/\Hid (MkS wr b mk n M)/\Hid (FS wr b mb lv F)/\Hid (PInv i M F)/\Hid (bL w wr))
 case atStart=>exact⟨0,_,[],_,rfl,rfl,qZ _,HQ,aB,aI,bJ,bG⟩
 case round =>
  clear HQ aB aI bJ bG;obtain⟨i,M,F,lv,rfl,hg,hi,HQ,HM,HS,HI,HB⟩:=hrel;by_cases bd:i<n
  ·have b8:(i:Int)<(n:Int):=oM;have ci:J.wrap ((i:Int)+1)=(i:Int)+1:=by rw[jZ];have:=HN.out;omega
   have a9:i<L.length:=by rw[HL.out];exact bd
   have l:=HB.out;have H0:=HR.out;rw[HL.out]at H0;obtain⟨q1,d1,e1,f1⟩:=H0;simp only[U.injEq]at e1;obtain⟨b3,b4,b5⟩:=e1;subst b3;subst b5;clear b4;obtain⟨bb,cd,p,mm,kk,rfl,bE,bi,_⟩:=f1 i a9;obtain⟨y,tl,a2⟩:∃y tl,L[i]=(y,tl):=⟨_,_,rfl⟩
   have bC:=HT.out L[i] (zZ _);have bH:Hid (V3 y):=by have:=bZ.out (L[i]) (zZ _);rw[a2]at this;exact this
   rw[a2]at bC bE bi;have bA:=b1.out i a9;rw[HL.out,a2]at bA;obtain⟨bD,_,bg,bh⟩:=(Wc.plc_iff _ _ _ _).1 bA;have bN:=hid bD;have b2:0<=(Wc.swO y.op y.b).1/\(Wc.swO y.op y.b).1<=1000/\0<=(Wc.swO y.op y.b).2/\(Wc.swO y.op y.b).2<=1:=zQ6 bD;have ah:Hid (∀u1 u2:List Int,onw y.op y.a y.b tl i=(u1,u2)->(∀j∈u1,0<j/\j<(n:Int))/\(∀j∈u2,0<j/\j<(n:Int))/\u1.length<=1000000/\u2.length<=1000000):=by
    intro u1 u2 hu;have bz:=zEn (o:=y.op) (a:=y.a) (b:=y.b) (at':=i) bC;simp only at bg bh;rw[hu]at bg bh bz;exact⟨λj hj=>by have:=bg j hj;omega,λj hj=>by have:=bh j hj;omega,bz.1,bz.2⟩
   have HZ:=hid bi;have aJ:Hid (∀(wa:wW)(cv:vW)(u:List Int)(wb:wW),u≠[]->RdZ wa cv u->Bk wb (U p mm kk) cv->mk<wb.heap.size->∀g,cv.ownBlock=eW g->g≠mk):=by
    intro wa cv u wb ae cc hbk ch g e;rcases hbk with hbk|hbk
    ·subst hbk;have hg:=zQf bi cc ae e;have:=d.out;omega
    ·have:=hbk g e;omega
   have ap:Hid ((match Wc.spI i (y,tl) (M,F)with|none=>gW|some s2=>Wc.runP Wc.spI (i+1) (L.drop (i+1)) s2)=q):=by
    show _=q
    rw[<-HQ.out,vY a9,a2];rfl
   have t1:=QF l bE;have a4:AtL (wr.alloc (Z zeros23 86)) wr.heap.size zeros23.toList:=AtL.new0 wr _ _;have bU:World.there (wr.alloc (Z zeros23 86)) wr.heap.size 0 (QE y (U p mm kk)).toArray.size:=a4.there;clear a4 f1 a2 HQ a9 l bi bE bC bA bD bg bh;go_upto_region 5 with(first|(refine ldQ 86 (mX 24) bb (cd+i*23) (QE y (U p mm kk)) _ t1 underlying86 ?_)|((with_reducible refine stQ 86 (mX 6) (mX 25) wr.heap.size 0 (QE y (U p mm kk)).toArray ?_ ?_ ?_);exact bU;exact JN _ _ _ _))
   have a4:AtL (wr.alloc (Z zeros23 86)) wr.heap.size zeros23.toList:=AtL.new0 wr _ _;have pI:AtL ((wr.alloc (Z zeros23 86)).setCells wr.heap.size 0 (QE y (U p mm kk))) wr.heap.size (QE y (U p mm kk)):=a4.setAll rfl;have a8:bL wr ((wr.alloc (Z zeros23 86)).setCells wr.heap.size 0 (QE y (U p mm kk))):=Ql (QI (cZ _ wr) _) (eZ _) _ 0;have hM:=HM.out.fr (Fr.of_below [] a8) sM sM;have hS:=HS.out.below a8;have l:=QA HB.out a8;have bI:Hid (∀g,lv.ownBlock=eW g->b+1<=g/\g<wr.heap.size):=λg e=>QL HS.out.own e
   have aM:=hid (Q7 HS.out.hd);clear a4 bU t1 HM HS HB a8;generalize(wr.alloc (Z zeros23 86)).setCells wr.heap.size 0 (QE y (U p mm kk))=W4 at*;have c0:=hM.hd;have hr:=hM.at' i bd;cases ar:M.getD i zX with
   |none =>
    have bw:i≠0:=λe=>by rw[e,HI.out.zero]at ar;cases ar
    have bR:(0:Int)<(i:Int):=oM;have e2:W4.cell? ⟨mk,i*3+2,zX⟩=eW (Y gW):=hr 2 (Y gW) (by unfold mkC;rw[ar];rfl);clear hr;go_wp2;go_ret2
    have ag:q=gW:=by
     rw[<-ap.out,JB];simp only[ar]
    exact⟨⟨pX zX,by rw[ag];rfl⟩,by first|exact l|(rw[<-d.out.2.2];exact l)⟩
   |some gg =>
    obtain⟨v,m⟩:=gg;have ai:=hid ar;have a0:W4.cell? ⟨mk,i*3,zX⟩=eW (O J v):=hr 0 (O J v) (by unfold mkC;rw[ar];rfl);have a1:W4.cell? ⟨mk,i*3+1,zX⟩=eW (O J (m:Int)):=hr 1 (O J (m:Int)) (by unfold mkC;rw[ar];rfl);have e2:W4.cell? ⟨mk,i*3+2,zX⟩=eW (Y (decide (i≠0))):=hr 2 (Y (decide (i≠0))) (by unfold mkC;rw[ar];rfl);have ca:(¬(0:Int)<(i:Int)/\W4.cell? ⟨mk,i*3+2,zX⟩=eW (Y gW))\/((0:Int)<(i:Int)/\W4.cell? ⟨mk,i*3+2,zX⟩=eW (Y fW)):=by
     rcases Nat.eq_zero_or_pos i with hz|hz
     ·left
      exact⟨oM,by rw[e2];simp[hz]⟩
     ·right
      exact⟨oM,by rw[e2];simp;omega⟩
    have aB:=hid hM;have aI:=hid hS;clear hr ar e2 hM hS;rcases ca with⟨bR,e2⟩|⟨bR,e2⟩
    all_goals
     go_upto_region 7 with fail
     clear e2;go_upto_region 8 with fail
     have pH:=AtL.new0 W4 190 [O J v,O J (m:Int)];have aX:bL W4 (W4.alloc (Z #[O J v,O J (m:Int)] 190)).drew:=(QI (cZ _ W4) (Z #[O J v,O J (m:Int)] 190)).drew;have z:=(AtL.drew pH).2.1 0 _ rfl;have P:=(AtL.drew pH).2.1 1 _ rfl;have aa:=hid aB.out.mlt;have aR:=hid ((AtL.drew pH).1);have ax:=hid pI.1;replace pI:=AtL.below aX pI
     replace l:=QA l aX
     have aP:=hid (aB.out.fr (Fr.of_below [] aX) sM sM);have aQ:=hid (aI.out.below aX);clear pH aX aB aI a0 a1 c0;refine wp_region_held_drew (S:=λW=>W.rangeAt wr.heap.size 0 (QE y (U p mm kk))/\W.cell? ⟨W4.heap.size,0,zX⟩=eW (O J v)/\W.cell? ⟨W4.heap.size,1,zX⟩=eW (O J (m:Int))) kR ⟨pI.range,z,P⟩ (λt=>?_);generalize(W4.alloc (Z #[O J v,O J (m:Int)] 190)).drew=wc at*;have bM:=HI.out.at' i v m ai.out;have bf:∀k,k∈b::mb::lv.ownBlock.toList->k<wr.heap.size:=by
      intro k hk;have P:=aM.out;have h2:=d.out;simp only[cY,Option.mem_toList]at hk;rcases hk with rfl|rfl|hk
      ·exact P
      ·omega
      ·exact(bI.out k hk).2
     have bB:∀k,k∈b::mb::lv.ownBlock.toList->mk<k:=by
      intro k hk;have h2:=d.out;simp only[cY,Option.mem_toList]at hk;rcases hk with rfl|rfl|hk
      ·omega
      ·omega
      ·have:=(bI.out k hk).1;omega
     have aj:Hid (wr.heap.size∉b::mb::lv.ownBlock.toList/\W4.heap.size∉b::mb::lv.ownBlock.toList/\(∀k,wr.heap.size<=k->k∉b::mb::lv.ownBlock.toList)/\mk∉b::mb::lv.ownBlock.toList/\∀k∈b::mb::lv.ownBlock.toList,w.heap.size<=k) :=
      ⟨λe=>by have:=bf _ e;omega,λe=>by have:=bf _ e;have:=ax.out;omega,λk hk e=>by have:=bf _ e;omega,λe=>by have:=bB _ e;omega,λk hk=>by have:=bB k hk;have:=d.out;omega⟩
     clear bf bB;have a7:Hid (∀wx:wW,FS wx b mb lv F->cW prog 103 #[pX (eW ⟨b,1,zX⟩),inV y (U p mm kk),gX #[O J v,O J (m:Int)]] wx λe w'=>Vz (Vk F y v m) b mb lv wx e w'):=λwx hx=>zGv y (U p mm kk) b mb lv F m v wx hx bM.2.2 (by have:=HI.out.len;have:=HN.out;omega) (by have:=HN.out;omega) oM bH.out
     clear bH;clear bM b2;refine tkQ 0 ?_
     refine tkQ 1 ?_
     refine tkQ 2 ?_
     refine tkH 3 (gX (QE y (U p mm kk)).toArray) rfl (yiQ 86 (mX 6) wr.heap.size 0 (QE y (U p mm kk)) _ (λ_ h=>h.1) underlying86) ?_;try simp only[Act.put,lA,lZ,lS]
     refine tkQ 4 ?_
     refine wpAnyH_ready (rs:=[5,9]) kR sM ?_;refine AllReadyH.cons (atQ rfl) (λK hK=>?_) (AllReadyH.cons (atQ rfl) (λK hK=>?_) AllReadyH.nil)
     ·have CH:=a7.out wc aQ.out;go_simp
      refine CH.mono ?_;intro e w8 hP;obtain⟨v2,m2,ok,rfl,f8,af⟩:=zJb aQ.out hP;replace pI:=pI.fr f8 aj.out.1
      replace z:=f8.cell z aj.out.2.1
      replace P:=f8.cell P aj.out.2.1
      replace l:=Qn l f8 aj.out.2.2.2.2
      have bk:=hid (sY aR.out f8.size);have bj:Hid (OKF w8 b mb mk n M (Vk F y v m) ok v2 m2):=by
       rcases af with h|⟨P,F2,h2,h3,h4⟩
       ·exact pZ h
       ·exact gZ ⟨P,F2,h2,h3,aP.out.call f8 (h4 _ aP.out.hd) aj.out.2.2.2.1⟩
      clear hP af f8 aP aQ CH a7;go_wp2_with fail
      refine hkQ hK ⟨pI.range,z,P⟩ (λt=>?_);clear hK K
      refine tkQ 6 ?_
      refine tkQ 7 ?_
      refine tkQ 8 ?_
      have s:=QI (cZ _ w8) (Z #[O J 0,O J 0] 190);have pK:=AtL.new0 w8 190 [O J 0,O J 0];replace pI:=AtL.below s pI
      replace z:=QB s z
      replace P:=QB s P
      replace l:=QA l s
      have ay:=hid (bj.out.below s);have N:=hid bk.out;have az:∃c f,(w8.alloc (Z #[O J 0,O J 0] 190)).heap[w8.heap.size]?=eW (Z c 190 f):=⟨_,_,zAh _ _ _ rfl⟩
      clear s;refine rdQ 9 (λK hK=>?_);go_simp
      refine hkQ hK ⟨pI.range,z,P⟩ (λt=>?_);clear hK K
      generalize bx:(w8.alloc (Z #[O J 0,O J 0] 190))=wy at*;clear bx;obtain⟨k8,aE⟩:∃k,w8.heap.size=k:=⟨_,rfl⟩
      rw[aE]at pK az N;simp only[aE];clear aE bk bj;have k0:=pK.2.1 0 _ rfl;have k1:=pK.2.1 1 _ rfl;have z0:=pK.2.2 0 sM;have z1:=pK.2.2 1 sM;have aF:wr.heap.size∉[k8]:=by have:=N.out;have:=ax.out;simp;omega
      have an:W4.heap.size∉[k8]:=by have:=N.out;simp;omega
      have T:Fr [k8] wy ((wy.setCell ⟨k8,0,zX⟩ (O J v2)).setCell ⟨k8,1,zX⟩ (O J (m2:Int))):=(Fr.of_grown (QT _ _ _ _) (λj e=>by cases e;simp)).trans (Fr.of_grown (QT _ _ _ _) (λj e=>by cases e;simp));have g0:((wy.setCell ⟨k8,0,zX⟩ (O J v2)).setCell ⟨k8,1,zX⟩ (O J (m2:Int))).cell? ⟨k8,0,zX⟩=eW (O J v2):=by rw[QY _ _ _ dM];exact Q4 k0 _
      have g1:((wy.setCell ⟨k8,0,zX⟩ (O J v2)).setCell ⟨k8,1,zX⟩ (O J (m2:Int))).cell? ⟨k8,1,zX⟩=eW (O J (m2:Int)):=Q4 (by rw[QY _ _ _ dM];exact k1) _;refine rdQ 10 (λK hK=>?_);go_simp
      refine hkQ hK ⟨T.range pI.range aF,T.cell z an,T.cell P an⟩ (λt=>?_);clear hK K
      replace pI:=pI.fr T aF
      replace z:=T.cell z an
      replace P:=T.cell P an
      replace l:=Qn l T (λk hk=>by have:=N.out;have:=aa.out;have:=d.out;simp at hk;omega)
      have br:Hid (OKF ((wy.setCell ⟨k8,0,zX⟩ (O J v2)).setCell ⟨k8,1,zX⟩ (O J (m2:Int))) b mb mk n M (Vk F y v m) ok v2 m2):=(ay.out.set (by have:=N.out;have:=ax.out;have:=aM.out;omega) (by have:=N.out;have:=aa.out;omega) az 0 _).set (by have:=N.out;have:=ax.out;have:=aM.out;omega) (by have:=N.out;have:=aa.out;omega) (zMz az 0 _) 1 _;have bu:=hid (Q7 z);clear k0 k1 z0 z1 aF an T ay az pK;generalize((wy.setCell ⟨k8,0,zX⟩ (O J v2)).setCell ⟨k8,1,zX⟩ (O J (m2:Int)))=wz at*;refine rdQ 11 (λK hK=>?_);go_simp
      refine hkQ hK ⟨pI.range,z,P⟩ (λt=>?_);clear hK K
      refine wpAnyH_done kR ?_ _;clear t;have rI:=pI.range;have OW:=zA2 y p mm kk tl i wz ⟨oM,by have:=HN.out;omega⟩ (HZ.out.below l);obtain⟨u,hu⟩:=xV (onw y.op y.a y.b tl i)
      have HU:=hid hu;rw[hu]at OW;obtain⟨u1,u2⟩:=u;clear hu;go_wp2_with (first|(refine ldQ 86 (mX 6) wr.heap.size 0 (QE y (U p mm kk)) _ rI underlying86 ?_))
      refine OW.mono ?_;rintro e w9 ⟨⟨aU,aD,rfl,a5,a6,aS,aT⟩,X⟩;have aC:=hid (wX aa.out bu.out);replace z:=QB X z
      replace P:=QB X P
      replace g0:=QB X g0
      replace g1:=QB X g1
      replace l:=QA l X
      have Z1:=hid a5;have Z2:=hid a6;have bm:=hid aS;have aL:=hid aT;clear a5 a6 aS aT rI OW pI;rcases br.out with⟨af,bv⟩|⟨af,F2,aZ,⟨lv',aq⟩,al⟩
      ·subst af;go_wp2;go_ret2
       have ag:q=gW:=by
        rw[<-ap.out,JB];simp only[ai.out,bv]
       exact⟨⟨pX zX,by rw[ag];rfl⟩,by first|exact l|(rw[<-d.out.2.2];exact l)⟩
      ·subst af;replace aq:=aq.below X
       replace al:=al.fr (Fr.of_below [] X) sM sM
       have aN:=hid aq;have b0:=hid al;have au:=zBX b mk n M v2 m2 u1 aU w9 al (by have:=d.out;omega) Z1.out (ah.out _ _ HU.out).1 (ah.out _ _ HU.out).2.2.1 HN.out.2 (λae g e=>aJ.out w9 aU u1 wz ae Z1.out bm.out aC.out g e);have ao:=hid aZ;clear aq al aZ X;go_wp2_with fail
       refine au.mono ?_;intro e bF ab;clear au;cases am:Wc.handP (v2,m2) u1 M with
       |none =>
        rw[am]at ab;obtain⟨rfl,R⟩:=ab;replace l:=Qn l R (λk hk=>by have:=d.out;simp at hk;omega)
        go_wp2;go_ret2
        have ag:q=gW:=by
         rw[<-ap.out,JB];simp only[ai.out,ao.out,HU.out,am]
        exact⟨⟨pX zX,by rw[ag];rfl⟩,by first|exact l|(rw[<-d.out.2.2];exact l)⟩
       |some M1 =>
        rw[am]at ab;obtain⟨rfl,aV,R⟩:=ab;have a3:W4.heap.size∉[mk]:=by have:=aa.out;simp;omega
        replace z:=R.cell z a3
        replace P:=R.cell P a3
        replace l:=Qn l R (λk hk=>by have:=d.out;simp at hk;omega)
        have av:=zBX b mk n M1 v m u2 aD bF aV (by have:=d.out;omega) (zMs Z2.out R (λae g e=>by have:=aJ.out w9 aD u2 wz ae Z2.out aL.out aC.out g e;simpa using this)) (ah.out _ _ HU.out).2.1 (ah.out _ _ HU.out).2.2.2 HN.out.2 (λae g e=>aJ.out w9 aD u2 wz ae Z2.out aL.out aC.out g e);have aw:=hid (aN.out.fr R (by have:=d.out;simp;omega) (by have:=d.out;simp;omega) (λg e=>by have:=(QL aN.out.own e).1;have:=d.out;simp;omega));have aA:=hid am;clear aV R am;go_wp2_with fail
        refine av.mono ?_;intro e ce ac;clear av;cases ad:Wc.handP (v,m) u2 M1 with
        |none =>
         rw[ad]at ac;obtain⟨rfl,ak⟩:=ac;replace l:=Qn l ak (λk hk=>by have:=d.out;simp at hk;omega)
         go_wp2;go_ret2
         have ag:q=gW:=by
          rw[<-ap.out,JB];simp only[ai.out,ao.out,HU.out,aA.out,ad]
         exact⟨⟨pX zX,by rw[ag];rfl⟩,by first|exact l|(rw[<-d.out.2.2];exact l)⟩
        |some M2 =>
         rw[ad]at ac;obtain⟨rfl,aW,ak⟩:=ac;replace l:=Qn l ak (λk hk=>by have:=d.out;simp at hk;omega)
         have bs:Hid (Wc.runP Wc.spI (i+1) (L.drop (i+1)) (M2,F2)=q):=by
          show _=q
          rw[<-ap.out,JB];simp only[ai.out,ao.out,HU.out,aA.out,ad]
         have bo:=hid (zDj HI.out ai.out bN.out ao.out aA.out ad (λj hj=>((ah.out _ _ HU.out).1 j hj).1) (λj hj=>((ah.out _ _ HU.out).2.1 j hj).1));have aO:=hid (aw.out.fr ak (by have:=d.out;simp;omega) (by have:=d.out;simp;omega) (λg e=>by have:=(QL aw.out.own e).1;have:=d.out;simp;omega));have bp:=hid aW;have bn:=hid l;clear aW ak ad l z P g0 g1;go_wp2_with fail
         go_roundg (n-(i+1))
         case rel=>exact⟨i+1,M2,F2,lv',sM,rfl,bd,bs,bp,aO,bo,bn⟩
         case measure=>omega
     ·have s:=QI (cZ _ wc) (Z #[O J 0,O J 0] 190);have pK:=AtL.new0 wc 190 [O J 0,O J 0];replace pI:=AtL.below s pI
      replace z:=QB s z
      replace P:=QB s P
      replace l:=QA l s
      have bt:=hid (aQ.out.below s);have bq:=hid (aP.out.fr (Fr.of_below [] s) sM sM);have N:=hid aR.out;have bl:(wc.alloc (Z #[O J 0,O J 0] 190)).heap[wc.heap.size]?=eW (Z #[O J 0,O J 0] 190 (0,0)):=zAh _ _ _ rfl;clear s aQ aP;go_simp
      refine hkQ hK ⟨pI.range,z,P⟩ (λt=>?_);clear hK K
      generalize bx:(wc.alloc (Z #[O J 0,O J 0] 190))=wb at*;clear bx;obtain⟨k8,aE⟩:∃k,wc.heap.size=k:=⟨_,rfl⟩
      rw[aE]at pK bl N;simp only[aE];clear aE aR;refine rdQ 5 (λK hK=>?_);have CH:=a7.out wb bt.out;go_simp
      refine CH.mono ?_;intro e w8 hP;obtain⟨v2,m2,ok,rfl,f8,af⟩:=zJb bt.out hP;replace pI:=pI.fr f8 aj.out.1
      replace z:=f8.cell z aj.out.2.1
      replace P:=f8.cell P aj.out.2.1
      replace l:=Qn l f8 aj.out.2.2.2.2
      have bY:k8∉b::mb::lv.ownBlock.toList:=aj.out.2.2.1 k8 (by have:=N.out;have:=ax.out;omega);have az:∃c f,w8.heap[k8]?=eW (Z c 190 f):=⟨_,_,(f8.block k8 pK.1 bY).trans bl⟩
      replace pK:=pK.fr f8 bY
      have ay:Hid (OKF w8 b mb mk n M (Vk F y v m) ok v2 m2):=by
       rcases af with h|⟨P,F2,h2,h3,h4⟩
       ·exact pZ h
       ·exact gZ ⟨P,F2,h2,h3,bq.out.call f8 (h4 _ bq.out.hd) aj.out.2.2.2.1⟩
      clear hP af f8 bq bt CH a7;go_wp2_with fail
      refine hkQ hK ⟨pI.range,z,P⟩ (λt=>?_);clear hK K
      refine tkQ 6 ?_
      refine tkQ 7 ?_
      refine tkQ 8 ?_
      have k0:=pK.2.1 0 _ rfl;have k1:=pK.2.1 1 _ rfl;have z0:=pK.2.2 0 sM;have z1:=pK.2.2 1 sM;have aF:wr.heap.size∉[k8]:=by have:=N.out;have:=ax.out;simp;omega
      have an:W4.heap.size∉[k8]:=by have:=N.out;simp;omega
      have T:Fr [k8] w8 ((w8.setCell ⟨k8,0,zX⟩ (O J v2)).setCell ⟨k8,1,zX⟩ (O J (m2:Int))):=(Fr.of_grown (QT _ _ _ _) (λj e=>by cases e;simp)).trans (Fr.of_grown (QT _ _ _ _) (λj e=>by cases e;simp));have g0:((w8.setCell ⟨k8,0,zX⟩ (O J v2)).setCell ⟨k8,1,zX⟩ (O J (m2:Int))).cell? ⟨k8,0,zX⟩=eW (O J v2):=by rw[QY _ _ _ dM];exact Q4 k0 _
      have g1:((w8.setCell ⟨k8,0,zX⟩ (O J v2)).setCell ⟨k8,1,zX⟩ (O J (m2:Int))).cell? ⟨k8,1,zX⟩=eW (O J (m2:Int)):=Q4 (by rw[QY _ _ _ dM];exact k1) _;refine rdQ 10 (λK hK=>?_);go_simp
      refine hkQ hK ⟨T.range pI.range aF,T.cell z an,T.cell P an⟩ (λt=>?_);clear hK K
      replace pI:=pI.fr T aF
      replace z:=T.cell z an
      replace P:=T.cell P an
      replace l:=Qn l T (λk hk=>by have:=N.out;have:=aa.out;have:=d.out;simp at hk;omega)
      have br:Hid (OKF ((w8.setCell ⟨k8,0,zX⟩ (O J v2)).setCell ⟨k8,1,zX⟩ (O J (m2:Int))) b mb mk n M (Vk F y v m) ok v2 m2):=(ay.out.set (by have:=N.out;have:=ax.out;have:=aM.out;omega) (by have:=N.out;have:=aa.out;omega) az 0 _).set (by have:=N.out;have:=ax.out;have:=aM.out;omega) (by have:=N.out;have:=aa.out;omega) (zMz az 0 _) 1 _;have bu:=hid (Q7 z);clear k0 k1 z0 z1 aF an T ay az pK;generalize((w8.setCell ⟨k8,0,zX⟩ (O J v2)).setCell ⟨k8,1,zX⟩ (O J (m2:Int)))=wz at*;refine rdQ 11 (λK hK=>?_);go_simp
      refine hkQ hK ⟨pI.range,z,P⟩ (λt=>?_);clear hK K
      refine wpAnyH_done kR ?_ _;clear t;have rI:=pI.range;have OW:=zA2 y p mm kk tl i wz ⟨oM,by have:=HN.out;omega⟩ (HZ.out.below l);obtain⟨u,hu⟩:=xV (onw y.op y.a y.b tl i)
      have HU:=hid hu;rw[hu]at OW;obtain⟨u1,u2⟩:=u;clear hu;go_wp2_with (first|(refine ldQ 86 (mX 6) wr.heap.size 0 (QE y (U p mm kk)) _ rI underlying86 ?_))
      refine OW.mono ?_;rintro e w9 ⟨⟨aU,aD,rfl,a5,a6,aS,aT⟩,X⟩;have aC:=hid (wX aa.out bu.out);replace z:=QB X z
      replace P:=QB X P
      replace g0:=QB X g0
      replace g1:=QB X g1
      replace l:=QA l X
      have Z1:=hid a5;have Z2:=hid a6;have bm:=hid aS;have aL:=hid aT;clear a5 a6 aS aT rI OW pI;rcases br.out with⟨af,bv⟩|⟨af,F2,aZ,⟨lv',aq⟩,al⟩
      ·subst af;go_wp2;go_ret2
       have ag:q=gW:=by
        rw[<-ap.out,JB];simp only[ai.out,bv]
       exact⟨⟨pX zX,by rw[ag];rfl⟩,by first|exact l|(rw[<-d.out.2.2];exact l)⟩
      ·subst af;replace aq:=aq.below X
       replace al:=al.fr (Fr.of_below [] X) sM sM
       have aN:=hid aq;have b0:=hid al;have au:=zBX b mk n M v2 m2 u1 aU w9 al (by have:=d.out;omega) Z1.out (ah.out _ _ HU.out).1 (ah.out _ _ HU.out).2.2.1 HN.out.2 (λae g e=>aJ.out w9 aU u1 wz ae Z1.out bm.out aC.out g e);have ao:=hid aZ;clear aq al aZ X;go_wp2_with fail
       refine au.mono ?_;intro e bF ab;clear au;cases am:Wc.handP (v2,m2) u1 M with
       |none =>
        rw[am]at ab;obtain⟨rfl,R⟩:=ab;replace l:=Qn l R (λk hk=>by have:=d.out;simp at hk;omega)
        go_wp2;go_ret2
        have ag:q=gW:=by
         rw[<-ap.out,JB];simp only[ai.out,ao.out,HU.out,am]
        exact⟨⟨pX zX,by rw[ag];rfl⟩,by first|exact l|(rw[<-d.out.2.2];exact l)⟩
       |some M1 =>
        rw[am]at ab;obtain⟨rfl,aV,R⟩:=ab;have a3:W4.heap.size∉[mk]:=by have:=aa.out;simp;omega
        replace z:=R.cell z a3
        replace P:=R.cell P a3
        replace l:=Qn l R (λk hk=>by have:=d.out;simp at hk;omega)
        have av:=zBX b mk n M1 v m u2 aD bF aV (by have:=d.out;omega) (zMs Z2.out R (λae g e=>by have:=aJ.out w9 aD u2 wz ae Z2.out aL.out aC.out g e;simpa using this)) (ah.out _ _ HU.out).2.1 (ah.out _ _ HU.out).2.2.2 HN.out.2 (λae g e=>aJ.out w9 aD u2 wz ae Z2.out aL.out aC.out g e);have aw:=hid (aN.out.fr R (by have:=d.out;simp;omega) (by have:=d.out;simp;omega) (λg e=>by have:=(QL aN.out.own e).1;have:=d.out;simp;omega));have aA:=hid am;clear aV R am;go_wp2_with fail
        refine av.mono ?_;intro e ce ac;clear av;cases ad:Wc.handP (v,m) u2 M1 with
        |none =>
         rw[ad]at ac;obtain⟨rfl,ak⟩:=ac;replace l:=Qn l ak (λk hk=>by have:=d.out;simp at hk;omega)
         go_wp2;go_ret2
         have ag:q=gW:=by
          rw[<-ap.out,JB];simp only[ai.out,ao.out,HU.out,aA.out,ad]
         exact⟨⟨pX zX,by rw[ag];rfl⟩,by first|exact l|(rw[<-d.out.2.2];exact l)⟩
        |some M2 =>
         rw[ad]at ac;obtain⟨rfl,aW,ak⟩:=ac;replace l:=Qn l ak (λk hk=>by have:=d.out;simp at hk;omega)
         have bs:Hid (Wc.runP Wc.spI (i+1) (L.drop (i+1)) (M2,F2)=q):=by
          show _=q
          rw[<-ap.out,JB];simp only[ai.out,ao.out,HU.out,aA.out,ad]
         have bo:=hid (zDj HI.out ai.out bN.out ao.out aA.out ad (λj hj=>((ah.out _ _ HU.out).1 j hj).1) (λj hj=>((ah.out _ _ HU.out).2.1 j hj).1));have aO:=hid (aw.out.fr ak (by have:=d.out;simp;omega) (by have:=d.out;simp;omega) (λg e=>by have:=(QL aw.out.own e).1;have:=d.out;simp;omega));have bp:=hid aW;have bn:=hid l;clear aW ak ad l z P g0 g1;go_wp2_with fail
         go_roundg (n-(i+1))
         case rel=>exact⟨i+1,M2,F2,lv',sM,rfl,bd,bs,bp,aO,bo,bn⟩
         case measure=>omega
  ·have b8:¬(i:Int)<(n:Int):=oM;have cb:Hid (fW=q):=by
    show fW=q
    rw[<-HQ.out,kY (by rw[HL.out];omega)];rfl
   go_wp2;go_ret2
   exact⟨⟨_,by rw[<-cb.out];rfl⟩,by first|exact HB.out|(rw[<-d.out.2.2];exact HB.out)⟩
theorem zGY(L:List (Wc.In×List Int))(v:vW)(w:wW)(h:RdC w v L)(T:L.length<=1000000)(X:∀x∈L,x.2.length<=1000000/\Wt.FitV x.1.v)(hN:NmAt w)(g:∀x∈L,zIU x) :
  CR 46 #[v] w (O J (if Wc.chkP rgt L=fW then 0 else 85)):=by
 have s:=zGh L v w h T X hN g;have j:=λf (N:bL w f) (h0:0<L.length) (hp:Wc.plcs rgt L.length 0 L=fW)=>zOG L v f (h.below N) T h0 (λx hx=>(X x hx).1) hp (λx hx=>(g x hx).1)
 clear g;have R:Wc.chkP rgt L=(Wc.plcs rgt L.length 0 L&&(decide (0<L.length)&&Wc.runP Wc.spI 0 L (Wc.sP L.length))):=rfl;obtain⟨q1,t⟩:∃q,Wc.plcs rgt L.length 0 L=q:=⟨_,rfl⟩
 obtain⟨q2,u⟩:∃q,decide (0<L.length)=q:=⟨_,rfl⟩
 obtain⟨q3,K⟩:∃q,Wc.runP Wc.spI 0 L (Wc.sP L.length)=q:=⟨_,rfl⟩
 rw[t,u,K]at R;rw[t,u]at s;rw[R];rw[t,K]at j;have H2:=hid u;clear R t u K h X hN T;cases q1 with
 |false =>
  clear j;go_enter func46,ntmps46;go_wp2_with fail
  refine s.mono ?_;rintro e f ⟨rfl,d⟩;go_wp2;go_ret;exact⟨sM,d⟩
 |true =>
  cases q2 with
  |false =>
   clear j;go_enter func46,ntmps46;go_wp2_with fail
   refine s.mono ?_;rintro e f ⟨rfl,d⟩;go_wp2;go_ret;exact⟨sM,d⟩
  |true =>
   have l:=λf N=>j f N (of_decide_eq_true H2.out) rfl
   have y:=hid l;clear j l;go_enter func46,ntmps46;go_wp2_with fail
   refine s.mono ?_;rintro e f ⟨rfl,d⟩;have z:=y.out f d;go_wp2_with fail
   refine z.mono ?_;rintro e w2 ⟨⟨p,rfl⟩,P⟩;have hB:=QA d P;cases q3
   ·go_wp2;go_ret;exact⟨sM,hB⟩
   ·go_wp2;go_ret;exact⟨sM,hB⟩
def RdP(A:List Wpl.Ar)(w:wW)(e:Ending)(w':wW):Prop:=∃r,e=rX r/\RdA w' r A/\(∀g,r.ownBlock=eW g->w.heap.size<=g)
theorem RdP.one{W:wW}{x:Wpl.Ar}(l:w.heap.size<=W.heap.size):RdP [x] w (rX (U (eW ⟨W.heap.size,0,zX⟩) 1 1)) (W.alloc (Z (J4 x).toArray 83)) :=
 ⟨_,rfl,RdA.at0 (A:=[x]) (λj u d=>(AtL.new0 W 83 (J4 x)).2.1 j u (by simpa[JQ]using d)),λg e=>by
  have f:W.heap.size=g:=by simpa[Value.ownBlock]using e
  omega⟩
theorem zJG(x:Wc.In)(tv:vW)(w:wW):cW prog 47 #[gX (QE x tv).toArray] w λe w'=>RdP (rdA x) w e w'/\bL w w':=by
 have ON:=zGm x.ce.s x.ce.r x.ce.c;have t:=hid ON;clear ON;have T:=QI (cZ _ w) (Z (QE x tv).toArray 86);have p:=AtL.new0 w 86 (QE x tv);have c0:=p.2.1 0 _ rfl;obtain⟨q,hq⟩:=xV (rdA x)
 have z:=hid hq;rw[hq];clear hq;go_enter func47,ntmps47;go_upto_region 1 with fail
 generalize(w.alloc (Z (QE x tv).toArray 86))=W at*;have aa:=hid T.size;by_cases y:x.op=2
 ·have ah:(x.op == 2)=fW:=by simp[y]
  have K:Hid (q=[Vm x.ce.s x.ce.r x.ce.c]):=by show _=_;rw[<-z.out];simp[rdA,y]
  have c9:=p.2.1 9 _ rfl;have ae:=p.2.1 10 _ rfl;have af:=p.2.1 11 _ rfl;have ON:=t.out W;generalize Vm x.ce.s x.ce.r x.ce.c=l at*;clear p y t z;go_wp2_with fail
  refine ON.mono ?_;rintro e w1 ⟨rfl,ac⟩;have ab:=QA T ac;have ad:=QI (cZ _ w1) (Z (J4 l).toArray 83);have X:=AtL.new0 w1 83 (J4 l);have q0:=X.2.1 0 _ rfl;have q1:=X.2.1 1 _ rfl;have q2:=X.2.1 2 _ rfl;have q3:=X.2.1 3 _ rfl;have q4:=X.2.1 4 _ rfl;have N:=QA ab ad;clear X ad ON T ac c0 c9 ae af;go_upto_region 4 with fail
  generalize(w1.alloc (Z (J4 l).toArray 83))=W2 at*;have d:Hid (bL w (W2.alloc (Z (J4 l).toArray 83))):=QI N _;have f:Hid (RdP [l] w (rX (U (eW ⟨W2.heap.size,0,zX⟩) 1 1)) (W2.alloc (Z (J4 l).toArray 83))):=RdP.one N.size;clear N ab;go_wp2;go_ret;exact⟨by rw[K.out];exact f.out,d.out⟩
 ·have ah:(x.op == 2)=gW:=by simp[y]
  by_cases P:x.op=8\/x.op=11
  ·have K:Hid (q=[x.ar]):=by show _=_;rw[<-z.out];simp[rdA,y,P]
   have q0:=p.2.1 12 _ rfl;have q1:=p.2.1 13 _ rfl;have q2:=p.2.1 14 _ rfl;have q3:=p.2.1 15 _ rfl;have q4:=p.2.1 16 _ rfl;have d:Hid (bL w (W.alloc (Z (J4 x.ar).toArray 83))):=QI T _;have f:Hid (RdP [x.ar] w (rX (U (eW ⟨W.heap.size,0,zX⟩) 1 1)) (W.alloc (Z (J4 x.ar).toArray 83))):=RdP.one aa.out;have hc:((x.op == 8)=fW)\/((x.op == 8)=gW/\(x.op == 11)=fW):=by
    rcases P with h|h
    ·left;simp[h]
    ·right;simp[h]
   clear p P y t z;rcases hc with e8|⟨e8,ag⟩
   ·go_wp2;go_ret;exact⟨by rw[K.out];exact f.out,d.out⟩
   ·go_wp2;go_ret;exact⟨by rw[K.out];exact f.out,d.out⟩
  ·have e8:(x.op == 8)=gW:=by simp;omega
   have ag:(x.op == 11)=gW:=by simp;omega
   by_cases R:x.op=9
   ·have K:Hid (q=[x.ar,x.pr]):=by show _=_;rw[<-z.out];simp[rdA,R]
    have e9:(x.op == 9)=fW:=by simp[R]
    have q0:=p.2.1 12 _ rfl;have q1:=p.2.1 13 _ rfl;have q2:=p.2.1 14 _ rfl;have q3:=p.2.1 15 _ rfl;have q4:=p.2.1 16 _ rfl;have r0:=p.2.1 17 _ rfl;have r1:=p.2.1 18 _ rfl;have r2:=p.2.1 19 _ rfl;have r3:=p.2.1 20 _ rfl;have r4:=p.2.1 21 _ rfl;have d:Hid (bL w (W.alloc (Z (J4 x.ar++J4 x.pr).toArray 83))):=QI T _;have f:Hid (RdP [x.ar,x.pr] w (rX (U (eW ⟨W.heap.size,0,zX⟩) 2 2)) (W.alloc (Z (J4 x.ar++J4 x.pr).toArray 83))) :=
     ⟨_,rfl,RdA.at0 (A:=[x.ar,x.pr]) (λj u hu=>(AtL.new0 W 83 (J4 x.ar++J4 x.pr)).2.1 j u (by simpa[JQ]using hu)),λg e=>by
      have e2:W.heap.size=g:=by simpa[Value.ownBlock]using e
      have:=aa.out;omega⟩
    clear p P y R t z;go_wp2;go_ret;exact⟨by rw[K.out];exact f.out,d.out⟩
   ·have K:Hid (q=[]):=by show _=_;rw[<-z.out];simp[rdA,y,P,R]
    have e9:(x.op == 9)=gW:=by simp[R]
    clear p P y R t z;go_wp2;go_ret;exact⟨by rw[K.out];exact⟨_,rfl,RdA.nil _,λg e=>by cases e⟩,T⟩
def usA(L:List (Wc.In×List Int)):List Wpl.Ar:=if Wc.chkP rgt L=fW then ddA [] (VR L)else[]
theorem zLK(L:List (Wc.In×List Int))(v:vW)(w:wW)(h:RdC w v L)(hl:L.length<=1000000)(ht:∀x∈L,x.2.length<=1000000/\Wt.FitV x.1.v)(hN:NmAt w)(br:∀x∈L,zIU x) :
  cW prog 32 #[v] w λe w'=>(∃r B,e=rX r/\OwnA w' B r (usA L)/\w.heap.size<=B)/\bL w w':=by
 have CK:=zGY L v w h hl ht hN br;clear br;obtain⟨a1,c1,rfl,r1⟩:=h;have HR:Hid (RdC w (U a1 L.length c1) L):=⟨a1,c1,rfl,r1⟩
 obtain⟨n,hn⟩:=xV L.length
 have HL:=hid hn;have HN:Hid (n<=1000000):=by show n<=_;omega
 rw[hn]at CK ⊢;have bY:∀w:wW,(Instr.makeMap 102 zX).run prog w=.ok (.map (eW w.heap.size)) (w.alloc (.map #[] 0)):=λw=>by kernel_rfl
 obtain⟨qc,aR⟩:∃b,Wc.chkP rgt L=b:=⟨_,rfl⟩
 have HU:Hid (usA L=if qc=fW then ddA [] (VR L)else[]):=by show _=_;rw[<-aR];rfl
 rw[aR]at CK;obtain⟨us,bA⟩:∃u,usA L=u:=⟨_,rfl⟩
 rw[bA]at HU ⊢;clear aR bA r1 hl ht hN hn;cases qc with
 |false =>
  have HE:=HU;go_enter func32,ntmps32;go_wp2_with fail
  refine CK.mono ?_;rintro e w1 ⟨rfl,af⟩;go_wp2;go_ret;exact⟨by rw[HE.out];exact⟨_,_,rfl,OwnA.nil _ w.heap.size,eZ _⟩,af⟩
 |true =>
  have HE:Hid (us=ddA [] (VR L)):=HU;clear HU;go_enter func32,ntmps32;go_wp2_with fail
  refine CK.mono ?_;rintro e w1 ⟨rfl,af⟩;go_upto_region 5 with fail
  have bs:=QI (cZ _ w1) (.map #[] 0);have ay:=hid (QA af bs);have aC:Hid (AM (w1.alloc (.map #[] 0)) w1.heap.size []):=⟨#[],zAh _ _ _ rfl,rfl⟩
  have a6:=hid af.size;have aj:Hid (w1.heap.size<(w1.alloc (.map #[] 0)).heap.size):=zMm _ _;clear CK bs af bY;generalize(w1.alloc (.map #[] 0))=w2 at*;obtain⟨mb,aP⟩:∃k,w1.heap.size=k:=⟨_,rfl⟩
  rw[aP]at aC a6 aj;simp only[aP];clear aP;have aF:Hid (OwnA w2 w2.heap.size (U zX 0 0) (ddA [] (VR (L.take 0)))):=by show OwnA _ _ _ _;rw[vX];exact OwnA.nil _ _
  have aq:Hid (AM w2 mb (ddA [] (VR (L.take 0)))):=by show AM _ _ _;rw[vX];exact aC.out
  obtain⟨B,bp⟩:∃b,w2.heap.size=b:=⟨_,rfl⟩
  rw[bp]at aF aj;have ab:Hid (B<=w2.heap.size/\w.heap.size<=B/\mb<B):=⟨oM,by have:=ay.out.size;omega,aj.out⟩
  clear aC bp aj;go_wp2_with fail
  go_loopg [3,17] n (λgk u3 u17 wr=>∃(i:Nat)(lv:vW),lv=u3/\u17=O J i/\gk=n-i/\i<=n/\Hid (bL w wr)/\Hid (OwnA wr B lv (ddA [] (VR (L.take i))))/\Hid (AM wr mb (ddA [] (VR (L.take i))))/\Hid (B<=wr.heap.size))
  case atStart=>exact⟨0,_,rfl,rfl,rfl,qZ _,ay,aF,aq,ab.out.1⟩
  case round =>
   clear ay aF aq;obtain⟨i,lv,rfl,rfl,hg,hi,HB,HO,HM,a0⟩:=hrel;by_cases bx:i<n
   ·have bX:(i:Int)<(n:Int):=oM;have b1:(0:Int)<=(i:Int):=oM;have b4:J.wrap ((i:Int)+1)=(i:Int)+1:=by rw[jZ];have:=HN.out;omega
    have bv:i<L.length:=by rw[HL.out];exact bx
    have H0:=HR.out.below HB.out;obtain⟨q1,d1,e1,f1⟩:=H0;simp only[U.injEq]at e1;obtain⟨bo,bS,bT⟩:=e1;obtain⟨bb,bZ,p,mm,kk,ee,t1,_,_⟩:=f1 i bv;rw[ee]at bo;subst bo;obtain⟨y,tl,aT⟩:∃y tl,L[i]=(y,tl):=⟨_,_,rfl⟩
    rw[aT]at t1;have bm:Hid (VR (L.take (i+1))=VR (L.take i)++rdA y):=by show _=_;rw[zJ0 bv,aT]
    have aB:Hid ((ddA [] (VR (L.take i))).length<=2000000):=by show _<=_;have h1:=zDD (VR (L.take i)) [];have h2:=zCc (L.take i);have:=HN.out;have:=HL.out;simp at h1 h2;omega
    obtain⟨K,ai⟩:∃c,(ddA [] (VR (L.take i)))=c:=⟨_,rfl⟩
    have bE:=hid ai;rw[ai]at HO HM aB;have bz:World.there (wr.alloc (Z zeros23 86)) wr.heap.size 0 (QE y (U p mm kk)).toArray.size:=(AtL.new0 wr _ _:AtL (wr.alloc (Z zeros23 86)) wr.heap.size zeros23.toList).there;clear f1 aT ee bS bT ai;go_upto_region 8 with(first|(refine ldQ 86 (mX 19) bb (bZ+i*23) (QE y (U p mm kk)) _ t1 underlying86 ?_)|((with_reducible refine stQ 86 (mX 6) (mX 20) wr.heap.size 0 (QE y (U p mm kk)).toArray ?_ ?_ ?_);exact bz;exact JN _ _ _ _))
    have pI:AtL ((wr.alloc (Z zeros23 86)).setCells wr.heap.size 0 (QE y (U p mm kk))) wr.heap.size (QE y (U p mm kk)):=(AtL.new0 wr _ _:AtL (wr.alloc (Z zeros23 86)) wr.heap.size zeros23.toList).setAll rfl;have ah:bL wr ((wr.alloc (Z zeros23 86)).setCells wr.heap.size 0 (QE y (U p mm kk))):=Ql (QI (cZ _ wr) _) (eZ _) _ 0;have aV:=hid (QA HB.out ah);have aD:=hid (HM.out.below ah);have aG:=hid (HO.out.below ah);have bh:=hid (nZ a0.out ah.size);clear bz t1 ah HM HB HO a0;generalize((wr.alloc (Z zeros23 86)).setCells wr.heap.size 0 (QE y (U p mm kk)))=w3 at*;obtain⟨X,hX⟩:∃k,wr.heap.size=k:=⟨_,rfl⟩
    rw[hX]at pI;simp only[hX];clear hX;have rI:=pI.range;have RL:=zJG y (U p mm kk) w3;go_wp2_with (first|(refine ldQ 86 (mX 6) X 0 (QE y (U p mm kk)) _ rI underlying86 ?_))
    refine RL.mono ?_;rintro e w4 ⟨⟨r,rfl,hr,aM⟩,ag⟩;have aW:=hid (QA aV.out ag);have a3:=hid (aD.out.below ag);have a7:=hid (aG.out.below ag);have bi:=hid (nZ bh.out ag.size);have bl:Hid (∀g k,r.ownBlock=eW g->lv.ownBlock=eW k->k≠g):=λg k e1 e2=>by have:=aM g e1;have:=(aG.out.blk e2).2;omega
    have bJ:Hid (∀g,r.ownBlock=eW g->mb≠g):=λg e=>by have:=aM g e;have:=aD.out.lt;omega
    obtain⟨A,hA⟩:=xV (rdA y)
    have ax:Hid (A.length<=2):=by show _<=_;rw[<-hA];exact zJP y
    rw[hA]at hr bm;obtain⟨m,hm⟩:=xV A.length
    have aa:=hid hm;have au:=hid hr;obtain⟨ar,cr,er,_⟩:=hr;rw[hm]at er;subst er;have bf:=hid au.out;have a2:Hid (ddA K (A.drop 0)=ddA K A):=rfl;clear RL rI pI ag aV aD aG bh au hA hm aM;go_wp2_with fail
    go_loopg [3,24] m (λgk u3 u24 wr=>∃(j:Nat)(T:vW)(d:List Wpl.Ar),T=u3/\u24=O J j/\gk=m-j/\j<=m/\Hid (bL w wr)/\Hid (OwnA wr B T d)/\Hid (AM wr mb d)/\Hid (B<=wr.heap.size)/\Hid (ddA d (A.drop j)=ddA K A)/\Hid (d.length<=2000000+j)/\Hid (j<m->RdA wr (U ar m cr) A/\(j=0->∀g k,(U ar m cr).ownBlock=eW g->T.ownBlock=eW k->k≠g)))
    case atStart=>exact⟨0,_,K,rfl,rfl,rfl,qZ _,aW,a7,a3,bi,a2,aB,(λ_=>⟨bf.out,λ_=>bl.out⟩:0<m->RdA w4 (U ar m cr) A/\(0=0->∀g k,(U ar m cr).ownBlock=eW g->lv.ownBlock=eW k->k≠g))⟩
    case round =>
     clear aW a7 a3 bi a2 aB bf bl;obtain⟨j,T,d,rfl,rfl,b0,hj,az,ad,ac,aI,l,t,aH⟩:=hrel;by_cases ap:j<m
     ·have bW:(j:Int)<(m:Int):=oM;have b3:(0:Int)<=(j:Int):=oM;have b5:J.wrap ((j:Int)+1)=(j:Int)+1:=by rw[jZ];have:=ax.out;have:=aa.out;omega
      have aN:j<A.length:=by rw[aa.out];exact ap
      obtain⟨aS,av⟩:=aH.out ap;obtain⟨z,hz⟩:=xV (A[j])
      have bR:∃bq oq,ar=eW ⟨bq,oq,zX⟩/\wr.rangeAt bq (oq+j*5) (J4 z):=by
       obtain⟨x1,x2,x3,x4⟩:=aS;obtain⟨x5,x6,x7,x8⟩:=x4 j aN;simp only[U.injEq]at x3;rw[hz]at x8;exact⟨x5,x6,by rw[x3.1];exact x7,x8⟩
      have bg:=hid aS;have bO:=hid av;obtain⟨bq,oq,rfl,cJ⟩:=bR;have bH:Hid (A.drop j=z::A.drop (j+1)):=by show _=_;rw[vY aN,hz]
      rw[bH.out]at l;clear hz aN aS av aH;have q0:wr.cell? ⟨bq,oq+j*5,zX⟩=eW (O J z.s):=by have:=cJ 0 _ rfl;simpa using this
      have q1:=cJ 1 _ rfl;have q2:=cJ 2 _ rfl;have q3:=cJ 3 _ rfl;have q4:=cJ 4 _ rfl;have P:=QI (cZ _ wr) (Z (J4 z).toArray 83);have p6:=AtL.new0 wr 83 (J4 z);have aX:=hid (QA az.out P);have aO:AM (wr.alloc (Z (J4 z).toArray 83)) mb d:=ac.out.below P;have a8:=hid (ad.out.below P);have bj:=hid (nZ aI.out P.size);have bd:=hid (bg.out.below P);have aU:Hid (mb<wr.heap.size/\∀k,T.ownBlock=eW k->k<wr.heap.size):=⟨ac.out.lt,λk e=>(ad.out.blk e).2⟩
      clear P cJ az ac ad aI bg;go_upto_region 11 with fail
      generalize(wr.alloc (Z (J4 z).toArray 83))=w6 at*;obtain⟨AB,aL⟩:∃k,wr.heap.size=k:=⟨_,rfl⟩
      rw[aL]at p6 aU;simp only[aL];clear aL q0 q1 q2 q3 q4;have q0:=p6.2.1 0 _ rfl;have q1:=p6.2.1 1 _ rfl;have q2:=p6.2.1 2 _ rfl;have q3:=p6.2.1 3 _ rfl;have q4:=p6.2.1 4 _ rfl;have bw:=zQy aO z;obtain⟨qa,aQ⟩:∃b,d.any (λy=>Jl y z)=b:=⟨_,rfl⟩
      have am:=hid aQ;rw[aQ]at bw;clear aQ;go_upto_region 12 with fail
      have q:=QI (cZ _ w6) (Z #[] 104);have p7:=AtL.below q p6;have aA:=hid (QA aX.out q);have aE:=hid (aO.below q);have ak:=hid (a8.out.below q);have aJ:Hid (B<=(w6.alloc (Z #[] 104)).heap.size):=nZ bj.out q.size;have an:Hid (RdA (w6.alloc (Z #[] 104)) (U (eW ⟨bq,oq,zX⟩) m cr) A):=bd.out.below q;clear bw q0 q1 q2 q3 q4 q p6 aO aX a8 bj bd;generalize(w6.alloc (Z #[] 104))=w7 at*;cases qa with
      |true =>
       have bG:Hid (ddA d (A.drop (j+1))=ddA K A):=by show _=_;rw[<-l.out];simp only[ddA,am.out,if_true]
       have bC:Hid (d.length<=2000000+(j+1)):=by show _<=_;have:=t.out;omega
       have ao:Hid (j+1<m->RdA w7 (U (eW ⟨bq,oq,zX⟩) m cr) A/\(j+1=0->∀g k,(U (eW ⟨bq,oq,zX⟩) m cr).ownBlock=eW g->T.ownBlock=eW k->k≠g)):=λ_=>⟨an.out,λh=>by omega⟩
       clear l t an p7;go_wp2_with fail
       go_roundg (m-(j+1))
       case rel=>exact⟨j+1,T,d,rfl,sM,rfl,ap,aA,ak,aE,aJ,bG,bC,ao⟩
       case measure=>omega
      |false =>
       have q0:=p7.2.1 0 _ rfl;have q1:=p7.2.1 1 _ rfl;have q2:=p7.2.1 2 _ rfl;have q3:=p7.2.1 3 _ rfl;have q4:=p7.2.1 4 _ rfl;go_upto_region 13 with fail
       go_upto_region 14 with(first|(refine zDT rfl (mX 35) (mX 36) (mX 37) rfl mb rfl z rfl rfl d aE.out am.out ?_;intro f bn bt))
       have N:Fr [mb] w7 f:=Fr.of_grown bt (λk e=>by cases e;simp);have p8:=p7.fr N (by have:=aU.out;simp;omega);have aY:Hid (bL w f):=Qn aA.out N (λk hk=>by have:=a6.out;simp at hk;omega);have a9:Hid (OwnA f B T d):=QZ N ak.out (λg e=>by have:=(ak.out.blk e).1;have:=ab.out;simp;omega);have bk:Hid (B<=f.heap.size):=nZ aJ.out N.size;have a4:Hid (AM f mb (d++[z])):=bn;have be:Hid (RdA f (U (eW ⟨bq,oq,zX⟩) m cr) A):=by
        obtain⟨x1,x2,x3,x4⟩:=an.out;refine⟨x1,x2,x3,λi hi=>?_⟩;obtain⟨x5,x6,x7,x8⟩:=x4 i hi;refine⟨x5,x6,x7,N.range x8 ?_⟩;simp only[U.injEq]at x3;have:=bJ.out x5 (by rw[x3.1,x7];rfl);simp;omega
       clear q0 q1 q2 q3 q4 p7 aE aA ak aJ an N bt bn;have q0:=p8.2.1 0 _ rfl;have q1:=p8.2.1 1 _ rfl;have q2:=p8.2.1 2 _ rfl;have q3:=p8.2.1 3 _ rfl;have q4:=p8.2.1 4 _ rfl;have R:=QI (cZ _ f) (Z (J4 z).toArray 83);have bc:Hid (AtL (f.alloc (Z (J4 z).toArray 83)) f.heap.size (JQ [z])):=AtL.new0 f 83 (JQ [z]);have aZ:Hid (bL w (f.alloc (Z (J4 z).toArray 83))):=QA aY.out R;have al:Hid (OwnA (f.alloc (Z (J4 z).toArray 83)) B T d):=a9.out.below R;have a5:Hid (AM (f.alloc (Z (J4 z).toArray 83)) mb (d++[z])):=a4.out.below R;have aK:Hid (B<=(f.alloc (Z (J4 z).toArray 83)).heap.size):=nZ bk.out R.size;have ao:Hid (RdA (f.alloc (Z (J4 z).toArray 83)) (U (eW ⟨bq,oq,zX⟩) m cr) A):=be.out.below R;clear p8 aY a9 a4 bk be R;go_wp2_with (first|(refine zDc rfl (mX 38) (mX 40) rfl (f.alloc (Z (J4 z).toArray 83)) B aK.out T d rfl al.out f.heap.size 1 [z] rfl rfl bc.out (by have:=t.out;have:=ax.out;have:=aa.out;simp;omega) ?_;intro v9 w9 aw bu))
       have ae:Fr T.ownBlock.toList (f.alloc (Z (J4 z).toArray 83)) w9:=Fr.of_grown bu (λk e=>by simp[e]);have bB:Hid (bL w w9):=Qn aZ.out ae (λk hk=>by have:=(al.out.blk (g:=k) (by simpa using hk)).1;have:=ab.out;omega);have bK:Hid (AM w9 mb (d++[z])):=a5.out.fr ae (λe=>by have:=(al.out.blk (g:=mb) (by simpa using e)).1;have:=ab.out;omega);have bM:Hid (OwnA w9 B v9 (d++[z])):=aw;have bP:Hid (B<=w9.heap.size):=nZ aK.out ae.size;have bI:Hid (ddA (d++[z]) (A.drop (j+1))=ddA K A):=by show _=_;rw[<-l.out];simp[ddA,am.out]
       have bF:Hid ((d++[z]).length<=2000000+(j+1)):=by show _<=_;have:=t.out;simp;omega
       have bN:Hid (j+1<m->RdA w9 (U (eW ⟨bq,oq,zX⟩) m cr) A/\(j+1=0->∀g k,(U (eW ⟨bq,oq,zX⟩) m cr).ownBlock=eW g->v9.ownBlock=eW k->k≠g)):=by
        intro b2;have bU:j=0:=by have:=ax.out;have:=aa.out;omega
        refine⟨?_,λh=>by omega⟩;obtain⟨x1,x2,x3,x4⟩:=ao.out;refine⟨x1,x2,x3,λi hi=>?_⟩;obtain⟨x5,x6,x7,x8⟩:=x4 i hi;refine⟨x5,x6,x7,ae.range x8 (λe=>?_)⟩;simp only[U.injEq]at x3;exact bO.out bU x5 x5 (by rw[x3.1,x7];rfl) (by simpa using e) rfl
       clear aw bu ae q0 q1 q2 q3 q4 bc aZ al a5 aK ao l t am;go_roundg (m-(j+1))
       case rel=>exact⟨j+1,v9,d++[z],rfl,sM,rfl,ap,bB,bM,bK,bP,bI,bF,bN⟩
       case measure=>omega
     ·have bW:¬(j:Int)<(m:Int):=oM;have bV:j=m:=oM;have bD:Hid (d=ddA [] (VR (L.take (i+1)))):=by
       show _=_
       have e:A.drop j=[]:=kY (by rw[aa.out];omega);have:=l.out;rw[e]at this;rw[bm.out,zN5,bE.out,<-this];rfl
      rw[bD.out]at ad ac;clear aH l t bV;go_wp2_with fail
      go_roundg (n-(i+1))
      case rel=>exact⟨i+1,T,rfl,sM,rfl,bx,az,ad,ac,aI⟩
      case measure=>omega
   ·have bX:¬(i:Int)<(n:Int):=oM;have bQ:Hid (L.take i=L):=lY (by rw[HL.out];omega);rw[bQ.out,<-HE.out]at HO;go_wp2;go_ret;exact⟨⟨_,rfl,_,HO.out,ab.out.2.1⟩,HB.out⟩
theorem zLz(L:List (Wc.In×List Int))(v:vW)(w:wW)(h:RdC w v L)(f:L.length<=1000000)(g:∀x∈L,x.2.length<=1000000/\Wt.FitV x.1.v)(d:NmAt w) :
  cW prog 32 #[v] w λe w'=>(∃r B,e=rX r/\OwnA w' B r (usA L)/\w.heap.size<=B)/\bL w w':=zLK L v w h f g d (λx _=>zNo x)
open Go.RowKit Wf
theorem zBH:∀(A:List (Wc.In×vW))(i j:Nat)(h:i<A.length),j<23->(Qg A)[i*23+j]?=(QE (A[i]).1 (A[i]).2)[j]?
 |x::r,0,j,_,hj=>by
  show(QE x.1 x.2++Qg r)[0*23+j]?=_
  rw[vZ (by simp[QE];omega)];simp
 |x::r,i+1,j,h,hj=>by
  have d:=zBH r i j (by simpa using h) hj;show(QE x.1 x.2++Qg r)[(i+1)*23+j]?=_
  rw[tZ (by simp[QE];omega)];have e:(i+1)*23+j-(QE x.1 x.2).length=i*23+j:=by simp[QE];omega
  rw[e,d];rfl
theorem zEB:∀(A:List (Wc.In×vW))(i:Nat)(h:i<A.length)(v:vW),(Qg A).set (i*23+22) v=Qg (A.set i ((A[i]).1,v))
 |[],i,h,v=>absurd h (eY _)
 |x::r,0,h,v=>by
  show(QE x.1 x.2++Qg r).set (0*23+22) v=QE x.1 v++Qg r
  rfl
 |x::r,i+1,h,v=>by
  show(QE x.1 x.2++Qg r).set ((i+1)*23+22) v=QE x.1 x.2++Qg (r.set i ((r[i]'(by simpa using h)).1,v))
  rw[<-zEB r i (by simpa using h) v,List.set_append_right _ _ (by simp[QE];omega),show(i+1)*23+22-(QE x.1 x.2).length=i*23+22 from by simp[QE];omega]
theorem TyB.own{g c:Nat}{T:TypeId}{l:List vW}(h:w.ownsRow B T k (U (eW ⟨g,0,zX⟩) n c) m l):TyB w g T:=by
 rcases h.2 with⟨e,_⟩|⟨q,f,j,e,_,d,_⟩
 ·cases e
 ·simp only[U.injEq,Option.some.injEq,Addr.mk.injEq]at e;obtain⟨⟨rfl,_⟩,_⟩:=e;exact⟨_,_,d⟩
theorem zIT(bb mb lo:Nat)(nv:vW)(ver:Int)(F:List (Wpl.Cl×Ct))(x:Wpl.Cl)(C:List I)(w:wW)(h:AtL w bb [nv,O J ver,.map (eW mb)])(hm:MB w mb F)(hC:CdP w lo (gtC x F).v C)(hN:True->C.length<=1000000)(hZ:∀p∈C,p.2.length<=1000000) :
  cW prog 24 #[pX (eW ⟨bb,0,zX⟩),gX #[O J x.s,O J x.r,O J x.c]] w λe w'=>(∃v,e=rX v/\CdP w' w.heap.size v C)/\bL w w':=by
 have ac:=QI (cZ _ w) (Z #[O J x.s,O J x.r,O J x.c] 36);have p:=AtL.f3 (AtL.new0 w 36 [O J x.s,O J x.r,O J x.c]);have R:=AtL.below ac h;obtain⟨_,_,c2,_⟩:=R.three;have ar:=hid (hm.below ac);have ae:=hid ac;obtain⟨g,hg⟩:=xV (gtC x F)
 have HG:=hid hg;rw[hg]at hC;obtain⟨gt,ga,gn,gk⟩:=g;have aG:=hid hC;have HZ:=hid hZ;clear h hm R ac hg hC hZ;go_enter func24,ntmps24;go_upto_region 1 with fail
 generalize w.alloc (Z #[O J x.s,O J x.r,O J x.c] 36)=W0 at*;have t3:JI W0 w.heap.size (O J x.s) (O J x.r) (O J x.c):=p;clear p;have y:=(cZ W0.heap.size W0).drew;refine wp_region_held_drew (S:=λW=>W.cell? ⟨bb,2,zX⟩=eW (.map (eW mb))/\JI W w.heap.size (O J x.s) (O J x.r) (O J x.c)) kR ⟨QB y c2,QG y t3⟩ (λt=>?_);have au:=hid (MB.below ar.out y);have af:=hid (QA ae.out y);have aq:=hid (aG.out.fr (Fr.of_below [] (QA ae.out y)) sM);replace t3:=QG y t3
 replace c2:=QB y c2
 clear y ar ae;generalize W0.drew=W1 at*;refine tkQ 0 ?_
 refine tkQ 1 ?_
 refine tkQ 2 ?_
 refine tkQ 3 ?_
 refine tkQ 4 ?_
 refine rdQ 5 (λK hK=>?_);have aS:(Instr.lookup 49 (.map (eW mb)) (gX #[O J x.s,O J x.r,O J x.c]) gW).run prog W1=.ok (gX #[V gt,U ga gn gk]) W1:=by have:=zDP au.out x;rw[HG.out]at this;exact this
 go_simp
 refine hkQ hK ⟨c2,t3⟩ (λt=>?_);clear hK K aS
 have f1:=λw=>zSJ gt ga gn gk w
 refine tkQ 6 ?_
 obtain⟨P,o1,ak,ab⟩:=aq.out;obtain⟨n,hn⟩:=xV P.length
 have am:∀p∈P,∃av m c,p.2=U av m c:=λp hp=>by
  obtain⟨i,hi,e⟩:=List.mem_iff_getElem.1 hp;have:=OwnZ.slice (ab i hi (by rw[<-ak];exact hi)).2;rw[e]at this;exact this
 have CL:=zP8 (U ga gn gk) P.length (Qg P) lo W1 o1 (zB6 P am) (λ_=>by have:=hN trivial;omega);have HP:Hid (P.length=C.length/\P.length=n/\(∀p∈P,∃av m c,p.2=U av m c)/\∀i (h:i<P.length) (R:i<C.length),(P[i]).1=(C[i]).1/\OwnZ W1 lo (P[i]).2 (C[i]).2/\(C[i]).2.length<=1000000):=⟨ak,hn,am,λi h R=>⟨(ab i h R).1,(ab i h R).2,HZ.out _ (zZ _)⟩⟩
 clear ak ab am o1 aq;refine rdQ 7 (λK hK=>?_);go_simp
 refine CL.mono ?_;rintro e w2 ⟨⟨lv,rfl,o2⟩,T⟩;have ao:=hid (QA af.out T);have ah:=hid HP.out.2.2.2;have ax:=hid af.out.size;have an:=hid T;replace t3:=QG T t3
 replace c2:=QB T c2
 clear T af CL au;go_wp2_with fail
 refine hkQ hK ⟨c2,t3⟩ (λt=>?_);clear hK K
 refine rdQ 8 (λK hK=>?_);go_simp
 refine hkQ hK ⟨c2,t3⟩ (λt=>?_);clear hK K
 refine wpAnyH_done kR ?_ _;clear t c2 t3;have aD:C.length=n:=by rw[<-HP.out.1];exact HP.out.2.1
 rw[HP.out.2.1]at o2;have ag:=hid aD;have aN:True->n<=1000000:=λ_=>by have:=hN trivial;omega
 rcases o2.2 with⟨e,h0⟩|⟨g,cap,aX,e,ay,_⟩
 ·subst e;clear o2 ah HP HZ;subst h0;go_upto_region 3 with fail
  go_loopg [17] 1 (λgk u wr=>u=O J 0/\wr=w2)
  case atStart=>exact⟨rfl,rfl⟩
  case round =>
   obtain⟨rfl,rfl⟩:=hrel;go_wp2;go_ret;exact⟨⟨_,rfl,by rw[iZ ag.out];exact CdP.nil _ _⟩,ao.out⟩
 ·subst e;have aw:=hid o2;have ap:=hid ay;have aa:=hid HP.out.2.1;have aJ:=hid HP.out.2.2.1;clear o2 ay HP HZ aD;go_upto_region 3 with fail
  go_loopg [17] n (λgk u wr=>∃(i:Nat)(d:List (Wc.In×vW)),u=O J (i:Int)/\gk=n-i/\Hid (i<=n)/\Hid (wr.ownsRow W1.heap.size 86 23 (U (eW ⟨g,0,zX⟩) n cap) n (Qg d))/\Hid (d.length=n/\∀j (h:j<P.length) (R:j<d.length),(d[j]).1=(P[j]).1/\(i<=j->(d[j]).2=(P[j]).2)/\(j<i->∀hc:j<C.length,OwnZ wr W1.heap.size (d[j]).2 (C[j]).2))/\Hid (Fr [g] w2 wr))
  case atStart=>exact⟨0,P,rfl,rfl,qZ _,aw,⟨aa.out,λj h R=>⟨rfl,λ_=>rfl,λhj=>absurd hj (eY _)⟩⟩,Fr.refl _ _⟩
  case round =>
   obtain⟨i,d,rfl,hg,HI,HO,N,HF⟩:=hrel;generalize aU:wr=W at*;clear aU aw;by_cases ad:i<n
   ·have aQ:(i:Int)<(n:Int):=oM;have aY:(0:Int)<=(i:Int):=oM;have aZ:J.wrap ((i:Int)+1)=(i:Int)+1:=by have:=aN trivial;rw[jZ];omega
    have aA:i<P.length:=by rw[aa.out];exact ad
    have aj:bL W1 W:=(Fr.new (Fr.of_below [] an.out) HF.out (λk hk=>gZ (by simp at hk;have:=ap.out;omega))).to_below sM;obtain⟨za,zm,zc,hz⟩:=aJ.out (P[i]) (zZ _);have al:i<C.length:=by rw[ag.out];exact ad
    have z:i<d.length:=by rw[N.out.1];exact ad
    obtain⟨z0,z1,z2⟩:=ah.out i aA al;have aE:(d[i]).2=U za zm zc:=by rw[(N.out.2 i aA z).2.1 (eZ _),hz]
    obtain⟨ai,hZ⟩:=xV ((C[i]).2)
    rw[hz,hZ]at z1;rw[hZ]at z2;have aM:Hid (∃hc:i<C.length,(C[i]).2=ai):=⟨al,hZ⟩
    have CL:=zPe (U za zm zc) ai.length (ai.map (O J)) lo W (z1.below aj) (λu hu=>by obtain⟨a,_,rfl⟩:=List.mem_map.1 hu;rfl) (λ_=>by omega);have k0:W.cell? ⟨g,i*23+22,zX⟩=eW (U za zm zc):=by
     have hx:(Qg d)[i*23+22]?=eW (U za zm zc):=by rw[zBH d i 22 z dM,aE];rfl
     have hc:=HO.out.cells (g:=g) rfl (i*23+22) _ hx;rwa [show(⟨g,0,zX⟩:dW).add (i*23+22)=⟨g,i*23+22,zX⟩from by simp[Addr.add]]at hc
    have aK:=hid aj.size;clear z0 z1 z2 hz aE hZ aj al;go_wp2_with fail
    refine CL.mono ?_;rintro e w3 ⟨⟨nv,rfl,on⟩,X⟩;have o3:w3.ownsRow W1.heap.size 86 23 (U (eW ⟨g,0,zX⟩) n cap) n (Qg d):=QZ (Fr.of_below [] X) HO.out sM;obtain⟨o4,aO⟩:=World.ownsRow.stored o3 (i*23+22) nv;have k3:=QB X k0;have k4:w3.frozen? ⟨g,i*23+22,zX⟩=gW:=by
     rcases o3.2 with⟨e,_⟩|⟨g',aV,aW,e,_,aP,_⟩
     ·cases e
     ·simp only[U.injEq,Option.some.injEq,Addr.mk.injEq]at e;obtain⟨⟨rfl,_⟩,_⟩:=e;simp[World.frozen?,aP]
    obtain⟨f,q,l,aT⟩:∃a m c,nv=U a m c:=by
     rcases on.2 with⟨e,_⟩|⟨_,_,_,e,_⟩
     ·exact⟨_,_,_,e⟩
     ·exact⟨_,_,_,e⟩
    subst aT;have az:Fr [g] W (w3.setCell ⟨g,i*23+22,zX⟩ (U f q l)):=(Fr.of_below _ X).trans (Qj g [U f q l] (i*23+22) w3);rw[zEB d i z]at o4;have aI:=hid o4;have aL:Hid ((d.set i ((d[i]).1,U f q l)).length=n/\∀j (h:j<P.length) (R:j<(d.set i ((d[i]).1,U f q l)).length),((d.set i ((d[i]).1,U f q l))[j]).1=(P[j]).1/\(i+1<=j->((d.set i ((d[i]).1,U f q l))[j]).2=(P[j]).2)/\(j<i+1->∀hc:j<C.length,OwnZ (w3.setCell ⟨g,i*23+22,zX⟩ (U f q l)) W1.heap.size ((d.set i ((d[i]).1,U f q l))[j]).2 (C[j]).2)):=by
     refine⟨by rw[List.length_set];exact N.out.1,λj h R=>?_⟩;rw[List.getElem_set];by_cases aC:i=j
     ·subst aC;rw[if_pos rfl];refine⟨(N.out.2 i h z).1,λhj=>absurd hj oM,λ_ hc=>?_⟩;obtain⟨_,hZ⟩:=aM.out;rw[hZ];exact zEd (QZ (Qj g [U f q l] (i*23+22) w3) on (zGJ on (TyB.own o3) dM)) aK.out
     ·rw[if_neg aC];have aR:j<d.length:=by rw[N.out.1,<-aa.out];exact h
      obtain⟨q1,q2,q3⟩:=N.out.2 j h aR;refine⟨q1,λhj=>q2 oM,λhj hc=>?_⟩;have o:=q3 oM hc;exact QZ az o (zGJ o (TyB.own HO.out) dM)
    have aH:=hid ((HF.out.trans (Fr.of_below _ X)).trans (Qj g [U f q l] (i*23+22) w3));clear CL on o3 o4 aO X az k0 HO N HF;go_wp2_with fail
    go_roundg (n-(i+1))
    case rel=>exact⟨i+1,_,sM,rfl,ad,aI,aL,aH⟩
    case measure=>omega
   ·have aQ:¬(i:Int)<(n:Int):=oM;have HE:=hid ((Fr.new (Fr.of_below [] ao.out) HF.out (λk hk=>gZ (by simp at hk;have:=ap.out;have:=ax.out;omega))).to_below sM);have aF:Hid (CdP W w.heap.size (U (eW ⟨g,0,zX⟩) n cap) C):=by
     refine CdP.mono (lo:=W1.heap.size) ⟨d,?_,by rw[N.out.1,ag.out],λj h R=>?_⟩ ax.out
     ·show World.ownsRow _ _ _ _ _ _ _
      rw[N.out.1];exact HO.out
     ·have aB:j<P.length:=by rw[aa.out,<-N.out.1];exact h
      obtain⟨q1,_,q3⟩:=N.out.2 j aB h;exact⟨q1.trans (ah.out j aB R).1,q3 (by have:=N.out.1;omega) R⟩
    clear HO N HF;go_wp2;go_ret;exact⟨⟨_,rfl,aF.out⟩,HE.out⟩
theorem OwnI.cellB{G:Nat}{A:List (Wc.In×vW)}(h:OwnI w B (U (eW ⟨G,0,zX⟩) n cap) A){i:Nat}(f:i<A.length):w.rangeAt G (i*23) (QE (A[i]).1 (A[i]).2):=by
 intro j v d;have l:j<23:=by
  rcases zY j 23 with q|q
  ·exact q
  ·rw[uZ (by simp[QE];omega)]at d;cases d
 have e:=h.cells (g:=G) rfl (i*23+j) v (by rw[zBH A i j f l];exact d);rwa [show(⟨G,0,zX⟩:dW).add (i*23+j)=⟨G,i*23+j,zX⟩from by
  simp[Addr.add];try(intro s;omega)]at e
theorem zLu{P:List (Wc.In×vW)}(h:OwnI w B lv P)(t:P.length=C.length)(s:∀i (h:i<P.length) (R:i<C.length),(P[i]).1=(C[i]).1/\OwnZ w B (P[i]).2 (C[i]).2):RdC w lv C:=by
 rcases h.2 with⟨e,K⟩|⟨G,cap,z,e,X,hg,r⟩
 ·subst e;refine⟨zX,0,by rw[<-t,K],λi s=>?_⟩;omega
 ·subst e;refine⟨eW ⟨G,0,zX⟩,cap,by rw[<-t],λi j=>?_⟩;have f:i<P.length:=oM;have c:=OwnI.cellB h (i:=i) f;obtain⟨u,y⟩:=s i f j;have g:=y.rd;rcases y.2 with⟨d,T⟩|⟨N,l,q,d,_⟩
  ·rw[u,d]at c;rw[d]at g;exact⟨G,0,zX,0,0,rfl,by rw[xZ];exact c,g,λ_=>rfl⟩
  ·rw[u,d]at c;rw[d]at g;exact⟨G,0,_,_,_,rfl,by rw[xZ];exact c,g,λh=>by cases h⟩
theorem CdP.rdc{lo:Nat}(h:CdP w lo v C):RdC w v C:=by
 obtain⟨P,d,e,f⟩:=h;exact zLu d e f
theorem zNL(bb mb lo:Nat)(nv:vW)(ver:Int)(F:List (Wpl.Cl×Ct))(x:Wpl.Cl)(C:List I)(w:wW)(h:AtL w bb [nv,O J ver,.map (eW mb)])(hm:MB w mb F)(hC:CdP w lo (gtC x F).v C)(hN:NmAt w)(hl:C.length<=1000000)(hZ:∀p∈C,TI 1000000 p) :
  cW prog 15 #[pX (eW ⟨bb,0,zX⟩),gX #[O J x.s,O J x.r,O J x.c]] w λe w'=>(∃v,e=rX v/\RdA w' v (usA C))/\bL w w':=by
 have l:=QI (cZ _ w) (Z #[O J x.s,O J x.r,O J x.c] 36);have p:=AtL.f3 (AtL.new0 w 36 [O J x.s,O J x.r,O J x.c]);have h':=AtL.below l h;obtain⟨_,_,j,_⟩:=h'.three;have N:=hid (hm.below l);have y:=hid l;obtain⟨g,hg⟩:=xV (gtC x F)
 have HG:=hid hg;rw[hg]at hC;obtain⟨gt,ga,gn,gk⟩:=g;have R:Hid (∀W,bL w W->cW prog 32 #[U ga gn gk] W λe w'=>(∃v,e=rX v/\RdA w' v (usA C))/\bL W w'):=λW hb=>by
  refine Calls.mono (zLz C (U ga gn gk) W (RdC.below hC.rdc hb) hl hZ (hN.below hb)) ?_;rintro e w' ⟨⟨r,B,rfl,ho,_⟩,ac⟩;exact⟨⟨r,rfl,ho.rd⟩,ac⟩
 clear h hm h' l hg hC hZ hN hl;go_enter func15,ntmps15;go_upto_region 1 with fail
 generalize w.alloc (Z #[O J x.s,O J x.r,O J x.c] 36)=T at*;have t:JI T w.heap.size (O J x.s) (O J x.r) (O J x.c):=p;clear p;have f:=(cZ T.heap.size T).drew;refine wp_region_held_drew (S:=λW=>W.cell? ⟨bb,2,zX⟩=eW (.map (eW mb))/\JI W w.heap.size (O J x.s) (O J x.r) (O J x.c)) kR ⟨QB f j,QG f t⟩ (λd=>?_);have P:=hid (MB.below N.out f);have z:=hid (QA y.out f);have US:=R.out T.drew (QA y.out f);replace t:=QG f t
 replace j:=QB f j
 clear f N y R;generalize T.drew=W1 at*;refine tkQ 0 ?_
 refine tkQ 1 ?_
 refine tkQ 2 ?_
 refine tkQ 3 ?_
 refine tkQ 4 ?_
 refine rdQ 5 (λK u=>?_);have ad:(Instr.lookup 49 (.map (eW mb)) (gX #[O J x.s,O J x.r,O J x.c]) gW).run prog W1=.ok (gX #[V gt,U ga gn gk]) W1:=by have:=zDP P.out x;rw[HG.out]at this;exact this
 go_simp
 refine hkQ u ⟨j,t⟩ (λd=>?_);clear u K ad
 have f1:=λw=>zSJ gt ga gn gk w
 refine tkQ 6 ?_
 refine rdQ 7 (λK u=>?_);go_simp
 refine US.mono ?_;rintro e w2 ⟨⟨uv,rfl,X⟩,q⟩;have ab:=hid X;have aa:=hid (QA z.out q);replace t:=QG q t
 replace j:=QB q j
 clear q z US P X;go_wp2_with fail
 refine hkQ u ⟨j,t⟩ (λd=>?_);clear u K
 refine rdQ 8 (λK u=>?_);go_simp
 refine hkQ u ⟨j,t⟩ (λd=>?_);clear u K
 refine wpAnyH_done kR ?_ _;clear d j t;go_wp2;go_ret;exact⟨⟨uv,rfl,ab.out⟩,aa.out⟩
theorem zPR:(usA [ins 2 0 0,ins 16 0 0]).length=1:=kR
theorem zNh:∀x∈[ins 2 0 0,ins 16 0 0],x.2.length<=1000000/\Wt.FitV x.1.v:=by
 intro x d;simp only[cY,mY,or_false]at d;rcases d with rfl|rfl
 ·exact⟨by simp[ins],by unfold Wt.FitV;decide⟩
 ·exact⟨by simp[ins],by unfold Wt.FitV;decide⟩
def chA:List Ch:=[⟨⟨0,0,0⟩,t2B⟩,⟨⟨1,0,0⟩,tF⟩]
def rsA(a:Ch):List I⊕(Int×Int):=if a.x.s=0 then .inl []else .inl [ins 2 0 0,ins 16 0 0]
def gA:List (Wpl.Cl×Ce):=[(⟨0,0,0⟩,⟨t2B,[]⟩),(⟨1,0,0⟩,⟨tF,[ins 2 0 0,ins 16 0 0]⟩)]
theorem raA:raP 2 rsA chA 0 []=.inr gA:=kR
theorem lbA:¬4096<lbE [] chA (([]:List (Wpl.Cl×Ce)).length:Int):=by decide +kernel
theorem zST:VV gA chA []=gA:=kR
theorem zON:∀a∈chA,Jv 2 a.x=fW->VY [sS,sT] a.x a.t (rsA a):=by
 intro a d _;simp only[chA,cY,mY,or_false]at d;rcases d with rfl|rfl
 ·exact zNj
 ·exact zQL
theorem zQK:∀y,(gtE y gA).t.size<=9223372036854775807:=by
 intro y;rcases Jj (G:=gA) (x:=y)with h|h
 ·rw[h];decide
 ·generalize gtE y gA=e at*;simp only[gA,cY,mY,or_false,Prod.mk.injEq]at h;rcases h with⟨_,rfl⟩|⟨_,rfl⟩ <;> decide
def chB:Array vW:=#[O J 0,O J 0,O J 0,V t2B,O J 1,O J 0,O J 0,V tF]
theorem zNn(w:wW):RdH (w.alloc (Z #[O J 0,O J 0,O J 0,V t2B,O J 1,O J 0,O J 0,V tF] 38)) (eW ⟨w.heap.size,0,zX⟩) chA:=by
 have q:=(AtL.new0 w 38 [O J 0,O J 0,O J 0,V t2B,O J 1,O J 0,O J 0,V tF]).range;intro i a e;refine⟨w.heap.size,0,rfl,?_⟩;match i,e with
 |0,e =>
  simp only[chA,dX,Option.some.injEq]at e;subst e;intro j v d;have f:j<4:=(List.getElem?_eq_some_iff.1 d).1;match j,f with
  |0,_=>exact q 0 v d
  |1,_=>exact q 1 v d
  |2,_=>exact q 2 v d
  |3,_=>exact q 3 v d
 |1,e =>
  simp only[chA,List.getElem?_cons_succ,dX,Option.some.injEq]at e;subst e;intro j v d;have f:j<4:=(List.getElem?_eq_some_iff.1 d).1;match j,f with
  |0,_=>exact q 4 v d
  |1,_=>exact q 5 v d
  |2,_=>exact q 6 v d
  |3,_=>exact q 7 v d
 |i+2,e=>simp[chA]at e
theorem zJl(w:wW):(w.alloc (Z #[V sS,V sT] 9)).ownsRow 0 9 1 (U (eW ⟨w.heap.size,0,zX⟩) 2 2) 2 [V sS,V sT] :=
 ⟨rfl,gZ ⟨w.heap.size,2,_,rfl,qZ _,(Go.MapKept.heap_alloc w _).1,eZ _,by unfold maxLen;omega,rfl,rfl⟩⟩
theorem zQS(w:wW)(hE:BEnv w):CR 4 #[] w (Y fW):=by
 have P:=QI (cZ _ w) (Z #[V sS,V sT] 9);have NW:=zNB w.heap.size (w.alloc (Z #[V sS,V sT] 9)) (hE.1.1.below P) (zJl w);have HE:=hid hE;have s:=hid P;clear hE P;go_enter func4,ntmps4;go_wp2_with fail
 refine NW.mono ?_;rintro e w1 ⟨bb,mb,na,nk,rfl,hk,al,ap,ar,_⟩;have u:=hid (QA s.out al);have ao:Hid (w.heap.size<=bb/\w.heap.size<=mb):=by
  have:=s.out.size;exact⟨oM,oM⟩
 have K:=hid hk;clear NW hk al ap ar s;go_upto_region 4 with fail
 have q:=QI (cZ _ w1) (Z #[O J 0,O J 0,O J 0,V t2B,O J 1,O J 0,O J 0,V tF] 38);have ED:=zJk bb mb w1.heap.size na nk [sS,sT] 0 [] (eW ⟨w1.heap.size,0,zX⟩) 2 2 chA rsA (w1.alloc (Z #[O J 0,O J 0,O J 0,V t2B,O J 1,O J 0,O J 0,V tF] 38)) ((HE.out.below u.out).below q) (K.out.below q) (zNn w1) rfl dM dM zON gA raA dM (λy=>by show(0:Nat)<=_;omega) zQK lbA dM (λg o e=>by have:=K.out.lt;cases e;omega);rw[zST]at ED;have ae:=hid (QA u.out q);clear q K u;go_wp2_with fail
 refine ED.mono ?_;rintro e w3 ⟨rfl,am,ak⟩;have R:=QI (cZ _ w3) (Z #[O J 0,O J 0,O J 0] 30);have q4:=AtL.new0 w3 30 [O J 0,O J 0,O J 0];have N:=hid (am.below R);have af:=hid (QA ((Fr.new (Fr.of_below [] ae.out) ak (λk hk=>gZ (by simp at hk;have:=ao.out;omega))).to_below sM) R);clear ED am ak R ae;go_upto_region 5 with fail
 generalize w3.alloc (Z #[O J 0,O J 0,O J 0] 30)=W4 at*;generalize aq:w3.heap.size=fb at*;clear aq;obtain⟨j0,_,_,_⟩:=q4.three;have VE:=zAF bb mb (U na 2 nk) 1 W4 N.out.hd;go_wp2_with fail
 refine VE.mono ?_;rintro e w5 ⟨rfl,T⟩;have d:=hid (N.out.below T);have ag:=hid (QA af.out T);clear VE T N af q4 j0;obtain⟨F5,m5,t5⟩:=d.out.mp;have LE:=zCl bb mb (U na 2 nk) 1 F5 w5 d.out.hd m5;rw[t5.len]at LE;clear m5 t5;go_wp2_with fail
 refine LE.mono ?_;rintro e w6 ⟨rfl,X⟩;have f:=hid (d.out.below X);have ah:=hid (QA ag.out X);clear LE X d ag;obtain⟨F6,m6,t6⟩:=f.out.mp;have KI:=zAr bb mb (U na 2 nk) 1 F6 ⟨1,0,0⟩ w6 f.out.hd m6 (by rw[(t6.get _).1.1];exact zQK _);rw[(t6.get _).1.1,show knd (gtE ⟨1,0,0⟩ gA).t=2 from by kernel_rfl]at KI;clear m6 t6;go_wp2_with fail
 refine KI.mono ?_;rintro e w7 ⟨rfl,aa⟩;have j:=hid (f.out.below aa);have ai:=hid (QA ah.out aa);clear KI aa f ah;obtain⟨F7,m7,t7⟩:=j.out.mp;have TX:=zBn bb mb (U na 2 nk) 1 F7 ⟨0,0,0⟩ w7 j.out.hd m7;rw[(t7.get _).1.1,show(gtE ⟨0,0,0⟩ gA).t=t2B from by kernel_rfl]at TX;clear m7 t7;go_wp2_with fail
 refine TX.mono ?_;rintro e w8 ⟨rfl,ab⟩;have l:=hid (j.out.below ab);have z:=hid (QA ai.out ab);clear TX ab j ai;obtain⟨F8,m8,t8⟩:=l.out.mp;have ad:=(t8.get ⟨1,0,0⟩).1.2;rw[show(gtE ⟨1,0,0⟩ gA).c=[ins 2 0 0,ins 16 0 0]from by kernel_rfl]at ad;have US:=zNL bb mb w1.heap.size (U na 2 nk) 1 F8 ⟨1,0,0⟩ [ins 2 0 0,ins 16 0 0] w8 l.out.hd m8 ad (HE.out.2.1.below z.out) dM zNh;clear m8 t8 ad;go_wp2_with fail
 refine US.mono ?_;rintro e w9 ⟨⟨uv,rfl,ua,uc,e9,_⟩,ac⟩;rw[zPR]at e9;subst e9;have aj:=hid (l.out.below ac);have an:=hid (QA z.out ac);clear US ac l z;have SH:=zO8 bb mb na nk [sS,sT] 1 sT w9 aj.out.hd aj.out.rs (λ_=>by decide);rw[show ixS sT [sS,sT] 0=1 from by kernel_rfl]at SH;go_wp2_with fail
 refine SH.mono ?_;rintro e au ⟨rfl,rfl⟩;clear SH;go_wp2;go_ret;exact⟨rfl,an.out⟩
open Go.ChangeMaps (setBlock)
theorem zJR(h:r<w.heap.size)(o:Obj):(setBlock w r o).heap[r]?=eW o:=by simp[setBlock,h]
theorem zCX{j:Nat}(o:Obj)(h:j≠r):(setBlock w r o).heap[j]?=w.heap[j]?:=by
 show(w.heap.setIfInBounds r o)[j]?=_
 rw[Array.getElem?_setIfInBounds_ne (Ne.symm h)]
def ItB(w:wW)(r mb:Nat)(F:List (Wpl.Cl×Ct))(D:List Wpl.Cl)(k:Nat):Prop :=
 ∃(g:Array MapEntry)(j d l:Nat)(f:Array Nat),w.heap[r]?=eW (.mapIter (eW mb) d f l)/\w.heap[mb]?=eW (.map g j)/\enB g.toList F/\StB g.toList j/\d=j/\d<=l/\(leftOf g f).size=k/\(∀y∈D,∃e∈g.toList,e.key=ceV y/\f.contains e.born=fW)/\∀e∈g.toList,f.contains e.born=fW->∃y∈D,e.key=ceV y
theorem ItB.lt(h:ItB w r mb F D k):r<w.heap.size/\mb<w.heap.size:=by
 obtain⟨q,l,d,j,e,f,g,_⟩:=h;exact⟨(Array.getElem?_eq_some_iff.1 f).1,(Array.getElem?_eq_some_iff.1 g).1⟩
theorem ItB.fr(h:ItB w r mb F D k)(f:Fr S w w')(y:r∉S)(z:mb∉S):ItB w' r mb F D k:=by
 have g:=h.lt;obtain⟨q,l,d,j,e,s,t,u⟩:=h;exact⟨q,l,d,j,e,by rw[f.block r g.1 y];exact s,by rw[f.block mb g.2 z];exact t,u⟩
theorem enB.mem(h:enB E F){e:MapEntry}(g:e∈E):∃x f,(x,f)∈F/\e.key=ceV x/\e.val=ctV f:=by
 have:(e.key,e.val)∈E.map (λe=>(e.key,e.val)):=List.mem_map.2 ⟨e,g,rfl⟩;rw[h]at this;obtain⟨p,j,d⟩:=List.mem_map.1 this;simp only[Prod.mk.injEq]at d;exact⟨p.1,p.2,j,d.1.symm,d.2.symm⟩
theorem zJK{x y:Wpl.Cl}(h:ceV x=ceV y):x=y:=by
 obtain⟨a,b,c⟩:=x;obtain⟨d,e,f⟩:=y;simpa using h
theorem enB.one(h:enB E F)(q:KB F){e d:MapEntry}(z:e∈E)(g:d∈E)(K:e.key=d.key):e=d:=by
 have N:(E.map (λe=>e.key)).Nodup:=by
  have u:E.map (λe=>e.key)=(F.map (λp=>p.1)).map ceV:=by
   have:=congrArg (List.map Prod.fst) h;rw[lX,lX]at this;rw[lX];exact this
  rw[u];unfold KB at q;exact List.Pairwise.map ceV (λa b f e=>f (zJK e)) q
 obtain⟨i,s⟩:=List.mem_iff_getElem?.1 z;obtain⟨j,l⟩:=List.mem_iff_getElem?.1 g;have t:(E.map (λe=>e.key))[i]?=eW e.key:=by rw[hY,s];rfl
 have P:(E.map (λe=>e.key))[j]?=eW e.key:=by rw[hY,l,K];rfl
 have y:=(nX (List.getElem?_eq_some_iff.1 t).1 N).1 (t.trans P.symm);subst y;rw[s]at l;exact Option.some.inj l
theorem StB.one{s:Nat}(h:StB E s){e d:MapEntry}(y:e∈E)(f:d∈E)(u:e.born=d.born):e=d:=by
 obtain⟨i,l⟩:=List.mem_iff_getElem?.1 y;obtain⟨j,g⟩:=List.mem_iff_getElem?.1 f;have q:(E.map (·.born))[i]?=eW e.born:=by rw[hY,l];rfl
 have z:(E.map (·.born))[j]?=eW e.born:=by rw[hY,g,u];rfl
 have t:=(nX (List.getElem?_eq_some_iff.1 q).1 h.2).1 (q.trans z.symm);subst t;rw[l]at g;exact Option.some.inj g
theorem zOD(h:MB w mb F):∃w',(Instr.range 49 (.map (eW mb))).run prog w=.ok (pX (eW ⟨w.heap.size,0,zX⟩)) w'/\(∃k,k<=F.length/\ItB w' w.heap.size mb F [] k)/\bL w w':=by
 have g:=h.lt;obtain⟨f,d,j,l,q⟩:=h;refine⟨_,run_range_map w 49 36 56 mb f d Vr j,⟨_,?_,f,d,d,d,#[],heap_alloc_new _ _,by rw[heap_alloc_old w _ g];exact j,l,q,rfl,eZ _,rfl,(λy s=>by cases s),λe he hs=>by simp at hs⟩,QI (cZ _ w) _⟩;have e:f.size=F.length:=by
  have:=congrArg fY l;simpa using this
 rw[<-e];exact Array.size_filter_le
theorem ItB.next(h:ItB w r mb F D k)(hK:KB F)(ty:TypeId) :
  (Instr.next (pX (eW ⟨r,0,zX⟩)) gW ty).run prog w=.ok (uX #[Y gW]) w/\(∀p∈F,p.1∈D) \/
  ∃x f w',(x,f)∈F/\x∉D/\(Instr.next (pX (eW ⟨r,0,zX⟩)) gW ty).run prog w=.ok (uX #[Y fW,ceV x,ctV f]) w'/\(Instr.entry (pX (eW ⟨r,0,zX⟩))).run prog w'=.ok (uX #[ceV x,ctV f]) w'/\Fr [r] w w'/\∃k',k'<k/\ItB w' r mb F (x::D) k':=by
 have hl:=h.lt;obtain⟨N,z,g,c0,d,g1,g2,g3,g4,g5,g6,g7,g8,g9⟩:=h;rcases run_next_at (P:=prog) w ty r mb g c0 d N z g1 g2 (λx hx=>by rw[g5];exact g4.1 x hx) g6 with⟨h0,e⟩|⟨e,he,w1,hw1,hrun⟩
 ·refine pZ ⟨e,λp hp=>?_⟩;have hm:(ceV p.1,ctV p.2)∈N.toList.map (λe=>(e.key,e.val)):=by rw[g3];exact List.mem_map.2 ⟨p,hp,rfl⟩
  obtain⟨t,q,e1⟩:=List.mem_map.1 hm;simp only[Prod.mk.injEq]at e1;have hs:d.contains t.born=fW:=by
   cases hq:d.contains t.born with
   |true=>rfl
   |false =>
    have:t∈leftOf N d:=Array.mem_filter.2 ⟨Array.mem_def.2 q,by rw[hq];rfl⟩;rw[Array.eq_empty_of_size_eq_zero h0]at this;simp at this
  obtain⟨y,hy,ey⟩:=g9 t q hs;rw[zJK (e1.1.symm.trans ey)];exact hy
 ·right
  have l:=mem_left he;obtain⟨x,f,ab,R,ev⟩:=g3.mem l.1;have aa:mb≠r:=λe=>by rw[e,g1]at g2;cases g2
  have s:w1.heap=w.heap:=by rcases hw1 with rfl|rfl <;> rfl
  have ac:w1.heap[r]?=eW (.mapIter (eW mb) g d c0):=by rw[s];exact g1
  have X:(setBlock w1 r (.mapIter (eW mb) g (d.push e.born) z)).heap[r]?=eW (.mapIter (eW mb) g (d.push e.born) z):=zJR (by rw[s];exact hl.1) _;have T:(setBlock w1 r (.mapIter (eW mb) g (d.push e.born) z)).heap[mb]?=eW (.map N z):=by rw[zCX _ aa,s];exact g2
  refine⟨x,f,_,ab,λhD=>?_,by rw[<-R,<-ev];exact hrun,by rw[<-R,<-ev];exact run_entry_at _ r mb g d N z e X T l.1 g4.2,?_,_,?_,⟨N,z,g,z,d.push e.born,X,T,g3,g4,g5,Nat.le_of_eq g5,rfl,λy hy=>?_,λt q hs=>?_⟩⟩
  ·obtain⟨t,q,K,u⟩:=g8 x hD;have:=g3.one hK l.1 q (by rw[R,K]);rw[<-this,l.2]at u;cases u
  ·refine⟨?_,?_,?_,?_,λj hj hn=>?_⟩
   ·rcases hw1 with rfl|rfl <;> rfl
   ·rcases hw1 with rfl|rfl <;> rfl
   ·rcases hw1 with rfl|rfl <;> rfl
   ·simp[setBlock,s]
   ·rw[zCX _ (λe=>hn (by simp[e])),s]
  ·rw[<-g7];exact left_shrinks N d e he
  ·rcases List.mem_cons.1 hy with rfl|hy
   ·exact⟨e,l.1,R,by rw[contains_push];simp⟩
   ·obtain⟨t,q,K,u⟩:=g8 y hy;exact⟨t,q,K,by rw[contains_push,u];rfl⟩
  ·rw[contains_push,fX]at hs;rcases hs with hs|hs
   ·obtain⟨y,hy,ey⟩:=g9 t q hs;exact⟨y,wZ _ hy,ey⟩
   ·refine⟨x,rY ..,?_⟩;rw[<-R,g4.one q l.1 (by simpa using hs)]
end Go.Proofs.YthcblmpncpcfkaaGreatDoor
namespace Wb
def ltC(a b:Wpl.Cl):Bool:=Wpl.before a.s a.r a.c b.s b.r b.c
theorem ltC_iff(a b:Wpl.Cl):ltC a b=fW↔(a.s<b.s\/a.s=b.s/\(a.r<b.r\/a.r=b.r/\a.c<b.c)):=by
 unfold ltC Wpl.before;split
 ·rw[decide_eq_true_eq];omega
 ·split
  ·rw[decide_eq_true_eq];omega
  ·rw[decide_eq_true_eq];omega
theorem ltC_no(a b:Wpl.Cl):ltC a b=gW↔¬(a.s<b.s\/a.s=b.s/\(a.r<b.r\/a.r=b.r/\a.c<b.c)):=by
 rw[<-ltC_iff];simp
theorem ltC_eq{a b:Wpl.Cl}(d:ltC a b=gW)(e:ltC b a=gW):a=b:=by
 rw[ltC_no]at d e;obtain⟨s,r,c⟩:=a;obtain⟨t,q,f⟩:=b;simp only at d e;have g:s=t:=by omega
 have j:r=q:=by omega
 have l:c=f:=by omega
 rw[g,j,l]
def cmpC(a b:Wpl.Cl):Int:=if ltC a b then -1 else if ltC b a then 1 else 0
theorem cmpC_lt(a b:Wpl.Cl):decide (cmpC a b<0)=ltC a b:=by
 unfold cmpC;cases h:ltC a b with
 |true=>rfl
 |false=>cases d:ltC b a <;> rfl
def leC(a b:Wpl.Cl):Bool:=!ltC b a
def srt(l:List Wpl.Cl):List Wpl.Cl:=l.mergeSort leC
theorem srt_perm(l:List Wpl.Cl):(srt l).Perm l:=List.mergeSort_perm l leC
theorem srt_pw(l:List Wpl.Cl):(srt l).Pairwise (λa b=>ltC b a=gW):=by
 have:=List.pairwise_mergeSort (le:=leC) (λa b c d e=>by
  unfold leC at*;rw[iY,ltC_no]at*;omega) (λa b=>by
  unfold leC;rw[fX,iY,iY,ltC_no,ltC_no];omega) l
 refine List.Pairwise.imp (λh=>?_) this;unfold leC at h;rwa [iY]at h
theorem srt_len(l:List Wpl.Cl):(srt l).length=l.length:=(srt_perm l).length_eq
end Wb
namespace Go.Proofs.YthcblmpncpcfkaaGreatDoor
open Tryz
open Go.RowKit
variable {w w' W:wW}{rs:Ch->List Wf.I⊕(Int×Int)}{L:List Ch}{G:List (Wpl.Cl×Ce)}{b n:Nat}{ops:Array Oper}{rest:List Oper}{o:Oper}{a:Act}{Q:Exit->Act->wW->Prop}{nm:List ByteArray}
def BlD(w w':wW):Prop:=bL w w'/\w.drawn<=w'.drawn
theorem BlD.refl(w:wW):BlD w w:=⟨cZ _ _,eZ _⟩
theorem zPv(h:BlD w W)(o:Obj):BlD w (W.alloc o):=⟨QI h.1 o,h.2⟩
theorem zP7{f:wW}(d:BlD w W)(e:BlD W f):BlD w f:=⟨QA d.1 e.1,nZ d.2 e.2⟩
theorem BlD.grow(h:BlD w w'):∃q g,w'=Go.Sort.grow (w.drewN q) g:=by
 obtain⟨p,f⟩:=regrown_of_below h.1;refine⟨w'.drawn-w.drawn,p.os,?_⟩;have e:w'.drawn=p.d:=by rw[f];rfl
 have:=h.2;rw[f];show Go.Sort.grow _ _=Go.Sort.grow _ _
 congr 1
 unfold redrawn World.drewN;congr 1
 show p.d=w.drawn+(_-w.drawn)
 show p.d=w.drawn+((Go.Sort.grow (redrawn w p.d) p.os).drawn-w.drawn)
 rw[<-f];omega
theorem zFq(s r c f d g:Int)(w:wW) :
  cW prog 43 #[gX #[O J s,O J r,O J c],gX #[O J f,O J d,O J g]] w λe w'=>e=rX (Y (Wpl.before s r c f d g))/\BlD w w':=by
 unfold Wpl.before;by_cases h:s=f
 ·rw[if_neg (not_not_intro h)];by_cases k:r=d
  ·rw[if_neg (not_not_intro k)];subst h k;go_enter func43,ntmps43;go_wp2;go_ret;exact⟨rfl,clA,sM⟩
  ·rw[if_pos k];subst h;go_enter func43,ntmps43;go_wp2;go_ret;exact⟨rfl,clA,sM⟩
 ·rw[if_pos h];go_enter func43,ntmps43;go_wp2;go_ret;exact⟨rfl,clA,sM⟩
theorem zNz(s r c j g f:Int)(w:wW):cW prog 27 #[gX #[O J s,O J r,O J c],gX #[O J j,O J g,O J f]] w λe w'=>e=rX (O J (Wb.cmpC ⟨s,r,c⟩ ⟨j,g,f⟩))/\BlD w w':=by
 have z:=λw=>zFq s r c j g f w
 have K:=λw=>zFq j g f s r c w
 obtain⟨R,hR⟩:=xV (Wb.cmpC ⟨s,r,c⟩ ⟨j,g,f⟩)
 rw[hR];have u:Hid (Wb.cmpC ⟨s,r,c⟩ ⟨j,g,f⟩=R):=hR;have P:=(AtL.new0 w 36 [O J s,O J r,O J c]).alloc (Z #[O J j,O J g,O J f] 36);have T:=AtL.new1 w (Z #[O J s,O J r,O J c] 36) 36 [O J j,O J g,O J f];have q:=zPv (zPv (BlD.refl w) (Z #[O J s,O J r,O J c] 36)) (Z #[O J j,O J g,O J f] 36);clear hR;cases l:Wpl.before s r c j g f with
 |true =>
  rw[l]at z;have N:Hid (R=-1):=by show _=_;rw[<-u.out];simp[Wb.cmpC,Wb.ltC,l]
  clear l K u;go_enter func27,ntmps27;go_upto_region 1 with fail
  generalize(w.alloc (Z #[O J s,O J r,O J c] 36)).alloc (Z #[O J j,O J g,O J f] 36)=W0 at*;obtain⟨X,a1,a2,_⟩:=P.three;obtain⟨b0,b1,b2,_⟩:=T.three;go_wp2_with fail
  refine(z _).mono ?_;rintro e w1 ⟨rfl,d⟩;go_wp2;go_ret;exact⟨by rw[N.out];rfl,zP7 q d⟩
 |false =>
  rw[l]at z;cases y:Wpl.before j g f s r c with
  |true =>
   rw[y]at K;have N:Hid (R=1):=by show _=_;rw[<-u.out];simp[Wb.cmpC,Wb.ltC,l,y]
   clear l y u;go_enter func27,ntmps27;go_upto_region 1 with fail
   generalize(w.alloc (Z #[O J s,O J r,O J c] 36)).alloc (Z #[O J j,O J g,O J f] 36)=W0 at*;obtain⟨X,a1,a2,_⟩:=P.three;obtain⟨b0,b1,b2,_⟩:=T.three;go_wp2_with fail
   refine(z _).mono ?_;rintro e w1 ⟨rfl,d⟩;obtain⟨X,a1,a2,_⟩:=(AtL.below d.1 P).three;obtain⟨b0,b1,b2,_⟩:=(AtL.below d.1 T).three;go_wp2_with fail
   refine(K _).mono ?_;rintro e w2 ⟨rfl,t⟩;go_wp2;go_ret;exact⟨by rw[N.out];rfl,zP7 (zP7 q d) t⟩
  |false =>
   rw[y]at K;have N:Hid (R=0):=by show _=_;rw[<-u.out];simp[Wb.cmpC,Wb.ltC,l,y]
   clear l y u;go_enter func27,ntmps27;go_upto_region 1 with fail
   generalize(w.alloc (Z #[O J s,O J r,O J c] 36)).alloc (Z #[O J j,O J g,O J f] 36)=W0 at*;obtain⟨X,a1,a2,_⟩:=P.three;obtain⟨b0,b1,b2,_⟩:=T.three;go_wp2_with fail
   refine(z _).mono ?_;rintro e w1 ⟨rfl,d⟩;obtain⟨X,a1,a2,_⟩:=(AtL.below d.1 P).three;obtain⟨b0,b1,b2,_⟩:=(AtL.below d.1 T).three;go_wp2_with fail
   refine(K _).mono ?_;rintro e w2 ⟨rfl,t⟩;go_wp2;go_ret;exact⟨by rw[N.out];rfl,zP7 (zP7 q d) t⟩
open Go.Shelf Go.RowKit Go.Sort
def zGH:Go.Shelf.Ren:=⟨fun|6=>26|15=>42|14=>41|28=>68|29=>69|20=>60|21=>61|22=>62|23=>63|24=>64|25=>65|26=>66|27=>67|46=>92|47=>93|48=>94|49=>95|50=>96|57=>123|n=>n,fun|22=>39|24=>36|25=>70|3=>3|39=>92|0=>0|53=>128|55=>130|4=>4|46=>121|45=>120|50=>125|5=>5|9=>9|66=>170|70=>174|76=>216|77=>217|n=>n,fun|n=>n⟩
theorem zSB:Go.Proofs.SlLaysF0.n6 prog zGH:={
 mixed:=kR
 f6:=⟨ "slices.SortFunc[[]whittle/api.Cell,whittle/api.Cell]",dM,func26.trans (congrArg eW kR)⟩
 f14:=⟨ "slices.pdqsortCmpFunc[whittle/api.Cell]",dM,func41.trans (congrArg eW kR)⟩
 f15:=func42.trans (congrArg eW kR)
 f20:=⟨ "slices.insertionSortCmpFunc[whittle/api.Cell]",dM,func60.trans (congrArg eW kR)⟩
 f21:=⟨ "slices.heapSortCmpFunc[whittle/api.Cell]",dM,func61.trans (congrArg eW kR)⟩
 f22:=⟨ "slices.breakPatternsCmpFunc[whittle/api.Cell]",dM,func62.trans (congrArg eW kR)⟩
 f23:=⟨ "slices.choosePivotCmpFunc[whittle/api.Cell]",dM,func63.trans (congrArg eW kR)⟩
 f24:=⟨ "slices.reverseRangeCmpFunc[whittle/api.Cell]",dM,func64.trans (congrArg eW kR)⟩
 f25:=⟨ "slices.partialInsertionSortCmpFunc[whittle/api.Cell]",dM,func65.trans (congrArg eW kR)⟩
 f26:=⟨ "slices.partitionEqualCmpFunc[whittle/api.Cell]",dM,func66.trans (congrArg eW kR)⟩
 f27:=⟨ "slices.partitionCmpFunc[whittle/api.Cell]",dM,func67.trans (congrArg eW kR)⟩
 f28:=func68.trans (congrArg eW kR)
 f29:=func69.trans (congrArg eW kR)
 f46:=⟨ "slices.siftDownCmpFunc[whittle/api.Cell]",dM,func92.trans (congrArg eW kR)⟩
 f47:=func93.trans (congrArg eW kR)
 f48:=func94.trans (congrArg eW kR)
 f49:=⟨ "slices.medianAdjacentCmpFunc[whittle/api.Cell]",dM,func95.trans (congrArg eW kR)⟩
 f50:=⟨ "slices.medianCmpFunc[whittle/api.Cell]",dM,func96.trans (congrArg eW kR)⟩
 f57:=⟨ "slices.order2CmpFunc[whittle/api.Cell]",dM,func123.trans (congrArg eW kR)⟩
 t0:=underlying0
 a0:=Tryz.isAgg0
 z0:=Tryz.sizeOf0
 v0:=Tryz.zeroValue0
 t3:=underlying3
 a3:=Tryz.isAgg3
 z3:=Tryz.sizeOf3
 v3:=Tryz.zeroValue3
 t4:=underlying4
 a4:=Tryz.isAgg4
 z4:=Tryz.sizeOf4
 v4:=Tryz.zeroValue4
 t5:=underlying5
 a5:=Tryz.isAgg5
 z5:=Tryz.sizeOf5
 v5:=Tryz.zeroValue5
 t9:=underlying9
 a9:=Tryz.isAgg9
 z9:=Tryz.sizeOf9
 v9:=Tryz.zeroValue9
 t22:=underlying39
 a22:=Tryz.isAgg39
 z22:=Tryz.sizeOf39
 v22:=Tryz.zeroValue39
 t25:=underlying70
 a25:=Tryz.isAgg70
 z25:=Tryz.sizeOf70
 v25:=Tryz.zeroValue70
 t39:=underlying92
 a39:=Tryz.isAgg92
 z39:=Tryz.sizeOf92
 v39:=Tryz.zeroValue92
 t45:=underlying120
 a45:=Tryz.isAgg120
 z45:=Tryz.sizeOf120
 v45:=Tryz.zeroValue120
 t46:=underlying121
 a46:=Tryz.isAgg121
 z46:=Tryz.sizeOf121
 v46:=Tryz.zeroValue121
 t50:=underlying125
 a50:=Tryz.isAgg125
 z50:=Tryz.sizeOf125
 v50:=Tryz.zeroValue125
 t53:=underlying128
 a53:=Tryz.isAgg128
 z53:=Tryz.sizeOf128
 v53:=Tryz.zeroValue128
 t55:=underlying130
 a55:=Tryz.isAgg130
 z55:=Tryz.sizeOf130
 v55:=Tryz.zeroValue130
 t66:=underlying170
 a66:=Tryz.isAgg170
 z66:=Tryz.sizeOf170
 v66:=Tryz.zeroValue170
 t70:=underlying174
 a70:=Tryz.isAgg174
 z70:=Tryz.sizeOf174
 v70:=Tryz.zeroValue174
 t76:=underlying216
 a76:=Tryz.isAgg216
 z76:=Tryz.sizeOf216
 v76:=Tryz.zeroValue216
 t77:=underlying217
 a77:=Tryz.isAgg217
 z77:=Tryz.sizeOf217
 v77:=Tryz.zeroValue217}
def clX(x:Wpl.Cl):List vW:=[O J x.s,O J x.r,O J x.c]
def JM:List Wpl.Cl->List vW
 |[]=>[]
 |x::r=>clX x++JM r
theorem zAn:∀A:List Wpl.Cl,(JM A).length=A.length*3
 |[]=>rfl
 |x::r=>by simp[JM,zAn r,clX];omega
theorem zDh:∀(A C:List Wpl.Cl),JM (A++C)=JM A++JM C
 |[],C=>rfl
 |x::r,C=>by simp[JM,zDh r C]
theorem zCy:∀(A:List Wpl.Cl)(i:Nat)(h:i<A.length)(c:Nat),c<3->(JM A)[i*3+c]?=(clX (A[i]))[c]?
 |[],i,h,c,hc=>absurd h (eY _)
 |x::r,0,h,c,hc=>by
  show(clX x++JM r)[0*3+c]?=_
  rw[xX,xZ,vZ (by simpa[clX]using hc)];rfl
 |x::r,i+1,h,c,hc=>by
  show(clX x++JM r)[(i+1)*3+c]?=_
  rw[tZ (by simp[clX];omega),show(i+1)*3+c-(clX x).length=i*3+c from by simp[clX];omega,zCy r i (by simpa using h) c hc];rfl
theorem zPc(x:Wpl.Cl):∀u∈clX x,u.oneCell'=fW:=λu h=>by
 simp[clX]at h;rcases h with h|h|h <;> (subst h;rfl)
theorem zSC:∀(l:List Wpl.Cl),∀u∈JM l,u.oneCell'=fW
 |[],u,hu=>by cases hu
 |y::r,u,hu=>by
  rcases List.mem_append.1 hu with q|q
  ·exact zPc y u q
  ·exact zSC r u q
theorem zDg(a b:Wpl.Cl):ltOf Wb.cmpC a b=Wb.ltC a b:=Wb.cmpC_lt a b
theorem zSO:SWO (ltOf Wb.cmpC):=⟨λx=>by rw[zDg,Wb.ltC_no];omega,λx y z d e=>by rw[zDg,Wb.ltC_iff]at*;omega,λx y z d e=>by rw[zDg,Wb.ltC_no]at*;omega⟩
abbrev inX:Inhabited Wpl.Cl:=⟨⟨0,0,0⟩⟩
theorem zMd(blk d size:Nat)(w:wW):@CmpLays Wpl.Cl inX prog 27 #[] clX 3 Wb.cmpC blk d size w:=λm g dk _ x y=>by
 refine(zNz x.s x.r x.c y.s y.r y.c _).mono ?_;rintro en j ⟨f,e⟩;exact⟨f,e.grow⟩
theorem zQB(l:List Wpl.Cl):(@flatK Wpl.Cl inX clX 3 l.toArray).toList=JM l:=by
 letI:Inhabited Wpl.Cl:=inX
 apply List.ext_getElem?
 intro t;by_cases h:t<l.length*3
 ·have f:t/3<l.length:=oM;have q:=zCy l (t/3) f (t%3) oM;rw[show t/3*3+t%3=t from by omega]at q;rw[q];have e:(l.toArray)[t/3]! = l[t/3]:=by simp[f]
  have d:t%3<(clX (l[t/3])).length:=by simp[clX];omega
  rw[Array.getElem?_toList];simp only[flatK,Array.getElem?_map,List.size_toArray,Array.getElem?_range,h,if_true,Option.map_some];rw[e,kZ d];congr 1
  rw[List.getElem!_eq_getElem?_getD,kZ d];rfl
 ·rw[uZ (by simp[size_flatK];omega),uZ (by rw[zAn];omega)]
theorem zCZ(l:List Wpl.Cl)(j:Nat)(d:j<l.length*3):(JM l)[j]?=eW ((@flatK Wpl.Cl inX clX 3 l.toArray)[j]!):=by
 rw[<-zQB,Array.getElem?_toList];have:j<(@flatK Wpl.Cl inX clX 3 l.toArray).size:=by simp[size_flatK];omega
 rw[getElem!_pos (@flatK Wpl.Cl inX clX 3 l.toArray) j this,Array.getElem?_eq_getElem this]
def SfP(l:List Wpl.Cl)(g:Nat)(w:wW)(en:Ending)(w':wW):Prop:=en=rX (uX #[])/\(∀j u,(JM (Wb.srt l))[j]?=eW u->w'.cell? ⟨g,j,zX⟩=eW u)/\w.grownBy w' (eW g)
theorem zJv(g n cap B:Nat)(l:List Wpl.Cl)(w:wW)(h:w.ownsRow B 36 3 (U (eW ⟨g,0,zX⟩) n cap) n (JM l))(hn:l.length=n)(R:True->n<=1000000000) :
  cW prog 26 #[U (eW ⟨g,0,zX⟩) n cap,.func (.func 27) #[] #[]] w (SfP l g w):=by
 have R:=R trivial;subst hn;have q:=(QL h rfl).2;have P:@HoldsK Wpl.Cl inX clX 3 w g 0 l.toArray:=λj hj=>by
  have d:j<l.length*3:=by simpa[size_flatK]using hj
  have e:=zCZ l j d;have T:=h.cells (g:=g) rfl j _ e;rw[show(⟨g,0,zX⟩:dW).add j=⟨g,0+j,zX⟩from by simp[Addr.add];intro h;omega]at T;refine⟨T,?_⟩;rcases h.2 with⟨e,_⟩|⟨g',N,aa,e,_,hg,_⟩
  ·cases e
  ·simp only[U.injEq,Option.some.injEq,Addr.mk.injEq]at e;obtain⟨⟨rfl,_⟩,_⟩:=e;simp[World.frozen?,hg]
 have eg:∀args w,(callFunc 27 args).run prog w=.ok (.enter 27 args) w:=enters_of func27 kR rfl;have f:=@AnyQ.slices_SortFunc_total prog zGH Wpl.Cl inX zSB 3 Tryz.isAgg36 Tryz.sizeOf36 clX (λ_=>rfl) zPc Wb.cmpC zSO 27 #[] g 0 cap l.toArray w eg (zMd g 0 l.length w) P q (by simp;omega) (λx y h1 h2=>by rw[zDg]at*;exact Wb.ltC_eq h1 h2);change cW prog 26 _ _ _ at f
 refine f.mono ?_;rintro en w' ⟨he,m,os,K⟩;have es:(l.toArray.toList.mergeSort λx y=>!(ltOf Wb.cmpC) y x)=Wb.srt l:=by
  unfold Wb.srt;congr 1
  funext x y
  rw[zDg];rfl
 rw[es]at K;have hs:(Wb.srt l).toArray.size=l.toArray.size:=by simp[Wb.srt_len]
 have s:@HoldsK Wpl.Cl inX clX 3 w' g 0 (Wb.srt l).toArray:=by
  rw[K];exact @holdsK_grow Wpl.Cl inX clX 3 _ os g 0 _ (by simpa[putRowK]using q) (@holdsK_putRowK Wpl.Cl inX clX 3 _ g 0 _ _ (@holdsK_ahead Wpl.Cl inX clX 3 w m g 0 _ P) hs)
 refine⟨he,λj u X=>?_,?_⟩
 ·have d:j<(Wb.srt l).length*3:=by rw[<-zAn];exact(List.getElem?_eq_some_iff.1 X).1
  have e:=zCZ (Wb.srt l) j d;rw[X]at e;have:=(s j (by simp only[size_flatK];simpa using d)).1;rw[xZ]at this;rw[this];exact e.symm
 ·rw[K];refine⟨rfl,rfl,rfl,by simp[sortWorldK,putRowK,grow,Sort.ahead],λk hk z=>?_⟩;have t:g≠k:=λe=>z (by rw[e])
  letI:Inhabited Wpl.Cl:=inX
  show(grow (putRowK clX 3 (Sort.ahead w m) g 0 (Wb.srt l).toArray) os).heap[k]?=_
  rw[heap_grow_old _ _ (by simpa[putRowK]using hk)];simp[putRowK,putRow,mapBlock,Sort.ahead,Array.getElem?_modify,t]
open Go.RowKit Go.Shelf
theorem zNb:(prog.info? 36).map (λi=>(i.zero,i.size,i.bytes))=eW (eW (gX #[O J 0,O J 0,O J 0]),3,24):=kR
theorem zNk:prog.underlying 39=eW (.slice 36):=kR
theorem zB7{P:Program}{t:TypeId}{z:vW}{s:Nat}(h:(P.info? t).map (λi=>(i.zero,i.size,i.bytes))=eW (eW z,s,b)):∃i,P.info? t=eW i/\i.zero=eW z/\i.size=s/\i.bytes=b:=by
 obtain⟨i,e,d⟩:=Option.map_eq_some_iff.1 h;simp only[Prod.mk.injEq]at d;exact⟨i,e,d.1,d.2.1,d.2.2⟩
theorem zE5{ops:Array Oper}{rest:List Oper}{a:Act}{Q:Exit->Act->wW->Prop}(q:o.guard=zX)(T x:Operand)(ho:o.op=.call {callee:=.builtin .append,args:=#[T,x],argTypes:=#[39,39]})
  (w:wW) (B:Nat) (hB:B<=w.heap.size) (v:vW) (n:Nat) (R:List vW) (hs:a.eval T=v) (f:w.ownsRow B 36 3 v n R) (k d m c:Nat) (l:List Wpl.Cl) (hm:l.length=m) (hx:a.eval x=U (eW ⟨k,d,zX⟩) m c) (g:∀j u,(JM l)[j]?=eW u->w.cell? ⟨k,d+j,zX⟩=eW u) (hn:n+m<=2000000000)
  (h:∀e w',w'.ownsRow B 36 3 e (n+m) (R++JM l)->w.grownBy w' v.ownBlock->(e.ownBlock=v.ownBlock\/e.ownBlock=eW w.heap.size)->wpList prog ops Q rest (a.put o.dst e) w'):wpList prog ops Q (o::rest) a w:=by
 refine wpList_plain q λK hK=>?_
 obtain⟨i0,s,t,y,N⟩:=zB7 zNb;obtain⟨e,w',hr,X,h3,_,h5⟩:=run_append_own_at (P:=prog) w B 39 o.type 36 i0 _ 3 24 zNk s t y N rfl dM v n R f ⟨k,d,zX⟩ m c (JM l) (by rw[zAn,hm]) (λj z hj=>by
   have:=g j z hj;rw[show(⟨k,d,zX⟩:dW).add j=⟨k,d+j,zX⟩from by
    simp[Addr.add];try(intro h0;omega)]
   exact this) (zSC l) (by unfold maxLen;omega) oM hB
 unfold Oper.wp execOp;simp only[ho,resolve,invoke,builtin,pY,qY,yZ,nY,oY,eX,hs,hx,hr];exact hK _ _ (h e w' X h3 h5)
def RdX(w:wW)(d:Option dW)(l:List Wpl.Cl):Prop:=∀(i:Nat)(x:Wpl.Cl),l[i]?=eW x->∃g,d=eW ⟨g,0,zX⟩/\w.rangeAt g (i*3) (clX x)
theorem RdX.below{d:Option dW}{l:List Wpl.Cl}(h:RdX w d l)(f:bL w w'):RdX w' d l:=λi x t=>by
 obtain⟨g,e,q⟩:=h i x t;exact⟨g,e,λj v s=>QB f (q j v s)⟩
def clS(s:Int)(K:List Wpl.Cl):List Wpl.Cl:=Wb.srt (K.filter (λx=>decide (x.s=s)))
theorem zNX{T d:List Wpl.Cl}(h:T.Perm d):Wb.srt T=Wb.srt d :=
 List.Perm.eq_of_pairwise (le:=λa b=>Wb.ltC b a=gW) (λa b _ _ h1 h2=>Wb.ltC_eq h2 h1) (Wb.srt_pw T) (Wb.srt_pw d) (((Wb.srt_perm T).trans h).trans (Wb.srt_perm d).symm)
def zQi(F:List (Wpl.Cl×Ct))(s:Int)(w:wW)(en:Ending)(w':wW):Prop :=
 (∃(d:Option dW)(cap:Nat),en=rX (U d (clS s (F.map (λp=>p.1))).length cap)/\RdX w' d (clS s (F.map (λp=>p.1)))/\∀g o,d=eW ⟨g,o,zX⟩->w.heap.size<=g)/\bL w w'
theorem zG0(bb mb:Nat)(nv:vW)(ver s:Int)(F:List (Wpl.Cl×Ct))(w:wW)(h:AtL w bb [nv,O J ver,.map (eW mb)])(hm:MB w mb F)(hK:KB F)(hF:True->F.length<=1000000) :
  cW prog 11 #[pX (eW ⟨bb,0,zX⟩),O J s] w (zQi F s w):=by
 obtain⟨_,_,c2,_⟩:=h.three;obtain⟨w1,aE,⟨k,aI,hit⟩,al⟩:=zOD hm;have ab:=hid hit;have ae:=hid al;have HK:=hid hK;have aJ:mb<w.heap.size:=hm.lt;clear h hm hit al hK;go_enter func11,ntmps11;go_upto_region 3 with fail
 clear aE c2;go_loopg [5] k (λgk u wr=>∃(D T:List Wpl.Cl),Hid (ItB wr w.heap.size mb F D gk)/\Hid (T.Nodup/\(∀y∈T,y∈D)/\(∀y∈T,y.s=s/\∃f,(y,f)∈F)/\(T.length<=D.length/\D.length+gk<=k)/\∀y∈D,y.s=s->y∈T)/\Hid (wr.ownsRow (w.heap.size+1) 36 3 u T.length (JM T))/\Hid (bL w wr/\w.heap.size+1<=wr.heap.size))
 case atStart=>exact⟨[],[],ab,⟨sM,sM,sM,⟨sM,sM⟩,sM⟩,⟨rfl,pZ ⟨rfl,rfl⟩⟩,⟨ae.out,ab.out.lt.1⟩⟩
 case round =>
  obtain⟨D,T,HI,HT,HO,HB⟩:=hrel;generalize aF:wr=W at*;clear aF ab ae;rcases HI.out.next HK.out 0 with⟨ar,P⟩|⟨x,f,X,av,aq,ar,aD,fr2,k',ap,R⟩
  ·have aG:=HB;have HC:Hid (Wb.srt T=clS s (F.map (λp=>p.1))/\T.length<=1000000):=by
    obtain⟨t1,t2,t3,⟨t4,t5⟩,t6⟩:=HT.out;refine⟨zNX ((uY t1 (List.filter_sublist.nodup HK.out)).2 λy=>?_),by have:=hF trivial;omega⟩;rw[List.mem_filter,yX,decide_eq_true_eq];refine⟨λhy=>?_,λ⟨⟨p,hp,e⟩,hs⟩=>t6 y (by rw[<-e];exact P p hp) hs⟩;obtain⟨h1,f,h2⟩:=t3 y hy;exact⟨⟨_,h2,rfl⟩,h1⟩
   have ag:Hid ((clS s (F.map (λp=>p.1))).length=T.length):=by show _=_;rw[<-HC.out.1,Wb.srt_len]
   clear P;rcases HO.out.2 with⟨e,h0⟩|⟨g,cap,aH,e,am,_⟩
   ·subst e;have hT:T=[]:=iZ h0;have HE:Hid (zQi F s w (rX (U zX 0 0)) W):=⟨⟨zX,0,by rw[ag.out,hT];rfl,λi x hx=>(by rw[<-HC.out.1,hT]at hx;simp[Wb.srt]at hx),λg o e=>by cases e⟩,HB.out.1⟩
    have SF:=λW=>AnyF.slices_SortFunc_none zSB zX 0 (.func (.func 27) #[] #[]) W
    change ∀W,cW prog 26 _ _ _ at SF
    clear HI HO HT HB h0 hT;go_wp2_with fail
    refine(SF _).mono ?_;rintro en X ⟨rfl,rfl⟩;go_wp2;go_ret;exact HE.out
   ·subst e;have SF:=zJv g T.length cap (w.heap.size+1) T W HO.out rfl (λ_=>by have:=HC.out.2;omega);have HG:=hid am;clear HI am;go_wp2_with fail
    refine SF.mono ?_;rintro en X ⟨rfl,hc,ao⟩;have HE:Hid (zQi F s w (rX (U (eW ⟨g,0,zX⟩) T.length cap)) X):=by
     have fr2:Fr [g] W X:=Fr.of_grown ao (λk e=>by cases e;simp);refine⟨⟨_,_,by rw[ag.out],λi x hx=>⟨g,rfl,λj v hv=>?_⟩,λg' o e=>by cases e;have:=HG.out;omega⟩,(Fr.new (Fr.of_below [] HB.out.1) fr2 (λk hk=>gZ (by simp at hk;have:=HG.out;omega))).to_below sM⟩;rw[<-HC.out.1]at hx;obtain⟨hi,e⟩:=List.getElem?_eq_some_iff.1 hx;have hj:j<3:=by
      have:=(List.getElem?_eq_some_iff.1 hv).1;simpa[clX]using this
     refine hc _ _ ?_;rw[zCy _ i hi j hj,e];exact hv
    clear SF hc ao;go_wp2;go_ret;exact HE.out
  ·have ah:=hid R;have HX:Hid (((x,f)∈F/\x∉D)/\k'<gk):=⟨⟨av,aq⟩,ap⟩
   have aj:=hid (QZ fr2 HO.out (λg e hg=>by simp at hg;have:=(QL HO.out e).1;omega));have aa:=hid (And.intro (((Fr.of_below [w.heap.size] HB.out.1).trans fr2).to_below sM) (nZ HB.out.2 fr2.size));have d:=QI (cZ _ X) (Z #[O J x.s,O J x.r,O J x.c] 36);have q3:=AtL.new0 X 36 [O J x.s,O J x.r,O J x.c];have ac:=hid (ah.out.fr (Fr.of_below [] d) sM sM);have ad:=hid (QZ (Fr.of_below [] d) aj.out sM);have q:=hid (And.intro (QA aa.out.1 d) (nZ aa.out.2 d.size));clear R av aq ap fr2 HI HO HB ah aj aa d;go_upto_region 5 with fail
   clear ar aD;generalize X.alloc (Z #[O J x.s,O J x.r,O J x.c] 36)=N at*;generalize aC:X.heap.size=eb at*;clear aC;obtain⟨j0,j1,j2,_⟩:=q3.three;by_cases aw:x.s=s
   ·subst aw;have l:=QI (cZ _ N) (Z #[O J x.s,O J x.r,O J x.c] 36);have q4:=AtL.new0 N 36 [O J x.s,O J x.r,O J x.c];have o4:(N.alloc (Z #[O J x.s,O J x.r,O J x.c] 36)).ownsRow (w.heap.size+1) 36 3 u5 T.length (JM T):=QZ (Fr.of_below [] l) ad.out sM;have ai:=hid (ac.out.fr (Fr.of_below [] l) sM sM);have t:=hid (And.intro (QA q.out.1 l) (nZ q.out.2 l.size));have au:=t.out.2;have af:Hid (∀j v,(JM [x])[j]?=eW v->(N.alloc (Z #[O J x.s,O J x.r,O J x.c] 36)).cell? ⟨N.heap.size,0+j,zX⟩=eW v):=λj v hv=>by rw[xZ];exact q4.2.1 j v hv
    have ak:T.length+1<=2000000000:=by have:=HT.out.2.2.2.1;have:=hF trivial;omega
    clear q3 l q4 ac ad q;go_wp2_with (at_builtin;refine zE5 rfl (mX 20) (mX 22) rfl (N.alloc (Z #[O J x.s,O J x.r,O J x.c] 36)) (w.heap.size+1) au u5 T.length _ rfl o4 N.heap.size 0 1 1 [x] rfl rfl af.out ak ?_;intro v5 w5 o5 an _)
    have z:Fr u5.ownBlock.toList (N.alloc (Z #[O J x.s,O J x.r,O J x.c] 36)) w5:=Fr.of_grown an (λk e=>by rw[e];simp);have K:∀g,g∈u5.ownBlock.toList->w.heap.size+1<=g:=λg hg=>(QL o4 (by simpa using hg)).1
    have ay:=hid (ai.out.fr z (λhg=>by have:=K _ hg;omega) (λhg=>by have:=K _ hg;omega));have ax:=hid (And.intro ((Fr.new (Fr.of_below [] t.out.1) z (λk hk=>gZ (by have:=K k hk;omega))).to_below sM) (nZ t.out.2 z.size));have az:Hid (w5.ownsRow (w.heap.size+1) 36 3 v5 (T++[x]).length (JM (T++[x]))):=by
     show World.ownsRow _ _ _ _ _ _ _
     rw[zDh,oZ];exact o5
    have aB:Hid ((T++[x]).Nodup/\(∀y∈T++[x],y∈x::D)/\(∀y∈T++[x],y.s=x.s/\∃f,(y,f)∈F)/\((T++[x]).length<=(x::D).length/\(x::D).length+k'<=k)/\∀y∈x::D,y.s=x.s->y∈T++[x]):=by
     obtain⟨t1,t2,t3,⟨t4,t5⟩,t6⟩:=HT.out;obtain⟨⟨x1,x2⟩,x3⟩:=HX.out;refine⟨?_,λy hy=>?_,λy hy=>?_,⟨by simp;omega,by simp;omega⟩,λy hy hs=>?_⟩
     ·rw[List.nodup_append];refine⟨t1,sM,λa ha b hb e=>?_⟩;simp at hb;rw[e,hb]at ha;exact x2 (t2 x ha)
     ·rcases List.mem_append.1 hy with hy|hy
      ·exact wZ _ (t2 y hy)
      ·simp at hy;rw[hy];exact rY
     ·rcases List.mem_append.1 hy with hy|hy
      ·exact t3 y hy
      ·simp at hy;rw[hy];exact⟨rfl,f,x1⟩
     ·rcases List.mem_cons.1 hy with rfl|hy
      ·simp
      ·exact List.mem_append_left _ (t6 y hy hs)
    clear o4 o5 an z K ai t af au ak;go_wp2_with fail
    go_roundg k'
    case rel=>exact⟨x::D,T++[x],ay,aB,az,ax⟩
    case measure=>exact HX.out.2
   ·have aA:Hid (T.Nodup/\(∀y∈T,y∈x::D)/\(∀y∈T,y.s=s/\∃f,(y,f)∈F)/\(T.length<=(x::D).length/\(x::D).length+k'<=k)/\∀y∈x::D,y.s=s->y∈T):=by
     obtain⟨t1,t2,t3,⟨t4,t5⟩,t6⟩:=HT.out;have:=HX.out.2;refine⟨t1,λy hy=>wZ _ (t2 y hy),t3,⟨by simp;omega,by simp;omega⟩,λy hy hs=>?_⟩;rcases List.mem_cons.1 hy with rfl|hy
     ·exact absurd hs aw
     ·exact t6 y hy hs
    go_wp2_with fail
    go_roundg k'
    case rel=>exact⟨x::D,T,ac,aA,ad,q⟩
    case measure=>exact HX.out.2
open Go.RowKit Wf
def Jy:List Ch->List vW
 |[]=>[]
 |a::r=>chL a++Jy r
theorem zB3:∀L:List Ch,(Jy L).length=L.length*4
 |[]=>rfl
 |a::r=>by simp[Jy,zB3 r,chL];omega
theorem zCs:∀(L:List Ch)(i:Nat)(h:i<L.length)(c:Nat),c<4->(Jy L)[i*4+c]?=(chL (L[i]))[c]?
 |[],i,h,c,hc=>absurd h (eY _)
 |x::r,0,h,c,hc=>by
  show(chL x++Jy r)[0*4+c]?=_
  rw[xX,xZ,vZ (by simpa[chL]using hc)];rfl
 |x::r,i+1,h,c,hc=>by
  show(chL x++Jy r)[(i+1)*4+c]?=_
  rw[tZ (by simp[chL];omega),show(i+1)*4+c-(chL x).length=i*4+c from by simp[chL];omega,zCs r i (by simpa using h) c hc];rfl
theorem zSE:∀(l:List Ch),∀u∈Jy l,u.oneCell'=fW
 |[],u,hu=>by cases hu
 |y::r,u,hu=>by
  rcases List.mem_append.1 hu with q|q
  ·simp[chL]at q;rcases q with h|h|h|h <;> (subst h;rfl)
  ·exact zSE r u q
theorem zQ3:(prog.info? 38).map (λi=>(i.zero,i.size,i.bytes))=eW (eW (gX #[O J 0,O J 0,O J 0,V ⟨#[]⟩]),4,40):=kR
theorem zHR:prog.underlying 23=eW (.slice 38):=kR
theorem RdH.flat{d:Nat}(h:RdH w (eW ⟨b,d,zX⟩) L):∀j u,(Jy L)[j]?=eW u->w.cell? ⟨b,d+j,zX⟩=eW u:=λj u hu=>by
 have q:j<L.length*4:=by rw[<-zB3];exact(List.getElem?_eq_some_iff.1 hu).1
 have g:j/4<L.length:=oM;have e:j=j/4*4+j%4:=oM;rw[e,zCs L (j/4) g (j%4) oM]at hu;obtain⟨bb,o,f,l⟩:=h (j/4) _ (kZ g);simp only[Option.some.injEq,Addr.mk.injEq]at f;obtain⟨rfl,rfl,_⟩:=f;have:=l (j%4) u hu;rwa [show d+j/4*4+j%4=d+j from by omega]at this
theorem zK0{B:Nat}{v:vW}(h:w.ownsRow B 38 4 v L.length (Jy L)):∃d cap,v=U d L.length cap/\RdH w d L/\∀g o,d=eW ⟨g,o,zX⟩->B<=g:=by
 rcases h.2 with⟨e,q⟩|⟨g,cap,l,e,s,T,K,N,P,R⟩
 ·subst e;exact⟨zX,0,by rw[q],(λi a f=>by have:=(List.getElem?_eq_some_iff.1 f).1;omega),λg o e=>by cases e⟩
 ·subst e;refine⟨_,cap,rfl,λi a f=>⟨g,0,rfl,λj u hu=>?_⟩,λg' o e=>?_⟩
  ·obtain⟨y,e⟩:=List.getElem?_eq_some_iff.1 f;have z:j<4:=by
    have:=(List.getElem?_eq_some_iff.1 hu).1;simpa[chL]using this
   have t:=h.cells (g:=g) rfl (i*4+j) u (by rw[zCs L i y j z,e];exact hu);rwa [show(⟨g,0,zX⟩:dW).add (i*4+j)=⟨g,0+i*4+j,zX⟩from by simp[Addr.add];try(intro h;omega)]at t
  ·simp only[Option.some.injEq,Addr.mk.injEq]at e;omega
theorem zCO{ops:Array Oper}{rest:List Oper}{a:Act}{Q:Exit->Act->wW->Prop}(aa:o.guard=zX)(sl x:Operand)(ho:o.op=.call {callee:=.builtin .append,args:=#[sl,x],argTypes:=#[23,23]})
  (w:wW) (B:Nat) (hB:B<=w.heap.size) (v:vW) (hs:a.eval sl=v) (f:w.ownsRow B 38 4 v 0 []) (p:Option dW) (m k:Nat) (L:List Ch) (hm:L.length=m) (hx:a.eval x=U p m k) (hr:RdH w p L) (ac:p=zX->m=0/\k=0) (hn:m<=1000000000)
  (h:∀q w',w'.ownsRow B 38 4 q m (Jy L)->w.grownBy w' v.ownBlock->wpList prog ops Q rest (a.put o.dst q) w'):wpList prog ops Q (o::rest) a w:=by
 refine wpList_plain aa λK hK=>?_
 obtain⟨i0,g,t,y,N⟩:=zB7 zQ3;by_cases R:L=[]
 ·subst R;have ab:m=0:=hm.symm;subst ab;cases p with
  |none =>
   obtain⟨_,rfl⟩:=ac rfl;have d:=run_append_owned_none (P:=prog) (w:=w) B 23 o.type 38 i0 4 zHR g _ 0 [] f;unfold Oper.wp execOp;simp only[ho,resolve,invoke,builtin,pY,qY,yZ,nY,oY,eX,hs,hx,d];exact hK _ _ (h _ _ f (World.grownBy.refl _ _))
  |some ad =>
   obtain⟨q,w',d,T,X,_,h5⟩:=run_append_own_at (P:=prog) w B 23 o.type 38 i0 _ 4 40 zHR g t y N rfl dM v 0 [] f ad 0 k [] rfl (λj z hj=>by simp at hj) (λu hu=>by cases hu) dM dM hB;unfold Oper.wp execOp;simp only[ho,resolve,invoke,builtin,pY,qY,yZ,nY,oY,eX,hs,hx,d];exact hK _ _ (h q w' (by simpa[Jy]using T) X)
 ·have s:0<L.length:=List.length_pos_iff.2 R;obtain⟨b,l,e,_⟩:=hr 0 _ (kZ s);subst e;obtain⟨q,w',d,T,X,_,h5⟩:=run_append_own_at (P:=prog) w B 23 o.type 38 i0 _ 4 40 zHR g t y N rfl dM v 0 [] f ⟨b,l,zX⟩ m k (Jy L) (by rw[zB3,hm]) (λj z hj=>by
   have:=hr.flat j z hj;rw[show(⟨b,l,zX⟩:dW).add j=⟨b,l+j,zX⟩from by
    simp[Addr.add];try(intro R;omega)]
   exact this) (zSE L) (by unfold maxLen;omega) oM hB
  unfold Oper.wp execOp;simp only[ho,resolve,invoke,builtin,pY,qY,yZ,nY,oY,eX,hs,hx,d];exact hK _ _ (h q w' (by simpa using T) X)
def mkS(rs:Ch->List I⊕(Int×Int))(E:List (List Ch)):Int×List (Wpl.Cl×Ce):=E.foldl (λs L=>(edP 2 rs s.1 s.2 L).2) (0,[])
theorem zL6(rs:Ch->List I⊕(Int×Int)){E:List (List Ch)}{i:Nat}{L:List Ch}(h:E[i]?=eW L):mkS rs (E.take (i+1))=(edP 2 rs (mkS rs (E.take i)).1 (mkS rs (E.take i)).2 L).2:=by
 unfold mkS;rw[List.take_add_one,h,List.foldl_append];rfl
def MkI(rs:Ch->List I⊕(Int×Int))(k:Nat)(n:Nat)(s:Int×List (Wpl.Cl×Ce)):Prop:=GOk 2 rs s.2/\2*s.2.length<=k/\0<=s.1/\s.1<=(n:Int)
theorem MkI.step{k f:Nat}{s:Int×List (Wpl.Cl×Ce)}(h:MkI rs k n s){r:(Int×Int×Int)×Int×List (Wpl.Cl×Ce)}(l:EdC 2 rs s.1 s.2 L r)(u:k+(L.length+szH L)<=f):MkI rs f (n+1) r.2:=by
 obtain⟨g,q,j,t⟩:=h;rcases l with⟨_,e,_⟩|⟨_,e,_,_,d⟩
 ·rw[e];exact⟨g,by show 2*s.2.length<=_;omega,j,by show s.1<=_;omega⟩
 ·have:=d.len;exact⟨d.ok,oM,oM,oM⟩
theorem BK.fr{S:List Nat}{bb mb lo:Nat}{na:Option dW}{nk:Nat}{ver:Int}(h:BK w bb mb lo na nk nm ver G)(d:Fr S w w')(f:∀k∈S,k<lo/\k≠bb/\k≠mb/\∀g o,na=eW ⟨g,o,zX⟩->k≠g):BK w' bb mb lo na nk nm ver G:=by
 obtain⟨F,j,m2⟩:=h.mp;exact⟨zBv h.hd d (λq=>(f _ q).2.1 rfl),h.rs.fr d (λg o e q=>(f _ q).2.2.2 g o e rfl),h.kp,h.nb,⟨F,j.fr d (λq=>(f _ q).2.2.1 rfl),m2.fr d (λk q=>(f k q).1)⟩,⟨h.lt.1,h.lt.2.1,nZ h.lt.2.2 d.size⟩,h.ne⟩
def MaQ(rs:Ch->List I⊕(Int×Int))(E:List (List Ch))(w:wW)(e:Ending)(w':wW):Prop :=
 ∃bb mb lo na nk,e=rX (pX (eW ⟨bb,0,zX⟩))/\BK w' bb mb lo na nk [sS,sT] (mkS rs E).1 (mkS rs E).2/\MkI rs (wtE E) E.length (mkS rs E)/\bL w w'/\w.heap.size<=bb/\w.heap.size<=mb/\∀g o,na=eW ⟨g,o,zX⟩->w.heap.size<=g/\g<w'.heap.size
theorem zJ5:∀{E:List (List Ch)}{L:List Ch},L∈E->L.length<=wtE E
 |[],L,h=>by cases h
 |x::r,L,h=>by
  simp only[wtE,oY,List.sum_cons];rcases List.mem_cons.1 h with rfl|h
  ·omega
  ·have:=zJ5 h;simp only[wtE]at this;omega
theorem zQ8(E:List (List Ch))(i:Nat):wtE (E.take i)<=wtE E:=by
 have e:wtE E=wtE (E.take i)+wtE (E.drop i):=by
  conv=>lhs;rw[<-mZ i E]
  unfold wtE;rw[List.map_append,List.sum_append]
 omega
theorem zNG(rs:Ch->List I⊕(Int×Int))(al:zPM [sS,sT] rs)(E:List (List Ch))(av:Option dW)(n cap:Nat)(w:wW)(hE:BEnv w)(hr:RdE w av E)(hn:E.length=n)(hw:E.length+wtE E<=6000)(u:∀L∈E,∀a∈L,a.t.size<=1000000000000000) :
  cW prog 6 #[U av n cap] w (MaQ rs E w):=by
 have X:=QI (cZ _ w) (Z #[V sS,V sT] 9);have NW:=zNB w.heap.size (w.alloc (Z #[V sS,V sT] 9)) (hE.1.1.below X) (zJl w);have au:=hid al;have s:=hid (And.intro hE (And.intro hr (And.intro hn (And.intro hw u))));have P:=hid X;clear hE X hr hn hw u al;go_enter func6,ntmps6;go_wp2_with fail
 refine NW.mono ?_;rintro e w1 ⟨bb,mb,na,nk,rfl,hk,ae,ax,aA,ai⟩;have R:=hid (QA P.out ae);have f:Hid (w.heap.size<=bb/\w.heap.size<=mb/\w.heap.size<=w1.heap.size/\∀g o,na=eW ⟨g,o,zX⟩->w.heap.size<=g/\g<w1.heap.size):=by
  have:=P.out.size;exact⟨oM,oM,R.out.size,λg o e=>by have:=ai g o e;omega⟩
 have ab:=hid hk;clear NW hk ae ax aA ai P;go_upto_region 3 with fail
 go_loopg [5] n (λgk x wr=>∃(i:Nat)(ver:Int)(G:List (Wpl.Cl×Ce)),x=O J (i:Int)/\gk=n-i/\Hid (i<=n)/\Hid (BK wr bb mb w1.heap.size na nk [sS,sT] ver G)/\Hid (mkS rs (E.take i)=(ver,G)/\MkI rs (wtE (E.take i)) i (ver,G))/\Hid (bL w wr))
 case atStart=>exact⟨0,0,[],rfl,rfl,qZ _,ab,⟨rfl,⟨⟨by simp[KB],λp hp=>by cases hp⟩,qZ _,oM,by show(0:Int)<=_;omega⟩⟩,R⟩
 case round =>
  obtain⟨i,ver,G,rfl,hg,HI,z,j,N⟩:=hrel;generalize aC:wr=W at*;clear aC ab R;by_cases ah:i<n
  ·have ay:(i:Int)<(n:Int):=oM;have aD:(0:Int)<=(i:Int):=oM;have aF:n<=6000:=by have:=s.out.2.2;omega
   have aG:J.wrap ((i:Int)+1)=(i:Int)+1:=by rw[jZ];omega
   obtain⟨L,u⟩:∃L,E[i]?=eW L:=⟨E[i]'(by rw[s.out.2.2.1];exact ah),kZ _⟩
   obtain⟨cb,aH,p,l,kk,e,k0,az,ak,aB⟩:=(s.out.2.1.below N.out) i L u;subst e;have aE:l<=6000:=by
    have h1:=zJ5 (kX u);have:=s.out.2.2.2.1;omega
   have T:Hid (L.length=l/\(∀a∈L,a.t.size<=1000000000000000)/\wtE (E.take (i+1))=wtE (E.take i)+(L.length+szH L)/\mkS rs (E.take (i+1))=(edP 2 rs ver G L).2):=⟨az,s.out.2.2.2.2 L (kX u),zFh u,by rw[zL6 rs u,j.out.1]⟩
   have d:=QI (cZ _ W) (Z #[] 38);have oE:(W.alloc (Z #[] 38)).ownsRow W.heap.size 38 4 (U (eW ⟨W.heap.size,0,zX⟩) 0 0) 0 []:=⟨rfl,gZ ⟨W.heap.size,0,#[],rfl,eZ _,(Go.MapKept.heap_alloc W _).1,eZ _,by unfold maxLen;omega,rfl,rfl⟩⟩
   have an:=hid (QA N.out d);have aq:=hid (z.out.below d);have K:=ak.below d;have k2:=QB d k0;have am:W.heap.size<=(W.alloc (Z #[] 38)).heap.size:=d.size;have aw:=hid z.out.lt.2.2;clear u ak d k0;go_wp2_with (at_builtin;refine zCO rfl (mX 18) (mX 22) rfl (W.alloc (Z #[] 38)) W.heap.size am (U (eW ⟨W.heap.size,0,zX⟩) 0 0) rfl oE p l kk L T.out.1 rfl K aB oM ?_;intro v3 w3 o3 af)
   have y:bL W w3:=(Fr.new (Fr.of_below [] (QI (cZ _ W) (Z #[] 38))) (Fr.of_grown (S:=[W.heap.size]) af (λk e=>by cases e;simp)) (λk hk=>gZ (by simp at hk;omega))).to_below sM;rw[<-T.out.1]at o3;obtain⟨a3,c3,rfl,aj,ad⟩:=zK0 o3;rw[T.out.1];have ED:=zGA bb mb w1.heap.size na nk [sS,sT] rs au.out ver G a3 l c3 L w3 (s.out.1.below (QA N.out y)) (z.out.below y) aj T.out.1 j.out.2.1 (by have h:2*G.length<=_:=j.out.2.2.1;have:=zQ8 E i;have:=s.out.2.2.2.1;omega) ⟨j.out.2.2.2.1,by have h:ver<=(i:Int):=j.out.2.2.2.2;omega⟩ (λg o e=>by have:=ad g o e;have:=z.out.lt;have:=aw.out;omega) T.out.2.1;have aa:=hid (QA N.out y);clear o3 af aj ad y oE an aq K k2 am z N;go_wp2_with fail
   refine ED.mono ?_;rintro e w4 ⟨r,hc,hr,rfl,ag,ac⟩;have ar:=hid ag;have ao:=hid ((Fr.new (Fr.of_below [] aa.out) ac (λk hk=>gZ (by simp at hk;have:=f.out;omega))).to_below sM);have ap:Hid (mkS rs (E.take (i+1))=(r.2.1,r.2.2)/\MkI rs (wtE (E.take (i+1))) (i+1) (r.2.1,r.2.2)):=⟨by rw[T.out.2.2.2,hr];rfl,j.out.2.step hc (by rw[T.out.2.2.1];exact eZ _)⟩
   clear ED ag ac hc hr j aa;go_wp2_with fail
   go_roundg (n-(i+1))
   case rel=>exact⟨i+1,r.2.1,r.2.2,sM,rfl,ah,ar,ap,ao⟩
   case measure=>omega
  ·have ay:¬(i:Int)<(n:Int):=oM;have HE:Hid (MaQ rs E w (rX (pX (eW ⟨bb,0,zX⟩))) W):=by
    have hi:i=n:=by have:=HI.out;omega
    have e:E.take i=E:=lY (by have:=s.out.2.2.1;omega);have h1:=j.out;rw[e,hi]at h1;refine⟨bb,mb,w1.heap.size,na,nk,rfl,?_,?_,N.out,f.out.1,f.out.2.1,λg o q=>?_⟩
    ·rw[h1.1];exact z.out
    ·rw[h1.1,s.out.2.2.1];exact h1.2
    ·have:=f.out.2.2.2 g o q;have:=z.out.lt.2.2;omega
   clear z j N;go_wp2;go_ret;exact HE.out
theorem zRl:(#[O J 0,O J 0,O J 0,V ⟨#[]⟩,Y gW,O J 0]:Array vW).all (·.oneCell')=fW:=all_oneCell_toArray (λv d=>by simp at d;rcases d with rfl|rfl|rfl|rfl <;> rfl)
theorem zJm(w:wW):CR 36 #[] w (gX #[O J 0,O J 0,O J 0,V ⟨#[]⟩,Y gW,O J 0]):=by
 go_enter func36,ntmps36;go_wp2;refine bodyPost_ret (v:=vlV Wt.v0) (by simp[results,results36,go_sem,vlV,vl6,Wt.v0]) rfl ⟨rfl,?_⟩;exact clA
theorem zAy(b:Bool)(s:ByteArray)(w:wW)(h:s.toList=if b then[84,82,85,69]else[70,65,76,83,69]):cW prog 56 #[V s] w λe w'=>e=rX (uX #[Y b,Y fW])/\w=w':=by
 have d:(s.toList == [84,82,85,69])=b:=by rw[h];cases b <;> rfl
 have f:(s.toList == [70,65,76,83,69]) = !b:=by rw[h];cases b <;> rfl
 clear h;cases b
 all_goals
  go_enter func56,ntmps56;go_wp2;go_ret2
  exact⟨rfl,rfl⟩
theorem zMF(s:ByteArray)(w:wW)(d:0<s.size)(g:s.size<=1000000000000000)(j:((s.extract 0 1).toList == [39])=fW) :
  cW prog 50 #[V s,V ⟨#[39]⟩] w λe w'=>e=rX (uX #[V (s.extract 1 s.size),Y fW])/\w=w':=by
 have f:(1:Int)<=(s.size:Int):=oM;go_enter func50,ntmps50;go_wp2;go_ret2
 exact⟨rfl,rfl⟩
def rdV(s:ByteArray):Wt.Vl :=
 if s.size=0 then Wt.v0 else if((s.extract 0 1).toList == [39])=fW then VU (s.extract 1 s.size)else if Wnum.oB (Wnum.rdO s)=fW then Vx (Wnum.oN (Wnum.rdO s)) (Wnum.oD (Wnum.rdO s))else
 if s.toList=[84,82,85,69]then Qd fW else if s.toList=[70,65,76,83,69]then Qd gW else if fi s.toList 0 fNames=0 then VU s else Jr (fi s.toList 0 fNames:Nat)
theorem zJE(s:ByteArray)(w:wW)(hF:FltAt w)(hs:s.size<=1000000000000000):CR 37 #[V s] w (vlV (rdV s)):=by
 have N:=vlz w;have l:=QI (cZ _ w) (Z zV0 64);have q:=hF.below l;obtain⟨aa,g⟩:=xV (rdV s)
 rw[g];unfold rdV at g;by_cases h0:s.size=0
 rw[if_pos h0]at g;have ac:s.toList.isEmpty=fW:=by
  rw[ByteArray.toList_eq,show s.data.toList=[]from iZ h0];rfl
 have j:∀w,CR 36 #[] w (vlV Wt.v0):=zJm
 rw[g]at j;simp only[vlV,vl6]at j;clear g;focus
  go_enter func37,ntmps37;go_wp2_with fail
  refine(j _).mono ?_;rintro e X ⟨rfl,d⟩;have f:=AtL.below d N;have y:=QA l d
 rotate_left
 rw[if_neg h0]at g;have ac:s.toList.isEmpty=gW:=zDF (λe=>by subst e;exact h0 rfl);rcases xY ((s.extract 0 1).toList == [39])with hx|hx
 rw[if_pos hx]at g;have R:=λw=>zMF s w oM hs hx
 have hz:(s.extract 1 s.size).size<=1000000000000000:=by rw[ByteArray.size_extract];omega
 have j:=λw=>zAf (s.extract 1 s.size) w oM
 rw[g]at j;simp only[vlV,vl6]at j;clear g;clear hz hx;focus
  go_enter func37,ntmps37;go_wp2_with fail
  refine(R _).mono ?_;rintro e w1 ⟨rfl,rfl⟩;go_wp2_with fail
  refine(j _).mono ?_;rintro e X ⟨rfl,d⟩;have f:=AtL.below d N;have y:=QA l d
 rotate_left
 rw[if_neg (by rw[hx];decide)]at g;have R:=λw=>zDi s w oM hx
 have T:=λw=>zCh s w oM
 have C4:=λw h=>zAw s w h
 obtain⟨⟨b1,b2⟩,b3,b4⟩:=zNC s;generalize Wnum.oN (Wnum.rdO s)=nn at*;generalize Wnum.oD (Wnum.rdO s)=dd at*;generalize fi s.toList 0 fNames=c at*;clear hx;rcases xY (Wnum.oB (Wnum.rdO s))with hq|hq
 rw[if_pos hq]at g;rw[hq]at T;have j:=λw=>zDA nn dd w b1 b2 b3 b4
 rw[g]at j;simp only[vlV,vl6]at j;clear g;clear hq b1 b2 b3 b4;focus
  go_enter func37,ntmps37;go_wp2_with fail
  refine(R _).mono ?_;rintro e w1 ⟨rfl,rfl⟩;go_wp2_with fail
  refine(T _).mono ?_;rintro e w2 ⟨rfl,d⟩;have u:=AtL.below d N;have t:=QA l d;have z:=q.below d;clear N l q d;go_wp2_with fail
  refine(j _).mono ?_;rintro e X ⟨rfl,d⟩;have f:=AtL.below d (AtL.alloc u _);have y:=QA (QI t _) d
 rotate_left
 rw[if_neg (by rw[hq];decide)]at g;rw[hq]at T;clear hq b1 b2 b3 b4;by_cases ht:s.toList=[84,82,85,69]\/s.toList=[70,65,76,83,69]
 obtain⟨tb,C5,e5⟩:∃tb,(∀w,cW prog 56 #[V s] w λe w'=>e=rX (uX #[Y tb,Y fW])/\w=w')/\(if s.toList=[84,82,85,69]then Qd fW else if s.toList=[70,65,76,83,69]then Qd gW else if c=0 then VU s else Jr (c:Nat))=Qd tb:=by
  rcases ht with h|h
  ·exact⟨fW,λw=>zAy fW s w h,if_pos h⟩
  ·exact⟨gW,λw=>zAy gW s w h,by rw[if_neg (by rw[h];decide),if_pos h]⟩
 rw[e5]at g;clear e5 ht;have j:=λw=>zA4 tb w
 rw[g]at j;simp only[vlV,vl6]at j;clear g;focus
  go_enter func37,ntmps37;go_wp2_with fail
  refine(R _).mono ?_;rintro e w1 ⟨rfl,rfl⟩;go_wp2_with fail
  refine(T _).mono ?_;rintro e w2 ⟨rfl,d⟩;have u:=AtL.below d N;have t:=QA l d;have z:=q.below d;clear N l q d;go_wp2_with fail
  refine(C5 _).mono ?_;rintro e w3 ⟨rfl,rfl⟩;go_wp2_with fail
  refine(j _).mono ?_;rintro e X ⟨rfl,d⟩;have f:=AtL.below d (AtL.alloc u _);have y:=QA (QI t _) d
 rotate_left
 obtain⟨n1,n2⟩:=not_or.1 ht;rw[if_neg n1,if_neg n2]at g;have C5:=λw=>zA8 s w n1 n2
 clear n1 n2 ht;by_cases K:c=0
 rw[if_pos K]at g;have ab:((c:Int) == 0)=fW:=by rw[K];rfl
 clear K;have j:=λw=>zAf s w oM
 rw[g]at j;simp only[vlV,vl6]at j;clear g;focus
  go_enter func37,ntmps37;go_wp2_with fail
  refine(R _).mono ?_;rintro e w1 ⟨rfl,rfl⟩;go_wp2_with fail
  refine(T _).mono ?_;rintro e w2 ⟨rfl,d⟩;have u:=AtL.below d N;have t:=QA l d;have z:=q.below d;clear N l q d;go_wp2_with fail
  refine(C5 _).mono ?_;rintro e w3 ⟨rfl,rfl⟩;have P:=z.below ((cZ _ _).alloc (eZ _) (Z #[O J nn,O J dd] 62));go_wp2_with fail
  refine(C4 _ P).mono ?_;rintro e w3 ⟨rfl,rfl⟩;go_wp2_with fail
  refine(j _).mono ?_;rintro e X ⟨rfl,d⟩;have f:=AtL.below d (AtL.alloc u _);have y:=QA (QI t _) d
 rotate_left
 rw[if_neg K]at g;have ab:((c:Int) == 0)=gW:=by rw[beq_eq_false_iff_ne];omega
 clear K;have j:=λw=>zA6 (c:Nat) w
 rw[g]at j;simp only[vlV,vl6]at j;clear g;focus
  go_enter func37,ntmps37;go_wp2_with fail
  refine(R _).mono ?_;rintro e w1 ⟨rfl,rfl⟩;go_wp2_with fail
  refine(T _).mono ?_;rintro e w2 ⟨rfl,d⟩;have u:=AtL.below d N;have t:=QA l d;have z:=q.below d;clear N l q d;go_wp2_with fail
  refine(C5 _).mono ?_;rintro e w3 ⟨rfl,rfl⟩;have P:=z.below ((cZ _ _).alloc (eZ _) (Z #[O J nn,O J dd] 62));go_wp2_with fail
  refine(C4 _ P).mono ?_;rintro e w3 ⟨rfl,rfl⟩;go_wp2_with fail
  refine(j _).mono ?_;rintro e X ⟨rfl,d⟩;have f:=AtL.below d (AtL.alloc u _);have y:=QA (QI t _) d
 rotate_left
 all_goals
  obtain⟨c0,c1,c2,c3,c4,c5⟩:=f.f6;have g0:=f.2.2 0 dM;have g1:=f.2.2 1 dM;have g2:=f.2.2 2 dM;have g3:=f.2.2 3 dM;have g4:=f.2.2 4 dM;have g5:=f.2.2 5 dM;go_wp2;refine bodyPost_ret (v:=vlV aa) (by simp[results,results37,go_sem,vlV,vl6, *]) rfl ⟨rfl,?_⟩;exact(clB y)
def Vo(t:ByteArray):Wt.Vl:=if knd t=1 then rdV t else Wt.v0
theorem zGe(bb mb:Nat)(nv:vW)(ver:Int)(F:List (Wpl.Cl×Ct))(x:Wpl.Cl)(w:wW)(h:AtL w bb [nv,O J ver,.map (eW mb)])(hm:MB w mb F)(hs:(gtC x F).t.size<=1000000000000000)(hF:FltAt w) :
  CR 22 #[pX (eW ⟨bb,0,zX⟩),gX #[O J x.s,O J x.r,O J x.c]] w (vlV (Vo (gtC x F).t)):=by
 have z:=QI (QI (cZ _ w) (Z #[O J x.s,O J x.r,O J x.c] 36)) (Z zV0 64);have p:=AtL.f3 ((AtL.new0 w 36 [O J x.s,O J x.r,O J x.c]).alloc (Z zV0 64));have q:AtL ((w.alloc (Z #[O J x.s,O J x.r,O J x.c] 36)).alloc (Z zV0 64)) (w.heap.size+1) (vl6 Wt.v0):=AtL.new1 w (Z #[O J x.s,O J x.r,O J x.c] 36) 64 (vl6 Wt.v0);have KA:=zAr bb mb nv ver F x ((w.alloc (Z #[O J x.s,O J x.r,O J x.c] 36)).alloc (Z zV0 64)) (AtL.below z h) (hm.below z) oM;have N:Hid (∀W,bL w W->CR 10 #[pX (eW ⟨bb,0,zX⟩),gX #[O J x.s,O J x.r,O J x.c]] W (V (gtC x F).t)):=λW hb=>zBn bb mb nv ver F x W (AtL.below hb h) (hm.below hb)
 have y:Hid (∀W,bL w W->CR 37 #[V (gtC x F).t] W (vlV (rdV (gtC x F).t))):=λW hb=>zJE _ W (hF.below hb) hs
 generalize(gtC x F).t=t at*;obtain⟨f,K⟩:=xV (Vo t)
 rw[K];unfold Vo at K;obtain⟨kd,X⟩:=xV (knd t)
 rw[X]at KA K;have HV:=hid K;clear h hm hs X hF K;go_enter func22,ntmps22;go_upto_region 1 with fail
 generalize(w.alloc (Z #[O J x.s,O J x.r,O J x.c] 36)).alloc (Z zV0 64)=W0 at*;obtain⟨p0,p1,p2⟩:=p;have HQ:=hid q;have T:=hid z;clear q z;go_wp2_with fail
 refine KA.mono ?_;rintro e w1 ⟨rfl,g⟩;have u:=hid (AtL.below g HQ.out);have j:=hid (QA T.out g);replace p0:=QB g p0
 replace p1:=QB g p1
 replace p2:=QB g p2
 clear KA g HQ T;by_cases hk:kd=1
 ·subst hk;have K:rdV t=f:=HV.out;rw[K]at y;clear K HV;have TX:=N.out w1 j.out;clear N;go_wp2_with fail
  refine TX.mono ?_;rintro e w2 ⟨rfl,d⟩;have l:=hid (QA j.out d);have RD:=y.out w2 l.out;simp only[vlV,vl6]at RD;clear TX y p0 p1 p2;go_wp2_with fail
  refine RD.mono ?_;rintro e w3 ⟨rfl,P⟩;have q2:AtL w3 (w.heap.size+1) (vl6 Wt.v0):=AtL.below P (AtL.below d u.out);have aa:=hid (QA l.out P);have R:World.there w3 (w.heap.size+1) 0 (vl6 f).toArray.size:=q2.there;clear d P u j l RD;have q3:=AtL.setAll q2 (vs:=vl6 f) rfl;go_wp2_with ((with_reducible refine stQ 64 (mX 4) (mX 13) (w.heap.size+1) 0 (vl6 f).toArray ?_ ?_ ?_);exact R;simp[vl6,Value.oneCell'])
  (try simp only[Exit.inBlock,Exit.then])
  refine bodyPost_ret (Q3 (by rfl) _ _ (w.heap.size+1) (vl6 f) _ (by rfl) q3.range underlying64 rfl kR) rfl ⟨rfl,Ql aa.out (Nat.le_succ _) _ 0⟩
 ·have ab:Hid (Wt.v0=f):=by have:=HV.out;rwa [if_neg hk]at this
  clear p0 p1 p2 N y;go_wp2_with fail
  refine(zJm _).mono ?_;rintro e w2 ⟨rfl,d⟩;have q2:AtL w2 (w.heap.size+1) (vl6 Wt.v0):=AtL.below d u.out;have l:=hid (QA j.out d);have R:World.there w2 (w.heap.size+1) 0 (vl6 Wt.v0).toArray.size:=q2.there;clear d u j;have q3:=AtL.setAll q2 (vs:=vl6 Wt.v0) rfl;go_wp2_with ((with_reducible refine stQ 64 (mX 4) (mX 9) (w.heap.size+1) 0 #[O J 0,O J 0,O J 0,V ⟨#[]⟩,Y gW,O J 0] ?_ ?_ ?_);exact R;exact zRl)
  (try simp only[Exit.inBlock,Exit.then])
  refine bodyPost_ret (Q3 (by rfl) _ _ (w.heap.size+1) (vl6 Wt.v0) _ (by rfl) q3.range underlying64 rfl kR) rfl ⟨by rw[<-ab.out];rfl,Ql l.out (Nat.le_succ _) _ 0⟩
theorem zLf(bb mb lo:Nat)(na:Option dW)(nk:Nat)(nm:List ByteArray)(ver:Int)(G:List (Wpl.Cl×Ce))(w:wW)(h:BK w bb mb lo na nk nm ver G)(d:0<nm.length)(y:True->nm.length<=1000000) :
  cW prog 20 #[pX (eW ⟨bb,0,zX⟩)] w λe w'=>(∃f cap,e=rX (U f nm.length cap))/\bL w w':=by
 obtain⟨g,q,rfl,-⟩:=h.rs 0 d;have s:=zI1 g q nm.length nk (nm.map V) w sM (λj u l=>by
  obtain⟨R,e⟩:=List.getElem?_eq_some_iff.1 l;obtain⟨X,o',t,P⟩:=h.rs j (by simpa using R);simp only[Option.some.injEq,Addr.mk.injEq,and_true]at t;obtain⟨rfl,rfl⟩:=t;rw[<-e,List.getElem_map];exact P) (λu l=>by obtain⟨a,_,rfl⟩:=List.mem_map.1 l;rfl) (λ_=>by have:=y trivial;omega)
 obtain⟨c0,-,-,-⟩:=h.hd.three;clear h d y;generalize nm.length=n at*;go_enter func20,ntmps20;go_wp2_with fail
 refine s.mono ?_;rintro e T ⟨⟨v,rfl,K⟩,z⟩;have N:Hid ((∃f cap,rX v=rX (U f n cap))/\bL w T):=by
  refine⟨?_,z⟩;rcases K.2 with⟨e,d⟩|⟨_,_,_,e,_⟩
  ·exact⟨zX,0,by rw[e,d]⟩
  ·exact⟨_,_,by rw[e]⟩
 clear K z s;go_wp2;go_ret;exact N.out
abbrev ksB(G:List (Wpl.Cl×Ce)):List Wpl.Cl:=G.map (λp=>p.1)
theorem zIW(h:GOk n rs G)(x:Wpl.Cl):x∈ksB G↔gtE x G≠ce0:=by
 rw[yX];refine⟨λ⟨p,hp,e⟩ he=>?_,λhx=>⟨_,(Jj (G:=G) (x:=x)).resolve_left hx,rfl⟩⟩;obtain⟨y,f⟩:=p;subst e;rw[zCT h.1 hp]at he;exact(h.2 _ hp).1 (congrArg Ce.t he)
def SmE(G H:List (Wpl.Cl×Ce)):Prop:=∀x,gtE x G=gtE x H
section
variable {n:Nat}{rs:Ch->List I⊕(Int×Int)}{G H:List (Wpl.Cl×Ce)}
theorem SmE.keys(d:GOk n rs G)(e:GOk n rs H)(h:SmE G H):(ksB G).Perm (ksB H):=(uY d.1 e.1).2 λx=>by rw[zIW d,zIW e,h x]
theorem SmE.len(d:GOk n rs G)(e:GOk n rs H)(h:SmE G H):G.length=H.length:=by
 have:=(SmE.keys d e h).length_eq;simpa using this
theorem SmE.cl(d:GOk n rs G)(e:GOk n rs H)(h:SmE G H)(s:Int):clS s (ksB G)=clS s (ksB H):=zNX ((SmE.keys d e h).filter _)
end
theorem zFY{α:Type}(f:α->Bool):∀l:List α,(l.filter f).length+(l.filter (λx=>!f x)).length=l.length
 |[]=>rfl
 |a::r=>by
  have:=zFY f r;rw[oX,oX];cases f a <;> simp <;> omega
theorem zNI(g:GOk 2 rs G):(clS 0 (ksB G)).length+(clS 1 (ksB G)).length=G.length:=by
 unfold clS;rw[Wb.srt_len,Wb.srt_len];have e:(ksB G).filter (λx=>decide (x.s=1))=(ksB G).filter (λx=>!decide (x.s=0)):=List.filter_congr λx hx=>by
  obtain⟨p,j,e⟩:=List.mem_map.1 hx;have d:=(g.2 p j).2.2.1;have l:=zJO dM d;unfold Jv at d;rw[rZ,decide_eq_true_eq]at d;rw[<-e];have:p.1.s<2:=d.2;by_cases f:p.1.s=0
  ·simp[f]
  ·have:p.1.s=1:=oM;simp[this]
 rw[e,zFY,List.length_map]
theorem zOU(L:List I)(h:L.length<=1000000):(usA L).length<=2000000:=by
 unfold usA;split
 ·have d:=zDD (VR L) [];have e:=zCc L;simp at d;omega
 ·simp
theorem zP5(d:zPM nm rs){G:List (Wpl.Cl×Ce)}(h:GOk nm.length rs G)(x:Wpl.Cl):(gtE x G).t.size<=1000000000000000/\(gtE x G).c.length<=1000000/\∀p∈(gtE x G).c,TI 1000000 p:=by
 refine⟨zNY h x,?_⟩;rcases Jj (G:=G) (x:=x)with e|e
 ·rw[e];exact⟨qZ _,λp l=>by cases l⟩
 ·obtain⟨q,f,g,j⟩:=h.2 _ e;have:=(d ⟨x,(gtE x G).t⟩ g f).2.1 _ j;exact⟨nZ this.2.1 dM,this.2.2⟩
section
variable {w:wW}{bb mb lo:Nat}{na:Option dW}{nk:Nat}{nm:List ByteArray}{ver:Int}{G:List (Wpl.Cl×Ce)}
theorem zBd(h:BK w bb mb lo na nk nm ver G)(x:Wpl.Cl){e:Ce}(d:gtE x G=e):CR 10 #[pX (eW ⟨bb,0,zX⟩),gX #[O J x.s,O J x.r,O J x.c]] w (V e.t):=by
 obtain⟨F,m,f⟩:=h.mp;have:=zBn bb mb _ ver F x w h.hd m;rwa [(f.get x).1.1,d]at this
theorem zHh(h:BK w bb mb lo na nk nm ver G)(x:Wpl.Cl){e:Ce}(d:gtE x G=e)(g:e.t.size<=1000000000000000):CR 14 #[pX (eW ⟨bb,0,zX⟩),gX #[O J x.s,O J x.r,O J x.c]] w (O J (knd e.t)):=by
 obtain⟨F,m,f⟩:=h.mp;have:=zAr bb mb _ ver F x w h.hd m (by rw[(f.get x).1.1,d];omega);rwa [(f.get x).1.1,d]at this
theorem zF9(h:BK w bb mb lo na nk nm ver G)(x:Wpl.Cl){e:Ce}(g:gtE x G=e)(l:e.t.size<=1000000000000000)(j:FltAt w):CR 22 #[pX (eW ⟨bb,0,zX⟩),gX #[O J x.s,O J x.r,O J x.c]] w (gX #[O J (Vo e.t).k,O J (Vo e.t).n,O J (Vo e.t).d,V (Vo e.t).t,Y (Vo e.t).b,O J (Vo e.t).f]):=by
 obtain⟨F,m,f⟩:=h.mp;have:=zGe bb mb _ ver F x w h.hd m (by rw[(f.get x).1.1,g];exact l) j;rw[(f.get x).1.1,g]at this;exact this
theorem zIE(h:BK w bb mb lo na nk nm ver G)(x:Wpl.Cl){e:Ce}(l:gtE x G=e)(q:e.c.length<=1000000)(g:∀p∈e.c,TI 1000000 p):cW prog 24 #[pX (eW ⟨bb,0,zX⟩),gX #[O J x.s,O J x.r,O J x.c]] w λen w'=>(∃v,en=rX v/\RdC w' v e.c)/\bL w w':=by
 obtain⟨F,m,f⟩:=h.mp;have d:=(f.get x).1.2;rw[l]at d;refine Calls.mono (zIT bb mb lo _ ver F x e.c w h.hd m d (λ_=>q) (λp hp=>(g p hp).1)) ?_;rintro en w' ⟨⟨v,rfl,d⟩,j⟩;exact⟨⟨v,rfl,d.rdc⟩,j⟩
theorem zIz(h:BK w bb mb lo na nk nm ver G)(x:Wpl.Cl){e:Ce}(l:gtE x G=e)(g:NmAt w)(q:e.c.length<=1000000)(j:∀p∈e.c,TI 1000000 p):cW prog 15 #[pX (eW ⟨bb,0,zX⟩),gX #[O J x.s,O J x.r,O J x.c]] w λen w'=>(∃v,en=rX v/\RdA w' v (usA e.c))/\bL w w':=by
 obtain⟨F,m,f⟩:=h.mp;have d:=(f.get x).1.2;rw[l]at d;exact zNL bb mb lo _ ver F x e.c w h.hd m d g q j
theorem zKR(h:BK w bb mb lo na nk nm ver G):CR 13 #[pX (eW ⟨bb,0,zX⟩)] w (O J (G.length:Int)):=by
 obtain⟨F,m,f⟩:=h.mp;have:=zCl bb mb _ ver F w h.hd m;rwa [f.len]at this
theorem zCf(h:BK w bb mb lo na nk nm ver G)(d:KB G)(j:G.length<=1000000)(s:Int):cW prog 11 #[pX (eW ⟨bb,0,zX⟩),O J s] w λe w'=>(∃av cap,e=rX (U av (clS s (ksB G)).length cap)/\RdX w' av (clS s (ksB G))/\∀g o,av=eW ⟨g,o,zX⟩->w.heap.size<=g)/\bL w w':=by
 obtain⟨F,m,f⟩:=h.mp;have:=zG0 bb mb _ ver s F w h.hd m (by unfold KB;rw[f.keys];exact d) (λ_=>by rw[f.len];exact j);unfold zQi at this;rwa [f.keys]at this
end
open Go.RowKit
theorem zNd(l:List Wpl.Cl)(q t:Option dW)(n c1 c2:Nat)(w:wW)(R:RdX w q l)(T:RdX w t l)(X:l.length=n)(hN:True->n<=1000000) :
  CR 21 #[U q n c1,U t n c2] w (Y fW):=by
 have j:Hid (RdX w q l/\RdX w t l/\l.length=n):=⟨R,T,X⟩
 clear R T X;go_enter func21,ntmps21;go_wp2_with fail
 go_loopg [5] n (λgk u wr=>∃i:Nat,u=O J (i:Int)/\gk=n-i/\Hid (i<=n)/\Hid (bL w wr))
 case atStart=>exact⟨0,rfl,rfl,qZ _,cZ _ _⟩
 case round =>
  obtain⟨i,rfl,hg,HI,e⟩:=hrel;generalize N:wr=W at*;clear N;by_cases d:i<n
  ·have K:(i:Int)<(n:Int):=oM;have aa:(0:Int)<=(i:Int):=oM;have ab:J.wrap ((i:Int)+1)=(i:Int)+1:=by have:=hN trivial;rw[jZ];omega
   obtain⟨x,P⟩:∃x,l[i]?=eW x:=⟨l[i]'(by rw[j.out.2.2];exact d),kZ _⟩
   obtain⟨y,e1,f⟩:=j.out.1.below e.out i x P;obtain⟨z,e2,g⟩:=j.out.2.1.below e.out i x P;subst e1 e2;have p0:W.cell? ⟨y,i*3,zX⟩=eW (O J x.s):=f 0 _ rfl;have p1:W.cell? ⟨y,i*3+1,zX⟩=eW (O J x.r):=f 1 _ rfl;have p2:W.cell? ⟨y,i*3+2,zX⟩=eW (O J x.c):=f 2 _ rfl;have q0:W.cell? ⟨z,i*3,zX⟩=eW (O J x.s):=g 0 _ rfl;have q1:W.cell? ⟨z,i*3+1,zX⟩=eW (O J x.r):=g 1 _ rfl;have q2:W.cell? ⟨z,i*3+2,zX⟩=eW (O J x.c):=g 2 _ rfl;clear f g P;go_upto_region 6 with fail
   go_quiet (fail)
   go_wp2_with fail
   go_roundg (n-(i+1))
   case rel=>exact⟨i+1,sM,rfl,d,Q9 e.out _⟩
   case measure=>omega
  ·have K:¬(i:Int)<(n:Int):=oM;go_wp2;go_ret;exact⟨rfl,e.out⟩
theorem zK5(v:Wt.Vl)(w:wW):(binOp .neq 64 (vlV v) (vlV v)).run prog w=.ok (Y gW) w:=by
 simp[go_sem,vlV,vl6]
theorem zPq(L:List (Wc.In×List Int))(v1 v2:vW)(w:wW)(h1:RdC w v1 L)(h2:RdC w v2 L)(hl:L.length<=1000000)(ht:∀x∈L,x.2.length<=1000000) :
  CR 23 #[v1,v2] w (Y fW):=by
 obtain⟨a1,c1,rfl,r1⟩:=h1;obtain⟨a2,c2,rfl,r2⟩:=h2;have H1:Hid (RdC w (U a1 L.length c1) L):=⟨a1,c1,rfl,r1⟩
 have H2:Hid (RdC w (U a2 L.length c2) L):=⟨a2,c2,rfl,r2⟩
 have HT:=hid ht;obtain⟨n,hn⟩:=xV L.length
 have HL:Hid (L.length=n/\n<=1000000):=⟨hn,oM⟩
 rw[hn];clear r1 r2 ht hl hn;go_enter func23,ntmps23;go_wp2_with fail
 go_loopg [5] n (λgk x wr=>∃i:Nat,x=O J (i:Int)/\gk=n-i/\Hid (i<=n)/\Hid (bL w wr))
 case atStart=>exact⟨0,rfl,rfl,qZ _,cZ _ _⟩
 case round =>
  obtain⟨i,rfl,hg,HI,HB⟩:=hrel;generalize aj:wr=P at*;clear aj;by_cases af:i<n
  ·have ai:(i:Int)<(n:Int):=oM;have aO:(0:Int)<=(i:Int):=oM;have aP:J.wrap ((i:Int)+1)=(i:Int)+1:=by have:=HL.out.2;rw[jZ];omega
   obtain⟨q1,d1,e1,f1⟩:=H1.out.below HB.out;obtain⟨q2,d2,e2,f2⟩:=H2.out.below HB.out;simp only[U.injEq,true_and]at e1 e2;obtain⟨rfl,rfl⟩:=e1;obtain⟨rfl,rfl⟩:=e2;have ac:i<L.length:=by rw[HL.out.1];exact af
   obtain⟨b1,o1,p1,m1,k1,rfl,g1,y1,_⟩:=f1 i ac;obtain⟨b2,o2,p2,m2,k2,rfl,g2,y2,_⟩:=f2 i ac;have ag:=HT.out (L[i]) (zZ _);generalize(L[i]).1=x at*;generalize(L[i]).2=tl at*;have ab:=hid (And.intro y1 (And.intro y2 ag));clear f1 f2 y1 y2 ag ac;go_upto_region 6 with fail
   go_cut [6,7] (λv6 v7 wx=>∃u y,v6=pX (eW ⟨u,0,zX⟩)/\v7=pX (eW ⟨y,0,zX⟩)/\Hid (AtL wx u (QE x (U p1 m1 k1)))/\Hid (AtL wx y (QE x (U p2 m2 k2)))/\Hid (bL P wx))
   case first =>
    have hC:bL P P.drew:=(cZ _ _).drew;refine wp_region_held_drew (S:=λW=>W.rangeAt b1 (o1+i*23) (QE x (U p1 m1 k1))/\W.rangeAt b2 (o2+i*23) (QE x (U p2 m2 k2))) kR ⟨QF hC g1,QF hC g2⟩ (λz=>?_);generalize P.drew=N at*;refine tkQ 0 ?_
    refine tkQ 1 ?_
    refine tkQ 2 ?_
    refine tkH 3 (gX (QE x (U p1 m1 k1)).toArray) rfl (yiQ 86 (mX 21) b1 (o1+i*23) ((QE x (U p1 m1 k1))) _ (λ_ h=>h.1) underlying86) ?_;try simp only[Act.put,lA,lZ,lS]
    refine tkQ 4 ?_
    refine tkQ 5 ?_
    refine tkQ 6 ?_
    refine tkH 7 (gX (QE x (U p2 m2 k2)).toArray) rfl (yiQ 86 (mX 25) b2 (o2+i*23) ((QE x (U p2 m2 k2))) _ (λ_ h=>h.2) underlying86) ?_;try simp only[Act.put,lA,lZ,lS]
    refine wpAnyH_ready (rs:=[8,9]) kR sM ?_;refine AllReadyH.cons (atQ rfl) (λK R=>?_) (AllReadyH.cons (atQ rfl) (λK R=>?_) AllReadyH.nil);have bN:=QA hC (QI (cZ _ N) (Z zeros23 86));have bM:=QI bN (Z zeros23 86);have n6:=(AtL.new0 N 86 zeros23.toList).alloc (Z zeros23 86);have n7:=AtL.new1 N (Z zeros23 86) 86 zeros23.toList;go_simp
    refine hkQ R ⟨QF bN g1,QF bN g2⟩ (λz=>?_);clear R K bN
    refine rdQ 9 (λK R=>?_);go_simp
    refine hkQ R ⟨QF bM g1,QF bM g2⟩ (λz=>?_);clear R K
    have X:=hid hC.size;have T:Hid (N.heap.size≠N.heap.size+1/\P.heap.size<=N.heap.size/\P.heap.size<=N.heap.size+1):=by
     have:=X.out;exact⟨oM,oM,oM⟩
    generalize(N.alloc (Z zeros23 86)).alloc (Z zeros23 86)=WB at*;generalize N.heap.size+1=y at*;generalize N.heap.size=u at*;clear X;rotate_left
    have bN:=QA hC (QI (cZ _ N) (Z zeros23 86));have bM:=QI bN (Z zeros23 86);have n7:=(AtL.new0 N 86 zeros23.toList).alloc (Z zeros23 86);have n6:=AtL.new1 N (Z zeros23 86) 86 zeros23.toList;go_simp
    refine hkQ R ⟨QF bN g1,QF bN g2⟩ (λz=>?_);clear R K bN
    refine rdQ 8 (λK R=>?_);go_simp
    refine hkQ R ⟨QF bM g1,QF bM g2⟩ (λz=>?_);clear R K
    have X:=hid hC.size;have T:Hid (N.heap.size+1≠N.heap.size/\P.heap.size<=N.heap.size+1/\P.heap.size<=N.heap.size):=by
     have:=X.out;exact⟨oM,oM,oM⟩
    generalize(N.alloc (Z zeros23 86)).alloc (Z zeros23 86)=WB at*;generalize N.heap.size+1=u at*;generalize N.heap.size=y at*;clear X;rotate_left
    all_goals
     have m6:=n6.setAll (vs:=(QE x (U p1 m1 k1))) rfl;have m7:=n7.farAll (b:=u) T.out.1 0 (QE x (U p1 m1 k1));have bC:=Ql bM (k:=u) T.out.2.1 (QE x (U p1 m1 k1)) 0;refine rdQ 10 (λK R=>?_);refine wp_store_mid 86 (mX 6) (mX 22) rfl u 0 (QE x (U p1 m1 k1)).toArray rfl rfl n6.there kR (JN _ _ _ _) ?_;generalize WB.setCells u 0 (QE x (U p1 m1 k1)).toArray.toList=WC at*;refine R.out _ _ ⟨QF bC g1,QF bC g2⟩ (λz=>?_);clear R K n6 n7 bM;try simp only[Act.put]
     have q7:=m7.setAll (vs:=(QE x (U p2 m2 k2))) rfl;have q6:=m6.farAll (b:=y) T.out.1.symm 0 (QE x (U p2 m2 k2));have bD:=Ql bC (k:=y) T.out.2.2 (QE x (U p2 m2 k2)) 0;refine rdQ 11 (λK R=>?_);refine wp_store_mid 86 (mX 7) (mX 26) rfl y 0 (QE x (U p2 m2 k2)).toArray rfl rfl m7.there kR (JN _ _ _ _) ?_;generalize WC.setCells y 0 (QE x (U p2 m2 k2)).toArray.toList=WT at*;refine R.out _ _ ⟨QF bD g1,QF bD g2⟩ (λz=>?_);clear R K;try simp only[Act.put]
     refine wpAnyH_done kR ?_ _;go_wp2_with fail
     go_meet
     case rel=>exact⟨u,y,rfl,rfl,q6,q7,bD⟩
   case rest =>
    obtain⟨u,y,rfl,rfl,g,j,aa⟩:=hcut;generalize ak:wc=q at*;clear ak;have a0:q.cell? ⟨u,0,zX⟩=eW (O J x.op):=g.out.2.1 0 _ rfl;have b0:q.cell? ⟨y,0,zX⟩=eW (O J x.op):=j.out.2.1 0 _ rfl;have a1:q.cell? ⟨u,1,zX⟩=eW (O J x.a):=g.out.2.1 1 _ rfl;have b1:q.cell? ⟨y,1,zX⟩=eW (O J x.a):=j.out.2.1 1 _ rfl;have a2:q.cell? ⟨u,2,zX⟩=eW (O J x.b):=g.out.2.1 2 _ rfl;have b2:q.cell? ⟨y,2,zX⟩=eW (O J x.b):=j.out.2.1 2 _ rfl;have a3:q.cell? ⟨u,3,zX⟩=eW (O J x.v.k):=g.out.2.1 3 _ rfl;have b3:q.cell? ⟨y,3,zX⟩=eW (O J x.v.k):=j.out.2.1 3 _ rfl;have a4:q.cell? ⟨u,4,zX⟩=eW (O J x.v.n):=g.out.2.1 4 _ rfl;have b4:q.cell? ⟨y,4,zX⟩=eW (O J x.v.n):=j.out.2.1 4 _ rfl;have a5:q.cell? ⟨u,5,zX⟩=eW (O J x.v.d):=g.out.2.1 5 _ rfl;have b5:q.cell? ⟨y,5,zX⟩=eW (O J x.v.d):=j.out.2.1 5 _ rfl;have a6:q.cell? ⟨u,6,zX⟩=eW (V x.v.t):=g.out.2.1 6 _ rfl;have b6:q.cell? ⟨y,6,zX⟩=eW (V x.v.t):=j.out.2.1 6 _ rfl;have a7:q.cell? ⟨u,7,zX⟩=eW (Y x.v.b):=g.out.2.1 7 _ rfl;have b7:q.cell? ⟨y,7,zX⟩=eW (Y x.v.b):=j.out.2.1 7 _ rfl;have a8:q.cell? ⟨u,8,zX⟩=eW (O J x.v.f):=g.out.2.1 8 _ rfl;have b8:q.cell? ⟨y,8,zX⟩=eW (O J x.v.f):=j.out.2.1 8 _ rfl
    have a9:q.cell? ⟨u,9,zX⟩=eW (O J x.ce.s):=g.out.2.1 9 _ rfl;have b9:q.cell? ⟨y,9,zX⟩=eW (O J x.ce.s):=j.out.2.1 9 _ rfl;have al:q.cell? ⟨u,10,zX⟩=eW (O J x.ce.r):=g.out.2.1 10 _ rfl;have aB:q.cell? ⟨y,10,zX⟩=eW (O J x.ce.r):=j.out.2.1 10 _ rfl;have am:q.cell? ⟨u,11,zX⟩=eW (O J x.ce.c):=g.out.2.1 11 _ rfl;have aC:q.cell? ⟨y,11,zX⟩=eW (O J x.ce.c):=j.out.2.1 11 _ rfl;have an:q.cell? ⟨u,12,zX⟩=eW (O J x.ar.s):=g.out.2.1 12 _ rfl;have aD:q.cell? ⟨y,12,zX⟩=eW (O J x.ar.s):=j.out.2.1 12 _ rfl;have ao:q.cell? ⟨u,13,zX⟩=eW (O J x.ar.t):=g.out.2.1 13 _ rfl;have aE:q.cell? ⟨y,13,zX⟩=eW (O J x.ar.t):=j.out.2.1 13 _ rfl;have ap:q.cell? ⟨u,14,zX⟩=eW (O J x.ar.l):=g.out.2.1 14 _ rfl;have aF:q.cell? ⟨y,14,zX⟩=eW (O J x.ar.l):=j.out.2.1 14 _ rfl;have aq:q.cell? ⟨u,15,zX⟩=eW (O J x.ar.b):=g.out.2.1 15 _ rfl;have aG:q.cell? ⟨y,15,zX⟩=eW (O J x.ar.b):=j.out.2.1 15 _ rfl;have au:q.cell? ⟨u,16,zX⟩=eW (O J x.ar.r):=g.out.2.1 16 _ rfl;have aH:q.cell? ⟨y,16,zX⟩=eW (O J x.ar.r):=j.out.2.1 16 _ rfl;have av:q.cell? ⟨u,17,zX⟩=eW (O J x.pr.s):=g.out.2.1 17 _ rfl;have aI:q.cell? ⟨y,17,zX⟩=eW (O J x.pr.s):=j.out.2.1 17 _ rfl
    have aw:q.cell? ⟨u,18,zX⟩=eW (O J x.pr.t):=g.out.2.1 18 _ rfl;have aJ:q.cell? ⟨y,18,zX⟩=eW (O J x.pr.t):=j.out.2.1 18 _ rfl;have ax:q.cell? ⟨u,19,zX⟩=eW (O J x.pr.l):=g.out.2.1 19 _ rfl;have aK:q.cell? ⟨y,19,zX⟩=eW (O J x.pr.l):=j.out.2.1 19 _ rfl;have ay:q.cell? ⟨u,20,zX⟩=eW (O J x.pr.b):=g.out.2.1 20 _ rfl;have aL:q.cell? ⟨y,20,zX⟩=eW (O J x.pr.b):=j.out.2.1 20 _ rfl;have az:q.cell? ⟨u,21,zX⟩=eW (O J x.pr.r):=g.out.2.1 21 _ rfl;have aM:q.cell? ⟨y,21,zX⟩=eW (O J x.pr.r):=j.out.2.1 21 _ rfl;have aA:q.cell? ⟨u,22,zX⟩=eW (U p1 m1 k1):=g.out.2.1 22 _ rfl;have aN:q.cell? ⟨y,22,zX⟩=eW (U p2 m2 k2):=j.out.2.1 22 _ rfl;have IZ:=zQN tl (U p1 m1 k1) (U p2 m2 k2) q (ab.out.1.below aa.out) (ab.out.2.1.below aa.out) ab.out.2.2;have ad:=hid (QA HB.out aa.out);clear g j aa ab HB g1 g2;go_upto_region 7 with fail
    go_wp2_with fail
    refine IZ.mono ?_;rintro e w2 ⟨rfl,ae⟩;have ah:=hid (QA ad.out ae);clear IZ ae ad;go_wp2_with fail
    go_roundg (n-(i+1))
    case rel=>exact⟨i+1,sM,rfl,af,ah⟩
    case measure=>omega
  ·have ai:¬(i:Int)<(n:Int):=oM;go_wp2;go_ret;exact⟨rfl,HB.out⟩
theorem zOJ(A:List Wpl.Ar)(R v2:vW)(w:wW)(h1:RdA w R A)(h2:RdA w v2 A)(hl:A.length<=2000000):CR 25 #[R,v2] w (Y fW):=by
 obtain⟨a1,c1,rfl,N⟩:=h1;obtain⟨a2,c2,rfl,P⟩:=h2;have T:=hid N;have X:=hid P;obtain⟨n,q⟩:=xV A.length
 have g:Hid (A.length=n/\n<=2000000):=⟨q,oM⟩
 rw[q];clear N P q hl;go_enter func25,ntmps25;go_wp2_with fail
 go_loopg [5] n (λgk u wr=>∃i:Nat,u=O J i/\gk=n-i/\i<=n/\Hid (bL w wr))
 case atStart=>exact⟨0,rfl,rfl,qZ _,cZ _ _⟩
 case round =>
  obtain⟨i,rfl,hg,hi,j⟩:=hrel;by_cases d:i<n
  ·have l:(i:Int)<(n:Int):=oM;have aa:(0:Int)<=(i:Int):=oM;have ab:J.wrap ((i:Int)+1)=(i:Int)+1:=by rw[jZ];have:=g.out.2;omega
   obtain⟨b1,o1,rfl,t⟩:=T.out i (by rw[g.out.1];exact d);obtain⟨b2,o2,rfl,z⟩:=X.out i (by rw[g.out.1];exact d);obtain⟨y,K⟩:∃y,A[i]'(by rw[g.out.1];exact d)=y:=⟨_,rfl⟩
   rw[K]at t z;have e:=QF j.out t;have f:=QF j.out z;have p0:wr.cell? ⟨b1,o1+i*5,zX⟩=eW (O J y.s):=e 0 _ rfl;have p1:=e 1 _ rfl;have p2:=e 2 _ rfl;have p3:=e 3 _ rfl;have p4:=e 4 _ rfl;have q0:wr.cell? ⟨b2,o2+i*5,zX⟩=eW (O J y.s):=f 0 _ rfl;have t:=f 1 _ rfl;have z:=f 2 _ rfl;have q3:=f 3 _ rfl;have q4:=f 4 _ rfl;clear e f K;go_upto_region 6 with fail
   go_quiet (fail)
   go_wp2_with fail
   go_roundg (n-(i+1))
   case rel=>exact⟨i+1,sM,rfl,d,Q9 j.out _⟩
   case measure=>omega
  ·have l:¬(i:Int)<(n:Int):=oM;go_wp2;go_ret;exact⟨rfl,j.out⟩
open Go.RowKit Wf
structure AlS(w:wW)(ba ma la:Nat)(na:Option dW)(ka:Nat)(va:Int)(G:List (Wpl.Cl×Ce))(bb mb lb:Nat)(nb:Option dW)(kb:Nat)(vb:Int)(H:List (Wpl.Cl×Ce))(W:wW):Prop where
 bl:bL w W
 a:BK W ba ma la na ka [sS,sT] va G
 b:BK W bb mb lb nb kb [sS,sT] vb H
 e:BEnv W
section
variable {w:wW}{ba ma la:Nat}{na:Option dW}{ka:Nat}{va:Int}{G:List (Wpl.Cl×Ce)}{bb mb lb:Nat}{nb:Option dW}{kb:Nat}{vb:Int}{H:List (Wpl.Cl×Ce)}
theorem AlS.below{W f:wW}(h:AlS w ba ma la na ka va G bb mb lb nb kb vb H W)(d:bL W f):AlS w ba ma la na ka va G bb mb lb nb kb vb H f:=⟨QA h.bl d,h.a.below d,h.b.below d,h.e.below d⟩
def Vs(K:List Wpl.Cl)(s:Int):Nat:=if s=0 then 0 else if s=1 then(clS 0 K).length else(clS 0 K).length+(clS 1 K).length
theorem zNf{rs:Ch->List I⊕(Int×Int)}(ai:zPM [sS,sT] rs)(h:AlS w ba ma la na ka va G bb mb lb nb kb vb H w)(hG:GOk 2 rs G)(hH:GOk 2 rs H)(hS:SmE G H)(hl:G.length<=1000000) :
  CR 8 #[pX (eW ⟨ba,0,zX⟩),pX (eW ⟨bb,0,zX⟩)] w (Y fW):=by
 have HL:Hid (H.length=G.length/\(∀s,clS s (ksB H)=clS s (ksB G))/\(clS 0 (ksB G)).length+(clS 1 (ksB G)).length=G.length/\G.length<=1000000/\KB G/\KB H):=⟨(hS.len hG hH).symm,λs=>(hS.cl hG hH s).symm,zNI hG,hl,hG.1,hH.1⟩
 have aj:Hid (∀x,∃e,gtE x G=e/\gtE x H=e/\e.t.size<=1000000000000000/\e.c.length<=1000000/\(∀p∈e.c,TI 1000000 p)/\(usA e.c).length<=2000000):=λx=>by
  obtain⟨h1,h2,h3⟩:=zP5 ai (nm:=[sS,sT]) hG x;exact⟨_,rfl,(hS x).symm,h1,h2,h3,zOU _ h2⟩
 have d:=h;clear h ai hG hH hS hl;go_enter func8,ntmps8;go_wp2_with fail
 refine(zKR d.a).mono ?_;rintro en w1 ⟨rfl,f⟩;replace d:=d.below f
 clear f;go_wp2_with fail
 refine(zKR d.b).mono ?_;rintro en w2 ⟨rfl,f⟩;replace d:=d.below f
 rw[HL.out.1];clear f;go_upto_region 5 with fail
 go_loopg [5,6] 2 (λgk y x wr=>∃s:Int,x=O J s/\y=O J (Vs (ksB G) s:Nat)/\(0<=s/\s<=2/\gk=(2-s).toNat)/\AlS w ba ma la na ka va G bb mb lb nb kb vb H wr)
 case atStart=>exact⟨0,rfl,rfl,⟨oM,oM,rfl⟩,d⟩
 case round =>
  clear d;obtain⟨s,rfl,rfl,hs,d⟩:=hrel;generalize ac:wr=W at*;clear ac;go_wp2_with fail
  refine(zLf ba ma la na ka [sS,sT] va G W d.a dM (λ_=>by decide)).mono ?_;rintro en w3 ⟨⟨sa,sc,rfl⟩,f⟩;replace d:=d.below f
  clear f;by_cases ag:s<2
  ·have ao:J.wrap (s+1)=s+1:=by rw[jZ];omega
   have al:s<(([sS,sT]:List ByteArray).length:Int):=ag;go_upto_region 7 with fail
   go_wp2_with fail
   refine(zCf d.a HL.out.2.2.2.2.1 HL.out.2.2.2.1 s).mono ?_;rintro en w4 ⟨⟨xa,xc,rfl,ah,_⟩,f⟩;replace d:=d.below f
   have P:=hid ah;clear f ah;go_wp2_with fail
   refine(zCf d.b HL.out.2.2.2.2.2 (by rw[HL.out.1];exact HL.out.2.2.2.1) s).mono ?_;rintro en w5 ⟨⟨ya,yc,rfl,ab,_⟩,f⟩;replace d:=d.below f
   replace P:=hid (P.out.below f)
   rw[HL.out.2.1]at ab ⊢;obtain⟨m,hm⟩:=xV ((clS s (ksB G)).length)
   have HM:Hid ((clS s (ksB G)).length=m/\m<=1000000/\Vs (ksB G) s+m=Vs (ksB G) (s+1)/\Vs (ksB G) s<=1000000):=by
    have h3:=HL.out.2.2.1;have h4:=HL.out.2.2.2.1;unfold Vs;by_cases h0:s=0
    ·subst h0;rw[if_pos rfl,if_neg dM,if_pos dM];exact⟨hm,oM,oM,oM⟩
    ·have h1:s=1:=oM;subst h1;rw[if_neg dM,if_pos rfl,if_neg dM,if_neg dM];exact⟨hm,oM,oM,oM⟩
   rw[hm];have CZ:=zNd (clS s (ksB G)) xa ya m xc yc w5 P.out ab hm (λ_=>HM.out.2.1);clear f ab hm;go_wp2_with fail
   refine CZ.mono ?_;rintro en w6 ⟨rfl,f⟩;replace d:=d.below f
   replace P:=hid (P.out.below f)
   clear f CZ;have aq:J.wrap (((Vs (ksB G) s:Nat):Int)+(m:Int))=((Vs (ksB G) (s+1):Nat):Int):=by have:=HM.out;rw[jZ];omega
   go_upto_region 12 with fail
   generalize am:w6=W6 at*;clear am;have HO:=hid d.bl;replace d:AlS W6 ba ma la na ka va G bb mb lb nb kb vb H W6:=⟨cZ _ _,d.a,d.b,d.e⟩
   go_loopg [9] m (λgk x wr=>∃i:Nat,x=O J (i:Int)/\gk=m-i/\Hid (i<=m)/\AlS W6 ba ma la na ka va G bb mb lb nb kb vb H wr)
   case atStart=>exact⟨0,rfl,rfl,qZ _,d⟩
   case round =>
    clear d;obtain⟨i,rfl,hg,HI,d⟩:=hrel;generalize ac:wr=W4 at*;clear ac;by_cases af:i<m
    ·have ak:(i:Int)<(m:Int):=oM;have an:(0:Int)<=(i:Int):=oM;have ap:J.wrap ((i:Int)+1)=(i:Int)+1:=by have:=HM.out.2.1;rw[jZ];omega
     obtain⟨x,hx⟩:∃x,(clS s (ksB G))[i]?=eW x:=⟨(clS s (ksB G))[i]'(by rw[HM.out.1];exact af),kZ _⟩
     obtain⟨g,e1,N⟩:=P.out.below d.bl i x hx;subst e1;have j0:W4.cell? ⟨g,i*3,zX⟩=eW (O J x.s):=N 0 _ rfl;have j1:W4.cell? ⟨g,i*3+1,zX⟩=eW (O J x.r):=N 1 _ rfl;have j2:W4.cell? ⟨g,i*3+2,zX⟩=eW (O J x.c):=N 2 _ rfl;obtain⟨e,he⟩:=aj.out x;have u:=hid he;have ad:=QI (cZ _ W4) (Z #[O J x.s,O J x.r,O J x.c] 36);have l:=AtL.f3 (AtL.new0 W4 36 [O J x.s,O J x.r,O J x.c]);replace d:=d.below ad
     clear hx N he ad;go_upto_region 15 with fail
     clear j0 j1 j2;generalize W4.alloc (Z #[O J x.s,O J x.r,O J x.c] 36)=W5 at*;generalize W4.heap.size=kc at*;have l:JI W5 kc (O J x.s) (O J x.r) (O J x.c):=l;have aa:=(cZ W5.heap.size W5).drew;have ae:=λW=>zK5 (Vo e.t) W
     simp only[vlV,vl6]at ae;refine wp_region_held_drew (S:=λW=>JI W kc (O J x.s) (O J x.r) (O J x.c)) kR (QG aa l) (λj=>?_);replace l:=QG aa l
     replace d:=d.below aa
     clear aa;generalize W5.drew=W6 at*;refine tkQ 0 ?_
     refine tkQ 1 ?_
     refine tkQ 3 ?_
     refine tkQ 4 ?_
     refine rdQ 2 (λK q=>?_);go_simp
     refine(zBd d.a x u.out.1).mono ?_;rintro en w6 ⟨rfl,f⟩;replace l:=QG f l
     replace d:=d.below f
     clear f;go_wp2_with fail
     refine hkQ q l (λj=>?_);clear q K
     refine rdQ 5 (λK q=>?_);go_simp
     refine(zBd d.b x u.out.2.1).mono ?_;rintro en w7 ⟨rfl,f⟩;replace l:=QG f l
     replace d:=d.below f
     clear f;go_wp2_with fail
     refine hkQ q l (λj=>?_);clear q K
     refine tkQ 6 ?_
     refine tkQ 7 ?_
     refine tkQ 8 ?_
     refine tkQ 9 ?_
     refine tkQ 11 ?_
     refine tkQ 12 ?_
     refine rdQ 10 (λK q=>?_);go_simp
     refine(zHh d.a x u.out.1 u.out.2.2.1).mono ?_;rintro en w8 ⟨rfl,f⟩;replace l:=QG f l
     replace d:=d.below f
     clear f;go_wp2_with fail
     refine hkQ q l (λj=>?_);clear q K
     refine rdQ 13 (λK q=>?_);go_simp
     refine(zHh d.b x u.out.2.1 u.out.2.2.1).mono ?_;rintro en w9 ⟨rfl,f⟩;replace l:=QG f l
     replace d:=d.below f
     clear f;go_wp2_with fail
     refine hkQ q l (λj=>?_);clear q K
     refine tkQ 14 ?_
     refine tkQ 15 ?_
     refine tkQ 16 ?_
     refine tkQ 17 ?_
     refine tkQ 18 ?_
     refine tkQ 20 ?_
     refine tkQ 21 ?_
     refine rdQ 19 (λK q=>?_);go_simp
     refine(zF9 d.a x u.out.1 u.out.2.2.1 d.e.1.2.1).mono ?_;rintro en ar ⟨rfl,f⟩;replace l:=QG f l
     replace d:=d.below f
     clear f;go_wp2_with fail
     refine hkQ q l (λj=>?_);clear q K
     refine rdQ 22 (λK q=>?_);go_simp
     refine(zF9 d.b x u.out.2.1 u.out.2.2.1 d.e.1.2.1).mono ?_;rintro en au ⟨rfl,f⟩;replace l:=QG f l
     replace d:=d.below f
     clear f;go_wp2_with fail
     refine hkQ q l (λj=>?_);clear q K
     refine tkQ 23 ?_
     refine tkQ 24 ?_
     refine tkQ 25 ?_
     refine tkQ 26 ?_
     refine tkQ 27 ?_
     refine tkQ 29 ?_
     refine tkQ 30 ?_
     refine rdQ 28 (λK q=>?_);go_simp
     refine(zIE d.a x u.out.1 u.out.2.2.2.1 u.out.2.2.2.2.1).mono ?_;rintro en av ⟨⟨u1,rfl,T⟩,f⟩;have z:=hid T;clear T;replace l:=QG f l
     replace d:=d.below f
     clear f;go_wp2_with fail
     refine hkQ q l (λj=>?_);clear q K
     refine rdQ 31 (λK q=>?_);go_simp
     refine(zIE d.b x u.out.2.1 u.out.2.2.2.1 u.out.2.2.2.2.1).mono ?_;rintro en aw ⟨⟨u2,rfl,X⟩,f⟩;have R:=hid X;replace z:=hid (z.out.below f)
     clear X;replace l:=QG f l
     replace d:=d.below f
     clear f;go_wp2_with fail
     refine hkQ q l (λj=>?_);clear q K
     refine rdQ 32 (λK q=>?_);go_simp
     refine(zPq _ u1 u2 _ z.out R.out u.out.2.2.2.1 (λp hp=>(u.out.2.2.2.2.1 p hp).1)).mono ?_;rintro en ax ⟨rfl,f⟩;clear z R;replace l:=QG f l
     replace d:=d.below f
     clear f;go_wp2_with fail
     refine hkQ q l (λj=>?_);clear q K
     refine tkQ 33 ?_
     refine tkQ 34 ?_
     refine tkQ 35 ?_
     refine tkQ 36 ?_
     refine tkQ 37 ?_
     refine tkQ 39 ?_
     refine tkQ 40 ?_
     refine rdQ 38 (λK q=>?_);go_simp
     refine(zIz d.a x u.out.1 d.e.2.1 u.out.2.2.2.1 u.out.2.2.2.2.1).mono ?_;rintro en ay ⟨⟨u3,rfl,T⟩,f⟩;have z:=hid T;clear T;replace l:=QG f l
     replace d:=d.below f
     clear f;go_wp2_with fail
     refine hkQ q l (λj=>?_);clear q K
     refine rdQ 41 (λK q=>?_);go_simp
     refine(zIz d.b x u.out.2.1 d.e.2.1 u.out.2.2.2.1 u.out.2.2.2.2.1).mono ?_;rintro en az ⟨⟨u4,rfl,X⟩,f⟩;have R:=hid X;replace z:=hid (z.out.below f)
     clear X;replace l:=QG f l
     replace d:=d.below f
     clear f;go_wp2_with fail
     refine hkQ q l (λj=>?_);clear q K
     refine rdQ 42 (λK q=>?_);go_simp
     refine(zOJ _ u3 u4 _ z.out R.out u.out.2.2.2.2.2).mono ?_;rintro en aA ⟨rfl,f⟩;clear z R;replace l:=QG f l
     replace d:=d.below f
     clear f;go_wp2_with fail
     refine hkQ q l (λj=>?_);clear q K
     refine tkQ 43 ?_
     refine tkQ 44 ?_
     refine wpAnyH_done kR ?_ _;clear j l ae;go_wp2_with fail
     go_roundg (m-(i+1))
     case rel=>exact⟨i+1,sM,rfl,af,d⟩
     case measure=>omega
    ·have ak:¬(i:Int)<(m:Int):=oM;go_wp2_with fail
     go_roundg (2-(s+1)).toNat
     case rel=>exact⟨s+1,rfl,rfl,⟨oM,oM,rfl⟩,⟨QA HO.out d.bl,d.a,d.b,d.e⟩⟩
     case measure=>omega
  ·have al:¬s<(([sS,sT]:List ByteArray).length:Int):=ag;have e2:s=2:=oM;have hp:Vs (ksB G) s=G.length:=by
    rw[e2];unfold Vs;rw[if_neg dM,if_neg dM];exact HL.out.2.2.1
   rw[hp];go_wp2_with fail
   refine(zKR d.a).mono ?_;rintro en w9 ⟨rfl,f⟩;have HE:=hid (QA d.bl f);clear f d;go_wp2;go_ret;exact⟨sM,HE.out⟩
end
open Go.RowKit Wf
theorem Vq(a b c:Int)(w:wW):(Instr.field 30 (gX #[O J a,O J b,O J c]) 0).run prog w=.ok (O J a) w:=kR
end Go.Proofs.YthcblmpncpcfkaaGreatDoor
namespace Wlx
def mk(c:UInt8):Bool:=marks.any λn=>n.head? == eW c
theorem numSz_pos{c:UInt8}{t:List UInt8}:0<numSz (c::t)↔dig c=fW:=by
 unfold numSz;cases h:dig c with
 |false=>rw[runP_neg h,if_pos rfl];simp
 |true =>
  rw[runP_pos h,if_neg (by omega)];have g:∀n l,0<n->0<numTl n l:=by
   intro n l d;cases l with
   |nil=>exact d
   |cons c t=>rw[numTl_cons];split <;> omega
  simp[g]
theorem zBm{c:UInt8}{t:List UInt8}(h:0<txtSz (c::t)):c=34:=by
 have e:txtSz (c::t)=if c=34 then quo fW 1 t else 0:=rfl
 rw[e]at h;by_cases d:c=34
 ·exact d
 ·rw[if_neg d]at h;omega
theorem wrdSz_pos{c:UInt8}{t:List UInt8}:0<runP wrd (c::t)↔wrd c=fW:=by
 cases h:wrd c with
 |false=>rw[runP_neg h];simp
 |true=>rw[runP_pos h];simp
theorem zAc{c:UInt8}{t:List UInt8}:∀(e:List (List UInt8)),0<nameSz (c::t) e->∃n∈e,n.head? = eW c
 |[],h=>by simp[nameSz]at h
 |n::r,h=>by
  unfold nameSz at h;by_cases d:begins n (c::t)=fW
  ·rw[if_pos d]at h;cases n with
   |nil=>simp at h
   |cons a p =>
    simp only[begins,rZ,decide_eq_true_eq]at d;exact⟨a::p,by simp,by rw[d.1];rfl⟩
  ·rw[if_neg d]at h;obtain⟨x,g,f⟩:=zAc r h;exact⟨x,by simp[g],f⟩
theorem zAa{c:UInt8}{t:List UInt8}(h:0<nameSz (c::t) faults):c=35:=by
 obtain⟨n,e,d⟩:=zAc faults h;have:∀n∈faults,n.head? = eW 35:=by decide
 rw[this n e]at d;exact(Option.some.inj d).symm
theorem zCN{c:UInt8}{t:List UInt8}(h:0<nameSz (c::t) marks):mk c=fW:=by
 obtain⟨n,e,d⟩:=zAc marks h;unfold mk;exact List.any_eq_true.2 ⟨n,e,by rw[d];simp⟩
theorem sz1(l:List UInt8):sz 1 l=numSz l:=rfl
theorem sz2(l:List UInt8):sz 2 l=txtSz l:=rfl
theorem sz3(l:List UInt8):sz 3 l=runP wrd l:=rfl
theorem sz4(l:List UInt8):sz 4 l=nameSz l faults:=rfl
theorem sz5(l:List UInt8):sz 5 l=nameSz l marks:=rfl
theorem cls:∀c:UInt8,(wrd c=fW->¬c=34/\¬c=35/\mk c=gW/\¬c=32/\¬c=46)/\(dig c=fW->wrd c=fW)/\(mk c=fW->¬c=34/\¬c=35/\wrd c=gW/\¬c=32/\¬c=46):=by
 intro c;have key:∀n:Fin 256,(wrd (UInt8.ofNat n)=fW->¬UInt8.ofNat n=34/\¬UInt8.ofNat n=35/\mk (UInt8.ofNat n)=gW/\¬UInt8.ofNat n=32/\¬UInt8.ofNat n=46)/\(dig (UInt8.ofNat n)=fW->wrd (UInt8.ofNat n)=fW)/\(mk (UInt8.ofNat n)=fW->¬UInt8.ofNat n=34/\¬UInt8.ofNat n=35/\wrd (UInt8.ofNat n)=gW/\¬UInt8.ofNat n=32/\¬UInt8.ofNat n=46):=by decide +kernel
 have:=key ⟨c.toNat,c.toNat_lt⟩;simpa using this
theorem zH1{c:UInt8}{t:List UInt8}{k:Nat}(e:hit (c::t)=k)(q:¬k=6) :
  (k=1/\dig c=fW\/k=2/\c=34\/k=3/\wrd c=fW/\dig c=gW\/k=4/\c=35\/k=5/\mk c=fW):=by
 have d:=hit_pos (l:=c::t) (by rw[e];exact q);have f:=zC8 (c::t);have g:=zBR (c::t);rw[e]at d f g;have:k=1\/k=2\/k=3\/k=4\/k=5:=by omega
 rcases this with rfl|rfl|rfl|rfl|rfl
 ·exact pZ ⟨rfl,numSz_pos.1 d⟩
 ·exact gZ (pZ ⟨rfl,zBm d⟩)
 ·refine gZ (gZ (pZ ⟨rfl,wrdSz_pos.1 d,?_⟩));cases hd:dig c with
  |false=>rfl
  |true =>
   have:hit (c::t)=1:=hit_first (by omega) (by omega) (numSz_pos.2 hd) (λj a b=>by omega);rw[this]at e;omega
 ·exact gZ (gZ (gZ (pZ ⟨rfl,zAa d⟩)))
 ·exact gZ (gZ (gZ (gZ ⟨rfl,zCN d⟩)))
theorem zQg{c:UInt8}{t:List UInt8}{k:Nat}(h:k=1/\dig c=fW\/k=2/\c=34\/k=3/\wrd c=fW/\dig c=gW\/k=4/\c=35\/k=5/\mk c=fW)(d:0<sz k (c::t)):hit (c::t)=k:=by
 obtain⟨z,K,N⟩:=cls c;have e:dig c=gW->sz 1 (c::t)=0:=λhd=>by
  have:¬0<numSz (c::t):=λh=>by rw[numSz_pos.1 h]at hd;cases hd
  rw[sz1];omega
 have l:¬c=34->sz 2 (c::t)=0:=λhd=>by
  have:¬0<txtSz (c::t):=λh=>hd (zBm h)
  rw[sz2];omega
 have s:wrd c=gW->sz 3 (c::t)=0:=λhd=>by
  have:¬0<runP wrd (c::t):=λh=>by rw[wrdSz_pos.1 h]at hd;cases hd
  rw[sz3];omega
 have X:¬c=35->sz 4 (c::t)=0:=λhd=>by
  have:¬0<nameSz (c::t) faults:=λh=>hd (zAa h)
  rw[sz4];omega
 have T:wrd c=gW->dig c=gW:=λh=>by
  cases hd:dig c with
  |false=>rfl
  |true=>rw[K hd]at h;cases h
 rcases h with⟨rfl,hd⟩|⟨rfl,rfl⟩|⟨rfl,R,hd⟩|⟨rfl,rfl⟩|⟨rfl,P⟩
 ·exact hit_first (by omega) (by omega) d (λj a b=>by omega)
 ·exact hit_first (by omega) (by omega) d (λj a b=>by
   obtain rfl:j=1:=by omega
   exact e (by decide))
 ·obtain⟨f,q,g,u,y⟩:=z R;exact hit_first (by omega) (by omega) d (λj a b=>by
   have:j=1\/j=2:=by omega
   rcases this with rfl|rfl
   ·exact e hd
   ·exact l f)
 ·exact hit_first (by omega) (by omega) d (λj a b=>by
   have:j=1\/j=2\/j=3:=by omega
   rcases this with rfl|rfl|rfl
   ·exact e (by decide)
   ·exact l (by decide)
   ·exact s (by decide))
 ·obtain⟨f,q,g,u,y⟩:=N P;exact hit_first (by omega) (by omega) d (λj a b=>by
   have:j=1\/j=2\/j=3\/j=4:=by omega
   rcases this with rfl|rfl|rfl|rfl
   ·exact e (T g)
   ·exact l f
   ·exact s g
   ·exact X q)
end Wlx
namespace Wlx
theorem Qz:∀(p l:List UInt8),begins p l=fW↔∃s,l=p++s
 |[],l=>⟨λ_=>⟨l,rfl⟩,λ_=>rfl⟩
 |a::p,[]=>⟨λh=>by simp[begins]at h,λ⟨s,h⟩=>by simp at h⟩
 |a::p,b::t=>by
  simp only[begins,rZ,decide_eq_true_eq,Qz p t];constructor
  ·rintro⟨rfl,s,rfl⟩;exact⟨s,rfl⟩
  ·rintro⟨s,h⟩;simp only[fZ,List.cons.injEq]at h;exact⟨h.1.symm,s,h.2⟩
theorem JS(p:UInt8->Bool)(u r:List UInt8):runP p (u++r)=if runP p u<u.length then runP p u else u.length+runP p r:=by
 induction u with
 |nil=>simp
 |cons c t d =>
  cases h:p c with
  |false=>rw[fZ,runP_neg h,runP_neg h,if_pos (by simp)]
  |true =>
   rw[fZ,runP_pos h,runP_pos h,d];simp only[dZ];split <;> split <;> omega
def Nx(k:Nat)(e r:List UInt8):Prop:=(r.head? = e.head? \/ r.head? = zX\/r.head? = eW 32 \/ ∃d,r.head? = eW d/\(d=40\/d=41\/d=44))/\(k=1->¬r.head? = eW 46)
theorem zHm{p:UInt8->Bool}{r:List UInt8}:runP p r=0↔∀c,r.head? = eW c->p c=gW:=by
 cases r with
 |nil=>simp[runP]
 |cons c t =>
  cases h:p c with
  |false=>rw[runP_neg h];simp[h]
  |true=>rw[runP_pos h];simp[h]
theorem zFB{p:UInt8->Bool}(f:p 32=gW/\p 40=gW/\p 41=gW/\p 44=gW){k:Nat}{l r:List UInt8}(h:Nx k l r)(j:runP p l=0):runP p r=0:=by
 rw[zHm]at j ⊢;intro c g;rcases h.1 with e|e|e|⟨d,e,hd⟩
 ·exact j c (by rw[<-e];exact g)
 ·rw[e]at g;cases g
 ·rw[e]at g;cases g;exact f.1
 ·rw[e]at g;cases g
  rcases hd with rfl|rfl|rfl
  ·exact f.2.1
  ·exact f.2.2.1
  ·exact f.2.2.2
theorem zN3{u d r:List UInt8}(h0:0<u.length)(h:numSz (u++d)=u.length)(K:Nx 1 d r):numSz (u++r)=u.length:=by
 have key:∀r,numSz (u++r)=if runP dig u<u.length then(if runP dig u=0 then 0 else numTl (runP dig u) (u.drop (runP dig u)++r))else numTl (u.length+runP dig r) (r.drop (runP dig r)):=by
  intro r;unfold numSz;rw[JS];by_cases f:runP dig u<u.length
  ·rw[if_pos f,if_pos f];rw[List.drop_append_of_le_length (by omega)]
  ·rw[if_neg f,if_neg f,if_neg (by omega)];congr 1
   rw[List.drop_append,kY (by omega),sX,gY]
 rw[key]at h ⊢;have T:=runP_le dig u;by_cases f:runP dig u<u.length
 ·rw[if_pos f]at h ⊢;by_cases N:runP dig u=0
  ·rw[if_pos N]at h;omega
  ·rw[if_neg N]at h ⊢;cases hd:u.drop (runP dig u)with
   |nil =>
    have:=congrArg fY hd;simp only[sZ,iX]at this;omega
   |cons x y =>
    have hy:runP dig u+1+y.length=u.length:=by
     have:=congrArg fY hd;simp only[sZ,dZ]at this;omega
    rw[hd,fZ,numTl_cons]at h;rw[fZ,numTl_cons];by_cases s:x=46/\0<runP dig (y++d)
    ·rw[if_pos s]at h;have e:runP dig (y++d)=y.length:=by omega
     rw[JS]at e;have aa:=runP_le dig y;by_cases q:runP dig y<y.length
     ·rw[if_pos q]at e;omega
     ·rw[if_neg q]at e;have P:runP dig (y++r)=y.length:=by rw[JS,if_neg q,zFB (by decide) K (by omega)];rfl
      have j:0<y.length:=by have:=s.2;rw[JS,if_neg q]at this;omega
      rw[P,if_pos ⟨s.1,j⟩];omega
    ·rw[if_neg s]at h;omega
 ·rw[if_neg f]at h ⊢;have X:runP dig d=0:=by
   have g:∀n l,n<=numTl n l:=by
    intro n l;cases l with
    |nil=>exact eZ _
    |cons c t=>rw[numTl_cons];split <;> omega
   have:=g (u.length+runP dig d) (d.drop (runP dig d));omega
  have z:=zFB (by decide) K X;rw[z];show numTl (u.length+0) r=_
  cases r with
  |nil=>rfl
  |cons x y =>
   rw[numTl_cons,if_neg (λR=>K.2 rfl (by rw[R.1];rfl))];rfl
theorem zPC{u e r:List UInt8}(h:runP wrd (u++e)=u.length)(f:Nx 3 e r):runP wrd (u++r)=u.length:=by
 rw[JS]at h ⊢;by_cases d:runP wrd u<u.length
 ·rw[if_pos d]at h;omega
 ·rw[if_neg d]at h ⊢;rw[zFB (by decide) f (by omega)];rfl
theorem JW(w:Bool)(i:Nat)(t:List UInt8):quo w i (34::t)=quo (!w) (i+1) t:=by
 conv=>lhs;unfold quo
 rw[if_pos rfl]
theorem zCS{c:UInt8}(h:¬c=34)(i:Nat)(t:List UInt8):quo fW i (c::t)=quo fW (i+1) t:=by
 conv=>lhs;unfold quo
 rw[if_neg h,if_pos rfl]
theorem J7{c:UInt8}(h:¬c=34)(i:Nat)(t:List UInt8):quo gW i (c::t)=i:=by
 conv=>lhs;unfold quo
 rw[if_neg h,if_neg (by decide)]
theorem zBZ:∀(l:List UInt8)(i:Nat),(quo fW i l=0\/i+1<=quo fW i l)/\(quo gW i l=0\/i<=quo gW i l):=by
 intro l;induction l with
 |nil=>intro i;exact⟨pZ rfl,gZ (eZ _)⟩
 |cons c t g =>
  intro i;obtain⟨e,f⟩:=g (i+1);by_cases d:c=34
  ·subst d;rw[JW,JW];exact⟨f,e.imp id (λh=>wY (wY h))⟩
  ·rw[zCS d,J7 d];exact⟨e.imp id (λh=>wY h),gZ (eZ _)⟩
theorem zKd{i:Nat}(e:1<=i){w:Bool}{r:List UInt8}(h:quo w i r=i):w=gW/\¬r.head? = eW 34:=by
 cases w with
 |true=>rcases(zBZ r i).1 with h1|h1 <;> omega
 |false =>
  refine⟨rfl,λd=>?_⟩;cases r with
  |nil=>cases d
  |cons c t =>
   obtain rfl:c=34:=Option.some.inj d;rw[JW]at h;rcases(zBZ t (i+1)).1 with h1|h1
   ·rw[show(!gW)=fW from rfl,h1]at h;omega
   ·rw[show(!gW)=fW from rfl]at h;omega
theorem zFA:∀(a:List UInt8)(w:Bool)(i:Nat)(f r:List UInt8),1<=i->quo w i (a++f)=i+a.length->Nx 2 f r->quo w i (a++r)=i+a.length
 |[],w,i,f,r,hi,h,hx=>by
  obtain⟨rfl,j⟩:=zKd hi (w:=w) (r:=f) h;show quo gW i r=i
  cases r with
  |nil=>rfl
  |cons c t =>
   refine J7 (λe=>?_) i t;subst e;rcases hx.1 with e|e|e|⟨d,e,hd⟩
   ·exact j e.symm
   ·cases e
   ·exact absurd (Option.some.inj e) (by decide)
   ·obtain rfl:=Option.some.inj e;exact absurd hd (by decide)
 |c::a,w,i,f,r,hi,h,hx=>by
  rw[fZ,dZ]at*;by_cases g:c=34
  ·subst g;rw[JW]at h ⊢;rw[zFA a (!w) (i+1) f r (by omega) (by omega) hx];omega
  ·cases w with
   |true =>
    rw[zCS g]at h ⊢;rw[zFA a fW (i+1) f r (by omega) (by omega) hx];omega
   |false=>rw[J7 g]at h;omega
theorem zOv{u d r:List UInt8}(g:0<u.length)(h:txtSz (u++d)=u.length)(j:Nx 2 d r):txtSz (u++r)=u.length:=by
 cases u with
 |nil=>simp at g
 |cons c t =>
  have e:∀s,txtSz (c::t++s)=if c=34 then quo fW 1 (t++s)else 0:=λs=>rfl
  rw[e]at h ⊢;by_cases f:c=34
  ·rw[if_pos f]at h ⊢;simp only[dZ]at h ⊢;rw[zFA t fW 1 d r (by omega) (by omega) j];omega
  ·rw[if_neg f]at h;simp at h
theorem zCq{u q r:List UInt8}{k:Nat}(h0:0<u.length)(R:Nx k q r):∀(K:List (List UInt8)),(∀n∈K,(¬32∈n/\∀x∈n.drop 1,¬(x=40\/x=41\/x=44))/\(begins u n=fW->n.length<=u.length+1))->nameSz (u++q) K=u.length->nameSz (u++r) K=u.length
 |[],_,h=>by simp[nameSz]at h;omega
 |n::K,hg,h=>by
  unfold nameSz at h ⊢;cases j:begins n (u++q)with
  |true =>
   rw[j,if_pos rfl]at h;obtain⟨s,l⟩:=(Qz _ _).1 j;have N:n=u:=by
    have:=List.append_inj l h.symm;exact this.1.symm
   subst N;rw[if_pos ((Qz _ _).2 ⟨r,rfl⟩)]
  |false =>
   rw[j,if_neg (by decide)]at h;have hf:begins n (u++r)=gW:=by
    cases hq:begins n (u++r)with
    |false=>rfl
    |true =>
     exfalso
     obtain⟨s,l⟩:=(Qz _ _).1 hq;by_cases hl:n.length<=u.length
     ·have g:u=n++u.drop n.length:=by
       have t:=congrArg (List.take n.length) l;rw[List.take_append_of_le_length hl,List.take_left]at t;conv=>lhs;rw[<-mZ n.length u,t]
      have:begins n (u++q)=fW:=(Qz _ _).2 ⟨u.drop n.length++q,by rw[<-jY,<-g]⟩;rw[this]at j;cases j
     ·have g:n=u++n.drop u.length:=by
       have t:=congrArg (List.take u.length) l;rw[List.take_left,List.take_append_of_le_length (by omega)]at t;conv=>lhs;rw[<-mZ u.length n,<-t]
      obtain⟨P,X⟩:=hg n (by simp);have aa:=X ((Qz _ _).2 ⟨_,g⟩);cases hd:n.drop u.length with
      |nil =>
       have:=congrArg fY hd;simp only[sZ,iX]at this;omega
      |cons x y =>
       have hy:y=[]:=by
        have:=congrArg fY hd;simp only[sZ,dZ]at this;exact iZ (by omega)
       subst hy;rw[hd]at g;rw[g,jY]at l;have hr:=List.append_cancel_left l;have f:r.head? = eW x:=by rw[hr];rfl
       have z:¬x=32:=λe=>P.1 (by rw[g,e];simp)
       rcases R.1 with e|e|e|⟨d,e,hd⟩
       ·rw[f]at e;cases q with
        |nil=>cases e
        |cons x' T =>
         obtain rfl:x=x':=Option.some.inj e;have:begins n (u++x::T)=fW:=(Qz _ _).2 ⟨T,by rw[g,jY];rfl⟩;rw[this]at j;cases j
       ·rw[f]at e;cases e
       ·rw[f]at e;exact z (Option.some.inj e)
       ·rw[f]at e;obtain rfl:=Option.some.inj e;refine P.2 x ?_ hd;rw[g,List.drop_append_of_le_length (by omega)];simp
   rw[hf,if_neg (by decide)];exact zCq h0 R K (λn hn=>hg n (by simp[hn])) h
theorem zAj{u f:List UInt8}(g:0<u.length):∀(d:List (List UInt8)),nameSz (u++f) d=u.length->u∈d
 |[],h=>by simp[nameSz]at h;omega
 |n::d,h=>by
  unfold nameSz at h;cases e:begins n (u++f)with
  |true =>
   rw[e,if_pos rfl]at h;obtain⟨s,j⟩:=(Qz _ _).1 e;rw[(List.append_inj j h.symm).1];simp
  |false =>
   rw[e,if_neg (by decide)]at h;exact wZ _ (zAj g d h)
theorem zES:∀u∈faults,∀n∈faults,(¬32∈n/\∀x∈n.drop 1,¬(x=40\/x=41\/x=44))/\(begins u n=fW->n.length<=u.length+1):=by decide
theorem zG6:∀u∈marks,∀n∈marks,(¬32∈n/\∀x∈n.drop 1,¬(x=40\/x=41\/x=44))/\(begins u n=fW->n.length<=u.length+1):=by decide
theorem ctx{u f r:List UInt8}{k:Nat}(j:hit (u++f)=k)(q:¬k=6)(e:sz k (u++f)=u.length)(g:Nx k f r):hit (u++r)=k/\sz k (u++r)=u.length:=by
 have d:=hit_pos (l:=u++f) (by rw[j];exact q);rw[j,e]at d;have s:sz k (u++r)=u.length:=by
  have y:=zC8 (u++f);have z:=zBR (u++f);rw[j]at y z;have:k=1\/k=2\/k=3\/k=4\/k=5:=by omega
  rcases this with rfl|rfl|rfl|rfl|rfl
  ·exact zN3 d e g
  ·exact zOv d e g
  ·exact zPC e g
  ·exact zCq d g faults (zES u (zAj d faults e)) e
  ·exact zCq d g marks (zG6 u (zAj d marks e)) e
 refine⟨?_,s⟩;cases u with
 |nil=>simp at d
 |cons c t=>exact zQg (zH1 j q) (Nat.lt_of_lt_of_eq d s.symm)
end Wlx
namespace Wlx
structure At(k:Nat)(u r:List UInt8):Prop where
 hk:hit (u++r)=k
 h6:¬k=6
 hn:sz k (u++r)=u.length
 h32:¬(u++r).head? = eW 32
theorem At.pos{k:Nat}{u r:List UInt8}(h:At k u r):0<u.length:=by
 have:=hit_pos (l:=u++r) (by rw[h.hk];exact h.h6);rw[h.hk,h.hn]at this;exact this
theorem At.cons{k:Nat}{u r:List UInt8}(h:At k u r):∃c t,u=c::t:=by
 have:=h.pos;cases u with
 |nil=>simp at this
 |cons c t=>exact⟨c,t,rfl⟩
theorem At.ctx{k:Nat}{u d r:List UInt8}(h:At k u d)(g:Nx k d r):At k u r:=by
 obtain⟨e,f⟩:=Wlx.ctx h.hk h.h6 h.hn g;obtain⟨c,t,rfl⟩:=h.cons;exact⟨e,h.h6,f,h.h32⟩
def Ok(p:Nat)(l:List UInt8)(ts:List Tok):Prop:=scan p l=Res.ok ts
def Er(p:Nat)(l:List UInt8)(c q:Nat):Prop:=scan p l=Res.err c q
theorem zR6{c:UInt8}{t:List UInt8}(h:¬c=32)(d:¬hit (c::t)=6):At (hit (c::t)) ((c::t).take (sz (hit (c::t)) (c::t))) ((c::t).drop (sz (hit (c::t)) (c::t))):=by
 have f:((c::t).take (sz (hit (c::t)) (c::t))).length=sz (hit (c::t)) (c::t):=by
  rw[yY];exact Nat.min_eq_left (sz_le _ _)
 refine⟨by rw[mZ],d,by rw[mZ,f],?_⟩;rw[mZ];exactλe=>h (Option.some.inj e)
theorem zCG{p k:Nat}{u r:List UInt8}(d:At k u r):scan p (u++r)=if runP prt u<u.length then Res.err 40 (p+runP prt u)else Res.cons ⟨k,said k u,p⟩ (scan (p+u.length) r):=by
 obtain⟨c,t,rfl⟩:=d.cons;have f:(c::t++r).take (c::t).length=c::t:=List.take_left;have j:(c::t++r).drop (c::t).length=r:=List.drop_left;have l:¬c=32:=λe=>d.h32 (by rw[e];rfl)
 by_cases g:runP prt (c::t)<(c::t).length
 ·rw[if_pos g];have:=scan_bad (p:=p) l (c:=c) (t:=t++r) (n:=(c::t).length) d.hk d.h6 d.hn (by have:=f;rw[fZ]at this;rw[this];exact g);rw[fZ]at f;rw[f]at this;exact this
 ·rw[if_neg g];rw[fZ]at f j;have:=scan_tok (p:=p) l (c:=c) (t:=t++r) (n:=(c::t).length) d.hk d.h6 d.hn (by rw[f];exact g);rw[f,j]at this;exact this
theorem Ok.nil(p:Nat):Ok p [] []:=scan_nil p
theorem Ok.blank{p:Nat}{t:List UInt8}{ts:List Tok}(h:Ok (p+1) t ts):Ok p (32::t) ts:=by unfold Ok;rw[scan_blank];exact h
theorem Ok.tok{p k:Nat}{u r:List UInt8}{ts:List Tok}(d:At k u r)(e:¬runP prt u<u.length)(h:Ok (p+u.length) r ts):Ok p (u++r) (⟨k,said k u,p⟩::ts):=by
 unfold Ok at*;rw[zCG d,if_neg e,h];rfl
theorem Er.blank{p:Nat}{t:List UInt8}{c q:Nat}(h:Er (p+1) t c q):Er p (32::t) c q:=by unfold Er;rw[scan_blank];exact h
theorem Er.none{p:Nat}{c:UInt8}{t:List UInt8}(h:¬c=32)(d:hit (c::t)=6):Er p (c::t) (if c=34 then 41 else 40) p:=scan_none h d
theorem Er.bad{p k:Nat}{u r:List UInt8}(d:At k u r)(e:runP prt u<u.length):Er p (u++r) 40 (p+runP prt u):=by
 unfold Er;rw[zCG d,if_pos e]
theorem Er.tok{p k:Nat}{u r:List UInt8}{c q:Nat}(d:At k u r)(e:¬runP prt u<u.length)(h:Er (p+u.length) r c q):Er p (u++r) c q:=by
 unfold Er at*;rw[zCG d,if_neg e,h];rfl
theorem zHX{a b:List Tok}(h:Res.ok a=Res.ok b):a=b:=Sum.inl.inj h
theorem zCw{a b c d:Nat}(h:Res.err a b=Res.err c d):a=c/\b=d:=by
 have:=Sum.inr.inj h;exact⟨(Prod.mk.inj this).1,(Prod.mk.inj this).2⟩
theorem zSD(p:Nat)(l:List UInt8):l=[]\/(∃t,l=32::t)\/(∃c t,l=c::t/\¬c=32/\hit (c::t)=6) \/ ∃k u r,l=u++r/\At k u r:=by
 cases l with
 |nil=>exact pZ rfl
 |cons c t =>
  by_cases d:c=32
  ·exact gZ (pZ ⟨t,by rw[d]⟩)
  ·by_cases e:hit (c::t)=6
   ·exact gZ (gZ (pZ ⟨c,t,rfl,d,e⟩))
   ·exact gZ (gZ (gZ ⟨_,_,_,(mZ _ _).symm,zR6 d e⟩))
theorem zM6{motive:Nat->List UInt8->List Tok->Prop}(nil:∀p,motive p [] [])(blank:∀p t ts,Ok (p+1) t ts->motive (p+1) t ts->motive p (32::t) ts)
  (tok:∀p k u r ts,At k u r->¬runP prt u<u.length->Ok (p+u.length) r ts->motive (p+u.length) r ts->motive p (u++r) (⟨k,said k u,p⟩::ts)) :
  ∀(n p:Nat)(l:List UInt8)(ts:List Tok),l.length<=n->Ok p l ts->motive p l ts:=by
 intro n;induction n with
 |zero =>
  intro p l ts d h;obtain rfl:=iZ (Nat.le_zero.1 d);obtain rfl:=zHX ((scan_nil p).symm.trans h);exact nil p
 |succ n y =>
  intro p l ts d h;rcases zSD p l with rfl|⟨t,rfl⟩|⟨c,t,rfl,K,z⟩|⟨k,u,r,rfl,f⟩
  ·obtain rfl:=zHX ((scan_nil p).symm.trans h);exact nil p
  ·simp only[dZ]at d;have q:Ok (p+1) t ts:=by unfold Ok at*;rw[scan_blank]at h;exact h
   exact blank p t ts q (y _ _ _ (by omega) q)
  ·unfold Ok at h;rw[scan_none K z]at h;cases h
  ·have s:=f.pos;rw[oZ]at d;unfold Ok at h;rw[zCG f]at h;by_cases g:runP prt u<u.length
   ·rw[if_pos g]at h;cases h
   ·rw[if_neg g]at h;cases e:scan (p+u.length) r with
    |inl j =>
     rw[e]at h;obtain rfl:=zHX h;exact tok p k u r j f g e (y _ _ _ (by omega) e)
    |inr x=>rw[e]at h;cases h
theorem zKw{motive:Nat->List UInt8->Nat->Nat->Prop}(blank:∀p t c q,Er (p+1) t c q->motive (p+1) t c q->motive p (32::t) c q)
  (zX:∀p c t,¬c=32->hit (c::t)=6->motive p (c::t) (if c=34 then 41 else 40) p) (bad:∀p k u r,At k u r->runP prt u<u.length->motive p (u++r) 40 (p+runP prt u))
  (tok:∀p k u r c q,At k u r->¬runP prt u<u.length->Er (p+u.length) r c q->motive (p+u.length) r c q->motive p (u++r) c q) :
  ∀(n p:Nat)(l:List UInt8)(c q:Nat),l.length<=n->Er p l c q->motive p l c q:=by
 intro n;induction n with
 |zero =>
  intro p l c q f h;obtain rfl:=iZ (Nat.le_zero.1 f);unfold Er at h;rw[scan_nil]at h;cases h
 |succ n N =>
  intro p l c q f h;rcases zSD p l with rfl|⟨t,rfl⟩|⟨j,t,rfl,z,y⟩|⟨k,u,r,rfl,d⟩
  ·unfold Er at h;rw[scan_nil]at h;cases h
  ·simp only[dZ]at f;have s:Er (p+1) t c q:=by unfold Er at*;rw[scan_blank]at h;exact h
   exact blank p t c q s (N _ _ _ _ (by omega) s)
  ·unfold Er at h;rw[scan_none z y]at h;obtain⟨rfl,rfl⟩:=zCw h;exact zX p j t z y
  ·have K:=d.pos;rw[oZ]at f;unfold Er at h;rw[zCG d]at h;by_cases e:runP prt u<u.length
   ·rw[if_pos e]at h;obtain⟨rfl,rfl⟩:=zCw h;exact bad p k u r d e
   ·rw[if_neg e]at h;cases g:scan (p+u.length) r with
    |inl R=>rw[g]at h;cases h
    |inr x =>
     obtain⟨j,P⟩:=x;rw[g]at h;obtain⟨rfl,rfl⟩:=zCw h;exact tok p k u r j P d e g (N _ _ _ _ (by omega) g)
theorem Ok.ind{motive:∀p l ts,Ok p l ts->Prop}(nil:∀p,motive p [] [] (Ok.nil p))(blank:∀{p:Nat}{t:List UInt8}{ts:List Tok}(h:Ok (p+1) t ts),motive (p+1) t ts h->motive p (32::t) ts (Ok.blank h))
  (tok:∀{p k:Nat}{u r:List UInt8}{ts:List Tok}(d:At k u r)(e:¬runP prt u<u.length)(h:Ok (p+u.length) r ts),motive (p+u.length) r ts h->motive p (u++r) (⟨k,said k u,p⟩::ts) (Ok.tok d e h))
  {p:Nat} {l:List UInt8} {ts:List Tok} (h:Ok p l ts):motive p l ts h :=
 zM6 (motive:=λp l ts=>∀h:Ok p l ts,motive p l ts h) (λp _=>nil p) (λp t ts h ih _=>blank h (ih h)) (λp k u r ts d e h ih _=>tok d e h (ih h)) l.length p l ts (eZ _) h h
theorem Er.ind{motive:∀p l c q,Er p l c q->Prop}(blank:∀{p:Nat}{t:List UInt8}{c q:Nat}(h:Er (p+1) t c q),motive (p+1) t c q h->motive p (32::t) c q (Er.blank h))
  (zX:∀{p:Nat}{c:UInt8}{t:List UInt8}(h:¬c=32)(f:hit (c::t)=6),motive p (c::t) (if c=34 then 41 else 40) p (Er.none h f)) (bad:∀{p k:Nat}{u r:List UInt8}(d:At k u r)(e:runP prt u<u.length),motive p (u++r) 40 (p+runP prt u) (Er.bad d e))
  (tok:∀{p k:Nat}{u r:List UInt8}{c q:Nat}(d:At k u r)(e:¬runP prt u<u.length)(h:Er (p+u.length) r c q),motive (p+u.length) r c q h->motive p (u++r) c q (Er.tok d e h))
  {p:Nat} {l:List UInt8} {c q:Nat} (h:Er p l c q):motive p l c q h :=
 zKw (motive:=λp l c q=>∀h:Er p l c q,motive p l c q h) (λp t c q h ih _=>blank h (ih h)) (λp c t h f _=>zX h f) (λp k u r d e _=>bad d e) (λp k u r c q d e h ih _=>tok d e h (ih h)) l.length p l c q (eZ _) h h
theorem Er.scan{p:Nat}{l:List UInt8}{c q:Nat}(h:Er p l c q):scan p l=Res.err c q:=h
theorem zJz(t:List UInt8):hit (46::t)=6:=by
 by_cases h:hit (46::t)=6
 ·exact h
 ·rcases zH1 rfl h with h|h|h|h|h <;> exact absurd h.2 (by decide)
theorem Ok.count{p:Nat}{l:List UInt8}{ts:List Tok}(h:Ok p l ts):ts.length<=l.length/\∀t∈ts,p<=t.p/\t.p<p+l.length/\1<=t.k/\t.k<=5/\t.t.length<=l.length:=by
 induction h using Ok.ind with
 |nil p=>simp
 |blank h e =>
  refine⟨by simp only[dZ];omega,λt ht=>?_⟩;have:=e.2 t ht;simp only[dZ];omega
 | @tok p k u r ts ha hp h e =>
  have s:=ha.pos;rw[oZ];refine⟨by simp only[dZ];omega,λt ht=>?_⟩;rcases List.mem_cons.1 ht with rfl|ht
  ·have g:=zC8 (u++r);have j:=zBR (u++r);have y:=ha.h6;rw[ha.hk]at g j;refine⟨eZ _,by show p<_;omega,g,by show k<=5;omega,?_⟩;show(said k u).length<=_
   have q:∀l:List UInt8,(undbl l).length<=l.length:=by
    intro l;fun_induction undbl l with
    |case1=>exact eZ _
    |case2=>exact eZ _
    |case3 c d t f e=>simp only[dZ];omega
    |case4 c d t f e=>simp only[dZ]at*;omega
   unfold said;split
   ·have:=q ((u.drop 1).take (u.length-2));rw[yY,sZ]at this;omega
   ·omega
  ·have:=e.2 t ht;omega
end Wlx
namespace Wlx
def zSf(p:Nat)(l:List UInt8)(ts:List Tok)(i:Nat):Nat:=if h:i<ts.length then(ts[i]).p-p else l.length
theorem zE7:∀(x:List UInt8)(w:Bool)(i:Nat)(c:UInt8)(y:List UInt8),¬c=34->i+x.length<quo w i (x++c::y)->quo w i x=0
 |[],w,i,c,y,hc,h=>by
  cases w with
  |true=>rfl
  |false=>rw[sX,J7 hc]at h;simp at h
 |d::x,w,i,c,y,hc,h=>by
  rw[fZ,dZ]at h;by_cases hd:d=34
  ·subst hd;rw[JW]at h ⊢;exact zE7 x (!w) (i+1) c y hc (by omega)
  ·cases w with
   |true=>rw[zCS hd]at h ⊢;exact zE7 x fW (i+1) c y hc (by omega)
   |false=>rw[J7 hd]at h;omega
theorem zCn:∀c:UInt8,(wrd c=fW->prt c=fW)/\(dig c=fW->prt c=fW)/\prt 34=fW/\prt 46=fW:=by
 intro c;have key:∀n:Fin 256,(wrd (UInt8.ofNat n)=fW->prt (UInt8.ofNat n)=fW)/\(dig (UInt8.ofNat n)=fW->prt (UInt8.ofNat n)=fW)/\prt 34=fW/\prt 46=fW:=by decide +kernel
 have:=key ⟨c.toNat,c.toNat_lt⟩;simpa using this
theorem zBb{p:UInt8->Bool}:∀(u:List UInt8),(∀c∈u,p c=fW)->runP p u=u.length
 |[],_=>rfl
 |c::t,h=>by rw[runP_pos (h c (by simp)),zBb t (λx d=>h x (by simp[d]))];rfl
theorem zBT{p:UInt8->Bool}:∀(u:List UInt8),¬runP p u<u.length->∀c∈u,p c=fW
 |[],_,c,hc=>by cases hc
 |d::t,h,c,hc=>by
  cases hd:p d with
  |false=>rw[runP_neg hd]at h;simp at h
  |true =>
   rw[runP_pos hd]at h;simp only[dZ]at h;rcases List.mem_cons.1 hc with rfl|hc
   ·exact hd
   ·exact zBT t (by omega) c hc
theorem zL9{k:Nat}{u r:List UInt8}(t:At k u r)(z:runP prt u<u.length):k=2:=by
 have P:=t.pos;have d:=t.hn;have T:=zC8 (u++r);have X:=zBR (u++r);rw[t.hk]at T X;have h6:=t.h6;have:k=1\/k=2\/k=3\/k=4\/k=5:=by omega
 rcases this with rfl|rfl|rfl|rfl|rfl
 ·exfalso
  have d:numSz (u++r)=u.length:=d;have q:∀c∈u,prt c=fW:=by
   unfold numSz at d;by_cases R:runP dig (u++r)=0
   ·rw[if_pos R]at d;omega
   ·rw[if_neg R,JS]at d;by_cases hd:runP dig u<u.length
    ·rw[if_pos hd,List.drop_append_of_le_length (by omega)]at d;have hu:u=u.take (runP dig u)++u.drop (runP dig u):=(mZ _ _).symm;have N:∀(l:List UInt8),∀c∈l.take (runP dig l),dig c=fW:=by
      intro l;induction l with
      |nil=>intro c hc;simp[runP]at hc
      |cons a b ih =>
       intro c hc;cases j:dig a with
       |false=>rw[runP_neg j]at hc;simp at hc
       |true =>
        rw[runP_pos j,dY]at hc;rcases List.mem_cons.1 hc with rfl|hc
        ·exact j
        ·exact ih c hc
     cases f:u.drop (runP dig u)with
     |nil =>
      have:=congrArg fY f;simp only[sZ,iX]at this;omega
     |cons x y =>
      have hy:runP dig u+1+y.length=u.length:=by
       have:=congrArg fY f;simp only[sZ,dZ]at this;omega
      rw[f,fZ,numTl_cons]at d;by_cases hc:x=46/\0<runP dig (y++r)
      ·rw[if_pos hc]at d;have e:runP dig (y++r)=y.length:=by omega
       rw[JS]at e;have aa:=runP_le dig y;have K:¬runP dig y<y.length:=λK=>by rw[if_pos K]at e;omega
       intro c s;rw[hu,f]at s;rcases List.mem_append.1 s with h|h
       ·exact(zCn c).2.1 (N u c h)
       ·rcases List.mem_cons.1 h with rfl|h
        ·rw[hc.1];decide
        ·exact(zCn c).2.1 (zBT y K c h)
      ·rw[if_neg hc]at d;omega
    ·exactλc hc=>(zCn c).2.1 (zBT u hd c hc)
  rw[zBb u q]at z;omega
 ·rfl
 ·exfalso
  have d:runP wrd (u++r)=u.length:=d;rw[JS]at d;have hd:¬runP wrd u<u.length:=λhd=>by rw[if_pos hd]at d;omega
  rw[zBb u (λc hc=>(zCn c).1 (zBT u hd c hc))]at z;omega
 ·exfalso
  have:=zAj P faults d;have g:∀n∈faults,runP prt n=n.length:=by decide
  rw[g u this]at z;omega
 ·exfalso
  have:=zAj P marks d;have g:∀n∈marks,runP prt n=n.length:=by decide
  rw[g u this]at z;omega
theorem zIc{p:UInt8->Bool}:∀(u:List UInt8),runP p u<u.length->∃c y,u=u.take (runP p u)++c::y/\p c=gW
 |[],h=>by simp at h
 |d::t,h=>by
  cases hd:p d with
  |false=>rw[runP_neg hd];exact⟨d,t,rfl,hd⟩
  |true =>
   rw[runP_pos hd]at h ⊢;simp only[dZ]at h;obtain⟨c,y,e,f⟩:=zIc (p:=p) t (by omega);refine⟨c,y,?_,f⟩;rw[dY,fZ,<-e]
theorem Er.cut{p:Nat}{l:List UInt8}{c q:Nat}(h:Er p l c q):p<=q/\q<p+l.length/\(c=40\/c=41)/\(c=40->(∃ts,Ok p (l.take (q-p)) ts) \/ ∃g,Er p (l.take (q-p)) 41 g):=by
 induction h using Er.ind with
 | @blank p t c q h ih =>
  obtain⟨K,s,N,P⟩:=ih;refine⟨by omega,by simp only[dZ];omega,N,λf=>?_⟩;have e:q-p=(q-(p+1))+1:=by omega
  rw[e,dY];rcases P f with⟨ts,h⟩|⟨g,h⟩
  ·exact pZ ⟨ts,Ok.blank h⟩
  ·exact gZ ⟨g,Er.blank h⟩
 | @zX p c t h X =>
  refine⟨eZ _,by simp,by split <;> simp,λ_=>pZ ⟨[],?_⟩⟩;rw[Nat.sub_self];exact Ok.nil p
 | @bad p k u r ha hp =>
  refine⟨by omega,by rw[oZ];omega,pZ rfl,λ_=>gZ ⟨p,?_⟩⟩;obtain rfl:=zL9 ha hp;obtain⟨d,t,rfl⟩:=ha.cons;have z:txtSz (d::(t++r))=(d::t).length:=ha.hn;have hd:d=34:=zBm (by rw[z];exact ha.pos);subst hd;have e:txtSz (34::(t++r))=quo fW 1 (t++r):=rfl;rw[e]at z;rw[runP_pos (by decide)]at hp ⊢;simp only[dZ]at hp z;obtain⟨c,y,K,s⟩:=zIc (p:=prt) t (by omega);have f:¬c=34:=λe=>by rw[e]at s;exact absurd s (by decide)
  rw[gY,fZ,dY,List.take_append_of_le_length (by omega)];have hl:(t.take (runP prt t)).length=runP prt t:=by rw[yY];omega
  have R:quo fW 1 (t.take (runP prt t))=0:=by
   refine zE7 _ fW 1 c (y++r) f ?_;have e3:t.take (runP prt t)++c::(y++r)=t++r:=by
    conv=>rhs;rw[K]
    rw[jY];rfl
   rw[e3,z,hl];omega
  have X:hit (34::t.take (runP prt t))=6:=by
   refine hit_none λj a b=>?_
   have:j=1\/j=2\/j=3\/j=4\/j=5:=by omega
   rcases this with rfl|rfl|rfl|rfl|rfl
   ·have:¬0<numSz (34::t.take (runP prt t)):=λh=>absurd (numSz_pos.1 h) (by decide)
    rw[sz1];omega
   ·exact R
   ·have:¬0<runP wrd (34::t.take (runP prt t)):=λh=>absurd (wrdSz_pos.1 h) (by decide)
    rw[sz3];omega
   ·have:¬0<nameSz (34::t.take (runP prt t)) faults:=λh=>absurd (zAa h) (by decide)
    rw[sz4];omega
   ·have:¬0<nameSz (34::t.take (runP prt t)) marks:=λh=>absurd (zCN h) (by decide)
    rw[sz5];omega
  have:=Er.none (p:=p) (c:=34) (t:=t.take (runP prt t)) (by decide) X;rw[if_pos rfl]at this;exact this
 | @tok p k u r c q ha hp h ih =>
  obtain⟨K,s,N,P⟩:=ih;refine⟨by omega,by rw[oZ];omega,N,λf=>?_⟩;have e:q-p=u.length+(q-(p+u.length)):=by omega
  have e2:(u++r).take (q-p)=u++r.take (q-(p+u.length)):=by
   rw[e,List.take_append,gY,lY (by omega)]
  have hx:Nx k r (r.take (q-(p+u.length))):=by
   by_cases R:q-(p+u.length)=0
   ·rw[R];exact⟨gZ (pZ rfl),λ_ h=>by cases h⟩
   ·obtain⟨m,hm⟩:∃m,q-(p+u.length)=m+1:=⟨q-(p+u.length)-1,by omega⟩
    rw[hm];cases r with
    |nil=>exact⟨pZ rfl,λ_ h=>by cases h⟩
    |cons x y =>
     refine⟨pZ rfl,λ_ hh=>?_⟩;obtain rfl:x=46:=Option.some.inj hh;have T:=h.scan;rw[scan_none (by decide) (zJz y)]at T;have:=(zCw T).2;omega
  rw[e2];rcases P f with⟨ts,h⟩|⟨g,h⟩
  ·exact pZ ⟨_,Ok.tok (ha.ctx hx) hp h⟩
  ·exact gZ ⟨g,Er.tok (ha.ctx hx) hp h⟩
end Wlx
namespace Go.Proofs.YthcblmpncpcfkaaGreatDoor
open Go.RowKit Go.Shelf
variable {en p c:Int}{sub:List Wlx.TV->PR}{ts:List Wlx.TV}
def PIn(en:Int)(ts:List Wlx.TV)(p:Int):Prop:=p=0 \/ ∃r,r <:+ ts/\p=pos r en
theorem PIn.here:PIn en ts (pos ts en):=gZ ⟨ts,List.suffix_refl _,rfl⟩
theorem PIn.of{d:List Wlx.TV}(h:PIn en d p)(e:d <:+ ts):PIn en ts p:=h.imp id λ⟨r,h1,h2⟩=>⟨r,h1.trans e,h2⟩
def Vi(en:Int)(sub:List Wlx.TV->PR):Prop:=∀ts c p,sub ts=.inr (c,p)->PIn en ts p
theorem zQA(en:Int):Vi en (λts=>pl ts en):=by
 intro ts c p h;simp only[pl]at h;split at h
 ·cases h
 ·simp only[Sum.inr.injEq,Prod.mk.injEq]at h;rw[<-h.2];exact PIn.here
theorem zNT(h:pc ts en=.inr (c,p)):PIn en ts p:=by
 unfold pc at h;repeat' split at h
 all_goals first|(simp only[Sum.inr.injEq,Prod.mk.injEq]at h;rw[<-h.2];exact PIn.here)|cases h
theorem zJp(s:ByteArray)(en:Int):Vi en (λts=>pcs s ts en):=by
 intro ts c p h;simp only[pcs]at h;cases d:pc ts en with
 |inr e=>rw[d]at h;simp only[Sum.inr.injEq]at h;rw[h]at d;exact zNT d
 |inl q =>
  obtain⟨a,j⟩:=q;rw[d]at h;simp only at h;have t:=zHd d;cases g:tk j [58]with
  |none=>rw[g]at h;cases h
  |some l =>
   rw[g]at h;simp only at h;have u:=(Qx g).1;cases f:pc l en with
   |inr e=>rw[f]at h;simp only[Sum.inr.injEq]at h;rw[h]at f;exact(zNT f).of (u.trans t)
   |inl q=>rw[f]at h;cases h
theorem zL3(f:∀ts row r,sub ts=.inl (row,r)->r <:+ ts)(s:Vi en sub)(k:Int):∀(n:Nat)(row:List Wt.Nd)(ts:List Wlx.TV)(c p:Int),more sub k n row ts=.inr (c,p)->PIn en ts p:=by
 intro n;induction n with
 |zero=>intro row ts c p h;cases h
 |succ n t =>
  intro row ts c p h;simp only[more]at h;cases g:Jc k ts with
  |none=>rw[g]at h;cases h
  |some q =>
   obtain⟨o,u⟩:=q;rw[g]at h;simp only at h;have l:=(Qm g).1;cases d:sub u with
   |inr e=>rw[d]at h;simp only[Sum.inr.injEq]at h;rw[h]at d;exact(s _ _ _ d).of l
   |inl q =>
    obtain⟨j,y⟩:=q;rw[d]at h;simp only at h;exact(t _ _ _ _ h).of ((f _ _ _ d).trans l)
theorem zM5(g:∀ts row r,sub ts=.inl (row,r)->r <:+ ts)(u:Vi en sub):∀(n j:Nat)(d:List Wt.Nd)(ts:List Wlx.TV)(c p:Int),Jo sub en n j d ts=.inr (c,p)->PIn en ts p:=by
 intro n;induction n with
 |zero=>intro j d ts c p h;simp only[Jo,Sum.inr.injEq,Prod.mk.injEq]at h;rw[<-h.2];exact PIn.here
 |succ n y =>
  intro j d ts c p h;simp only[Jo]at h;cases s:tk ts [41]with
  |some q=>rw[s]at h;cases h
  |none =>
   rw[s]at h;simp only at h;split at h
   ·simp only[Sum.inr.injEq,Prod.mk.injEq]at h;rw[<-h.2];exact PIn.here
   ·cases l:tk ts [44]with
    |none=>rw[l]at h;simp only[Sum.inr.injEq,Prod.mk.injEq]at h;rw[<-h.2];exact PIn.here
    |some z =>
     rw[l]at h;simp only at h;have t:=(Qx l).1;cases f:sub z with
     |inr e=>rw[f]at h;simp only[Sum.inr.injEq]at h;rw[h]at f;exact(u _ _ _ f).of t
     |inl q =>
      obtain⟨row,K⟩:=q;rw[f]at h;simp only at h;exact(y _ _ _ _ _ h).of ((g _ _ _ f).trans t)
theorem zJg(d:∀ts row r,sub ts=.inl (row,r)->r <:+ ts)(s:Vi en sub)(nm:List UInt8):Vi en (VG sub en nm):=by
 intro ts c p h;unfold VG at h;cases l:tk ts [41]with
 |some q=>rw[l]at h;cases h
 |none =>
  rw[l]at h;simp only at h;cases f:sub ts with
  |inr e=>rw[f]at h;simp only[Sum.inr.injEq]at h;rw[h]at f;exact s _ _ _ f
  |inl q =>
   obtain⟨g,t⟩:=q;rw[f]at h;simp only at h;cases j:Jo sub en (t.length+1) 1 g t with
   |inr e=>rw[j]at h;simp only[Sum.inr.injEq]at h;rw[h]at j;exact(zM5 d s _ _ _ _ _ _ j).of (d _ _ _ f)
   |inl q=>rw[j]at h;cases h
theorem zHT(d:∀ts row r,sub ts=.inl (row,r)->r <:+ ts)(e:Vi en sub):Vi en (Jq sub en):=by
 intro ts c p h;unfold Jq at h;split at h
 ·split at h
  ·exact(zJg d e _ _ _ _ h).of (qX _ _)
  ·simp only[Sum.inr.injEq,Prod.mk.injEq]at h;rw[<-h.2];exact PIn.here
 split at h
 ·split at h
  ·exact(zJp _ _ _ _ _ h).of (qX _ _)
  ·simp only[Sum.inr.injEq,Prod.mk.injEq]at h;rw[<-h.2];exact PIn.here
 split at h
 ·cases h
 split at h
 ·cases h
 ·exact zJp _ _ _ _ _ h
theorem zGx(f:∀ts row r,sub ts=.inl (row,r)->r <:+ ts)(t:Vi en sub):Vi en (J2 sub en):=by
 intro ts c p h;unfold J2 at h;cases g:tk ts [40]with
 |none=>rw[g]at h;simp only[Sum.inr.injEq,Prod.mk.injEq]at h;rw[<-h.2];exact PIn.here
 |some u =>
  rw[g]at h;simp only at h;have s:=(Qx g).1;cases d:sub u with
  |inr e=>rw[d]at h;simp only[Sum.inr.injEq]at h;rw[h]at d;exact(t _ _ _ d).of s
  |inl q =>
   obtain⟨l,y⟩:=q;rw[d]at h;simp only at h;cases j:tk y [41]with
   |none=>rw[j]at h;simp only[Sum.inr.injEq,Prod.mk.injEq]at h;rw[<-h.2];exact PIn.here.of ((f _ _ _ d).trans s)
   |some z=>rw[j]at h;cases h
theorem zQe(en:Int):∀(f k:Nat),Vi en (lv en f k):=by
 intro f;induction f with
 |zero=>intro k ts c p h;simp only[lv,Sum.inr.injEq,Prod.mk.injEq]at h;exact pZ h.2.symm
 |succ f g =>
  intro k ts c p h;by_cases y:k<5
  ·rw[zLc _ _ _ y]at h;unfold pbt at h;cases d:lv en f (k+1) ts with
   |inr e=>rw[d]at h;simp only[Sum.inr.injEq]at h;rw[h]at d;exact g _ _ _ _ d
   |inl q =>
    obtain⟨j,s⟩:=q;rw[d]at h;simp only at h;exact(zL3 (JX en f (k+1)) (g (k+1)) _ _ _ _ _ _ h).of (JX en _ _ _ _ _ d)
  by_cases t:k=5
  ·subst t;rw[zMN]at h;unfold psg at h;cases d:Jc 5 ts with
   |none=>rw[d]at h;exact g 6 ts c p h
   |some q =>
    obtain⟨o,s⟩:=q;rw[d]at h;simp only at h;have z:=(Qm d).1;cases l:lv en f 5 s with
    |inr e=>rw[l]at h;simp only[Sum.inr.injEq]at h;rw[h]at l;exact(g 5 s c p l).of z
    |inl q=>rw[l]at h;cases h
  by_cases u:k=6
  ·subst u;rw[zLb]at h;unfold ppc at h;cases d:lv en f 7 ts with
   |inr e=>rw[d]at h;simp only[Sum.inr.injEq]at h;rw[h]at d;exact g 7 ts c p d
   |inl q=>obtain⟨j,s⟩:=q;rw[d]at h;simp only at h;exact(zGM _ _ _ _ _ h).elim
  simp only[lv,if_neg y,if_neg t,if_neg u]at h;split at h
  ·exact zHT (JX en f 0) (g 0) _ _ _ h
  split at h
  ·exact zGx (JX en f 0) (g 0) _ _ _ h
  ·exact zQA en _ _ _ h
theorem zGp{l:List UInt8}(h:V2 l=.inr (c,p)):0<=p/\p<=l.length:=by
 unfold V2 at h;cases f:Qb l with
 |inr q =>
  obtain⟨s,P⟩:=q;rw[f]at h;simp only[Sum.inr.injEq,Prod.mk.injEq]at h;unfold Qb at f;split at f
  ·simp only[Sum.inr.injEq,Prod.mk.injEq]at f;omega
  ·have:=(Wlx.Er.cut (p:=0) (l:=l) (c:=s) (q:=P) f)
   omega
 |inl ts =>
  rw[f]at h;simp only at h;have g:∀t∈ts,t.p<l.length:=by
   unfold Qb at f;split at f
   ·cases f
   ·intro t K;have:=(Wlx.Ok.count (p:=0) (l:=l) (ts:=ts) f).2 t K;omega
  have key:∀p,PIn (l.length:Int) (ts.map Wlx.tv) p->0<=p/\p<=l.length:=by
   intro p d;rcases d with rfl|⟨r,z,rfl⟩
   ·omega
   ·unfold pos;cases r with
    |nil=>show 0<=(l.length:Int)/\(l.length:Int)<=l.length;omega
    |cons t q =>
     have y:t∈ts.map Wlx.tv:=z.subset sM;obtain⟨u,N,rfl⟩:=List.mem_map.1 y;have:=g u N;show 0<=(u.p:Int)/\(u.p:Int)<=l.length
     omega
  unfold Vj at h;cases d:Vd (lv (l.length:Int) (10*(ts.map Wlx.tv).length+9) 0) (l.length:Int) (ts.map Wlx.tv)with
  |inr q =>
   rw[d]at h;simp only[Sum.inr.injEq]at h;subst h;unfold Vd at d;split at d
   ·rename_i e j
    simp only[Sum.inr.injEq]at d;subst d;exact key _ (zQe _ _ _ _ _ _ j)
   ·cases d
   ·rename_i row t r j
    simp only[Sum.inr.injEq,Prod.mk.injEq]at d;refine key _ (gZ ⟨t::r,JX _ _ _ _ _ _ j,d.2.symm⟩)
  |inl q =>
   obtain⟨row,rr⟩:=q;rw[d]at h;simp only at h;split at h
   ·cases h
   ·simp only[Sum.inr.injEq,Prod.mk.injEq]at h;omega
