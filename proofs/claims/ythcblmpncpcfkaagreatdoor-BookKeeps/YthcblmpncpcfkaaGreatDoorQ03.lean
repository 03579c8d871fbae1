/- Lemmas. -/
import Derived.Test.YthcblmpncpcfkaaGreatDoorQ02
set_option maxHeartbeats 4000000
set_option maxRecDepth 100000
open Option renaming none->kY,some->lY
open Bool renaming true->mY,false->nY
open Decidable renaming decide->oY
open Go.RowKit.Below renaming refl->aZ
open Go.World renaming frozen?_setCell->bZ,there->cZ,cell?_setCell_far->dZ,cell?->jY
open Nat renaming le_succ->eZ,lt_or_ge->xZ,le_trans->zZ,zero_le->bY,lt_of_lt_of_le->dY,le_refl->fY,not_lt_zero->gY,zero_mul->hY,zero_add->iY
open Or renaming inl->fZ,inr->gZ
open List renaming length_set->hZ,getElem_set_self->iZ,getElem_set_ne->jZ,getElem_mem->kZ,getElem_append_left->mZ,length_map->oZ,mem_cons_of_mem->pZ,drop_eq_getElem_cons->qZ,mem_cons_self->rZ,drop_eq_nil_of_le->tZ,map_toArray->uZ,map_cons->vZ,map_nil->yZ,getElem_cons_zero->aY,getElem?_eq_none->cY,map_map->eY
open Go.IntKind renaming wrap_i64->nZ
open Go.Result renaming andThen_ok->sZ
open Int renaming toNat_natCast->wZ
open Go renaming World->wW,Value->vW,Calls->cW,Addr->dW
open Go.RowKit renaming Hid->hH
open Go.Value renaming int->O,slice->U,string->V,bool->Y,pointer->pX,agg->gX,tuple->uX
open Go.IntKind renaming i64->J
open Go.Obj renaming cells->Z
open Go.Ending renaming returned->rX
open Go.Operand renaming tmp->mX
namespace Go.Proofs.YthcblmpncpcfkaaGreatDoor
open Tryz
variable {x y:Wc.In}{ka kb B k n mk b:Nat}{tv tu v s0 s1 lv:vW}{W w w' w1:wW}{tl A:List Int}{T:Nat->Nat}{L:List Wf.I}{P:List (Wc.In×vW)}{a:Act}{Q:Exit->Act->wW->Prop}{op:Oper}{M:List (Option (Int×Nat))}{ops:Array Oper}{rest:List Oper}{K:Act->wW->Prop}
open Go.RowKit Wf
set_option linter.unusedVariables false
def go0(c:Int)(l:List Int):Int:=if c=0 then zPi l else c
theorem zIY{lo e:Nat}{d:List (Tr n×vW)}(h:∀p∈d,PA n lo e w p.1 p.2):∀q∈(d.map λp=>(hd n p.1,p.2)),∃a b c,q.2=U a b c:=λq hq=>by
 obtain⟨p,f,rfl⟩:=List.mem_map.1 hq;exact(h p f).slice
theorem zEp:∀{n:Nat}{t:Tr n},VD n t->Wt.right (hd n t)=mY
 |0,t,_=>Empty.elim t
 |n+1,t,h=>h.1
theorem zOr{c:List (Tr n×vW)}(h:∀p∈c,VD n p.1):∀q∈(c.map λp=>(hd n p.1,p.2)),isA q.1=mY->RtN q.1:=λq hq ha=>by
 obtain⟨p,d,rfl⟩:=List.mem_map.1 hq;exact zCm (zEp (h p d)) (by simpa[isA]using ha)
def RfC(own:Int)(nm:List ByteArray)(c:Option dW)(g d n:Nat):Prop:=∀(t:Tr n)(e:vW)(lo f:Nat)(w:wW),VD n t->PA n lo f w t e->NmAt w->RdS w c nm ->
 CR 83 #[gX (QO (hd n t) e).toArray,Jn own c g d] w (O J (VC own nm n t))
def RfT(own:Int)(nm:List ByteArray)(c:Option dW)(g d n:Nat)(t:Tr n):Prop:=∀(e:vW)(lo f:Nat)(w:wW),VD n t->PA n lo f w t e->NmAt w->RdS w c nm ->
 CR 83 #[gX (QO (hd n t) e).toArray,Jn own c g d] w (O J (VC own nm n t))
def RcC(x:Wt.Nd):Prop:=x.k=6->∀(L:List (Wt.Nd×vW))(d:Option dW)(m cap:Nat)(w:wW),NmAt w->m=L.length->L.length<=30->x.ar=(L.length:Int)->(∀q∈L,∃a b c,q.2=U a b c)->RdQ w d L->(∀q∈L,isA q.1=mY->RtN q.1)->CR 150 #[gX (QO x (U d m cap)).toArray] w (O J (Vh x (L.map (·.1))))
theorem zOs(own:Int)(nm:List ByteArray)(g:Option dW)(z d:Nat)(au:z=nm.length)(aq:nm.length<=16)(n:Nat)(ih:RfC own nm g z d n)(t:Tr (n+1))(hC:RcC (hd (n+1) t)):RfT own nm g z d (n+1) t:=by
 intro sl lo hi w hF hP hN hS;obtain⟨x,ks⟩:Br (Tr n):=t;obtain⟨hx,hp,F⟩:=hF;replace hx:Wt.right x=mY:=hx
 replace hp:Wt.parts x=(ks.length:Int):=hp
 replace F:∀k∈ks,VD n k:=F
 obtain⟨H,cap,f,q1,rfl,aI,q3,q4⟩:=hP;replace q1:f.map (·.1)=ks:=q1
 have ap:hd (n+1) (⟨x,ks⟩:Br (Tr n))=x:=rfl;rw[ap];replace hC:RcC x:=hC
 have N:f.length=ks.length:=by rw[<-q1,oZ]
 have o:f.length<=30:=by have:=(Wt.parts_le hx).2;omega
 have aa:∀p∈f,VD n p.1:=λp hp=>F p.1 (by rw[<-q1];exact List.mem_map.2 ⟨p,hp,rfl⟩)
 have am:x.k=6->x.ar=((f.map λp=>(hd n p.1,p.2)).length:Int):=λh6=>by
  rw[oZ,N,<-hp];unfold Wt.parts;rw[if_neg oM,if_neg oM]
 have hb:=QI (QI (aZ _ w) (Z (QO x (U H f.length cap)).toArray 158)) (Z #[O J own,U g z d] 154);have pP:=(AtL.new0 w 158 (QO x (U H f.length cap))).alloc (Z #[O J own,U g z d] 154);have pS:=AtL.new1 w (Z (QO x (U H f.length cap)).toArray 158) 154 [O J own,U g z d];have RN:=zMc own nm g z d x (f.map λp=>(hd n p.1,p.2)) H f.length cap _ (hN.below hb) (hS.below hb) au aq (by rw[oZ]) (by rw[oZ];exact o) (q3.q.below hb) λh6 W aD aE=>hC h6 (f.map λp=>(hd n p.1,p.2)) H f.length cap W aD (by rw[oZ]) (by rw[oZ];exact o) (am h6) (zIY q4) aE (zOr aa)
 have R:(f.map λp=>(hd n p.1,p.2)).map (·.1)=ks.map (hd n):=by rw[<-q1,eY,eY];rfl
 rw[R]at RN;have hq:VC own nm (n+1) (⟨x,ks⟩:Br (Tr n))=go0 (V7 own nm x (ks.map (hd n))) (f.map λp=>VC own nm n p.1):=by
  have e1:(f.map λp=>VC own nm n p.1)=ks.map (VC own nm n):=by rw[<-q1,eY];rfl
  rw[e1];rfl
 rw[hq];generalize V7 own nm x (ks.map (hd n))=r0 at*;obtain⟨q,ab⟩:=xV (go0 r0 (f.map λp=>VC own nm n p.1))
 rw[ab];have aj:=hid ab;have ax:=hid aa;have ai:=hid q4;have aC:=hid q3;have ah:=hid (And.intro hN hS);have ay:=hid ih;clear hx hp F q1 aI q3 q4 ap N aa am R hq ab hN hS ih au aq hC;have az:=hid o;clear o;have aA:hH (∀(i:Nat)(h:i<f.length),f.drop i=f[i]::f.drop (i+1)):=λi h=>qZ h
 obtain⟨m,hm⟩:=xV f.length
 have X:=hid hm;rw[hm]at pP RN hb pS ⊢;clear hm;have I:=pP.2.1 20 (U H m cap) rfl;have rP:=pP.range;have s0:=pS.2.1 0 _ rfl;have s1:=pS.2.1 1 _ rfl;go_enter func83,ntmps83;go_upto_region 1 with fail
 have af:=hid hb;clear hb;generalize((w.alloc (Z (QO x (U H m cap)).toArray 158)).alloc (Z [O J own,U g z d].toArray 154))=W at*;go_wp2_with (first|(refine ldQ 158 (mX 2) w.heap.size 0 (QO x (U H m cap)) _ rP underlying158 ?_))
 refine RN.mono ?_;rintro e W1 ⟨rfl,D⟩;have ag:=hid (QB D I);have aB:=hid (QF D pS.range);have s:=hid (QA af.out D);clear RN I rP s0 s1 pP pS D af;go_wp2_with fail
 go_loopg [5,6] m (λgk u5 u6 wr=>∃(i:Nat)(c:Int),u5=O J c/\u6=O J (i:Int)/\gk=m-i/\i<=m/\hH (go0 c ((f.drop i).map λp=>VC own nm n p.1)=q)/\hH (bL W1 wr))
 case atStart=>exact⟨0,r0,rfl,rfl,rfl,bY _,aj,aZ _ _⟩
 case round =>
  clear aj;obtain⟨i,c,rfl,rfl,hg,aJ,HQ,HB⟩:=hrel;have j:=QB HB.out ag.out;by_cases aH:i<m
  ·have aG:(i:Int)<(m:Int):=oM;by_cases hc:c=0
   ·subst hc;have aK:(0:Int)<=(i:Int):=oM;have aL:J.wrap ((i:Int)+1)=(i:Int)+1:=by have:=az.out;have:=X.out;rw[nZ];omega
    have u:i<f.length:=by have:=X.out;omega
    obtain⟨bb,C,_,_,rfl,hr⟩:=aC.out i u;have an:=QA s.out HB.out;have G:=QF an hr;have rs:=QF HB.out aB.out;have ao:=aA.out i u;have al:=λ(W2:wW)(h:bL W1 W2)=>ay.out (f[i]).1 (f[i]).2 lo hi W2 (ax.out _ (kZ u)) (PA.kept (Kept.of_below (QA s.out h)) n _ _ (ai.out _ (kZ u))) (ah.out.1.below (QA s.out h)) (ah.out.2.below (QA s.out h))
    obtain⟨sa,sb,sc,ad⟩:=(ai.out _ (kZ u)).slice;have ak:hH (go0 (VC own nm n (f[i]).1) ((f.drop (i+1)).map λp=>VC own nm n p.1)=q):=by
     show _=_
     rw[<-HQ.out,ao];rfl
    obtain⟨rt,ac⟩:∃r,VC own nm n (f[i]).1=r:=⟨_,rfl⟩
    obtain⟨y,hy⟩:=xV (hd n (f[i]).1)
    rw[ad,hy]at G;rw[ac]at ak;have KC:∀(W2:wW),bL W1 W2->CR 83 #[gX (QO y (U sa sb sc)).toArray,Jn own g z d] W2 (O J rt):=by
     intro W2 h;have:=al W2 h;rw[ad,hy,ac]at this;exact this
    clear al ad hy ac ao hr an u HQ;go_upto_region 5 with fail
    have ae:=hid HB.out.drew;replace j:wr.drew.cell? ⟨w.heap.size,20,kY⟩=lY (U (lY ⟨bb,C,kY⟩) m cap):=j
    replace G:wr.drew.rangeAt bb (C+i*21) (QO y (U sa sb sc)):=G
    replace rs:wr.drew.rangeAt (w.heap.size+1) 0 [O J own,U g z d]:=rs
    refine wp_region_held_drew (S:=λW=>W.cell? ⟨w.heap.size,20,kY⟩=lY (U (lY ⟨bb,C,kY⟩) m cap)/\W.rangeAt bb (C+i*21) (QO y (U sa sb sc))/\W.rangeAt (w.heap.size+1) 0 [O J own,U g z d]) kR ⟨j,G,rs⟩ (λl=>?_);generalize wr.drew=WD at*;refine tkQ 0 ?_
    refine tkQ 1 ?_
    refine tkQ 2 ?_
    refine tkQ 3 ?_
    refine tkH 4 (gX (QO y (U sa sb sc)).toArray) rfl (yiQ 158 (mX 24) (bb) (C+i*21) (QO y (U sa sb sc)) _ (λ_ h=>h.2.1) underlying158) ?_;try simp only[Act.put,lA,lZ,lS]
    refine tkH 5 (gX ([O J own,U g z d]).toArray) rfl (yiQ 154 (mX 3) (w.heap.size+1) (0) ([O J own,U g z d]) _ (λ_ h=>h.2.2) underlying154) ?_;try simp only[Act.put,lA,lZ,lS]
    refine rdQ 6 (λK hK=>?_);go_simp
    refine(KC _ ae.out).mono ?_;rintro e w2 ⟨rfl,E⟩;go_wp2_with fail
    have aw:=hid (QA ae.out E);replace j:=QB E j
    replace G:=QF E G
    replace rs:=QF E rs
    refine hkQ hK ⟨j,G,rs⟩ (λl=>?_);clear hK K
    refine rdQ 7 (λK hK=>?_);go_simp
    refine hkQ hK ⟨j,G,rs⟩ (λl=>?_);clear hK K
    refine wpAnyH_done kR ?_ _;clear l G rs j;go_wp2_with fail
    go_roundg (m-(i+1))
    case rel=>exact⟨i+1,rt,rfl,sM,rfl,aH,ak,aw⟩
    case measure=>omega
   ·have hq:q=c:=by rw[<-HQ.out];unfold go0;rw[if_neg hc]
    subst hq;have hB:=QA s.out HB.out;go_wp2;go_ret;exact⟨rfl,hB⟩
  ·have aG:¬(i:Int)<(m:Int):=oM;have hq:q=c:=by
    have aF:f.length<=i:=by have:=X.out;omega
    rw[<-HQ.out,tZ aF];unfold go0;by_cases h0:c=0
    ·rw[if_pos h0,h0];rfl
    ·rw[if_neg h0]
   subst hq;have hB:=QA s.out HB.out;go_wp2;go_ret;exact⟨rfl,hB⟩
theorem zLp(own:Int)(nm:List ByteArray)(d:Option dW)(e c:Nat)(i:e=nm.length)(g:nm.length<=16)(n:Nat)(u:RfC own nm d e c n):RfC own nm d e c (n+1):=λt =>
 zOs own nm d e c i g n u t λz L o m cap w p s r f l q j=>zMZ _ L o m cap w p s r f l q j
theorem zCH(own:Int)(nm:List ByteArray)(d:Option dW)(g c:Nat)(f:g=nm.length)(e:nm.length<=16):∀n,RfC own nm d g c n
 |0=>λt=>Empty.elim t
 |n+1=>zLp own nm d g c f e n (zCH own nm d g c f e n)
open Go.RowKit
def OwnZ(w:wW)(B:Nat)(v:vW)(A:List Int):Prop:=w.ownsRow B 3 1 v A.length (A.map (O J))
theorem OwnZ.nil(w:wW)(B:Nat):OwnZ w B (U kY 0 0) []:=⟨rfl,fZ ⟨rfl,rfl⟩⟩
theorem OwnZ.rd(h:OwnZ w B v A):RdZ w v A:=by
 rcases h.2 with⟨e,f⟩|⟨g,cap,d,e,s,m,p,q,r,j⟩
 ·have l:A=[]:=List.eq_nil_of_length_eq_zero f;subst l;rw[e];exact RdZ.nil w
 ·refine⟨lY ⟨g,0,kY⟩,cap,e,λi o=>⟨g,0,rfl,?_⟩⟩;have c:(A.map (O J))[i]?=lY (O J (A[i])):=by simp[o]
  rw[<-j,List.getElem?_take_of_lt oM]at c;unfold jY;simp only[m];simpa using c
theorem OwnZ.blk(h:OwnZ w B v A){g:Nat}(e:v.ownBlock=lY g):B<=g/\g<w.heap.size:=by
 rcases h.2 with⟨rfl,_⟩|⟨c,cap,f,rfl,j,d,_⟩
 ·cases e
 ·have i:c=g:=by simpa[Value.ownBlock]using e
  subst i;refine⟨j,?_⟩;rcases xZ c w.heap.size with q|q
  ·exact q
  ·rw[Array.getElem?_eq_none q]at d;cases d
theorem OwnZ.below(h:OwnZ w B v A)(f:bL w w'):OwnZ w' B v A:=by
 have j:=λ{g}(e:v.ownBlock=lY g)=>h.blk e
 refine⟨h.1,?_⟩;rcases h.2 with q|⟨g,cap,c,rfl,d,i,r⟩
 ·exact fZ q
 ·exact gZ ⟨g,cap,c,rfl,d,by rw[f.block g (j rfl).2];exact i,r⟩
theorem zIQ:(prog.info? 3).map (λi=>(i.zero,i.size,i.bytes))=lY (lY (O J 0),1,8):=kR
def VQ(at' n:Int)(j:Int):Bool:=oY (j<=at'\/n<=j)
theorem zIZ(c at':Int)(p q:dW)(e:Option dW)(n cap:Nat)(w:wW)(i:w.cell? p=lY (O J at'))(j:w.cell? q=lY (U e n cap)) :
  CR 100 #[O J c,pX (lY p),pX (lY q)] w (Y (VQ at' n c)):=by
 by_cases f:c<=at'
 ·have d:VQ at' n c=mY:=decide_eq_true (fZ f);rw[d];go_enter func100,ntmps100;go_wp2;go_ret;exact⟨sM,aZ _ _⟩
 ·by_cases g:(n:Int)<=c
  ·have d:VQ at' n c=mY:=decide_eq_true (gZ g);rw[d];go_enter func100,ntmps100;go_wp2;go_ret;exact⟨sM,aZ _ _⟩
  ·have d:VQ at' n c=nY:=decide_eq_false oM;rw[d];go_enter func100,ntmps100;go_wp2;go_ret;exact⟨sM,aZ _ _⟩
theorem zGw(l:List Int)(v:vW)(at':Int)(s t:Nat)(u:Option dW)(n cap:Nat)(w:wW)(h:RdZ w v l)(hl:l.length<=1000000)(N:w.cell? ⟨s,0,kY⟩=lY (O J at'))(R:w.cell? ⟨t,0,kY⟩=lY (U u n cap)) :
  cW prog 135 #[v,.func (.func 100) #[] #[pX (lY ⟨s,0,kY⟩),pX (lY ⟨t,0,kY⟩)]] w λe w'=>(∃z:Int,e=rX (O J z)/\oY (0<=z)=l.any (VQ at' n))/\bL w w':=by
 have eg:∀args w,(callFunc 100 args).run prog w=.ok (.enter 100 args) w:=λ_ _=>by kernel_rfl
 obtain⟨a1,c1,rfl,X⟩:=h;have H1:hH (∀i (h:i<l.length),∃bb off,a1=lY ⟨bb,off,kY⟩/\w.cell? ⟨bb,off+i,kY⟩=lY (O J (l[i]))):=X;obtain⟨k,D⟩:=xV l.length
 have G:hH (l.length=k):=D;rw[D]at hl ⊢;have HP:hH (w.cell? ⟨s,0,kY⟩=lY (O J at')):=N;have HQ:hH (w.cell? ⟨t,0,kY⟩=lY (U u n cap)):=R;clear X D N R;go_enter func135,ntmps135;go_wp2_with fail
 go_loopg [5,8] k (λgk y x wr=>∃i:Nat,x=O J i/\gk=k-i/\i<=k/\hH (∀m (d:m<l.length),m<i->VQ at' n l[m]=nY)/\bL w wr)
 case atStart=>exact⟨0,rfl,rfl,bY _,(λm d h=>absurd h (gY _):∀m (d:m<l.length),m<0->VQ at' n l[m]=nY),aZ _ _⟩
 case round =>
  obtain⟨i,rfl,hg,hi,I,f⟩:=hrel;by_cases o:i<k
  ·have E:(i:Int)<(k:Int):=oM;have ab:J.wrap ((i:Int)+1)=(i:Int)+1:=by rw[nZ];omega
   have C:i<l.length:=by rw[G.out];exact o
   obtain⟨b1,o1,rfl,S⟩:=H1.out i C;have d1:=QB f S;have p:=λw2 (j:bL wr w2)=>zIZ l[i] at' ⟨s,0,kY⟩ ⟨t,0,kY⟩ u n cap w2 (QB j (QB f HP.out)) (QB j (QB f HQ.out))
   obtain⟨x,F⟩:=xV (l[i])
   obtain⟨r,q⟩:=xV (VQ at' n l[i])
   have H:hH (VQ at' n l[i]=r):=q;rw[F]at d1 p;rw[F]at q;rw[q]at p;have g:=p wr (aZ _ _);clear S F q p;cases r with
   |true =>
    go_wp2_with (go_at_call 100;refine g.mono ?_;rintro e w1 ⟨rfl,c⟩)
    go_ret;refine⟨⟨_,rfl,?_⟩,QA f c⟩;have:l.any (VQ at' n)=mY:=List.any_eq_true.2 ⟨l[i],kZ _,H.out⟩;rw[this];simp
   |false =>
    go_wp2_with (go_at_call 100;refine g.mono ?_;rintro e w1 ⟨rfl,c⟩)
    go_roundg (k-(i+1))
    case rel =>
     refine⟨i+1,sM,rfl,o,(λm d aa=>?_:∀m (d:m<l.length),m<i+1->VQ at' n l[m]=nY),QA f c⟩;by_cases e:m=i
     ·subst e;exact H.out
     ·exact I.out m d oM
    case measure=>omega
  ·have E:¬(i:Int)<(k:Int):=oM;go_wp2;go_ret;refine⟨⟨_,rfl,?_⟩,f⟩;have:l.any (VQ at' n)=nY:=by
    rw[List.any_eq_false];intro y hy;obtain⟨m,d,rfl⟩:=List.getElem_of_mem hy;rw[I.out m d (by have:=G.out;omega)];simp
   rw[this];simp
theorem zAI(l:List Int)(v:vW)(at':Int)(d f:Nat)(g:Option dW)(n cap:Nat)(w:wW)(h:RdZ w v l)(i:l.length<=1000000)(j:w.cell? ⟨d,0,kY⟩=lY (O J at'))(m:w.cell? ⟨f,0,kY⟩=lY (U g n cap)) :
  CR 102 #[v,.func (.func 100) #[] #[pX (lY ⟨d,0,kY⟩),pX (lY ⟨f,0,kY⟩)]] w (Y (l.any (VQ at' n))):=by
 have I:=zGw l v at' d f g n cap w h i j m;clear h i j m;go_enter func102,ntmps102;go_wp2_with fail
 refine I.mono ?_;rintro e w1 ⟨⟨z,rfl,o⟩,c⟩;have H:hH (oY (0<=z)=l.any (VQ at' n)):=o;clear o I;go_wp2;go_ret;exact⟨by rw[<-H.out];rfl,c⟩
theorem QU(c:op.guard=kY)(T:TypeId)(y:Operand)(e:op.op=.build T #[(0,y)])(v:vW)(g:a.eval y=v)(L:List vW)(f:(Instr.build T #[(0,v)]).run prog w=.ok (gX L.toArray) w)
  (h:wpList prog ops Q rest (a.put op.dst (gX L.toArray)) w):wpList prog ops Q (op::rest) a w:=by
 refine wpList_plain c λK d=>?_
 unfold Oper.wp execOp;simp only[e,uZ,vZ,yZ,g,Sem.run_bind,Sem.run_pure,sZ,f];exact d _ _ h
theorem Qw(c:op.guard=kY)(T:TypeId)(i j:Nat)(y z:Operand)(e:op.op=.build T #[(i,y),(j,z)])(v u:vW)(g:a.eval y=v)(l:a.eval z=u)(L:List vW)(f:(Instr.build T #[(i,v),(j,u)]).run prog w=.ok (gX L.toArray) w)
  (h:wpList prog ops Q rest (a.put op.dst (gX L.toArray)) w):wpList prog ops Q (op::rest) a w:=by
 refine wpList_plain c λK d=>?_
 unfold Oper.wp execOp;simp only[e,uZ,vZ,yZ,g,l,Sem.run_bind,Sem.run_pure,sZ,f];exact d _ _ h
theorem zPn(id n k:Int)(w:wW):cW prog 221 #[gX (QH id n k).toArray] w λe w'=>(∃t p,e=rX (.iface t (.pointer p)))/\bL w w':=by
 have r0:=(AtL.new0 w 305 (QH id n k)).range;have c:=QI (aZ _ w) (Z (QH id n k).toArray 305);go_enter func221,ntmps221;go_upto_region 1 with fail
 generalize(w.alloc (Z (QH id n k).toArray 305))=W at*;go_wp2_with (first|(refine ldQ 305 (mX 1) w.heap.size 0 (QH id n k) _ r0 underlying305 ?_)|(refine QU rfl _ _ rfl _ rfl (QH id n k) kR ?_))
 go_ret;exact⟨⟨_,_,rfl⟩,(clB c)⟩
theorem zHM(id n k:Int)(w:wW):cW prog 222 #[gX (QH id n k).toArray] w λe w'=>(∃t p,e=rX (.iface t (.pointer p)))/\bL w w':=by
 have r0:=(AtL.new0 w 305 (QH id n k)).range;have c:=QI (aZ _ w) (Z (QH id n k).toArray 305);go_enter func222,ntmps222;go_upto_region 1 with fail
 generalize(w.alloc (Z (QH id n k).toArray 305))=W at*;go_wp2_with (first|(refine ldQ 305 (mX 1) w.heap.size 0 (QH id n k) _ r0 underlying305 ?_)|(refine QU rfl _ _ rfl _ rfl (QH id n k) kR ?_))
 go_ret;exact⟨⟨_,_,rfl⟩,(clB c)⟩
theorem zLv(id n k:Int)(w:wW):cW prog 223 #[gX (QH id n k).toArray] w λe w'=>(∃t p,e=rX (.iface t (.pointer p)))/\bL w w':=by
 have r0:=(AtL.new0 w 305 (QH id n k)).range;have c:=QI (aZ _ w) (Z (QH id n k).toArray 305);go_enter func223,ntmps223;go_upto_region 1 with fail
 generalize(w.alloc (Z (QH id n k).toArray 305))=W at*;go_wp2_with (first|(refine ldQ 305 (mX 1) w.heap.size 0 (QH id n k) _ r0 underlying305 ?_)|(refine QU rfl _ _ rfl _ rfl (QH id n k) kR ?_))
 go_ret;exact⟨⟨_,_,rfl⟩,(clB c)⟩
theorem zIB(id n k:Int)(w:wW):cW prog 224 #[gX (QH id n k).toArray] w λe w'=>(∃t p,e=rX (.iface t (.pointer p)))/\bL w w':=by
 have r0:=(AtL.new0 w 305 (QH id n k)).range;have c:=QI (aZ _ w) (Z (QH id n k).toArray 305);go_enter func224,ntmps224;go_upto_region 1 with fail
 generalize(w.alloc (Z (QH id n k).toArray 305))=W at*;go_wp2_with (first|(refine ldQ 305 (mX 1) w.heap.size 0 (QH id n k) _ r0 underlying305 ?_)|(refine QU rfl _ _ rfl _ rfl (QH id n k) kR ?_))
 go_ret;exact⟨⟨_,_,rfl⟩,(clB c)⟩
theorem zKb(id n k:Int)(w:wW):cW prog 225 #[gX (QH id n k).toArray] w λe w'=>(∃t p,e=rX (.iface t (.pointer p)))/\bL w w':=by
 have r0:=(AtL.new0 w 305 (QH id n k)).range;have c:=QI (aZ _ w) (Z (QH id n k).toArray 305);go_enter func225,ntmps225;go_upto_region 1 with fail
 generalize(w.alloc (Z (QH id n k).toArray 305))=W at*;go_wp2_with (first|(refine ldQ 305 (mX 1) w.heap.size 0 (QH id n k) _ r0 underlying305 ?_)|(refine Qw rfl _ _ _ _ _ rfl _ _ rfl rfl (QH id n k++[O J 1]) kR ?_)|(refine QU rfl _ _ rfl _ rfl (QH id n k) kR ?_))
 go_ret;exact⟨⟨_,_,rfl⟩,(clB c)⟩
theorem zEZ(id n k:Int)(w:wW):cW prog 226 #[gX (QH id n k).toArray] w λe w'=>(∃t p,e=rX (.iface t (.pointer p)))/\bL w w':=by
 have r0:=(AtL.new0 w 305 (QH id n k)).range;have c:=QI (aZ _ w) (Z (QH id n k).toArray 305);go_enter func226,ntmps226;go_upto_region 1 with fail
 generalize(w.alloc (Z (QH id n k).toArray 305))=W at*;go_wp2_with (first|(refine ldQ 305 (mX 1) w.heap.size 0 (QH id n k) _ r0 underlying305 ?_)|(refine Qw rfl _ _ _ _ _ rfl _ _ rfl rfl (QH id n k++[O J (-1)]) kR ?_)|(refine QU rfl _ _ rfl _ rfl (QH id n k) kR ?_))
 go_ret;exact⟨⟨_,_,rfl⟩,(clB c)⟩
theorem zG2(id n k:Int)(w:wW):cW prog 227 #[gX (QH id n k).toArray] w λe w'=>(∃t p,e=rX (.iface t (.pointer p)))/\bL w w':=by
 have r0:=(AtL.new0 w 305 (QH id n k)).range;have c:=QI (aZ _ w) (Z (QH id n k).toArray 305);go_enter func227,ntmps227;go_upto_region 1 with fail
 generalize(w.alloc (Z (QH id n k).toArray 305))=W at*;go_wp2_with (first|(refine ldQ 305 (mX 1) w.heap.size 0 (QH id n k) _ r0 underlying305 ?_)|(refine QU rfl _ _ rfl _ rfl (QH id n k) kR ?_))
 go_ret;exact⟨⟨_,_,rfl⟩,(clB c)⟩
theorem zQQ(id n k:Int)(w:wW):cW prog 228 #[gX (QH id n k).toArray] w λe w'=>(∃t p,e=rX (.iface t (.pointer p)))/\bL w w':=by
 have r0:=(AtL.new0 w 305 (QH id n k)).range;have c:=QI (aZ _ w) (Z (QH id n k).toArray 305);go_enter func228,ntmps228;go_upto_region 1 with fail
 generalize(w.alloc (Z (QH id n k).toArray 305))=W at*;go_wp2_with (first|(refine ldQ 305 (mX 1) w.heap.size 0 (QH id n k) _ r0 underlying305 ?_)|(refine Qw rfl _ _ _ _ _ rfl _ _ rfl rfl (QH id n k++[Y nY]) kR ?_)|(refine QU rfl _ _ rfl _ rfl (QH id n k) kR ?_))
 go_ret;exact⟨⟨_,_,rfl⟩,(clB c)⟩
theorem zRu(id n k:Int)(w:wW):cW prog 229 #[gX (QH id n k).toArray] w λe w'=>(∃t p,e=rX (.iface t (.pointer p)))/\bL w w':=by
 have r0:=(AtL.new0 w 305 (QH id n k)).range;have c:=QI (aZ _ w) (Z (QH id n k).toArray 305);go_enter func229,ntmps229;go_upto_region 1 with fail
 generalize(w.alloc (Z (QH id n k).toArray 305))=W at*;go_wp2_with (first|(refine ldQ 305 (mX 1) w.heap.size 0 (QH id n k) _ r0 underlying305 ?_)|(refine Qw rfl _ _ _ _ _ rfl _ _ rfl rfl (QH id n k++[Y mY]) kR ?_)|(refine QU rfl _ _ rfl _ rfl (QH id n k) kR ?_))
 go_ret;exact⟨⟨_,_,rfl⟩,(clB c)⟩
theorem zQH(id n k:Int)(w:wW):cW prog 230 #[gX (QH id n k).toArray] w λe w'=>(∃t p,e=rX (.iface t (.pointer p)))/\bL w w':=by
 have r0:=(AtL.new0 w 305 (QH id n k)).range;have c:=QI (aZ _ w) (Z (QH id n k).toArray 305);go_enter func230,ntmps230;go_upto_region 1 with fail
 generalize(w.alloc (Z (QH id n k).toArray 305))=W at*;go_wp2_with (first|(refine ldQ 305 (mX 1) w.heap.size 0 (QH id n k) _ r0 underlying305 ?_)|(refine QU rfl _ _ rfl _ rfl (QH id n k) kR ?_))
 go_ret;exact⟨⟨_,_,rfl⟩,(clB c)⟩
theorem zHk(id n k:Int)(w:wW):cW prog 231 #[gX (QH id n k).toArray] w λe w'=>(∃t p,e=rX (.iface t (.pointer p)))/\bL w w':=by
 have r0:=(AtL.new0 w 305 (QH id n k)).range;have c:=QI (aZ _ w) (Z (QH id n k).toArray 305);go_enter func231,ntmps231;go_upto_region 1 with fail
 generalize(w.alloc (Z (QH id n k).toArray 305))=W at*;go_wp2_with (first|(refine ldQ 305 (mX 1) w.heap.size 0 (QH id n k) _ r0 underlying305 ?_)|(refine QU rfl _ _ rfl _ rfl (QH id n k) kR ?_))
 go_ret;exact⟨⟨_,_,rfl⟩,(clB c)⟩
theorem zG8(id n k:Int)(w:wW):cW prog 232 #[gX (QH id n k).toArray] w λe w'=>(∃t p,e=rX (.iface t (.pointer p)))/\bL w w':=by
 have r0:=(AtL.new0 w 305 (QH id n k)).range;have c:=QI (aZ _ w) (Z (QH id n k).toArray 305);go_enter func232,ntmps232;go_upto_region 1 with fail
 generalize(w.alloc (Z (QH id n k).toArray 305))=W at*;go_wp2_with (first|(refine ldQ 305 (mX 1) w.heap.size 0 (QH id n k) _ r0 underlying305 ?_)|(refine QU rfl _ _ rfl _ rfl (QH id n k) kR ?_))
 go_ret;exact⟨⟨_,_,rfl⟩,(clB c)⟩
theorem zHA(id n k:Int)(w:wW):cW prog 233 #[gX (QH id n k).toArray] w λe w'=>(∃t p,e=rX (.iface t (.pointer p)))/\bL w w':=by
 have r0:=(AtL.new0 w 305 (QH id n k)).range;have c:=QI (aZ _ w) (Z (QH id n k).toArray 305);go_enter func233,ntmps233;go_upto_region 1 with fail
 generalize(w.alloc (Z (QH id n k).toArray 305))=W at*;go_wp2_with (first|(refine ldQ 305 (mX 1) w.heap.size 0 (QH id n k) _ r0 underlying305 ?_)|(refine QU rfl _ _ rfl _ rfl (QH id n k) kR ?_))
 go_ret;exact⟨⟨_,_,rfl⟩,(clB c)⟩
theorem zLj(id n k:Int)(w:wW):cW prog 234 #[gX (QH id n k).toArray] w λe w'=>(∃t p,e=rX (.iface t (.pointer p)))/\bL w w':=by
 have r0:=(AtL.new0 w 305 (QH id n k)).range;have c:=QI (aZ _ w) (Z (QH id n k).toArray 305);go_enter func234,ntmps234;go_upto_region 1 with fail
 generalize(w.alloc (Z (QH id n k).toArray 305))=W at*;go_wp2_with (first|(refine ldQ 305 (mX 1) w.heap.size 0 (QH id n k) _ r0 underlying305 ?_)|(refine QU rfl _ _ rfl _ rfl (QH id n k) kR ?_))
 go_ret;exact⟨⟨_,_,rfl⟩,(clB c)⟩
theorem zN7(id n k:Int)(w:wW):cW prog 235 #[gX (QH id n k).toArray] w λe w'=>(∃t p,e=rX (.iface t (.pointer p)))/\bL w w':=by
 have r0:=(AtL.new0 w 305 (QH id n k)).range;have c:=QI (aZ _ w) (Z (QH id n k).toArray 305);go_enter func235,ntmps235;go_upto_region 1 with fail
 generalize(w.alloc (Z (QH id n k).toArray 305))=W at*;go_wp2_with (first|(refine ldQ 305 (mX 1) w.heap.size 0 (QH id n k) _ r0 underlying305 ?_)|(refine QU rfl _ _ rfl _ rfl (QH id n k) kR ?_))
 go_ret;exact⟨⟨_,_,rfl⟩,(clB c)⟩
theorem zKg(id n k:Int)(w:wW):cW prog 236 #[gX (QH id n k).toArray] w λe w'=>(∃t p,e=rX (.iface t (.pointer p)))/\bL w w':=by
 have r0:=(AtL.new0 w 305 (QH id n k)).range;have c:=QI (aZ _ w) (Z (QH id n k).toArray 305);go_enter func236,ntmps236;go_upto_region 1 with fail
 generalize(w.alloc (Z (QH id n k).toArray 305))=W at*;go_wp2_with (first|(refine ldQ 305 (mX 1) w.heap.size 0 (QH id n k) _ r0 underlying305 ?_)|(refine QU rfl _ _ rfl _ rfl (QH id n k) kR ?_))
 go_ret;exact⟨⟨_,_,rfl⟩,(clB c)⟩
theorem zGl(id n k:Int)(w:wW):cW prog 237 #[gX (QH id n k).toArray] w λe w'=>(∃t p,e=rX (.iface t (.pointer p)))/\bL w w':=by
 have r0:=(AtL.new0 w 305 (QH id n k)).range;have c:=QI (aZ _ w) (Z (QH id n k).toArray 305);go_enter func237,ntmps237;go_upto_region 1 with fail
 generalize(w.alloc (Z (QH id n k).toArray 305))=W at*;go_wp2_with (first|(refine ldQ 305 (mX 1) w.heap.size 0 (QH id n k) _ r0 underlying305 ?_)|(refine QU rfl _ _ rfl _ rfl (QH id n k) kR ?_))
 go_ret;exact⟨⟨_,_,rfl⟩,(clB c)⟩
theorem zME(id n k:Int)(w:wW):cW prog 238 #[gX (QH id n k).toArray] w λe w'=>(∃t p,e=rX (.iface t (.pointer p)))/\bL w w':=by
 have r0:=(AtL.new0 w 305 (QH id n k)).range;have c:=QI (aZ _ w) (Z (QH id n k).toArray 305);go_enter func238,ntmps238;go_upto_region 1 with fail
 generalize(w.alloc (Z (QH id n k).toArray 305))=W at*;go_wp2_with (first|(refine ldQ 305 (mX 1) w.heap.size 0 (QH id n k) _ r0 underlying305 ?_)|(refine QU rfl _ _ rfl _ rfl (QH id n k) kR ?_))
 go_ret;exact⟨⟨_,_,rfl⟩,(clB c)⟩
theorem zKK(id n k:Int)(w:wW):cW prog 239 #[gX (QH id n k).toArray] w λe w'=>(∃t p,e=rX (.iface t (.pointer p)))/\bL w w':=by
 have r0:=(AtL.new0 w 305 (QH id n k)).range;have c:=QI (aZ _ w) (Z (QH id n k).toArray 305);go_enter func239,ntmps239;go_upto_region 1 with fail
 generalize(w.alloc (Z (QH id n k).toArray 305))=W at*;go_wp2_with (first|(refine ldQ 305 (mX 1) w.heap.size 0 (QH id n k) _ r0 underlying305 ?_)|(refine QU rfl _ _ rfl _ rfl (QH id n k) kR ?_))
 go_ret;exact⟨⟨_,_,rfl⟩,(clB c)⟩
theorem zDG(id n k:Int)(w:wW):cW prog 240 #[gX (QH id n k).toArray] w λe w'=>(∃t p,e=rX (.iface t (.pointer p)))/\bL w w':=by
 have r0:=(AtL.new0 w 305 (QH id n k)).range;have c:=QI (aZ _ w) (Z (QH id n k).toArray 305);go_enter func240,ntmps240;go_upto_region 1 with fail
 generalize(w.alloc (Z (QH id n k).toArray 305))=W at*;go_wp2_with (first|(refine ldQ 305 (mX 1) w.heap.size 0 (QH id n k) _ r0 underlying305 ?_)|(refine QU rfl _ _ rfl _ rfl (QH id n k) kR ?_))
 go_ret;exact⟨⟨_,_,rfl⟩,(clB c)⟩
def Vn:List vW:=[O J 0,O J 0,O J 0,O J 0,O J 0,O J 0,O J 0,V ⟨#[]⟩,Y nY,O J 0,O J 0,O J 0,O J 0,V ⟨#[]⟩,Y nY,O J 0,Y nY,Y nY,Y nY,O J 0,O J 0]
abbrev oneA(w:wW):wW:=w.alloc (Z #[O J 0,O J 0,O J 0,O J 0,O J 0,O J 0,O J 0,V ⟨#[]⟩,Y nY,O J 0,O J 0,O J 0,O J 0,V ⟨#[]⟩,Y nY,O J 0,Y nY,Y nY,Y nY,O J 0,O J 0] 278)
theorem vlz(w:wW):AtL (w.alloc (Z #[O J 0,O J 0,O J 0,V ⟨#[]⟩,Y nY,O J 0] 64)) w.heap.size [O J 0,O J 0,O J 0,V ⟨#[]⟩,Y nY,O J 0]:=AtL.new0 w _ _
def Jr(c:Int):Wt.Vl:=⟨4,0,0,⟨#[]⟩,nY,if Wv.flt c then c else 2⟩
theorem zA6(c:Int)(w:wW):CR 59 #[O J c] w (vlV (Jr c)):=by
 have C:=λw=>zC2 c w
 unfold Jr;cases d:Wv.flt c with
 |false =>
  rw[d]at C;go_enter func59,ntmps59;go_wp2_with fail
  refine(C _).mono ?_;rintro e w1 ⟨rfl,rfl⟩;go_wp2;refine bodyPost_ret (v:=vlV ⟨4,0,0,⟨#[]⟩,nY,2⟩) (by simp[results,results59,go_sem,vlV,vl6]) rfl ⟨rfl,?_⟩;exact clA
 |true =>
  rw[d]at C;go_enter func59,ntmps59;go_wp2_with fail
  refine(C _).mono ?_;rintro e w1 ⟨rfl,rfl⟩;go_wp2;refine bodyPost_ret (v:=vlV ⟨4,0,0,⟨#[]⟩,nY,c⟩) (by simp[results,results59,go_sem,vlV,vl6]) rfl ⟨rfl,?_⟩;exact clA
def Qd(b:Bool):Wt.Vl:=⟨3,0,0,⟨#[]⟩,b,0⟩
theorem zA4(b:Bool)(w:wW):CR 57 #[Y b] w (vlV (Qd b)):=by
 go_enter func57,ntmps57;go_wp2;refine bodyPost_ret (v:=vlV (Qd b)) (by simp[results,results57,go_sem,vlV,vl6,Qd]) rfl ⟨rfl,?_⟩;exact clA
def Vx(n d:Int):Wt.Vl:=⟨1,Wnum.cN n d,Wnum.cD n d,⟨#[]⟩,nY,0⟩
theorem zDA(n d:Int)(w:wW)(S:-9223372036854775808<=n)(X:n<=9223372036854775807)(h3:-9223372036854775808<=d)(h4:d<=9223372036854775807) :
  CR 55 #[gX #[O J n,O J d]] w (vlV (Vx n d)):=by
 have C:=λw=>zER n d w S X h3 h4
 unfold Vx Wnum.cN Wnum.cD;have pA:=(AtL.new0 w 62 [O J n,O J d]).alloc (Z zV0 64);have l:=vlz (w.alloc (Z #[O J n,O J d] 62));simp only[World.size_alloc]at l;have j:=QI (QI (aZ _ w) (Z #[O J n,O J d] 62)) (Z zV0 64);cases m:Wnum.rightB n d with
 |false =>
  rw[m]at C;go_enter func55,ntmps55;go_wp2_with fail
  refine(C _).mono ?_;rintro e w1 ⟨rfl,g⟩;have i:=AtL.below g pA;have c:=AtL.below g l;obtain⟨o,p,D,E⟩:=i.two;obtain⟨q,r,s,t,u,z⟩:=c.f6;have F:=c.2.2 0 dM;have G:=c.2.2 1 dM;have H:=c.2.2 2 dM;have I:=c.2.2 3 dM;have N:=c.2.2 4 dM;have R:=c.2.2 5 dM;have f:=QA j g;go_wp2;refine bodyPost_ret (v:=vlV ⟨1,0,1,⟨#[]⟩,nY,0⟩) (by simp[results,results55,go_sem,vlV,vl6, *]) rfl ⟨rfl,?_⟩;exact(clB f)
 |true =>
  rw[m]at C;go_enter func55,ntmps55;go_wp2_with fail
  refine(C _).mono ?_;rintro e w1 ⟨rfl,g⟩;have i:=AtL.below g pA;have c:=AtL.below g l;obtain⟨o,p,D,E⟩:=i.two;obtain⟨q,r,s,t,u,z⟩:=c.f6;have F:=c.2.2 0 dM;have G:=c.2.2 1 dM;have H:=c.2.2 2 dM;have I:=c.2.2 3 dM;have N:=c.2.2 4 dM;have R:=c.2.2 5 dM;have f:=QA j g;go_wp2;refine bodyPost_ret (v:=vlV ⟨1,n,d,⟨#[]⟩,nY,0⟩) (by simp[results,results55,go_sem,vlV,vl6, *]) rfl ⟨rfl,?_⟩;exact(clB f)
def VU(s:ByteArray):Wt.Vl:=if Wv.prts s.data.toList then(if 256<s.size then⟨4,0,0,⟨#[]⟩,nY,7⟩else⟨2,0,0,s,nY,0⟩)else⟨4,0,0,⟨#[]⟩,nY,2⟩
theorem zAf(s:ByteArray)(w:wW)(X:s.size<=9223372036854775807):CR 53 #[V s] w (vlV (VU s)):=by
 have C:=λw=>zF2 s w X
 have i:=λw=>zA6 2 w
 have j:=λw=>zA6 7 w
 have E:Jr 2=⟨4,0,0,⟨#[]⟩,nY,2⟩:=rfl;have F:Jr 7=⟨4,0,0,⟨#[]⟩,nY,7⟩:=rfl;rw[E]at i;rw[F]at j;simp only[vlV,vl6]at i j;have p:=vlz w;have f:=QI (aZ _ w) (Z zV0 64);unfold VU;cases o:Wv.prts s.data.toList with
 |false =>
  rw[o]at C;rw[if_neg dM];go_enter func53,ntmps53;go_wp2_with fail
  refine(C _).mono ?_;rintro e w1 ⟨rfl,rfl⟩;go_wp2_with fail
  refine(i _).mono ?_;rintro e w2 ⟨rfl,g⟩;have c:=AtL.below g p;obtain⟨q,r,t,u,z,D⟩:=c.f6;have G:=c.2.2 0 dM;have H:=c.2.2 1 dM;have I:=c.2.2 2 dM;have N:=c.2.2 3 dM;have R:=c.2.2 4 dM;have S:=c.2.2 5 dM;have d:=QA f g;go_wp2;refine bodyPost_ret (v:=vlV ⟨4,0,0,⟨#[]⟩,nY,2⟩) (by simp[results,results53,go_sem,vlV,vl6, *]) rfl ⟨rfl,?_⟩;exact(clB d)
 |true =>
  rw[o]at C;rw[if_pos rfl];by_cases m:256<s.size
  ·have l:(256:Int)<(s.size:Int):=oM;rw[if_pos m];go_enter func53,ntmps53;go_wp2_with fail
   refine(C _).mono ?_;rintro e w1 ⟨rfl,rfl⟩;go_wp2_with fail
   refine(j _).mono ?_;rintro e w2 ⟨rfl,g⟩;have c:=AtL.below g p;obtain⟨q,r,t,u,z,D⟩:=c.f6;have G:=c.2.2 0 dM;have H:=c.2.2 1 dM;have I:=c.2.2 2 dM;have N:=c.2.2 3 dM;have R:=c.2.2 4 dM;have S:=c.2.2 5 dM;have d:=QA f g;go_wp2;refine bodyPost_ret (v:=vlV ⟨4,0,0,⟨#[]⟩,nY,7⟩) (by simp[results,results53,go_sem,vlV,vl6, *]) rfl ⟨rfl,?_⟩;exact(clB d)
  ·have l:¬(256:Int)<(s.size:Int):=oM;rw[if_neg m];go_enter func53,ntmps53;go_wp2_with fail
   refine(C _).mono ?_;rintro e w1 ⟨rfl,rfl⟩;go_wp2;refine bodyPost_ret (v:=vlV ⟨2,0,0,s,nY,0⟩) (by simp[results,results53,go_sem,vlV,vl6, *]) rfl ⟨rfl,?_⟩;exact clA
theorem zCa{P:Program}{f:Func}{t:Tmp}{T:TypeId}(h:f.results=#[.cell t T])(c:Array vW)(w:wW)(b:Nat)(cs:List vW)(d:TypeDesc)(l:c.getD t undef=pX (lY ⟨b,0,kY⟩))(g:w.rangeAt b 0 cs)
  (m:P.underlying T=lY d) (hd:d.isRow=mY) (i:(P.info? T).map (·.size)=lY cs.length):(results f c).run P w=.ok (gX cs.toArray) w:=by
 have j:=run_loadVar_mid (P:=P) w b 0 T cs d g m hd i;have e:c[t]?.getD undef=pX (lY ⟨b,0,kY⟩):=by rw[<-l];simp
 simp only[results,h];simp[e,j,asAddr]
abbrev VO(w:wW):wW:=(w.alloc (Z #[O J 0,O J 0,O J 0,O J 0,O J 0,O J 0,O J 0,V ⟨#[]⟩,Y nY,O J 0,O J 0,O J 0,O J 0,V ⟨#[]⟩,Y nY,O J 0,Y nY,Y nY,Y nY,O J 0,O J 0] 278)).alloc (Z #[O J 0,O J 0,O J 0,O J 0,O J 0,O J 0,O J 0,V ⟨#[]⟩,Y nY,O J 0,O J 0,O J 0,O J 0,V ⟨#[]⟩,Y nY,O J 0,Y nY,Y nY,Y nY,O J 0,O J 0] 278)
theorem zPH(w:wW):CR 192 #[O J 2] w (gX (QH 2 1 0).toArray):=by
 have g:AtL (VO w) w.heap.size Vn:=(AtL.new0 w _ _).alloc _;have q:AtL (VO w) (w.heap.size+1) Vn:=AtL.new1 w _ _ _;have d:w.heap.size+1≠w.heap.size:=oM;have e:cZ (VO w) (w.heap.size+1) 0 (QH 2 0 0).toArray.size:=q.there;have i:AtL ((VO w).setCells (w.heap.size+1) 0 (QH 2 0 0)) (w.heap.size+1) (QH 2 0 0):=q.setAll rfl;have s:AtL ((VO w).setCells (w.heap.size+1) 0 (QH 2 0 0)) w.heap.size Vn:=g.farAll d 0 (QH 2 0 0);have r:bL w ((VO w).setCells (w.heap.size+1) 0 (QH 2 0 0)):=Ql (QI (QI (aZ _ w) _) _) (eZ _) _ 0;clear q g;go_enter func192,ntmps192;go_upto_region 1 with fail
 go_upto_region 2 with(first|(refine Qw rfl 278 _ _ _ _ rfl _ _ rfl rfl (QH 2 0 0) kR ?_)|((with_reducible refine stQ 278 (mX 3) (mX 6) (w.heap.size+1) 0 (QH 2 0 0).toArray ?_ ?_ ?_);exact e;exact zAP _ _ _))
 generalize(VO w).setCells (w.heap.size+1) 0 (QH 2 0 0)=j at*;clear e;have u:=i.2.1 2 _ rfl;have t:=i.2.2 2 (by show 2<21;decide);go_upto_region 7 with fail
 have f:=i.set 2 (O J 1);have c:AtL (j.setCell ⟨w.heap.size+1,2,kY⟩ (O J 1)) w.heap.size Vn:=s.far d 2 (O J 1);have m:bL w (j.setCell ⟨w.heap.size+1,2,kY⟩ (O J 1)):=(clB r)
 clear i s r u t;generalize j.setCell ⟨w.heap.size+1,2,kY⟩ (O J 1)=l at*;have C:=f.range;have p:cZ l w.heap.size 0 (QH 2 1 0).toArray.size:=c.there;have z:AtL (l.setCells w.heap.size 0 (QH 2 1 0)) w.heap.size (QH 2 1 0):=c.setAll rfl;have o:bL w (l.setCells w.heap.size 0 (QH 2 1 0)):=Ql m (fY _) _ 0;clear f c;go_wp2_with (first|(refine ldQ 278 (mX 3) (w.heap.size+1) 0 (QH 2 1 0) _ C underlying278 ?_)|((with_reducible refine stQ 278 (mX 2) (mX 16) w.heap.size 0 (QH 2 1 0).toArray ?_ ?_ ?_);exact p;exact zAP _ _ _))
 exact bodyPost_ret (v:=gX (QH 2 1 0).toArray) (zCa (by rfl) _ _ w.heap.size (QH 2 1 0) _ (by rfl) z.range underlying278 rfl kR) rfl ⟨rfl,o⟩
theorem zMC(w:wW):CR 192 #[O J 11] w (gX (QH 11 0 2).toArray):=by
 have l:AtL (VO w) w.heap.size Vn:=(AtL.new0 w _ _).alloc _;have t:AtL (VO w) (w.heap.size+1) Vn:=AtL.new1 w _ _ _;have d:w.heap.size+1≠w.heap.size:=oM;have i:cZ (VO w) (w.heap.size+1) 0 (QH 11 0 0).toArray.size:=t.there;have z:AtL ((VO w).setCells (w.heap.size+1) 0 (QH 11 0 0)) (w.heap.size+1) (QH 11 0 0):=t.setAll rfl;have C:AtL ((VO w).setCells (w.heap.size+1) 0 (QH 11 0 0)) w.heap.size Vn:=l.farAll d 0 (QH 11 0 0);have u:bL w ((VO w).setCells (w.heap.size+1) 0 (QH 11 0 0)):=Ql (QI (QI (aZ _ w) _) _) (eZ _) _ 0;clear t l;go_enter func192,ntmps192;go_upto_region 1 with fail
 go_upto_region 2 with(first|(refine Qw rfl 278 _ _ _ _ rfl _ _ rfl rfl (QH 11 0 0) kR ?_)|((with_reducible refine stQ 278 (mX 3) (mX 6) (w.heap.size+1) 0 (QH 11 0 0).toArray ?_ ?_ ?_);exact i;exact zAP _ _ _))
 generalize(VO w).setCells (w.heap.size+1) 0 (QH 11 0 0)=W0 at*;clear i;have D:∀w:wW,CR 53 #[V ⟨#[]⟩] w (gX #[O J 2,O J 0,O J 0,V ⟨#[]⟩,Y nY,O J 0]):=λw=>zAf ⟨#[]⟩ w dM
 go_wp2_with fail
 refine(D _).mono ?_;rintro e w1 ⟨rfl,o⟩;have c:=AtL.below o z;have m:=AtL.below o C;have g:=QA u o;clear z C u o;have I:=c.2.1 4 _ rfl;have E:=c.2.2 4 (by show 4<21;decide);have N:=c.2.1 5 _ rfl;have f5:=c.2.2 5 (by show 5<21;decide);have R:=c.2.1 6 _ rfl;have f6:=c.2.2 6 (by show 6<21;decide);have S:=c.2.1 7 _ rfl;have F:=c.2.2 7 (by show 7<21;decide);have X:=c.2.1 8 _ rfl;have G:=c.2.2 8 (by show 8<21;decide);have o9:=c.2.1 9 _ rfl;have H:=c.2.2 9 (by show 9<21;decide);go_upto_region 7 with fail
 have j:=((((((c.set 4 (O J 2)).set 5 (O J 0)).set 6 (O J 0)).set 7 (V ⟨#[]⟩)).set 8 (Y nY)).set 9 (O J 0))
 have f:AtL ((((((w1.setCell ⟨w.heap.size+1,4,kY⟩ (O J 2)).setCell ⟨w.heap.size+1,5,kY⟩ (O J 0)).setCell ⟨w.heap.size+1,6,kY⟩ (O J 0)).setCell ⟨w.heap.size+1,7,kY⟩ (V ⟨#[]⟩)).setCell ⟨w.heap.size+1,8,kY⟩ (Y nY)).setCell ⟨w.heap.size+1,9,kY⟩ (O J 0)) w.heap.size Vn:=((((((m.far d 4 (O J 2)).far d 5 (O J 0)).far d 6 (O J 0)).far d 7 (V ⟨#[]⟩)).far d 8 (Y nY)).far d 9 (O J 0))
 have q:bL w ((((((w1.setCell ⟨w.heap.size+1,4,kY⟩ (O J 2)).setCell ⟨w.heap.size+1,5,kY⟩ (O J 0)).setCell ⟨w.heap.size+1,6,kY⟩ (O J 0)).setCell ⟨w.heap.size+1,7,kY⟩ (V ⟨#[]⟩)).setCell ⟨w.heap.size+1,8,kY⟩ (Y nY)).setCell ⟨w.heap.size+1,9,kY⟩ (O J 0)):=(clB g)
 clear c m g I E N f5 R f6 S F X G o9 H;generalize((((((w1.setCell ⟨w.heap.size+1,4,kY⟩ (O J 2)).setCell ⟨w.heap.size+1,5,kY⟩ (O J 0)).setCell ⟨w.heap.size+1,6,kY⟩ (O J 0)).setCell ⟨w.heap.size+1,7,kY⟩ (V ⟨#[]⟩)).setCell ⟨w.heap.size+1,8,kY⟩ (Y nY)).setCell ⟨w.heap.size+1,9,kY⟩ (O J 0))=p at*;have rO:=j.range;have s:cZ p w.heap.size 0 (QH 11 0 2).toArray.size:=f.there;have pF:AtL (p.setCells w.heap.size 0 (QH 11 0 2)) w.heap.size (QH 11 0 2):=f.setAll rfl;have r:bL w (p.setCells w.heap.size 0 (QH 11 0 2)):=Ql q (fY _) _ 0;clear j f;go_wp2_with (first|(refine ldQ 278 (mX 3) (w.heap.size+1) 0 (QH 11 0 2) _ rO underlying278 ?_)|((with_reducible refine stQ 278 (mX 2) (mX 16) w.heap.size 0 (QH 11 0 2).toArray ?_ ?_ ?_);exact s;exact zAP _ _ _))
 exact bodyPost_ret (v:=gX (QH 11 0 2).toArray) (zCa (by rfl) _ _ w.heap.size (QH 11 0 2) _ (by rfl) pF.range underlying278 rfl kR) rfl ⟨rfl,r⟩
theorem zPA(id:Int)(w:wW)(z:¬id=2)(s:¬id=11):CR 192 #[O J id] w (gX (QH id 0 0).toArray):=by
 have f:AtL (VO w) w.heap.size Vn:=(AtL.new0 w _ _).alloc _;have o:AtL (VO w) (w.heap.size+1) Vn:=AtL.new1 w _ _ _;have l:w.heap.size+1≠w.heap.size:=oM;have d:cZ (VO w) (w.heap.size+1) 0 (QH id 0 0).toArray.size:=o.there;have q:AtL ((VO w).setCells (w.heap.size+1) 0 (QH id 0 0)) (w.heap.size+1) (QH id 0 0):=o.setAll rfl;have r:AtL ((VO w).setCells (w.heap.size+1) 0 (QH id 0 0)) w.heap.size Vn:=f.farAll l 0 (QH id 0 0);have p:bL w ((VO w).setCells (w.heap.size+1) 0 (QH id 0 0)):=Ql (QI (QI (aZ _ w) _) _) (eZ _) _ 0;clear o f;go_enter func192,ntmps192;go_upto_region 1 with fail
 go_upto_region 2 with(first|(refine Qw rfl 278 _ _ _ _ rfl _ _ rfl rfl (QH id 0 0) kR ?_)|((with_reducible refine stQ 278 (mX 3) (mX 6) (w.heap.size+1) 0 (QH id 0 0).toArray ?_ ?_ ?_);exact d;exact zAP _ _ _))
 generalize(VO w).setCells (w.heap.size+1) 0 (QH id 0 0)=g at*;clear d;go_upto_region 7 with fail
 have e:=q;have c:=r;have i:=p;clear q r p;have u:=e.range;have m:cZ g w.heap.size 0 (QH id 0 0).toArray.size:=c.there;have t:AtL (g.setCells w.heap.size 0 (QH id 0 0)) w.heap.size (QH id 0 0):=c.setAll rfl;have j:bL w (g.setCells w.heap.size 0 (QH id 0 0)):=Ql i (fY _) _ 0;clear e c;go_wp2_with (first|(refine ldQ 278 (mX 3) (w.heap.size+1) 0 (QH id 0 0) _ u underlying278 ?_)|((with_reducible refine stQ 278 (mX 2) (mX 16) w.heap.size 0 (QH id 0 0).toArray ?_ ?_ ?_);exact m;exact zAP _ _ _))
 exact bodyPost_ret (v:=gX (QH id 0 0).toArray) (zCa (by rfl) _ _ w.heap.size (QH id 0 0) _ (by rfl) t.range underlying278 rfl kR) rfl ⟨rfl,j⟩
theorem zOq(K n k:Int)(f:Nat)(l:∀(b:Nat)(w1:wW),KM w1 b kT->(Instr.lookup 300 (.map (lY b)) (O J K) mY).run prog w1=.ok (uX #[.func (.func f) #[] #[],Y mY]) w1)
  (u:∀args w,(callFunc f args).run prog w=.ok (.enter f args) w) (o:∀w:wW,cW prog f #[gX (QH K n k).toArray] w λe w'=>(∃t p,e=rX (.iface t (.pointer p)))/\bL w w') (w:wW):cW prog 191 #[gX (QH K n k).toArray] w λe w'=>(∃v,e=rX (uX #[v,Y mY]))/\bL w w':=by
 have pA:=AtL.new0 w 278 (QH K n k);have g:=QI (aZ _ w) (Z (QH K n k).toArray 278);go_enter func191,ntmps191;go_upto_region 1 with fail
 generalize(w.alloc (Z (QH K n k).toArray 278))=q at*;replace pA:=AtL.drew pA
 replace g:=g.drew
 refine wp_region_held_drew (S:=λW=>W.cell? ⟨w.heap.size,0,kY⟩=lY (O J K)) kR (pA.2.1 0 _ rfl) (λc=>?_);generalize q.drew=C at*;refine tkQ 1 ?_
 refine tkQ 2 ?_
 refine rdQ 0 (λK d=>?_);go_simp
 refine(zDS _).mono ?_;rintro e w1 ⟨⟨b,rfl,m⟩,j⟩;replace pA:=AtL.below j pA
 replace g:=QA g j
 clear j;go_wp2_with fail
 refine hkQ d (pA.2.1 0 _ rfl) (λc=>?_);clear d K
 have r:=l _ _ m;refine rdQ 3 (λK d=>?_);go_simp
 refine hkQ d (pA.2.1 0 _ rfl) (λc=>?_);clear d K
 refine tkQ 4 ?_
 refine tkQ 5 ?_
 refine tkQ 6 ?_
 refine rdQ 7 (λK d=>?_);go_simp
 refine hkQ d (pA.2.1 0 _ rfl) (λc=>?_);clear d K
 refine rdQ 8 (λK d=>?_);go_simp
 refine hkQ d (pA.2.1 0 _ rfl) (λc=>?_);clear d K
 refine wpAnyH_done kR ?_ _;clear c r m;have s:=pA.range;clear pA;go_wp2_with (first|(refine ldQ 278 (mX 1) w.heap.size 0 (QH K n k) _ s underlying278 ?_)|(refine QU rfl 305 _ rfl _ rfl (QH K n k) kR ?_)|(refine(o _).mono ?_;rintro e z ⟨⟨t,p,rfl⟩,i⟩;replace g:=QA g i;clear i))
 go_ret2
 exact⟨⟨_,rfl⟩,(clB g)⟩
theorem Qf(K n k:Int)(f j:Nat)(c:∀w:World,Calls prog f #[.agg (QH K n k).toArray] w λe w'=>(∃t p,e=.returned (.iface t (.pointer p)))/\bL w w')(w:World)
  (i:(λw=>(Instr.findKey 3 (.int .i64 K) (Vv kT).toList).run prog w)=(λw=>.ok (some (j,.func (.func f) #[] #[])) w):=by kernel_rfl) (d:(λargs w=>(callFunc f args).run prog w)=(λargs w=>.ok (.enter f args) w):=by kernel_rfl) :
  Calls prog 191 #[.agg (QH K n k).toArray] w λe w'=>(∃v,e=.returned (.tuple #[v,.bool true]))/\bL w w' :=
 zOq K n k f (λb w1 g=>zCj (j:=j) zRX g (zRc _ _ _) (congrFun i w1)) (λx y=>congrFun (congrFun d x) y) c w
theorem zMo(id:Int)(n k:Int)(w:wW)(i:∀p∈kT,p.1≠id):cW prog 191 #[gX (QH id n k).toArray] w λe w'=>(∃v,e=rX (uX #[v,Y nY]))/\bL w w':=by
 have pA:=AtL.new0 w 278 (QH id n k);have f:=QI (aZ _ w) (Z (QH id n k).toArray 278);go_enter func191,ntmps191;go_upto_region 1 with fail
 generalize(w.alloc (Z (QH id n k).toArray 278))=l at*;replace pA:=AtL.drew pA
 replace f:=f.drew
 refine wp_region_held_drew (S:=λW=>W.cell? ⟨w.heap.size,0,kY⟩=lY (O J id)) kR (pA.2.1 0 _ rfl) (λc=>?_);generalize l.drew=q at*;refine tkQ 1 ?_
 refine tkQ 2 ?_
 refine rdQ 0 (λK d=>?_);go_simp
 refine(zDS _).mono ?_;rintro e w1 ⟨⟨b,rfl,j⟩,g⟩;replace pA:=AtL.below g pA
 replace f:=QA f g
 clear g;go_wp2_with fail
 refine hkQ d (pA.2.1 0 _ rfl) (λc=>?_);clear d K
 have m:(Instr.lookup 300 (.map (lY b)) (O J id) mY).run prog w1=.ok (uX #[.nilFunc,Y nY]) w1:=zBh zRX j (zRc _ _ _) (zIg kT id i w1) kR;refine rdQ 3 (λK d=>?_);go_simp
 refine hkQ d (pA.2.1 0 _ rfl) (λc=>?_);clear d K
 refine tkQ 4 ?_
 refine tkQ 5 ?_
 refine tkQ 6 ?_
 refine rdQ 7 (λK d=>?_);go_simp
 refine hkQ d (pA.2.1 0 _ rfl) (λc=>?_);clear d K
 refine rdQ 8 (λK d=>?_);go_simp
 refine hkQ d (pA.2.1 0 _ rfl) (λc=>?_);clear d K
 refine wpAnyH_done kR ?_ _;clear c m j;have o:=pA.range;clear pA;go_wp2;go_ret2
 exact⟨⟨_,rfl⟩,f⟩
theorem zOi(id:Int)(j:List vW)(q:Bool)(w:wW)(f:∀w,CR 192 #[O J id] w (gX j.toArray))
  (g:∀w,cW prog 191 #[gX j.toArray] w λe w'=>(∃v,e=rX (uX #[v,Y q]))/\bL w w') :
  cW prog 161 #[O J id] w λe w'=>(∃v,e=rX (uX #[v,O J (if q=mY then 0 else 1)]))/\bL w w':=by
 go_enter func161,ntmps161;go_wp2_with fail
 refine(f _).mono ?_;rintro e w1 ⟨rfl,c⟩;go_wp2_with fail
 refine(g _).mono ?_;rintro e l ⟨⟨v,rfl⟩,d⟩;have i:=QA c d;clear c d f g;cases q
 ·go_wp2;go_ret2
  exact⟨⟨_,rfl⟩,i⟩
 ·go_wp2;go_ret2
  exact⟨⟨_,rfl⟩,i⟩
theorem zRN{id:Int}(h:fld id=nY):∀p∈kT,p.1≠id:=by
 intro p c e;unfold fld at h;rw[decide_eq_false_iff_not]at h;apply h
 simp only[kT,List.mem_cons,List.not_mem_nil,or_false]at c;rcases c with rfl|rfl|rfl|rfl|rfl|rfl|rfl|rfl|rfl|rfl|rfl|rfl|rfl|rfl|rfl|rfl|rfl|rfl|rfl|rfl <;> simp only at e <;> omega
theorem zKM(id:Int):∃n k,∀w:wW,CR 192 #[O J id] w (gX (QH id n k).toArray):=by
 by_cases d:id=2
 ·rw[d];exact⟨1,0,zPH⟩
 ·by_cases c:id=11
  ·rw[c];exact⟨0,2,zMC⟩
  ·exact⟨0,0,λw=>zPA id w d c⟩
theorem zJh(id n k:Int)(w:wW):cW prog 191 #[gX (QH id n k).toArray] w λe w'=>(∃v,e=rX (uX #[v,Y (fld id)]))/\bL w w':=by
 cases h:fld id with
 |false=>exact zMo id n k w (zRN h)
 |true =>
  have c:id=1\/id=2\/id=3\/id=4\/id=5\/id=6\/id=7\/id=8\/id=9\/id=10\/id=11\/id=12\/id=13\/id=14\/id=15\/id=20\/id=21\/id=22\/id=23\/id=24:=by
   unfold fld at h;rw[decide_eq_true_eq]at h;omega
  rcases c with rfl|rfl|rfl|rfl|rfl|rfl|rfl|rfl|rfl|rfl|rfl|rfl|rfl|rfl|rfl|rfl|rfl|rfl|rfl|rfl
  ·exact Qf 1 n k 221 0 (zPn 1 n k) w
  ·exact Qf 2 n k 222 1 (zHM 2 n k) w
  ·exact Qf 3 n k 223 2 (zLv 3 n k) w
  ·exact Qf 4 n k 224 3 (zIB 4 n k) w
  ·exact Qf 5 n k 225 4 (zKb 5 n k) w
  ·exact Qf 6 n k 226 5 (zEZ 6 n k) w
  ·exact Qf 7 n k 227 6 (zG2 7 n k) w
  ·exact Qf 8 n k 228 7 (zQQ 8 n k) w
  ·exact Qf 9 n k 229 8 (zRu 9 n k) w
  ·exact Qf 10 n k 230 9 (zQH 10 n k) w
  ·exact Qf 11 n k 231 10 (zHk 11 n k) w
  ·exact Qf 12 n k 232 11 (zG8 12 n k) w
  ·exact Qf 13 n k 233 12 (zHA 13 n k) w
  ·exact Qf 14 n k 234 13 (zLj 14 n k) w
  ·exact Qf 15 n k 235 14 (zN7 15 n k) w
  ·exact Qf 20 n k 236 15 (zKg 20 n k) w
  ·exact Qf 21 n k 237 16 (zGl 21 n k) w
  ·exact Qf 22 n k 238 17 (zME 22 n k) w
  ·exact Qf 23 n k 239 18 (zKK 23 n k) w
  ·exact Qf 24 n k 240 19 (zDG 24 n k) w
theorem zJF(id:Int)(w:wW):CR 131 #[O J id] w (Y (fld id)):=by
 obtain⟨n,k,d⟩:=zKM id;have f:=zOi id (QH id n k) (fld id) w d (zJh id n k);generalize fld id=q at*;clear d;go_enter func131,ntmps131;go_wp2_with fail
 refine f.mono ?_;rintro e w1 ⟨⟨v,rfl⟩,c⟩;cases q
 ·go_wp2;go_ret;exact⟨sM,c⟩
 ·go_wp2;go_ret;exact⟨sM,c⟩
abbrev zQt(ka kb:Nat)(x:Wc.In)(tv:vW)(W:wW):Prop :=
 W.cell? ⟨ka,1,kY⟩=lY (O J x.a)/\W.frozen? ⟨kb,1,kY⟩=nY
theorem zET(c:AtL W ka (QE x tv))(d:AtL W kb (QE y tu)):zQt ka kb x tv W :=
 ⟨c.2.1 1 _ rfl,d.2.2 1 (by show 1<23;decide)⟩
theorem zKh(h:zQt ka kb x tv W)(c:kb≠ka)(j:Nat)(u:vW):zQt ka kb x tv (W.setCell ⟨kb,j,kY⟩ u):=by
 obtain⟨e,d⟩:=h;refine⟨?_,?_⟩;any_goals rw[dZ _ _ _ _ (by simpa using c)];assumption
 all_goals rw[bZ];assumption
theorem zMj(x:Wc.In)(z:Option dW)(n c:Nat)(tl:List Int)(w:wW)(X:x.op=6)(N:RdZ w (U z n c) tl)(G:tl.length<=1000000) :
  CR 99 #[inV x (U z n c)] w (Y (fld x.a&&(smI x ⟨6,x.a,0,v0I,c0I,a0I,a0I⟩&&oY (tl=[])))):=by
 have C:=(λw=>zJF x.a w:∀w:wW,CR 131 #[O J x.a] w (Y (fld x.a)))
 have H:∀w',bL w w'->CR 134 #[gX (QE x (U z n c)).toArray,gX (QE ⟨6,x.a,0,v0I,c0I,a0I,a0I⟩ QN).toArray] w' (Y (smI x ⟨6,x.a,0,v0I,c0I,a0I,a0I⟩&&oY (tl=[]))):=λw' m=>Q5 x ⟨6,x.a,0,v0I,c0I,a0I,a0I⟩ _ _ tl [] w' (N.below m) (RdZ.nil _) G (by first|exact G|simp)
 obtain⟨tv,r⟩:=xV (U z n c)
 rw[r]at H ⊢;generalize(smI x ⟨6,x.a,0,v0I,c0I,a0I,a0I⟩&&oY (tl=[]))=R at*;generalize fld x.a=q at*;have s:AtL (Q6 w x tv) w.heap.size (QE x tv):=(AtL.new0 w _ _).alloc _;have i:AtL (Q6 w x tv) (w.heap.size+1) (QE (QK 0) QN):=AtL.new1 w _ _ _;have p:cZ (Q6 w x tv) (w.heap.size+1) 0 (QE (QK 6) QN).toArray.size:=i.there;have o:w.heap.size+1≠w.heap.size:=oM;have pA:=s.farAll o 0 (QE (QK 6) QN);have D:AtL ((Q6 w x tv).setCells (w.heap.size+1) 0 (QE (QK 6) QN)) (w.heap.size+1) (QE (QK 6) QN):=i.setAll rfl;have l:bL w ((Q6 w x tv).setCells (w.heap.size+1) 0 (QE (QK 6) QN)):=Ql (QI (QI (aZ _ w) _) _) (eZ _) _ 0;clear s i;have n0:(QE x tv)[0]?=lY (O J 6):=by rw[<-X];rfl
 have S:=pA.2.1 0 _ n0;show cW _ _ #[gX (QE x tv).toArray] _ _
 have I:=zET pA D;clear N G r;cases q
 all_goals
  go_enter func99,ntmps99;go_upto_region 1 with fail
  go_upto_region 2 with((with_reducible refine stQ 86 (mX 3) (mX 7) (w.heap.size+1) 0 (QE (QK 6) QN).toArray ?_ ?_ ?_);exact p;exact JN _ _ _ _)
  generalize(Q6 w x tv).setCells (w.heap.size+1) 0 (QE (QK 6) QN)=W0 at*;clear p;go_upto_region 14 with fail
  go_region_held3 (zQt w.heap.size (w.heap.size+1) x tv)
   (with_reducible first|exact I|assumption|exact zET g d|exact(zKh (by assumption) oM _ _)|exact zET (AtL.drew pA) (AtL.drew D))
   (first|(go_at_call 131;refine(C _).mono ?_;rintro e w1 ⟨rfl,m⟩;have g:=AtL.below m (AtL.drew pA);have d:=AtL.below m (AtL.drew D);have o1:=d.2.1 1 _ rfl;have j:=QA l.drew m))
  all_goals
   clear pA D I C l o1 S;have t:=(g.far o 1 (O J x.a))
   have u:=(d.set 1 (O J x.a))
   have f:bL w (w1.setCell ⟨w.heap.size+1,1,kY⟩ (O J x.a)):=(clB j)
   clear g d j;generalize(w1.setCell ⟨w.heap.size+1,1,kY⟩ (O J x.a))=W2 at*;have rA:=t.range;have rO:=u.range;clear t u;go_wp2_with (first|((with_reducible refine ldQ 86 (mX 1) w.heap.size 0 (QE x tv) _ ?_ underlying86 ?_);exact rA)|((with_reducible refine ldQ 86 (mX 3) (w.heap.size+1) 0 (QE ⟨6,x.a,0,v0I,c0I,a0I,a0I⟩ QN) _ ?_ underlying86 ?_);exact rO)|(go_at_call 134;refine(H _ f).mono ?_;rintro e w3 ⟨rfl,F⟩;have E:=QA f F))
   go_wp2;go_ret;first
   |exact⟨sM,f⟩
   |exact⟨sM,E⟩
abbrev zQn(ka kb:Nat)(x:Wc.In)(tv:vW)(W:wW):Prop :=
 W.cell? ⟨ka,9,kY⟩=lY (O J x.ce.s)/\W.cell? ⟨ka,10,kY⟩=lY (O J x.ce.r)/\W.cell? ⟨ka,11,kY⟩=lY (O J x.ce.c)/\W.frozen? ⟨kb,9,kY⟩=nY/\W.frozen? ⟨kb,10,kY⟩=nY/\W.frozen? ⟨kb,11,kY⟩=nY
theorem zEU(c:AtL W ka (QE x tv))(d:AtL W kb (QE y tu)):zQn ka kb x tv W :=
 ⟨c.2.1 9 _ rfl,c.2.1 10 _ rfl,c.2.1 11 _ rfl,d.2.2 9 (by show 9<23;decide),d.2.2 10 (by show 10<23;decide),d.2.2 11 (by show 11<23;decide)⟩
theorem zCd(h:zQn ka kb x tv W)(c:kb≠ka)(j:Nat)(u:vW):zQn ka kb x tv (W.setCell ⟨kb,j,kY⟩ u):=by
 obtain⟨l,f,g,i,d,e⟩:=h;refine⟨?_,?_,?_,?_,?_,?_⟩;any_goals rw[dZ _ _ _ _ (by simpa using c)];assumption
 all_goals rw[bZ];assumption
theorem zMa(x:Wc.In)(E:Option dW)(n c:Nat)(tl:List Int)(w:wW)(hk:x.op=2)(hz:RdZ w (U E n c) tl)(I:tl.length<=1000000) :
  CR 99 #[inV x (U E n c)] w (Y (Wpl.rightC x.ce.s x.ce.r x.ce.c&&(smI x ⟨2,0,0,v0I,x.ce,a0I,a0I⟩&&oY (tl=[])))):=by
 have C:=(λw=>Qh x.ce.s x.ce.r x.ce.c w:∀w:wW,CR 48 #[gX #[O J x.ce.s,O J x.ce.r,O J x.ce.c]] w (Y (Wpl.rightC x.ce.s x.ce.r x.ce.c)))
 have X:∀w',bL w w'->CR 134 #[gX (QE x (U E n c)).toArray,gX (QE ⟨2,0,0,v0I,x.ce,a0I,a0I⟩ QN).toArray] w' (Y (smI x ⟨2,0,0,v0I,x.ce,a0I,a0I⟩&&oY (tl=[]))):=λw' o=>Q5 x ⟨2,0,0,v0I,x.ce,a0I,a0I⟩ _ _ tl [] w' (hz.below o) (RdZ.nil _) I (by first|exact I|simp)
 obtain⟨tv,t⟩:=xV (U E n c)
 rw[t]at X ⊢;generalize(smI x ⟨2,0,0,v0I,x.ce,a0I,a0I⟩&&oY (tl=[]))=R at*;generalize Wpl.rightC x.ce.s x.ce.r x.ce.c=q at*;have u:AtL (Q6 w x tv) w.heap.size (QE x tv):=(AtL.new0 w _ _).alloc _;have j:AtL (Q6 w x tv) (w.heap.size+1) (QE (QK 0) QN):=AtL.new1 w _ _ _;have p:cZ (Q6 w x tv) (w.heap.size+1) 0 (QE (QK 2) QN).toArray.size:=j.there;have f:w.heap.size+1≠w.heap.size:=oM;have pA:=u.farAll f 0 (QE (QK 2) QN);have F:AtL ((Q6 w x tv).setCells (w.heap.size+1) 0 (QE (QK 2) QN)) (w.heap.size+1) (QE (QK 2) QN):=j.setAll rfl;have m:bL w ((Q6 w x tv).setCells (w.heap.size+1) 0 (QE (QK 2) QN)):=Ql (QI (QI (aZ _ w) _) _) (eZ _) _ 0;clear u j;have n0:(QE x tv)[0]?=lY (O J 2):=by rw[<-hk];rfl
 have a0:=pA.2.1 0 _ n0;show cW _ _ #[gX (QE x tv).toArray] _ _
 have hS:=zEU pA F;clear hz I t;cases q
 all_goals
  go_enter func99,ntmps99;go_upto_region 1 with fail
  go_upto_region 2 with((with_reducible refine stQ 86 (mX 3) (mX 7) (w.heap.size+1) 0 (QE (QK 2) QN).toArray ?_ ?_ ?_);exact p;exact JN _ _ _ _)
  generalize(Q6 w x tv).setCells (w.heap.size+1) 0 (QE (QK 2) QN)=W0 at*;clear p;go_upto_region 6 with fail
  go_region_held3 (zQn w.heap.size (w.heap.size+1) x tv)
   (with_reducible first|exact hS|assumption|exact zEU i d|exact(zCd (zCd (zCd (by assumption) oM _ _) oM _ _) oM _ _)|exact zEU (AtL.drew pA) (AtL.drew F))
   (first|(go_at_call 48;refine(C _).mono ?_;rintro e w1 ⟨rfl,o⟩;have i:=AtL.below o (AtL.drew pA);have d:=AtL.below o (AtL.drew F);have o9:=d.2.1 9 _ rfl;have N:=d.2.1 10 _ rfl;have S:=d.2.1 11 _ rfl;have l:=QA m.drew o))
  all_goals
   clear pA F hS C m o9 N S a0;have z:=(((i.far f 9 (O J x.ce.s)).far f 10 (O J x.ce.r)).far f 11 (O J x.ce.c))
   have D:=(((d.set 9 (O J x.ce.s)).set 10 (O J x.ce.r)).set 11 (O J x.ce.c))
   have g:bL w (((w1.setCell ⟨w.heap.size+1,9,kY⟩ (O J x.ce.s)).setCell ⟨w.heap.size+1,10,kY⟩ (O J x.ce.r)).setCell ⟨w.heap.size+1,11,kY⟩ (O J x.ce.c)):=(clB l)
   clear i d l;generalize(((w1.setCell ⟨w.heap.size+1,9,kY⟩ (O J x.ce.s)).setCell ⟨w.heap.size+1,10,kY⟩ (O J x.ce.r)).setCell ⟨w.heap.size+1,11,kY⟩ (O J x.ce.c))=W2 at*;have rA:=z.range;have rO:=D.range;clear z D;go_wp2_with (first|((with_reducible refine ldQ 86 (mX 1) w.heap.size 0 (QE x tv) _ ?_ underlying86 ?_);exact rA)|((with_reducible refine ldQ 86 (mX 3) (w.heap.size+1) 0 (QE ⟨2,0,0,v0I,x.ce,a0I,a0I⟩ QN) _ ?_ underlying86 ?_);exact rO)|(go_at_call 134;refine(X _ g).mono ?_;rintro e w3 ⟨rfl,H⟩;have G:=QA g H))
   go_wp2;go_ret;first
   |exact⟨sM,g⟩
   |exact⟨sM,G⟩
abbrev zQj(ka kb:Nat)(x:Wc.In)(tv:vW)(W:wW):Prop :=
 W.cell? ⟨ka,12,kY⟩=lY (O J x.ar.s)/\W.cell? ⟨ka,13,kY⟩=lY (O J x.ar.t)/\W.cell? ⟨ka,14,kY⟩=lY (O J x.ar.l)/\W.cell? ⟨ka,15,kY⟩=lY (O J x.ar.b)/\W.cell? ⟨ka,16,kY⟩=lY (O J x.ar.r)/\W.frozen? ⟨kb,12,kY⟩=nY/\W.frozen? ⟨kb,13,kY⟩=nY/\W.frozen? ⟨kb,14,kY⟩=nY/\W.frozen? ⟨kb,15,kY⟩=nY/\W.frozen? ⟨kb,16,kY⟩=nY
theorem zE2(c:AtL W ka (QE x tv))(d:AtL W kb (QE y tu)):zQj ka kb x tv W :=
 ⟨c.2.1 12 _ rfl,c.2.1 13 _ rfl,c.2.1 14 _ rfl,c.2.1 15 _ rfl,c.2.1 16 _ rfl,d.2.2 12 (by show 12<23;decide),d.2.2 13 (by show 13<23;decide),d.2.2 14 (by show 14<23;decide),d.2.2 15 (by show 15<23;decide),d.2.2 16 (by show 16<23;decide)⟩
theorem zAo(h:zQj ka kb x tv W)(c:kb≠ka)(j:Nat)(u:vW):zQj ka kb x tv (W.setCell ⟨kb,j,kY⟩ u):=by
 obtain⟨l,m,o,p,q,d,e,f,g,i⟩:=h;refine⟨?_,?_,?_,?_,?_,?_,?_,?_,?_,?_⟩;any_goals rw[dZ _ _ _ _ (by simpa using c)];assumption
 all_goals rw[bZ];assumption
theorem zL0(x:Wc.In)(G:Option dW)(n c:Nat)(tl:List Int)(w:wW)(hk:x.op=8)(hz:RdZ w (U G n c) tl)(S:tl.length<=1000000) :
  CR 99 #[inV x (U G n c)] w (Y (Wpl.rightA x.ar.s x.ar.t x.ar.l x.ar.b x.ar.r&&(smI x ⟨8,0,0,v0I,c0I,x.ar,a0I⟩&&oY (tl=[])))):=by
 have C:=(λw=>zAG x.ar.s x.ar.t x.ar.l x.ar.b x.ar.r w:∀w:wW,CR 132 #[gX #[O J x.ar.s,O J x.ar.t,O J x.ar.l,O J x.ar.b,O J x.ar.r]] w (Y (Wpl.rightA x.ar.s x.ar.t x.ar.l x.ar.b x.ar.r)))
 have CS:∀w',bL w w'->CR 134 #[gX (QE x (U G n c)).toArray,gX (QE ⟨8,0,0,v0I,c0I,x.ar,a0I⟩ QN).toArray] w' (Y (smI x ⟨8,0,0,v0I,c0I,x.ar,a0I⟩&&oY (tl=[]))):=λw' p=>Q5 x ⟨8,0,0,v0I,c0I,x.ar,a0I⟩ _ _ tl [] w' (hz.below p) (RdZ.nil _) S (by first|exact S|simp)
 obtain⟨tv,z⟩:=xV (U G n c)
 rw[z]at CS ⊢;generalize(smI x ⟨8,0,0,v0I,c0I,x.ar,a0I⟩&&oY (tl=[]))=R at*;generalize Wpl.rightA x.ar.s x.ar.t x.ar.l x.ar.b x.ar.r=q at*;have D:AtL (Q6 w x tv) w.heap.size (QE x tv):=(AtL.new0 w _ _).alloc _;have j:AtL (Q6 w x tv) (w.heap.size+1) (QE (QK 0) QN):=AtL.new1 w _ _ _;have u:cZ (Q6 w x tv) (w.heap.size+1) 0 (QE (QK 8) QN).toArray.size:=j.there;have f:w.heap.size+1≠w.heap.size:=oM;have pA:=D.farAll f 0 (QE (QK 8) QN);have H:AtL ((Q6 w x tv).setCells (w.heap.size+1) 0 (QE (QK 8) QN)) (w.heap.size+1) (QE (QK 8) QN):=j.setAll rfl;have o:bL w ((Q6 w x tv).setCells (w.heap.size+1) 0 (QE (QK 8) QN)):=Ql (QI (QI (aZ _ w) _) _) (eZ _) _ 0;clear D j;have n0:(QE x tv)[0]?=lY (O J 8):=by rw[<-hk];rfl
 have a0:=pA.2.1 0 _ n0;show cW _ _ #[gX (QE x tv).toArray] _ _
 have hS:=zE2 pA H;clear hz S z;cases q
 all_goals
  go_enter func99,ntmps99;go_upto_region 1 with fail
  go_upto_region 2 with((with_reducible refine stQ 86 (mX 3) (mX 7) (w.heap.size+1) 0 (QE (QK 8) QN).toArray ?_ ?_ ?_);exact u;exact JN _ _ _ _)
  generalize(Q6 w x tv).setCells (w.heap.size+1) 0 (QE (QK 8) QN)=W0 at*;clear u;go_upto_region 20 with fail
  go_region_held3 (zQj w.heap.size (w.heap.size+1) x tv)
   (with_reducible first|exact hS|assumption|exact zE2 i d|exact(zAo (zAo (zAo (zAo (zAo (by assumption) oM _ _) oM _ _) oM _ _) oM _ _) oM _ _)|exact zE2 (AtL.drew pA) (AtL.drew H))
   (first|(go_at_call 132;refine(C _).mono ?_;rintro e w1 ⟨rfl,p⟩;have i:=AtL.below p (AtL.drew pA);have d:=AtL.below p (AtL.drew H);have X:=d.2.1 12 _ rfl;have aa:=d.2.1 13 _ rfl;have ab:=d.2.1 14 _ rfl;have ac:=d.2.1 15 _ rfl;have ad:=d.2.1 16 _ rfl;have m:=QA o.drew p))
  all_goals
   clear pA H hS C o X aa ab ac ad a0;have E:=(((((i.far f 12 (O J x.ar.s)).far f 13 (O J x.ar.t)).far f 14 (O J x.ar.l)).far f 15 (O J x.ar.b)).far f 16 (O J x.ar.r))
   have F:=(((((d.set 12 (O J x.ar.s)).set 13 (O J x.ar.t)).set 14 (O J x.ar.l)).set 15 (O J x.ar.b)).set 16 (O J x.ar.r))
   have g:bL w (((((w1.setCell ⟨w.heap.size+1,12,kY⟩ (O J x.ar.s)).setCell ⟨w.heap.size+1,13,kY⟩ (O J x.ar.t)).setCell ⟨w.heap.size+1,14,kY⟩ (O J x.ar.l)).setCell ⟨w.heap.size+1,15,kY⟩ (O J x.ar.b)).setCell ⟨w.heap.size+1,16,kY⟩ (O J x.ar.r)):=(clB m)
   clear i d m;generalize(((((w1.setCell ⟨w.heap.size+1,12,kY⟩ (O J x.ar.s)).setCell ⟨w.heap.size+1,13,kY⟩ (O J x.ar.t)).setCell ⟨w.heap.size+1,14,kY⟩ (O J x.ar.l)).setCell ⟨w.heap.size+1,15,kY⟩ (O J x.ar.b)).setCell ⟨w.heap.size+1,16,kY⟩ (O J x.ar.r))=W2 at*;have rA:=E.range;have rO:=F.range;clear E F;go_wp2_with (first|((with_reducible refine ldQ 86 (mX 1) w.heap.size 0 (QE x tv) _ ?_ underlying86 ?_);exact rA)|((with_reducible refine ldQ 86 (mX 3) (w.heap.size+1) 0 (QE ⟨8,0,0,v0I,c0I,x.ar,a0I⟩ QN) _ ?_ underlying86 ?_);exact rO)|(go_at_call 134;refine(CS _ g).mono ?_;rintro e w3 ⟨rfl,N⟩;have I:=QA g N))
   go_wp2;go_ret;first
   |exact⟨sM,g⟩
   |exact⟨sM,I⟩
abbrev zQv(ka kb:Nat)(x:Wc.In)(tv:vW)(W:wW):Prop :=
 W.cell? ⟨ka,1,kY⟩=lY (O J x.a)/\W.cell? ⟨ka,2,kY⟩=lY (O J x.b)/\W.frozen? ⟨kb,1,kY⟩=nY/\W.frozen? ⟨kb,2,kY⟩=nY
theorem zEa(c:AtL W ka (QE x tv))(d:AtL W kb (QE y tu)):zQv ka kb x tv W :=
 ⟨c.2.1 1 _ rfl,c.2.1 2 _ rfl,d.2.2 1 (by show 1<23;decide),d.2.2 2 (by show 2<23;decide)⟩
theorem zCr(h:zQv ka kb x tv W)(c:kb≠ka)(j:Nat)(u:vW):zQv ka kb x tv (W.setCell ⟨kb,j,kY⟩ u):=by
 obtain⟨f,g,d,e⟩:=h;refine⟨?_,?_,?_,?_⟩;any_goals rw[dZ _ _ _ _ (by simpa using c)];assumption
 all_goals rw[bZ];assumption
theorem zLR(x:Wc.In)(z:Option dW)(n c:Nat)(tl:List Int)(w:wW)(hk:x.op=5)(S:RdZ w (U z n c) tl)(G:tl.length<=1000000)(I:NmAt w) :
  CR 99 #[inV x (U z n c)] w (Y (apl x.a x.b&&(smI x ⟨5,x.a,x.b,v0I,c0I,a0I,a0I⟩&&oY (tl=[])))):=by
 have C:=(λw' i=>zEw x.a x.b w' (I.below i):∀w':wW,bL w w'->CR 130 #[O J x.a,O J x.b] w' (Y (apl x.a x.b)))
 have H:∀w',bL w w'->CR 134 #[gX (QE x (U z n c)).toArray,gX (QE ⟨5,x.a,x.b,v0I,c0I,a0I,a0I⟩ QN).toArray] w' (Y (smI x ⟨5,x.a,x.b,v0I,c0I,a0I,a0I⟩&&oY (tl=[]))):=λw' i=>Q5 x ⟨5,x.a,x.b,v0I,c0I,a0I,a0I⟩ _ _ tl [] w' (S.below i) (RdZ.nil _) G (by first|exact G|simp)
 obtain⟨tv,r⟩:=xV (U z n c)
 rw[r]at H ⊢;generalize(smI x ⟨5,x.a,x.b,v0I,c0I,a0I,a0I⟩&&oY (tl=[]))=R at*;generalize apl x.a x.b=q at*;have s:AtL (Q6 w x tv) w.heap.size (QE x tv):=(AtL.new0 w _ _).alloc _;have m:AtL (Q6 w x tv) (w.heap.size+1) (QE (QK 0) QN):=AtL.new1 w _ _ _;have p:cZ (Q6 w x tv) (w.heap.size+1) 0 (QE (QK 5) QN).toArray.size:=m.there;have j:w.heap.size+1≠w.heap.size:=oM;have pA:=s.farAll j 0 (QE (QK 5) QN);have D:AtL ((Q6 w x tv).setCells (w.heap.size+1) 0 (QE (QK 5) QN)) (w.heap.size+1) (QE (QK 5) QN):=m.setAll rfl;have g:bL w ((Q6 w x tv).setCells (w.heap.size+1) 0 (QE (QK 5) QN)):=Ql (QI (QI (aZ _ w) _) _) (eZ _) _ 0;clear s m;have n0:(QE x tv)[0]?=lY (O J 5):=by rw[<-hk];rfl
 have X:=pA.2.1 0 _ n0;show cW _ _ #[gX (QE x tv).toArray] _ _
 have N:=zEa pA D;clear S G r I;cases q
 all_goals
  go_enter func99,ntmps99;go_upto_region 1 with fail
  go_upto_region 2 with((with_reducible refine stQ 86 (mX 3) (mX 7) (w.heap.size+1) 0 (QE (QK 5) QN).toArray ?_ ?_ ?_);exact p;exact JN _ _ _ _)
  generalize(Q6 w x tv).setCells (w.heap.size+1) 0 (QE (QK 5) QN)=W0 at*;clear p;go_upto_region 12 with fail
  go_region_held3 (zQv w.heap.size (w.heap.size+1) x tv)
   (with_reducible first|exact N|assumption|exact zEa l d|exact(zCr (by assumption) oM _ _)|exact(zCr (zCr (by assumption) oM _ _) oM _ _)|exact zEa (AtL.drew pA) (AtL.drew D))
   (first|(go_at_call 130;refine(C _ g.drew).mono ?_;rintro e w1 ⟨rfl,i⟩;have l:=AtL.below i (AtL.drew pA);have d:=AtL.below i (AtL.drew D);have o1:=d.2.1 1 _ rfl;have o2:=d.2.1 2 _ rfl;have o:=QA g.drew i))
  all_goals
   clear pA D N C g o1 o2 X;have t:=((l.far j 1 (O J x.a)).far j 2 (O J x.b))
   have u:=((d.set 1 (O J x.a)).set 2 (O J x.b))
   have f:bL w ((w1.setCell ⟨w.heap.size+1,1,kY⟩ (O J x.a)).setCell ⟨w.heap.size+1,2,kY⟩ (O J x.b)):=(clB o)
   clear l d o;generalize((w1.setCell ⟨w.heap.size+1,1,kY⟩ (O J x.a)).setCell ⟨w.heap.size+1,2,kY⟩ (O J x.b))=W2 at*;have rA:=t.range;have rO:=u.range;clear t u;go_wp2_with (first|((with_reducible refine ldQ 86 (mX 1) w.heap.size 0 (QE x tv) _ ?_ underlying86 ?_);exact rA)|((with_reducible refine ldQ 86 (mX 3) (w.heap.size+1) 0 (QE ⟨5,x.a,x.b,v0I,c0I,a0I,a0I⟩ QN) _ ?_ underlying86 ?_);exact rO)|(go_at_call 134;refine(H _ f).mono ?_;rintro e w3 ⟨rfl,F⟩;have E:=QA f F))
   go_wp2;go_ret;first
   |exact⟨sM,f⟩
   |exact⟨sM,E⟩
abbrev zQl(ka kb:Nat)(x:Wc.In)(tv:vW)(W:wW):Prop :=
 W.cell? ⟨ka,1,kY⟩=lY (O J x.a)/\W.frozen? ⟨kb,1,kY⟩=nY
theorem zEb(c:AtL W ka (QE x tv))(d:AtL W kb (QE y tu)):zQl ka kb x tv W :=
 ⟨c.2.1 1 _ rfl,d.2.2 1 (by show 1<23;decide)⟩
theorem zLg(h:zQl ka kb x tv W)(c:kb≠ka)(j:Nat)(u:vW):zQl ka kb x tv (W.setCell ⟨kb,j,kY⟩ u):=by
 obtain⟨e,d⟩:=h;refine⟨?_,?_⟩;any_goals rw[dZ _ _ _ _ (by simpa using c)];assumption
 all_goals rw[bZ];assumption
theorem zKs(x:Wc.In)(D:Option dW)(n c:Nat)(tl:List Int)(w:wW)(hk:x.op=3)(hz:RdZ w (U D n c) tl)(N:tl.length<=1000000) :
  CR 99 #[inV x (U D n c)] w (Y ((oY (1<=x.a)&&oY (x.a<=3))&&(smI x ⟨3,x.a,0,v0I,c0I,a0I,a0I⟩&&oY (tl=[])))):=by
 have CS:∀w',bL w w'->CR 134 #[gX (QE x (U D n c)).toArray,gX (QE ⟨3,x.a,0,v0I,c0I,a0I,a0I⟩ QN).toArray] w' (Y (smI x ⟨3,x.a,0,v0I,c0I,a0I,a0I⟩&&oY (tl=[]))):=λw' hb=>Q5 x ⟨3,x.a,0,v0I,c0I,a0I,a0I⟩ _ _ tl [] w' (hz.below hb) (RdZ.nil _) N (by first|exact N|simp)
 generalize(smI x ⟨3,x.a,0,v0I,c0I,a0I,a0I⟩&&oY (tl=[]))=R at*;obtain⟨tv,t⟩:=xV (U D n c)
 rw[t]at CS ⊢;have u:AtL (Q6 w x tv) w.heap.size (QE x tv):=(AtL.new0 w _ _).alloc _;have m:AtL (Q6 w x tv) (w.heap.size+1) (QE (QK 0) QN):=AtL.new1 w _ _ _;have s:cZ (Q6 w x tv) (w.heap.size+1) 0 (QE (QK 3) QN).toArray.size:=m.there;have r:w.heap.size+1≠w.heap.size:=oM;have pA:=u.farAll r 0 (QE (QK 3) QN);have X:AtL ((Q6 w x tv).setCells (w.heap.size+1) 0 (QE (QK 3) QN)) (w.heap.size+1) (QE (QK 3) QN):=m.setAll rfl;have o:bL w ((Q6 w x tv).setCells (w.heap.size+1) 0 (QE (QK 3) QN)):=Ql (QI (QI (aZ _ w) _) _) (eZ _) _ 0;clear u m;have n0:(QE x tv)[0]?=lY (O J 3):=by rw[<-hk];rfl
 have a0:=pA.2.1 0 _ n0;show cW _ _ #[gX (QE x tv).toArray] _ _
 have hS:=zEb pA X;clear hz N t;by_cases E:1<=x.a
 have F:¬x.a<1:=oM;by_cases g2:x.a<=3
 have G:¬3<x.a:=oM;have q:(oY (1<=x.a)&&oY (x.a<=3))=mY:=by simp[E,g2]
 rw[q];rotate_left
 have G:3<x.a:=oM;have q:(oY (1<=x.a)&&oY (x.a<=3))=nY:=by simp[g2]
 rw[q];rotate_left
 have F:x.a<1:=oM;have q:(oY (1<=x.a)&&oY (x.a<=3))=nY:=by simp[E]
 rw[q];rotate_left
 all_goals
  go_enter func99,ntmps99;go_upto_region 1 with fail
  go_upto_region 2 with((with_reducible refine stQ 86 (mX 3) (mX 7) (w.heap.size+1) 0 (QE (QK 3) QN).toArray ?_ ?_ ?_);exact s;exact JN _ _ _ _)
  generalize(Q6 w x tv).setCells (w.heap.size+1) 0 (QE (QK 3) QN)=W0 at*;clear s;go_upto_region 8 with fail
  have g:=AtL.drew pA;have f:=AtL.drew X;have j:=o.drew;clear pA X o hS;refine wp_region_held_drew (S:=zQl w.heap.size (w.heap.size+1) x tv) kR (zEb g f) (λd=>?_);generalize W0.drew=wd at*;refine tkQ 0 ?_
  refine tkQ 1 ?_
  refine tkQ 2 ?_
  refine tkQ 3 ?_
  refine tkQ 4 ?_
  refine tkQ 5 ?_
  first
  |(
    refine tkH 6 ?_ rfl (fZ ⟨by rfl,?_⟩) ?_;rotate_left
    ·intro w l
     (try dsimp only at l)
     go_simp
     try with_reducible rfl)
  |(refine tkH 6 undef rfl (gZ ⟨by rfl,rfl⟩) ?_)
  try simp only[Act.put,lA,lZ,lS]
  first
  |(
    refine tkH 7 ?_ rfl (fZ ⟨by rfl,?_⟩) ?_;rotate_left
    ·intro w l
     (try dsimp only at l)
     go_simp
     try with_reducible rfl)
  |(refine tkH 7 undef rfl (gZ ⟨by rfl,rfl⟩) ?_)
  try simp only[Act.put,lA,lZ,lS]
  first
  |(
    refine tkH 8 ?_ rfl (fZ ⟨by rfl,?_⟩) ?_;rotate_left
    ·intro w l
     (try dsimp only at l)
     go_simp
     try with_reducible rfl)
  |(refine tkH 8 undef rfl (gZ ⟨by rfl,rfl⟩) ?_)
  try simp only[Act.put,lA,lZ,lS]
  refine tkQ 9 ?_
  refine tkQ 10 ?_
  refine rdQ 11 (λK p=>?_);have o1:=f.2.1 1 _ rfl;obtain⟨_,E⟩:=d;go_simp
  refine hkQ p ((zLg (zEb g f) oM _ _)) (λd=>?_);clear p K o1 E
  have z:=(g.far r 1 (O J x.a))
  have C:=(f.set 1 (O J x.a))
  have i:bL w (wd.setCell ⟨w.heap.size+1,1,kY⟩ (O J x.a)):=(clB j)
  clear g f j;generalize(wd.setCell ⟨w.heap.size+1,1,kY⟩ (O J x.a))=aa at*;have g:=z;have f:=C;have j:=i;clear z C i;refine rdQ 12 (λK p=>?_);go_simp
  refine hkQ p (by assumption) (λd=>?_);clear p K
  refine wpAnyH_done kR ?_ _;clear d;have rA:=g.range;have rO:=f.range;have i:=j;clear g f j;go_wp2_with (first|((with_reducible refine ldQ 86 (mX 1) w.heap.size 0 (QE x tv) _ ?_ underlying86 ?_);exact rA)|((with_reducible refine ldQ 86 (mX 3) (w.heap.size+1) 0 (QE ⟨3,x.a,0,v0I,c0I,a0I,a0I⟩ QN) _ ?_ underlying86 ?_);exact rO)|(go_at_call 134;refine(CS _ i).mono ?_;rintro e w3 ⟨rfl,I⟩;have H:=QA i I))
  go_wp2;go_ret;first
  |exact⟨sM,i⟩
  |exact⟨sM,H⟩
abbrev zQk(ka kb:Nat)(x:Wc.In)(tv:vW)(W:wW):Prop :=
 W.cell? ⟨ka,1,kY⟩=lY (O J x.a)/\W.frozen? ⟨kb,1,kY⟩=nY
theorem zEV(c:AtL W ka (QE x tv))(d:AtL W kb (QE y tu)):zQk ka kb x tv W :=
 ⟨c.2.1 1 _ rfl,d.2.2 1 (by show 1<23;decide)⟩
theorem zMe(h:zQk ka kb x tv W)(c:kb≠ka)(j:Nat)(u:vW):zQk ka kb x tv (W.setCell ⟨kb,j,kY⟩ u):=by
 obtain⟨e,d⟩:=h;refine⟨?_,?_⟩;any_goals rw[dZ _ _ _ _ (by simpa using c)];assumption
 all_goals rw[bZ];assumption
theorem zLX(x:Wc.In)(E:Option dW)(n c:Nat)(tl:List Int)(w:wW)(hk:x.op=4)(hz:RdZ w (U E n c) tl)(X:tl.length<=1000000) :
  CR 99 #[inV x (U E n c)] w (Y (Wt.isBin x.a&&(smI x ⟨4,x.a,0,v0I,c0I,a0I,a0I⟩&&oY (tl=[])))):=by
 have CS:∀w',bL w w'->CR 134 #[gX (QE x (U E n c)).toArray,gX (QE ⟨4,x.a,0,v0I,c0I,a0I,a0I⟩ QN).toArray] w' (Y (smI x ⟨4,x.a,0,v0I,c0I,a0I,a0I⟩&&oY (tl=[]))):=λw' hb=>Q5 x ⟨4,x.a,0,v0I,c0I,a0I,a0I⟩ _ _ tl [] w' (hz.below hb) (RdZ.nil _) X (by first|exact X|simp)
 generalize(smI x ⟨4,x.a,0,v0I,c0I,a0I,a0I⟩&&oY (tl=[]))=R at*;obtain⟨tv,u⟩:=xV (U E n c)
 rw[u]at CS ⊢;have z:AtL (Q6 w x tv) w.heap.size (QE x tv):=(AtL.new0 w _ _).alloc _;have o:AtL (Q6 w x tv) (w.heap.size+1) (QE (QK 0) QN):=AtL.new1 w _ _ _;have t:cZ (Q6 w x tv) (w.heap.size+1) 0 (QE (QK 4) QN).toArray.size:=o.there;have s:w.heap.size+1≠w.heap.size:=oM;have pA:=z.farAll s 0 (QE (QK 4) QN);have pO:AtL ((Q6 w x tv).setCells (w.heap.size+1) 0 (QE (QK 4) QN)) (w.heap.size+1) (QE (QK 4) QN):=o.setAll rfl;have q:bL w ((Q6 w x tv).setCells (w.heap.size+1) 0 (QE (QK 4) QN)):=Ql (QI (QI (aZ _ w) _) _) (eZ _) _ 0;clear z o;have n0:(QE x tv)[0]?=lY (O J 4):=by rw[<-hk];rfl
 have a0:=pA.2.1 0 _ n0;show cW _ _ #[gX (QE x tv).toArray] _ _
 have hS:=zEV pA pO;clear hz X u;by_cases g1:11<=x.a
 have F:¬x.a<11:=oM;by_cases g2:x.a<=16
 have G:¬16<x.a:=oM;have m:Wt.isBin x.a=mY:=by simp only[Wt.isBin];simp;omega
 rw[m];rotate_left
 have G:16<x.a:=oM;by_cases g3:21<=x.a
 have p:¬x.a<21:=oM;by_cases g4:x.a<=26
 have H:¬26<x.a:=oM;have m:Wt.isBin x.a=mY:=by simp only[Wt.isBin];simp;omega
 rw[m];rotate_left
 have H:26<x.a:=oM;have m:Wt.isBin x.a=nY:=by simp only[Wt.isBin];simp;omega
 rw[m];rotate_left
 have p:x.a<21:=oM;have m:Wt.isBin x.a=nY:=by simp only[Wt.isBin];simp;omega
 rw[m];rotate_left
 have F:x.a<11:=oM;have g3:¬21<=x.a:=oM;have p:x.a<21:=oM;have m:Wt.isBin x.a=nY:=by simp only[Wt.isBin];simp;omega
 rw[m];rotate_left
 all_goals
  go_enter func99,ntmps99;go_upto_region 1 with fail
  go_upto_region 2 with((with_reducible refine stQ 86 (mX 3) (mX 7) (w.heap.size+1) 0 (QE (QK 4) QN).toArray ?_ ?_ ?_);exact t;exact JN _ _ _ _)
  generalize(Q6 w x tv).setCells (w.heap.size+1) 0 (QE (QK 4) QN)=W0 at*;clear t;go_upto_region 10 with fail
  have i:=AtL.drew pA;have g:=AtL.drew pO;have l:=q.drew;clear pA pO q hS;refine wp_region_held_drew (S:=zQk w.heap.size (w.heap.size+1) x tv) kR (zEV i g) (λf=>?_);generalize W0.drew=wd at*;refine tkQ 0 ?_
  refine tkQ 1 ?_
  refine tkQ 2 ?_
  refine tkQ 3 ?_
  refine tkQ 4 ?_
  refine tkQ 5 ?_
  first
  |(
    refine tkH 6 ?_ rfl (fZ ⟨by rfl,?_⟩) ?_;rotate_left
    ·intro w d
     (try dsimp only at d)
     go_simp
     try with_reducible rfl)
  |(refine tkH 6 undef rfl (gZ ⟨by rfl,rfl⟩) ?_)
  try simp only[Act.put,lA,lZ,lS]
  first
  |(
    refine tkH 7 ?_ rfl (fZ ⟨by rfl,?_⟩) ?_;rotate_left
    ·intro w d
     (try dsimp only at d)
     go_simp
     try with_reducible rfl)
  |(refine tkH 7 undef rfl (gZ ⟨by rfl,rfl⟩) ?_)
  try simp only[Act.put,lA,lZ,lS]
  first
  |(
    refine tkH 8 ?_ rfl (fZ ⟨by rfl,?_⟩) ?_;rotate_left
    ·intro w d
     (try dsimp only at d)
     go_simp
     try with_reducible rfl)
  |(refine tkH 8 undef rfl (gZ ⟨by rfl,rfl⟩) ?_)
  try simp only[Act.put,lA,lZ,lS]
  refine tkQ 9 ?_
  refine tkQ 10 ?_
  first
  |(refine tkH 11 undef rfl (gZ ⟨by rfl,rfl⟩) ?_)
  |(
    refine tkH 11 ?_ rfl (fZ ⟨by rfl,?_⟩) ?_;rotate_left
    ·intro w d
     (try dsimp only at d)
     go_simp
     try with_reducible rfl)
  try simp only[Act.put,lA,lZ,lS]
  first
  |(refine tkH 12 undef rfl (gZ ⟨by rfl,rfl⟩) ?_)
  |(
    refine tkH 12 ?_ rfl (fZ ⟨by rfl,?_⟩) ?_;rotate_left
    ·intro w d
     (try dsimp only at d)
     go_simp
     try with_reducible rfl)
  try simp only[Act.put,lA,lZ,lS]
  first
  |(refine tkH 13 undef rfl (gZ ⟨by rfl,rfl⟩) ?_)
  |(
    refine tkH 13 ?_ rfl (fZ ⟨by rfl,?_⟩) ?_;rotate_left
    ·intro w d
     (try dsimp only at d)
     go_simp
     try with_reducible rfl)
  try simp only[Act.put,lA,lZ,lS]
  first
  |(refine tkH 14 undef rfl (gZ ⟨by rfl,rfl⟩) ?_)
  |(
    refine tkH 14 ?_ rfl (fZ ⟨by rfl,?_⟩) ?_;rotate_left
    ·intro w d
     (try dsimp only at d)
     go_simp
     try with_reducible rfl)
  try simp only[Act.put,lA,lZ,lS]
  first
  |(refine tkH 15 undef rfl (gZ ⟨by rfl,rfl⟩) ?_)
  |(
    refine tkH 15 ?_ rfl (fZ ⟨by rfl,?_⟩) ?_;rotate_left
    ·intro w d
     (try dsimp only at d)
     go_simp
     try with_reducible rfl)
  try simp only[Act.put,lA,lZ,lS]
  first
  |(refine tkH 16 undef rfl (gZ ⟨by rfl,rfl⟩) ?_)
  |(
    refine tkH 16 ?_ rfl (fZ ⟨by rfl,?_⟩) ?_;rotate_left
    ·intro w d
     (try dsimp only at d)
     go_simp
     try with_reducible rfl)
  try simp only[Act.put,lA,lZ,lS]
  first
  |(refine tkH 17 undef rfl (gZ ⟨by rfl,rfl⟩) ?_)
  |(
    refine tkH 17 ?_ rfl (fZ ⟨by rfl,?_⟩) ?_;rotate_left
    ·intro w d
     (try dsimp only at d)
     go_simp
     try with_reducible rfl)
  try simp only[Act.put,lA,lZ,lS]
  first
  |(refine tkH 18 undef rfl (gZ ⟨by rfl,rfl⟩) ?_)
  |(
    refine tkH 18 ?_ rfl (fZ ⟨by rfl,?_⟩) ?_;rotate_left
    ·intro w d
     (try dsimp only at d)
     go_simp
     try with_reducible rfl)
  try simp only[Act.put,lA,lZ,lS]
  refine tkQ 19 ?_
  refine tkQ 20 ?_
  refine rdQ 21 (λK r=>?_);have o1:=g.2.1 1 _ rfl;obtain⟨_,g1⟩:=f;go_simp
  refine hkQ r ((zMe (zEV i g) oM _ _)) (λf=>?_);clear r K o1 g1
  have C:=(i.far s 1 (O J x.a))
  have D:=(g.set 1 (O J x.a))
  have j:bL w (wd.setCell ⟨w.heap.size+1,1,kY⟩ (O J x.a)):=(clB l)
  clear i g l;generalize(wd.setCell ⟨w.heap.size+1,1,kY⟩ (O J x.a))=aa at*;have i:=C;have g:=D;have l:=j;clear C D j;refine rdQ 22 (λK r=>?_);go_simp
  refine hkQ r (by assumption) (λf=>?_);clear r K
  refine wpAnyH_done kR ?_ _;clear f;have rA:=i.range;have rO:=g.range;have j:=l;clear i g l;go_wp2_with (first|((with_reducible refine ldQ 86 (mX 1) w.heap.size 0 (QE x tv) _ ?_ underlying86 ?_);exact rA)|((with_reducible refine ldQ 86 (mX 3) (w.heap.size+1) 0 (QE ⟨4,x.a,0,v0I,c0I,a0I,a0I⟩ QN) _ ?_ underlying86 ?_);exact rO)|(go_at_call 134;refine(CS _ j).mono ?_;rintro e w3 ⟨rfl,N⟩;have I:=QA j N))
  go_wp2;go_ret;first
  |exact⟨sM,j⟩
  |exact⟨sM,I⟩
abbrev zLE(ka kb:Nat)(x:Wc.In)(tv:vW)(W:wW):Prop :=
 W.cell? ⟨ka,1,kY⟩=lY (O J x.a)/\W.cell? ⟨ka,2,kY⟩=lY (O J x.b)/\W.frozen? ⟨kb,1,kY⟩=nY/\W.frozen? ⟨kb,2,kY⟩=nY
theorem zBS(c:AtL W ka (QE x tv))(d:AtL W kb (QE y tu)):zLE ka kb x tv W :=
 ⟨c.2.1 1 _ rfl,c.2.1 2 _ rfl,d.2.2 1 (by show 1<23;decide),d.2.2 2 (by show 2<23;decide)⟩
theorem zDd(h:zLE ka kb x tv W)(c:kb≠ka)(j:Nat)(u:vW):zLE ka kb x tv (W.setCell ⟨kb,j,kY⟩ u):=by
 obtain⟨f,g,d,e⟩:=h;refine⟨?_,?_,?_,?_⟩;any_goals rw[dZ _ _ _ _ (by simpa using c)];assumption
 all_goals rw[bZ];assumption
theorem zKT(x:Wc.In)(C:Option dW)(n c:Nat)(tl:List Int)(w:wW)(hk:x.op=12)(hz:RdZ w (U C n c) tl)(I:tl.length<=1000000) :
  CR 99 #[inV x (U C n c)] w (Y (mY&&(smI x ⟨12,x.a,x.b,v0I,c0I,a0I,a0I⟩&&oY (tl=[])))):=by
 have X:∀w',bL w w'->CR 134 #[gX (QE x (U C n c)).toArray,gX (QE ⟨12,x.a,x.b,v0I,c0I,a0I,a0I⟩ QN).toArray] w' (Y (smI x ⟨12,x.a,x.b,v0I,c0I,a0I,a0I⟩&&oY (tl=[]))):=λw' hb=>Q5 x ⟨12,x.a,x.b,v0I,c0I,a0I,a0I⟩ _ _ tl [] w' (hz.below hb) (RdZ.nil _) I (by first|exact I|simp)
 generalize(smI x ⟨12,x.a,x.b,v0I,c0I,a0I,a0I⟩&&oY (tl=[]))=R at*;obtain⟨tv,t⟩:=xV (U C n c)
 rw[t]at X ⊢;have u:AtL (Q6 w x tv) w.heap.size (QE x tv):=(AtL.new0 w _ _).alloc _;have q:AtL (Q6 w x tv) (w.heap.size+1) (QE (QK 0) QN):=AtL.new1 w _ _ _;have s:cZ (Q6 w x tv) (w.heap.size+1) 0 (QE (QK 12) QN).toArray.size:=q.there;have p:w.heap.size+1≠w.heap.size:=oM;have pA:=u.farAll p 0 (QE (QK 12) QN);have N:AtL ((Q6 w x tv).setCells (w.heap.size+1) 0 (QE (QK 12) QN)) (w.heap.size+1) (QE (QK 12) QN):=q.setAll rfl;have r:bL w ((Q6 w x tv).setCells (w.heap.size+1) 0 (QE (QK 12) QN)):=Ql (QI (QI (aZ _ w) _) _) (eZ _) _ 0;clear u q;have n0:(QE x tv)[0]?=lY (O J 12):=by rw[<-hk];rfl
 have a0:=pA.2.1 0 _ n0;show cW _ _ #[gX (QE x tv).toArray] _ _
 have hS:=zBS pA N;clear hz I t;go_enter func99,ntmps99;go_upto_region 1 with fail
 go_upto_region 2 with((with_reducible refine stQ 86 (mX 3) (mX 7) (w.heap.size+1) 0 (QE (QK 12) QN).toArray ?_ ?_ ?_);exact s;exact JN _ _ _ _)
 generalize(Q6 w x tv).setCells (w.heap.size+1) 0 (QE (QK 12) QN)=W0 at*;clear s;go_upto_region 27 with fail
 have g:=AtL.drew pA;have f:=AtL.drew N;have j:=r.drew;clear pA N r hS;refine wp_region_held_drew (S:=zLE w.heap.size (w.heap.size+1) x tv) kR (zBS g f) (λd=>?_);generalize W0.drew=D at*;refine tkQ 0 ?_
 refine tkQ 1 ?_
 refine tkQ 2 ?_
 refine tkQ 3 ?_
 refine tkQ 4 ?_
 refine rdQ 5 (λK o=>?_);have o1:=f.2.1 1 _ rfl;obtain⟨_,_,E,F⟩:=d;go_simp
 refine hkQ o ((zDd (zBS g f) oM _ _)) (λd=>?_);clear o K o1 E F
 have l:AtL (D.setCell ⟨w.heap.size+1,1,kY⟩ (O J x.a)) w.heap.size (QE x tv):=(g.far p 1 (O J x.a))
 have m:AtL (D.setCell ⟨w.heap.size+1,1,kY⟩ (O J x.a)) (w.heap.size+1) (QE ⟨12,x.a,0,v0I,c0I,a0I,a0I⟩ QN):=(f.set 1 (O J x.a))
 have i:bL w (D.setCell ⟨w.heap.size+1,1,kY⟩ (O J x.a)):=(clB j)
 clear g f j;generalize(D.setCell ⟨w.heap.size+1,1,kY⟩ (O J x.a))=z at*;have g:=l;have f:=m;have j:=i;clear l m i;refine tkQ 6 ?_
 refine rdQ 7 (λK o=>?_);have o2:=f.2.1 2 _ rfl;obtain⟨_,_,E,F⟩:=d;go_simp
 refine hkQ o ((zDd (zBS g f) oM _ _)) (λd=>?_);clear o K o2 E F
 have l:=(g.far p 2 (O J x.b))
 have m:=(f.set 2 (O J x.b))
 have i:bL w (z.setCell ⟨w.heap.size+1,2,kY⟩ (O J x.b)):=(clB j)
 clear g f j;generalize(z.setCell ⟨w.heap.size+1,2,kY⟩ (O J x.b))=aa at*;have g:=l;have f:=m;have j:=i;clear l m i;refine rdQ 8 (λK o=>?_);go_simp
 refine hkQ o (by assumption) (λd=>?_);clear o K
 refine wpAnyH_done kR ?_ _;clear d;have rA:=g.range;have rO:=f.range;have i:=j;clear g f j;go_wp2_with (first|((with_reducible refine ldQ 86 (mX 1) w.heap.size 0 (QE x tv) _ ?_ underlying86 ?_);exact rA)|((with_reducible refine ldQ 86 (mX 3) (w.heap.size+1) 0 (QE ⟨12,x.a,x.b,v0I,c0I,a0I,a0I⟩ QN) _ ?_ underlying86 ?_);exact rO)|(go_at_call 134;refine(X _ i).mono ?_;rintro e w3 ⟨rfl,H⟩;have G:=QA i H))
 go_wp2;go_ret;first
 |exact⟨sM,i⟩
 |exact⟨sM,G⟩
abbrev zMp(ka kb:Nat)(x:Wc.In)(tv:vW)(W:wW):Prop :=
 W.cell? ⟨ka,2,kY⟩=lY (O J x.b)/\W.cell? ⟨ka,22,kY⟩=lY (tv)/\W.frozen? ⟨kb,2,kY⟩=nY/\W.frozen? ⟨kb,22,kY⟩=nY
theorem zBV(c:AtL W ka (QE x tv))(d:AtL W kb (QE y tu)):zMp ka kb x tv W :=
 ⟨c.2.1 2 _ rfl,c.2.1 22 _ rfl,d.2.2 2 (by show 2<23;decide),d.2.2 22 (by show 22<23;decide)⟩
theorem zDl(h:zMp ka kb x tv W)(c:kb≠ka)(j:Nat)(u:vW):zMp ka kb x tv (W.setCell ⟨kb,j,kY⟩ u):=by
 obtain⟨g,e,f,d⟩:=h;refine⟨?_,?_,?_,?_⟩;any_goals rw[dZ _ _ _ _ (by simpa using c)];assumption
 all_goals rw[bZ];assumption
theorem zJa(x:Wc.In)(i:Option dW)(n c:Nat)(tl:List Int)(w:wW)(hk:x.op=15)(G:RdZ w (U i n c) tl)(hl:tl.length<=1000000) :
  CR 99 #[inV x (U i n c)] w (Y ((oY (1<=(tl.length:Int))&&oY ((tl.length:Int)<=30))&&(smI x ⟨15,0,x.b,v0I,c0I,a0I,a0I⟩&&oY (tl=tl)))):=by
 have CS:∀w',bL w w'->CR 134 #[gX (QE x (U i n c)).toArray,gX (QE ⟨15,0,x.b,v0I,c0I,a0I,a0I⟩ (U i n c)).toArray] w' (Y (smI x ⟨15,0,x.b,v0I,c0I,a0I,a0I⟩&&oY (tl=tl))):=λw' hb=>Q5 x ⟨15,0,x.b,v0I,c0I,a0I,a0I⟩ _ _ tl tl w' (G.below hb) (G.below hb) hl (by first|exact hl|simp)
 generalize(smI x ⟨15,0,x.b,v0I,c0I,a0I,a0I⟩&&oY (tl=tl))=R at*;have H:(tl.length:Int)=n:=by obtain⟨_,_,e,_⟩:=G;injection e with e1 e2 e3;omega
 have E:AtL (Q6 w x (U i n c)) w.heap.size (QE x (U i n c)):=(AtL.new0 w _ _).alloc _;have t:AtL (Q6 w x (U i n c)) (w.heap.size+1) (QE (QK 0) QN):=AtL.new1 w _ _ _;have D:cZ (Q6 w x (U i n c)) (w.heap.size+1) 0 (QE (QK 15) QN).toArray.size:=t.there;have s:w.heap.size+1≠w.heap.size:=oM;have pA:=E.farAll s 0 (QE (QK 15) QN);have pO:AtL ((Q6 w x (U i n c)).setCells (w.heap.size+1) 0 (QE (QK 15) QN)) (w.heap.size+1) (QE (QK 15) QN):=t.setAll rfl;have z:bL w ((Q6 w x (U i n c)).setCells (w.heap.size+1) 0 (QE (QK 15) QN)):=Ql (QI (QI (aZ _ w) _) _) (eZ _) _ 0;clear E t;have n0:(QE x (U i n c))[0]?=lY (O J 15):=by rw[<-hk];rfl
 have a0:=pA.2.1 0 _ n0;show cW _ _ #[gX (QE x (U i n c)).toArray] _ _
 have hS:=zBV pA pO;clear G hl;by_cases g1:1<=(n:Int)
 have I:¬(n:Int)<1:=oM;by_cases u:(n:Int)<=30
 have N:¬30<(n:Int):=oM;have C:(oY (1<=(tl.length:Int))&&oY ((tl.length:Int)<=30))=mY:=by rw[H];simp only[g1,u,decide_true,Bool.and_self]
 rw[C];rotate_left
 have N:30<(n:Int):=oM;have C:(oY (1<=(tl.length:Int))&&oY ((tl.length:Int)<=30))=nY:=by rw[H];simp only[u,decide_false,Bool.and_false]
 rw[C];rotate_left
 have I:(n:Int)<1:=oM;have C:(oY (1<=(tl.length:Int))&&oY ((tl.length:Int)<=30))=nY:=by rw[H];simp only[g1,decide_false,Bool.false_and]
 rw[C];rotate_left
 all_goals
  go_enter func99,ntmps99;go_upto_region 1 with fail
  go_upto_region 2 with((with_reducible refine stQ 86 (mX 3) (mX 7) (w.heap.size+1) 0 (QE (QK 15) QN).toArray ?_ ?_ ?_);exact D;exact JN _ _ _ _)
  generalize(Q6 w x (U i n c)).setCells (w.heap.size+1) 0 (QE (QK 15) QN)=W0 at*;clear D;go_upto_region 32 with fail
  have g:=AtL.drew pA;have f:=AtL.drew pO;have l:=z.drew;clear pA pO z hS;refine wp_region_held_drew (S:=zMp w.heap.size (w.heap.size+1) x (U i n c)) kR (zBV g f) (λd=>?_);generalize W0.drew=wd at*;refine tkQ 0 ?_
  refine tkQ 1 ?_
  refine tkQ 2 ?_
  refine tkQ 3 ?_
  refine tkQ 4 ?_
  refine tkQ 5 ?_
  refine tkQ 6 ?_
  refine tkQ 7 ?_
  refine tkQ 8 ?_
  first
  |(
    refine tkH 9 ?_ rfl (fZ ⟨by rfl,?_⟩) ?_;rotate_left
    ·intro w m
     (try dsimp only at m)
     go_simp
     try with_reducible rfl)
  |(refine tkH 9 undef rfl (gZ ⟨by rfl,rfl⟩) ?_)
  try simp only[Act.put,lA,lZ,lS]
  first
  |(
    refine tkH 10 ?_ rfl (fZ ⟨by rfl,?_⟩) ?_;rotate_left
    ·intro w m
     (try dsimp only at m)
     go_simp
     try with_reducible rfl)
  |(refine tkH 10 undef rfl (gZ ⟨by rfl,rfl⟩) ?_)
  try simp only[Act.put,lA,lZ,lS]
  first
  |(
    refine tkH 11 ?_ rfl (fZ ⟨by rfl,?_⟩) ?_;rotate_left
    ·intro w m
     (try dsimp only at m)
     go_simp
     try with_reducible rfl)
  |(refine tkH 11 undef rfl (gZ ⟨by rfl,rfl⟩) ?_)
  try simp only[Act.put,lA,lZ,lS]
  first
  |(
    refine tkH 12 ?_ rfl (fZ ⟨by rfl,?_⟩) ?_;rotate_left
    ·intro w m
     (try dsimp only at m)
     go_simp
     try with_reducible rfl)
  |(refine tkH 12 undef rfl (gZ ⟨by rfl,rfl⟩) ?_)
  try simp only[Act.put,lA,lZ,lS]
  refine tkQ 13 ?_
  refine tkQ 14 ?_
  refine rdQ 15 (λK q=>?_);have ab:=f.2.1 22 _ rfl;obtain⟨_,_,u,r⟩:=d;go_simp
  refine hkQ q ((zDl (zBV g f) oM _ _)) (λd=>?_);clear q K ab u r
  have o:=(g.far s 22 (U i n c))
  have p:=(f.set 22 (U i n c))
  have j:bL w (wd.setCell ⟨w.heap.size+1,22,kY⟩ (U i n c)):=(clB l)
  clear g f l;generalize(wd.setCell ⟨w.heap.size+1,22,kY⟩ (U i n c))=F at*;have g:=o;have f:=p;have l:=j;clear o p j;refine tkQ 16 ?_
  refine rdQ 17 (λK q=>?_);have o2:=f.2.1 2 _ rfl;obtain⟨_,_,u,r⟩:=d;go_simp
  refine hkQ q ((zDl (zBV g f) oM _ _)) (λd=>?_);clear q K o2 u r
  have o:=(g.far s 2 (O J x.b))
  have p:=(f.set 2 (O J x.b))
  have j:bL w (F.setCell ⟨w.heap.size+1,2,kY⟩ (O J x.b)):=(clB l)
  clear g f l;generalize(F.setCell ⟨w.heap.size+1,2,kY⟩ (O J x.b))=ac at*;have g:=o;have f:=p;have l:=j;clear o p j;refine rdQ 18 (λK q=>?_);go_simp
  refine hkQ q (by assumption) (λd=>?_);clear q K
  refine wpAnyH_done kR ?_ _;clear d;have rA:=g.range;have rO:=f.range;have j:=l;clear g f l;go_wp2_with (first|((with_reducible refine ldQ 86 (mX 1) w.heap.size 0 (QE x (U i n c)) _ ?_ underlying86 ?_);exact rA)|((with_reducible refine ldQ 86 (mX 3) (w.heap.size+1) 0 (QE ⟨15,0,x.b,v0I,c0I,a0I,a0I⟩ (U i n c)) _ ?_ underlying86 ?_);exact rO)|(go_at_call 134;refine(CS _ j).mono ?_;rintro e w3 ⟨rfl,aa⟩;have X:=QA j aa))
  go_wp2;go_ret;first
  |exact⟨sM,j⟩
  |exact⟨sM,X⟩
abbrev zSS(ka kb:Nat)(x:Wc.In)(tv:vW)(W:wW):Prop :=
 W.cell? ⟨ka,1,kY⟩=lY (O J x.a)/\W.frozen? ⟨kb,1,kY⟩=nY
theorem zDE(c:AtL W ka (QE x tv))(d:AtL W kb (QE y tu)):zSS ka kb x tv W :=
 ⟨c.2.1 1 _ rfl,d.2.2 1 (by show 1<23;decide)⟩
theorem zLx(x:Wc.In)(q:Option dW)(n c:Nat)(tl:List Int)(w:wW)(G:x.op=7)(D:RdZ w (U q n c) tl)(t:tl.length<=1000000) :
  CR 99 #[inV x (U q n c)] w (Y (mY&&(smI x ⟨7,0,0,v0I,c0I,a0I,a0I⟩&&oY (tl=[])))):=by
 have C:∀w',bL w w'->CR 134 #[gX (QE x (U q n c)).toArray,gX (QE ⟨7,0,0,v0I,c0I,a0I,a0I⟩ QN).toArray] w' (Y (smI x ⟨7,0,0,v0I,c0I,a0I,a0I⟩&&oY (tl=[]))):=λw' hb=>Q5 x ⟨7,0,0,v0I,c0I,a0I,a0I⟩ _ _ tl [] w' (D.below hb) (RdZ.nil _) t (by first|exact t|simp)
 generalize(smI x ⟨7,0,0,v0I,c0I,a0I,a0I⟩&&oY (tl=[]))=R at*;obtain⟨tv,l⟩:=xV (U q n c)
 rw[l]at C ⊢;have m:AtL (Q6 w x tv) w.heap.size (QE x tv):=(AtL.new0 w _ _).alloc _;have f:AtL (Q6 w x tv) (w.heap.size+1) (QE (QK 0) QN):=AtL.new1 w _ _ _;have j:cZ (Q6 w x tv) (w.heap.size+1) 0 (QE (QK 7) QN).toArray.size:=f.there;have u:w.heap.size+1≠w.heap.size:=oM;have pA:=m.farAll u 0 (QE (QK 7) QN);have z:AtL ((Q6 w x tv).setCells (w.heap.size+1) 0 (QE (QK 7) QN)) (w.heap.size+1) (QE (QK 7) QN):=f.setAll rfl;have i:bL w ((Q6 w x tv).setCells (w.heap.size+1) 0 (QE (QK 7) QN)):=Ql (QI (QI (aZ _ w) _) _) (eZ _) _ 0;clear m f;have H:(QE x tv)[0]?=lY (O J 7):=by rw[<-G];rfl
 have E:=pA.2.1 0 _ H;show cW _ _ #[gX (QE x tv).toArray] _ _
 have F:=zDE pA z;clear D t l;go_enter func99,ntmps99;go_upto_region 1 with fail
 go_upto_region 2 with((with_reducible refine stQ 86 (mX 3) (mX 7) (w.heap.size+1) 0 (QE (QK 7) QN).toArray ?_ ?_ ?_);exact j;exact JN _ _ _ _)
 generalize(Q6 w x tv).setCells (w.heap.size+1) 0 (QE (QK 7) QN)=S at*;clear j;go_upto_region 33 with fail
 have o:=pA;have p:=z;have g:=i;clear pA z i F E;have I:=o.range;have N:=p.range;have d:=g;clear o p g;go_wp2_with (first|((with_reducible refine ldQ 86 (mX 1) w.heap.size 0 (QE x tv) _ ?_ underlying86 ?_);exact I)|((with_reducible refine ldQ 86 (mX 3) (w.heap.size+1) 0 (QE ⟨7,0,0,v0I,c0I,a0I,a0I⟩ QN) _ ?_ underlying86 ?_);exact N)|(go_at_call 134;refine(C _ d).mono ?_;rintro e X ⟨rfl,s⟩;have r:=QA d s))
 go_wp2;go_ret;first
 |exact⟨sM,d⟩
 |exact⟨sM,r⟩
theorem zIe(x:Wc.In)(q:Option dW)(n c:Nat)(tl:List Int)(w:wW)(G:x.op=10)(D:RdZ w (U q n c) tl)(t:tl.length<=1000000) :
  CR 99 #[inV x (U q n c)] w (Y (mY&&(smI x ⟨10,0,0,v0I,c0I,a0I,a0I⟩&&oY (tl=[])))):=by
 have C:∀w',bL w w'->CR 134 #[gX (QE x (U q n c)).toArray,gX (QE ⟨10,0,0,v0I,c0I,a0I,a0I⟩ QN).toArray] w' (Y (smI x ⟨10,0,0,v0I,c0I,a0I,a0I⟩&&oY (tl=[]))):=λw' hb=>Q5 x ⟨10,0,0,v0I,c0I,a0I,a0I⟩ _ _ tl [] w' (D.below hb) (RdZ.nil _) t (by first|exact t|simp)
 generalize(smI x ⟨10,0,0,v0I,c0I,a0I,a0I⟩&&oY (tl=[]))=R at*;obtain⟨tv,l⟩:=xV (U q n c)
 rw[l]at C ⊢;have m:AtL (Q6 w x tv) w.heap.size (QE x tv):=(AtL.new0 w _ _).alloc _;have f:AtL (Q6 w x tv) (w.heap.size+1) (QE (QK 0) QN):=AtL.new1 w _ _ _;have j:cZ (Q6 w x tv) (w.heap.size+1) 0 (QE (QK 10) QN).toArray.size:=f.there;have u:w.heap.size+1≠w.heap.size:=oM;have pA:=m.farAll u 0 (QE (QK 10) QN);have z:AtL ((Q6 w x tv).setCells (w.heap.size+1) 0 (QE (QK 10) QN)) (w.heap.size+1) (QE (QK 10) QN):=f.setAll rfl;have i:bL w ((Q6 w x tv).setCells (w.heap.size+1) 0 (QE (QK 10) QN)):=Ql (QI (QI (aZ _ w) _) _) (eZ _) _ 0;clear m f;have H:(QE x tv)[0]?=lY (O J 10):=by rw[<-G];rfl
 have E:=pA.2.1 0 _ H;show cW _ _ #[gX (QE x tv).toArray] _ _
 have F:=zDE pA z;clear D t l;go_enter func99,ntmps99;go_upto_region 1 with fail
 go_upto_region 2 with((with_reducible refine stQ 86 (mX 3) (mX 7) (w.heap.size+1) 0 (QE (QK 10) QN).toArray ?_ ?_ ?_);exact j;exact JN _ _ _ _)
 generalize(Q6 w x tv).setCells (w.heap.size+1) 0 (QE (QK 10) QN)=S at*;clear j;go_upto_region 33 with fail
 have o:=pA;have p:=z;have g:=i;clear pA z i F E;have I:=o.range;have N:=p.range;have d:=g;clear o p g;go_wp2_with (first|((with_reducible refine ldQ 86 (mX 1) w.heap.size 0 (QE x tv) _ ?_ underlying86 ?_);exact I)|((with_reducible refine ldQ 86 (mX 3) (w.heap.size+1) 0 (QE ⟨10,0,0,v0I,c0I,a0I,a0I⟩ QN) _ ?_ underlying86 ?_);exact N)|(go_at_call 134;refine(C _ d).mono ?_;rintro e X ⟨rfl,s⟩;have r:=QA d s))
 go_wp2;go_ret;first
 |exact⟨sM,d⟩
 |exact⟨sM,r⟩
theorem zIJ(x:Wc.In)(q:Option dW)(n c:Nat)(tl:List Int)(w:wW)(G:x.op=16)(D:RdZ w (U q n c) tl)(t:tl.length<=1000000) :
  CR 99 #[inV x (U q n c)] w (Y (mY&&(smI x ⟨16,0,0,v0I,c0I,a0I,a0I⟩&&oY (tl=[])))):=by
 have C:∀w',bL w w'->CR 134 #[gX (QE x (U q n c)).toArray,gX (QE ⟨16,0,0,v0I,c0I,a0I,a0I⟩ QN).toArray] w' (Y (smI x ⟨16,0,0,v0I,c0I,a0I,a0I⟩&&oY (tl=[]))):=λw' hb=>Q5 x ⟨16,0,0,v0I,c0I,a0I,a0I⟩ _ _ tl [] w' (D.below hb) (RdZ.nil _) t (by first|exact t|simp)
 generalize(smI x ⟨16,0,0,v0I,c0I,a0I,a0I⟩&&oY (tl=[]))=R at*;obtain⟨tv,l⟩:=xV (U q n c)
 rw[l]at C ⊢;have m:AtL (Q6 w x tv) w.heap.size (QE x tv):=(AtL.new0 w _ _).alloc _;have f:AtL (Q6 w x tv) (w.heap.size+1) (QE (QK 0) QN):=AtL.new1 w _ _ _;have j:cZ (Q6 w x tv) (w.heap.size+1) 0 (QE (QK 16) QN).toArray.size:=f.there;have u:w.heap.size+1≠w.heap.size:=oM;have pA:=m.farAll u 0 (QE (QK 16) QN);have z:AtL ((Q6 w x tv).setCells (w.heap.size+1) 0 (QE (QK 16) QN)) (w.heap.size+1) (QE (QK 16) QN):=f.setAll rfl;have i:bL w ((Q6 w x tv).setCells (w.heap.size+1) 0 (QE (QK 16) QN)):=Ql (QI (QI (aZ _ w) _) _) (eZ _) _ 0;clear m f;have H:(QE x tv)[0]?=lY (O J 16):=by rw[<-G];rfl
 have E:=pA.2.1 0 _ H;show cW _ _ #[gX (QE x tv).toArray] _ _
 have F:=zDE pA z;clear D t l;go_enter func99,ntmps99;go_upto_region 1 with fail
 go_upto_region 2 with((with_reducible refine stQ 86 (mX 3) (mX 7) (w.heap.size+1) 0 (QE (QK 16) QN).toArray ?_ ?_ ?_);exact j;exact JN _ _ _ _)
 generalize(Q6 w x tv).setCells (w.heap.size+1) 0 (QE (QK 16) QN)=S at*;clear j;go_upto_region 33 with fail
 have o:=pA;have p:=z;have g:=i;clear pA z i F E;have I:=o.range;have N:=p.range;have d:=g;clear o p g;go_wp2_with (first|((with_reducible refine ldQ 86 (mX 1) w.heap.size 0 (QE x tv) _ ?_ underlying86 ?_);exact I)|((with_reducible refine ldQ 86 (mX 3) (w.heap.size+1) 0 (QE ⟨16,0,0,v0I,c0I,a0I,a0I⟩ QN) _ ?_ underlying86 ?_);exact N)|(go_at_call 134;refine(C _ d).mono ?_;rintro e X ⟨rfl,s⟩;have r:=QA d s))
 go_wp2;go_ret;first
 |exact⟨sM,d⟩
 |exact⟨sM,r⟩
abbrev zRB(ka kb:Nat)(x:Wc.In)(tv:vW)(W:wW):Prop :=
 W.cell? ⟨ka,1,kY⟩=lY (O J x.a)/\W.frozen? ⟨kb,1,kY⟩=nY
theorem zFd(c:AtL W ka (QE x tv))(d:AtL W kb (QE y tu)):zRB ka kb x tv W :=
 ⟨c.2.1 1 _ rfl,d.2.2 1 (by show 1<23;decide)⟩
theorem zKQ(x:Wc.In)(s:Option dW)(n c:Nat)(tl:List Int)(w:wW)(N:x.op=13)(E:RdZ w (U s n c) tl)(z:tl.length<=1000000) :
  CR 99 #[inV x (U s n c)] w (Y (mY&&(smI x ⟨13,x.a,0,v0I,c0I,a0I,a0I⟩&&oY (tl=[])))):=by
 have C:∀w',bL w w'->CR 134 #[gX (QE x (U s n c)).toArray,gX (QE ⟨13,x.a,0,v0I,c0I,a0I,a0I⟩ QN).toArray] w' (Y (smI x ⟨13,x.a,0,v0I,c0I,a0I,a0I⟩&&oY (tl=[]))):=λw' hb=>Q5 x ⟨13,x.a,0,v0I,c0I,a0I,a0I⟩ _ _ tl [] w' (E.below hb) (RdZ.nil _) z (by first|exact z|simp)
 generalize(smI x ⟨13,x.a,0,v0I,c0I,a0I,a0I⟩&&oY (tl=[]))=R at*;obtain⟨tv,m⟩:=xV (U s n c)
 rw[m]at C ⊢;have o:AtL (Q6 w x tv) w.heap.size (QE x tv):=(AtL.new0 w _ _).alloc _;have f:AtL (Q6 w x tv) (w.heap.size+1) (QE (QK 0) QN):=AtL.new1 w _ _ _;have l:cZ (Q6 w x tv) (w.heap.size+1) 0 (QE (QK 13) QN).toArray.size:=f.there;have j:w.heap.size+1≠w.heap.size:=oM;have pA:=o.farAll j 0 (QE (QK 13) QN);have q:AtL ((Q6 w x tv).setCells (w.heap.size+1) 0 (QE (QK 13) QN)) (w.heap.size+1) (QE (QK 13) QN):=f.setAll rfl;have i:bL w ((Q6 w x tv).setCells (w.heap.size+1) 0 (QE (QK 13) QN)):=Ql (QI (QI (aZ _ w) _) _) (eZ _) _ 0;clear o f;have S:(QE x tv)[0]?=lY (O J 13):=by rw[<-N];rfl
 have F:=pA.2.1 0 _ S;show cW _ _ #[gX (QE x tv).toArray] _ _
 have I:=zFd pA q;clear E z m;go_enter func99,ntmps99;go_upto_region 1 with fail
 go_upto_region 2 with((with_reducible refine stQ 86 (mX 3) (mX 7) (w.heap.size+1) 0 (QE (QK 13) QN).toArray ?_ ?_ ?_);exact l;exact JN _ _ _ _)
 generalize(Q6 w x tv).setCells (w.heap.size+1) 0 (QE (QK 13) QN)=D at*;clear l;have G:=pA.2.1 1 _ rfl;have X:=q.2.1 1 _ rfl;have H:=q.2.2 1 (by show 1<23;decide);go_upto_region 33 with fail
 have p:=pA.far j 1 (O J x.a);have r:=q.set 1 (O J x.a);have g:bL w (D.setCell ⟨w.heap.size+1,1,kY⟩ (O J x.a)):=(clB i)
 clear pA q i I F G X H;generalize(D.setCell ⟨w.heap.size+1,1,kY⟩ (O J x.a))=W2 at*;have rA:=p.range;have rO:=r.range;have d:=g;clear p r g;go_wp2_with (first|((with_reducible refine ldQ 86 (mX 1) w.heap.size 0 (QE x tv) _ ?_ underlying86 ?_);exact rA)|((with_reducible refine ldQ 86 (mX 3) (w.heap.size+1) 0 (QE ⟨13,x.a,0,v0I,c0I,a0I,a0I⟩ QN) _ ?_ underlying86 ?_);exact rO)|(go_at_call 134;refine(C _ d).mono ?_;rintro e w3 ⟨rfl,u⟩;have t:=QA d u))
 go_wp2;go_ret;first
 |exact⟨sM,d⟩
 |exact⟨sM,t⟩
theorem zHQ(x:Wc.In)(s:Option dW)(n c:Nat)(tl:List Int)(w:wW)(N:x.op=14)(E:RdZ w (U s n c) tl)(z:tl.length<=1000000) :
  CR 99 #[inV x (U s n c)] w (Y (mY&&(smI x ⟨14,x.a,0,v0I,c0I,a0I,a0I⟩&&oY (tl=[])))):=by
 have C:∀w',bL w w'->CR 134 #[gX (QE x (U s n c)).toArray,gX (QE ⟨14,x.a,0,v0I,c0I,a0I,a0I⟩ QN).toArray] w' (Y (smI x ⟨14,x.a,0,v0I,c0I,a0I,a0I⟩&&oY (tl=[]))):=λw' hb=>Q5 x ⟨14,x.a,0,v0I,c0I,a0I,a0I⟩ _ _ tl [] w' (E.below hb) (RdZ.nil _) z (by first|exact z|simp)
 generalize(smI x ⟨14,x.a,0,v0I,c0I,a0I,a0I⟩&&oY (tl=[]))=R at*;obtain⟨tv,m⟩:=xV (U s n c)
 rw[m]at C ⊢;have o:AtL (Q6 w x tv) w.heap.size (QE x tv):=(AtL.new0 w _ _).alloc _;have f:AtL (Q6 w x tv) (w.heap.size+1) (QE (QK 0) QN):=AtL.new1 w _ _ _;have l:cZ (Q6 w x tv) (w.heap.size+1) 0 (QE (QK 14) QN).toArray.size:=f.there;have j:w.heap.size+1≠w.heap.size:=oM;have pA:=o.farAll j 0 (QE (QK 14) QN);have q:AtL ((Q6 w x tv).setCells (w.heap.size+1) 0 (QE (QK 14) QN)) (w.heap.size+1) (QE (QK 14) QN):=f.setAll rfl;have i:bL w ((Q6 w x tv).setCells (w.heap.size+1) 0 (QE (QK 14) QN)):=Ql (QI (QI (aZ _ w) _) _) (eZ _) _ 0;clear o f;have S:(QE x tv)[0]?=lY (O J 14):=by rw[<-N];rfl
 have F:=pA.2.1 0 _ S;show cW _ _ #[gX (QE x tv).toArray] _ _
 have I:=zFd pA q;clear E z m;go_enter func99,ntmps99;go_upto_region 1 with fail
 go_upto_region 2 with((with_reducible refine stQ 86 (mX 3) (mX 7) (w.heap.size+1) 0 (QE (QK 14) QN).toArray ?_ ?_ ?_);exact l;exact JN _ _ _ _)
 generalize(Q6 w x tv).setCells (w.heap.size+1) 0 (QE (QK 14) QN)=D at*;clear l;have G:=pA.2.1 1 _ rfl;have X:=q.2.1 1 _ rfl;have H:=q.2.2 1 (by show 1<23;decide);go_upto_region 33 with fail
 have p:=pA.far j 1 (O J x.a);have r:=q.set 1 (O J x.a);have g:bL w (D.setCell ⟨w.heap.size+1,1,kY⟩ (O J x.a)):=(clB i)
 clear pA q i I F G X H;generalize(D.setCell ⟨w.heap.size+1,1,kY⟩ (O J x.a))=W2 at*;have rA:=p.range;have rO:=r.range;have d:=g;clear p r g;go_wp2_with (first|((with_reducible refine ldQ 86 (mX 1) w.heap.size 0 (QE x tv) _ ?_ underlying86 ?_);exact rA)|((with_reducible refine ldQ 86 (mX 3) (w.heap.size+1) 0 (QE ⟨14,x.a,0,v0I,c0I,a0I,a0I⟩ QN) _ ?_ underlying86 ?_);exact rO)|(go_at_call 134;refine(C _ d).mono ?_;rintro e w3 ⟨rfl,u⟩;have t:=QA d u))
 go_wp2;go_ret;first
 |exact⟨sM,d⟩
 |exact⟨sM,t⟩
theorem zK4(x:Wc.In)(q:Option dW)(n c:Nat)(tl:List Int)(w:wW)(D:RdZ w (U q n c) tl)(t:tl.length<=1000000)(ho:x.op<1\/16<x.op) :
  CR 99 #[inV x (U q n c)] w (Y (nY&&(smI x ⟨x.op,0,0,v0I,c0I,a0I,a0I⟩&&oY (tl=[])))):=by
 have C:∀w',bL w w'->CR 134 #[gX (QE x (U q n c)).toArray,gX (QE ⟨x.op,0,0,v0I,c0I,a0I,a0I⟩ QN).toArray] w' (Y (smI x ⟨x.op,0,0,v0I,c0I,a0I,a0I⟩&&oY (tl=[]))):=λw' hb=>Q5 x ⟨x.op,0,0,v0I,c0I,a0I,a0I⟩ _ _ tl [] w' (D.below hb) (RdZ.nil _) t (by first|exact t|simp)
 generalize(smI x ⟨x.op,0,0,v0I,c0I,a0I,a0I⟩&&oY (tl=[]))=R at*;have m1:¬x.op=1:=oM;have m2:¬x.op=2:=oM;have m3:¬x.op=3:=oM;have m4:¬x.op=4:=oM;have m5:¬x.op=5:=oM;have m6:¬x.op=6:=oM;have m7:¬x.op=7:=oM;have m8:¬x.op=8:=oM;have m9:¬x.op=9:=oM;have G:¬x.op=10:=oM;have H:¬x.op=11:=oM;have I:¬x.op=12:=oM;have N:¬x.op=13:=oM;have S:¬x.op=14:=oM;have X:¬x.op=15:=oM;have aa:¬x.op=16:=oM;obtain⟨tv,l⟩:=xV (U q n c)
 rw[l]at C ⊢;have m:AtL (Q6 w x tv) w.heap.size (QE x tv):=(AtL.new0 w _ _).alloc _;have f:AtL (Q6 w x tv) (w.heap.size+1) (QE (QK 0) QN):=AtL.new1 w _ _ _;have j:cZ (Q6 w x tv) (w.heap.size+1) 0 (QE (QK (x.op)) QN).toArray.size:=f.there;have u:w.heap.size+1≠w.heap.size:=oM;have pA:=m.farAll u 0 (QE (QK (x.op)) QN);have z:AtL ((Q6 w x tv).setCells (w.heap.size+1) 0 (QE (QK (x.op)) QN)) (w.heap.size+1) (QE (QK (x.op)) QN):=f.setAll rfl;have i:bL w ((Q6 w x tv).setCells (w.heap.size+1) 0 (QE (QK (x.op)) QN)):=Ql (QI (QI (aZ _ w) _) _) (eZ _) _ 0;clear m f;have n0:(QE x tv)[0]?=lY (O J (x.op)):=rfl;have E:=pA.2.1 0 _ n0;show cW _ _ #[gX (QE x tv).toArray] _ _
 have F:=zDE pA z;clear D t l;go_enter func99,ntmps99;go_upto_region 1 with fail
 go_upto_region 2 with((with_reducible refine stQ 86 (mX 3) (mX 7) (w.heap.size+1) 0 (QE (QK (x.op)) QN).toArray ?_ ?_ ?_);exact j;exact JN _ _ _ _)
 generalize(Q6 w x tv).setCells (w.heap.size+1) 0 (QE (QK (x.op)) QN)=W0 at*;clear j;go_upto_region 33 with fail
 have o:=pA;have p:=z;have g:=i;clear pA z i F E;have rA:=o.range;have rO:=p.range;have d:=g;clear o p g;go_wp2_with (first|((with_reducible refine ldQ 86 (mX 1) w.heap.size 0 (QE x tv) _ ?_ underlying86 ?_);exact rA)|((with_reducible refine ldQ 86 (mX 3) (w.heap.size+1) 0 (QE ⟨x.op,0,0,v0I,c0I,a0I,a0I⟩ QN) _ ?_ underlying86 ?_);exact rO)|(go_at_call 134;refine(C _ d).mono ?_;rintro e w3 ⟨rfl,s⟩;have r:=QA d s))
 go_wp2;go_ret;first
 |exact⟨sM,d⟩
 |exact⟨sM,r⟩
theorem zNQ{a:Wpl.Ar}(h:Wpl.rightA a.s a.t a.l a.b a.r=mY):SmA a:=by
 have:=Wpl.rightA_iff.1 h;unfold SmA;omega
abbrev zQm(ka kb:Nat)(x:Wc.In)(tv:vW)(W:wW):Prop :=
 W.cell? ⟨ka,12,kY⟩=lY (O J x.ar.s)/\W.cell? ⟨ka,13,kY⟩=lY (O J x.ar.t)/\W.cell? ⟨ka,14,kY⟩=lY (O J x.ar.l)/\W.cell? ⟨ka,15,kY⟩=lY (O J x.ar.b)/\W.cell? ⟨ka,16,kY⟩=lY (O J x.ar.r)/\W.cell? ⟨ka,17,kY⟩=lY (O J x.pr.s)/\W.cell? ⟨ka,18,kY⟩=lY (O J x.pr.t)/\W.cell? ⟨ka,19,kY⟩=lY (O J x.pr.l)/\W.cell? ⟨ka,20,kY⟩=lY (O J x.pr.b)/\W.cell? ⟨ka,21,kY⟩=lY (O J x.pr.r)/\W.frozen? ⟨kb,12,kY⟩=nY/\W.frozen? ⟨kb,13,kY⟩=nY/\W.frozen? ⟨kb,14,kY⟩=nY/\W.frozen? ⟨kb,15,kY⟩=nY/\W.frozen? ⟨kb,16,kY⟩=nY/\W.frozen? ⟨kb,17,kY⟩=nY/\W.frozen? ⟨kb,18,kY⟩=nY/\W.frozen? ⟨kb,19,kY⟩=nY/\W.frozen? ⟨kb,20,kY⟩=nY/\W.frozen? ⟨kb,21,kY⟩=nY
theorem zCx(c:AtL W ka (QE x tv))(d:AtL W kb (QE y tu)):zQm ka kb x tv W :=
 ⟨c.2.1 12 _ rfl,c.2.1 13 _ rfl,c.2.1 14 _ rfl,c.2.1 15 _ rfl,c.2.1 16 _ rfl,c.2.1 17 _ rfl,c.2.1 18 _ rfl,c.2.1 19 _ rfl,c.2.1 20 _ rfl,c.2.1 21 _ rfl,d.2.2 12 (by show 12<23;decide),d.2.2 13 (by show 13<23;decide),d.2.2 14 (by show 14<23;decide),d.2.2 15 (by show 15<23;decide),d.2.2 16 (by show 16<23;decide),d.2.2 17 (by show 17<23;decide),d.2.2 18 (by show 18<23;decide),d.2.2 19 (by show 19<23;decide),d.2.2 20 (by show 20<23;decide),d.2.2 21 (by show 21<23;decide)⟩
theorem JG(h:zQm ka kb x tv W)(c:kb≠ka)(j:Nat)(u:vW):zQm ka kb x tv (W.setCell ⟨kb,j,kY⟩ u):=by
 obtain⟨r,s,t,z,C,D,E,F,G,H,d,e,f,g,i,l,m,o,p,q⟩:=h;refine⟨?_,?_,?_,?_,?_,?_,?_,?_,?_,?_,?_,?_,?_,?_,?_,?_,?_,?_,?_,?_⟩;any_goals rw[dZ _ _ _ _ (by simpa using c)];assumption
 all_goals rw[bZ];assumption
theorem zMk(x:Wc.In)(av:Option dW)(n c:Nat)(tl:List Int)(w:wW)(hk:x.op=9)(hz:RdZ w (U av n c) tl)(hl:tl.length<=1000000) :
  CR 99 #[inV x (U av n c)] w (Y (((Wpl.rightA x.ar.s x.ar.t x.ar.l x.ar.b x.ar.r&&Wpl.rightA x.pr.s x.pr.t x.pr.l x.pr.b x.pr.r)&&shp x.ar x.pr)&&(smI x ⟨9,0,0,v0I,c0I,x.ar,x.pr⟩&&oY (tl=[])))):=by
 have CS:∀w',bL w w'->CR 134 #[gX (QE x (U av n c)).toArray,gX (QE ⟨9,0,0,v0I,c0I,x.ar,x.pr⟩ QN).toArray] w' (Y (smI x ⟨9,0,0,v0I,c0I,x.ar,x.pr⟩&&oY (tl=[]))):=λw' H=>Q5 x ⟨9,0,0,v0I,c0I,x.ar,x.pr⟩ _ _ tl [] w' (hz.below H) (RdZ.nil _) hl (by first|exact hl|simp)
 generalize(smI x ⟨9,0,0,v0I,c0I,x.ar,x.pr⟩&&oY (tl=[]))=R at*;have CA:=(λw=>zAG x.ar.s x.ar.t x.ar.l x.ar.b x.ar.r w:∀w:wW,CR 132 #[gX #[O J x.ar.s,O J x.ar.t,O J x.ar.l,O J x.ar.b,O J x.ar.r]] w (Y (Wpl.rightA x.ar.s x.ar.t x.ar.l x.ar.b x.ar.r)))
 have CB:=(λw=>zAG x.pr.s x.pr.t x.pr.l x.pr.b x.pr.r w:∀w:wW,CR 132 #[gX #[O J x.pr.s,O J x.pr.t,O J x.pr.l,O J x.pr.b,O J x.pr.r]] w (Y (Wpl.rightA x.pr.s x.pr.t x.pr.l x.pr.b x.pr.r)))
 have CC:∀w:wW,Wpl.rightA x.ar.s x.ar.t x.ar.l x.ar.b x.ar.r=mY->Wpl.rightA x.pr.s x.pr.t x.pr.l x.pr.b x.pr.r=mY->CR 133 #[gX #[O J x.ar.s,O J x.ar.t,O J x.ar.l,O J x.ar.b,O J x.ar.r],gX #[O J x.pr.s,O J x.pr.t,O J x.pr.l,O J x.pr.b,O J x.pr.r]] w (Y (shp x.ar x.pr)):=λw h1 h2=>zAs x.ar x.pr w (zNQ h1) (zNQ h2)
 generalize shp x.ar x.pr=q3 at*;generalize Wpl.rightA x.ar.s x.ar.t x.ar.l x.ar.b x.ar.r=q1 at*;generalize Wpl.rightA x.pr.s x.pr.t x.pr.l x.pr.b x.pr.r=q2 at*;obtain⟨tv,ao⟩:=xV (U av n c)
 rw[ao]at CS ⊢;have ap:AtL (Q6 w x tv) w.heap.size (QE x tv):=(AtL.new0 w _ _).alloc _;have al:AtL (Q6 w x tv) (w.heap.size+1) (QE (QK 0) QN):=AtL.new1 w _ _ _;have an:cZ (Q6 w x tv) (w.heap.size+1) 0 (QE (QK 9) QN).toArray.size:=al.there;have m:w.heap.size+1≠w.heap.size:=oM;have pA:=ap.farAll m 0 (QE (QK 9) QN);have pO:AtL ((Q6 w x tv).setCells (w.heap.size+1) 0 (QE (QK 9) QN)) (w.heap.size+1) (QE (QK 9) QN):=al.setAll rfl;have am:bL w ((Q6 w x tv).setCells (w.heap.size+1) 0 (QE (QK 9) QN)):=Ql (QI (QI (aZ _ w) _) _) (eZ _) _ 0;clear ap al;have n0:(QE x tv)[0]?=lY (O J 9):=by rw[<-hk];rfl
 have a0:=pA.2.1 0 _ n0;show cW _ _ #[gX (QE x tv).toArray] _ _
 have hS:=zCx pA pO;clear hz hl ao;go_enter func99,ntmps99;go_upto_region 1 with fail
 go_upto_region 2 with((with_reducible refine stQ 86 (mX 3) (mX 7) (w.heap.size+1) 0 (QE (QK 9) QN).toArray ?_ ?_ ?_);exact an;exact JN _ _ _ _)
 generalize(Q6 w x tv).setCells (w.heap.size+1) 0 (QE (QK 9) QN)=W0 at*;clear an;go_upto_region 22 with fail
 have d:=AtL.drew pA;have f:=AtL.drew pO;have g:=am.drew;clear pA pO am hS;refine wp_region_held_drew (S:=zQm w.heap.size (w.heap.size+1) x tv) kR (zCx d f) (λj=>?_);generalize W0.drew=wd at*;refine tkQ 0 ?_
 refine tkQ 1 ?_
 refine tkQ 2 ?_
 refine tkQ 3 ?_
 refine tkQ 4 ?_
 refine rdQ 5 (λK hK=>?_);have au:=f.2.1 12 _ rfl;have aw:=f.2.1 13 _ rfl;have ax:=f.2.1 14 _ rfl;have ay:=f.2.1 15 _ rfl;have az:=f.2.1 16 _ rfl;obtain⟨_,_,_,_,_,_,_,_,_,_,ab,ac,ad,ae,af,ag,ah,ai,aj,ak⟩:=j;go_simp
 refine hkQ hK ((JG (JG (JG (JG (JG (zCx d f) oM _ _) oM _ _) oM _ _) oM _ _) oM _ _)) (λj=>?_);clear hK K au aw ax ay az ab ac ad ae af ag ah ai aj ak
 have X:AtL (((((wd.setCell ⟨w.heap.size+1,12,kY⟩ (O J x.ar.s)).setCell ⟨w.heap.size+1,13,kY⟩ (O J x.ar.t)).setCell ⟨w.heap.size+1,14,kY⟩ (O J x.ar.l)).setCell ⟨w.heap.size+1,15,kY⟩ (O J x.ar.b)).setCell ⟨w.heap.size+1,16,kY⟩ (O J x.ar.r)) w.heap.size (QE x tv):=(((((d.far m 12 (O J x.ar.s)).far m 13 (O J x.ar.t)).far m 14 (O J x.ar.l)).far m 15 (O J x.ar.b)).far m 16 (O J x.ar.r))
 have aa:AtL (((((wd.setCell ⟨w.heap.size+1,12,kY⟩ (O J x.ar.s)).setCell ⟨w.heap.size+1,13,kY⟩ (O J x.ar.t)).setCell ⟨w.heap.size+1,14,kY⟩ (O J x.ar.l)).setCell ⟨w.heap.size+1,15,kY⟩ (O J x.ar.b)).setCell ⟨w.heap.size+1,16,kY⟩ (O J x.ar.r)) (w.heap.size+1) (QE ⟨9,0,0,v0I,c0I,x.ar,a0I⟩ QN):=(((((f.set 12 (O J x.ar.s)).set 13 (O J x.ar.t)).set 14 (O J x.ar.l)).set 15 (O J x.ar.b)).set 16 (O J x.ar.r))
 have i:bL w (((((wd.setCell ⟨w.heap.size+1,12,kY⟩ (O J x.ar.s)).setCell ⟨w.heap.size+1,13,kY⟩ (O J x.ar.t)).setCell ⟨w.heap.size+1,14,kY⟩ (O J x.ar.l)).setCell ⟨w.heap.size+1,15,kY⟩ (O J x.ar.b)).setCell ⟨w.heap.size+1,16,kY⟩ (O J x.ar.r)):=(clB g)
 clear d f g;generalize(((((wd.setCell ⟨w.heap.size+1,12,kY⟩ (O J x.ar.s)).setCell ⟨w.heap.size+1,13,kY⟩ (O J x.ar.t)).setCell ⟨w.heap.size+1,14,kY⟩ (O J x.ar.l)).setCell ⟨w.heap.size+1,15,kY⟩ (O J x.ar.b)).setCell ⟨w.heap.size+1,16,kY⟩ (O J x.ar.r))=aq at*;have d:=X;have f:=aa;have g:=i;clear X aa i;refine tkQ 6 ?_
 refine rdQ 7 (λK hK=>?_);have aA:=f.2.1 17 _ rfl;have aB:=f.2.1 18 _ rfl;have aC:=f.2.1 19 _ rfl;have aD:=f.2.1 20 _ rfl;have aE:=f.2.1 21 _ rfl;obtain⟨_,_,_,_,_,_,_,_,_,_,ab,ac,ad,ae,af,ag,ah,ai,aj,ak⟩:=j;go_simp
 refine hkQ hK ((JG (JG (JG (JG (JG (zCx d f) oM _ _) oM _ _) oM _ _) oM _ _) oM _ _)) (λj=>?_);clear hK K aA aB aC aD aE ab ac ad ae af ag ah ai aj ak
 have X:=(((((d.far m 17 (O J x.pr.s)).far m 18 (O J x.pr.t)).far m 19 (O J x.pr.l)).far m 20 (O J x.pr.b)).far m 21 (O J x.pr.r))
 have aa:=(((((f.set 17 (O J x.pr.s)).set 18 (O J x.pr.t)).set 19 (O J x.pr.l)).set 20 (O J x.pr.b)).set 21 (O J x.pr.r))
 have i:bL w (((((aq.setCell ⟨w.heap.size+1,17,kY⟩ (O J x.pr.s)).setCell ⟨w.heap.size+1,18,kY⟩ (O J x.pr.t)).setCell ⟨w.heap.size+1,19,kY⟩ (O J x.pr.l)).setCell ⟨w.heap.size+1,20,kY⟩ (O J x.pr.b)).setCell ⟨w.heap.size+1,21,kY⟩ (O J x.pr.r)):=(clB g)
 clear d f g;generalize(((((aq.setCell ⟨w.heap.size+1,17,kY⟩ (O J x.pr.s)).setCell ⟨w.heap.size+1,18,kY⟩ (O J x.pr.t)).setCell ⟨w.heap.size+1,19,kY⟩ (O J x.pr.l)).setCell ⟨w.heap.size+1,20,kY⟩ (O J x.pr.b)).setCell ⟨w.heap.size+1,21,kY⟩ (O J x.pr.r))=aI at*;have d:=X;have f:=aa;have g:=i;clear X aa i;refine wpAnyH_done kR ?_ _;clear j;have o:=d.2.1 12 _ rfl;have p:=d.2.1 13 _ rfl;have q:=d.2.1 14 _ rfl;have u:=d.2.1 15 _ rfl;have z:=d.2.1 16 _ rfl;have C:=d.2.1 17 _ rfl;have D:=d.2.1 18 _ rfl;have E:=d.2.1 19 _ rfl;have F:=d.2.1 20 _ rfl;have G:=d.2.1 21 _ rfl;go_wp2_with fail
 refine(CA _).mono ?_;rintro e aF ⟨rfl,H⟩;replace d:=AtL.below H d
 replace f:=AtL.below H f
 replace g:=QA g H
 clear H;clear o p q u z C D E F G;have o:=d.2.1 12 _ rfl;have p:=d.2.1 13 _ rfl;have q:=d.2.1 14 _ rfl;have u:=d.2.1 15 _ rfl;have z:=d.2.1 16 _ rfl;have C:=d.2.1 17 _ rfl;have D:=d.2.1 18 _ rfl;have E:=d.2.1 19 _ rfl;have F:=d.2.1 20 _ rfl;have G:=d.2.1 21 _ rfl;cases q1 with
 |false =>
  go_upto_region 33 with fail
  clear o p q u z C D E F G;have rA:=d.range;have rO:=f.range;have i:=g;clear d f g;go_wp2_with (first|((with_reducible refine ldQ 86 (mX 1) w.heap.size 0 (QE x tv) _ ?_ underlying86 ?_);exact rA)|((with_reducible refine ldQ 86 (mX 3) (w.heap.size+1) 0 (QE ⟨9,0,0,v0I,c0I,x.ar,x.pr⟩ QN) _ ?_ underlying86 ?_);exact rO)|(go_at_call 134;refine(CS _ i).mono ?_;rintro e w3 ⟨rfl,N⟩;have I:=QA i N))
  go_wp2;go_ret;first
  |exact⟨sM,i⟩
  |exact⟨sM,I⟩
 |true =>
  go_wp2_with fail
  refine(CB _).mono ?_;rintro e aG ⟨rfl,H⟩;replace d:=AtL.below H d
  replace f:=AtL.below H f
  replace g:=QA g H
  clear H;clear o p q u z C D E F G;have o:=d.2.1 12 _ rfl;have p:=d.2.1 13 _ rfl;have q:=d.2.1 14 _ rfl;have u:=d.2.1 15 _ rfl;have z:=d.2.1 16 _ rfl;have C:=d.2.1 17 _ rfl;have D:=d.2.1 18 _ rfl;have E:=d.2.1 19 _ rfl;have F:=d.2.1 20 _ rfl;have G:=d.2.1 21 _ rfl;cases q2 with
  |false =>
   go_upto_region 33 with fail
   clear o p q u z C D E F G;have rA:=d.range;have rO:=f.range;have i:=g;clear d f g;go_wp2_with (first|((with_reducible refine ldQ 86 (mX 1) w.heap.size 0 (QE x tv) _ ?_ underlying86 ?_);exact rA)|((with_reducible refine ldQ 86 (mX 3) (w.heap.size+1) 0 (QE ⟨9,0,0,v0I,c0I,x.ar,x.pr⟩ QN) _ ?_ underlying86 ?_);exact rO)|(go_at_call 134;refine(CS _ i).mono ?_;rintro e w3 ⟨rfl,N⟩;have I:=QA i N))
   go_wp2;go_ret;first
   |exact⟨sM,i⟩
   |exact⟨sM,I⟩
  |true =>
   go_wp2_with fail
   refine(CC _ (by first|trivial|rfl) (by first|trivial|rfl)).mono ?_;rintro e aH ⟨rfl,H⟩;replace d:=AtL.below H d
   replace f:=AtL.below H f
   replace g:=QA g H
   clear H;clear o p q u z C D E F G;have o:=d.2.1 12 _ rfl;have p:=d.2.1 13 _ rfl;have q:=d.2.1 14 _ rfl;have u:=d.2.1 15 _ rfl;have z:=d.2.1 16 _ rfl;have C:=d.2.1 17 _ rfl;have D:=d.2.1 18 _ rfl;have E:=d.2.1 19 _ rfl;have F:=d.2.1 20 _ rfl;have G:=d.2.1 21 _ rfl;go_upto_region 33 with fail
   clear o p q u z C D E F G;cases q3
   all_goals
    have rA:=d.range;have rO:=f.range;have i:=g;clear d f g;go_wp2_with (first|((with_reducible refine ldQ 86 (mX 1) w.heap.size 0 (QE x tv) _ ?_ underlying86 ?_);exact rA)|((with_reducible refine ldQ 86 (mX 3) (w.heap.size+1) 0 (QE ⟨9,0,0,v0I,c0I,x.ar,x.pr⟩ QN) _ ?_ underlying86 ?_);exact rO)|(go_at_call 134;refine(CS _ i).mono ?_;rintro e w3 ⟨rfl,N⟩;have I:=QA i N))
    go_wp2;go_ret;first
    |exact⟨sM,i⟩
    |exact⟨sM,I⟩
abbrev zKW(ka kb:Nat)(x:Wc.In)(tv:vW)(W:wW):Prop :=
 W.cell? ⟨ka,2,kY⟩=lY (O J x.b)/\W.cell? ⟨ka,12,kY⟩=lY (O J x.ar.s)/\W.cell? ⟨ka,13,kY⟩=lY (O J x.ar.t)/\W.cell? ⟨ka,14,kY⟩=lY (O J x.ar.l)/\W.cell? ⟨ka,15,kY⟩=lY (O J x.ar.b)/\W.cell? ⟨ka,16,kY⟩=lY (O J x.ar.r)/\W.frozen? ⟨kb,2,kY⟩=nY/\W.frozen? ⟨kb,12,kY⟩=nY/\W.frozen? ⟨kb,13,kY⟩=nY/\W.frozen? ⟨kb,14,kY⟩=nY/\W.frozen? ⟨kb,15,kY⟩=nY/\W.frozen? ⟨kb,16,kY⟩=nY
theorem zAl(c:AtL W ka (QE x tv))(d:AtL W kb (QE y tu)):zKW ka kb x tv W :=
 ⟨c.2.1 2 _ rfl,c.2.1 12 _ rfl,c.2.1 13 _ rfl,c.2.1 14 _ rfl,c.2.1 15 _ rfl,c.2.1 16 _ rfl,d.2.2 2 (by show 2<23;decide),d.2.2 12 (by show 12<23;decide),d.2.2 13 (by show 13<23;decide),d.2.2 14 (by show 14<23;decide),d.2.2 15 (by show 15<23;decide),d.2.2 16 (by show 16<23;decide)⟩
theorem zAS(h:zKW ka kb x tv W)(c:kb≠ka)(j:Nat)(u:vW):zKW ka kb x tv (W.setCell ⟨kb,j,kY⟩ u):=by
 obtain⟨s,l,m,o,p,q,r,d,e,f,g,i⟩:=h;refine⟨?_,?_,?_,?_,?_,?_,?_,?_,?_,?_,?_,?_⟩;any_goals rw[dZ _ _ _ _ (by simpa using c)];assumption
 all_goals rw[bZ];assumption
theorem zJy(x:Wc.In)(av:Option dW)(n c:Nat)(tl:List Int)(w:wW)(hk:x.op=11)(hz:RdZ w (U av n c) tl)(hl:tl.length<=1000000) :
  CR 99 #[inV x (U av n c)] w (Y ((Wpl.rightA x.ar.s x.ar.t x.ar.l x.ar.b x.ar.r&&(x.b == 1||x.b == 2))&&(smI x ⟨11,0,x.b,v0I,c0I,x.ar,a0I⟩&&oY (tl=[])))):=by
 have CS:∀w',bL w w'->CR 134 #[gX (QE x (U av n c)).toArray,gX (QE ⟨11,0,x.b,v0I,c0I,x.ar,a0I⟩ QN).toArray] w' (Y (smI x ⟨11,0,x.b,v0I,c0I,x.ar,a0I⟩&&oY (tl=[]))):=λw' I=>Q5 x ⟨11,0,x.b,v0I,c0I,x.ar,a0I⟩ _ _ tl [] w' (hz.below I) (RdZ.nil _) hl (by first|exact hl|simp)
 generalize(smI x ⟨11,0,x.b,v0I,c0I,x.ar,a0I⟩&&oY (tl=[]))=R at*;have CA:=(λw=>zAG x.ar.s x.ar.t x.ar.l x.ar.b x.ar.r w:∀w:wW,CR 132 #[gX #[O J x.ar.s,O J x.ar.t,O J x.ar.l,O J x.ar.b,O J x.ar.r]] w (Y (Wpl.rightA x.ar.s x.ar.t x.ar.l x.ar.b x.ar.r)))
 generalize Wpl.rightA x.ar.s x.ar.t x.ar.l x.ar.b x.ar.r=q1 at*;obtain⟨tv,ab⟩:=xV (U av n c)
 rw[ab]at CS ⊢;have ac:AtL (Q6 w x tv) w.heap.size (QE x tv):=(AtL.new0 w _ _).alloc _;have H:AtL (Q6 w x tv) (w.heap.size+1) (QE (QK 0) QN):=AtL.new1 w _ _ _;have aa:cZ (Q6 w x tv) (w.heap.size+1) 0 (QE (QK 11) QN).toArray.size:=H.there;have o:w.heap.size+1≠w.heap.size:=oM;have pA:=ac.farAll o 0 (QE (QK 11) QN);have pO:AtL ((Q6 w x tv).setCells (w.heap.size+1) 0 (QE (QK 11) QN)) (w.heap.size+1) (QE (QK 11) QN):=H.setAll rfl;have N:bL w ((Q6 w x tv).setCells (w.heap.size+1) 0 (QE (QK 11) QN)):=Ql (QI (QI (aZ _ w) _) _) (eZ _) _ 0;clear ac H;have n0:(QE x tv)[0]?=lY (O J 11):=by rw[<-hk];rfl
 have a0:jY ((Q6 w x tv).setCells (w.heap.size+1) 0 (QE (QK 11) QN)) ⟨w.heap.size,0,kY⟩=lY (O J 11):=pA.2.1 0 _ n0;show cW _ _ #[gX (QE x tv).toArray] _ _
 have hS:zKW w.heap.size (w.heap.size+1) x tv ((Q6 w x tv).setCells (w.heap.size+1) 0 (QE (QK 11) QN)):=zAl pA pO;clear hz hl ab;cases q1
 rotate_left
 by_cases b1:x.b=1
 have X:(mY&&(x.b == 1||x.b == 2))=mY:=by simp[b1]
 have ae:(x.b == 1)=mY:=by simp[b1]
 rw[X];clear b1;rotate_left
 have ae:(x.b == 1)=nY:=by simp[b1]
 by_cases b2:x.b=2
 have X:(mY&&(x.b == 1||x.b == 2))=mY:=by simp[b2]
 have af:(x.b == 2)=mY:=by simp[b2]
 rw[X];clear b2;rotate_left
 have X:(mY&&(x.b == 1||x.b == 2))=nY:=by simp[b1,b2]
 have af:(x.b == 2)=nY:=by simp[b2]
 rw[X];rotate_left
 all_goals
  go_enter func99,ntmps99;go_upto_region 1 with fail
  go_upto_region 2 with((with_reducible refine stQ 86 (mX 3) (mX 7) (w.heap.size+1) 0 (QE (QK 11) QN).toArray ?_ ?_ ?_);exact aa;exact JN _ _ _ _)
  generalize(Q6 w x tv).setCells (w.heap.size+1) 0 (QE (QK 11) QN)=W0 at*;clear aa;go_upto_region 25 with fail
  have i:=AtL.drew pA;have d:=AtL.drew pO;have j:=N.drew;clear pA pO N hS;refine wp_region_held_drew (S:=zKW w.heap.size (w.heap.size+1) x tv) kR (zAl i d) (λf=>?_);generalize W0.drew=wd at*;refine tkQ 0 ?_
  refine tkQ 1 ?_
  refine tkQ 2 ?_
  refine tkQ 3 ?_
  refine tkQ 4 ?_
  refine tkQ 5 ?_
  refine tkQ 17 ?_
  refine rdQ 6 (λK p=>?_);go_simp
  refine(CA _).mono ?_;rintro e z ⟨rfl,I⟩;replace i:=AtL.below I i
  replace d:=AtL.below I d
  replace j:=QA j I
  clear I;go_wp2_with fail
  refine hkQ p (zAl i d) (λf=>?_);clear p K
  refine tkQ 7 ?_
  first
  |(refine tkH 8 undef rfl (gZ ⟨by rfl,rfl⟩) ?_)
  |(
    refine tkH 8 ?_ rfl (fZ ⟨by rfl,?_⟩) ?_;rotate_left
    ·intro w g
     (try dsimp only at g)
     go_simp
     try with_reducible rfl)
  try simp only[Act.put,lA,lZ,lS]
  first
  |(refine tkH 9 undef rfl (gZ ⟨by rfl,rfl⟩) ?_)
  |(
    refine tkH 9 ?_ rfl (fZ ⟨by rfl,?_⟩) ?_;rotate_left
    ·intro w g
     (try dsimp only at g)
     go_simp
     try with_reducible rfl)
  try simp only[Act.put,lA,lZ,lS]
  first
  |(refine tkH 10 undef rfl (gZ ⟨by rfl,rfl⟩) ?_)
  |(
    refine tkH 10 ?_ rfl (fZ ⟨by rfl,?_⟩) ?_;rotate_left
    ·intro w g
     (try dsimp only at g)
     go_simp
     try with_reducible rfl)
  try simp only[Act.put,lA,lZ,lS]
  first
  |(refine tkH 11 undef rfl (gZ ⟨by rfl,rfl⟩) ?_)
  |(
    refine tkH 11 ?_ rfl (fZ ⟨by rfl,?_⟩) ?_;rotate_left
    ·intro w g
     (try dsimp only at g)
     go_simp
     try with_reducible rfl)
  try simp only[Act.put,lA,lZ,lS]
  first
  |(refine tkH 12 undef rfl (gZ ⟨by rfl,rfl⟩) ?_)
  |(
    refine tkH 12 ?_ rfl (fZ ⟨by rfl,?_⟩) ?_;rotate_left
    ·intro w g
     (try dsimp only at g)
     go_simp
     try with_reducible rfl)
  try simp only[Act.put,lA,lZ,lS]
  first
  |(refine tkH 13 undef rfl (gZ ⟨by rfl,rfl⟩) ?_)
  |(
    refine tkH 13 ?_ rfl (fZ ⟨by rfl,?_⟩) ?_;rotate_left
    ·intro w g
     (try dsimp only at g)
     go_simp
     try with_reducible rfl)
  try simp only[Act.put,lA,lZ,lS]
  first
  |(refine tkH 14 undef rfl (gZ ⟨by rfl,rfl⟩) ?_)
  |(
    refine tkH 14 ?_ rfl (fZ ⟨by rfl,?_⟩) ?_;rotate_left
    ·intro w g
     (try dsimp only at g)
     go_simp
     try with_reducible rfl)
  try simp only[Act.put,lA,lZ,lS]
  first
  |(refine tkH 15 undef rfl (gZ ⟨by rfl,rfl⟩) ?_)
  |(
    refine tkH 15 ?_ rfl (fZ ⟨by rfl,?_⟩) ?_;rotate_left
    ·intro w g
     (try dsimp only at g)
     go_simp
     try with_reducible rfl)
  try simp only[Act.put,lA,lZ,lS]
  refine tkQ 16 ?_
  refine rdQ 18 (λK p=>?_);have ai:=d.2.1 12 _ rfl;have aj:=d.2.1 13 _ rfl;have ak:=d.2.1 14 _ rfl;have al:=d.2.1 15 _ rfl;have am:=d.2.1 16 _ rfl;obtain⟨_,_,_,_,_,_,g2,C,D,E,F,G⟩:=f;go_simp
  refine hkQ p ((zAS (zAS (zAS (zAS (zAS (zAl i d) oM _ _) oM _ _) oM _ _) oM _ _) oM _ _)) (λf=>?_);clear p K ai aj ak al am g2 C D E F G
  have q:AtL (((((z.setCell ⟨w.heap.size+1,12,kY⟩ (O J x.ar.s)).setCell ⟨w.heap.size+1,13,kY⟩ (O J x.ar.t)).setCell ⟨w.heap.size+1,14,kY⟩ (O J x.ar.l)).setCell ⟨w.heap.size+1,15,kY⟩ (O J x.ar.b)).setCell ⟨w.heap.size+1,16,kY⟩ (O J x.ar.r)) w.heap.size (QE x tv):=(((((i.far o 12 (O J x.ar.s)).far o 13 (O J x.ar.t)).far o 14 (O J x.ar.l)).far o 15 (O J x.ar.b)).far o 16 (O J x.ar.r))
  have u:AtL (((((z.setCell ⟨w.heap.size+1,12,kY⟩ (O J x.ar.s)).setCell ⟨w.heap.size+1,13,kY⟩ (O J x.ar.t)).setCell ⟨w.heap.size+1,14,kY⟩ (O J x.ar.l)).setCell ⟨w.heap.size+1,15,kY⟩ (O J x.ar.b)).setCell ⟨w.heap.size+1,16,kY⟩ (O J x.ar.r)) (w.heap.size+1) (QE ⟨11,0,0,v0I,c0I,x.ar,a0I⟩ QN):=(((((d.set 12 (O J x.ar.s)).set 13 (O J x.ar.t)).set 14 (O J x.ar.l)).set 15 (O J x.ar.b)).set 16 (O J x.ar.r))
  have m:bL w (((((z.setCell ⟨w.heap.size+1,12,kY⟩ (O J x.ar.s)).setCell ⟨w.heap.size+1,13,kY⟩ (O J x.ar.t)).setCell ⟨w.heap.size+1,14,kY⟩ (O J x.ar.l)).setCell ⟨w.heap.size+1,15,kY⟩ (O J x.ar.b)).setCell ⟨w.heap.size+1,16,kY⟩ (O J x.ar.r)):=(clB j)
  clear i d j;generalize(((((z.setCell ⟨w.heap.size+1,12,kY⟩ (O J x.ar.s)).setCell ⟨w.heap.size+1,13,kY⟩ (O J x.ar.t)).setCell ⟨w.heap.size+1,14,kY⟩ (O J x.ar.l)).setCell ⟨w.heap.size+1,15,kY⟩ (O J x.ar.b)).setCell ⟨w.heap.size+1,16,kY⟩ (O J x.ar.r))=ad at*;have i:=q;have d:=u;have j:=m;clear q u m;refine tkQ 19 ?_
  refine rdQ 20 (λK p=>?_);have o2:=d.2.1 2 _ rfl;obtain⟨_,_,_,_,_,_,g2,C,D,E,F,G⟩:=f;go_simp
  refine hkQ p ((zAS (zAl i d) oM _ _)) (λf=>?_);clear p K o2 g2 C D E F G
  have q:=(i.far o 2 (O J x.b))
  have u:=(d.set 2 (O J x.b))
  have m:bL w (ad.setCell ⟨w.heap.size+1,2,kY⟩ (O J x.b)):=(clB j)
  clear i d j;generalize(ad.setCell ⟨w.heap.size+1,2,kY⟩ (O J x.b))=an at*;have i:=q;have d:=u;have j:=m;clear q u m;refine rdQ 21 (λK p=>?_);go_simp
  refine hkQ p (by assumption) (λf=>?_);clear p K
  refine wpAnyH_done kR ?_ _;clear f;have rA:=i.range;have rO:=d.range;have m:=j;clear i d j;go_wp2_with (first|((with_reducible refine ldQ 86 (mX 1) w.heap.size 0 (QE x tv) _ ?_ underlying86 ?_);exact rA)|((with_reducible refine ldQ 86 (mX 3) (w.heap.size+1) 0 (QE ⟨11,0,x.b,v0I,c0I,x.ar,a0I⟩ QN) _ ?_ underlying86 ?_);exact rO)|(go_at_call 134;refine(CS _ m).mono ?_;rintro e w3 ⟨rfl,ah⟩;have ag:=QA m ah))
  go_wp2;go_ret;first
  |exact⟨sM,m⟩
  |exact⟨sM,ag⟩
def rgt(x:Wc.In)(tl:List Int):Bool :=
 if x.op=1 then Wv.right x.v.k x.v.n x.v.d x.v.t x.v.b x.v.f&&(smI x ⟨1,0,0,x.v,c0I,a0I,a0I⟩&&oY (tl=[]))
 else if x.op=2 then Wpl.rightC x.ce.s x.ce.r x.ce.c&&(smI x ⟨2,0,0,v0I,x.ce,a0I,a0I⟩&&oY (tl=[]))
 else if x.op=3 then(oY (1<=x.a)&&oY (x.a<=3))&&(smI x ⟨3,x.a,0,v0I,c0I,a0I,a0I⟩&&oY (tl=[]))
 else if x.op=4 then Wt.isBin x.a&&(smI x ⟨4,x.a,0,v0I,c0I,a0I,a0I⟩&&oY (tl=[]))
 else if x.op=5 then apl x.a x.b&&(smI x ⟨5,x.a,x.b,v0I,c0I,a0I,a0I⟩&&oY (tl=[]))
 else if x.op=6 then fld x.a&&(smI x ⟨6,x.a,0,v0I,c0I,a0I,a0I⟩&&oY (tl=[]))
 else if x.op=7 then mY&&(smI x ⟨7,0,0,v0I,c0I,a0I,a0I⟩&&oY (tl=[]))
 else if x.op=8 then Wpl.rightA x.ar.s x.ar.t x.ar.l x.ar.b x.ar.r&&(smI x ⟨8,0,0,v0I,c0I,x.ar,a0I⟩&&oY (tl=[]))
 else if x.op=9 then((Wpl.rightA x.ar.s x.ar.t x.ar.l x.ar.b x.ar.r&&Wpl.rightA x.pr.s x.pr.t x.pr.l x.pr.b x.pr.r)&&shp x.ar x.pr)&&(smI x ⟨9,0,0,v0I,c0I,x.ar,x.pr⟩&&oY (tl=[]))
 else if x.op=10 then mY&&(smI x ⟨10,0,0,v0I,c0I,a0I,a0I⟩&&oY (tl=[]))
 else if x.op=11 then(Wpl.rightA x.ar.s x.ar.t x.ar.l x.ar.b x.ar.r&&(x.b == 1||x.b == 2))&&(smI x ⟨11,0,x.b,v0I,c0I,x.ar,a0I⟩&&oY (tl=[]))
 else if x.op=12 then mY&&(smI x ⟨12,x.a,x.b,v0I,c0I,a0I,a0I⟩&&oY (tl=[]))
 else if x.op=13 then mY&&(smI x ⟨13,x.a,0,v0I,c0I,a0I,a0I⟩&&oY (tl=[]))
 else if x.op=14 then mY&&(smI x ⟨14,x.a,0,v0I,c0I,a0I,a0I⟩&&oY (tl=[]))
 else if x.op=15 then(oY (1<=(tl.length:Int))&&oY ((tl.length:Int)<=30))&&(smI x ⟨15,0,x.b,v0I,c0I,a0I,a0I⟩&&oY (tl=tl))
 else if x.op=16 then mY&&(smI x ⟨16,0,0,v0I,c0I,a0I,a0I⟩&&oY (tl=[]))
 else nY
theorem zR3(h:x.op=1):rgt x tl=(Wv.right x.v.k x.v.n x.v.d x.v.t x.v.b x.v.f&&(smI x ⟨1,0,0,x.v,c0I,a0I,a0I⟩&&oY (tl=[]))):=by
 unfold rgt;rw[if_pos h]
theorem zRH(h:x.op=2):rgt x tl=(Wpl.rightC x.ce.s x.ce.r x.ce.c&&(smI x ⟨2,0,0,v0I,x.ce,a0I,a0I⟩&&oY (tl=[]))):=by
 unfold rgt;rw[if_neg oM,if_pos h]
theorem zRm(h:x.op=3):rgt x tl=((oY (1<=x.a)&&oY (x.a<=3))&&(smI x ⟨3,x.a,0,v0I,c0I,a0I,a0I⟩&&oY (tl=[]))):=by
 unfold rgt;rw[if_neg oM,if_neg oM,if_pos h]
theorem zRE(h:x.op=4):rgt x tl=(Wt.isBin x.a&&(smI x ⟨4,x.a,0,v0I,c0I,a0I,a0I⟩&&oY (tl=[]))):=by
 unfold rgt;rw[if_neg oM,if_neg oM,if_neg oM,if_pos h]
theorem zPl(h:x.op=5):rgt x tl=(apl x.a x.b&&(smI x ⟨5,x.a,x.b,v0I,c0I,a0I,a0I⟩&&oY (tl=[]))):=by
 unfold rgt;rw[if_neg oM,if_neg oM,if_neg oM,if_neg oM,if_pos h]
theorem zRp(h:x.op=6):rgt x tl=(fld x.a&&(smI x ⟨6,x.a,0,v0I,c0I,a0I,a0I⟩&&oY (tl=[]))):=by
 unfold rgt;rw[if_neg oM,if_neg oM,if_neg oM,if_neg oM,if_neg oM,if_pos h]
theorem zRj(h:x.op=7):rgt x tl=(mY&&(smI x ⟨7,0,0,v0I,c0I,a0I,a0I⟩&&oY (tl=[]))):=by
 unfold rgt;rw[if_neg oM,if_neg oM,if_neg oM,if_neg oM,if_neg oM,if_neg oM,if_pos h]
theorem zRn(h:x.op=8):rgt x tl=(Wpl.rightA x.ar.s x.ar.t x.ar.l x.ar.b x.ar.r&&(smI x ⟨8,0,0,v0I,c0I,x.ar,a0I⟩&&oY (tl=[]))):=by
 unfold rgt;rw[if_neg oM,if_neg oM,if_neg oM,if_neg oM,if_neg oM,if_neg oM,if_neg oM,if_pos h]
theorem zRL(h:x.op=9):rgt x tl=(((Wpl.rightA x.ar.s x.ar.t x.ar.l x.ar.b x.ar.r&&Wpl.rightA x.pr.s x.pr.t x.pr.l x.pr.b x.pr.r)&&shp x.ar x.pr)&&(smI x ⟨9,0,0,v0I,c0I,x.ar,x.pr⟩&&oY (tl=[]))):=by
 unfold rgt;rw[if_neg oM,if_neg oM,if_neg oM,if_neg oM,if_neg oM,if_neg oM,if_neg oM,if_neg oM,if_pos h]
theorem zPz(h:x.op=10):rgt x tl=(mY&&(smI x ⟨10,0,0,v0I,c0I,a0I,a0I⟩&&oY (tl=[]))):=by
 unfold rgt;rw[if_neg oM,if_neg oM,if_neg oM,if_neg oM,if_neg oM,if_neg oM,if_neg oM,if_neg oM,if_neg oM,if_pos h]
theorem zNS(h:x.op=11):rgt x tl=((Wpl.rightA x.ar.s x.ar.t x.ar.l x.ar.b x.ar.r&&(x.b == 1||x.b == 2))&&(smI x ⟨11,0,x.b,v0I,c0I,x.ar,a0I⟩&&oY (tl=[]))):=by
 unfold rgt;rw[if_neg oM,if_neg oM,if_neg oM,if_neg oM,if_neg oM,if_neg oM,if_neg oM,if_neg oM,if_neg oM,if_neg oM,if_pos h]
theorem zPo(h:x.op=12):rgt x tl=(mY&&(smI x ⟨12,x.a,x.b,v0I,c0I,a0I,a0I⟩&&oY (tl=[]))):=by
 unfold rgt;rw[if_neg oM,if_neg oM,if_neg oM,if_neg oM,if_neg oM,if_neg oM,if_neg oM,if_neg oM,if_neg oM,if_neg oM,if_neg oM,if_pos h]
theorem zQ4(h:x.op=13):rgt x tl=(mY&&(smI x ⟨13,x.a,0,v0I,c0I,a0I,a0I⟩&&oY (tl=[]))):=by
 unfold rgt;rw[if_neg oM,if_neg oM,if_neg oM,if_neg oM,if_neg oM,if_neg oM,if_neg oM,if_neg oM,if_neg oM,if_neg oM,if_neg oM,if_neg oM,if_pos h]
theorem zPW(h:x.op=14):rgt x tl=(mY&&(smI x ⟨14,x.a,0,v0I,c0I,a0I,a0I⟩&&oY (tl=[]))):=by
 unfold rgt;rw[if_neg oM,if_neg oM,if_neg oM,if_neg oM,if_neg oM,if_neg oM,if_neg oM,if_neg oM,if_neg oM,if_neg oM,if_neg oM,if_neg oM,if_neg oM,if_pos h]
theorem zPT(h:x.op=15):rgt x tl=((oY (1<=(tl.length:Int))&&oY ((tl.length:Int)<=30))&&(smI x ⟨15,0,x.b,v0I,c0I,a0I,a0I⟩&&oY (tl=tl))):=by
 unfold rgt;rw[if_neg oM,if_neg oM,if_neg oM,if_neg oM,if_neg oM,if_neg oM,if_neg oM,if_neg oM,if_neg oM,if_neg oM,if_neg oM,if_neg oM,if_neg oM,if_neg oM,if_pos h]
theorem zQJ(h:x.op=16):rgt x tl=(mY&&(smI x ⟨16,0,0,v0I,c0I,a0I,a0I⟩&&oY (tl=[]))):=by
 unfold rgt;rw[if_neg oM,if_neg oM,if_neg oM,if_neg oM,if_neg oM,if_neg oM,if_neg oM,if_neg oM,if_neg oM,if_neg oM,if_neg oM,if_neg oM,if_neg oM,if_neg oM,if_neg oM,if_pos h]
theorem zRd(h:x.op<1\/16<x.op):rgt x tl=nY:=by
 unfold rgt;rw[if_neg oM,if_neg oM,if_neg oM,if_neg oM,if_neg oM,if_neg oM,if_neg oM,if_neg oM,if_neg oM,if_neg oM,if_neg oM,if_neg oM,if_neg oM,if_neg oM,if_neg oM,if_neg oM]
theorem zG1(x:Wc.In)(d:Option dW)(n c:Nat)(tl:List Int)(w:wW)(g:RdZ w (U d n c) tl)(f:tl.length<=1000000)(i:Wt.FitV x.v)(j:NmAt w) :
  CR 99 #[inV x (U d n c)] w (Y (rgt x tl)):=by
 rcases zQa x.op with h|h|h|h|h|h|h|h|h|h|h|h|h|h|h|h|h
 ·rw[zR3 h];exact zLJ x d n c tl w h g f i.1.1 i.1.2 i.2.1.1 i.2.1.2 i.2.2
 ·rw[zRH h];exact zMa x d n c tl w h g f
 ·rw[zRm h];exact zKs x d n c tl w h g f
 ·rw[zRE h];exact zLX x d n c tl w h g f
 ·rw[zPl h];exact zLR x d n c tl w h g f j
 ·rw[zRp h];exact zMj x d n c tl w h g f
 ·rw[zRj h];exact zLx x d n c tl w h g f
 ·rw[zRn h];exact zL0 x d n c tl w h g f
 ·rw[zRL h];exact zMk x d n c tl w h g f
 ·rw[zPz h];exact zIe x d n c tl w h g f
 ·rw[zNS h];exact zJy x d n c tl w h g f
 ·rw[zPo h];exact zKT x d n c tl w h g f
 ·rw[zQ4 h];exact zKQ x d n c tl w h g f
 ·rw[zPW h];exact zHQ x d n c tl w h g f
 ·rw[zPT h];exact zJa x d n c tl w h g f
 ·rw[zQJ h];exact zIJ x d n c tl w h g f
 ·rw[zRd h];refine(zK4 x d n c tl w g f h).mono ?_;rintro e w' ⟨rfl,l⟩;exact⟨by rw[Bool.false_and],l⟩
abbrev zeros23:Array vW:=#[O J 0,O J 0,O J 0,O J 0,O J 0,O J 0,V ⟨#[]⟩,Y nY,O J 0,O J 0,O J 0,O J 0,O J 0,O J 0,O J 0,O J 0,O J 0,O J 0,O J 0,O J 0,O J 0,O J 0,U kY 0 0]
abbrev pl1(wr:wW)(i:Nat):wW:=(wr.alloc (Z #[O J i] 3)).alloc (Z zeros23 86)
theorem zEn{o a b at':Int}(h:tl.length<=1000000):(onw o a b tl at').1.length<=1000000/\(onw o a b tl at').2.length<=1000000:=by
 unfold onw;repeat' split
 all_goals simp
 exact h
theorem zHx(n i:Nat)(x:Wc.In×List Int)(r:List (Wc.In×List Int)):Wc.plcs rgt n i (x::r)=(Wc.plc rgt n i x&&Wc.plcs rgt n (i+1) r):=rfl
theorem Ji(n i:Nat)(y:Wc.In)(tl:List Int):Wc.plc rgt n i (y,tl)=(rgt y tl&&(((y.op == 16) == (i+1 == n))&&(!(onw y.op y.a y.b tl i).1.any (VQ i n) && !(onw y.op y.a y.b tl i).2.any (VQ i n)))):=rfl
def zIU(x:Wc.In×List Int):Prop:=V3 x.1/\∀(d:Option dW)(n c:Nat)(w:wW),RdZ w (U d n c) x.2->x.2.length<=1000000->Wt.FitV x.1.v->NmAt w->CR 99 #[inV x.1 (U d n c)] w (Y (rgt x.1 x.2))
theorem zNo(x:Wc.In×List Int):zIU x:=⟨zOz _,λd n c w i g f e=>zG1 x.1 d n c x.2 w i g f e⟩
theorem zGh(L:List (Wc.In×List Int))(v:vW)(w:wW)(h:RdC w v L)(hl:L.length<=1000000)(ht:∀x∈L,x.2.length<=1000000/\Wt.FitV x.1.v)(hN:NmAt w)(ak:∀x∈L,zIU x) :
  CR 72 #[v] w (Y (Wc.plcs rgt L.length 0 L&&oY (0<L.length))):=by
 obtain⟨a1,c1,rfl,r1⟩:=h;have HR:hH (RdC w (U a1 L.length c1) L):=⟨a1,c1,rfl,r1⟩
 have HT:=hid ht;have HN:=hid hN;have ar:=hid ak;clear ak;obtain⟨n,hn⟩:=xV L.length
 have HL:=hid hn;rw[hn]at hl ⊢;obtain⟨q,hq⟩:=xV (Wc.plcs rgt n 0 L)
 have HQ:=hid hq;rw[hq];have pB:=AtL.new0 w 54 [U a1 n c1];have al:=QI (aZ _ w) (Z #[U a1 n c1] 54);have am:(w.alloc (Z #[U a1 n c1] 54)).cell? ⟨w.heap.size,0,kY⟩=lY (U a1 n c1):=pB.2.1 0 _ rfl;clear r1 ht hN hn hq pB;go_enter func72,ntmps72;go_upto_region 1 with fail
 generalize(w.alloc (Z #[U a1 n c1] 54))=w0 at*;go_wp2_with fail
 go_loopg [10] n (λgk x wr=>∃i:Nat,x=O J i/\gk=n-i/\i<=n/\hH (Wc.plcs rgt n i (L.drop i)=q)/\wr.cell? ⟨w.heap.size,0,kY⟩=lY (U a1 n c1)/\bL w wr)
 case atStart=>exact⟨0,rfl,rfl,bY _,HQ,am,al⟩
 case round =>
  clear am al HQ;obtain⟨i,rfl,hg,hi,HP,hc,hb⟩:=hrel;by_cases ai:i<n
  ·have aA:(i:Int)<(n:Int):=oM;have aE:J.wrap ((i:Int)+1)=(i:Int)+1:=by rw[nZ];omega
   have aF:J.wrap ((n:Int)-1)=(n:Int)-1:=by rw[nZ];omega
   have ah:i<L.length:=by rw[HL.out];exact ai
   have H0:=HR.out.below hb;rw[HL.out]at H0;obtain⟨q1,d1,e1,f1⟩:=H0;simp only[U.injEq]at e1;obtain⟨av,aw,ax⟩:=e1;subst av;subst ax;clear aw;obtain⟨bb,aB,p,m,k,rfl,t1,y1,_⟩:=f1 i ah;obtain⟨y,tl,af⟩:∃y tl,L[i]=(y,tl):=⟨_,_,rfl⟩
   have au:hH (zIU (y,tl)):=by have:=ar.out (L[i]) (kZ _);rw[af]at this;exact this
   obtain⟨N,I⟩:=HT.out L[i] (kZ _);have j:hH ((Wc.plc rgt n i (y,tl)&&Wc.plcs rgt n (i+1) (L.drop (i+1)))=q):=by
    show _=q
    rw[<-HP.out,qZ ah,af,zHx]
   rw[af]at t1 y1 N I;have ad:AtL (pl1 wr i) (wr.heap.size+1) zeros23.toList:=AtL.new1 wr _ _ _;have aq:cZ (pl1 wr i) (wr.heap.size+1) 0 (QE y (U p m k)).toArray.size:=ad.there;have HB:=hid hb;have HC:=hid hc;have HY:=hid y1;have HF:=hid I;clear ad f1 af HP ah hc hb y1 I;go_upto_region 4 with(first|(refine ldQ 86 (mX 13) bb (aB+i*23) (QE y (U p m k)) _ t1 underlying86 ?_)|((with_reducible refine stQ 86 (mX 4) (mX 14) (wr.heap.size+1) 0 (QE y (U p m k)).toArray ?_ ?_ ?_);exact aq;exact JN _ _ _ _))
   have hb:=HB.out;have hc:=HC.out;have y1:=HY.out;have I:=HF.out;have ad:AtL (pl1 wr i) (wr.heap.size+1) zeros23.toList:=AtL.new1 wr _ _ _;have pC:AtL ((pl1 wr i).setCells (wr.heap.size+1) 0 (QE y (U p m k))) wr.heap.size [O J i]:=((AtL.new0 wr _ [O J i]).alloc _).farAll oM 0 _;have pI:AtL ((pl1 wr i).setCells (wr.heap.size+1) 0 (QE y (U p m k))) (wr.heap.size+1) (QE y (U p m k)):=ad.setAll rfl;have ac:bL wr ((pl1 wr i).setCells (wr.heap.size+1) 0 (QE y (U p m k))):=Ql (QI (QI (aZ _ wr) _) _) (eZ _) _ 0;have aj:=hid ((HN.out.below hb).below ac);have zW:=y1.below ac;have g:=QB ac hc;have d:=QA hb ac;clear ad hc hb ac y1 HB HC HY HF;generalize(pl1 wr i).setCells (wr.heap.size+1) 0 (QE y (U p m k))=W at*;have rI:=pI.range;clear aq t1;go_wp2_with (first|(refine ldQ 86 (mX 4) (wr.heap.size+1) 0 (QE y (U p m k)) _ rI underlying86 ?_))
   refine(au.out.2 p m k W zW N I aj.out).mono ?_;rintro e w1 ⟨rfl,H⟩;replace pI:=AtL.below H pI
   replace pC:=AtL.below H pC
   replace zW:=zW.below H
   replace g:=QB H g
   replace d:=QA d H
   clear rI H I aj;have rI:=pI.range;have i0:=pI.2.1 0 _ rfl;have R:=pC.2.1 0 _ rfl;obtain⟨r,hr⟩:=xV (rgt y tl)
   have l:=hid hr;rw[hr];clear hr pI pC;cases r with
   |false =>
    go_wp2;go_ret;exact⟨by rw[<-j.out,Ji,l.out];rfl,d⟩
   |true =>
    by_cases ab:y.op=16
    ·by_cases az:(n:Int)-1=(i:Int)
     ·have S:hH (((y.op == 16) == (i+1 == n))=mY):=by show _=_;rw[show(y.op == 16)=mY from by simp[ab],show(i+1 == n)=mY from by simp;omega];rfl
      have OW:=zA2 y p m k tl i;have z:=zEn (o:=y.op) (a:=y.a) (b:=y.b) (at':=i) N;have HO:hH (∃u,onw y.op y.a y.b tl i=u):=⟨_,rfl⟩
      obtain⟨u,hu⟩:=HO.out;have HU:=hid hu;rw[hu]at z;have D:=OW w1 oM zW;rw[hu]at D;obtain⟨u1,u2⟩:=u;simp only at z;have X:=hid z;clear OW HO hu zW N z;go_wp2_with (first|(refine ldQ 86 (mX 4) (wr.heap.size+1) 0 (QE y (U p m k)) _ rI underlying86 ?_))
      refine D.mono ?_;rintro e w2 ⟨⟨c,c2,rfl,z1,z2,_,_⟩,t⟩;have Z2:=hid z2;replace R:=QB t R
      replace g:=QB t g
      replace d:=QA d t
      clear rI i0 t D;clear z2;have CA:=zAI u1 c i wr.heap.size w.heap.size _ n _ w2 z1 X.out.1 R g;clear z1;go_wp2_with fail
      refine CA.mono ?_;rintro e w3 ⟨rfl,f⟩;replace R:=QB f R
      replace g:=QB f g
      have z2:=Z2.out.below f;clear Z2;replace d:=QA d f
      clear CA f;obtain⟨s1,F⟩:∃s,u1.any (VQ i n)=s:=⟨_,rfl⟩
      have C:=hid F;rw[F];clear F;cases s1 with
      |true =>
       go_wp2;go_ret;exact⟨by rw[<-j.out,Ji,l.out,S.out,HU.out,C.out];rfl,d⟩
      |false =>
       have CB:=zAI u2 c2 i wr.heap.size w.heap.size _ n _ w3 z2 X.out.2 R g;clear z2;go_wp2_with fail
       refine CB.mono ?_;rintro e w4 ⟨rfl,E⟩;replace g:=QB E g
       replace d:=QA d E
       clear CB E;obtain⟨s2,G⟩:∃s,u2.any (VQ i n)=s:=⟨_,rfl⟩
       have aa:=hid G;rw[G];clear G;cases s2 with
       |true =>
        go_wp2;go_ret;exact⟨by rw[<-j.out,Ji,l.out,S.out,HU.out,C.out,aa.out];rfl,d⟩
       |false =>
        have ag:hH (Wc.plcs rgt n (i+1) (L.drop (i+1))=q):=by
         show _=q
         rw[<-j.out,Ji,l.out,S.out,HU.out];simp only[C.out,aa.out];rfl
        go_wp2_with fail
        go_roundg (n-(i+1))
        case rel=>exact⟨i+1,sM,rfl,ai,ag,g,d⟩
        case measure=>omega
     ·have S:hH (((y.op == 16) == (i+1 == n))=nY):=by show _=_;rw[show(y.op == 16)=mY from by simp[ab],show(i+1 == n)=nY from by simp;omega];rfl
      have an:¬(i:Int)=(n:Int)-1:=oM;have ao:((i:Int) == (n:Int)-1)=nY:=by simp;omega
      have ap:((n:Int)-1 == (i:Int))=nY:=by simp;omega
      go_wp2;go_ret;exact⟨by rw[<-j.out,Ji,l.out,S.out];rfl,d⟩
    ·have aC:(y.op == 16)=nY:=by simp[ab]
     by_cases az:(n:Int)-1=(i:Int)
     ·have S:hH (((y.op == 16) == (i+1 == n))=nY):=by show _=_;rw[show(y.op == 16)=nY from by simp[ab],show(i+1 == n)=mY from by simp;omega];rfl
      go_wp2;go_ret;exact⟨by rw[<-j.out,Ji,l.out,S.out];rfl,d⟩
     ·have S:hH (((y.op == 16) == (i+1 == n))=mY):=by show _=_;rw[show(y.op == 16)=nY from by simp[ab],show(i+1 == n)=nY from by simp;omega];rfl
      have an:¬(i:Int)=(n:Int)-1:=oM;have ao:((i:Int) == (n:Int)-1)=nY:=by simp;omega
      have ap:((n:Int)-1 == (i:Int))=nY:=by simp;omega
      have OW:=zA2 y p m k tl i;have z:=zEn (o:=y.op) (a:=y.a) (b:=y.b) (at':=i) N;have HO:hH (∃u,onw y.op y.a y.b tl i=u):=⟨_,rfl⟩
      obtain⟨u,hu⟩:=HO.out;have HU:=hid hu;rw[hu]at z;have D:=OW w1 oM zW;rw[hu]at D;obtain⟨u1,u2⟩:=u;simp only at z;have X:=hid z;clear OW HO hu zW N z;go_wp2_with (first|(refine ldQ 86 (mX 4) (wr.heap.size+1) 0 (QE y (U p m k)) _ rI underlying86 ?_))
      refine D.mono ?_;rintro e w2 ⟨⟨c,c2,rfl,z1,z2,_,_⟩,t⟩;have Z2:=hid z2;replace R:=QB t R
      replace g:=QB t g
      replace d:=QA d t
      clear rI i0 t D;clear z2;have CA:=zAI u1 c i wr.heap.size w.heap.size _ n _ w2 z1 X.out.1 R g;clear z1;go_wp2_with fail
      refine CA.mono ?_;rintro e w3 ⟨rfl,f⟩;replace R:=QB f R
      replace g:=QB f g
      have z2:=Z2.out.below f;clear Z2;replace d:=QA d f
      clear CA f;obtain⟨s1,F⟩:∃s,u1.any (VQ i n)=s:=⟨_,rfl⟩
      have C:=hid F;rw[F];clear F;cases s1 with
      |true =>
       go_wp2;go_ret;exact⟨by rw[<-j.out,Ji,l.out,S.out,HU.out,C.out];rfl,d⟩
      |false =>
       have CB:=zAI u2 c2 i wr.heap.size w.heap.size _ n _ w3 z2 X.out.2 R g;clear z2;go_wp2_with fail
       refine CB.mono ?_;rintro e w4 ⟨rfl,E⟩;replace g:=QB E g
       replace d:=QA d E
       clear CB E;obtain⟨s2,G⟩:∃s,u2.any (VQ i n)=s:=⟨_,rfl⟩
       have aa:=hid G;rw[G];clear G;cases s2 with
       |true =>
        go_wp2;go_ret;exact⟨by rw[<-j.out,Ji,l.out,S.out,HU.out,C.out,aa.out];rfl,d⟩
       |false =>
        have ag:hH (Wc.plcs rgt n (i+1) (L.drop (i+1))=q):=by
         show _=q
         rw[<-j.out,Ji,l.out,S.out,HU.out];simp only[C.out,aa.out];rfl
        go_wp2_with fail
        go_roundg (n-(i+1))
        case rel=>exact⟨i+1,sM,rfl,ai,ag,g,d⟩
        case measure=>omega
  ·have aA:¬(i:Int)<(n:Int):=oM;have ae:hH (q=mY):=by
    show q=mY
    rw[<-HP.out,tZ (by rw[HL.out];omega)];rfl
   have aD:i=n:=oM;by_cases h0:0<n
   ·have ay:(0:Int)<(n:Int):=oM;go_wp2;go_ret;exact⟨by first|rfl|(rw[ae.out];rfl)|(rw[ae.out,decide_eq_true h0];rfl),hb⟩
   ·have ay:¬(0:Int)<(n:Int):=oM;go_wp2;go_ret;exact⟨by first|rfl|(rw[ae.out];rfl)|(rw[ae.out,decide_eq_false h0];rfl)|simp,hb⟩
def mkC(M:List (Option (Int×Nat)))(j:Nat):List vW:=match M.getD j kY with
 |none=>[O J 0,O J 0,Y nY]
 |some (v,m)=>[O J v,O J (m:Int),Y (oY (j≠0))]
structure MkS(w:wW)(b mk n:Nat)(M:List (Option (Int×Nat))):Prop where
 hd:w.cell? ⟨b,0,kY⟩=lY (U (lY ⟨mk,0,kY⟩) n n)
 at':∀j:Nat,j<n->w.rangeAt mk (j*3) (mkC M j)
 fz:∀i:Nat,i<n*3->w.frozen? ⟨mk,i,kY⟩=nY
 len:M.length=n
 mlt:mk<w.heap.size
theorem MkS.fr{S:List Nat}(h:MkS w b mk n M)(c:Fr S w w')(e:b∉S)(d:mk∉S):MkS w' b mk n M :=
 ⟨c.cell h.hd e,λj f=>c.range (h.at' j f) d,λi hi=>by rw[c.frozen h.mlt d];exact h.fz i hi,h.len,dY h.mlt c.size⟩
theorem zDa(M:List (Option (Int×Nat)))(j:Nat):∃a c d,mkC M j=[O J a,O J c,Y d]:=by
 unfold mkC;split
 ·exact⟨_,_,_,rfl⟩
 ·exact⟨_,_,_,rfl⟩
theorem MkS.three(h:MkS w b mk n M){j:Nat}(g:j<n):(∃a:Int,w.cell? ⟨mk,j*3,kY⟩=lY (O J a))/\(∃a:Int,w.cell? ⟨mk,j*3+1,kY⟩=lY (O J a))/\∃d,w.cell? ⟨mk,j*3+2,kY⟩=lY (Y d):=by
 obtain⟨a,c,d,e⟩:=zDa M j;have f:=h.at' j g;rw[e]at f;exact⟨⟨a,f 0 _ rfl⟩,⟨c,f 1 _ rfl⟩,⟨d,f 2 _ rfl⟩⟩
theorem MkS.set(h:MkS w b mk n M){j:Nat}(r:j<n)(E:j≠0)(l:b≠mk)(v:Int)(m:Nat):MkS (((w.setCell ⟨mk,j*3,kY⟩ (O J v)).setCell ⟨mk,j*3+1,kY⟩ (O J (m:Int))).setCell ⟨mk,j*3+2,kY⟩ (Y mY)) b mk n (M.set j (lY (v,m))):=by
 have fr:Fr [mk] w (((w.setCell ⟨mk,j*3,kY⟩ (O J v)).setCell ⟨mk,j*3+1,kY⟩ (O J (m:Int))).setCell ⟨mk,j*3+2,kY⟩ (Y mY)) :=
  ((Fr.of_grown (QT _ _ _ _) (λk e=>by cases e;simp)).trans (Fr.of_grown (QT _ _ _ _) (λk e=>by cases e;simp))).trans (Fr.of_grown (QT _ _ _ _) (λk e=>by cases e;simp))
 obtain⟨⟨F,e0⟩,⟨G,t⟩,⟨H,z⟩⟩:=h.three r;refine⟨fr.cell h.hd (by simpa using l),λi p=>?_,λi p=>by rw[bZ,bZ,bZ];exact h.fz i p,by rw[hZ];exact h.len,dY h.mlt fr.size⟩;by_cases e:i=j
 ·subst e;have o:mkC (M.set i (lY (v,m))) i=[O J v,O J (m:Int),Y mY]:=by
   unfold mkC;rw[Wc.getD_set M i i _ (by rw[h.len];exact r),if_pos rfl];simp[E]
  rw[o];intro q u f;match q,f with
  |0,f =>
   cases f
   rw[QY _ _ _ oM,QY _ _ _ oM];exact Q4 e0 _
  |1,f =>
   cases f
   rw[QY _ _ _ oM];exact Q4 (by rw[QY _ _ _ oM];exact t) _
  |2,f =>
   cases f
   exact Q4 (by rw[QY _ _ _ oM,QY _ _ _ oM];exact z) _
 ·have o:mkC (M.set j (lY (v,m))) i=mkC M i:=by
   unfold mkC;rw[Wc.getD_set M j i _ (by rw[h.len];exact r),if_neg (λq=>e q.symm)]
  rw[o];obtain⟨a,c,d,C⟩:=zDa M i;have s:=h.at' i p;rw[C]at s ⊢;intro q u f;have D:q<3:=by
   rcases xZ q 3 with g|g
   ·exact g
   ·rw[cY (by simpa using g)]at f;cases f
  have:=s q u f;rw[QY _ _ _ oM,QY _ _ _ oM,QY _ _ _ oM];exact this
theorem zCt{c d f:Nat}{g i j:vW}:Fr [mk] w (((w.setCell ⟨mk,c,kY⟩ g).setCell ⟨mk,d,kY⟩ i).setCell ⟨mk,f,kY⟩ j) :=
 ((Fr.of_grown (QT _ _ _ _) (λk e=>by cases e;simp)).trans (Fr.of_grown (QT _ _ _ _) (λk e=>by cases e;simp))).trans (Fr.of_grown (QT _ _ _ _) (λk e=>by cases e;simp))
theorem zMS(x y d e:Int)(w:wW):(binOp .neq 190 (gX #[O J x,O J y]) (gX #[O J d,O J e])).run prog w=.ok (Y (!((x == d)&&(y == e)))) w:=by
 by_cases c:x=d
 ·by_cases f:y=e
  ·simp[go_sem,c,f]
  ·simp[go_sem,c,f]
 ·simp[go_sem,c]
def zRU(r:Option (List (Option (Int×Nat))))(b mk n:Nat)(w:wW)(e:Ending)(w':wW):Prop:=match r with
 |some c=>e=rX (Y mY)/\MkS w' b mk n c/\Fr [mk] w w'
 |none=>e=rX (Y nY)/\Fr [mk] w w'
theorem zBX(b mk n:Nat)(M:List (Option (Int×Nat)))(v:Int)(m:Nat)(pl:List Int)(pv:vW)(w:wW)(l:MkS w b mk n M)(ab:b≠mk)(hp:RdZ w pv pl)(ai:∀j∈pl,0<j/\j<(n:Int))(hl:pl.length<=1000000)(hn:n<=1000000)(ah:pl≠[]->∀g,pv.ownBlock=lY g->g≠mk) :
  cW prog 104 #[pX (lY ⟨b,0,kY⟩),gX #[O J v,O J (m:Int)],pv] w λe w'=>zRU (Wc.handP (v,m) pl M) b mk n w e w':=by
 obtain⟨a1,c1,rfl,r1⟩:=hp;have HR:hH (RdZ w (U a1 pl.length c1) pl):=⟨a1,c1,rfl,r1⟩
 have aj:=hid ah;have ak:=hid ai;obtain⟨k,hk⟩:=xV pl.length
 have HK:=hid hk;rw[hk]at hl ⊢;obtain⟨q,hq⟩:=xV (Wc.handP (v,m) pl M)
 have HQ:=hid hq;rw[hq];have pH:=AtL.new0 w 190 [O J v,O J (m:Int)];have G:=QI (aZ _ w) (Z #[O J v,O J (m:Int)] 190);have af:=l.fr (Fr.of_below [] G) sM sM;have ae:=Fr.of_below [mk] G;have p:=pH.2.1 0 _ rfl;have r:=pH.2.1 1 _ rfl;have nb:b∉[mk]:=by simpa using ab
 have nw:w.heap.size∉[mk]:=by have:=l.mlt;simp;omega
 clear r1 ai hk hq pH l ah;go_enter func104,ntmps104;go_upto_region 1 with fail
 generalize(w.alloc (Z #[O J v,O J (m:Int)] 190))=w0 at*;have au:=hid G;clear G;go_wp2_with fail
 go_loopg [11] k (λgk x wr=>∃(i:Nat)(D:List (Option (Int×Nat))),x=O J i/\gk=k-i/\i<=k/\hH (Wc.handP (v,m) (pl.drop i) D=q)/\hH (MkS wr b mk n D)/\hH (Fr [mk] w wr)/\wr.cell? ⟨w.heap.size,0,kY⟩=lY (O J v)/\wr.cell? ⟨w.heap.size,1,kY⟩=lY (O J (m:Int)))
 case atStart=>exact⟨0,M,rfl,rfl,bY _,HQ,af,ae,p,r⟩
 case round =>
  clear p r af ae HQ;obtain⟨i,D,rfl,hg,hi,HQ,X,N,p,r⟩:=hrel;by_cases ad:i<k
  ·have ap:(i:Int)<(k:Int):=oM;have ax:J.wrap ((i:Int)+1)=(i:Int)+1:=by rw[nZ];omega
   have z:i<pl.length:=by rw[HK.out];exact ad
   have l:=X.out;have E:=N.out;have H0:=HR.out;rw[HK.out]at H0;obtain⟨q1,d1,e1,f1⟩:=H0;simp only[U.injEq]at e1;obtain⟨al,am,an⟩:=e1;subst al;subst an;clear am;obtain⟨bb,ar,rfl,t1⟩:=f1 i z;have aw:=Q7 t1;have t2:wr.cell? ⟨bb,ar+i,kY⟩=lY (O J (pl[i])):=E.cell t1 (by have:=aj.out (by intro e;rw[e]at z;simp at z) bb rfl;simpa using this);obtain⟨ag,ao⟩:=ak.out pl[i] (kZ _);obtain⟨j,hj⟩:∃j:Nat,pl[i]=(j:Int):=⟨pl[i].toNat,oM⟩
   have aa:hH (Wc.handP (v,m) ((j:Int)::pl.drop (i+1)) D=q):=by
    show _=q
    rw[<-HQ.out,qZ z,hj]
   rw[hj]at t2 ag ao;have C:j<n:=oM;have ac:j≠0:=oM;have av:(0:Int)<=(j:Int):=oM;have hr:=l.at' j C;have H:=l.hd;clear f1 t1 z hj ag X N HQ;cases o:D.getD j kY with
   |none =>
    have t:hH (Wc.handP (v,m) (pl.drop (i+1)) (D.set j (lY (v,m)))=q):=by
     show _=q
     rw[<-aa.out];simp only[Wc.handP,wZ,o]
    have e2:wr.cell? ⟨mk,j*3+2,kY⟩=lY (Y nY):=by
     have:=hr 2 (Y nY) (by unfold mkC;rw[o];rfl);exact this
    clear hr;go_upto_region 4 with fail
    go_quiet (fail)
    go_upto_region 6 with fail
    have f:bL wr (wr.drewN nq).drew:=(Q9 (aZ _ wr) nq).drew;replace l:=l.fr (Fr.of_below [] f) sM sM
    replace E:=E.trans (Fr.of_below [mk] f)
    replace p:=QB f p
    replace r:=QB f r
    clear f;have H:=l.hd;refine wp_region_held_drew (S:=λW=>W.cell? ⟨b,0,kY⟩=lY (U (lY ⟨mk,0,kY⟩) n n)/\W.cell? ⟨w.heap.size,0,kY⟩=lY (O J v)/\W.cell? ⟨w.heap.size,1,kY⟩=lY (O J (m:Int))) kR ⟨H,p,r⟩ (λd=>?_);generalize(wr.drewN nq).drew=wd at*;refine tkQ 0 ?_
    refine tkQ 1 ?_
    refine tkQ 2 ?_
    refine tkQ 3 ?_
    refine tkQ 4 ?_
    refine tkQ 5 ?_
    refine tkQ 6 ?_
    refine tkQ 7 ?_
    have F:=l.fz;have f0:=F (j*3) oM;have f1:=F (j*3+1) oM;have f2:=F (j*3+2) oM;obtain⟨⟨y0,e0⟩,⟨y1,e1⟩,⟨y2,e2⟩⟩:=l.three C;have u:=l.set C ac ab v m;have c:Fr [mk] wd (((wd.setCell ⟨mk,j*3,kY⟩ (O J v)).setCell ⟨mk,j*3+1,kY⟩ (O J (m:Int))).setCell ⟨mk,j*3+2,kY⟩ (Y mY)):=zCt;have k0:=c.cell H nb;have k1:=c.cell p nw;have k2:=c.cell r nw;clear F;refine rdQ 8 (λK hK=>?_);go_simp
    refine hkQ hK (⟨k0,k1,k2⟩) (λd=>?_);clear hK K
    refine wpAnyH_done kR ?_ _;clear d f0 f1 f2 e0 e1 e2 H p r l;have R:=hid u;have I:=hid (E.trans c);have H1:hH _:=k1;have H2:hH _:=k2;clear u E c k0 k1 k2;generalize(((wd.setCell ⟨mk,j*3,kY⟩ (O J v)).setCell ⟨mk,j*3+1,kY⟩ (O J (m:Int))).setCell ⟨mk,j*3+2,kY⟩ (Y mY))=w9 at*;go_wp2_with fail
    go_roundg (k-(i+1))
    case rel=>exact⟨i+1,D.set j (lY (v,m)),sM,rfl,ad,t,R,I,H1.out,H2.out⟩
    case measure=>omega
   |some gg =>
    obtain⟨gv,gm⟩:=gg;have a0:wr.cell? ⟨mk,j*3,kY⟩=lY (O J gv):=hr 0 (O J gv) (by unfold mkC;rw[o];rfl);have a1:wr.cell? ⟨mk,j*3+1,kY⟩=lY (O J (gm:Int)):=hr 1 (O J (gm:Int)) (by unfold mkC;rw[o];rfl);have e2:wr.cell? ⟨mk,j*3+2,kY⟩=lY (Y mY):=hr 2 (Y mY) (by unfold mkC;rw[o];simp[ac]);have NH:=λw=>zMS gv (gm:Int) v (m:Int) w
    clear hr;by_cases s:(gv,gm)=(v,m)
    ·have t:hH (Wc.handP (v,m) (pl.drop (i+1)) (D.set j (lY (v,m)))=q):=by
      show _=q
      rw[<-aa.out];simp only[Wc.handP,wZ,o,if_pos s]
     have hx:(!((gv == v)&&((gm:Int) == (m:Int))))=nY:=by
      obtain⟨h2,h3⟩:=Prod.mk.inj s;rw[h2,h3];simp
     rw[hx]at NH;clear hx s;go_upto_region 4 with fail
     go_quiet (fail)
     go_upto_region 6 with fail
     have f:bL wr (wr.drewN nq).drew:=(Q9 (aZ _ wr) nq).drew;replace l:=l.fr (Fr.of_below [] f) sM sM
     replace E:=E.trans (Fr.of_below [mk] f)
     replace p:=QB f p
     replace r:=QB f r
     clear f;have H:=l.hd;refine wp_region_held_drew (S:=λW=>W.cell? ⟨b,0,kY⟩=lY (U (lY ⟨mk,0,kY⟩) n n)/\W.cell? ⟨w.heap.size,0,kY⟩=lY (O J v)/\W.cell? ⟨w.heap.size,1,kY⟩=lY (O J (m:Int))) kR ⟨H,p,r⟩ (λd=>?_);generalize(wr.drewN nq).drew=wd at*;refine tkQ 0 ?_
     refine tkQ 1 ?_
     refine tkQ 2 ?_
     refine tkQ 3 ?_
     refine tkQ 4 ?_
     refine tkQ 5 ?_
     refine tkQ 6 ?_
     refine tkQ 7 ?_
     have F:=l.fz;have f0:=F (j*3) oM;have f1:=F (j*3+1) oM;have f2:=F (j*3+2) oM;obtain⟨⟨y0,e0⟩,⟨y1,e1⟩,⟨y2,e2⟩⟩:=l.three C;have u:=l.set C ac ab v m;have c:Fr [mk] wd (((wd.setCell ⟨mk,j*3,kY⟩ (O J v)).setCell ⟨mk,j*3+1,kY⟩ (O J (m:Int))).setCell ⟨mk,j*3+2,kY⟩ (Y mY)):=zCt;have k0:=c.cell H nb;have k1:=c.cell p nw;have k2:=c.cell r nw;clear F;refine rdQ 8 (λK hK=>?_);go_simp
     refine hkQ hK (⟨k0,k1,k2⟩) (λd=>?_);clear hK K
     refine wpAnyH_done kR ?_ _;clear d f0 f1 f2 e0 e1 e2 H p r l;have R:=hid u;have I:=hid (E.trans c);have H1:hH _:=k1;have H2:hH _:=k2;clear u E c k0 k1 k2;generalize(((wd.setCell ⟨mk,j*3,kY⟩ (O J v)).setCell ⟨mk,j*3+1,kY⟩ (O J (m:Int))).setCell ⟨mk,j*3+2,kY⟩ (Y mY))=w9 at*;go_wp2_with fail
     go_roundg (k-(i+1))
     case rel=>exact⟨i+1,D.set j (lY (v,m)),sM,rfl,ad,t,R,I,H1.out,H2.out⟩
     case measure=>omega
    ·have t:hH (kY=q):=by
      show _=q
      rw[<-aa.out];simp only[Wc.handP,wZ,o,if_neg s]
     have hx:(!((gv == v)&&((gm:Int) == (m:Int))))=mY:=by
      rw[Bool.not_eq_true',Bool.and_eq_false_iff];by_cases h2:gv=v
      ·right
       have h3:gm≠m:=λe=>s (by rw[h2,e])
       simp;omega
      ·left
       simpa using h2
     rw[hx]at NH;clear hx s;go_upto_region 4 with fail
     go_quiet (fail)
     go_wp2;go_ret;show zRU q b mk n w _ _
     rw[<-t.out];exact⟨rfl,E.trans (Fr.of_below _ (Q9 (aZ wr.heap.size wr) nq))⟩
  ·have ap:¬(i:Int)<(k:Int):=oM;have aq:lY D=q:=by
    rw[<-HQ.out,tZ (by rw[HK.out];omega)];rfl
   go_wp2;go_ret;show zRU q b mk n w _ _
   rw[<-aq];exact⟨rfl,X.out,N.out⟩
theorem zMm(w:wW)(o:Obj):w.heap.size<(w.alloc o).heap.size:=by
 show w.heap.size<(w.heap.push o).size
 simp
def Qg:List (Wc.In×vW)->List vW
 |[]=>[]
 |x::r=>QE x.1 x.2++Qg r
theorem zEQ:∀A:List (Wc.In×vW),(Qg A).length=A.length*23
 |[]=>rfl
 |x::r=>by simp[Qg,zEQ r,QE];omega
theorem zD5:∀(A C:List (Wc.In×vW)),Qg (A++C)=Qg A++Qg C
 |[],C=>rfl
 |x::r,C=>by simp[Qg,zD5 r C]
def OwnI(w:wW)(B:Nat)(v:vW)(A:List (Wc.In×vW)):Prop:=w.ownsRow B 86 23 v A.length (Qg A)
theorem OwnI.nil(w:wW)(B:Nat):OwnI w B (U kY 0 0) []:=⟨rfl,fZ ⟨rfl,rfl⟩⟩
theorem OwnI.below{A:List (Wc.In×vW)}(h:OwnI w B v A)(c:bL w w'):OwnI w' B v A:=QZ (Fr.of_below [] c) h sM
theorem zII:(prog.info? 86).map (λi=>(i.zero,i.size,i.bytes))=lY (lY (gX (QE (QK 0) QN).toArray),23,208):=kR
theorem zB6:∀(A:List (Wc.In×vW)),(∀p∈A,∃d n c,p.2=U d n c)->∀v∈Qg A,v.oneCell'=mY
 |[],_,v,h=>by cases h
 |x::r,hs,v,h=>by
  obtain⟨d,n,c,e⟩:=hs x (rZ ..);simp only[Qg,List.mem_append]at h;rcases h with h|h
  ·rw[e]at h;exact zMt _ _ _ _ v h
  ·exact zB6 r (λp f=>hs p (pZ _ f)) v h
theorem zSY(x:Wc.In)(d:Option dW)(n c:Nat)(w:wW):(Instr.buildSlice 54 1 #[(0,gX (QE x (U d n c)).toArray)]).run prog w=.ok (U (lY ⟨w.heap.size,0,kY⟩) 1 1) (w.alloc (Z (QE x (U d n c)).toArray 86)):=kR
theorem zHV(y:Operand)(e:op.op=.buildSlice 54 1 #[(0,y)])(x:Wc.In)(d:Option dW)(n c:Nat)(f:a.eval y=gX (QE x (U d n c)).toArray)
  (h:K (a.put op.dst (U (lY ⟨w.heap.size,0,kY⟩) 1 1)) (w.alloc (Z (QE x (U d n c)).toArray 86))):op.wp prog a w K Q:=by
 unfold Oper.wp execOp;simp only[e,uZ,vZ,yZ,f,Sem.run_bind,Sem.run_pure,sZ,zSY];exact h
theorem zIq{o:Oper}{a:Act}{K:Act->wW->Prop}{Q:Exit->Act->wW->Prop}(s x:Operand)(F:o.op=.call {callee:=.builtin .append,args:=#[s,x],argTypes:=#[54,54]})
  (w:wW) (B:Nat) (z:B<=w.heap.size) (v:vW) (A:List (Wc.In×vW)) (H:a.eval s=v) (f:OwnI w B v A) (g n:Nat) (L:List (Wc.In×vW)) (E:n=L.length) (I:a.eval x=U (lY ⟨g,0,kY⟩) n n) (i:AtL w g (Qg L)) (m:∀p∈L,∃av n c,p.2=U av n c) (S:A.length+L.length<=2000000)
  (h:∀e w',OwnI w' B e (A++L)->w.grownBy w' v.ownBlock->(e.ownBlock=v.ownBlock\/e.ownBlock=lY w.heap.size)->K (a.put o.dst e) w'):o.wp prog a w K Q:=by
 subst E;obtain⟨N,l,q,r,t⟩:=info_parts zII;have d:∀j u,(Qg L)[j]?=lY u->w.cell? ((⟨g,0,kY⟩:dW).add j)=lY u:=λj u hj=>by
  have:=i.2.1 j u hj;rw[show(⟨g,0,kY⟩:dW).add j=⟨g,j,kY⟩from by
   simp[Addr.add];try(intro R;omega)]
  exact this
 obtain⟨e,w',G,own,D,_,C⟩:=run_append_own_at (P:=prog) w B 54 o.type 86 N _ 23 208 underlying54 l q r t rfl dM v A.length (Qg A) f ⟨g,0,kY⟩ L.length L.length (Qg L) (zEQ L) d (zB6 L m) (by unfold maxLen;omega) oM z;unfold Oper.wp execOp;simp only[F,resolve,invoke,builtin,Sem.run_bind,Sem.run_pure,sZ,uZ,vZ,yZ,H,I,G];refine h e w' ?_ D C;unfold OwnI;rw[List.length_append,zD5];exact own
theorem zIA(k B:Nat)(x:Wc.In)(s0 s1 lv:vW)(A:List (Wc.In×vW))(w:wW)(hw:AtL w k [s0,s1,lv])(ho:OwnI w B lv A)(ap:k<B)(hB:B<=w.heap.size)(hl:A.length<=1000000) :
  cW prog 86 #[pX (lY ⟨k,0,kY⟩),gX (QE x QN).toArray] w λe w'=>(∃lv',e=rX (uX #[])/\AtL w' k [s0,s1,lv']/\OwnI w' B lv' (A++[(x,QN)])/\∀j,lv'.ownBlock=lY j->lv.ownBlock=lY j\/w.heap.size<=j)/\Fr (k::lv.ownBlock.toList) w w':=by
 have aj:=AtL.new0 w 86 (QE x QN);have H:=QI (aZ _ w) (Z (QE x QN).toArray 86);have aq:=AtL.below H hw;have an:=hid (ho.below H);have al:hH (Fr (k::lv.ownBlock.toList) w (w.alloc (Z (QE x QN).toArray 86))):=Fr.of_below _ H;have ao:hH (B<=(w.alloc (Z (QE x QN).toArray 86)).heap.size/\w.heap.size<(w.alloc (Z (QE x QN).toArray 86)).heap.size):=⟨zZ hB H.size,aj.1⟩
 have HL:=hid hl;have D:hH (k<B/\B<=w.heap.size):=⟨ap,hB⟩
 have am:hH (∀j,lv.ownBlock=lY j->B<=j/\j<w.heap.size):=λj e=>QL ho e
 clear hw ho hl H ap hB;go_enter func86,ntmps86;go_upto_region 1 with fail
 generalize(w.alloc (Z (QE x QN).toArray 86))=W1 at*;have rb:=(aZ W1.heap.size W1).drew;have sI:=QF rb aj.range;have pW:=AtL.below rb aq;have sW:=pW.2.1 2 _ rfl;have ac:=hid (an.out.below rb);have ab:=hid (al.out.trans (Fr.of_below _ rb));have E:hH (B<=W1.drew.heap.size/\w.heap.size<W1.drew.heap.size):=ao.out;clear rb aj aq an al ao;refine wp_region_held_drew (S:=λW=>W.rangeAt w.heap.size 0 (QE x QN)) kR sI (λc=>?_);generalize W1.drew=r at*;refine tkQ 0 ?_
 refine tkQ 1 ?_
 refine tkQ 2 ?_
 refine tkQ 3 ?_
 refine tkH 5 (gX (QE x QN).toArray) rfl (yiQ 86 (mX 3) w.heap.size 0 (QE x QN) _ (λ_ h=>h) underlying86) ?_;try simp only[Act.put,lA,lZ,lS]
 refine wpAnyH_ready (rs:=[4,6]) kR sM ?_;refine AllReadyH.cons (atQ rfl) (λK i=>?_) (AllReadyH.cons (atQ rfl) (λK i=>?_) AllReadyH.nil)
 ·go_simp
  refine hkQ i sI (λc=>?_);clear i K
  refine rdQ 6 (λK i=>?_);refine zHV (mX 9) rfl x kY 0 0 rfl ?_;have d:=QI (aZ _ r) (Z (QE x QN).toArray 86);have s:hH (AtL (r.alloc (Z (QE x QN).toArray 86)) r.heap.size (Qg [(x,QN)])):=by show AtL _ _ _;rw[show Qg [(x,QN)]=(QE x QN)from by simp[Qg]];exact AtL.new0 r _ _
  have u:=hid (ac.out.below d);have t:=hid (ab.out.trans (Fr.of_below _ d));have G:hH (B<=(r.alloc (Z (QE x QN).toArray 86)).heap.size/\w.heap.size<r.heap.size):=⟨zZ E.out.1 d.size,E.out.2⟩
  have q:=QF d sI;have R:=AtL.below d pW;have ak:=QB d sW;clear d ac ab E sI pW sW;refine hkQ i q (λc=>?_);clear i K
  generalize(r.alloc (Z (QE x QN).toArray 86))=W2 at*;obtain⟨g,hg⟩:=xV r.heap.size
  rw[hg]at s G;try simp only[hg]
  clear hg;refine rdQ 7 (λK i=>?_);refine zIq (mX 8) (mX 10) rfl W2 B G.out.1 lv A rfl u.out g 1 [(x,QN)] rfl rfl s.out (λp hp=>by simp at hp;subst hp;exact⟨_,_,_,rfl⟩) (by have:=HL.out;simp;omega) ?_;intro v3 W3 l N hv3;have af:=hid ((λj e=>by
   rcases hv3 with hv3|hv3
   ·exact fZ (by rw[<-hv3];exact e)
   ·rw[hv3]at e;cases e;exact gZ t.out.size:∀j,v3.ownBlock=lY j->lv.ownBlock=lY j\/w.heap.size<=j))
  clear hv3;obtain⟨g3,f,ev,au⟩:∃g cap,v3=U (lY ⟨g,0,kY⟩) (A.length+1) cap/\B<=g:=by
   rcases l.2 with⟨_,h0⟩|⟨g,cap,ar,e,ai,_,hc,_⟩
   ·simp at h0
   ·exact⟨g,cap,by rw[e];simp,ai⟩
  subst ev;have m:Fr lv.ownBlock.toList W2 W3:=Fr.of_grown N (λk e=>by simp[e]);have I:∀j,lv.ownBlock=lY j->B<=j/\j<W2.heap.size:=λj e=>QL u.out e
  have C:=m.range q (λe=>by have:=(am.out w.heap.size (by simpa using e)).2;omega);have z:=R.fr m (λe=>by have:=(I k (by simpa using e)).1;have:=D.out;omega);have ad:=hid (t.out.trans (m.mono (λj hj=>pZ _ hj)));have F:=hid l;clear l N m I t u s R q ak;have av:=z.2.1 2 _ rfl;have aw:=z.2.2 2 sM;refine hkQ i C (λc=>?_);clear i K
  refine tkQ 8 ?_
  refine tkQ 9 ?_
  refine rdQ 10 (λK i=>?_);go_simp
  have X:=z.set 2 (U (lY ⟨g3,0,kY⟩) (A.length+1) f);have o:Fr [k] W3 (W3.setCell ⟨k,2,kY⟩ (U (lY ⟨g3,0,kY⟩) (A.length+1) f)):=Fr.of_grown (QT _ _ _ _) (λj e=>by cases e;simp);have ae:=hid (ad.out.trans (o.mono (λj hj=>by simp at hj;subst hj;exact rZ ..)));have ag:=hid (QZ o F.out (λj e=>by have:=(QL F.out e).1;have:=D.out;simp;omega));have aa:=o.range C (by have:=D.out;simp;omega);have ah:=hid X;generalize(W3.setCell ⟨k,2,kY⟩ (U (lY ⟨g3,0,kY⟩) (A.length+1) f))=W4 at*;refine hkQ i aa (λc=>?_);clear i K
  refine wpAnyH_done kR ?_ _;clear c aa C X o;go_wp2;go_end0
  exact⟨⟨_,rfl,ah.out,ag.out,af.out⟩,ae.out⟩
 ·refine zHV (mX 9) rfl x kY 0 0 rfl ?_;have d:=QI (aZ _ r) (Z (QE x QN).toArray 86);have s:hH (AtL (r.alloc (Z (QE x QN).toArray 86)) r.heap.size (Qg [(x,QN)])):=by show AtL _ _ _;rw[show Qg [(x,QN)]=(QE x QN)from by simp[Qg]];exact AtL.new0 r _ _
  have u:=hid (ac.out.below d);have t:=hid (ab.out.trans (Fr.of_below _ d));have G:hH (B<=(r.alloc (Z (QE x QN).toArray 86)).heap.size/\w.heap.size<r.heap.size):=⟨zZ E.out.1 d.size,E.out.2⟩
  have q:=QF d sI;have R:=AtL.below d pW;have ak:=QB d sW;clear d ac ab E sI pW sW;refine hkQ i q (λc=>?_);clear i K
  generalize(r.alloc (Z (QE x QN).toArray 86))=W2 at*;obtain⟨g,hg⟩:=xV r.heap.size
  rw[hg]at s G;try simp only[hg]
  clear hg;refine rdQ 4 (λK i=>?_);try clear c
  go_simp
  refine hkQ i q (λc=>?_);clear i K
  refine rdQ 7 (λK i=>?_);refine zIq (mX 8) (mX 10) rfl W2 B G.out.1 lv A rfl u.out g 1 [(x,QN)] rfl rfl s.out (λp hp=>by simp at hp;subst hp;exact⟨_,_,_,rfl⟩) (by have:=HL.out;simp;omega) ?_;intro v3 W3 l N hv3;have af:=hid ((λj e=>by
   rcases hv3 with hv3|hv3
   ·exact fZ (by rw[<-hv3];exact e)
   ·rw[hv3]at e;cases e;exact gZ t.out.size:∀j,v3.ownBlock=lY j->lv.ownBlock=lY j\/w.heap.size<=j))
  clear hv3;obtain⟨g3,f,ev,au⟩:∃g cap,v3=U (lY ⟨g,0,kY⟩) (A.length+1) cap/\B<=g:=by
   rcases l.2 with⟨_,h0⟩|⟨g,cap,ar,e,ai,_,hc,_⟩
   ·simp at h0
   ·exact⟨g,cap,by rw[e];simp,ai⟩
  subst ev;have m:Fr lv.ownBlock.toList W2 W3:=Fr.of_grown N (λk e=>by simp[e]);have I:∀j,lv.ownBlock=lY j->B<=j/\j<W2.heap.size:=λj e=>QL u.out e
  have C:=m.range q (λe=>by have:=(am.out w.heap.size (by simpa using e)).2;omega);have z:=R.fr m (λe=>by have:=(I k (by simpa using e)).1;have:=D.out;omega);have ad:=hid (t.out.trans (m.mono (λj hj=>pZ _ hj)));have F:=hid l;clear l N m I t u s R q ak;have av:=z.2.1 2 _ rfl;have aw:=z.2.2 2 sM;refine hkQ i C (λc=>?_);clear i K
  refine tkQ 8 ?_
  refine tkQ 9 ?_
  refine rdQ 10 (λK i=>?_);go_simp
  have X:=z.set 2 (U (lY ⟨g3,0,kY⟩) (A.length+1) f);have o:Fr [k] W3 (W3.setCell ⟨k,2,kY⟩ (U (lY ⟨g3,0,kY⟩) (A.length+1) f)):=Fr.of_grown (QT _ _ _ _) (λj e=>by cases e;simp);have ae:=hid (ad.out.trans (o.mono (λj hj=>by simp at hj;subst hj;exact rZ ..)));have ag:=hid (QZ o F.out (λj e=>by have:=(QL F.out e).1;have:=D.out;simp;omega));have aa:=o.range C (by have:=D.out;simp;omega);have ah:=hid X;generalize(W3.setCell ⟨k,2,kY⟩ (U (lY ⟨g3,0,kY⟩) (A.length+1) f))=W4 at*;refine hkQ i aa (λc=>?_);clear i K
  refine wpAnyH_done kR ?_ _;clear c aa C X o;go_wp2;go_end0
  exact⟨⟨_,rfl,ah.out,ag.out,af.out⟩,ae.out⟩
structure WS(k B:Nat)(T:Nat->Nat)(w:wW)(s0 s1:vW)(L:List I)(lv:vW)(P:List (Wc.In×vW)):Prop where
 at':AtL w k [s0,s1,lv]
 own:OwnI w B lv P
 len:P.length=L.length
 ins:∀i (h:i<P.length) (h':i<L.length),(P[i]).1=(L[i]).1/\OwnZ w (T i) (P[i]).2 (L[i]).2
 tb:∀i,B<=T i
 dis:∀i j (h:i<P.length) (h':j<P.length) b,(P[i]).2.ownBlock=lY b->(P[j]).2.ownBlock=lY b->i=j
def Nx(w:wW)(lv lv':vW):Prop:=∀j,lv'.ownBlock=lY j->lv.ownBlock=lY j\/w.heap.size<=j
theorem Nx.refl(w:wW)(lv:vW):Nx w lv lv:=λj e=>fZ e
theorem Nx.trans{a b c:vW}(h:Nx w a b)(d:Nx w1 b c)(f:w.heap.size<=w1.heap.size):Nx w a c:=λj e=>by
 rcases d j e with q|q
 ·exact h j q
 ·exact gZ (zZ f q)
theorem zMi{c:wW}{a b:vW}(h:Fr (k::a.ownBlock.toList) w w1)(d:Fr (k::b.ownBlock.toList) w1 c)(g:Nx w a b):Fr (k::a.ownBlock.toList) w c :=
 h.new d (λj f=>by
  rcases List.mem_cons.1 f with q|q
  ·exact fZ (by rw[q];exact rZ ..)
  ·rcases g j (by simpa using q)with e|e
   ·exact fZ (pZ _ (by simp[e]))
   ·exact gZ e)
def WP(k B:Nat)(T:Nat->Nat)(s0 s1:vW)(L:List I)(lv:vW)(w:wW)(e:Ending)(w':wW):Prop :=
 (∃lv' c,e=rX (uX #[])/\WS k B T w' s0 s1 L lv' c/\Nx w lv lv')/\Fr (k::lv.ownBlock.toList) w w'
theorem JR{C T c m:Nat}{u:vW}{z:Nat}{F G:List vW}(h:w.ownsRow B T k u n F)(t:w.ownsRow C c m v z G)(f:¬T=c){b:Nat}(e:u.ownBlock=lY b):¬v.ownBlock=lY b:=λd=>by
 rcases h.2 with⟨q,_⟩|⟨r,H,i,D,_,l,_⟩
 ·rw[q]at e;cases e
 ·rcases t.2 with⟨q,_⟩|⟨s,I,j,E,_,g,_⟩
  ·rw[q]at d;cases d
  ·rw[D]at e;rw[E]at d;have o:r=b:=by simpa[Value.ownBlock]using e
   have p:s=b:=by simpa[Value.ownBlock]using d
   rw[o]at l;rw[p,l]at g;simp only[Option.some.injEq,Obj.cells.injEq]at g;exact f g.2.1
theorem WS.fr(h:WS k B T w s0 s1 L lv P){S:List Nat}(f:Fr S w w')(g:k∉S)(l:∀j,lv.ownBlock=lY j->j∉S)(m:∀i (h:i<P.length) b,(P[i]).2.ownBlock=lY b->b∉S):WS k B T w' s0 s1 L lv P :=
 ⟨h.at'.fr f g,QZ f h.own l,h.len,λi c d=>⟨(h.ins i c d).1,QZ f (h.ins i c d).2 (λj e=>m i c j e)⟩,h.tb,h.dis⟩
theorem WS.below(h:WS k B T w s0 s1 L lv P)(c:bL w w'):WS k B T w' s0 s1 L lv P :=
 h.fr (Fr.of_below [] c) sM (λj _=>by simp) (λi _ b _=>by simp)
theorem JA(k B:Nat)(T:Nat->Nat)(x:Wc.In)(s0 s1:vW)(L:List I)(lv:vW)(P:List (Wc.In×vW))(w:wW)(h:WS k B T w s0 s1 L lv P)(m:k<B)(z:B<=w.heap.size)(D:L.length<=1000000) :
  cW prog 86 #[pX (lY ⟨k,0,kY⟩),gX (QE x QN).toArray] w (WP k B T s0 s1 (L++[(x,[])]) lv w):=by
 refine(zIA k B x s0 s1 lv P w h.at' h.own m z (by rw[h.len];exact D)).mono ?_;rintro e w' ⟨⟨lv',rfl,C,G,F⟩,s⟩;refine⟨⟨lv',P++[(x,QN)],rfl,⟨C,G,by simp[h.len],λi f r=>?_,h.tb,λi j f r b l d=>?_⟩,F⟩,s⟩
 ·by_cases g:i<P.length
  ·have c:i<L.length:=by rw[<-h.len];exact g
   rw[mZ g,mZ c];refine⟨(h.ins i g c).1,QZ s (h.ins i g c).2 (λb e E=>?_)⟩;rcases List.mem_cons.1 E with q|q
   ·have:=(QL (h.ins i g c).2 e).1;have:=h.tb i;omega
   ·exact JR (h.ins i g c).2 h.own dM e (by simpa using q)
  ·have l:i=P.length:=by simp at f;omega
   subst l;have d:(P++[(x,QN)])[P.length]=(x,QN):=sM;have u:(L++[(x,([]:List Int))])[P.length]=(x,[]):=by simp[h.len]
   rw[d,u];exact⟨rfl,OwnZ.nil _ _⟩
 ·have t:∀i (f:i<(P++[(x,QN)]).length),((P++[(x,QN)])[i]).2.ownBlock=lY b->i<P.length:=λi f e=>by
   rcases xZ i P.length with q|q
   ·exact q
   ·have e0:i=P.length:=by simp at f;omega
    subst e0;have d:(P++[(x,QN)])[P.length]=(x,QN):=sM;rw[d]at e;cases e
  have o:=t i f l;have p:=t j r d;rw[mZ o]at l;rw[mZ p]at d;exact h.dis i j o p b l d
def Cl(k:Nat)(w:wW)(f at':Nat)(g:List Nat)(cl:vW):Prop:=∃d e c,g=[d,e,c]/\cl=.func (.func 220) #[] #[pX (lY ⟨d,0,kY⟩),pX (lY ⟨e,0,kY⟩),pX (lY ⟨c,0,kY⟩)] /\
 w.cell? ⟨d,0,kY⟩=lY (.func (.func f) #[] #[])/\w.cell? ⟨e,0,kY⟩=lY (pX (lY ⟨k,0,kY⟩))/\w.cell? ⟨c,0,kY⟩=lY (O J (at':Int))
theorem Cl.fr{f at':Nat}{c:List Nat}{cl:vW}(h:Cl k w f at' c cl){S:List Nat}(d:Fr S w w')(g:∀b∈c,b∉S):Cl k w' f at' c cl:=by
 obtain⟨j,l,i,rfl,e,m,o,p⟩:=h;exact⟨j,l,i,rfl,e,d.cell m (g _ sM),d.cell o (g _ sM),d.cell p (g _ sM)⟩
theorem zB9(k B f:Nat)(T:Nat->Nat)(s0 s1:vW)(L:List I)(lv:vW)(P:List (Wc.In×vW))(w:wW)(h:WS k B T w s0 s1 L lv P)(D:0<L.length)(H:L.length<=1000000) :
  cW prog 203 #[pX (lY ⟨k,0,kY⟩),.func (.func f) #[] #[]] w λe w'=>(∃cl bs,e=rX cl/\Cl k w' f (L.length-1) bs cl/\∀b∈bs,w.heap.size<=b/\b<w'.heap.size)/\bL w w':=by
 have q:=h.len;rcases h.own.2 with⟨e,E⟩|⟨g,cap,z,e,_⟩
 ·rw[q]at E;omega
 subst e;rw[q]at h;obtain⟨m,t⟩:=xV L.length
 rw[t]at h D H ⊢;have s:=h.at'.2.1 2 _ rfl;have N:=h.at'.lt;clear q t h;have c:=QI (QI (aZ _ w) (Z #[pX (lY ⟨k,0,kY⟩)] 208)) (Z #[.func (.func f) #[] #[]] 294);have r:=(AtL.new0 w 208 [pX (lY ⟨k,0,kY⟩)]).alloc (Z #[.func (.func f) #[] #[]] 294);have u:=AtL.new1 w (Z #[pX (lY ⟨k,0,kY⟩)] 208) 294 [.func (.func f) #[] #[]];have C:=QB c s;have S:=r.2.1 0 _ rfl;have R:J.wrap ((m:Int)-1)=((m-1:Nat):Int):=by rw[nZ];omega
 clear s;go_enter func203,ntmps203;go_upto_region 1 with fail
 generalize((w.alloc (Z [pX (lY ⟨k,0,kY⟩)].toArray 208)).alloc (Z [.func (.func f) #[] #[]].toArray 294))=W at*;have d:=QI (aZ _ W) (Z #[O J ((m-1:Nat):Int)] 3);have pA:=AtL.new0 W 3 [O J ((m-1:Nat):Int)];have o:=AtL.below d r;have j:=AtL.below d u;have F:=QA c d;go_upto_region 2 with fail
 have l:=c.size;clear C S r u c d;generalize(W.alloc (Z [O J ((m-1:Nat):Int)].toArray 3))=X at*;have i:=hid (And.intro (j.2.1 0 _ rfl) (And.intro (o.2.1 0 _ rfl) (pA.2.1 0 _ rfl)));have p:=hid (And.intro j.lt (And.intro pA.lt l));clear o j pA l;go_wp2;go_ret;refine⟨⟨_,_,rfl,⟨_,_,_,rfl,rfl,i.out.1,i.out.2.1,i.out.2.2⟩,λb G=>?_⟩,F⟩;have hz:=p.out;simp at G;omega
theorem zBW:∀(A:List (Wc.In×vW))(i:Nat)(h:i<A.length)(j:Nat)(v:vW),(QE (A[i]).1 (A[i]).2)[j]?=lY v->(Qg A)[i*23+j]?=lY v
 |[],i,h,_,_,_=>absurd h (gY _)
 |x::r,0,h,j,v,hv=>by
  have d:j<(QE x.1 x.2).length:=by
   rcases xZ j (QE x.1 x.2).length with q|q
   ·exact q
   ·simp only[aY]at hv;rw[cY q]at hv;cases hv
  simp only[Qg,hY,iY];rw[List.getElem?_append_left d];exact hv
 |x::r,i+1,h,j,v,hv=>by
  have c:(QE x.1 x.2).length=23:=rfl;simp only[Qg];rw[List.getElem?_append_right (by rw[c];omega),c,show(i+1)*23+j-23=i*23+j from by omega];exact zBW r i (by simpa using h) j v (by simpa using hv)
theorem zBc(A:List (Wc.In×vW))(i:Nat)(h:i<A.length)(y:Wc.In×vW)(j:Nat)(u:vW)(d:(QE (A[i]).1 (A[i]).2).set j u=QE y.1 y.2)(e:j<23):(Qg A).set (i*23+j) u=Qg (A.set i y):=by
 induction A generalizing i with
 |nil=>cases h
 |cons x r f =>
  have c:(QE x.1 x.2).length=23:=rfl;cases i with
  |zero =>
   simp only[Qg,List.set_cons_zero,hY,iY];rw[List.set_append_left _ _ (by rw[c];exact e)];simp only[aY]at d;rw[d]
  |succ i =>
   simp only[Qg,List.set_cons_succ];rw[List.set_append_right _ _ (by rw[c];omega),c,show(i+1)*23+j-23=i*23+j from by omega];rw[f i (by simpa using h) (by simpa using d)]
theorem zKF{g o:Nat}(h:WS k B T (w.setCell ⟨g,o,kY⟩ v) s0 s1 L lv P):WS k B T (w.drew.setCell ⟨g,o,kY⟩ v) s0 s1 L lv P:=by
 have c:Below (w.setCell ⟨g,o,kY⟩ v).heap.size (w.setCell ⟨g,o,kY⟩ v) (w.setCell ⟨g,o,kY⟩ v).drew:=(aZ _ _).drew;exact h.below c
theorem zOa(h:WS k B T w s0 s1 L lv P)(u:k<B){g cap i:Nat}(o:lv=U (lY ⟨g,0,kY⟩) P.length cap)(s:i<P.length)(t:i<L.length)(v:Int) :
  WS k B T (w.setCell ⟨g,i*23+1,kY⟩ (O J v)) s0 s1 (L.set i ({(L[i]).1 with a:=v},(L[i]).2)) lv (P.set i ({(P[i]).1 with a:=v},(P[i]).2)):=by
 subst o;have m:=h.own.stored (i*23+1) (O J v);have z:=(QL h.own (show Value.ownBlock (U (lY ⟨g,0,kY⟩) P.length cap)=lY g from rfl)).1;have p:Fr [g] w (w.setCell ⟨g,i*23+1,kY⟩ (O J v)):=Fr.of_grown m.2 (λj e=>by cases e;simp);have l:∀j (d:j<P.length),((P.set i ({(P[i]).1 with a:=v},(P[i]).2))[j]'(by rw[hZ];exact d)).2=(P[j]).2:=λj d=>by
  by_cases e:i=j
  ·subst e;rw[iZ]
  ·rw[jZ e]
 refine⟨h.at'.fr p (by simp;omega),?_,by simp[h.len],λj d f=>?_,h.tb,λa b d f c e1 e2=>?_⟩
 ·have:=m.1;rw[zBc P i s ({(P[i]).1 with a:=v},(P[i]).2) 1 _ rfl oM]at this;unfold OwnI;rw[hZ];exact this
 ·rw[hZ]at d f;have r:OwnZ (w.setCell ⟨g,i*23+1,kY⟩ (O J v)) (T j) (P[j]).2 (L[j]).2:=QZ p (h.ins j d f).2 (λb e q=>JR (h.ins j d f).2 h.own dM e (by simp at q;rw[q];rfl));by_cases e:i=j
  ·subst e;rw[iZ,iZ];exact⟨by rw[(h.ins i d f).1],r⟩
  ·rw[jZ e,jZ e];exact⟨(h.ins j d f).1,r⟩
 ·rw[hZ]at d f;rw[l a d]at e1;rw[l b f]at e2;exact h.dis a b d f c e1 e2
theorem zO3(h:WS k B T w s0 s1 L lv P)(u:k<B){g cap i:Nat}(o:lv=U (lY ⟨g,0,kY⟩) P.length cap)(s:i<P.length)(t:i<L.length)(v:Int) :
  WS k B T (w.setCell ⟨g,i*23+2,kY⟩ (O J v)) s0 s1 (L.set i ({(L[i]).1 with b:=v},(L[i]).2)) lv (P.set i ({(P[i]).1 with b:=v},(P[i]).2)):=by
 subst o;have m:=h.own.stored (i*23+2) (O J v);have z:=(QL h.own (show Value.ownBlock (U (lY ⟨g,0,kY⟩) P.length cap)=lY g from rfl)).1;have p:Fr [g] w (w.setCell ⟨g,i*23+2,kY⟩ (O J v)):=Fr.of_grown m.2 (λj e=>by cases e;simp);have l:∀j (d:j<P.length),((P.set i ({(P[i]).1 with b:=v},(P[i]).2))[j]'(by rw[hZ];exact d)).2=(P[j]).2:=λj d=>by
  by_cases e:i=j
  ·subst e;rw[iZ]
  ·rw[jZ e]
 refine⟨h.at'.fr p (by simp;omega),?_,by simp[h.len],λj d f=>?_,h.tb,λa b d f c e1 e2=>?_⟩
 ·have:=m.1;rw[zBc P i s ({(P[i]).1 with b:=v},(P[i]).2) 2 _ rfl oM]at this;unfold OwnI;rw[hZ];exact this
 ·rw[hZ]at d f;have r:OwnZ (w.setCell ⟨g,i*23+2,kY⟩ (O J v)) (T j) (P[j]).2 (L[j]).2:=QZ p (h.ins j d f).2 (λb e q=>JR (h.ins j d f).2 h.own dM e (by simp at q;rw[q];rfl));by_cases e:i=j
  ·subst e;rw[iZ,iZ];exact⟨by rw[(h.ins i d f).1],r⟩
  ·rw[jZ e,jZ e];exact⟨(h.ins j d f).1,r⟩
 ·rw[hZ]at d f;rw[l a d]at e1;rw[l b f]at e2;exact h.dis a b d f c e1 e2
theorem zI7(g o:Nat)(v:Int)(u:vW)(w:wW)(c:w.cell? ⟨g,o+1,kY⟩=lY u)(d:w.frozen? ⟨g,o+1,kY⟩=nY):cW prog 204 #[pX (lY ⟨g,o,kY⟩),O J v] w λe w'=>e=rX (uX #[])/\w'=w.setCell ⟨g,o+1,kY⟩ (O J v):=by
 go_enter func204,ntmps204;go_wp2;go_end0
 exact⟨rfl,rfl⟩
theorem zJ7(g o:Nat)(v:Int)(u:vW)(w:wW)(c:w.cell? ⟨g,o+2,kY⟩=lY u)(d:w.frozen? ⟨g,o+2,kY⟩=nY):cW prog 205 #[pX (lY ⟨g,o,kY⟩),O J v] w λe w'=>e=rX (uX #[])/\w'=w.setCell ⟨g,o+2,kY⟩ (O J v):=by
 go_enter func205,ntmps205;go_wp2;go_end0
 exact⟨rfl,rfl⟩
