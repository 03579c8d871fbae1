/- Lemmas. -/
import Derived.Test.YthcblmpncpcfkaaGreatDoorQ03
set_option maxHeartbeats 3200000
set_option maxRecDepth 100000
set_option linter.unusedVariables false
open Option renaming none->vX,some->wX
open Bool renaming true->xX,false->yX
open List renaming length_append->dZ,length_cons->eZ,map_cons->gZ,append_assoc->hZ,length_nil->mZ,length_map->nZ,map_toArray->oZ,getElem_map->qZ,map_nil->uZ,mem_cons_of_mem->vZ,cons_append->wZ,getElem_mem->xZ,getElem_append_left->zZ,take_succ_eq_append_getElem->dY,length_take->eY,mem_cons_self->fY,getElem_set_ne->gY,take_of_length_le->hY,getElem?_eq_getElem->iY,getElem?_cons_zero->kY,getElem_set_self->lY,sum_cons->mY,mem_append_right->pY,mem_append_left->qY,filter_map->rY,getElem?_append_right->vY,map_append->wY,length_set->xY,foldl_cons->yY,append_nil->zY,take_append_drop->dX,length_filter_le->eX,mem_of_mem_take->fX,mem_of_getElem?->iX,map_map->kX,getElem?_map->lX,range->oX
open Go.RowKit.Below renaming refl->fZ
open Go.Result renaming andThen_ok->iZ
open Nat renaming le_trans->jZ,le_refl->yZ,zero_add->oY,not_lt_zero->sY,lt_of_lt_of_le->tY,zero_le->uY,add_zero->jX,lt_succ_self->nX,sub_self->qX,le_of_lt->sX,zero_mul->tX
open Or renaming inr->kZ,inl->tZ
open Go.Sem renaming run_bind->rZ,run_pure->sZ
open Go.IntKind renaming wrap_i64->jY
open Go.World renaming there->nY
open Go renaming World->wW,Value->vW,Addr->dW
open Go.RowKit renaming Hid->hH
open Go.Value renaming int->O,slice->U,string->V,bool->Y,pointer->pX,agg->gX,tuple->uX
open Go.IntKind renaming i64->J
open Go.Obj renaming cells->Z
open Go.Ending renaming returned->rX
open Go.Operand renaming tmp->mX
namespace Go.Proofs.YthcblmpncpcfkaaGreatDoor
open Tryz
variable {w w' w1:wW}{k B f at' bi bw ba m2 cap2 hi n:Nat}{lv s0 s1 v lv' tv sl:vW}{a:Act}{op o:Oper}{ops:Array Oper}{rest:List Oper}{Q:Exit->Act->wW->Prop}{T:Nat->Nat}{L:List Wf.I}{P:List (Wc.In×vW)}{x:Wt.Nd}{own:Int}{nm:List ByteArray}{av2:Option dW}{S:List Nat}{es:List (Nat×Nat)}{cs:List (Nat×Nat×Nat)}
open Go.RowKit Wf
theorem zE3(k B:Nat)(T:Nat->Nat)(s0 s1:vW)(L:List I)(lv:vW)(P:List (Wc.In×vW))(w:wW)(at':Nat)(bi bw ba:Nat)(h:WS k B T w s0 s1 L lv P)(ag:k<B)(hl:L.length<=1000000)(p:at'<L.length)
  (G:w.cell? ⟨bi,0,vX⟩=wX (.func (.func 204) #[] #[])) (H:w.cell? ⟨bw,0,vX⟩=wX (pX (wX ⟨k,0,vX⟩))) (R:w.cell? ⟨ba,0,vX⟩=wX (O J (at':Int))) (hn:∀b,lv.ownBlock=wX b->bi≠b/\bw≠b/\ba≠b) :
  Calls prog 220 #[pX (wX ⟨bi,0,vX⟩),pX (wX ⟨bw,0,vX⟩),pX (wX ⟨ba,0,vX⟩)] w λe w'=>(∃P',e=rX (uX #[])/\WS k B T w' s0 s1 (L.set at' ({(L[at']).1 with a:=(L.length:Int)},(L[at']).2)) lv P')/\Fr lv.ownBlock.toList w w':=by
 have A:=h.len;rcases h.own.2 with⟨e,h9⟩|⟨g,cap,ah,e,ak,_⟩
 ·rw[A]at h9;omega
 have q:at'<P.length:=by rw[A];exact p
 have c:=zOa h ag e q p (L.length:Int);subst e;have t:=h.own;have s:=t.cellAt (at'*23+1) oM;have D:=t.frozenAt (at'*23+1);rw[zBW P at' q 1 (O J (P[at']).1.a) rfl]at s;rw[A]at h c hn ⊢;obtain⟨m,hm⟩:=xV L.length
 have ac:hH (at'<m/\m<=1000000):=by rw[hm]at p hl;exact⟨p,hl⟩
 have N:=h.at'.2.1 2 _ rfl;have C:=hn g rfl;have ab:g≠k:=oM;have E:hH (bi∉[g]/\bw∉[g]/\ba∉[g]/\k∉[g]):=⟨by simpa using C.1,by simpa using C.2.1,by simpa using C.2.2,by simpa using ab.symm⟩
 obtain⟨L2,M⟩:=xV (L.set at' ({(L[at']).1 with a:=(L.length:Int)},(L[at']).2))
 obtain⟨P2,X⟩:=xV (P.set at' ({(P[at']).1 with a:=(L.length:Int)},(P[at']).2))
 rw[M,X]at c;rw[M];rw[hm]at N c ⊢;have af:Fr [g] w (w.setCell ⟨g,at'*23+1,vX⟩ (O J (m:Int))):=Fr.of_grown (QT _ _ _ _) (λj e=>by cases e;simp);have aa:=(fZ w.heap.size w).drew;have y:=zKF c;have d:Fr [g] w.drew (w.drew.setCell ⟨g,at'*23+1,vX⟩ (O J (m:Int))):=Fr.of_grown (QT _ _ _ _) (λj e=>by cases e;simp);have ad:=hid ((Fr.of_below [g] aa).trans d);have ae:=hid y;have z:=E;replace s:w.drew.cell? ⟨g,at'*23+1,vX⟩=wX (O J (P[at']).1.a):=s
 replace D:w.drew.frozen? ⟨g,at'*23+1,vX⟩=yX:=D
 replace G:w.drew.cell? ⟨bi,0,vX⟩=wX (.func (.func 204) #[] #[]):=G
 replace H:w.drew.cell? ⟨bw,0,vX⟩=wX (pX (wX ⟨k,0,vX⟩)):=H
 replace R:w.drew.cell? ⟨ba,0,vX⟩=wX (O J (at':Int)):=R
 replace N:w.drew.cell? ⟨k,2,vX⟩=wX (U (wX ⟨g,0,vX⟩) m cap):=N
 have aj:(at':Int)<(m:Int):=by have:=ac.out;omega
 have ai:(0:Int)<=(at':Int):=oM;have IN:=λ(W:wW)(G:W.cell? ⟨g,at'*23+1,vX⟩=wX (O J (P[at']).1.a))(H:W.frozen? ⟨g,at'*23+1,vX⟩=yX)=>zI7 g (at'*23) (m:Int) _ W G H
 generalize(P[at']).1.a=u at*;clear c y af aa t h A q p hl hm hn C ab E M X;go_enter func220,ntmps220;refine wp_region_held_drew (S:=λW=>W.cell? ⟨bi,0,vX⟩=wX (.func (.func 204) #[] #[])/\W.cell? ⟨bw,0,vX⟩=wX (pX (wX ⟨k,0,vX⟩))/\W.cell? ⟨ba,0,vX⟩=wX (O J (at':Int))/\W.cell? ⟨k,2,vX⟩=wX (U (wX ⟨g,0,vX⟩) m cap)) kR ⟨G,H,R,N⟩ (λl=>?_);generalize w.drew=WD at*;refine tkQ 0 ?_
 refine tkQ 1 ?_
 refine tkQ 2 ?_
 refine tkQ 3 ?_
 refine tkQ 4 ?_
 refine tkQ 5 ?_
 refine tkQ 6 ?_
 refine tkQ 7 ?_
 refine tkQ 8 ?_
 refine tkQ 9 ?_
 refine tkQ 10 ?_
 refine tkQ 11 ?_
 refine rdQ 12 (λK hK=>?_);go_simp
 refine(IN _ s D).mono ?_;rintro e w2 ⟨rfl,rfl⟩;go_wp2_with fail
 refine hkQ hK ⟨d.cell G z.out.1,d.cell H z.out.2.1,d.cell R z.out.2.2.1,d.cell N z.out.2.2.2⟩ (λl=>?_);clear hK K
 refine wpAnyH_done kR ?_ _;clear l G H R N s D d IN;go_wp2;go_end0
 exact⟨⟨_,rfl,ae.out⟩,ad.out⟩
theorem zIH(k B:Nat)(T:Nat->Nat)(s0 s1:vW)(L:List I)(lv:vW)(P:List (Wc.In×vW))(w:wW)(at':Nat)(bi bw ba:Nat)(h:WS k B T w s0 s1 L lv P)(ag:k<B)(hl:L.length<=1000000)(p:at'<L.length)
  (G:w.cell? ⟨bi,0,vX⟩=wX (.func (.func 205) #[] #[])) (H:w.cell? ⟨bw,0,vX⟩=wX (pX (wX ⟨k,0,vX⟩))) (R:w.cell? ⟨ba,0,vX⟩=wX (O J (at':Int))) (hn:∀b,lv.ownBlock=wX b->bi≠b/\bw≠b/\ba≠b) :
  Calls prog 220 #[pX (wX ⟨bi,0,vX⟩),pX (wX ⟨bw,0,vX⟩),pX (wX ⟨ba,0,vX⟩)] w λe w'=>(∃P',e=rX (uX #[])/\WS k B T w' s0 s1 (L.set at' ({(L[at']).1 with b:=(L.length:Int)},(L[at']).2)) lv P')/\Fr lv.ownBlock.toList w w':=by
 have A:=h.len;rcases h.own.2 with⟨e,h9⟩|⟨g,cap,ah,e,ak,_⟩
 ·rw[A]at h9;omega
 have q:at'<P.length:=by rw[A];exact p
 have c:=zO3 h ag e q p (L.length:Int);subst e;have t:=h.own;have s:=t.cellAt (at'*23+2) oM;have D:=t.frozenAt (at'*23+2);rw[zBW P at' q 2 (O J (P[at']).1.b) rfl]at s;rw[A]at h c hn ⊢;obtain⟨m,hm⟩:=xV L.length
 have ac:hH (at'<m/\m<=1000000):=by rw[hm]at p hl;exact⟨p,hl⟩
 have N:=h.at'.2.1 2 _ rfl;have C:=hn g rfl;have ab:g≠k:=oM;have E:hH (bi∉[g]/\bw∉[g]/\ba∉[g]/\k∉[g]):=⟨by simpa using C.1,by simpa using C.2.1,by simpa using C.2.2,by simpa using ab.symm⟩
 obtain⟨L2,M⟩:=xV (L.set at' ({(L[at']).1 with b:=(L.length:Int)},(L[at']).2))
 obtain⟨P2,X⟩:=xV (P.set at' ({(P[at']).1 with b:=(L.length:Int)},(P[at']).2))
 rw[M,X]at c;rw[M];rw[hm]at N c ⊢;have af:Fr [g] w (w.setCell ⟨g,at'*23+2,vX⟩ (O J (m:Int))):=Fr.of_grown (QT _ _ _ _) (λj e=>by cases e;simp);have aa:=(fZ w.heap.size w).drew;have y:=zKF c;have d:Fr [g] w.drew (w.drew.setCell ⟨g,at'*23+2,vX⟩ (O J (m:Int))):=Fr.of_grown (QT _ _ _ _) (λj e=>by cases e;simp);have ad:=hid ((Fr.of_below [g] aa).trans d);have ae:=hid y;have z:=E;replace s:w.drew.cell? ⟨g,at'*23+2,vX⟩=wX (O J (P[at']).1.b):=s
 replace D:w.drew.frozen? ⟨g,at'*23+2,vX⟩=yX:=D
 replace G:w.drew.cell? ⟨bi,0,vX⟩=wX (.func (.func 205) #[] #[]):=G
 replace H:w.drew.cell? ⟨bw,0,vX⟩=wX (pX (wX ⟨k,0,vX⟩)):=H
 replace R:w.drew.cell? ⟨ba,0,vX⟩=wX (O J (at':Int)):=R
 replace N:w.drew.cell? ⟨k,2,vX⟩=wX (U (wX ⟨g,0,vX⟩) m cap):=N
 have aj:(at':Int)<(m:Int):=by have:=ac.out;omega
 have ai:(0:Int)<=(at':Int):=oM;have IN:=λ(W:wW)(G:W.cell? ⟨g,at'*23+2,vX⟩=wX (O J (P[at']).1.b))(H:W.frozen? ⟨g,at'*23+2,vX⟩=yX)=>zJ7 g (at'*23) (m:Int) _ W G H
 generalize(P[at']).1.b=u at*;clear c y af aa t h A q p hl hm hn C ab E M X;go_enter func220,ntmps220;refine wp_region_held_drew (S:=λW=>W.cell? ⟨bi,0,vX⟩=wX (.func (.func 205) #[] #[])/\W.cell? ⟨bw,0,vX⟩=wX (pX (wX ⟨k,0,vX⟩))/\W.cell? ⟨ba,0,vX⟩=wX (O J (at':Int))/\W.cell? ⟨k,2,vX⟩=wX (U (wX ⟨g,0,vX⟩) m cap)) kR ⟨G,H,R,N⟩ (λl=>?_);generalize w.drew=WD at*;refine tkQ 0 ?_
 refine tkQ 1 ?_
 refine tkQ 2 ?_
 refine tkQ 3 ?_
 refine tkQ 4 ?_
 refine tkQ 5 ?_
 refine tkQ 6 ?_
 refine tkQ 7 ?_
 refine tkQ 8 ?_
 refine tkQ 9 ?_
 refine tkQ 10 ?_
 refine tkQ 11 ?_
 refine rdQ 12 (λK hK=>?_);go_simp
 refine(IN _ s D).mono ?_;rintro e w2 ⟨rfl,rfl⟩;go_wp2_with fail
 refine hkQ hK ⟨d.cell G z.out.1,d.cell H z.out.2.1,d.cell R z.out.2.2.1,d.cell N z.out.2.2.2⟩ (λl=>?_);clear hK K
 refine wpAnyH_done kR ?_ _;clear l G H R N s D d IN;go_wp2;go_end0
 exact⟨⟨_,rfl,ae.out⟩,ad.out⟩
theorem zDq{ops:Array Oper}{rest:List Oper}{a:Act}{Q:Exit->Act->wW->Prop}(l:o.guard=vX)(s x:Operand)(H:o.op=.call {callee:=.builtin .append,args:=#[s,x],argTypes:=#[84,84]})
  (w:wW) (B:Nat) (C:B<=w.heap.size) (v:vW) (A:List Int) (N:a.eval s=v) (d:OwnZ w B v A) (g:Nat) (y:Int) (R:a.eval x=U (wX ⟨g,0,vX⟩) 1 1) (e:w.cell? ⟨g,0,vX⟩=wX (O J y)) (z:True->A.length<=1000000)
  (h:∀c w',OwnZ w' B c (A++[y])->w.grownBy w' v.ownBlock->(c.ownBlock=v.ownBlock\/c.ownBlock=wX w.heap.size)->wpList prog ops Q rest (a.put o.dst c) w'):wpList prog ops Q (o::rest) a w:=by
 obtain⟨W,m,p,q,t⟩:=info_parts zIQ;have z:=z trivial;refine wpList_plain l λK D=>?_
 have b:∀j u,([O J y])[j]?=wX u->w.cell? ((⟨g,0,vX⟩:dW).add j)=wX u:=λj u hj=>by
  cases j with
  |zero=>simp only[kY,Option.some.injEq]at hj;subst hj;exact e
  |succ j=>simp at hj
 obtain⟨c,w',M,own,G,_,E⟩:=run_append_own_at (P:=prog) w B 84 o.type 3 W _ 1 8 underlying84 m p q t rfl dM v A.length (A.map (O J)) d ⟨g,0,vX⟩ 1 1 [O J y] rfl b (λu hu=>by simp at hu;subst hu;rfl) (by unfold maxLen;omega) oM C;unfold Oper.wp execOp;simp only[H,resolve,invoke,builtin,rZ,sZ,iZ,oZ,gZ,uZ,N,R,M];refine D _ _ (h c w' ?_ G E);unfold OwnZ;rw[dZ,wY];exact own
theorem OwnZ.slice{A:List Int}(h:OwnZ w B v A):∃a m c,v=U a m c:=by
 rcases h.2 with⟨e,_⟩|⟨g,cap,b,e,_⟩
 ·exact⟨_,_,_,e⟩
 ·exact⟨_,_,_,e⟩
theorem zHG(g o B:Nat)(v:Int)(tv:vW)(p:List Int)(w:wW)(K:w.cell? ⟨g,o+22,vX⟩=wX tv)(hz:w.frozen? ⟨g,o+22,vX⟩=yX)(R:OwnZ w B tv p)(H:B<=w.heap.size)(N:p.length<=1000000)(M:¬tv.ownBlock=wX g):Calls prog 207 #[pX (wX ⟨g,o,vX⟩),O J v] w λe w'=>e=rX (uX #[])/\∃tv' w1,OwnZ w1 B tv' (p++[v])/\Fr tv.ownBlock.toList w w1/\(∀j,tv'.ownBlock=wX j->tv.ownBlock=wX j\/w.heap.size<=j)/\w'=w1.setCell ⟨g,o+22,vX⟩ tv':=by
 have b:=QI (fZ _ w) (Z #[O J v] 3);have W:=AtL.new0 w 3 [O J v];have E:hH (OwnZ (w.alloc (Z #[O J v] 3)) B tv p):=R.below b;have G:hH ((w.alloc (Z #[O J v] 3)).cell? ⟨w.heap.size,0,vX⟩=wX (O J v)):=W.2.1 0 _ rfl;have C:=hid (And.intro (jZ H b.size) b.size);have X:=hid N;have D:=hid M;have s:hH ((w.alloc (Z #[O J v] 3)).cell? ⟨g,o+22,vX⟩=wX tv/\(w.alloc (Z #[O J v] 3)).frozen? ⟨g,o+22,vX⟩=yX):=⟨QB b K,by rw[(Fr.of_below [] b).frozen (Q7 K) sM];exact hz⟩
 have d:hH (Fr tv.ownBlock.toList w (w.alloc (Z #[O J v] 3))):=Fr.of_below _ b;clear W b R H N M;go_enter func207,ntmps207;go_wp2_with (first
  |(
    refine zDq rfl (mX 8) (mX 10) rfl (w.alloc (Z #[O J v] 3)) B C.out.1 tv p rfl E.out w.heap.size v rfl G.out (λ_=>X.out) ?_;intro A w1 c l m;have t:Fr tv.ownBlock.toList (w.alloc (Z #[O J v] 3)) w1:=Fr.of_grown l (λj e=>by simp[e]);have c1:=t.cell s.out.1 (λe=>D.out (by simpa using e));have z1:w1.frozen? ⟨g,o+22,vX⟩=yX:=by rw[t.frozen (Q7 s.out.1) (λe=>D.out (by simpa using e))];exact s.out.2
    have u:=hid (d.out.trans t);have y:=hid c;have z:=hid ((λj e=>by
     rcases m with q|q
     ·exact tZ (by rw[<-q];exact e)
     ·rw[q]at e;cases e;exact kZ C.out.2:∀j,A.ownBlock=wX j->tv.ownBlock=wX j\/w.heap.size<=j))
    obtain⟨a8,m8,c8,rfl⟩:=c.slice;clear c l m t E G s d))
 go_end0
 exact⟨rfl,_,_,y.out,u.out,z.out,rfl⟩
theorem zOY(h:WS k B T w s0 s1 L lv P)(X:k<B){g cap i:Nat}(R:lv=U (wX ⟨g,0,vX⟩) P.length cap)(hi:i<P.length)(M:i<L.length)(v:Int){l:vW}(G:Fr (P[i]).2.ownBlock.toList w w1)(W:OwnZ w1 (T i) l ((L[i]).2++[v]))(hn:Nx w (P[i]).2 l) :
  WS k B T (w1.setCell ⟨g,i*23+22,vX⟩ l) s0 s1 (L.set i ((L[i]).1,(L[i]).2++[v])) lv (P.set i ((P[i]).1,l))/\Fr (lv.ownBlock.toList++(P[i]).2.ownBlock.toList) w (w1.setCell ⟨g,i*23+22,vX⟩ l):=by
 have z:=(h.ins i hi M).2;have N:∀j,lv.ownBlock=wX j->j∉(P[i]).2.ownBlock.toList:=λj e m=>JR h.own z dM e (by simpa using m)
 have K:=λ(e:lv.ownBlock=wX g)=>(QL h.own e).1
 subst R;have hg:=K rfl;have p:=QZ G h.own N;have D:=p.stored (i*23+22) l;have H:Fr [g] w1 (w1.setCell ⟨g,i*23+22,vX⟩ l):=Fr.of_grown D.2 (λj e=>by cases e;simp);refine⟨⟨(h.at'.fr G (λm=>by have:=(QL z (show(P[i]).2.ownBlock=wX k by simpa using m)).1;have:=h.tb i;omega)).fr H (by simp;omega),?_,by simp[h.len],λj t u=>?_,h.tb,λa b t u c e1 e2=>?_⟩,?_⟩
 ·have:=D.1;rw[zBc P i hi ((P[i]).1,l) 22 _ rfl oM]at this;unfold OwnI;rw[xY];exact this
 ·rw[xY]at t u;by_cases e:i=j
  ·subst e;rw[lY,lY];exact⟨(h.ins i t u).1,QZ H W (λb e m=>by
    simp at m;subst m;exact JR W p dM e rfl)⟩
  ·rw[gY e,gY e];have y:=(h.ins j t u).2;have A:=QZ G y (λb s m=>e (h.dis i j hi t b (by simpa using m) s));exact⟨(h.ins j t u).1,QZ H A (λb s m=>by
    simp at m;subst m;exact JR A p dM s rfl)⟩
 ·rw[xY]at t u;have C:∀d (hd:d<P.length),¬i=d->(P[d]).2.ownBlock=wX c->l.ownBlock=wX c->False:=λd hd hid ed et=>by
   rcases hn c et with q|q
   ·exact hid (h.dis i d hi hd c q ed)
   ·have:=(QL (h.ins d hd (by rw[<-h.len];exact hd)).2 ed).2;omega
  by_cases E:i=a
  ·by_cases s:i=b
   ·omega
   ·subst E;rw[lY]at e1;rw[gY s]at e2;exact(C b u s e2 e1).elim
  ·by_cases s:i=b
   ·subst s;rw[lY]at e2;rw[gY E]at e1;exact(C a t E e1 e2).elim
   ·rw[gY E]at e1;rw[gY s]at e2;exact h.dis a b t u c e1 e2
 ·exact(G.mono (λj y=>pY _ y)).trans (H.mono (λj y=>by simp at y;subst y;exact qY _ (by simp[Value.ownBlock])))
theorem zNt(k B:Nat)(T:Nat->Nat)(s0 s1:vW)(L:List I)(lv:vW)(P:List (Wc.In×vW))(w:wW)(at':Nat)(bi bw ba:Nat)(h:WS k B T w s0 s1 L lv P)(am:k<B)(hB:T at'<=w.heap.size)(hl:L.length<=1000000)(l:at'<L.length)(c:at'<P.length)(ae:(L[at']).2.length<=1000000)
  (h1:w.cell? ⟨bi,0,vX⟩=wX (.func (.func 207) #[] #[])) (h2:w.cell? ⟨bw,0,vX⟩=wX (pX (wX ⟨k,0,vX⟩))) (h3:w.cell? ⟨ba,0,vX⟩=wX (O J (at':Int))) (hn:∀b∈[bi,bw,ba],b∉lv.ownBlock.toList++(P[at']).2.ownBlock.toList) :
  Calls prog 220 #[pX (wX ⟨bi,0,vX⟩),pX (wX ⟨bw,0,vX⟩),pX (wX ⟨ba,0,vX⟩)] w λe w'=>(∃d,e=rX (uX #[])/\WS k B T w' s0 s1 (L.set at' ((L[at']).1,(L[at']).2++[(L.length:Int)])) lv (P.set at' ((P[at']).1,d))/\Nx w (P[at']).2 d)/\Fr (lv.ownBlock.toList++(P[at']).2.ownBlock.toList) w w':=by
 have H:=h.len;rcases h.own.2 with⟨e,h9⟩|⟨g,cap,an,e,aq,_⟩
 ·rw[H]at h9;omega
 have M:=(fZ w.heap.size w).drew;have hd:=h.below M;have p:hH (∀(d:vW)(w1:wW),Fr (P[at']).2.ownBlock.toList w.drew w1->OwnZ w1 (T at') d ((L[at']).2++[(L.length:Int)])->Nx w.drew (P[at']).2 d->WS k B T (w1.setCell ⟨g,at'*23+22,vX⟩ d) s0 s1 (L.set at' ((L[at']).1,(L[at']).2++[(L.length:Int)])) lv (P.set at' ((P[at']).1,d))/\Fr (lv.ownBlock.toList++(P[at']).2.ownBlock.toList) w.drew (w1.setCell ⟨g,at'*23+22,vX⟩ d)):=λd w1 f1 ho hnx=>zOY hd am e c l _ f1 ho hnx
 have ac:hH (OwnZ w.drew (T at') (P[at']).2 (L[at']).2):=(hd.ins at' c l).2;have ak:hH (T at'<=w.drew.heap.size):=hB;have ab:=hid ae;have aa:hH (k∉lv.ownBlock.toList++(P[at']).2.ownBlock.toList):=λN=>by
  rcases List.mem_append.1 N with q|q
  ·have:=(QL h.own (show lv.ownBlock=wX k by simpa using q)).1;omega
  ·have:=(QL (h.ins at' c l).2 (show(P[at']).2.ownBlock=wX k by simpa using q)).1;have:=h.tb at';omega
 have X:hH (¬(P[at']).2.ownBlock=wX g):=λee=>JR (h.ins at' c l).2 h.own dM ee (by rw[e];rfl)
 have y:=hid hn;have G:hH (Fr (lv.ownBlock.toList++(P[at']).2.ownBlock.toList) w w.drew):=Fr.of_below _ M;have u:OwnI w.drew B (U (wX ⟨g,0,vX⟩) P.length cap) P:=by rw[<-e];exact hd.own
 have A:=u.cellAt (at'*23+22) oM;have ai:=u.frozenAt (at'*23+22);rw[zBW P at' c 22 (P[at']).2 rfl]at A;have c2:=hd.at'.2.1 2 _ rfl;rw[e,H]at c2;replace h1:w.drew.cell? ⟨bi,0,vX⟩=wX (.func (.func 207) #[] #[]):=h1
 replace h2:w.drew.cell? ⟨bw,0,vX⟩=wX (pX (wX ⟨k,0,vX⟩)):=h2
 replace h3:w.drew.cell? ⟨ba,0,vX⟩=wX (O J (at':Int)):=h3
 have IN:=λ(W:wW)(q1:W.cell? ⟨g,at'*23+22,vX⟩=wX (P[at']).2)(q2:W.frozen? ⟨g,at'*23+22,vX⟩=yX)(q3:OwnZ W (T at') (P[at']).2 (L[at']).2)(q4:T at'<=W.heap.size)(q5:(L[at']).2.length<=1000000)(q6:¬(P[at']).2.ownBlock=wX g)=>zHG g (at'*23) (T at') (L.length:Int) (P[at']).2 (L[at']).2 W q1 q2 q3 q4 q5 q6
 obtain⟨m,N⟩:=xV L.length
 have aj:hH (at'<m/\m<=1000000):=by rw[N]at l hl;exact⟨l,hl⟩
 rw[N]at c2;have HM:=hid N;simp only[N]at IN p ⊢;have ap:(at':Int)<(m:Int):=by have:=aj.out;omega
 have ao:(0:Int)<=(at':Int):=oM;obtain⟨tv,af⟩:=xV ((P[at']).2)
 obtain⟨tl,D⟩:=xV ((L[at']).2)
 obtain⟨xi,ag⟩:∃x,(P[at']).1=x:=⟨_,rfl⟩
 obtain⟨xl,ah⟩:∃x,(L[at']).1=x:=⟨_,rfl⟩
 simp only[af,D,ag,ah]at IN p ac ab aa X y G A ⊢;clear af D ag ah u hd M h H N hn e l hl ae c hB;go_enter func220,ntmps220;refine wp_region_held_drew (S:=λW=>W.cell? ⟨bi,0,vX⟩=wX (.func (.func 207) #[] #[])/\W.cell? ⟨bw,0,vX⟩=wX (pX (wX ⟨k,0,vX⟩))/\W.cell? ⟨ba,0,vX⟩=wX (O J (at':Int))/\W.cell? ⟨k,2,vX⟩=wX (U (wX ⟨g,0,vX⟩) m cap)) kR ⟨h1,h2,h3,c2⟩ (λs=>?_);generalize w.drew=WD at*;refine tkQ 0 ?_
 refine tkQ 1 ?_
 refine tkQ 2 ?_
 refine tkQ 3 ?_
 refine tkQ 4 ?_
 refine tkQ 5 ?_
 refine tkQ 6 ?_
 refine tkQ 7 ?_
 refine tkQ 8 ?_
 refine tkQ 9 ?_
 refine tkQ 10 ?_
 refine tkQ 11 ?_
 refine rdQ 12 (λK hK=>?_);go_simp
 refine(IN WD A ai ac.out ak.out ab.out X.out).mono ?_;rintro e w2 ⟨rfl,C,w1,E,f1,R,rfl⟩;have z:=p.out C w1 f1 E R;have t:=z.2;go_wp2_with fail
 refine hkQ hK ⟨t.cell h1 (y.out bi sM),t.cell h2 (y.out bw sM),t.cell h3 (y.out ba sM),t.cell c2 aa.out⟩ (λs=>?_);clear hK K
 refine wpAnyH_done kR ?_ _;have ad:hH (WS k B T (w1.setCell ⟨g,at'*23+22,vX⟩ C) s0 s1 (L.set at' (xl,tl++[(m:Int)])) lv (P.set at' (xi,C))/\Nx w tv C):=⟨z.1,λj e=>(R j e).imp id (jZ G.out.size)⟩
 have al:=G.out.trans z.2;clear s h1 h2 h3 c2 A ai t IN z E f1 R;go_wp2;go_end0
 exact⟨⟨_,rfl,ad.out.1,ad.out.2⟩,al⟩
theorem zEv(own:Int)(nm:List ByteArray)(j:Option dW)(m cap:Nat)(r:Wt.Rf)(w:wW)(hm:m=nm.length)(hl:nm.length<=16)(hR:RdS w j nm):CR 116 #[Jn own j m cap,gX (rf5 r).toArray] w (gX #[O J (shN own nm r.s),O J r.r,O J r.c]):=by
 have SH:=λ(W:wW)(h:RdS W j nm)=>zBl own nm r.s j m cap W hm hl h
 generalize shN own nm r.s=p at*;have X:=QI (QI (QI (fZ _ w) (Z #[O J own,U j m cap] 154)) (Z #[V r.s,O J r.r,O J r.c,Y r.fr,Y r.fc] 95)) (Z #[O J 0,O J 0,O J 0] 36);have pS:=((AtL.new0 w 154 [O J own,U j m cap]).alloc (Z #[V r.s,O J r.r,O J r.c,Y r.fr,Y r.fc] 95)).alloc (Z #[O J 0,O J 0,O J 0] 36);have pR:=(AtL.new1 w (Z #[O J own,U j m cap] 154) 95 [V r.s,O J r.r,O J r.c,Y r.fr,Y r.fc]).alloc (Z #[O J 0,O J 0,O J 0] 36);have pC:AtL (((w.alloc (Z #[O J own,U j m cap] 154)).alloc (Z #[V r.s,O J r.r,O J r.c,Y r.fr,Y r.fc] 95)).alloc (Z #[O J 0,O J 0,O J 0] 36)) (w.heap.size+2) [O J 0,O J 0,O J 0]:=AtL.new _ _ sM _;have y:hH (RdS (((w.alloc (Z #[O J own,U j m cap] 154)).alloc (Z #[V r.s,O J r.r,O J r.c,Y r.fr,Y r.fc] 95)).alloc (Z #[O J 0,O J 0,O J 0] 36)) j nm):=hR.below X;clear hm hl hR;unfold rf5;go_enter func116,ntmps116;go_upto_region 1 with fail
 generalize(((w.alloc (Z #[O J own,U j m cap] 154)).alloc (Z #[V r.s,O J r.r,O J r.c,Y r.fr,Y r.fc] 95)).alloc (Z #[O J 0,O J 0,O J 0] 36))=E at*;have t:=(fZ E.heap.size E).drew;have q:=AtL.below t pS;have l:=AtL.below t pR;have D:=AtL.below t pC;have z:=QA X t;have R:hH (RdS E.drew j nm):=y.out.below t;have s0:=q.2.1 0 _ rfl;have s1:=q.2.1 1 _ rfl;have r0:=l.2.1 0 _ rfl;have G:=l.2.1 1 _ rfl;have H:=l.2.1 2 _ rfl;clear t pS pR pC q l X y;refine wp_region_held_drew (S:=λW=>W.cell? ⟨w.heap.size,0,vX⟩=wX (O J own)/\W.cell? ⟨w.heap.size,1,vX⟩=wX (U j m cap)/\W.cell? ⟨w.heap.size+1,0,vX⟩=wX (V r.s)/\W.cell? ⟨w.heap.size+1,1,vX⟩=wX (O J r.r)/\W.cell? ⟨w.heap.size+1,2,vX⟩=wX (O J r.c)) kR ⟨s0,s1,r0,G,H⟩ (λg=>?_);generalize E.drew=WD at*;refine tkQ 0 ?_
 refine tkQ 1 ?_
 refine tkQ 2 ?_
 refine tkQ 4 ?_
 refine tkQ 5 ?_
 refine tkQ 6 ?_
 refine tkQ 7 ?_
 refine rdQ 3 (λK C=>?_);go_simp
 refine(SH WD R.out).mono ?_;rintro e u ⟨rfl,b⟩;go_wp2_with fail
 refine hkQ C ⟨QB b s0,QB b s1,QB b r0,QB b G,QB b H⟩ (λg=>?_);clear C K
 have A:=QA z b;have d:=AtL.below b D;refine tkQ 8 ?_
 have k0:=d.2.1 0 _ rfl;have k1:=d.2.1 1 _ rfl;have k2:=d.2.1 2 _ rfl;have z0:=d.2.2 0 sM;have z1:=d.2.2 1 sM;have z2:=d.2.2 2 sM;refine rdQ 9 (λK C=>?_);go_simp
 have fr:Fr [w.heap.size+2] u (((u.setCell ⟨w.heap.size+2,0,vX⟩ (O J p)).setCell ⟨w.heap.size+2,1,vX⟩ (O J r.r)).setCell ⟨w.heap.size+2,2,vX⟩ (O J r.c)):=zCt;have pF:AtL (u.setCells (w.heap.size+2) 0 [O J p,O J r.r,O J r.c]) (w.heap.size+2) [O J p,O J r.r,O J r.c]:=d.setAll rfl;have N:hH ((((u.setCell ⟨w.heap.size+2,0,vX⟩ (O J p)).setCell ⟨w.heap.size+2,1,vX⟩ (O J r.r)).setCell ⟨w.heap.size+2,2,vX⟩ (O J r.c)).rangeAt (w.heap.size+2) 0 [O J p,O J r.r,O J r.c]):=pF.range;have M:hH (bL w (((u.setCell ⟨w.heap.size+2,0,vX⟩ (O J p)).setCell ⟨w.heap.size+2,1,vX⟩ (O J r.r)).setCell ⟨w.heap.size+2,2,vX⟩ (O J r.c))):=zBg A fr (λk hk=>by simp at hk;omega);refine hkQ C ⟨fr.cell (QB b s0) sM,fr.cell (QB b s1) sM,fr.cell (QB b r0) sM,fr.cell (QB b G) sM,fr.cell (QB b H) sM⟩ (λg=>?_);clear C K
 refine wpAnyH_done kR ?_ _;clear g fr pF k0 k1 k2 z0 z1 z2 d D A z b s0 s1 r0 G H;generalize(((u.setCell ⟨w.heap.size+2,0,vX⟩ (O J p)).setCell ⟨w.heap.size+2,1,vX⟩ (O J r.r)).setCell ⟨w.heap.size+2,2,vX⟩ (O J r.c))=WF at*;go_wp2;refine bodyPost_ret (Q3 (by rfl) _ _ (w.heap.size+2) [O J p,O J r.r,O J r.c] _ (by rfl) N.out underlying36 rfl kR) rfl ⟨rfl,M.out⟩
theorem zCg(own:Int)(nm:List ByteArray)(d:Option dW)(m cap:Nat)(x:Wt.Nd)(w:wW)(X:RtN x)(N:m=nm.length)(M:nm.length<=16)(K:RdS w d nm):CR 180 #[Jn own d m cap,gX (QM x).toArray] w (gX (ar5 (Qi own nm x)).toArray):=by
 have A:hH (∀(W:wW),RdS W d nm->CR 148 #[Jn own d m cap,V x.a.s] W (O J (shN own nm x.a.s))):=λW h=>zBl own nm x.a.s d m cap W N M h
 have G:=λW=>zCk x W X
 have C:Qi own nm x = {Jg x with s:=shN own nm x.a.s}:=rfl;rw[C];generalize shN own nm x.a.s=sn at*;generalize Jg x=rc at*;have j:=QI (QI (QI (fZ _ w) (Z #[O J own,U d m cap] 154)) (Z (QM x).toArray 97)) (Z #[O J 0,O J 0,O J 0,O J 0,O J 0] 83);have t:=((AtL.new0 w 154 [O J own,U d m cap]).alloc (Z (QM x).toArray 97)).alloc (Z #[O J 0,O J 0,O J 0,O J 0,O J 0] 83);have q:=(AtL.new1 w (Z #[O J own,U d m cap] 154) 97 (QM x)).alloc (Z #[O J 0,O J 0,O J 0,O J 0,O J 0] 83);have pA:AtL (((w.alloc (Z #[O J own,U d m cap] 154)).alloc (Z (QM x).toArray 97)).alloc (Z #[O J 0,O J 0,O J 0,O J 0,O J 0] 83)) (w.heap.size+2) [O J 0,O J 0,O J 0,O J 0,O J 0]:=AtL.new _ _ sM _;have u:=hid (K.below j);clear N M K X C;go_enter func180,ntmps180;go_upto_region 1 with fail
 generalize(((w.alloc (Z #[O J own,U d m cap] 154)).alloc (Z (QM x).toArray 97)).alloc (Z #[O J 0,O J 0,O J 0,O J 0,O J 0] 83))=W3 at*;have rN:=q.range;go_wp2_with (first|(refine ldQ 97 (mX 3) (w.heap.size+1) 0 (QM x) _ rN underlying97 ?_))
 refine(G _).mono ?_;rintro e w1 ⟨rfl,b⟩;replace j:=QA j b
 replace t:=AtL.below b t
 replace q:=AtL.below b q
 replace pA:=AtL.below b pA
 have y:=hid (u.out.below b);have g:=hid (And.intro j.size pA.lt);clear G rN b u;have c:=QI (fZ _ w1) (Z (ar5 rc).toArray 83);have D:=AtL.new0 w1 83 (ar5 rc);replace j:=QA j c
 replace t:=AtL.below c t
 replace q:=AtL.below c q
 replace pA:=AtL.below c pA
 have z:=hid (y.out.below c);clear c y;go_upto_region 2 with fail
 generalize(w1.alloc (Z (ar5 rc).toArray 83))=W4 at*;obtain⟨rb,p⟩:∃k,w1.heap.size=k:=⟨_,rfl⟩
 rw[p]at D g;simp only[p];clear p;have s0:=t.2.1 0 _ rfl;have s1:=t.2.1 1 _ rfl;have E:=q.2.1 10 (V x.a.s) rfl;have H:=A.out W4 z.out;go_wp2_with fail
 refine H.mono ?_;rintro e w5 ⟨rfl,l⟩;replace j:=QA j l
 replace pA:=AtL.below l pA
 replace D:=AtL.below l D
 clear H s0 s1 E t q l z A;obtain⟨b0,b1,b2,b3,b4,k0,k1,k2,k3,k4⟩:=pA.five;obtain⟨r0,r1,r2,r3,r4,q0,_,_,_,_⟩:=D.five;have ab:¬rb=w.heap.size+2:=by have:=g.out;omega
 have R:¬w.heap.size+2=rb:=by have:=g.out;omega
 have aa:=g.out.1;go_wp2;refine bodyPost_ret (v:=gX (ar5 {rc with s:=sn}).toArray) (by simp[results,results180,go_sem,b0,b1,b2,b3,b4]) rfl ⟨rfl,(clB j)⟩
theorem zSh(o:Int)(w:wW):(Instr.build 86 #[(0,O J o)]).run prog w=.ok (gX (QE (ins o 0 0).1 QN).toArray) w:=kR
theorem zSd(o a:Int)(w:wW):(Instr.build 86 #[(0,O J o),(1,O J a)]).run prog w=.ok (gX (QE (ins o a 0).1 QN).toArray) w:=kR
theorem zSe(o a b:Int)(w:wW):(Instr.build 86 #[(0,O J o),(1,O J a),(2,O J b)]).run prog w=.ok (gX (QE (ins o a b).1 QN).toArray) w:=kR
theorem zSP(v:Wt.Vl)(w:wW):(Instr.build 86 #[(0,O J 1),(3,gX (vl6 v).toArray)]).run prog w=.ok (gX (QE (Jt v).1 QN).toArray) w:=kR
theorem zSX(c:Wpl.Cl)(w:wW):(Instr.build 86 #[(0,O J 2),(4,gX #[O J c.s,O J c.r,O J c.c])]).run prog w=.ok (gX (QE (zPN c).1 QN).toArray) w:=kR
theorem zSI(a:Wpl.Ar)(w:wW):(Instr.build 86 #[(0,O J 8),(5,gX (ar5 a).toArray)]).run prog w=.ok (gX (QE (Jz 8 0 a a0I).1 QN).toArray) w:=kR
theorem zSU(a b:Wpl.Ar)(w:wW):(Instr.build 86 #[(0,O J 9),(5,gX (ar5 a).toArray),(6,gX (ar5 b).toArray)]).run prog w=.ok (gX (QE (Jz 9 0 a b).1 QN).toArray) w:=kR
theorem zSc(a:Wpl.Ar)(b:Int)(w:wW):(Instr.build 86 #[(0,O J 11),(5,gX (ar5 a).toArray),(2,O J b)]).run prog w=.ok (gX (QE (Jz 11 b a a0I).1 QN).toArray) w:=kR
theorem Qo(b:op.guard=vX)(o:Int)(d:op.op=.build 86 #[(0,.const (O J o))])
  (h:wpList prog ops Q rest (a.put op.dst (gX (QE (ins o 0 0).1 QN).toArray)) w):wpList prog ops Q (op::rest) a w:=by
 refine wpList_plain b λK c=>?_
 unfold Oper.wp execOp;have e:a.eval (.const (O J o))=O J o:=rfl;simp only[d,oZ,gZ,uZ,e,rZ,sZ,iZ,zSh];exact c _ _ h
theorem zAU(b:op.guard=vX)(o:Int)(y:Operand)(d:op.op=.build 86 #[(0,.const (O J o)),(1,y)])(v:Int)(g:a.eval y=O J v)
  (h:wpList prog ops Q rest (a.put op.dst (gX (QE (ins o v 0).1 QN).toArray)) w):wpList prog ops Q (op::rest) a w:=by
 refine wpList_plain b λK c=>?_
 unfold Oper.wp execOp;have e:a.eval (.const (O J o))=O J o:=rfl;simp only[d,oZ,gZ,uZ,e,g,rZ,sZ,iZ,zSd];exact c _ _ h
theorem zEh(b:op.guard=vX)(o:Int)(y z:Operand)(d:op.op=.build 86 #[(0,.const (O J o)),(1,y),(2,z)])(v u:Int)(g:a.eval y=O J v)(j:a.eval z=O J u)
  (h:wpList prog ops Q rest (a.put op.dst (gX (QE (ins o v u).1 QN).toArray)) w):wpList prog ops Q (op::rest) a w:=by
 refine wpList_plain b λK c=>?_
 unfold Oper.wp execOp;have e:a.eval (.const (O J o))=O J o:=rfl;simp only[d,oZ,gZ,uZ,e,g,j,rZ,sZ,iZ,zSe];exact c _ _ h
theorem zE6(b:op.guard=vX)(y:Operand)(d:op.op=.build 86 #[(0,.const (O J 1)),(3,y)])(v:Wt.Vl)(g:a.eval y=gX (vl6 v).toArray)
  (h:wpList prog ops Q rest (a.put op.dst (gX (QE (Jt v).1 QN).toArray)) w):wpList prog ops Q (op::rest) a w:=by
 refine wpList_plain b λK c=>?_
 unfold Oper.wp execOp;have e:a.eval (.const (O J 1))=O J 1:=rfl;simp only[d,oZ,gZ,uZ,e,g,rZ,sZ,iZ,zSP];exact c _ _ h
theorem WP.from(b:bL w w1){e:Ending}{w':wW}(h:WP k B T s0 s1 L lv w1 e w'):WP k B T s0 s1 L lv w e w':=by
 obtain⟨⟨lv',c,rfl,d,g⟩,l⟩:=h;exact⟨⟨lv',c,rfl,d,λj e=>(g j e).imp id (jZ b.size)⟩,(Fr.of_below _ b).trans l⟩
theorem zEl(k B:Nat)(T:Nat->Nat)(v:Wt.Vl)(s0 s1:vW)(L:List I)(lv:vW)(P:List (Wc.In×vW))(w:wW)(h:WS k B T w s0 s1 L lv P)(c:k<B)(p:B<=w.heap.size)(s:L.length<=1000000) :
  Calls prog 115 #[pX (wX ⟨k,0,vX⟩),gX (vl6 v).toArray] w (WP k B T s0 s1 (L++[Jt v]) lv w):=by
 have b:=QI (fZ _ w) (Z (vl6 v).toArray 64);have t:=AtL.new0 w 64 (vl6 v);have d:=JA k B T (Jt v).1 s0 s1 L lv P _ (h.below b) c (jZ p b.size) s;have A:hH (∀e w',WP k B T s0 s1 (L++[Jt v]) lv (w.alloc (Z (vl6 v).toArray 64)) e w'->WP k B T s0 s1 (L++[Jt v]) lv w e w'):=λe w' q=>q.from b
 have u:=t.range;clear h c p s b t;go_enter func115,ntmps115;go_upto_region 1 with fail
 generalize(w.alloc (Z (vl6 v).toArray 64))=W at*;go_wp2_with (first|(refine ldQ 64 (mX 3) w.heap.size 0 (vl6 v) _ u underlying64 ?_)|(refine zE6 rfl (mX 5) rfl v rfl ?_))
 refine d.mono ?_;rintro e w1 g;have y:=A.out e w1 g;obtain⟨⟨lv',C,rfl,j,l⟩,m⟩:=y;clear g d u;have z:hH (WP k B T s0 s1 (L++[Jt v]) lv w (rX (uX #[])) w1):=⟨⟨lv',C,rfl,j,l⟩,m⟩
 clear j l m;go_wp2;go_end0
 exact z.out
theorem zF1(k B:Nat)(T:Nat->Nat)(n:Int)(A:0<=n/\n<=65536)(s0 s1:vW)(L:List I)(lv:vW)(P:List (Wc.In×vW))(w:wW)(h:WS k B T w s0 s1 L lv P)(d:k<B)(s:B<=w.heap.size)(t:L.length<=1000000) :
  Calls prog 183 #[pX (wX ⟨k,0,vX⟩),O J n] w (WP k B T s0 s1 (L++[Jt (VP n)]) lv w):=by
 have j:=zDA n 1 w oM oM oM oM;have g:Vx n 1=VP n:=by
  have C:Wnum.rightB n 1=xX:=by
   unfold Wnum.rightB;simp;omega
  simp[Vx,VP,Wnum.cN,Wnum.cD,C]
 rw[g]at j;have c:hH (∀w1:wW,bL w w1->Calls prog 115 #[pX (wX ⟨k,0,vX⟩),gX (vl6 (VP n)).toArray] w1 (WP k B T s0 s1 (L++[Jt (VP n)]) lv w1)):=λw1 hb=>zEl k B T (VP n) s0 s1 L lv P w1 (h.below hb) d (jZ s hb.size) t
 clear h d s t g A;unfold vlV at j;go_enter func183,ntmps183;go_wp2_with fail
 refine j.mono ?_;rintro e w1 ⟨rfl,b⟩;have m:=c.out w1 b;clear j c;generalize VP n=D at*;go_wp2_with fail
 refine m.mono ?_;rintro e E l;have u:=l.from b
 obtain⟨⟨lv',z,rfl,l,p⟩,q⟩:=u;have y:hH (WP k B T s0 s1 (L++[Jt D]) lv w (rX (uX #[])) E):=⟨⟨lv',z,rfl,l,p⟩,q⟩
 clear l p q m b;go_wp2;go_end0
 exact y.out
def JP(k B:Nat)(T:Nat->Nat)(s0 s1:vW)(L:List I)(lv:vW)(w:wW)(e:Ending)(w':wW):Prop :=
 (∃cl c lv' d,e=rX cl/\Cl k w' 204 L.length c cl/\(∀b∈c,w.heap.size<=b/\b<w'.heap.size/\¬lv'.ownBlock=wX b)/\WS k B T w' s0 s1 (L++[ins 13 0 0]) lv' d/\Nx w lv lv')/\Fr (k::lv.ownBlock.toList) w w'
theorem zOP(k B:Nat)(T:Nat->Nat)(s0 s1:vW)(L:List I)(lv:vW)(P:List (Wc.In×vW))(w:wW)(h:WS k B T w s0 s1 L lv P)(p:k<B)(G:B<=w.heap.size)(H:L.length<=999999) :
  Calls prog 206 #[pX (wX ⟨k,0,vX⟩)] w (JP k B T s0 s1 L lv w):=by
 have E:=JA k B T (ins 13 0 0).1 s0 s1 L lv P w h p G oM;have u:=hid H;unfold JP;clear h p G H;go_enter func206,ntmps206;go_wp2_with (first|(refine Qo rfl 13 rfl ?_))
 refine E.mono ?_;rintro e w1 ⟨⟨q,P1,rfl,j,s⟩,m⟩;have y:=zB9 k B 204 T s0 s1 _ q P1 w1 j sM (by have:=u.out;simp;omega);rw[show(L++[((ins 13 0 0).1,([]:List Int))]).length-1=L.length from by simp]at y;have D:=hid (And.intro j (And.intro s m));clear E j s m;go_wp2_with fail
 refine y.mono ?_;rintro e t ⟨⟨cl,l,rfl,g,c⟩,d⟩;have C:∃bi bw ba,cl=.func (.func 220) #[] #[pX (wX ⟨bi,0,vX⟩),pX (wX ⟨bw,0,vX⟩),pX (wX ⟨ba,0,vX⟩)]:=by
  obtain⟨bi,bw,ba,_,e,_⟩:=g;exact⟨bi,bw,ba,e⟩
 have N:hH ((∃l lv' z,Cl k t 204 L.length l cl/\(∀b∈l,w.heap.size<=b/\b<t.heap.size/\¬lv'.ownBlock=wX b)/\WS k B T t s0 s1 (L++[ins 13 0 0]) lv' z/\Nx w lv lv')/\Fr (k::lv.ownBlock.toList) w t):=by
  obtain⟨K,R,M⟩:=D.out;refine⟨⟨l,q,P1,g,λb A=>⟨jZ M.size (c b A).1,(c b A).2,λe=>?_⟩,K.below d,R⟩,M.trans (Fr.of_below _ d)⟩;have:=(QL K.own e).2;have:=(c b A).1;omega
 obtain⟨bi,bw,ba,rfl⟩:=C;clear y D g c d;go_wp2;go_ret;obtain⟨⟨l,lv',z,W,X,r3,r4⟩,r5⟩:=N.out;exact⟨⟨_,l,lv',z,rfl,W,X,r3,r4⟩,r5⟩
structure En(own:Int)(nm:List ByteArray)(av2:Option dW)(m2 cap2 k B:Nat)(T:Nat->Nat)(hi:Nat)(w:wW):Prop where
 na:NmAt w
 rs:RdS w av2 nm
 hm:m2=nm.length
 hl:nm.length<=16
 rk:∀bb off,av2=wX ⟨bb,off,vX⟩->bb<k
 gk:2<k
 hk:hi<=k
 kB:k<B
 hB:B<=w.heap.size
 tl:∀i,T i<=w.heap.size
theorem En.fr(h:En own nm av2 m2 cap2 k B T hi w){S:List Nat}(f:Fr S w w')(l:∀j∈S,k<=j):En own nm av2 m2 cap2 k B T hi w' :=
 ⟨λj v p=>f.cell (h.na j v p) (λd=>by have:=l _ d;have:=h.gk;omega),λi c=>by
  obtain⟨g,b,e,m⟩:=h.rs i c;exact⟨g,b,e,f.cell m (λd=>by have:=l _ d;have:=h.rk g b e;omega)⟩,h.hm,h.hl,h.rk,h.gk,h.hk,h.kB,jZ h.hB f.size,λi=>jZ (h.tl i) f.size⟩
theorem En.below(h:En own nm av2 m2 cap2 k B T hi w)(b:bL w w'):En own nm av2 m2 cap2 k B T hi w':=h.fr (Fr.of_below [] b) sM
theorem zO7(h:WS k B T w s0 s1 L lv P)(b:k<B):∀j∈k::lv.ownBlock.toList,k<=j:=λj hj=>by
 rcases List.mem_cons.1 hj with q|q
 ·omega
 ·have:=(QL h.own (show lv.ownBlock=wX j by simpa using q)).1;omega
theorem zCz{α:Type}(f:α->Nat->List I):∀(l m:List α)(a:Nat),Qc f (l++m) a=Qc f l a++Qc f m (a+(Qc f l a).length)
 |[],m,a=>by simp[Qc]
 |x::l,m,a=>by
  simp only[wZ,Qc,zCz f l m,hZ,dZ];rw[Nat.add_assoc]
theorem zBf{α:Type}(f:α->Nat->List I)(l:List α)(i:Nat)(h:i<l.length)(a:Nat):Qc f (l.take (i+1)) a=Qc f (l.take i) a++f l[i] (a+(Qc f (l.take i) a).length):=by
 rw[dY h,zCz];simp[Qc]
theorem zEo{α:Type}(f:α->Nat->List I)(l:List α)(i:Nat)(a:Nat):(Qc f (l.take i) a).length<=(Qc f l a).length:=by
 have h:Qc f l a=Qc f (l.take i++l.drop i) a:=by rw[dX]
 rw[h,zCz,dZ];omega
section
variable (own:Int)(nm:List ByteArray)(av2:Option dW)(m2 cap2:Nat)
def Wr(n:Nat)(t:Tr n):Prop:=VD n t/\VC own nm n t=0/\isA (hd n t)=yX
def PtC(n:Nat):Prop:=∀(t:Tr n)(sl:vW)(lo hi k B:Nat)(T:Nat->Nat)(w:wW)(L:List I)(lv:vW)(P:List (Wc.In×vW)),Wr own nm n t->PA n lo hi w t sl->En own nm av2 m2 cap2 k B T hi w->WS k B T w (O J own) (U av2 m2 cap2) L lv P->L.length+(cod own nm n t L.length).length<=900000 ->
 Calls prog 85 #[pX (wX ⟨k,0,vX⟩),gX (QO (hd n t) sl).toArray] w (WP k B T (O J own) (U av2 m2 cap2) (L++cod own nm n t L.length) lv w)
def AlC(n:Nat):Prop:=∀(b:List (Tr n×vW))(c:Option dW)(m cap lo hi k B:Nat)(T:Nat->Nat)(w:wW)(L:List I)(lv:vW)(P:List (Wc.In×vW)),m=b.length->b.length<=30->(∀p∈b,Wr own nm n p.1)->(∀p∈b,PA n lo hi w p.1 p.2)->RdQ w c (b.map λp=>(hd n p.1,p.2))->(0<b.length->∀bb off,c=wX ⟨bb,off,vX⟩->∀j,lv.ownBlock=wX j->bb≠j)->(0<b.length->∀bb off,c=wX ⟨bb,off,vX⟩->bb≠k/\bb<w.heap.size)->En own nm av2 m2 cap2 k B T hi w->WS k B T w (O J own) (U av2 m2 cap2) L lv P->L.length+(Qc (cod own nm n) (b.map (·.1)) L.length).length<=900000 ->
 Calls prog 117 #[pX (wX ⟨k,0,vX⟩),U c m cap] w (WP k B T (O J own) (U av2 m2 cap2) (L++Qc (cod own nm n) (b.map (·.1)) L.length) lv w)
end
theorem zGU(own:Int)(nm:List ByteArray)(av2:Option dW)(m2 cap2 n:Nat)(ih:PtC own nm av2 m2 cap2 n):AlC own nm av2 m2 cap2 n:=by
 intro b av m cap lo hi k B T w L lv P hm hl hw s aq al E l ab am;have HM:hH (m=b.length/\b.length<=30):=⟨hm,hl⟩
 have HW:hH (∀p∈b,Wr own nm n p.1):=hw;have aD:hH (∀p∈b,PA n lo hi w p.1 p.2):=s;have aE:hH (RdQ w av (b.map λp=>(hd n p.1,p.2))):=aq;have ac:hH ((0<b.length->∀t d,av=wX ⟨t,d,vX⟩->∀j,lv.ownBlock=wX j->t≠j)/\(0<b.length->∀t d,av=wX ⟨t,d,vX⟩->t≠k/\t<w.heap.size)):=⟨al,E⟩
 have ad:=hid l;have az:=hid am;have aB:=hid ih;have ae:=hid (zO7 ab l.kB);have ai:hH (WS k B T w (O J own) (U av2 m2 cap2) (L++Qc (cod own nm n) ((b.map (·.1)).take 0) L.length) lv P):=by show WS _ _ _ _ _ _ _ _ _;simpa[Qc]using ab
 obtain⟨LF,N⟩:=xV (L++Qc (cod own nm n) (b.map (·.1)) L.length)
 rw[N];have aC:=hid N;clear hm hl hw s aq al E l ab am ih N;go_enter func117,ntmps117;go_wp2_with fail
 go_loopg [5,8] m (λgk u x wr=>∃(i:Nat),x=O J (i:Int)/\gk=m-i/\i<=m/\hH (∃lvi Pi,WS k B T wr (O J own) (U av2 m2 cap2) (L++Qc (cod own nm n) ((b.map (·.1)).take i) L.length) lvi Pi/\Nx w lv lvi)/\hH (Fr (k::lv.ownBlock.toList) w wr))
 case atStart=>exact⟨0,rfl,rfl,uY _,⟨lv,P,ai.out,Nx.refl _ _⟩,Fr.refl _ _⟩
 case round =>
  clear ai;obtain⟨i,rfl,hg,aK,HS,G⟩:=hrel;by_cases aI:i<m
  ·have aH:(i:Int)<(m:Int):=oM;have aL:(0:Int)<=(i:Int):=oM;have aM:J.wrap ((i:Int)+1)=(i:Int)+1:=by have:=HM.out;rw[jY];omega
   have z:i<b.length:=by have:=HM.out;omega
   obtain⟨t,d,rfl,X⟩:=aE.out i (by simpa using z);simp only[qZ]at X;have an:t∉k::lv.ownBlock.toList:=λhm=>by
    rcases List.mem_cons.1 hm with q|q
    ·exact(ac.out.2 oM t d rfl).1 q
    ·exact ac.out.1 oM t d rfl t (by simpa using q) rfl
   have hr:=G.out.range X an;have R:=xZ z;have ao:Kept lo hi w wr:=Kept.of_fr G.out (λj hj=>by have:=ae.out j hj;have:=ad.out.hk;omega);have s:=PA.kept ao n _ _ (aD.out _ R);obtain⟨A,C,D,ar⟩:=s.slice;have l:=ad.out.fr G.out ae.out;obtain⟨lvi,Pi,ay,aw⟩:=HS.out;have c:=zBf (cod own nm n) (b.map (·.1)) i (by simpa using z) L.length;have ap:=zEo (cod own nm n) (b.map (·.1)) (i+1) L.length;rw[c,dZ,qZ]at ap;rw[qZ]at c;have g:=λ(W:wW)(hb:bL wr W)=>aB.out (b[i]).1 (b[i]).2 lo hi k B T W _ lvi Pi (HW.out _ R) (PA.kept (Kept.of_below hb) n _ _ s) (l.below hb) (ay.below hb) (by rw[dZ];have:=az.out;omega)
   have aa:nY (wr.alloc (Z zeros21 158)) wr.heap.size 0 (QO (hd n (b[i]).1) (U A C D)).toArray.size:=(AtL.new0 wr _ _:AtL (wr.alloc (Z zeros21 158)) wr.heap.size zeros21.toList).there;rw[ar]at g hr;rw[dZ]at g;have K:hH (L++Qc (cod own nm n) ((b.map (·.1)).take (i+1)) L.length=(L++Qc (cod own nm n) ((b.map (·.1)).take i) L.length)++cod own nm n (b[i]).1 (L.length+(Qc (cod own nm n) ((b.map (·.1)).take i) L.length).length)):=by show _=_;rw[c,hZ]
   obtain⟨y,hy⟩:=xV (hd n (b[i]).1)
   rw[hy]at g hr aa;obtain⟨LN,ak⟩:=xV ((L++Qc (cod own nm n) ((b.map (·.1)).take i) L.length)++cod own nm n (b[i]).1 (L.length+(Qc (cod own nm n) ((b.map (·.1)).take i) L.length).length))
   rw[ak]at g K;have H:=hid aw;clear c ap ar hy ak s ao X an R z aw ay l HS;have ag:hH (AtL ((wr.alloc (Z zeros21 158)).setCells wr.heap.size 0 (QO y (U A C D))) wr.heap.size (QO y (U A C D))):=(AtL.new0 wr _ _:AtL (wr.alloc (Z zeros21 158)) wr.heap.size zeros21.toList).setAll rfl;have M:bL wr ((wr.alloc (Z zeros21 158)).setCells wr.heap.size 0 (QO y (U A C D))):=Ql (QI (fZ _ wr) _) (yZ _) _ 0;have PT:=g _ M;have af:hH (bL wr ((wr.alloc (Z zeros21 158)).setCells wr.heap.size 0 (QO y (U A C D)))):=M;clear g M;go_upto_region 3 with(first|(refine ldQ 158 (mX 10) t (d+i*21) (QO y (U A C D)) _ hr underlying158 ?_)|((with_reducible refine stQ 158 (mX 5) (mX 11) wr.heap.size 0 (QO y (U A C D)).toArray ?_ ?_ ?_);exact aa;exact Qt _ _ _ _))
   clear aa hr;generalize((wr.alloc (Z zeros21 158)).setCells wr.heap.size 0 (QO y (U A C D)))=W2 at*;have rI:=ag.out.range;go_wp2_with (first|(refine ldQ 158 (mX 5) wr.heap.size 0 (QO y (U A C D)) _ rI underlying158 ?_))
   refine PT.mono ?_;rintro e w3 h3;obtain⟨⟨aJ,P3,rfl,ax,au⟩,aj⟩:=h3.from af.out
   have aF:hH (∃lvi Pi,WS k B T w3 (O J own) (U av2 m2 cap2) (L++Qc (cod own nm n) ((b.map (·.1)).take (i+1)) L.length) lvi Pi/\Nx w lv lvi):=by
    rw[K.out];exact⟨aJ,P3,ax,H.out.trans au G.out.size⟩
   have aA:hH (Fr (k::lv.ownBlock.toList) w w3):=zMi G.out aj H.out;clear PT rI ag af h3 ax au aj H G K;go_wp2_with fail
   go_roundg (m-(i+1))
   case rel=>exact⟨i+1,sM,rfl,aI,aF,aA⟩
   case measure=>omega
  ·have aH:¬(i:Int)<(m:Int):=oM;have ah:hH (∃lvi Pi,WS k B T wr (O J own) (U av2 m2 cap2) LF lvi Pi/\Nx w lv lvi):=by
    have aG:(b.map (·.1)).length<=i:=by have:=HM.out;simp;omega
    have:=HS.out;rw[hY aG,aC.out]at this;exact this
   have HR:hH (WP k B T (O J own) (U av2 m2 cap2) LF lv w (rX (uX #[])) wr):=by
    obtain⟨lvi,Pi,r1,r2⟩:=ah.out;exact⟨⟨lvi,Pi,rfl,r1,r2⟩,G.out⟩
   clear HS ah;go_wp2;go_end0
   exact HR.out
open Go.RowKit Wf
theorem WP.then{L1 m:List I}{c:vW}{p:wW}{P1:List (Wc.In×vW)}(b:Fr (k::lv.ownBlock.toList) w w1)(d:Nx w lv c){e:Ending}(h:WP k B T s0 s1 m c w1 e p):WP k B T s0 s1 m lv w e p:=by
 obtain⟨⟨g,q,s,l,j⟩,fr2⟩:=h;exact⟨⟨g,q,s,l,d.trans j b.size⟩,zMi b fr2 d⟩
theorem WP.ret{e:Ending}(h:WP k B T s0 s1 L lv w e w'):e=rX (uX #[]):=by
 obtain⟨⟨c,d,b,_⟩,_⟩:=h;exact b
section
variable (own:Int)(nm:List ByteArray)(av2:Option dW)(m2 cap2:Nat)
def FdC(n:Nat):Prop:=∀(t:Tr n)(sl:vW)(lo hi k B:Nat)(T:Nat->Nat)(w:wW)(L:List I)(lv:vW)(P:List (Wc.In×vW)),Wr own nm n t->PA n lo hi w t sl->En own nm av2 m2 cap2 k B T hi w->WS k B T w (O J own) (U av2 m2 cap2) L lv P->L.length+(JE (cod own nm n) t L.length).length<=900000 ->
 Calls prog 181 #[pX (wX ⟨k,0,vX⟩),gX (QO (hd n t) sl).toArray] w (WP k B T (O J own) (U av2 m2 cap2) (L++JE (cod own nm n) t L.length) lv w)
end
theorem zIr(own:Int)(nm:List ByteArray)(av2:Option dW)(m2 cap2 n:Nat)(ih:PtC own nm av2 m2 cap2 n):FdC own nm av2 m2 cap2 n:=by
 intro t sl lo hi k B T w L lv P hw j c u p;have s:(JE (cod own nm n) t L.length).length=(cod own nm n t L.length).length+1:=by simp[JE]
 have q:L++JE (cod own nm n) t L.length=(L++cod own nm n t L.length)++[((ins 7 0 0).1,[])]:=by rw[hZ];rfl
 rw[s]at p;rw[q];obtain⟨A,C,D,rfl⟩:=j.slice;have b:=QI (fZ _ w) (Z (QO (hd n t) (U A C D)).toArray 158);have rP:=(AtL.new0 w 158 (QO (hd n t) (U A C D))).range;have N:=ih t (U A C D) lo hi k B T _ L lv P hw (PA.kept (Kept.of_below b) n _ _ j) (c.below b) (u.below b) oM;have m:=hid (And.intro c.kB c.hB);have G:hH ((L++cod own nm n t L.length).length<=1000000):=by show _<=_;rw[dZ];omega
 generalize L++cod own nm n t L.length=L1 at*;generalize hd n t=y at*;have l:=hid b;clear s q p hw j c u ih b;go_enter func181,ntmps181;go_upto_region 1 with fail
 generalize(w.alloc (Z (QO y (U A C D)).toArray 158))=W at*;go_wp2_with (first|(refine ldQ 158 (mX 3) w.heap.size 0 (QO y (U A C D)) _ rP underlying158 ?_))
 refine N.mono ?_;rintro e w1 R;obtain⟨⟨K,P1,rfl,E,z⟩,g⟩:=R.from l.out
 have M:=JA k B T (ins 7 0 0).1 _ _ L1 K P1 w1 E m.out.1 (jZ m.out.2 g.size) G.out;have d:=hid (And.intro g z);clear N rP R E z g l;go_wp2_with (first|(refine Qo rfl 7 rfl ?_))
 refine M.mono ?_;rintro e w2 X;have H:=WP.then (P1:=P1) (L1:=L1) d.out.1 d.out.2 X;obtain rfl:=H.ret;have HR:=hid H;clear X H M d;go_wp2;go_end0
 exact HR.out
theorem zAL{α:Type}(a:List α)(x y:α)(b:List α)(i:Nat)(h:i=a.length):(a++x::b).set i y=a++y::b:=by
 subst h;simp
theorem zPD{α:Type}(a:List α)(x:α)(b:List α)(i:Nat)(h:i=a.length)(hi:i<(a++x::b).length):(a++x::b)[i]=x:=by
 subst h;simp
section
variable (own:Int)(nm:List ByteArray)(av2:Option dW)(m2 cap2:Nat)
def Vy(n:Nat)(t:Tr n)(a:Nat):List I:=ins 14 (a+1+(cod own nm n t (a+1)).length:Nat) 0::cod own nm n t (a+1)
def GdC(n:Nat):Prop:=∀(t:Tr n)(sl:vW)(lo hi k B:Nat)(T:Nat->Nat)(w:wW)(L:List I)(lv:vW)(P:List (Wc.In×vW)),Wr own nm n t->PA n lo hi w t sl->En own nm av2 m2 cap2 k B T hi w->WS k B T w (O J own) (U av2 m2 cap2) L lv P->L.length+(Vy own nm n t L.length).length<=900000 ->
 Calls prog 186 #[pX (wX ⟨k,0,vX⟩),gX (QO (hd n t) sl).toArray] w (WP k B T (O J own) (U av2 m2 cap2) (L++Vy own nm n t L.length) lv w)
end
theorem zLF(own:Int)(nm:List ByteArray)(av2:Option dW)(m2 cap2 n:Nat)(ih:PtC own nm av2 m2 cap2 n):GdC own nm av2 m2 cap2 n:=by
 intro t sl lo hi k B T w L lv P hw X d A N;have ap:(Vy own nm n t L.length).length=(cod own nm n t (L.length+1)).length+1:=by simp[Vy]
 rw[ap]at N;obtain⟨sa,sb,sc,rfl⟩:=X.slice;have u:=QI (fZ _ w) (Z (QO (hd n t) (U sa sb sc)).toArray 158);have ag:=hid ((AtL.new0 w 158 (QO (hd n t) (U sa sb sc))).range);have LA:=JA k B T (ins 14 0 0).1 _ _ L lv P _ (A.below u) d.kB (jZ d.hB u.size) oM;have ac:=hid (zO7 A d.kB);have ad:hH (∀j,lv.ownBlock=wX j->B<=j/\j<w.heap.size):=λj e=>QL A.own e
 have ae:hH (∀(W:wW)(c:vW)(P1:List (Wc.In×vW))(S:List Nat),Fr S w W->(∀j∈S,k<=j)->WS k B T W (O J own) (U av2 m2 cap2) (L++[ins 14 0 0]) c P1->Calls prog 85 #[pX (wX ⟨k,0,vX⟩),gX (QO (hd n t) (U sa sb sc)).toArray] W (WP k B T (O J own) (U av2 m2 cap2) (L++ins 14 0 0::cod own nm n t (L.length+1)) c W)):=λW c P1 S f hs p=>by
  have:=ih t (U sa sb sc) lo hi k B T W (L++[ins 14 0 0]) c P1 hw (PA.kept (Kept.of_fr f (λj hj=>by have:=hs j hj;have:=d.hk;omega)) n _ _ X) (d.fr f hs) p (by simp;omega);rw[show(L++[ins 14 0 0]).length=L.length+1 from by simp,hZ]at this;exact this
 have H:=hid (And.intro d.kB d.hB);have G:=hid N;have K:hH (L++Vy own nm n t L.length=L++({(ins 14 0 0).1 with a:=((L.length+1+(cod own nm n t (L.length+1)).length:Nat):Int)},[])::cod own nm n t (L.length+1)):=rfl;obtain⟨LF,g⟩:=xV (L++Vy own nm n t L.length)
 rw[g];rw[g]at K;generalize cod own nm n t (L.length+1)=cd at*;generalize hd n t=y at*;have aa:=hid u;clear ap N hw X d A ih u g;go_enter func186,ntmps186;go_upto_region 1 with fail
 generalize(w.alloc (Z (QO y (U sa sb sc)).toArray 158))=W at*;go_wp2_with (first|(refine Qo rfl 14 rfl ?_))
 refine LA.mono ?_;rintro e w1 h1;obtain⟨⟨c,P1,rfl,p,ar⟩,ai⟩:=h1.from aa.out
 have LT:=zB9 k B 204 T _ _ _ c P1 w1 p sM (by have:=G.out;simp;omega);rw[show(L++[((ins 14 0 0).1,([]:List Int))]).length-1=L.length from by simp]at LT;have ah:=hid (And.intro p (And.intro ar ai));have D:hH (w1.rangeAt w.heap.size 0 (QO y (U sa sb sc))):=by
  obtain⟨⟨lv0,P0,_,_,_⟩,f0⟩:=h1;exact f0.range ag.out (λhm=>by
   rcases List.mem_cons.1 hm with q|q
   ·have:=H.out;omega
   ·have:=(ad.out w.heap.size (by simpa using q)).2;omega)
 clear LA h1 p ar ai aa ag;go_wp2_with fail
 refine LT.mono ?_;rintro e w2 ⟨⟨cl,bs,rfl,am,ak⟩,z⟩;obtain⟨q1,q2,q3⟩:=ah.out;have rP:=QF z D.out;have R:=q3.trans (Fr.of_below _ z);have PT:=ae.out w2 c P1 _ R ac.out (q1.below z);have ab:hH (Cl k w2 204 L.length bs cl/\(∀b∈bs,w1.heap.size<=b/\b<w2.heap.size)/\(∀j,c.ownBlock=wX j->B<=j/\j<w1.heap.size)/\Fr (k::lv.ownBlock.toList) w w2/\Nx w lv c/\w.heap.size<=w1.heap.size):=⟨am,ak,λj e=>QL q1.own e,R,q2,q3.size⟩
 obtain⟨bi,bw,ba,al,rfl,av,aw,ax⟩:=am;clear av aw ax ak z q1 q2 q3 R ah D LT ae;go_wp2_with (first|(refine ldQ 158 (mX 3) w.heap.size 0 (QO y (U sa sb sc)) _ rP underlying158 ?_))
 refine PT.mono ?_;rintro e w3 ⟨⟨m,P3,rfl,au,C⟩,M⟩;obtain⟨c1,c2,c3,c4,c5,c6⟩:=ab.out;have an:=c1.fr M (λb hb hm=>by
  have h9:=c2 b hb;rcases List.mem_cons.1 hm with q|q
  ·have:=H.out;omega
  ·have:=(c3 b (by simpa using q)).2;omega)
 have l:∀b∈bs,∀j,m.ownBlock=wX j->b≠j:=λb hb j e=>by
  have h9:=c2 b hb;rcases C j e with q|q
  ·have:=(c3 j q).2;omega
  ·omega
 obtain⟨az,aA,ay,E,ao,d1,d2,d3⟩:=an;simp only[Value.func.injEq,true_and,Array.mk.injEq,List.cons.injEq,pX.injEq,Option.some.injEq,Addr.mk.injEq,and_true]at ao;obtain⟨rfl,rfl,rfl⟩:=ao;rw[E]at l;have CA:=zE3 k B T _ _ _ m P3 w3 L.length bi bw ba au H.out.1 (by have:=G.out;simp;omega) sM d1 d2 d3 (λj e=>⟨l bi sM j e,l bw sM j e,l ba sM j e⟩);rw[zAL L _ _ cd L.length rfl]at CA;simp only[zPD L _ cd L.length rfl]at CA;have eg:∀args w,(callFunc 220 args).run prog w=.ok (.enter 220 args) w:=λ_ _=>by kernel_rfl
 have af:hH (∀w4:wW,(∃P',WS k B T w4 (O J own) (U av2 m2 cap2) (L++({(ins 14 0 0).1 with a:=((L++ins 14 0 0::cd).length:Int)},(ins 14 0 0).2)::cd) m P')->Fr m.ownBlock.toList w3 w4->WP k B T (O J own) (U av2 m2 cap2) LF lv w (rX (uX #[])) w4):=by
  intro w4 hP hf;obtain⟨P4,s⟩:=hP;have aq:(((L++ins 14 0 0::cd).length:Nat):Int)=((L.length+1+cd.length:Nat):Int):=by simp;omega
  rw[aq]at s;have g:=K.out;refine⟨⟨m,P4,rfl,by rw[g];exact s,c5.trans C c4.size⟩,?_⟩;have f3:=zMi c4 M (λj e=>(c5 j e));exact f3.new hf (λj hj=>by
   rcases C j (by simpa using hj)with q|q
   ·rcases c5 j q with r|r
    ·exact tZ (vZ _ (by simp[r]))
    ·exact kZ r
   ·exact kZ (jZ c4.size q))
 clear PT rP ab c1 c2 c3 c4 c5 c6 l d1 d2 d3 au C M E al K ac ad G;go_wp2_with (first|(go_at_call 220;refine CA.mono ?_;rintro e w4 ⟨⟨P4,rfl,s⟩,aj⟩))
 have HR:=hid (af.out w4 ⟨P4,s⟩ aj);clear CA af s aj;go_end0
 exact HR.out
open Go.RowKit Wf
abbrev clV(bi bw ba:Nat):vW:=.func (.func 220) #[] #[pX (wX ⟨bi,0,vX⟩),pX (wX ⟨bw,0,vX⟩),pX (wX ⟨ba,0,vX⟩)]
structure Pd(k:Nat)(w:wW)(lv:vW)(f at' bi bw ba:Nat):Prop where
 c1:w.cell? ⟨bi,0,vX⟩=wX (.func (.func f) #[] #[])
 c2:w.cell? ⟨bw,0,vX⟩=wX (pX (wX ⟨k,0,vX⟩))
 c3:w.cell? ⟨ba,0,vX⟩=wX (O J (at':Int))
 bd:∀b∈[bi,bw,ba],k<b/\b<w.heap.size/\¬lv.ownBlock=wX b
theorem Pd.fr(h:Pd k w lv f at' bi bw ba){S:List Nat}(c:Fr S w w')(e:∀b∈[bi,bw,ba],b∉S)(g:∀b∈[bi,bw,ba],¬lv'.ownBlock=wX b):Pd k w' lv' f at' bi bw ba :=
 ⟨c.cell h.c1 (e _ sM),c.cell h.c2 (e _ sM),c.cell h.c3 (e _ sM),λb d=>⟨(h.bd b d).1,tY (h.bd b d).2.1 c.size,g b d⟩⟩
theorem Pd.below(h:Pd k w lv f at' bi bw ba)(c:bL w w'):Pd k w' lv f at' bi bw ba:=h.fr (Fr.of_below [] c) (λb _=>by simp) (λb c=>(h.bd b c).2.2)
theorem Pd.step(h:Pd k w lv f at' bi bw ba)(g:Fr (k::lv.ownBlock.toList) w w')(l:Nx w lv lv'):Pd k w' lv' f at' bi bw ba :=
 h.fr g (λb d j=>by
  have c:=h.bd b d;rcases List.mem_cons.1 j with q|q
  ·omega
  ·exact c.2.2 (by simpa using q)) (λb d e=>by
  have c:=h.bd b d;rcases l b e with q|q
  ·exact c.2.2 q
  ·omega)
theorem Pd.patch(h:Pd k w lv f at' bi bw ba)(d:Fr lv.ownBlock.toList w w'):Pd k w' lv f at' bi bw ba :=
 h.fr d (λb c e=>(h.bd b c).2.2 (by simpa using e)) (λb c=>(h.bd b c).2.2)
theorem zBY(k B f:Nat)(T:Nat->Nat)(s0 s1:vW)(L:List I)(lv:vW)(P:List (Wc.In×vW))(w:wW)(h:WS k B T w s0 s1 L lv P)(m:0<L.length)(s:L.length<=1000000) :
  Calls prog 203 #[pX (wX ⟨k,0,vX⟩),.func (.func f) #[] #[]] w λe w'=>(∃bi bw ba,e=rX (clV bi bw ba)/\Pd k w' lv f (L.length-1) bi bw ba)/\bL w w':=by
 refine(zB9 k B f T s0 s1 L lv P w h m s).mono ?_;rintro e w' ⟨⟨cl,t,rfl,⟨bi,bw,ba,rfl,rfl,g,j,l⟩,d⟩,q⟩;refine⟨⟨bi,bw,ba,rfl,g,j,l,λb c=>?_⟩,q⟩;have p:=d b c;have:=h.at'.lt;exact⟨oM,p.2,λe=>by have:=(QL h.own e).2;omega⟩
def JPd(k B:Nat)(T:Nat->Nat)(s0 s1:vW)(L:List I)(lv:vW)(w:wW)(e:Ending)(w':wW):Prop :=
 (∃bi bw ba lv' c,e=rX (clV bi bw ba)/\Pd k w' lv' 204 L.length bi bw ba/\(∀b∈[bi,bw,ba],w.heap.size<=b)/\WS k B T w' s0 s1 (L++[ins 13 0 0]) lv' c/\Nx w lv lv')/\Fr (k::lv.ownBlock.toList) w w'
theorem zHZ(k B:Nat)(T:Nat->Nat)(s0 s1:vW)(L:List I)(lv:vW)(P:List (Wc.In×vW))(w:wW)(h:WS k B T w s0 s1 L lv P)(g:k<B)(s:B<=w.heap.size)(u:L.length<=999999) :
  Calls prog 206 #[pX (wX ⟨k,0,vX⟩)] w (JPd k B T s0 s1 L lv w):=by
 refine(zOP k B T s0 s1 L lv P w h g s u).mono ?_;rintro e w' ⟨⟨cl,A,lv',l,rfl,⟨bi,bw,ba,rfl,rfl,m,p,q⟩,d,z,y⟩,t⟩;refine⟨⟨bi,bw,ba,lv',l,rfl,⟨m,p,q,λb c=>?_⟩,λb c=>(d b c).1,z,y⟩,t⟩;have j:=d b c;exact⟨oM,j.2.1,j.2.2⟩
theorem pdA(k B:Nat)(T:Nat->Nat)(s0 s1:vW)(L j:List I)(lv:vW)(P:List (Wc.In×vW))(w:wW)(at':Nat)(bi bw ba:Nat)(h:WS k B T w s0 s1 L lv P)(s:k<B)(u:L.length<=1000000)(d:Pd k w lv 204 at' bi bw ba)(X c:List I)(x:I)(l:L=X++x::c)(t:at'=X.length)(v:Int)(y:(L.length:Int)=v)(m:j=X++({x.1 with a:=v},x.2)::c) :
  Calls prog 220 #[pX (wX ⟨bi,0,vX⟩),pX (wX ⟨bw,0,vX⟩),pX (wX ⟨ba,0,vX⟩)] w λe w'=>(∃P',e=rX (uX #[])/\WS k B T w' s0 s1 j lv P')/\Fr lv.ownBlock.toList w w':=by
 subst t;have p:X.length<L.length:=by rw[l];simp
 have:=zE3 k B T s0 s1 L lv P w X.length bi bw ba h s u p d.c1 d.c2 d.c3 (λb e=>⟨λq=>(d.bd bi sM).2.2 (by rw[q];exact e),λq=>(d.bd bw sM).2.2 (by rw[q];exact e),λq=>(d.bd ba sM).2.2 (by rw[q];exact e)⟩);rw[y]at this;have z:L[X.length]=x:=by subst l;simp
 have g:L.set X.length ({(L[X.length]).1 with a:=v},(L[X.length]).2)=j:=by rw[z,m,l,zAL X _ _ c X.length rfl]
 rw[g]at this;exact this
theorem pdB(k B:Nat)(T:Nat->Nat)(s0 s1:vW)(L j:List I)(lv:vW)(P:List (Wc.In×vW))(w:wW)(at':Nat)(bi bw ba:Nat)(h:WS k B T w s0 s1 L lv P)(s:k<B)(u:L.length<=1000000)(d:Pd k w lv 205 at' bi bw ba)(X c:List I)(x:I)(l:L=X++x::c)(t:at'=X.length)(v:Int)(y:(L.length:Int)=v)(m:j=X++({x.1 with b:=v},x.2)::c) :
  Calls prog 220 #[pX (wX ⟨bi,0,vX⟩),pX (wX ⟨bw,0,vX⟩),pX (wX ⟨ba,0,vX⟩)] w λe w'=>(∃P',e=rX (uX #[])/\WS k B T w' s0 s1 j lv P')/\Fr lv.ownBlock.toList w w':=by
 subst t;have p:X.length<L.length:=by rw[l];simp
 have:=zIH k B T s0 s1 L lv P w X.length bi bw ba h s u p d.c1 d.c2 d.c3 (λb e=>⟨λq=>(d.bd bi sM).2.2 (by rw[q];exact e),λq=>(d.bd bw sM).2.2 (by rw[q];exact e),λq=>(d.bd ba sM).2.2 (by rw[q];exact e)⟩);rw[y]at this;have z:L[X.length]=x:=by subst l;simp
 have g:L.set X.length ({(L[X.length]).1 with b:=v},(L[X.length]).2)=j:=by rw[z,m,l,zAL X _ _ c X.length rfl]
 rw[g]at this;exact this
theorem zNJ:∀args w,(callFunc 220 args).run prog w=.ok (.enter 220 args) w:=λ_ _=>by kernel_rfl
structure St(own:Int)(nm:List ByteArray)(av2:Option dW)(m2 cap2 k B:Nat)(T:Nat->Nat)(hi:Nat)(w0:wW)(lv0:vW)(w:wW)(L:List I)(lv:vW)(P:List (Wc.In×vW)):Prop where
 en:En own nm av2 m2 cap2 k B T hi w
 ws:WS k B T w (O J own) (U av2 m2 cap2) L lv P
 nx:Nx w0 lv0 lv
 fr:Fr (k::lv0.ownBlock.toList) w0 w
section
variable {own:Int}{nm:List ByteArray}{av2:Option dW}{m2 cap2 k B hi:Nat}{T:Nat->Nat}{w0:wW}{lv0:vW}{w:wW}{L:List I}{lv:vW}{P:List (Wc.In×vW)}
theorem St.init(b:En own nm av2 m2 cap2 k B T hi w)(c:WS k B T w (O J own) (U av2 m2 cap2) L lv P):St own nm av2 m2 cap2 k B T hi w lv w L lv P:=⟨b,c,Nx.refl _ _,Fr.refl _ _⟩
theorem St.below{w':wW}(h:St own nm av2 m2 cap2 k B T hi w0 lv0 w L lv P)(b:bL w w'):St own nm av2 m2 cap2 k B T hi w0 lv0 w' L lv P:=⟨h.en.below b,h.ws.below b,h.nx,h.fr.trans (Fr.of_below _ b)⟩
theorem St.step{w':wW}{b:List I}{lv':vW}{c:List (Wc.In×vW)}(h:St own nm av2 m2 cap2 k B T hi w0 lv0 w L lv P)(d:Fr (k::lv.ownBlock.toList) w w')(e:Nx w lv lv')(g:WS k B T w' (O J own) (U av2 m2 cap2) b lv' c):St own nm av2 m2 cap2 k B T hi w0 lv0 w' b lv' c :=
 ⟨h.en.fr d (zO7 h.ws h.en.kB),g,h.nx.trans e h.fr.size,zMi h.fr d h.nx⟩
theorem St.patch{w':wW}{b:List I}{c:List (Wc.In×vW)}(h:St own nm av2 m2 cap2 k B T hi w0 lv0 w L lv P)(d:Fr lv.ownBlock.toList w w')(g:WS k B T w' (O J own) (U av2 m2 cap2) b lv c):St own nm av2 m2 cap2 k B T hi w0 lv0 w' b lv c :=
 h.step (d.mono (λj e=>vZ _ e)) (Nx.refl _ _) g
theorem St.wp(h:St own nm av2 m2 cap2 k B T hi w0 lv0 w L lv P):WP k B T (O J own) (U av2 m2 cap2) L lv0 w0 (rX (uX #[])) w:=⟨⟨lv,P,rfl,h.ws,h.nx⟩,h.fr⟩
theorem St.kept(h:St own nm av2 m2 cap2 k B T hi w0 lv0 w L lv P){lo:Nat}(b:∀j,lv0.ownBlock=wX j->B<=j):Kept lo hi w0 w:=Kept.of_fr h.fr (λj hj=>by
 have:=h.en.hk;have:=h.en.kB;rcases List.mem_cons.1 hj with q|q
 ·omega
 ·have:=b j (by simpa using q);omega)
end
open Go.RowKit Wf
section
variable {α:Type}(f:α->Nat->List I)
def QX(e:Int):List α->Nat->List I
 |[],_=>[]
 |k::r,a=>f k a++chB f e r (a+(f k a).length)
def toC:List α->Nat->List Int
 |[],_=>[]
 |k::r,a=>(a:Int)::chT f r (a+(f k a).length)
def jr:List α->Nat->List Nat
 |[],_=>[]
 |k::r,m=>m::jr r (m+1+(f k (m+1)).length)
def jx:List α->Nat->List Nat
 |[],_=>[]
 |k::r,a=>jr f r (a+(f k a).length)
theorem zF7(l:List α)(a:Nat):Ju f l a=(⟨15,0,(a+1+(QX f 0 l (a+1)).length:Nat),v0I,c0I,a0I,a0I⟩,toC f l (a+1))::QX f (a+1+(QX f 0 l (a+1)).length:Nat) l (a+1):=by
 cases l with
 |nil=>rfl
 |cons k r =>
  simp only[Ju,QX,toC,dZ];rw[show a+1+((f k (a+1)).length+(chB f 0 r (a+1+(f k (a+1)).length)).length)=a+1+(f k (a+1)).length+(chB f 0 r (a+1+(f k (a+1)).length)).length from by omega]
theorem zIO(e b:Int):∀(r:List α)(m:Nat),(chB f e r m).length=(chB f b r m).length
 |[],m=>rfl
 |k::r,m=>by simp[chB,zIO e b r]
theorem zJ2(e b:Int)(l:List α)(a:Nat):(QX f e l a).length=(QX f b l a).length:=by
 cases l with
 |nil=>rfl
 |cons k r=>simp[QX,zIO f e b]
theorem zFj(e:Int)(x:α):∀(r:List α)(m:Nat),chB f e (r++[x]) m=chB f e r m++(ins 13 e 0::f x (m+(chB f e r m).length+1))
 |[],m=>by simp[chB]
 |k::r,m=>by
  simp only[wZ,chB,zFj e x r,hZ,eZ,dZ];rw[show m+1+(f k (m+1)).length+(chB f e r (m+1+(f k (m+1)).length)).length+1=m+((f k (m+1)).length+(chB f e r (m+1+(f k (m+1)).length)).length+1)+1 from by omega]
theorem zFy(x:α):∀(r:List α)(m:Nat),chT f (r++[x]) m=chT f r m++[((m+(chB f 0 r m).length+1:Nat):Int)]
 |[],m=>by simp[chT,chB]
 |k::r,m=>by
  simp only[wZ,chT,zFy x r,chB,eZ,dZ];rw[show m+1+(f k (m+1)).length+(chB f 0 r (m+1+(f k (m+1)).length)).length+1=m+((f k (m+1)).length+(chB f 0 r (m+1+(f k (m+1)).length)).length+1)+1 from by omega]
theorem zJY(x:α):∀(r:List α)(m:Nat),jr f (r++[x]) m=jr f r m++[m+(chB f 0 r m).length]
 |[],m=>by simp[jr,chB]
 |k::r,m=>by
  simp only[wZ,jr,zJY x r,chB,eZ,dZ];rw[show m+1+(f k (m+1)).length+(chB f 0 r (m+1+(f k (m+1)).length)).length=m+((f k (m+1)).length+(chB f 0 r (m+1+(f k (m+1)).length)).length+1)from by omega]
theorem zM0(e:Int)(x:α)(a:Nat):QX f e [x] a=f x a:=by simp[QX,chB]
theorem zDb(e:Int)(x:α)(l:List α)(b:l≠[])(a:Nat):QX f e (l++[x]) a=QX f e l a++(ins 13 e 0::f x (a+(QX f e l a).length+1)):=by
 cases l with
 |nil=>exact absurd rfl b
 |cons k r =>
  simp only[wZ,QX,zFj,hZ,dZ];rw[show a+(f k a).length+(chB f e r (a+(f k a).length)).length+1=a+((f k a).length+(chB f e r (a+(f k a).length)).length)+1 from by omega]
theorem zOe(x:α)(l:List α)(b:l≠[])(a:Nat):toC f (l++[x]) a=toC f l a++[((a+(QX f 0 l a).length+1:Nat):Int)]:=by
 cases l with
 |nil=>exact absurd rfl b
 |cons k r =>
  simp only[wZ,toC,zFy,QX,dZ];rw[show a+(f k a).length+(chB f 0 r (a+(f k a).length)).length+1=a+((f k a).length+(chB f 0 r (a+(f k a).length)).length)+1 from by omega]
theorem zPG(x:α)(l:List α)(b:l≠[])(a:Nat):jx f (l++[x]) a=jx f l a++[a+(QX f 0 l a).length]:=by
 cases l with
 |nil=>exact absurd rfl b
 |cons k r =>
  simp only[wZ,jx,zJY,QX,dZ];rw[show a+(f k a).length+(chB f 0 r (a+(f k a).length)).length=a+((f k a).length+(chB f 0 r (a+(f k a).length)).length)from by omega]
theorem zQh:∀(r:List α)(m:Nat),∀p∈jr f r m,m<=p/\p<m+(chB f 0 r m).length
 |[],m,p,h=>by cases h
 |k::r,m,p,h=>by
  simp only[chB,eZ,dZ];rcases List.mem_cons.1 h with rfl|h
  ·omega
  ·have:=zQh r _ p h;omega
end
def pA(v:Int)(L:List I)(p:Nat):List I:=match L[p]? with
 |some x=>L.set p ({x.1 with a:=v},x.2)
 |none=>L
def pB(v:Int)(L:List I)(p:Nat):List I:=match L[p]? with
 |some x=>L.set p ({x.1 with b:=v},x.2)
 |none=>L
theorem zQG(v:Int)(L:List I)(p:Nat):(pA v L p).length=L.length:=by unfold pA;split <;> simp
theorem zPf(v:Int)(L:List I)(p:Nat):(pB v L p).length=L.length:=by unfold pB;split <;> simp
theorem zPu(v:Int)(X b:List I)(x:I)(p:Nat)(h:p=X.length):pA v (X++x::b) p=X++({x.1 with a:=v},x.2)::b:=by
 subst h;unfold pA;rw[vY (yZ _),qX,kY];exact zAL X _ _ b X.length rfl
theorem zPU(v:Int)(X c:List I)(x:I)(p:Nat)(h:p=X.length):pB v (X++x::c) p=X++({x.1 with b:=v},x.2)::c:=by
 subst h;unfold pB;rw[vY (yZ _),qX,kY];exact zAL X _ _ c X.length rfl
theorem zRV(v:Int)(L:List I)(p:Nat)(h:p<L.length):pA v L p=L.set p ({(L[p]).1 with a:=v},(L[p]).2):=by unfold pA;rw[iY h]
theorem zRS(v:Int)(L:List I)(p:Nat)(h:p<L.length):pB v L p=L.set p ({(L[p]).1 with b:=v},(L[p]).2):=by unfold pB;rw[iY h]
theorem zCR{α:Type}(f:α->Nat->List I)(e:Int):∀(r:List α)(X:List I)(m:Nat),m=X.length->(jr f r m).foldl (pA e) (X++chB f 0 r m)=X++chB f e r m
 |[],X,m,h=>rfl
 |k::r,X,m,h=>by
  simp only[jr,chB,yY];rw[zPu e X _ _ m h];have b:(X++ins 13 e 0::f k (m+1))++chB f 0 r (m+1+(f k (m+1)).length)=X++({(ins 13 0 0).1 with a:=e},(ins 13 0 0).2)::(f k (m+1)++chB f 0 r (m+1+(f k (m+1)).length)):=by
   rw[hZ];rfl
  rw[<-b,zCR f e r _ _ (by simp;omega),hZ];rfl
theorem zMT{α:Type}(f:α->Nat->List I)(e:Int)(l:List α)(L:List I)(c:I):(jx f l (L.length+1)).foldl (pA e) (pB e (L++c::QX f 0 l (L.length+1)) L.length)=L++({c.1 with b:=e},c.2)::QX f e l (L.length+1):=by
 rw[zPU e L _ c L.length rfl];cases l with
 |nil=>rfl
 |cons k r =>
  simp only[jx,QX];have d:(L++({c.1 with b:=e},c.2)::f k (L.length+1))++chB f 0 r (L.length+1+(f k (L.length+1)).length)=L++({c.1 with b:=e},c.2)::(f k (L.length+1)++chB f 0 r (L.length+1+(f k (L.length+1)).length)):=sM;rw[<-d,zCR f e r _ _ (by simp;omega)];simp
def OwnC(w:wW)(B:Nat)(v:vW)(cs:List (Nat×Nat×Nat)):Prop:=w.ownsRow B 1 1 v cs.length (cs.map λc=>clV c.1 c.2.1 c.2.2)
theorem zQU:(prog.info? 1).map (λi=>(i.zero,i.size,i.bytes))=wX (wX Value.nilFunc,1,8):=kR
theorem zFT{ops:Array Oper}{rest:List Oper}{a:Act}{Q:Exit->Act->wW->Prop}(m:o.guard=vX)(s x:Operand)(M:o.op=.call {callee:=.builtin .append,args:=#[s,x],argTypes:=#[296,296]})
  (w:wW) (B:Nat) (D:B<=w.heap.size) (v:vW) (A:List (Nat×Nat×Nat)) (R:a.eval s=v) (e:OwnC w B v A) (g:Nat) (y:Nat×Nat×Nat) (W:a.eval x=U (wX ⟨g,0,vX⟩) 1 1) (l:w.cell? ⟨g,0,vX⟩=wX (clV y.1 y.2.1 y.2.2)) (C:True->A.length<=1000)
  (h:∀d w',OwnC w' B d (A++[y])->w.grownBy w' v.ownBlock->(d.ownBlock=v.ownBlock\/d.ownBlock=wX w.heap.size)->wpList prog ops Q rest (a.put o.dst d) w'):wpList prog ops Q (o::rest) a w:=by
 obtain⟨X,p,q,t,z⟩:=info_parts zQU;have C:=C trivial;refine wpList_plain m λK E=>?_
 have b:∀j u,([clV y.1 y.2.1 y.2.2])[j]?=wX u->w.cell? ((⟨g,0,vX⟩:dW).add j)=wX u:=λj u hj=>by
  cases j with
  |zero=>simp only[kY,Option.some.injEq]at hj;subst hj;exact l
  |succ j=>simp at hj
 obtain⟨d,w',N,own,H,_,G⟩:=run_append_own_at (P:=prog) w B 296 o.type 1 X _ 1 8 underlying296 p q t z rfl dM v A.length (A.map λc:Nat×Nat×Nat=>clV c.1 c.2.1 c.2.2) e ⟨g,0,vX⟩ 1 1 [clV y.1 y.2.1 y.2.2] rfl b (λu hu=>by simp at hu;subst hu;rfl) (by unfold maxLen;omega) oM D;unfold Oper.wp execOp;simp only[M,resolve,invoke,builtin,rZ,sZ,iZ,oZ,gZ,uZ,R,W,N];refine E _ _ (h d w' ?_ H G);unfold OwnC;rw[dZ,wY];exact own
theorem zOx(w:wW)(y:Nat×Nat×Nat)(B:Nat)(b:B<=w.heap.size):OwnC (w.alloc (Z #[clV y.1 y.2.1 y.2.2] 1)) B (U (wX ⟨w.heap.size,0,vX⟩) 1 1) [y]:=by
 refine⟨rfl,.inr ⟨w.heap.size,1,#[clV y.1 y.2.1 y.2.2],rfl,b,heap_alloc_new w _,yZ _,by unfold maxLen;omega,rfl,rfl⟩⟩
theorem OwnC.slice{A:List (Nat×Nat×Nat)}(h:OwnC w B v A):∃a c,v=U a A.length c:=by
 rcases h.2 with⟨e,d⟩|⟨g,cap,b,e,_⟩
 ·exact⟨vX,0,by rw[e,d]⟩
 ·exact⟨_,_,e⟩
open Go.RowKit Wf
section
variable (own:Int)(nm:List ByteArray)(av2:Option dW)(m2 cap2:Nat)
def BrC(n:Nat):Prop:=∀(t:Tr n)(sl:vW)(b:List (Tr n×vW))(c:Option dW)(m cap lo hi k B:Nat)(T:Nat->Nat)(w:wW)(L:List I)(lv:vW)(P:List (Wc.In×vW)),Wr own nm n t->PA n lo hi w t sl->m=b.length->b.length<=30->(∀p∈b,Wr own nm n p.1)->(∀p∈b,PA n lo hi w p.1 p.2)->RdQ w c (b.map λp=>(hd n p.1,p.2))->(∀bb off,c=wX ⟨bb,off,vX⟩->bb<hi)->En own nm av2 m2 cap2 k B T hi w->WS k B T w (O J own) (U av2 m2 cap2) L lv P->L.length+(VK (cod own nm n) t (b.map (·.1)) L.length).length<=900000 ->
 Calls prog 185 #[pX (wX ⟨k,0,vX⟩),gX (QO (hd n t) sl).toArray,U c m cap] w (WP k B T (O J own) (U av2 m2 cap2) (L++VK (cod own nm n) t (b.map (·.1)) L.length) lv w)
end
theorem RdQ.frq{d:Option dW}{L:List (Wt.Nd×vW)}(h:RdQ w d L)(g:Fr S w w')(j:∀c b,d=wX ⟨c,b,vX⟩->c∉S):RdQ w' d L:=λi hi=>by
 obtain⟨c,b,e,l⟩:=h i hi;exact⟨c,b,e,g.range l (j c b e)⟩
theorem zJQ(own:Int)(nm:List ByteArray)(av2:Option dW)(m2 cap2 n:Nat)(ih:PtC own nm av2 m2 cap2 n):BrC own nm av2 m2 cap2 n:=by
 intro t sl ps av m cap lo hi k B T w L lv P hw aT hm hl a5 aI a3 ar C ax bq;have al:=zGU own nm av2 m2 cap2 n ih;obtain⟨sa,sb,sc,rfl⟩:=aT.slice;obtain⟨y,hy⟩:=xV (cod own nm n t (L.length+1))
 obtain⟨z,hz⟩:=xV (if ps.isEmpty then[Jt zPO]else Qc (cod own nm n) (ps.map (·.1)) (L.length+1+y.length+1))
 have aR:L++VK (cod own nm n) t (ps.map (·.1)) L.length=L++ins 12 (L.length+1+y.length+1:Nat) (L.length+1+y.length+1+z.length:Nat)::(y++ins 13 (L.length+1+y.length+1+z.length:Nat) 0::z):=by
  have he:(ps.map (·.1)).isEmpty=ps.isEmpty:=by cases ps <;> rfl
  simp only[VK,hy,he,hz]
 have aH:L.length+1+y.length+1+z.length<=900000:=by
  have:=congrArg List.length aR;simp only[dZ,eZ]at this;omega
 rw[aR];have a2:=QI (fZ _ w) (Z (QO (hd n t) (U sa sb sc)).toArray 158);have bd:=(AtL.new0 w 158 (QO (hd n t) (U sa sb sc))).range;have aq:∀j,lv.ownBlock=wX j->B<=j:=λj e=>(QL ax.own e).1
 have a1:∀j,lv.ownBlock=wX j->j<w.heap.size:=λj e=>(QL ax.own e).2
 have be:=(St.init C ax).below a2;have aY:hH (∀(W:wW)(d:vW)(P1:List (Wc.In×vW)),St own nm av2 m2 cap2 k B T hi w lv W (L++[ins 12 0 0]) d P1->Calls prog 85 #[pX (wX ⟨k,0,vX⟩),gX (QO (hd n t) (U sa sb sc)).toArray] W (WP k B T (O J own) (U av2 m2 cap2) (L++ins 12 0 0::y) d W)):=λW d P1 st=>by
  have hc:cod own nm n t (L++[ins 12 0 0]).length=y:=by rw[<-hy];simp
  have:=ih t (U sa sb sc) lo hi k B T W (L++[ins 12 0 0]) d P1 hw (PA.kept (st.kept aq) n _ _ aT) st.en st.ws (by rw[hc];simp;omega);rw[hc,hZ]at this;exact this
 have aW:hH (∀(W:wW)(L3:List I)(d:vW)(P1:List (Wc.In×vW)),L3.length=L.length+1+y.length+1->St own nm av2 m2 cap2 k B T hi w lv W L3 d P1->Calls prog 117 #[pX (wX ⟨k,0,vX⟩),U av m cap] W (WP k B T (O J own) (U av2 m2 cap2) (L3++Qc (cod own nm n) (ps.map (·.1)) (L.length+1+y.length+1)) d W)):=λW L3 d P1 hL3 st=>by
  have bu:(Qc (cod own nm n) (ps.map (·.1)) (L.length+1+y.length+1)).length<=z.length:=by
   rw[<-hz];cases ps with
   |nil=>simp[Qc]
   |cons p r=>simp
  have:=al ps av m cap lo hi k B T W L3 d P1 hm hl a5 (λp hp=>PA.kept (st.kept aq) n _ _ (aI p hp)) (a3.frq st.fr (λbb aj e hmm=>by
   have h9:=ar bb aj e;have:=C.hk;have:=C.kB;rcases List.mem_cons.1 hmm with q|q
   ·omega
   ·have:=aq bb (by simpa using q);omega)) (λ_ bb aj e j ej=>by have:=ar bb aj e;have:=C.hk;have:=C.kB;have:=(QL st.ws.own ej).1;omega) (λ_ bb aj e=>by have:=ar bb aj e;have:=C.hk;have:=C.kB;have:=st.en.hB;omega) st.en st.ws (by rw[hL3];omega)
  rw[hL3]at this;exact this
 have HZ:hH ((m=0->ps=[]/\z=[Jt zPO]/\Qc (cod own nm n) (ps.map (·.1)) (L.length+1+y.length+1)=[])/\(m≠0->Qc (cod own nm n) (ps.map (·.1)) (L.length+1+y.length+1)=z)):=by
  refine⟨λh=>?_,λh=>?_⟩
  ·have hp:ps=[]:=List.eq_nil_of_length_eq_zero oM;subst hp;exact⟨rfl,hz.symm,rfl⟩
  ·rw[<-hz];cases ps with
   |nil=>simp at hm;omega
   |cons p r=>simp
 have D:=hid aH;generalize Qc (cod own nm n) (ps.map (·.1)) (L.length+1+y.length+1)=sq at*;generalize hd n t=x at*;have H:=hid be;have aE:=hid bd;have aX:hH (k<w.heap.size/\∀j,lv.ownBlock=wX j->j<w.heap.size):=⟨by have:=C.kB;have:=C.hB;omega,a1⟩
 clear hy hz aR bq aH hw aT hm hl a5 aI a3 ar C ax ih al a2 aq a1 be bd;go_enter func185,ntmps185;go_upto_region 1 with fail
 generalize(w.alloc (Z (QO x (U sa sb sc)).toArray 158))=W at*;have LA:=JA k B T (ins 12 0 0).1 _ _ L lv P W H.out.ws H.out.en.kB H.out.en.hB (by have:=D.out;omega);go_wp2_with (first|(refine Qo rfl 12 rfl ?_))
 refine LA.mono ?_;rintro e w1 ⟨⟨d,P1,rfl,bf,a7⟩,aQ⟩;have ad:hH (St own nm av2 m2 cap2 k B T hi w lv w1 (L++[ins 12 0 0]) d P1):=H.out.step aQ a7 bf;have aF:=hid (aQ.range aE.out (λhm=>by
  rcases List.mem_cons.1 hm with q|q
  ·have:=aX.out.1;omega
  ·have:=aX.out.2 w.heap.size (by simpa using q);omega))
 clear LA bf a7 aQ H aE;have LT:=zBY k B 204 T _ _ _ d P1 w1 ad.out.ws sM (by have:=D.out;simp;omega);rw[show(L++[ins 12 0 0]).length-1=L.length from by simp]at LT;go_wp2_with fail
 refine LT.mono ?_;rintro e w2 ⟨⟨bo,bp,bn,rfl,a8⟩,aS⟩;have ae:=hid (ad.out.below aS);have aG:=hid (QF aS aF.out);have ac:=hid a8;clear LT a8 aS ad aF;have LT:=zBY k B 205 T _ _ _ d P1 w2 ae.out.ws sM (by have:=D.out;simp;omega);rw[show(L++[ins 12 0 0]).length-1=L.length from by simp]at LT;go_wp2_with fail
 refine LT.mono ?_;rintro e w3 ⟨⟨aM,aO,aK,rfl,a9⟩,au⟩;have af:=hid (ae.out.below au);have rP:=QF au aG.out;have E:=hid (ac.out.below au);have g:=hid a9;clear LT a9 au ae aG ac;have PT:=aY.out w3 d P1 af.out;go_wp2_with (first|(refine ldQ 158 (mX 4) w.heap.size 0 (QO x (U sa sb sc)) _ rP underlying158 ?_))
 refine PT.mono ?_;rintro e w4 ⟨⟨br,P4,rfl,bg,ay⟩,ak⟩;have K:=hid (af.out.step ak ay bg);have ac:=hid (E.out.step ak ay);have b:=hid (g.out.step ak ay);clear PT rP bg ay ak af E g aY;have JU:=zHZ k B T _ _ _ br P4 w4 K.out.ws K.out.en.kB K.out.en.hB (by have:=D.out;simp;omega);go_wp2_with fail
 refine JU.mono ?_;rintro e w5 ⟨⟨aN,aP,aL,a6,P5,rfl,bc,_,bh,az⟩,am⟩;have aa:=hid (K.out.step am az bh);have E:=hid (ac.out.step am az);have g:=hid (b.out.step am az);have A:=hid bc;clear JU bc bh az am K ac b;have CA:=pdA k B T _ _ _ (L++ins 12 (L.length+1+y.length+1:Nat) 0::(y++[ins 13 0 0])) a6 P5 w5 L.length bo bp bn aa.out.ws aa.out.en.kB (by have:=D.out;simp;omega) E.out L (y++[ins 13 0 0]) (ins 12 0 0) sM rfl ((L.length+1+y.length+1:Nat):Int) (by simp;omega) rfl;have eg:=zNJ;go_wp2_with (first|(go_at_call 220;refine CA.mono ?_;rintro e w6 ⟨⟨P6,rfl,bj⟩,an⟩;clear CA))
 have ag:=hid (aa.out.patch an bj);have b:=hid (g.out.patch an);have G:=hid (A.out.patch an);clear bj an aa E g A;have AL:=aW.out w6 _ a6 P6 (by simp;omega) ag.out;refine AL.mono ?_;rintro e w7 ⟨⟨ai,P7,rfl,bk,aA⟩,ao⟩;have ab:=hid (ag.out.step ao aA bk);have g:=hid (b.out.step ao aA);have A:=hid (G.out.step ao aA);clear AL bk aA ao ag b G aW;have aD:hH (∀(w8:wW)(l:vW)(P8:List (Wc.In×vW)),St own nm av2 m2 cap2 k B T hi w lv w8 (L++ins 12 (L.length+1+y.length+1:Nat) 0::(y++ins 13 0 0::z)) l P8->Pd k w8 l 204 (L++ins 12 0 0::y).length aN aP aL->Calls prog 220 #[pX (wX ⟨aN,0,vX⟩),pX (wX ⟨aP,0,vX⟩),pX (wX ⟨aL,0,vX⟩)] w8 λe w'=>(∃P',e=rX (uX #[])/\WS k B T w' (O J own) (U av2 m2 cap2) (L++ins 12 (L.length+1+y.length+1:Nat) 0::(y++ins 13 (L.length+1+y.length+1+z.length:Nat) 0::z)) l P')/\Fr l.ownBlock.toList w8 w'):=λw8 l P8 st pd =>
  pdA k B T _ _ _ _ l P8 w8 _ aN aP aL st.ws st.en.kB (by have:=D.out;simp;omega) pd (L++ins 12 (L.length+1+y.length+1:Nat) 0::y) z (ins 13 0 0) sM sM ((L.length+1+y.length+1+z.length:Nat):Int) (by simp;omega) (by simp[ins])
 have aC:hH (∀(w8:wW)(l:vW)(P8:List (Wc.In×vW)),St own nm av2 m2 cap2 k B T hi w lv w8 (L++ins 12 (L.length+1+y.length+1:Nat) 0::(y++ins 13 (L.length+1+y.length+1+z.length:Nat) 0::z)) l P8->Pd k w8 l 205 L.length aM aO aK->Calls prog 220 #[pX (wX ⟨aM,0,vX⟩),pX (wX ⟨aO,0,vX⟩),pX (wX ⟨aK,0,vX⟩)] w8 λe w'=>(∃P',e=rX (uX #[])/\WS k B T w' (O J own) (U av2 m2 cap2) (L++ins 12 (L.length+1+y.length+1:Nat) (L.length+1+y.length+1+z.length:Nat)::(y++ins 13 (L.length+1+y.length+1+z.length:Nat) 0::z)) l P')/\Fr l.ownBlock.toList w8 w'):=λw8 l P8 st pd =>
  pdB k B T _ _ _ _ l P8 w8 _ aM aO aK st.ws st.en.kB (by have:=D.out;simp;omega) pd L (y++ins 13 (L.length+1+y.length+1+z.length:Nat) 0::z) (ins 12 (L.length+1+y.length+1:Nat) 0) rfl rfl ((L.length+1+y.length+1+z.length:Nat):Int) (by simp;omega) rfl
 by_cases h0:m=0
 ·subst h0;obtain⟨_,z1,z2⟩:=HZ.out.1 rfl;have ah:hH (St own nm av2 m2 cap2 k B T hi w lv w7 (L++ins 12 (L.length+1+y.length+1:Nat) 0::(y++[ins 13 0 0])) ai P7):=by
   have:=ab.out;rw[z2,zY]at this;exact this
  have a0:=hid z1;have TR:=zA4 yX w7;unfold vlV at TR;clear z1 z2 ab HZ;go_wp2_with fail
  refine TR.mono ?_;rintro e w8 ⟨rfl,aw⟩;have M:=hid (ah.out.below aw);have b:=hid (g.out.below aw);have G:=hid (A.out.below aw);have PU:=zEl k B T (Qd yX) _ _ _ ai P7 w8 M.out.ws M.out.en.kB M.out.en.hB (by have:=D.out;simp;omega);clear TR aw ah g A;generalize a4:Qd yX=vt at*;have aZ:=hid a4;clear a4;go_wp2_with fail
  refine PU.mono ?_;rintro e w9 ⟨⟨aU,P9,rfl,bl,aB⟩,ap⟩;have s:hH (St own nm av2 m2 cap2 k B T hi w lv w9 (L++ins 12 (L.length+1+y.length+1:Nat) 0::(y++ins 13 0 0::z)) aU P9):=by
   have h9:=M.out.step ap aB bl;rw[<-aZ.out,show Qd yX=zPO from rfl]at h9;rw[a0.out];have e9:(L++ins 12 (L.length+1+y.length+1:Nat) 0::(y++[ins 13 0 0]))++[Jt zPO]=L++ins 12 (L.length+1+y.length+1:Nat) 0::(y++ins 13 0 0::[Jt zPO]):=sM;rw[e9]at h9;exact h9
  have g:=hid (b.out.step ap aB);have A:=hid (G.out.step ap aB);clear PU bl aB ap M b G a0 aZ;have CA:=aD.out w9 aU P9 s.out A.out;go_upto_region 10 with(first|(go_at_call 220;refine CA.mono ?_;rintro e aV ⟨⟨aJ,rfl,R⟩,u⟩;clear CA))
  have c:=hid (s.out.patch u R);have b:=hid (g.out.patch u);clear R u s g A;have CB:=aC.out aV aU aJ c.out b.out;go_wp2_with (first|(go_at_call 220;refine CB.mono ?_;rintro e bs ⟨⟨bm,rfl,X⟩,N⟩;clear CB))
  have HR:=hid ((c.out.patch N X).wp);clear X N c b;go_end0
  exact HR.out
 ·have s:hH (St own nm av2 m2 cap2 k B T hi w lv w7 (L++ins 12 (L.length+1+y.length+1:Nat) 0::(y++ins 13 0 0::z)) ai P7):=by
   have h9:=ab.out;rw[HZ.out.2 h0]at h9;have e9:(L++ins 12 (L.length+1+y.length+1:Nat) 0::(y++[ins 13 0 0]))++z=L++ins 12 (L.length+1+y.length+1:Nat) 0::(y++ins 13 0 0::z):=sM;rw[e9]at h9;exact h9
  have bt:¬(m:Int)=0:=oM;clear ab HZ;have CA:=aD.out w7 ai P7 s.out A.out;go_upto_region 10 with(first|(go_at_call 220;refine CA.mono ?_;rintro e aV ⟨⟨aJ,rfl,R⟩,u⟩;clear CA))
  have c:=hid (s.out.patch u R);have b:=hid (g.out.patch u);clear R u s g A;have CB:=aC.out aV ai aJ c.out b.out;go_wp2_with (first|(go_at_call 220;refine CB.mono ?_;rintro e bs ⟨⟨bm,rfl,X⟩,N⟩;clear CB))
  have HR:=hid ((c.out.patch N X).wp);clear X N c b;go_end0
  exact HR.out
open Go.RowKit Wf
def PdL(k:Nat)(w:wW)(lv:vW)(es:List (Nat×Nat))(cs:List (Nat×Nat×Nat)):Prop:=es.length=cs.length/\∀j (h:j<es.length) (b:j<cs.length),Pd k w lv (es[j]).1 (es[j]).2 (cs[j]).1 (cs[j]).2.1 (cs[j]).2.2
def Va(cs:List (Nat×Nat×Nat)):List Nat:=cs.flatMap λc=>[c.1,c.2.1,c.2.2]
theorem PdL.mapP(h:PdL k w lv es cs)(b:∀f a b1 b2 b3,(b1,b2,b3)∈cs->Pd k w lv f a b1 b2 b3->Pd k w' lv' f a b1 b2 b3):PdL k w' lv' es cs:=⟨h.1,λj h1 h2=>b _ _ _ _ _ (xZ h2) (h.2 j h1 h2)⟩
theorem PdL.snoc(h:PdL k w lv es cs){q:Nat×Nat}{c:Nat×Nat×Nat}(m:Pd k w lv q.1 q.2 c.1 c.2.1 c.2.2):PdL k w lv (es++[q]) (cs++[c]):=by
 refine⟨by simp[h.1],λj l p=>?_⟩;by_cases b:j<es.length
 ·rw[zZ b,zZ (by rw[<-h.1];exact b)];exact h.2 j b _
 ·have e:j=es.length:=by simp at l;omega
  subst e;have d:(es++[q])[es.length]=q:=sM;have g:(cs++[c])[es.length]=c:=by simp[h.1]
  rw[d,g];exact m
theorem zOp{c:Int}{j:List Int}(h:OwnZ w B tv (c::j)){b:Nat}{u:vW}(d:w.cell? ⟨b,0,vX⟩=wX u)(g:u≠O J c):¬tv.ownBlock=wX b:=λe=>by
 have:=h.cells e 0 (O J c) rfl;have e0:(⟨b,0,vX⟩:dW).add 0=⟨b,0,vX⟩:=rfl;rw[e0,d]at this;exact g (by simpa using this)
theorem Pd.ne_to{a b1 b2 b3:Nat}(h:Pd k w lv f a b1 b2 b3){B:Nat}{tv:vW}{d:Int}{j:List Int}(c:OwnZ w B tv (d::j))(g:d≠(a:Int)):∀b∈[b1,b2,b3],¬tv.ownBlock=wX b:=λb hb=>by
 simp at hb;rcases hb with rfl|rfl|rfl
 ·exact zOp c h.c1 sM
 ·exact zOp c h.c2 sM
 ·exact zOp c h.c3 (by simpa usingλe=>g e.symm)
theorem zPI(k B:Nat)(T:Nat->Nat)(x:Wc.In)(s0 s1:vW)(L:List I)(lv:vW)(P:List (Wc.In×vW))(w:wW)(h:WS k B T w s0 s1 L lv P)(m:k<B)(y:B<=w.heap.size)(A:L.length<=1000000) :
  Calls prog 86 #[pX (wX ⟨k,0,vX⟩),gX (QE x QN).toArray] w λe w'=>(∃lv' P',e=rX (uX #[])/\WS k B T w' s0 s1 (L++[(x,[])]) lv' P'/\Nx w lv lv'/\∀h:L.length<P'.length,(P'[L.length]).2=QN)/\Fr (k::lv.ownBlock.toList) w w':=by
 have d:=zIA k B x s0 s1 lv P w h.at' h.own m y (by rw[h.len];exact A);have p:=JA k B T x s0 s1 L lv P w h m y A;refine d.mono ?_;rintro e w' ⟨⟨lv',rfl,E,K,H⟩,z⟩;have s:WS k B T w' s0 s1 (L++[(x,[])]) lv' (P++[(x,QN)]):=by
  refine⟨E,K,by simp[h.len],λi d p=>?_,h.tb,λi j d p b l g=>?_⟩
  ·by_cases hi:i<P.length
   ·have c:i<L.length:=by rw[<-h.len];exact hi
    rw[zZ hi,zZ c];refine⟨(h.ins i hi c).1,QZ z (h.ins i hi c).2 (λb e G=>?_)⟩;rcases List.mem_cons.1 G with q|q
    ·have:=(QL (h.ins i hi c).2 e).1;have:=h.tb i;omega
    ·exact JR (h.ins i hi c).2 h.own dM e (by simpa using q)
   ·have l:i=P.length:=by simp at d;omega
    subst l;have g:(P++[(x,QN)])[P.length]=(x,QN):=sM;have D:(L++[(x,([]:List Int))])[P.length]=(x,[]):=by simp[h.len]
    rw[g,D];exact⟨rfl,OwnZ.nil _ _⟩
  ·have C:∀i (d:i<(P++[(x,QN)]).length),((P++[(x,QN)])[i]).2.ownBlock=wX b->i<P.length:=λi d e=>by
    rcases Nat.lt_or_ge i P.length with q|q
    ·exact q
    ·have e0:i=P.length:=by simp at d;omega
     subst e0;have g:(P++[(x,QN)])[P.length]=(x,QN):=sM;rw[g]at e;cases e
   have t:=C i d l;have u:=C j p g;rw[zZ t]at l;rw[zZ u]at g;exact h.dis i j t u b l g
 exact⟨⟨lv',P++[(x,QN)],rfl,s,H,λ_=>by simp[<-h.len]⟩,z⟩
theorem St.other{w0:wW}{lv0:vW}(h:St own nm av2 m2 cap2 k B T hi w0 lv0 w L lv P){S:List Nat}(f:Fr S w w')(d:∀j∈S,w0.heap.size<=j/\k<j)(e:∀j,lv.ownBlock=wX j->j∉S)(g:∀i (h:i<P.length) b,(P[i]).2.ownBlock=wX b->b∉S):St own nm av2 m2 cap2 k B T hi w0 lv0 w' L lv P :=
 ⟨h.en.fr f (λj c=>sX (d j c).2),h.ws.fr f (λhm=>by have:=(d k hm).2;omega) e g,h.nx,h.fr.new f (λj c=>kZ (d j c).1)⟩
abbrev C0:Wc.In:=⟨15,0,0,v0I,c0I,a0I,a0I⟩
structure ChS(own:Int)(nm:List ByteArray)(av2:Option dW)(m2 cap2 k B:Nat)(T:Nat->Nat)(hi n:Nat)(w:wW)(lv:vW)(L:List I)(ks:List (Tr n))(b1 b2 b3 i:Nat)(wr:wW)(ev lvi:vW)(Pi:List (Wc.In×vW))(cs:List (Nat×Nat×Nat)):Prop where
 st:St own nm av2 m2 cap2 k B T hi w lv wr (L++(C0,toC (cod own nm n) (ks.take i) (L.length+1))::QX (cod own nm n) 0 (ks.take i) (L.length+1)) lvi Pi
 oc:OwnC wr B ev cs
 pb:Pd k wr lvi 207 L.length b1 b2 b3
 pl:PdL k wr lvi ((205,L.length)::(jx (cod own nm n) (ks.take i) (L.length+1)).map (λp=>(204,p))) cs
 ne:∀b∈[b1,b2,b3]++Va cs,¬ev.ownBlock=wX b
 eb:∀j,ev.ownBlock=wX j->w.heap.size<=j
 nl:i=0->∀h:L.length<Pi.length,(Pi[L.length]).2=QN
section
variable {own:Int}{nm:List ByteArray}{av2:Option dW}{m2 cap2 k B hi n:Nat}{T:Nat->Nat}{w:wW}{lv:vW}{L:List I}{ks:List (Tr n)}{b1 b2 b3 i:Nat}{wr:wW}{ev lvi:vW}{Pi:List (Wc.In×vW)}{cs:List (Nat×Nat×Nat)}
theorem zMU{cs:List (Nat×Nat×Nat)}{c d e b:Nat}(h:(c,d,e)∈cs)(g:b∈[c,d,e]):b∈Va cs:=List.mem_flatMap.2 ⟨(c,d,e),h,g⟩
theorem ChS.below{w':wW}(h:ChS own nm av2 m2 cap2 k B T hi n w lv L ks b1 b2 b3 i wr ev lvi Pi cs)(b:bL wr w'):ChS own nm av2 m2 cap2 k B T hi n w lv L ks b1 b2 b3 i w' ev lvi Pi cs :=
 ⟨h.st.below b,QZ (Fr.of_below [] b) h.oc sM,h.pb.below b,h.pl.mapP (λf a c d e _ p=>p.below b),h.ne,h.eb,h.nl⟩
theorem zFE{w':wW}(b:OwnC wr B ev cs)(g:WS k B T wr (O J own) (U av2 m2 cap2) L lvi Pi)(c:k<B)(f:Fr (k::lvi.ownBlock.toList) wr w'):OwnC w' B ev cs :=
 QZ f b (λj e d=>by
  rcases List.mem_cons.1 d with q|q
  ·have:=(QL b e).1;omega
  ·exact JR b g.own dM e (by simpa using q))
end
theorem zFp(own:Int)(nm:List ByteArray)(av2:Option dW)(m2 cap2 k B:Nat)(T:Nat->Nat)(hi:Nat)(w:wW)(lv:vW)(L c:List I)(m:List Int)(b1 b2 b3:Nat)(wr:wW)(ev lvi:vW)(Pi:List (Wc.In×vW))(es:List (Nat×Nat))(cs:List (Nat×Nat×Nat))
  (d:St own nm av2 m2 cap2 k B T hi w lv wr (L++(C0,m)::c) lvi Pi) (oc:OwnC wr B ev cs) (E:Pd k wr lvi 207 L.length b1 b2 b3) (pl:PdL k wr lvi es cs) (ne:∀b∈[b1,b2,b3]++Va cs,¬ev.ownBlock=wX b) (hl:(L++(C0,m)::c).length<=900000) (aa:m.length<=1000)
  (W:(m=[]/\∀h:L.length<Pi.length,(Pi[L.length]).2=QN) \/ ∃r,m=((L.length+1:Nat):Int)::r) (M:∀q∈es,q.2≠L.length+1) (K:w.heap.size<=T L.length) :
  Calls prog 220 #[pX (wX ⟨b1,0,vX⟩),pX (wX ⟨b2,0,vX⟩),pX (wX ⟨b3,0,vX⟩)] wr λe w'=>(∃P',e=rX (uX #[])/\St own nm av2 m2 cap2 k B T hi w lv w' (L++(C0,m++[((L++(C0,m)::c).length:Int)])::c) lvi P'/\OwnC w' B ev cs/\Pd k w' lvi 207 L.length b1 b2 b3/\PdL k w' lvi es cs)/\Fr (lvi.ownBlock.toList++(Pi[L.length]'(by rw[d.ws.len];simp)).2.ownBlock.toList) wr w':=by
 have y:L.length<(L++(C0,m)::c).length:=sM;have l:L.length<Pi.length:=by rw[d.ws.len];exact y
 have X:(L++(C0,m)::c)[L.length]=(C0,m):=sM;have z:=(d.ws.ins L.length l y).2;rw[X]at z;have C:∀(f a s t u:Nat),Pd k wr lvi f a s t u->a≠L.length+1->∀b∈[s,t,u],b∉lvi.ownBlock.toList++(Pi[L.length]).2.ownBlock.toList:=λf a s t u p ha b hb R=>by
  rcases List.mem_append.1 R with q|q
  ·exact(p.bd b hb).2.2 (by simpa using q)
  ·have q2:(Pi[L.length]).2.ownBlock=wX b:=by simpa using q
   rcases W with⟨_,H⟩|⟨r,H⟩
   ·rw[H l]at q2;cases q2
   ·rw[H]at z;exact p.ne_to z oM b hb q2
 have hT:=zNt k B T _ _ _ lvi Pi wr L.length b1 b2 b3 d.ws d.en.kB (d.en.tl _) oM y l (by rw[X];simp only;omega) E.c1 E.c2 E.c3 (C _ _ _ _ _ E oM);refine hT.mono ?_;rintro e w' ⟨⟨ac,rfl,G,ab⟩,g⟩;rw[X,zAL L _ _ c L.length rfl]at G;have N:∀j∈lvi.ownBlock.toList++(Pi[L.length]).2.ownBlock.toList,B<=j:=λj A=>by
  rcases List.mem_append.1 A with q|q
  ·exact(QL d.ws.own (show lvi.ownBlock=wX j by simpa using q)).1
  ·have:=(QL z (show(Pi[L.length]).2.ownBlock=wX j by simpa using q)).1;have:=d.ws.tb L.length;omega
 have D:∀(f a s t u:Nat),Pd k wr lvi f a s t u->a≠L.length+1->Pd k w' lvi f a s t u:=λf a s t u p ha=>p.fr g (C f a s t u p ha) (λb hb=>(p.bd b hb).2.2)
 refine⟨⟨_,rfl,⟨d.en.fr g (λj A=>by have:=N j A;have:=d.en.kB;omega),G,d.nx,?_⟩,QZ g oc (λj e R=>?_),D _ _ _ _ _ E oM,?_⟩,g⟩
 ·refine d.fr.new g (λj A=>?_);rcases List.mem_append.1 A with q|q
  ·rcases d.nx j (by simpa using q)with r|r
   ·exact tZ (vZ _ (by simp[r]))
   ·exact kZ r
  ·exact kZ (jZ K (QL z (show(Pi[L.length]).2.ownBlock=wX j by simpa using q)).1)
 ·rcases List.mem_append.1 R with q|q
  ·exact JR oc d.ws.own dM e (by simpa using q)
  ·exact JR oc z dM e (by simpa using q)
 ·refine⟨pl.1,λj h1 h2=>D _ _ _ _ _ (pl.2 j h1 h2) (M _ (xZ h1))⟩
open Go.RowKit Wf
section
variable (own:Int)(nm:List ByteArray)(av2:Option dW)(m2 cap2:Nat)
def ChC(n:Nat):Prop:=∀(b:List (Tr n×vW))(c:Option dW)(m cap lo hi k B:Nat)(T:Nat->Nat)(w:wW)(L:List I)(lv:vW)(P:List (Wc.In×vW)),m=b.length->b.length<=30->(∀p∈b,Wr own nm n p.1)->(∀p∈b,PA n lo hi w p.1 p.2)->RdQ w c (b.map λp=>(hd n p.1,p.2))->(∀bb off,c=wX ⟨bb,off,vX⟩->bb<hi)->En own nm av2 m2 cap2 k B T hi w->WS k B T w (O J own) (U av2 m2 cap2) L lv P->L.length+(Ju (cod own nm n) (b.map (·.1)) L.length).length<=900000 ->
 Calls prog 187 #[pX (wX ⟨k,0,vX⟩),U c m cap] w (WP k B T (O J own) (U av2 m2 cap2) (L++Ju (cod own nm n) (b.map (·.1)) L.length) lv w)
end
theorem zGR{b:Nat->Nat}(h:WS k B T w s0 s1 L lv P)(m:∀i,B<=b i)(s:∀i,i<L.length->b i<=T i):WS k B b w s0 s1 L lv P :=
 ⟨h.at',h.own,h.len,λi j d=>⟨(h.ins i j d).1,by
  have l:=(h.ins i j d).2;refine⟨l.1,?_⟩;rcases l.2 with q|⟨g,cap,c,e,p,q⟩
  ·exact tZ q
  ·exact kZ ⟨g,cap,c,e,jZ (s i d) p,q⟩⟩,m,h.dis⟩
theorem zOj{α:Type}(f:α->Nat->List I)(l:List α)(i:Nat)(h:i<l.length)(a:Nat):(QX f 0 (l.take i) a).length+(f l[i] (a+(QX f 0 (l.take i) a).length+(if i=0 then 0 else 1))).length+(if i=0 then 0 else 1)<=(QX f 0 l a).length:=by
 have mono:∀(p q:List α),(QX f 0 p a).length<=(QX f 0 (p++q) a).length:=by
  intro p q;cases p with
  |nil=>simp[QX]
  |cons k r =>
   simp only[wZ,QX,dZ];have:∀(r q:List α)(m:Nat),(chB f 0 r m).length<=(chB f 0 (r++q) m).length:=by
    intro r;induction r with
    |nil=>intro q m;simp[chB]
    |cons x r j =>
     intro q m;simp only[wZ,chB,eZ,dZ];have:=j q (m+1+(f x (m+1)).length);omega
   have:=this r q (a+(f k a).length);omega
 have d:l=l.take (i+1)++l.drop (i+1):=(dX _ _).symm;have c:=mono (l.take (i+1)) (l.drop (i+1));rw[<-d]at c;refine jZ ?_ c;rw[dY h];by_cases hi:i=0
 ·subst hi;simp[QX]
 ·have b:l.take i≠[]:=λe=>by
   have g:(l.take i).length=0:=by rw[e];rfl
   rw[eY]at g;omega
  rw[zDb f 0 _ _ b,if_neg hi];simp only[dZ,eZ];omega
theorem zHq{t:TypeId}{b:Nat}:∀(vs:List vW)(o:Nat)(W:wW)(c:Array vW),W.heap[b]?=wX (Z c t)->∃cur',(W.setCells b o vs).heap[b]?=wX (Z cur' t)
 |[],o,W,c,h=>⟨c,h⟩
 |v::r,o,W,c,h=>zHq r (o+1) _ _ (heap_setCell_same W b o c t v h)
theorem zJd{g:Nat}{xs:List vW}(h:w.ownsRow B g k tv n xs)(p:¬158=g){b:Nat}{c:Array vW}(s:w.heap[b]?=wX (Z c 158)):¬tv.ownBlock=wX b:=λe=>by
 rcases h.2 with⟨q,_⟩|⟨m,u,j,t,_,d,_⟩
 ·rw[q]at e;cases e
 ·rw[t]at e;have l:m=b:=by simpa[Value.ownBlock]using e
  rw[l,s]at d;simp only[Option.some.injEq,Obj.cells.injEq]at d;exact p d.2.1
theorem zId(f:Fr S w w'){b:Nat}{c:Array vW}(d:w.heap[b]?=wX (Z c 158))(e:b∉S):w'.heap[b]?=wX (Z c 158):=by
 rw[f.block b (Array.getElem?_eq_some_iff.1 d).1 e];exact d
def pXpX0(v:Int)(L:List I)(q:Nat×Nat):List I:=if q.1=205 then pB v L q.2 else pA v L q.2
theorem zQb(v:Int)(L:List I)(q:Nat×Nat):(pXpX0 v L q).length=L.length:=by
 unfold pXpX0;split
 ·exact zPf v L q.2
 ·exact zQG v L q.2
theorem zHO(v:Int):∀(es:List (Nat×Nat))(L:List I),(es.foldl (pXpX0 v) L).length=L.length
 |[],L=>rfl
 |q::r,L=>by rw[yY,zHO v r,zQb]
theorem zOu(k B:Nat)(T:Nat->Nat)(s0 s1:vW)(L:List I)(lv:vW)(P:List (Wc.In×vW))(w:wW)(q:Nat×Nat)(p:q.1=204\/q.1=205)(bi bw ba:Nat)(h:WS k B T w s0 s1 L lv P)(g:k<B)(m:L.length<=1000000)(d:Pd k w lv q.1 q.2 bi bw ba)(c:q.2<L.length) :
  Calls prog 220 #[pX (wX ⟨bi,0,vX⟩),pX (wX ⟨bw,0,vX⟩),pX (wX ⟨ba,0,vX⟩)] w λe w'=>(∃P',e=rX (uX #[])/\WS k B T w' s0 s1 (pXpX0 (L.length:Int) L q) lv P')/\Fr lv.ownBlock.toList w w':=by
 obtain⟨s,l⟩:=q;simp only at p d c;have j:∀b,lv.ownBlock=wX b->bi≠b/\bw≠b/\ba≠b:=λb e=>⟨λq=>(d.bd bi sM).2.2 (by rw[q];exact e),λq=>(d.bd bw sM).2.2 (by rw[q];exact e),λq=>(d.bd ba sM).2.2 (by rw[q];exact e)⟩
 rcases p with rfl|rfl
 ·have:=zE3 k B T s0 s1 L lv P w l bi bw ba h g m c d.c1 d.c2 d.c3 j;rw[<-zRV _ L l c]at this;exact this
 ·have:=zIH k B T s0 s1 L lv P w l bi bw ba h g m c d.c1 d.c2 d.c3 j;rw[<-zRS _ L l c]at this;exact this
theorem zMw{α:Type}(f:α->Nat->List I):∀(r:List α)(m:Nat),(jr f r m).length=r.length
 |[],m=>rfl
 |k::r,m=>by simp[jr,zMw f r]
theorem zMu{α:Type}(f:α->Nat->List I)(l:List α)(a:Nat):(jx f l a).length<=l.length:=by
 cases l with
 |nil=>simp[jx]
 |cons k r=>simp[jx,zMw]
theorem zIo(own:Int)(nm:List ByteArray)(av2:Option dW)(m2 cap2 n:Nat)(ih:PtC own nm av2 m2 cap2 n)(aN:∀(t:Tr n)(a:Nat),Wr own nm n t->0<(cod own nm n t a).length):ChC own nm av2 m2 cap2 n:=by
 intro ps av m cap lo hi k B T0 w L lv P H hl a9 bp cn cc l ar aw;obtain⟨T,aG⟩:∃T:Nat->Nat,T=λi=>if i=L.length then w.heap.size else T0 i:=⟨_,rfl⟩
 have cb:T L.length=w.heap.size:=by rw[aG];simp
 have bC:∀i,T0 i<=T i:=λi=>by
  rw[aG];by_cases h:i=L.length
  ·simp only[h,if_true];exact l.tl _
  ·simp[h]
 have ca:∀i,B<=T i:=λi=>jZ (ar.tb i) (bC i)
 have ah:En own nm av2 m2 cap2 k B T hi w:=⟨l.na,l.rs,l.hm,l.hl,l.rk,l.gk,l.hk,l.kB,l.hB,λi=>by
  rw[aG];by_cases h:i=L.length
  ·simp[h]
  ·simp[h];exact l.tl i⟩
 have bc:=zGR ar ca (λi hi=>by rw[aG];simp[show¬i=L.length from by omega]);obtain⟨ks,ai⟩:=xV (ps.map (·.1))
 have ck:ks.length=ps.length:=by rw[<-ai,nZ]
 rw[ai]at aw;rw[ai,zF7];rw[zF7]at aw;simp only[eZ]at aw;rw[zJ2 (cod own nm n) _ 0]at aw;have bn:∀(w':wW)(lv':vW)(P':List (Wc.In×vW)),St own nm av2 m2 cap2 k B T hi w lv w' (L++(⟨15,0,(L.length+1+(QX (cod own nm n) 0 ks (L.length+1)).length:Nat),v0I,c0I,a0I,a0I⟩,toC (cod own nm n) ks (L.length+1))::QX (cod own nm n) (L.length+1+(QX (cod own nm n) 0 ks (L.length+1)).length:Nat) ks (L.length+1)) lv' P'->WP k B T0 (O J own) (U av2 m2 cap2) (L++(⟨15,0,(L.length+1+(QX (cod own nm n) 0 ks (L.length+1)).length:Nat),v0I,c0I,a0I,a0I⟩,toC (cod own nm n) ks (L.length+1))::QX (cod own nm n) (L.length+1+(QX (cod own nm n) 0 ks (L.length+1)).length:Nat) ks (L.length+1)) lv w (rX (uX #[])) w':=λw' lv' P' st=>⟨⟨lv',P',rfl,zGR st.ws ar.tb (λi _=>bC i),st.nx⟩,st.fr⟩
 generalize b9:L++(⟨15,0,(L.length+1+(QX (cod own nm n) 0 ks (L.length+1)).length:Nat),v0I,c0I,a0I,a0I⟩,toC (cod own nm n) ks (L.length+1))::QX (cod own nm n) (L.length+1+(QX (cod own nm n) 0 ks (L.length+1)).length:Nat) ks (L.length+1)=LF at*;have bV:hH (∀(w':wW)(lv':vW)(P':List (Wc.In×vW)),St own nm av2 m2 cap2 k B T hi w lv w' LF lv' P'->WP k B T0 (O J own) (U av2 m2 cap2) LF lv w (rX (uX #[])) w'):=bn;have cP:hH (L++(⟨15,0,(L.length+1+(QX (cod own nm n) 0 ks (L.length+1)).length:Nat),v0I,c0I,a0I,a0I⟩,toC (cod own nm n) ks (L.length+1))::QX (cod own nm n) (L.length+1+(QX (cod own nm n) 0 ks (L.length+1)).length:Nat) ks (L.length+1)=LF):=b9;have ab:hH (L.length+((QX (cod own nm n) 0 ks (L.length+1)).length+1)<=900000):=aw;have HM:hH (m=ps.length/\ps.length<=30/\ks.length=ps.length):=⟨H,hl,ck⟩
 have cN:hH (∀(i:Nat)(h:i<ps.length)(h':i<ks.length),ks[i]=(ps[i]).1):=λi h h'=>by subst ai;rw[qZ]
 have cZ:hH (∀p∈ps,Wr own nm n p.1):=a9;have b0:hH (∀p∈ps,PA n lo hi w p.1 p.2):=bp;have cR:hH (RdQ w av (ps.map λp=>(hd n p.1,p.2))):=cn;have bA:∀j,lv.ownBlock=wX j->B<=j:=λj e=>(QL bc.own e).1
 have cK:hH (∀bb ax,av=wX ⟨bb,ax,vX⟩->bb∉k::lv.ownBlock.toList):=λbb ax e hmm=>by
  have D:=cc bb ax e;have:=ah.hk;have:=ah.kB;rcases List.mem_cons.1 hmm with q|q
  ·omega
  ·have:=bA bb (by simpa using q);omega
 have HK:hH ((∀j,lv.ownBlock=wX j->B<=j)/\w.heap.size<=T L.length/\B<=w.heap.size):=⟨bA,by rw[cb];exact yZ _,ah.hB⟩
 have cM:hH (PtC own nm av2 m2 cap2 n):=ih;have bW:hH (∀(i:Nat),∀p∈jx (cod own nm n) (ks.take i) (L.length+1),p≠L.length+1/\p<L.length+1+(QX (cod own nm n) 0 (ks.take i) (L.length+1)).length):=λi p hp=>by
  cases hk:ks.take i with
  |nil=>rw[hk]at hp;cases hp
  |cons x r =>
   rw[hk]at hp;have hx:Wr own nm n x:=by
    have aK:x∈ks:=fX (by rw[hk];exact fY ..);rw[<-ai]at aK;obtain⟨p2,aM,rfl⟩:=List.mem_map.1 aK;exact a9 p2 aM
   have h1:=zQh (cod own nm n) r _ p hp;have h2:=aN x (L.length+1) hx;simp only[QX,dZ];omega
 have cQ:hH (∀(i:Nat),ks.take i≠[]->0<(QX (cod own nm n) 0 (ks.take i) (L.length+1)).length):=λi hne=>by
  cases hk:ks.take i with
  |nil=>exact absurd hk hne
  |cons x r =>
   have hx:Wr own nm n x:=by
    have aK:x∈ks:=fX (by rw[hk];exact fY ..);rw[<-ai]at aK;obtain⟨p2,aM,rfl⟩:=List.mem_map.1 aK;exact a9 p2 aM
   have h2:=aN x (L.length+1) hx;simp only[QX,dZ];omega
 have LA:=zPI k B T (ins 15 0 0).1 _ _ L lv P w bc ah.kB ah.hB oM;have bl:hH (St own nm av2 m2 cap2 k B T hi w lv w L lv P):=St.init ah bc;clear H hl a9 bp cn cc l ar ah bc aw ih aN aG cb bC ca ai ck bn b9 bA;go_enter func187,ntmps187;go_wp2_with (first|(refine Qo rfl 15 rfl ?_))
 refine LA.mono ?_;rintro e w1 ⟨⟨al,P1,rfl,cF,cq,cp⟩,b6⟩;have an:hH (St own nm av2 m2 cap2 k B T hi w lv w1 (L++[(C0,[])]) al P1/\∀h:L.length<P1.length,(P1[L.length]).2=QN):=⟨bl.out.step b6 cq cF,cp⟩
 clear LA cF cq b6 cp bl;have LT:=zBY k B 207 T _ _ _ al P1 w1 an.out.1.ws sM (by have:=ab.out;simp;omega);rw[show(L++[(C0,([]:List Int))]).length-1=L.length from by simp]at LT;go_wp2_with fail
 refine LT.mono ?_;rintro e w2 ⟨⟨b1,b2,b3,rfl,cw⟩,cd⟩;have R:hH (St own nm av2 m2 cap2 k B T hi w lv w2 (L++[(C0,[])]) al P1/\∀h:L.length<P1.length,(P1[L.length]).2=QN):=⟨an.out.1.below cd,an.out.2⟩
 have bv:hH (Pd k w2 al 207 L.length b1 b2 b3):=cw;clear LT cw cd an;have LT:=zBY k B 205 T _ _ _ al P1 w2 R.out.1.ws sM (by have:=ab.out;simp;omega);rw[show(L++[(C0,([]:List Int))]).length-1=L.length from by simp]at LT;go_wp2_with fail
 refine LT.mono ?_;rintro e w3 ⟨⟨c1,c2,c3,rfl,bQ⟩,aH⟩;have bD:=QI (fZ _ w3) (Z #[clV c1 c2 c3] 1);have bU:hH (ChS own nm av2 m2 cap2 k B T hi n w lv L ks b1 b2 b3 0 (w3.alloc (Z #[clV c1 c2 c3] 1)) (U (wX ⟨w3.heap.size,0,vX⟩) 1 1) al P1 [(c1,c2,c3)]):=by
  have cf:=QA aH bD;have dc:=bv.out.below cf;have aM:=bQ.below bD;have hs:=R.out.1.below cf;refine⟨by simpa[toC,QX]using hs,zOx w3 (c1,c2,c3) B (R.out.1.below aH).en.hB,dc,⟨rfl,λj h1 h2=>?_⟩,λb E e=>?_,λj e=>by cases e;exact(R.out.1.below aH).fr.size,λ_=>R.out.2⟩
  ·have e:j=0:=by simp at h2;omega
   subst e;exact aM
  ·have e2:w3.heap.size=b:=by simpa[Value.ownBlock]using e
   rcases List.mem_append.1 E with q|q
   ·have:=((bv.out.below aH).bd b q).2.1;omega
   ·have q2:b∈[c1,c2,c3]:=by simpa[Va]using q
    have:=(bQ.bd b q2).2.1;omega
 clear LT bQ aH bD R bv;go_upto_region 3 with fail
 generalize(w3.alloc (Z #[clV c1 c2 c3] 1))=W4 at*;generalize a3:(U (wX ⟨w3.heap.size,0,vX⟩) 1 1)=dh at*;clear a3;have eg:=zNJ;go_wp2_with fail
 go_loopg [6,7,8,22] m (λgk u6 u7 u8 x wr=>∃(i:Nat)(ev:vW),ev=u6/\x=O J (i:Int)/\gk=m-i/\i<=m/\hH (∃lvi Pi cs,ChS own nm av2 m2 cap2 k B T hi n w lv L ks b1 b2 b3 i wr ev lvi Pi cs))
 case atStart=>exact⟨0,_,rfl,rfl,rfl,uY _,⟨al,P1,[(c1,c2,c3)],bU.out⟩⟩
 case round =>
  clear bU;obtain⟨i,ev,rfl,rfl,hg,dk,HS⟩:=hrel;by_cases cl:i<m
  ·have db:(i:Int)<(m:Int):=oM;have dl:(0:Int)<=(i:Int):=oM;have dn:J.wrap ((i:Int)+1)=(i:Int)+1:=by have:=HM.out;rw[jY];omega
   have a5:i<ps.length:=by have:=HM.out;omega
   have a4:i<ks.length:=by have:=HM.out;omega
   obtain⟨lvi,Pi,cs,s⟩:=HS.out;obtain⟨bb,ax,rfl,bM⟩:=cR.out i (by simpa using a5);simp only[qZ]at bM;have hr:=s.st.fr.range bM (cK.out bb ax rfl);have a7:=xZ a5;obtain⟨sa,sb,sc,bN⟩:=(b0.out _ a7).slice;have bJ:=zOj (cod own nm n) ks i a4 (L.length+1);have bH:=cN.out i a5 a4;have aZ:hH (ks.take (i+1)=ks.take i++[(ps[i]).1]):=by show _=_;rw[dY a4,bH]
   rw[bH]at bJ;have bx:hH (∀(W:wW)(Lx:List I)(be:vW)(Px:List (Wc.In×vW)),St own nm av2 m2 cap2 k B T hi w lv W Lx be Px->Lx.length+(cod own nm n (ps[i]).1 Lx.length).length<=900000->Calls prog 85 #[pX (wX ⟨k,0,vX⟩),gX (QO (hd n (ps[i]).1) (U sa sb sc)).toArray] W (WP k B T (O J own) (U av2 m2 cap2) (Lx++cod own nm n (ps[i]).1 Lx.length) be W)):=λW Lx be Px st E=>by
    have:=cM.out (ps[i]).1 (ps[i]).2 lo hi k B T W Lx be Px (cZ.out _ a7) (PA.kept (st.kept HK.out.1) n _ _ (b0.out _ a7)) st.en st.ws E;rw[bN]at this;exact this
   rw[bN]at hr;have aT:hH ((QX (cod own nm n) 0 (ks.take i) (L.length+1)).length+(cod own nm n (ps[i]).1 (L.length+1+(QX (cod own nm n) 0 (ks.take i) (L.length+1)).length+(if i=0 then 0 else 1))).length+(if i=0 then 0 else 1)<=(QX (cod own nm n) 0 ks (L.length+1)).length):=bJ;obtain⟨tk,ak⟩:∃t,(ps[i]).1=t:=⟨_,rfl⟩
   rw[ak]at aZ bx aT hr;generalize hd n tk=y at*;have co:nY (wr.alloc (Z zeros21 158)) wr.heap.size 0 (QO y (U sa sb sc)).toArray.size:=(AtL.new0 wr _ _:AtL (wr.alloc (Z zeros21 158)) wr.heap.size zeros21.toList).there;have aY:hH (AtL ((wr.alloc (Z zeros21 158)).setCells wr.heap.size 0 (QO y (U sa sb sc))) wr.heap.size (QO y (U sa sb sc))):=(AtL.new0 wr _ _:AtL (wr.alloc (Z zeros21 158)) wr.heap.size zeros21.toList).setAll rfl;have bz:hH (∃a0,((wr.alloc (Z zeros21 158)).setCells wr.heap.size 0 (QO y (U sa sb sc))).heap[wr.heap.size]?=wX (Z a0 158)):=zHq _ 0 _ _ (heap_alloc_new wr _);have b8:bL wr ((wr.alloc (Z zeros21 158)).setCells wr.heap.size 0 (QO y (U sa sb sc))):=Ql (QI (fZ _ wr) _) (yZ _) _ 0;have az:hH (ChS own nm av2 m2 cap2 k B T hi n w lv L ks b1 b2 b3 i ((wr.alloc (Z zeros21 158)).setCells wr.heap.size 0 (QO y (U sa sb sc))) ev lvi Pi cs/\k<wr.heap.size/\wr.heap.size<((wr.alloc (Z zeros21 158)).setCells wr.heap.size 0 (QO y (U sa sb sc))).heap.size/\(∀j,lvi.ownBlock=wX j->j<wr.heap.size)/\cs.length<=31):=⟨s.below b8,by have:=s.st.en.kB;have:=s.st.en.hB;omega,aY.out.lt,λj e=>(QL s.st.ws.own e).2,by
    have D:=s.pl.1;have h8:=zMu (cod own nm n) (ks.take i) (L.length+1);have h7:=HM.out;rw[eY]at h8;simp only[eZ,nZ]at D;omega⟩
   clear bJ bH bN bM a7 ak a5 a4 s HS b8;go_upto_region 6 with(first|(refine ldQ 158 (mX 25) bb (ax+i*21) (QO y (U sa sb sc)) _ hr underlying158 ?_)|((with_reducible refine stQ 158 (mX 8) (mX 26) wr.heap.size 0 (QO y (U sa sb sc)).toArray ?_ ?_ ?_);exact co;exact Qt _ _ _ _))
   clear co hr;generalize((wr.alloc (Z zeros21 158)).setCells wr.heap.size 0 (QO y (U sa sb sc)))=W2 at*;obtain⟨s,bI,aO,ap,bF⟩:=az.out;obtain⟨a0,aq⟩:=bz.out;have a8:=aY.out.range;by_cases h0:i=0
   ·subst h0;have bh:St own nm av2 m2 cap2 k B T hi w lv W2 (L++(C0,[])::[]) lvi Pi:=by simpa[toC,QX]using s.st
    have cz:PdL k W2 lvi [(205,L.length)] cs:=by simpa[jx]using s.pl
    have bm:hH (ks.take 1=[tk]):=by show _=_;have:=aZ.out;simpa using this
    have cO:hH ((cod own nm n tk (L.length+1)).length<=(QX (cod own nm n) 0 ks (L.length+1)).length):=by
     show _<=_
     have D:=aT.out;rw[List.take_zero,show QX (cod own nm n) 0 ([]:List (Tr n)) (L.length+1)=[]from rfl]at D;simpa using D
    have BG:=zFp own nm av2 m2 cap2 k B T hi w lv L [] [] b1 b2 b3 W2 ev lvi Pi _ cs bh s.oc s.pb cz s.ne (by have:=ab.out;simp;omega) sM (tZ ⟨rfl,s.nl rfl⟩) sM HK.out.2.1;have ag:L.length<(L++[(C0,([]:List Int))]).length:=sM;have aP:=(bh.ws.ins L.length (by rw[bh.ws.len];exact ag) ag).2;have aB:hH (wr.heap.size∉lvi.ownBlock.toList++(Pi[L.length]'(by rw[bh.ws.len];exact ag)).2.ownBlock.toList):=λH=>by
     rcases List.mem_append.1 H with q|q
     ·have:=ap wr.heap.size (by simpa using q);omega
     ·exact zJd aP dM aq (by simpa using q)
    have bu:hH ((∀b∈[b1,b2,b3]++Va cs,¬ev.ownBlock=wX b)/\∀j,ev.ownBlock=wX j->w.heap.size<=j):=⟨s.ne,s.eb⟩
    have au:hH (W2.rangeAt wr.heap.size 0 (QO y (U sa sb sc))):=a8;clear cz aP s bI aO ap bF aq a8 az bz aY;go_upto_region 9 with(first|(go_at_call 220;refine BG.mono ?_;rintro e G ⟨⟨P5,rfl,ay,aR,ct,cA⟩,K⟩;clear BG))
    have rI:=K.range au.out aB.out;have aC:hH (St own nm av2 m2 cap2 k B T hi w lv G (L++[(C0,[((L.length+1:Nat):Int)])]) lvi P5):=(by simpa using ay:St own nm av2 m2 cap2 k B T hi w lv G (L++[(C0,[((L.length+1:Nat):Int)])]) lvi P5)
    have aW:hH (OwnC G B ev cs/\Pd k G lvi 207 L.length b1 b2 b3/\PdL k G lvi [(205,L.length)] cs):=⟨aR,ct,cA⟩
    clear ay aR ct cA K aB au;have PT:=bx.out G _ lvi P5 aC.out (by have:=ab.out;have:=cO.out;simp;omega);go_wp2_with (first|(refine ldQ 158 (mX 8) wr.heap.size 0 (QO y (U sa sb sc)) _ rI underlying158 ?_))
    refine PT.mono ?_;rintro e w6 ⟨⟨dd,P6,rfl,cI,bf⟩,aE⟩;have cT:hH (∃lvi Pi cs,ChS own nm av2 m2 cap2 k B T hi n w lv L ks b1 b2 b3 1 w6 ev lvi Pi cs):=by
     refine⟨dd,P6,cs,?_,zFE aW.out.1 aC.out.ws aC.out.en.kB aE,aW.out.2.1.step aE bf,?_,bu.out.1,bu.out.2,λh=>by omega⟩
     ·have D:=aC.out.step aE bf cI;rw[bm.out];have e9:(L++[(C0,[((L.length+1:Nat):Int)])])++cod own nm n tk (L++[(C0,[((L.length+1:Nat):Int)])]).length=L++(C0,toC (cod own nm n) [tk] (L.length+1))::QX (cod own nm n) 0 [tk] (L.length+1):=by
       simp[toC,chT,zM0]
      rw[e9]at D;exact D
     ·rw[bm.out];simpa[jx,jr]using aW.out.2.2.mapP (λf a q1 q2 q3 _ p=>p.step aE bf)
    clear PT rI cI bf aE aC aW bu;go_wp2_with fail
    go_roundg (m-(0+1))
    case rel=>exact⟨1,_,rfl,sM,rfl,cl,cT⟩
    case measure=>omega
   ·have ad:ks.take i≠[]:=λe=>by
     have D:(ks.take i).length=0:=by rw[e];rfl
     have:=HM.out;rw[eY]at D;omega
    have aA:hH ((QX (cod own nm n) 0 (ks.take i) (L.length+1)).length+(cod own nm n tk (L.length+1+(QX (cod own nm n) 0 (ks.take i) (L.length+1)).length+1)).length+1<=(QX (cod own nm n) 0 ks (L.length+1)).length):=by
     show _<=_
     have D:=aT.out;rw[if_neg h0]at D;exact D
    have cX:hH (∃r,toC (cod own nm n) (ks.take i) (L.length+1)=((L.length+1:Nat):Int)::r):=by
     cases hk:ks.take i with
     |nil=>exact absurd hk ad
     |cons x r=>exact⟨_,rfl⟩
    have cY:hH ((toC (cod own nm n) (ks.take i) (L.length+1)).length<=1000):=by
     show _<=_
     have c7:∀(r:List (Tr n))(q:Nat),(chT (cod own nm n) r q).length=r.length:=by
      intro r;induction r with
      |nil=>intro q;rfl
      |cons x r ih=>intro q;simp[chT,ih]
     have h7:=HM.out;have h6:(ks.take i).length<=30:=by rw[eY];omega
     cases hk:ks.take i with
     |nil=>simp[toC]
     |cons x r=>rw[hk]at h6;simp only[toC,eZ,c7];simp at h6;omega
    have bX:hH (∀p∈jx (cod own nm n) (ks.take i) (L.length+1),p≠L.length+1):=λp hp=>(bW.out i p hp).1
    have cW:hH (toC (cod own nm n) (ks.take i++[tk]) (L.length+1)=toC (cod own nm n) (ks.take i) (L.length+1)++[((L.length+1+(QX (cod own nm n) 0 (ks.take i) (L.length+1)).length+1:Nat):Int)]/\QX (cod own nm n) 0 (ks.take i++[tk]) (L.length+1)=QX (cod own nm n) 0 (ks.take i) (L.length+1)++(ins 13 0 0::cod own nm n tk (L.length+1+(QX (cod own nm n) 0 (ks.take i) (L.length+1)).length+1))/\jx (cod own nm n) (ks.take i++[tk]) (L.length+1)=jx (cod own nm n) (ks.take i) (L.length+1)++[L.length+1+(QX (cod own nm n) 0 (ks.take i) (L.length+1)).length]):=⟨zOe _ _ _ ad _,zDb _ _ _ _ ad _,zPG _ _ _ ad _⟩
    have c0:hH (0<(QX (cod own nm n) 0 (ks.take i) (L.length+1)).length):=cQ.out i ad;have N:=s.st;have M:=s.pl;generalize toC (cod own nm n) (ks.take i) (L.length+1)=tl at*;generalize QX (cod own nm n) 0 (ks.take i) (L.length+1)=d at*;generalize jx (cod own nm n) (ks.take i) (L.length+1)=js at*;have HC:hH (St own nm av2 m2 cap2 k B T hi w lv W2 (L++(C0,tl)::d) lvi Pi/\OwnC W2 B ev cs/\Pd k W2 lvi 207 L.length b1 b2 b3/\PdL k W2 lvi ((205,L.length)::js.map (λp=>(204,p))) cs/\(∀b∈[b1,b2,b3]++Va cs,¬ev.ownBlock=wX b)/\(∀j,ev.ownBlock=wX j->w.heap.size<=j)/\k<wr.heap.size/\wr.heap.size<W2.heap.size/\(∀j,lvi.ownBlock=wX j->j<wr.heap.size)/\cs.length<=31):=⟨N,s.oc,s.pb,M,s.ne,s.eb,bI,aO,ap,bF⟩
    have au:hH (W2.rangeAt wr.heap.size 0 (QO y (U sa sb sc))/\W2.heap[wr.heap.size]?=wX (Z a0 158)):=⟨a8,aq⟩
    have JU:=zHZ k B T _ _ _ lvi Pi W2 N.ws N.en.kB N.en.hB (by have:=ab.out;have:=aA.out;simp;omega);have dj:(0:Int)<(i:Int):=oM;clear s bI aO ap bF aq a8 az bz aY N M aT;go_wp2_with fail
    refine JU.mono ?_;rintro e G ⟨⟨u,z,A,C,P5,rfl,cx,cg,cH,aQ⟩,K⟩;obtain⟨q1,q2,q3,q4,q5,q6,q7,q8,q9,cC⟩:=HC.out;have ay:=q1.step K aQ cH;have bK:wr.heap.size∉k::lvi.ownBlock.toList:=λH=>by
     rcases List.mem_cons.1 H with q|q
     ·omega
     ·have:=q9 wr.heap.size (by simpa using q);omega
    have aa:=QI (fZ _ G) (Z #[clV u z A] 1);have aR:=zFE q2 q1.ws q1.en.kB K;have br:hH (St own nm av2 m2 cap2 k B T hi w lv (G.alloc (Z #[clV u z A] 1)) (L++(C0,tl)::(d++[ins 13 0 0])) C P5/\OwnC (G.alloc (Z #[clV u z A] 1)) B ev cs/\Pd k (G.alloc (Z #[clV u z A] 1)) C 207 L.length b1 b2 b3/\PdL k (G.alloc (Z #[clV u z A] 1)) C ((205,L.length)::js.map (λp=>(204,p))) cs/\Pd k (G.alloc (Z #[clV u z A] 1)) C 204 (L.length+1+d.length) u z A/\(∀b∈[u,z,A],¬ev.ownBlock=wX b)):=by
     refine⟨?_,QZ (Fr.of_below [] aa) aR sM,(q3.step K aQ).below aa,q4.mapP (λf a p1 p2 p3 _ p=>(p.step K aQ).below aa),?_,λb E e=>?_⟩
     ·have D:=ay.below aa;rw[hZ,wZ]at D;exact D
     ·have D:=cx.below aa;rw[show(L++(C0,tl)::d).length=L.length+1+d.length from by simp;omega]at D;exact D
     ·have:=cg b E;have:=(QL q2 e).2;omega
    have bY:hH (¬C.ownBlock=wX wr.heap.size):=λe=>by
     rcases aQ _ e with q|q
     ·have:=q9 _ q;omega
     ·omega
    have am:hH ((G.alloc (Z #[clV u z A] 1)).rangeAt wr.heap.size 0 (QO y (U sa sb sc))/\(G.alloc (Z #[clV u z A] 1)).heap[wr.heap.size]?=wX (Z a0 158)):=⟨QF aa (K.range au.out.1 bK),zId (Fr.of_below [] aa) (zId K au.out.2 bK) sM⟩
    have bT:hH ((G.alloc (Z #[clV u z A] 1)).cell? ⟨G.heap.size,0,vX⟩=wX (clV u z A)):=(AtL.new0 G 1 [clV u z A]).2.1 0 _ rfl;have aV:hH ((∀b∈[b1,b2,b3]++Va cs,¬ev.ownBlock=wX b)/\(∀j,ev.ownBlock=wX j->w.heap.size<=j)/\cs.length<=31/\B<=(G.alloc (Z #[clV u z A] 1)).heap.size):=⟨q5,q6,cC,jZ ay.en.hB aa.size⟩
    clear JU cx cg cH aQ K q1 q2 q3 q4 q5 q6 q7 q8 q9 cC ay bK aR aa HC au;go_upto_region 8 with(first
     |(
       refine zFT rfl (mX 29) (mX 32) rfl (G.alloc (Z #[clV u z A] 1)) B aV.out.2.2.2 ev cs rfl br.out.2.1 G.heap.size (u,z,A) rfl bT.out (λ_=>by have:=aV.out.2.2.1;omega) ?_;intro af w7 bq ci bO))
    obtain⟨r1,r2,r3,r4,r5,r6⟩:=br.out;obtain⟨n1,n2,n3,n4⟩:=aV.out;have f7:Fr ev.ownBlock.toList (G.alloc (Z #[clV u z A] 1)) w7:=Fr.of_grown ci (λj e=>by simp[e]);have bj:=r1.other f7 (λj hj=>⟨n2 j (by simpa using hj),by have:=(QL r2 (show ev.ownBlock=wX j by simpa using hj)).1;have:=r1.en.kB;omega⟩) (λj e H=>JR r1.ws.own r2 dM e (by simpa using H)) (λa ha b e H=>JR (r1.ws.ins a ha (by rw[<-r1.ws.len];exact ha)).2 r2 dM e (by simpa using H));have cu:=r3.fr (lv':=C) f7 (λb E H=>n1 b (qY _ E) (by simpa using H)) (λb E=>(r3.bd b E).2.2);have cB:=r4.mapP (λf a p1 p2 p3 H p=>p.fr f7 (λb E hq=>n1 b (pY _ (zMU H E)) (by simpa using hq)) (λb E=>(p.bd b E).2.2));have cy:=r5.fr (lv':=C) f7 (λb E H=>r6 b E (by simpa using H)) (λb E=>(r5.bd b E).2.2);have aS:=cB.snoc (q:=(204,L.length+1+d.length)) (c:=(u,z,A)) cy;have bE:Va (cs++[(u,z,A)])=Va cs++[u,z,A]:=by simp[Va]
    have bo:∀b∈[b1,b2,b3]++Va (cs++[(u,z,A)]),b<(G.alloc (Z #[clV u z A] 1)).heap.size:=λb E=>by
     rw[bE]at E;rcases List.mem_append.1 E with q|q
     ·exact(r3.bd b q).2.1
     ·rcases List.mem_append.1 q with q|q
      ·obtain⟨c,hc,c5⟩:=List.mem_flatMap.1 q;obtain⟨j,hj,rfl⟩:=List.getElem_of_mem hc;exact((r4.2 j (by rw[r4.1];exact hj) hj).bd b c5).2.1
      ·exact(r5.bd b q).2.1
    have bP:∀b∈[b1,b2,b3]++Va (cs++[(u,z,A)]),¬af.ownBlock=wX b:=λb E e=>by
     rcases bO with h|h
     ·rw[h]at e;rw[bE]at E;rcases List.mem_append.1 E with q|q
      ·exact n1 b (qY _ q) e
      ·rcases List.mem_append.1 q with q|q
       ·exact n1 b (pY _ q) e
       ·exact r6 b q e
     ·rw[h]at e;cases e
      have:=bo _ E;omega
    have b5:∀j,af.ownBlock=wX j->w.heap.size<=j:=λj e=>by
     rcases bO with h|h
     ·exact n2 j (by rw[<-h];exact e)
     ·rw[h]at e;cases e;exact r1.fr.size
    have aL:wr.heap.size∉ev.ownBlock.toList:=λH=>zJd r2 dM am.out.2 (by simpa using H)
    have cD:=f7.range am.out.1 aL;have cE:=zId f7 am.out.2 aL;have BG:=zFp own nm av2 m2 cap2 k B T hi w lv L (d++[ins 13 0 0]) tl b1 b2 b3 w7 af C P5 _ (cs++[(u,z,A)]) bj bq cu aS bP (by have:=ab.out;have:=aA.out;simp;omega) cY.out (kZ cX.out) (λq hq=>by
     rcases List.mem_append.1 hq with h|h
     ·rcases List.mem_cons.1 h with rfl|h
      ·simp
      ·obtain⟨p,hp,rfl⟩:=List.mem_map.1 h;exact bX.out p hp
     ·simp only[List.mem_singleton]at h;subst h;have:=c0.out;simp only;omega) HK.out.2.1
    have ag:L.length<(L++(C0,tl)::(d++[ins 13 0 0])).length:=sM;have aP:=(bj.ws.ins L.length (by rw[bj.ws.len];exact ag) ag).2;have aB:hH (wr.heap.size∉C.ownBlock.toList++(P5[L.length]'(by rw[bj.ws.len];exact ag)).2.ownBlock.toList):=λH=>by
     rcases List.mem_append.1 H with q|q
     ·exact bY.out (by simpa using q)
     ·exact zJd aP dM cE (by simpa using q)
    have bt:hH ((∀b∈[b1,b2,b3]++Va (cs++[(u,z,A)]),¬af.ownBlock=wX b)/\∀j,af.ownBlock=wX j->w.heap.size<=j):=⟨bP,b5⟩
    have bk:hH (w7.rangeAt wr.heap.size 0 (QO y (U sa sb sc))):=cD;clear r1 r2 r3 r4 r5 r6 n1 n2 n3 n4 f7 cu cB cy aS bE bo bP b5 aL cD cE aP bq ci bO br am bT aV bY;go_upto_region 9 with(first|(go_at_call 220;refine BG.mono ?_;rintro e w8 ⟨⟨P8,rfl,bR,cr,cv,aS⟩,b7⟩;clear BG))
    have rI:=b7.range bk.out aB.out;have aD:hH (St own nm av2 m2 cap2 k B T hi w lv w8 (L++(C0,tl++[((L.length+1+d.length+1:Nat):Int)])::(d++[ins 13 0 0])) C P8):=by
     have e9:(((L++(C0,tl)::(d++[ins 13 0 0])).length:Nat):Int)=((L.length+1+d.length+1:Nat):Int):=by simp;omega
     rw[e9]at bR;exact bR
    have aX:hH (OwnC w8 B af (cs++[(u,z,A)])/\Pd k w8 C 207 L.length b1 b2 b3/\PdL k w8 C (((205,L.length)::js.map (λp=>(204,p)))++[(204,L.length+1+d.length)]) (cs++[(u,z,A)])):=⟨cr,cv,aS⟩
    clear bR cr cv aS b7 aB bk;have aj:(L++(C0,tl++[((L.length+1+d.length+1:Nat):Int)])::(d++[ins 13 0 0])).length=L.length+1+d.length+1:=by simp;omega
    have PT:=bx.out w8 _ C P8 aD.out (by rw[aj];have:=ab.out;have:=aA.out;omega);rw[aj]at PT;clear aj;go_wp2_with (first|(refine ldQ 158 (mX 8) wr.heap.size 0 (QO y (U sa sb sc)) _ rI underlying158 ?_))
    refine PT.mono ?_;rintro e w9 ⟨⟨de,P9,rfl,cJ,bg⟩,aF⟩;have cU:hH (∃lvi Pi cs,ChS own nm av2 m2 cap2 k B T hi n w lv L ks b1 b2 b3 (i+1) w9 af lvi Pi cs):=by
     obtain⟨s1,s2,s3⟩:=cW.out;refine⟨de,P9,cs++[(u,z,A)],?_,zFE aX.out.1 aD.out.ws aD.out.en.kB aF,aX.out.2.1.step aF bg,?_,bt.out.1,bt.out.2,λh=>by omega⟩
     ·have D:=aD.out.step aF bg cJ;rw[aZ.out,s1,s2];have e9:(L++(C0,tl++[((L.length+1+d.length+1:Nat):Int)])::(d++[ins 13 0 0]))++cod own nm n tk (L.length+1+d.length+1)=L++(C0,tl++[((L.length+1+d.length+1:Nat):Int)])::(d++(ins 13 0 0::cod own nm n tk (L.length+1+d.length+1))):=sM;rw[e9]at D;exact D
     ·rw[aZ.out,s3,wY];exact aX.out.2.2.mapP (λf a p1 p2 p3 _ p=>p.step aF bg)
    clear PT rI cJ bg aF aD aX bt;go_wp2_with fail
    go_roundg (m-(i+1))
    case rel=>exact⟨i+1,_,rfl,sM,rfl,cl,cU⟩
    case measure=>omega
  ·have db:¬(i:Int)<(m:Int):=oM;obtain⟨lvi,Pi,cs,s⟩:=HS.out;have ak:ks.take i=ks:=hY (by have:=HM.out;omega);have N:=s.st;have M:=s.pl;rw[ak]at N M;have cm:∀p∈jx (cod own nm n) ks (L.length+1),p<L.length+1+(QX (cod own nm n) 0 ks (L.length+1)).length:=λp hp=>by
    have:=(bW.out i p (by rw[ak];exact hp)).2;rw[ak]at this;exact this
   have ac:((205,L.length)::(jx (cod own nm n) ks (L.length+1)).map (λp=>(204,p))).foldl (pXpX0 ((L.length+1+(QX (cod own nm n) 0 ks (L.length+1)).length:Nat):Int)) (L++(C0,toC (cod own nm n) ks (L.length+1))::QX (cod own nm n) 0 ks (L.length+1))=LF:=by
    rw[<-cP.out,yY,List.foldl_map];have e1:pXpX0 ((L.length+1+(QX (cod own nm n) 0 ks (L.length+1)).length:Nat):Int) (L++(C0,toC (cod own nm n) ks (L.length+1))::QX (cod own nm n) 0 ks (L.length+1)) (205,L.length)=pB ((L.length+1+(QX (cod own nm n) 0 ks (L.length+1)).length:Nat):Int) (L++(C0,toC (cod own nm n) ks (L.length+1))::QX (cod own nm n) 0 ks (L.length+1)) L.length:=rfl;rw[e1];exact zMT (cod own nm n) _ ks L _
   have a2:(L++(C0,toC (cod own nm n) ks (L.length+1))::QX (cod own nm n) 0 ks (L.length+1)).length=L.length+1+(QX (cod own nm n) 0 ks (L.length+1)).length:=by simp;omega
   obtain⟨X,bB⟩:=xV (L++(C0,toC (cod own nm n) ks (L.length+1))::QX (cod own nm n) 0 ks (L.length+1))
   obtain⟨es,aJ⟩:=xV ((205,L.length)::(jx (cod own nm n) ks (L.length+1)).map (λp=>(204,p)))
   have HQ:hH (∀q∈es,(q.1=204\/q.1=205)/\q.2<X.length):=λq hq=>by
    rw[<-aJ]at hq;rw[<-bB,a2];rcases List.mem_cons.1 hq with rfl|hq
    ·exact⟨kZ rfl,by simp only;omega⟩
    ·obtain⟨p,hp,rfl⟩:=List.mem_map.1 hq;exact⟨tZ rfl,cm p hp⟩
   rw[<-a2]at ac;rw[bB]at N ac a2;rw[aJ]at M ac;have cL:hH (es.foldl (pXpX0 (X.length:Int)) X=LF):=ac;have bZ:hH (X.length<=900000/\cs.length<=31):=⟨by have:=ab.out;omega,by
    have D:=M.1;have h8:=zMu (cod own nm n) ks (L.length+1);have h7:=HM.out;rw[<-aJ]at D;simp only[eZ,nZ]at D;omega⟩
   obtain⟨ae,ce,a3⟩:=s.oc.slice;have c6:0<cs.length:=by rw[<-M.1,<-aJ];simp
   obtain⟨ge,c8⟩:∃ge,ae=wX ⟨ge,0,vX⟩:=by
    rcases s.oc.2 with⟨q,D⟩|⟨g,df,dg,q,_⟩
    ·omega
    ·rw[a3]at q;simp only[U.injEq]at q;exact⟨g,q.1⟩
   subst c8;subst a3;have bs:hH (∃Pj,St own nm av2 m2 cap2 k B T hi w lv wr ((es.take 0).foldl (pXpX0 (X.length:Int)) X) lvi Pj/\OwnC wr B (U (wX ⟨ge,0,vX⟩) cs.length ce) cs/\PdL k wr lvi es cs):=⟨Pi,N,s.oc,M⟩
   obtain⟨mc,a6⟩:=xV cs.length
   have aU:hH (cs.length=mc/\es.length=mc):=⟨a6,by rw[M.1,a6]⟩
   rw[a6]at bs ⊢;clear HS s N M cm ac a2 bB aJ ak c6 a6;go_wp2_with fail
   go_loopg [10,42] mc (λc4 u10 x2 bS=>∃(j:Nat),x2=O J (j:Int)/\c4=mc-j/\j<=mc/\hH (∃Pj,St own nm av2 m2 cap2 k B T hi w lv bS ((es.take j).foldl (pXpX0 (X.length:Int)) X) lvi Pj/\OwnC bS B (U (wX ⟨ge,0,vX⟩) mc ce) cs/\PdL k bS lvi es cs))
   case atStart=>exact⟨0,rfl,rfl,uY _,bs⟩
   case round =>
    clear bs;obtain⟨j,rfl,di,hj,HS⟩:=hrel;by_cases da:j<mc
    ·have c9:(j:Int)<(mc:Int):=oM;have dm:(0:Int)<=(j:Int):=oM;have dp:J.wrap ((j:Int)+1)=(j:Int)+1:=by have:=bZ.out;have:=aU.out;rw[jY];omega
     obtain⟨Pj,st,oc,pl⟩:=HS.out;have cj:j<cs.length:=by have:=aU.out;omega
     have bG:j<es.length:=by have:=aU.out;omega
     have aI:=oc.cells (show Value.ownBlock (U (wX ⟨ge,0,vX⟩) mc ce)=wX ge from rfl) j (clV (cs[j]).1 (cs[j]).2.1 (cs[j]).2.2) (by rw[lX,iY cj];rfl);rw[show(⟨ge,0,vX⟩:dW).add j=⟨ge,j,vX⟩from by
      simp[Addr.add];try(intro h0;omega)]at aI
     have hq:=HQ.out _ (xZ bG);have ao:=zHO (X.length:Int) (es.take j) X;have CJ:=zOu k B T _ _ _ lvi Pj wr es[j] hq.1 _ _ _ st.ws st.en.kB (by rw[ao];have:=bZ.out;omega) (pl.2 j bG cj) (by rw[ao];exact hq.2);rw[ao]at CJ;have cV:hH ((es.take (j+1)).foldl (pXpX0 (X.length:Int)) X=pXpX0 (X.length:Int) ((es.take j).foldl (pXpX0 (X.length:Int)) X) es[j]):=by show _=_;rw[dY bG,List.foldl_append];rfl
     have b4:hH (St own nm av2 m2 cap2 k B T hi w lv wr ((es.take j).foldl (pXpX0 (X.length:Int)) X) lvi Pj/\OwnC wr B (U (wX ⟨ge,0,vX⟩) mc ce) cs/\PdL k wr lvi es cs):=⟨st,oc,pl⟩
     generalize(cs[j]).1=x1 at*;generalize(cs[j]).2.1=x2 at*;generalize(cs[j]).2.2=x3 at*;clear st oc pl ao hq HS;go_wp2_with (first|(go_at_call 220;refine CJ.mono ?_;rintro e w3 ⟨⟨P3,rfl,cG⟩,a1⟩;clear CJ))
     have cS:hH (∃Pj,St own nm av2 m2 cap2 k B T hi w lv w3 ((es.take (j+1)).foldl (pXpX0 (X.length:Int)) X) lvi Pj/\OwnC w3 B (U (wX ⟨ge,0,vX⟩) mc ce) cs/\PdL k w3 lvi es cs):=by
      obtain⟨st,oc,pl⟩:=b4.out;refine⟨P3,by rw[cV.out];exact st.patch a1 cG,QZ a1 oc (λb e H=>JR oc st.ws.own dM e (by simpa using H)),pl.mapP (λf a p1 p2 p3 _ p=>p.patch a1)⟩
     clear cG a1 b4 aI;go_roundg (mc-(j+1))
     case rel=>exact⟨j+1,sM,rfl,da,cS⟩
     case measure=>omega
    ·have c9:¬(j:Int)<(mc:Int):=oM;have HR:hH (WP k B T0 (O J own) (U av2 m2 cap2) LF lv w (rX (uX #[])) wr):=by
      obtain⟨Pj,st,oc,pl⟩:=HS.out;rw[hY (by have:=aU.out;omega),cL.out]at st;exact bV.out wr lvi Pj st
     clear HS;go_wp2;go_end0
     exact HR.out
open Go.RowKit Wf
theorem zHN(w:wW)(g o m cap:Nat)(j:Nat)(q:j<=m)(p:m<=cap):(Instr.sliceAt 156 (U (wX ⟨g,o,vX⟩) m cap) (wX (O J (j:Int))) vX vX).run prog w=.ok (U (wX ⟨g,(if cap=j then o else o+21*j),vX⟩) (m-j) (cap-j)) w:=by
 have d:prog.underlying 156=wX (.slice (prog.elem 156)):=kR
 have l:(sizeOf (prog.elem 156)).run prog w=.ok 21 w:=kR
 rw[run_sliceAt_slice w _ _ _ _ _ d,run_slice_l w _ _ _ _ d _ (j:Int) oM oM,l];have e:sliced (wX ⟨g,o,vX⟩) j m cap 21=U (wX ⟨g,(if cap=j then o else o+21*j),vX⟩) (m-j) (cap-j):=by
  unfold sliced;by_cases b:cap=j
  ·rw[if_pos b,if_pos b]
  ·rw[if_neg b,if_neg b];simp[Addr.add];rw[Nat.mul_comm];by_cases c:21*j=0
   ·rw[if_pos c,c,jX]
   ·rw[if_neg c]
 rw[<-e];rfl
theorem zG5(b:op.guard=vX)(s:Operand)(j:Nat)(l:op.op=.slice 156 s (wX (.const (O J (j:Int)))) vX vX)(g o m cap:Nat)(p:a.eval s=U (wX ⟨g,o,vX⟩) m cap)(e:j<=m)(d:m<=cap)
  (h:wpList prog ops Q rest (a.put op.dst (U (wX ⟨g,(if cap=j then o else o+21*j),vX⟩) (m-j) (cap-j))) w):wpList prog ops Q (op::rest) a w:=by
 refine wpList_plain b λK c=>?_
 unfold Oper.wp execOp;have q:a.eval (.const (O J (j:Int)))=O J (j:Int):=rfl;simp only[l,p,q,Option.map_some,Option.map_none,rZ,sZ,iZ,zHN w g o m cap j e d];exact c _ _ h
theorem zLt(s:Operand)(j:Nat)(d:op.op=.slice 156 s (wX (.const (O J (j:Int)))) vX vX)(g o m cap:Nat)(e:a.eval s=U (wX ⟨g,o,vX⟩) m cap)(c:j<=m)(b:m<=cap)(W:wW):(execOp a.eval op).run prog W=.ok (.value (U (wX ⟨g,(if cap=j then o else o+21*j),vX⟩) (m-j) (cap-j))) W:=by
 unfold execOp;have l:a.eval (.const (O J (j:Int)))=O J (j:Int):=rfl;simp only[d,e,l,Option.map_some,Option.map_none,rZ,sZ,iZ,zHN W g o m cap j c b]
theorem RdQ.drop{c b X:Nat}{L:List (Wt.Nd×vW)}(h:RdQ w (wX ⟨c,b,vX⟩) L)(j:Nat)(d:j<L.length->X=b+21*j):RdQ w (wX ⟨c,X,vX⟩) (L.drop j):=λi hi=>by
 rw[List.length_drop]at hi;obtain⟨b2,l,e,g⟩:=h (j+i) oM;cases e
 refine⟨c,X,rfl,?_⟩;rw[d oM,List.getElem_drop,show b+21*j+i*21=b+(j+i)*21 from by omega];exact g
section
variable (own:Int)(nm:List ByteArray)(av2:Option dW)(m2 cap2:Nat)
def LzC(n:Nat):Prop:=∀(id:Int)(b:List (Tr n×vW))(c:Option dW)(m cap lo hi k B:Nat)(T:Nat->Nat)(w:wW)(L:List I)(lv:vW)(P:List (Wc.In×vW)),(id=30\/id=31\/id=32)->m=b.length->m<=cap->2<=b.length->b.length<=30->(∀p∈b,Wr own nm n p.1)->(∀p∈b,PA n lo hi w p.1 p.2)->RdQ w c (b.map λp=>(hd n p.1,p.2))->(∀bb off,c=wX ⟨bb,off,vX⟩->bb<hi)->En own nm av2 m2 cap2 k B T hi w->WS k B T w (O J own) (U av2 m2 cap2) L lv P->L.length+(VI (cod own nm n) id (b.map (·.1)) L.length).length<=900000 ->
 Calls prog 154 #[pX (wX ⟨k,0,vX⟩),O J id,U c m cap] w (WP k B T (O J own) (U av2 m2 cap2) (L++VI (cod own nm n) id (b.map (·.1)) L.length) lv w)
end
theorem zNs(own:Int)(nm:List ByteArray)(av2:Option dW)(m2 cap2 n:Nat)(ih:PtC own nm av2 m2 cap2 n)(ar:∀(t:Tr n)(a:Nat),Wr own nm n t->0<(cod own nm n t a).length):LzC own nm av2 m2 cap2 n:=by
 intro id ps av mm cap lo hi k B T w L lv P hid hm ah h2 hl ac g al aG R an ag;have br:=zJQ own nm av2 m2 cap2 n ih;have gd:=zLF own nm av2 m2 cap2 n ih;have ch:=zIo own nm av2 m2 cap2 n ih ar;obtain⟨p0,u,rest,rfl⟩:∃p0 u rest,ps=p0::u::rest:=by
  match ps,h2 with
  |p0::u::rest,_=>exact⟨p0,u,rest,rfl⟩
 obtain⟨l,d,rfl,ai⟩:=al 0 sM;obtain⟨b2,o2,e2,ao⟩:=al 1 sM;cases e2
 simp only[gZ,List.getElem_cons_zero,List.getElem_cons_succ,tX,Nat.one_mul,jX]at ai ao;have ay:=aG l d rfl;obtain⟨aS,aT,aU,aB⟩:=(g p0 sM).slice;obtain⟨G,H,M,am⟩:=(g u sM).slice;rw[aB]at ai;rw[am]at ao;obtain⟨y,hy⟩:=xV (cod own nm n p0.1 L.length)
 have ax:VI (cod own nm n) id ((p0::u::rest).map (·.1)) L.length=y++(if id=30 then VK (cod own nm n) u.1 (rest.map (·.1)) (L.length+y.length)else if id=31 then Vy own nm n u.1 (L.length+y.length)else Ju (cod own nm n) ((u::rest).map (·.1)) (L.length+y.length)):=by
  simp only[gZ,VI,hy];rfl
 obtain⟨LF,D⟩:=xV (L++VI (cod own nm n) id ((p0::u::rest).map (·.1)) L.length)
 rw[ax,dZ]at ag;rw[D];rw[ax,<-hZ]at D;have ab:∀j,lv.ownBlock=wX j->B<=j:=λj e=>(QL an.own e).1
 have z:(L++y).length=L.length+y.length:=sM;have ak:l∉k::lv.ownBlock.toList:=λaa=>by
  have:=R.hk;have:=R.kB;rcases List.mem_cons.1 aa with q|q
  ·omega
  ·have:=ab l (by simpa using q);omega
 have aA:∀(W:wW)(c:vW)(P1:List (Wc.In×vW)),St own nm av2 m2 cap2 k B T hi w lv W (L++y) c P1->RdQ W (wX ⟨l,d,vX⟩) ((p0::u::rest).map λp=>(hd n p.1,p.2)):=λW c P1 A=>al.frq A.fr (λb o e aa=>by cases e;exact ak aa)
 have PT:=ih p0.1 p0.2 lo hi k B T w L lv P (ac p0 sM) (g p0 sM) R an (by rw[hy];omega);rw[hy,aB]at PT;have ad:hH (id=30->∀(W:wW)(c:vW)(P1:List (Wc.In×vW))(X:Nat),(0<rest.length->X=d+42)->St own nm av2 m2 cap2 k B T hi w lv W (L++y) c P1->Calls prog 185 #[pX (wX ⟨k,0,vX⟩),gX (QO (hd n u.1) (U G H M)).toArray,U (wX ⟨l,X,vX⟩) rest.length (cap-2)] W (WP k B T (O J own) (U av2 m2 cap2) LF c W)):=λh30 W c P1 X hX A=>by
  rw[if_pos h30]at ag D;have:=br u.1 u.2 rest (wX ⟨l,X,vX⟩) rest.length (cap-2) lo hi k B T W (L++y) c P1 (ac u sM) (PA.kept (A.kept ab) n _ _ (g u sM)) rfl (by simp at hl;omega) (λp hp=>ac p (by simp[hp])) (λp hp=>PA.kept (A.kept ab) n _ _ (g p (by simp[hp]))) (by
   have h9:=(aA W c P1 A).drop 2 (X:=X) (λhh=>hX (by simpa using hh));simpa using h9) (λb o e=>by cases e;exact ay) A.en A.ws (by rw[z];omega)
  rw[am,z,D]at this;exact this
 have aj:hH (id=31->∀(W:wW)(c:vW)(P1:List (Wc.In×vW)),St own nm av2 m2 cap2 k B T hi w lv W (L++y) c P1->Calls prog 186 #[pX (wX ⟨k,0,vX⟩),gX (QO (hd n u.1) (U G H M)).toArray] W (WP k B T (O J own) (U av2 m2 cap2) LF c W)):=λh31 W c P1 A=>by
  rw[if_neg oM,if_pos h31]at ag D;have:=gd u.1 u.2 lo hi k B T W (L++y) c P1 (ac u sM) (PA.kept (A.kept ab) n _ _ (g u sM)) A.en A.ws (by rw[z];omega);rw[am,z,D]at this;exact this
 have ae:hH (id=32->∀(W:wW)(c:vW)(P1:List (Wc.In×vW))(X:Nat),X=d+21->St own nm av2 m2 cap2 k B T hi w lv W (L++y) c P1->Calls prog 187 #[pX (wX ⟨k,0,vX⟩),U (wX ⟨l,X,vX⟩) (rest.length+1) (cap-1)] W (WP k B T (O J own) (U av2 m2 cap2) LF c W)):=λh32 W c P1 X hX A=>by
  rw[if_neg oM,if_neg oM]at ag D;have:=ch (u::rest) (wX ⟨l,X,vX⟩) (rest.length+1) (cap-1) lo hi k B T W (L++y) c P1 sM (by simp at hl ⊢;omega) (λp hp=>ac p (by simp at hp ⊢;rcases hp with h|h <;> simp[h])) (λp hp=>PA.kept (A.kept ab) n _ _ (g p (by simp at hp ⊢;rcases hp with h|h <;> simp[h]))) (by
   have h9:=(aA W c P1 A).drop 1 (X:=X) (λ_=>by omega);simpa using h9) (λb o e=>by cases e;exact ay) A.en A.ws (by rw[z];omega)
  rw[z,D]at this;exact this
 have ap:hH (St own nm av2 m2 cap2 k B T hi w lv w L lv P):=St.init R an;have aP:hH (l∉k::lv.ownBlock.toList):=ak;have aV:hH (∀j,lv.ownBlock=wX j->l≠j):=λj e q=>ak (vZ _ (by simp[e,q]))
 have aN:hH (l<w.heap.size/\∀(W:wW)(c:vW)(P1:List (Wc.In×vW)),St own nm av2 m2 cap2 k B T hi w lv W (L++y) c P1->l∉k::c.ownBlock.toList):=⟨Q7 (ai 0 _ rfl),λW c P1 A aa=>by
  have:=R.hk;have:=R.kB;rcases List.mem_cons.1 aa with q|q
  ·omega
  ·have:=(QL A.ws.own (show c.ownBlock=wX l by simpa using q)).1;omega⟩
 obtain⟨m,az⟩:=xV rest.length
 have aa:mm=m+2:=by rw[hm,<-az];rfl
 subst aa;rw[az]at ad ae;have aD:hH (w.rangeAt l (d+21) (QO (hd n u.1) (U G H M))):=ao;generalize hd n p0.1=y0 at*;generalize hd n u.1=y1 at*;clear hm h2 hl ac g al aG R an ag ih ar br gd ch aB am hy ax D ab z ak aA ay ao az;have aW:(0:Int)<((m+2:Nat):Int):=oM;have aX:(1:Int)<((m+2:Nat):Int):=oM;go_enter func154,ntmps154;go_wp2_with (first|(refine ldQ 158 (mX 8) l d (QO y0 (U aS aT aU)) _ ai underlying158 ?_))
 refine PT.mono ?_;rintro e w1 ⟨⟨c,P1,rfl,aM,aK⟩,aw⟩;have C:hH (St own nm av2 m2 cap2 k B T hi w lv w1 (L++y) c P1):=ap.out.step aw aK aM;have r1:=aw.range aD.out aP.out;clear PT aM aK aw ap ai aD;rcases hid with rfl|rfl|rfl
 ·have aE:hH (∃X2,(0<m->X2=d+42)/\∀(a:Act)(op:Oper)(s:Operand),op.op=.slice 156 s (wX (.const (O J 2))) vX vX->a.eval s=U (wX ⟨l,d,vX⟩) (m+2) cap->∀W:wW,(execOp a.eval op).run prog W=.ok (.value (U (wX ⟨l,X2,vX⟩) m (cap-2))) W):=⟨(if cap=2 then d else d+21*2),λh=>by rw[if_neg oM],λa op s ho hs W=>zLt (a:=a) s 2 ho l d (m+2) cap hs oM ah W⟩
  obtain⟨X2,aF,aI⟩:=aE.out;have aO:=hid aI;have BR:=λ(W:wW)(A:St own nm av2 m2 cap2 k B T hi w lv W (L++y) c P1)=>ad.out rfl W c P1 X2 aF A
  have aH:=(fZ w1.heap.size w1).drew;have au:=hid (C.out.below aH);replace r1:w1.drew.rangeAt l (d+21) (QO y1 (U G H M)):=r1
  have aQ:=hid (aN.out.2 w1 c P1 C.out);clear ad aj ae aF aI aE aH C ah;go_upto_region 3 with fail
  refine wp_region_held_drew (S:=λW=>W.rangeAt l (d+21) (QO y1 (U G H M))) kR r1 (λaf=>?_);generalize w1.drew=WD at*;refine tkQ 0 ?_
  refine tkQ 1 ?_
  refine tkH 2 ?_ rfl (tZ ⟨by rfl,?_⟩) ?_;rotate_left
  ·intro w aR
   (try dsimp only at aR)
   go_simp
   try rw[if_pos oM]
   try with_reducible rfl
  try simp only[Act.put,lA,lZ,lS]
  refine tkH 3 (gX (QO y1 (U G H M)).toArray) rfl (yiQ 158 (mX 16) (l) (d+21) (QO y1 (U G H M)) _ (λ_ h=>h) underlying158) ?_;try simp only[Act.put,lA,lZ,lS]
  refine tkQ 4 ?_
  refine tkH 5 (U (wX ⟨l,X2,vX⟩) m (cap-2)) rfl (tZ ⟨by rfl,λW _=>aO.out _ _ (mX 18) rfl rfl W⟩) ?_;try simp only[Act.put,lA,lZ,lS]
  refine rdQ 6 (λK hK=>?_);go_simp
  refine(BR WD au.out).mono ?_;rintro e w2 h2;obtain⟨⟨aJ,P2,rfl,N,E⟩,fr2⟩:=h2;go_wp2_with fail
  have aL:=fr2.range r1 aQ.out;refine hkQ hK aL (λaf=>?_);clear hK K
  refine wpAnyH_done kR ?_ _;have HR:=hid ((au.out.step fr2 E N).wp);clear af r1 aL BR N E fr2 au;go_wp2;go_end0
  exact HR.out
 ·have GD:=aj.out rfl w1 c P1 C.out;clear ad aj ae ah;go_wp2_with (first|(refine ldQ 158 (mX 25) l (d+21) (QO y1 (U G H M)) _ r1 underlying158 ?_))
  refine GD.mono ?_;rintro e w2 ⟨⟨aJ,P2,rfl,N,E⟩,fr2⟩;have HR:=hid ((C.out.step fr2 E N).wp);clear GD r1 N E fr2 C;go_wp2;go_end0
  exact HR.out
 ·have aC:=ae.out rfl w1 c P1 (d+21) rfl C.out;clear ad aj ae;have aq:¬cap=1:=oM;go_wp2_with (first|(refine zG5 rfl (mX 31) 1 rfl l d (m+2) cap rfl oM ah ?_;rw[if_neg aq,show m+2-1=m+1 from by omega,show d+21*1=d+21 from by omega];clear aq ah))
  refine aC.mono ?_;rintro e w2 ⟨⟨aJ,P2,rfl,N,E⟩,fr2⟩;have HR:=hid ((C.out.step fr2 E N).wp);clear aC r1 N E fr2 C;go_wp2;go_end0
  exact HR.out
open Go.RowKit Wf
theorem Jd(h:WS k B T w s0 s1 L lv P):w.rangeAt k 0 [s0,s1]:=λj v b=>by
 have:=h.at'.2.1 j v (by
  match j,b with
  |0,b=>exact b
  |1,b=>exact b
  |j+2,b=>simp at b)
 rw[oY];exact this
theorem zJT(y:Operand)(c:op.op=.build 86 #[(0,.const (O J 8)),(5,y)])(b:Wpl.Ar)(e:a.eval y=gX (ar5 b).toArray)(W:wW):(execOp a.eval op).run prog W=.ok (.value (gX (QE (Jz 8 0 b a0I).1 QN).toArray)) W:=by
 unfold execOp;have d:a.eval (.const (O J 8))=O J 8:=rfl;simp only[c,oZ,gZ,uZ,d,e,rZ,sZ,iZ,zSI]
section
variable (own:Int)(nm:List ByteArray)(av2:Option dW)(m2 cap2:Nat)
def Wq(n:Nat)(t:Tr n):Prop:=VD n t/\VC own nm n t=0
def V4(n:Nat)(id:Int)(l:List (Tr n))(a:Nat):List I:=ins 6 id 0::(Qc (VJ own nm (hd n) (cod own nm n)) l (a+1)++[ins 10 0 0])
def FoC(n:Nat):Prop:=∀(id:Int)(b:List (Tr n×vW))(c:Option dW)(m cap lo hi k B:Nat)(T:Nat->Nat)(w:wW)(L:List I)(lv:vW)(P:List (Wc.In×vW)),m=b.length->b.length<=30->(∀p∈b,Wq own nm n p.1)->(∀p∈b,PA n lo hi w p.1 p.2)->RdQ w c (b.map λp=>(hd n p.1,p.2))->(∀bb off,c=wX ⟨bb,off,vX⟩->bb<hi)->En own nm av2 m2 cap2 k B T hi w->WS k B T w (O J own) (U av2 m2 cap2) L lv P->L.length+(V4 own nm n id (b.map (·.1)) L.length).length<=900000 ->
 Calls prog 152 #[pX (wX ⟨k,0,vX⟩),O J id,U c m cap] w (WP k B T (O J own) (U av2 m2 cap2) (L++V4 own nm n id (b.map (·.1)) L.length) lv w)
end
theorem zN8(own:Int)(nm:List ByteArray)(av2:Option dW)(m2 cap2 n:Nat)(ih:PtC own nm av2 m2 cap2 n):FoC own nm av2 m2 cap2 n:=by
 intro id c av m cap lo hi k B T w L lv P hm hl aY al aW aR s ag aS;have fd:=zIr own nm av2 m2 cap2 n ih;have aN:∀j,lv.ownBlock=wX j->B<=j:=λj e=>(QL ag.own e).1
 have aO:L++V4 own nm n id (c.map (·.1)) L.length=((L++[ins 6 id 0])++Qc (VJ own nm (hd n) (cod own nm n)) (c.map (·.1)) (L.length+1))++[ins 10 0 0]:=by simp[V4]
 have ak:L.length+1+(Qc (VJ own nm (hd n) (cod own nm n)) (c.map (·.1)) (L.length+1)).length<=900000:=by
  simp only[V4,eZ,dZ]at aS;omega
 rw[aO];have LA:=JA k B T (ins 6 id 0).1 _ _ L lv P w ag s.kB s.hB oM;have ah:=hid (St.init s ag);have HM:hH (m=c.length/\c.length<=30):=⟨hm,hl⟩
 have bg:=hid aY;have be:=hid al;have bf:=hid aW;have a9:=hid aR;have HK:hH (hi<=k/\k<B/\∀j,lv.ownBlock=wX j->B<=j):=⟨s.hk,s.kB,aN⟩
 have bd:=hid fd;have an:=hid ak;have aH:hH (m2=nm.length/\nm.length<=16):=⟨s.hm,s.hl⟩
 clear hm hl aY al aW aR s ag aS ih fd aN aO ak;go_enter func152,ntmps152;go_wp2_with (first|(refine zAU rfl 6 (mX 9) rfl id rfl ?_))
 refine LA.mono ?_;rintro e w1 ⟨⟨aZ,P1,rfl,a7,a1⟩,aL⟩;have ai:hH (St own nm av2 m2 cap2 k B T hi w lv w1 (L++[ins 6 id 0]) aZ P1):=ah.out.step aL a1 a7;clear LA a7 a1 aL ah;go_wp2_with fail
 go_loopg [7,14] m (λgk u x wr=>∃(i:Nat),x=O J (i:Int)/\gk=m-i/\i<=m/\hH (∃lvi Pi,St own nm av2 m2 cap2 k B T hi w lv wr ((L++[ins 6 id 0])++Qc (VJ own nm (hd n) (cod own nm n)) ((c.map (·.1)).take i) (L.length+1)) lvi Pi))
 case atStart=>exact⟨0,rfl,rfl,uY _,⟨aZ,P1,by simpa[Qc]using ai.out⟩⟩
 case round =>
  clear ai;obtain⟨i,rfl,hg,bl,HS⟩:=hrel;by_cases aV:i<m
  ·have bj:(i:Int)<(m:Int):=oM;have bm:(0:Int)<=(i:Int):=oM;have bn:J.wrap ((i:Int)+1)=(i:Int)+1:=by have:=HM.out;rw[jY];omega
   have ae:i<c.length:=by have:=HM.out;omega
   obtain⟨lvi,Pi,C⟩:=HS.out;obtain⟨bb,a3,rfl,aB⟩:=bf.out i (by simpa using ae);simp only[qZ]at aB;have aT:bb∉k::lv.ownBlock.toList:=λhm=>by
    have:=a9.out bb a3 rfl;have h9:=HK.out;rcases List.mem_cons.1 hm with q|q
    ·omega
    ·have:=h9.2.2 bb (by simpa using q);omega
   have hr:=C.fr.range aB aT;have aA:=xZ ae;have az:=PA.kept (C.kept HK.out.2.2) n _ _ (be.out _ aA);obtain⟨G,H,M,aC⟩:=az.slice;have l:=zBf (VJ own nm (hd n) (cod own nm n)) (c.map (·.1)) i (by simpa using ae) (L.length+1);have ad:=zEo (VJ own nm (hd n) (cod own nm n)) (c.map (·.1)) (i+1) (L.length+1);rw[l,dZ,qZ]at ad;rw[qZ]at l;obtain⟨E,ab⟩:=xV ((L++[ins 6 id 0])++Qc (VJ own nm (hd n) (cod own nm n)) ((c.map (·.1)).take i) (L.length+1))
   have au:L.length+1+(Qc (VJ own nm (hd n) (cod own nm n)) ((c.map (·.1)).take i) (L.length+1)).length=E.length:=by rw[<-ab];simp;omega
   have ar:hH ((L++[ins 6 id 0])++Qc (VJ own nm (hd n) (cod own nm n)) ((c.map (·.1)).take (i+1)) (L.length+1)=E++VJ own nm (hd n) (cod own nm n) (c[i]).1 E.length):=by show _=_;rw[l,<-hZ,ab,au]
   rw[au]at ad;rw[ab]at C;have af:=bg.out _ aA;have bc:hH (E.length<=1000000):=by have:=an.out;show _<=_;omega
   have ao:hH (isA (hd n (c[i]).1)=yX->∀(W:wW),bL wr W->Calls prog 181 #[pX (wX ⟨k,0,vX⟩),gX (QO (hd n (c[i]).1) (U G H M)).toArray] W (WP k B T (O J own) (U av2 m2 cap2) (E++VJ own nm (hd n) (cod own nm n) (c[i]).1 E.length) lvi W)):=λg W hb=>by
    have he:VJ own nm (hd n) (cod own nm n) (c[i]).1 E.length=JE (cod own nm n) (c[i]).1 E.length:=by unfold VJ;rw[g];rfl
    rw[he]at ad ⊢;have:=bd.out (c[i]).1 (c[i]).2 lo hi k B T W E lvi Pi ⟨af.1,af.2,g⟩ (PA.kept (Kept.of_below hb) n _ _ az) (C.en.below hb) (C.ws.below hb) (by have:=an.out;omega);rw[aC]at this;exact this
   have am:hH (isA (hd n (c[i]).1)=xX->VJ own nm (hd n) (cod own nm n) (c[i]).1 E.length=[Jz 8 0 (Qi own nm (hd n (c[i]).1)) a0I]/\RtN (hd n (c[i]).1)):=λg=>by
    refine⟨by unfold VJ;rw[g];rfl,zCm (zEp af.1) (by simpa[isA]using g)⟩
   rw[aC]at hr;have IA:=λW=>zAR (hd n (c[i]).1) (U G H M) W
   generalize VJ own nm (hd n) (cod own nm n) (c[i]).1 E.length=ac at*;generalize hd n (c[i]).1=y at*;have d:=hid C;clear l ad aC az aB aT aA ae C HS ab au af;have aX:nY (wr.alloc (Z zeros21 158)) wr.heap.size 0 (QO y (U G H M)).toArray.size:=(AtL.new0 wr _ _:AtL (wr.alloc (Z zeros21 158)) wr.heap.size zeros21.toList).there;have ap:hH (AtL ((wr.alloc (Z zeros21 158)).setCells wr.heap.size 0 (QO y (U G H M))) wr.heap.size (QO y (U G H M))):=(AtL.new0 wr _ _:AtL (wr.alloc (Z zeros21 158)) wr.heap.size zeros21.toList).setAll rfl;have N:hH (bL wr ((wr.alloc (Z zeros21 158)).setCells wr.heap.size 0 (QO y (U G H M)))):=Ql (QI (fZ _ wr) _) (yZ _) _ 0;go_upto_region 4 with(first|(refine ldQ 158 (mX 16) bb (a3+i*21) (QO y (U G H M)) _ hr underlying158 ?_)|((with_reducible refine stQ 158 (mX 7) (mX 17) wr.heap.size 0 (QO y (U G H M)).toArray ?_ ?_ ?_);exact aX;exact Qt _ _ _ _))
   clear aX hr;generalize((wr.alloc (Z zeros21 158)).setCells wr.heap.size 0 (QO y (U G H M)))=W2 at*;have rI:=ap.out.range;have aF:hH (k<wr.heap.size):=by have:=d.out.en.kB;have:=d.out.en.hB;show _<_;omega
   have aG:hH (¬lvi.ownBlock=wX wr.heap.size):=λe=>by have:=(QL d.out.ws.own e).2;omega
   have z:=IA W2;clear IA;cases g:isA y with
   |false =>
    rw[g]at z;have FE:=ao.out g;go_wp2_with (first|(refine ldQ 158 (mX 7) wr.heap.size 0 (QO y (U G H M)) _ rI underlying158 ?_))
    refine z.mono ?_;rintro e w3 ⟨rfl,p⟩;have a4:=QF p rI;have aD:=FE w3 (QA N.out p);have aE:=hid (QA N.out p);clear FE z rI p N ap ao am;go_wp2_with (first|(refine ldQ 158 (mX 7) wr.heap.size 0 (QO y (U G H M)) _ a4 underlying158 ?_))
    refine aD.mono ?_;rintro e w4 ⟨⟨bk,P4,rfl,a8,a2⟩,aM⟩;have aq:hH (∃lvi Pi,St own nm av2 m2 cap2 k B T hi w lv w4 ((L++[ins 6 id 0])++Qc (VJ own nm (hd n) (cod own nm n)) ((c.map (·.1)).take (i+1)) (L.length+1)) lvi Pi):=⟨bk,P4,by rw[ar.out];exact(d.out.below aE.out).step aM a2 a8⟩
    clear aD a4 a8 a2 aM aE d;go_wp2_with fail
    go_roundg (m-(i+1))
    case rel=>exact⟨i+1,sM,rfl,aV,aq⟩
    case measure=>omega
   |true =>
    rw[g]at z;obtain⟨aP,aQ⟩:=am.out g;rw[aP]at ar;have AR:=λ(W:wW)(h:RdS W av2 nm)=>zCg own nm av2 m2 cap2 y W aQ aH.out.1 aH.out.2 h
    go_wp2_with (first|(refine ldQ 158 (mX 7) wr.heap.size 0 (QO y (U G H M)) _ rI underlying158 ?_))
    refine z.mono ?_;rintro e w3 ⟨rfl,p⟩;have aj:=QA N.out p;have aJ:=hid (d.out.below aj);have ry:=zBG (QF p rI);clear z rI p aj N ap ao am aP aQ d;go_upto_region 5 with fail
    have aU:=(fZ w3.heap.size w3).drew;have aa:=hid (aJ.out.below aU);have rk:=Jd aa.out.ws;replace ry:w3.drew.rangeAt wr.heap.size 0 (QM y):=ry
    clear aU aJ;obtain⟨ib,ax⟩:∃b,wr.heap.size=b:=⟨_,rfl⟩
    rw[ax]at ry aF aG;simp only[ax];clear ax;refine wp_region_held_drew (S:=λW=>W.rangeAt k 0 [O J own,U av2 m2 cap2]/\W.rangeAt ib 0 (QM y)) kR ⟨rk,ry⟩ (λt=>?_);generalize w3.drew=WD at*;refine tkQ 0 ?_
    refine tkQ 1 ?_
    refine tkQ 2 ?_
    refine tkQ 3 ?_
    refine tkH 4 (gX ([O J own,U av2 m2 cap2]).toArray) rfl (yiQ 154 (mX 23) (k) (0) ([O J own,U av2 m2 cap2]) _ (λ_ h=>h.1) underlying154) ?_;try simp only[Act.put,lA,lZ,lS]
    refine tkQ 5 ?_
    refine tkH 6 (gX (QM y).toArray) rfl (yiQ 97 (mX 25) (ib) (0) (QM y) _ (λ_ h=>h.2) underlying97) ?_;try simp only[Act.put,lA,lZ,lS]
    refine rdQ 7 (λK hK=>?_);go_simp
    refine(AR WD aa.out.en.rs).mono ?_;rintro e w4 ⟨rfl,aw⟩;go_wp2_with fail
    have R:=hid (aa.out.below aw);replace rk:=QF aw rk
    replace ry:=QF aw ry
    refine hkQ hK ⟨rk,ry⟩ (λt=>?_);clear hK K
    generalize Qi own nm y=ay at*;refine tkH 8 (gX (QE (Jz 8 0 ay a0I).1 QN).toArray) rfl (tZ ⟨by rfl,λW _=>zJT (mX 27) rfl ay rfl W⟩) ?_;try simp only[Act.put,lA,lZ,lS]
    have LA:=JA k B T (Jz 8 0 ay a0I).1 _ _ E lvi Pi w4 R.out.ws R.out.en.kB R.out.en.hB bc.out;refine rdQ 9 (λK hK=>?_);go_simp
    refine LA.mono ?_;rintro e w5 ⟨⟨a0,P5,rfl,D,X⟩,A⟩;go_wp2_with fail
    have aK:=hid (R.out.step A X D);have a5:=Jd D;have a6:=A.range ry (λhm=>by
     rcases List.mem_cons.1 hm with q|q
     ·have:=aF.out;omega
     ·exact aG.out (by simpa using q))
    refine hkQ hK ⟨a5,a6⟩ (λt=>?_);clear hK K
    refine wpAnyH_done kR ?_ _;have aq:hH (∃lvi Pi,St own nm av2 m2 cap2 k B T hi w lv w5 ((L++[ins 6 id 0])++Qc (VJ own nm (hd n) (cod own nm n)) ((c.map (·.1)).take (i+1)) (L.length+1)) lvi Pi):=⟨a0,P5,by rw[ar.out];exact aK.out⟩
    clear t rk ry a5 a6 D X A aK R aa LA AR;go_wp2_with fail
    go_roundg (m-(i+1))
    case rel=>exact⟨i+1,sM,rfl,aV,aq⟩
    case measure=>omega
  ·have bj:¬(i:Int)<(m:Int):=oM;have aI:hH (∃lvi Pi,St own nm av2 m2 cap2 k B T hi w lv wr ((L++[ins 6 id 0])++Qc (VJ own nm (hd n) (cod own nm n)) (c.map (·.1)) (L.length+1)) lvi Pi):=by
    have bh:(c.map (·.1)).length<=i:=by have:=HM.out;simp;omega
    have:=HS.out;rw[hY bh]at this;exact this
   obtain⟨lvi,Pi,C⟩:=aI.out;have LA:=JA k B T (ins 10 0 0).1 _ _ _ lvi Pi wr C.ws C.en.kB C.en.hB (by have:=an.out;simp only[dZ,eZ,mZ];omega);have d:=hid C;clear HS aI C;go_wp2_with (first|(refine Qo rfl 10 rfl ?_))
   refine LA.mono ?_;rintro e w5 ⟨⟨a0,P5,rfl,D,X⟩,A⟩;have HR:=hid ((d.out.step A X D).wp);clear LA D X A d;go_wp2;go_end0
   exact HR.out
open Go.RowKit Wf
theorem zEr(b:op.guard=vX)(y:Operand)(e:op.op=.build 86 #[(0,.const (O J 8)),(5,y)])(c:Wpl.Ar)(j:a.eval y=gX (ar5 c).toArray)
  (h:wpList prog ops Q rest (a.put op.dst (gX (QE (Jz 8 0 c a0I).1 QN).toArray)) w):wpList prog ops Q (op::rest) a w:=by
 refine wpList_plain b λK d=>?_
 unfold Oper.wp execOp;have g:a.eval (.const (O J 8))=O J 8:=rfl;simp only[e,oZ,gZ,uZ,g,j,rZ,sZ,iZ,zSI];exact d _ _ h
theorem zEW(b:op.guard=vX)(y z:Operand)(g:op.op=.build 86 #[(0,.const (O J 9)),(5,y),(6,z)])(c d:Wpl.Ar)(l:a.eval y=gX (ar5 c).toArray)(m:a.eval z=gX (ar5 d).toArray)
  (h:wpList prog ops Q rest (a.put op.dst (gX (QE (Jz 9 0 c d).1 QN).toArray)) w):wpList prog ops Q (op::rest) a w:=by
 refine wpList_plain b λK e=>?_
 unfold Oper.wp execOp;have j:a.eval (.const (O J 9))=O J 9:=rfl;simp only[g,oZ,gZ,uZ,j,l,m,rZ,sZ,iZ,zSU];exact e _ _ h
theorem zFL(c:op.guard=vX)(y z:Operand)(g:op.op=.build 86 #[(0,.const (O J 11)),(5,y),(2,z)])(d:Wpl.Ar)(b:Int)(l:a.eval y=gX (ar5 d).toArray)(m:a.eval z=O J b)
  (h:wpList prog ops Q rest (a.put op.dst (gX (QE (Jz 11 b d a0I).1 QN).toArray)) w):wpList prog ops Q (op::rest) a w:=by
 refine wpList_plain c λK e=>?_
 unfold Oper.wp execOp;have j:a.eval (.const (O J 11))=O J 11:=rfl;simp only[g,oZ,gZ,uZ,j,l,m,rZ,sZ,iZ,zSc];exact e _ _ h
section
variable (own:Int)(nm:List ByteArray)(av2:Option dW)(m2 cap2:Nat)
def V5(n:Nat)(id:Int)(b c:Wpl.Ar)(l:List (Tr n))(a:Nat):List I:=ins 6 id 0::(Qc (JE (cod own nm n)) l (a+1)++[if Wc.pairs id then Jz 9 0 b c else Jz 8 0 b a0I,ins 10 0 0])
def SrC(n:Nat):Prop:=∀(id:Int)(d e:Wpl.Ar)(b:List (Tr n×vW))(c:Option dW)(m cap lo hi k B:Nat)(T:Nat->Nat)(w:wW)(L:List I)(lv:vW)(P:List (Wc.In×vW)),m=b.length->b.length<=30->(∀p∈b,Wr own nm n p.1)->(∀p∈b,PA n lo hi w p.1 p.2)->RdQ w c (b.map λp=>(hd n p.1,p.2))->(∀bb off,c=wX ⟨bb,off,vX⟩->∀j,lv.ownBlock=wX j->bb≠j)->(∀bb off,c=wX ⟨bb,off,vX⟩->bb≠k/\bb<w.heap.size)->En own nm av2 m2 cap2 k B T hi w->WS k B T w (O J own) (U av2 m2 cap2) L lv P->L.length+(V5 own nm n id d e (b.map (·.1)) L.length).length<=900000 ->
 Calls prog 184 #[pX (wX ⟨k,0,vX⟩),O J id,gX (ar5 d).toArray,gX (ar5 e).toArray,U c m cap] w (WP k B T (O J own) (U av2 m2 cap2) (L++V5 own nm n id d e (b.map (·.1)) L.length) lv w)
end
theorem zJo(own:Int)(nm:List ByteArray)(av2:Option dW)(m2 cap2 n:Nat)(ih:PtC own nm av2 m2 cap2 n):SrC own nm av2 m2 cap2 n:=by
 intro id s D d av m cap lo hi k B T w L lv P hm hl aP ak aM aK ai t ay aL;have fd:=zIr own nm av2 m2 cap2 n ih;have ae:∀j,lv.ownBlock=wX j->B<=j/\j<w.heap.size:=λj e=>QL ay.own e
 obtain⟨sc,ax⟩:=xV (if Wc.pairs id then Jz 9 0 s D else Jz 8 0 s a0I)
 have aJ:L++V5 own nm n id s D (d.map (·.1)) L.length=(((L++[ins 6 id 0])++Qc (JE (cod own nm n)) (d.map (·.1)) (L.length+1))++[sc])++[ins 10 0 0]:=by simp[V5,ax]
 have aj:L.length+3+(Qc (JE (cod own nm n)) (d.map (·.1)) (L.length+1)).length<=900000:=by
  simp only[V5,eZ,dZ,mZ]at aL;omega
 rw[aJ];have C:=QI (QI (fZ _ w) (Z (ar5 s).toArray 83)) (Z (ar5 D).toArray 83);have pF:=(AtL.new0 w 83 (ar5 s)).alloc (Z (ar5 D).toArray 83);have pL:=AtL.new1 w (Z (ar5 s).toArray 83) 83 (ar5 D);have aT:=St.init (t.below C) (ay.below C);have l:=hid aT;have aA:hH (AtL ((w.alloc (Z (ar5 s).toArray 83)).alloc (Z (ar5 D).toArray 83)) w.heap.size (ar5 s)/\AtL ((w.alloc (Z (ar5 s).toArray 83)).alloc (Z (ar5 D).toArray 83)) (w.heap.size+1) (ar5 D)):=⟨pF,pL⟩
 have HM:hH (m=d.length/\d.length<=30):=⟨hm,hl⟩
 have a3:=hid aP;have aY:hH (∀p∈d,PA n lo hi ((w.alloc (Z (ar5 s).toArray 83)).alloc (Z (ar5 D).toArray 83)) p.1 p.2):=λp hp=>PA.kept (Kept.of_below C) n _ _ (ak p hp)
 have aZ:=hid (aM.below C);have aW:hH (∀bb A,av=wX ⟨bb,A,vX⟩->bb∉k::lv.ownBlock.toList):=λbb A e N=>by
  rcases List.mem_cons.1 N with q|q
  ·exact(ai bb A e).1 q
  ·exact aK bb A e bb (by simpa using q) rfl
 have HK:hH (hi<=k/\k<B/\(∀j,lv.ownBlock=wX j->B<=j)/\w.heap.size∉k::lv.ownBlock.toList/\w.heap.size+1∉k::lv.ownBlock.toList):=⟨t.hk,t.kB,λj e=>(ae j e).1,λN=>by
  have:=t.kB;have:=t.hB;rcases List.mem_cons.1 N with q|q
  ·omega
  ·have:=(ae w.heap.size (by simpa using q)).2;omega,λN=>by
  have:=t.kB;have:=t.hB;rcases List.mem_cons.1 N with q|q
  ·omega
  ·have:=(ae (w.heap.size+1) (by simpa using q)).2;omega⟩
 have aX:=hid fd;have am:=hid aj;have az:=hid C;have PR:=λW=>zA5 id W
 have aF:=hid ax;clear hm hl aP ak aM aK ai t ay aL ih fd ae aJ aj C pF pL aT ax;go_enter func184,ntmps184;go_upto_region 1 with fail
 generalize((w.alloc (Z (ar5 s).toArray 83)).alloc (Z (ar5 D).toArray 83))=W at*;have LA:=JA k B T (ins 6 id 0).1 _ _ L lv P W l.out.ws l.out.en.kB l.out.en.hB (by have:=am.out;omega);go_wp2_with (first|(refine zAU rfl 6 (mX 13) rfl id rfl ?_))
 refine LA.mono ?_;rintro e w1 ⟨⟨aQ,P1,rfl,aU,aR⟩,aH⟩;have ah:hH (St own nm av2 m2 cap2 k B T hi W lv w1 (L++[ins 6 id 0]) aQ P1):=l.out.step aH aR aU;clear LA aU aR aH l;go_wp2_with fail
 go_loopg [11,18] m (λgk u x wr=>∃(i:Nat),x=O J (i:Int)/\gk=m-i/\i<=m/\hH (∃lvi Pi,St own nm av2 m2 cap2 k B T hi W lv wr ((L++[ins 6 id 0])++Qc (JE (cod own nm n)) ((d.map (·.1)).take i) (L.length+1)) lvi Pi))
 case atStart=>exact⟨0,rfl,rfl,uY _,⟨aQ,P1,by simpa[Qc]using ah.out⟩⟩
 case round =>
  clear ah;obtain⟨i,rfl,hg,a9,HS⟩:=hrel;by_cases a6:i<m
  ·have a5:(i:Int)<(m:Int):=oM;have bc:(0:Int)<=(i:Int):=oM;have bd:J.wrap ((i:Int)+1)=(i:Int)+1:=by have:=HM.out;rw[jY];omega
   have ag:i<d.length:=by have:=HM.out;omega
   obtain⟨lvi,Pi,E⟩:=HS.out;obtain⟨bb,A,rfl,aw⟩:=aZ.out i (by simpa using ag);simp only[qZ]at aw;have hr:=E.fr.range aw (aW.out bb A rfl);have au:=xZ ag;have ar:=PA.kept (E.kept HK.out.2.2.1) n _ _ (aY.out _ au);obtain⟨sa,sb,z,aN⟩:=ar.slice;have g:=zBf (JE (cod own nm n)) (d.map (·.1)) i (by simpa using ag) (L.length+1);have aq:=zEo (JE (cod own nm n)) (d.map (·.1)) (i+1) (L.length+1);rw[g,dZ,qZ]at aq;rw[qZ]at g;obtain⟨Li,af⟩:=xV ((L++[ins 6 id 0])++Qc (JE (cod own nm n)) ((d.map (·.1)).take i) (L.length+1))
   have ao:L.length+1+(Qc (JE (cod own nm n)) ((d.map (·.1)).take i) (L.length+1)).length=Li.length:=by rw[<-af];simp;omega
   have aG:hH ((L++[ins 6 id 0])++Qc (JE (cod own nm n)) ((d.map (·.1)).take (i+1)) (L.length+1)=Li++JE (cod own nm n) (d[i]).1 Li.length):=by show _=_;rw[g,<-hZ,af,ao]
   rw[ao]at aq;rw[af]at E;have al:=λ(W2:wW)(hb:bL wr W2)=>aX.out (d[i]).1 (d[i]).2 lo hi k B T W2 Li lvi Pi (a3.out _ au) (PA.kept (Kept.of_below hb) n _ _ ar) (E.en.below hb) (E.ws.below hb) (by have:=am.out;omega)
   rw[aN]at hr al;generalize JE (cod own nm n) (d[i]).1 Li.length=ac at*;generalize hd n (d[i]).1=y at*;have b:=hid E;clear g aq aN ar aw au ag E HS af ao;have aO:nY (wr.alloc (Z zeros21 158)) wr.heap.size 0 (QO y (U sa sb z)).toArray.size:=(AtL.new0 wr _ _:AtL (wr.alloc (Z zeros21 158)) wr.heap.size zeros21.toList).there;have aD:hH (AtL ((wr.alloc (Z zeros21 158)).setCells wr.heap.size 0 (QO y (U sa sb z))) wr.heap.size (QO y (U sa sb z))):=(AtL.new0 wr _ _:AtL (wr.alloc (Z zeros21 158)) wr.heap.size zeros21.toList).setAll rfl;have an:bL wr ((wr.alloc (Z zeros21 158)).setCells wr.heap.size 0 (QO y (U sa sb z))):=Ql (QI (fZ _ wr) _) (yZ _) _ 0;have FE:=al _ an;have aB:=hid an;clear al an;go_upto_region 5 with(first|(refine ldQ 158 (mX 20) bb (A+i*21) (QO y (U sa sb z)) _ hr underlying158 ?_)|((with_reducible refine stQ 158 (mX 11) (mX 21) wr.heap.size 0 (QO y (U sa sb z)).toArray ?_ ?_ ?_);exact aO;exact Qt _ _ _ _))
   clear aO hr;generalize((wr.alloc (Z zeros21 158)).setCells wr.heap.size 0 (QO y (U sa sb z)))=W2 at*;have rI:=aD.out.range;go_wp2_with (first|(refine ldQ 158 (mX 11) wr.heap.size 0 (QO y (U sa sb z)) _ rI underlying158 ?_))
   refine FE.mono ?_;rintro e w4 ⟨⟨a7,P4,rfl,aV,aS⟩,aI⟩;have a0:hH (∃lvi Pi,St own nm av2 m2 cap2 k B T hi W lv w4 ((L++[ins 6 id 0])++Qc (JE (cod own nm n)) ((d.map (·.1)).take (i+1)) (L.length+1)) lvi Pi):=⟨a7,P4,by rw[aG.out];exact(b.out.below aB.out).step aI aS aV⟩
   clear FE rI aV aS aI aB aD b aG;go_wp2_with fail
   go_roundg (m-(i+1))
   case rel=>exact⟨i+1,sM,rfl,a6,a0⟩
   case measure=>omega
  ·have a5:¬(i:Int)<(m:Int):=oM;have aE:hH (∃lvi Pi,St own nm av2 m2 cap2 k B T hi W lv wr ((L++[ins 6 id 0])++Qc (JE (cod own nm n)) (d.map (·.1)) (L.length+1)) lvi Pi):=by
    have a4:(d.map (·.1)).length<=i:=by have:=HM.out;simp;omega
    have:=HS.out;rw[hY a4]at this;exact this
   obtain⟨lvi,Pi,E⟩:=aE.out;have G:hH (((L++[ins 6 id 0])++Qc (JE (cod own nm n)) (d.map (·.1)) (L.length+1)).length<=900000):=by have:=am.out;show _<=_;simp only[dZ,eZ,mZ];omega
   obtain⟨Lw,ap⟩:=xV ((L++[ins 6 id 0])++Qc (JE (cod own nm n)) (d.map (·.1)) (L.length+1))
   rw[ap]at G E;have aC:=hid ap;clear ap;have b:=hid E;have a1:=(aA.out.1.fr E.fr HK.out.2.2.2.1)
   have a2:=(aA.out.2.fr E.fr HK.out.2.2.2.2)
   obtain⟨f0,f1,f2,f3,f4,_,_,_,_,_⟩:=a1.five;obtain⟨g0,g1,g2,g3,g4,_,_,_,_,_⟩:=a2.five;clear HS aE E a1 a2;have PW:=PR wr;cases hp:Wc.pairs id with
   |true =>
    rw[hp]at PW;have H:hH (Jz 9 0 s D=sc):=by have:=aF.out;rw[hp]at this;exact this
    have LB:=JA k B T (Jz 9 0 s D).1 _ _ Lw lvi Pi wr b.out.ws b.out.en.kB b.out.en.hB (by have:=G.out;omega);go_wp2_with fail
    refine PW.mono ?_;rintro e w2 ⟨rfl,rfl⟩;go_wp2_with (first|(refine zEW rfl (mX 29) (mX 30) rfl s D rfl rfl ?_))
    refine LB.mono ?_;rintro e w5 ⟨⟨R,P5,rfl,ab,X⟩,K⟩;have c:hH (St own nm av2 m2 cap2 k B T hi W lv w5 (Lw++[sc]) R P5):=by
     have:=b.out.step K X ab;rw[<-H.out];exact this
    have LA:=JA k B T (ins 10 0 0).1 _ _ _ R P5 w5 c.out.ws c.out.en.kB c.out.en.hB (by have:=G.out;simp only[dZ,eZ,mZ];omega);clear LB ab X K f0 f1 f2 f3 f4 g0 g1 g2 g3 g4 PW PR;go_wp2_with (first|(refine Qo rfl 10 rfl ?_))
    refine LA.mono ?_;rintro e w6 ⟨⟨a8,P6,rfl,ad,aa⟩,M⟩;have HR:=hid (((c.out.step M aa ad).wp).from az.out);clear LA ad aa M c b;go_wp2;go_end0
    have hr:=HR.out;rw[<-aC.out]at hr;exact hr
   |false =>
    rw[hp]at PW;have H:hH (Jz 8 0 s a0I=sc):=by have:=aF.out;rw[hp]at this;exact this
    have LB:=JA k B T (Jz 8 0 s a0I).1 _ _ Lw lvi Pi wr b.out.ws b.out.en.kB b.out.en.hB (by have:=G.out;omega);go_wp2_with fail
    refine PW.mono ?_;rintro e w2 ⟨rfl,rfl⟩;go_wp2_with (first|(refine zEr rfl (mX 34) rfl s rfl ?_))
    refine LB.mono ?_;rintro e w5 ⟨⟨R,P5,rfl,ab,X⟩,K⟩;have c:hH (St own nm av2 m2 cap2 k B T hi W lv w5 (Lw++[sc]) R P5):=by
     have:=b.out.step K X ab;rw[<-H.out];exact this
    have LA:=JA k B T (ins 10 0 0).1 _ _ _ R P5 w5 c.out.ws c.out.en.kB c.out.en.hB (by have:=G.out;simp only[dZ,eZ,mZ];omega);clear LB ab X K f0 f1 f2 f3 f4 g0 g1 g2 g3 g4 PW PR;go_wp2_with (first|(refine Qo rfl 10 rfl ?_))
    refine LA.mono ?_;rintro e w6 ⟨⟨a8,P6,rfl,ad,aa⟩,M⟩;have HR:=hid (((c.out.step M aa ad).wp).from az.out);clear LA ad aa M c b;go_wp2;go_end0
    have hr:=HR.out;rw[<-aC.out]at hr;exact hr
open Go.RowKit Wf
section
variable (own:Int)(nm:List ByteArray)(av2:Option dW)(m2 cap2:Nat)
def SkC(n:Nat):Prop:=∀(id:Int)(b:List (Tr n×vW))(c:Option dW)(m cap lo hi k B:Nat)(T:Nat->Nat)(w:wW)(L:List I)(lv:vW)(P:List (Wc.In×vW)),m=b.length->b.length<=30->(∀p∈b,Wq own nm n p.1)->0<(b.filter λp=>isA (hd n p.1)).length->(∀p∈b,PA n lo hi w p.1 p.2)->RdQ w c (b.map λp=>(hd n p.1,p.2))->En own nm av2 m2 cap2 k B T hi w->WS k B T w (O J own) (U av2 m2 cap2) L lv P->L.length+(VN own nm (hd n) (cod own nm n) id (b.map (·.1)) L.length).length<=900000 ->
 Calls prog 153 #[pX (wX ⟨k,0,vX⟩),O J id,U c m cap] w (WP k B T (O J own) (U av2 m2 cap2) (L++VN own nm (hd n) (cod own nm n) id (b.map (·.1)) L.length) lv w)
end
theorem zN6{b:Nat}{v0 c d e g:vW}:Fr [b] w (((((w.setCell ⟨b,0,vX⟩ v0).setCell ⟨b,1,vX⟩ c).setCell ⟨b,2,vX⟩ d).setCell ⟨b,3,vX⟩ e).setCell ⟨b,4,vX⟩ g):=Qj b [v0,c,d,e,g] 0 w
theorem zGP(b:List (Tr n×vW))(q:Wt.Nd->Bool):(b.map λp=>(hd n p.1,p.2)).filter (λp=>q p.1)=(b.filter λp=>q (hd n p.1)).map λp=>(hd n p.1,p.2):=by
 rw[rY];rfl
theorem OwnP.rdq{A:List (Wt.Nd×vW)}(h:OwnP w B v A):∃j c,v=U j A.length c/\RdQ w j A/\∀d b,j=wX ⟨d,b,vX⟩->B<=d/\d<w.heap.size:=by
 rcases OwnP.cases h with⟨e,l⟩|⟨g,cap,e,m,p,q⟩
 ·subst l;exact⟨vX,0,e,λi hi=>absurd hi (sY _),λd b e=>by cases e⟩
 ·refine⟨wX ⟨g,0,vX⟩,cap,e,λi hi=>⟨g,0,rfl,by rw[oY];exact q i hi⟩,λd b e=>by cases e;exact⟨m,p⟩⟩
theorem zOA(h:RtN x):(0<=(Jg x).b-(Jg x).t+1/\(Jg x).b-(Jg x).t+1<=65536)/\(0<=(Jg x).r-(Jg x).l+1/\(Jg x).r-(Jg x).l+1<=65536):=by
 obtain⟨c,d⟩:=h;simp only[Wt.inR,Bool.and_eq_true,decide_eq_true_eq]at c d;simp only[Jg];omega
theorem zPE(own:Int)(nm:List ByteArray)(av2:Option dW)(m2 cap2 n:Nat)(ih:PtC own nm av2 m2 cap2 n):SkC own nm av2 m2 cap2 n:=by
 intro id ps av m cap lo hi k B T w L lv P hm hl aq ao ak bA G be an;have al:=zGU own nm av2 m2 cap2 n ih;have sr:=zJo own nm av2 m2 cap2 n ih;obtain⟨H,ap⟩:=xV (ps.filter λp=>isA (hd n p.1))
 obtain⟨pv,aC⟩:=xV (ps.filter λp=>!isA (hd n p.1))
 rw[ap]at ao;have bC:(ps.map (·.1)).filter (λk=>!isA (hd n k))=pv.map (·.1):=by rw[<-aC,rY];rfl
 have aP:J6 ((ps.map (·.1)).map (hd n))=H.map λp=>hd n p.1:=by
  unfold J6;rw[<-ap,kX,rY];rfl
 have a8:∀p∈H,p∈ps/\isA (hd n p.1)=xX:=λp hp=>by rw[<-ap]at hp;exact List.mem_filter.1 hp
 have ad:∀p∈pv,p∈ps/\isA (hd n p.1)=yX:=λp hp=>by
  rw[<-aC]at hp;have:=List.mem_filter.1 hp;exact⟨this.1,by simpa using this.2⟩
 have a6:H.length<=30:=by have:=eX (λp:Tr n×vW=>isA (hd n p.1)) ps;rw[ap]at this;omega
 have a7:pv.length<=30:=by have:=eX (λp:Tr n×vW=>!isA (hd n p.1)) ps;rw[aC]at this;omega
 have AP:=zDp (ps.map λp=>(hd n p.1,p.2)) av m cap w (by rw[nZ];exact hm) (by rw[nZ];exact hl) (zIY ak) bA;unfold ApP at AP;rw[zGP ps isA,zGP ps (λx=>!isA x),ap,aC]at AP;obtain⟨z,aN⟩:∃x,hd n (H[0]).1=x:=⟨_,rfl⟩
 obtain⟨xb,aO⟩:∃x,hd n (H[H.length-1]'oM).1=x:=⟨_,rfl⟩
 have bc:∀p∈H,RtN (hd n p.1):=λp hp=>zCm (zEp (aq p (a8 p hp).1).1) (by simpa[isA]using(a8 p hp).2)
 have ah:RtN z:=by rw[<-aN];exact bc _ (xZ ao)
 have bz:RtN xb:=by rw[<-aO];exact bc _ (xZ _)
 have aA:(H.map λp=>hd n p.1).headD ⟨0,v0I,0,⟨#[]⟩,0,Wt.r0,Wt.r0⟩=z:=by
  rw[<-aN];cases H with
  |nil=>cases ao
  |cons a r=>rfl
 have aB:(H.map λp=>hd n p.1).getLastD ⟨0,v0I,0,⟨#[]⟩,0,Wt.r0,Wt.r0⟩=xb:=by
  rw[<-aO,List.getLastD_eq_getLast?,List.getLast?_eq_getElem?,nZ,lX,iY oM];rfl
 obtain⟨LF,X⟩:=xV (L++VN own nm (hd n) (cod own nm n) id (ps.map (·.1)) L.length)
 have bd:VN own nm (hd n) (cod own nm n) id (ps.map (·.1)) L.length=(if id=26 then[Jt (VP ((Qi own nm z).b-(Qi own nm z).t+1))]else if id=27 then[Jt (VP ((Qi own nm z).r-(Qi own nm z).l+1))]else if id=25 then Qc (cod own nm n) (pv.map (·.1)) L.length++[Jz 11 (pv.length:Nat) (Qi own nm z) a0I]else V5 own nm n id (Qi own nm z) (Qi own nm xb) (pv.map (·.1)) L.length):=by
  unfold VN V5;simp only[aP,bC,aA,aB,nZ]
 rw[bd]at an X;rw[bd,X];have aH:∀j,lv.ownBlock=wX j->B<=j/\j<w.heap.size:=λj e=>QL be.own e
 have aM:∀(W:wW),bL w W->St own nm av2 m2 cap2 k B T hi w lv W L lv P:=λW hb=>(St.init G be).below hb
 have bp:=hid aM;have aE:hH (k<w.heap.size):=by have:=G.kB;have:=G.hB;show _<_;omega
 have bK:hH (∀j,lv.ownBlock=wX j->j<w.heap.size):=λj e=>(aH j e).2
 have AR:=λ(W:wW)(h:RdS W av2 nm)=>zCg own nm av2 m2 cap2 z W ah G.hm G.hl h
 have AL:=λ(W:wW)(h:RdS W av2 nm)=>zCg own nm av2 m2 cap2 xb W bz G.hm G.hl h
 have am:hH ((0<=(Qi own nm z).b-(Qi own nm z).t+1/\(Qi own nm z).b-(Qi own nm z).t+1<=65536)/\(0<=(Qi own nm z).r-(Qi own nm z).l+1/\(Qi own nm z).r-(Qi own nm z).l+1<=65536)):=zOA ah;have bo:hH (SmA (Qi own nm z)):=zEt ah;have au:hH (id=25->∀(W:wW)(N:Option dW)(c3:Nat),bL w W->RdQ W N (pv.map λp=>(hd n p.1,p.2))->(∀D u,N=wX ⟨D,u,vX⟩->w.heap.size<=D/\D<W.heap.size)->¬id=26->¬id=27->Calls prog 117 #[pX (wX ⟨k,0,vX⟩),U N pv.length c3] W (WP k B T (O J own) (U av2 m2 cap2) (L++Qc (cod own nm n) (pv.map (·.1)) L.length) lv W)/\(L++Qc (cod own nm n) (pv.map (·.1)) L.length)++[Jz 11 (pv.length:Nat) (Qi own nm z) a0I]=LF/\(L++Qc (cod own nm n) (pv.map (·.1)) L.length).length<=900000):=λaI W N c3 hb hr3 hv3 n26 n27=>by
  rw[if_neg n26,if_neg n27,if_pos aI]at an X;simp only[dZ,eZ,mZ]at an;have st:=aM W hb;refine⟨al pv N pv.length c3 lo hi k B T W L lv P rfl a7 (λp hp=>⟨(aq p (ad p hp).1).1,(aq p (ad p hp).1).2,(ad p hp).2⟩) (λp hp=>PA.kept (Kept.of_below hb) n _ _ (ak p (ad p hp).1)) hr3 (λ_ D u e j ej=>by have:=hv3 D u e;have:=(aH j ej).2;omega) (λ_ D u e=>⟨by have:=hv3 D u e;have:=G.kB;have:=G.hB;omega,(hv3 D u e).2⟩) st.en st.ws oM,by rw[<-X,hZ],by rw[dZ];omega⟩
 have af:hH (¬id=26->¬id=27->¬id=25->∀(W:wW)(N:Option dW)(c3:Nat),bL w W->RdQ W N (pv.map λp=>(hd n p.1,p.2))->(∀D u,N=wX ⟨D,u,vX⟩->w.heap.size<=D/\D<W.heap.size)->Calls prog 184 #[pX (wX ⟨k,0,vX⟩),O J id,gX (ar5 (Qi own nm z)).toArray,gX (ar5 (Qi own nm xb)).toArray,U N pv.length c3] W (WP k B T (O J own) (U av2 m2 cap2) LF lv W)):=λn26 n27 n25 W N c3 hb hr3 hv3=>by
  rw[if_neg n26,if_neg n27,if_neg n25]at an X;have st:=aM W hb;have:=sr id (Qi own nm z) (Qi own nm xb) pv N pv.length c3 lo hi k B T W L lv P rfl a7 (λp hp=>⟨(aq p (ad p hp).1).1,(aq p (ad p hp).1).2,(ad p hp).2⟩) (λp hp=>PA.kept (Kept.of_below hb) n _ _ (ak p (ad p hp).1)) hr3 (λD u e j ej=>by have:=hv3 D u e;have:=(aH j ej).2;omega) (λD u e=>⟨by have:=hv3 D u e;have:=G.kB;have:=G.hB;omega,(hv3 D u e).2⟩) st.en st.ws an;rw[X]at this;exact this
 have ae:hH (¬(id=26/\id=27)/\(id=26->L++[Jt (VP ((Qi own nm z).b-(Qi own nm z).t+1))]=LF)/\(id=27->L++[Jt (VP ((Qi own nm z).r-(Qi own nm z).l+1))]=LF)/\L.length<=900000):=⟨λh=>by omega,λh=>by rw[if_pos h]at X;exact X,λh=>by rw[if_neg oM,if_pos h]at X;exact X,oM⟩
 obtain⟨na,a9⟩:=xV H.length
 have H0:hH (0<na/\na<=30):=by rw[a9]at ao a6;exact⟨ao,a6⟩
 have aW:hH (∀(i:Nat)(h:i<H.length)(h2:i<(H.map λp=>(hd n p.1,p.2)).length),((H.map λp=>(hd n p.1,p.2))[i]).1=hd n (H[i]).1):=λi h h2=>by rw[qZ]
 have bq:hH (∀h:0<H.length,hd n (H[0]).1=z):=λ_=>aN
 have br:hH (∀h:H.length-1<H.length,hd n (H[H.length-1]).1=xb):=λ_=>aO
 have ax:=hid a9;generalize Qi own nm z=c at*;generalize Qi own nm xb=xs at*;obtain⟨nv,bx⟩:=xV pv.length
 have aU:=hid bx;clear bC aP a8 ad a6 a7 aN aO bc ah bz aA aB bd an X aH aM hm hl aq ak bA G be ih al sr ap aC ao a9 bx;go_enter func153,ntmps153;go_wp2_with fail
 refine AP.mono ?_;rintro e w1 ⟨⟨va,vb,rfl,bE,bF⟩,a3⟩;obtain⟨az,aY,rfl,bH,bB⟩:=bF.rdq;rcases OwnP.cases bE with⟨_,e0⟩|⟨ga,bU,rfl,aQ,aR,ah⟩
 ·have h9:=ax.out;have:=H0.out.1;rw[List.map_eq_nil_iff]at e0;rw[e0]at h9;simp at h9;omega
 rw[nZ,ax.out];rw[nZ,aU.out];have bG:w1.rangeAt ga 0 (QM z):=by
  have aj:0<H.length:=by have:=ax.out;have:=H0.out;omega
  have:=zBG (ah 0 (by rw[nZ];exact aj));rw[aW.out 0 aj,bq.out aj,tX]at this;exact this
 have bM:hH (w1.rangeAt ga ((na-1)*21) (QM xb)):=by
  have aj:H.length-1<H.length:=by have:=ax.out;have:=H0.out;omega
  have:=zBG (ah (H.length-1) (by rw[nZ];exact aj));rw[aW.out _ aj,br.out aj,ax.out]at this;exact this
 have bN:=hid (bp.out w1 a3);have aV:=hid (And.intro bH bB);have bl:=hid (And.intro aR aQ);have bJ:=hid a3;have a4:=(fZ w1.heap.size w1).drew;have C:=hid (bN.out.below a4);have aS:=hid a4;have aF:hH (w1.heap.size<=w1.drew.heap.size):=yZ _;have rk:=Jd C.out.ws;have ra:w1.drew.rangeAt ga 0 (QM z):=bG;have bV:(0:Int)<(na:Int):=by have:=H0.out;omega
 clear AP bE bF bH bB ah bG aQ aR a3 aW bq br a4;go_upto_region 1 with fail
 go_cut [8] (λs8 wx=>∃d,s8=pX (wX ⟨d,0,vX⟩)/\d≠k/\AtL wx d (ar5 c)/\d<wx.heap.size/\w.heap.size<=d/\bL w1 wx)
 case first =>
  refine wp_region_held_drew (S:=λW=>W.rangeAt k 0 [O J own,U av2 m2 cap2]/\W.rangeAt ga 0 (QM z)) kR ⟨rk,ra⟩ (λg=>?_);generalize w1.drew=WD at*;refine tkQ 0 ?_
  refine tkQ 1 ?_
  refine tkQ 2 ?_
  refine tkH 3 (gX ([O J own,U av2 m2 cap2]).toArray) rfl (yiQ 154 (mX 16) (k) (0) ([O J own,U av2 m2 cap2]) _ (λ_ h=>h.1) underlying154) ?_;try simp only[Act.put,lA,lZ,lS]
  refine tkQ 4 ?_
  refine tkH 5 ?_ rfl (tZ ⟨by rfl,?_⟩) ?_;rotate_left
  ·intro w bP
   (try dsimp only at bP)
   go_simp
   rw[if_pos (by have:=H0.out;omega)];try with_reducible rfl
  try simp only[Act.put,lA,lZ,lS]
  refine tkQ 6 ?_
  refine tkH 7 (gX (QM z).toArray) rfl (yiQ 97 (mX 20) (ga) (0) (QM z) _ (λ_ h=>h.2) underlying97) ?_;try simp only[Act.put,lA,lZ,lS]
  refine wpAnyH_ready (rs:=[8,9]) kR sM ?_;refine AllReadyH.cons (atQ rfl) (λK R=>?_) (AllReadyH.cons (atQ rfl) (λK R=>?_) AllReadyH.nil)
  ·go_simp
   refine(AR WD C.out.en.rs).mono ?_;rintro e w2 ⟨rfl,E⟩;go_wp2_with fail
   replace rk:=QF E rk
   replace ra:=QF E ra
   refine hkQ R ⟨rk,ra⟩ (λg=>?_);clear R K
   have ac:=QI (fZ _ w2) (Z #[O J 0,O J 0,O J 0,O J 0,O J 0] 83);have pZ:=AtL.new0 w2 83 [O J 0,O J 0,O J 0,O J 0,O J 0];refine rdQ 9 (λK R=>?_);go_simp
   refine hkQ R ⟨QF ac rk,QF ac ra⟩ (λg=>?_);clear R K
   obtain⟨k0,k1,k2,k3,k4,z0,z1,z2,z3,z4⟩:=pZ.five;have aJ:=QI (fZ _ w2) (Z (ar5 c).toArray 83);refine rdQ 10 (λK R=>?_);go_simp
   refine hkQ R ⟨QF aJ rk,QF aJ ra⟩ (λg=>?_);clear R K
   refine wpAnyH_done kR ?_ _;have HN:hH (∃d,pX (wX ⟨w2.heap.size,0,vX⟩)=pX (wX ⟨d,0,vX⟩)/\d≠k/\AtL (w2.alloc (Z (ar5 c).toArray 83)) d (ar5 c)/\d<(w2.alloc (Z (ar5 c).toArray 83)).heap.size/\w.heap.size<=d/\bL w1 (w2.alloc (Z (ar5 c).toArray 83))):=⟨w2.heap.size,rfl,by have:=aE.out;have:=C.out.fr.size;have:=E.size;omega,AtL.new0 w2 _ _,(AtL.new0 w2 83 (ar5 c)).lt,jZ C.out.fr.size E.size,QA (QA aS.out E) aJ⟩
   clear g rk ra ac aJ pZ k0 k1 k2 k3 k4 z0 z1 z2 z3 z4 E C;go_wp2_with fail
   go_meet
   case rel =>
    go_light
    exact HN.out
  ·have ac:=QI (fZ _ WD) (Z #[O J 0,O J 0,O J 0,O J 0,O J 0] 83);have pZ:=AtL.new0 WD 83 [O J 0,O J 0,O J 0,O J 0,O J 0];go_simp
   replace rk:=QF ac rk
   replace ra:=QF ac ra
   refine hkQ R ⟨rk,ra⟩ (λg=>?_);clear R K
   have bn:=hid (C.out.below ac);have bk:=hid (QA aS.out ac);have aG:=hid C.out.fr.size;clear ac C;generalize(WD.alloc (Z #[O J 0,O J 0,O J 0,O J 0,O J 0] 83))=WE at*;obtain⟨d,a5⟩:∃b,WD.heap.size=b:=⟨_,rfl⟩
   rw[a5]at pZ aG aF;simp only[a5];clear a5;refine rdQ 8 (λK R=>?_);go_simp
   refine(AR WE bn.out.en.rs).mono ?_;rintro e w2 ⟨rfl,E⟩;go_wp2_with fail
   replace rk:=QF E rk
   replace ra:=QF E ra
   refine hkQ R ⟨rk,ra⟩ (λg=>?_);clear R K
   replace pZ:=AtL.below E pZ
   obtain⟨k0,k1,k2,k3,k4,z0,z1,z2,z3,z4⟩:=pZ.five;have y:Fr [d] w2 (((((w2.setCell ⟨d,0,vX⟩ (O J c.s)).setCell ⟨d,1,vX⟩ (O J c.t)).setCell ⟨d,2,vX⟩ (O J c.l)).setCell ⟨d,3,vX⟩ (O J c.b)).setCell ⟨d,4,vX⟩ (O J c.r)):=zN6;have pF:AtL (((((w2.setCell ⟨d,0,vX⟩ (O J c.s)).setCell ⟨d,1,vX⟩ (O J c.t)).setCell ⟨d,2,vX⟩ (O J c.l)).setCell ⟨d,3,vX⟩ (O J c.b)).setCell ⟨d,4,vX⟩ (O J c.r)) d (ar5 c):=pZ.put5 _ _ _ _ _;have bj:=hid (zBg (QA bk.out E) y (λj hj=>by simp at hj;have:=aF.out;omega));refine rdQ 10 (λK R=>?_);go_simp
   refine hkQ R ⟨y.range rk (by have:=aE.out;have:=aG.out;simp;omega),y.range ra (by have:=bl.out;have:=aF.out;simp;omega)⟩ (λg=>?_);clear R K
   refine wpAnyH_done kR ?_ _;have HN:hH (∃aD,pX (wX ⟨d,0,vX⟩)=pX (wX ⟨aD,0,vX⟩)/\aD≠k/\AtL (((((w2.setCell ⟨d,0,vX⟩ (O J c.s)).setCell ⟨d,1,vX⟩ (O J c.t)).setCell ⟨d,2,vX⟩ (O J c.l)).setCell ⟨d,3,vX⟩ (O J c.b)).setCell ⟨d,4,vX⟩ (O J c.r)) aD (ar5 c)/\aD<(((((w2.setCell ⟨d,0,vX⟩ (O J c.s)).setCell ⟨d,1,vX⟩ (O J c.t)).setCell ⟨d,2,vX⟩ (O J c.l)).setCell ⟨d,3,vX⟩ (O J c.b)).setCell ⟨d,4,vX⟩ (O J c.r)).heap.size/\w.heap.size<=aD/\bL w1 (((((w2.setCell ⟨d,0,vX⟩ (O J c.s)).setCell ⟨d,1,vX⟩ (O J c.t)).setCell ⟨d,2,vX⟩ (O J c.l)).setCell ⟨d,3,vX⟩ (O J c.b)).setCell ⟨d,4,vX⟩ (O J c.r))):=⟨d,rfl,by have:=aE.out;have:=aG.out;omega,pF,pF.lt,aG.out,bj.out⟩
   clear g rk ra pZ k0 k1 k2 k3 k4 z0 z1 z2 z3 z4 E bn bk bj y pF;generalize(((((w2.setCell ⟨d,0,vX⟩ (O J c.s)).setCell ⟨d,1,vX⟩ (O J c.t)).setCell ⟨d,2,vX⟩ (O J c.l)).setCell ⟨d,3,vX⟩ (O J c.b)).setCell ⟨d,4,vX⟩ (O J c.r))=WF at*;go_wp2_with fail
   go_meet
   case rel =>
    go_light
    exact HN.out
 case rest =>
  obtain⟨d,rfl,bt,bs,bS,bT,aK⟩:=hcut;clear rk ra AR C aS aF;have HX:=hid (QA bJ.out aK);have ag:=hid (bp.out wc HX.out);have bv:=aK.size;have ay:hH (RdQ wc az (pv.map λp=>(hd n p.1,p.2))/\∀D u,az=wX ⟨D,u,vX⟩->w.heap.size<=D/\D<wc.heap.size):=⟨aV.out.1.below aK,λD u e=>⟨(aV.out.2 D u e).1,tY (aV.out.2 D u e).2 bv⟩⟩
  have aT:hH (∀b,b=ga\/b=d->b∉k::lv.ownBlock.toList):=λb hb hmm=>by
   have h1:=bl.out;have h2:=aE.out;rcases List.mem_cons.1 hmm with q|q
   ·rcases hb with rfl|rfl
    ·omega
    ·exact bt q
   ·have:=bK.out b (by simpa using q);rcases hb with rfl|rfl <;> omega
  obtain⟨i0,i1,i2,i3,i4,_,_,_,_,_⟩:=bs.five;have ar:=bs.range;by_cases a0:id=26
  ·subst a0;have RW:=zCC c wc bo.out;have ai:hH (∀W,bL wc W->Calls prog 183 #[pX (wX ⟨k,0,vX⟩),O J (c.b-c.t+1)] W (WP k B T (O J own) (U av2 m2 cap2) (L++[Jt (VP (c.b-c.t+1))]) lv W)):=λW hb=>by
    have st:=ag.out.below hb;exact zF1 k B T _ am.out.1 _ _ L lv P W st.ws st.en.kB st.en.hB (by have:=ae.out.2.2.2;omega)
   have aw:=ae.out.2.1 rfl;rw[aw]at ai;generalize c.b-c.t+1=rr at*;clear aw au af AL ae am;go_wp2_with (first|(refine ldQ 83 (mX 8) d 0 (ar5 c) _ ar underlying83 ?_))
   refine RW.mono ?_;rintro e w4 ⟨rfl,A⟩;have PC:=ai.out w4 A;have ab:=hid (ag.out.below A);clear RW A ai;go_wp2_with fail
   refine PC.mono ?_;rintro e w5 ⟨⟨bf,P5,rfl,M,aa⟩,y⟩;have HR:=hid ((ab.out.step y aa M).wp);clear PC M aa y ab;go_wp2;go_end0
   exact HR.out
  by_cases a1:id=27
  ·subst a1;have RW:=zBw c wc bo.out;have ai:hH (∀W,bL wc W->Calls prog 183 #[pX (wX ⟨k,0,vX⟩),O J (c.r-c.l+1)] W (WP k B T (O J own) (U av2 m2 cap2) (L++[Jt (VP (c.r-c.l+1))]) lv W)):=λW hb=>by
    have st:=ag.out.below hb;exact zF1 k B T _ am.out.2 _ _ L lv P W st.ws st.en.kB st.en.hB (by have:=ae.out.2.2.2;omega)
   have aw:=ae.out.2.2.1 rfl;rw[aw]at ai;generalize c.r-c.l+1=rr at*;clear aw au af AL ae am;go_wp2_with (first|(refine ldQ 83 (mX 8) d 0 (ar5 c) _ ar underlying83 ?_))
   refine RW.mono ?_;rintro e w4 ⟨rfl,A⟩;have PC:=ai.out w4 A;have ab:=hid (ag.out.below A);clear RW A ai;go_wp2_with fail
   refine PC.mono ?_;rintro e w5 ⟨⟨bf,P5,rfl,M,aa⟩,y⟩;have HR:=hid ((ab.out.step y aa M).wp);clear PC M aa y ab;go_wp2;go_end0
   exact HR.out
  by_cases aI:id=25
  ·subst aI;obtain⟨AA,a2,bu⟩:=au.out rfl wc az aY HX.out ay.out.1 ay.out.2 a0 a1;rw[aU.out]at AA a2;have bm:=hid (And.intro a2 bu);clear a2 bu au af AL ae am i0 i1 i2 i3 i4;generalize L++Qc (cod own nm n) (pv.map (·.1)) L.length=L4 at*;go_wp2_with fail
   refine AA.mono ?_;rintro e w4 ⟨⟨bQ,P4,rfl,bg,bD⟩,aZ⟩;have ab:=hid (ag.out.step aZ bD bg);have bR:=aZ.range ar (aT.out d (kZ rfl));have LA:=JA k B T (Jz 11 (nv:Nat) c a0I).1 _ _ L4 bQ P4 w4 bg ab.out.en.kB ab.out.en.hB (by have:=bm.out.2;omega);clear AA bg bD aZ ar;go_wp2_with (first|(refine ldQ 83 (mX 8) d 0 (ar5 c) _ bR underlying83 ?_)|(refine zFL rfl (mX 59) (mX 61) rfl c (nv:Int) rfl rfl ?_))
   refine LA.mono ?_;rintro e w5 ⟨⟨bf,P5,rfl,M,aa⟩,y⟩;have HR:hH (WP k B T (O J own) (U av2 m2 cap2) LF lv w (rX (uX #[])) w5):=by
    have:=(ab.out.step y aa M).wp;rw[<-bm.out.1];exact this
   clear LA M aa y ab;go_wp2;go_end0
   exact HR.out
  have bO:hH (∀W,bL wc W->Calls prog 184 #[pX (wX ⟨k,0,vX⟩),O J id,gX (ar5 c).toArray,gX (ar5 xs).toArray,U az nv aY] W (WP k B T (O J own) (U av2 m2 cap2) LF lv W)):=λW hb=>by
   have:=af.out a0 a1 aI W az aY (QA HX.out hb) (ay.out.1.below hb) (λD u e=>⟨(ay.out.2 D u e).1,tY (ay.out.2 D u e).2 hb.size⟩);rw[aU.out]at this;exact this
  have aL:=(fZ wc.heap.size wc).drew;have C:=hid (ag.out.below aL);have aX:=hid aL;have rk:=Jd C.out.ws;have rb:=QF aL (QF aK bM.out);have ri:wc.drew.rangeAt d 0 (ar5 c):=ar;have bW:J.wrap ((na:Int)-1)=((na-1:Nat):Int):=by have:=H0.out;rw[jY];omega
  have bX:((na-1:Nat):Int)<(na:Int):=by have:=H0.out;omega
  have bY:(0:Int)<=((na-1:Nat):Int):=oM;clear au af ae am i0 i1 i2 i3 i4 ar aL;go_upto_region 3 with fail
  refine wp_region_held_drew (S:=λW=>W.rangeAt k 0 [O J own,U av2 m2 cap2]/\W.rangeAt ga ((na-1)*21) (QM xb)/\W.rangeAt d 0 (ar5 c)) kR ⟨rk,rb,ri⟩ (λg=>?_);generalize wc.drew=WD at*;refine tkQ 0 ?_
  refine tkQ 1 ?_
  refine tkH 2 (gX (ar5 c).toArray) rfl (yiQ 83 (mX 8) (d) (0) (ar5 c) _ (λ_ h=>h.2.2) underlying83) ?_;try simp only[Act.put,lA,lZ,lS]
  refine tkQ 3 ?_
  refine tkQ 4 ?_
  refine tkQ 5 ?_
  refine tkH 6 (gX ([O J own,U av2 m2 cap2]).toArray) rfl (yiQ 154 (mX 29) (k) (0) ([O J own,U av2 m2 cap2]) _ (λ_ h=>h.1) underlying154) ?_;try simp only[Act.put,lA,lZ,lS]
  refine tkQ 7 ?_
  refine tkQ 8 ?_
  refine tkQ 9 ?_
  refine tkQ 10 ?_
  refine tkQ 11 ?_
  refine tkQ 12 ?_
  refine tkH 13 (gX (QM xb).toArray) rfl (yiQ 97 (mX 36) (ga) ((na-1)*21) (QM xb) _ (λ_ h=>h.2.1) underlying97) ?_;try simp only[Act.put,lA,lZ,lS]
  refine tkQ 15 ?_
  refine rdQ 14 (λK R=>?_);go_simp
  refine(AL WD C.out.en.rs).mono ?_;rintro e w4 ⟨rfl,A⟩;go_wp2_with fail
  have SR:=bO.out w4 (QA aX.out A);replace rk:=QF A rk
  replace rb:=QF A rb
  replace ri:=QF A ri
  refine hkQ R ⟨rk,rb,ri⟩ (λg=>?_);clear R K
  have bh:=hid (QA aX.out A);refine rdQ 16 (λK R=>?_);go_simp
  refine SR.mono ?_;rintro e w5 h5;obtain⟨⟨bf,P5,rfl,M,aa⟩,y⟩:=h5;go_wp2_with fail
  have bI:=Jd M;refine hkQ R ⟨bI,y.range rb (aT.out ga (tZ rfl)),y.range ri (aT.out d (kZ rfl))⟩ (λg=>?_);clear R K
  refine wpAnyH_done kR ?_ _;have HR:=hid (((ag.out.below bh.out).step y aa M).wp);clear g rk rb ri bI SR M aa y ag C aX bh A AL;go_wp2;go_end0
  exact HR.out
open Go.RowKit Wf
theorem zOm:(oX 64).all (λk=>!JL ((k:Nat):Int)||(let s:=QR ((k:Nat):Int);(s.c == 1&&(decide (1<=s.l)))||(s.c == 2&&(decide (20<=k)&&decide (k<=27)))||(s.c == 3&&(s.p.data.toList == [118])&&((k == 30)||(k == 31)||(k == 32))&&decide (2<=s.l))||(s.c == 4&&(s.p.data.toList == [118]))))=xX:=kR
theorem zNU(s:ByteArray)(h:JL ((JD s:Nat):Int)=xX):((QR ((JD s:Nat):Int)).c=1/\1<=(QR ((JD s:Nat):Int)).l)\/((QR ((JD s:Nat):Int)).c=2/\20<=JD s/\JD s<=27)\/((QR ((JD s:Nat):Int)).c=3/\(QR ((JD s:Nat):Int)).p.data.toList=[118]/\(JD s=30\/JD s=31\/JD s=32)/\2<=(QR ((JD s:Nat):Int)).l)\/((QR ((JD s:Nat):Int)).c=4/\(QR ((JD s:Nat):Int)).p.data.toList=[118]):=by
 have h1:=List.all_eq_true.1 zOm (JD s) (List.mem_range.2 (by have:=zKY s;omega));rw[h]at h1;simp only[Bool.not_true,Bool.false_or,Bool.or_eq_true,Bool.and_eq_true,beq_iff_eq,decide_eq_true_eq]at h1;rcases h1 with((h1|h1)|h1)|h1
 ·exact tZ h1
 ·exact kZ (tZ ⟨h1.1,h1.2.1,h1.2.2⟩)
 ·refine kZ (kZ (tZ ⟨h1.1.1.1,h1.1.1.2,?_,h1.2⟩));rcases h1.1.2 with(q|q)|q
  ·exact tZ q
  ·exact kZ (tZ q)
  ·exact kZ (kZ q)
 ·exact kZ (kZ (kZ h1))
theorem zJI:∀(l:List Wt.Nd)(i:Nat),JF [118] l i=xX->∀x∈l,isA x=yX
 |[],i,h,x,hx=>by cases hx
 |y::r,i,h,x,hx=>by
  have e0:min i ([118]:List UInt8).length.pred=0:=sM;unfold JF at h;have c:([118]:List UInt8).getD (min i (([118]:List UInt8).length-1)) 0=118:=sM;rw[c]at h;cases b:isA y with
  |true=>rw[b]at h;simp at h
  |false =>
   rw[b]at h;simp at h;rcases List.mem_cons.1 hx with rfl|hx
   ·exact b
   ·exact zJI r (i+1) h x hx
theorem zHW:∀(p:List UInt8)(l:List Wt.Nd)(i j:Nat)(b:j<l.length),JF p l i=xX->p.getD (min (i+j) (p.length-1)) 0=97->isA l[j]=xX
 |p,[],i,j,b,h,e=>by cases b
 |p,y::r,i,0,b,h,e=>by
  unfold JF at h;rw[jX]at e;rw[e]at h;cases c:isA y with
  |true=>simpa using c
  |false=>rw[c]at h;simp at h
 |p,y::r,i,j+1,b,h,e=>by
  unfold JF at h;split at h
  ·cases h
  ·have:=zHW p r (i+1) j (by simpa using b) h (by rw[show i+1+j=i+(j+1)from by omega];exact e);simpa using this
theorem zKp:(oX 8).all (λq=>let s:=QR ((20+q:Nat):Int);let p:=s.p.data.toList;(oX 3).any (λj=>decide ((j:Int)<s.l)&&(p.getD (min j (p.length-1)) 0 == 97)))=xX:=kR
theorem zHn{id:Nat}(g:20<=id)(m:id<=27){ks:List Wt.Nd}(s:(QR ((id:Nat):Int)).l<=(ks.length:Int))(e:JF (QR ((id:Nat):Int)).p.data.toList ks 0=xX):0<(ks.filter isA).length:=by
 have c:=List.all_eq_true.1 zKp (id-20) (List.mem_range.2 oM);simp only[show 20+(id-20)=id from by omega]at c;obtain⟨j,q,d⟩:=List.any_eq_true.1 c;simp only[Bool.and_eq_true,decide_eq_true_eq,beq_iff_eq]at d;have b:j<ks.length:=oM;have:=zHW _ ks 0 j b e (by rw[oY];exact d.2);exact List.length_pos_of_mem (List.mem_filter.2 ⟨xZ b,this⟩)
theorem zAg:∀{l:List Int},zPi l=0->∀a∈l,a=0
 |[],h,a,ha=>by cases ha
 |b::r,h,a,ha=>by
  unfold zPi at h;by_cases c:b=0
  ·rw[if_pos c]at h;rcases List.mem_cons.1 ha with rfl|ha
   ·exact c
   ·exact zAg h a ha
  ·rw[if_neg c]at h;exact absurd h c
theorem zDr{ks:List Wt.Nd}(h:Vh x ks=0):JL ((JD x.nm:Nat):Int)=xX/\(QR ((JD x.nm:Nat):Int)).l<=x.ar/\JF (QR ((JD x.nm:Nat):Int)).p.data.toList ks 0=xX:=by
 unfold Vh at h;simp only at h;split at h
 ·omega
 ·rename_i b
  split at h
  ·omega
  ·rename_i d
   split at h
   ·omega
   ·rename_i c
    exact⟨by simpa using b,oM,by simpa using c⟩
section
variable (own:Int)(nm:List ByteArray)(av2:Option dW)(m2 cap2:Nat)
def CaC(n:Nat):Prop:=∀(x:Wt.Nd)(ks:List (Tr n))(sl:vW)(lo hi k B:Nat)(T:Nat->Nat)(w:wW)(L:List I)(lv:vW)(P:List (Wc.In×vW)),x.k=6->VD (n+1) (⟨x,ks⟩:Br (Tr n))->VC own nm (n+1) (⟨x,ks⟩:Br (Tr n))=0->PA (n+1) lo hi w (⟨x,ks⟩:Br (Tr n)) sl->En own nm av2 m2 cap2 k B T hi w->WS k B T w (O J own) (U av2 m2 cap2) L lv P->L.length+(VM own nm (hd n) (cod own nm n) x ks L.length).length<=900000 ->
 Calls prog 118 #[pX (wX ⟨k,0,vX⟩),gX (QO x sl).toArray] w (WP k B T (O J own) (U av2 m2 cap2) (L++VM own nm (hd n) (cod own nm n) x ks L.length) lv w)
end
theorem zO0(own:Int)(nm:List ByteArray)(av2:Option dW)(m2 cap2 n:Nat)(ih:PtC own nm av2 m2 cap2 n)(ap:∀(t:Tr n)(a:Nat),Wr own nm n t->0<(cod own nm n t a).length):CaC own nm av2 m2 cap2 n:=by
 intro x ks sl lo hi k B T w L lv P h6 hF hR hP D am z;have al:=zGU own nm av2 m2 cap2 n ih;have fo:=zN8 own nm av2 m2 cap2 n ih;have sk:=zPE own nm av2 m2 cap2 n ih;have lz:=zNs own nm av2 m2 cap2 n ih ap;obtain⟨hx,hp,ai⟩:=hF;replace hx:Wt.right x=xX:=hx
 replace hp:Wt.parts x=(ks.length:Int):=hp
 replace ai:∀k∈ks,VD n k:=ai
 have aC:∀a∈V7 own nm x (ks.map (hd n))::ks.map (VC own nm n),a=0:=zAg hR;have aj:V7 own nm x (ks.map (hd n))=0:=aC _ (fY ..);have aS:∀t∈ks,VC own nm n t=0:=λt ht=>aC _ (vZ _ (List.mem_map.2 ⟨t,ht,rfl⟩))
 have aR:Vh x (ks.map (hd n))=0:=by
  unfold V7 at aj;rw[if_neg oM,if_neg oM,if_pos h6]at aj;exact aj
 obtain⟨az,aw,ak⟩:=zDr aR;have aQ:x.ar=(ks.length:Int):=by
  rw[<-hp];unfold Wt.parts;rw[if_neg oM,if_neg oM]
 obtain⟨M,cap,d,q1,rfl,aV,q3,q4⟩:=hP;replace q1:d.map (·.1)=ks:=q1
 have aO:d.length=ks.length:=by rw[<-q1,nZ]
 have E:d.length<=30:=by have:=(Wt.parts_le hx).2;omega
 have ad:∀p∈d,Wq own nm n p.1:=λp hpp=>by
  have hm:p.1∈ks:=by rw[<-q1];exact List.mem_map.2 ⟨p,hpp,rfl⟩
  exact⟨ai _ hm,aS _ hm⟩
 have ab:0<d.length->∀bb R,M=wX ⟨bb,R,vX⟩->bb<hi:=λC bb R e=>by
  obtain⟨b9,o9,_,h9,e9,_⟩:=q3 0 C;rw[e]at e9;cases e9
  exact h9
 have aB:(QR ((JD x.nm:Nat):Int)).p.data.toList=[118]->∀p∈d,Wr own nm n p.1:=λhv p hpp=>by
  rw[hv]at ak;have hm:p.1∈ks:=by rw[<-q1];exact List.mem_map.2 ⟨p,hpp,rfl⟩
  exact⟨(ad p hpp).1,(ad p hpp).2,zJI _ _ ak _ (List.mem_map.2 ⟨p.1,hm,rfl⟩)⟩
 have aK:∀j,lv.ownBlock=wX j->B<=j:=λj e=>(QL am.own e).1
 obtain⟨LF,u⟩:=xV (L++VM own nm (hd n) (cod own nm n) x ks L.length)
 rw[u];rw[<-q1]at u z;obtain⟨id,hid⟩:=xV ((JD x.nm:Nat):Int)
 have ay:=zNU x.nm az;have aq:=λ(h1:20<=JD x.nm)(h2:JD x.nm<=27)=>zHn h1 h2 (ks:=ks.map (hd n)) (by rw[nZ,<-aQ];exact aw) ak
 have ao:((ks.map (hd n)).filter isA).length=(d.filter λp=>isA (hd n p.1)).length:=by
  rw[<-q1,kX,rY,nZ];rfl
 have N:∀W:wW,bL w W->St own nm av2 m2 cap2 k B T hi w lv W L lv P:=λW hb=>(St.init D am).below hb
 have ac:∀W:wW,bL w W->∀p∈d,PA n lo hi W p.1 p.2:=λW hb p hpp=>PA.kept (Kept.of_below hb) n _ _ (q4 p hpp)
 have aM:VM own nm (hd n) (cod own nm n) x (d.map (·.1)) L.length=(if(QR id).c=4 then Qc (cod own nm n) (d.map (·.1)) L.length++[ins 5 id x.ar]else if(QR id).c=1 then V4 own nm n id (d.map (·.1)) L.length else if(QR id).c=2 then VN own nm (hd n) (cod own nm n) id (d.map (·.1)) L.length else VI (cod own nm n) id (d.map (·.1)) L.length):=by
  unfold VM V4;simp only[hid]
 rw[aM]at u z;have H4:hH ((QR id).c=4->(QR id).p.data.toList=[118]->∀W,bL w W->Calls prog 117 #[pX (wX ⟨k,0,vX⟩),U M d.length cap] W (WP k B T (O J own) (U av2 m2 cap2) (L++Qc (cod own nm n) (d.map (·.1)) L.length) lv W)/\(L++Qc (cod own nm n) (d.map (·.1)) L.length)++[ins 5 id x.ar]=LF/\(L++Qc (cod own nm n) (d.map (·.1)) L.length).length<=900000):=λh4 hv W hb=>by
  rw[if_pos h4]at u z;simp only[dZ,eZ,mZ]at z;have X:=N W hb;refine⟨al d M d.length cap lo hi k B T W L lv P rfl E (aB (by rw[hid];exact hv)) (ac W hb) (q3.q.below hb) (λC bb R e j ej=>by have:=ab C bb R e;have:=aK j ej;have:=D.hk;have:=D.kB;omega) (λC bb R e=>by have:=ab C bb R e;have:=D.hk;have:=D.kB;have:=X.en.hB;omega) X.en X.ws oM,by rw[<-u,hZ],by rw[dZ];omega⟩
 have H1:hH ((QR id).c=1->0<d.length->∀W,bL w W->Calls prog 152 #[pX (wX ⟨k,0,vX⟩),O J id,U M d.length cap] W (WP k B T (O J own) (U av2 m2 cap2) LF lv W)):=λh1 C W hb=>by
  rw[if_neg oM,if_pos h1]at u z;have X:=N W hb;have:=fo id d M d.length cap lo hi k B T W L lv P rfl E ad (ac W hb) (q3.q.below hb) (ab C) X.en X.ws z;rw[u]at this;exact this
 have H2:hH ((QR id).c=2->0<(d.filter λp=>isA (hd n p.1)).length->∀W,bL w W->Calls prog 153 #[pX (wX ⟨k,0,vX⟩),O J id,U M d.length cap] W (WP k B T (O J own) (U av2 m2 cap2) LF lv W)):=λh2 C W hb=>by
  rw[if_neg oM,if_neg oM,if_pos h2]at u z;have X:=N W hb;have:=sk id d M d.length cap lo hi k B T W L lv P rfl E ad C (ac W hb) (q3.q.below hb) X.en X.ws z;rw[u]at this;exact this
 have H3:hH ((QR id).c=3->(QR id).p.data.toList=[118]->(id=30\/id=31\/id=32)->2<=d.length->∀W,bL w W->Calls prog 154 #[pX (wX ⟨k,0,vX⟩),O J id,U M d.length cap] W (WP k B T (O J own) (U av2 m2 cap2) LF lv W)):=λh3 hv ah C W hb=>by
  rw[if_neg oM,if_neg oM,if_neg oM]at u z;have X:=N W hb;have:=lz id d M d.length cap lo hi k B T W L lv P ah rfl aV C E (aB (by rw[hid];exact hv)) (ac W hb) (q3.q.below hb) (ab oM) X.en X.ws z;rw[u]at this;exact this
 have K:hH (((QR id).c=1/\0<d.length)\/((QR id).c=2/\0<(d.filter λp=>isA (hd n p.1)).length)\/((QR id).c=3/\(QR id).p.data.toList=[118]/\(id=30\/id=31\/id=32)/\2<=d.length)\/((QR id).c=4/\(QR id).p.data.toList=[118])):=by
  rw[hid]at ay aw;rcases ay with h|h|h|h
  ·exact tZ ⟨h.1,oM⟩
  ·exact kZ (tZ ⟨h.1,by rw[<-ao];exact aq h.2.1 h.2.2⟩)
  ·exact kZ (kZ (tZ ⟨h.1,h.2.1,oM,oM⟩))
  ·exact kZ (kZ (kZ h))
 have af:=QI (fZ _ w) (Z (QO x (U M d.length cap)).toArray 158);have pP:=AtL.new0 w 158 (QO x (U M d.length cap));have OF:=zFs x.nm _ (D.na.below af);unfold VH at OF;rw[az,if_pos rfl,hid]at OF;have aY:hH (∀W:wW,bL w W->St own nm av2 m2 cap2 k B T hi w lv W L lv P):=N;have aX:hH (k<w.heap.size/\∀j,lv.ownBlock=wX j->j<w.heap.size):=⟨by have:=D.kB;have:=D.hB;omega,λj e=>(QL am.own e).2⟩
 obtain⟨np,H⟩:=xV d.length
 have aE:hH (d.length=np):=H;rw[H]at pP OF af H4 H1 H2 H3 ⊢;obtain⟨G,aT⟩:=xV (QR id)
 rw[aT]at OF H4 H1 H2 H3 K;have c8:=pP.2.1 8 (V x.nm) rfl;clear al fo sk lz hx hp ai aC aj aS aR az aw ak aQ q1 aO E ad ab aB aK u ay aq ao N ac aM z H aT hid aV q3 q4 D am ih ap hR h6;have au:=hid af;have aF:=hid pP;clear af pP;go_enter func118,ntmps118;go_upto_region 1 with fail
 generalize(w.alloc (Z (QO x (U M np cap)).toArray 158))=W at*;go_wp2_with fail
 refine OF.mono ?_;rintro e w1 ⟨rfl,ag⟩;obtain⟨nv,aP⟩:∃nv:ByteArray,(⟨(VZ id).toArray⟩:ByteArray)=nv:=⟨_,rfl⟩
 rw[aP];have ax:=QI (fZ _ w1) (Z (sg6 id G.c nv G.l G.m G.p).toArray 242);have aH:hH (AtL (w1.alloc (Z (sg6 id G.c nv G.l G.m G.p).toArray 242)) w1.heap.size (sg6 id G.c nv G.l G.m G.p)):=AtL.new0 w1 _ _;have aG:=hid (AtL.below ax (AtL.below ag aF.out));have aa:=hid (QA (QA au.out ag) ax);have aI:=hid ((QA au.out ag).size);clear OF c8 ag ax aP aF au;go_upto_region 2 with fail
 generalize(w1.alloc (Z (sg6 id G.c nv G.l G.m G.p).toArray 242))=W2 at*;obtain⟨sb,aA⟩:∃b,w1.heap.size=b:=⟨_,rfl⟩
 rw[aA]at aH aI;simp only[aA];clear aA;obtain⟨b0,b1,b2,b3,b4,b5,_,_,_,_,_,_⟩:=at6 aH.out;have aZ:=aG.out.2.1 20 (U M np cap) rfl;have p9:=aG.out.2.1 9 (O J x.ar) rfl;have s:=hid (aY.out W2 aa.out);rcases K.out with⟨h1,C⟩|⟨h2,C⟩|⟨h3,hv,ah,C⟩|⟨h4,hv⟩
 ·rw[h1]at b1;rw[aE.out]at C;have FO:=H1.out h1 C W2 aa.out;clear H1 H2 H3 H4 K b2 b3 b4 b5 p9 h1 C;go_wp2_with fail
  refine FO.mono ?_;rintro e w3 ⟨⟨an,P3,rfl,y,A⟩,g⟩;have HR:=hid ((s.out.step g A y).wp);clear FO y A g s;go_wp2;go_end0
  exact HR.out
 ·rw[h2]at b1;have FO:=H2.out h2 C W2 aa.out;clear H1 H2 H3 H4 K b2 b3 b4 b5 p9 h2 C;go_wp2_with fail
  refine FO.mono ?_;rintro e w3 ⟨⟨an,P3,rfl,y,A⟩,g⟩;have HR:=hid ((s.out.step g A y).wp);clear FO y A g s;go_wp2;go_end0
  exact HR.out
 ·rw[h3]at b1;rw[aE.out]at C;have FO:=H3.out h3 hv ah C W2 aa.out;clear H1 H2 H3 H4 K b2 b3 b4 b5 p9 h3 hv ah C;go_wp2_with fail
  refine FO.mono ?_;rintro e w3 ⟨⟨an,P3,rfl,y,A⟩,g⟩;have HR:=hid ((s.out.step g A y).wp);clear FO y A g s;go_wp2;go_end0
  exact HR.out
 ·rw[h4]at b1;obtain⟨FO,aL,aN⟩:=H4.out h4 hv W2 aa.out;have aD:=hid (And.intro aL aN);clear H1 H2 H3 H4 K b2 b3 b4 b5 h4 hv aL aN;generalize L++Qc (cod own nm n) (d.map (·.1)) L.length=L4 at*;go_wp2_with fail
  refine FO.mono ?_;rintro e w3 ⟨⟨an,P3,rfl,y,A⟩,g⟩;have ae:=hid (s.out.step g A y);have H:∀b,w.heap.size<=b->b∉k::lv.ownBlock.toList:=λb hb hm=>by
   have h9:=aX.out;rcases List.mem_cons.1 hm with q|q
   ·omega
   ·have:=h9.2 b (by simpa using q);omega
  have d0:=g.cell b0 (H _ aI.out);have d9:=g.cell p9 (H _ (yZ _));have LA:=JA k B T (ins 5 id x.ar).1 _ _ L4 an P3 w3 y ae.out.en.kB ae.out.en.hB (by have:=aD.out.2;omega);clear FO y A g s b0 b1 p9 aZ H;go_wp2_with (first|(refine zEh rfl 5 (mX 23) (mX 26) rfl id x.ar rfl rfl ?_))
  refine LA.mono ?_;rintro e w4 ⟨⟨a0,P4,rfl,aW,aU⟩,aJ⟩;have HR:hH (WP k B T (O J own) (U av2 m2 cap2) LF lv w (rX (uX #[])) w4):=by
   have h9:=(ae.out.step aJ aU aW).wp;rw[<-aD.out.1];exact h9
  clear LA aW aU aJ ae;go_wp2;go_end0
  exact HR.out
open Go.RowKit Wf
theorem zIP(y:Operand)(b:op.op=.build 86 #[(0,.const (O J 2)),(4,y)])(c:Wpl.Cl)(e:a.eval y=gX #[O J c.s,O J c.r,O J c.c])(W:wW):(execOp a.eval op).run prog W=.ok (.value (gX (QE (zPN c).1 QN).toArray)) W:=by
 unfold execOp;have d:a.eval (.const (O J 2))=O J 2:=rfl;simp only[b,oZ,gZ,uZ,d,e,rZ,sZ,iZ,zSX]
theorem zQ5(h:w.rangeAt k 0 (QO x sl)):w.rangeAt k 1 (vl6 x.v):=λj v b=>by
 have:=h (1+j) v (by
  match j,b with
  |0,b=>exact b
  |1,b=>exact b
  |2,b=>exact b
  |3,b=>exact b
  |4,b=>exact b
  |5,b=>exact b
  |j+6,b=>simp[vl6]at b)
 rw[oY]at this;exact this
theorem zQR(h:w.rangeAt k 0 (QO x sl)):w.rangeAt k 10 (rf5 x.a):=λj v b=>by
 have:=h (10+j) v (by
  match j,b with
  |0,b=>exact b
  |1,b=>exact b
  |2,b=>exact b
  |3,b=>exact b
  |4,b=>exact b
  |j+5,b=>simp[rf5]at b)
 rw[oY]at this;exact this
theorem zIR(h:Wt.right x=xX):x.k=1\/x.k=2\/x.k=3\/x.k=4\/x.k=5\/x.k=6:=by
 unfold Wt.right at h;by_cases b:x.k=1
 ·exact tZ b
 by_cases c:x.k=2
 ·exact kZ (tZ c)
 by_cases d:x.k=3
 ·exact kZ (kZ (tZ d))
 by_cases e:x.k=4
 ·exact kZ (kZ (kZ (tZ e)))
 by_cases g:x.k=5
 ·exact kZ (kZ (kZ (kZ (tZ g))))
 by_cases j:x.k=6
 ·exact kZ (kZ (kZ (kZ (kZ j))))
 ·rw[if_neg b,if_neg c,if_neg d,if_neg e,if_neg g,if_neg j]at h;cases h
theorem zNr(own:Int)(nm:List ByteArray):∀(n:Nat)(t:Tr n)(a:Nat),Wr own nm n t->0<(cod own nm n t a).length
 |0,t,_,_=>Empty.elim t
 |n+1,t,a,h=>by
  obtain⟨x,ks⟩:Br (Tr n):=t;obtain⟨l,q,p⟩:=h;have C:Wt.right x=xX:=l.1;have y:Wt.parts x=(ks.length:Int):=l.2.1;have d:isA x=yX:=p;show 0<(JY own nm (hd n) (cod own nm n) x ks a).length
  unfold JY;rcases zIR C with h|h|h|h|h|h
  ·rw[if_pos h];simp
  ·rw[if_neg oM,if_pos h];simp
  ·simp[isA,h]at d
  ·rw[if_neg oM,if_neg oM,if_pos h];simp
  ·rw[if_neg oM,if_neg oM,if_neg oM,if_pos h];simp
  ·rw[if_neg oM,if_neg oM,if_neg oM,if_neg oM,if_pos h];have j:∀a∈V7 own nm x (ks.map (hd n))::ks.map (VC own nm n),a=0:=zAg q;have b:V7 own nm x (ks.map (hd n))=0:=j _ (fY ..);have g:Vh x (ks.map (hd n))=0:=by
    unfold V7 at b;rw[if_neg oM,if_neg oM,if_pos h]at b;exact b
   obtain⟨e,s,A⟩:=zDr g;have z:x.ar=(ks.length:Int):=by
    rw[<-y];unfold Wt.parts;rw[if_neg oM,if_neg oM]
   unfold VM;simp only;rcases zNU x.nm e with h9|h9|h9|h9
   ·rw[if_neg oM,if_pos h9.1];simp
   ·rw[if_neg oM,if_neg oM,if_pos h9.1];unfold VN;simp only;repeat' split
    all_goals simp
   ·rw[if_neg oM,if_neg oM,if_neg oM];have m:2<=ks.length:=oM;match ks,m with
    |c::u::r,_ =>
     simp only[VI,dZ];have:0<(if((JD x.nm:Nat):Int)=30 then VK (cod own nm n) u r (a+(cod own nm n c a).length)else if((JD x.nm:Nat):Int)=31 then ins 14 (a+(cod own nm n c a).length+1+(cod own nm n u (a+(cod own nm n c a).length+1)).length:Nat) 0::cod own nm n u (a+(cod own nm n c a).length+1)else Ju (cod own nm n) (u::r) (a+(cod own nm n c a).length)).length:=by
      split
      ·simp[VK]
      ·split
       ·simp
       ·simp[Ju]
     omega
   ·rw[if_pos h9.1];simp
def PtT(own:Int)(nm:List ByteArray)(av2:Option dW)(m2 cap2 n:Nat)(t:Tr n):Prop:=∀(sl:vW)(lo hi k B:Nat)(T:Nat->Nat)(w:wW)(L:List I)(lv:vW)(P:List (Wc.In×vW)),Wr own nm n t->PA n lo hi w t sl->En own nm av2 m2 cap2 k B T hi w->WS k B T w (O J own) (U av2 m2 cap2) L lv P->L.length+(cod own nm n t L.length).length<=900000 ->
 Calls prog 85 #[pX (wX ⟨k,0,vX⟩),gX (QO (hd n t) sl).toArray] w (WP k B T (O J own) (U av2 m2 cap2) (L++cod own nm n t L.length) lv w)
def PuC:Prop:=∀(k B:Nat)(T:Nat->Nat)(v:Wt.Vl)(s0 s1:vW)(L:List I)(lv:vW)(P:List (Wc.In×vW))(w:wW),WS k B T w s0 s1 L lv P->k<B->B<=w.heap.size->L.length<=1000000 ->
 Calls prog 115 #[pX (wX ⟨k,0,vX⟩),gX (vl6 v).toArray] w (WP k B T s0 s1 (L++[Jt v]) lv w)
theorem zM3(own:Int)(nm:List ByteArray)(av2:Option dW)(m2 cap2 n:Nat)(t:Tr (n+1))(al:(hd (n+1) t).k=4\/(hd (n+1) t).k=5->AlC own nm av2 m2 cap2 n)(ca:(hd (n+1) t).k=6->CaC own nm av2 m2 cap2 n)(pu:(hd (n+1) t).k=1->PuC):PtT own nm av2 m2 cap2 (n+1) t:=by
 intro sl lo hi k B T w L lv P hw hP l ak d;obtain⟨x,ks⟩:Br (Tr n):=t;replace al:x.k=4\/x.k=5->AlC own nm av2 m2 cap2 n:=al
 replace ca:x.k=6->CaC own nm av2 m2 cap2 n:=ca
 have aP:=hid pu;obtain⟨hF,hR,hA⟩:=hw;have hx:Wt.right x=xX:=hF.1;have hp:Wt.parts x=(ks.length:Int):=hF.2.1;have aG:∀k∈ks,VD n k:=hF.2.2;have aA:isA x=yX:=hA;have aF:hd (n+1) (⟨x,ks⟩:Br (Tr n))=x:=rfl;have aD:cod own nm (n+1) (⟨x,ks⟩:Br (Tr n)) L.length=JY own nm (hd n) (cod own nm n) x ks L.length:=rfl;rw[aF];rw[aD]at d ⊢;have ar:∀a∈V7 own nm x (ks.map (hd n))::ks.map (VC own nm n),a=0:=zAg hR;have ae:V7 own nm x (ks.map (hd n))=0:=ar _ (fY ..);have aJ:∀t∈ks,VC own nm n t=0:=λt ht=>ar _ (vZ _ (List.mem_map.2 ⟨t,ht,rfl⟩))
 have aB:=hP;obtain⟨y,cap,C,q1,rfl,aU,q3,q4⟩:=hP;replace q1:C.map (·.1)=ks:=q1
 have aH:C.length=ks.length:=by rw[<-q1,nZ]
 have am:C.length<=30:=by have:=(Wt.parts_le hx).2;omega
 have ao:0<C.length->∀bb X,y=wX ⟨bb,X,vX⟩->bb<hi:=λh0 bb X e=>by
  obtain⟨b9,o9,_,h9,e9,_⟩:=q3 0 h0;rw[e]at e9;cases e9
  exact h9
 have ay:∀j,lv.ownBlock=wX j->B<=j:=λj e=>(QL ak.own e).1
 obtain⟨LF,b⟩:=xV (L++JY own nm (hd n) (cod own nm n) x ks L.length)
 rw[b];have N:=QI (fZ _ w) (Z (QO x (U y C.length cap)).toArray 158);have pP:=AtL.new0 w 158 (QO x (U y C.length cap));have H:=(St.init l ak).below N;have c:=hid H;have an:hH (w.heap.size∉k::lv.ownBlock.toList):=λhm=>by
  have:=l.kB;have:=l.hB;rcases List.mem_cons.1 hm with q|q
  ·omega
  ·have:=(QL ak.own (show lv.ownBlock=wX w.heap.size by simpa using q)).2;omega
 have ab:=hid b;have aw:hH (L.length<=1000000):=by show _<=_;omega
 have ax:=hid (And.intro l.hm l.hl);have z:(x.k=4\/x.k=5)->L.length+(Qc (cod own nm n) ks L.length).length<=900000->Calls prog 117 #[pX (wX ⟨k,0,vX⟩),U y C.length cap] (w.alloc (Z (QO x (U y C.length cap)).toArray 158)) (WP k B T (O J own) (U av2 m2 cap2) (L++Qc (cod own nm n) ks L.length) lv (w.alloc (Z (QO x (U y C.length cap)).toArray 158))):=λaz aQ=>by
  have aC:(ks.map (hd n)).any isA=yX:=by
   unfold V7 at ae;rw[if_neg oM,if_pos az]at ae;cases hq:(ks.map (hd n)).any isA with
   |false=>rfl
   |true=>rw[hq]at ae;simp at ae
  have aS:∀p∈C,Wr own nm n p.1:=λp aq=>by
   have hm:p.1∈ks:=by rw[<-q1];exact List.mem_map.2 ⟨p,aq,rfl⟩
   refine⟨aG _ hm,aJ _ hm,?_⟩;have:=List.any_eq_false.1 aC (hd n p.1) (List.mem_map.2 ⟨p.1,hm,rfl⟩);simpa using this
  have:=al az C y C.length cap lo hi k B T _ L lv P rfl am aS (λp aq=>PA.kept (Kept.of_below N) n _ _ (q4 p aq)) (q3.q.below N) (λh0 bb X e j ej=>by have:=ao h0 bb X e;have:=ay j ej;have:=l.hk;have:=l.kB;omega) (λh0 bb X e=>by have:=ao h0 bb X e;have:=l.hk;have:=l.kB;have:=H.en.hB;omega) H.en H.ws (by rw[q1];exact aQ);rw[q1]at this;exact this
 have D:hH (x.k=6->Calls prog 118 #[pX (wX ⟨k,0,vX⟩),gX (QO x (U y C.length cap)).toArray] (w.alloc (Z (QO x (U y C.length cap)).toArray 158)) (WP k B T (O J own) (U av2 m2 cap2) LF lv (w.alloc (Z (QO x (U y C.length cap)).toArray 158)))):=λh6=>by
  have aR:JY own nm (hd n) (cod own nm n) x ks L.length=VM own nm (hd n) (cod own nm n) x ks L.length:=by
   unfold JY;rw[if_neg oM,if_neg oM,if_neg oM,if_neg oM,if_pos h6]
  rw[aR]at d b;have:=ca h6 x ks (U y C.length cap) lo hi k B T _ L lv P h6 hF hR (PA.kept (Kept.of_below N) (n+1) _ _ aB) H.en H.ws d;rw[b]at this;exact this
 have hk:=zIR hx;have R:¬x.k=3:=λh=>by simp[isA,h]at aA
 obtain⟨np,aI⟩:=xV C.length
 rw[aI]at pP N c D z ⊢;have c0:=pP.2.1 0 (O J x.k) rfl;have rP:=pP.range;have ah:=pP.2.1 20 (U y np cap) rfl;have p7:=pP.2.1 7 (O J x.op) rfl;clear al ca pu hF hR hA hx hp aG aA aF aD ar ae aJ aB q1 aU q3 q4 aH am ao ay H aI l ak N pP;rcases hk with h|h|h|h|h|h
 ·have g:JY own nm (hd n) (cod own nm n) x ks L.length=[Jt x.v]:=by unfold JY;rw[if_pos h]
  rw[g]at b;have aO:=hid b;rw[h]at c0;have rv:=zQ5 rP;have PU:=aP.out h k B T x.v _ _ L lv P _ c.out.ws c.out.en.kB c.out.en.hB aw.out;clear h g b z D R d ah p7;go_enter func85,ntmps85;go_upto_region 1 with fail
  generalize(w.alloc (Z (QO x (U y np cap)).toArray 158))=W at*;go_wp2_with (first|(refine ldQ 64 (mX 11) w.heap.size 1 (vl6 x.v) _ rv underlying64 ?_))
  refine PU.mono ?_;rintro e w5 ⟨⟨aK,P5,rfl,u,A⟩,s⟩;have HR:hH (WP k B T (O J own) (U av2 m2 cap2) LF lv w (rX (uX #[])) w5):=by
   have h9:=(c.out.step s A u).wp;rw[<-aO.out];exact h9
  clear PU u A s c rv rP c0;go_wp2;go_end0
  exact HR.out
 ·have g:JY own nm (hd n) (cod own nm n) x ks L.length=[zPN (zKH own nm x)]:=by unfold JY;rw[if_neg oM,if_pos h]
  rw[g]at ab;rw[h]at c0;have aL:=zQR rP;have CE:=λ(W:wW)(hr:RdS W av2 nm)=>zEv own nm av2 m2 cap2 x.a W ax.out.1 ax.out.2 hr
  clear h g b z D R d ah p7;go_enter func85,ntmps85;go_upto_region 1 with fail
  generalize(w.alloc (Z (QO x (U y np cap)).toArray 158))=W at*;go_upto_region 5 with fail
  have aE:=(fZ W.heap.size W).drew;have aj:=hid (c.out.below aE);have rk:=Jd aj.out.ws;have ra:W.drew.rangeAt w.heap.size 10 (rf5 x.a):=aL;clear aE c rP aL c0;refine wp_region_held_drew (S:=λW=>W.rangeAt k 0 [O J own,U av2 m2 cap2]/\W.rangeAt w.heap.size 10 (rf5 x.a)) kR ⟨rk,ra⟩ (λG=>?_);generalize W.drew=WD at*;refine tkQ 0 ?_
  refine tkQ 1 ?_
  refine tkQ 2 ?_
  refine tkQ 3 ?_
  refine tkH 4 (gX ([O J own,U av2 m2 cap2]).toArray) rfl (yiQ 154 (mX 19) (k) (0) ([O J own,U av2 m2 cap2]) _ (λ_ h=>h.1) underlying154) ?_;try simp only[Act.put,lA,lZ,lS]
  refine tkQ 5 ?_
  refine tkQ 6 ?_
  refine tkH 7 (gX (rf5 x.a).toArray) rfl (yiQ 95 (mX 22) (w.heap.size) (10) (rf5 x.a) _ (λ_ h=>h.2) underlying95) ?_;try simp only[Act.put,lA,lZ,lS]
  refine rdQ 8 (λK hK=>?_);go_simp
  refine(CE WD aj.out.en.rs).mono ?_;rintro e w4 ⟨rfl,ap⟩;go_wp2_with fail
  have ac:=hid (aj.out.below ap);replace rk:=QF ap rk
  replace ra:=QF ap ra
  refine hkQ hK ⟨rk,ra⟩ (λG=>?_);clear hK K
  have LA:=JA k B T (zPN (zKH own nm x)).1 _ _ L lv P w4 ac.out.ws ac.out.en.kB ac.out.en.hB aw.out;refine tkH 9 (gX (QE (zPN (zKH own nm x)).1 QN).toArray) rfl (tZ ⟨by rfl,λW _=>zIP (mX 24) rfl (zKH own nm x) rfl W⟩) ?_;try simp only[Act.put,lA,lZ,lS]
  refine rdQ 10 (λK hK=>?_);go_simp
  refine LA.mono ?_;rintro e w5 ⟨⟨aK,P5,rfl,u,A⟩,s⟩;go_wp2_with fail
  have HR:hH (WP k B T (O J own) (U av2 m2 cap2) LF lv w (rX (uX #[])) w5):=by
   have h9:=(ac.out.step s A u).wp;rw[<-ab.out];exact h9
  have aN:=Jd u;have aM:=s.range ra an.out;refine hkQ hK ⟨aN,aM⟩ (λG=>?_);clear hK K
  refine wpAnyH_done kR ?_ _;clear G rk ra aN aM u A s ac aj LA CE;go_wp2;go_end0
  exact HR.out
 ·exact absurd h R
 ·have g:JY own nm (hd n) (cod own nm n) x ks L.length=Qc (cod own nm n) ks L.length++[ins 3 x.op 0]:=by unfold JY;rw[if_neg oM,if_neg oM,if_pos h]
  rw[g]at d b;rw[dZ]at d;have AA:=z (tZ h) oM;rw[<-hZ]at b;have aa:hH ((L++Qc (cod own nm n) ks L.length)++[ins 3 x.op 0]=LF/\(L++Qc (cod own nm n) ks L.length).length<=900000):=⟨b,by rw[dZ];omega⟩
  rw[h]at c0;clear h g b z D R d ab;generalize L++Qc (cod own nm n) ks L.length=L4 at*;go_enter func85,ntmps85;go_upto_region 1 with fail
  generalize(w.alloc (Z (QO x (U y np cap)).toArray 158))=W at*;go_wp2_with fail
  refine AA.mono ?_;rintro e w3 ⟨⟨au,P3,rfl,M,af⟩,E⟩;have m:=hid (c.out.step E af M);have d7:=E.cell p7 an.out;have LA:=JA k B T (ins 3 x.op 0).1 _ _ L4 au P3 w3 M m.out.en.kB m.out.en.hB (by have:=aa.out.2;omega);clear AA M af E c c0 rP ah p7;go_wp2_with (first|(refine zAU rfl 3 (mX 36) rfl x.op rfl ?_))
  refine LA.mono ?_;rintro e w4 ⟨⟨aT,P4,rfl,ai,ag⟩,ad⟩;have HR:hH (WP k B T (O J own) (U av2 m2 cap2) LF lv w (rX (uX #[])) w4):=by
   have h9:=(m.out.step ad ag ai).wp;rw[<-aa.out.1];exact h9
  clear LA ai ag ad m;go_wp2;go_end0
  exact HR.out
 ·have g:JY own nm (hd n) (cod own nm n) x ks L.length=Qc (cod own nm n) ks L.length++[ins 4 x.op 0]:=by unfold JY;rw[if_neg oM,if_neg oM,if_neg oM,if_pos h]
  rw[g]at d b;rw[dZ]at d;have AA:=z (kZ h) oM;rw[<-hZ]at b;have aa:hH ((L++Qc (cod own nm n) ks L.length)++[ins 4 x.op 0]=LF/\(L++Qc (cod own nm n) ks L.length).length<=900000):=⟨b,by rw[dZ];omega⟩
  rw[h]at c0;clear h g b z D R d ab;generalize L++Qc (cod own nm n) ks L.length=L4 at*;go_enter func85,ntmps85;go_upto_region 1 with fail
  generalize(w.alloc (Z (QO x (U y np cap)).toArray 158))=W at*;go_wp2_with fail
  refine AA.mono ?_;rintro e w3 ⟨⟨au,P3,rfl,M,af⟩,E⟩;have m:=hid (c.out.step E af M);have d7:=E.cell p7 an.out;have LA:=JA k B T (ins 4 x.op 0).1 _ _ L4 au P3 w3 M m.out.en.kB m.out.en.hB (by have:=aa.out.2;omega);clear AA M af E c c0 rP ah p7;go_wp2_with (first|(refine zAU rfl 4 (mX 48) rfl x.op rfl ?_))
  refine LA.mono ?_;rintro e w4 ⟨⟨aT,P4,rfl,ai,ag⟩,ad⟩;have HR:hH (WP k B T (O J own) (U av2 m2 cap2) LF lv w (rX (uX #[])) w4):=by
   have h9:=(m.out.step ad ag ai).wp;rw[<-aa.out.1];exact h9
  clear LA ai ag ad m;go_wp2;go_end0
  exact HR.out
 ·have CA:=D.out h;rw[h]at c0;clear h b z D R d ah p7 ab;go_enter func85,ntmps85;go_upto_region 1 with fail
  generalize(w.alloc (Z (QO x (U y np cap)).toArray 158))=W at*;go_wp2_with (first|(refine ldQ 158 (mX 3) w.heap.size 0 (QO x (U y np cap)) _ rP underlying158 ?_))
  refine CA.mono ?_;rintro e w5 ⟨⟨aK,P5,rfl,u,A⟩,s⟩;have HR:=hid ((c.out.step s A u).wp);clear CA u A s c rP c0;go_wp2;go_end0
  exact HR.out
theorem zIv(own:Int)(nm:List ByteArray)(av2:Option dW)(m2 cap2 n:Nat)(b:PtC own nm av2 m2 cap2 n):PtC own nm av2 m2 cap2 (n+1):=λt =>
 zM3 own nm av2 m2 cap2 n t (λ_=>zGU own nm av2 m2 cap2 n b) (λ_=>zO0 own nm av2 m2 cap2 n b (zNr own nm n)) (λ_=>zEl)
theorem zGS(own:Int)(nm:List ByteArray)(av2:Option dW)(m2 cap2:Nat):∀n,PtC own nm av2 m2 cap2 n
 |0=>λt=>Empty.elim t
 |n+1=>zIv own nm av2 m2 cap2 n (zGS own nm av2 m2 cap2 n)
end Go.Proofs.YthcblmpncpcfkaaGreatDoor
namespace Go.Proofs.YthcblmpncpcfkaaGreatDoor.Wf
open Go.Proofs.YthcblmpncpcfkaaGreatDoor
section
variable {α:Type}(r:α->Nat)
def VL(l:List α):Nat:=(l.map r).sum
theorem zFc(g:α->Nat->List I)(c:Nat):∀(l:List α),(∀k∈l,∀a,(g k a).length+c<=6*r k)->∀a,(Qc g l a).length+c*l.length<=6*VL r l
 |[],_,a=>by simp[Qc,VL]
 |k::l,h,a=>by
  have d:=h k (fY ..) a;have e:=zFc g c l (λx b=>h x (vZ _ b)) (a+(g k a).length);simp only[Qc,dZ,eZ,VL,gZ,mY]at*;rw[Nat.mul_add,Nat.mul_add,Nat.mul_one];omega
theorem zNM(g:α->Nat->List I)(e:Int):∀(l:List α),(∀k∈l,∀a,(g k a).length+2<=6*r k)->∀a,(chB g e l a).length<=6*VL r l
 |[],_,a=>by simp[chB]
 |k::l,h,a=>by
  have c:=h k (fY ..) (a+1);have d:=zNM g e l (λx b=>h x (vZ _ b)) (a+1+(g k (a+1)).length);simp only[chB,dZ,eZ,VL,gZ,mY]at*;omega
theorem zCA(q:α->Bool):∀(l:List α),VL r (l.filter q)<=VL r l
 |[]=>yZ _
 |k::l=>by
  have:=zCA q l;by_cases h:q k=xX
  ·rw[List.filter_cons_of_pos h];simp only[VL,gZ,mY]at*;omega
  ·rw[List.filter_cons_of_neg h];simp only[VL,gZ,mY]at*;omega
end
theorem zE9(n:Nat)(x:Wt.Nd)(ks:List (Tr n)):(row (n+1) (⟨x,ks⟩:Br (Tr n))).length=1+VL (λk=>(row n k).length) ks:=by
 show(x::(ks.map (row n)).flatten).length=_
 rw[eZ,List.length_flatten,VL,kX];rw[Nat.add_comm];rfl
theorem zEi:∀(n:Nat)(t:Tr n),1<=(row n t).length
 |0,t=>Empty.elim t
 |n+1,t=>by
  obtain⟨x,ks⟩:Br (Tr n):=t;rw[zE9];omega
theorem zIx(own:Int)(nm:List ByteArray):∀(n:Nat)(t:Tr n)(a:Nat),(cod own nm n t a).length+2<=6*(row n t).length
 |0,t,_=>Empty.elim t
 |n+1,t,a=>by
  obtain⟨x,ks⟩:Br (Tr n):=t;have d:=zIx own nm n;have g:=zEi n;rw[zE9];show(JY own nm (hd n) (cod own nm n) x ks a).length+2<=_
  have b:∀(l:List (Tr n))(a:Nat),(Qc (cod own nm n) l a).length<=6*VL (λk=>(row n k).length) l:=λl a=>by
   have:=zFc (λk=>(row n k).length) (cod own nm n) 2 l (λk _ a=>d k a) a;omega
  have m:∀(l:List (Tr n))(a:Nat),(Qc (JE (cod own nm n)) l a).length<=6*VL (λk=>(row n k).length) l:=λl a=>by
   have:=zFc (λk=>(row n k).length) (JE (cod own nm n)) 1 l (λk _ a=>by have:=d k a;simp only[JE,dZ,eZ,mZ];omega) a;omega
  unfold JY;split
  ·simp;omega
  split
  ·simp;omega
  split
  ·have:=b ks a;simp only[dZ,eZ,mZ];omega
  split
  ·have:=b ks a;simp only[dZ,eZ,mZ];omega
  split
  ·unfold VM;simp only;split
   ·have:=b ks a;simp only[dZ,eZ,mZ];omega
   split
   ·have:=zFc (λk=>(row n k).length) (VJ own nm (hd n) (cod own nm n)) 1 ks (λk _ a=>by
     have s:=d k a;have j:=g k;unfold VJ;split
     ·simp;omega
     ·simp only[JE,dZ,eZ,mZ];omega) (a+1)
    simp only[dZ,eZ,mZ];omega
   split
   ·unfold VN;simp only;have z:=zCA (λk=>(row n k).length) (λk=>!isA (hd n k)) ks;split
    ·simp;omega
    split
    ·simp;omega
    split
    ·have:=b (ks.filter (λk=>!isA (hd n k))) a;simp only[dZ,eZ,mZ];omega
    ·have:=m (ks.filter (λk=>!isA (hd n k))) (a+1);simp only[dZ,eZ,mZ];omega
   ·match ks with
    |[]=>simp[VI];omega
    |c::rr =>
     have s:=d c a;simp only[VI,dZ];match rr with
     |[] =>
      simp only[VL,gZ,uZ,mY,List.sum_nil];split
      ·simp[Ju];omega
      ·simp;omega
     |u::no =>
      simp only[VL,gZ,mY];have e:=λa=>b no a
      simp only[VL]at e;have p:=λa=>d u a
      have y:=g u;split
      ·simp only[VK,eZ,dZ];have j:=p (a+(cod own nm n c a).length+1);split
       ·simp;omega
       ·have q:=e (a+(cod own nm n c a).length+1+(cod own nm n u (a+(cod own nm n c a).length+1)).length+1);omega
      ·split
       ·have j:=p (a+(cod own nm n c a).length+1);simp only[eZ];omega
       ·simp only[Ju,eZ,dZ];have j:=p (a+(cod own nm n c a).length+1);have q:=zNM (λk=>(row n k).length) (cod own nm n) ((a+(cod own nm n c a).length+1+(cod own nm n u (a+(cod own nm n c a).length+1)).length+(chB (cod own nm n) 0 no (a+(cod own nm n c a).length+1+(cod own nm n u (a+(cod own nm n c a).length+1)).length)).length:Nat):Int) no (λk _ a=>d k a) (a+(cod own nm n c a).length+1+(cod own nm n u (a+(cod own nm n c a).length+1)).length);simp only[VL]at q;omega
  ·simp;omega
end Go.Proofs.YthcblmpncpcfkaaGreatDoor.Wf
namespace Go.Proofs.YthcblmpncpcfkaaGreatDoor
open Tryz
open Go.RowKit Wf
variable {w w':wW}{lo n:Nat}{S:List Nat}{F:List (Wpl.Cl×Ct)}{op:Oper}{a:Act}{v:vW}{xs:List vW}{na:Option dW}{nm:List ByteArray}
theorem zM7{P:Program}{a:Act}(x y:Operand)(ts:Array TypeId)(d:op.op=.call {callee:=.builtin .min,args:=#[x,y],argTypes:=ts})(i j k:Int)(e:a.eval x=O J i)(g:a.eval y=O J j)(c:(if j<i then j else i)=k)(w:wW):(execOp a.eval op).run P w=.ok (.value (O J k)) w:=by
 have b:=run_min_int2 (P:=P) (w:=w) ts op.type J J i j;rw[c]at b;unfold execOp;simp only[d,resolve,invoke,builtin,rZ,sZ,iZ,oZ,gZ,uZ,e,g,b]
theorem zKr(s h:Operand)(g:op.op=.slice 48 s vX (wX h) vX)(b:Option dW)(m cap q:Nat)(l:a.eval s=U b m cap)(e:a.eval h=O J (q:Int))(y:q<=m)(t:m<=cap)(u:b=vX->cap=0)(W:wW):(execOp a.eval op).run prog W=.ok (.value (U b q cap)) W:=by
 have c:prog.underlying 48=wX (.slice (prog.elem 48)):=kR
 have p:(sizeOf (prog.elem 48)).run prog W=.ok 1 W:=kR
 have j:(Instr.sliceAt 48 (U b m cap) vX (wX (O J (q:Int))) vX).run prog W=.ok (U b q cap) W:=by
  rw[run_sliceAt_slice W _ _ _ _ _ c,run_slice_h W _ _ _ _ c _ (q:Int) oM oM,p];have d:sliced b 0 q cap 1=U b q cap:=by
   unfold sliced;split
   ·rfl
   ·cases b <;> simp[Addr.add]
  rw[<-d];rfl
 unfold execOp;simp only[g,l,e,Option.map_some,Option.map_none,rZ,sZ,iZ,j]
theorem zPt(s r c:Int)(b:Option dW)(m cap:Nat)(w:wW)(q:Nat)(X:q=min m 16)(E:m<=cap)(G:b=vX->cap=0):CR 81 #[gX #[O J s,O J r,O J c],U b m cap] w (Jn s b q cap):=by
 have N:hH ((if(16:Int)<(m:Int)then(16:Int)else(m:Int))=(q:Int)):=by show _=_;split <;> omega
 have j:hH (q<=m/\m<=cap):=⟨oM,E⟩
 have l:hH (b=vX->cap=0):=G;have p:=QI (QI (fZ _ w) (Z #[O J s,O J r,O J c] 36)) (Z #[O J 0,U vX 0 0] 154);have H:=(AtL.new0 w 36 [O J s,O J r,O J c]).alloc (Z #[O J 0,U vX 0 0] 154);have t:=AtL.new1 w (Z #[O J s,O J r,O J c] 36) 154 [O J 0,U vX 0 0];clear X E G;go_enter func81,ntmps81;go_upto_region 1 with fail
 generalize((w.alloc (Z #[O J s,O J r,O J c] 36)).alloc (Z #[O J 0,U vX 0 0] 154))=W at*;have e:=(fZ W.heap.size W).drew;have A:=(AtL.below e H).2.1 0 _ rfl;have g:=AtL.below e t;have C:=QA p e;clear e H t p;refine wp_region_held_drew (S:=λW=>W.cell? ⟨w.heap.size,0,vX⟩=wX (O J s)) kR A (λd=>?_);generalize W.drew=u at*;refine tkQ 0 ?_
 refine tkQ 1 ?_
 refine tkQ 2 ?_
 refine tkQ 3 ?_
 refine tkQ 4 ?_
 refine tkH 5 (O J (q:Int)) rfl (tZ ⟨by rfl,λW _=>zM7 (mX 9) (.const (O J 16)) _ rfl (m:Int) 16 (q:Int) rfl rfl N.out W⟩) ?_;try simp only[Act.put,lA,lZ,lS]
 refine tkH 6 (U b q cap) rfl (tZ ⟨by rfl,λW _=>zKr (mX 7) (mX 10) rfl b m cap q rfl rfl j.out.1 j.out.2 l.out W⟩) ?_;try simp only[Act.put,lA,lZ,lS]
 refine tkQ 7 ?_
 have k0:=g.2.1 0 _ rfl;have k1:=g.2.1 1 _ rfl;have z0:=g.2.2 0 sM;have z1:=g.2.2 1 sM;refine rdQ 8 (λK D=>?_);go_simp
 have fr:=Qj (w.heap.size+1) [O J s,U b q cap] 0 u;have M:=g.setAll (vs:=[O J s,U b q cap]) rfl;have z:hH (((u.setCell ⟨w.heap.size+1,0,vX⟩ (O J s)).setCell ⟨w.heap.size+1,1,vX⟩ (U b q cap)).rangeAt (w.heap.size+1) 0 [O J s,U b q cap]):=M.range;have y:hH (bL w ((u.setCell ⟨w.heap.size+1,0,vX⟩ (O J s)).setCell ⟨w.heap.size+1,1,vX⟩ (U b q cap))):=zBg C fr (λk R=>by simp at R;omega);refine hkQ D (fr.cell A sM) (λd=>?_);clear D K
 refine wpAnyH_done kR ?_ _;clear d fr M k0 k1 z0 z1 g C A;generalize((u.setCell ⟨w.heap.size+1,0,vX⟩ (O J s)).setCell ⟨w.heap.size+1,1,vX⟩ (U b q cap))=WF at*;go_wp2;refine bodyPost_ret (Q3 (by rfl) _ _ (w.heap.size+1) [O J s,U b q cap] _ (by rfl) z.out underlying154 rfl kR) rfl ⟨rfl,y.out⟩
open Go.RowKit
theorem zBe(j:Option dW)(cap:Nat)(L:List Wt.Nd)(w:wW)(C:L.length<=9223372036854775807)(t:∀x∈L,Wt.FitN x)(u:OpsAt w)(y:RdN w j L) :
  CR 44 #[U j L.length cap] w (O J (Wt.check L)):=by
 unfold Wt.check;by_cases h:256<L.length
 ·rw[if_pos h];have hi:(256:Int)<(L.length:Int):=oM;go_enter func44,ntmps44;go_wp2;go_ret;exact⟨rfl,fZ _ _⟩
 rw[if_neg h];have hi:¬(256:Int)<(L.length:Int):=oM;have M:=zK3 j cap L oM t (L.length+1) oM 0 w oM oM u y;rw[List.drop_zero]at M;have l:=zHP (L.length+1) L;cases b:Wt.one (L.length+1) L with
 |none =>
  rw[b]at M;clear l;go_enter func44,ntmps44;go_wp2_with fail
  refine M.mono ?_;rintro e w1 ⟨rfl,c⟩;simp only[MP];go_wp2;go_ret;exact⟨rfl,c⟩
 |some q =>
  obtain⟨s,d⟩:=q;rw[b]at M;have A:=zCu _ _ _ _ b;replace l:=l s d b
  simp only[MP,oY]at M;simp only;by_cases z:s=L.length
  ·rw[if_neg oM];have p:((s:Int) == (L.length:Int))=xX:=by rw[beq_iff_eq];omega
   have g:(s:Int)=(L.length:Int):=oM;by_cases hd:32<d
   ·rw[if_pos hd];have m:(32:Int)<(d:Int):=oM;go_enter func44,ntmps44;go_wp2_with fail
    refine M.mono ?_;rintro e w1 ⟨rfl,c⟩;go_wp2;go_ret;exact⟨rfl,c⟩
   ·rw[if_neg hd];have m:¬(32:Int)<(d:Int):=oM;go_enter func44,ntmps44;go_wp2_with fail
    refine M.mono ?_;rintro e w1 ⟨rfl,c⟩;go_wp2;go_ret;exact⟨rfl,c⟩
  ·rw[if_pos z];have p:((s:Int) == (L.length:Int))=yX:=by rw[beq_eq_false_iff_ne];omega
   have g:¬(s:Int)=(L.length:Int):=oM;go_enter func44,ntmps44;go_wp2_with fail
   refine M.mono ?_;rintro e w1 ⟨rfl,c⟩;go_wp2;go_ret;exact⟨rfl,c⟩
theorem zOX(n:Nat)(t:Tr n)(bb E L cap:Nat)(w:wW)(hF:VD n t)(hL:L=(row n t).length)(hl:L<=300)(hc:L<=cap)(hR:RdN w (wX ⟨bb,E,vX⟩) (row n t)):Calls prog 82 #[U (wX ⟨bb,E,vX⟩) L cap] w λe w'=>(∃sl,e=rX (gX (QO (hd n t) sl).toArray)/\PA n w.heap.size w'.heap.size w' t sl)/\bL w w':=by
 have M:AtL (w.alloc (Z zeros21 158)) w.heap.size zeros21.toList:=AtL.new0 w _ _;have A:=QI (fZ _ w) (Z zeros21 158);have N:=zFt n t bb E L cap [] _ hF (by rw[zY];exact hL) hl hc (by rw[zY];exact hR.below A);unfold GrP at N;have z:=hid M;have G:=hid A;clear M A hF hL hl hc hR;go_enter func82,ntmps82;go_upto_region 1 with fail
 generalize(w.alloc (Z zeros21 158))=W1 at*;go_wp2_with fail
 refine N.mono ?_;rintro e b ⟨⟨sl,X,L2,C2,rfl,_,D,_,_⟩,C⟩;obtain⟨c,d,g,rfl⟩:=D.slice;have m:nY (b.alloc (Z zeros21 158)) b.heap.size 0 (QO (hd n t) (U c d g)).toArray.size:=(AtL.new0 b _ _:AtL (b.alloc (Z zeros21 158)) b.heap.size zeros21.toList).there;have u:hH (AtL ((b.alloc (Z zeros21 158)).setCells b.heap.size 0 (QO (hd n t) (U c d g))) b.heap.size (QO (hd n t) (U c d g))):=(AtL.new0 b _ _:AtL (b.alloc (Z zeros21 158)) b.heap.size zeros21.toList).setAll rfl;have l:bL b ((b.alloc (Z zeros21 158)).setCells b.heap.size 0 (QO (hd n t) (U c d g))):=Ql (QI (fZ _ b) _) (yZ _) _ 0;have q:hH (PA n W1.heap.size b.heap.size ((b.alloc (Z zeros21 158)).setCells b.heap.size 0 (QO (hd n t) (U c d g))) t (U c d g)/\b.heap.size<=((b.alloc (Z zeros21 158)).setCells b.heap.size 0 (QO (hd n t) (U c d g))).heap.size/\w.heap.size<W1.heap.size):=⟨PA.kept (Kept.of_below l) n _ _ D,l.size,z.out.lt⟩
 have p:=hid (AtL.below l (AtL.below C z.out));have s:=hid (QA (QA G.out C) l);clear N D C l z G;obtain⟨y,hy⟩:=xV (hd n t)
 have HY:=hid hy;rw[hy]at m u q p s ⊢;clear hy;go_upto_region 2 with(first|((with_reducible refine stQ 158 (mX 3) (mX 8) b.heap.size 0 (QO y (U c d g)).toArray ?_ ?_ ?_);exact m;exact Qt _ _ _ _))
 clear m;generalize((b.alloc (Z zeros21 158)).setCells b.heap.size 0 (QO y (U c d g)))=H at*;have rI:=u.out.range;have m:nY H w.heap.size 0 (QO y (U c d g)).toArray.size:=p.out.there;have pF:AtL (H.setCells w.heap.size 0 (QO y (U c d g))) w.heap.size (QO y (U c d g)):=p.out.setAll rfl;have aa:=hid pF.range;have R:hH (bL w (H.setCells w.heap.size 0 (QO y (U c d g)))):=Ql s.out (yZ _) _ 0;have W:hH (Fr [w.heap.size] H (H.setCells w.heap.size 0 (QO y (U c d g)))):=Qj _ _ _ _;clear pF u p s;go_wp2_with (first|(refine ldQ 158 (mX 3) b.heap.size 0 (QO y (U c d g)) _ rI underlying158 ?_)|((with_reducible refine stQ 158 (mX 2) (mX 10) w.heap.size 0 (QO y (U c d g)).toArray ?_ ?_ ?_);exact m;exact Qt _ _ _ _))
 obtain⟨a1,a2,a3⟩:=q.out;have K:=W.out;refine bodyPost_ret (Q3 (by rfl) _ _ w.heap.size (QO y (U c d g)) _ (by rfl) aa.out underlying158 rfl kR) rfl ⟨⟨_,by rw[HY.out],PA.wide (sX a3) (jZ a2 K.size) n _ _ (PA.kept (Kept.of_fr K (λj hj=>by simp at hj;omega)) n _ _ a1)⟩,R.out⟩
def FlP(E:Int)(C:List I)(w:wW)(e:Ending)(w':wW):Prop :=
 ((E≠0/\e=rX (uX #[U vX 0 0,O J E]))\/(E=0/\∃lv P,e=rX (uX #[lv,O J 0])/\OwnI w' w.heap.size lv P/\P.length=C.length/\(∀i (h:i<P.length) (c:i<C.length),(P[i]).1=(C[i]).1/\OwnZ w' w.heap.size (P[i]).2 (C[i]).2)/\∀i j (h:i<P.length) (c:j<P.length) b,(P[i]).2.ownBlock=wX b->(P[j]).2.ownBlock=wX b->i=j))/\bL w w'
def flE(own r c:Int)(nm:List ByteArray)(n:Nat)(t:Tr n):Int :=
 if Wpl.rightC own r c=yX then 110 else if(nm.length:Int)<=own then 84
 else if VC own (nm.take 16) n t≠0 then VC own (nm.take 16) n t else if isA (hd n t)then 82 else 0
def flC(own:Int)(nm:List ByteArray)(n:Nat)(t:Tr n):List I:=cod own (nm.take 16) n t 0++[ins 16 0 0]
theorem zDR{w1 b:wW}(h:bL w w1)(f:Fr S w1 b)(d:∀k∈S,w.heap.size<=k):bL w b :=
 ((Fr.of_below [] h).new f (λk c=>kZ (d k c))).to_below sM
theorem zF4{B C c k:Nat}(h:w.ownsRow C c k v n xs)(d:B<=C):w.ownsRow B c k v n xs:=by
 refine⟨h.1,?_⟩;rcases h.2 with q|⟨g,cap,b,e,j,q⟩
 ·exact tZ q
 ·exact kZ ⟨g,cap,b,e,jZ d j,q⟩
theorem RdS.take{d:Option dW}{L:List ByteArray}(h:RdS w d L)(k:Nat):RdS w d (L.take k):=λi hi=>by
 have b:i<L.length:=by rw[eY]at hi;omega
 obtain⟨g,c,e,j⟩:=h i b;exact⟨g,c,e,by rw[List.getElem_take];exact j⟩
theorem zS7(own:Int)(b:Option dW)(m cap:Nat)(w:wW):(Instr.build 162 #[(0,Jn own b m cap)]).run prog w=.ok (gX #[O J own,U b m cap,U vX 0 0]) w:=kR
theorem zEx{ops:Array Oper}{rest:List Oper}{Q:Exit->Act->wW->Prop}(b:op.guard=vX)(y:Operand)(e:op.op=.build 162 #[(0,y)])(own:Int)(c:Option dW)(m cap:Nat)(g:a.eval y=Jn own c m cap)
  (h:wpList prog ops Q rest (a.put op.dst (gX #[O J own,U c m cap,U vX 0 0])) w):wpList prog ops Q (op::rest) a w:=by
 refine wpList_plain b λK d=>?_
 unfold Oper.wp execOp;simp only[e,oZ,gZ,uZ,g,rZ,sZ,iZ,zS7];exact d _ _ h
theorem zKq(n:Nat)(t:Tr n)(bb am cap:Nat)(l:List Wt.Nd)(own r c:Int)(ar:Option dW)(nm:List ByteArray)(m3 d:Nat)(w:wW)(hF:∀x∈l,Wt.FitN x)(hO:OpsAt w)(hN:NmAt w)(hr:RdN w (wX ⟨bb,am,vX⟩) l)(hS:RdS w ar nm)(hE:Wt.check l=0)(z:row n t=l)(hT:VD n t)(hl:l.length<=256)(aj:l.length<=cap)(m:Nat)(hm:m=l.length)(af:m3=nm.length)(av:m3<=d)(aS:nm.length<=1000000)(aC:-9223372036854775808<=own/\own<=9223372036854775807)(a4:∀q,q=(nm.take 16).length->RfT own (nm.take 16) ar q d n t)(a3:∀q,PtT own (nm.take 16) ar q d n t) :
  Calls prog 52 #[U (wX ⟨bb,am,vX⟩) m cap,gX #[O J own,O J r,O J c],U ar m3 d] w (FlP (flE own r c nm n t) (flC own nm n t) w):=by
 have bh:=hid a4;have bg:=hid a3;clear a4 a3;have ad:=QI (fZ _ w) (Z #[O J own,O J r,O J c] 36);have pC:=AtL.new0 w 36 [O J own,O J r,O J c];have CK:=zBe (wX ⟨bb,am,vX⟩) cap l _ oM hF (hO.below ad) (hr.below ad);rw[<-hm,hE]at CK;have ac:hH (∀W:wW,CR 48 #[gX #[O J own,O J r,O J c]] W (Y (Wpl.rightC own r c))):=λW=>Qh own r c W
 have ab:=hid pC;have an:=hid ad;unfold flE;generalize hq:Wpl.rightC own r c=qr at*;have bk:=hid hq;clear hq;cases qr with
 |false =>
  rw[if_pos rfl];clear hF hO hN hr hS hE z hT hl aj hm af av aS aC ad pC;go_enter func52,ntmps52;go_upto_region 1 with fail
  generalize(w.alloc (Z #[O J own,O J r,O J c] 36))=W at*;go_wp2_with fail
  refine CK.mono ?_;rintro e w1 ⟨rfl,p⟩;have D:=AtL.below p ab.out;obtain⟨c0,c1,c2,_,_,_⟩:=D.three;have RI:=ac.out w1;clear CK D ab ac;go_wp2_with fail
  refine RI.mono ?_;rintro e w2 ⟨rfl,s⟩;have X:=hid (QA (QA an.out p) s);clear RI p s c0 c1 c2;go_wp2;go_ret2
  exact⟨tZ ⟨oM,rfl⟩,X.out⟩
 |true =>
  rw[if_neg sM];by_cases ah:(nm.length:Int)<=own
  ·rw[if_pos ah];rw[<-af]at ah;clear hF hO hN hr hS hE z hT hl aj hm af av aS ad pC;go_enter func52,ntmps52;go_upto_region 1 with fail
   generalize(w.alloc (Z #[O J own,O J r,O J c] 36))=W at*;go_wp2_with fail
   refine CK.mono ?_;rintro e w1 ⟨rfl,p⟩;have D:=AtL.below p ab.out;obtain⟨c0,c1,c2,_,_,_⟩:=D.three;have RI:=ac.out w1;clear CK ab ac;go_wp2_with fail
   refine RI.mono ?_;rintro e w2 ⟨rfl,s⟩;have d0:=QB s c0;have X:=hid (QA (QA an.out p) s);clear RI p s c0 c1 c2 D;go_wp2;go_ret2
   exact⟨tZ ⟨oM,rfl⟩,X.out⟩
  ·rw[if_neg ah];have bs:=Wpl.rightC_iff.1 bk.out;have a8:0<nm.length:=oM;obtain⟨u,C,rfl,h9⟩:=hS 0 a8;have ae:u<w.heap.size:=Q7 h9;obtain⟨q,hq⟩:=xV (min m3 16)
   have aU:q=(nm.take 16).length:=by rw[eY,<-hq,af,Nat.min_comm]
   have aD:(nm.take 16).length<=16:=by rw[eY];omega
   have aY:hH (∀W:wW,CR 81 #[gX #[O J own,O J r,O J c],U (wX ⟨u,C,vX⟩) m3 d] W (Jn own (wX ⟨u,C,vX⟩) q d)):=λW=>zPt own r c _ m3 d W q hq.symm av (λh=>by cases h)
   have aJ:hH (∀W:wW,bL w W->Calls prog 82 #[U (wX ⟨bb,am,vX⟩) m cap] W λe w'=>(∃sl,e=rX (gX (QO (hd n t) sl).toArray)/\PA n W.heap.size w'.heap.size w' t sl)/\bL W w'):=λW hb=>zOX n t bb am m cap W hT (by rw[z];exact hm) oM oM (by rw[z];exact hr.below hb)
   have aL:hH (∀(sl:vW)(lo hi:Nat)(W:wW),bL w W->PA n lo hi W t sl->CR 83 #[gX (QO (hd n t) sl).toArray,Jn own (wX ⟨u,C,vX⟩) q d] W (O J (VC own (nm.take 16) n t))):=λsl lo hi W hb hp=>bh.out q aU sl lo hi W hT hp (hN.below hb) ((hS.take 16).below hb)
   have hG:2<w.heap.size:=Q7 (hN.cell (id:=0) oM oM);have bf:hH (∀(W:wW)(k hi:Nat),bL w W->w.heap.size<=k->hi<=k->k+1<=W.heap.size->En own (nm.take 16) (wX ⟨u,C,vX⟩) q d k (k+1) (λ_=>k+1) hi W):=λW k hi hb h1 h2 h3=>⟨hN.below hb,(hS.take 16).below hb,aU,aD,λb o e=>by cases e;omega,oM,h2,nX _,h3,λ_=>h3⟩
   have a0:hH ((cod own (nm.take 16) n t 0).length<=900000):=by
    show _<=_
    have h7:=zIx own (nm.take 16) n t 0;rw[z]at h7;omega
   have HT:=hid hT;have bz:hH (flC own nm n t=cod own (nm.take 16) n t 0++[ins 16 0 0]):=rfl;have bx:¬(m3:Int)<=own:=by rw[af];exact ah
   obtain⟨rt,aw⟩:=xV (VC own (nm.take 16) n t)
   obtain⟨y,hy⟩:=xV (hd n t)
   have bl:=hid aw;have HY:=hid hy;rw[aw,hy]at aL;rw[hy]at aJ;rw[aw,hy];obtain⟨E,aN⟩:=xV (if rt≠0 then rt else if isA y=xX then 82 else 0:Int)
   have HE:=hid aN;rw[aN];clear aN;clear hF hO hN hr hS hE z hT hl aj hm af av aS ad pC ah bs a8 h9 ae hq aU aD hG aw hy aC;go_enter func52,ntmps52;go_upto_region 1 with fail
   generalize(w.alloc (Z #[O J own,O J r,O J c] 36))=W at*;go_wp2_with fail
   refine CK.mono ?_;rintro e w1 ⟨rfl,p⟩;have D:=AtL.below p ab.out;obtain⟨c0,c1,c2,_,_,_⟩:=D.three;have RI:=ac.out w1;clear CK ab ac;go_wp2_with fail
   refine RI.mono ?_;rintro e w2 ⟨rfl,s⟩;have bc:=AtL.below s D;clear c0 c1 c2 D RI;obtain⟨c0,c1,c2,_,_,_⟩:=bc.three;have X:=hid (QA (QA an.out p) s);have AT:=aY.out w2;clear p s an aY;go_wp2_with fail
   refine AT.mono ?_;rintro e w3 ⟨rfl,a5⟩;have aF:=hid (QA X.out a5);have OF:=aJ.out w3 aF.out;clear AT a5 X aJ c0 c1 c2 bc;go_wp2_with fail
   refine OF.mono ?_;rintro e R ⟨⟨sl,rfl,aT⟩,a6⟩;obtain⟨sa,sb,sc,rfl⟩:=aT.slice;have aG:=hid (QA aF.out a6);have ay:=hid aT;clear OF aT a6 aF;have pS:AtL ((R.alloc (Z #[O J own,U (wX ⟨u,C,vX⟩) q d] 154)).alloc (Z zeros21 158)) R.heap.size [O J own,U (wX ⟨u,C,vX⟩) q d]:=(AtL.new0 R 154 [O J own,U (wX ⟨u,C,vX⟩) q d]).alloc (Z zeros21 158);have pQ:AtL ((R.alloc (Z #[O J own,U (wX ⟨u,C,vX⟩) q d] 154)).alloc (Z zeros21 158)) (R.heap.size+1) zeros21.toList:=AtL.new1 R _ 158 zeros21.toList;have a7:=QI (QI (fZ _ R) (Z #[O J own,U (wX ⟨u,C,vX⟩) q d] 154)) (Z zeros21 158);have aE:nY ((R.alloc (Z #[O J own,U (wX ⟨u,C,vX⟩) q d] 154)).alloc (Z zeros21 158)) (R.heap.size+1) 0 (QO y (U sa sb sc)).toArray.size:=pQ.there;have aW:=pS.farAll (b:=R.heap.size+1) oM 0 (QO y (U sa sb sc));have aV:=pQ.setAll (vs:=QO y (U sa sb sc)) rfl;have au:=Ql a7 (Nat.le_succ _) (QO y (U sa sb sc)) 0;obtain⟨W6,aP⟩:=xV (((R.alloc (Z #[O J own,U (wX ⟨u,C,vX⟩) q d] 154)).alloc (Z zeros21 158)).setCells (R.heap.size+1) 0 (QO y (U sa sb sc)))
   rw[aP]at aW aV au;have aq:=hid aW;have ap:=hid aV;have aH:=hid (QA aG.out au);have N:=hid (PA.kept (Kept.of_below au) n _ _ ay.out);have a2:=hid aP;have bm:=hid aG.out.size;clear pS pQ aW aV a7 au aP aG ay;go_upto_region 9 with((with_reducible refine stQ 158 (mX 10) (mX 33) (R.heap.size+1) 0 (QO y (U sa sb sc)).toArray ?_ ?_ ?_);exact aE;exact Qt _ _ _ _)
   rw[a2.out];clear a2 aE;obtain⟨k4,aQ⟩:∃k,R.heap.size=k:=⟨_,rfl⟩
   rw[aQ]at aq ap N bm;simp only[aQ];clear aQ;have RF:=aL.out (U sa sb sc) w3.heap.size k4 W6 aH.out N.out;have rP:=ap.out.range;have rS:=aq.out.range;clear aL;go_wp2_with (first|(refine ldQ 158 (mX 10) (k4+1) 0 (QO y (U sa sb sc)) _ rP underlying158 ?_)|(refine ldQ 154 (mX 9) k4 0 [O J own,U (wX ⟨u,C,vX⟩) q d] _ rS underlying154 ?_))
   refine RF.mono ?_;rintro e w7 ⟨rfl,ai⟩;have ao:=hid (QA aH.out ai);have a1:=hid (AtL.below ai aq.out);have aK:=hid (AtL.below ai ap.out);have az:=hid (PA.kept (Kept.of_below ai) n _ _ N.out);clear RF ai aH aq ap N rP rS;by_cases A:rt=0
   ·have IA:=zAR y (U sa sb sc) w7;have rP:=aK.out.range;cases al:isA y with
    |true =>
     have G:=HE.out;rw[if_neg (by simp[A]),if_pos al]at G;rw[al]at IA;subst A;go_wp2_with (first|(refine ldQ 158 (mX 10) (k4+1) 0 (QO y (U sa sb sc)) _ rP underlying158 ?_))
     refine IA.mono ?_;rintro e M ⟨rfl,H⟩;have aa:=hid (QA ao.out H);clear IA H rP;go_wp2;go_ret2
     exact⟨tZ ⟨oM,by rw[<-G];rfl⟩,aa.out⟩
    |false =>
     have G:=HE.out;rw[if_neg (by simp[A]),if_neg (by simp[al])]at G;rw[al]at IA;have bn:hH (Wr own (nm.take 16) n t):=⟨HT.out,by rw[bl.out];exact A,by rw[HY.out];exact al⟩
     clear HE;subst A;subst G;go_wp2_with (first|(refine ldQ 158 (mX 10) (k4+1) 0 (QO y (U sa sb sc)) _ rP underlying158 ?_))
     refine IA.mono ?_;rintro e M ⟨rfl,H⟩;have aa:=hid (QA ao.out H);have rS:=QF H a1.out.range;have aO:=AtL.below H aK.out;have aA:=PA.kept (Kept.of_below H) n _ _ az.out;have bp:k4+1<M.heap.size:=aO.lt;have ae:=QI (fZ _ M) (Z #[O J own,U (wX ⟨u,C,vX⟩) q d,U vX 0 0] 162);have aI:=hid (QA aa.out ae);have bd:=QF ae aO.range;have aB:=PA.kept (Kept.of_below ae) n _ _ aA;have ak:M.heap.size+1<=(M.alloc (Z #[O J own,U (wX ⟨u,C,vX⟩) q d,U vX 0 0] 162)).heap.size:=by rw[World.size_alloc];exact yZ _
     have EN:=bf.out _ M.heap.size k4 aI.out aa.out.size oM ak;have K:WS M.heap.size (M.heap.size+1) (λ_=>M.heap.size+1) (M.alloc (Z #[O J own,U (wX ⟨u,C,vX⟩) q d,U vX 0 0] 162)) (O J own) (U (wX ⟨u,C,vX⟩) q d) [] (U vX 0 0) []:=⟨AtL.new0 M 162 _,OwnI.nil _ _,rfl,λi h=>absurd h (sY _),λ_=>yZ _,λi j h=>absurd h (sY _)⟩
     have PT:=bg.out q (U sa sb sc) w3.heap.size k4 M.heap.size (M.heap.size+1) (λ_=>M.heap.size+1) _ [] (U vX 0 0) [] bn.out aB EN K (by have:=a0.out;simpa using this);rw[HY.out]at PT;clear IA H ae rP aO aA aB EN K a1 aK az ao;go_upto_region 15 with(first|(refine ldQ 154 (mX 9) k4 0 [O J own,U (wX ⟨u,C,vX⟩) q d] _ rS underlying154 ?_)|(refine zEx rfl (mX 42) rfl own (wX ⟨u,C,vX⟩) q d rfl ?_;clear rS))
     generalize(M.alloc (Z #[O J own,U (wX ⟨u,C,vX⟩) q d,U vX 0 0] 162))=W9 at*;have ag:=hid (And.intro aa.out.size ak);clear aa ak bp;obtain⟨k8,aR⟩:∃k,M.heap.size=k:=⟨_,rfl⟩
     rw[aR]at ag PT;simp only[aR];clear aR;go_wp2_with (first|(refine ldQ 158 (mX 10) (k4+1) 0 (QO y (U sa sb sc)) _ bd underlying158 ?_))
     refine PT.mono ?_;rintro e bv ⟨⟨a9,P1,rfl,aX,bq⟩,aM⟩;have aZ:=hid (zDR aI.out aM (λj hj=>by
      have:=ag.out.1;simp[Value.ownBlock]at hj;omega))
     have LA:=JA k8 (k8+1) (λ_=>k8+1) (ins 16 0 0).1 _ _ _ a9 P1 bv aX (nX _) (jZ ag.out.2 aM.size) (by have:=a0.out;simp only[List.nil_append,mZ];omega);have bj:hH (∀g,a9.ownBlock=wX g->k8+1<=g):=λg e=>(QL aX.own e).1
     clear PT bd aX bq aM aI;go_wp2_with fail
     refine LA.mono ?_;rintro e bB ⟨⟨bu,P2,rfl,ax,br⟩,fr2⟩;have be:=hid (zDR aZ.out fr2 (λj hj=>by
      have h1:=ag.out.1;rcases List.mem_cons.1 hj with q|q
      ·omega
      ·have:=bj.out j (by simpa using q);omega))
     have bt:∃a b c,bu=U a b c:=by
      rcases ax.own.2 with⟨q,_⟩|⟨g,c,bA,q,_⟩
      ·exact⟨_,_,_,q⟩
      ·exact⟨_,_,_,q⟩
     obtain⟨la,lb,lc,rfl⟩:=bt;obtain⟨_,_,c2,_,_,_⟩:=ax.at'.three;have bo:=hid ax;clear LA ax br fr2 aZ;go_wp2_with fail
     go_ret2
     have K:=bo.out;have hk:=ag.out.1;exact⟨kZ ⟨rfl,_,P2,rfl,zF4 K.own oM,K.len,λi h h'=>⟨(K.ins i h h').1,zF4 (K.ins i h h').2 oM⟩,K.dis⟩,be.out⟩
   ·have G:=HE.out;rw[if_pos A]at G;clear HE;go_wp2;go_ret2
    exact⟨tZ ⟨oM,by rw[<-G];rfl⟩,ao.out⟩
theorem zF5(n:Nat)(t:Tr n)(u e cap:Nat)(l:List Wt.Nd)(own r c:Int)(d:Option dW)(nm:List ByteArray)(s b:Nat)(w:wW)(D:∀x∈l,Wt.FitN x)(G:OpsAt w)(E:NmAt w)(W:RdN w (wX ⟨u,e,vX⟩) l)(H:RdS w d nm)(C:Wt.check l=0)(p:row n t=l)(K:VD n t)(M:l.length<=256)(g:l.length<=cap)(m:Nat)(N:m=l.length)(z:s=nm.length)(y:s<=b)(A:nm.length<=1000000)(j:-9223372036854775808<=own/\own<=9223372036854775807) :
  Calls prog 52 #[U (wX ⟨u,e,vX⟩) m cap,gX #[O J own,O J r,O J c],U d s b] w (FlP (flE own r c nm n t) (flC own nm n t) w) :=
 zKq n t u e cap l own r c d nm s b w D G E W H C p K M g m N z y A j (λq R=>zCH own (nm.take 16) d q b R (by rw[eY];omega) n t) (λq=>zGS own (nm.take 16) d q b n t)
structure Ce where
 t:ByteArray
 c:List I
abbrev ce0:Ce:=⟨⟨#[]⟩,[]⟩
def CdP(w:wW)(lo:Nat)(v:vW)(C:List I):Prop:=∃P,OwnI w lo v P/\P.length=C.length/\∀i (h:i<P.length) (b:i<C.length),(P[i]).1=(C[i]).1/\OwnZ w lo (P[i]).2 (C[i]).2
theorem CdP.nil(w:wW)(lo:Nat):CdP w lo (U vX 0 0) []:=⟨[],OwnI.nil _ _,rfl,λi h=>absurd h (sY _)⟩
theorem CdP.fr(l:Fr S w w'){lo:Nat}{v:vW}{C:List I}(h:CdP w lo v C)(m:∀k∈S,k<lo):CdP w' lo v C:=by
 obtain⟨P,j,p,c⟩:=h;refine⟨P,QZ l j (λg e d=>?_),p,λi a b=>⟨(c i a b).1,QZ l (c i a b).2 (λg e d=>?_)⟩⟩
 ·have:=(QL j e).1;have:=m g d;omega
 ·have:=(QL (c i a b).2 e).1;have:=m g d;omega
theorem zEd{base b:Nat}{e:TypeId}{size:Nat}(h:w.ownsRow base e size v n xs)(c:b<=base):w.ownsRow b e size v n xs :=
 ⟨h.1,h.2.imp id λ⟨g,cap,cur,h1,h2,h3⟩=>⟨g,cap,cur,h1,jZ c h2,h3⟩⟩
theorem CdP.mono{c:Nat}{C:List I}(h:CdP w lo v C)(e:c<=lo):CdP w c v C:=by
 obtain⟨P,g,j,d⟩:=h;exact⟨P,zEd g e,j,λi a b=>⟨(d i a b).1,zEd (d i a b).2 e⟩⟩
def CeP(w:wW)(lo:Nat)(f:Ct)(g:Ce):Prop:=f.t=g.t/\CdP w lo f.v g.c
theorem CeP.zero(w:wW)(lo:Nat):CeP w lo ct0 ce0:=⟨rfl,CdP.nil w lo⟩
def Mt(w:wW)(lo:Nat):List (Wpl.Cl×Ct)->List (Wpl.Cl×Ce)->Prop
 |[],[]=>True
 |f::F,g::G=>(f.1=g.1/\CeP w lo f.2 g.2)/\Mt w lo F G
 |[],_::_=>False
 |_::_,[]=>False
theorem Mt.fr{S:List Nat}{w w':wW}(b:Fr S w w'){lo:Nat}(c:∀k∈S,k<lo):∀{F:List (Wpl.Cl×Ct)}{G:List (Wpl.Cl×Ce)},Mt w lo F G->Mt w' lo F G
 |[],[],_=>trivial
 |f::F,g::G,h=>⟨⟨h.1.1,h.1.2.1,h.1.2.2.fr b c⟩,Mt.fr b c h.2⟩
 |[],_::_,h=>h.elim
 |_::_,[],h=>h.elim
theorem Mt.len{w:wW}{lo:Nat}:∀{F:List (Wpl.Cl×Ct)}{G:List (Wpl.Cl×Ce)},Mt w lo F G->F.length=G.length
 |[],[],_=>rfl
 |f::F,g::G,h=>by rw[eZ,eZ,Mt.len h.2]
 |[],_::_,h=>h.elim
 |_::_,[],h=>h.elim
theorem Mt.keys{w:wW}{lo:Nat}:∀{F:List (Wpl.Cl×Ct)}{G:List (Wpl.Cl×Ce)},Mt w lo F G->F.map (λp=>p.1)=G.map (λp=>p.1)
 |[],[],_=>rfl
 |f::F,g::G,h=>by rw[gZ,gZ,Mt.keys h.2,h.1.1]
 |[],_::_,h=>h.elim
 |_::_,[],h=>h.elim
theorem Mt.find{w:wW}{lo:Nat}(x:Wpl.Cl):∀{F:List (Wpl.Cl×Ct)}{G:List (Wpl.Cl×Ce)}(i:Nat),Mt w lo F G->(fnB x F i=vX/\fnB x G i=vX) \/ ∃k f g,fnB x F i=wX (k,f)/\fnB x G i=wX (k,g)/\CeP w lo f g
 |[],[],i,_=>tZ ⟨rfl,rfl⟩
 |f::F,g::G,i,h=>by
  unfold fnB;rw[h.1.1];cases eqB g.1 x with
  |true=>exact kZ ⟨i,f.2,g.2,rfl,rfl,h.1.2⟩
  |false=>exact Mt.find x (i+1) h.2
 |[],_::_,i,h=>h.elim
 |_::_,[],i,h=>h.elim
theorem Mt.set{w:wW}{lo:Nat}{x:Wpl.Cl}{f:Ct}{g:Ce}(c:CeP w lo f g):∀{F:List (Wpl.Cl×Ct)}{G:List (Wpl.Cl×Ce)}(i:Nat),Mt w lo F G->Mt w lo (F.set i (x,f)) (G.set i (x,g))
 |[],[],i,_=>trivial
 |a::F,b::G,0,h=>⟨⟨rfl,c⟩,h.2⟩
 |a::F,b::G,i+1,h=>⟨h.1,Mt.set c i h.2⟩
 |[],_::_,i,h=>h.elim
 |_::_,[],i,h=>h.elim
theorem Mt.app{w:wW}{lo:Nat}{x:Wpl.Cl}{f:Ct}{g:Ce}(c:CeP w lo f g):∀{F:List (Wpl.Cl×Ct)}{G:List (Wpl.Cl×Ce)},Mt w lo F G->Mt w lo (F++[(x,f)]) (G++[(x,g)])
 |[],[],_=>⟨⟨rfl,c⟩,trivial⟩
 |a::F,b::G,h=>⟨h.1,Mt.app c h.2⟩
 |[],_::_,h=>h.elim
 |_::_,[],h=>h.elim
theorem Mt.ers{w:wW}{lo:Nat}:∀{F:List (Wpl.Cl×Ct)}{G:List (Wpl.Cl×Ce)}(i:Nat),Mt w lo F G->Mt w lo (F.eraseIdx i) (G.eraseIdx i)
 |[],[],i,_=>trivial
 |a::F,b::G,0,h=>h.2
 |a::F,b::G,i+1,h=>⟨h.1,Mt.ers i h.2⟩
 |[],_::_,i,h=>h.elim
 |_::_,[],i,h=>h.elim
theorem Mt.put{G:List (Wpl.Cl×Ce)}(h:Mt w lo F G)(x:Wpl.Cl){f:Ct}{g:Ce}(e:CeP w lo f g):Mt w lo (V0 x f F) (V0 x g G):=by
 unfold V0;rcases h.find x 0 with⟨c,d⟩|⟨k,a,b,c,d,_⟩
 ·rw[c,d];exact h.app e
 ·rw[c,d];exact h.set e k
theorem Mt.del{G:List (Wpl.Cl×Ce)}(h:Mt w lo F G)(x:Wpl.Cl):Mt w lo (Vb x F) (Vb x G):=by
 unfold Vb;rcases h.find x 0 with⟨c,d⟩|⟨k,a,b,c,d,_⟩
 ·rw[c,d];exact h
 ·rw[c,d];exact h.ers k
def gtE(x:Wpl.Cl)(G:List (Wpl.Cl×Ce)):Ce:=((fnB x G 0).map (λq=>q.2)).getD ce0
theorem Mt.get{G:List (Wpl.Cl×Ce)}(h:Mt w lo F G)(x:Wpl.Cl):CeP w lo (gtC x F) (gtE x G)/\gtH x F=(fnB x G 0).isSome:=by
 unfold gtC gtE gtH;rcases h.find x 0 with⟨c,d⟩|⟨k,a,b,c,d,e⟩
 ·rw[c,d];exact⟨CeP.zero w lo,rfl⟩
 ·rw[c,d];exact⟨e,rfl⟩
theorem Jj{G:List (Wpl.Cl×Ce)}{x:Wpl.Cl}:gtE x G=ce0\/(x,gtE x G)∈G:=by
 unfold gtE;cases c:fnB x G 0 with
 |none=>exact tZ rfl
 |some q =>
  obtain⟨j,d,b⟩:=VF x G 0 q c;exact kZ (iX b)
theorem zCT{G:List (Wpl.Cl×Ce)}(h:KB G){x:Wpl.Cl}{e:Ce}(b:(x,e)∈G):gtE x G=e:=by
 unfold gtE;cases c:fnB x G 0 with
 |none=>exact absurd rfl (zAm x G 0 c _ b)
 |some q =>
  obtain⟨j,g,d⟩:=VF x G 0 q c;exact h.one (iX d) b
structure BK(w:wW)(bb mb lo:Nat)(na:Option dW)(nk:Nat)(nm:List ByteArray)(ver:Int)(G:List (Wpl.Cl×Ce)):Prop where
 hd:AtL w bb [U na nm.length nk,O J ver,.map (wX mb)]
 rs:RdS w na nm
 kp:nm.length<=nk
 nb:∀g o,na=wX ⟨g,o,vX⟩->g≠bb/\g≠mb
 mp:∃F,MB w mb F/\Mt w lo F G
 lt:bb<lo/\mb<lo/\lo<=w.heap.size
 ne:bb≠mb
theorem MB.fr{b:Nat}(h:MB w b F)(j:Fr S w w')(l:b∉S):MB w' b F:=by
 have c:=h.lt;obtain⟨es,d,e,g⟩:=h;exact⟨es,d,by rw[j.block b c l];exact e,g⟩
theorem RdS.fr(h:RdS w na nm)(j:Fr S w w')(l:∀g o,na=wX ⟨g,o,vX⟩->g∉S):RdS w' na nm:=λi hi=>by
 obtain⟨c,b,e,d⟩:=h i hi;exact⟨c,b,e,j.cell d (l c b e)⟩
theorem BK.below{d e:Nat}{g:Nat}{c:Int}{G:List (Wpl.Cl×Ce)}(h:BK w d e lo na g nm c G)(b:bL w w'):BK w' d e lo na g nm c G:=by
 obtain⟨F,j,m2⟩:=h.mp;exact⟨AtL.below b h.hd,RdS.fr h.rs (Fr.of_below [] b) sM,h.kp,h.nb,⟨F,j.fr (Fr.of_below [] b) sM,m2.fr (Fr.of_below [] b) sM⟩,⟨h.lt.1,h.lt.2.1,jZ h.lt.2.2 b.size⟩,h.ne⟩
theorem Mt.mono{w:wW}{lo b:Nat}(c:b<=lo):∀{F:List (Wpl.Cl×Ct)}{G:List (Wpl.Cl×Ce)},Mt w lo F G->Mt w b F G
 |[],[],_=>trivial
 |f::F,g::G,h=>⟨⟨h.1.1,h.1.2.1,h.1.2.2.mono c⟩,Mt.mono c h.2⟩
 |[],_::_,h=>h.elim
 |_::_,[],h=>h.elim
