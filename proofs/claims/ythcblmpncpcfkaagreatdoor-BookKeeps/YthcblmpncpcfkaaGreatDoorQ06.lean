/- Lemmas. -/
import Derived.Test.YthcblmpncpcfkaaGreatDoorQ05
import Derived.Laws.AppendOwnNone
import Derived.Laws.Tables
import Derived.WalkMore
import Derived.Laws.IdiomRangeMap
set_option maxHeartbeats 16000000
set_option maxRecDepth 100000
set_option linter.unusedVariables false
open Option renaming none->qX,some->sX
open Bool renaming true->tX,false->vX
open Nat renaming le_refl->bZ,le_trans->fZ,zero_le->jZ,le_succ->nZ,lt_of_lt_of_le->yZ,zero_add->kY,mul_le_mul_right->uY,eq_zero_or_pos->zY,le_of_succ_le->dX,lt_succ_self->fX,not_lt_zero->jX,lt_or_ge->oX
open Go.RowKit.Below renaming refl->cZ
open List renaming length_cons->dZ,mem_cons_of_mem->eZ,mem_cons_self->gZ,getElem?_eq_getElem->hZ,length_append->kZ,eq_nil_of_length_eq_zero->mZ,map_cons->oZ,length_drop->rZ,map_toArray->vZ,getElem?_append_left->wZ,map_nil->dY,length_take->eY,drop_succ_cons->fY,drop_eq_getElem_cons->gY,length_map->hY,drop_eq_nil_of_le->iY,drop_zero->nY,getElem?_append_right->pY,flatten_cons->qY,getElem_append_left->rY,length_nil->sY,append_nil->tY,flatten_append->wY,getElem?_take->yY,append_assoc->bX,flatten_nil->hX,not_mem_nil->iX,mem_cons->lX,sum_cons->nX
open Go.World renaming there->iZ,size_alloc->qZ,grownBy_alloc->mY,size_setCell->oY,ownsRow->vY,ownsRow_nil->eX
open Go.Result renaming andThen_ok->sZ
open Or renaming inr->tZ,inl->uZ
open Int renaming le_refl->xZ
open ByteArray renaming size_extract->zZ,ext->xY
open Go.Sem renaming run_bind->bY,run_pure->cY
open Go.IntKind renaming wrap_i64->jY
open Array renaming length_toList->lY,ext'->kX
open Go renaming World->wW,Value->vW,Calls->cW,Addr->dW
open Go.RowKit renaming Hid->hH
open Go.Value renaming int->O,slice->U,string->V,bool->Y,pointer->pX,agg->gX,tuple->uX
open Go.IntKind renaming i64->J
open Go.Obj renaming cells->Z
open Go.Ending renaming returned->rX
open Go.Operand renaming tmp->mX
namespace Go.Proofs.YthcblmpncpcfkaaGreatDoor
open Tryz
variable {w w' W:wW}{sub:List Wlx.TV->PR}{ts r:List Wlx.TV}{B n N cap base:Nat}{en c p:Int}{v sl:vW}{l:List UInt8}{P:Program}{op:Oper}{a:Act}{Q:Exit->Act->wW->Prop}{s:ByteArray}{av:Option dW}
open Go.RowKit Go.Shelf
theorem zD0(kp:Nat)(en:Int)(sub:List Wlx.TV->PR)(n:Nat)(R:Vw kp en 173 sub n):zLG kp en 5 sub n:=by
 intro ts w h T A z hE;have d:=QI (cZ _ w) (Z zP0 150);have F:AtL (w.alloc (Z zP0 150)) w.heap.size (QJ (bare 0) (U qX 0 0)):=AtL.new0 w _ _;have D:=h.below d;have g:=hE.below d;have K:=h.lt;cases hs:sub ts with
 |inr q =>
  obtain⟨c,p⟩:=q;simp only[QS];go_enter func145,ntmps145;have m:=F;have E:=D;have i:=g;have j:=QD d (sX kp);clear F D d g;go_wp2_with fail
  refine(R ts _ E T A z i).mono ?_;rintro e H u;rw[hs]at u;simp only[QS]at u;obtain⟨rfl,y⟩:=u;unfold J1;go_wp2;exact⟨rfl,rfl,QC j y⟩
 |inl q =>
  obtain⟨row,r2⟩:=q;simp only[QS];go_enter func145,ntmps145;have m:=F;have E:=D;have i:=g;have j:=QD d (sX kp);clear F D d g;have aa:=m.lt;go_wp2_with fail
  refine(R ts _ E T A z i).mono ?_;rintro e H u;rw[hs]at u;simp only[QS]at u;obtain⟨v,rfl,hP,h3,y⟩:=u;have C:=m.grown y (by intro e;have:=Option.some.inj e;omega);have I:=QC j y;obtain⟨nn,x,sl,rfl,X⟩:=hP;obtain⟨av,len,cap,rfl⟩:=X.one;have L:iZ H w.heap.size 0 (QJ x (U av len cap)).toArray.size:=C.there;clear m j i E y;unfold ptV;go_wp2_with ((with_reducible refine stQ 150 (mX 4) (mX 11) (w.heap.size) 0 (QJ x (U av len cap)).toArray ?_ ?_ ?_);exact L;exact Qr _ _ rfl)
  have M:AtL (H.setCells w.heap.size 0 (QJ x (U av len cap))) w.heap.size (QJ x (U av len cap)):=C.setAll rfl;refine bodyPost_ret (QQ rfl _ _ w.heap.size (QJ x (U av len cap)) _ rfl M.range underlying150 rfl kR) rfl ?_;exact⟨_,rfl,(Pt.far (show Pt H _ (ptV x (U av len cap)) row from⟨nn,x,_,rfl,X⟩) oM 0 _).mono oM,h3.farAll K _ 0,QP I (bZ _) _ 0⟩
def Vd(sub:List Wlx.TV->PR)(en:Int)(ts:List Wlx.TV):PR:=match sub ts with
 | .inr e=>.inr e
 | .inl (row,[])=>.inl (row,[])
 | .inl (_,t::r)=>.inr (50,pos (t::r) en)
theorem zNv(kp:Nat)(en:Int)(sub:List Wlx.TV->PR)(n:Nat)(HF:zCQ kp en sub n)(ab:∀ts row r,sub ts=.inl (row,r)->r <:+ ts)(ts:List Wlx.TV)(w:wW)(h:PSt w kp ts en)(hn:ts.length<=n)(K:ts.length<=1024)(H:∀t∈ts,Qe t)(hE:Env w) :
  cW prog 79 #[pX (sX ⟨kp,0,qX⟩)] w λe w'=>QS kp en (Vd sub en ts) w e w':=by
 have j:=QI (cZ _ w) (Z zP0 150);have R:AtL (w.alloc (Z zP0 150)) w.heap.size (QJ (bare 0) (U qX 0 0)):=AtL.new0 w _ _;have T:=h.below j;have y:=hE.below j;have ac:=h.lt;unfold Vd;cases hs:sub ts with
 |inr q =>
  obtain⟨c,p⟩:=q;simp only[QS];go_enter func79,ntmps79;go_wp2_with fail
  generalize w.alloc (Z zP0 150)=wa at*;refine(HF ts _ T hn K H y).mono ?_;rintro e d A;rw[hs]at A;simp only[QS]at A;obtain⟨rfl,hg⟩:=A;unfold J1;go_wp2;exact⟨rfl,rfl,QC (QD j (sX kp)) hg⟩
 |inl q =>
  obtain⟨row,r⟩:=q;have hl:=(ab _ _ _ hs).length_le;cases r with
  |cons t r =>
   simp only[QS];have M0:=λw h=>Qp kp (t::r) en w h
   unfold J1 at M0 ⊢;go_enter func79,ntmps79;go_wp2_with fail
   generalize w.alloc (Z zP0 150)=wa at*;refine(HF ts _ T hn K H y).mono ?_;rintro e d A;rw[hs]at A;simp only[QS]at A;obtain⟨v,rfl,hP,D,C⟩:=A;have af:=R.lt;have u:=R.grown C (by intro e;have:=Option.some.inj e;omega);have z:=QC (QD j (sX kp)) C;obtain⟨nn,x,sl,rfl,I⟩:=hP;obtain⟨av,len,cap,rfl⟩:=I.one;clear R j y T;unfold ptV;have m:AtL (d.alloc (Z zP0 150)) d.heap.size (QJ (bare 0) (U qX 0 0)):=AtL.new0 d _ _;have i:iZ (d.alloc (Z zP0 150)) d.heap.size 0 (QJ x (U av len cap)).toArray.size:=m.there;go_upto_region 2 with((with_reducible refine stQ 150 (mX 3) (mX 5) (d.heap.size) 0 (QJ x (U av len cap)).toArray ?_ ?_ ?_);exact i;exact Qr _ _ rfl)
   have g:=Ql (QI (cZ _ d) (Z zP0 150)) (bZ d.heap.size) (QJ x (U av len cap)) 0;have pXpX0:AtL ((d.alloc (Z zP0 150)).setCells d.heap.size 0 (QJ x (U av len cap))) d.heap.size (QJ x (U av len cap)):=m.setAll rfl;have L:=AtL.below g u;have X:=D.below g;have F:=QC z (QD g (sX kp));have aa:=Pt.below (v:=ptV x (U av len cap)) ⟨nn,x,_,rfl,I⟩ g;have ad:kp<d.heap.size:=D.lt;have ag:=u.lt;clear m i g u D z I;generalize(d.alloc (Z zP0 150)).setCells d.heap.size 0 (QJ x (U av len cap))=w3 at*;generalize d.heap.size=kx at*;have E:=X;obtain⟨tv,tc,q1,q2,q3⟩:=E;obtain⟨c0,c1,f0,f1⟩:=q2.two;have ai:(((t::r).length:Int) == 0)=vX:=by rw[beq_eq_false_iff_ne];simp;omega
   clear q1 q2 q3 h;generalize(t::r).length=ln at*;go_wp2_with fail
   refine(M0 _ X).mono ?_;rintro e w5 ⟨rfl,hb⟩;go_wp2;exact⟨rfl,rfl,QC F (QD hb (sX kp))⟩
  |nil =>
   simp only[QS];go_enter func79,ntmps79;go_wp2_with fail
   generalize w.alloc (Z zP0 150)=wa at*;refine(HF ts _ T hn K H y).mono ?_;rintro e d A;rw[hs]at A;simp only[QS]at A;obtain⟨v,rfl,hP,D,C⟩:=A;have af:=R.lt;have u:=R.grown C (by intro e;have:=Option.some.inj e;omega);have z:=QC (QD j (sX kp)) C;obtain⟨nn,x,sl,rfl,I⟩:=hP;obtain⟨av,len,cap,rfl⟩:=I.one;clear R j y T;unfold ptV;have m:AtL (d.alloc (Z zP0 150)) d.heap.size (QJ (bare 0) (U qX 0 0)):=AtL.new0 d _ _;have i:iZ (d.alloc (Z zP0 150)) d.heap.size 0 (QJ x (U av len cap)).toArray.size:=m.there;go_upto_region 2 with((with_reducible refine stQ 150 (mX 3) (mX 5) (d.heap.size) 0 (QJ x (U av len cap)).toArray ?_ ?_ ?_);exact i;exact Qr _ _ rfl)
   have g:=Ql (QI (cZ _ d) (Z zP0 150)) (bZ d.heap.size) (QJ x (U av len cap)) 0;have pXpX0:AtL ((d.alloc (Z zP0 150)).setCells d.heap.size 0 (QJ x (U av len cap))) d.heap.size (QJ x (U av len cap)):=m.setAll rfl;have L:=AtL.below g u;have X:=D.below g;have F:=QC z (QD g (sX kp));have aa:=Pt.below (v:=ptV x (U av len cap)) ⟨nn,x,_,rfl,I⟩ g;have ad:kp<d.heap.size:=D.lt;have ag:=u.lt;clear m i g u D z I;generalize(d.alloc (Z zP0 150)).setCells d.heap.size 0 (QJ x (U av len cap))=w3 at*;generalize d.heap.size=kx at*;have E:=X;obtain⟨tv,tc,q1,q2,q3⟩:=E;obtain⟨c0,c1,f0,f1⟩:=q2.two;simp only[sY]at c0;go_wp2_with fail
   refine(Qa kp _).mono ?_;rintro e w5 ⟨rfl,rfl⟩;have M:=pXpX0.range;have ae:iZ w3 w.heap.size 0 (QJ x (U av len cap)).toArray.size:=L.there;go_wp2_with (first|((with_reducible refine wpList_load_mid (cs:=QJ x (U av len cap)) ?_ 150 (mX 3) ?_ kx 0 ?_ _ ?_ underlying150 ?_ ?_ ?_);rfl;rfl;rfl;exact M;rfl;kernel_rfl)|((with_reducible refine stQ 150 (mX 2) (mX 14) (w.heap.size) 0 (QJ x (U av len cap)).toArray ?_ ?_ ?_);exact ae;exact Qr _ _ rfl))
   have ah:AtL (w3.setCells w.heap.size 0 (QJ x (U av len cap))) w.heap.size (QJ x (U av len cap)):=L.setAll rfl;refine bodyPost_ret (QQ rfl _ _ w.heap.size (QJ x (U av len cap)) _ rfl ah.range underlying150 rfl kR) rfl ?_;exact⟨_,rfl,(aa.far oM 0 _).mono oM,X.farAll ac _ 0,QP F (bZ _) _ 0⟩
theorem zGC{m:List UInt8}(h:fol ts m=tX):∃a b r,ts=a::b::r:=by
 match ts,h with
 |a::b::r,_=>exact⟨a,b,r,rfl⟩
def zMx(kp:Nat)(en:Int)(sub:List UInt8->List Wlx.TV->PR)(n:Nat):Prop :=
 ∀(nm:List UInt8)(ts:List Wlx.TV)(w:wW),PSt w kp ts en->ts.length<=n->ts.length<=1024->(∀t∈ts,Qe t)->(hd ts en).t=nm->fol ts [40]=tX->Env w->cW prog 253 #[pX (sX ⟨kp,0,qX⟩),V ⟨nm.toArray⟩] w λe w'=>QS kp en (sub nm ts) w e w'
def pwd(d:List UInt8->List Wlx.TV->PR)(en:Int)(ts:List Wlx.TV):PR :=
 if fol ts [40]then d (hd ts en).t ts
 else if fol ts [33]then(if Wt.shNm ⟨(hd ts en).t.toArray⟩then pcs ⟨(hd ts en).t.toArray⟩ (ts.drop 2) en else .inr (50,pos ts en))
 else if(hd ts en).t=[84,82,85,69]then .inl ([JO (Qd tX)],ts.drop 1)
 else if(hd ts en).t=[70,65,76,83,69]then .inl ([JO (Qd vX)],ts.drop 1)
 else pcs ⟨#[]⟩ ts en
theorem zKo(kp:Nat)(en:Int)(al:List UInt8->List Wlx.TV->PR)(n:Nat)(HC:zMx kp en al n)(ts:List Wlx.TV)(w:wW)(h:PSt w kp ts en)(hn:ts.length<=n)(F:ts.length<=1024)(ad:∀t∈ts,Qe t)(aq:(hd ts en).k=3)(hE:Env w)(ac:8<=kp) :
  cW prog 247 #[pX (sX ⟨kp,0,qX⟩)] w λe w'=>QS kp en (pwd al en ts) w e w':=by
 have j:=QI (cZ _ w) (Z zP0 150);have C:AtL (w.alloc (Z zP0 150)) w.heap.size (QJ (bare 0) (U qX 0 0)):=AtL.new0 w _ _;have z:=h.below j;have y:=hE.below j;have ai:=h.lt;have N:=λw h=>JJ kp ts en w h
 have H:=λw h=>zAV kp ts en [40] w h F
 have T:=λw h=>zAV kp ts en [33] w h F
 have ay:=zFr;have ao:(hd ts en).t.length<=1024:=(zAk en ad).1;have SN:=λw=>zJJ ⟨(hd ts en).t.toArray⟩ w (by show(hd ts en).t.length<=_;omega)
 have HC:=λw h hf hE=>HC (hd ts en).t ts w h hn F ad rfl hf hE
 have M0:=λw h=>Qp kp ts en w h
 obtain⟨r0,M⟩:∃r,ts=hd ts en::r:=by
  cases ts with
  |nil=>exact absurd aq (by show¬(0:Int)=3;decide)
  |cons a r=>exact⟨r,rfl⟩
 unfold pwd;unfold pos J1 at M0;unfold pos;obtain⟨t,ht⟩:=xV (hd ts en)
 rw[ht]at N SN HC M0 M ⊢;clear ht ao aq;obtain⟨k,x,p⟩:=t;unfold tkV at N;simp only at N SN HC M0 ⊢;cases aa:fol ts [40]with
 |true =>
  rw[aa]at H;replace HC:=λw h hE=>HC w h aa hE
  rw[if_pos rfl];clear M;cases hs:al x ts with
  |inr q =>
   obtain⟨c,pq⟩:=q;simp only[QS];go_enter func247,ntmps247;go_wp2_with fail
   generalize w.alloc (Z zP0 150)=wa at*;refine(N _ z).mono ?_;rintro e wb ⟨rfl,d⟩;replace C:=AtL.below d C
   replace z:=z.below d
   replace y:=y.below d
   replace j:=QA j d
   clear d;go_wp2_with fail
   refine(H _ z).mono ?_;rintro e w1 ⟨rfl,d⟩;have g:=AtL.below d C;have A:=z.below d;have u:=y.below d;have m:=QA j d;have i:=QD m (sX kp);clear d C z j y N H;go_wp2_with fail
   refine(HC _ A u).mono ?_;rintro e X E;rw[hs]at E;simp only[QS]at E;obtain⟨rfl,L⟩:=E;unfold J1;go_wp2;exact⟨rfl,rfl,QC i L⟩
  |inl q =>
   obtain⟨row,r2⟩:=q;simp only[QS];go_enter func247,ntmps247;go_wp2_with fail
   generalize w.alloc (Z zP0 150)=wa at*;refine(N _ z).mono ?_;rintro e wb ⟨rfl,d⟩;replace C:=AtL.below d C
   replace z:=z.below d
   replace y:=y.below d
   replace j:=QA j d
   clear d;go_wp2_with fail
   refine(H _ z).mono ?_;rintro e w1 ⟨rfl,d⟩;have g:=AtL.below d C;have A:=z.below d;have u:=y.below d;have m:=QA j d;have i:=QD m (sX kp);clear d C z j y N H;have ar:=g.lt;go_wp2_with fail
   refine(HC _ A u).mono ?_;rintro e X E;rw[hs]at E;simp only[QS]at E;obtain⟨v,rfl,hP,h3,L⟩:=E;have R:=g.grown L (by intro e;have:=Option.some.inj e;omega);have ae:=QC i L;obtain⟨nn,x,sl,rfl,hp⟩:=hP;obtain⟨av,len,cap,rfl⟩:=hp.one;have I:iZ X w.heap.size 0 (QJ x (U av len cap)).toArray.size:=R.there;clear g i u A L;unfold ptV;go_wp2_with ((with_reducible refine stQ 150 (mX 2) (mX 12) (w.heap.size) 0 (QJ x (U av len cap)).toArray ?_ ?_ ?_);exact I;exact Qr _ _ rfl)
   have K:AtL (X.setCells w.heap.size 0 (QJ x (U av len cap))) w.heap.size (QJ x (U av len cap)):=R.setAll rfl;refine bodyPost_ret (QQ rfl _ _ w.heap.size (QJ x (U av len cap)) _ rfl K.range underlying150 rfl kR) rfl ?_;exact⟨_,rfl,(Pt.far (show Pt X _ (ptV x (U av len cap)) row from⟨nn,x,_,rfl,hp⟩) oM 0 _).mono oM,h3.farAll ai _ 0,QP ae (bZ _) _ 0⟩
 |false =>
  rw[aa]at H;rw[if_neg dM];clear HC;cases ab:fol ts [33]with
  |true =>
   rw[ab]at T;rw[if_pos rfl];obtain⟨a,b,r,hr⟩:=zGC ab;have au:a=⟨k,x,p⟩:=by rw[hr]at M;exact(List.cons.inj M).1
   subst au;cases ap:Wt.shNm ⟨x.toArray⟩with
   |false =>
    rw[ap]at SN;rw[if_neg dM];simp only[QS];unfold J1;go_enter func247,ntmps247;go_wp2_with fail
    generalize w.alloc (Z zP0 150)=wa at*;refine(N _ z).mono ?_;rintro e wb ⟨rfl,d⟩;replace C:=AtL.below d C
    replace z:=z.below d
    replace y:=y.below d
    replace j:=QA j d
    clear d;go_wp2_with fail
    refine(H _ z).mono ?_;rintro e w1 ⟨rfl,d⟩;have g:=AtL.below d C;have A:=z.below d;have u:=y.below d;have m:=QA j d;have i:=QD m (sX kp);clear d C z j y N H;go_wp2_with fail
    refine(T _ A).mono ?_;rintro e w2 ⟨rfl,d⟩;replace g:=AtL.below d g
    replace A:=A.below d
    replace u:=u.below d
    replace m:=QA m d
    clear i;have i:=QD m (sX kp);clear d T;go_wp2_with fail
    refine(SN _).mono ?_;rintro e w4 ⟨rfl,rfl⟩;go_wp2_with fail
    refine(M0 _ A).mono ?_;rintro e w5 ⟨rfl,d⟩;go_wp2;exact⟨rfl,rfl,QC i (QD d (sX kp))⟩
   |true =>
    rw[ap]at SN;rw[if_pos rfl];subst hr;clear M aa ab;simp only[fY,nY];cases hs:pcs ⟨x.toArray⟩ r en with
    |inr q =>
     obtain⟨c,pq⟩:=q;simp only[QS];go_enter func247,ntmps247;go_wp2_with fail
     generalize w.alloc (Z zP0 150)=wa at*;refine(N _ z).mono ?_;rintro e wb ⟨rfl,d⟩;replace C:=AtL.below d C
     replace z:=z.below d
     replace y:=y.below d
     replace j:=QA j d
     clear d;go_wp2_with fail
     refine(H _ z).mono ?_;rintro e w1 ⟨rfl,d⟩;have g:=AtL.below d C;have A:=z.below d;have u:=y.below d;have m:=QA j d;have i:=QD m (sX kp);clear d C z j y N H;go_wp2_with fail
     refine(T _ A).mono ?_;rintro e w2 ⟨rfl,d⟩;replace g:=AtL.below d g
     replace A:=A.below d
     replace u:=u.below d
     replace m:=QA m d
     clear i;have i:=QD m (sX kp);clear d T;go_wp2_with fail
     refine(SN _).mono ?_;rintro e w4 ⟨rfl,rfl⟩;go_wp2_with fail
     refine(Qa kp _).mono ?_;rintro e w4 ⟨rfl,rfl⟩;have P:=JH 2 kp [⟨k,x,p⟩,b] r en _ A rfl dM F;go_wp2_with fail
     refine P.mono ?_;rintro e w4 ⟨rfl,h4,D⟩;have an:=g.lt;replace g:=g.grown D (by intro e;have:=Option.some.inj e;omega)
     replace i:=QC i D
     replace u:=u.grown D ac
     clear A P D;have A:=h4;clear h4;go_wp2_with fail
     refine(zAx kp ⟨x.toArray⟩ r en _ A (by simp at F;omega) (λt ht=>ad t (by simp[ht])) u ac).mono ?_;rintro e X E;rw[hs]at E;simp only[QS]at E;obtain⟨rfl,L⟩:=E;unfold J1;go_wp2;exact⟨rfl,rfl,QC i L⟩
    |inl q =>
     obtain⟨row,r2⟩:=q;simp only[QS];go_enter func247,ntmps247;go_wp2_with fail
     generalize w.alloc (Z zP0 150)=wa at*;refine(N _ z).mono ?_;rintro e wb ⟨rfl,d⟩;replace C:=AtL.below d C
     replace z:=z.below d
     replace y:=y.below d
     replace j:=QA j d
     clear d;go_wp2_with fail
     refine(H _ z).mono ?_;rintro e w1 ⟨rfl,d⟩;have g:=AtL.below d C;have A:=z.below d;have u:=y.below d;have m:=QA j d;have i:=QD m (sX kp);clear d C z j y N H;go_wp2_with fail
     refine(T _ A).mono ?_;rintro e w2 ⟨rfl,d⟩;replace g:=AtL.below d g
     replace A:=A.below d
     replace u:=u.below d
     replace m:=QA m d
     clear i;have i:=QD m (sX kp);clear d T;go_wp2_with fail
     refine(SN _).mono ?_;rintro e w4 ⟨rfl,rfl⟩;go_wp2_with fail
     refine(Qa kp _).mono ?_;rintro e w4 ⟨rfl,rfl⟩;have P:=JH 2 kp [⟨k,x,p⟩,b] r en _ A rfl dM F;go_wp2_with fail
     refine P.mono ?_;rintro e w4 ⟨rfl,h4,D⟩;have an:=g.lt;replace g:=g.grown D (by intro e;have:=Option.some.inj e;omega)
     replace i:=QC i D
     replace u:=u.grown D ac
     clear A P D;have A:=h4;clear h4;have ar:=g.lt;go_wp2_with fail
     refine(zAx kp ⟨x.toArray⟩ r en _ A (by simp at F;omega) (λt ht=>ad t (by simp[ht])) u ac).mono ?_;rintro e X E;rw[hs]at E;simp only[QS]at E;obtain⟨v,rfl,hP,h3,L⟩:=E;have R:=g.grown L (by intro e;have:=Option.some.inj e;omega);have ae:=QC i L;obtain⟨nn,x,sl,rfl,hp⟩:=hP;obtain⟨av,len,cap,rfl⟩:=hp.one;have I:iZ X w.heap.size 0 (QJ x (U av len cap)).toArray.size:=R.there;clear g i u A L;unfold ptV;go_wp2_with ((with_reducible refine stQ 150 (mX 2) (mX 24) (w.heap.size) 0 (QJ x (U av len cap)).toArray ?_ ?_ ?_);exact I;exact Qr _ _ rfl)
     have K:AtL (X.setCells w.heap.size 0 (QJ x (U av len cap))) w.heap.size (QJ x (U av len cap)):=R.setAll rfl;refine bodyPost_ret (QQ rfl _ _ w.heap.size (QJ x (U av len cap)) _ rfl K.range underlying150 rfl kR) rfl ?_;exact⟨_,rfl,(Pt.far (show Pt X _ (ptV x (U av len cap)) row from⟨nn,x,_,rfl,hp⟩) oM 0 _).mono oM,h3.farAll ai _ 0,QP ae (bZ _) _ 0⟩
  |false =>
   rw[ab]at T;rw[if_neg dM];by_cases hT:x=[84,82,85,69]
   ·rw[if_pos hT];subst M;generalize r0=r at*;subst hT;clear aa ab;simp only[fY,nY,QS];go_enter func247,ntmps247;go_wp2_with fail
    generalize w.alloc (Z zP0 150)=wa at*;refine(N _ z).mono ?_;rintro e wb ⟨rfl,d⟩;replace C:=AtL.below d C
    replace z:=z.below d
    replace y:=y.below d
    replace j:=QA j d
    clear d;go_wp2_with fail
    refine(H _ z).mono ?_;rintro e w1 ⟨rfl,d⟩;have g:=AtL.below d C;have A:=z.below d;have u:=y.below d;have m:=QA j d;have i:=QD m (sX kp);clear d C z j y N H;go_wp2_with fail
    refine(T _ A).mono ?_;rintro e w2 ⟨rfl,d⟩;replace g:=AtL.below d g
    replace A:=A.below d
    replace u:=u.below d
    replace m:=QA m d
    clear i;have i:=QD m (sX kp);clear d T;have P:=JH 1 kp [_] r en _ A rfl dM F;go_wp2_with fail
    refine P.mono ?_;rintro e w4 ⟨rfl,h4,D⟩;have an:=g.lt;have aj:=g.grown D (by intro e;have:=Option.some.inj e;omega);have af:=QC i D;clear A P D g i u;have V1:=λw=>zA4 tX w
    have K1:=λw=>zBx (Qd tX) w
    simp only[vlV,vl6,Qd]at V1 K1;go_wp2_with fail
    refine(V1 _).mono ?_;rintro e w5 ⟨rfl,ag⟩;go_wp2_with fail
    refine(K1 _).mono ?_;rintro e w6 ⟨rfl,ah⟩;have d:=QA ag ah;have ak:=AtL.below d aj;have h6:=h4.below d;have am:=QC af (QD d (sX kp));have I:iZ w6 w.heap.size 0 (QJ (JO (Qd tX)) (U qX 0 0)).toArray.size:=ak.there;clear ag ah d aj h4 af;unfold ptV;go_wp2_with ((with_reducible refine stQ 150 (mX 2) (mX 37) (w.heap.size) 0 (QJ (JO (Qd tX)) (U qX 0 0)).toArray ?_ ?_ ?_);exact I;exact Qr _ _ rfl)
    have K:AtL (w6.setCells w.heap.size 0 (QJ (JO (Qd tX)) (U qX 0 0))) w.heap.size (QJ (JO (Qd tX)) (U qX 0 0)):=ak.setAll rfl;refine bodyPost_ret (QQ rfl _ _ w.heap.size (QJ (JO (Qd tX)) (U qX 0 0)) _ rfl K.range underlying150 rfl kR) rfl ?_;exact⟨_,rfl,⟨1,_,_,rfl,PtIs.leaf _ _ _⟩,h6.farAll ai _ 0,QP am (bZ _) _ 0⟩
   rw[if_neg hT];have aw:(x == [84,82,85,69])=vX:=by simp[hT]
   by_cases hU:x=[70,65,76,83,69]
   ·rw[if_pos hU];subst M;generalize r0=r at*;subst hU;clear aa ab;simp only[fY,nY,QS];go_enter func247,ntmps247;go_wp2_with fail
    generalize w.alloc (Z zP0 150)=wa at*;refine(N _ z).mono ?_;rintro e wb ⟨rfl,d⟩;replace C:=AtL.below d C
    replace z:=z.below d
    replace y:=y.below d
    replace j:=QA j d
    clear d;go_wp2_with fail
    refine(H _ z).mono ?_;rintro e w1 ⟨rfl,d⟩;have g:=AtL.below d C;have A:=z.below d;have u:=y.below d;have m:=QA j d;have i:=QD m (sX kp);clear d C z j y N H;go_wp2_with fail
    refine(T _ A).mono ?_;rintro e w2 ⟨rfl,d⟩;replace g:=AtL.below d g
    replace A:=A.below d
    replace u:=u.below d
    replace m:=QA m d
    clear i;have i:=QD m (sX kp);clear d T;have P:=JH 1 kp [_] r en _ A rfl dM F;go_wp2_with fail
    refine P.mono ?_;rintro e w4 ⟨rfl,h4,D⟩;have an:=g.lt;have aj:=g.grown D (by intro e;have:=Option.some.inj e;omega);have af:=QC i D;clear A P D g i u;have V1:=λw=>zA4 vX w
    have K1:=λw=>zBx (Qd vX) w
    simp only[vlV,vl6,Qd]at V1 K1;go_wp2_with fail
    refine(V1 _).mono ?_;rintro e w5 ⟨rfl,ag⟩;go_wp2_with fail
    refine(K1 _).mono ?_;rintro e w6 ⟨rfl,ah⟩;have d:=QA ag ah;have ak:=AtL.below d aj;have h6:=h4.below d;have am:=QC af (QD d (sX kp));have I:iZ w6 w.heap.size 0 (QJ (JO (Qd vX)) (U qX 0 0)).toArray.size:=ak.there;clear ag ah d aj h4 af;unfold ptV;go_wp2_with ((with_reducible refine stQ 150 (mX 2) (mX 37) (w.heap.size) 0 (QJ (JO (Qd vX)) (U qX 0 0)).toArray ?_ ?_ ?_);exact I;exact Qr _ _ rfl)
    have K:AtL (w6.setCells w.heap.size 0 (QJ (JO (Qd vX)) (U qX 0 0))) w.heap.size (QJ (JO (Qd vX)) (U qX 0 0)):=ak.setAll rfl;refine bodyPost_ret (QQ rfl _ _ w.heap.size (QJ (JO (Qd vX)) (U qX 0 0)) _ rfl K.range underlying150 rfl kR) rfl ?_;exact⟨_,rfl,⟨1,_,_,rfl,PtIs.leaf _ _ _⟩,h6.farAll ai _ 0,QP am (bZ _) _ 0⟩
   rw[if_neg hU];have ax:(x == [70,65,76,83,69])=vX:=by simp[hU]
   clear M;cases hs:pcs ⟨#[]⟩ ts en with
   |inr q =>
    obtain⟨c,pq⟩:=q;simp only[QS];go_enter func247,ntmps247;go_wp2_with fail
    generalize w.alloc (Z zP0 150)=wa at*;refine(N _ z).mono ?_;rintro e wb ⟨rfl,d⟩;replace C:=AtL.below d C
    replace z:=z.below d
    replace y:=y.below d
    replace j:=QA j d
    clear d;go_wp2_with fail
    refine(H _ z).mono ?_;rintro e w1 ⟨rfl,d⟩;have g:=AtL.below d C;have A:=z.below d;have u:=y.below d;have m:=QA j d;have i:=QD m (sX kp);clear d C z j y N H;go_wp2_with fail
    refine(T _ A).mono ?_;rintro e w2 ⟨rfl,d⟩;replace g:=AtL.below d g
    replace A:=A.below d
    replace u:=u.below d
    replace m:=QA m d
    clear i;have i:=QD m (sX kp);clear d T;go_wp2_with fail
    refine(zAx kp ⟨#[]⟩ ts en _ A F ad u ac).mono ?_;rintro e X E;rw[hs]at E;simp only[QS]at E;obtain⟨rfl,L⟩:=E;unfold J1;go_wp2;exact⟨rfl,rfl,QC i L⟩
   |inl q =>
    obtain⟨row,r2⟩:=q;simp only[QS];go_enter func247,ntmps247;go_wp2_with fail
    generalize w.alloc (Z zP0 150)=wa at*;refine(N _ z).mono ?_;rintro e wb ⟨rfl,d⟩;replace C:=AtL.below d C
    replace z:=z.below d
    replace y:=y.below d
    replace j:=QA j d
    clear d;go_wp2_with fail
    refine(H _ z).mono ?_;rintro e w1 ⟨rfl,d⟩;have g:=AtL.below d C;have A:=z.below d;have u:=y.below d;have m:=QA j d;have i:=QD m (sX kp);clear d C z j y N H;go_wp2_with fail
    refine(T _ A).mono ?_;rintro e w2 ⟨rfl,d⟩;replace g:=AtL.below d g
    replace A:=A.below d
    replace u:=u.below d
    replace m:=QA m d
    clear i;have i:=QD m (sX kp);clear d T;have ar:=g.lt;go_wp2_with fail
    refine(zAx kp ⟨#[]⟩ ts en _ A F ad u ac).mono ?_;rintro e X E;rw[hs]at E;simp only[QS]at E;obtain⟨v,rfl,hP,h3,L⟩:=E;have R:=g.grown L (by intro e;have:=Option.some.inj e;omega);have ae:=QC i L;obtain⟨nn,x,sl,rfl,hp⟩:=hP;obtain⟨av,len,cap,rfl⟩:=hp.one;have I:iZ X w.heap.size 0 (QJ x (U av len cap)).toArray.size:=R.there;clear g i u A L;unfold ptV;go_wp2_with ((with_reducible refine stQ 150 (mX 2) (mX 39) (w.heap.size) 0 (QJ x (U av len cap)).toArray ?_ ?_ ?_);exact I;exact Qr _ _ rfl)
    have K:AtL (X.setCells w.heap.size 0 (QJ x (U av len cap))) w.heap.size (QJ x (U av len cap)):=R.setAll rfl;refine bodyPost_ret (QQ rfl _ _ w.heap.size (QJ x (U av len cap)) _ rfl K.range underlying150 rfl kR) rfl ?_;exact⟨_,rfl,(Pt.far (show Pt X _ (ptV x (U av len cap)) row from⟨nn,x,_,rfl,hp⟩) oM 0 _).mono oM,h3.farAll ai _ 0,QP ae (bZ _) _ 0⟩
def Pts(w:wW)(lo:Nat)(sl:vW)(c:Nat)(g:List Wt.Nd):Prop :=
 ∃(n:Nat)(av:Option dW)(cap:Nat)(e:List (Wt.Nd×vW))(d:List (List Wt.Nd)),sl=U av c cap/\e.length=c/\d.length=c/\g=d.flatten /\
  ∀i (h:i<e.length) (j:i<d.length),∃bb,av=sX ⟨bb,0,qX⟩/\lo<=bb/\w.rangeAt bb (i*21) (QJ (e[i]).1 (e[i]).2)/\PtIs w (λb=>lo<=b) n (e[i]).1 (e[i]).2 (d[i])
theorem Pts.node{lo:Nat}{c:Nat}{d:List Wt.Nd}(h:Pts w lo sl c d)(x:Wt.Nd):∃n,PtIs w (λb=>lo<=b) n x sl (x::d):=by
 obtain⟨n,av,cap,m,e,rfl,g,i,rfl,j⟩:=h;exact⟨n+1,av,cap,m,e,by rw[g],by rw[g,i],rfl,j⟩
abbrev AR:Type:=(Nat×List Wt.Nd×List Wlx.TV)⊕(Int×Int)
def zIL(kp:Nat)(en:Int)(r:AR)(w:wW)(e:Ending)(w':wW):Prop:=match r with
 | .inl (c,rows,rest)=>∃sl,e=rX sl/\Pts w' w.heap.size sl c rows/\PSt w' kp rest en/\w.grownBy w' (sX kp)
 | .inr (c,p)=>e=J1 c p/\w.grownBy w' (sX kp)
def zP6(kp:Nat)(en:Int)(sub:List Wlx.TV->AR)(n:Nat):Prop :=
 ∀(ts:List Wlx.TV)(w:wW),PSt w kp ts en->ts.length<=n->ts.length<=1024->(∀t∈ts,Qe t)->Env w->cW prog 259 #[pX (sX ⟨kp,0,qX⟩)] w λe w'=>zIL kp en (sub ts) w e w'
def pca(d:List Wlx.TV->AR)(en:Int)(nm:List UInt8)(ts:List Wlx.TV):PR :=
 if Wt.fnNm ⟨nm.toArray⟩then(match d (ts.drop 2)with
  | .inr e=>.inr e
  | .inl (c,rows,r)=>.inl (Jw ⟨nm.toArray⟩ c::rows,r))
 else .inr (50,pos ts en)
theorem zKc(kp:Nat)(en:Int)(i:List Wlx.TV->AR)(n:Nat)(HA:zP6 kp en i n)(I:8<=kp):zMx kp en (pca i en) (n+2):=by
 intro nm ts w h hn x A K F hE;have g:=QI (cZ _ w) (Z zP0 150);have C:AtL (w.alloc (Z zP0 150)) w.heap.size (QJ (bare 0) (U qX 0 0)):=AtL.new0 w _ _;have E:=h.below g;have j:=hE.below g;have X:=h.lt;obtain⟨a,b,r,hr⟩:=zGC F;have ad:nm.length<=1024:=by rw[<-K];exact(zAk en A).1
 have D:=λw=>zJV ⟨nm.toArray⟩ w (by show nm.length<=_;omega)
 have M0:=λw h=>Qp kp ts en w h
 unfold pca;clear K F;cases hq:Wt.fnNm ⟨nm.toArray⟩with
 |false =>
  rw[hq]at D;rw[if_neg dM];simp only[QS];unfold J1 at M0 ⊢;clear hr;go_enter func253,ntmps253;go_wp2_with fail
  generalize w.alloc (Z zP0 150)=wa at*;refine(D _).mono ?_;rintro e wb ⟨rfl,rfl⟩;go_wp2_with fail
  refine(M0 _ E).mono ?_;rintro e w5 ⟨rfl,hb⟩;go_wp2;exact⟨rfl,rfl,QC (QD g (sX kp)) (QD hb (sX kp))⟩
 |true =>
  rw[hq]at D;rw[if_pos rfl];subst hr;simp only[fY,nY];cases hs:i r with
  |inr q =>
   obtain⟨c,p⟩:=q;simp only[QS];go_enter func253,ntmps253;go_wp2_with fail
   generalize w.alloc (Z zP0 150)=wa at*;refine(D _).mono ?_;rintro e wb ⟨rfl,rfl⟩;go_wp2_with fail
   refine(Qa kp _).mono ?_;rintro e w4 ⟨rfl,rfl⟩;have P:=JH 2 kp [a,b] r en _ E rfl dM x;go_wp2_with fail
   refine P.mono ?_;rintro e w1 ⟨rfl,M,d⟩;have hz:=C.lt;have y:=C.grown d (by intro e;have:=Option.some.inj e;omega);have u:=QC (QD g (sX kp)) d;have m:=j.grown d I;have aa:=d.size;clear C E g j P d;go_wp2_with fail
   refine(HA r _ M (by simp at hn;omega) (by simp at x;omega) (λt ht=>A t (by simp[ht])) m).mono ?_;rintro e R z;rw[hs]at z;simp only[zIL]at z;obtain⟨rfl,H⟩:=z;unfold J1;go_wp2;exact⟨rfl,rfl,QC u H⟩
  |inl q =>
   obtain⟨c,ae,r2⟩:=q;simp only[QS];go_enter func253,ntmps253;go_wp2_with fail
   generalize w.alloc (Z zP0 150)=wa at*;refine(D _).mono ?_;rintro e wb ⟨rfl,rfl⟩;go_wp2_with fail
   refine(Qa kp _).mono ?_;rintro e w4 ⟨rfl,rfl⟩;have P:=JH 2 kp [a,b] r en _ E rfl dM x;go_wp2_with fail
   refine P.mono ?_;rintro e w1 ⟨rfl,M,d⟩;have hz:=C.lt;have y:=C.grown d (by intro e;have:=Option.some.inj e;omega);have u:=QC (QD g (sX kp)) d;have m:=j.grown d I;have aa:=d.size;clear C E g j P d;go_wp2_with fail
   refine(HA r _ M (by simp at hn;omega) (by simp at x;omega) (λt ht=>A t (by simp[ht])) m).mono ?_;rintro e R z;rw[hs]at z;simp only[zIL]at z;obtain⟨sl,rfl,hP,h2,H⟩:=z;obtain⟨nn,hp⟩:=hP.node (Jw ⟨nm.toArray⟩ c);obtain⟨_,av,cap,_,_,rfl,_⟩:=hP;have af:=y.lt;have L:=y.grown H (by intro e;have:=Option.some.inj e;omega);have T:=QC u H;have ab:iZ R w.heap.size 0 (QJ (Jw ⟨nm.toArray⟩ c) (U av c cap)).toArray.size:=L.there;clear y u m M H;go_wp2_with ((with_reducible refine stQ 150 (mX 4) (mX 19) (w.heap.size) 0 (QJ (Jw ⟨nm.toArray⟩ c) (U av c cap)).toArray ?_ ?_ ?_);exact ab;exact Qr _ _ rfl)
   have ac:AtL (R.setCells w.heap.size 0 (QJ (Jw ⟨nm.toArray⟩ c) (U av c cap))) w.heap.size (QJ (Jw ⟨nm.toArray⟩ c) (U av c cap)):=L.setAll rfl;refine bodyPost_ret (QQ rfl _ _ w.heap.size (QJ (Jw ⟨nm.toArray⟩ c) (U av c cap)) _ rfl ac.range underlying150 rfl kR) rfl ?_;exact⟨_,rfl,(Pt.far (show Pt R _ (ptV (Jw ⟨nm.toArray⟩ c) (U av c cap)) _ from⟨nn,_,_,rfl,hp⟩) oM 0 _).mono oM,h2.farAll X _ 0,QP T (bZ _) _ 0⟩
open Go.RowKit
def tv3(t:Wlx.TV):List vW:=[O J t.k,V ⟨t.t.toArray⟩,O J t.p]
def Vu(ts:List Wlx.TV):List vW:=ts.flatMap tv3
theorem zFa:∀(ts:List Wlx.TV)(i:Nat)(h:i<ts.length),(Vu ts)[i*3]?=sX (O J (ts[i]).k)/\(Vu ts)[i*3+1]?=sX (V ⟨(ts[i]).t.toArray⟩)/\(Vu ts)[i*3+2]?=sX (O J (ts[i]).p)
 |[],i,h=>by simp at h
 |t::r,0,_=>⟨rfl,rfl,rfl⟩
 |t::r,i+1,h=>by
  obtain⟨d,g,m⟩:=zFa r i (by simpa using h);have e:∀j,(Vu (t::r))[j+3]?=(Vu r)[j]?:=λj=>rfl
  rw[show(i+1)*3=i*3+3 by omega,show i*3+3+1=i*3+1+3 by omega,show i*3+3+2=i*3+2+3 by omega,e,e,e];exact⟨d,g,m⟩
theorem zOF(ts:List Wlx.Tok):Vu (ts.map Wlx.tv)=XF ts:=by
 induction ts with
 |nil=>rfl
 |cons t r d =>
  show tv3 (Wlx.tv t)++Vu (r.map Wlx.tv)=zRx t++XF r
  rw[d];rfl
theorem zBa(w:wW)(base:Nat)(t ty e:TypeId)(i:TypeInfo)(z:vW)(size q:Nat)(ht:P.underlying t=sX (.slice e))(hi:P.info? e=sX i)(hz:i.zero=sX z)
  (E:i.size=size) (X:i.bytes=q) (ah:z.cells.size=size) (af:0<size)
  (v:vW) (n:Nat) (xs:List vW) (A:w.ownsRow base e size v n xs)
  (a:dW) (m c:Nat) (d:List vW) (hl:d.length=m*size) (x:∀j u,d[j]?=sX u->w.cell? (a.add j)=sX u) (h1:∀u∈d,u.oneCell'=tX)
  (T:n+m<=maxLen) (y:(n+m)*q<=140737488355328) (I:base<=w.heap.size) :
  ∃R w',(Builtin.append_ #[t,t] ty #[v,U (sX a) m c]).run P w=.ok R w'/\w'.ownsRow base e size R (n+m) (xs++d)/\w.grownBy w' v.ownBlock /\
   (R.ownBlock=v.ownBlock\/R.ownBlock=sX w.heap.size)/\(∀g j,v.ownBlock=sX g->j<n*size->w'.cell? ⟨g,j,qX⟩=w.cell? ⟨g,j,qX⟩):=by
 obtain⟨R,w',L,h2,h3,_,h5⟩:=run_append_own_at (P:=P) w base t ty e i z size q ht hi hz E X ah af v n xs A a m c d hl x h1 T y I;refine⟨R,w',L,h2,h3,h5,?_⟩;intro g j hg hj;subst E X;have ac:n+m<=9223372036854775807:=by simp only[maxLen]at T;omega
 rcases A.2 with⟨rfl,rfl⟩|⟨F,cap,C,rfl,ai,H,ae,aj,aa,ag⟩
 ·simp[Value.ownBlock]at hg
 ·obtain rfl:F=g:=by simpa[Value.ownBlock]using hg
  have ak:j<C.size:=by
   rw[aa];exact yZ hj (uY _ ae)
  by_cases D:n+m<=cap
  ·have ab:n*i.size+d.length<=C.size:=by rw[hl,aa,<-Nat.add_mul];exact uY _ D
   have M:=run_append_room (P:=P) w t ty e i ht hi F n cap C H a m c d hl x h1 D ab;rw[M]at L;simp only[Result.ok.injEq]at L;obtain⟨_,rfl⟩:=L;rw[cell_of_row _ F j _ e (0,0) (setRow_heap w F C _ e _ H),cell_of_row w F j C e (0,0) H];simp only[List.getElem?_toArray];rw[bX,wZ (by rw[eY,lY];omega),yY,if_pos hj];simp
  ·have K:∀j u,xs[j]?=sX u->w.cell? ((⟨F,0,qX⟩:dW).add j)=sX u:=A.cells (g:=F) rfl;have M:=run_append_grow (P:=P) w t ty e i z ht hi hz ⟨F,0,qX⟩ n cap xs A.1 K a m c d hl x oM oM (growslice_fits oM y);rw[M]at L;simp only[Result.ok.injEq]at L;obtain⟨_,rfl⟩:=L;have ad:F<w.heap.size:=(Array.getElem?_eq_some_iff.1 H).1;exact World.cell?_of_block (heap_alloc_old w.drew _ ad)
theorem zAN{P:Program}(w:wW){ops:Array Oper}{rest:List Oper}{o:Oper}{a:Act}{Q:Exit->Act->wW->Prop}(M:o.guard=qX)(s x:Operand)(t:TypeId)
  (ho:o.op=.call {callee:=.builtin .append,args:=#[s,x],argTypes:=#[t,t]})
  (base:Nat) (e:TypeId) (i:TypeInfo) (z:vW) (size q:Nat) (ht:P.underlying t=sX (.slice e)) (hi:P.info? e=sX i) (hz:i.zero=sX z)
  (D:i.size=size) (L:i.bytes=q) (T:z.cells.size=size) (R:0<size)
  (v:vW) (n:Nat) (X:List vW) (hs:a.eval s=v) (F:w.ownsRow base e size v n X)
  (H:dW) (m c:Nat) (d:List vW) (hx:a.eval x=U (sX H) m c) (hl:d.length=m*size) (C:∀j u,d[j]?=sX u->w.cell? (H.add j)=sX u) (h1:∀u∈d,u.oneCell'=tX)
  (I:n+m<=maxLen) (y:(n+m)*q<=140737488355328) (A:base<=w.heap.size)
  (h:∀E w',w'.ownsRow base e size E (n+m) (X++d)->w.grownBy w' v.ownBlock->(E.ownBlock=v.ownBlock\/E.ownBlock=sX w.heap.size)->(∀g j,v.ownBlock=sX g->j<n*size->w'.cell? ⟨g,j,qX⟩=w.cell? ⟨g,j,qX⟩)->wpList P ops Q rest (a.put o.dst E) w'):wpList P ops Q (o::rest) a w:=by
 refine wpList_plain M λK hK=>?_
 obtain⟨E,w',hr,h2,h3,h4,h5⟩:=zBa (P:=P) w base t o.type e i z size q ht hi hz D L T R v n X F H m c d hl C h1 I y A;unfold Oper.wp execOp;simp only[ho,resolve,invoke,builtin,bY,cY,sZ,vZ,oZ,dY,hs,hx,hr];exact hK _ _ (h E w' h2 h3 h4 h5)
abbrev OwnV(w:wW)(base:Nat)(v:vW)(ts:List Wlx.TV):Prop:=w.ownsRow base 202 3 v ts.length (Vu ts)
theorem OwnV.of{ts:List Wlx.Tok}(h:V8 w B v ts):OwnV w B v (ts.map Wlx.tv):=by
 show w.ownsRow B _ 3 v (ts.map Wlx.tv).length (Vu (ts.map Wlx.tv))
 rw[hY,zOF];exact h
theorem OwnV.form(h:OwnV w B v ts):∃a c,v=U a ts.length c/\(0<ts.length->∃g,a=sX ⟨g,0,qX⟩/\B<=g/\g<w.heap.size):=by
 rcases h.2 with⟨e,i⟩|⟨g,cap,d,e,m,j,_⟩
 ·exact⟨qX,0,by rw[e,i],λh=>by omega⟩
 ·exact⟨sX ⟨g,0,qX⟩,cap,e,λ_=>⟨g,rfl,m,(Array.getElem?_eq_some_iff.1 j).1⟩⟩
def RdV(w:wW)(a:Option dW)(ts:List Wlx.TV):Prop :=
 ∀i (h:i<ts.length),∃g,a=sX ⟨g,0,qX⟩/\g<w.heap.size/\w.cell? ⟨g,i*3,qX⟩=sX (O J (ts[i]).k)/\w.cell? ⟨g,i*3+1,qX⟩=sX (V ⟨(ts[i]).t.toArray⟩)/\w.cell? ⟨g,i*3+2,qX⟩=sX (O J (ts[i]).p)
theorem RdV.own{c:Nat}{a:Option dW}(h:OwnV w B (U a n c) ts):RdV w a ts:=by
 intro i m;rcases h.2 with⟨_,x⟩|⟨g,cap,d,e,y,j,_⟩
 ·omega
 ·simp only[U.injEq]at e;obtain⟨rfl,rfl,rfl⟩:=e;obtain⟨r0,q,u⟩:=zFa ts i m;refine⟨g,rfl,(Array.getElem?_eq_some_iff.1 j).1,?_,?_,?_⟩
  ·rw[World.ownsRow.cellAt h _ oM,r0]
  ·rw[World.ownsRow.cellAt h _ oM,q]
  ·rw[World.ownsRow.cellAt h _ oM,u]
theorem PSt.row{kp:Nat}{row:Option Nat}(h:PSt w kp ts en)(d:w.grownBy w' row)(E:∀b,row=sX b->kp<b):PSt w' kp ts en:=by
 obtain⟨av,cap,z,A,C⟩:=h;have g:∀b,b<=kp->sX b≠row:=λb m e=>by have:=E b e.symm;omega
 refine⟨av,cap,z,A.grown d (g kp (bZ _)),λi D=>?_⟩;obtain⟨q,j,e,m,u,x,y⟩:=C i D;exact⟨q,j,e,m,d.cell u (g _ (by simp only;omega)),d.cell x (g _ (by simp only;omega)),d.cell y (g _ (by simp only;omega))⟩
theorem zH2(h:w.grownBy w' qX)(row:Option Nat):w.grownBy w' row:=⟨h.os,h.tape,h.output,h.size,λk d _=>h.block k d sM⟩
theorem Env.row{row:Option Nat}(h:Env w)(d:w.grownBy w' row)(e:∀b,row=sX b->8<=b):Env w':=by
 cases row with
 |none=>exact h.grown (zH2 d (sX 8)) (bZ _)
 |some b=>exact h.grown d (e b rfl)
theorem zIk{g:wW}{kp:Nat}{row:Option Nat}(h:w.grownBy W (sX kp))(d:W.grownBy g row)(m:∀b,row=sX b->w.heap.size<=b):w.grownBy g (sX kp) :=
 ⟨d.os.trans h.os,d.tape.trans h.tape,d.output.trans h.output,fZ h.size d.size,λk i j=>(d.block k (yZ i h.size) (λe=>by have:=m k e.symm;omega)).trans (h.block k i j)⟩
def Jm(d:List (Wt.Nd×vW)):List vW:=d.flatMap λp=>QJ p.1 p.2
theorem zIf(a b:List (Wt.Nd×vW)):Jm (a++b)=Jm a++Jm b:=by simp[Jm]
theorem zEP(x:Wt.Nd)(sl:vW):Jm [(x,sl)]=QJ x sl:=by simp[Jm]
theorem zD2:∀(d:List (Wt.Nd×vW))(i:Nat)(h:i<d.length)(j:Nat),j<21->(Jm d)[i*21+j]?=(QJ (d[i]).1 (d[i]).2)[j]?
 |[],i,h,_,_=>by simp at h
 |p::r,0,_,j,hj=>by
  show(QJ p.1 p.2++Jm r)[0*21+j]?=_
  rw[Nat.zero_mul,kY,wZ (by show j<21;exact hj)];rfl
 |p::r,i+1,h,j,hj=>by
  show(QJ p.1 p.2++Jm r)[(i+1)*21+j]?=_
  rw[pY (by show 21<=_;omega)];rw[show(i+1)*21+j-(QJ p.1 p.2).length=i*21+j by show _-21=_;omega];exact zD2 r i (by simpa using h) j hj
theorem zKA{g:Nat}{d:List (Wt.Nd×vW)}(h:w.ownsRow base 150 21 (U (sX ⟨g,0,qX⟩) n cap) n (Jm d))(u:n=d.length)(i:Nat)(m:i<d.length):w.rangeAt g (i*21) (QJ (d[i]).1 (d[i]).2):=by
 intro j v e;have q:j<21:=(List.getElem?_eq_some_iff.1 e).1;rw[World.ownsRow.cellAt h (i*21+j) oM,zD2 d i m j q];exact e
theorem zIK(g:∀ts row r,sub ts=.inl (row,r)->r <:+ ts)(en:Int):∀(n m c:Nat)(d:List Wt.Nd)(ts:List Wlx.TV),ts.length<n->ts.length<m->Jo sub en n c d ts=Jo sub en m c d ts:=by
 intro n;induction n with
 |zero=>intro m c d ts j;omega
 |succ n x =>
  intro m c d ts j y;cases m with
  |zero=>omega
  |succ m =>
   simp only[Jo];cases h:tk ts [41]with
   |some r=>rfl
   |none =>
    simp only;split
    ·rfl
    ·cases i:tk ts [44]with
     |none=>rfl
     |some r =>
      simp only;have z:=(Qx i).2;cases u:sub r with
      |inr e=>rfl
      |inl q =>
       obtain⟨row,A⟩:=q;simp only;have:=(g _ _ _ u).length_le;exact x m _ _ _ oM oM
theorem zLo:(prog.info? 150).map (λi=>(i.zero,i.size,i.bytes))=sX (sX (gX #[O J 0,O J 0,O J 0,O J 0,V ⟨#[]⟩,Y vX,O J 0,O J 0,V ⟨#[]⟩,O J 0,V ⟨#[]⟩,O J 0,O J 0,Y vX,Y vX,V ⟨#[]⟩,O J 0,O J 0,Y vX,Y vX,U qX 0 0]),21,200):=kR
def paa(sub:List Wlx.TV->PR)(en:Int)(ts:List Wlx.TV):AR:=match tk ts [41]with
 |some r=>.inl (0,[],r)
 |none=>match sub ts with
  | .inr e=>.inr e
  | .inl (row,r)=>Jo sub en (r.length+1) 1 row r
theorem zP9(w:wW)(x:Wt.Nd)(sl:vW)(j:Nat)(u:vW)(e:(QJ x sl)[j]?=sX u):(w.alloc (Z (QJ x sl).toArray 150)).cell? ((⟨w.heap.size,0,qX⟩:dW).add j)=sX u:=by
 have d:(⟨w.heap.size,0,qX⟩:dW).add j=⟨w.heap.size,0+j,qX⟩:=by unfold Addr.add;split <;> simp_all
 rw[d];exact(AtL.new0 w 150 (QJ x sl)).range j u e
theorem zNA(x:Wt.Nd)(sl:vW)(h:sl.oneCell'=tX)(u:vW)(d:u∈QJ x sl):u.oneCell'=tX:=by
 have:=Qr x sl h;simp only[List.all_toArray,List.all_eq_true]at this;exact this u d
theorem zM1{m:Nat}{q:List vW}(h:w.ownsRow base 150 21 v (n+1) q):∃g cap,v=U (sX ⟨g,0,qX⟩) (n+1) cap/\base<=g/\g<w.heap.size:=by
 rcases h.2 with⟨_,u⟩|⟨g,cap,d,e,j,i,_⟩
 ·omega
 ·exact⟨g,cap,e,j,(Array.getElem?_eq_some_iff.1 i).1⟩
theorem zDK(kp:Nat)(en:Int)(sub:List Wlx.TV->PR)(n:Nat)(HF:zCQ kp en sub n)(ai:∀ts row r,sub ts=.inl (row,r)->r <:+ ts)(M:8<=kp):zP6 kp en (paa sub en) n:=by
 intro ts w h hn aC aB hE;have bg:=h.lt;have T1:=Qv kp ts en [41] w h aC;unfold paa;cases ht:tk ts [41]with
 |some r =>
  rw[ht]at T1;simp only[zIL]at T1 ⊢;go_enter func259,ntmps259;go_wp2_with fail
  refine T1.mono ?_;rintro e w1 ⟨rfl,h1,F⟩;go_wp2;go_ret;exact⟨_,rfl,⟨0,qX,0,[],[],rfl,rfl,rfl,rfl,λi h=>absurd h (jX _)⟩,h1,F⟩
 |none =>
  rw[ht]at T1;simp only at T1 ⊢;cases hs:sub ts with
  |inr q =>
   obtain⟨c,p⟩:=q;simp only[zIL];go_enter func259,ntmps259;go_wp2_with fail
   refine T1.mono ?_;rintro e w1 ⟨rfl,h1,F⟩;go_wp2_with fail
   refine(HF ts w1 h1 hn aC aB (hE.grown F M)).mono ?_;rintro e w2 A;rw[hs]at A;simp only[QS]at A;obtain⟨rfl,hg⟩:=A;unfold J1;go_wp2;exact⟨rfl,rfl,QC F hg⟩
  |inl q =>
   obtain⟨row,r1⟩:=q;have ax:=ai _ _ _ hs;have bh:=ax.length_le;simp only;obtain⟨R,T⟩:=xV (Jo sub en (r1.length+1) 1 row r1)
   rw[T];obtain⟨i0,hi,a3,a4,a5⟩:=info_parts zLo;go_enter func259,ntmps259;go_wp2_with fail
   refine T1.mono ?_;rintro e w1 ⟨rfl,h1,F⟩;go_wp2_with fail
   refine(HF ts w1 h1 hn aC aB (hE.grown F M)).mono ?_;rintro e w2 A;rw[hs]at A;simp only[QS]at A;obtain⟨v,rfl,hP,h2,an⟩:=A;have aF:=(hE.grown F M).grown an M;have aI:=QC F an;have bl:=F.size;have bm:=an.size;obtain⟨nn,x,sl,rfl,hp⟩:=hP;obtain⟨av,len,cap,rfl⟩:=hp.one;clear T1 h1 F an hE;unfold ptV;go_wp2_with ((with_reducible refine zBD ?_ (mX 7) ?_ x av len cap ?_ ?_);rfl;rfl;rfl)
   have af:=QI (cZ _ w2) (Z (QJ x (U av len cap)).toArray 150);have O3:hH ((w2.alloc (Z (QJ x (U av len cap)).toArray 150)).ownsRow w.heap.size 150 21 (U (sX ⟨w2.heap.size,0,qX⟩) 1 1) 1 (Jm [(x,U av len cap)])):=by
    have:=World.ownsRow_lit (base:=w.heap.size) (e:=150) (size:=21) w2 (QJ x (U av len cap)).toArray 1 oM dM rfl;rw[zEP];exact this
   have P3:hH (∀i (h:i<[(x,U av len cap)].length) (h':i<[row].length),PtIs (w2.alloc (Z (QJ x (U av len cap)).toArray 150)) (λb=>w.heap.size<=b/\b≠w2.heap.size) nn ([(x,U av len cap)][i]).1 ([(x,U av len cap)][i]).2 ([row][i])):=by
    intro i h h';obtain rfl:i=0:=by simp at h;exact h
    exact PtIs.keep (λk _ h2=>af.block k h2) nn (PtIs.inside (λb hb hl=>⟨by have aM:=hb;omega,oM⟩) nn hp)
   have h3:=h2.below af;have aG:=aF.below af;have aJ:hH (w.grownBy (w2.alloc (Z (QJ x (U av len cap)).toArray 150)) (sX kp)):=QC aI (QD af (sX kp));have aY:=h2.lt;have R3:hH (R=Jo sub en (r1.length+1) 1 [row].flatten r1):=by show _=_;rw[<-T];simp
   have a1:w.heap.size<=w2.heap.size:=oM;clear h2 aF aI af hp T;go_wp2_with fail
   go_loopg [3] (r1.length) (λgk a wr=>∃(g c cap nn:Nat)(ps:List (Wt.Nd×vW))(z:List (List Wt.Nd))(u:List Wlx.TV),a=U (sX ⟨g,0,qX⟩) c cap/\gk=u.length/\ps.length=c/\z.length=c/\1<=c/\c<=30/\u.length<=r1.length/\kp<g/\w.heap.size<=g/\hH (u <:+ r1)/\hH (R=Jo sub en (u.length+1) c z.flatten u)/\hH (wr.ownsRow w.heap.size 150 21 (U (sX ⟨g,0,qX⟩) c cap) c (Jm ps))/\hH (∀i (h:i<ps.length) (h':i<z.length),PtIs wr (λb=>w.heap.size<=b/\b≠g) nn (ps[i]).1 (ps[i]).2 (z[i]))/\PSt wr kp u en/\hH (w.grownBy wr (sX kp))/\Env wr)
   case atStart=>exact⟨w2.heap.size,1,1,nn,[(x,U av len cap)],[row],r1,rfl,rfl,rfl,rfl,oM,oM,bZ _,aY,a1,(List.suffix_refl _:r1 <:+ r1),R3,O3,P3,h3,aJ,aG⟩
   case round =>
    clear O3 P3 h3 aG aJ R3;obtain⟨g,c,aE,ad,ps,z,u,rfl,bd,aP,aQ,bc,a8,bj,bf,a2,a0,ER,OW,PP,hS,hG,ay⟩:=hrel;have TC:=Qv kp u en [41] wr hS oM;cases ak:tk u [41]with
    |some r =>
     rw[ak]at TC;simp only at TC;have T:hH (R=.inl (c,z.flatten,r)):=by
      have:=ER.out;simp only[Jo,ak]at this;exact this
     go_wp2_with fail
     refine TC.mono ?_;rintro e w3 ⟨rfl,h4,L⟩;go_wp2_with fail
     go_ret;rw[T.out];have aU:=OW.out.kept L (tZ (by intro e;have:g=kp:=Option.some.inj e;omega));exact⟨_,rfl,⟨ad,sX ⟨g,0,qX⟩,aE,ps,z,rfl,aP,aQ,rfl,λi h h'=>⟨g,rfl,a2,zKA aU aP.symm i h,PtIs.mono (λb hb=>hb.1) ad (PtIs.keep (λk hk h2=>L.block k h2 (by intro e;have:=Option.some.inj e;have:=hk.1;omega)) ad (PP.out i h h'))⟩⟩,h4,QC hG L⟩
    |none =>
     rw[ak]at TC;simp only at TC;have aw:=a0.out;have H:=ER.out;simp only[Jo,ak]at H;by_cases aj:c=30/\Vc (hd u en) [44]=tX
     ·rw[if_pos aj]at H;have T:hH (R=.inr (3,pos u en)):=H;clear H ER;obtain⟨a7,hm⟩:=aj;have am:(c:Int)=30:=oM;go_wp2_with fail
      refine TC.mono ?_;rintro e w3 ⟨rfl,h4,L⟩;go_wp2_with fail
      refine(JJ kp u en _ h4).mono ?_;rintro e w4 ⟨rfl,X⟩;go_wp2_with fail
      refine(zA3 (hd u en) [44] _).mono ?_;rintro e w5 ⟨rfl,aa⟩;rw[hm];have h5:=(h4.below X).below aa;have y:=QC L (QC (QD X (sX kp)) (QD aa (sX kp)));clear h4 L X aa;go_wp2_with fail
      refine(zCY kp u en 3 _ h5).mono ?_;rintro e w6 ⟨rfl,aX⟩;unfold J1;go_wp2_with fail
      rw[T.out];exact⟨rfl,rfl,QC hG (QC y (QD aX (sX kp)))⟩
     ·rw[if_neg aj]at H;by_cases h3:c=30
      ·have hm:Vc (hd u en) [44]=vX:=by
        cases hq:Vc (hd u en) [44]with
        |false=>rfl
        |true=>exact absurd ⟨h3,hq⟩ aj
       have K:tk u [44]=qX:=by
        cases u with
        |nil=>rfl
        |cons t r =>
         have aZ:Vc t [44]=vX:=hm;simp only[tk,aZ];rfl
       rw[K]at H;have T:hH (R=.inr (50,pos u en)):=H;clear H ER;have am:(c:Int)=30:=oM;go_wp2_with fail
       refine TC.mono ?_;rintro e w3 ⟨rfl,h4,L⟩;go_wp2_with fail
       refine(JJ kp u en _ h4).mono ?_;rintro e w4 ⟨rfl,X⟩;go_wp2_with fail
       refine(zA3 (hd u en) [44] _).mono ?_;rintro e w5 ⟨rfl,aa⟩;rw[hm];have h5:=(h4.below X).below aa;have y:=QC L (QC (QD X (sX kp)) (QD aa (sX kp)));clear h4 L X aa;go_wp2_with fail
       refine(Qv kp u en [44] _ h5 oM).mono ?_;rintro e w6 A;rw[K]at A;obtain⟨rfl,h6,C⟩:=A;go_wp2_with fail
       refine(Qp kp u en _ h6).mono ?_;rintro e w7 ⟨rfl,az⟩;unfold J1;go_wp2_with fail
       rw[T.out];exact⟨rfl,rfl,QC hG (QC y (QC C (QD az (sX kp))))⟩
      ·cases K:tk u [44]with
       |none =>
        rw[K]at H;have T:hH (R=.inr (50,pos u en)):=H;clear H ER;have am:¬(c:Int)=30:=oM;go_wp2_with fail
        refine TC.mono ?_;rintro e w5 ⟨rfl,h5,y⟩;go_wp2_with fail
        refine(Qv kp u en [44] _ h5 oM).mono ?_;rintro e w6 A;rw[K]at A;obtain⟨rfl,h6,C⟩:=A;go_wp2_with fail
        refine(Qp kp u en _ h6).mono ?_;rintro e w7 ⟨rfl,az⟩;unfold J1;go_wp2_with fail
        rw[T.out];exact⟨rfl,rfl,QC hG (QC y (QC C (QD az (sX kp))))⟩
       |some r =>
        rw[K]at H;simp only at H;obtain⟨aR,bk⟩:=Qx K;have ar:∀t∈r,Qe t:=λt ht=>aB t (((aR.trans aw).trans ax).subset ht)
        cases ah:sub r with
        |inr q =>
         obtain⟨c7,p7⟩:=q;rw[ah]at H;have T:hH (R=.inr (c7,p7)):=H;clear H ER;have am:¬(c:Int)=30:=oM;go_wp2_with fail
         refine TC.mono ?_;rintro e w5 ⟨rfl,h5,y⟩;go_wp2_with fail
         refine(Qv kp u en [44] _ h5 oM).mono ?_;rintro e w6 A;rw[K]at A;obtain⟨rfl,h6,C⟩:=A;go_wp2_with fail
         refine(Qa kp _).mono ?_;rintro e a6 ⟨rfl,rfl⟩;have al:=QC (QC hG y) C;have ae:=(ay.grown y M).grown C M;go_wp2_with fail
         refine(HF r _ h6 oM oM ar ae).mono ?_;rintro e w7 A;rw[ah]at A;simp only[QS]at A;obtain⟨rfl,ab⟩:=A;unfold J1;go_wp2_with fail
         rw[T.out];exact⟨rfl,rfl,QC al ab⟩
        |inl q =>
         obtain⟨I,r2⟩:=q;rw[ah]at H;simp only at H;have au:=ai _ _ _ ah;have bi:=au.length_le;have T:hH (R=Jo sub en (r2.length+1) (c+1) (z++[I]).flatten r2):=by
          show _=_
          rw[H,zIK ai en u.length (r2.length+1) _ _ _ oM oM];simp
         clear H ER;have am:¬(c:Int)=30:=oM;go_wp2_with fail
         refine TC.mono ?_;rintro e w5 ⟨rfl,h5,y⟩;go_wp2_with fail
         refine(Qv kp u en [44] _ h5 oM).mono ?_;rintro e w6 A;rw[K]at A;obtain⟨rfl,h6,C⟩:=A;go_wp2_with fail
         refine(Qa kp _).mono ?_;rintro e a6 ⟨rfl,rfl⟩;have al:=QC (QC hG y) C;have ae:=(ay.grown y M).grown C M;go_wp2_with fail
         refine(HF r _ h6 oM oM ar ae).mono ?_;rintro e w7 A;rw[ah]at A;simp only[QS]at A;obtain⟨v,rfl,hP,h7,ab⟩:=A;obtain⟨n7,x7,bo,rfl,hp⟩:=hP;obtain⟨E,j,d,rfl⟩:=hp.one;have aK:=QC al ab;have aH:=ae.grown ab M;have gg:=QC y (QC C ab);have be:=(OW.out.lt g rfl).2;have aD:=OW.out.kept gg (tZ (by intro e;have:g=kp:=Option.some.inj e;omega));have bn:=gg.size;have bb:=ab.size;have ba:=(QC y C).size;unfold ptV;go_wp2_with (first|((with_reducible refine zBD ?_ (mX 28) ?_ x7 E j d ?_ ?_);rfl;rfl;rfl)|(at_builtin;refine zAN _ rfl _ _ 148 rfl w.heap.size 150 i0 (gX #[O J 0,O J 0,O J 0,O J 0,V ⟨#[]⟩,Y vX,O J 0,O J 0,V ⟨#[]⟩,O J 0,V ⟨#[]⟩,O J 0,O J 0,Y vX,Y vX,V ⟨#[]⟩,O J 0,O J 0,Y vX,Y vX,U qX 0 0]) 21 200 underlying148 hi a3 a4 a5 rfl dM _ _ _ rfl (aD.alloc _) ⟨w7.heap.size,0,qX⟩ 1 1 (QJ x7 (U E j d)) rfl rfl (zP9 _ _ _) (zNA _ _ rfl) (by unfold maxLen;omega) oM (by simp;omega) ?_))
         intro vg w9 ac D aL aA;have ag:=QI (cZ _ w7) (Z (QJ x7 (U E j d)).toArray 150);obtain⟨g',ap,rfl,aT,a9⟩:=zM1 (m:=0) ac;have aq:g'=g\/g'=w7.heap.size+1:=by
          rcases aL with h|h
          ·left;exact Option.some.inj h
          ·right;have:=Option.some.inj h;simpa using this
         have aO:kp<g':=by rcases aq with h|h <;> omega
         have aV:hH (w9.ownsRow w.heap.size 150 21 (U (sX ⟨g',0,qX⟩) (c+1) ap) (c+1) (Jm (ps++[(x7,U E j d)]))):=by
          show vY _ _ _ _ _ _ _
          rw[zIf,zEP];exact ac
         have K9:∀{m:Nat}{x:Wt.Nd}{sl:vW}{row:List Wt.Nd},PtIs w7 (λb=>w.heap.size<=b/\b≠g) m x sl row->PtIs w9 (λb=>w.heap.size<=b/\b≠g') m x sl row:=λ{m}{_}{_}{_} hq =>
          PtIs.mono (G:=λb=>(w.heap.size<=b/\b≠g)/\b≠g') (λb hb=>⟨hb.1.1,hb.2⟩) m (PtIs.keep (λk hk h2=>D.block k h2 (by intro e;have:k=g:=Option.some.inj e;exact hk.1.2 this)) m (PtIs.keep (λk _ h2=>ag.block k h2) m (PtIs.inside (λb hb hl=>⟨hb,by rcases aq with h|h;exact h ▸ hb.2;omega⟩) m hq)))
         have aW:hH (∀i (h:i<(ps++[(x7,U E j d)]).length) (h':i<(z++[I]).length),PtIs w9 (λb=>w.heap.size<=b/\b≠g') (max ad n7) ((ps++[(x7,U E j d)])[i]).1 ((ps++[(x7,U E j d)])[i]).2 ((z++[I])[i])):=by
          intro i h h';by_cases aN:i<ps.length
          ·have ao:i<z.length:=oM;rw[rY aN,rY ao];exact K9 ((PtIs.keep (λk hk h2=>gg.block k h2 (by intro e;have:=Option.some.inj e;have:=hk.1;omega)) ad (PP.out i aN ao)).upto (Nat.le_max_left _ _))
          ·have ao:i=ps.length:=by simp at h;omega
           have e1:(ps++[(x7,U E j d)])[i]=(x7,U E j d):=by subst ao;simp
           have e2:(z++[I])[i]=I:=by
            have:i=z.length:=oM;subst this;simp
           rw[e1,e2];exact K9 ((PtIs.mono (λb hb=>⟨by have aM:=hb;omega,by have aM:=hb;omega⟩) n7 hp).upto (Nat.le_max_right _ _))
         have S9:=(h7.below ag).row D (λb e=>by have:g=b:=Option.some.inj e;omega);have G9:hH (w.grownBy w9 (sX kp)):=zIk (QC aK (QD ag (sX kp))) D (λb e=>by have:g=b:=Option.some.inj e;omega);have E9:=(aH.below ag).row D (λb e=>by have:g=b:=Option.some.inj e;omega);have aS:hH (r2 <:+ r1):=(au.trans aR).trans aw;clear D ac aL aA ag aD K9 hp PP OW h7 aH aK h6 C ae al h5 y ab gg hS hG ay TC;go_wp2_with fail
         go_roundg r2.length
         case rel=>exact⟨g',c+1,ap,max ad n7,ps++[(x7,U E j d)],z++[I],r2,rfl,rfl,by simp;omega,by simp;omega,oM,oM,oM,aO,aT,aS,T,aV,aW,S9,G9,E9⟩
         case measure=>omega
theorem zIG(kp:Nat)(en:Int)(X aa:List Wlx.TV->PR)(n:Nat)(HS:∀m,m<n->Vw kp en 173 X m)(HP:Vw kp en 199 aa n)(ts:List Wlx.TV)(w:wW)(h:PSt w kp ts en)(hn:ts.length<=n)(ah:ts.length<=1024)(ag:∀t∈ts,Qe t)(hE:Env w)(ac:8<=kp) :
  cW prog 173 #[pX (sX ⟨kp,0,qX⟩)] w λe w'=>QS kp en (psg X aa ts) w e w':=by
 have y:=QI (cZ _ w) (Z zP0 150);have pZ:AtL (w.alloc (Z zP0 150)) w.heap.size (QJ (bare 0) (U qX 0 0)):=AtL.new0 w _ _;have h0:=h.below y;have E:=hE.below y;have am:=h.lt;have T1:=zAK kp ts en 5 _ h0 ah E.1;unfold psg;cases ht:Jc 5 ts with
 |none =>
  simp only;cases hs:aa ts with
  |inr q =>
   obtain⟨c,p⟩:=q;simp only[QS];go_enter func173,ntmps173;go_wp2_with fail
   generalize w.alloc (Z zP0 150)=wa at*;refine T1.mono ?_;rintro e F i;rw[ht]at i;simp only[JT]at i;obtain⟨rfl,M,g⟩:=i;have j:=pZ.grown g (by intro e;have:=Option.some.inj e;omega);have C:=QC (QD y (sX kp)) g;have A:=E.grown g ac;clear pZ h0 y E T1 g;have d:=QI (cZ _ F) (Z #[O J 0,V ⟨#[]⟩,O J 0] 222);go_wp2_with fail
   refine(HP ts _ (M.below d) hn ah ag (A.below d)).mono ?_;rintro e H i;rw[hs]at i;simp only[QS]at i;obtain⟨rfl,T⟩:=i;unfold J1;go_wp2;exact⟨rfl,rfl,QC (QC C (QD d (sX kp))) T⟩
  |inl q =>
   obtain⟨row,r2⟩:=q;simp only[QS];go_enter func173,ntmps173;go_wp2_with fail
   generalize w.alloc (Z zP0 150)=wa at*;refine T1.mono ?_;rintro e F i;rw[ht]at i;simp only[JT]at i;obtain⟨rfl,M,g⟩:=i;have j:=pZ.grown g (by intro e;have:=Option.some.inj e;omega);have C:=QC (QD y (sX kp)) g;have A:=E.grown g ac;clear pZ h0 y E T1 g;have d:=QI (cZ _ F) (Z #[O J 0,V ⟨#[]⟩,O J 0] 222);have aL:=j.lt;go_wp2_with fail
   refine(HP ts _ (M.below d) hn ah ag (A.below d)).mono ?_;rintro e H i;rw[hs]at i;simp only[QS]at i;obtain⟨v,rfl,hP,h3,T⟩:=i;have L:=(AtL.below d j).grown T (by intro e;have:=Option.some.inj e;omega);have ab:=QC (QC C (QD d (sX kp))) T;simp only[qZ]at hP;obtain⟨nn,x,sl,rfl,hp⟩:=hP;obtain⟨av,len,cap,rfl⟩:=hp.one;have aD:iZ H w.heap.size 0 (QJ x (U av len cap)).toArray.size:=L.there;clear j C A M T d;unfold ptV;go_wp2_with ((with_reducible refine stQ 150 (mX 2) (mX 17) (w.heap.size) 0 (QJ x (U av len cap)).toArray ?_ ?_ ?_);exact aD;exact Qr _ _ rfl)
   have aG:AtL (H.setCells w.heap.size 0 (QJ x (U av len cap))) w.heap.size (QJ x (U av len cap)):=L.setAll rfl;refine bodyPost_ret (QQ rfl _ _ w.heap.size (QJ x (U av len cap)) _ rfl aG.range underlying150 rfl kR) rfl ?_;exact⟨_,rfl,(Pt.far (show Pt H _ (ptV x (U av len cap)) row from⟨nn,x,_,rfl,hp⟩) oM 0 _).mono oM,h3.farAll am _ 0,QP ab (bZ _) _ 0⟩
 |some q =>
  obtain⟨⟨o,m,t⟩,r⟩:=q;obtain⟨ap,aI⟩:=Qm ht;have ad:∀t∈r,Qe t:=λt h=>ag t (ap.subset h)
  simp only;cases hs:X r with
  |inr q =>
   obtain⟨c,p⟩:=q;simp only[QS];go_enter func173,ntmps173;go_wp2_with fail
   generalize w.alloc (Z zP0 150)=wa at*;refine T1.mono ?_;rintro e F i;rw[ht]at i;simp only[JT]at i;obtain⟨rfl,M,g⟩:=i;have j:=pZ.grown g (by intro e;have:=Option.some.inj e;omega);have C:=QC (QD y (sX kp)) g;have A:=E.grown g ac;clear pZ h0 y E T1 g;go_upto_region 3 with fail
   have d:=QI (cZ _ F) (Z #[O J o,V ⟨m.toArray⟩,O J t] 222);have pO:=AtL.new0 F 222 [O J o,V ⟨m.toArray⟩,O J t];have ak:=AtL.below d j;have h2:=M.below d;have ae:=A.below d;have af:=QC C (QD d (sX kp));have aA:kp<F.heap.size:=M.lt;have aE:=j.lt;clear j M A C d;generalize F.alloc (Z #[O J o,V ⟨m.toArray⟩,O J t] 222)=w2 at*;generalize F.heap.size=ko at*;refine wp_region_held_drew (S:=OpS ko 0 o ⟨m.toArray⟩ t) kR (Qq (AtL.drew pO)) (λu=>?_);refine tkQ 0 ?_
   refine tkQ 1 ?_
   refine rdQ 2 (λK R=>?_);go_simp
   have D:bL w2 w2.drew:=(cZ _ _).drew;refine(HS r.length oM r w2.drew (h2.below D) (bZ _) oM ad (ae.below D)).mono ?_;rintro e H i;rw[hs]at i;simp only[QS]at i;obtain⟨rfl,T⟩:=i;unfold J1;go_wp2;exact⟨rfl,rfl,QC (QC af (QD D (sX kp))) T⟩
  |inl q =>
   obtain⟨row,r2⟩:=q;simp only[QS];go_enter func173,ntmps173;go_wp2_with fail
   generalize w.alloc (Z zP0 150)=wa at*;refine T1.mono ?_;rintro e F i;rw[ht]at i;simp only[JT]at i;obtain⟨rfl,M,g⟩:=i;have j:=pZ.grown g (by intro e;have:=Option.some.inj e;omega);have C:=QC (QD y (sX kp)) g;have A:=E.grown g ac;clear pZ h0 y E T1 g;go_upto_region 3 with fail
   have d:=QI (cZ _ F) (Z #[O J o,V ⟨m.toArray⟩,O J t] 222);have pO:=AtL.new0 F 222 [O J o,V ⟨m.toArray⟩,O J t];have ak:=AtL.below d j;have h2:=M.below d;have ae:=A.below d;have af:=QC C (QD d (sX kp));have aA:kp<F.heap.size:=M.lt;have aE:=j.lt;clear j M A C d;generalize F.alloc (Z #[O J o,V ⟨m.toArray⟩,O J t] 222)=w2 at*;generalize F.heap.size=ko at*;refine wp_region_held_drew (S:=OpS ko 0 o ⟨m.toArray⟩ t) kR (Qq (AtL.drew pO)) (λu=>?_);refine tkQ 0 ?_
   refine tkQ 1 ?_
   refine rdQ 2 (λK R=>?_);go_simp
   have D:bL w2 w2.drew:=(cZ _ _).drew;refine(HS r.length oM r w2.drew (h2.below D) (bZ _) oM ad (ae.below D)).mono ?_;rintro e H i;rw[hs]at i;simp only[QS]at i;obtain⟨v,rfl,hP,h3,T⟩:=i;have L:=(AtL.below D ak).grown T (by intro e;have:=Option.some.inj e;omega);have ai:=(AtL.below D pO).grown T (by intro e;have:=Option.some.inj e;omega);have ab:=QC (QC af (QD D (sX kp))) T;have aK:w2.drew.heap.size=w2.heap.size:=rfl;have aM:=ak.lt;have aJ:=pO.lt;obtain⟨nn,x,sl,rfl,hp⟩:=hP;obtain⟨av,len,cap,rfl⟩:=hp.one;have an:=PtIs.mono (G':=λb=>w.heap.size+1<=b) (λb hb=>by have aH:w2.drew.heap.size<=b:=hb;omega) nn hp;clear hp T D;unfold ptV;go_wp2_with fail
   refine hkQ R (Qq ai) (λu=>?_);clear R K
   refine rdQ 3 (λK R=>?_);refine zNE (mX 13) rfl x av len cap rfl ?_;have I:=QI (cZ _ H) (Z (QJ x (U av len cap)).toArray 150);have au:=AtL.new0 H 150 (QJ x (U av len cap));have aB:w.heap.size+1<=H.heap.size:=by have:=L.lt;omega
   have ao:=PtIs.keep (λk _ h2=>I.block k h2) nn an;have aq:=PtIs.un (G:=λb=>w.heap.size+1<=b) (z:=opN (Qy t) o) ao aB au.range;have h4:=h3.below I;have ax:=AtL.below I L;have aj:=AtL.below I ai;have al:=QC ab (QD I (sX kp));refine hkQ R (Qq aj) (λu=>?_);clear R K L ai h3 ab an ao au I
   refine rdQ 4 (λK R=>?_);go_simp
   refine(zAH o ⟨m.toArray⟩ t (sX ⟨H.heap.size,0,qX⟩) 1 1 _).mono ?_;rintro e w5 ⟨rfl,hb⟩;have h5:=h4.below hb;have ay:=AtL.below hb ax;have aw:=AtL.below hb aj;have az:=QC al (QD hb (sX kp));have ar:=PtIs.keep (λk _ h2=>hb.block k h2) _ aq;clear h4 ax aj al aq hb;go_wp2_with fail
   refine hkQ R (Qq aw) (λu=>?_);clear R K
   refine rdQ 5 (λK R=>?_);unfold ptV;refine wp_store_mid 150 (mX 2) (mX 15) rfl w.heap.size 0 (QJ (opN (Qy t) o) (U (sX ⟨H.heap.size,0,qX⟩) 1 1)).toArray rfl rfl ay.there kR (Qr _ _ rfl) ?_;have aC:w.heap.size≠ko:=oM;have aF:AtL (w5.setCells w.heap.size 0 (QJ (opN (Qy t) o) (U (sX ⟨H.heap.size,0,qX⟩) 1 1))) w.heap.size (QJ (opN (Qy t) o) (U (sX ⟨H.heap.size,0,qX⟩) 1 1)):=ay.setAll rfl;refine R.out _ _ (Qq (aw.farAll aC 0 _)) (λu=>?_);clear R K;try simp only[Act.put]
   refine wpAnyH_done kR ?_ _;go_wp2_with fail
   refine bodyPost_ret (QQ rfl _ _ w.heap.size (QJ (opN (Qy t) o) (U (sX ⟨H.heap.size,0,qX⟩) 1 1)) _ rfl aF.range underlying150 rfl kR) rfl ?_;exact⟨_,rfl,(Pt.far (show Pt w5 (w.heap.size+1) (ptV (opN (Qy t) o) _) _ from⟨_,_,_,rfl,ar⟩) (fX _) 0 _).mono (nZ _),h5.farAll am _ 0,QP az (bZ _) _ 0⟩
def zPg(kp:Nat)(en:Int)(F:Nat)(K:Int)(sub:List Wlx.TV->PR)(n:Nat):Prop :=
 ∀(ts:List Wlx.TV)(w:wW),PSt w kp ts en->ts.length<=n->ts.length<=1024->(∀t∈ts,Qe t)->(hd ts en).k=K->Env w->cW prog F #[pX (sX ⟨kp,0,qX⟩)] w λe w'=>QS kp en (sub ts) w e w'
theorem zKj(kp:Nat)(en:Int)(T R:List Wlx.TV->PR)(n:Nat)(HW:zPg kp en 247 3 T n)(HB:zPg kp en 248 5 R n)(ts:List Wlx.TV)(w:wW)(h:PSt w kp ts en)(hn:ts.length<=n)(H:ts.length<=1024)(F:∀t∈ts,Qe t)(hE:Env w)(ac:8<=kp) :
  cW prog 219 #[pX (sX ⟨kp,0,qX⟩)] w λe w'=>QS kp en (psi en T R ts) w e w':=by
 have g:=QI (cZ _ w) (Z zP0 150);have I:AtL (w.alloc (Z zP0 150)) w.heap.size (QJ (bare 0) (U qX 0 0)):=AtL.new0 w _ _;have z:=h.below g;have u:=hE.below g;have ab:=h.lt;have N:=λw h=>JJ kp ts en w h
 have ag:=zFg;unfold psi;obtain⟨t,ht⟩:=xV (hd ts en)
 rw[ht]at N ⊢;obtain⟨k,x0,p0⟩:=t;have aa:hH ((hd ts en).k=k):=by show _=_;rw[ht]
 clear ht;unfold tkV at N;simp only at N ⊢;by_cases X:k=3
 ·subst X;rw[if_pos rfl];cases hs:T ts with
  |inr q =>
   obtain⟨c,p⟩:=q;simp only[QS];go_enter func219,ntmps219;go_wp2_with fail
   generalize w.alloc (Z zP0 150)=wa at*;refine(N _ z).mono ?_;rintro e w1 ⟨rfl,d⟩;have m:=AtL.below d I;have D:=z.below d;have i:=u.below d;have j:=QD (QA g d) (sX kp);clear d I z g u N;go_wp2_with fail
   refine(HW ts _ D hn H F aa.out i).mono ?_;rintro e E y;rw[hs]at y;simp only[QS]at y;obtain⟨rfl,A⟩:=y;unfold J1;go_wp2;exact⟨rfl,rfl,QC j A⟩
  |inl q =>
   obtain⟨row,r2⟩:=q;simp only[QS];go_enter func219,ntmps219;go_wp2_with fail
   generalize w.alloc (Z zP0 150)=wa at*;refine(N _ z).mono ?_;rintro e w1 ⟨rfl,d⟩;have m:=AtL.below d I;have D:=z.below d;have i:=u.below d;have j:=QD (QA g d) (sX kp);clear d I z g u N;have ad:=m.lt;go_wp2_with fail
   refine(HW ts _ D hn H F aa.out i).mono ?_;rintro e E y;rw[hs]at y;simp only[QS]at y;obtain⟨v,rfl,hP,X,A⟩:=y;have C:=m.grown A (by intro e;have:=Option.some.inj e;omega);have K:=QC j A;obtain⟨nn,x,sl,rfl,hp⟩:=hP;obtain⟨av,len,cap,rfl⟩:=hp.one;have L:iZ E w.heap.size 0 (QJ x (U av len cap)).toArray.size:=C.there;clear m j i D A;unfold ptV;go_wp2_with ((with_reducible refine stQ 150 (mX 2) (mX 9) (w.heap.size) 0 (QJ x (U av len cap)).toArray ?_ ?_ ?_);exact L;exact Qr _ _ rfl)
   have M:AtL (E.setCells w.heap.size 0 (QJ x (U av len cap))) w.heap.size (QJ x (U av len cap)):=C.setAll rfl;refine bodyPost_ret (QQ rfl _ _ w.heap.size (QJ x (U av len cap)) _ rfl M.range underlying150 rfl kR) rfl ?_;exact⟨_,rfl,(Pt.far (show Pt E _ (ptV x (U av len cap)) row from⟨nn,x,_,rfl,hp⟩) oM 0 _).mono oM,X.farAll ab _ 0,QP K (bZ _) _ 0⟩
 rw[if_neg X];have ae:(k == 3)=vX:=by simp[X]
 by_cases h5:k=5
 ·subst h5;rw[if_pos rfl];cases hs:R ts with
  |inr q =>
   obtain⟨c,p⟩:=q;simp only[QS];go_enter func219,ntmps219;go_wp2_with fail
   generalize w.alloc (Z zP0 150)=wa at*;refine(N _ z).mono ?_;rintro e w1 ⟨rfl,d⟩;have m:=AtL.below d I;have D:=z.below d;have i:=u.below d;have j:=QD (QA g d) (sX kp);clear d I z g u N;go_wp2_with fail
   refine(HB ts _ D hn H F aa.out i).mono ?_;rintro e E y;rw[hs]at y;simp only[QS]at y;obtain⟨rfl,A⟩:=y;unfold J1;go_wp2;exact⟨rfl,rfl,QC j A⟩
  |inl q =>
   obtain⟨row,r2⟩:=q;simp only[QS];go_enter func219,ntmps219;go_wp2_with fail
   generalize w.alloc (Z zP0 150)=wa at*;refine(N _ z).mono ?_;rintro e w1 ⟨rfl,d⟩;have m:=AtL.below d I;have D:=z.below d;have i:=u.below d;have j:=QD (QA g d) (sX kp);clear d I z g u N;have ad:=m.lt;go_wp2_with fail
   refine(HB ts _ D hn H F aa.out i).mono ?_;rintro e E y;rw[hs]at y;simp only[QS]at y;obtain⟨v,rfl,hP,X,A⟩:=y;have C:=m.grown A (by intro e;have:=Option.some.inj e;omega);have K:=QC j A;obtain⟨nn,x,sl,rfl,hp⟩:=hP;obtain⟨av,len,cap,rfl⟩:=hp.one;have L:iZ E w.heap.size 0 (QJ x (U av len cap)).toArray.size:=C.there;clear m j i D A;unfold ptV;go_wp2_with ((with_reducible refine stQ 150 (mX 2) (mX 13) (w.heap.size) 0 (QJ x (U av len cap)).toArray ?_ ?_ ?_);exact L;exact Qr _ _ rfl)
   have M:AtL (E.setCells w.heap.size 0 (QJ x (U av len cap))) w.heap.size (QJ x (U av len cap)):=C.setAll rfl;refine bodyPost_ret (QQ rfl _ _ w.heap.size (QJ x (U av len cap)) _ rfl M.range underlying150 rfl kR) rfl ?_;exact⟨_,rfl,(Pt.far (show Pt E _ (ptV x (U av len cap)) row from⟨nn,x,_,rfl,hp⟩) oM 0 _).mono oM,X.farAll ab _ 0,QP K (bZ _) _ 0⟩
 rw[if_neg h5];have af:(k == 5)=vX:=by simp[h5]
 cases hs:pl ts en with
 |inr q =>
  obtain⟨c,p⟩:=q;simp only[QS];go_enter func219,ntmps219;go_wp2_with fail
  generalize w.alloc (Z zP0 150)=wa at*;refine(N _ z).mono ?_;rintro e w1 ⟨rfl,d⟩;have m:=AtL.below d I;have D:=z.below d;have i:=u.below d;have j:=QD (QA g d) (sX kp);clear d I z g u N;go_wp2_with fail
  refine(zB5 kp ts en _ D H F i ac).mono ?_;rintro e E y;rw[hs]at y;simp only[QS]at y;obtain⟨rfl,A⟩:=y;unfold J1;go_wp2;exact⟨rfl,rfl,QC j A⟩
 |inl q =>
  obtain⟨row,r2⟩:=q;simp only[QS];go_enter func219,ntmps219;go_wp2_with fail
  generalize w.alloc (Z zP0 150)=wa at*;refine(N _ z).mono ?_;rintro e w1 ⟨rfl,d⟩;have m:=AtL.below d I;have D:=z.below d;have i:=u.below d;have j:=QD (QA g d) (sX kp);clear d I z g u N;have ad:=m.lt;go_wp2_with fail
  refine(zB5 kp ts en _ D H F i ac).mono ?_;rintro e E y;rw[hs]at y;simp only[QS]at y;obtain⟨v,rfl,hP,X,A⟩:=y;have C:=m.grown A (by intro e;have:=Option.some.inj e;omega);have K:=QC j A;obtain⟨nn,x,sl,rfl,hp⟩:=hP;obtain⟨av,len,cap,rfl⟩:=hp.one;have L:iZ E w.heap.size 0 (QJ x (U av len cap)).toArray.size:=C.there;clear m j i D A;unfold ptV;go_wp2_with ((with_reducible refine stQ 150 (mX 2) (mX 15) (w.heap.size) 0 (QJ x (U av len cap)).toArray ?_ ?_ ?_);exact L;exact Qr _ _ rfl)
  have M:AtL (E.setCells w.heap.size 0 (QJ x (U av len cap))) w.heap.size (QJ x (U av len cap)):=C.setAll rfl;refine bodyPost_ret (QQ rfl _ _ w.heap.size (QJ x (U av len cap)) _ rfl M.range underlying150 rfl kR) rfl ?_;exact⟨_,rfl,(Pt.far (show Pt E _ (ptV x (U av len cap)) row from⟨nn,x,_,rfl,hp⟩) oM 0 _).mono oM,X.farAll ab _ 0,QP K (bZ _) _ 0⟩
theorem zLI(sub:List Wlx.TV->PR)(en:Int)(nm:List UInt8)(ts:List Wlx.TV):VG sub en nm ts=(match paa sub en ts with
  | .inr e=>.inr e
  | .inl (c,rows,r)=>.inl (Jw ⟨nm.toArray⟩ c::rows,r)):=by
 unfold VG paa;cases tk ts [41]with
 |some r=>rfl
 |none =>
  simp only;cases sub ts with
  |inr e=>rfl
  |inl q =>
   obtain⟨row,r⟩:=q;simp only;cases Jo sub en (r.length+1) 1 row r with
   |inr e=>rfl
   |inl q=>rfl
theorem zMA(sub:List Wlx.TV->PR)(en:Int)(ts:List Wlx.TV):Jq sub en ts=pwd (pca (paa sub en) en) en ts:=by
 unfold Jq pwd pca;simp only[zLI] <;> rfl
theorem zLc(en:Int)(f k:Nat)(d:k<5)(ts:List Wlx.TV):lv en (f+1) k ts=pbt (lv en f (k+1)) k ts:=by
 rw[lv,if_pos d];rfl
theorem zMN(en:Int)(f:Nat)(ts:List Wlx.TV):lv en (f+1) 5 ts=psg (lv en f 5) (lv en f 6) ts:=by
 rw[lv,if_neg dM,if_pos rfl];rfl
theorem zLb(en:Int)(f:Nat)(ts:List Wlx.TV):lv en (f+1) 6 ts=ppc (lv en f 7) ts:=by
 rw[lv,if_neg dM,if_neg dM,if_pos rfl];rfl
theorem zOn(en:Int)(f:Nat)(ts:List Wlx.TV):lv en (f+1) 7 ts=psi en (Jq (lv en f 0) en) (J2 (lv en f 0) en) ts:=by
 rw[lv,if_neg dM,if_neg dM,if_neg dM];rfl
structure Tied(kp:Nat)(en:Int)(f:Nat):Prop where
 bet:∀k n,k<=5->10*n+9-k<=f->zLG kp en k (lv en f k) n
 sgn:∀n,10*n+4<=f->Vw kp en 173 (lv en f 5) n
 pct:∀n,10*n+3<=f->Vw kp en 199 (lv en f 6) n
 sin:∀n,10*n+2<=f->Vw kp en 219 (lv en f 7) n
theorem Tied.form{kp:Nat}{f:Nat}(h:Tied kp en f)(n:Nat)(d:10*n+9<=f):zCQ kp en (lv en f 0) n:=zFH kp en _ n (h.bet 0 n oM oM)
theorem zC1(en:Int):(hd [] en).k=0:=rfl
theorem zSa(kp:Nat)(en:Int)(g:8<=kp):∀f,Tied kp en f:=by
 intro f;induction f with
 |zero=>exact⟨λk n _ h=>by omega,λn h=>by omega,λn h=>by omega,λn h=>by omega⟩
 |succ f u =>
  have i:=λk=>JX en f k
  have S:∀n,10*n+4<=f+1->Vw kp en 173 (lv en (f+1) 5) n:=by
   intro n y ts w h q e d j;rw[zMN];exact zIG kp en _ _ n (λm C=>u.sgn m oM) (u.pct n oM) ts w h q e d j g
  refine⟨?_,S,?_,?_⟩
  ·intro k n A y;rcases oX k 5 with h5|h5
   ·intro ts w h q e d j;rw[zLc en f k h5];exact zFP kp en k h5 _ n (u.bet (k+1) n oM oM) (i (k+1)) ts w h q e d j g
   ·obtain rfl:k=5:=oM;exact zD0 kp en _ n (S n oM)
  ·intro n y ts w h q e d j;rw[zLb];exact zDQ kp en _ n (u.sin n oM) (i 7) ts w h q e d j g
  ·intro n y ts w h q e d j;rw[zOn];refine zKj kp en _ _ n ?_ ?_ ts w h q e d j g
   ·intro ts w h q e d x j;cases ts with
    |nil=>exact absurd x (by rw[zC1];decide)
    |cons t r =>
     have z:=u.form r.length (by simp at q;omega);rw[zMA];exact zKo kp en _ (r.length+2) (zKc kp en _ r.length (zDK kp en _ r.length z (i 0) g) g) _ w h sM e d x j g
   ·intro ts w h q e d x j;cases ts with
    |nil=>exact absurd x (by rw[zC1];decide)
    |cons t r=>exact zEA kp en _ r.length (u.form r.length (by simp at q;omega)) (i 0) _ w h sM e d j g
theorem zGz(kp:Nat)(en:Int)(d:8<=kp)(n:Nat):zCQ kp en (lv en (10*n+9) 0) n:=(zSa kp en d _).form n (bZ _)
theorem zJr{P:Prop}(h:hH P):P:=h.out
theorem zEK{a b c:wW}{row:Option Nat}(d:a.grownBy b row)(e:b.grownBy c row):a.grownBy c row :=
 ⟨e.os.trans d.os,e.tape.trans d.tape,e.output.trans d.output,fZ d.size e.size,λk g i=>(e.block k (yZ g d.size) i).trans (d.block k g i)⟩
theorem PtIs.pos{G:Nat->Prop}{x:Wt.Nd}{row:List Wt.Nd}(h:PtIs w G n x sl row):0<row.length:=by
 cases n with
 |zero=>exact absurd h (by simp[PtIs])
 |succ n =>
  obtain⟨_,_,_,_,_,_,rfl,_⟩:=h;simp
theorem zJU:∀(d:List (List Wt.Nd)),(∀r∈d,0<r.length)->d.length<=d.flatten.length
 |[],_=>by simp
 |r::l,h=>by
  have g:=h r sM;have i:=zJU l (λq e=>h q (by simp[e]));simp only[dZ,qY,kZ];omega
theorem zS3(x:Wt.Nd)(w:wW):(Instr.buildSlice 99 1 #[(0,gX (QM x).toArray)]).run prog w=.ok (U (sX ⟨w.heap.size,0,qX⟩) 1 1) (w.alloc (Z (QM x).toArray 97)):=kR
theorem zOI{K:Act->wW->Prop}(y:Operand)(d:op.op=.buildSlice 99 1 #[(0,y)])(x:Wt.Nd)(e:a.eval y=gX (QM x).toArray)
  (h:K (a.put op.dst (U (sX ⟨w.heap.size,0,qX⟩) 1 1)) (w.alloc (Z (QM x).toArray 97))):op.wp prog a w K Q:=by
 unfold Oper.wp execOp;simp only[d,vZ,oZ,dY,e,bY,cY,sZ,zS3];exact h
theorem zEk{ops:Array Oper}{rest:List Oper}(d:op.guard=qX)(y:Operand)(g:op.op=.buildSlice 99 1 #[(0,y)])(x:Wt.Nd)(i:a.eval y=gX (QM x).toArray)
  (h:wpList prog ops Q rest (a.put op.dst (U (sX ⟨w.heap.size,0,qX⟩) 1 1)) (w.alloc (Z (QM x).toArray 97))):wpList prog ops Q (op::rest) a w :=
 wpList_plain d λ_ e=>zOI y g x i (e _ _ h)
theorem zP3(w:wW)(x:Wt.Nd)(j:Nat)(u:vW)(e:(QM x)[j]?=sX u):(w.alloc (Z (QM x).toArray 97)).cell? ((⟨w.heap.size,0,qX⟩:dW).add j)=sX u:=by
 have d:(⟨w.heap.size,0,qX⟩:dW).add j=⟨w.heap.size,0+j,qX⟩:=by unfold Addr.add;split <;> simp_all
 rw[d];exact(AtL.new0 w 97 (QM x)).range j u e
theorem zPj(x:Wt.Nd)(u:vW)(d:u∈QM x):u.oneCell'=tX:=zNA x (U qX 0 0) rfl u (by unfold QJ;exact List.mem_append_left _ d)
def Jb(l:List Wt.Nd):List vW:=l.flatMap QM
theorem zHS(a b:List Wt.Nd):Jb (a++b)=Jb a++Jb b:=by simp[Jb]
theorem zI6(x:Wt.Nd):Jb [x]=QM x:=by simp[Jb]
def zR8(base:Nat)(v:vW)(l:List Wt.Nd)(w:wW)(e:Ending)(w':wW):Prop :=
 ∃d,e=rX d/\w'.ownsRow base 97 20 d l.length (Jb l)/\w.grownBy w' v.ownBlock/\(d.ownBlock=v.ownBlock \/ ∃b,d.ownBlock=sX b/\w.heap.size<=b)
theorem zPF(base:Nat):∀(n:Nat)(x:Wt.Nd)(sl:vW)(row:List Wt.Nd)(G:Nat->Prop)(v:vW)(pre:List Wt.Nd)(w:wW),PtIs w G n x sl row->w.ownsRow base 97 20 v pre.length (Jb pre)->(∀b,G b->sX b≠v.ownBlock)->base<=w.heap.size->pre.length+row.length<=100000 ->
  cW prog 80 #[ptV x sl,v] w λe w'=>zR8 base v (pre++row) w e w':=by
 intro n;induction n with
 |zero=>intro x sl row G v pre w h;exact absurd h (by simp[PtIs])
 |succ n ih =>
  intro x sl row G v pre w h L hG ax D;obtain⟨av,cap,y,d,rfl,hl,rfl,hp⟩:=h;obtain⟨i0,hi,aE,aF,aG⟩:=info_parts zL2;unfold ptV;have pXpX0:=AtL.new0 w 150 (QJ x (U av y.length cap));have F:(w.alloc (Z (QJ x (U av y.length cap)).toArray 150)).rangeAt w.heap.size 0 (QM x):=λj u hu=>pXpX0.range j u (by
   unfold QJ;rw[wZ (List.getElem?_eq_some_iff.1 hu).1];exact hu)
  have cX:(w.alloc (Z (QJ x (U av y.length cap)).toArray 150)).cell? ⟨w.heap.size,20,qX⟩=sX (U av y.length cap):=pXpX0.range 20 _ rfl;have aA:∀k,v.ownBlock=sX k->k<w.heap.size:=λk K=>(L.lt k K).2
  have aP:y.length<=100000:=by
   have:=zJU d (λr hr=>by
    obtain⟨j,hj,e⟩:=List.getElem_of_mem hr;obtain⟨_,_,_,_,hq⟩:=hp j oM hj;rw[<-e];exact hq.pos)
   simp only[dZ]at D;omega
  have aO:pre.length+1<=100000:=by simp at D;omega
  have aq:(w.alloc (Z (QJ x (U av y.length cap)).toArray 150)).heap.size=w.heap.size+1:=sM;have N5:∀j u,(QM x)[j]?=sX u->((w.alloc (Z (QJ x (U av y.length cap)).toArray 150)).alloc (Z (QM x).toArray 97)).cell? ((⟨w.heap.size+1,0,qX⟩:dW).add j)=sX u:=by
   intro j u hu;have:=zP3 (w.alloc (Z (QJ x (U av y.length cap)).toArray 150)) x j u hu;rw[aq]at this;exact this
  have am:base<=((w.alloc (Z (QJ x (U av y.length cap)).toArray 150)).alloc (Z (QM x).toArray 97)).heap.size:=by simp;omega
  have E:=(L.alloc (Z (QJ x (U av y.length cap)).toArray 150)).alloc (Z (QM x).toArray 97);go_enter func80,ntmps80;go_wp2_with (first|((with_reducible refine wpList_load_mid (cs:=QM x) ?_ 97 (mX 8) ?_ w.heap.size 0 ?_ _ ?_ underlying97 ?_ ?_ ?_);rfl;rfl;rfl;exact F;rfl;kernel_rfl)|((with_reducible refine zEk ?_ (mX 9) ?_ x ?_ ?_);rfl;rfl;rfl)|(at_builtin;refine zJr ?_))
  show wpList _ _ _ _ _ _
  refine zAN _ rfl _ _ 99 rfl base 97 i0 (gX #[O J 0,O J 0,O J 0,O J 0,V ⟨#[]⟩,Y vX,O J 0,O J 0,V ⟨#[]⟩,O J 0,V ⟨#[]⟩,O J 0,O J 0,Y vX,Y vX,V ⟨#[]⟩,O J 0,O J 0,Y vX,Y vX]) 20 176 underlying99 hi aE aF aG rfl dM _ _ _ rfl E ⟨w.heap.size+1,0,qX⟩ 1 1 (QM x) rfl rfl N5 (zPj x) (by unfold maxLen;omega) oM am ?_;intro v5 w5 A C al ac;have ab:((w.alloc (Z (QJ x (U av y.length cap)).toArray 150)).alloc (Z (QM x).toArray 97)).grownBy w5 v.ownBlock:=C;have ao:sX w.heap.size≠v.ownBlock:=λe=>by have:=aA _ e.symm;omega
  have c5:w5.cell? ⟨w.heap.size,20,qX⟩=sX (U av y.length cap):=ab.cell ((mY _ _ v.ownBlock).cell cX ao) ao;have g5:w.grownBy w5 v.ownBlock:=zEK (mY w _ _) (zEK (mY _ _ _) ab);have R:hH (w5.ownsRow base 97 20 v5 (pre++[x]).length (Jb (pre++[x]))):=by
   show vY _ _ _ _ _ _ _
   rw[zHS,zI6,kZ];exact A
  have af:hH (v5.ownBlock=v.ownBlock \/ ∃b,v5.ownBlock=sX b/\w.heap.size<=b):=by
   rcases al with h|h
   ·exact .inl h
   ·exact .inr ⟨_,h,by simp;omega⟩
  have ay:∃a c,v5=U a (pre.length+1) c:=by
   rcases A.2 with⟨_,h0⟩|⟨g,cap,aL,e,_⟩
   ·omega
   ·exact⟨_,_,e⟩
  have G5:hH (w.grownBy w5 v.ownBlock):=g5;clear C ab al ac A E cX F pXpX0 N5 am aq;go_wp2_with fail
  go_loopg [1,15] (y.length) (λgk a b wr=>∃i:Nat,b=O J i/\gk=y.length-i/\i<=y.length/\hH (wr.ownsRow base 97 20 a (pre++x::(d.take i).flatten).length (Jb (pre++x::(d.take i).flatten)))/\hH (w.grownBy wr v.ownBlock)/\hH (a.ownBlock=v.ownBlock \/ ∃b,a.ownBlock=sX b/\w.heap.size<=b))
  case atStart=>exact⟨0,rfl,rfl,oM,R,G5,af⟩
  case round =>
   clear R G5 af;obtain⟨i,rfl,aN,aH,OW,H,AT⟩:=hrel;by_cases aB:i<y.length
   ·have an:(i:Int)<y.length:=oM;obtain⟨bb,rfl,aw,hr,ap⟩:=hp i aB oM;have aC:wr.rangeAt bb (i*21) (QJ (y[i]).1 (y[i]).2):=λj u hu=>H.out.cell (hr j u hu) (hG bb aw)
    obtain⟨av',q,m,aD⟩:=ap.one;generalize aR:(y[i]).1=I at*;generalize aQ:(y[i]).2=aS at*;subst aD;have pN:=AtL.new0 wr 150 (QJ (bare 0) (U qX 0 0));have M:iZ (wr.alloc (Z zP0 150)) wr.heap.size 0 (QJ I (U av' q m)).toArray.size:=pN.there;have pM:AtL ((wr.alloc (Z zP0 150)).setCells wr.heap.size 0 (QJ I (U av' q m))) wr.heap.size (QJ I (U av' q m)):=AtL.setAll pN rfl;have rM:=pM.range;have z:=Ql (QI (cZ _ wr) (Z zP0 150)) (bZ wr.heap.size) (QJ I (U av' q m)) 0;go_wp2_with (first|((with_reducible refine wpList_load_mid (cs:=QJ I (U av' q m)) ?_ 150 (mX 17) ?_ bb (i*21) ?_ _ ?_ underlying150 ?_ ?_ ?_);rfl;rfl;rfl;exact aC;rfl;kernel_rfl)|((with_reducible refine stQ 150 (mX 6) (mX 18) (wr.heap.size) 0 (QJ I (U av' q m)).toArray ?_ ?_ ?_);exact M;exact Qr _ _ rfl)|((with_reducible refine wpList_load_mid (cs:=QJ I (U av' q m)) ?_ 150 (mX 6) ?_ wr.heap.size 0 ?_ _ ?_ underlying150 ?_ ?_ ?_);rfl;rfl;rfl;exact rM;rfl;kernel_rfl))
    generalize((wr.alloc (Z zP0 150)).setCells wr.heap.size 0 (QJ I (U av' q m)))=wM at*;have az:i<d.length:=oM;have ar:d.take (i+1)=d.take i++[d[i]]:=by rw[List.take_add_one,hZ az];rfl
    have aM:(d.take i).flatten.length+(d[i]).length<=d.flatten.length:=by
     have:=congrArg (λl=>l.flatten.length) (List.take_append_drop (i+1) d);simp only[ar,wY,kZ,qY,hX,tY]at this;omega
    have aI:=H.out.size;have aJ:=z.size;have ai:=PtIs.inside (G':=λb=>G b/\b<w.heap.size) (λb hb hl=>⟨hb,hl⟩) n ap;have aj:=PtIs.keep (λk K X=>H.out.block k X (hG k K.1)) n ai;have ak:=PtIs.keep (λk K X=>z.block k X) n aj;have ae:=OW.out.kept (row:=qX) ⟨z.os,z.tape,z.output,z.size,λk K _=>z.block k K⟩ (by cases u1.ownBlock <;> simp);have ah:∀b,G b/\b<w.heap.size->sX b≠u1.ownBlock:=by
     intro b hb e;rcases AT.out with h|⟨b',h,h'⟩
     ·exact hG b hb.1 (e.trans h)
     ·rw[h]at e;have:=Option.some.inj e;omega
    refine(ih I (U av' q m) (d[i]) _ u1 _ wM ak ae ah oM (by simp only[kZ,dZ]at D ⊢;omega)).mono ?_;rintro e w7 ⟨v7,rfl,T,g7,ag⟩;have aK:=g7.size;have au:hH (w7.ownsRow base 97 20 v7 (pre++x::(d.take (i+1)).flatten).length (Jb (pre++x::(d.take (i+1)).flatten))):=by
     show vY _ _ _ _ _ _ _
     rw[ar,wY,qY,hX,tY,<-List.cons_append,<-bX];exact T
    have G7:hH (w.grownBy w7 v.ownBlock):=⟨g7.os.trans (z.os.trans H.out.os),g7.tape.trans (z.tape.trans H.out.tape),g7.output.trans (z.output.trans H.out.output),oM,λk K hn=>(g7.block k oM (by
      intro e;rcases AT.out with h|⟨b',h,h'⟩
      ·exact hn (e.trans h)
      ·rw[h]at e;have:=Option.some.inj e;omega)).trans ((z.block k oM).trans (H.out.block k K hn))⟩
    have A7:hH (v7.ownBlock=v.ownBlock \/ ∃b,v7.ownBlock=sX b/\w.heap.size<=b):=by
     rcases ag with h|⟨b,h,h'⟩
     ·rcases AT.out with X|⟨b',X,h3⟩
      ·exact .inl (h.trans X)
      ·exact .inr ⟨b',h.trans X,h3⟩
     ·exact .inr ⟨b,h,oM⟩
    clear T g7 ag ae ai aj ak z pM rM M pN OW H AT ah;go_wp2_with fail
    go_roundg (y.length-(i+1))
    case rel=>exact⟨i+1,rfl,rfl,oM,au,G7,A7⟩
    case measure=>omega
   ·obtain rfl:i=y.length:=oM;have an:¬(y.length:Int)<y.length:=oM;go_wp2_with fail
    go_ret;have aa:d.take y.length=d:=by rw[<-hl];exact List.take_length
    have ad:=OW.out;rw[aa]at ad;exact⟨_,rfl,ad,H.out,AT.out⟩
theorem zKS:Wt.FitV Wt.v0:=⟨dM,dM,dM⟩
theorem e0:(⟨#[]⟩:ByteArray).size<=9223372036854775807:=dM
theorem zJL(k o:Int):Wt.FitN (opN k o):=⟨zKS,e0,e0,e0⟩
theorem zF6{nm:List UInt8}(c:Nat)(h:nm.length<=1024):Wt.FitN (Jw ⟨nm.toArray⟩ c):=⟨zKS,by show nm.length<=_;omega,e0,e0⟩
theorem zDH{v:Wt.Vl}(h:Wt.FitV v):Wt.FitN (JO v):=⟨h,e0,e0,e0⟩
theorem zOy{t:Wlx.TV}(d:Qe t){v:Wt.Vl}(h:Vp t=sX v):Wt.FitV v:=by
 unfold Vp at h;split at h
 ·split at h
  ·rw[<-Option.some.inj h];generalize Wnum.oN (Wnum.rdO ⟨t.t.toArray⟩)=a;generalize Wnum.oD (Wnum.rdO ⟨t.t.toArray⟩)=b;obtain⟨e,g⟩:=Wnum.cN_bd a b;obtain⟨i,j⟩:=Wnum.cD_bd a b;refine⟨?_,?_,e0⟩
   ·show _<=Wnum.cN a b/\Wnum.cN a b<=_
    omega
   ·show _<=Wnum.cD a b/\Wnum.cD a b<=_
    omega
  ·cases h
 split at h
 ·split at h
  ·rw[<-Option.some.inj h];unfold VU;split
   ·split
    ·exact⟨⟨dM,dM⟩,⟨dM,dM⟩,e0⟩
    ·exact⟨⟨sM,sM⟩,⟨sM,sM⟩,by show t.t.length<=_;omega⟩
   ·exact⟨⟨dM,dM⟩,⟨dM,dM⟩,e0⟩
  ·cases h
 split at h
 ·rw[<-Option.some.inj h];exact⟨⟨sM,sM⟩,⟨sM,sM⟩,e0⟩
 ·cases h
theorem zRa{a:Wt.Rf}(h:rw1 l=sX a):a.s=⟨#[]⟩:=by
 unfold rw1 at h;split at h
 ·split at h
  ·rw[<-Option.some.inj h];rfl
  ·cases h
 ·cases h
theorem zNZ{a:Wt.Rf}(h:pc ts en=.inl (a,r)):a.s=⟨#[]⟩/\r.length<ts.length:=by
 have g:=zFC h;unfold pc at h;split at h
 ·rename_i e
  split at h
  ·cases h
  split at h
  ·cases h
  split at h
  ·rename_i i d
   simp only[Sum.inl.injEq,Prod.mk.injEq]at h;refine⟨by rw[<-h.1];exact zRa d,?_⟩;cases ts with
   |nil=>exact absurd e (by rw[zC1];decide)
   |cons t q=>rw[g];simp
  ·cases h
 ·cases h
def V9(n:Nat)(row:List Wt.Nd)(r:List Wlx.TV):Prop:=(∀x∈row,Wt.FitN x)/\row.length+r.length<=n
theorem zPs(d:∀t∈ts,Qe t){row:List Wt.Nd}{r:List Wlx.TV}(h:pl ts en=.inl (row,r)):V9 ts.length row r:=by
 unfold pl at h;split at h
 ·rename_i v e
  simp only[Sum.inl.injEq,Prod.mk.injEq]at h;obtain⟨q,g⟩:=zEC e;refine⟨?_,?_⟩
  ·rw[<-h.1];intro x i;rw[List.mem_singleton.1 i];exact zDH (zOy (zAk en d) e)
  ·rw[<-h.1,<-h.2];rw[g];simp;omega
 ·cases h
theorem zGV(k:Int){s:ByteArray}(e:s.size<=1024)(a b:Wt.Rf)(d:b.s=⟨#[]⟩):Wt.FitN ⟨k,Wt.v0,0,⟨#[]⟩,0,⟨s,a.r,a.c,a.fr,a.fc⟩,b⟩:=⟨zKS,e0,by show s.size<=_;omega,by show b.s.size<=_;rw[d];exact e0⟩
theorem zH7(m:s.size<=1024){ts:List Wlx.TV}{en:Int}{row:List Wt.Nd}{r:List Wlx.TV}(h:pcs s ts en=.inl (row,r)):V9 ts.length row r:=by
 unfold pcs at h;cases d:pc ts en with
 |inr e=>rw[d]at h;cases h
 |inl q =>
  obtain⟨a,u⟩:=q;rw[d]at h;simp only at h;have z:=zNZ d;cases g:tk u [58]with
  |none =>
   rw[g]at h;simp only[Sum.inl.injEq,Prod.mk.injEq]at h;rw[<-h.1,<-h.2];exact⟨λx j=>by rw[List.mem_singleton.1 j];exact zGV 2 m a Wt.r0 rfl,by simp;omega⟩
  |some y =>
   rw[g]at h;simp only at h;have C:=(Qx g).2;cases i:pc y en with
   |inr e=>rw[i]at h;cases h
   |inl q =>
    obtain⟨b,A⟩:=q;rw[i]at h;simp only[Sum.inl.injEq,Prod.mk.injEq]at h;have f3:=zNZ i;rw[<-h.1,<-h.2];exact⟨λx j=>by rw[List.mem_singleton.1 j];exact zGV 3 m a b f3.1,by simp;omega⟩
theorem Jh(d:∀t∈ts,Qe t)(h:r <:+ ts):∀t∈r,Qe t:=λt e=>d t (h.subset e)
theorem zMR(j:∀ts row r,sub ts=.inl (row,r)->r <:+ ts)(i:∀ts row r,(∀t∈ts,Qe t)->sub ts=.inl (row,r)->V9 ts.length row r)(k:Int):∀(n:Nat)(row:List Wt.Nd)(ts:List Wlx.TV)(d:List Wt.Nd)(r:List Wlx.TV),(∀t∈ts,Qe t)->(∀x∈row,Wt.FitN x)->more sub k n row ts=.inl (d,r)->V9 (row.length+ts.length) d r:=by
 intro n;induction n with
 |zero=>intro row ts d r g u h;simp only[more,Sum.inl.injEq,Prod.mk.injEq]at h;rw[<-h.2,<-h.1];exact⟨u,bZ _⟩
 |succ n D =>
  intro row ts d r g u h;simp only[more]at h;cases y:Jc k ts with
  |none=>rw[y]at h;simp only[Sum.inl.injEq,Prod.mk.injEq]at h;rw[<-h.2,<-h.1];exact⟨u,bZ _⟩
  |some q =>
   obtain⟨o,E⟩:=q;rw[y]at h;simp only at h;have C:=Qm y;cases m:sub E with
   |inr e=>rw[m]at h;cases h
   |inl q =>
    obtain⟨A,H⟩:=q;rw[m]at h;simp only at h;have z:=i _ _ _ (Jh g C.1) m;have F:=j _ _ _ m;have:=D _ _ _ _ (Jh g (F.trans C.1)) (by
     intro x hx;rcases List.mem_cons.1 hx with rfl|hx
     ·exact zJL _ _
     rcases List.mem_append.1 hx with hx|hx
     ·exact u x hx
     ·exact z.1 x hx) h
    refine⟨this.1,fZ this.2 ?_⟩;have:=z.2;simp only[dZ,kZ];omega
theorem zLW(m:∀ts row r,sub ts=.inl (row,r)->r <:+ ts)(i:∀ts row r,(∀t∈ts,Qe t)->sub ts=.inl (row,r)->V9 ts.length row r)(en:Int):∀(n c:Nat)(g:List Wt.Nd)(ts:List Wlx.TV)(y:Nat)(d:List Wt.Nd)(r:List Wlx.TV),(∀t∈ts,Qe t)->(∀x∈g,Wt.FitN x)->Jo sub en n c g ts=.inl (y,d,r)->(∀x∈d,Wt.FitN x)/\d.length+r.length<g.length+ts.length:=by
 intro n;induction n with
 |zero=>intro c g ts y d r _ _ h;cases h
 |succ n F =>
  intro c g ts y d r j D h;simp only[Jo]at h;cases z:tk ts [41]with
  |some q=>rw[z]at h;simp only[Sum.inl.injEq,Prod.mk.injEq]at h;have:=(Qx z).2;rw[<-h.2.2,<-h.2.1];exact⟨D,oM⟩
  |none =>
   rw[z]at h;simp only at h;split at h
   ·cases h
   ·cases A:tk ts [44]with
    |none=>rw[A]at h;cases h
    |some H =>
     rw[A]at h;simp only at h;have E:=Qx A;cases u:sub H with
     |inr e=>rw[u]at h;cases h
     |inl q =>
      obtain⟨row,K⟩:=q;rw[u]at h;simp only at h;have C:=i _ _ _ (Jh j E.1) u;have I:=m _ _ _ u;have:=F _ _ _ _ _ _ (Jh j (I.trans E.1)) (by
       intro x hx;rcases List.mem_append.1 hx with hx|hx
       ·exact D x hx
       ·exact C.1 x hx) h
      have f3:=C.2;refine⟨this.1,yZ this.2 ?_⟩;simp only[kZ];omega
theorem zJN(g:∀ts row r,sub ts=.inl (row,r)->r <:+ ts)(d:∀ts row r,(∀t∈ts,Qe t)->sub ts=.inl (row,r)->V9 ts.length row r)(en:Int)(nm:List UInt8)(i:nm.length<=1024)(ts:List Wlx.TV)(row:List Wt.Nd)(r:List Wlx.TV)(j:∀t∈ts,Qe t)(h:VG sub en nm ts=.inl (row,r)):V9 ts.length row r:=by
 unfold VG at h;cases y:tk ts [41]with
 |some q =>
  rw[y]at h;simp only[Sum.inl.injEq,Prod.mk.injEq]at h;have:=(Qx y).2;rw[<-h.2,<-h.1];exact⟨λx hx=>by rw[List.mem_singleton.1 hx];exact zF6 0 i,by simp;omega⟩
 |none =>
  rw[y]at h;simp only at h;cases u:sub ts with
  |inr e=>rw[u]at h;cases h
  |inl q =>
   obtain⟨m,C⟩:=q;rw[u]at h;simp only at h;have A:=d _ _ _ j u;have E:=g _ _ _ u;cases z:Jo sub en (C.length+1) 1 m C with
   |inr e=>rw[z]at h;cases h
   |inl q =>
    obtain⟨c,D,F⟩:=q;rw[z]at h;simp only[Sum.inl.injEq,Prod.mk.injEq]at h;have f3:=zLW g d en _ _ _ _ _ _ _ (Jh j E) A.1 z;rw[<-h.2,<-h.1];refine⟨?_,?_⟩
    ·intro x hx;rcases List.mem_cons.1 hx with rfl|hx
     ·exact zF6 c i
     ·exact f3.1 x hx
    ·have:=f3.2;have:=A.2;simp only[dZ];omega
theorem zJ1(i:∀ts row r,sub ts=.inl (row,r)->r <:+ ts)(e:∀ts row r,(∀t∈ts,Qe t)->sub ts=.inl (row,r)->V9 ts.length row r)(en:Int)(ts:List Wlx.TV)(row:List Wt.Nd)(r:List Wlx.TV)(g:∀t∈ts,Qe t)(u:(hd ts en).k=3)(h:Jq sub en ts=.inl (row,r)):V9 ts.length row r:=by
 have m:=(zAk en g).1;have z:0<ts.length:=by
  cases ts with
  |nil=>exact absurd u (by rw[zC1];decide)
  |cons t q=>simp
 have d:∀k,(ts.drop k).length<=ts.length:=λk=>by rw[rZ];omega
 have y:ByteArray.size ⟨(hd ts en).t.toArray⟩<=1024:=m;unfold Jq at h;split at h
 ·split at h
  ·have:=zJN i e en _ m _ _ _ (Jh g (List.drop_suffix 2 ts)) h;exact⟨this.1,fZ this.2 (d 2)⟩
  ·cases h
 split at h
 ·split at h
  ·have:=zH7 y h;exact⟨this.1,fZ this.2 (d 2)⟩
  ·cases h
 split at h
 ·simp only[Sum.inl.injEq,Prod.mk.injEq]at h;rw[<-h.2,<-h.1];exact⟨λx j=>by rw[List.mem_singleton.1 j];exact zDH ⟨dM,dM,dM⟩,by simp;omega⟩
 split at h
 ·simp only[Sum.inl.injEq,Prod.mk.injEq]at h;rw[<-h.2,<-h.1];exact⟨λx j=>by rw[List.mem_singleton.1 j];exact zDH ⟨dM,dM,dM⟩,by simp;omega⟩
 ·exact zH7 dM h
theorem zGy(d:∀ts row r,(∀t∈ts,Qe t)->sub ts=.inl (row,r)->V9 ts.length row r)(en:Int)(ts:List Wlx.TV)(row:List Wt.Nd)(r:List Wlx.TV)(m:∀t∈ts,Qe t)(h:J2 sub en ts=.inl (row,r)):V9 ts.length row r:=by
 unfold J2 at h;cases g:tk ts [40]with
 |none=>rw[g]at h;cases h
 |some y =>
  rw[g]at h;simp only at h;have A:=Qx g;cases i:sub y with
  |inr e=>rw[i]at h;cases h
  |inl q =>
   obtain⟨x,z⟩:=q;rw[i]at h;simp only at h;have u:=d _ _ _ (Jh m A.1) i;cases j:tk z [41]with
   |none=>rw[j]at h;cases h
   |some C =>
    rw[j]at h;simp only[Sum.inl.injEq,Prod.mk.injEq]at h;have D:=Qx j;have:=u.2;rw[<-h.2,<-h.1];exact⟨u.1,oM⟩
theorem zNl:∀(n:Nat)(row:List Wt.Nd)(ts:List Wlx.TV)(d:List Wt.Nd)(r:List Wlx.TV),(∀x∈row,Wt.FitN x)->pct n row ts=.inl (d,r)->V9 (row.length+ts.length) d r:=by
 intro n;induction n with
 |zero=>intro row ts d r e h;simp only[pct,Sum.inl.injEq,Prod.mk.injEq]at h;rw[<-h.2,<-h.1];exact⟨e,bZ _⟩
 |succ n i =>
  intro row ts d r e h;simp only[pct]at h;cases g:Jc 6 ts with
  |none=>rw[g]at h;simp only[Sum.inl.injEq,Prod.mk.injEq]at h;rw[<-h.2,<-h.1];exact⟨e,bZ _⟩
  |some q =>
   obtain⟨o,j⟩:=q;rw[g]at h;simp only at h;have m:=Qm g;have:=i _ _ _ _ (λx hx=>by
    rcases List.mem_cons.1 hx with rfl|hx
    ·exact zJL _ _
    ·exact e x hx) h
   refine⟨this.1,fZ this.2 ?_⟩;simp only[dZ];omega
theorem zNV(en:Int):∀(f k:Nat)(ts:List Wlx.TV)(row:List Wt.Nd)(r:List Wlx.TV),(∀t∈ts,Qe t)->lv en f k ts=.inl (row,r)->V9 ts.length row r:=by
 intro f;induction f with
 |zero=>intro k ts row r _ h;cases h
 |succ f i =>
  intro k ts row r d h;simp only[lv]at h;split at h
  ·cases g:lv en f (k+1) ts with
   |inr e=>rw[g]at h;cases h
   |inl q =>
    obtain⟨m,y⟩:=q;rw[g]at h;simp only at h;have j:=i _ _ _ _ d g;have:=zMR (JX en f (k+1)) (i (k+1)) _ _ _ _ _ _ (Jh d (JX en _ _ _ _ _ g)) j.1 h;exact⟨this.1,fZ this.2 j.2⟩
  split at h
  ·cases g:Jc 5 ts with
   |none=>rw[g]at h;exact i _ _ _ _ d h
   |some q =>
    obtain⟨o,y⟩:=q;rw[g]at h;simp only at h;have D:=Qm g;cases u:lv en f 5 y with
    |inr e=>rw[u]at h;cases h
    |inl q =>
     obtain⟨A,E⟩:=q;rw[u]at h;simp only[Sum.inl.injEq,Prod.mk.injEq]at h;have z:=i _ _ _ _ (Jh d D.1) u;rw[<-h.2,<-h.1];refine⟨λx hx=>?_,?_⟩
     ·rcases List.mem_cons.1 hx with rfl|hx
      ·exact zJL _ _
      ·exact z.1 x hx
     ·have:=z.2;simp only[dZ];omega
  split at h
  ·cases g:lv en f 7 ts with
   |inr e=>rw[g]at h;cases h
   |inl q =>
    obtain⟨m,y⟩:=q;rw[g]at h;simp only at h;have j:=i _ _ _ _ d g;have:=zNl _ _ _ _ _ j.1 h;exact⟨this.1,fZ this.2 j.2⟩
  split at h
  ·rename_i C
   exact zJ1 (JX en f 0) (i 0) _ _ _ _ d C h
  split at h
  ·exact zGy (i 0) _ _ _ _ d h
  ·exact zPs d h
open Go.Shelf Go.RowKit
theorem zQC{d:Nat}{ts:List Wlx.Tok}(h:V8 w B v ts)(e:d<=B):V8 w d v ts :=
 ⟨h.1,h.2.imp id λ⟨g,cap,cur,a,b,c⟩=>⟨g,cap,cur,a,fZ e b,c⟩⟩
theorem zCL(w:wW)(a b c:vW)(t:TypeId):∀j u,[a,b,c][j]?=sX u->(w.alloc (Z #[a,b,c] t)).cell? ((⟨w.heap.size,0,qX⟩:dW).add j)=sX u:=by
 intro j u d;match j,d with
 |0,d=>simp at d;subst d;simp[Addr.add]
 |1,d=>simp at d;subst d;simp[Addr.add]
 |2,d=>simp at d;subst d;simp[Addr.add]
 |j+3,d=>simp at d
theorem zBZ:∀(l:List UInt8)(i:Nat),(0<Wlx.quo tX i l->i+1<=Wlx.quo tX i l)/\(0<Wlx.quo vX i l->i<=Wlx.quo vX i l):=by
 intro l;induction l with
 |nil=>intro i;exact⟨λh=>absurd h (by show¬0<0;omega),λ_=>bZ _⟩
 |cons c t j =>
  intro i;obtain⟨e,g⟩:=j (i+1);by_cases d:c=34
  ·subst d;rw[JW,JW];exact⟨g,λh=>dX (dX (e h))⟩
  ·rw[zCS d,J7 d];exact⟨λh=>by have:=e h;omega,λ_=>bZ _⟩
theorem zN9(h:0<Wlx.sz 2 l):2<=Wlx.sz 2 l:=by
 cases l with
 |nil=>exact absurd h dM
 |cons c t =>
  have e:Wlx.sz 2 (c::t)=if c=34 then Wlx.quo tX 1 t else 0:=rfl
  rw[e]at h ⊢;by_cases d:c=34
  ·rw[if_pos d]at h ⊢;exact(zBZ t 1).1 h
  ·rw[if_neg d]at h;omega
theorem zFZ(b:ByteArray)(w:wW)(hm:MaxAt w)(hs:b.size<=9223372036854775807):cW prog 77 #[V b] w λe w'=>zDL w.heap.size (Qb b.data.toList) e w'/\bL w w':=by
 by_cases hL:1024<b.size
 ·have E:hH (Qb b.data.toList=Wlx.Res.err 2 0):=by
   show _=_;unfold Qb;rw[if_pos (by exact hL)]
  have aE:(1024:Int)<(b.size:Int):=oM;go_enter func77,ntmps77;go_wp2;go_step3
  go_wp2;try rw[Exit.noGoto_ret]
  go_ret3
  refine⟨?_,cZ _ _⟩;rw[E.out];rfl
 ·have E0:hH (Qb b.data.toList=Wlx.scan 0 b.data.toList):=by
   show _=_;unfold Qb;rw[if_neg (by exact hL)]
  have aE:¬(1024:Int)<(b.size:Int):=oM;obtain⟨R,hR⟩:=xV (Qb b.data.toList)
  rw[hR]at E0 ⊢;clear hR;obtain⟨i0,hi,aO,aP,aQ⟩:=info_parts zOS;go_enter func77,ntmps77;go_wp2_with fail
  go_step3
  go_wp2_with fail
  go_step3
  go_wp2_with fail
  go_loopg [5,6] (b.size) (λgk x y wr=>∃(e pos q:Nat)(d:List Wlx.Tok),y=O J e/\gk=b.size-pos/\pos<=q/\q<=b.size/\(pos<e->q=e)/\(¬pos<e->q=pos)/\wr.heap[w.heap.size]?=sX (.stringIter b pos) /\
   hH (R=Wlx.Res.pre d (Wlx.scan q (b.data.toList.drop q)))/\hH (∀j,pos<=j->(hj:j<b.size)->j<q->(b[j]).toNat<128)/\hH (V8 wr (w.heap.size+1) x d)/\d.length<=q/\bL w wr)
  case atStart =>
   exact⟨0,0,0,[],rfl,rfl,bZ _,jZ _,λh=>absurd h oM,λ_=>rfl,World.iter_heap w b 0,E0,(λj a _ c=>by omega:∀j,0<=j->(hj:j<b.size)->j<0->(b[j]).toNat<128),(eX _ _ _ _:V8 _ (w.heap.size+1) _ []),bZ _,(cZ _ w).alloc (bZ _) _⟩
  case round =>
   obtain⟨lv,aH⟩:∃lv,lv=u5:=⟨u5,rfl⟩
   subst aH;obtain⟨e,pos,q,d,rfl,hg,aW,aM,aK,aL,hit,HR,HA,HO,aF,hb⟩:=hrel;by_cases C:pos<b.size
   ·have nx:=λty=>Lib.run_next_any_at (P:=prog) wr w.heap.size b pos ty hit C
    have ai:=λq=>Lib.iterAt_heap wr w.heap.size b pos q hit
    have af:=λq=>Lib.below_iterAt hb (bZ w.heap.size) b q
    have ak:=λq=>(ownsRow_iterAt HO.out (fX _) b q:V8 (wr.iterAt w.heap.size b q) (w.heap.size+1) lv d)
    by_cases al:pos<e
    ·obtain rfl:=aK al;have hc:(b[pos]).toNat<128:=HA.out pos (bZ _) C al;have e:=decode_ascii b pos C hc;rw[e]at nx;have aJ:(pos:Int)<(q:Int):=oM;have T:=ai (pos+1);have g:=af (pos+1);have i:=hid (ak (pos+1));have an:hH (∀j,pos+1<=j->(hj:j<b.size)->j<q->(b[j]).toNat<128):=λj a1 a2 a3=>HA.out j oM a2 a3
     clear ai af ak HA HO e;go_wp2_with fail
     go_roundg (b.size-(pos+1))
     case rel=>exact⟨q,pos+1,q,d,rfl,rfl,al,aM,λ_=>rfl,λ_=>by omega,T,HR,an,i,aF,g⟩
     case measure=>omega
    ·obtain rfl:=aL al;have aJ:¬(q:Int)<(e:Int):=oM;obtain⟨rv,X⟩:∃rv:Nat,(Utf8.decode b q).1=rv:=⟨_,rfl⟩
     obtain⟨n,hn⟩:∃n:Nat,(Utf8.decode b q).2=n:=⟨_,rfl⟩
     have ao:1<=n/\q+n<=b.size/\(((rv:Int) == 32)=tX->b[q]=32/\n=1)/\(((rv:Int) == 32)=vX->¬b[q]=32)/\((b[q]).toNat<128->n=1):=by
      rcases zCE b q C with⟨h1,e⟩|⟨h1,e⟩
      ·rw[e]at X hn;simp only at X hn;subst hn X;refine⟨bZ _,C,λh=>⟨UInt8.toNat_inj.1 (by have:=beq_iff_eq.1 h;show _=32;omega),rfl⟩,λh h2=>?_,λ_=>rfl⟩;rw[h2]at h;exact absurd h dM
      ·obtain⟨w1,w2,w3⟩:=zCU b q C h1;rw[hn]at w1 w2 w3;rw[X]at e;refine⟨w1,w2,λh=>by have:=beq_iff_eq.1 h;omega,λh h2=>?_,λh=>by omega⟩;rw[h2]at h1;exact absurd h1 dM
     obtain⟨f1,f2,f3,f4,f5⟩:=ao;rw[X,hn]at nx;clear X hn;have T:=ai (q+n);have g:=af (q+n);have i:=hid (ak (q+n));have aN:(wr.iterAt w.heap.size b (q+n)).heap.size=wr.heap.size:=Lib.iterAt_size _ _ _ _;obtain⟨W1,ay⟩:=xV (wr.iterAt w.heap.size b (q+n))
     rw[ay]at nx T g i aN;clear ai af ak HA HO ay;have hd:=Qs b q C;cases ax:((rv:Int) == 32)with
     |true =>
      obtain⟨au,rfl⟩:=f3 ax;have E:hH (R=Wlx.Res.pre d (Wlx.scan (q+1) (b.data.toList.drop (q+1)))):=by
       show _=_;rw[HR.out,hd,au,Wlx.scan_blank]
      clear HR f3 f4 f5 au hd;go_wp2_with fail
      go_roundg (b.size-(q+1))
      case rel=>exact⟨e,q+1,q+1,d,rfl,rfl,bZ _,C,λh=>by omega,λ_=>rfl,T,E,(λj a1 _ a3=>by omega:∀j,q+1<=j->(hj:j<b.size)->j<q+1->(b[j]).toNat<128),i,oM,g⟩
      case measure=>omega
     |false =>
      have aq:=f4 ax;have aI:=MaxAt.below hm g;obtain⟨c,hc⟩:=xV (b[q])
      obtain⟨t,ht⟩:=xV (b.data.toList.drop (q+1))
      rw[hc]at aq f5 hd;rw[ht]at hd;have Hd:hH (b.data.toList.drop q=c::t):=hd;have Hc:hH (b[q]=c):=hc;have aS:t.length+1+q=b.size:=by
       have:=congrArg List.length hd;simp only[rZ,dZ]at this;have e2:b.data.toList.length=b.size:=rfl;omega
      have Hne:hH (¬c=32):=aq;clear f3 f4 hd hc aq ht;have aZ:(0:Int)<=(q:Int):=oM;have a0:(q:Int)<=(b.size:Int):=oM;go_wp2_with fail
      go_loopg [5,6,9] 5 (λgk z y x wi=>∃A:Nat,x=O J A/\y=O J e/\z=lv/\gk=6-A/\1<=A/\A<=6/\hH (∀j,1<=j->j<A->Wlx.sz j (c::t)=0)/\bL W1 wi)
      case atStart=>exact⟨1,rfl,rfl,rfl,rfl,oM,oM,(λj a1 a2=>by omega:∀j,1<=j->j<1->Wlx.sz j (c::t)=0),cZ _ _⟩
      case round =>
       obtain⟨A,rfl,rfl,rfl,aT,k1,k6,HZ,H⟩:=hrel;have si:=H.size;by_cases aA:A<=5
       ·obtain⟨m,aj⟩:=xV (Wlx.sz A (c::t))
        have aV:m<=t.length+1:=by rw[<-aj];exact Wlx.sz_le A (c::t)
        have SZ:=zFD A (b.extract q b.size) wr (by rw[zZ];omega) k1 aA;rw[zB0,Hd.out,aj]at SZ;have Hm:hH (Wlx.sz A (c::t)=m):=aj;clear aj;by_cases m0:m=0
        ·subst m0;have aD:hH (∀j,1<=j->j<A+1->Wlx.sz j (c::t)=0):=λj a1 a2=>by
          by_cases h:j=A
          ·rw[h];exact Hm.out
          ·exact HZ.out j a1 oM
         clear HZ Hm;go_wp2_with fail
         refine SZ.mono ?_;rintro e1 w2 ⟨rfl,D⟩;go_wp2_with fail
         go_roundg (6-(A+1))
         case rel=>exact⟨A+1,sM,rfl,rfl,rfl,oM,oM,aD,H.trans (D.mono H.size)⟩
         case measure=>omega
        ·have aY:=beq_eq_false_iff_ne.2 oM;have Hh:hH (Wlx.hit (c::t)=A):=Wlx.hit_first k1 aA (by rw[Hm.out];omega) HZ.out;have RP:=λw=>zJt (b.extract q (q+m)) w (by rw[zZ];omega)
         have ee:(b.extract q (q+m)).data.toList=(c::t).take m:=by rw[Lib.extract_data,Hd.out];congr 1;omega
         have es:(b.extract q (q+m)).size=m:=by rw[zZ];omega
         have SD:=λw hm=>zMH A (b.extract q (q+m)) w hm (λh=>by rw[es];subst h;rw[<-Hm.out];exact zN9 (by rw[Hm.out];omega)) (by rw[es];omega)
         rw[ee]at RP SD;obtain⟨gd,F⟩:=xV (Wlx.runP Wlx.prt ((c::t).take m))
         have aU:gd<=m:=by
          rw[<-F];have:=Wlx.runP_le Wlx.prt ((c::t).take m);rw[eY]at this;omega
         rw[F]at RP;have a4:(q:Int)+(m:Int)<=(b.size:Int):=oM;have a5:(q:Int)<=(q:Int)+(m:Int):=oM;clear HZ ee es;by_cases am:gd<m
         ·have az:(gd:Int)<(m:Int):=oM;have E:hH (R=Wlx.Res.err 40 (q+gd)):=by
           show _=_
           rw[HR.out,Hd.out,Wlx.scan_bad Hne.out Hh.out oM Hm.out (by rw[F];exact am),Wlx.Res.pre_err,F]
          clear HR Hh Hm F i;go_wp2_with fail
          refine SZ.mono ?_;rintro e1 w2 ⟨rfl,D⟩;go_wp2_with fail
          refine(RP _).mono ?_;rintro e1 w3 ⟨rfl,ag⟩;go_wp2;try rw[Exit.noGoto_ret]
          go_ret3
          refine⟨?_,?_⟩
          ·rw[E.out];exact congrArg (λz=>rX (uX #[U qX 0 0,O J 40,O J z])) oM
          ·exact g.trans ((H.trans ((D.trans (ag.mono D.size)).mono si)).mono g.size)
         ·have az:¬(gd:Int)<(m:Int):=oM;have aa:=zF3 ((c::t).take m) (by rw[F,eY];simp only[dZ];omega);have ac:=zKO (aa c (by
           obtain⟨m',rfl⟩:∃m',m=m'+1:=⟨m-1,oM⟩
           simp))
          obtain rfl:=f5 ac;have an:hH (∀j,q+1<=j->(hj:j<b.size)->j<q+m->(b[j]).toNat<128):=λj a1 a2 a3=>zKO (aa _ (by
           rw[<-Hd.out];refine List.mem_iff_getElem?.2 ⟨j-q,?_⟩;rw[yY,if_pos oM,List.getElem?_drop,show q+(j-q)=j by omega];exact hZ (by exact a2)))
          obtain⟨tx,ar⟩:=xV (Wlx.said A ((c::t).take m))
          have E:hH (R=Wlx.Res.pre (d++[⟨A,tx,q⟩]) (Wlx.scan (q+m) (b.data.toList.drop (q+m)))):=by
           show _=_
           rw[HR.out,Hd.out,Wlx.scan_tok Hne.out Hh.out oM Hm.out (by rw[F];exact am),Wlx.Res.pre_snoc,ar,<-Hd.out,List.drop_drop]
          rw[ar]at SD;clear HR Hh Hm F aa ar ac Hd Hc Hne f5;go_wp2_with fail
          refine SZ.mono ?_;rintro e1 w2 ⟨rfl,D⟩;go_wp2_with fail
          refine(RP _).mono ?_;rintro e1 w3 ⟨rfl,ag⟩;have M:=H.trans ((D.trans (ag.mono D.size)).mono si);have HS:=SD w3 (MaxAt.below aI M);clear SZ RP SD;go_wp2_with fail
          refine HS.mono ?_;rintro e1 w4 ⟨rfl,ah⟩;have L:=M.trans (ah.mono M.size);have ae:=zHa i.out L;have ap:=zGq L T;have ab:=g.trans (L.mono g.size);have s4:=ab.size;have aR:=(Array.getElem?_eq_some_iff.1 ap).1;have K:=(ae.lt)
          clear HS i D ag ah M L T g H;go_wp2_with (at_builtin;refine wpList_append_own _ rfl _ _ 140 rfl (w.heap.size+1) 202 i0 (gX #[O J 0,V ⟨#[]⟩,O J 0]) 3 32 underlying140 hi aO aP aQ rfl dM _ _ _ rfl (ae.alloc _) ⟨w4.heap.size,0,qX⟩ 1 1 [O J A,V ⟨tx.toArray⟩,O J q] rfl rfl (zCL _ _ _ _ _) (by intro u hu;simp at hu;rcases hu with rfl|rfl|rfl <;> rfl) (by unfold maxLen;omega) oM (by simp;omega) ?_)
          intro v2 w5 ad I _;have aG:=zHI I (by rw[Lib.alloc_old w4 _ _ aR];exact ap) (λh=>by have:=K _ h.symm;omega);have ah:=(ab.alloc oM _).grown I (by simp;omega) (λk hk=>by have:=K _ hk;omega);have aC:hH (V8 w5 (w.heap.size+1) v2 (d++[⟨A,tx,q⟩])):=by
           show w5.ownsRow _ _ 3 v2 (d++[_]).length (XF (d++[_]))
           rw[kZ,zJX];exact ad
          clear ad I ae K ap ab;go_wp2_with fail
          go_roundg (b.size-(q+1))
          case rel=>exact⟨q+m,q+1,q+m,d++[⟨A,tx,q⟩],sM,rfl,oM,oM,λ_=>rfl,λh=>by omega,aG,E,an,aC,by simp;omega,ah⟩
          case measure=>omega
       ·obtain rfl:A=6:=oM;have Hh:hH (Wlx.hit (c::t)=6):=Wlx.hit_none λj a1 a2=>HZ.out j a1 oM
        have RF:=zFN (b.extract q b.size) wr (by rw[zZ];omega);rw[zB0,Hd.out,zBI]at RF;have aw:(if decide (34=c)=tX then(41:Int)else 40)=((if c=34 then 41 else 40:Nat):Int):=by
         by_cases h:c=34
         ·subst h;rfl
         ·rw[if_neg (by simp;exactλe=>h e.symm),if_neg h];rfl
        simp only[]at RF;rw[aw]at RF;have E:hH (R=Wlx.Res.err (if c=34 then 41 else 40) q):=by
         show _=_
         rw[HR.out,Hd.out,Wlx.scan_none Hne.out Hh.out,Wlx.Res.pre_err]
        generalize(if c=34 then 41 else 40)=er at E RF;clear HR Hh HZ aw Hd Hc Hne i;go_wp2_with fail
        refine RF.mono ?_;rintro e1 w2 ⟨rfl,rfl⟩;go_wp2;try rw[Exit.noGoto_ret]
        go_ret3
        refine⟨?_,g.trans (H.mono g.size)⟩;rw[E.out];rfl
   ·have nx:=λty=>Lib.run_next_end_at (P:=prog) wr w.heap.size b pos ty hit C
    have aX:q=b.size:=oM;have E:hH (R=Wlx.Res.ok d):=by
     show _=_
     rw[HR.out,JV b q oM,Wlx.scan_nil,Wlx.Res.pre_ok,tY]
    have i:V8 wr w.heap.size lv d:=zQC HO.out oM;have aB:hH (V8 wr w.heap.size lv d):=i;clear HR HA HO i;go_wp2;try rw[Exit.noGoto_ret]
    go_ret3
    refine⟨?_,hb⟩;rw[E.out];exact⟨_,rfl,aB.out⟩
theorem zBJ:∀(p l:List UInt8),Wlx.begins p l=tX->l.take p.length=p
 |[],_,_=>rfl
 |_::_,[],h=>by simp[Wlx.begins]at h
 |a::p,b::t,h=>by
  simp only[Wlx.begins,Bool.and_eq_true,decide_eq_true_eq]at h;simp only[dZ,List.take_succ_cons,zBJ p t h.2,h.1]
theorem zBN(l:List UInt8):∀(e:List (List UInt8)),0<Wlx.nameSz l e->l.take (Wlx.nameSz l e)∈e
 |[],h=>by simp[Wlx.nameSz]at h
 |n::r,h=>by
  unfold Wlx.nameSz at h ⊢;by_cases d:Wlx.begins n l=tX
  ·rw[if_pos d,zBJ n l d];simp
  ·rw[if_neg d]at h ⊢;exact eZ _ (zBN l r h)
theorem zLU{x:List UInt8}(h:x∈Wlx.faults):∃i,∃h:i<9,1<=i/\x=fNames[i]'h:=by
 simp only[Wlx.faults,lX,iX,or_false]at h;rcases h with rfl|rfl|rfl|rfl|rfl|rfl|rfl|rfl
 ·exact⟨1,dM,dM,rfl⟩
 ·exact⟨2,dM,dM,rfl⟩
 ·exact⟨3,dM,dM,rfl⟩
 ·exact⟨4,dM,dM,rfl⟩
 ·exact⟨5,dM,dM,rfl⟩
 ·exact⟨6,dM,dM,rfl⟩
 ·exact⟨7,dM,dM,rfl⟩
 ·exact⟨8,dM,dM,rfl⟩
theorem zDz:∀(n:Nat)(l:List UInt8),l.length<=n->(Wlx.undbl l).length<=l.length:=by
 intro n;induction n with
 |zero=>intro l h;obtain rfl:=mZ (Nat.le_zero.1 h);simp[Wlx.undbl]
 |succ n e =>
  intro l h;match l,h with
  |[],_=>exact bZ _
  |[c],_=>exact bZ _
  |c::d::t,h =>
   simp only[dZ]at h;rw[Wlx.undbl];split
   ·have:=e t oM;simp only[dZ];omega
   ·have:=e (d::t) (by simp only[dZ];omega);simp only[dZ]at this ⊢;omega
theorem zFX(k:Nat)(l:List UInt8):(Wlx.said k l).length<=l.length:=by
 unfold Wlx.said;split
 ·have:=zDz _ ((l.drop 1).take (l.length-2)) (bZ _);have d:((l.drop 1).take (l.length-2)).length<=l.length:=by rw[eY,rZ];omega
  omega
 ·exact bZ _
theorem zIn:∀(n:Nat)(p:Nat)(l:List UInt8),l.length<=n->l.length<=1024->∀ts,Wlx.scan p l=Wlx.Res.ok ts->ts.length<=l.length/\∀t∈ts.map Wlx.tv,Qe t:=by
 intro n;induction n with
 |zero=>intro p l h z ts d;obtain rfl:=mZ (Nat.le_zero.1 h);rw[Wlx.scan_nil]at d;cases d;simp
 |succ n A =>
  intro p l h z ts d;cases l with
  |nil=>rw[Wlx.scan_nil]at d;cases d;simp
  |cons c t =>
   rw[Wlx.scan_cons]at d;simp only[dZ]at h z ⊢;split at d
   ·have:=A _ t oM oM _ d;exact⟨oM,this.2⟩
   split at d
   ·cases d
   rename_i D
   split at d
   ·cases d
   have x:=Wlx.hit_pos D;have i:=Wlx.sz_le (Wlx.hit (c::t)) (c::t);revert d x i
   have g:Wlx.hit (c::t)=4->Wlx.sz (Wlx.hit (c::t)) (c::t)=Wlx.nameSz (c::t) Wlx.faults:=λh=>by rw[h];rfl
   revert g
   generalize Wlx.hit (c::t)=k;generalize Wlx.sz k (c::t)=m;intro g d x i;simp only[dZ]at i;generalize E:Wlx.scan (p+m) ((c::t).drop m)=R at d;cases R with
   |inr q=>cases d
   |inl H =>
    have j:((c::t).drop m).length<=n:=by rw[rZ];simp only[dZ];omega
    have:=A (p+m) ((c::t).drop m) j (by rw[rZ];simp only[dZ];omega) H E;simp only[Wlx.Res.cons,Wlx.Res.ok,Sum.inl.injEq]at d;subst d;rw[rZ]at this;simp only[dZ]at this;refine⟨by simp only[dZ];omega,λF ht=>?_⟩;rw[oZ]at ht;rcases List.mem_cons.1 ht with rfl|ht
    ·refine⟨?_,λu=>?_⟩
     ·have y:=zFX k ((c::t).take m);rw[eY]at y;simp only[dZ]at y;show(Wlx.said k _).length<=_
      omega
     ·have u:k=4:=by
       have C:((k:Nat):Int)=4:=u;omega
      subst u;refine zLU ?_;show Wlx.said 4 _∈_
      have e:=g rfl;subst e;exact zBN (c::t) Wlx.faults x
    ·exact this.2 F ht
def Vj(en:Int)(ts:List Wlx.TV):List Wt.Nd⊕(Int×Int):=match Vd (lv en (10*ts.length+9) 0) en ts with
 | .inr e=>.inr e
 | .inl (row,_)=>if Wt.check row=0 then .inl row else .inr (Wt.check row,0)
def V2(l:List UInt8):List Wt.Nd⊕(Int×Int):=match Qb l with
 | .inr (c,p)=>.inr ((c:Int),(p:Int))
 | .inl ts=>Vj (l.length:Int) (ts.map Wlx.tv)
def OwnN(w:wW)(B:Nat)(v:vW)(row:List Wt.Nd):Prop:=w.ownsRow B 97 20 v row.length (Jb row)
def zDx(B:Nat)(r:List Wt.Nd⊕(Int×Int))(e:Ending)(w:wW):Prop:=match r with
 | .inl row=>∃v,e=rX (uX #[v,O J 0,O J 0])/\OwnN w B v row
 | .inr (c,p)=>e=rX (uX #[U qX 0 0,O J c,O J p])
theorem zAT(x:Wt.Nd):(QM x).length=20:=rfl
theorem zJj(l:List Wt.Nd):∀(i:Nat)(h:i<l.length)(j:Nat),j<20->(Jb l)[i*20+j]?=(QM (l[i]))[j]?:=by
 induction l with
 |nil=>intro i h;exact absurd h (jX _)
 |cons x r g =>
  intro i h j d;have e:Jb (x::r)=QM x++Jb r:=by simp[Jb]
  rw[e];cases i with
  |zero=>rw[wZ (by rw[zAT];omega)];simp
  |succ i =>
   rw[pY (by rw[zAT];omega),zAT,show(i+1)*20+j-20=i*20+j by omega];rw[g i (by simpa using h) j d];simp
theorem OwnN.form{row:List Wt.Nd}(h:OwnN w B v row):∃av cap,v=U av row.length cap/\RdN w av row:=by
 rcases h.2 with⟨rfl,m⟩|⟨g,cap,e,rfl,x⟩
 ·exact⟨qX,0,by rw[m],λi d=>by omega⟩
 ·refine⟨_,cap,rfl,λi d=>⟨g,0,rfl,λj u hu=>?_⟩⟩;have q:j<20:=by
   rcases oX j 20 with h1|h1
   ·exact h1
   ·rw[List.getElem?_eq_none (by rw[zAT];exact h1)]at hu;cases hu
  rw[kY,World.ownsRow.cellAt h _ oM,zJj row i d j q];exact hu
theorem OwnN.rd{row:List Wt.Nd}(h:OwnN w B (U av n cap) row):RdN w av row:=by
 obtain⟨av',d,e,g⟩:=h.form;simp only[U.injEq]at e;rw[e.1];exact g
theorem OwnN.below{row:List Wt.Nd}(h:OwnN w B v row)(d:bL w w'):OwnN w' B v row :=
 h.kept (row:=qX) ⟨d.os,d.tape,d.output,d.size,λk e _=>d.block k e⟩ (by cases v.ownBlock <;> simp)
theorem zQs(W:wW)(d:Array vW)(i g e:Nat)(v:vW)(c p:Int)(H:v.oneCell'=tX)(y:d.getD 2 undef=pX (sX ⟨i,0,qX⟩))(z:d.getD 3 undef=pX (sX ⟨g,0,qX⟩))(A:d.getD 4 undef=pX (sX ⟨e,0,qX⟩))
  (E:AtL W i [v]) (D:AtL W g [O J c]) (C:AtL W e [O J p]):(results Tryz.f51 d).run prog W=.ok (uX #[v,O J c,O J p]) W:=by
 have F:=E.2.1 0 _ rfl;have x:=D.2.1 0 _ rfl;have u:=C.2.1 0 _ rfl;have j:d[2]?.getD undef=pX (sX ⟨i,0,qX⟩):=by rw[<-y];simp
 have m:d[3]?.getD undef=pX (sX ⟨g,0,qX⟩):=by rw[<-z];simp
 have q:d[4]?.getD undef=pX (sX ⟨e,0,qX⟩):=by rw[<-A];simp
 simp[results,results51,go_sem,j,m,q,F,x,u]
theorem zIV(b:ByteArray)(w:wW)(M:Env w)(hs:b.size<=9223372036854775807)(c p:Nat)(hc:c≠0)(hr:Qb b.data.toList=.inr (c,p)):CR 51 #[V b] w (uX #[U qX 0 0,O J c,O J p]):=by
 have S:=λw T=>zFZ b w T hs
 rw[hr]at S;simp only[zDL]at S;have g:=((M.below (QI (cZ _ w) (Z #[U qX 0 0] 99))).below (QI (cZ _ _) (Z #[O J 0] 28))).below (QI (cZ _ _) (Z #[O J 0] 3));have d:=QI (QI (QI (cZ _ w) (Z #[U qX 0 0] 99)) (Z #[O J 0] 28)) (Z #[O J 0] 3);have X:∀(H:Fn)(first cap:Array vW)(w:wW),(Instr.makeFunc H first cap).run prog w=.ok (.func H first cap) w:=λ_ _ _ _=>rfl
 have x:=((AtL.new0 w 99 [U qX 0 0]).alloc (Z #[O J 0] 28)).alloc (Z #[O J 0] 3);have q:=(AtL.new1 w (Z #[U qX 0 0] 99) 28 [O J 0]).alloc (Z #[O J 0] 3);have i:AtL (((w.alloc (Z #[U qX 0 0] 99)).alloc (Z #[O J 0] 28)).alloc (Z #[O J 0] 3)) (w.heap.size+1+1) [O J 0]:=AtL.new _ 3 (by simp only[qZ]) _;generalize C:((w.alloc (Z #[U qX 0 0] 99)).alloc (Z #[O J 0] 28)).alloc (Z #[O J 0] 3)=W0 at g d x q i;have R:((c:Int) != 0)=tX:=by simp;omega
 go_enter_defers func51,ntmps51
 go_wp2_with fail
 refine(S _ g.2.2.1).mono ?_;rintro e w1 ⟨rfl,y⟩;have pl1:=x.below y;have u:=q.below y;have m:=i.below y;have z:=QA d y;clear y C x q i d g S;have l1:=pl1.2.1 0 _ rfl;have c1:=u.2.1 0 _ rfl;have a1:=m.2.1 0 _ rfl;have L:=pl1.2.2 0 sM;have K:=u.2.2 0 sM;have I:=m.2.2 0 sM;go_wp2;go_region
 go_wp2;have F:=(AtL.far (AtL.far ((AtL.far (AtL.far (pl1) (j:=w.heap.size+1) oM 0 (O J c)) (j:=w.heap.size+1+1) oM 0 (O J p)).set 0 (U qX 0 0)) (j:=w.heap.size+1) oM 0 (O J c)) (j:=w.heap.size+1+1) oM 0 (O J p)).drew;have E:=(AtL.far ((AtL.far (AtL.far ((u).set 0 (O J c)) (j:=w.heap.size+1+1) oM 0 (O J p)) (j:=w.heap.size) oM 0 (U qX 0 0)).set 0 (O J c)) (j:=w.heap.size+1+1) oM 0 (O J p)).drew;have D:=((AtL.far (AtL.far ((AtL.far (m) (j:=w.heap.size+1) oM 0 (O J c)).set 0 (O J p)) (j:=w.heap.size) oM 0 (U qX 0 0)) (j:=w.heap.size+1) oM 0 (O J c)).set 0 (O J p)).drew;have A:=((((((z).setCell (p:=⟨w.heap.size+1,0,qX⟩) (show w.heap.size<=w.heap.size+1 by omega) (O J c)).setCell (p:=⟨w.heap.size+1+1,0,qX⟩) (show w.heap.size<=w.heap.size+1+1 by omega) (O J p)).setCell (p:=⟨w.heap.size,0,qX⟩) (show w.heap.size<=w.heap.size by omega) (U qX 0 0)).setCell (p:=⟨w.heap.size+1,0,qX⟩) (show w.heap.size<=w.heap.size+1 by omega) (O J c)).setCell (p:=⟨w.heap.size+1+1,0,qX⟩) (show w.heap.size<=w.heap.size+1+1 by omega) (O J p)).drew;generalize((((((w1).setCell ⟨w.heap.size+1,0,qX⟩ (O J c)).setCell ⟨w.heap.size+1+1,0,qX⟩ (O J p)).setCell ⟨w.heap.size,0,qX⟩ (U qX 0 0)).setCell ⟨w.heap.size+1,0,qX⟩ (O J c)).setCell ⟨w.heap.size+1+1,0,qX⟩ (O J p)).drew=W2 at*
 simp[bodyPostD,Leaves];exact⟨_,zQs _ _ _ _ _ _ _ _ rfl rfl rfl rfl F E D,rfl,A⟩
theorem PSt.new{kp:Nat}{ts:List Wlx.Tok}(u:V8 W B (U av ts.length cap) ts)(E:kp=W.heap.size):PSt (W.alloc (Z #[U av ts.length cap,O J en] 147)) kp (ts.map Wlx.tv) en:=by
 subst E;have F:=OwnV.of u;have C:=RdV.own F;have d:ts.length<=cap:=by
  rcases u.2 with⟨e,H⟩|⟨g,q,A,e,L,K,I,_⟩
  ·omega
  ·simp only[U.injEq]at e;omega
 refine⟨av,cap,by rw[hY];exact d,by rw[hY];exact AtL.new0 W 147 [U av ts.length cap,O J en],λi D=>?_⟩;obtain⟨g,e,m,x,y,z⟩:=C i D;have j:=QI (cZ _ W) (Z #[U av ts.length cap,O J en] 147);exact⟨g,0,e,m,by rw[kY];exact QB j x,by rw[kY];exact QB j y,by rw[kY];exact QB j z⟩
theorem zGW(b:ByteArray)(w:wW)(hE:Env w)(hs:b.size<=9223372036854775807)(ts:List Wlx.Tok)(bi:8<=w.heap.size)(hr:Qb b.data.toList=.inl ts):cW prog 51 #[V b] w λe w'=>zDx w.heap.size (Vj (b.size:Int) (ts.map Wlx.tv)) e w'/\bL w w':=by
 have S:=λw hm=>zFZ b w hm hs
 have aY:b.data.toList.length=b.size:=by rw[lY];rfl
 have hT:ts.length<=1024/\∀t∈ts.map Wlx.tv,Qe t:=by
  unfold Qb at hr;split at hr
  ·cases hr
  ·rename_i h
   have:=zIn _ 0 b.data.toList (bZ _) oM ts hr;exact⟨oM,this.2⟩
 have aT:b.size<=1024:=by
  unfold Qb at hr;split at hr
  ·cases hr
  ·omega
 obtain⟨hn,ax⟩:=hT;rw[hr]at S;simp only[zDL]at S;clear hr aY;obtain⟨R,hR⟩:∃R,R=Vj (b.size:Int) (ts.map Wlx.tv):=⟨_,rfl⟩
 rw[<-hR];have HR:hH (R=Vj (b.size:Int) (ts.map Wlx.tv)):=hR;clear hR;have A:=((hE.below (QI (cZ _ w) (Z #[U qX 0 0] 99))).below (QI (cZ _ _) (Z #[O J 0] 28))).below (QI (cZ _ _) (Z #[O J 0] 3));have an:=QI (QI (QI (cZ _ w) (Z #[U qX 0 0] 99)) (Z #[O J 0] 28)) (Z #[O J 0] 3);have bj:∀(fn:Fn)(first cap:Array vW)(w:wW),(Instr.makeFunc fn first cap).run prog w=.ok (.func fn first cap) w:=λ_ _ _ _=>rfl
 have aE:=((AtL.new0 w 99 [U qX 0 0]).alloc (Z #[O J 0] 28)).alloc (Z #[O J 0] 3);have aB:=(AtL.new1 w (Z #[U qX 0 0] 99) 28 [O J 0]).alloc (Z #[O J 0] 3);have ay:AtL (((w.alloc (Z #[U qX 0 0] 99)).alloc (Z #[O J 0] 28)).alloc (Z #[O J 0] 3)) (w.heap.size+1+1) [O J 0]:=AtL.new _ 3 (by simp only[qZ]) _;generalize aJ:((w.alloc (Z #[U qX 0 0] 99)).alloc (Z #[O J 0] 28)).alloc (Z #[O J 0] 3)=W0 at A an aE aB ay;have a3:W0.heap.size=w.heap.size+1+1+1:=by rw[<-aJ];simp only[qZ]
 go_enter_defers func51,ntmps51
 go_wp2_with fail
 refine(S _ A.2.2.1).mono ?_;rintro e w1 ⟨⟨v,rfl,hO⟩,i⟩;have pl1:=aE.below i;have X:=aB.below i;have M:=ay.below i;have aX:=QA an i;have a4:=i.size;clear i aJ aE aB ay an A S;have l1:=pl1.2.1 0 _ rfl;have c1:=X.2.1 0 _ rfl;have a1:=M.2.1 0 _ rfl;have bf:=pl1.2.2 0 sM;have bd:=X.2.2 0 sM;have bb:=M.2.2 0 sM;obtain⟨av,cap,hv,-⟩:=(OwnV.of hO).form;rw[hY]at hv;subst hv;have ad:=hO.lt;rw[a3]at ad a4;have aI:V8 ((w1.setCell ⟨w.heap.size+1,0,qX⟩ (O J 0)).setCell ⟨w.heap.size+1+1,0,qX⟩ (O J 0)) W0.heap.size (U av ts.length cap) ts :=
  World.ownsRow.kept (World.ownsRow.kept hO (Q8 w1 (w.heap.size+1) 0 _) (tZ (λe=>by have:=(ad _ e).1;omega))) (Q8 _ (w.heap.size+1+1) 0 _) (tZ (λe=>by have:=(ad _ e).1;omega))
 have ar:=PSt.new (kp:=w1.heap.size) (en:=(b.size:Int)) aI (by simp only[oY]);have ab:=AtL.alloc (AtL.far (AtL.far (pl1) (j:=w.heap.size+1) oM 0 (O J 0)) (j:=w.heap.size+1+1) oM 0 (O J 0)) (Z #[U av ts.length cap,O J (b.size:Int)] 147);have aa:=AtL.alloc (AtL.far ((X).set 0 (O J 0)) (j:=w.heap.size+1+1) oM 0 (O J 0)) (Z #[U av ts.length cap,O J (b.size:Int)] 147);have T:=AtL.alloc ((AtL.far (M) (j:=w.heap.size+1) oM 0 (O J 0)).set 0 (O J 0)) (Z #[U av ts.length cap,O J (b.size:Int)] 147);have u:=QI (((aX).setCell (p:=⟨w.heap.size+1,0,qX⟩) (show w.heap.size<=w.heap.size+1 by omega) (O J 0)).setCell (p:=⟨w.heap.size+1+1,0,qX⟩) (show w.heap.size<=w.heap.size+1+1 by omega) (O J 0)) (Z #[U av ts.length cap,O J (b.size:Int)] 147);have a6:((((w1).setCell ⟨w.heap.size+1,0,qX⟩ (O J 0)).setCell ⟨w.heap.size+1+1,0,qX⟩ (O J 0)).alloc (Z #[U av ts.length cap,O J (b.size:Int)] 147)).heap.size=w1.heap.size+1:=by simp only[qZ,oY]
 generalize aK:(((w1).setCell ⟨w.heap.size+1,0,qX⟩ (O J 0)).setCell ⟨w.heap.size+1+1,0,qX⟩ (O J 0)).alloc (Z #[U av ts.length cap,O J (b.size:Int)] 147)=W3 at ar ab aa T u a6;have A:=hE.below u;have a9:(ts.map Wlx.tv).length=ts.length:=hY ..;have AL:=zNv w1.heap.size (b.size:Int) (lv (b.size:Int) (10*(ts.map Wlx.tv).length+9) 0) (ts.map Wlx.tv).length (zGz w1.heap.size (b.size:Int) oM _) (JX _ _ _) (ts.map Wlx.tv) W3 ar (bZ _) oM ax A;have K:=λrow r h=>zNV (b.size:Int) (10*(ts.map Wlx.tv).length+9) 0 (ts.map Wlx.tv) row r ax h
 clear hO aI ad ar A ax;cases m:Vd (lv (b.size:Int) (10*(ts.map Wlx.tv).length+9) 0) (b.size:Int) (ts.map Wlx.tv)with
 |inr q =>
  obtain⟨c,p⟩:=q;rw[m]at AL;simp only[QS]at AL;go_wp2_with fail
  refine AL.mono ?_;rintro e w4 ⟨rfl,I⟩;have aj:=ab.grown I (λe=>by have:=Option.some.inj e;omega);have ah:=aa.grown I (λe=>by have:=Option.some.inj e;omega);have af:=T.grown I (λe=>by have:=Option.some.inj e;omega);have z:bL w w4:=u.grown I (by have:=u.size;omega) (λk e=>by have:=Option.some.inj e;omega);clear I aK ab aa T u AL pl1 X M K;unfold J1;have y:hH (R=.inr (c,p)):=by
   show R=_
   rw[HR.out];unfold Vj;rw[m]
  clear HR m;go_wp2;refine leaves_cons (f:=78) (args:=#[pX (sX ⟨w.heap.size,0,qX⟩),pX (sX ⟨w.heap.size+1,0,qX⟩),pX (sX ⟨w.heap.size+1+1,0,qX⟩)]) sM (by simp[go_sem]) ?_;refine(zD4 _ _ _ c p _ _ _ [] _ aj ah af oM oM oM).mono ?_;rintro e u' w5 ⟨rfl,rfl,F,E,D,i⟩;have ac:bL w w5:=z.trans (i _ (bZ _) oM oM);rw[y.out];simp only[zDx];simp[Leaves,settle];exact⟨_,zQs _ _ _ _ _ _ _ _ rfl rfl rfl rfl F E D,rfl,ac⟩
 |inl q =>
  obtain⟨row,rr⟩:=q;have aP:(∀x∈row,Wt.FitN x)/\row.length<=1024:=by
   unfold Vd at m;split at m
   ·cases m
   ·rename_i ba hq
    simp only[Sum.inl.injEq,Prod.mk.injEq]at m;have:=K _ _ hq;rw[m.1]at this;exact⟨this.1,by have:=this.2;omega⟩
   ·cases m
  rw[m]at AL;simp only[QS]at AL;go_wp2_with fail
  refine AL.mono ?_;rintro e w4 ⟨v,rfl,⟨n,x,sl,rfl,aO⟩,-,I⟩;have aj:=ab.grown I (λe=>by have:=Option.some.inj e;omega);have ah:=aa.grown I (λe=>by have:=Option.some.inj e;omega);have af:=T.grown I (λe=>by have:=Option.some.inj e;omega);have z:bL w w4:=u.grown I (by have:=u.size;omega) (λk e=>by have:=Option.some.inj e;omega);have bk:=I.size;clear I aK ab aa T u AL pl1 X M K;have RW:=zPF w.heap.size n x sl row (λb=>W3.heap.size<=b) (U qX 0 0) [] w4 aO (eX _ _ _ _) (λb _=>by simp[Value.ownBlock]) z.size (by simp only[sY];omega);clear aO;rw[List.nil_append]at RW;go_wp2_with fail
  refine RW.mono ?_;rintro e w5 ⟨v5,rfl,aN,C,ae⟩;have F:=aj.grown C (by simp[Value.ownBlock]);have E:=ah.grown C (by simp[Value.ownBlock]);have D:=af.grown C (by simp[Value.ownBlock]);have ac:bL w w5:=z.grown C z.size (λk e=>by simp[Value.ownBlock]at e);have bl:=C.size;have L:OwnN w5 w.heap.size v5 row:=aN;clear aN;obtain⟨g,d,rfl,-⟩:=L.form;have aL:(U g row.length d).ownBlock≠sX w.heap.size:=by
   rcases ae with h|⟨b,h,h'⟩
   ·rw[h];simp[Value.ownBlock]
   ·rw[h];intro e;have:=Option.some.inj e;omega
  have al:(U g row.length d).ownBlock≠sX (w.heap.size+1):=by
   rcases ae with h|⟨b,h,h'⟩
   ·rw[h];simp[Value.ownBlock]
   ·rw[h];intro e;have:=Option.some.inj e;omega
  have aM:(U g row.length d).ownBlock≠sX (w.heap.size+1+1):=by
   rcases ae with h|⟨b,h,h'⟩
   ·rw[h];simp[Value.ownBlock]
   ·rw[h];intro e;have:=Option.some.inj e;omega
  have aw:OwnN (w5.setCell ⟨w.heap.size,0,qX⟩ (U g row.length d)) w.heap.size (U g row.length d) row:=World.ownsRow.kept L (Q8 w5 w.heap.size 0 _) (tZ aL);have am:=aw.rd;clear RW C ae L;have l5:=F.2.1 0 _ rfl;have c5:=E.2.1 0 _ rfl;have a5:=D.2.1 0 _ rfl;have aW:=F.2.2 0 sM;have aV:=E.2.2 0 sM;have aU:=D.2.2 0 sM;have aS:=(F).set 0 (U g row.length d);have aR:=AtL.far (E) (j:=w.heap.size) oM 0 (U g row.length d);have aQ:=AtL.far (D) (j:=w.heap.size) oM 0 (U g row.length d);have ao:=(ac).setCell (p:=⟨w.heap.size,0,qX⟩) (show w.heap.size<=w.heap.size by omega) (U g row.length d);have CK:=zBe g d row _ oM aP.1 (hE.below ao).1 am;go_wp2_with fail
  refine CK.mono ?_;rintro e w7 ⟨rfl,i⟩;have ak:=aS.below i;have ai:=aR.below i;have ag:=aQ.below i;have aZ:=aw.below i;have aH:=QA ao i;have a8:=i.size;simp only[oY]at a8;clear i CK aS aR aQ aw ao am F E D ac l5 c5 a5 aW aV aU aj ah af z;have y:hH (R=if Wt.check row=0 then .inl row else .inr (Wt.check row,0)):=by
   show R=_
   rw[HR.out];unfold Vj;rw[m]
  clear HR m;generalize Wt.check row=H at*;have l7:=ak.2.1 0 _ rfl;have c7:=ai.2.1 0 _ rfl;have a7:=ag.2.1 0 _ rfl;have bg:=ak.2.2 0 sM;have be:=ai.2.2 0 sM;have bc:=ag.2.2 0 sM;by_cases au:H=0
  ·subst au;rw[if_pos rfl]at y;go_wp2;have a0:OwnN (((((w7).setCell ⟨w.heap.size+1,0,qX⟩ (O J 0)).setCell ⟨w.heap.size,0,qX⟩ (U g row.length d)).setCell ⟨w.heap.size+1,0,qX⟩ (O J 0)).setCell ⟨w.heap.size+1+1,0,qX⟩ (O J 0)) w.heap.size (U g row.length d) row:=(World.ownsRow.kept ((World.ownsRow.kept ((World.ownsRow.kept ((World.ownsRow.kept (aZ) (Q8 _ (w.heap.size+1) 0 (O J 0)) (tZ al))) (Q8 _ (w.heap.size) 0 (U g row.length d)) (tZ aL))) (Q8 _ (w.heap.size+1) 0 (O J 0)) (tZ al))) (Q8 _ (w.heap.size+1+1) 0 (O J 0)) (tZ aM))
   have aF:=AtL.far (AtL.far ((AtL.far (ak) (j:=w.heap.size+1) oM 0 (O J 0)).set 0 (U g row.length d)) (j:=w.heap.size+1) oM 0 (O J 0)) (j:=w.heap.size+1+1) oM 0 (O J 0);have aC:=AtL.far ((AtL.far ((ai).set 0 (O J 0)) (j:=w.heap.size) oM 0 (U g row.length d)).set 0 (O J 0)) (j:=w.heap.size+1+1) oM 0 (O J 0);have az:=(AtL.far (AtL.far (AtL.far (ag) (j:=w.heap.size+1) oM 0 (O J 0)) (j:=w.heap.size) oM 0 (U g row.length d)) (j:=w.heap.size+1) oM 0 (O J 0)).set 0 (O J 0);have ap:=((((aH).setCell (p:=⟨w.heap.size+1,0,qX⟩) (show w.heap.size<=w.heap.size+1 by omega) (O J 0)).setCell (p:=⟨w.heap.size,0,qX⟩) (show w.heap.size<=w.heap.size by omega) (U g row.length d)).setCell (p:=⟨w.heap.size+1,0,qX⟩) (show w.heap.size<=w.heap.size+1 by omega) (O J 0)).setCell (p:=⟨w.heap.size+1+1,0,qX⟩) (show w.heap.size<=w.heap.size+1+1 by omega) (O J 0);generalize(((((w7).setCell ⟨w.heap.size+1,0,qX⟩ (O J 0)).setCell ⟨w.heap.size,0,qX⟩ (U g row.length d)).setCell ⟨w.heap.size+1,0,qX⟩ (O J 0)).setCell ⟨w.heap.size+1+1,0,qX⟩ (O J 0))=W8 at*;refine leaves_cons (f:=78) (args:=#[pX (sX ⟨w.heap.size,0,qX⟩),pX (sX ⟨w.heap.size+1,0,qX⟩),pX (sX ⟨w.heap.size+1+1,0,qX⟩)]) sM (by simp[go_sem]) ?_
   refine(zBy _ _ _ _).mono ?_;rintro e u' w9 ⟨rfl,rfl,i⟩;have aG:=aF.below i;have aD:=aC.below i;have aA:=az.below i;have aq:=QA ap i;have a2:=a0.below i;rw[y.out];simp only[zDx];simp[Leaves,settle];exact⟨_,zQs _ _ _ _ _ _ _ _ rfl rfl rfl rfl aG aD aA,⟨_,rfl,a2⟩,aq⟩
  ·have bh:(H != 0)=tX:=by simp[au]
   rw[if_neg au]at y;go_wp2;go_region
   go_wp2;have aF:=(AtL.far (AtL.far ((AtL.far (ak) (j:=w.heap.size+1) oM 0 (O J H)).set 0 (U qX 0 0)) (j:=w.heap.size+1) oM 0 (O J H)) (j:=w.heap.size+1+1) oM 0 (O J 0)).drew;have aC:=(AtL.far ((AtL.far ((ai).set 0 (O J H)) (j:=w.heap.size) oM 0 (U qX 0 0)).set 0 (O J H)) (j:=w.heap.size+1+1) oM 0 (O J 0)).drew;have az:=((AtL.far (AtL.far (AtL.far (ag) (j:=w.heap.size+1) oM 0 (O J H)) (j:=w.heap.size) oM 0 (U qX 0 0)) (j:=w.heap.size+1) oM 0 (O J H)).set 0 (O J 0)).drew;have ap:=(((((aH).setCell (p:=⟨w.heap.size+1,0,qX⟩) (show w.heap.size<=w.heap.size+1 by omega) (O J H)).setCell (p:=⟨w.heap.size,0,qX⟩) (show w.heap.size<=w.heap.size by omega) (U qX 0 0)).setCell (p:=⟨w.heap.size+1,0,qX⟩) (show w.heap.size<=w.heap.size+1 by omega) (O J H)).setCell (p:=⟨w.heap.size+1+1,0,qX⟩) (show w.heap.size<=w.heap.size+1+1 by omega) (O J 0)).drew;generalize(((((w7).setCell ⟨w.heap.size+1,0,qX⟩ (O J H)).setCell ⟨w.heap.size,0,qX⟩ (U qX 0 0)).setCell ⟨w.heap.size+1,0,qX⟩ (O J H)).setCell ⟨w.heap.size+1+1,0,qX⟩ (O J 0)).drew=W8 at*;refine leaves_cons (f:=78) (args:=#[pX (sX ⟨w.heap.size,0,qX⟩),pX (sX ⟨w.heap.size+1,0,qX⟩),pX (sX ⟨w.heap.size+1+1,0,qX⟩)]) sM (by simp[go_sem]) ?_
   refine(zBy _ _ _ _).mono ?_;rintro e u' w9 ⟨rfl,rfl,i⟩;have aG:=aF.below i;have aD:=aC.below i;have aA:=az.below i;have aq:=QA ap i;rw[y.out];simp only[zDx];simp[Leaves,settle];exact⟨_,zQs _ _ _ _ _ _ _ _ rfl rfl rfl rfl aG aD aA,rfl,aq⟩
theorem zCo:∀(n:Nat)(p:Nat)(l:List UInt8),l.length<=n->∀c q,Wlx.scan p l=.inr (c,q)->c≠0:=by
 intro n;induction n with
 |zero=>intro p l h c q d;obtain rfl:=mZ (Nat.le_zero.1 h);rw[Wlx.scan_nil]at d;cases d
 |succ n e =>
  intro p l h c q d;cases l with
  |nil=>rw[Wlx.scan_nil]at d;cases d
  |cons b t =>
   rw[Wlx.scan_cons]at d;simp only[dZ]at h;split at d
   ·exact e _ t oM _ _ d
   split at d
   ·simp only[Wlx.Res.err,Sum.inr.injEq,Prod.mk.injEq]at d;have:=d.1;split at this <;> omega
   rename_i g
   split at d
   ·simp only[Wlx.Res.err,Sum.inr.injEq,Prod.mk.injEq]at d;omega
   have x:=Wlx.hit_pos g;generalize Wlx.sz (Wlx.hit (b::t)) (b::t)=m at*;generalize i:Wlx.scan (p+m) ((b::t).drop m)=R at d;cases R with
   |inl z=>cases d
   |inr j =>
    obtain⟨u,y⟩:=j;simp only[Wlx.Res.cons,Sum.inr.injEq,Prod.mk.injEq]at d;have:=e (p+m) ((b::t).drop m) (by rw[rZ];simp only[dZ];omega) _ _ i;rw[<-d.1];exact this
theorem zEE{c p:Nat}(h:Qb l=.inr (c,p)):c≠0:=by
 unfold Qb at h;split at h
 ·simp only[Wlx.Res.err,Sum.inr.injEq,Prod.mk.injEq]at h;omega
 ·exact zCo _ 0 l (bZ _) _ _ h
theorem zCD(b:ByteArray)(w:wW)(i:Env w)(j:b.size<=9223372036854775807)(d:8<=w.heap.size):cW prog 51 #[V b] w λe w'=>zDx w.heap.size (V2 b.data.toList) e w'/\bL w w':=by
 unfold V2;cases g:Qb b.data.toList with
 |inr q =>
  obtain⟨c,p⟩:=q;exact(zIV b w i j c p (zEE g) g).mono λe w' h=>⟨h.1,h.2⟩
 |inl ts =>
  have:=zGW b w i j ts d g;have e:b.data.toList.length=b.size:=by rw[lY];rfl
  rw[e];exact this
theorem zNu(h:pl ts en=.inr (c,p)):c≠0:=by
 unfold pl at h;split at h
 ·cases h
 ·simp only[Sum.inr.injEq,Prod.mk.injEq]at h;omega
theorem zHv(h:pc ts en=.inr (c,p)):c≠0:=by
 unfold pc at h;repeat' split at h
 all_goals first|(simp only[Sum.inr.injEq,Prod.mk.injEq]at h;omega)|cases h
theorem zGO(h:pcs s ts en=.inr (c,p)):c≠0:=by
 unfold pcs at h;cases d:pc ts en with
 |inr e=>rw[d]at h;simp only[Sum.inr.injEq]at h;rw[h]at d;exact zHv d
 |inl q =>
  obtain⟨a,j⟩:=q;rw[d]at h;simp only at h;cases i:tk j [58]with
  |none=>rw[i]at h;cases h
  |some m =>
   rw[i]at h;simp only at h;cases g:pc m en with
   |inr e=>rw[g]at h;simp only[Sum.inr.injEq]at h;rw[h]at g;exact zHv g
   |inl q=>rw[g]at h;cases h
theorem zKU(i:∀ts row r,sub ts=.inl (row,r)->r <:+ ts)(d:∀ts c p,ts.length<=N->sub ts=.inr (c,p)->c≠0)(k:Int):∀(n:Nat)(row:List Wt.Nd)(ts:List Wlx.TV)(c p:Int),ts.length<=N->more sub k n row ts=.inr (c,p)->c≠0:=by
 intro n;induction n with
 |zero=>intro row ts c p u h;cases h
 |succ n x =>
  intro row ts c p u h;simp only[more]at h;cases j:Jc k ts with
  |none=>rw[j]at h;cases h
  |some q =>
   obtain⟨o,y⟩:=q;rw[j]at h;simp only at h;have A:=(Qm j).2;cases g:sub y with
   |inr e=>rw[g]at h;simp only[Sum.inr.injEq]at h;rw[h]at g;exact d _ _ _ oM g
   |inl q =>
    obtain⟨m,z⟩:=q;rw[g]at h;simp only at h;have:=(i _ _ _ g).length_le;exact x _ _ _ _ oM h
theorem zIl(j:∀ts row r,sub ts=.inl (row,r)->r <:+ ts)(g:∀ts c p,ts.length<=N->sub ts=.inr (c,p)->c≠0)(en:Int):∀(n m:Nat)(d:List Wt.Nd)(ts:List Wlx.TV)(c p:Int),ts.length<=N->Jo sub en n m d ts=.inr (c,p)->c≠0:=by
 intro n;induction n with
 |zero=>intro m d ts c p y h;simp only[Jo,Sum.inr.injEq,Prod.mk.injEq]at h;omega
 |succ n z =>
  intro m d ts c p y h;simp only[Jo]at h;cases x:tk ts [41]with
  |some q=>rw[x]at h;cases h
  |none =>
   rw[x]at h;simp only at h;split at h
   ·simp only[Sum.inr.injEq,Prod.mk.injEq]at h;omega
   ·cases u:tk ts [44]with
    |none=>rw[u]at h;simp only[Sum.inr.injEq,Prod.mk.injEq]at h;omega
    |some A =>
     rw[u]at h;simp only at h;have D:=(Qx u).2;cases i:sub A with
     |inr e=>rw[i]at h;simp only[Sum.inr.injEq]at h;rw[h]at i;exact g _ _ _ oM i
     |inl q =>
      obtain⟨row,C⟩:=q;rw[i]at h;simp only at h;have:=(j _ _ _ i).length_le;exact z _ _ _ _ _ oM h
theorem zHJ(g:∀ts row r,sub ts=.inl (row,r)->r <:+ ts)(d:∀ts c p,ts.length<=N->sub ts=.inr (c,p)->c≠0)(en:Int)(nm:List UInt8)(ts:List Wlx.TV)(c p:Int)(y:ts.length<=N)(h:VG sub en nm ts=.inr (c,p)):c≠0:=by
 unfold VG at h;cases u:tk ts [41]with
 |some q=>rw[u]at h;cases h
 |none =>
  rw[u]at h;simp only at h;cases i:sub ts with
  |inr e=>rw[i]at h;simp only[Sum.inr.injEq]at h;rw[h]at i;exact d _ _ _ y i
  |inl q =>
   obtain⟨j,x⟩:=q;rw[i]at h;simp only at h;have:=(g _ _ _ i).length_le;cases m:Jo sub en (x.length+1) 1 j x with
   |inr e=>rw[m]at h;simp only[Sum.inr.injEq]at h;rw[h]at m;exact zIl g d en _ _ _ _ _ _ oM m
   |inl q=>rw[m]at h;cases h
theorem zGi(e:∀ts row r,sub ts=.inl (row,r)->r <:+ ts)(d:∀ts c p,ts.length<=N->sub ts=.inr (c,p)->c≠0)(en:Int)(ts:List Wlx.TV)(c p:Int)(g:ts.length<=N+2)(h:Jq sub en ts=.inr (c,p)):c≠0:=by
 unfold Jq at h;split at h
 ·split at h
  ·exact zHJ e d en _ _ _ _ (by rw[rZ];omega) h
  ·simp only[Sum.inr.injEq,Prod.mk.injEq]at h;omega
 split at h
 ·split at h
  ·exact zGO h
  ·simp only[Sum.inr.injEq,Prod.mk.injEq]at h;omega
 split at h
 ·cases h
 split at h
 ·cases h
 ·exact zGO h
theorem zEu(d:∀ts c p,ts.length<=N->sub ts=.inr (c,p)->c≠0)(en:Int)(ts:List Wlx.TV)(c p:Int)(y:ts.length<=N+1)(h:J2 sub en ts=.inr (c,p)):c≠0:=by
 unfold J2 at h;cases i:tk ts [40]with
 |none=>rw[i]at h;simp only[Sum.inr.injEq,Prod.mk.injEq]at h;omega
 |some u =>
  rw[i]at h;simp only at h;have A:=(Qx i).2;cases g:sub u with
  |inr e=>rw[g]at h;simp only[Sum.inr.injEq]at h;rw[h]at g;exact d _ _ _ oM g
  |inl q =>
   obtain⟨m,x⟩:=q;rw[g]at h;simp only at h;cases j:tk x [41]with
   |none=>rw[j]at h;simp only[Sum.inr.injEq,Prod.mk.injEq]at h;omega
   |some z=>rw[j]at h;cases h
theorem zGM:∀(n:Nat)(row:List Wt.Nd)(ts:List Wlx.TV)(c p:Int),pct n row ts=.inr (c,p)->False:=by
 intro n;induction n with
 |zero=>intro row ts c p h;cases h
 |succ n e =>
  intro row ts c p h;simp only[pct]at h;cases d:Jc 6 ts with
  |none=>rw[d]at h;cases h
  |some q=>obtain⟨o,g⟩:=q;rw[d]at h;simp only at h;exact e _ _ _ _ h
theorem zOc(en:Int):∀(f k:Nat)(ts:List Wlx.TV)(c p:Int),k<=7->(if k<5 then 10*ts.length+9-k else if k=5 then 10*ts.length+4 else if k=6 then 10*ts.length+3 else 10*ts.length+2)<=f->lv en f k ts=.inr (c,p)->c≠0:=by
 intro f;induction f with
 |zero =>
   intro k ts c p H g h;repeat' split at g
   all_goals omega
 |succ f j =>
  intro k ts c p H g h;by_cases A:k<5
  ·rw[if_pos A]at g;rw[zLc _ _ _ A]at h;unfold pbt at h;have E:∀i c p,i.length<=ts.length->lv en f (k+1) i=.inr (c,p)->c≠0:=by
    intro i c p F m;refine j (k+1) i c p oM ?_ m;split
    ·omega
    ·rw[if_pos oM];omega
   cases d:lv en f (k+1) ts with
   |inr e=>rw[d]at h;simp only[Sum.inr.injEq]at h;rw[h]at d;exact E _ _ _ (bZ _) d
   |inl q =>
    obtain⟨u,y⟩:=q;rw[d]at h;simp only at h;have:=(JX en _ _ _ _ _ d).length_le;exact zKU (N:=ts.length) (JX en f (k+1)) E _ _ _ _ _ _ oM h
  rw[if_neg A]at g;by_cases C:k=5
  ·subst C;rw[if_pos rfl]at g;rw[zMN]at h;unfold psg at h;cases d:Jc 5 ts with
   |none=>rw[d]at h;exact j 6 ts c p oM (by simp;omega) h
   |some q =>
    obtain⟨o,y⟩:=q;rw[d]at h;simp only at h;have I:=(Qm d).2;cases x:lv en f 5 y with
    |inr e=>rw[x]at h;simp only[Sum.inr.injEq]at h;rw[h]at x;exact j 5 y c p oM (by simp;omega) x
    |inl q=>rw[x]at h;cases h
  rw[if_neg C]at g;by_cases D:k=6
  ·subst D;rw[if_pos rfl]at g;rw[zLb]at h;unfold ppc at h;cases d:lv en f 7 ts with
   |inr e=>rw[d]at h;simp only[Sum.inr.injEq]at h;rw[h]at d;exact j 7 ts c p oM (by simp;omega) d
   |inl q=>obtain⟨u,y⟩:=q;rw[d]at h;simp only at h;exact(zGM _ _ _ _ _ h).elim
  rw[if_neg D]at g;obtain rfl:k=7:=oM;rw[zOn]at h;unfold psi at h;split at h
  ·rename_i z
   cases ts with
   |nil=>exact absurd z (by rw[zC1];decide)
   |cons t q =>
    simp only[dZ]at g;refine zGi (N:=q.length) (JX en f 0) (λi c p F m=>j 0 i c p oM (by simp;omega) m) en _ _ _ (by simp only[dZ];omega) h
  split at h
  ·cases ts with
   |nil=>rename_i z;exact absurd z (by rw[zC1];decide)
   |cons t q =>
    simp only[dZ]at g;refine zEu (N:=q.length) (λi c p F m=>j 0 i c p oM (by simp;omega) m) en _ _ _ (by simp only[dZ];omega) h
  ·exact zNu h
theorem zD3(h:V2 l=.inr (c,p)):c≠0:=by
 unfold V2 at h;cases g:Qb l with
 |inr q =>
  obtain⟨j,u⟩:=q;rw[g]at h;simp only[Sum.inr.injEq,Prod.mk.injEq]at h;have:=zEE g;omega
 |inl ts =>
  rw[g]at h;simp only at h;unfold Vj at h;cases d:Vd (lv (l.length:Int) (10*(ts.map Wlx.tv).length+9) 0) (l.length:Int) (ts.map Wlx.tv)with
  |inr q =>
   rw[d]at h;simp only[Sum.inr.injEq]at h;subst h;unfold Vd at d;split at d
   ·rename_i e i
    simp only[Sum.inr.injEq]at d;subst d;exact zOc _ _ 0 _ _ _ oM sM i
   ·cases d
   ·simp only[Sum.inr.injEq,Prod.mk.injEq]at d;omega
  |inl q =>
   obtain⟨row,rr⟩:=q;rw[d]at h;simp only at h;split at h
   ·cases h
   ·rename_i m
    simp only[Sum.inr.injEq,Prod.mk.injEq]at h;omega
theorem zMh{row:List Wt.Nd}(h:V2 l=.inl row):(∀x∈row,Wt.FitN x)/\Wt.check row=0:=by
 unfold V2 at h;cases e:Qb l with
 |inr q =>
  obtain⟨y,z⟩:=q;rw[e]at h;cases h
 |inl ts =>
  rw[e]at h;simp only at h;have g:∀t∈ts.map Wlx.tv,Qe t:=by
   unfold Qb at e;split at e
   ·cases e
   ·exact(zIn _ 0 l (bZ _) oM ts e).2
  unfold Vj at h;cases d:Vd (lv (l.length:Int) (10*(ts.map Wlx.tv).length+9) 0) (l.length:Int) (ts.map Wlx.tv)with
  |inr q=>rw[d]at h;cases h
  |inl q =>
   obtain⟨j,rr⟩:=q;rw[d]at h;simp only at h;split at h
   ·rename_i m
    simp only[Sum.inl.injEq]at h;subst h;refine⟨?_,m⟩;unfold Vd at d;split at d
    ·cases d
    ·rename_i i u
     simp only[Sum.inl.injEq,Prod.mk.injEq]at d;rw[<-d.1];exact(zNV _ _ _ _ _ _ g u).1
    ·cases d
   ·cases h
open Go.RowKit Wf
theorem zAB{i:Func}{t s u:Tmp}{T:TypeId}(h:i.results=#[.cell t T,.tmp s,.tmp u])(e:Array vW)(w:wW)(b:Nat)(cs:List vW)(d:TypeDesc)(x:e.getD t undef=pX (sX ⟨b,0,qX⟩))(j:w.rangeAt b 0 cs)
  (y:P.underlying T=sX d) (hd:d.isRow=tX) (m:(P.info? T).map (·.size)=sX cs.length):(results i e).run P w=.ok (uX #[gX cs.toArray,e.getD s undef,e.getD u undef]) w:=by
 have q:=run_loadVar_mid (P:=P) w b 0 T cs d j y hd m;have g:e[t]?.getD undef=pX (sX ⟨b,0,qX⟩):=by rw[<-x];simp
 simp only[results,h];simp[g,q,asAddr]
def BEnv(w:wW):Prop:=Env w/\NmAt w/\8<=w.heap.size
theorem BEnv.below(h:BEnv w)(d:bL w w'):BEnv w':=⟨h.1.below d,h.2.1.below d,fZ h.2.2 d.size⟩
def zSg(t:ByteArray)(R:List I⊕(Int×Int))(w:wW)(e:Ending)(w':wW):Prop :=
 (
   match R with
   | .inl C=>∃f:Ct,f.t=t/\CdP w' w.heap.size f.v C/\e=rX (uX #[ctV f,O J 0,O J 0])
   | .inr q=>q.1≠0/\e=rX (uX #[ctV ct0,O J q.1,O J q.2]))/\bL w w'
def VY(nm:List ByteArray)(x:Wpl.Cl)(t:ByteArray)(R:List I⊕(Int×Int)):Prop :=
 ∀(e j:Nat)(g:Option dW)(i:Nat)(d:Int)(w:wW),BEnv w->AtL w e [U g nm.length i,O J d,.map (sX j)]->RdS w g nm->nm.length<=i ->
  cW prog 35 #[pX (sX ⟨e,0,qX⟩),gX #[O J x.s,O J x.r,O J x.c],V t] w (zSg t R w)
theorem zKB(nm:List ByteArray)(x:Wpl.Cl)(t:ByteArray)(h:1024<t.size)(C:t.size<=9223372036854775807):VY nm x t (.inr (2,0)):=by
 intro z D E F u w g hd j i;have d:=QI (QI (cZ _ w) (Z #[O J x.s,O J x.r,O J x.c] 36)) (Z #[V ⟨#[]⟩,U qX 0 0] 56);have q:=AtL.new1 w (Z #[O J x.s,O J x.r,O J x.c] 36) 56 [V ⟨#[]⟩,U qX 0 0];have A:(1024:Int)<(t.size:Int):=oM;clear g hd j i h;go_enter func35,ntmps35;go_upto_region 1 with fail
 generalize(w.alloc (Z #[O J x.s,O J x.r,O J x.c] 36)).alloc (Z #[V ⟨#[]⟩,U qX 0 0] 56)=y at*;go_upto_region 2 with fail
 have m:=(q.set 0 (V ⟨#[]⟩)).set 1 (U qX 0 0);have e:=(d.setCell (p:=⟨w.heap.size+1,0,qX⟩) (nZ _) (V ⟨#[]⟩)).setCell (p:=⟨w.heap.size+1,1,qX⟩) (nZ _) (U qX 0 0);obtain⟨_,_,K,L⟩:=q.two;obtain⟨_,_,H,I⟩:=(q.set 0 (V ⟨#[]⟩)).two;go_wp2;refine bodyPost_ret (zAB (by rfl) _ _ (w.heap.size+1) [V ⟨#[]⟩,U qX 0 0] _ (by rfl) m.range underlying56 rfl kR) rfl ⟨⟨dM,rfl⟩,e⟩
theorem zLY(nm:List ByteArray)(x:Wpl.Cl)(t:ByteArray)(h:t.size<=1024)(n:Nat)(m:fgn t.data.toList 0=(n:Int)):VY nm x t (.inr (111,(n:Int))):=by
 intro E I K L C w u hd z y;have d:=QI (QI (cZ _ w) (Z #[O J x.s,O J x.r,O J x.c] 36)) (Z #[V ⟨#[]⟩,U qX 0 0] 56);have q:=AtL.new1 w (Z #[O J x.s,O J x.r,O J x.c] 36) 56 [V ⟨#[]⟩,U qX 0 0];have F:¬(1024:Int)<(t.size:Int):=oM;have i:=λW=>zAM t W h
 rw[m]at i;have H:(0:Int)<=(n:Int):=oM;clear u hd z y h m;go_enter func35,ntmps35;go_upto_region 1 with fail
 generalize(w.alloc (Z #[O J x.s,O J x.r,O J x.c] 36)).alloc (Z #[V ⟨#[]⟩,U qX 0 0] 56)=D at*;go_wp2_with fail
 refine(i _).mono ?_;rintro e M ⟨rfl,g⟩;replace q:=AtL.below g q
 replace d:=QA d g
 clear i g;go_upto_region 5 with fail
 have A:=(q.set 0 (V ⟨#[]⟩)).set 1 (U qX 0 0);have j:=(d.setCell (p:=⟨w.heap.size+1,0,qX⟩) (nZ _) (V ⟨#[]⟩)).setCell (p:=⟨w.heap.size+1,1,qX⟩) (nZ _) (U qX 0 0);obtain⟨_,_,X,z1⟩:=q.two;obtain⟨_,_,R,T⟩:=(q.set 0 (V ⟨#[]⟩)).two;go_wp2;refine bodyPost_ret (zAB (by rfl) _ _ (w.heap.size+1) [V ⟨#[]⟩,U qX 0 0] _ (by rfl) A.range underlying56 rfl kR) rfl ⟨⟨by show(111:Int)≠0;decide,rfl⟩,j⟩
theorem zFx(nm:List ByteArray)(x:Wpl.Cl)(t:ByteArray)(h:t.size<=1024)(u:fgn t.data.toList 0=-1)(y:¬t.data.toList.head? = sX 61):VY nm x t (.inl []):=by
 intro H K L M E w z hd C A;have d:=QI (QI (cZ _ w) (Z #[O J x.s,O J x.r,O J x.c] 36)) (Z #[V ⟨#[]⟩,U qX 0 0] 56);have q:=AtL.new1 w (Z #[O J x.s,O J x.r,O J x.c] 36) 56 [V ⟨#[]⟩,U qX 0 0];have I:¬(1024:Int)<(t.size:Int):=oM;have i:=λW=>zAM t W h
 have m:=λW=>zOO t W y
 rw[u]at i;clear z hd C A h u y;go_enter func35,ntmps35;go_upto_region 1 with fail
 generalize(w.alloc (Z #[O J x.s,O J x.r,O J x.c] 36)).alloc (Z #[V ⟨#[]⟩,U qX 0 0] 56)=F at*;go_wp2_with fail
 refine(i _).mono ?_;rintro e R ⟨rfl,g⟩;replace q:=AtL.below g q
 replace d:=QA d g
 clear i g;go_wp2_with fail
 refine(m _).mono ?_;rintro e T ⟨rfl,rfl⟩;clear m;go_upto_region 8 with fail
 have D:=(q.set 0 (V t)).set 1 (U qX 0 0);have j:=(d.setCell (p:=⟨w.heap.size+1,0,qX⟩) (nZ _) (V t)).setCell (p:=⟨w.heap.size+1,1,qX⟩) (nZ _) (U qX 0 0);obtain⟨_,_,z0,z1⟩:=q.two;obtain⟨_,_,X,y1⟩:=(q.set 0 (V t)).two;go_wp2;refine bodyPost_ret (zAB (by rfl) _ _ (w.heap.size+1) [V t,U qX 0 0] _ (by rfl) D.range underlying56 rfl kR) rfl ⟨⟨⟨t,qX,0,0⟩,rfl,CdP.nil _ _,rfl⟩,j⟩
theorem zLQ(nm:List ByteArray)(x:Wpl.Cl)(u:List UInt8)(t:ByteArray)(E:t=⟨(61::u).toArray⟩)(h:t.size<=1024)(K:fgn t.data.toList 0=-1)(c p:Int)(D:V2 u=.inr (c,p)):VY nm x t (.inr (c,wrap64 (p+1))):=by
 intro bb mb na nk aa w I hd T R;have d:=QI (QI (cZ _ w) (Z #[O J x.s,O J x.r,O J x.c] 36)) (Z #[V ⟨#[]⟩,U qX 0 0] 56);have q:=AtL.new1 w (Z #[O J x.s,O J x.r,O J x.c] 36) 56 [V ⟨#[]⟩,U qX 0 0];have hi:¬(1024:Int)<(t.size:Int):=oM;have z:=λW=>zAM t W h
 have F:u.length<=1024:=by
  have:t.size=u.length+1:=by rw[E];rfl
  omega
 have y:=λW=>zCp u W oM
 rw[<-E]at y;have C:=zD3 D;have m:hH (∀W,BEnv W->CR 51 #[V ⟨u.toArray⟩] W (uX #[U qX 0 0,O J c,O J p])):=λW hW=>by
  have:=zCD ⟨u.toArray⟩ W hW.1 (by show u.length<=_;omega) hW.2.2;rw[D]at this;exact this
 have H:hH (BEnv w):=I;rw[K]at z;have L:hH (c≠0):=C;have M:¬c=0:=C;clear I hd T R h K D E F C;go_enter func35,ntmps35;go_upto_region 1 with fail
 generalize(w.alloc (Z #[O J x.s,O J x.r,O J x.c] 36)).alloc (Z #[V ⟨#[]⟩,U qX 0 0] 56)=W0 at*;go_wp2_with fail
 refine(z _).mono ?_;rintro e w1 ⟨rfl,g⟩;replace q:=AtL.below g q
 replace d:=QA d g
 have j:hH (BEnv w1):=H.out.below d;clear z g;go_wp2_with fail
 refine(y _).mono ?_;rintro e w2 ⟨rfl,rfl⟩;clear y;go_wp2_with fail
 refine(m.out _ j.out).mono ?_;rintro e w3 ⟨rfl,i⟩;replace q:=AtL.below i q
 replace d:=QA d i
 clear i m H j;go_upto_region 11 with fail
 have X:=(q.set 0 (V ⟨#[]⟩)).set 1 (U qX 0 0);have A:=(d.setCell (p:=⟨w.heap.size+1,0,qX⟩) (nZ _) (V ⟨#[]⟩)).setCell (p:=⟨w.heap.size+1,1,qX⟩) (nZ _) (U qX 0 0);obtain⟨_,_,z0,z1⟩:=q.two;obtain⟨_,_,y0,y1⟩:=(q.set 0 (V ⟨#[]⟩)).two;go_wp2;refine bodyPost_ret (zAB (by rfl) _ _ (w.heap.size+1) [V ⟨#[]⟩,U qX 0 0] _ (by rfl) X.range underlying56 rfl kR) rfl ⟨⟨L.out,rfl⟩,A⟩
def zQp(nm:List ByteArray)(x:Wpl.Cl)(row:List Wt.Nd)(E:Int)(C:List I):Prop :=
 ∀(w:wW)(B:Nat)(v:vW)(d:Option dW)(e:Nat),NmAt w->OpsAt w->OwnN w B v row->RdS w d nm->nm.length<=e->cW prog 52 #[v,gX #[O J x.s,O J x.r,O J x.c],U d nm.length e] w (FlP E C w)
theorem zI2(nm:List ByteArray)(x:Wpl.Cl)(u:List UInt8)(t:ByteArray)(ht:t=⟨(61::u).toArray⟩)(h:t.size<=1024)(hf:fgn t.data.toList 0=-1)(row:List Wt.Nd)(hp:V2 u=.inl row)(E:Int)(C:List I)(ab:zQp nm x row E C)(L:E≠0):VY nm x t (.inr (E,0)):=by
 intro bb mb na nk af w hE hd hr hk;have d:=QI (QI (cZ _ w) (Z #[O J x.s,O J x.r,O J x.c] 36)) (Z #[V ⟨#[]⟩,U qX 0 0] 56);have q:=AtL.new1 w (Z #[O J x.s,O J x.r,O J x.c] 36) 56 [V ⟨#[]⟩,U qX 0 0];have hi:¬(1024:Int)<(t.size:Int):=oM;have FG:=λW=>zAM t W h
 have ad:u.length<=1024:=by
  have:t.size=u.length+1:=by rw[ht];rfl
  omega
 have CP:=λW=>zCp u W oM
 rw[<-ht]at CP;have T:hH (∀W,BEnv W->cW prog 51 #[V ⟨u.toArray⟩] W λe w'=>(∃v,e=rX (uX #[v,O J 0,O J 0])/\OwnN w' W.heap.size v row)/\bL W w'):=λW hW=>by
  have:=zCD ⟨u.toArray⟩ W hW.1 (by show u.length<=_;omega) hW.2.2;rw[hp]at this;exact this
 have HE:=hid hE;have HR:=hid hr;have HK:=hid hk;have R:=hid ab;have y:=AtL.f3 ((AtL.new0 w 36 [O J x.s,O J x.r,O J x.c]).alloc (Z #[V ⟨#[]⟩,U qX 0 0] 56));obtain⟨m,_,_,_⟩:=(AtL.below d hd).three;rw[hf]at FG;have M:=hid L;have ae:¬E=0:=L;clear hE hd hr hk h hf hp ht ad ab L;go_enter func35,ntmps35;go_upto_region 1 with fail
 generalize(w.alloc (Z #[O J x.s,O J x.r,O J x.c] 36)).alloc (Z #[V ⟨#[]⟩,U qX 0 0] 56)=W0 at*;go_wp2_with fail
 refine(FG _).mono ?_;rintro e w1 ⟨rfl,z⟩;replace q:=AtL.below z q
 replace d:=QA d z
 replace y:=QG z y
 replace m:=QB z m
 have F:=hid (HE.out.below d);have X:=hid (RdS.below HR.out d);clear FG z HE HR;go_wp2_with fail
 refine(CP _).mono ?_;rintro e w2 ⟨rfl,rfl⟩;clear CP;go_wp2_with fail
 refine(T.out _ F.out).mono ?_;rintro e w3 ⟨⟨v,rfl,hv⟩,j⟩;replace q:=AtL.below j q
 replace d:=QA d j
 replace y:=QG j y
 replace m:=QB j m
 have H:=hid (F.out.below j);have aa:=hid (RdS.below X.out j);clear j T F X;go_upto_region 12 with fail
 have g:=(cZ w3.heap.size w3).drew;refine wp_region_held_drew (S:=λW=>W.cell? ⟨bb,0,qX⟩=sX (U na nm.length nk)/\JI W w.heap.size (O J x.s) (O J x.r) (O J x.c)) kR ⟨QB g m,QG g y⟩ (λi=>?_);replace y:=QG g y
 replace m:=QB g m
 replace q:=AtL.below g q
 replace d:=QA d g
 have FL:=R.out w3.drew _ v na nk (H.out.2.1.below g) (H.out.1.1.below g) (hv.below g) (aa.out.below g) HK.out;have HS:=hid (And.intro d.size q.lt);clear g H aa hv R;generalize w3.drew=W4 at*;refine tkQ 0 ?_
 refine tkQ 1 ?_
 refine tkQ 2 ?_
 refine tkQ 3 ?_
 refine tkQ 4 ?_
 refine tkQ 5 ?_
 refine rdQ 6 (λK D=>?_);go_simp
 refine FL.mono ?_;rintro e w5 ⟨⟨_,rfl⟩|⟨e0,_⟩,A⟩
 case inr=>exact absurd e0 M.out
 replace y:=QG A y
 replace m:=QB A m
 replace q:=AtL.below A q
 replace d:=QA d A
 clear A FL;go_wp2_with fail
 refine hkQ D ⟨m,y⟩ (λi=>?_);clear D K
 refine tkQ 7 ?_
 refine tkQ 8 ?_
 refine tkQ 9 ?_
 refine rdQ 10 (λK D=>?_);go_simp
 refine hkQ D ⟨m,y⟩ (λi=>?_);clear D K
 refine rdQ 11 (λK D=>?_);go_simp
 refine hkQ D ⟨m,y⟩ (λi=>?_);clear D K
 refine wpAnyH_done kR ?_ _;clear i m y;go_upto_region 14 with fail
 have q2:=(q.set 0 (V ⟨#[]⟩)).set 1 (U qX 0 0);have ac:=(d.setCell (p:=⟨w.heap.size+1,0,qX⟩) (nZ _) (V ⟨#[]⟩)).setCell (p:=⟨w.heap.size+1,1,qX⟩) (nZ _) (U qX 0 0);obtain⟨_,_,z0,z1⟩:=q.two;obtain⟨_,_,y0,y1⟩:=(q.set 0 (V ⟨#[]⟩)).two;go_wp2;refine bodyPost_ret (zAB (by rfl) _ _ (w.heap.size+1) [V ⟨#[]⟩,U qX 0 0] _ (by rfl) q2.range underlying56 rfl kR) rfl ⟨⟨M.out,rfl⟩,ac⟩
theorem zED(nm:List ByteArray)(x:Wpl.Cl)(u:List UInt8)(t:ByteArray)(ht:t=⟨(61::u).toArray⟩)(h:t.size<=1024)(hf:fgn t.data.toList 0=-1)(row:List Wt.Nd)(hp:V2 u=.inl row)(E:Int)(C:List I)(af:zQp nm x row E C)(ae:E=0):VY nm x t (.inl C):=by
 intro bb mb na nk an w hE hd hr hk;have d:=QI (QI (cZ _ w) (Z #[O J x.s,O J x.r,O J x.c] 36)) (Z #[V ⟨#[]⟩,U qX 0 0] 56);have q:=AtL.new1 w (Z #[O J x.s,O J x.r,O J x.c] 36) 56 [V ⟨#[]⟩,U qX 0 0];have hi:¬(1024:Int)<(t.size:Int):=oM;have FG:=λW=>zAM t W h
 have al:u.length<=1024:=by
  have:t.size=u.length+1:=by rw[ht];rfl
  omega
 have CP:=λW=>zCp u W oM
 rw[<-ht]at CP;have ab:hH (∀W,BEnv W->cW prog 51 #[V ⟨u.toArray⟩] W λe w'=>(∃v,e=rX (uX #[v,O J 0,O J 0])/\OwnN w' W.heap.size v row)/\bL W w'):=λW hW=>by
  have:=zCD ⟨u.toArray⟩ W hW.1 (by show u.length<=_;omega) hW.2.2;rw[hp]at this;exact this
 have HE:=hid hE;have HR:=hid hr;have HK:=hid hk;have aa:=hid af;have A:=AtL.f3 ((AtL.new0 w 36 [O J x.s,O J x.r,O J x.c]).alloc (Z #[V ⟨#[]⟩,U qX 0 0] 56));obtain⟨z,_,_,_⟩:=(AtL.below d hd).three;rw[hf]at FG;have aj:=hid ae;clear hE hd hr hk h hf hp ht al af ae;go_enter func35,ntmps35;go_upto_region 1 with fail
 generalize(w.alloc (Z #[O J x.s,O J x.r,O J x.c] 36)).alloc (Z #[V ⟨#[]⟩,U qX 0 0] 56)=W0 at*;go_wp2_with fail
 refine(FG _).mono ?_;rintro e w1 ⟨rfl,D⟩;replace q:=AtL.below D q
 replace d:=QA d D
 replace A:=QG D A
 replace z:=QB D z
 have L:=hid (HE.out.below d);have ac:=hid (RdS.below HR.out d);clear FG D HE HR;go_wp2_with fail
 refine(CP _).mono ?_;rintro e w2 ⟨rfl,rfl⟩;clear CP;go_wp2_with fail
 refine(ab.out _ L.out).mono ?_;rintro e w3 ⟨⟨v,rfl,hv⟩,y⟩;replace q:=AtL.below y q
 replace d:=QA d y
 replace A:=QG y A
 replace z:=QB y z
 have M:=hid (L.out.below y);have ad:=hid (RdS.below ac.out y);clear y ab L ac;go_upto_region 12 with fail
 have i:=(cZ w3.heap.size w3).drew;refine wp_region_held_drew (S:=λW=>W.cell? ⟨bb,0,qX⟩=sX (U na nm.length nk)/\JI W w.heap.size (O J x.s) (O J x.r) (O J x.c)) kR ⟨QB i z,QG i A⟩ (λj=>?_);replace A:=QG i A
 replace z:=QB i z
 replace q:=AtL.below i q
 replace d:=QA d i
 have FL:=aa.out w3.drew _ v na nk (M.out.2.1.below i) (M.out.1.1.below i) (hv.below i) (ad.out.below i) HK.out;have HS:=hid (And.intro d.size q.lt);clear i M ad hv aa;generalize w3.drew=W4 at*;refine tkQ 0 ?_
 refine tkQ 1 ?_
 refine tkQ 2 ?_
 refine tkQ 3 ?_
 refine tkQ 4 ?_
 refine tkQ 5 ?_
 refine rdQ 6 (λK H=>?_);go_simp
 refine FL.mono ?_;rintro e w5 ⟨⟨e0,_⟩|⟨_,lv,P,rfl,ho,ah,ag,_⟩,F⟩
 case inl=>exact absurd aj.out e0
 obtain⟨R,X,T,rfl⟩:∃a m c,lv=U a m c:=by
  rcases ho.2 with⟨e,_⟩|⟨g,c,am,e,_⟩
  ·exact⟨_,_,_,e⟩
  ·exact⟨_,_,_,e⟩
 have ai:hH (CdP w5 W4.heap.size (U R X T) C):=⟨P,ho,ah,ag⟩
 clear ho ah ag;replace A:=QG F A
 replace z:=QB F z
 replace q:=AtL.below F q
 replace d:=QA d F
 clear F FL;go_wp2_with fail
 refine hkQ H ⟨z,A⟩ (λj=>?_);clear H K
 refine tkQ 7 ?_
 refine tkQ 8 ?_
 refine tkQ 9 ?_
 refine rdQ 10 (λK H=>?_);go_simp
 refine hkQ H ⟨z,A⟩ (λj=>?_);clear H K
 refine rdQ 11 (λK H=>?_);go_simp
 refine hkQ H ⟨z,A⟩ (λj=>?_);clear H K
 refine wpAnyH_done kR ?_ _;clear j z A;go_upto_region 15 with fail
 have q2:=(q.set 0 (V t)).set 1 (U R X T);have ak:=(d.setCell (p:=⟨w.heap.size+1,0,qX⟩) (nZ _) (V t)).setCell (p:=⟨w.heap.size+1,1,qX⟩) (nZ _) (U R X T);obtain⟨_,_,z0,z1⟩:=q.two;obtain⟨_,_,y0,y1⟩:=(q.set 0 (V t)).two;go_wp2;refine bodyPost_ret (zAB (by rfl) _ _ (w.heap.size+1) [V t,U R X T] _ (by rfl) q2.range underlying56 rfl kR) rfl ⟨⟨⟨t,R,X,T⟩,rfl,((ai.out.fr (Qj (w.heap.size+1) [V t,U R X T] 0 w5) (λk hk=>by simp at hk;rw[hk];exact HS.out.2)).mono HS.out.1),rfl⟩,ak⟩
end Go.Proofs.YthcblmpncpcfkaaGreatDoor
namespace Go.Proofs.YthcblmpncpcfkaaGreatDoor.Wf
open Go.Proofs.YthcblmpncpcfkaaGreatDoor
def TI(B:Nat)(p:I):Prop:=p.2.length<=B/\Wt.FitV p.1.v
def TB(B:Nat)(l:List I):Prop:=∀p∈l,TI B p
theorem zfl{B:Nat}{p:I}(d:p.1.v=v0I)(h:p.2.length<=B):TI B p:=⟨h,by rw[d];exact⟨dM,dM,dM⟩⟩
theorem zf{B:Nat}{p:I}(d:p.1.v=v0I)(h:p.2=[]):TI B p:=zfl d (by rw[h];exact jZ _)
theorem TB.nil(B:Nat):TB B []:=λp d=>by cases d
theorem TB.cons{B:Nat}{x:I}{l:List I}(d:TI B x)(h:TB B l):TB B (x::l):=λp hp=>by
 rcases List.mem_cons.1 hp with rfl|hp
 ·exact d
 ·exact h p hp
theorem TB.app{B:Nat}{l m:List I}(h:TB B l)(d:TB B m):TB B (l++m):=λp hp=>by
 rcases List.mem_append.1 hp with hp|hp
 ·exact h p hp
 ·exact d p hp
theorem TB.one{B:Nat}{x:I}(d:TI B x):TB B [x]:=TB.cons d (TB.nil B)
section
variable {α:Type}
theorem TB.seq{B:Nat}{g:α->Nat->List I}:∀{l:List α},(∀k∈l,∀a,TB B (g k a))->∀a,TB B (Qc g l a)
 |[],_,_=>TB.nil B
 |k::_,h,a=>TB.app (h k (gZ ..) a) (TB.seq (λx d=>h x (eZ _ d)) _)
theorem TB.chB{B:Nat}{g:α->Nat->List I}{e:Int}:∀{l:List α},(∀k∈l,∀a,TB B (g k a))->∀a,TB B (Wf.chB g e l a)
 |[],_,_=>TB.nil B
 |k::_,h,a=>TB.cons (zf rfl rfl) (TB.app (h k (gZ ..) (a+1)) (TB.chB (λx d=>h x (eZ _ d)) _))
theorem zJM(g:α->Nat->List I):∀(l:List α)(a:Nat),(chT g l a).length=l.length
 |[],_=>rfl
 |_::l,_=>by simp only[chT,dZ,zJM g l]
theorem TB.choo{B:Nat}{g:α->Nat->List I}{l:List α}(h:∀k∈l,∀a,TB B (g k a))(d:l.length<=B)(a:Nat):TB B (Ju g l a):=by
 cases l with
 |nil=>exact TB.one (zf rfl rfl)
 |cons k r =>
  refine TB.cons (zfl rfl ?_) (TB.app (h k (gZ ..) _) (TB.chB (λx e=>h x (eZ _ e)) _));simp only[dZ,zJM]at*;exact d
theorem TB.bran{B:Nat}{g:α->Nat->List I}{u:α}{d:List α}(e:∀a,TB B (g u a))(h:∀k∈d,∀a,TB B (g k a))(a:Nat):TB B (VK g u d a):=by
 unfold VK;refine TB.cons (zf rfl rfl) (TB.app (e _) (TB.cons (zf rfl rfl) ?_));split
 ·exact TB.one ⟨jZ _,dM,dM,jZ _⟩
 ·exact TB.seq h _
theorem TB.lazy{B:Nat}{g:α->Nat->List I}{id:Int}{ks:List α}(h:∀k∈ks,∀a,TB B (g k a))(i:ks.length<=B)(a:Nat):TB B (VI g id ks a):=by
 cases ks with
 |nil=>exact TB.nil B
 |cons c r =>
  refine TB.app (h c (gZ ..) _) ?_;cases r with
  |nil =>
   simp only;split
   ·exact TB.one (zf rfl rfl)
   ·exact TB.nil B
  |cons u j =>
   have e:=h u (eZ _ (gZ ..));simp only;split
   ·exact TB.bran e (λk d=>h k (eZ _ (eZ _ d))) _
   ·split
    ·exact TB.cons (zf rfl rfl) (e _)
    ·exact TB.choo (λk d=>h k (eZ _ d)) (by simp only[dZ]at i ⊢;omega) _
end
theorem zFe{α:Type}{r:α->Nat}:∀{l:List α}{k:α},k∈l->r k<=VL r l
 |[],k,h=>by cases h
 |x::l,k,h=>by
  simp only[VL,oZ,nX];rcases List.mem_cons.1 h with rfl|h
  ·omega
  ·have:=zFe (r:=r) h;simp only[VL]at this;omega
theorem zFz{α:Type}{r:α->Nat}:∀{l:List α},(∀k∈l,1<=r k)->l.length<=VL r l
 |[],_=>jZ _
 |x::l,h=>by
  have e:=h x (gZ ..);have:=zFz (r:=r) (l:=l) (λk d=>h k (eZ _ d));simp only[VL,oZ,nX,dZ]at*;omega
def NA(y:Wt.Nd):Prop:=(0<=y.a.r/\y.a.r<65536)/\(0<=y.a.c/\y.a.c<65536)/\(0<=y.b.r/\y.b.r<65536)/\0<=y.b.c/\y.b.c<65536
theorem zRO{y:Wt.Nd}(h:Wt.right y=tX)(e:isA y=tX):NA y:=by
 have d:y.k=3:=by simpa[isA]using e
 unfold Wt.right at h;rw[if_neg oM,if_neg oM,if_pos d]at h;simp only[Wt.rfOk,Wt.inR,Bool.and_eq_true,decide_eq_true_eq]at h;unfold NA;omega
theorem zRD{d:Wt.Nd}(e:NA d):∀{l:List Wt.Nd},(∀y∈l,NA y)->NA (l.headD d)
 |[],_=>e
 |y::_,h=>h y (gZ ..)
theorem zQI(own:Int)(nm:List ByteArray){y:Wt.Nd}(h:NA y):Wt.FitV (VP ((Qi own nm y).b-(Qi own nm y).t+1))/\Wt.FitV (VP ((Qi own nm y).r-(Qi own nm y).l+1)):=by
 unfold NA at h;refine⟨⟨?_,by simp[VP],jZ _⟩,⟨?_,by simp[VP],jZ _⟩⟩ <;> simp only[VP,Qi,Jg] <;> omega
theorem zO2:∀(n:Nat)(t:Tr n),VD n t->Wt.right (hd n t)=tX
 |0,t,_=>Empty.elim t
 |_+1,_,h=>h.1
theorem zNW(own:Int)(nm:List ByteArray):∀(n:Nat)(t:Tr n)(a B:Nat),(row n t).length<=B->VD n t->(∀x∈row n t,Wt.FitV x.v)->TB B (cod own nm n t a)
 |0,t,_,_,_,_,_=>Empty.elim t
 |n+1,t,a,B,hB,hT,hF=>by
  obtain⟨x,ks⟩:Br (Tr n):=t;have C:=zNW own nm n;have j:Wt.FitV x.v:=hF x (gZ ..);have A:∀y∈J6 (ks.map (hd n)),NA y:=λy hy=>by
   obtain⟨q,u⟩:=List.mem_filter.1 hy;obtain⟨k,e,rfl⟩:=List.mem_map.1 q;exact zRO (zO2 n k (hT.2.2 k e)) u
  have i:=zQI own nm (zRD (d:=⟨0,v0I,0,⟨#[]⟩,0,Wt.r0,Wt.r0⟩) (by unfold NA;decide) A);rw[zE9]at hB;have e:∀k∈ks,∀a,TB B (cod own nm n k a):=λk e a=>C k a B (by have:=zFe (r:=λk=>(row n k).length) e;omega) (hT.2.2 k e) (λx j=>hF x (eZ _ (List.mem_flatten.2 ⟨row n k,List.mem_map.2 ⟨k,e,rfl⟩,j⟩)))
  have z:ks.length<=B:=by have:=zFz (r:=λk=>(row n k).length) (l:=ks) (λk _=>zEi n k);omega
  show TB B (JY own nm (hd n) (cod own nm n) x ks a)
  unfold JY;split
  ·exact TB.one ⟨jZ _,j⟩
  split
  ·exact TB.one (zf rfl rfl)
  split
  ·exact TB.app (TB.seq e _) (TB.one (zf rfl rfl))
  split
  ·exact TB.app (TB.seq e _) (TB.one (zf rfl rfl))
  split
  ·unfold VM;simp only;split
   ·exact TB.app (TB.seq e _) (TB.one (zf rfl rfl))
   split
   ·refine TB.cons (zf rfl rfl) (TB.app (TB.seq (λk g a=>?_) _) (TB.one (zf rfl rfl)));unfold VJ;split
    ·exact TB.one (zf rfl rfl)
    ·exact TB.app (e k g a) (TB.one (zf rfl rfl))
   split
   ·unfold VN;simp only;have m:∀k∈ks.filter (λk=>!isA (hd n k)),∀a,TB B (cod own nm n k a):=λk g a=>e k (List.mem_filter.1 g).1 a
    split
    ·exact TB.one ⟨jZ _,i.1⟩
    split
    ·exact TB.one ⟨jZ _,i.2⟩
    split
    ·exact TB.app (TB.seq m _) (TB.one (zf rfl rfl))
    ·refine TB.cons (zf rfl rfl) (TB.app (TB.seq (λk g a=>TB.app (m k g a) (TB.one (zf rfl rfl))) _) (TB.cons ?_ (TB.one (zf rfl rfl))));split <;> exact zf rfl rfl
   ·exact TB.lazy e z _
  ·exact TB.nil B
end Go.Proofs.YthcblmpncpcfkaaGreatDoor.Wf
namespace Go.Proofs.YthcblmpncpcfkaaGreatDoor
open Tryz
open Go.RowKit Wf
variable {w w':wW}{k n B lo f b:Nat}{G:List (Wpl.Cl×Ce)}{ops:Array Oper}{rest:List Oper}{a:Act}{Q:Exit->Act->wW->Prop}{ts r:List Wlx.TV}{v:vW}{S:List Nat}{o op:Oper}{en c:Int}{t:ByteArray}
theorem zHp{row:List Wt.Nd}(h:OwnN w B v row)(q:0<row.length):∃g cap,v=U (sX ⟨g,0,qX⟩) row.length cap/\RdN w (sX ⟨g,0,qX⟩) row/\row.length<=cap:=by
 obtain⟨av,cap,e,m⟩:=h.form;subst e;rcases h.2 with⟨e,y⟩|⟨g,d,i,e,x,u,j,_⟩
 ·omega
 ·simp only[U.injEq]at e;obtain⟨rfl,_,rfl⟩:=e;exact⟨g,cap,rfl,m,j⟩
theorem zNx(nm:List ByteArray)(x:Wpl.Cl)(row:List Wt.Nd)(H:nm.length<=1000000)(L:-9223372036854775808<=x.s/\x.s<=9223372036854775807)(m:∀n∈row,Wt.FitN n)(u:Wt.check row=0):∃E C,zQp nm x row E C/\0<C.length/\C.length<=20000/\∀p∈C,TI 1000000 p:=by
 obtain⟨t,d,q,e⟩:=zHB u;refine⟨flE x.s x.r x.c nm _ t,flC x.s nm _ t,λw B v R T A D K I F=>?_,by simp[flC],?_,λp hp=>?_⟩;rotate_left
 ·have:=zIx x.s (nm.take 16) _ t 0;rw[d]at this;simp only[flC,kZ,dZ,sY];omega
 ·rcases List.mem_append.1 hp with hp|hp
  ·have:=zNW x.s (nm.take 16) _ t 0 256 (by rw[d];exact e) q (λy M=>(m y (by rw[<-d];exact M)).1) p hp;exact⟨fZ this.1 dM,this.2⟩
  ·simp only[lX,iX,or_false]at hp;rw[hp];exact zf rfl rfl
 have z:0<row.length:=by rw[<-d];exact zEi _ t
 obtain⟨g,cap,rfl,j,i⟩:=zHp K z;exact zF5 _ t g 0 cap row x.s x.r x.c R nm nm.length T w m D A j I u d q e i row.length rfl rfl F H L
theorem zNR:∀(l:List UInt8)(i:Nat),fgn l i=-1 \/ ∃n:Nat,fgn l i=(n:Int)
 |[],i=>uZ rfl
 |b::r,i=>by
  unfold fgn;split
  ·exact tZ ⟨i,rfl⟩
  ·exact zNR r (i+1)
theorem zB8(l:List UInt8):Wlx.begins [61] l=tX↔l.head? = sX 61:=by
 cases l with
 |nil=>simp[Wlx.begins]
 |cons a r =>
  simp[Wlx.begins];exact eq_comm
def XE(p:Int):Prop:=0<=p \/ ∃u c q,V2 u=.inr (c,q)/\u.length<=1023/\p=wrap64 (q+1)
theorem zRG(nm:List ByteArray)(x:Wpl.Cl)(t:ByteArray)(K:nm.length<=1000000)(T:-9223372036854775808<=x.s/\x.s<=9223372036854775807)(L:t.size<=9223372036854775807):∃R,VY nm x t R/\(∀C,R=.inl C->(0<C.length↔Wlx.begins [61] t.data.toList=tX)/\C.length<=20000/\∀p∈C,TI 1000000 p)/\∀q,R=.inr q->q.1≠0/\XE q.2:=by
 by_cases h:1024<t.size
 ·exact⟨_,zKB nm x t h L,(λC e=>by cases e),λq e=>by cases e;exact⟨dM,uZ dM⟩⟩
 ·have h:t.size<=1024:=oM;rcases zNR t.data.toList 0 with i|⟨n,i⟩
  ·by_cases d:t.data.toList.head? = sX 61
   ·obtain⟨u,M⟩:∃u,t.data.toList=61::u:=by
     cases D:t.data.toList with
     |nil=>rw[D]at d;cases d
     |cons a r=>rw[D]at d;simp at d;exact⟨r,by rw[d]⟩
    have m:t=⟨(61::u).toArray⟩:=by
     apply xY
     apply kX
     rw[M]
    cases g:V2 u with
    |inr q =>
     obtain⟨c,p⟩:=q;exact⟨_,zLQ nm x u t m h i c p g,(λC e=>by cases e),λq e=>by
      cases e
      have h2:t.size=u.length+1:=by rw[m];rfl
      exact⟨zD3 g,tZ ⟨u,c,p,g,oM,rfl⟩⟩⟩
    |inl row =>
     obtain⟨H,I⟩:=zMh g;obtain⟨E,C,j,F,y,z⟩:=zNx nm x row K T H I;by_cases A:E=0
     ·refine⟨_,zED nm x u t m h i row g E C j A,λX e=>?_,λq e=>by cases e⟩;simp only[Sum.inl.injEq]at e;rw[<-e];exact⟨⟨λ_=>(zB8 _).2 d,λ_=>F⟩,y,z⟩
     ·exact⟨_,zI2 nm x u t m h i row g E C j A,(λC e=>by cases e),λq e=>by cases e;exact⟨A,uZ (xZ _)⟩⟩
   ·refine⟨_,zFx nm x t h i d,λC e=>?_,λq e=>by cases e⟩;simp only[Sum.inl.injEq]at e;rw[<-e,zB8];exact⟨by simp[d],jZ _,λp g=>by cases g⟩
  ·exact⟨_,zLY nm x t h n i,(λC e=>by cases e),λq e=>by cases e;exact⟨by show(111:Int)≠0;decide,uZ (by show(0:Int)<=(n:Int);omega)⟩⟩
open Go.RowKit
def Vt(x:Wpl.Cl)(f:Ct)(F:List (Wpl.Cl×Ct)):List (Wpl.Cl×Ct):=if f.t=⟨#[]⟩then Vb x F else V0 x f F
theorem knd_mt:knd t=0↔t=⟨#[]⟩:=by
 unfold knd;by_cases h:t=⟨#[]⟩
 ·rw[if_pos h];simp[h]
 ·rw[if_neg h];refine⟨λe=>?_,λe=>absurd e h⟩;split at e <;> cases e
theorem zLd(bb u:Nat)(nv:vW)(ag:Int)(F:List (Wpl.Cl×Ct))(x:Wpl.Cl)(f:Ct)(w:wW)(h:AtL w bb [nv,O J ag,.map (sX u)])(hm:MB w u F)(ad:bb≠u)(hs:f.t.size<=9223372036854775807) :
  cW prog 19 #[pX (sX ⟨bb,0,qX⟩),gX #[O J x.s,O J x.r,O J x.c],ctV f] w λe w'=>e=rX (uX #[])/\MB w' u (Vt x f F)/\Fr [u] w w':=by
 have KA:=λW=>zFi f W hs
 have aa:=QI (QI (cZ _ w) (Z #[O J x.s,O J x.r,O J x.c] 36)) (Z #[V f.t,.slice f.a f.n f.k] 56);have p:=AtL.f3 ((AtL.new0 w 36 [O J x.s,O J x.r,O J x.c]).alloc (Z #[V f.t,.slice f.a f.n f.k] 56));have q:=AtL.new1 w (Z #[O J x.s,O J x.r,O J x.c] 36) 56 [V f.t,.slice f.a f.n f.k];have X:=hid (hm.below aa);have af:=hm.lt;have ae:bb<w.heap.size:=(AtL.lt h)
 have j:hH (bb∉[u]/\w.heap.size∉[u]/\w.heap.size+1∉[u]):=⟨by simpa using ad,by simp;omega,by simp;omega⟩
 obtain⟨_,_,z,_⟩:=(AtL.below aa h).three;have R:=hid aa;clear h hm aa ad hs af ae;obtain⟨A,C,_,_⟩:=q.two;clear q;go_enter func19,ntmps19;go_upto_region 1 with fail
 generalize(w.alloc (Z #[O J x.s,O J x.r,O J x.c] 36)).alloc (Z #[V f.t,.slice f.a f.n f.k] 56)=W0 at*;have y:JI W0 w.heap.size (O J x.s) (O J x.r) (O J x.c):=p;clear p;by_cases h0:f.t=⟨#[]⟩
 ·have HL:hH (Vt x f F=Vb x F):=by show _=_;unfold Vt;rw[if_pos h0]
  rw[knd_mt.2 h0]at KA;clear h0;go_wp2_with fail
  refine(KA _).mono ?_;rintro e w2 ⟨rfl,i⟩;have H:=hid (X.out.below i);have D:=hid (QA R.out i);replace y:=QG i y
  replace z:=QB i z
  replace A:=QB i A
  replace C:=QB i C
  clear i R KA X;go_upto_region 2 with fail
  have d:=(cZ w2.heap.size w2).drew;refine wp_region_held_drew (S:=λW=>W.cell? ⟨bb,2,qX⟩=sX (.map (sX u))/\JI W w.heap.size (O J x.s) (O J x.r) (O J x.c)/\(W.cell? ⟨w.heap.size+1,0,qX⟩=sX (V f.t)/\W.cell? ⟨w.heap.size+1,1,qX⟩=sX (.slice f.a f.n f.k))) kR ⟨QB d z,QG d y,QB d A,QB d C⟩ (λm=>?_);have I:=hid (MB.below H.out d);have E:=hid (QA D.out d);replace y:=QG d y
  replace z:=QB d z
  replace A:=QB d A
  replace C:=QB d C
  clear d H D;generalize w2.drew=W3 at*;refine tkQ 0 ?_
  refine tkQ 1 ?_
  refine tkQ 2 ?_
  refine tkQ 3 ?_
  refine tkQ 4 ?_
  refine rdQ 5 (λK hK=>?_);obtain⟨w4,ac,M,L⟩:=zRo I.out x 0;go_simp
  have g:hH (Fr [u] W3 w4):=Fr.of_grown L (λk e=>by cases e;simp);refine hkQ hK ⟨g.out.cell z j.out.1,⟨g.out.cell y.1 j.out.2.1,g.out.cell y.2.1 j.out.2.1,g.out.cell y.2.2 j.out.2.1⟩,g.out.cell A j.out.2.2,g.out.cell C j.out.2.2⟩ (λm=>?_);clear hK K
  refine wpAnyH_done kR ?_ _;have T:hH (MB w4 u (Vt x f F)/\Fr [u] w w4):=⟨by rw[HL.out];exact M,(Fr.of_below [u] E.out).trans g.out⟩
  clear m L ac M g E I z y A C;go_wp2;first|(go_end0;exact⟨rfl,T.out.1,T.out.2⟩)|exact bodyPost_ret (results_none rfl _ _ _) rfl ⟨rfl,T.out.1,T.out.2⟩
 ·have HL:hH (Vt x f F=V0 x f F):=by show _=_;unfold Vt;rw[if_neg h0]
  obtain⟨kd,ab⟩:=xV (knd f.t)
  have ah:¬kd=0:=λe=>h0 (knd_mt.1 (by rw[ab,e]))
  rw[ab]at KA;clear h0 ab;go_wp2_with fail
  refine(KA _).mono ?_;rintro e w2 ⟨rfl,i⟩;have H:=hid (X.out.below i);have D:=hid (QA R.out i);replace y:=QG i y
  replace z:=QB i z
  replace A:=QB i A
  replace C:=QB i C
  clear i R KA X;go_upto_region 3 with fail
  have d:=(cZ w2.heap.size w2).drew;refine wp_region_held_drew (S:=λW=>W.cell? ⟨bb,2,qX⟩=sX (.map (sX u))/\JI W w.heap.size (O J x.s) (O J x.r) (O J x.c)/\(W.cell? ⟨w.heap.size+1,0,qX⟩=sX (V f.t)/\W.cell? ⟨w.heap.size+1,1,qX⟩=sX (.slice f.a f.n f.k))) kR ⟨QB d z,QG d y,QB d A,QB d C⟩ (λm=>?_);have I:=hid (MB.below H.out d);have E:=hid (QA D.out d);replace y:=QG d y
  replace z:=QB d z
  replace A:=QB d A
  replace C:=QB d C
  clear d H D;generalize w2.drew=W3 at*;refine tkQ 0 ?_
  refine tkQ 1 ?_
  refine tkQ 2 ?_
  refine tkQ 3 ?_
  refine tkQ 4 ?_
  refine tkQ 5 ?_
  refine rdQ 6 (λK hK=>?_);obtain⟨w4,ac,M,L⟩:=zSF I.out x f;go_simp
  have g:hH (Fr [u] W3 w4):=Fr.of_grown L (λk e=>by cases e;simp);refine hkQ hK ⟨g.out.cell z j.out.1,⟨g.out.cell y.1 j.out.2.1,g.out.cell y.2.1 j.out.2.1,g.out.cell y.2.2 j.out.2.1⟩,g.out.cell A j.out.2.2,g.out.cell C j.out.2.2⟩ (λm=>?_);clear hK K
  refine wpAnyH_done kR ?_ _;have T:hH (MB w4 u (Vt x f F)/\Fr [u] w w4):=⟨by rw[HL.out];exact M,(Fr.of_below [u] E.out).trans g.out⟩
  clear m L ac M g E I z y A C;go_wp2;first|(go_end0;exact⟨rfl,T.out.1,T.out.2⟩)|exact bodyPost_ret (results_none rfl _ _ _) rfl ⟨rfl,T.out.1,T.out.2⟩
theorem zNF(w:wW):(Instr.makeMap 49 qX).run prog w=.ok (.map (sX w.heap.size)) (w.alloc (.map #[] 0)):=kR
theorem zNK(w:wW):MB (w.alloc (.map #[] 0)) w.heap.size []:=⟨#[],0,(Go.MapKept.heap_alloc w _).1,rfl,⟨λx d=>(by cases d),sM⟩⟩
theorem zBv{g:List vW}(h:AtL w k g)(d:Fr S w w')(e:k∉S):AtL w' k g :=
 ⟨yZ h.1 d.size,λj v i=>d.cell (h.2.1 j v i) e,λj hj=>by rw[d.frozen h.1 e];exact h.2.2 j hj⟩
def raP(n:Nat)(rs:Ch->List I⊕(Int×Int)):List Ch->Nat->List (Wpl.Cl×Ce)->(Int×Int×Int)⊕List (Wpl.Cl×Ce)
 |[],_,N=>.inr N
 |a::r,i,N=>if Jv n a.x=vX then .inl (110,(i:Int),0)else if(fnB a.x N 0).isSome=tX then .inl (112,(i:Int),0)else
  match rs a with
  | .inr q=>.inl (q.1,(i:Int),q.2)
  | .inl C=>raP n rs r (i+1) (V0 a.x ⟨a.t,C⟩ N)
def RaQ(R:(Int×Int×Int)⊕List (Wpl.Cl×Ce))(w:wW)(e:Ending)(w':wW):Prop :=
 (
   match R with
   | .inl q=>q.1≠0/\e=rX (uX #[.map qX,gX #[O J q.1,O J q.2.1,O J q.2.2]])
   | .inr N=>e=rX (uX #[.map (sX (w.heap.size+1)),gX #[O J 0,O J 0,O J 0]])/\∃F,MB w' (w.heap.size+1) F/\Mt w' (w.heap.size+2) F N)/\bL w w'/\w.heap.size+2<=w'.heap.size
theorem zAE{P:Program}{i:Func}{t s:Tmp}{T:TypeId}(h:i.results=#[.tmp s,.cell t T])(e:Array vW)(w:wW)(b:Nat)(cs:List vW)(d:TypeDesc)(u:e.getD t undef=pX (sX ⟨b,0,qX⟩))(j:w.rangeAt b 0 cs)
  (x:P.underlying T=sX d) (hd:d.isRow=tX) (m:(P.info? T).map (·.size)=sX cs.length):(results i e).run P w=.ok (uX #[e.getD s undef,gX cs.toArray]) w:=by
 have q:=run_loadVar_mid (P:=P) w b 0 T cs d j x hd m;have g:e[t]?.getD undef=pX (sX ⟨b,0,qX⟩):=by rw[<-u];simp
 simp only[results,h];simp[g,q,asAddr]
theorem zCv(bb mb:Nat)(na:Option dW)(nk:Nat)(nm:List ByteArray)(ao:Int)(av:Option dW)(n cap:Nat)(L:List Ch)(rs:Ch->List I⊕(Int×Int))(w:wW)(hE:BEnv w)(h:AtL w bb [U na nm.length nk,O J ao,.map (sX mb)])(hS:RdS w na nm)(hk:nm.length<=nk)(hr:RdH w av L)(hn:L.length=n)(hN:True->n<=256)
  (hR:∀a∈L,Jv nm.length a.x=tX->VY nm a.x a.t (rs a)) :
  cW prog 17 #[pX (sX ⟨bb,0,qX⟩),U av n cap] w (RaQ (raP nm.length rs L 0 []) w):=by
 obtain⟨R,aj⟩:=xV (raP nm.length rs L 0 [])
 rw[aj];have ay:=hid aj;have HH:=hid (And.intro hE (And.intro h (And.intro hS (And.intro hk (And.intro hr (And.intro hn hR))))));have mm:=zNF (w.alloc (Z #[O J 0,O J 0,O J 0] 30));have az:=QI (QI (cZ _ w) (Z #[O J 0,O J 0,O J 0] 30)) (.map #[] 0);have p0:=(AtL.new0 w 30 [O J 0,O J 0,O J 0]).alloc (.map #[] 0);have m0:=zNK (w.alloc (Z #[O J 0,O J 0,O J 0] 30));rw[qZ]at m0;have ap:hH (bL w ((w.alloc (Z #[O J 0,O J 0,O J 0] 30)).alloc (.map #[] 0))/\w.heap.size+2<=((w.alloc (Z #[O J 0,O J 0,O J 0] 30)).alloc (.map #[] 0)).heap.size):=⟨az,sM⟩
 have ar:hH (∃F,MB ((w.alloc (Z #[O J 0,O J 0,O J 0] 30)).alloc (.map #[] 0)) (w.heap.size+1) F/\Mt ((w.alloc (Z #[O J 0,O J 0,O J 0] 30)).alloc (.map #[] 0)) (w.heap.size+2) F []):=⟨[],m0,trivial⟩
 have aw:=hid p0;clear hE h hS hk hr hn hR az p0 m0 aj;go_enter func17,ntmps17;go_upto_region 3 with fail
 clear mm;generalize(w.alloc (Z #[O J 0,O J 0,O J 0] 30)).alloc (.map #[] 0)=W0 at*;go_loopg [17] n (λgk x wr=>∃(i:Nat)(N:List (Wpl.Cl×Ce)),x=O J (i:Int)/\gk=n-i/\hH (i<=n)/\hH (raP nm.length rs (L.drop i) i N=R)/\hH (∃F,MB wr (w.heap.size+1) F/\Mt wr (w.heap.size+2) F N)/\hH (AtL wr w.heap.size [O J 0,O J 0,O J 0])/\hH (bL w wr/\w.heap.size+2<=wr.heap.size))
 case atStart=>exact⟨0,[],rfl,rfl,jZ _,ay,ar,aw,ap⟩
 case round =>
  obtain⟨i,N,rfl,hg,HI,HR,HM,HP,HB⟩:=hrel;generalize aR:wr=W at*;clear aR ay ar aw ap;by_cases al:i<n
  ·have aP:(i:Int)<(n:Int):=oM;have aU:(0:Int)<=(i:Int):=oM;have aW:J.wrap ((i:Int)+1)=(i:Int)+1:=by have:=hN trivial;rw[jY];omega
   obtain⟨a,ha⟩:∃a,L[i]?=sX a:=⟨L[i]'(by rw[HH.out.2.2.2.2.2.1];exact al),hZ _⟩
   have D:=hid (List.mem_of_getElem? ha);have HD:hH (raP nm.length rs (a::L.drop (i+1)) i N=R):=by
    show _=_
    have hl':i<L.length:=by rw[HH.out.2.2.2.2.2.1];exact al
    have e1:L[i]'hl'=a:=by
     have:=hZ (l:=L) (i:=i) hl';rw[ha]at this;exact(Option.some.inj this).symm
    have:=HR.out;rwa [gY hl',e1]at this
   obtain⟨cb,ah,e,E⟩:=HH.out.2.2.2.2.1.below HB.out.1 i a ha;subst e;have k0:W.cell? ⟨cb,ah+i*4,qX⟩=sX (O J a.x.s):=E 0 _ rfl;have k1:W.cell? ⟨cb,ah+i*4+1,qX⟩=sX (O J a.x.r):=E 1 _ rfl;have k2:W.cell? ⟨cb,ah+i*4+2,qX⟩=sX (O J a.x.c):=E 2 _ rfl;have k3:W.cell? ⟨cb,ah+i*4+3,qX⟩=sX (V a.t):=E 3 _ rfl;have X:=QI (cZ _ W) (Z #[O J a.x.s,O J a.x.r,O J a.x.c,V a.t] 38);have q1:=AtL.new0 W 38 [O J a.x.s,O J a.x.r,O J a.x.c,V a.t];have af:=hid (And.intro (QA HB.out.1 X) (fZ HB.out.2 X.size));have ax:=hid (AtL.below X HP.out);have au:hH (∃F,MB (W.alloc (Z #[O J a.x.s,O J a.x.r,O J a.x.c,V a.t] 38)) (w.heap.size+1) F/\Mt (W.alloc (Z #[O J a.x.s,O J a.x.r,O J a.x.c,V a.t] 38)) (w.heap.size+2) F N):=by
    obtain⟨F,m1,m2⟩:=HM.out;exact⟨F,m1.below X,m2.fr (Fr.of_below [] X) sM⟩
   have aT:=hid HB.out.2;clear ha E X HR HM HP HB;go_upto_region 5 with fail
   clear k0 k1 k2 k3;generalize W.alloc (Z #[O J a.x.s,O J a.x.r,O J a.x.c,V a.t] 38)=W1 at*;generalize aN:W.heap.size=eb at*;clear aN;have HS:=zLk bb mb na nm.length nk ao a.x W1 (AtL.below af.out.1 HH.out.2.1);obtain⟨q,hq⟩:=xV (Jv nm.length a.x)
   rw[hq]at HS;have HQ:=hid hq;clear hq;have j0:=q1.2.1 0 _ rfl;have j1:=q1.2.1 1 _ rfl;have j2:=q1.2.1 2 _ rfl;have j3:=q1.2.1 3 _ rfl;go_wp2_with fail
   refine HS.mono ?_;rintro e w2 ⟨rfl,y⟩;have ab:=hid (And.intro (QA af.out.1 y) (fZ af.out.2 y.size));have ag:=hid (AtL.below y ax.out);obtain⟨F,aF,aH⟩:=au.out;have A:=hid (And.intro (aF.below y) (aH.fr (Fr.of_below [] y) sM));replace q1:=AtL.below y q1
   replace j0:=QB y j0
   replace j1:=QB y j1
   replace j2:=QB y j2
   replace j3:=QB y j3
   clear y HS af ax au aF aH;cases q with
   |false =>
    have T:R=.inl (110,(i:Int),0):=by
     rw[<-HD.out];unfold raP;rw[if_pos HQ.out]
    have d:=ag;have u:=ab;clear HD A ag ab HQ D;obtain⟨_,_,_,z0,z1,z2⟩:=d.out.three;obtain⟨_,_,_,y0,y1,y2⟩:=(d.out.set 0 (O J 110)).three;obtain⟨_,_,_,x0,x1,x2⟩:=((d.out.set 0 (O J 110)).set 1 (O J (i:Int))).three;have q2:=((d.out.set 0 (O J 110)).set 1 (O J (i:Int))).set 2 (O J 0);go_wp2;refine bodyPost_ret (zAE (by rfl) _ _ w.heap.size [O J 110,O J (i:Int),O J 0] _ (by rfl) q2.range underlying30 rfl kR) rfl ?_;try rw[T]
    exact⟨⟨by show(110:Int)≠0;decide,rfl⟩,Ql u.out.1 (bZ _) [O J 110,O J (i:Int),O J 0] 0,fZ u.out.2 (Qj w.heap.size [O J 110,O J (i:Int),O J 0] 0 w2).size⟩
   |true =>
    go_upto_region 7 with fail
    have ak:=zRI A.out.1 a.x;obtain⟨g,aE⟩:=xV (gtC a.x F)
    obtain⟨tw,an⟩:=xV (gtH a.x F)
    have K:hH ((fnB a.x N 0).isSome=tw):=by
     show _=_
     rw[<-an,<-(A.out.2.get a.x).2]
    have aQ:(Instr.lookup 49 (.map (sX (w.heap.size+1))) (gX #[O J a.x.s,O J a.x.r,O J a.x.c]) tX).run prog w2=.ok (uX #[gX #[V g.t,.slice g.a g.n g.k],Y tw]) w2:=by
     rw[aE,an]at ak;exact ak
    clear aE an ak;have z:=QI (cZ _ w2) (Z #[V g.t,.slice g.a g.n g.k] 56);go_upto_region 8 with fail
    have m:=hid (And.intro (QA ab.out.1 z) (fZ ab.out.2 z.size));have H:=hid (AtL.below z ag.out);have ac:=hid (And.intro (A.out.1.below z) (A.out.2.fr (Fr.of_below [] z) sM));replace q1:=AtL.below z q1
    replace j0:=QB z j0
    replace j1:=QB z j1
    replace j2:=QB z j2
    replace j3:=QB z j3
    clear aQ z ab ag A;generalize w2.alloc (Z #[V g.t,.slice g.a g.n g.k] 56)=W3 at*;cases tw with
    |true =>
     have T:R=.inl (112,(i:Int),0):=by
      rw[<-HD.out];unfold raP;rw[if_neg (by rw[HQ.out];decide),if_pos K.out]
     have d:=H;have u:=m;clear HD ac H m HQ D K;obtain⟨_,_,_,z0,z1,z2⟩:=d.out.three;obtain⟨_,_,_,y0,y1,y2⟩:=(d.out.set 0 (O J 112)).three;obtain⟨_,_,_,x0,x1,x2⟩:=((d.out.set 0 (O J 112)).set 1 (O J (i:Int))).three;have q2:=((d.out.set 0 (O J 112)).set 1 (O J (i:Int))).set 2 (O J 0);go_wp2;refine bodyPost_ret (zAE (by rfl) _ _ w.heap.size [O J 112,O J (i:Int),O J 0] _ (by rfl) q2.range underlying30 rfl kR) rfl ?_;try rw[T]
     exact⟨⟨by show(112:Int)≠0;decide,rfl⟩,Ql u.out.1 (bZ _) [O J 112,O J (i:Int),O J 0] 0,fZ u.out.2 (Qj w.heap.size [O J 112,O J (i:Int),O J 0] 0 W3).size⟩
    |false =>
     have RI:=HH.out.2.2.2.2.2.2 a D.out HQ.out bb mb na nk ao W3 (HH.out.1.below m.out.1) (AtL.below m.out.1 HH.out.2.1) (RdS.below HH.out.2.2.1 m.out.1) HH.out.2.2.2.1;cases aa:rs a with
     |inr M =>
      rw[aa]at RI;have T:R=.inl (M.1,(i:Int),M.2):=by
       rw[<-HD.out];unfold raP;rw[if_neg (by rw[HQ.out];decide),if_neg (by rw[K.out];decide),aa]
      clear HD HQ D K aa ac;go_wp2_with fail
      refine RI.mono ?_;rintro e w4 ⟨⟨am,rfl⟩,ae⟩;have j:=QI ae (Z #[V ⟨#[]⟩,U qX 0 0] 56);have u:=hid (And.intro (QA m.out.1 j) (fZ m.out.2 j.size));have d:=hid (AtL.below j H.out);have aK:=hid am;have aS:¬M.1=0:=am;clear RI m H ae j am j0 j1 j2 j3 q1;go_upto_region 11 with fail
      generalize w4.alloc (Z #[V ⟨#[]⟩,U qX 0 0] 56)=W5 at*;obtain⟨_,_,_,z0,z1,z2⟩:=d.out.three;obtain⟨_,_,_,y0,y1,y2⟩:=(d.out.set 0 (O J M.1)).three;obtain⟨_,_,_,x0,x1,x2⟩:=((d.out.set 0 (O J M.1)).set 1 (O J (i:Int))).three;have q2:=((d.out.set 0 (O J M.1)).set 1 (O J (i:Int))).set 2 (O J M.2);go_wp2;refine bodyPost_ret (zAE (by rfl) _ _ w.heap.size [O J M.1,O J (i:Int),O J M.2] _ (by rfl) q2.range underlying30 rfl kR) rfl ?_;try rw[T]
      exact⟨⟨aK.out,rfl⟩,Ql u.out.1 (bZ _) [O J M.1,O J (i:Int),O J M.2] 0,fZ u.out.2 (Qj w.heap.size [O J M.1,O J (i:Int),O J M.2] 0 W5).size⟩
     |inl C =>
      rw[aa]at RI;have aM:hH (raP nm.length rs (L.drop (i+1)) (i+1) (V0 a.x ⟨a.t,C⟩ N)=R):=by
       show _=_
       rw[<-HD.out];conv=>rhs;unfold raP
       rw[if_neg (by rw[HQ.out];decide),if_neg (by rw[K.out];decide),aa]
      clear HD HQ D K aa;go_wp2_with fail
      refine RI.mono ?_;rintro e w4 ⟨⟨f,aC,aB,rfl⟩,ae⟩;have j:=QI ae (Z #[V f.t,.slice f.a f.n f.k] 56);have aA:=QI (cZ _ w4) (Z #[V f.t,.slice f.a f.n f.k] 56);have u:=hid (And.intro (QA m.out.1 j) (fZ m.out.2 j.size));have d:=hid (AtL.below j H.out);have ai:=hid (And.intro (ac.out.1.below j) (ac.out.2.fr (Fr.of_below [] j) sM));have aq:hH (CeP (w4.alloc (Z #[V f.t,.slice f.a f.n f.k] 56)) (w.heap.size+2) f ⟨a.t,C⟩):=⟨aC,(aB.fr (Fr.of_below [] aA) sM).mono m.out.2⟩
      have qf:=AtL.new0 w4 56 [V f.t,.slice f.a f.n f.k];replace q1:=AtL.below j q1
      replace j0:=QB j j0
      replace j1:=QB j j1
      replace j2:=QB j j2
      clear RI m H ac ae j aA aC aB j3;go_upto_region 11 with fail
      generalize w4.alloc (Z #[V f.t,.slice f.a f.n f.k] 56)=W5 at*;generalize aO:w4.heap.size=fb at*;clear aO;obtain⟨f0,f1,_,_⟩:=qf.two;obtain⟨w6,aV,aG,aD⟩:=zSF ai.out.1 a.x f;have ad:Fr [w.heap.size+1] W5 w6:=Fr.of_grown aD (λk e=>by cases e;simp);have aI:=hid (And.intro (((Fr.of_below [w.heap.size+1] u.out.1).trans ad).to_below (λk hk=>by simp at hk;omega)) (fZ u.out.2 ad.size));have aL:=hid (zBv d.out ad sM);have aJ:hH (∃F,MB w6 (w.heap.size+1) F/\Mt w6 (w.heap.size+2) F (V0 a.x ⟨a.t,C⟩ N)):=⟨_,aG,(ai.out.2.put a.x aq.out).fr ad (λk hk=>by simp at hk;omega)⟩
      clear u d ai aq aG aD ad;go_wp2_with fail
      go_roundg (n-(i+1))
      case rel=>exact⟨i+1,_,sM,rfl,al,aM,aJ,aL,aI⟩
      case measure=>omega
  ·have aP:¬(i:Int)<(n:Int):=oM;have HE:hH (R=.inr N):=by
    show _=_
    have:=HH.out.2.2.2.2.2.1;rw[<-HR.out,iY oM];rfl
   have T:R=.inr N:=HE.out;obtain⟨F,m1,m2⟩:=HM.out;have A:=hid (And.intro m1 m2);clear HR HH HM m1 m2 HE;obtain⟨_,_,_,z0,z1,z2⟩:=HP.out.three;obtain⟨_,_,_,y0,y1,y2⟩:=(HP.out.set 0 (O J 0)).three;obtain⟨_,_,_,x0,x1,x2⟩:=((HP.out.set 0 (O J 0)).set 1 (O J 0)).three;have q2:=((HP.out.set 0 (O J 0)).set 1 (O J 0)).set 2 (O J 0);go_wp2;refine bodyPost_ret (zAE (by rfl) _ _ w.heap.size [O J 0,O J 0,O J 0] _ (by rfl) q2.range underlying30 rfl kR) rfl ?_;have fr:=Qj w.heap.size [O J 0,O J 0,O J 0] 0 W;refine⟨⟨rfl,F,MB.fr A.out.1 fr sM,Mt.fr fr (λk hk=>by simp at hk;omega) A.out.2⟩,?_,?_⟩
   ·exact Ql HB.out.1 (bZ _) [O J 0,O J 0,O J 0] 0
   ·exact fZ HB.out.2 fr.size
def lbE(G:List (Wpl.Cl×Ce)):List Ch->Int->Int
 |[],n=>n
 |a::r,n=>lbE G r ((if knd (gtE a.x G).t≠0 then n-1 else n)+(if a.t=⟨#[]⟩then 0 else 1))
theorem zIS{w:wW}{lo:Nat}{F:List (Wpl.Cl×Ct)}{G:List (Wpl.Cl×Ce)}(h:Mt w lo F G):∀(L:List Ch)(n:Int),lbP F L n=lbE G L n
 |[],n=>rfl
 |a::r,n=>by
  unfold lbP lbE;rw[(h.get a.x).1.1,zIS h r]
def V6(x:Wpl.Cl)(f:Ce)(G:List (Wpl.Cl×Ce)):List (Wpl.Cl×Ce):=if f.t=⟨#[]⟩then Vb x G else V0 x f G
theorem Mt.lay{F:List (Wpl.Cl×Ct)}(h:Mt w lo F G)(x:Wpl.Cl){f:Ct}{g:Ce}(d:CeP w lo f g):Mt w lo (Vt x f F) (V6 x g G):=by
 unfold Vt V6;rw[d.1];split
 ·exact h.del x
 ·exact h.put x d
def VV(N:List (Wpl.Cl×Ce)):List Ch->List (Wpl.Cl×Ce)->List (Wpl.Cl×Ce)
 |[],G=>G
 |a::r,G=>VV N r (V6 a.x (gtE a.x N) G)
def edP(n:Nat)(rs:Ch->List I⊕(Int×Int))(d:Int)(G:List (Wpl.Cl×Ce))(L:List Ch):(Int×Int×Int)×Int×List (Wpl.Cl×Ce) :=
 if L.length=0 then((114,0,0),d,G)else if 256<L.length then((3,0,0),d,G)else
 match raP n rs L 0 []with
 | .inl q=>(q,d,G)
 | .inr N=>if 4096<lbE G L (G.length:Int)then((113,0,0),d,G)else((0,0,0),d+1,VV N L G)
def EdQ(d g lo:Nat)(i:Option dW)(j:Nat)(nm:List ByteArray)(r:(Int×Int×Int)×Int×List (Wpl.Cl×Ce))(w:wW)(e:Ending)(w':wW):Prop :=
 e=rX (gX #[O J r.1.1,O J r.1.2.1,O J r.1.2.2])/\BK w' d g lo i j nm r.2.1 r.2.2/\Fr [d,g] w w'
theorem EdQ.same{e j:Nat}{m:Option dW}{q:Nat}{nm:List ByteArray}{d:Int}{i p:Int}(h:BK w e j lo m q nm d G)(g:bL w w'):EdQ e j lo m q nm ((c,i,p),d,G) w (rX (gX #[O J c,O J i,O J p])) w':=⟨rfl,h.below g,Fr.of_below _ g⟩
theorem zJ4(g j lo:Nat)(m:Option dW)(q:Nat)(nm:List ByteArray)(e:Int)(G:List (Wpl.Cl×Ce))(av:Option dW)(n cap:Nat)(w:wW)(h:BK w g j lo m q nm e G)(x:n=0) :
  cW prog 7 #[pX (sX ⟨g,0,qX⟩),U av n cap] w (EdQ g j lo m q nm ((114,0,0),e,G) w):=by
 subst x;have u:=hid h;have i:=QI (cZ _ w) (Z #[O J 0,O J 0,O J 0] 30);have p:=AtL.new0 w 30 [O J 0,O J 0,O J 0];clear h;go_enter func7,ntmps7;go_upto_region 2 with fail
 generalize w.alloc (Z #[O J 0,O J 0,O J 0] 30)=z at*;have d:=hid p;clear p;obtain⟨_,_,_,I,K,L⟩:=d.out.three;obtain⟨_,_,_,E,F,H⟩:=(d.out.set 0 (O J 114)).three;obtain⟨_,_,_,A,C,D⟩:=((d.out.set 0 (O J 114)).set 1 (O J 0)).three;have y:=((d.out.set 0 (O J 114)).set 1 (O J 0)).set 2 (O J 0);go_wp2;refine bodyPost_ret (Q3 (by rfl) _ _ w.heap.size [O J 114,O J 0,O J 0] _ (by rfl) y.range underlying30 rfl kR) rfl ?_;exact EdQ.same u.out (Ql i (bZ _) [O J 114,O J 0,O J 0] 0)
theorem zJe(g j lo:Nat)(m:Option dW)(q:Nat)(nm:List ByteArray)(e:Int)(G:List (Wpl.Cl×Ce))(av:Option dW)(n cap:Nat)(w:wW)(h:BK w g j lo m q nm e G)(x:256<n) :
  cW prog 7 #[pX (sX ⟨g,0,qX⟩),U av n cap] w (EdQ g j lo m q nm ((3,0,0),e,G) w):=by
 have u:=hid h;have i:=QI (cZ _ w) (Z #[O J 0,O J 0,O J 0] 30);have p:=AtL.new0 w 30 [O J 0,O J 0,O J 0];have A:¬(n:Int)=0:=oM;have C:(256:Int)<(n:Int):=oM;clear h x;go_enter func7,ntmps7;go_upto_region 4 with fail
 generalize w.alloc (Z #[O J 0,O J 0,O J 0] 30)=z at*;have d:=hid p;clear p;obtain⟨_,_,_,L,M,R⟩:=d.out.three;obtain⟨_,_,_,H,I,K⟩:=(d.out.set 0 (O J 3)).three;obtain⟨_,_,_,D,E,F⟩:=((d.out.set 0 (O J 3)).set 1 (O J 0)).three;have y:=((d.out.set 0 (O J 3)).set 1 (O J 0)).set 2 (O J 0);go_wp2;refine bodyPost_ret (Q3 (by rfl) _ _ w.heap.size [O J 3,O J 0,O J 0] _ (by rfl) y.range underlying30 rfl kR) rfl ?_;exact EdQ.same u.out (Ql i (bZ _) [O J 3,O J 0,O J 0] 0)
theorem zHw(y C lo:Nat)(D:Option dW)(E:Nat)(nm:List ByteArray)(u:Int)(G:List (Wpl.Cl×Ce))(av:Option dW)(n cap:Nat)(L:List Ch)(rs:Ch->List I⊕(Int×Int))(w:wW)(H:BEnv w)(h:BK w y C lo D E nm u G)(hr:RdH w av L)(T:L.length=n)(hn:n≠0)(K:n<=256)(M:∀a∈L,Jv nm.length a.x=tX->VY nm a.x a.t (rs a))(q:Int×Int×Int)(X:raP nm.length rs L 0 []=.inl q) :
  cW prog 7 #[pX (sX ⟨y,0,qX⟩),U av n cap] w (EdQ y C lo D E nm (q,u,G) w):=by
 have HH:=hid h;have d:=QI (cZ _ w) (Z #[O J 0,O J 0,O J 0] 30);have p:=AtL.new0 w 30 [O J 0,O J 0,O J 0];have h1:¬(n:Int)=0:=oM;have h2:¬(256:Int)<(n:Int):=oM;have z:=zCv y C D E nm u av n cap L rs (w.alloc (Z #[O J 0,O J 0,O J 0] 30)) (H.below d) (AtL.below d h.hd) (RdS.below h.rs d) h.kp (hr.below d) T (λ_=>K) M;rw[X]at z;clear H h hr T hn K M X;obtain⟨c,i,m⟩:=q;go_enter func7,ntmps7;go_upto_region 1 with fail
 generalize w.alloc (Z #[O J 0,O J 0,O J 0] 30)=W0 at*;go_wp2_with fail
 refine z.mono ?_;rintro e F ⟨⟨R,rfl⟩,j,_⟩;have aa:¬c=0:=R;have q1:=AtL.new0 F 30 [O J c,O J i,O J m];have A:=QI (QA d j) (Z #[O J c,O J i,O J m] 30);have g:hH (AtL (F.alloc (Z #[O J c,O J i,O J m] 30)) w.heap.size [O J 0,O J 0,O J 0]):=AtL.alloc (AtL.below j p) _;clear z j R p d;go_upto_region 6 with fail
 generalize F.alloc (Z #[O J c,O J i,O J m] 30)=W2 at*;obtain⟨j0,j1,j2,_⟩:=q1.three;obtain⟨_,_,_,z0,z1,z2⟩:=g.out.three;obtain⟨_,_,_,y0,y1,y2⟩:=(g.out.set 0 (O J c)).three;obtain⟨_,_,_,x0,x1,x2⟩:=((g.out.set 0 (O J c)).set 1 (O J i)).three;have q2:=((g.out.set 0 (O J c)).set 1 (O J i)).set 2 (O J m);go_wp2;refine bodyPost_ret (Q3 (by rfl) _ _ w.heap.size [O J c,O J i,O J m] _ (by rfl) q2.range underlying30 rfl kR) rfl ?_;exact EdQ.same HH.out (Ql A (bZ _) [O J c,O J i,O J m] 0)
theorem zJx(z D lo:Nat)(E:Option dW)(H:Nat)(nm:List ByteArray)(j:Int)(G:List (Wpl.Cl×Ce))(av:Option dW)(n cap:Nat)(L:List Ch)(rs:Ch->List I⊕(Int×Int))(w:wW)(hE:BEnv w)(h:BK w z D lo E H nm j G)(T:RdH w av L)(R:L.length=n)(hn:n≠0)(M:n<=256)(hR:∀a∈L,Jv nm.length a.x=tX->VY nm a.x a.t (rs a))(N:List (Wpl.Cl×Ce))(hq:raP nm.length rs L 0 []=.inr N)(hG:G.length<=1000000)(hs:∀y,(gtE y G).t.size<=9223372036854775807)(hf:4096<lbE G L (G.length:Int)) :
  cW prog 7 #[pX (sX ⟨z,0,qX⟩),U av n cap] w (EdQ z D lo E H nm ((113,0,0),j,G) w):=by
 have HH:=hid h;have d:=QI (cZ _ w) (Z #[O J 0,O J 0,O J 0] 30);have p:=AtL.new0 w 30 [O J 0,O J 0,O J 0];have h1:¬(n:Int)=0:=oM;have h2:¬(256:Int)<(n:Int):=oM;have K:=zCv z D E H nm j av n cap L rs (w.alloc (Z #[O J 0,O J 0,O J 0] 30)) (hE.below d) (AtL.below d h.hd) (RdS.below h.rs d) h.kp (T.below d) R (λ_=>M) hR;rw[hq]at K;obtain⟨F,m1,C⟩:=h.mp;have m:hH (∀W,bL w W->CR 18 #[pX (sX ⟨z,0,qX⟩),U av n cap] W (O J (lbE G L (G.length:Int)))):=λW hb=>by
  have:=zGN z D (U E nm.length H) j F av n cap L W (AtL.below hb h.hd) (m1.below hb) (T.below hb) R (λ_=>M) (λ_=>by rw[C.len];exact hG) (λy=>by rw[(C.get y).1.1];exact hs y);rw[zIS C,C.len]at this;exact this
 obtain⟨lb,A⟩:=xV (lbE G L (G.length:Int))
 rw[A]at m hf;clear hE h T R hn M hR hq hG hs A m1 C;go_enter func7,ntmps7;go_upto_region 1 with fail
 generalize w.alloc (Z #[O J 0,O J 0,O J 0] 30)=W0 at*;go_wp2_with fail
 refine K.mono ?_;rintro e X ⟨⟨rfl,_⟩,q,_⟩;have q1:=AtL.new0 X 30 [O J 0,O J 0,O J 0];have i:=QI (QA d q) (Z #[O J 0,O J 0,O J 0] 30);have p2:AtL (X.alloc (Z #[O J 0,O J 0,O J 0] 30)) w.heap.size [O J 0,O J 0,O J 0]:=AtL.alloc (AtL.below q p) _;clear K q p d;go_upto_region 6 with fail
 generalize X.alloc (Z #[O J 0,O J 0,O J 0] 30)=W2 at*;obtain⟨j0,j1,j2,_⟩:=q1.three;have LB:=m.out W2 i;go_wp2_with fail
 refine LB.mono ?_;rintro e w3 ⟨rfl,u⟩;have g:=hid (AtL.below u p2);replace i:=QA i u
 clear LB m u p2 q1;go_upto_region 9 with fail
 obtain⟨_,_,_,z0,z1,z2⟩:=g.out.three;obtain⟨_,_,_,y0,y1,y2⟩:=(g.out.set 0 (O J 113)).three;obtain⟨_,_,_,x0,x1,x2⟩:=((g.out.set 0 (O J 113)).set 1 (O J 0)).three;have q2:=((g.out.set 0 (O J 113)).set 1 (O J 0)).set 2 (O J 0);go_wp2;refine bodyPost_ret (Q3 (by rfl) _ _ w.heap.size [O J 113,O J 0,O J 0] _ (by rfl) q2.range underlying30 rfl kR) rfl ?_;exact EdQ.same HH.out (Ql i (bZ _) [O J 113,O J 0,O J 0] 0)
def TyB(w:wW)(k:Nat)(T:TypeId):Prop:=∃c d,w.heap[k]?=sX (Z c T d)
theorem TyB.lt{T:TypeId}(h:TyB w k T):k<w.heap.size:=by
 obtain⟨c,d,h⟩:=h;exact(Array.getElem?_eq_some_iff.1 h).1
theorem TyB.fr{T:TypeId}(h:TyB w k T)(e:Fr S w w')(i:k∉S):TyB w' k T:=by
 have g:=h.lt;obtain⟨c,d,h⟩:=h;exact⟨c,d,by rw[e.block k g i];exact h⟩
theorem TyB.new(w:wW)(c:Array vW)(T:TypeId):TyB (w.alloc (Z c T)) w.heap.size T:=⟨c,(0,0),heap_alloc_new _ _⟩
theorem zGJ{T j:TypeId}{x:List vW}(h:w.ownsRow B T k v n x)(d:TyB w b j)(u:j≠T):∀g,v.ownBlock=sX g->g∉[b]:=by
 intro g e i;simp at i;subst i;obtain⟨c,y,d⟩:=d;rcases h.2 with⟨q,_⟩|⟨a,cap,m,q,_,i,_⟩
 ·rw[q]at e;cases e
 ·rw[q]at e;cases e
  rw[i]at d;simp only[Option.some.injEq,Obj.cells.injEq]at d;exact u d.2.1.symm
theorem CdP.frT{T:TypeId}{C:List I}(h:CdP w lo v C)(g:Fr [b] w w')(j:TyB w b T)(q:T≠3)(u:T≠86):CdP w' lo v C:=by
 obtain⟨P,e,m,d⟩:=h;exact⟨P,QZ g e (zGJ e j u),m,λi a b=>⟨(d i a b).1,QZ g (d i a b).2 (zGJ (d i a b).2 j q)⟩⟩
theorem Mt.frT{w w':wW}{b lo:Nat}{T:TypeId}(i:Fr [b] w w')(j:TyB w b T)(d:T≠3)(e:T≠86):∀{F:List (Wpl.Cl×Ct)}{G:List (Wpl.Cl×Ce)},Mt w lo F G->Mt w' lo F G
 |[],[],_=>trivial
 |f::F,g::G,h=>⟨⟨h.1.1,h.1.2.1,h.1.2.2.frT i j d e⟩,Mt.frT i j d e h.2⟩
 |[],_::_,h=>h.elim
 |_::_,[],h=>h.elim
theorem RdH.fr{av:Option dW}{L:List Ch}(h:RdH w av L)(m:Fr S w w')(q:∀g o,av=sX ⟨g,o,qX⟩->g∉S):RdH w' av L:=λi a ha=>by
 obtain⟨j,d,e,u⟩:=h i a ha;exact⟨j,d,e,m.range u (q j d e)⟩
theorem zJk(A z lo:Nat)(na:Option dW)(nk:Nat)(nm:List ByteArray)(d:Int)(G:List (Wpl.Cl×Ce))(av:Option dW)(n cap:Nat)(L:List Ch)(rs:Ch->List I⊕(Int×Int))(w:wW)(hE:BEnv w)(h:BK w A z lo na nk nm d G)(hr:RdH w av L)(hl:L.length=n)(hn:n≠0)(hN:n<=256)(hR:∀a∈L,Jv nm.length a.x=tX->VY nm a.x a.t (rs a))(N:List (Wpl.Cl×Ce))(hq:raP nm.length rs L 0 []=.inr N)(hG:G.length<=1000000)(hs:∀y,(gtE y G).t.size<=9223372036854775807)(aQ:∀y,(gtE y N).t.size<=9223372036854775807)(hf:¬4096<lbE G L (G.length:Int))(hv:0<=d/\d<=1000000000)(aN:∀g o,av=sX ⟨g,o,qX⟩->g≠z) :
  cW prog 7 #[pX (sX ⟨A,0,qX⟩),U av n cap] w (EdQ A z lo na nk nm ((0,0,0),d+1,VV N L G) w):=by
 have HH:=hid h;have R:=QI (cZ _ w) (Z #[O J 0,O J 0,O J 0] 30);have p:=AtL.new0 w 30 [O J 0,O J 0,O J 0];have aR:=TyB.new w #[O J 0,O J 0,O J 0] 30;have h1:¬(n:Int)=0:=oM;have h2:¬(256:Int)<(n:Int):=oM;have RA:=zCv A z na nk nm d av n cap L rs (w.alloc (Z #[O J 0,O J 0,O J 0] 30)) (hE.below R) (AtL.below R h.hd) (RdS.below h.rs R) h.kp (hr.below R) hl (λ_=>hN) hR;rw[hq]at RA;obtain⟨F,m1,X⟩:=h.mp;have aj:hH (∀W,bL w W->CR 18 #[pX (sX ⟨A,0,qX⟩),U av n cap] W (O J (lbE G L (G.length:Int)))):=λW hb=>by
  have:=zGN A z (U na nm.length nk) d F av n cap L W (AtL.below hb h.hd) (m1.below hb) (hr.below hb) hl (λ_=>hN) (λ_=>by rw[X.len];exact hG) (λy=>by rw[(X.get y).1.1];exact hs y);rw[zIS X,X.len]at this;exact this
 obtain⟨lb,aO⟩:=xV (lbE G L (G.length:Int))
 rw[aO]at aj hf;have HC:hH (RdH w av L/\L.length=n/\n<=256/\∀g o,av=sX ⟨g,o,qX⟩->g∉[z]):=⟨hr,hl,hN,λg o e=>by simpa using aN g o e⟩
 have M:hH (A≠z/\A<w.heap.size):=⟨h.ne,h.hd.lt⟩
 have m:=hid h.lt;have a2:=hid aQ;obtain⟨GE,ao⟩:=xV (VV N L G)
 rw[ao];have aJ:=hid ao;have bf:J.wrap (d+1)=d+1:=by rw[jY];omega
 clear hE h hr hl hn hN hR hq hG hs aQ aO m1 X hv aN ao;go_enter func7,ntmps7;go_upto_region 1 with fail
 have aS:(w.alloc (Z #[O J 0,O J 0,O J 0] 30)).heap.size=w.heap.size+1:=sM;generalize w.alloc (Z #[O J 0,O J 0,O J 0] 30)=W0 at*;go_wp2_with fail
 refine RA.mono ?_;rintro e w1 ⟨⟨rfl,H,ar,au⟩,j,_⟩;rw[aS]at ar au;have ab:=QI (cZ _ w1) (Z #[O J 0,O J 0,O J 0] 30);have q1:=AtL.new0 w1 30 [O J 0,O J 0,O J 0];have C:=QI (QA R j) (Z #[O J 0,O J 0,O J 0] 30);have p2:AtL (w1.alloc (Z #[O J 0,O J 0,O J 0] 30)) w.heap.size [O J 0,O J 0,O J 0]:=AtL.alloc (AtL.below j p) _;have am:hH (MB (w1.alloc (Z #[O J 0,O J 0,O J 0] 30)) (w.heap.size+2) H/\Mt (w1.alloc (Z #[O J 0,O J 0,O J 0] 30)) lo H N):=⟨ar.below ab,(au.mono (by have:=m.out;omega)).fr (Fr.of_below [] ab) sM⟩
 have ag:TyB (w1.alloc (Z #[O J 0,O J 0,O J 0] 30)) w.heap.size 30:=aR.fr (Fr.of_below [] (QI j _)) sM;clear RA j p R ar au ab aR;go_upto_region 6 with fail
 generalize w1.alloc (Z #[O J 0,O J 0,O J 0] 30)=W2 at*;obtain⟨j0,j1,j2,_⟩:=q1.three;have LB:=aj.out W2 C;go_wp2_with fail
 refine LB.mono ?_;rintro e w3 ⟨rfl,T⟩;have aG:=hid (AtL.below T p2);have aF:hH (MB w3 (w.heap.size+2) H/\Mt w3 lo H N):=⟨am.out.1.below T,am.out.2.fr (Fr.of_below [] T) sM⟩
 have aK:=hid (ag.fr (Fr.of_below [] T) sM);replace C:=QA C T
 have az:hH (Fr [z] w w3):=Fr.of_below _ C;have aw:=hid (AtL.below C HH.out.hd);have aD:hH (∃F,MB w3 z F/\Mt w3 lo F G):=by
  obtain⟨F,m1,X⟩:=HH.out.mp;exact⟨F,m1.below C,X.fr (Fr.of_below [] C) sM⟩
 clear LB aj T p2 q1 am C j0 j1 j2 aS ag;go_upto_region 11 with fail
 go_loopg [34] n (λgk x wr=>∃(i:Nat)(Gi:List (Wpl.Cl×Ce)),x=O J (i:Int)/\gk=n-i/\hH (i<=n)/\hH (VV N (L.drop i) Gi=GE)/\hH (∃F,MB wr z F/\Mt wr lo F Gi)/\hH (MB wr (w.heap.size+2) H/\Mt wr lo H N)/\hH (AtL wr A [U na nm.length nk,O J d,.map (sX z)])/\hH (AtL wr w.heap.size [O J 0,O J 0,O J 0])/\hH (Fr [z] w wr)/\hH (TyB wr w.heap.size 30))
 case atStart=>exact⟨0,G,rfl,rfl,jZ _,aJ,aD,aF,aw,aG,az,aK⟩
 case round =>
  obtain⟨i,Gi,rfl,hg,HI,HR,HM,HN,HA,HP,HF,HT⟩:=hrel;generalize ba:wr=W at*;clear ba aJ aD aF aw aG az aK;by_cases aq:i<n
  ·have a7:(i:Int)<(n:Int):=oM;have bd:(0:Int)<=(i:Int):=oM;have be:J.wrap ((i:Int)+1)=(i:Int)+1:=by have:=HC.out.2.2.1;rw[jY];omega
   obtain⟨a,ha⟩:∃a,L[i]?=sX a:=⟨L[i]'(by rw[HC.out.2.1];exact aq),hZ _⟩
   have HD:hH (VV N (L.drop (i+1)) (V6 a.x (gtE a.x N) Gi)=GE):=by
    show _=_
    have hl':i<L.length:=by rw[HC.out.2.1];exact aq
    have e1:L[i]'hl'=a:=by
     have:=hZ (l:=L) (i:=i) hl';rw[ha]at this;exact(Option.some.inj this).symm
    have:=HR.out;rwa [gY hl',e1]at this
   obtain⟨cb,af,e,D⟩:=RdH.fr HC.out.1 HF.out HC.out.2.2.2 i a ha;subst e;have k0:W.cell? ⟨cb,af+i*4,qX⟩=sX (O J a.x.s):=D 0 _ rfl;have k1:W.cell? ⟨cb,af+i*4+1,qX⟩=sX (O J a.x.r):=D 1 _ rfl;have k2:W.cell? ⟨cb,af+i*4+2,qX⟩=sX (O J a.x.c):=D 2 _ rfl;have k3:W.cell? ⟨cb,af+i*4+3,qX⟩=sX (V a.t):=D 3 _ rfl;have j:=QI (cZ _ W) (Z #[O J a.x.s,O J a.x.r,O J a.x.c,V a.t] 38);have q1:=AtL.new0 W 38 [O J a.x.s,O J a.x.r,O J a.x.c,V a.t];have aE:hH (∃F,MB (W.alloc (Z #[O J a.x.s,O J a.x.r,O J a.x.c,V a.t] 38)) z F/\Mt (W.alloc (Z #[O J a.x.s,O J a.x.r,O J a.x.c,V a.t] 38)) lo F Gi):=by
    obtain⟨F,m1,X⟩:=HM.out;exact⟨F,m1.below j,X.fr (Fr.of_below [] j) sM⟩
   have al:hH (MB (W.alloc (Z #[O J a.x.s,O J a.x.r,O J a.x.c,V a.t] 38)) (w.heap.size+2) H/\Mt (W.alloc (Z #[O J a.x.s,O J a.x.r,O J a.x.c,V a.t] 38)) lo H N):=⟨HN.out.1.below j,HN.out.2.fr (Fr.of_below [] j) sM⟩
   have ax:=hid (AtL.below j HA.out);have aH:=hid (AtL.below j HP.out);have aA:hH (Fr [z] w (W.alloc (Z #[O J a.x.s,O J a.x.r,O J a.x.c,V a.t] 38))):=HF.out.trans (Fr.of_below _ j);have aL:=hid (HT.out.fr (Fr.of_below [] j) sM);have ai:hH (W.heap.size∉[z]):=by show _∉_;simp;have:=HF.out.size;have:=m.out;omega
   obtain⟨f,ap⟩:=xV (gtC a.x H)
   have aC:=hid ap;have a3:hH (f.t.size<=9223372036854775807):=by
    show _<=_
    rw[<-ap,(HN.out.2.get a.x).1.1];exact a2.out a.x
   clear ha D j HR HM HN HA HP HF HT ap;go_upto_region 13 with fail
   clear k0 k1 k2 k3;generalize W.alloc (Z #[O J a.x.s,O J a.x.r,O J a.x.c,V a.t] 38)=W1 at*;generalize a6:W.heap.size=eb at*;clear a6;have t3:JI W1 eb (O J a.x.s) (O J a.x.r) (O J a.x.c):=⟨q1.2.1 0 _ rfl,q1.2.1 1 _ rfl,q1.2.1 2 _ rfl⟩
   clear q1;have u:=(cZ W1.heap.size W1).drew;refine wp_region_held_drew (S:=λW=>JI W eb (O J a.x.s) (O J a.x.r) (O J a.x.c)) kR (QG u t3) (λE=>?_);replace t3:=QG u t3
   obtain⟨Fi,aT,aU⟩:=aE.out;have ak:hH (MB W1.drew z Fi/\Mt W1.drew lo Fi Gi):=⟨aT.below u,aU.fr (Fr.of_below [] u) sM⟩
   have aa:hH (MB W1.drew (w.heap.size+2) H/\Mt W1.drew lo H N):=⟨al.out.1.below u,al.out.2.fr (Fr.of_below [] u) sM⟩
   have ah:=hid (AtL.below u ax.out);have aI:=hid (AtL.below u aH.out);have aB:hH (Fr [z] w W1.drew):=aA.out.trans (Fr.of_below _ u);have aM:=hid (aL.out.fr (Fr.of_below [] u) sM);clear u aE al ax aH aA aL aT aU;generalize W1.drew=W4 at*;refine tkQ 0 ?_
   refine tkQ 1 ?_
   refine tkQ 2 ?_
   refine tkQ 3 ?_
   refine tkQ 4 ?_
   refine tkQ 5 ?_
   refine rdQ 6 (λK hK=>?_);have a8:(Instr.lookup 49 (.map (sX (w.heap.size+2))) (gX #[O J a.x.s,O J a.x.r,O J a.x.c]) vX).run prog W4=.ok (gX #[V f.t,.slice f.a f.n f.k]) W4:=by
    have:=zDP aa.out.1 a.x;rw[aC.out]at this;exact this
   go_simp
   refine hkQ hK t3 (λE=>?_);clear hK K a8
   refine rdQ 7 (λK hK=>?_);have LY:=zLd A z (U na nm.length nk) d Fi a.x f W4 ah.out ak.out.1 M.out.1 a3.out;go_simp
   refine LY.mono ?_;rintro e w5 ⟨rfl,aP,q⟩;have aX:hH (∃F,MB w5 z F/\Mt w5 lo F (V6 a.x (gtE a.x N) Gi)):=⟨_,aP,(ak.out.2.lay a.x (by have:=(aa.out.2.get a.x).1;rw[aC.out]at this;exact this)).fr q (λk hk=>by simp at hk;rw[hk];exact m.out.2.1)⟩
   have aY:hH (MB w5 (w.heap.size+2) H/\Mt w5 lo H N):=⟨aa.out.1.fr q (by simp;have:=m.out;omega),aa.out.2.fr q (λk hk=>by simp at hk;rw[hk];exact m.out.2.1)⟩
   have aV:=hid (zBv ah.out q (by simpa using M.out.1));have aZ:=hid (zBv aI.out q (by simp;have:=m.out;omega));have aW:=hid (aB.out.trans q);have t5:JI w5 eb (O J a.x.s) (O J a.x.r) (O J a.x.c):=⟨q.cell t3.1 ai.out,q.cell t3.2.1 ai.out,q.cell t3.2.2 ai.out⟩
   have a5:=hid (aM.out.fr q (by simp;have:=m.out;omega));clear LY aP q ak aa ah aI aB aM t3;go_wp2_with fail
   refine hkQ hK t5 (λE=>?_);clear hK K
   refine wpAnyH_done kR ?_ _;clear E t5;go_wp2_with fail
   go_roundg (n-(i+1))
   case rel=>exact⟨i+1,_,sM,rfl,aq,HD,aX,aY,aV,aZ,aW,a5⟩
   case measure=>omega
  ·have a7:¬(i:Int)<(n:Int):=oM;have HE:hH (Gi=GE):=by
    show _=_
    rw[<-HR.out,iY (by rw[HC.out.2.1];omega)];rfl
   have ay:hH (AtL (W.setCell ⟨A,1,qX⟩ (O J (d+1))) A [U na nm.length nk,O J (d+1),.map (sX z)]):=HA.out.set 1 _;have a0:hH (AtL (W.setCell ⟨A,1,qX⟩ (O J (d+1))) w.heap.size [O J 0,O J 0,O J 0]):=HP.out.far (by have:=M.out;omega) 1 _;have ac:hH (Fr [A] W (W.setCell ⟨A,1,qX⟩ (O J (d+1)))):=Qj A [O J (d+1)] 1 W;obtain⟨_,a1,_,_,a4,_⟩:=HA.out.three;clear HR;go_upto_region 16 with fail
   have bc:=ay.out;generalize W.setCell ⟨A,1,qX⟩ (O J (d+1))=W6 at*;have ad:=a0;obtain⟨_,_,_,z0,z1,z2⟩:=ad.out.three;obtain⟨_,_,_,y0,y1,y2⟩:=(ad.out.set 0 (O J 0)).three;obtain⟨_,_,_,x0,x1,x2⟩:=((ad.out.set 0 (O J 0)).set 1 (O J 0)).three;have q2:=((ad.out.set 0 (O J 0)).set 1 (O J 0)).set 2 (O J 0);go_wp2;refine bodyPost_ret (Q3 (by rfl) _ _ w.heap.size [O J 0,O J 0,O J 0] _ (by rfl) q2.range underlying30 rfl kR) rfl ?_;have ae:=Qj w.heap.size [O J 0,O J 0,O J 0] 0 W6;have an:Fr [A,z] w (W6.setCells w.heap.size 0 [O J 0,O J 0,O J 0]):=((HF.out.mono sM).trans (ac.out.mono sM)).new ae (λk hk=>by simp at hk;omega);refine⟨rfl,⟨zBv ay.out ae (by simp;have:=M.out;omega),RdS.fr HH.out.rs an (λg o e=>by have:=HH.out.nb g o e;simp;omega),HH.out.kp,HH.out.nb,?_,⟨m.out.1,m.out.2.1,fZ m.out.2.2 an.size⟩,HH.out.ne⟩,an⟩;obtain⟨F',m1,X⟩:=HM.out;rw[HE.out]at X;have m3:=X.fr ac.out (λk hk=>by simp at hk;rw[hk];exact m.out.1);have a9:=HT.out.fr ac.out (by simp;have:=M.out;omega);exact⟨F',(m1.fr ac.out (by simp;have:=M.out;omega)).fr ae (by simp;have:=m.out;omega),m3.frT ae a9 dM dM⟩
def zSG(t:ByteArray)(C:List I):Prop:=(0<C.length↔Wlx.begins [61] t.data.toList=tX)/\C.length<=20000/\∀p∈C,TI 1000000 p
def zPM(nm:List ByteArray)(rs:Ch->List I⊕(Int×Int)):Prop:=∀a:Ch,Jv nm.length a.x=tX->a.t.size<=1000000000000000->VY nm a.x a.t (rs a)/\(∀C,rs a=.inl C->zSG a.t C)/\∀q,rs a=.inr q->q.1≠0/\XE q.2
theorem zJO(d:n<=16){x:Wpl.Cl}(h:Jv n x=tX):0<=x.s/\x.s<16:=by
 unfold Jv at h;rw[Bool.and_eq_true]at h;have:=Wpl.rightC_iff.1 h.1;omega
theorem zRK(nm:List ByteArray)(e:nm.length<=16):∃rs,zPM nm rs:=by
 have d:∀a:Ch,∃R,Jv nm.length a.x=tX->a.t.size<=1000000000000000->VY nm a.x a.t R/\(∀C,R=.inl C->zSG a.t C)/\∀q,R=.inr q->q.1≠0/\XE q.2:=λa=>by
  by_cases q:Jv nm.length a.x=tX/\a.t.size<=1000000000000000
  ·have g:=zJO e q.1;obtain⟨R,r⟩:=zRG nm a.x a.t oM ⟨oM,oM⟩ oM;exact⟨R,λ_ _=>r⟩
  ·exact⟨.inl [],λi j=>absurd ⟨i,j⟩ q⟩
 exact Classical.axiomOfChoice d
def EOk(n:Nat)(rs:Ch->List I⊕(Int×Int))(p:Wpl.Cl×Ce):Prop:=¬p.2.t=⟨#[]⟩/\p.2.t.size<=1000000000000000/\Jv n p.1=tX/\rs ⟨p.1,p.2.t⟩=.inl p.2.c
def GOk(n:Nat)(rs:Ch->List I⊕(Int×Int))(G:List (Wpl.Cl×Ce)):Prop:=KB G/\∀p∈G,EOk n rs p
theorem zNi{α:Type}(x:Wpl.Cl)(v:α)(F:List (Wpl.Cl×α)):(V0 x v F).length<=F.length+1:=by
 unfold V0;split
 ·rw[List.length_set];omega
 ·rw[kZ];simp
theorem zOW{α:Type}(x:Wpl.Cl)(F:List (Wpl.Cl×α)):(Vb x F).length<=F.length:=by
 unfold Vb;split
 ·exact List.length_eraseIdx_le _ _
 ·exact bZ _
theorem zQV{x:Wpl.Cl}(h:∀e,(x,e)∉G):gtE x G=ce0:=(Jj (G:=G) (x:=x)).resolve_right (h _)
theorem zIX{H:List (Wpl.Cl×Ce)}(d:KB G)(g:KB H){x:Wpl.Cl}(h:∀e,(x,e)∈G↔(x,e)∈H):gtE x G=gtE x H:=by
 rcases Jj (G:=G) (x:=x)with e|e
 ·rcases Jj (G:=H) (x:=x)with f|f
  ·rw[e,f]
  ·exact zCT d ((h _).2 f)
 ·exact(zCT g ((h _).1 e)).symm
theorem zOH(i:KB G)(x:Wpl.Cl){f:Ce}(z:f.t=⟨#[]⟩->f=ce0):KB (V6 x f G)/\((∀p∈G,¬p.2.t=⟨#[]⟩)->∀p∈V6 x f G,¬p.2.t=⟨#[]⟩)/\gtE x (V6 x f G)=f/\∀y,y≠x->gtE y (V6 x f G)=gtE y G:=by
 unfold V6;by_cases j:f.t=⟨#[]⟩
 ·rw[if_pos j];obtain⟨g,d⟩:=i.del x;exact⟨g,λh p m=>h p ((d p.1 p.2).1 m).2,by rw[z j];exact zQV (λe u=>((d x e).1 u).1 rfl),λy hy=>zIX g i (λe=>by rw[d];exact⟨λh=>h.2,λh=>⟨hy,h⟩⟩)⟩
 ·rw[if_neg j];obtain⟨g,d⟩:=i.put x f;exact⟨g,λh p m=>((d p.1 p.2).1 m).elim (λq=>by rw[q.2];exact j) (λq=>h p q.2),zCT g ((d x f).2 (uZ ⟨rfl,rfl⟩)),λy hy=>zIX g i (λe=>by rw[d];exact⟨λh=>h.elim (λq=>absurd q.1 hy) (λq=>q.2),λh=>tZ ⟨hy,h⟩⟩)⟩
theorem zKP(N:List (Wpl.Cl×Ce)):∀(L:List Ch)(G:List (Wpl.Cl×Ce)),KB G->(∀a∈L,(gtE a.x N).t=a.t/\(a.t=⟨#[]⟩->gtE a.x N=ce0))->KB (VV N L G)/\2*(VV N L G).length<=2*G.length+(L.length+szH L)/\((∀p∈G,¬p.2.t=⟨#[]⟩)->∀p∈VV N L G,¬p.2.t=⟨#[]⟩)/\(∀y,(∃a∈L,a.x=y)->gtE y (VV N L G)=gtE y N)/\∀y,(∀a∈L,a.x≠y)->gtE y (VV N L G)=gtE y G
 |[],G,hG,_=>⟨hG,by simp[VV],λh=>h,λy ⟨a,ha,_⟩=>(by cases ha),λy _=>rfl⟩
 |a::r,G,hG,h=>by
  obtain⟨i,C⟩:=h a (gZ ..);obtain⟨u,m,z,A⟩:=zOH hG a.x (f:=gtE a.x N) (λe=>C (by rw[<-i];exact e));obtain⟨D,H,r0,E,j⟩:=zKP N r _ u (λb hb=>h b (eZ _ hb));have F:2*(V6 a.x (gtE a.x N) G).length<=2*G.length+(1+a.t.size):=by
   unfold V6;rw[i];by_cases g:a.t=⟨#[]⟩
   ·rw[if_pos g];have:=zOW a.x G;omega
   ·rw[if_neg g];have:=zNi a.x (gtE a.x N) G;have:0<a.t.size:=by
     rcases zY a.t.size with q|q
     ·exact absurd (xY (kX (mZ q))) g
     ·exact q
    omega
  refine⟨D,?_,λh=>r0 (m h),λy hy=>?_,λy hy=>?_⟩
  ·have e:szH (a::r)=a.t.size+szH r:=by simp[szH]
   show 2*(VV N r (V6 a.x (gtE a.x N) G)).length<=_
   rw[e,dZ];omega
  ·show gtE y (VV N r (V6 a.x (gtE a.x N) G))=_
   by_cases d:∃b∈r,b.x=y
   ·exact E y d
   ·obtain⟨b,hb,e⟩:=hy;rw[j y (λb hb e=>d ⟨b,hb,e⟩)];rcases List.mem_cons.1 hb with rfl|hb
    ·rw[<-e,z]
    ·exact absurd ⟨b,hb,e⟩ d
  ·show gtE y (VV N r (V6 a.x (gtE a.x N) G))=_
   rw[j y (λb hb=>hy b (eZ _ hb)),A y (λe=>hy a (gZ ..) e.symm)]
theorem zEe(n:Nat)(rs:Ch->List I⊕(Int×Int)):∀(L:List Ch)(i:Nat)(N d:List (Wpl.Cl×Ce)),KB N->raP n rs L i N=.inr d->KB d/\(∀p∈N,p∈d)/\∀a∈L,Jv n a.x=tX/\∃C,rs a=.inl C/\(a.x,(⟨a.t,C⟩:Ce))∈d
 |[],i,N,d,hK,h=>by
  unfold raP at h;simp only[Sum.inr.injEq]at h;subst h;exact⟨hK,λp e=>e,λa ha=>by cases ha⟩
 |a::r,i,N,d,hK,h=>by
  unfold raP at h;by_cases g:Jv n a.x=vX
  ·rw[if_pos g]at h;cases h
  ·rw[if_neg g]at h;by_cases j:(fnB a.x N 0).isSome=tX
   ·rw[if_pos j]at h;cases h
   ·rw[if_neg j]at h;cases m:rs a with
    |inr q=>rw[m]at h;cases h
    |inl C =>
     rw[m]at h;obtain⟨A,u⟩:=hK.put a.x (⟨a.t,C⟩:Ce);obtain⟨D,y,E⟩:=zEe n rs r (i+1) _ d A h;have z:fnB a.x N 0=qX:=by simpa using j
     refine⟨D,λp e=>y p ((u p.1 p.2).2 (tZ ⟨zAm a.x N 0 z p e,e⟩)),λb hb=>?_⟩;rcases List.mem_cons.1 hb with rfl|hb
     ·exact⟨by simpa using g,C,m,y _ ((u _ _).2 (uZ ⟨rfl,rfl⟩))⟩
     ·exact E b hb
theorem zMv(n:Nat)(rs:Ch->List I⊕(Int×Int)):∀(L:List Ch)(i:Nat)(N d:List (Wpl.Cl×Ce)),KB N->raP n rs L i N=.inr d->∀p∈d,p∈N \/ ∃a∈L,p.2.t=a.t
 |[],i,N,d,hK,h=>by
  unfold raP at h;simp only[Sum.inr.injEq]at h;subst h;exactλp e=>uZ e
 |a::r,i,N,d,hK,h=>by
  unfold raP at h;by_cases g:Jv n a.x=vX
  ·rw[if_pos g]at h;cases h
  ·rw[if_neg g]at h;by_cases j:(fnB a.x N 0).isSome=tX
   ·rw[if_pos j]at h;cases h
   ·rw[if_neg j]at h;cases m:rs a with
    |inr q=>rw[m]at h;cases h
    |inl C =>
     rw[m]at h;obtain⟨y,z⟩:=hK.put a.x (⟨a.t,C⟩:Ce);intro p e;rcases zMv n rs r (i+1) _ d y h p e with q|⟨b,u,q⟩
     ·rcases(z p.1 p.2).1 q with q|q
      ·exact tZ ⟨a,gZ ..,by rw[q.2]⟩
      ·exact uZ q.2
     ·exact tZ ⟨b,eZ _ u,q⟩
theorem zKE(n:Nat)(rs:Ch->List I⊕(Int×Int)):∀(L:List Ch)(i:Nat)(N:List (Wpl.Cl×Ce))(q:Int×Int×Int),(∀a∈L,Jv n a.x=tX->∀q,rs a=.inr q->q.1≠0/\XE q.2)->raP n rs L i N=.inl q->q.1≠0/\(∃j:Nat,q.2.1=(i:Int)+(j:Int)/\j<L.length)/\XE q.2.2
 |[],i,N,q,_,h=>by unfold raP at h;cases h
 |a::r,i,N,q,hL,h=>by
  unfold raP at h;have d:∃j:Nat,(i:Int)=(i:Int)+(j:Int)/\j<(a::r).length:=⟨0,sM,sM⟩
  by_cases g:Jv n a.x=vX
  ·rw[if_pos g]at h;simp only[Sum.inl.injEq]at h;subst h;exact⟨sM,d,uZ (xZ _)⟩
  ·rw[if_neg g]at h;by_cases u:(fnB a.x N 0).isSome=tX
   ·rw[if_pos u]at h;simp only[Sum.inl.injEq]at h;subst h;exact⟨sM,d,uZ (xZ _)⟩
   ·rw[if_neg u]at h;cases m:rs a with
    |inr e =>
     rw[m]at h;simp only[Sum.inl.injEq]at h;subst h;have:=hL a (gZ ..) (by simpa using g) e m;exact⟨this.1,d,this.2⟩
    |inl C =>
     rw[m]at h;obtain⟨y,⟨j,D,z⟩,A⟩:=zKE n rs r (i+1) _ q (λb hb=>hL b (eZ _ hb)) h;exact⟨y,⟨j+1,oM,by simpa using z⟩,A⟩
structure EdAcc(n:Nat)(rs:Ch->List I⊕(Int×Int))(G:List (Wpl.Cl×Ce))(L:List Ch)(G':List (Wpl.Cl×Ce)):Prop where
 ok:GOk n rs G'
 len:2*G'.length<=2*G.length+(L.length+szH L)
 new:∀a∈L,Jv n a.x=tX/\∃C,rs a=.inl C/\gtE a.x G'=⟨a.t,C⟩
 old:∀y,(∀a∈L,a.x≠y)->gtE y G'=gtE y G
def EdC(n:Nat)(rs:Ch->List I⊕(Int×Int))(d:Int)(G:List (Wpl.Cl×Ce))(L:List Ch)(r:(Int×Int×Int)×Int×List (Wpl.Cl×Ce)):Prop :=
 (r.1.1≠0/\r.2=(d,G)/\0<=r.1.2.1/\(0<L.length->r.1.2.1<(L.length:Int))/\XE r.1.2.2)\/(r.1=(0,0,0)/\r.2.1=d+1/\0<L.length/\L.length<=256/\EdAcc n rs G L r.2.2)
theorem zNY{rs:Ch->List I⊕(Int×Int)}(h:GOk n rs G)(y:Wpl.Cl):(gtE y G).t.size<=1000000000000000:=by
 rcases Jj (G:=G) (x:=y)with e|e
 ·rw[e];exact jZ _
 ·exact(h.2 _ e).2.1
theorem zIm(nm:List ByteArray)(rs:Ch->List I⊕(Int×Int))(u:zPM nm rs)(z:Int)(G:List (Wpl.Cl×Ce))(L:List Ch)(E:GOk nm.length rs G)(H:∀a∈L,a.t.size<=1000000000000000):EdC nm.length rs z G L (edP nm.length rs z G L):=by
 unfold edP;by_cases T:L.length=0
 ·rw[if_pos T];exact uZ ⟨sM,rfl,xZ _,λh=>by omega,uZ (xZ _)⟩
 rw[if_neg T];by_cases X:256<L.length
 ·rw[if_pos X];exact uZ ⟨sM,rfl,xZ _,λh=>by show(0:Int)<_;omega,uZ (xZ _)⟩
 rw[if_neg X];cases hq:raP nm.length rs L 0 []with
 |inl q =>
  obtain⟨A,⟨j,M,R⟩,D⟩:=zKE nm.length rs L 0 [] q (λa d hb=>(u a hb (H a d)).2.2) hq;exact uZ ⟨A,rfl,by show(0:Int)<=q.2.1;omega,λ_=>by show q.2.1<_;omega,D⟩
 |inr N =>
  simp only;by_cases hf:4096<lbE G L (G.length:Int)
  ·rw[if_pos hf];exact uZ ⟨sM,rfl,xZ _,λh=>by show(0:Int)<_;omega,uZ (xZ _)⟩
  ·rw[if_neg hf];obtain⟨kN,_,hA⟩:=zEe nm.length rs L 0 [] N (by simp[KB]) hq;have hN:∀a∈L,Jv nm.length a.x=tX/\∃C,rs a=.inl C/\gtE a.x N=⟨a.t,C⟩:=λa d=>by
    obtain⟨b1,C,b2,b3⟩:=hA a d;exact⟨b1,C,b2,zCT kN b3⟩
   obtain⟨A,M,K,R,D⟩:=zKP N L G E.1 (λa d=>by
    obtain⟨b1,C,b2,b3⟩:=hN a d;refine⟨by rw[b3],λF=>?_⟩;have:=(u a b1 (H a d)).2.1 C b2;have hC:C=[]:=by
     rcases zY C.length with q|q
     ·exact mZ q
     ·have i:=this.1.1 q;rw[F]at i;cases i
    rw[b3,F,hC])
   have g:∀a∈L,Jv nm.length a.x=tX/\∃C,rs a=.inl C/\gtE a.x (VV N L G)=⟨a.t,C⟩:=λa d=>by
    obtain⟨b1,C,b2,b3⟩:=hN a d;exact⟨b1,C,b2,by rw[R _ ⟨a,d,rfl⟩,b3]⟩
   refine tZ ⟨rfl,rfl,oM,oM,⟨⟨A,λp m=>?_⟩,M,g,D⟩⟩;obtain⟨y,e⟩:=p;have he:=zCT A m;by_cases hy:∃a∈L,a.x=y
   ·obtain⟨a,d,rfl⟩:=hy;obtain⟨b1,C,b2,b3⟩:=g a d;rw[he]at b3;subst b3;refine⟨λF=>?_,H a d,b1,b2⟩;exact K (λp m=>(E.2 p m).1) _ m F
   ·have i:=D y (λa d e=>hy ⟨a,d,e⟩);rw[he]at i;rcases Jj (G:=G) (x:=y)with q|q
    ·rw[q]at i;exact absurd (congrArg Ce.t i) (K (λp m=>(E.2 p m).1) _ m)
    ·rw[<-i]at q;exact E.2 _ q
theorem zGA(i j lo:Nat)(m:Option dW)(u:Nat)(nm:List ByteArray)(rs:Ch->List I⊕(Int×Int))(A:zPM nm rs)(d:Int)(G:List (Wpl.Cl×Ce))(av:Option dW)(n cap:Nat)(L:List Ch)(w:wW)(D:BEnv w)(h:BK w i j lo m u nm d G)(R:RdH w av L)(M:L.length=n)(hO:GOk nm.length rs G)(hG:G.length<=1000000)(hv:0<=d/\d<=1000000000)(K:∀g o,av=sX ⟨g,o,qX⟩->g≠j)(E:∀a∈L,a.t.size<=1000000000000000) :
  cW prog 7 #[pX (sX ⟨i,0,qX⟩),U av n cap] w λe w'=>∃r,EdC nm.length rs d G L r/\r=edP nm.length rs d G L/\EdQ i j lo m u nm r w e w':=by
 have hc:=zIm nm rs A d G L hO E;have F:∀a∈L,Jv nm.length a.x=tX->VY nm a.x a.t (rs a):=λa H hh=>(A a hh (E a H)).1
 have hs:∀y,(gtE y G).t.size<=9223372036854775807:=λy=>fZ (zNY hO y) dM
 refine Calls.mono (?_:cW prog 7 #[pX (sX ⟨i,0,qX⟩),U av n cap] w (EdQ i j lo m u nm (edP nm.length rs d G L) w)) (λe w' q=>⟨_,hc,rfl,q⟩);clear hc;unfold edP;by_cases T:L.length=0
 ·rw[if_pos T];exact zJ4 i j lo m u nm d G av n cap w h oM
 rw[if_neg T];by_cases X:256<L.length
 ·rw[if_pos X];exact zJe i j lo m u nm d G av n cap w h oM
 rw[if_neg X];cases z:raP nm.length rs L 0 []with
 |inl q=>exact zHw i j lo m u nm d G av n cap L rs w D h R M oM oM F q z
 |inr N =>
  simp only;by_cases C:4096<lbE G L (G.length:Int)
  ·rw[if_pos C];exact zJx i j lo m u nm d G av n cap L rs w D h R M oM oM F N z hG hs C
  ·rw[if_neg C];obtain⟨kN,_,hA⟩:=zEe nm.length rs L 0 [] N (by simp[KB]) z;refine zJk i j lo m u nm d G av n cap L rs w D h R M oM oM F N z hG hs (λy=>?_) C hv K;rcases Jj (G:=N) (x:=y)with e|e
   ·rw[e];exact jZ _
   ·rcases zMv nm.length rs L 0 [] N (by simp[KB]) z _ e with q|⟨a,H,q⟩
    ·cases q
    ·have:=E a H;rw[show(gtE y N).t=a.t from q];omega
def ndS(s:ByteArray):Wt.Nd:=⟨2,Wt.v0,0,⟨#[]⟩,0,⟨s,0,0,vX,vX⟩,Wt.r0⟩
abbrev zCB:Array vW:=#[O J 0,O J 0,O J 0,O J 0,V ⟨#[]⟩,Y vX,O J 0,O J 0,V ⟨#[]⟩,O J 0,V ⟨#[]⟩,O J 0,O J 0,Y vX,Y vX,V ⟨#[]⟩,O J 0,O J 0,Y vX,Y vX]
def ndZ:Wt.Nd:=⟨0,Wt.v0,0,⟨#[]⟩,0,Wt.r0,Wt.r0⟩
theorem zND:Wt.FitV Wt.v0:=⟨dM,dM,dM⟩
theorem zSW(s:ByteArray)(w:wW):(Instr.build 97 #[(0,O J 2),(5,gX #[V s,O J 0,O J 0,Y vX,Y vX])]).run prog w=.ok (gX (QM (ndS s)).toArray) w:=kR
theorem evC(a:Act)(v:vW):a.eval (.const v)=v:=rfl
theorem zEf(d:op.guard=qX)(y:Operand)(g:op.op=.build 97 #[(0,.const (O J 2)),(5,y)])(s:ByteArray)(i:a.eval y=gX #[V s,O J 0,O J 0,Y vX,Y vX])
  (h:wpList prog ops Q rest (a.put op.dst (gX (QM (ndS s)).toArray)) w):wpList prog ops Q (op::rest) a w:=by
 refine wpList_plain d λK e=>?_
 unfold Oper.wp execOp;simp only[g,vZ,oZ,dY,evC,i,bY,cY,sZ,zSW];exact e _ _ h
theorem bsS(x:Wt.Nd)(w:wW):(Instr.buildSlice 99 1 #[(0,gX (QM x).toArray)]).run prog w=.ok (U (sX ⟨w.heap.size,0,qX⟩) 1 1) (w.alloc (Z (QM x).toArray 97)):=kR
theorem zHK(g:Region.wanted op (yielded ops a.tmps)=tX)(y:Operand)(e:op.op=.buildSlice 99 1 #[(0,y)])(x:Wt.Nd)(i:a.eval y=gX (QM x).toArray)
  (h:wpList prog ops Q rest (a.put op.dst (U (sX ⟨w.heap.size,0,qX⟩) 1 1)) (w.alloc (Z (QM x).toArray 97))):wpList prog ops Q (op::rest) a w:=by
 refine BigFrame.wpList_want g λK d=>?_
 unfold Oper.wp execOp;simp only[e,vZ,oZ,dY,i,bY,cY,sZ,bsS];exact d _ _ h
theorem zCP(s:ByteArray)(w:wW)(F:OpsAt w)(E:¬s=⟨#[]⟩)(T:s.size<=1000)(M:Wt.check [ndS s]=0) :
  CR 28 #[V s] w (Y tX):=by
 have x1:=zMW E;have D:AtL (w.alloc (Z zCB 97)) w.heap.size (QM ndZ):=AtL.new0 w 97 (QM ndZ);have u:=QI (cZ _ w) (Z zCB 97);have z:iZ (w.alloc (Z zCB 97)) w.heap.size 0 (QM (ndS s)).toArray.size:=D.there;have I:AtL ((w.alloc (Z zCB 97)).setCells w.heap.size 0 (QM (ndS s))) w.heap.size (QM (ndS s)):=D.setAll rfl;have d:bL w ((w.alloc (Z zCB 97)).setCells w.heap.size 0 (QM (ndS s))):=Ql u (bZ _) _ 0;have m:=F.below d;clear F u D E;go_enter func28,ntmps28;go_upto_region 1 with fail
 go_upto_region 2 with(first|(refine zEf rfl (mX 5) rfl s rfl ?_)|((with_reducible refine stQ 97 (mX 3) (mX 6) w.heap.size 0 (QM (ndS s)).toArray ?_ ?_ ?_);exact z;exact Jp _))
 simp only[Act.put];generalize(w.alloc (Z zCB 97)).setCells w.heap.size 0 (QM (ndS s))=q at*;have L:=I.range;have g:=QI (cZ _ q) (Z (QM (ndS s)).toArray 97);have K:=(AtL.new0 q 97 (QM (ndS s))).range;have A:=zBe (sX ⟨q.heap.size,0,qX⟩) 1 [ndS s] (q.alloc (Z (QM (ndS s)).toArray 97)) sM (λx H=>by simp at H;subst H;exact⟨zND,by show(0:Nat)<=_;omega,by show s.size<=_;omega,by show(0:Nat)<=_;omega⟩) (m.below g) (λi R=>by
  have:i=0:=by simpa using R
  subst this;exact⟨q.heap.size,0,rfl,by simpa using K⟩)
 rw[M]at A;have j:=hid (QA d g);clear d g K m I z;go_wp2_with (first|((with_reducible refine zAW (cs:=QM (ndS s)) ?_ 97 (mX 3) ?_ w.heap.size 0 ?_ _ ?_ underlying97 ?_ ?_ ?_);rfl;rfl;rfl;exact L;rfl;kernel_rfl)|(refine zHK (by rfl) (mX 10) rfl (ndS s) rfl ?_))
 refine A.mono ?_;rintro e X ⟨rfl,y⟩;have C:=hid (QA j.out y);clear A y j L;go_wp2;go_ret;exact⟨rfl,C.out⟩
theorem zPm{s:ByteArray}(h:¬s=t):(s.toList == t.toList)=vX:=by
 rw[beq_eq_false_iff_ne];intro e;rw[ByteArray.toList_eq,ByteArray.toList_eq]at e;exact h (xY (kX e))
def ixS(s:ByteArray):List ByteArray->Nat->Int
 |[],_=>-1
 |a::r,i=>if s=a then(i:Int)else ixS s r (i+1)
theorem zIF(L:List ByteArray)(s:ByteArray)(av:Option dW)(n cap:Nat)(w:wW)(H:RdS w av L)(F:L.length=n)(I:True->n<=1000000) :
  cW prog 33 #[U av n cap,V s] w λe w'=>e=rX (O J (ixS s L 0))/\w=w':=by
 obtain⟨R,A⟩:=xV (ixS s L 0)
 rw[A];have y:=hid A;have g:=hid (And.intro H F);clear H F A;go_enter func33,ntmps33;go_upto_region 2 with fail
 go_loopg [8] n (λgk x wr=>∃i:Nat,x=O J (i:Int)/\gk=n-i/\hH (i<=n)/\hH (ixS s (L.drop i) i=R)/\wr=w)
 case atStart=>exact⟨0,rfl,rfl,jZ _,y,rfl⟩
 case round =>
  obtain⟨i,rfl,hg,HI,d,rfl⟩:=hrel;by_cases j:i<n
  ·have D:(i:Int)<(n:Int):=oM;have K:(0:Int)<=(i:Int):=oM;have M:J.wrap ((i:Int)+1)=(i:Int)+1:=by have:=I trivial;rw[jY];omega
   have E:i<L.length:=by rw[g.out.2];exact j
   obtain⟨bb,X,e,T⟩:=g.out.1 i E;subst e;obtain⟨a,C⟩:=xV (L[i])
   rw[C]at T;have m:hH (ixS s (L.drop i) i=if s=a then(i:Int)else ixS s (L.drop (i+1)) (i+1)):=by
    show _=_
    rw[gY E,C];rfl
   clear C;by_cases q:s=a
   ·subst q;have u:hH (R=(i:Int)):=by show _=_;rw[<-d.out,m.out,if_pos rfl]
    clear m d g;go_wp2;go_ret;exact⟨by rw[u.out];rfl,rfl⟩
   ·have x1:=zPm q;have z:hH (ixS s (L.drop (i+1)) (i+1)=R):=by show _=_;rw[<-d.out,m.out,if_neg q]
    clear m d q;go_wp2_with fail
    go_roundg (n-(i+1))
    case rel=>exact⟨i+1,sM,rfl,j,z,rfl⟩
    case measure=>omega
  ·have D:¬(i:Int)<(n:Int):=oM;have u:hH (R=-1):=by
    show _=_
    rw[<-d.out,iY (by rw[g.out.2];omega)];rfl
   clear d g;go_wp2;go_ret;exact⟨by rw[u.out];rfl,rfl⟩
theorem zCW(L:List ByteArray)(s:ByteArray)(av:Option dW)(n cap:Nat)(w:wW)(m:RdS w av L)(j:L.length=n)(g:True->n<=1000000) :
  cW prog 29 #[U av n cap,V s] w λe w'=>e=rX (Y (decide (ixS s L 0≥0)))/\w=w':=by
 have d:=zIF L s av n cap w m j g;obtain⟨k,i⟩:=xV (ixS s L 0)
 rw[i]at d ⊢;clear m j g i;go_enter func29,ntmps29;go_wp2_with fail
 refine d.mono ?_;rintro e q ⟨rfl,rfl⟩;go_wp2;go_ret;exact⟨rfl,rfl⟩
theorem zO8(i x:Nat)(d:Option dW)(q:Nat)(nm:List ByteArray)(g:Int)(s:ByteArray)(w:wW)(h:AtL w i [U d nm.length q,O J g,.map (sX x)])(m:RdS w d nm)(j:True->nm.length<=1000000) :
  cW prog 16 #[pX (sX ⟨i,0,qX⟩),V s] w λe w'=>e=rX (O J (ixS s nm 0))/\w=w':=by
 have u:=zIF nm s d nm.length q w m rfl j;obtain⟨y,_,_,_⟩:=h.three;clear h m j;go_enter func16,ntmps16;go_wp2_with fail
 refine u.mono ?_;rintro e z ⟨rfl,rfl⟩;go_wp2;go_ret;exact⟨rfl,rfl⟩
theorem zS2:prog.underlying 84=sX (.slice 3):=kR
theorem zGb{ops:Array Oper}{rest:List Oper}{a:Act}{Q:Exit->Act->wW->Prop}(q:o.guard=qX)(sl x:Operand)(T:o.op=.call {callee:=.builtin .append,args:=#[sl,x],argTypes:=#[84,84]})
  (w:wW) (B:Nat) (L:B<=w.heap.size) (v:vW) (n:Nat) (E:List vW) (hs:a.eval sl=v) (d:w.ownsRow B 3 1 v n E) (k m c:Nat) (e:List vW) (R:e.length=m*1) (hx:a.eval x=U (sX ⟨k,0,qX⟩) m c) (i:∀j u,e[j]?=sX u->w.cell? ⟨k,j,qX⟩=sX u) (F:∀u∈e,u.oneCell'=tX) (hn:n+m<=2000000000)
  (h:∀g w',w'.ownsRow B 3 1 g (n+m) (E++e)->w.grownBy w' v.ownBlock->wpList prog ops Q rest (a.put o.dst g) w'):wpList prog ops Q (o::rest) a w:=by
 refine wpList_plain q λK M=>?_
 obtain⟨i0,y,A,C,D⟩:=info_parts zIQ;obtain⟨g,w',X,H,I,_,h5⟩:=run_append_own_at (P:=prog) w B 84 o.type 3 i0 _ 1 8 zS2 y A C D rfl dM v n E d ⟨k,0,qX⟩ m c e R (λj z hj=>by
   have:=i j z hj;rw[show(⟨k,0,qX⟩:dW).add j=⟨k,j,qX⟩from by
    simp[Addr.add];try(intro h0;omega)]
   exact this) F (by unfold maxLen;omega) oM L
 unfold Oper.wp execOp;simp only[T,resolve,invoke,builtin,bY,cY,sZ,vZ,oZ,dY,hs,hx,X];exact M _ _ (h g w' H I)
theorem zOg(g n c:Nat)(w:wW):(binOp .eql 84 (U (sX ⟨g,0,qX⟩) n c) (U qX 0 0)).run prog w=.ok (Y vX) w:=kR
theorem zO6(w:wW):(binOp .eql 84 (U qX 0 0) (U qX 0 0)).run prog w=.ok (Y tX) w:=kR
def zOR(n:Nat)(d:List vW)(w:wW)(en:Ending)(w':wW):Prop:=(∃v,en=rX v/\w'.ownsRow w.heap.size 3 1 v n d)/\bL w w'
theorem zPe(F:vW)(n:Nat)(q:List vW)(B:Nat)(w:wW)(h:w.ownsRow B 3 1 F n q)(i:∀u∈q,u.oneCell'=tX)(hN:True->n<=1000000000) :
  cW prog 40 #[F] w (zOR n q w):=by
 have d:=h.1;rcases h.2 with⟨e,R⟩|⟨g,cap,M,e,A,hg,T,X,h3,h4⟩
 ·subst e R;have en:=λw=>zO6 w
  have y:hH (zOR 0 q w (rX (U qX 0 0)) w):=⟨⟨_,rfl,d,uZ ⟨rfl,rfl⟩⟩,cZ _ _⟩
  clear h d i;go_enter func40,ntmps40;go_wp2;go_ret;exact y.out
 ·subst e;have I:hH (∀j u,q[j]?=sX u->w.cell? ⟨g,j,qX⟩=sX u):=λj u D=>by
   have hc:=h.cells (g:=g) rfl j u D;rwa [show(⟨g,0,qX⟩:dW).add j=⟨g,j,qX⟩from by simp[Addr.add];intro h;exact h.symm]at hc
  have L:=hid i;have K:=hid d;have z:=QI (cZ _ w) (Z #[] 3);have oE:(w.alloc (Z #[] 3)).ownsRow w.heap.size 3 1 (U (sX ⟨w.heap.size,0,qX⟩) 0 0) 0 []:=⟨rfl,tZ ⟨w.heap.size,0,#[],rfl,bZ _,(Go.MapKept.heap_alloc w _).1,bZ _,by unfold maxLen;omega,rfl,rfl⟩⟩
  have m:=hid z;have C:w.heap.size<=(w.alloc (Z #[] 3)).heap.size:=z.size;clear h T X h3 h4 hg A z i d;have en:=λw=>zOg g n cap w
  go_enter func40,ntmps40;go_wp2_with (at_builtin;refine zGb rfl (mX 5) (mX 6) rfl (w.alloc (Z #[] 3)) w.heap.size C (U (sX ⟨w.heap.size,0,qX⟩) 0 0) 0 [] rfl oE g n cap q K.out rfl (λj u D=>QB m.out (I.out j u D)) L.out (by have:=hN trivial;omega) ?_;intro H w2 E x)
  have y:hH (zOR n q w (rX H) w2):=by
   refine⟨⟨H,rfl,by simpa using E⟩,m.out.grown x m.out.size (λk e=>?_)⟩;have:sX w.heap.size=sX k:=e;simp at this;omega
  clear E x;go_wp2_with fail
  go_ret;exact y.out
theorem zS1:prog.underlying 54=sX (.slice 86):=kR
theorem zG3{ops:Array Oper}{rest:List Oper}{a:Act}{Q:Exit->Act->wW->Prop}(q:o.guard=qX)(sl x:Operand)(T:o.op=.call {callee:=.builtin .append,args:=#[sl,x],argTypes:=#[54,54]})
  (w:wW) (B:Nat) (L:B<=w.heap.size) (v:vW) (n:Nat) (E:List vW) (hs:a.eval sl=v) (d:w.ownsRow B 86 23 v n E) (k m c:Nat) (e:List vW) (R:e.length=m*23) (hx:a.eval x=U (sX ⟨k,0,qX⟩) m c) (i:∀j u,e[j]?=sX u->w.cell? ⟨k,j,qX⟩=sX u) (F:∀u∈e,u.oneCell'=tX) (hn:n+m<=2000000000)
  (h:∀g w',w'.ownsRow B 86 23 g (n+m) (E++e)->w.grownBy w' v.ownBlock->wpList prog ops Q rest (a.put o.dst g) w'):wpList prog ops Q (o::rest) a w:=by
 refine wpList_plain q λK M=>?_
 obtain⟨i0,y,A,C,D⟩:=info_parts zII;obtain⟨g,w',X,H,I,_,h5⟩:=run_append_own_at (P:=prog) w B 54 o.type 86 i0 _ 23 208 zS1 y A C D rfl dM v n E d ⟨k,0,qX⟩ m c e R (λj z hj=>by
   have:=i j z hj;rw[show(⟨k,0,qX⟩:dW).add j=⟨k,j,qX⟩from by
    simp[Addr.add];try(intro h0;omega)]
   exact this) F (by unfold maxLen;omega) oM L
 unfold Oper.wp execOp;simp only[T,resolve,invoke,builtin,bY,cY,sZ,vZ,oZ,dY,hs,hx,X];exact M _ _ (h g w' H I)
theorem zOT(g n c:Nat)(w:wW):(binOp .eql 54 (U (sX ⟨g,0,qX⟩) n c) (U qX 0 0)).run prog w=.ok (Y vX) w:=kR
theorem zNw(w:wW):(binOp .eql 54 (U qX 0 0) (U qX 0 0)).run prog w=.ok (Y tX) w:=kR
def zOw(n:Nat)(d:List vW)(w:wW)(en:Ending)(w':wW):Prop:=(∃v,en=rX v/\w'.ownsRow w.heap.size 86 23 v n d)/\bL w w'
theorem zP8(F:vW)(n:Nat)(q:List vW)(B:Nat)(w:wW)(h:w.ownsRow B 86 23 F n q)(i:∀u∈q,u.oneCell'=tX)(hN:True->n<=1000000000) :
  cW prog 39 #[F] w (zOw n q w):=by
 have d:=h.1;rcases h.2 with⟨e,R⟩|⟨g,cap,M,e,A,hg,T,X,h3,h4⟩
 ·subst e R;have en:=λw=>zNw w
  have y:hH (zOw 0 q w (rX (U qX 0 0)) w):=⟨⟨_,rfl,d,uZ ⟨rfl,rfl⟩⟩,cZ _ _⟩
  clear h d i;go_enter func39,ntmps39;go_wp2;go_ret;exact y.out
 ·subst e;have I:hH (∀j u,q[j]?=sX u->w.cell? ⟨g,j,qX⟩=sX u):=λj u D=>by
   have hc:=h.cells (g:=g) rfl j u D;rwa [show(⟨g,0,qX⟩:dW).add j=⟨g,j,qX⟩from by simp[Addr.add];intro h;exact h.symm]at hc
  have L:=hid i;have K:=hid d;have z:=QI (cZ _ w) (Z #[] 86);have oE:(w.alloc (Z #[] 86)).ownsRow w.heap.size 86 23 (U (sX ⟨w.heap.size,0,qX⟩) 0 0) 0 []:=⟨rfl,tZ ⟨w.heap.size,0,#[],rfl,bZ _,(Go.MapKept.heap_alloc w _).1,bZ _,by unfold maxLen;omega,rfl,rfl⟩⟩
  have m:=hid z;have C:w.heap.size<=(w.alloc (Z #[] 86)).heap.size:=z.size;clear h T X h3 h4 hg A z i d;have en:=λw=>zOT g n cap w
  go_enter func39,ntmps39;go_wp2_with (at_builtin;refine zG3 rfl (mX 5) (mX 6) rfl (w.alloc (Z #[] 86)) w.heap.size C (U (sX ⟨w.heap.size,0,qX⟩) 0 0) 0 [] rfl oE g n cap q K.out rfl (λj u D=>QB m.out (I.out j u D)) L.out (by have:=hN trivial;omega) ?_;intro H w2 E x)
  have y:hH (zOw n q w (rX H) w2):=by
   refine⟨⟨H,rfl,by simpa using E⟩,m.out.grown x m.out.size (λk e=>?_)⟩;have:sX w.heap.size=sX k:=e;simp at this;omega
  clear E x;go_wp2_with fail
  go_ret;exact y.out
theorem zMI:(prog.info? 9).map (λi=>(i.zero,i.size,i.bytes))=sX (sX (V ⟨#[]⟩),1,16):=kR
theorem zS6:prog.underlying 48=sX (.slice 9):=kR
theorem zGX{ops:Array Oper}{rest:List Oper}{a:Act}{Q:Exit->Act->wW->Prop}(y:o.guard=qX)(sl x:Operand)(X:o.op=.call {callee:=.builtin .append,args:=#[sl,x],argTypes:=#[48,48]})
  (w:wW) (B:Nat) (M:B<=w.heap.size) (v:vW) (n:Nat) (F:List vW) (hs:a.eval sl=v) (e:w.ownsRow B 9 1 v n F) (k d m c:Nat) (g:List vW) (T:g.length=m*1) (hx:a.eval x=U (sX ⟨k,d,qX⟩) m c) (q:∀j u,g[j]?=sX u->w.cell? ⟨k,d+j,qX⟩=sX u) (H:∀u∈g,u.oneCell'=tX) (hn:n+m<=2000000000)
  (h:∀i w',w'.ownsRow B 9 1 i (n+m) (F++g)->w.grownBy w' v.ownBlock->wpList prog ops Q rest (a.put o.dst i) w'):wpList prog ops Q (o::rest) a w:=by
 refine wpList_plain y λK R=>?_
 obtain⟨i0,A,C,D,E⟩:=info_parts zMI;obtain⟨i,w',hr,I,L,_,h5⟩:=run_append_own_at (P:=prog) w B 48 o.type 9 i0 _ 1 16 zS6 A C D E rfl dM v n F e ⟨k,d,qX⟩ m c g T (λj z hj=>by
   have:=q j z hj;rw[show(⟨k,d,qX⟩:dW).add j=⟨k,d+j,qX⟩from by
    simp[Addr.add];try(intro h0;omega)]
   exact this) H (by unfold maxLen;omega) oM M
 unfold Oper.wp execOp;simp only[X,resolve,invoke,builtin,bY,cY,sZ,vZ,oZ,dY,hs,hx,hr];exact R _ _ (h i w' I L)
theorem zNm(g o n c:Nat)(w:wW):(binOp .eql 48 (U (sX ⟨g,o,qX⟩) n c) (U qX 0 0)).run prog w=.ok (Y vX) w:=kR
theorem zNe(w:wW):(binOp .eql 48 (U qX 0 0) (U qX 0 0)).run prog w=.ok (Y tX) w:=kR
def zKi(n:Nat)(d:List vW)(w:wW)(en:Ending)(w':wW):Prop:=(∃v,en=rX v/\w'.ownsRow w.heap.size 9 1 v n d)/\bL w w'
theorem zI1(g d n cap:Nat)(x:List vW)(w:wW)(i:x.length=n*1)(y:∀j u,x[j]?=sX u->w.cell? ⟨g,d+j,qX⟩=sX u)(m:∀u∈x,u.oneCell'=tX)(L:True->n<=1000000000) :
  cW prog 30 #[U (sX ⟨g,d,qX⟩) n cap] w (zKi n x w):=by
 have F:=hid y;have K:=hid m;have I:=hid i;have A:=QI (cZ _ w) (Z #[] 9);have R:(w.alloc (Z #[] 9)).ownsRow w.heap.size 9 1 (U (sX ⟨w.heap.size,0,qX⟩) 0 0) 0 []:=⟨rfl,tZ ⟨w.heap.size,0,#[],rfl,bZ _,(Go.MapKept.heap_alloc w _).1,bZ _,by unfold maxLen;omega,rfl,rfl⟩⟩
 have q:=hid A;have C:w.heap.size<=(w.alloc (Z #[] 9)).heap.size:=A.size;clear y A m i;have en:=λw=>zNm g d n cap w
 go_enter func30,ntmps30;go_wp2_with (at_builtin;refine zGX rfl (mX 5) (mX 6) rfl (w.alloc (Z #[] 9)) w.heap.size C (U (sX ⟨w.heap.size,0,qX⟩) 0 0) 0 [] rfl R g d n cap x I.out rfl (λj u M=>QB q.out (F.out j u M)) K.out (by have:=L trivial;omega) ?_;intro E T D z)
 have H:hH (zKi n x w (rX E) T):=by
  refine⟨⟨E,rfl,by simpa using D⟩,q.out.grown z q.out.size (λk e=>?_)⟩;have:sX w.heap.size=sX k:=e;simp at this;omega
 clear D z;go_wp2_with fail
 go_ret;exact H.out
theorem zQP(q:vW)(n:Nat)(m:List vW)(B:Nat)(w:wW)(h:w.ownsRow B 9 1 q n m)(i:∀u∈m,u.oneCell'=tX)(A:True->n<=1000000000) :
  cW prog 30 #[q] w (zKi n m w):=by
 have d:=h.1;rcases h.2 with⟨e,z⟩|⟨g,cap,y,e,C,L,F,H,I,K⟩
 ·subst e z;have en:=λw=>zNe w
  have x:hH (zKi 0 m w (rX (U qX 0 0)) w):=⟨⟨_,rfl,d,uZ ⟨rfl,rfl⟩⟩,cZ _ _⟩
  clear h d i;go_enter func30,ntmps30;go_wp2;go_ret;exact x.out
 ·subst e;exact zI1 g 0 n cap m w d (λj u E=>by
   have D:=h.cells (g:=g) rfl j u E;rwa [show(⟨g,0,qX⟩:dW).add j=⟨g,0+j,qX⟩from by
    simp[Addr.add];try(intro h;exact h.symm)]at D) i A
abbrev sS:ByteArray:=⟨#[83]⟩
abbrev sT:ByteArray:=⟨#[84]⟩
theorem zRh:Wt.check [ndS sS]=0:=by decide +kernel
theorem zSM:Wt.check [ndS sT]=0:=by decide +kernel
theorem zRT:¬sS=⟨#[]⟩:=by
 intro h;have:=congrArg (λb=>b.data) h;simp at this
theorem zRt:¬sT=⟨#[]⟩:=by
 intro h;have:=congrArg (λb=>b.data) h;simp at this
theorem sTS:¬sT=sS:=by
 intro h;have:=congrArg (λb=>b.data) h;simp at this
theorem zM9{L:List ByteArray}(h:w.ownsRow B 9 1 v L.length (L.map V)):∃av cap,v=U av L.length cap/\L.length<=cap/\RdS w av L/\∀g o,av=sX ⟨g,o,qX⟩->B<=g/\g<w.heap.size:=by
 have u:=λg=>QL (g:=g) h
 rcases h.2 with⟨e,m⟩|⟨g,cap,j,e,x,D,q,z,A,C⟩
 ·subst e;refine⟨qX,0,by rw[m],oM,λi d=>by omega,λg o e=>by cases e⟩
 ·subst e;refine⟨_,cap,rfl,q,λi d=>⟨g,0,rfl,?_⟩,λg' o e=>?_⟩
  ·have y:=h.cells (g:=g) rfl i (V (L[i])) (by rw[List.getElem?_map,hZ d];rfl);rwa [show(⟨g,0,qX⟩:dW).add i=⟨g,0+i,qX⟩from by simp[Addr.add];try(intro h;omega)]at y
  ·simp only[Option.some.injEq,Addr.mk.injEq]at e;rw[<-e.1];exact u g rfl
def zSH(w:wW)(e:Ending)(w':wW):Prop :=
 ∃d i j m,e=rX (uX #[pX (sX ⟨d,0,qX⟩),O J 0])/\BK w' d i w'.heap.size j m [sS,sT] 0 []/\bL w w'/\w.heap.size<=d/\w.heap.size<=i/\∀g o,j=sX ⟨g,o,qX⟩->w.heap.size<=g/\g<w'.heap.size
theorem zNB(k:Nat)(w:wW)(hO:OpsAt w)(h:w.ownsRow 0 9 1 (U (sX ⟨k,0,qX⟩) 2 2) 2 [V sS,V sT]) :
  cW prog 12 #[U (sX ⟨k,0,qX⟩) 2 2] w (zSH w):=by
 have HO:=hid hO;have HK:=hid h;clear hO h;go_enter func12,ntmps12;go_upto_region 6 with fail
 go_loopg [14] 2 (λgk x wr=>∃i:Int,x=O J i/\(i=0/\gk=2\/i=1/\gk=1\/i=2/\gk=0)/\hH (bL w wr))
 case atStart=>exact⟨0,rfl,uZ ⟨rfl,rfl⟩,cZ _ _⟩
 case round =>
  obtain⟨i,rfl,H,z⟩:=hrel;generalize T:wr=W at*;clear T;have m:W.ownsRow 0 9 1 (U (sX ⟨k,0,qX⟩) 2 2) 2 [V sS,V sT]:=QZ (Fr.of_below [] z.out) HK.out sM;have R:W.cell? ⟨k,0,qX⟩=sX (V sS):=by
   have:=m.cells (g:=k) rfl 0 _ rfl;rwa [show(⟨k,0,qX⟩:dW).add 0=⟨k,0,qX⟩from rfl]at this
  have X:W.cell? ⟨k,1,qX⟩=sX (V sT):=by
   have:=m.cells (g:=k) rfl 1 _ rfl;rwa [show(⟨k,0,qX⟩:dW).add 1=⟨k,1,qX⟩from by simp[Addr.add]]at this
  rcases H with⟨rfl,rfl⟩|⟨rfl,rfl⟩|⟨rfl,rfl⟩
  ·have E:=zCP sS W (HO.out.below z.out) zRT dM zRh;go_wp2_with fail
   refine E.mono ?_;rintro e j ⟨rfl,d⟩;have A:=hid (QA z.out d);have y:=zCW [] sS (sX ⟨k,0,qX⟩) 0 2 j (λi H=>by simp at H) rfl (λ_=>by omega);rw[show decide (ixS sS [] 0≥0)=vX from by decide]at y;clear E d R X;go_wp2_with fail
   refine y.mono ?_;rintro e w2 ⟨rfl,rfl⟩;clear y;go_wp2_with fail
   go_roundg 1
   case rel=>exact⟨1,sM,tZ (uZ ⟨rfl,rfl⟩),A⟩
   case measure=>omega
  ·have E:=zCP sT W (HO.out.below z.out) zRt dM zSM;go_wp2_with fail
   refine E.mono ?_;rintro e j ⟨rfl,d⟩;have A:=hid (QA z.out d);have y:=zCW [sS] sT (sX ⟨k,0,qX⟩) 1 2 j (λi H=>by
    have:i=0:=by simpa using H
    subst this;exact⟨k,0,rfl,QB d R⟩) rfl (λ_=>by omega)
   rw[show decide (ixS sT [sS] 0≥0)=vX from by unfold ixS;rw[if_neg sTS];decide]at y;clear E d R X;go_wp2_with fail
   refine y.mono ?_;rintro e w2 ⟨rfl,rfl⟩;clear y;go_wp2_with fail
   go_roundg 0
   case rel=>exact⟨2,sM,tZ (tZ ⟨rfl,rfl⟩),A⟩
   case measure=>omega
  ·have CL:=zQP (U (sX ⟨k,0,qX⟩) 2 2) 2 [V sS,V sT] 0 W m (λu hu=>by simp at hu;rcases hu with rfl|rfl <;> rfl) (λ_=>by omega);clear R X m;go_wp2_with fail
   refine CL.mono ?_;rintro e j ⟨⟨v,rfl,ov⟩,d⟩;obtain⟨K,M,rfl,q,I,D⟩:=zM9 (L:=[sS,sT]) ov;have mm:=zNF j;have F:=QI (cZ _ j) (.map #[] 0);have C:=QI F (Z #[U K 2 M,O J 0,.map (sX j.heap.size)] 58);have q3:=AtL.new1 j (.map #[] 0) 58 [U K 2 M,O J 0,.map (sX j.heap.size)];have m3:=(zNK j).below (QI (cZ _ _) (Z #[U K 2 M,O J 0,.map (sX j.heap.size)] 58));have HE:hH (zSH w (rX (uX #[pX (sX ⟨j.heap.size+1,0,qX⟩),O J 0])) ((j.alloc (.map #[] 0)).alloc (Z #[U K 2 M,O J 0,.map (sX j.heap.size)] 58))):=by
    have hs:=z.out.size;have aa:=d.size;refine⟨_,j.heap.size,K,M,rfl,⟨q3,RdS.below I C,q,λg o e=>?_,⟨[],m3,trivial⟩,⟨sM,by simp;omega,bZ _⟩,oM⟩,QA (QA z.out d) C,oM,oM,λg o e=>?_⟩
    ·have:=(D g o e).2;omega
    ·have:=D g o e;simp only[qZ];omega
   clear CL d F C q3 m3 I D ov q;go_wp2;go_ret2
   exact HE.out
def zRw:List Wlx.Tok:=[⟨3,[83],0⟩,⟨5,[33],1⟩,⟨3,[65,49],2⟩]
theorem zQc:Qb [83,33,65,49]=Wlx.Res.ok zRw:=by
 unfold Qb;rw[if_neg dM];rw[Wlx.scan_tok (k:=3) (n:=1) dM dM dM dM dM];show Wlx.Res.cons _ (Wlx.scan 1 [33,65,49])=_
 rw[Wlx.scan_tok (k:=5) (n:=1) dM dM dM dM dM];show Wlx.Res.cons _ (Wlx.Res.cons _ (Wlx.scan 2 [65,49]))=_
 rw[Wlx.scan_tok (k:=3) (n:=2) dM dM dM dM dM];show Wlx.Res.cons _ (Wlx.Res.cons _ (Wlx.Res.cons _ (Wlx.scan 4 [])))=_
 rw[Wlx.scan_nil];rfl
theorem zSi:Lib.decDigits 1=[49]:=by rw[Lib.decDigits_one dM];rfl
theorem zSQ:XD [65,49]=Wt.r0:=by
 unfold XD Wt.r0;have d:Wpl.rdR (Jx [65,49])=0:=dM;have e:Wpl.rdC (Jx [65,49])=0:=dM;rw[d,e];rfl
theorem zSZ:cw Wt.r0=[65,49]:=by
 unfold cw;show fx vX++Wpl.colS 0++fx vX++Lib.decDigits 1=_
 rw[zSi];decide
theorem zS9:rw1 [65,49]=sX Wt.r0:=by
 unfold rw1;rw[if_pos dM,zSQ,zSZ,if_pos rfl]
def b1:Wlx.TV:=⟨3,[83],0⟩
def b2:Wlx.TV:=⟨5,[33],1⟩
def b3:Wlx.TV:=⟨3,[65,49],2⟩
theorem zRi{sub:List Wlx.TV->PR}{k:Int}{row:List Wt.Nd}(h:Jc k ts=qX):more sub k n row ts=.inl (row,ts):=by cases n with
 |zero=>rfl
 |succ n=>simp only[more,h]
theorem zSN{row:List Wt.Nd}(h:Jc 6 ts=qX):pct n row ts=.inl (row,ts):=by cases n with
 |zero=>rfl
 |succ n=>simp only[pct,h]
theorem upB{row:List Wt.Nd}(d:k<5)(h:lv en f (k+1) ts=.inl (row,r))(e:Jc k r=qX):lv en (f+1) k ts=.inl (row,r):=by
 rw[zLc _ _ _ d];unfold pbt;rw[h];exact zRi e
theorem zSV{row:List Wt.Nd}(h:lv en f 7 ts=.inl (row,r))(d:Jc 6 r=qX):lv en (f+1) 6 ts=.inl (row,r):=by
 rw[zLb];unfold ppc;rw[h];exact zSN d
theorem zS8{q:PR}(d:Jc 5 ts=qX)(h:lv en f 6 ts=q):lv en (f+1) 5 ts=q:=by
 rw[zMN];unfold psg;rw[d];exact h
theorem lvB(f:Nat):lv 4 (f+8) 0 [b1,b2,b3]=.inl ([ndS sS],[]):=by
 refine upB dM (upB dM (upB dM (upB dM (upB dM (zS8 dM (zSV ?_ dM)) dM) dM) dM) dM) dM;rw[zOn];unfold psi;rw[if_pos dM];unfold Jq;rw[if_neg dM,if_pos dM,if_pos (by decide +kernel)];unfold pcs pc;rw[if_pos dM,if_neg dM,if_neg dM];rw[show(hd (List.drop 2 [b1,b2,b3]) 4).t=[65,49]from rfl,zS9];rfl
theorem zR4:V2 [83,33,65,49]=.inl [ndS sS]:=by
 unfold V2;rw[zQc];show Vj 4 [b1,b2,b3]=_
 unfold Vj;show(match Vd (lv 4 39 0) 4 [b1,b2,b3]with | .inr e=>_ | .inl (row,_)=>_)=_
 unfold Vd;rw[lvB 31];simp only;rw[if_pos zRh]
def bTr:Tr 1:=(⟨ndS sS,[]⟩:Br (Tr 0))
theorem zPB:row 1 bTr=[ndS sS]:=rfl
theorem zM8:VD 1 bTr:=⟨by kernel_rfl,by kernel_rfl,λk d=>by cases d⟩
theorem zRf:flE 1 0 0 [sS,sT] 1 bTr=0:=kR
theorem zRs:flC 1 [sS,sT] 1 bTr=[ins 2 0 0,ins 16 0 0]:=kR
theorem zPh:zQp [sS,sT] ⟨1,0,0⟩ [ndS sS] 0 [ins 2 0 0,ins 16 0 0]:=λw B v z A j m y u q=>by
 obtain⟨g,cap,rfl,e,d⟩:=zHp y sM;have:=zF5 1 bTr g 0 cap [ndS sS] 1 0 0 z [sS,sT] 2 A w (λx i=>by simp at i;subst i;exact⟨zND,by show(0:Nat)<=_;omega,by show(1:Nat)<=_;omega,by show(0:Nat)<=_;omega⟩) m j e u zRh zPB zM8 sM d 1 rfl rfl q sM oM;rw[zRf,zRs]at this;exact this
abbrev tF:ByteArray:=⟨#[61,83,33,65,49]⟩
abbrev t2B:ByteArray:=⟨#[50]⟩
theorem zQL:VY [sS,sT] ⟨1,0,0⟩ tF (.inl [ins 2 0 0,ins 16 0 0]):=zED [sS,sT] ⟨1,0,0⟩ [83,33,65,49] tF rfl dM dM [ndS sS] zR4 0 _ zPh rfl
theorem zNj:VY [sS,sT] ⟨0,0,0⟩ t2B (.inl []):=zFx [sS,sT] ⟨0,0,0⟩ t2B dM dM dM
theorem zF8(s r c:Int):Wpl.hullOk (λ_=>⟨s,r,c⟩) 1=Wpl.rightC s r c:=by
 simp[Wpl.hullOk,Wpl.anyN,Wpl.lacks]
def Vm(s r c:Int):Wpl.Ar:=if Wpl.rightC s r c then⟨s,r,c,r,c⟩else Wpl.nullA
theorem zPJ(s r c:Int):Wpl.hullV (λ_=>⟨s,r,c⟩) 1=Vm s r c:=by
 unfold Wpl.hullV Vm;rw[zF8];rfl
theorem zIj{W:wW}{s r:Int}(h:AtL W k [O J s,O J r,O J c]):Cells W k 0 1 (λ_=>⟨s,r,c⟩):=λj hj=>by
 obtain rfl:j=0:=oM;exact⟨h.2.1 0 _ rfl,h.2.1 1 _ rfl,h.2.1 2 _ rfl⟩
theorem zGm(s r c:Int)(w:wW) :
  CR 74 #[gX #[O J s,O J r,O J c]] w (uX #[gX #[O J (Vm s r c).s,O J (Vm s r c).t,O J (Vm s r c).l,O J (Vm s r c).b,O J (Vm s r c).r],Y (Wpl.rightC s r c)]):=by
 have i:=λ(k:Nat)(w:wW)(j:AtL w k [O J s,O J r,O J c])=>zGF k 0 1 1 (λ_=>⟨s,r,c⟩) w oM oM oM oM j.lt (zIj j)
 simp only[zF8,zPJ]at i;generalize Vm s r c=g at*;generalize Wpl.rightC s r c=ok at*;obtain⟨v0,C,D,E,F⟩:=g;go_enter func74,ntmps74;go_wp2_with fail
 refine(i _ _ (by with_reducible first|exact AtL.new0 _ _ _|exact AtL.new1 _ _ _ _|exact AtL.new ((w.alloc _).alloc _) _ (by simp only[qZ]) _)).mono ?_;rintro e m ⟨rfl,d⟩;have u:AtL m (w.heap.size+1) [O J 0,O J 0,O J 0,O J 0,O J 0]:=AtL.below d ((AtL.new1 w _ _ _).alloc _);have q:bL w m:=clA
 clear d;obtain⟨r0,x,y,z,A,H,I,K,f3,L⟩:=u.five;go_wp2;refine bodyPost_ret (v:=uX #[gX #[O J v0,O J C,O J D,O J E,O J F],Y ok]) (by simp[results,results74,go_sem,r0,x,y,z,A]) rfl ⟨rfl,?_⟩;exact zA7 q oM _ _ _ _ _
