/- Lemmas. -/
import Derived.Test.YthcblmpncpcfkaaGreatDoorQ01
import Derived.Laws.OwnMore
import Derived.Maps.AppendAt
set_option maxHeartbeats 4000000
set_option maxRecDepth 100000
set_option linter.unusedVariables false
open Option renaming none->jW,some->kW
open Bool renaming true->lW,false->mW
open Decidable renaming decide->nW
open Go.RowKit.Below renaming refl->bZ
open List renaming getElem?_eq_getElem->cZ,getD_eq_getElem?_getD->fZ,take_succ_eq_append_getElem->iZ,mem_cons_self->kZ,getElem_mem->oZ,length_append->qZ,getElem?_eq_none->rZ,getElem?_append_left->sZ,drop_eq_getElem_cons->tZ,mem_cons_of_mem->uZ,eq_nil_of_length_eq_zero->yZ,drop_length->gY,map_cons->hY,filter_append->lY,map_toArray->rY,length_map->sY,drop_zero->uY,getElem?_append_right->wY,getElem_map->zY,map_nil->bX,take_of_length_le->dX,getElem_cons_succ->eX,getElem_cons_zero->fX,append_nil->iX,length_filter_le->jX,getLastD_concat->lX,mem_cons->nX,mem_singleton->oX,getElem?_map->tX,not_mem_nil->wX,length_cons->xX,take_length->zX,mem_append->bW,filter_map->eW
open Go.IntKind renaming wrap_i64->dZ
open Nat renaming le_refl->eZ,zero_le->jZ,lt_or_ge->vZ,lt_of_lt_of_le->wZ,not_lt_zero->zZ,le_trans->dY,zero_mul->mY,zero_add->tY,add_zero->cX,add_sub_cancel->qX,le_of_lt->hW
open Go.World renaming cell?_setCell_far->gZ,there->nZ,cell?->jY,setCells->nY,frozen?_setCell->pY,setCell->qY,size_alloc->yX
open Bool renaming and_eq_true->hZ,eq_iff_iff->iY,false_eq_true->kY,false_and->oY,and_false->kX,or_self->sX,false_or->fW,and_self->gW,true_or->iW
open Go.Result renaming andThen_ok->mZ,andThen->cY
open Array renaming getElem?_eq_none->xZ,getElem?_modify->bY,getElem?_push_size->yY,toList_push->vX
open Go.Sem renaming run_bind->eY,run_pure->fY
open Or renaming inl->vY,inr->xY
open Go renaming World->wW,Value->vW,Calls->cW,Addr->dW
open Go.RowKit renaming Hid->hH
open Go.Value renaming int->O,slice->U,string->V,bool->Y,pointer->pX,agg->gX,tuple->uX
open Go.IntKind renaming i64->J
open Go.Obj renaming cells->Z
open Go.Ending renaming returned->rX
open Go.Operand renaming tmp->mX
namespace Go.Proofs.YthcblmpncpcfkaaGreatDoor
open Tryz
variable {W w:wW}{ka kb:Nat}{x:Wc.In}{tv:vW}
open Go.RowKit
def SmA(a:Wpl.Ar):Prop:=(-1000000<=a.t/\a.t<=1000000)/\(-1000000<=a.l/\a.l<=1000000)/\(-1000000<=a.b/\a.b<=1000000)/\(-1000000<=a.r/\a.r<=1000000)
abbrev ar5(a:Wpl.Ar):List vW:=[O J a.s,O J a.t,O J a.l,O J a.b,O J a.r]
def shp(a b:Wpl.Ar):Bool:=(a.b-a.t == b.b-b.t)&&(a.r-a.l == b.r-b.l)
theorem zCC(a:Wpl.Ar)(w:wW)(h:SmA a):CR 164 #[gX (ar5 a).toArray] w (O J (a.b-a.t+1)):=by
 have pA:=AtL.new0 w 83 (ar5 a);have g:=QI (bZ _ w) (Z (ar5 a).toArray 83);have i:=pA.2.1 1 _ rfl;have j:=pA.2.1 3 _ rfl;obtain⟨c,d,e,f⟩:=h;have w1:J.wrap (a.b-a.t)=a.b-a.t:=by rw[dZ];omega
 have w2:J.wrap (a.b-a.t+1)=a.b-a.t+1:=by rw[dZ];omega
 clear pA c d e f;go_enter func164,ntmps164;go_upto_region 1 with fail
 generalize(w.alloc (Z (ar5 a).toArray 83))=W at*;go_wp2;go_ret;exact⟨sM,g⟩
theorem zBw(a:Wpl.Ar)(w:wW)(h:SmA a):CR 165 #[gX (ar5 a).toArray] w (O J (a.r-a.l+1)):=by
 have pA:=AtL.new0 w 83 (ar5 a);have g:=QI (bZ _ w) (Z (ar5 a).toArray 83);have i:=pA.2.1 2 _ rfl;have j:=pA.2.1 4 _ rfl;obtain⟨c,d,e,f⟩:=h;have w1:J.wrap (a.r-a.l)=a.r-a.l:=by rw[dZ];omega
 have w2:J.wrap (a.r-a.l+1)=a.r-a.l+1:=by rw[dZ];omega
 clear pA c d e f;go_enter func165,ntmps165;go_upto_region 1 with fail
 generalize(w.alloc (Z (ar5 a).toArray 83))=W at*;go_wp2;go_ret;exact⟨sM,g⟩
theorem zAs(a b:Wpl.Ar)(w:wW)(h:SmA a)(g:SmA b):CR 133 #[gX (ar5 a).toArray,gX (ar5 b).toArray] w (Y (shp a b)):=by
 have pA:=(AtL.new0 w 83 (ar5 a)).alloc (Z (ar5 b).toArray 83);have pB:=AtL.new1 w (Z (ar5 a).toArray 83) 83 (ar5 b);have hB:=QI (QI (bZ _ w) (Z (ar5 a).toArray 83)) (Z (ar5 b).toArray 83);have RA:=λw=>zCC a w h
 have RB:=λw=>zCC b w g
 have CA:=λw=>zBw a w h
 have CB:=λw=>zBw b w g
 have e1:(a.b-a.t+1 == b.b-b.t+1)=(a.b-a.t == b.b-b.t):=by rw[iY];simp
 have e2:(a.r-a.l+1 == b.r-b.l+1)=(a.r-a.l == b.r-b.l):=by rw[iY];simp
 unfold shp;rw[<-e1,<-e2];clear e1 e2 h g;generalize a.b-a.t+1=x1 at*;generalize b.b-b.t+1=x2 at*;generalize a.r-a.l+1=y1 at*;generalize b.r-b.l+1=y2 at*;go_enter func133,ntmps133;go_upto_region 1 with fail
 generalize(w.alloc (Z (ar5 a).toArray 83)).alloc (Z (ar5 b).toArray 83)=W at*;have y:=AtL.drew pA;have E:=AtL.drew pB;have M:=hB.drew;clear pA pB hB;refine wp_region_held_drew (S:=λW=>W.rangeAt w.heap.size 0 (ar5 a)/\W.rangeAt (w.heap.size+1) 0 (ar5 b)) kR ⟨y.range,E.range⟩ (λc=>?_);generalize W.drew=WD at*;refine tkH 0 (gX (ar5 a).toArray) rfl (yiQ 83 (mX 2) (w.heap.size) 0 (ar5 a) _ (λ_ h=>h.1) underlying83) ?_;try simp only[Act.put,lA,lZ,lS]
 refine tkH 2 (gX (ar5 b).toArray) rfl (yiQ 83 (mX 3) (w.heap.size+1) 0 (ar5 b) _ (λ_ h=>h.2) underlying83) ?_;try simp only[Act.put,lA,lZ,lS]
 refine rdQ 1 (λK d=>?_);go_simp
 refine(RA _).mono ?_;rintro e w1 ⟨rfl,i⟩;have z:=AtL.below i y;have G:=AtL.below i E;have N:=QA M i;go_wp2_with fail
 refine hkQ d ⟨z.range,G.range⟩ (λc=>?_);clear d K
 refine rdQ 3 (λK d=>?_);go_simp
 refine(RB _).mono ?_;rintro e w2 ⟨rfl,j⟩;have p:=AtL.below j z;have q:=AtL.below j G;have u:=QA N j;go_wp2_with fail
 refine hkQ d ⟨p.range,q.range⟩ (λc=>?_);clear d K
 cases hq:(x1 == x2)with
 |false =>
  refine tkQ 4 ?_
  refine tkQ 5 ?_
  refine tnQ 6 ?_
  refine tnQ 7 ?_
  refine tnQ 8 ?_
  refine tnQ 9 ?_
  refine tnQ 10 ?_
  refine tkQ 11 ?_
  refine rdQ 12 (λK d=>?_);go_simp
  refine hkQ d ⟨p.range,q.range⟩ (λc=>?_);clear d K
  refine wpAnyH_done kR ?_ _;go_wp2;go_ret;have f:=hq;simp only[beq_eq_false_iff_ne,ne_eq]at f;exact⟨by simp[f],u⟩
 |true =>
  refine tkQ 4 ?_
  refine tkQ 5 ?_
  refine tkH 6 (gX (ar5 a).toArray) rfl (yiQ 83 (mX 2) (w.heap.size) 0 (ar5 a) _ (λ_ h=>h.1) underlying83) ?_;try simp only[Act.put,lA,lZ,lS]
  refine tkH 8 (gX (ar5 b).toArray) rfl (yiQ 83 (mX 3) (w.heap.size+1) 0 (ar5 b) _ (λ_ h=>h.2) underlying83) ?_;try simp only[Act.put,lA,lZ,lS]
  refine rdQ 7 (λK d=>?_);go_simp
  refine(CA _).mono ?_;rintro e w3 ⟨rfl,m⟩;have C:=AtL.below m p;have H:=AtL.below m q;have R:=QA u m;go_wp2_with fail
  refine hkQ d ⟨C.range,H.range⟩ (λc=>?_);clear d K
  refine rdQ 9 (λK d=>?_);go_simp
  refine(CB _).mono ?_;rintro e w4 ⟨rfl,o⟩;have D:=AtL.below o C;have I:=AtL.below o H;have X:=QA R o;go_wp2_with fail
  refine hkQ d ⟨D.range,I.range⟩ (λc=>?_);clear d K
  refine tkQ 10 ?_
  refine tkQ 11 ?_
  refine rdQ 12 (λK d=>?_);go_simp
  refine hkQ d ⟨D.range,I.range⟩ (λc=>?_);clear d K
  refine wpAnyH_done kR ?_ _;go_wp2;go_ret;have f:=hq;simp only[beq_iff_eq]at f;exact⟨by simp[f],X⟩
abbrev sg6(id c:Int)(nm:ByteArray)(l m:Int)(d:ByteArray):List vW:=[O J id,O J c,V nm,O J l,O J m,V d]
theorem at6{k:Nat}{a b c d e f:vW}(h:AtL W k [a,b,c,d,e,f]) :
  W.cell? ⟨k,0,jW⟩=kW a/\W.cell? ⟨k,1,jW⟩=kW b/\W.cell? ⟨k,2,jW⟩=kW c/\W.cell? ⟨k,3,jW⟩=kW d/\W.cell? ⟨k,4,jW⟩=kW e/\W.cell? ⟨k,5,jW⟩=kW f/\W.frozen? ⟨k,0,jW⟩=mW/\W.frozen? ⟨k,1,jW⟩=mW/\W.frozen? ⟨k,2,jW⟩=mW/\W.frozen? ⟨k,3,jW⟩=mW/\W.frozen? ⟨k,4,jW⟩=mW/\W.frozen? ⟨k,5,jW⟩=mW :=
 ⟨h.2.1 0 a rfl,h.2.1 1 b rfl,h.2.1 2 c rfl,h.2.1 3 d rfl,h.2.1 4 e rfl,h.2.1 5 f rfl,h.2.2 0 sM,h.2.2 1 sM,h.2.2 2 sM,h.2.2 3 sM,h.2.2 4 sM,h.2.2 5 sM⟩
theorem Q2(c l m:Int)(d:ByteArray)(w:wW):CR 208 #[O J c,O J l,O J m,V d] w (gX (sg6 0 c ⟨#[]⟩ l m d).toArray):=by
 have e:=QI (bZ _ w) (Z (sg6 0 0 ⟨#[]⟩ 0 0 ⟨#[]⟩).toArray 242);go_enter func208,ntmps208;go_wp2;refine bodyPost_ret (v:=gX (sg6 0 c ⟨#[]⟩ l m d).toArray) (by simp[results,results208,go_sem]) rfl ⟨rfl,clA⟩
def zGG(id:Int):List vW :=
 if id=30 then sg6 0 3 ⟨#[]⟩ 2 3 ⟨#[118]⟩else if id=31 then sg6 0 3 ⟨#[]⟩ 2 2 ⟨#[118]⟩else sg6 0 3 ⟨#[]⟩ 2 30 ⟨#[118]⟩
theorem zH3(id:Int)(w:wW):CR 210 #[O J id] w (gX (zGG id).toArray):=by
 have o:=AtL.new0 w 242 (sg6 0 0 ⟨#[]⟩ 0 0 ⟨#[]⟩);have m:=QI (bZ _ w) (Z (sg6 0 0 ⟨#[]⟩ 0 0 ⟨#[]⟩).toArray 242);unfold zGG;by_cases f:id=30
 ·subst f;have i:=λw=>Q2 3 2 3 ⟨#[118]⟩ w
  go_enter func210,ntmps210;go_wp2_with fail
  refine(i _).mono ?_;rintro e w1 ⟨rfl,c⟩;obtain⟨b0,b1,b2,b3,j,l,p,q,r,u,y,z⟩:=at6 (AtL.below c o);have d:=QA m c;go_wp2;refine bodyPost_ret (v:=gX (sg6 0 3 ⟨#[]⟩ 2 3 ⟨#[118]⟩).toArray) (by simp[results,results210,go_sem,b0,b1,b2,b3,j,l]) rfl ⟨rfl,(clB d)⟩
 by_cases g:id=31
 ·subst g;have i:=λw=>Q2 3 2 2 ⟨#[118]⟩ w
  go_enter func210,ntmps210;go_wp2_with fail
  refine(i _).mono ?_;rintro e w1 ⟨rfl,c⟩;obtain⟨b0,b1,b2,b3,j,l,p,q,r,u,y,z⟩:=at6 (AtL.below c o);have d:=QA m c;go_wp2;refine bodyPost_ret (v:=gX (sg6 0 3 ⟨#[]⟩ 2 2 ⟨#[118]⟩).toArray) (by simp[results,results210,go_sem,b0,b1,b2,b3,j,l]) rfl ⟨rfl,(clB d)⟩
 have C:(id == 30)=mW:=by simp[f]
 have D:(id == 31)=mW:=by simp[g]
 rw[if_neg (by simp[f]),if_neg (by simp[g])];clear f g;have i:=λw=>Q2 3 2 30 ⟨#[118]⟩ w
 go_enter func210,ntmps210;go_wp2_with fail
 refine(i _).mono ?_;rintro e w1 ⟨rfl,c⟩;obtain⟨b0,b1,b2,b3,j,l,p,q,r,u,y,z⟩:=at6 (AtL.below c o);have d:=QA m c;go_wp2;refine bodyPost_ret (v:=gX (sg6 0 3 ⟨#[]⟩ 2 30 ⟨#[118]⟩).toArray) (by simp[results,results210,go_sem,b0,b1,b2,b3,j,l]) rfl ⟨rfl,(clB d)⟩
def zGK(id:Int):List vW :=
 if id=20 then sg6 0 2 ⟨#[]⟩ 2 2 ⟨#[118,97]⟩else if id=21 then sg6 0 2 ⟨#[]⟩ 2 2 ⟨#[97,118]⟩else if id=22 then sg6 0 2 ⟨#[]⟩ 2 3 ⟨#[97,118,97]⟩else if id=23 then sg6 0 2 ⟨#[]⟩ 3 3 ⟨#[118,97,97]⟩else if id=24 then sg6 0 2 ⟨#[]⟩ 2 2 ⟨#[97]⟩else if id=25 then sg6 0 2 ⟨#[]⟩ 2 3 ⟨#[97,118]⟩else sg6 0 2 ⟨#[]⟩ 1 1 ⟨#[97]⟩
theorem zH0(id:Int)(w:wW):CR 209 #[O J id] w (gX (zGK id).toArray):=by
 have u:=AtL.new0 w 242 (sg6 0 0 ⟨#[]⟩ 0 0 ⟨#[]⟩);have r:=QI (bZ _ w) (Z (sg6 0 0 ⟨#[]⟩ 0 0 ⟨#[]⟩).toArray 242);unfold zGK;by_cases j:id=20
 ·subst j;have f:=λw=>Q2 2 2 2 ⟨#[118,97]⟩ w
  go_enter func209,ntmps209;go_wp2_with fail
  refine(f _).mono ?_;rintro e w1 ⟨rfl,c⟩;obtain⟨b0,b1,b2,b3,g,i,y,z,C,D,E,G⟩:=at6 (AtL.below c u);have d:=QA r c;go_wp2;refine bodyPost_ret (v:=gX (sg6 0 2 ⟨#[]⟩ 2 2 ⟨#[118,97]⟩).toArray) (by simp[results,results209,go_sem,b0,b1,b2,b3,g,i]) rfl ⟨rfl,(clB d)⟩
 by_cases l:id=21
 ·subst l;have f:=λw=>Q2 2 2 2 ⟨#[97,118]⟩ w
  go_enter func209,ntmps209;go_wp2_with fail
  refine(f _).mono ?_;rintro e w1 ⟨rfl,c⟩;obtain⟨b0,b1,b2,b3,g,i,y,z,C,D,E,G⟩:=at6 (AtL.below c u);have d:=QA r c;go_wp2;refine bodyPost_ret (v:=gX (sg6 0 2 ⟨#[]⟩ 2 2 ⟨#[97,118]⟩).toArray) (by simp[results,results209,go_sem,b0,b1,b2,b3,g,i]) rfl ⟨rfl,(clB d)⟩
 by_cases m:id=22
 ·subst m;have f:=λw=>Q2 2 2 3 ⟨#[97,118,97]⟩ w
  go_enter func209,ntmps209;go_wp2_with fail
  refine(f _).mono ?_;rintro e w1 ⟨rfl,c⟩;obtain⟨b0,b1,b2,b3,g,i,y,z,C,D,E,G⟩:=at6 (AtL.below c u);have d:=QA r c;go_wp2;refine bodyPost_ret (v:=gX (sg6 0 2 ⟨#[]⟩ 2 3 ⟨#[97,118,97]⟩).toArray) (by simp[results,results209,go_sem,b0,b1,b2,b3,g,i]) rfl ⟨rfl,(clB d)⟩
 by_cases o:id=23
 ·subst o;have f:=λw=>Q2 2 3 3 ⟨#[118,97,97]⟩ w
  go_enter func209,ntmps209;go_wp2_with fail
  refine(f _).mono ?_;rintro e w1 ⟨rfl,c⟩;obtain⟨b0,b1,b2,b3,g,i,y,z,C,D,E,G⟩:=at6 (AtL.below c u);have d:=QA r c;go_wp2;refine bodyPost_ret (v:=gX (sg6 0 2 ⟨#[]⟩ 3 3 ⟨#[118,97,97]⟩).toArray) (by simp[results,results209,go_sem,b0,b1,b2,b3,g,i]) rfl ⟨rfl,(clB d)⟩
 by_cases p:id=24
 ·subst p;have f:=λw=>Q2 2 2 2 ⟨#[97]⟩ w
  go_enter func209,ntmps209;go_wp2_with fail
  refine(f _).mono ?_;rintro e w1 ⟨rfl,c⟩;obtain⟨b0,b1,b2,b3,g,i,y,z,C,D,E,G⟩:=at6 (AtL.below c u);have d:=QA r c;go_wp2;refine bodyPost_ret (v:=gX (sg6 0 2 ⟨#[]⟩ 2 2 ⟨#[97]⟩).toArray) (by simp[results,results209,go_sem,b0,b1,b2,b3,g,i]) rfl ⟨rfl,(clB d)⟩
 by_cases q:id=25
 ·subst q;have f:=λw=>Q2 2 2 3 ⟨#[97,118]⟩ w
  go_enter func209,ntmps209;go_wp2_with fail
  refine(f _).mono ?_;rintro e w1 ⟨rfl,c⟩;obtain⟨b0,b1,b2,b3,g,i,y,z,C,D,E,G⟩:=at6 (AtL.below c u);have d:=QA r c;go_wp2;refine bodyPost_ret (v:=gX (sg6 0 2 ⟨#[]⟩ 2 3 ⟨#[97,118]⟩).toArray) (by simp[results,results209,go_sem,b0,b1,b2,b3,g,i]) rfl ⟨rfl,(clB d)⟩
 have H:(id == 20)=mW:=by simp[j]
 have I:(id == 21)=mW:=by simp[l]
 have K:(id == 22)=mW:=by simp[m]
 have M:(id == 23)=mW:=by simp[o]
 have N:(id == 24)=mW:=by simp[p]
 have R:(id == 25)=mW:=by simp[q]
 rw[if_neg (by simp[j]),if_neg (by simp[l]),if_neg (by simp[m]),if_neg (by simp[o]),if_neg (by simp[p]),if_neg (by simp[q])];clear j l m o p q;have f:=λw=>Q2 2 1 1 ⟨#[97]⟩ w
 go_enter func209,ntmps209;go_wp2_with fail
 refine(f _).mono ?_;rintro e w1 ⟨rfl,c⟩;obtain⟨b0,b1,b2,b3,g,i,y,z,C,D,E,G⟩:=at6 (AtL.below c u);have d:=QA r c;go_wp2;refine bodyPost_ret (v:=gX (sg6 0 2 ⟨#[]⟩ 1 1 ⟨#[97]⟩).toArray) (by simp[results,results209,go_sem,b0,b1,b2,b3,g,i]) rfl ⟨rfl,(clB d)⟩
def zFw(id:Int):List vW :=
 if id=62 then sg6 0 4 ⟨#[]⟩ 0 0 ⟨#[118]⟩else if id=43\/id=49\/id=50 then sg6 0 4 ⟨#[]⟩ 1 2 ⟨#[118]⟩else if id=44\/id=45\/id=46\/id=52\/id=53 then sg6 0 4 ⟨#[]⟩ 2 2 ⟨#[118]⟩else if id=51 then sg6 0 4 ⟨#[]⟩ 3 3 ⟨#[118]⟩else sg6 0 4 ⟨#[]⟩ 1 1 ⟨#[118]⟩
theorem zID(id:Int)(w:wW):CR 211 #[O J id] w (gX (zFw id).toArray):=by
 have l:=AtL.new0 w 242 (sg6 0 0 ⟨#[]⟩ 0 0 ⟨#[]⟩);have j:=QI (bZ _ w) (Z (sg6 0 0 ⟨#[]⟩ 0 0 ⟨#[]⟩).toArray 242);unfold zFw;by_cases M:id=62
 ·subst M;have f:=λw=>Q2 4 0 0 ⟨#[118]⟩ w
  go_enter func211,ntmps211;go_wp2_with fail
  refine(f _).mono ?_;rintro e w1 ⟨rfl,c⟩;obtain⟨b0,b1,b2,b3,g,i,m,o,p,q,r,u⟩:=at6 (AtL.below c l);have d:=QA j c;go_wp2;refine bodyPost_ret (v:=gX (sg6 0 4 ⟨#[]⟩ 0 0 ⟨#[118]⟩).toArray) (by simp[results,results211,go_sem,b0,b1,b2,b3,g,i]) rfl ⟨rfl,(clB d)⟩
 by_cases y:id=43
 ·subst y;have f:=λw=>Q2 4 1 2 ⟨#[118]⟩ w
  go_enter func211,ntmps211;go_wp2_with fail
  refine(f _).mono ?_;rintro e w1 ⟨rfl,c⟩;obtain⟨b0,b1,b2,b3,g,i,m,o,p,q,r,u⟩:=at6 (AtL.below c l);have d:=QA j c;go_wp2;refine bodyPost_ret (v:=gX (sg6 0 4 ⟨#[]⟩ 1 2 ⟨#[118]⟩).toArray) (by simp[results,results211,go_sem,b0,b1,b2,b3,g,i]) rfl ⟨rfl,(clB d)⟩
 by_cases E:id=49
 ·subst E;have f:=λw=>Q2 4 1 2 ⟨#[118]⟩ w
  go_enter func211,ntmps211;go_wp2_with fail
  refine(f _).mono ?_;rintro e w1 ⟨rfl,c⟩;obtain⟨b0,b1,b2,b3,g,i,m,o,p,q,r,u⟩:=at6 (AtL.below c l);have d:=QA j c;go_wp2;refine bodyPost_ret (v:=gX (sg6 0 4 ⟨#[]⟩ 1 2 ⟨#[118]⟩).toArray) (by simp[results,results211,go_sem,b0,b1,b2,b3,g,i]) rfl ⟨rfl,(clB d)⟩
 by_cases G:id=50
 ·subst G;have f:=λw=>Q2 4 1 2 ⟨#[118]⟩ w
  go_enter func211,ntmps211;go_wp2_with fail
  refine(f _).mono ?_;rintro e w1 ⟨rfl,c⟩;obtain⟨b0,b1,b2,b3,g,i,m,o,p,q,r,u⟩:=at6 (AtL.below c l);have d:=QA j c;go_wp2;refine bodyPost_ret (v:=gX (sg6 0 4 ⟨#[]⟩ 1 2 ⟨#[118]⟩).toArray) (by simp[results,results211,go_sem,b0,b1,b2,b3,g,i]) rfl ⟨rfl,(clB d)⟩
 by_cases z:id=44
 ·subst z;have f:=λw=>Q2 4 2 2 ⟨#[118]⟩ w
  go_enter func211,ntmps211;go_wp2_with fail
  refine(f _).mono ?_;rintro e w1 ⟨rfl,c⟩;obtain⟨b0,b1,b2,b3,g,i,m,o,p,q,r,u⟩:=at6 (AtL.below c l);have d:=QA j c;go_wp2;refine bodyPost_ret (v:=gX (sg6 0 4 ⟨#[]⟩ 2 2 ⟨#[118]⟩).toArray) (by simp[results,results211,go_sem,b0,b1,b2,b3,g,i]) rfl ⟨rfl,(clB d)⟩
 by_cases C:id=45
 ·subst C;have f:=λw=>Q2 4 2 2 ⟨#[118]⟩ w
  go_enter func211,ntmps211;go_wp2_with fail
  refine(f _).mono ?_;rintro e w1 ⟨rfl,c⟩;obtain⟨b0,b1,b2,b3,g,i,m,o,p,q,r,u⟩:=at6 (AtL.below c l);have d:=QA j c;go_wp2;refine bodyPost_ret (v:=gX (sg6 0 4 ⟨#[]⟩ 2 2 ⟨#[118]⟩).toArray) (by simp[results,results211,go_sem,b0,b1,b2,b3,g,i]) rfl ⟨rfl,(clB d)⟩
 by_cases D:id=46
 ·subst D;have f:=λw=>Q2 4 2 2 ⟨#[118]⟩ w
  go_enter func211,ntmps211;go_wp2_with fail
  refine(f _).mono ?_;rintro e w1 ⟨rfl,c⟩;obtain⟨b0,b1,b2,b3,g,i,m,o,p,q,r,u⟩:=at6 (AtL.below c l);have d:=QA j c;go_wp2;refine bodyPost_ret (v:=gX (sg6 0 4 ⟨#[]⟩ 2 2 ⟨#[118]⟩).toArray) (by simp[results,results211,go_sem,b0,b1,b2,b3,g,i]) rfl ⟨rfl,(clB d)⟩
 by_cases I:id=52
 ·subst I;have f:=λw=>Q2 4 2 2 ⟨#[118]⟩ w
  go_enter func211,ntmps211;go_wp2_with fail
  refine(f _).mono ?_;rintro e w1 ⟨rfl,c⟩;obtain⟨b0,b1,b2,b3,g,i,m,o,p,q,r,u⟩:=at6 (AtL.below c l);have d:=QA j c;go_wp2;refine bodyPost_ret (v:=gX (sg6 0 4 ⟨#[]⟩ 2 2 ⟨#[118]⟩).toArray) (by simp[results,results211,go_sem,b0,b1,b2,b3,g,i]) rfl ⟨rfl,(clB d)⟩
 by_cases K:id=53
 ·subst K;have f:=λw=>Q2 4 2 2 ⟨#[118]⟩ w
  go_enter func211,ntmps211;go_wp2_with fail
  refine(f _).mono ?_;rintro e w1 ⟨rfl,c⟩;obtain⟨b0,b1,b2,b3,g,i,m,o,p,q,r,u⟩:=at6 (AtL.below c l);have d:=QA j c;go_wp2;refine bodyPost_ret (v:=gX (sg6 0 4 ⟨#[]⟩ 2 2 ⟨#[118]⟩).toArray) (by simp[results,results211,go_sem,b0,b1,b2,b3,g,i]) rfl ⟨rfl,(clB d)⟩
 by_cases H:id=51
 ·subst H;have f:=λw=>Q2 4 3 3 ⟨#[118]⟩ w
  go_enter func211,ntmps211;go_wp2_with fail
  refine(f _).mono ?_;rintro e w1 ⟨rfl,c⟩;obtain⟨b0,b1,b2,b3,g,i,m,o,p,q,r,u⟩:=at6 (AtL.below c l);have d:=QA j c;go_wp2;refine bodyPost_ret (v:=gX (sg6 0 4 ⟨#[]⟩ 3 3 ⟨#[118]⟩).toArray) (by simp[results,results211,go_sem,b0,b1,b2,b3,g,i]) rfl ⟨rfl,(clB d)⟩
 have ag:(id == 62)=mW:=by simp[M]
 have N:(id == 43)=mW:=by simp[y]
 have ab:(id == 49)=mW:=by simp[E]
 have ac:(id == 50)=mW:=by simp[G]
 have R:(id == 44)=mW:=by simp[z]
 have X:(id == 45)=mW:=by simp[C]
 have aa:(id == 46)=mW:=by simp[D]
 have ae:(id == 52)=mW:=by simp[I]
 have af:(id == 53)=mW:=by simp[K]
 have ad:(id == 51)=mW:=by simp[H]
 rw[if_neg (by simp[M]),if_neg (by simp[y,E,G]),if_neg (by simp[z,C,D,I,K]),if_neg (by simp[H])];clear M y E G z C D I K H;have f:=λw=>Q2 4 1 1 ⟨#[118]⟩ w
 go_enter func211,ntmps211;go_wp2_with fail
 refine(f _).mono ?_;rintro e w1 ⟨rfl,c⟩;obtain⟨b0,b1,b2,b3,g,i,m,o,p,q,r,u⟩:=at6 (AtL.below c l);have d:=QA j c;go_wp2;refine bodyPost_ret (v:=gX (sg6 0 4 ⟨#[]⟩ 1 1 ⟨#[118]⟩).toArray) (by simp[results,results211,go_sem,b0,b1,b2,b3,g,i]) rfl ⟨rfl,(clB d)⟩
structure Sh where
 c:Int
 l:Int
 m:Int
 p:ByteArray
def sh6(s:Sh):List vW:=sg6 0 s.c ⟨#[]⟩ s.l s.m s.p
def zHt(id:Int):Sh:=if id=30 then⟨3,2,3,⟨#[118]⟩⟩else if id=31 then⟨3,2,2,⟨#[118]⟩⟩else⟨3,2,30,⟨#[118]⟩⟩
def zKC(id:Int):Sh:=if id=20 then⟨2,2,2,⟨#[118,97]⟩⟩else if id=21 then⟨2,2,2,⟨#[97,118]⟩⟩else if id=22 then⟨2,2,3,⟨#[97,118,97]⟩⟩else if id=23 then⟨2,3,3,⟨#[118,97,97]⟩⟩else if id=24 then⟨2,2,2,⟨#[97]⟩⟩else if id=25 then⟨2,2,3,⟨#[97,118]⟩⟩else⟨2,1,1,⟨#[97]⟩⟩
def zJi(id:Int):Sh:=if id=62 then⟨4,0,0,⟨#[118]⟩⟩else if id=43\/id=49\/id=50 then⟨4,1,2,⟨#[118]⟩⟩else if id=44\/id=45\/id=46\/id=52\/id=53 then⟨4,2,2,⟨#[118]⟩⟩else if id=51 then⟨4,3,3,⟨#[118]⟩⟩else⟨4,1,1,⟨#[118]⟩⟩
def QR(id:Int):Sh:=if id<=15 then⟨1,1,30,⟨#[120]⟩⟩else if id<=27 then zKC id else if id<=32 then zHt id else zJi id
theorem zLi(id:Int):zGG id=sh6 (zHt id):=by
 unfold zGG zHt;split
 ·rfl
 ·split <;> rfl
theorem zLl(id:Int):zGK id=sh6 (zKC id):=by
 unfold zGK zKC;repeat(split;rfl)
 rfl
theorem zLs(id:Int):zFw id=sh6 (zJi id):=by
 unfold zFw zJi;repeat(split;rfl)
 rfl
theorem zH6(id:Int)(w:wW):CR 190 #[O J id] w (gX (sh6 (QR id)).toArray):=by
 have y:=AtL.new0 w 242 (sg6 0 0 ⟨#[]⟩ 0 0 ⟨#[]⟩);have u:=QI (bZ _ w) (Z (sg6 0 0 ⟨#[]⟩ 0 0 ⟨#[]⟩).toArray 242);have r:=λw=>Q2 1 1 30 ⟨#[120]⟩ w
 have q:=λw=>zH0 id w
 have o:=λw=>zH3 id w
 have j:=λw=>zID id w
 rw[zLl]at q;rw[zLi]at o;rw[zLs]at j;unfold QR;by_cases I:id<=15
 ·rw[if_pos I];clear q o j;go_enter func190,ntmps190;go_wp2_with fail
  refine(r _).mono ?_;rintro e w1 ⟨rfl,d⟩;obtain⟨b0,b1,b2,b3,g,i,z,C,D,E,G,H⟩:=at6 (AtL.below d y);have f:=QA u d;go_wp2;refine bodyPost_ret (v:=gX (sg6 0 1 ⟨#[]⟩ 1 30 ⟨#[120]⟩).toArray) (by simp[results,results190,go_sem,b0,b1,b2,b3,g,i]) rfl ⟨rfl,(clB f)⟩
 rw[if_neg I];by_cases K:id<=27
 ·rw[if_pos K];clear r o j;generalize zKC id=s at*;unfold sh6 at*;go_enter func190,ntmps190;go_wp2_with fail
  refine(q _).mono ?_;rintro e w1 ⟨rfl,d⟩;obtain⟨b0,b1,b2,b3,g,i,z,C,D,E,G,H⟩:=at6 (AtL.below d y);have f:=QA u d;go_wp2;refine bodyPost_ret (v:=gX (sg6 0 s.c ⟨#[]⟩ s.l s.m s.p).toArray) (by simp[results,results190,go_sem,b0,b1,b2,b3,g,i]) rfl ⟨rfl,(clB f)⟩
 rw[if_neg K];by_cases M:id<=32
 ·rw[if_pos M];clear r q j;generalize zHt id=s at*;unfold sh6 at*;go_enter func190,ntmps190;go_wp2_with fail
  refine(o _).mono ?_;rintro e w1 ⟨rfl,d⟩;obtain⟨b0,b1,b2,b3,g,i,z,C,D,E,G,H⟩:=at6 (AtL.below d y);have f:=QA u d;go_wp2;refine bodyPost_ret (v:=gX (sg6 0 s.c ⟨#[]⟩ s.l s.m s.p).toArray) (by simp[results,results190,go_sem,b0,b1,b2,b3,g,i]) rfl ⟨rfl,(clB f)⟩
 rw[if_neg M];clear r q o;generalize zJi id=s at*;unfold sh6 at*;go_enter func190,ntmps190;go_wp2_with fail
 refine(j _).mono ?_;rintro e w1 ⟨rfl,d⟩;obtain⟨b0,b1,b2,b3,g,i,z,C,D,E,G,H⟩:=at6 (AtL.below d y);have f:=QA u d;go_wp2;refine bodyPost_ret (v:=gX (sg6 0 s.c ⟨#[]⟩ s.l s.m s.p).toArray) (by simp[results,results190,go_sem,b0,b1,b2,b3,g,i]) rfl ⟨rfl,(clB f)⟩
def fnN:List (List UInt8):=[[],[83,85,77],[80,82,79,68,85,67,84],[67,79,85,78,84],[67,79,85,78,84,65],[77,73,78],[77,65,88],[65,86,69,82,65,71,69],[65,78,68],[79,82],[88,79,82],[67,79,78,67,65,84],[83,85,77,83,81],[71,67,68],[70,73,82,83,84],[76,65,83,84],[],[],[],[],[77,65,84,67,72],[67,79,85,78,84,73,70],[83,85,77,73,70],[76,79,79,75,85,80],[83,85,77,80,82,79,68,85,67,84],[73,78,68,69,88],[82,79,87,83],[67,79,76,85,77,78,83],[],[],[73,70],[73,70,69,82,82,79,82],[67,72,79,79,83,69],[],[],[],[],[],[],[],[65,66,83],[83,73,71,78],[73,78,84],[82,79,85,78,68],[77,79,68],[81,85,79,84,73,69,78,84],[80,79,87,69,82],[78,79,84],[76,69,78],[76,69,70,84],[82,73,71,72,84],[77,73,68],[82,69,80,84],[70,73,78,68],[85,80,80,69,82],[76,79,87,69,82],[84,82,73,77],[86,65,76,85,69],[73,83,78,85,77,66,69,82],[73,83,84,69,88,84],[73,83,66,76,65,78,75],[73,83,69,82,82,79,82],[78,65]]
def nmR:List vW:=fnN.map λl=>V ⟨l.toArray⟩
def NmAt(w:wW):Prop:=w.rangeAt 2 0 nmR
theorem NmAt.below{w':wW}(h:NmAt w)(c:bL w w'):NmAt w':=λj v d=>QB c (h j v d)
def VZ(id:Int):List UInt8:=fnN.getD id.toNat []
def JL(id:Int):Bool:=nW (0<=id)&&(nW (id<63) && !(VZ id).isEmpty)
theorem zRQ(h:NmAt w):2<w.heap.size:=by
 have c:=h 0 _ rfl;rcases vZ 2 w.heap.size with g|g
 ·exact g
 ·unfold jY at c;simp only[xZ g]at c;cases c
theorem NmAt.cell(h:NmAt w){id:Int}(d:0<=id)(e:id<63):w.cell? ⟨2,id.toNat,jW⟩=kW (V ⟨(VZ id).toArray⟩):=by
 have c:id.toNat<fnN.length:=by show id.toNat<63;omega
 have:=h id.toNat (V ⟨(VZ id).toArray⟩) (by unfold nmR VZ;rw[tX,cZ c,fZ,cZ c];rfl);rw[tY]at this;exact this
def zero6:List vW:=sg6 0 0 ⟨#[]⟩ 0 0 ⟨#[]⟩
def VH(id:Int):List vW:=if JL id=lW then sg6 id (QR id).c ⟨(VZ id).toArray⟩ (QR id).l (QR id).m (QR id).p else zero6
theorem zMQ(id:Int)(w:wW)(g:NmAt w)(h:id<0):CR 160 #[O J id] w (uX #[gX zero6.toArray,Y mW]):=by
 have c:=AtL.new0 w 242 (sg6 0 0 ⟨#[]⟩ 0 0 ⟨#[]⟩);have f:=QI (bZ _ w) (Z (sg6 0 0 ⟨#[]⟩ 0 0 ⟨#[]⟩).toArray 242);obtain⟨b0,b1,b2,b3,d,e,i,j,l,m,o,p⟩:=at6 c;clear c g;go_enter func160,ntmps160;go_upto_region 1 with fail
 generalize(w.alloc (Z (sg6 0 0 ⟨#[]⟩ 0 0 ⟨#[]⟩).toArray 242))=W at*;go_wp2;refine bodyPost_ret (v:=uX #[gX (sg6 0 0 ⟨#[]⟩ 0 0 ⟨#[]⟩).toArray,Y mW]) (by simp[results,results160,go_sem,b0,b1,b2,b3,d,e]) rfl ⟨rfl,(clB f)⟩
theorem zKe(id:Int)(w:wW)(g:NmAt w)(h:63<=id):CR 160 #[O J id] w (uX #[gX zero6.toArray,Y mW]):=by
 have c:=AtL.new0 w 242 (sg6 0 0 ⟨#[]⟩ 0 0 ⟨#[]⟩);have f:=QI (bZ _ w) (Z (sg6 0 0 ⟨#[]⟩ 0 0 ⟨#[]⟩).toArray 242);have i:¬id<0:=oM;obtain⟨b0,b1,b2,b3,d,e,j,l,m,o,p,q⟩:=at6 c;clear c g;go_enter func160,ntmps160;go_upto_region 1 with fail
 generalize(w.alloc (Z (sg6 0 0 ⟨#[]⟩ 0 0 ⟨#[]⟩).toArray 242))=W at*;go_wp2;refine bodyPost_ret (v:=uX #[gX (sg6 0 0 ⟨#[]⟩ 0 0 ⟨#[]⟩).toArray,Y mW]) (by simp[results,results160,go_sem,b0,b1,b2,b3,d,e]) rfl ⟨rfl,(clB f)⟩
theorem zKk(id:Int)(w:wW)(d:NmAt w)(j:0<=id)(m:id<63)(e:VZ id=[]):CR 160 #[O J id] w (uX #[gX zero6.toArray,Y mW]):=by
 have f:=AtL.new0 w 242 (sg6 0 0 ⟨#[]⟩ 0 0 ⟨#[]⟩);have c:=QI (bZ _ w) (Z (sg6 0 0 ⟨#[]⟩ 0 0 ⟨#[]⟩).toArray 242);have p:=(d.below c).cell j m;rw[e]at p;have l:¬id<0:=oM;have o:¬63<=id:=oM;clear e;obtain⟨b0,b1,b2,b3,g,i,q,r,u,y,z,C⟩:=at6 f;clear f d;go_enter func160,ntmps160;go_upto_region 1 with fail
 generalize(w.alloc (Z (sg6 0 0 ⟨#[]⟩ 0 0 ⟨#[]⟩).toArray 242))=W at*;go_wp2;refine bodyPost_ret (v:=uX #[gX (sg6 0 0 ⟨#[]⟩ 0 0 ⟨#[]⟩).toArray,Y mW]) (by simp[results,results160,go_sem,b0,b1,b2,b3,g,i]) rfl ⟨rfl,(clB c)⟩
theorem zPP(id c l m:Int)(nm d:ByteArray):(sg6 id c nm l m d).toArray.all (·.oneCell')=lW:=by simp[Value.oneCell']
theorem zOL(id:Int)(w:wW)(hN:NmAt w)(h0:0<=id)(h1:id<63)(he:VZ id≠[]):CR 160 #[O J id] w (uX #[gX (sg6 id (QR id).c ⟨(VZ id).toArray⟩ (QR id).l (QR id).m (QR id).p).toArray,Y lW]):=by
 have pZ:=AtL.new0 w 242 (sg6 0 0 ⟨#[]⟩ 0 0 ⟨#[]⟩);have hB:=QI (bZ _ w) (Z (sg6 0 0 ⟨#[]⟩ 0 0 ⟨#[]⟩).toArray 242);have u:=hN.below hB;have hc:=u.cell h0 h1;have SH:=λw=>zH6 id w
 unfold sh6 at SH;have hq:((VZ id).toArray.toList == ([]:List UInt8))=mW:=by
  cases hx:VZ id with
  |nil=>exact absurd hx he
  |cons a t=>rfl
 obtain⟨nm,g⟩:∃nm:ByteArray,(⟨(VZ id).toArray⟩:ByteArray)=nm:=⟨_,rfl⟩
 have an:(nm.toList == [])=mW:=by
  rw[<-g,ByteArray.toList_eq];exact hq
 rw[g]at hc ⊢;have HC:hH (∀W,NmAt W->W.cell? ⟨2,id.toNat,jW⟩=kW (V nm)):=λW h=>by rw[<-g];exact h.cell h0 h1
 have C:=hid u;have E:=hid hN;have ak:¬id<0:=oM;have al:¬63<=id:=oM;generalize QR id=s at*;clear hN he hq g u;go_enter func160,ntmps160;go_upto_region 1 with fail
 generalize(w.alloc (Z (sg6 0 0 ⟨#[]⟩ 0 0 ⟨#[]⟩).toArray 242))=W at*;go_wp2_with fail
 refine(SH _).mono ?_;rintro e w1 ⟨rfl,f⟩;have z:=AtL.below f pZ;have G:=QA hB f;have D:=hid (C.out.below f);have pS:=AtL.new0 w1 242 (sg6 0 0 ⟨#[]⟩ 0 0 ⟨#[]⟩);have aa:=z.alloc (Z (sg6 0 0 ⟨#[]⟩ 0 0 ⟨#[]⟩).toArray 242);have H:=QI G (Z (sg6 0 0 ⟨#[]⟩ 0 0 ⟨#[]⟩).toArray 242);have af:hH (NmAt (w1.alloc (Z (sg6 0 0 ⟨#[]⟩ 0 0 ⟨#[]⟩).toArray 242))):=D.out.below (QI (bZ _ _) _);have i:nZ (w1.alloc (Z (sg6 0 0 ⟨#[]⟩ 0 0 ⟨#[]⟩).toArray 242)) w1.heap.size 0 (sg6 0 s.c ⟨#[]⟩ s.l s.m s.p).toArray.size:=pS.there;have am:=z.lt;clear SH hc pZ z hB G C D f;go_upto_region 4 with((with_reducible refine stQ 242 (mX 4) (mX 19) (w1.heap.size) 0 (sg6 0 s.c ⟨#[]⟩ s.l s.m s.p).toArray ?_ ?_ ?_);exact i;exact zPP _ _ _ _ _ _)
 have X:AtL ((w1.alloc (Z (sg6 0 0 ⟨#[]⟩ 0 0 ⟨#[]⟩).toArray 242)).setCells w1.heap.size 0 (sg6 0 s.c ⟨#[]⟩ s.l s.m s.p)) w1.heap.size (sg6 0 s.c ⟨#[]⟩ s.l s.m s.p):=pS.setAll rfl;have ab:=aa.farAll (b:=w1.heap.size) oM 0 (sg6 0 s.c ⟨#[]⟩ s.l s.m s.p);have I:bL w ((w1.alloc (Z (sg6 0 0 ⟨#[]⟩ 0 0 ⟨#[]⟩).toArray 242)).setCells w1.heap.size 0 (sg6 0 s.c ⟨#[]⟩ s.l s.m s.p)):=Ql H oM _ 0;have o:=AtL.drew X;have ac:=AtL.drew ab;have r:=I.drew;clear pS aa H af i X ab I;have y:=HC.out _ (E.out.below r);have R:w1.heap.size≠2:=by have:=zRQ E.out;omega
 refine wp_region_held_drew (S:=λW=>W.cell? ⟨2,id.toNat,jW⟩=kW (V nm)) kR y (λd=>?_);generalize(nY (w1.alloc (Z (sg6 0 0 ⟨#[]⟩ 0 0 ⟨#[]⟩).toArray 242)) w1.heap.size 0 (sg6 0 s.c ⟨#[]⟩ s.l s.m s.p)).drew=WD at*;have s0:=o.2.1 0 _ rfl;have f0:=o.2.2 0 sM;refine tkQ 0 ?_
 refine tkQ 1 ?_
 refine tkQ 2 ?_
 refine tkQ 3 ?_
 refine tkQ 4 ?_
 refine rdQ 5 (λK N=>?_);go_simp
 refine hkQ N (by rw[gZ _ _ _ _ (by simpa using R)];exact y) (λd=>?_);clear N K
 have q:=o.set 0 (O J id);have ad:=ac.far (j:=w1.heap.size) oM 0 (O J id);have M:bL w (WD.setCell ⟨w1.heap.size,0,jW⟩ (O J id)):=r.setCell (p:=⟨w1.heap.size,0,jW⟩) (show w.heap.size<=w1.heap.size by omega) _;have s2:=q.2.1 2 _ rfl;have f2:=q.2.2 2 sM;refine tkQ 6 ?_
 refine rdQ 7 (λK N=>?_);go_simp
 refine hkQ N (by rw[gZ _ _ _ _ (by simpa using R)];exact d) (λd=>?_);clear N K
 refine wpAnyH_done kR ?_ _;have ai:AtL ((WD.setCell ⟨w1.heap.size,0,jW⟩ (O J id)).setCell ⟨w1.heap.size,2,jW⟩ (V nm)) w1.heap.size (sg6 id s.c nm s.l s.m s.p):=q.set 2 (V nm);have ae:=ad.far (j:=w1.heap.size) oM 2 (V nm);have ag:bL w ((WD.setCell ⟨w1.heap.size,0,jW⟩ (O J id)).setCell ⟨w1.heap.size,2,jW⟩ (V nm)):=M.setCell (p:=⟨w1.heap.size,2,jW⟩) (show w.heap.size<=w1.heap.size by omega) _;clear o ac r y d q ad M s0 f0 s2 f2;generalize(WD.setCell ⟨w1.heap.size,0,jW⟩ (O J id)).setCell ⟨w1.heap.size,2,jW⟩ (V nm)=W8 at*;have rS:=ai.range;have i:W8.there w.heap.size 0 (sg6 id s.c nm s.l s.m s.p).toArray.size:=ae.there;go_wp2_with (first
  |((with_reducible refine wpList_load_mid (cs:=sg6 id s.c nm s.l s.m s.p) ?_ 242 (mX 4) ?_ (w1.heap.size) 0 ?_ _ ?_ underlying242 ?_ ?_ ?_);rfl;rfl;rfl;exact rS;rfl;kernel_rfl)
  |((with_reducible refine stQ 242 (mX 2) (mX 26) (w.heap.size) 0 (sg6 id s.c nm s.l s.m s.p).toArray ?_ ?_ ?_);exact i;exact zPP _ _ _ _ _ _))
 have aj:AtL (W8.setCells w.heap.size 0 (sg6 id s.c nm s.l s.m s.p)) w.heap.size (sg6 id s.c nm s.l s.m s.p):=ae.setAll rfl;have ah:bL w (W8.setCells w.heap.size 0 (sg6 id s.c nm s.l s.m s.p)):=Ql ag (eZ _) _ 0;obtain⟨b0,b1,b2,b3,b4,b5,k0,k1,k2,k3,k4,k5⟩:=at6 aj;refine bodyPost_ret (v:=uX #[gX (sg6 id s.c nm s.l s.m s.p).toArray,Y lW]) (by simp[results,results160,go_sem,b0,b1,b2,b3,b4,b5]) rfl ⟨rfl,ah⟩
theorem zI8{l m:List Int}{i:Nat}(h:l.take i=m.take i)(c:i<l.length)(d:i<m.length)(e:l[i]=m[i]):l.take (i+1)=m.take (i+1):=by
 rw[iZ c,iZ d,h,e]
theorem zJB(l m:List Int)(v1 v2:vW)(w:wW)(h1:RdZ w v1 l)(h2:RdZ w v2 m)(hl:l.length<=1000000)(hm:m.length<=1000000) :
  CR 166 #[v1,v2] w (Y (nW (l=m))):=by
 obtain⟨a1,c1,rfl,K⟩:=h1;obtain⟨a2,c2,rfl,M⟩:=h2;by_cases c:l.length=m.length
 ·have H1:=hid K;have H2:=hid M;obtain⟨n,u⟩:=xV l.length
  have f:m.length=n:=oM;obtain⟨q,E⟩:=xV (nW (l=m))
  rw[E,u,f];rw[u]at hl;have HQ:=hid E;have R:=hid u;have N:=hid f;clear K M E c hm u f;go_enter func166,ntmps166;go_wp2_with fail
  go_loopg [5,13] n (λgk y x wr=>∃i:Nat,x=O J i/\gk=n-i/\i<=n/\hH (l.take i=m.take i)/\bL w wr)
  case atStart=>exact⟨0,rfl,rfl,jZ _,(rfl:l.take 0=m.take 0),bZ _ _⟩
  case round =>
   obtain⟨i,rfl,hg,hi,HT,o⟩:=hrel;by_cases d:i<n
   ·have D:(i:Int)<(n:Int):=oM;have aa:J.wrap ((i:Int)+1)=(i:Int)+1:=by rw[dZ];omega
    have p:i<l.length:=by rw[R.out];exact d
    have r:i<m.length:=by rw[N.out];exact d
    obtain⟨b1,o1,rfl,q1⟩:=H1.out i p;obtain⟨b2,o2,rfl,q2⟩:=H2.out i r;have d1:=QB o q1;have d2:=QB o q2;have X:hH (∃z,l[i]=z/\z=l[i]):=⟨_,rfl,rfl⟩
    obtain⟨x,H⟩:=xV (l[i])
    obtain⟨y,I⟩:=xV (m[i])
    rw[H]at d1;rw[I]at d2;have HX:=hid H;have HY:=hid I;clear q1 q2 H I X;by_cases j:x=y
    ·have C:=hid (zI8 HT.out p r (by rw[HX.out,HY.out];exact j));subst j;go_upto_region 6 with fail
     go_quiet (fail)
     go_wp2_with fail
     go_roundg (n-(i+1))
     case rel=>exact⟨i+1,sM,rfl,d,C,(clB o)⟩
     case measure=>omega
    ·have g:hH (q=mW):=by
      show q=mW
      rw[<-HQ.out];refine decide_eq_false λe=>j ?_
      rw[<-HX.out,<-HY.out];simp only[e]
     go_upto_region 6 with fail
     go_quiet (fail)
     go_wp2;go_ret;exact⟨by rw[g.out];rfl,(clB o)⟩
   ·have D:¬(i:Int)<(n:Int):=oM;have G:hH (q=lW):=by
     show q=lW
     rw[<-HQ.out];have h:=HT.out;rw[dX (by rw[R.out];omega),dX (by rw[N.out];omega)]at h;exact decide_eq_true h
    go_wp2;go_ret;exact⟨by rw[G.out];rfl,o⟩
 ·have g:nW (l=m)=mW:=decide_eq_false λe=>c (by rw[e])
  have hz:¬((l.length:Int)=(m.length:Int)):=oM;rw[g];clear K M hl hm;go_enter func166,ntmps166;go_wp2;go_ret;exact⟨rfl,bZ _ _⟩
def zPd(x y:Wpl.Cl):Bool:=(x.s == y.s)&&((x.r == y.r)&&(x.c == y.c))
def Jl(x y:Wpl.Ar):Bool:=(x.s == y.s)&&((x.t == y.t)&&((x.l == y.l)&&((x.b == y.b)&&(x.r == y.r))))
theorem zGL(x y:Wpl.Ar):Jl x y=lW↔x=y:=by
 obtain⟨a,b,c,g,i⟩:=x;obtain⟨d,e,f,h,j⟩:=y;simp[Jl]
theorem zL5(x y:Wpl.Cl)(w:wW):(binOp .eql 36 (gX #[O J x.s,O J x.r,O J x.c]) (gX #[O J y.s,O J y.r,O J y.c])).run prog w=.ok (Y (zPd x y)) w:=by
 rw[run_eql_struct];unfold zPd;by_cases d:x.s=y.s
 ·by_cases e:x.r=y.r
  ·by_cases f:x.c=y.c
   ·simp[go_sem,d,e,f]
   ·simp[go_sem,d,e,f]
  ·simp[go_sem,d,e]
 ·simp[go_sem,d]
theorem zFu(x y:Wpl.Ar)(w:wW):(binOp .eql 83 (gX #[O J x.s,O J x.t,O J x.l,O J x.b,O J x.r]) (gX #[O J y.s,O J y.t,O J y.l,O J y.b,O J y.r])).run prog w=.ok (Y (Jl x y)) w:=by
 rw[run_eql_struct];unfold Jl;by_cases c:x.s=y.s
 ·by_cases d:x.t=y.t
  ·by_cases e:x.l=y.l
   ·by_cases f:x.b=y.b
    ·by_cases g:x.r=y.r
     ·simp[go_sem,c,d,e,f,g]
     ·simp[go_sem,c,d,e,f,g]
    ·simp[go_sem,c,d,e,f]
   ·simp[go_sem,c,d,e]
  ·simp[go_sem,c,d]
 ·simp[go_sem,c]
def smI(x y:Wc.In):Bool:=(x.a == y.a)&&((x.b == y.b)&&(XC x.v y.v&&(zPd x.ce y.ce&&(Jl x.ar y.ar&&Jl x.pr y.pr))))
theorem Q5(x y:Wc.In)(g i:vW)(u z:List Int)(w:wW)(N:RdZ w g u)(R:RdZ w i z)(X:u.length<=1000000)(hm:z.length<=1000000) :
  CR 134 #[inV x g,inV y i] w (Y (smI x y&&nW (u=z))):=by
 have pA:=(AtL.new0 w 86 (QE x g)).alloc (Z (QE y i).toArray 86);have pB:=AtL.new1 w (Z (QE x g).toArray 86) 86 (QE y i);have c:=QI (QI (bZ _ w) (Z (QE x g).toArray 86)) (Z (QE y i).toArray 86);have C:∀w',Below ((w.alloc (Z (QE x g).toArray 86)).alloc (Z (QE y i).toArray 86)).heap.size ((w.alloc (Z (QE x g).toArray 86)).alloc (Z (QE y i).toArray 86)) w'->_:=λw' hb=>zJB u z g i w' ((N.below c).below hb) ((R.below c).below hb) X hm
 clear N R X hm;have EV:=λw=>zAz x.v.k x.v.n x.v.d x.v.t x.v.b x.v.f y.v.k y.v.n y.v.d y.v.t y.v.b y.v.f w
 have EC:=λw=>zL5 x.ce y.ce w
 have ER:=λw=>zFu x.ar y.ar w
 have EP:=λw=>zFu x.pr y.pr w
 have o:hH (∃q,XC x.v y.v=q):=⟨_,rfl⟩
 have j:hH (∃q,zPd x.ce y.ce=q):=⟨_,rfl⟩
 have m:hH (∃q,Jl x.ar y.ar=q):=⟨_,rfl⟩
 have l:hH (∃q,Jl x.pr y.pr=q):=⟨_,rfl⟩
 obtain⟨M,K⟩:=o.out;obtain⟨qc,G⟩:=j.out;obtain⟨qr,I⟩:=m.out;obtain⟨qp,H⟩:=l.out;clear o j m l;rw[show eqV x.v.k x.v.n x.v.d x.v.t x.v.b x.v.f y.v.k y.v.n y.v.d y.v.t y.v.b y.v.f=M from K]at EV;rw[G]at EC;rw[I]at ER;rw[H]at EP;have o:hH (XC x.v y.v=M):=K;have j:hH (zPd x.ce y.ce=qc):=G;have m:hH (Jl x.ar y.ar=qr):=I;have l:hH (Jl x.pr y.pr=qp):=H;clear K G I H;go_enter func134,ntmps134;go_upto_region 1 with fail
 generalize((w.alloc (Z (QE x g).toArray 86)).alloc (Z (QE y i).toArray 86))=W at*;have e0:=pA.2.1 0 _ rfl;have d0:=pB.2.1 0 _ rfl;have e1:=pA.2.1 1 _ rfl;have d1:=pB.2.1 1 _ rfl;have e2:=pA.2.1 2 _ rfl;have d2:=pB.2.1 2 _ rfl;have e3:=pA.2.1 3 _ rfl;have d3:=pB.2.1 3 _ rfl;have e4:=pA.2.1 4 _ rfl;have d4:=pB.2.1 4 _ rfl;have e5:=pA.2.1 5 _ rfl;have d5:=pB.2.1 5 _ rfl;have e6:=pA.2.1 6 _ rfl;have d6:=pB.2.1 6 _ rfl;have e7:=pA.2.1 7 _ rfl;have d7:=pB.2.1 7 _ rfl;have e8:=pA.2.1 8 _ rfl;have d8:=pB.2.1 8 _ rfl;have e9:=pA.2.1 9 _ rfl;have d9:=pB.2.1 9 _ rfl;have an:=pA.2.1 10 _ rfl;have aa:=pB.2.1 10 _ rfl;have ao:=pA.2.1 11 _ rfl;have ab:=pB.2.1 11 _ rfl;have ap:=pA.2.1 12 _ rfl;have ac:=pB.2.1 12 _ rfl;have aq:=pA.2.1 13 _ rfl;have ad:=pB.2.1 13 _ rfl;have au:=pA.2.1 14 _ rfl;have ae:=pB.2.1 14 _ rfl;have aw:=pA.2.1 15 _ rfl;have af:=pB.2.1 15 _ rfl;have ax:=pA.2.1 16 _ rfl;have ag:=pB.2.1 16 _ rfl;have ay:=pA.2.1 17 _ rfl;have ah:=pB.2.1 17 _ rfl;have az:=pA.2.1 18 _ rfl;have ai:=pB.2.1 18 _ rfl;have aA:=pA.2.1 19 _ rfl;have aj:=pB.2.1 19 _ rfl;have aB:=pA.2.1 20 _ rfl;have ak:=pB.2.1 20 _ rfl;have aC:=pA.2.1 21 _ rfl;have al:=pB.2.1 21 _ rfl;have aD:=pA.2.1 22 _ rfl;have am:=pB.2.1 22 _ rfl;clear pA pB;by_cases p:x.a=y.a
 ·by_cases r:x.b=y.b
  ·cases M with
   |false =>
    go_wp2;go_ret;exact⟨by simp[smI,o.out,j.out,m.out,l.out],(clB c)⟩
   |true =>
    cases qc with
    |false =>
     go_wp2;go_ret;exact⟨by simp[smI,o.out,j.out,m.out,l.out],(clB c)⟩
    |true =>
     cases qr with
     |false =>
      go_wp2;go_ret;exact⟨by simp[smI,o.out,j.out,m.out,l.out],(clB c)⟩
     |true =>
      cases qp with
      |false =>
       go_wp2;go_ret;exact⟨by simp[smI,o.out,j.out,m.out,l.out],(clB c)⟩
      |true =>
       go_wp2_with fail
       refine(C _ (bZ _ _)).mono ?_;rintro e w1 ⟨rfl,E⟩;have D:=QA c E;go_wp2;go_ret;exact⟨by simp[smI,p,r,o.out,j.out,m.out,l.out],(clB D)⟩
  ·go_wp2;go_ret;exact⟨by simp[smI,p,r],(clB c)⟩
 ·go_wp2;go_ret;exact⟨by simp[smI,p],(clB c)⟩
def v0I:Wt.Vl:=⟨0,0,0,⟨#[]⟩,mW,0⟩
def c0I:Wpl.Cl:=⟨0,0,0⟩
def a0I:Wpl.Ar:=⟨0,0,0,0,0⟩
def QK(k:Int):Wc.In:=⟨k,0,0,v0I,c0I,a0I,a0I⟩
abbrev QN:vW:=U jW 0 0
abbrev Q6(w:wW)(x:Wc.In)(tv:vW):wW:=(w.alloc (Z (QE x tv).toArray 86)).alloc (Z #[O J 0,O J 0,O J 0,O J 0,O J 0,O J 0,V ⟨#[]⟩,Y mW,O J 0,O J 0,O J 0,O J 0,O J 0,O J 0,O J 0,O J 0,O J 0,O J 0,O J 0,O J 0,O J 0,O J 0,U jW 0 0] 86)
theorem zMt(x:Wc.In)(av:Option dW)(n c:Nat):∀v∈QE x (U av n c),v.oneCell'=lW:=by
 intro v d;simp only[QE,nX,wX,or_false]at d;rcases d with rfl|rfl|rfl|rfl|rfl|rfl|rfl|rfl|rfl|rfl|rfl|rfl|rfl|rfl|rfl|rfl|rfl|rfl|rfl|rfl|rfl|rfl|rfl <;> rfl
theorem JN(x:Wc.In)(av:Option dW)(n c:Nat):(QE x (U av n c)).toArray.all (·.oneCell')=lW:=all_oneCell_toArray (zMt x av n c)
abbrev zQw(ka kb:Nat)(x:Wc.In)(tv:vW)(W:wW):Prop :=
 W.cell? ⟨ka,3,jW⟩=kW (O J x.v.k)/\W.cell? ⟨ka,4,jW⟩=kW (O J x.v.n)/\W.cell? ⟨ka,5,jW⟩=kW (O J x.v.d)/\W.cell? ⟨ka,6,jW⟩=kW (V x.v.t)/\W.cell? ⟨ka,7,jW⟩=kW (Y x.v.b)/\W.cell? ⟨ka,8,jW⟩=kW (O J x.v.f)/\W.frozen? ⟨kb,3,jW⟩=mW/\W.frozen? ⟨kb,4,jW⟩=mW/\W.frozen? ⟨kb,5,jW⟩=mW/\W.frozen? ⟨kb,6,jW⟩=mW/\W.frozen? ⟨kb,7,jW⟩=mW/\W.frozen? ⟨kb,8,jW⟩=mW
theorem zFV{y:Wc.In}{e:vW}(c:AtL W ka (QE x tv))(d:AtL W kb (QE y e)):zQw ka kb x tv W :=
 ⟨c.2.1 3 _ rfl,c.2.1 4 _ rfl,c.2.1 5 _ rfl,c.2.1 6 _ rfl,c.2.1 7 _ rfl,c.2.1 8 _ rfl,d.2.2 3 (by show 3<23;decide),d.2.2 4 (by show 4<23;decide),d.2.2 5 (by show 5<23;decide),d.2.2 6 (by show 6<23;decide),d.2.2 7 (by show 7<23;decide),d.2.2 8 (by show 8<23;decide)⟩
theorem zA1(h:zQw ka kb x tv W)(c:kb≠ka)(j:Nat)(u:vW):zQw ka kb x tv (W.setCell ⟨kb,j,jW⟩ u):=by
 obtain⟨m,o,p,q,r,y,d,e,f,g,i,l⟩:=h;refine⟨?_,?_,?_,?_,?_,?_,?_,?_,?_,?_,?_,?_⟩;any_goals rw[gZ _ _ _ _ (by simpa using c)];assumption
 all_goals rw[pY];assumption
theorem zLJ(x:Wc.In)(av:Option dW)(n c:Nat)(o:List Int)(w:wW)(hk:x.op=1)(hz:RdZ w (U av n c) o)(M:o.length<=1000000)(h1:-9223372036854775808<=x.v.n)(h2:x.v.n<=9223372036854775807)(h3:-9223372036854775808<=x.v.d)(h4:x.v.d<=9223372036854775807)(hs:x.v.t.size<=9223372036854775807) :
  CR 99 #[inV x (U av n c)] w (Y (Wv.right x.v.k x.v.n x.v.d x.v.t x.v.b x.v.f&&(smI x ⟨1,0,0,x.v,c0I,a0I,a0I⟩&&nW (o=[])))):=by
 have C:=(λw=>zC4 x.v w h1 h2 h3 h4 hs:∀w:wW,CR 129 #[gX #[O J x.v.k,O J x.v.n,O J x.v.d,V x.v.t,Y x.v.b,O J x.v.f]] w (Y (Wv.right x.v.k x.v.n x.v.d x.v.t x.v.b x.v.f)))
 have N:∀w',bL w w'->CR 134 #[gX (QE x (U av n c)).toArray,gX (QE ⟨1,0,0,x.v,c0I,a0I,a0I⟩ QN).toArray] w' (Y (smI x ⟨1,0,0,x.v,c0I,a0I,a0I⟩&&nW (o=[]))):=λw' u=>Q5 x ⟨1,0,0,x.v,c0I,a0I,a0I⟩ _ _ o [] w' (hz.below u) (RdZ.nil _) M (by first|exact M|simp)
 obtain⟨tv,z⟩:=xV (U av n c)
 rw[z]at N ⊢;generalize(smI x ⟨1,0,0,x.v,c0I,a0I,a0I⟩&&nW (o=[]))=R at*;generalize Wv.right x.v.k x.v.n x.v.d x.v.t x.v.b x.v.f=q at*;have D:AtL (Q6 w x tv) w.heap.size (QE x tv):=(AtL.new0 w _ _).alloc _;have m:AtL (Q6 w x tv) (w.heap.size+1) (QE (QK 0) QN):=AtL.new1 w _ _ _;have y:nZ (Q6 w x tv) (w.heap.size+1) 0 (QE (QK 1) QN).toArray.size:=m.there;have i:w.heap.size+1≠w.heap.size:=oM;have pA:=D.farAll i 0 (QE (QK 1) QN);have H:AtL ((Q6 w x tv).setCells (w.heap.size+1) 0 (QE (QK 1) QN)) (w.heap.size+1) (QE (QK 1) QN):=m.setAll rfl;have r:bL w ((Q6 w x tv).setCells (w.heap.size+1) 0 (QE (QK 1) QN)):=Ql (QI (QI (bZ _ w) _) _) (Nat.le_succ _) _ 0;clear D m;have n0:(QE x tv)[0]?=kW (O J 1):=by rw[<-hk];rfl
 have a0:=pA.2.1 0 _ n0;show cW _ _ #[gX (QE x tv).toArray] _ _
 have X:=zFV pA H;clear hz M z;cases q
 all_goals
  go_enter func99,ntmps99;go_upto_region 1 with fail
  go_upto_region 2 with((with_reducible refine stQ 86 (mX 3) (mX 7) (w.heap.size+1) 0 (QE (QK 1) QN).toArray ?_ ?_ ?_);exact y;exact JN _ _ _ _)
  generalize(Q6 w x tv).setCells (w.heap.size+1) 0 (QE (QK 1) QN)=W0 at*;clear y;go_upto_region 4 with fail
  go_region_held3 (zQw w.heap.size (w.heap.size+1) x tv)
   (with_reducible first|exact X|assumption|exact zFV l g|exact(zA1 (zA1 (zA1 (zA1 (zA1 (zA1 (by assumption) oM _ _) oM _ _) oM _ _) oM _ _) oM _ _) oM _ _)|exact zFV (AtL.drew pA) (AtL.drew H))
   (first|(go_at_call 129;refine(C _).mono ?_;rintro e w1 ⟨rfl,u⟩;have l:=AtL.below u (AtL.drew pA);have g:=AtL.below u (AtL.drew H);have o3:=g.2.1 3 _ rfl;have o4:=g.2.1 4 _ rfl;have o5:=g.2.1 5 _ rfl;have o6:=g.2.1 6 _ rfl;have o7:=g.2.1 7 _ rfl;have o8:=g.2.1 8 _ rfl;have p:=QA r.drew u))
  all_goals
   clear pA H X C r o3 o4 o5 o6 o7 o8 a0;have E:=((((((l.far i 3 (O J x.v.k)).far i 4 (O J x.v.n)).far i 5 (O J x.v.d)).far i 6 (V x.v.t)).far i 7 (Y x.v.b)).far i 8 (O J x.v.f))
   have G:=((((((g.set 3 (O J x.v.k)).set 4 (O J x.v.n)).set 5 (O J x.v.d)).set 6 (V x.v.t)).set 7 (Y x.v.b)).set 8 (O J x.v.f))
   have j:bL w ((((((w1.setCell ⟨w.heap.size+1,3,jW⟩ (O J x.v.k)).setCell ⟨w.heap.size+1,4,jW⟩ (O J x.v.n)).setCell ⟨w.heap.size+1,5,jW⟩ (O J x.v.d)).setCell ⟨w.heap.size+1,6,jW⟩ (V x.v.t)).setCell ⟨w.heap.size+1,7,jW⟩ (Y x.v.b)).setCell ⟨w.heap.size+1,8,jW⟩ (O J x.v.f)):=(clB p)
   clear l g p;generalize((((((w1.setCell ⟨w.heap.size+1,3,jW⟩ (O J x.v.k)).setCell ⟨w.heap.size+1,4,jW⟩ (O J x.v.n)).setCell ⟨w.heap.size+1,5,jW⟩ (O J x.v.d)).setCell ⟨w.heap.size+1,6,jW⟩ (V x.v.t)).setCell ⟨w.heap.size+1,7,jW⟩ (Y x.v.b)).setCell ⟨w.heap.size+1,8,jW⟩ (O J x.v.f))=W2 at*;have rA:=E.range;have rO:=G.range;clear E G;go_wp2_with (first|((with_reducible refine ldQ 86 (mX 1) w.heap.size 0 (QE x tv) _ ?_ underlying86 ?_);exact rA)|((with_reducible refine ldQ 86 (mX 3) (w.heap.size+1) 0 (QE ⟨1,0,0,x.v,c0I,a0I,a0I⟩ QN) _ ?_ underlying86 ?_);exact rO)|(go_at_call 134;refine(N _ j).mono ?_;rintro e w3 ⟨rfl,K⟩;have I:=QA j K))
   go_wp2;go_ret;first
   |exact⟨sM,j⟩
   |exact⟨sM,I⟩
end Go.Proofs.YthcblmpncpcfkaaGreatDoor
namespace Go.Proofs.YthcblmpncpcfkaaGreatDoor.Wf
open Go.Proofs.YthcblmpncpcfkaaGreatDoor
def idx(s:ByteArray):List ByteArray->Nat->Int
 |[],_=>-1
 |t::r,i=>if t=s then(i:Int)else idx s r (i+1)
def shN(own:Int)(nm:List ByteArray)(s:ByteArray):Int:=if s=⟨#[]⟩then own else idx s nm 0
def Jg(x:Wt.Nd):Wpl.Ar:=⟨0,min x.a.r x.b.r,min x.a.c x.b.c,max x.a.r x.b.r,max x.a.c x.b.c⟩
def Qi(own:Int)(nm:List ByteArray)(x:Wt.Nd):Wpl.Ar:={Jg x with s:=shN own nm x.a.s}
def zKH(own:Int)(nm:List ByteArray)(x:Wt.Nd):Wpl.Cl:=⟨shN own nm x.a.s,x.a.r,x.a.c⟩
def isA(x:Wt.Nd):Bool:=x.k == 3
def JD(s:ByteArray):Nat:=fnN.findIdx (λl=>nW ((⟨l.toArray⟩:ByteArray)=s))
def JF(p:List UInt8):List Wt.Nd->Nat->Bool
 |[],_=>lW
 |x::r,i=>if(p.getD (min i (p.length-1)) 0 == 97 && !isA x)||(p.getD (min i (p.length-1)) 0 == 118&&isA x)then mW else JF p r (i+1)
def J6(l:List Wt.Nd):List Wt.Nd:=l.filter isA
def J9(id:Int)(l:List Wt.Nd):Bool :=
 if Wc.pairs id then
  let a:=Jg ((J6 l).headD ⟨0,v0I,0,⟨#[]⟩,0,Wt.r0,Wt.r0⟩)
  let b:=Jg ((J6 l).getLastD ⟨0,v0I,0,⟨#[]⟩,0,Wt.r0,Wt.r0⟩)
  (a.b-a.t == b.b-b.t)&&(a.r-a.l == b.r-b.l)
 else lW
def Vh(x:Wt.Nd)(ks:List Wt.Nd):Int :=
 let id:Int:=(JD x.nm:Nat)
 if JL id=mW then 80
 else if x.ar<(QR id).l\/(QR id).m<x.ar then 81
 else if JF (QR id).p.data.toList ks 0=mW then 82
 else if J9 id ks=mW then 83 else 0
def V7(own:Int)(nm:List ByteArray)(x:Wt.Nd)(ks:List Wt.Nd):Int :=
 if x.k=2\/x.k=3 then(if shN own nm x.a.s<0 then 84 else 0)
 else if x.k=4\/x.k=5 then(if ks.any isA then 82 else 0)
 else if x.k=6 then Vh x ks else 0
def zPi:List Int->Int
 |[]=>0
 |a::r=>if a=0 then zPi r else a
def VC(own:Int)(nm:List ByteArray):(n:Nat)->Tr n->Int
 |0,t=>Empty.elim t
 |n+1,t=>zPi (V7 own nm (Br.x t) ((Br.ks t).map (hd n))::(Br.ks t).map (VC own nm n))
abbrev I:=Wc.In×List Int
def ins(o a b:Int):I:=(⟨o,a,b,v0I,c0I,a0I,a0I⟩,[])
def Jt(v:Wt.Vl):I:=(⟨1,0,0,v,c0I,a0I,a0I⟩,[])
def zPN(c:Wpl.Cl):I:=(⟨2,0,0,v0I,c,a0I,a0I⟩,[])
def Jz(o b:Int)(a p:Wpl.Ar):I:=(⟨o,0,b,v0I,c0I,a,p⟩,[])
def VP(k:Int):Wt.Vl:=⟨1,k,1,⟨#[]⟩,mW,0⟩
def zPO:Wt.Vl:=⟨3,0,0,⟨#[]⟩,mW,0⟩
def Qc{α:Type}(f:α->Nat->List I):List α->Nat->List I
 |[],_=>[]
 |k::r,a=>f k a++Qc f r (a+(f k a).length)
def JE{α:Type}(f:α->Nat->List I)(k:α)(a:Nat):List I:=f k a++[ins 7 0 0]
section
variable (own:Int)(nm:List ByteArray)
def VJ{α:Type}(h:α->Wt.Nd)(f:α->Nat->List I)(k:α)(a:Nat):List I :=
 if isA (h k)then[Jz 8 0 (Qi own nm (h k)) a0I]else JE f k a
def VN{α:Type}(h:α->Wt.Nd)(f:α->Nat->List I)(id:Int)(ks:List α)(a:Nat):List I :=
 let ars:=J6 (ks.map h)
 let vs:=ks.filter (λk=>!isA (h k))
 let x:=Qi own nm (ars.headD ⟨0,v0I,0,⟨#[]⟩,0,Wt.r0,Wt.r0⟩)
 let y:=Qi own nm (ars.getLastD ⟨0,v0I,0,⟨#[]⟩,0,Wt.r0,Wt.r0⟩)
 if id=26 then[Jt (VP (x.b-x.t+1))]
 else if id=27 then[Jt (VP (x.r-x.l+1))]
 else if id=25 then Qc f vs a++[Jz 11 vs.length x a0I]
 else ins 6 id 0::(Qc (JE f) vs (a+1)++[if Wc.pairs id then Jz 9 0 x y else Jz 8 0 x a0I,ins 10 0 0])
def VK{α:Type}(f:α->Nat->List I)(c:α)(d:List α)(a:Nat):List I :=
 let y:=f c (a+1)
 let m:=a+1+y.length+1
 let z:=if d.isEmpty then[Jt zPO]else Qc f d m
 ins 12 m (m+z.length:Nat)::(y++ins 13 (m+z.length:Nat) 0::z)
def chB{α:Type}(f:α->Nat->List I)(e:Int):List α->Nat->List I
 |[],_=>[]
 |k::r,a=>ins 13 e 0::(f k (a+1)++chB f e r (a+1+(f k (a+1)).length))
def chT{α:Type}(f:α->Nat->List I):List α->Nat->List Int
 |[],_=>[]
 |k::r,a=>((a+1:Nat):Int)::chT f r (a+1+(f k (a+1)).length)
def Ju{α:Type}(f:α->Nat->List I)(l:List α)(a:Nat):List I :=
 match l with
 |[]=>[(⟨15,0,(a+1:Nat),v0I,c0I,a0I,a0I⟩,[])]
 |k::r =>
  let y:=f k (a+1)
  let m:=a+1+y.length
  let e:=m+(chB f 0 r m).length
  (⟨15,0,(e:Nat),v0I,c0I,a0I,a0I⟩,((a+1:Nat):Int)::chT f r m)::(y++chB f e r m)
def VI{α:Type}(f:α->Nat->List I)(id:Int)(ks:List α)(a:Nat):List I :=
 match ks with
 |[]=>[]
 |c::r =>
  let y:=f c a
  y++(match r with
   |[]=>if id=32 then Ju f [] (a+y.length)else[]
   |u::no=>if id=30 then VK f u no (a+y.length)
    else if id=31 then ins 14 (a+y.length+1+(f u (a+y.length+1)).length:Nat) 0::f u (a+y.length+1)
    else Ju f (u::no) (a+y.length))
def VM{α:Type}(h:α->Wt.Nd)(f:α->Nat->List I)(x:Wt.Nd)(ks:List α)(a:Nat):List I :=
 let id:Int:=(JD x.nm:Nat)
 let c:=(QR id).c
 if c=4 then Qc f ks a++[ins 5 id x.ar]
 else if c=1 then ins 6 id 0::(Qc (VJ own nm h f) ks (a+1)++[ins 10 0 0])
 else if c=2 then VN own nm h f id ks a
 else VI f id ks a
def JY{α:Type}(h:α->Wt.Nd)(f:α->Nat->List I)(x:Wt.Nd)(ks:List α)(a:Nat):List I :=
 if x.k=1 then[Jt x.v]
 else if x.k=2 then[zPN (zKH own nm x)]
 else if x.k=4 then Qc f ks a++[ins 3 x.op 0]
 else if x.k=5 then Qc f ks a++[ins 4 x.op 0]
 else if x.k=6 then VM own nm h f x ks a else[]
def cod:(n:Nat)->Tr n->Nat->List I
 |0,t,_=>Empty.elim t
 |n+1,t,a=>JY own nm (hd n) (cod n) (Br.x t) (Br.ks t) a
end
end Go.Proofs.YthcblmpncpcfkaaGreatDoor.Wf
namespace Go.Proofs.YthcblmpncpcfkaaGreatDoor
open Tryz
open Go.RowKit
variable {w:wW}{b ck:Nat}{es:Array MapEntry}{P:Program}
theorem zGQ(id:Int)(w:wW)(c:NmAt w):CR 160 #[O J id] w (uX #[gX (VH id).toArray,Y (JL id)]):=by
 unfold VH;by_cases f:id<0
 ·have e:JL id=mW:=by unfold JL;rw[decide_eq_false oM];rfl
  rw[e];exact zMQ id w c f
 by_cases g:63<=id
 ·have e:JL id=mW:=by unfold JL;rw[decide_eq_false (p:=id<63) oM,oY,kX]
  rw[e];exact zKe id w c g
 by_cases d:VZ id=[]
 ·have e:JL id=mW:=by unfold JL;rw[d];simp
  rw[e];exact zKk id w c oM oM d
 ·have e:JL id=lW:=by
   unfold JL;rw[decide_eq_true oM,decide_eq_true oM];cases i:VZ id with
   |nil=>exact absurd i d
   |cons a t=>rfl
  rw[e,if_pos rfl];exact zOL id w c oM oM d
def apl(id n:Int):Bool:=JL id&&((QR id).c == 4&&(nW ((QR id).l<=n)&&nW (n<=(QR id).m)))
theorem zEw(id n:Int)(w:wW)(K:NmAt w):CR 130 #[O J id,O J n] w (Y (apl id n)):=by
 have o:=zGQ id w K;unfold VH at o;unfold apl;cases y:JL id with
 |false =>
  rw[y,if_neg sM]at o;unfold zero6 at o;clear y K;go_enter func130,ntmps130;go_wp2_with fail
  refine o.mono ?_;rintro e w1 ⟨rfl,d⟩;have q:=AtL.new0 w1 242 (sg6 0 0 ⟨#[]⟩ 0 0 ⟨#[]⟩);have f:=QI d (Z (sg6 0 0 ⟨#[]⟩ 0 0 ⟨#[]⟩).toArray 242);obtain⟨b0,b1,b2,b3,r,u,z,C,D,E,G,H⟩:=at6 q;clear o;go_wp2;go_ret;exact⟨sM,(clB d)⟩
 |true =>
  rw[y,if_pos rfl]at o;clear y K;generalize QR id=s at*;generalize(⟨(VZ id).toArray⟩:ByteArray)=nm at*;cases R:(s.c == 4)with
  |false =>
   go_enter func130,ntmps130;go_wp2_with fail
   refine o.mono ?_;rintro e w1 ⟨rfl,d⟩;have q:=AtL.new0 w1 242 (sg6 0 0 ⟨#[]⟩ 0 0 ⟨#[]⟩);have f:=QI d (Z (sg6 0 0 ⟨#[]⟩ 0 0 ⟨#[]⟩).toArray 242);have i:nZ (w1.alloc (Z (sg6 0 0 ⟨#[]⟩ 0 0 ⟨#[]⟩).toArray 242)) w1.heap.size 0 (sg6 id s.c nm s.l s.m s.p).toArray.size:=q.there;clear o;go_upto_region 2 with((with_reducible refine stQ 242 (mX 5) (mX 10) (w1.heap.size) 0 (sg6 id s.c nm s.l s.m s.p).toArray ?_ ?_ ?_);exact i;exact zPP _ _ _ _ _ _)
   have j:AtL ((w1.alloc (Z (sg6 0 0 ⟨#[]⟩ 0 0 ⟨#[]⟩).toArray 242)).setCells w1.heap.size 0 (sg6 id s.c nm s.l s.m s.p)) w1.heap.size (sg6 id s.c nm s.l s.m s.p):=q.setAll rfl;have g:bL w ((w1.alloc (Z (sg6 0 0 ⟨#[]⟩ 0 0 ⟨#[]⟩).toArray 242)).setCells w1.heap.size 0 (sg6 id s.c nm s.l s.m s.p)):=Ql f d.size _ 0;generalize nY (w1.alloc (Z (sg6 0 0 ⟨#[]⟩ 0 0 ⟨#[]⟩).toArray 242)) w1.heap.size 0 (sg6 id s.c nm s.l s.m s.p)=I at*;obtain⟨b0,b1,b2,b3,r,u,z,C,D,E,G,H⟩:=at6 j;go_wp2;go_ret;exact⟨sM,g⟩
  |true =>
   by_cases M:s.l<=n
   ·by_cases N:n<=s.m
    ·go_enter func130,ntmps130;go_wp2_with fail
     refine o.mono ?_;rintro e w1 ⟨rfl,d⟩;have q:=AtL.new0 w1 242 (sg6 0 0 ⟨#[]⟩ 0 0 ⟨#[]⟩);have f:=QI d (Z (sg6 0 0 ⟨#[]⟩ 0 0 ⟨#[]⟩).toArray 242);have i:nZ (w1.alloc (Z (sg6 0 0 ⟨#[]⟩ 0 0 ⟨#[]⟩).toArray 242)) w1.heap.size 0 (sg6 id s.c nm s.l s.m s.p).toArray.size:=q.there;clear o;go_upto_region 2 with((with_reducible refine stQ 242 (mX 5) (mX 10) (w1.heap.size) 0 (sg6 id s.c nm s.l s.m s.p).toArray ?_ ?_ ?_);exact i;exact zPP _ _ _ _ _ _)
     have j:AtL ((w1.alloc (Z (sg6 0 0 ⟨#[]⟩ 0 0 ⟨#[]⟩).toArray 242)).setCells w1.heap.size 0 (sg6 id s.c nm s.l s.m s.p)) w1.heap.size (sg6 id s.c nm s.l s.m s.p):=q.setAll rfl;have g:bL w ((w1.alloc (Z (sg6 0 0 ⟨#[]⟩ 0 0 ⟨#[]⟩).toArray 242)).setCells w1.heap.size 0 (sg6 id s.c nm s.l s.m s.p)):=Ql f d.size _ 0;generalize nY (w1.alloc (Z (sg6 0 0 ⟨#[]⟩ 0 0 ⟨#[]⟩).toArray 242)) w1.heap.size 0 (sg6 id s.c nm s.l s.m s.p)=I at*;obtain⟨b0,b1,b2,b3,r,u,z,C,D,E,G,H⟩:=at6 j;go_wp2;go_ret;exact⟨by simp[M,N],g⟩
    ·go_enter func130,ntmps130;go_wp2_with fail
     refine o.mono ?_;rintro e w1 ⟨rfl,d⟩;have q:=AtL.new0 w1 242 (sg6 0 0 ⟨#[]⟩ 0 0 ⟨#[]⟩);have f:=QI d (Z (sg6 0 0 ⟨#[]⟩ 0 0 ⟨#[]⟩).toArray 242);have i:nZ (w1.alloc (Z (sg6 0 0 ⟨#[]⟩ 0 0 ⟨#[]⟩).toArray 242)) w1.heap.size 0 (sg6 id s.c nm s.l s.m s.p).toArray.size:=q.there;clear o;go_upto_region 2 with((with_reducible refine stQ 242 (mX 5) (mX 10) (w1.heap.size) 0 (sg6 id s.c nm s.l s.m s.p).toArray ?_ ?_ ?_);exact i;exact zPP _ _ _ _ _ _)
     have j:AtL ((w1.alloc (Z (sg6 0 0 ⟨#[]⟩ 0 0 ⟨#[]⟩).toArray 242)).setCells w1.heap.size 0 (sg6 id s.c nm s.l s.m s.p)) w1.heap.size (sg6 id s.c nm s.l s.m s.p):=q.setAll rfl;have g:bL w ((w1.alloc (Z (sg6 0 0 ⟨#[]⟩ 0 0 ⟨#[]⟩).toArray 242)).setCells w1.heap.size 0 (sg6 id s.c nm s.l s.m s.p)):=Ql f d.size _ 0;generalize nY (w1.alloc (Z (sg6 0 0 ⟨#[]⟩ 0 0 ⟨#[]⟩).toArray 242)) w1.heap.size 0 (sg6 id s.c nm s.l s.m s.p)=I at*;obtain⟨b0,b1,b2,b3,r,u,z,C,D,E,G,H⟩:=at6 j;go_wp2;go_ret;exact⟨by simp[M],g⟩
   ·go_enter func130,ntmps130;go_wp2_with fail
    refine o.mono ?_;rintro e w1 ⟨rfl,d⟩;have q:=AtL.new0 w1 242 (sg6 0 0 ⟨#[]⟩ 0 0 ⟨#[]⟩);have f:=QI d (Z (sg6 0 0 ⟨#[]⟩ 0 0 ⟨#[]⟩).toArray 242);have i:nZ (w1.alloc (Z (sg6 0 0 ⟨#[]⟩ 0 0 ⟨#[]⟩).toArray 242)) w1.heap.size 0 (sg6 id s.c nm s.l s.m s.p).toArray.size:=q.there;clear o;go_upto_region 2 with((with_reducible refine stQ 242 (mX 5) (mX 10) (w1.heap.size) 0 (sg6 id s.c nm s.l s.m s.p).toArray ?_ ?_ ?_);exact i;exact zPP _ _ _ _ _ _)
    have j:AtL ((w1.alloc (Z (sg6 0 0 ⟨#[]⟩ 0 0 ⟨#[]⟩).toArray 242)).setCells w1.heap.size 0 (sg6 id s.c nm s.l s.m s.p)) w1.heap.size (sg6 id s.c nm s.l s.m s.p):=q.setAll rfl;have g:bL w ((w1.alloc (Z (sg6 0 0 ⟨#[]⟩ 0 0 ⟨#[]⟩).toArray 242)).setCells w1.heap.size 0 (sg6 id s.c nm s.l s.m s.p)):=Ql f d.size _ 0;generalize nY (w1.alloc (Z (sg6 0 0 ⟨#[]⟩ 0 0 ⟨#[]⟩).toArray 242)) w1.heap.size 0 (sg6 id s.c nm s.l s.m s.p)=I at*;obtain⟨b0,b1,b2,b3,r,u,z,C,D,E,G,H⟩:=at6 j;go_wp2;go_ret;exact⟨by simp;omega,g⟩
def FoldL(w:wW)(b o:Nat)(F:List (Int×Int)):Prop:=∃av cap,w.cell? ⟨b,o,jW⟩=kW (U av F.length cap)/\∀i (h:i<F.length),∃bb off,av=kW ⟨bb,off,jW⟩/\w.cell? ⟨bb,off+i*2,jW⟩=kW (O J (F[i]).1)/\w.cell? ⟨bb,off+i*2+1,jW⟩=kW (O J (F[i]).2)
theorem FoldL.below{w':wW}{o:Nat}{F:List (Int×Int)}(h:FoldL w b o F)(c:bL w w'):FoldL w' b o F:=by
 obtain⟨av,cap,d,f⟩:=h;refine⟨av,cap,QB c d,λi hi=>?_⟩;obtain⟨bb,off,e,g,j⟩:=f i hi;exact⟨bb,off,e,QB c g,QB c j⟩
theorem zJw(b o:Nat)(w:wW):CR 167 #[pX (kW ⟨b,o,jW⟩),O J 0] w (uX #[gX #[O J 0,O J 0],Y mW]):=by
 have c:=AtL.new0 w 257 [O J 0,O J 0];have d:=QI (bZ _ w) (Z #[O J 0,O J 0] 257);obtain⟨b0,b1,e,f⟩:=c.two;clear c;go_enter func167,ntmps167;go_upto_region 1 with fail
 generalize(w.alloc (Z #[O J 0,O J 0] 257))=W at*;go_wp2;refine bodyPost_ret (v:=uX #[gX #[O J 0,O J 0],Y mW]) (by simp[results,results167,go_sem,b0,b1]) rfl ⟨rfl,(clB d)⟩
theorem zMB(b o:Nat)(F:List (Int×Int))(i:Nat)(w:wW)(e:FoldL w b o F)(hi:i<F.length)(g:F.length<=1000000):CR 167 #[pX (kW ⟨b,o,jW⟩),O J ((i:Int)+1)] w (uX #[gX #[O J (F[i]).1,O J (F[i]).2],Y lW]):=by
 have f:=AtL.new0 w 257 [O J 0,O J 0];have d:=QI (bZ _ w) (Z #[O J 0,O J 0] 257);obtain⟨av,cap,j,c⟩:=e.below d;obtain⟨bb,off,rfl,l,m⟩:=c i hi;obtain⟨b0,b1,p,q⟩:=f.two;have z:((i:Int)+1 == 0)=mW:=by simp;omega
 have w1:J.wrap ((i:Int)+1-1)=(i:Int):=by rw[dZ];omega
 have w2:J.wrap (i:Int)=(i:Int):=by rw[dZ];omega
 have r:(0:Int)<=(i:Int):=oM;have u:(i:Int)<(F.length:Int):=oM;generalize(F[i]).1=x at*;generalize(F[i]).2=y at*;clear f c e hi g;go_enter func167,ntmps167;go_upto_region 1 with fail
 generalize(w.alloc (Z #[O J 0,O J 0] 257))=W at*;go_wp2;refine bodyPost_ret (v:=uX #[gX #[O J x,O J y],Y lW]) (by simp[results,results167,go_sem,b0,b1]) rfl ⟨rfl,(clB d)⟩
def fld(id:Int):Bool:=nW ((1<=id/\id<=15)\/(20<=id/\id<=24))
def QH(id n k:Int):List vW:=[O J id,O J 0,O J n,O J 1,O J k,O J 0,O J 0,V ⟨#[]⟩,Y mW,O J 0,O J 0,O J 0,O J 0,V ⟨#[]⟩,Y mW,O J 0,Y mW,Y mW,Y mW,O J 0,O J 0]
theorem zAP(id n k:Int):(QH id n k).toArray.all (·.oneCell')=lW:=by
 apply all_oneCell_toArray
 intro v c;simp only[QH,nX,wX,or_false]at c;rcases c with rfl|rfl|rfl|rfl|rfl|rfl|rfl|rfl|rfl|rfl|rfl|rfl|rfl|rfl|rfl|rfl|rfl|rfl|rfl|rfl|rfl <;> rfl
open Go.ChangeMaps (setBlock heap_setBlock_same heap_setBlock_other)
open Go.ChangeShapes Go.WideShapes Go.MapKept
theorem zAY(c:w.heap[b]?=kW (.map es ck))(o:Obj):w.grownBy (setBlock w b o) (kW b) :=
 ⟨rfl,rfl,rfl,by simp[setBlock],λi _ hi=>heap_setBlock_other c _ (λe=>hi (by rw[e]))⟩
theorem zE1{t k e:TypeId}(g:P.underlying t=kW (.map k e))(c:w.heap[b]?=kW (.map es ck)){key:vW}(val:vW)
  (d:(Instr.checkKey mW 10000 k key).run P w=.ok () w) (f:(Instr.findKey k key es.toList).run P w=.ok jW w) :
  (Instr.mapUpdate t (.map (kW b)) key val).run P w=.ok () (setBlock w b (.map (es.push ⟨key,val,ck⟩) (ck+1))):=by
 simp[Instr.mapUpdate,run_underlying g,MapKept.run_getObj_map c,d,f,MapKept.run_setObj_map _ c,cY,setBlock]
theorem zCj{t k e:TypeId}(g:P.underlying t=kW (.map k e))(c:w.heap[b]?=kW (.map es ck)){key v:vW}{j:Nat}
  (d:(Instr.checkKey es.isEmpty 10000 k key).run P w=.ok () w) (f:(Instr.findKey k key es.toList).run P w=.ok (kW (j,v)) w) :
  (Instr.lookup t (.map (kW b)) key lW).run P w=.ok (uX #[v,Y lW]) w:=by
 simp[Instr.lookup,run_underlying g,MapKept.run_getObj_map c,d,f,cY]
theorem zBh{t k e:TypeId}(g:P.underlying t=kW (.map k e))(c:w.heap[b]?=kW (.map es ck)){key z:vW}
  (d:(Instr.checkKey es.isEmpty 10000 k key).run P w=.ok () w) (f:(Instr.findKey k key es.toList).run P w=.ok jW w) (i:(zeroValue e).run P w=.ok z w) :
  (Instr.lookup t (.map (kW b)) key lW).run P w=.ok (uX #[z,Y mW]) w:=by
 simp[Instr.lookup,run_underlying g,MapKept.run_getObj_map c,d,f,i,cY]
def Vv:List (Int×Nat)->Array MapEntry
 |[]=>#[]
 |(k,f)::r=>(Vv r).push ⟨O J k,.func (.func f) #[] #[],r.length⟩
def KM(w:wW)(b:Nat)(l:List (Int×Nat)):Prop:=w.heap[b]?=kW (.map (Vv l) l.length)
theorem zBO(k:Int):∀(l:List MapEntry)(i:Nat),(∀e∈l,∃j,e.key=O J j/\j≠k)->Instr.findNow (.int J) (O J k) l i=kW jW
 |[],_,_=>rfl
 |e::r,i,h=>by
  obtain⟨j,d,f⟩:=h e (kZ ..);have g:Instr.sameNow (.int J) (O J k) e.key=kW mW:=by
   rw[d];simp[Instr.sameNow];omega
  simp only[Instr.findNow,g];exact zBO k r (i+1) λe c=>h e (uZ _ c)
theorem zDf(k:Int):∀l:List (Int×Nat),(∀p∈l,p.1≠k)->∀e∈(Vv l).toList,∃j,e.key=O J j/\j≠k
 |[],_,e,c=>by simp[Vv]at c
 |(q,f)::r,h,e,c=>by
  simp only[Vv,vX,bW,oX]at c;rcases c with c|rfl
  ·exact zDf k r (λp d=>h p (uZ _ d)) e c
  ·exact⟨q,rfl,h (q,f) (kZ ..)⟩
theorem zRc(c:Bool)(k:Int)(w:wW):(Instr.checkKey c 10000 3 (O J k)).run prog w=.ok () w:=kR
theorem zIg(l:List (Int×Nat))(k:Int)(h:∀p∈l,p.1≠k)(w:wW):(Instr.findKey 3 (O J k) (Vv l).toList).run prog w=.ok jW w:=by
 have c:=zBO k (Vv l).toList 0 (zDf k l h);simp[Instr.findKey,go_sem,c]
theorem zRX:prog.underlying 300=kW (.map 3 298):=kR
theorem zFW{ops:Array Oper}{rest:List Oper}{op:Oper}{a:Act}{Q:Exit->Act->wW->Prop}(e:op.guard=jW)(m x v:Operand)(l:op.op=.insert 300 m x v)(b:Nat)(i:a.eval m=.map (kW b))(k:Int)(q:a.eval x=O J k)(f:Nat)(o:a.eval v=.func (.func f) #[] #[])
  (r:List (Int×Nat)) (h:KM w b r) (j:∀p∈r,p.1≠k)
  (g:∀w',KM w' b ((k,f)::r)->w.grownBy w' (kW b)->wpList prog ops Q rest (a.put op.dst undef) w'):wpList prog ops Q (op::rest) a w:=by
 refine wpList_plain e λu d=>?_
 have c:=zE1 zRX h (.func (.func f) #[] #[]) (zRc mW k w) (zIg r k j w);unfold Oper.wp;simp[execOp,l,i,q,o,c,cY];exact d _ _ (g _ (heap_setBlock_same h _) (zAY h _))
def kT:List (Int×Nat):=[(24,240),(23,239),(22,238),(21,237),(20,236),(15,235),(14,234),(13,233),(12,232),(11,231),(10,230),(9,229),(8,228),(7,227),(6,226),(5,225),(4,224),(3,223),(2,222),(1,221)]
theorem zDS(w:wW):cW prog 212 #[] w λe w'=>(∃b,e=rX (.map (kW b))/\KM w' b kT)/\bL w w':=by
 have d:KM (w.alloc (.map #[] 0)) w.heap.size []:=by
  show(w.alloc (.map #[] 0)).heap[w.heap.size]?=kW (.map #[] 0)
  exact yY
 have c:=QI (bZ _ w) (.map #[] 0);have g:∀w:wW,(Instr.makeMap 300 jW).run prog w=.ok (.map (kW w.heap.size)) (w.alloc (.map #[] 0)):=λw=>by kernel_rfl
 go_enter func212,ntmps212;go_upto_region 1 with fail
 go_wp2_with (refine zFW rfl _ _ _ rfl w.heap.size rfl _ rfl _ rfl _ d dM ?_;clear d;intro i d f;replace c:=c.grown f c.size (λk e=>by cases e;exact eZ _);clear f)
 go_ret;exact⟨⟨_,rfl,d⟩,c⟩
end Go.Proofs.YthcblmpncpcfkaaGreatDoor
namespace Go.Proofs.YthcblmpncpcfkaaGreatDoor.Wc
def Vf(F:List (Nat×Int)):Nat->Nat->List Int
 |0,_=>[]
 |_+1,0=>[]
 |f+1,k+1=>match F[k]? with
  |none=>[]
  |some x=>Vf F f x.1++[x.2]
structure Rows(F:List (Nat×Int)):Prop where
 ahead:∀(k:Nat)(x:Nat×Int),F[k]?=kW x->x.1<=k
 once:∀(i j:Nat)(x:Nat×Int),F[i]?=kW x->F[j]?=kW x->i=j
theorem zAQ(F:List (Nat×Int))(f:Nat):Vf F f 0=[]:=by cases f <;> rfl
theorem JC(F:List (Nat×Int))(f k:Nat)(x:Nat×Int)(h:F[k]?=kW x):Vf F (f+1) (k+1)=Vf F f x.1++[x.2]:=by
 simp only[Vf,h]
theorem zLS{F:List (Nat×Int)}(h:Rows F):∀(f m n:Nat),m<=f->n<=f->m<=F.length->n<=F.length->Vf F f m=Vf F f n->m=n:=by
 intro f;induction f with
 |zero=>intro m n q u _ _ _;omega
 |succ f C =>
  intro m n q u r z e;cases m with
  |zero =>
   cases n with
   |zero=>rfl
   |succ k =>
    obtain⟨x,c⟩:∃x,F[k]?=kW x:=⟨_,cZ oM⟩
    rw[zAQ,JC F f k x c]at e;simp at e
  |succ j =>
   obtain⟨y,d⟩:∃y,F[j]?=kW y:=⟨_,cZ oM⟩
   cases n with
   |zero =>
    rw[zAQ,JC F f j y d]at e;simp at e
   |succ k =>
    obtain⟨x,c⟩:∃x,F[k]?=kW x:=⟨_,cZ oM⟩
    rw[JC F f j y d,JC F f k x c]at e;obtain⟨g,i⟩:=List.append_inj' e rfl;have D:=h.ahead j y d;have E:=h.ahead k x c;have l:=C y.1 x.1 oM oM oM oM g;have o:y.2=x.2:=by simpa using i
    have p:y=x:=Prod.ext l o;rw[p]at d;rw[h.once j k x d c]
theorem zMb{F:List (Nat×Int)}(h:Rows F)(x:Nat×Int):∀(f n:Nat),n<=F.length->Vf (F++[x]) f n=Vf F f n:=by
 intro f;induction f with
 |zero=>intro n _;rfl
 |succ f e =>
  intro n g;cases n with
  |zero=>rfl
  |succ k =>
   obtain⟨y,c⟩:∃y,F[k]?=kW y:=⟨_,cZ oM⟩
   have d:(F++[x])[k]?=kW y:=by rw[sZ oM];exact c
   have a:=h.ahead k y c;rw[JC F f k y c,JC _ f k y d,e y.1 oM]
theorem Rows.app{F:List (Nat×Int)}(h:Rows F){x:Nat×Int}(q:x.1<=F.length)(l:∀k:Nat,F[k]?≠kW x):Rows (F++[x]):=by
 have c:∀(k:Nat)(y:Nat×Int),(F++[x])[k]?=kW y->F[k]?=kW y\/(k=F.length/\y=x):=by
  intro k y e;by_cases p:k<F.length
  ·rw[sZ p]at e;exact vY e
  ·rw[wY oM]at e;by_cases o:k-F.length=0
   ·rw[o]at e;simp at e;exact xY ⟨oM,e.symm⟩
   ·rw[rZ (by simp;omega)]at e;cases e
 refine⟨λk y e=>?_,λi j y e1 e2=>?_⟩
 ·rcases c k y e with e|⟨rfl,rfl⟩
  ·exact h.ahead k y e
  ·exact q
 ·rcases c i y e1 with f|⟨r,g⟩
  ·rcases c j y e2 with d|⟨m,g⟩
   ·exact h.once i j y f d
   ·rw[g]at f;exact absurd f (l i)
  ·rcases c j y e2 with d|⟨m,_⟩
   ·rw[g]at d;exact absurd d (l j)
   ·rw[r,m]
theorem Rows.nil:Rows []:=⟨λk x e=>by simp at e,λi j x e=>by simp at e⟩
theorem zB2{F:List (Nat×Int)}(h:Rows F):∀(f n g:Nat),n<=f->n<=g->n<=F.length->Vf F f n=Vf F g n:=by
 intro f;induction f with
 |zero =>
  intro n g d _ _;have e:n=0:=oM;rw[e,zAQ,zAQ]
 |succ f i =>
  intro n g d l j;cases n with
  |zero=>rw[zAQ,zAQ]
  |succ k =>
   obtain⟨y,c⟩:∃y,F[k]?=kW y:=⟨_,cZ oM⟩
   have a:=h.ahead k y c;cases g with
   |zero=>omega
   |succ g=>rw[JC F f k y c,JC F g k y c,i y.1 g oM oM oM]
end Go.Proofs.YthcblmpncpcfkaaGreatDoor.Wc
namespace Go.Proofs.YthcblmpncpcfkaaGreatDoor
open Tryz
open Go.RowKit
open Go.ChangeMaps (setBlock heap_setBlock_same heap_setBlock_other)
open Go.ChangeShapes Go.WideShapes Go.MapKept
variable {w w' w'':wW}{S T:List Nat}{F:List (Nat×Int)}{b mb n:Nat}{lv v:vW}
abbrev fr2(x:Nat×Int):vW:=gX #[O J x.1,O J x.2]
def Ve:Nat->List (Nat×Int)->List MapEntry
 |_,[]=>[]
 |i,x::r=>⟨fr2 x,O J ((i:Int)+1),i⟩::Ve (i+1) r
theorem zFv:∀(F:List (Nat×Int))(i:Nat)(x:Nat×Int),Ve i (F++[x])=Ve i F++[⟨fr2 x,O J (((i+F.length:Nat):Int)+1),i+F.length⟩]
 |[],i,x=>rfl
 |y::r,i,x=>by
  show _::Ve (i+1) (r++[x])=_::(Ve (i+1) r++_)
  rw[zFv r (i+1) x];have e:i+1+r.length=i+(r.length+1):=oM;rw[e];rfl
def FM(w:wW)(b:Nat)(F:List (Nat×Int)):Prop:=∃es:Array MapEntry,w.heap[b]?=kW (.map es F.length)/\es.toList=Ve 0 F
theorem FM.lt(h:FM w b F):b<w.heap.size:=by
 obtain⟨es,h,_⟩:=h;rcases vZ b w.heap.size with g|g
 ·exact g
 ·rw[xZ g]at h;cases h
theorem FM.below(h:FM w b F)(f:bL w w'):FM w' b F:=by
 have c:=h.lt;obtain⟨es,d,e⟩:=h;exact⟨es,by rw[f.block b c];exact d,e⟩
theorem zRW(c:Bool)(x y:Int)(w:wW):(Instr.checkKey c 10000 257 (gX #[O J x,O J y])).run prog w=.ok () w:=kR
theorem zOV(x y d e:Int)(w:wW):(Op.equal 257 (gX #[O J x,O J y]) (gX #[O J d,O J e])).run prog w=.ok ((x == d)&&(y == e)) w:=by
 show(Op.equalIn (9998+2) 257 _ _).run _ _=_
 by_cases c:x=d
 ·by_cases f:y=e
  ·simp[go_sem,c,f]
  ·simp[go_sem,c,f]
 ·simp[go_sem,c]
theorem zOl(x y:Nat×Int)(w:wW):(Op.equal 257 (fr2 x) (fr2 y)).run prog w=.ok (y == x) w:=by
 rw[zOV];congr 1
 obtain⟨a,b⟩:=x;obtain⟨c,d⟩:=y;rw[iY];simp only[hZ,beq_iff_eq,Prod.mk.injEq];omega
theorem zQ7(x:Nat×Int)(w:wW):∀(F:List (Nat×Int))(i:Nat),(Instr.findAsking 257 (fr2 x) (Ve i F) i).run prog w=.ok ((F.findIdx? (· == x)).map λk=>(i+k,O J (((i+k:Nat):Int)+1))) w
 |[],i=>rfl
 |y::r,i=>by
  have h:=zQ7 x w r (i+1);have e:=zOl x y w;unfold Ve;rw[List.findIdx?_cons];cases c:(y == x)with
  |true =>
   rw[c]at e;simp[Instr.findAsking,e,cY]
  |false =>
   rw[c]at e;simp[Instr.findAsking,e,cY,h];cases r.findIdx? (· == x)with
   |none=>rfl
   |some k =>
    simp;omega
theorem zQz(x:Nat×Int)(F:List (Nat×Int))(w:wW):(Instr.findKey 257 (fr2 x) (Ve 0 F)).run prog w=.ok ((F.findIdx? (· == x)).map λk=>(k,O J ((k:Int)+1))) w:=by
 have h:=zQ7 x w F 0;cases F with
 |nil=>simp[Instr.findKey,go_sem,Ve,Instr.findNow]
 |cons y r =>
  simp[Instr.findKey,go_sem,Ve,Instr.findNow,Instr.sameNow];simpa[Ve]using h
structure Fr(S:List Nat)(w w':wW):Prop where
 os:w'.os=w.os
 tape:w'.tape=w.tape
 output:w'.output=w.output
 size:w.heap.size<=w'.heap.size
 block:∀k:Nat,k<w.heap.size->k∉S->w'.heap[k]?=w.heap[k]?
theorem Fr.refl(S:List Nat)(w:wW):Fr S w w:=⟨rfl,rfl,rfl,eZ _,λ_ _ _=>rfl⟩
theorem Fr.of_below(S:List Nat){w w':wW}(h:bL w w'):Fr S w w':=⟨h.os,h.tape,h.output,h.size,λk c _=>h.block k c⟩
theorem Fr.of_grown{row:Option Nat}(h:w.grownBy w' row)(f:∀k,row=kW k->k∈S):Fr S w w' :=
 ⟨h.os,h.tape,h.output,h.size,λk c d=>h.block k c (λe=>d (f k e.symm))⟩
theorem Fr.trans(h:Fr S w w')(c:Fr S w' w''):Fr S w w'' :=
 ⟨c.os.trans h.os,c.tape.trans h.tape,c.output.trans h.output,dY h.size c.size,λk d e=>(c.block k (wZ d h.size) e).trans (h.block k d e)⟩
theorem Fr.mono(h:Fr S w w')(c:∀k∈S,k∈T):Fr T w w':=⟨h.os,h.tape,h.output,h.size,λk hk hn=>h.block k hk (λe=>hn (c k e))⟩
theorem Fr.new(h:Fr S w w')(c:Fr T w' w'')(i:∀k∈T,k∈S\/w.heap.size<=k):Fr S w w'' :=
 ⟨c.os.trans h.os,c.tape.trans h.tape,c.output.trans h.output,dY h.size c.size,λk d f=>(c.block k (wZ d h.size) (λe=>(i k e).elim f (λg=>absurd d (Nat.not_lt.2 g)))).trans (h.block k d f)⟩
theorem Fr.to_below(h:Fr S w w')(d:∀k∈S,w.heap.size<=k):bL w w' :=
 ⟨h.os,h.tape,h.output,h.size,λk c=>h.block k c (λe=>absurd c (Nat.not_lt.2 (d k e)))⟩
theorem Q7{o:Nat}(h:w.cell? ⟨b,o,jW⟩=kW v):b<w.heap.size:=by
 rcases vZ b w.heap.size with g|g
 ·exact g
 ·unfold jY at h;simp only[xZ g]at h;cases h
theorem Fr.cell(h:Fr S w w'){b o:Nat}{v:vW}(c:w.cell? ⟨b,o,jW⟩=kW v)(d:b∉S):w'.cell? ⟨b,o,jW⟩=kW v:=by
 rw[<-c];unfold jY;rw[h.block b (Q7 c) d]
theorem Fr.frozen(h:Fr S w w'){b o:Nat}(c:b<w.heap.size)(d:b∉S):w'.frozen? ⟨b,o,jW⟩=w.frozen? ⟨b,o,jW⟩:=by
 unfold World.frozen?;rw[h.block b c d]
theorem Fr.range(h:Fr S w w'){b o:Nat}{l:List vW}(d:w.rangeAt b o l)(c:b∉S):w'.rangeAt b o l:=λj v e=>h.cell (d j v e) c
theorem Fr.fm(h:Fr S w w'){b:Nat}{F:List (Nat×Int)}(d:FM w b F)(g:b∉S):FM w' b F:=by
 have c:=d.lt;obtain⟨es,e,f⟩:=d;exact⟨es,by rw[h.block b c g];exact e,f⟩
def J3:List (Nat×Int)->List vW
 |[]=>[]
 |x::r=>O J x.1::O J x.2::J3 r
theorem zEM:∀F:List (Nat×Int),(J3 F).length=F.length*2
 |[]=>rfl
 |x::r=>by simp[J3,zEM r];omega
theorem zB4:∀(F G:List (Nat×Int)),J3 (F++G)=J3 F++J3 G
 |[],G=>rfl
 |x::r,G=>by simp[J3,zB4 r G]
theorem zD1:∀(F:List (Nat×Int))(i:Nat)(h:i<F.length),(J3 F)[i*2]?=kW (O J (F[i]).1)/\(J3 F)[i*2+1]?=kW (O J (F[i]).2)
 |x::r,0,_=>⟨rfl,rfl⟩
 |x::r,i+1,h=>by
  have:=zD1 r i (by simpa using h);have e:(i+1)*2=i*2+2:=oM;rw[e];exact this
structure FS(w:wW)(b mb:Nat)(lv:vW)(F:List (Nat×Int)):Prop where
 hd:w.cell? ⟨b,1,jW⟩=kW lv
 hf:w.frozen? ⟨b,1,jW⟩=mW
 own:w.ownsRow (b+1) 257 2 lv F.length (J3 F)
 mp:w.cell? ⟨b,2,jW⟩=kW (.map (kW mb))
 fm:FM w mb F
 lt:mb<b
theorem QL{B:Nat}{T:TypeId}{k:Nat}{l:List vW}(h:w.ownsRow B T k v n l){g:Nat}(e:v.ownBlock=kW g):B<=g/\g<w.heap.size:=by
 rcases h.2 with⟨rfl,_⟩|⟨c,cap,f,rfl,j,d,_⟩
 ·cases e
 ·have i:c=g:=by simpa[Value.ownBlock]using e
  subst i;refine⟨j,?_⟩;rcases vZ c w.heap.size with q|q
  ·exact q
  ·rw[xZ q]at d;cases d
theorem QZ(h:Fr S w w'){B:Nat}{T:TypeId}{k:Nat}{v:vW}{n:Nat}{i:List vW}(f:w.ownsRow B T k v n i)(m:∀g,v.ownBlock=kW g->g∉S):w'.ownsRow B T k v n i:=by
 have j:=λ{g}(e:v.ownBlock=kW g)=>QL f e
 refine⟨f.1,?_⟩;rcases f.2 with q|⟨g,cap,c,rfl,d,l,o,p,r,u⟩
 ·exact vY q
 ·exact xY ⟨g,cap,c,rfl,d,by rw[h.block g (j rfl).2 (m g rfl)];exact l,o,p,r,u⟩
theorem FS.list(h:FS w b mb lv F):FoldL w b 1 (F.map λx=>((x.1:Int),x.2)):=by
 rcases h.own.2 with⟨e,p⟩|⟨g,cap,o,e,u,y,H,I,K,G⟩
 ·have r:F=[]:=yZ p;subst r;refine⟨jW,0,by rw[h.hd,e];rfl,λi hi=>absurd hi (zZ _)⟩
 ·refine⟨kW ⟨g,0,jW⟩,cap,by rw[h.hd,e];simp,λi hi=>⟨g,0,rfl,?_⟩⟩;have f:i<F.length:=by simpa using hi
  have C:=zEM F;have c:∀j v,(J3 F)[j]?=kW v->w.cell? ⟨g,j,jW⟩=kW v:=by
   intro j v d;have z:j<F.length*2:=by
    rw[<-C];rcases vZ j (J3 F).length with q|q
    ·exact q
    ·rw[rZ q]at d;cases d
   rw[<-G,List.getElem?_take_of_lt z]at d;unfold jY;simp only[y];simpa using d
  obtain⟨D,E⟩:=zD1 F i f;have l:=c _ _ D;have m:=c _ _ E;simp only[zY,tY];exact⟨l,m⟩
theorem QY(w:wW)(b:Nat)(v:vW){i j:Nat}(h:i≠j):(w.setCell ⟨b,i,jW⟩ v).cell? ⟨b,j,jW⟩=w.cell? ⟨b,j,jW⟩:=by
 simp[jY,qY,bY];cases w.heap[b]? with
 |none=>rfl
 |some o=>cases o <;> simp[h]
theorem Q4{i:Nat}{u:vW}(h:w.cell? ⟨b,i,jW⟩=kW u)(v:vW):(w.setCell ⟨b,i,jW⟩ v).cell? ⟨b,i,jW⟩=kW v:=by
 unfold jY at h;simp only[Option.isSome_none]at h;cases d:w.heap[b]? with
 |none=>rw[d]at h;cases h
 |some o =>
  rw[d]at h;cases o with
  |cells c t f =>
   have e:c[i]?=kW u:=by simpa using h
   have g:=(Array.getElem?_eq_some_iff.1 e).1;simp[jY,qY,bY,d,g]
  |_=>simp at h
theorem zFo{d c x g:Nat}(i:x<d)(e:(U (kW ⟨d,0,jW⟩) n c).ownBlock=kW g):g∉[x]:=by
 have f:d=g:=by simpa[Value.ownBlock]using e
 subst f;simp;omega
theorem QT(w:wW)(b i:Nat)(v:vW):w.grownBy (w.setCell ⟨b,i,jW⟩ v) (kW b) :=
 ⟨rfl,rfl,rfl,by simp[qY],λk _ c=>by simp[qY,bY];intro e;exact absurd (by rw[e]) c⟩
theorem FS.fr(h:FS w b mb lv F)(c:Fr S w w')(d:b∉S)(f:mb∉S)(e:∀g,lv.ownBlock=kW g->g∉S):FS w' b mb lv F :=
 ⟨c.cell h.hd d,by rw[c.frozen (Q7 h.hd) d];exact h.hf,QZ c h.own e,c.cell h.mp d,c.fm h.fm f,h.lt⟩
theorem FS.below(h:FS w b mb lv F)(c:bL w w'):FS w' b mb lv F :=
 h.fr (Fr.of_below [] c) sM sM sM
theorem zRJ:prog.underlying 183=kW (.map 257 3):=kR
theorem zIt(h:FM w mb F){x:Nat×Int}{k:Nat}(e:F.findIdx? (· == x)=kW k):(Instr.lookup 183 (.map (kW mb)) (fr2 x) lW).run prog w=.ok (uX #[O J ((k:Int)+1),Y lW]) w:=by
 obtain⟨es,c,d⟩:=h;refine zCj (j:=k) zRJ c (zRW _ _ _ _) ?_;rw[d,zQz,e];rfl
theorem zHC(h:FM w mb F){x:Nat×Int}(e:F.findIdx? (· == x)=jW):(Instr.lookup 183 (.map (kW mb)) (fr2 x) lW).run prog w=.ok (uX #[O J 0,Y mW]) w:=by
 obtain⟨es,c,d⟩:=h;refine zBh zRJ c (zRW _ _ _ _) ?_ kR;rw[d,zQz,e];rfl
theorem zRz(h:FM w mb F){x:Nat×Int}(e:F.findIdx? (· == x)=jW):∃w',(Instr.mapUpdate 183 (.map (kW mb)) (fr2 x) (O J ((F.length:Int)+1))).run prog w=.ok () w'/\FM w' mb (F++[x])/\w.grownBy w' (kW mb):=by
 obtain⟨es,c,d⟩:=h;refine⟨_,zE1 zRJ c _ (zRW _ _ _ _) (by rw[d,zQz,e];rfl),⟨es.push ⟨fr2 x,O J ((F.length:Int)+1),F.length⟩,?_,?_⟩,zAY c _⟩
 ·rw[heap_setBlock_same c,qZ];rfl
 ·rw[vX,d,zFv];simp
theorem zMP(b mb:Nat)(lv:vW)(F:List (Nat×Int))(m:Nat)(a:Int)(k:Nat)(w:wW)(f:FS w b mb lv F)(q:F.findIdx? (· == (m,a))=kW k) :
  CR 168 #[pX (kW ⟨b,1,jW⟩),O J (m:Int),O J a] w (O J ((k:Int)+1)):=by
 have o:=QI (bZ _ w) (Z #[O J (m:Int),O J a] 257);have i:=AtL.new0 w 257 [O J (m:Int),O J a];have e:=FS.below f o;go_enter func168,ntmps168;go_upto_region 2 with fail
 generalize(w.alloc (Z #[O J (m:Int),O J a] 257))=W at*;replace o:=o.drew
 replace i:=AtL.drew i
 replace e:=FS.below e (bZ _ W).drew
 have r0:=i.2.1 0 _ rfl;have p:=i.2.1 1 _ rfl;have j:=e.hd;have l:=e.mp;have g:=zIt e.fm q;unfold fr2 at g;clear f q i;refine wp_region_held_drew (S:=λW=>W.cell? ⟨b,1,jW⟩=kW lv/\W.cell? ⟨b,2,jW⟩=kW (.map (kW mb))/\W.cell? ⟨w.heap.size,0,jW⟩=kW (O J (m:Int))/\W.cell? ⟨w.heap.size,1,jW⟩=kW (O J a)) kR ⟨j,l,r0,p⟩ (λc=>?_);generalize W.drew=r at*;refine tkQ 0 ?_
 refine tkQ 1 ?_
 refine tkQ 2 ?_
 refine tkQ 3 ?_
 refine tkQ 4 ?_
 refine rdQ 5 (λK d=>?_);go_simp
 refine hkQ d (⟨j,l,r0,p⟩) (λc=>?_);clear d K
 refine tkQ 6 ?_
 refine tkQ 7 ?_
 refine tkQ 8 ?_
 refine rdQ 9 (λK d=>?_);go_simp
 refine hkQ d (⟨j,l,r0,p⟩) (λc=>?_);clear d K
 refine rdQ 10 (λK d=>?_);go_simp
 refine hkQ d (⟨j,l,r0,p⟩) (λc=>?_);clear d K
 refine wpAnyH_done kR ?_ _;clear c g;go_wp2;go_ret;exact⟨rfl,o⟩
theorem zGD:(prog.info? 257).map (λi=>(i.zero,i.size,i.bytes))=kW (kW (gX #[O J 0,O J 0]),2,16):=kR
theorem zJ8(b mb:Nat)(lv:vW)(F:List (Nat×Int))(m:Nat)(a:Int)(w:wW)(aa:FS w b mb lv F)(au:F.length<=1000000)(X:F.findIdx? (· == (m,a))=jW) :
  cW prog 168 #[pX (kW ⟨b,1,jW⟩),O J (m:Int),O J a] w λe w'=>e=rX (O J ((F.length:Int)+1))/\(∃lv',FS w' b mb lv' (F++[(m,a)]))/\Fr (b::mb::lv.ownBlock.toList) w w'/\(∀u,w.cell? ⟨b,0,jW⟩=kW u->w'.cell? ⟨b,0,jW⟩=kW u):=by
 have HG:hH (∀g,lv.ownBlock=kW g->b+1<=g/\g<w.heap.size):=λg e=>QL aa.own e
 have hB:=QI (bZ _ w) (Z #[O J (m:Int),O J a] 257);have pR:=AtL.new0 w 257 [O J (m:Int),O J a];have z:=FS.below aa hB;go_enter func168,ntmps168;go_upto_region 2 with fail
 generalize(w.alloc (Z #[O J (m:Int),O J a] 257))=W at*;replace hB:=hB.drew
 replace pR:=AtL.drew pR
 replace z:=FS.below z (bZ _ W).drew
 have r0:=pR.2.1 0 _ rfl;have G:=pR.2.1 1 _ rfl;have I:=z.hd;have E:=z.mp;have aq:=zHC z.fm X;unfold fr2 at aq;have HK:=hid X;clear X;refine wp_region_held_drew (S:=λW=>W.cell? ⟨b,1,jW⟩=kW lv/\W.cell? ⟨b,2,jW⟩=kW (.map (kW mb))/\W.cell? ⟨w.heap.size,0,jW⟩=kW (O J (m:Int))/\W.cell? ⟨w.heap.size,1,jW⟩=kW (O J a)) kR ⟨I,E,r0,G⟩ (λd=>?_);generalize W.drew=wd at*;refine tkQ 0 ?_
 refine tkQ 1 ?_
 refine tkQ 2 ?_
 refine tkQ 3 ?_
 refine tkQ 4 ?_
 refine rdQ 5 (λK p=>?_);go_simp
 refine hkQ p (⟨I,E,r0,G⟩) (λd=>?_);clear p K
 refine tkQ 6 ?_
 refine tkQ 7 ?_
 refine tkQ 8 ?_
 refine rdQ 9 (λK p=>?_);go_simp
 refine hkQ p (⟨I,E,r0,G⟩) (λd=>?_);clear p K
 refine rdQ 10 (λK p=>?_);go_simp
 refine hkQ p (⟨I,E,r0,G⟩) (λd=>?_);clear p K
 refine wpAnyH_done kR ?_ _;clear d aq;go_upto_region 4 with fail
 have ap:=(bZ wd.heap.size wd).drew;replace hB:=hB.drew
 replace pR:=AtL.drew pR
 replace z:=FS.below z ap
 clear r0 G I E ap;have r0:=pR.2.1 0 _ rfl;have G:=pR.2.1 1 _ rfl;have I:=z.hd;have E:=z.mp;have f:∀q:wW,bL q (q.alloc (Z #[O J (m:Int),O J a] 257)):=λq=>QI (bZ _ q) _
 refine wp_region_held_drew (S:=λW=>W.cell? ⟨b,2,jW⟩=kW (.map (kW mb))/\W.cell? ⟨w.heap.size,0,jW⟩=kW (O J (m:Int))/\W.cell? ⟨w.heap.size,1,jW⟩=kW (O J a)) kR ⟨E,r0,G⟩ (λd=>?_);generalize wd.drew=q at*;refine tkQ 0 ?_
 refine tkQ 1 ?_
 refine tkQ 2 ?_
 refine tkQ 3 ?_
 refine tkQ 5 ?_
 refine wpAnyH_ready (rs:=[4,6]) kR sM ?_;refine AllReadyH.cons (atQ rfl) (λK p=>?_) (AllReadyH.cons (atQ rfl) (λK p=>?_) AllReadyH.nil)
 ·go_simp
  refine hkQ p ⟨E,r0,G⟩ (λd=>?_);clear p K
  refine rdQ 6 (λK p=>?_);go_simp
  refine hkQ p (⟨QB (f q) E,QB (f q) r0,QB (f q) G⟩) (λd=>?_);clear p K
  have pN:=AtL.new0 q 257 [O J (m:Int),O J a];replace z:=FS.below z (f q)
  replace hB:=QA hB (f q)
  replace r0:=QB (f q) r0
  replace G:=QB (f q) G
  replace I:=QB (f q) I
  replace E:=QB (f q) E
  replace pR:=AtL.below (f q) pR
  generalize(q.alloc (Z #[O J (m:Int),O J a] 257))=wf at*;clear f;obtain⟨i0,ah,ai,aj,ak⟩:=info_parts zGD;refine rdQ 7 (λK p=>?_);refine wp_append_own _ (mX 28) (mX 30) 184 rfl (b+1) 257 i0 _ 2 16 underlying184 ah ai aj ak rfl dM lv F.length (J3 F) rfl z.own ⟨q.heap.size,0,jW⟩ 1 1 (J3 [(m,a)]) rfl rfl (λj u hj=>by have:=pN.2.1 j u hj;rw[show(⟨q.heap.size,0,jW⟩:dW).add j=⟨q.heap.size,j,jW⟩from by simp[Addr.add];intro h;exact h.symm];exact this) (by intro u C;simp[J3]at C;rcases C with rfl|rfl <;> rfl) (by unfold maxLen;omega) oM (Q7 I) ?_;intro v' D own hg _;obtain⟨r,c,ev⟩:∃r c,v'=U (kW ⟨r,0,jW⟩) (F.length+1) c:=by
   rcases own.2 with⟨_,h0⟩|⟨r,c,ao,e,_⟩
   ·omega
   ·exact⟨r,c,e⟩
  subst ev;have l:Fr lv.ownBlock.toList wf D:=Fr.of_grown hg (λk e=>by simp[e]);have nb:b∉lv.ownBlock.toList:=λe=>by have:=HG.out b (by simpa using e);omega
  have nm:mb∉lv.ownBlock.toList:=λe=>by have:=HG.out mb (by simpa using e);have:=z.lt;omega
  have nr:w.heap.size∉lv.ownBlock.toList:=λe=>by have:=HG.out w.heap.size (by simpa using e);omega
  have f1:D.frozen? ⟨b,1,jW⟩=mW:=by rw[l.frozen (Q7 I) nb];exact z.hf
  replace I:=l.cell I nb
  replace E:=l.cell E nb
  replace r0:=l.cell r0 nr
  replace G:=l.cell G nr
  have ae:=l.fm z.fm nm;have FB:Fr (b::mb::lv.ownBlock.toList) w D:=(Fr.of_below _ hB).trans (l.mono (λk X=>by simp[X]));have ac:hH (∀u,w.cell? ⟨b,0,jW⟩=kW u->D.cell? ⟨b,0,jW⟩=kW u):=λu C=>l.cell (QB hB C) nb
  refine hkQ p ⟨E,r0,G⟩ (λd=>?_);clear p K
  refine tkQ 8 ?_
  refine tkQ 9 ?_
  refine rdQ 10 (λK p=>?_);have ar:w.heap.size≠b:=by have:=Q7 aa.hd;omega
  have e2:(D.setCell ⟨b,1,jW⟩ (U (kW ⟨r,0,jW⟩) (F.length+1) c)).cell? ⟨b,2,jW⟩=kW (.map (kW mb)):=by rw[QY _ _ _ dM];exact E
  have e0:(D.setCell ⟨b,1,jW⟩ (U (kW ⟨r,0,jW⟩) (F.length+1) c)).cell? ⟨w.heap.size,0,jW⟩=kW (O J (m:Int)):=by rw[gZ _ _ _ _ (by simp;omega)];exact r0
  have e1:(D.setCell ⟨b,1,jW⟩ (U (kW ⟨r,0,jW⟩) (F.length+1) c)).cell? ⟨w.heap.size,1,jW⟩=kW (O J a):=by rw[gZ _ _ _ _ (by simp;omega)];exact G
  go_simp
  refine hkQ p ⟨e2,e0,e1⟩ (λd=>?_);clear p K
  refine wpAnyH_done kR ?_ _;clear d;have R:Fr [b] D (D.setCell ⟨b,1,jW⟩ (U (kW ⟨r,0,jW⟩) (F.length+1) c)):=Fr.of_grown (QT _ _ _ _) (λk e=>by cases e;simp);have d1:(D.setCell ⟨b,1,jW⟩ (U (kW ⟨r,0,jW⟩) (F.length+1) c)).cell? ⟨b,1,jW⟩=kW (U (kW ⟨r,0,jW⟩) (F.length+1) c):=Q4 I _;have d2:(D.setCell ⟨b,1,jW⟩ (U (kW ⟨r,0,jW⟩) (F.length+1) c)).frozen? ⟨b,1,jW⟩=mW:=by rw[pY];exact f1
  have gb:=(QL own (g:=r) rfl).1;have y:=QZ R own (λg e=>zFo oM e);have N:=R.fm ae (by have:=z.lt;simp;omega);replace FB:=FB.trans (R.mono (λk X=>by simp at X;simp[X]))
  have M:hH (∀u,w.cell? ⟨b,0,jW⟩=kW u->(D.setCell ⟨b,1,jW⟩ (U (kW ⟨r,0,jW⟩) (F.length+1) c)).cell? ⟨b,0,jW⟩=kW u):=λu C=>by rw[QY _ _ _ dM];exact ac.out u C
  have an:=z.lt;clear ac I E r0 G f1 l R ae own hg nb nm nr pN pR z hB ah ai aj ak HG;generalize D.setCell ⟨b,1,jW⟩ (U (kW ⟨r,0,jW⟩) (F.length+1) c)=w8 at*;go_upto_region 6 with fail
  have o:=(bZ w8.heap.size w8).drew;replace FB:=FB.trans (Fr.of_below _ o)
  replace M:hH (∀u,w.cell? ⟨b,0,jW⟩=kW u->w8.drew.cell? ⟨b,0,jW⟩=kW u):=λu C=>QB o (M.out u C)
  replace d1:=QB o d1
  replace e2:=QB o e2
  replace e0:=QB o e0
  replace e1:=QB o e1
  have d2:w8.drew.frozen? ⟨b,1,jW⟩=mW:=d2;replace y:=QZ (Fr.of_below [] o) y sM
  replace N:=N.below o
  clear o;refine wp_region_held_drew (S:=λW=>W.cell? ⟨b,2,jW⟩=kW (.map (kW mb))/\W.cell? ⟨w.heap.size,0,jW⟩=kW (O J (m:Int))/\W.cell? ⟨w.heap.size,1,jW⟩=kW (O J a)) kR ⟨e2,e0,e1⟩ (λd=>?_);generalize w8.drew=w9 at*;refine tkQ 0 ?_
  refine tkQ 1 ?_
  refine tkQ 2 ?_
  refine tkQ 3 ?_
  refine tkQ 4 ?_
  refine tkQ 5 ?_
  obtain⟨wu,C,af,ag⟩:=zRz N HK.out;unfold fr2 at C;have i:Fr [mb] w9 wu:=Fr.of_grown ag (λk e=>by cases e;simp);have H:b∉[mb]:=by simp;omega
  have al:w.heap.size∉[mb]:=by have:=Q7 aa.hd;simp;omega
  refine rdQ 6 (λK p=>?_);go_simp
  refine hkQ p (⟨i.cell e2 H,i.cell e0 al,i.cell e1 al⟩) (λd=>?_);clear p K
  refine wpAnyH_done kR ?_ _;clear d;have ad:FS wu b mb (U (kW ⟨r,0,jW⟩) (F.length+1) c) (F++[(m,a)]):=⟨i.cell d1 H,by rw[i.frozen (Q7 d1) H];exact d2,by rw[qZ,zB4];exact QZ i y (λg e=>zFo oM e),i.cell e2 H,af,an⟩
  have am:∀u,w.cell? ⟨b,0,jW⟩=kW u->wu.cell? ⟨b,0,jW⟩=kW u:=λu C=>i.cell (M.out u C) H
  have FC:=FB.trans (i.mono (λk X=>by simp at X;simp[X]));have ab:=hid ad;clear ad C af ag i d1 d2 e0 e1 e2 y N FB M;go_wp2;go_ret;exact⟨sM,⟨_,ab.out⟩,FC,am⟩
 ·go_simp
  refine hkQ p (⟨QB (f q) E,QB (f q) r0,QB (f q) G⟩) (λd=>?_);clear p K
  have pN:=AtL.new0 q 257 [O J (m:Int),O J a];replace z:=FS.below z (f q)
  replace hB:=QA hB (f q)
  replace r0:=QB (f q) r0
  replace G:=QB (f q) G
  replace I:=QB (f q) I
  replace E:=QB (f q) E
  replace pR:=AtL.below (f q) pR
  generalize(q.alloc (Z #[O J (m:Int),O J a] 257))=wf at*;refine rdQ 4 (λK p=>?_);go_simp
  refine hkQ p (⟨E,r0,G⟩) (λd=>?_);clear p K
  clear f;obtain⟨i0,ah,ai,aj,ak⟩:=info_parts zGD;refine rdQ 7 (λK p=>?_);refine wp_append_own _ (mX 28) (mX 30) 184 rfl (b+1) 257 i0 _ 2 16 underlying184 ah ai aj ak rfl dM lv F.length (J3 F) rfl z.own ⟨q.heap.size,0,jW⟩ 1 1 (J3 [(m,a)]) rfl rfl (λj u hj=>by have:=pN.2.1 j u hj;rw[show(⟨q.heap.size,0,jW⟩:dW).add j=⟨q.heap.size,j,jW⟩from by simp[Addr.add];intro h;exact h.symm];exact this) (by intro u C;simp[J3]at C;rcases C with rfl|rfl <;> rfl) (by unfold maxLen;omega) oM (Q7 I) ?_;intro v' D own hg _;obtain⟨r,c,ev⟩:∃r c,v'=U (kW ⟨r,0,jW⟩) (F.length+1) c:=by
   rcases own.2 with⟨_,h0⟩|⟨r,c,ao,e,_⟩
   ·omega
   ·exact⟨r,c,e⟩
  subst ev;have l:Fr lv.ownBlock.toList wf D:=Fr.of_grown hg (λk e=>by simp[e]);have nb:b∉lv.ownBlock.toList:=λe=>by have:=HG.out b (by simpa using e);omega
  have nm:mb∉lv.ownBlock.toList:=λe=>by have:=HG.out mb (by simpa using e);have:=z.lt;omega
  have nr:w.heap.size∉lv.ownBlock.toList:=λe=>by have:=HG.out w.heap.size (by simpa using e);omega
  have f1:D.frozen? ⟨b,1,jW⟩=mW:=by rw[l.frozen (Q7 I) nb];exact z.hf
  replace I:=l.cell I nb
  replace E:=l.cell E nb
  replace r0:=l.cell r0 nr
  replace G:=l.cell G nr
  have ae:=l.fm z.fm nm;have FB:Fr (b::mb::lv.ownBlock.toList) w D:=(Fr.of_below _ hB).trans (l.mono (λk X=>by simp[X]));have ac:hH (∀u,w.cell? ⟨b,0,jW⟩=kW u->D.cell? ⟨b,0,jW⟩=kW u):=λu C=>l.cell (QB hB C) nb
  refine hkQ p ⟨E,r0,G⟩ (λd=>?_);clear p K
  refine tkQ 8 ?_
  refine tkQ 9 ?_
  refine rdQ 10 (λK p=>?_);have ar:w.heap.size≠b:=by have:=Q7 aa.hd;omega
  have e2:(D.setCell ⟨b,1,jW⟩ (U (kW ⟨r,0,jW⟩) (F.length+1) c)).cell? ⟨b,2,jW⟩=kW (.map (kW mb)):=by rw[QY _ _ _ dM];exact E
  have e0:(D.setCell ⟨b,1,jW⟩ (U (kW ⟨r,0,jW⟩) (F.length+1) c)).cell? ⟨w.heap.size,0,jW⟩=kW (O J (m:Int)):=by rw[gZ _ _ _ _ (by simp;omega)];exact r0
  have e1:(D.setCell ⟨b,1,jW⟩ (U (kW ⟨r,0,jW⟩) (F.length+1) c)).cell? ⟨w.heap.size,1,jW⟩=kW (O J a):=by rw[gZ _ _ _ _ (by simp;omega)];exact G
  go_simp
  refine hkQ p ⟨e2,e0,e1⟩ (λd=>?_);clear p K
  refine wpAnyH_done kR ?_ _;clear d;have R:Fr [b] D (D.setCell ⟨b,1,jW⟩ (U (kW ⟨r,0,jW⟩) (F.length+1) c)):=Fr.of_grown (QT _ _ _ _) (λk e=>by cases e;simp);have d1:(D.setCell ⟨b,1,jW⟩ (U (kW ⟨r,0,jW⟩) (F.length+1) c)).cell? ⟨b,1,jW⟩=kW (U (kW ⟨r,0,jW⟩) (F.length+1) c):=Q4 I _;have d2:(D.setCell ⟨b,1,jW⟩ (U (kW ⟨r,0,jW⟩) (F.length+1) c)).frozen? ⟨b,1,jW⟩=mW:=by rw[pY];exact f1
  have gb:=(QL own (g:=r) rfl).1;have y:=QZ R own (λg e=>zFo oM e);have N:=R.fm ae (by have:=z.lt;simp;omega);replace FB:=FB.trans (R.mono (λk X=>by simp at X;simp[X]))
  have M:hH (∀u,w.cell? ⟨b,0,jW⟩=kW u->(D.setCell ⟨b,1,jW⟩ (U (kW ⟨r,0,jW⟩) (F.length+1) c)).cell? ⟨b,0,jW⟩=kW u):=λu C=>by rw[QY _ _ _ dM];exact ac.out u C
  have an:=z.lt;clear ac I E r0 G f1 l R ae own hg nb nm nr pN pR z hB ah ai aj ak HG;generalize D.setCell ⟨b,1,jW⟩ (U (kW ⟨r,0,jW⟩) (F.length+1) c)=w8 at*;go_upto_region 6 with fail
  have o:=(bZ w8.heap.size w8).drew;replace FB:=FB.trans (Fr.of_below _ o)
  replace M:hH (∀u,w.cell? ⟨b,0,jW⟩=kW u->w8.drew.cell? ⟨b,0,jW⟩=kW u):=λu C=>QB o (M.out u C)
  replace d1:=QB o d1
  replace e2:=QB o e2
  replace e0:=QB o e0
  replace e1:=QB o e1
  have d2:w8.drew.frozen? ⟨b,1,jW⟩=mW:=d2;replace y:=QZ (Fr.of_below [] o) y sM
  replace N:=N.below o
  clear o;refine wp_region_held_drew (S:=λW=>W.cell? ⟨b,2,jW⟩=kW (.map (kW mb))/\W.cell? ⟨w.heap.size,0,jW⟩=kW (O J (m:Int))/\W.cell? ⟨w.heap.size,1,jW⟩=kW (O J a)) kR ⟨e2,e0,e1⟩ (λd=>?_);generalize w8.drew=w9 at*;refine tkQ 0 ?_
  refine tkQ 1 ?_
  refine tkQ 2 ?_
  refine tkQ 3 ?_
  refine tkQ 4 ?_
  refine tkQ 5 ?_
  obtain⟨wu,C,af,ag⟩:=zRz N HK.out;unfold fr2 at C;have i:Fr [mb] w9 wu:=Fr.of_grown ag (λk e=>by cases e;simp);have H:b∉[mb]:=by simp;omega
  have al:w.heap.size∉[mb]:=by have:=Q7 aa.hd;simp;omega
  refine rdQ 6 (λK p=>?_);go_simp
  refine hkQ p (⟨i.cell e2 H,i.cell e0 al,i.cell e1 al⟩) (λd=>?_);clear p K
  refine wpAnyH_done kR ?_ _;clear d;have ad:FS wu b mb (U (kW ⟨r,0,jW⟩) (F.length+1) c) (F++[(m,a)]):=⟨i.cell d1 H,by rw[i.frozen (Q7 d1) H];exact d2,by rw[qZ,zB4];exact QZ i y (λg e=>zFo oM e),i.cell e2 H,af,an⟩
  have am:∀u,w.cell? ⟨b,0,jW⟩=kW u->wu.cell? ⟨b,0,jW⟩=kW u:=λu C=>i.cell (M.out u C) H
  have FC:=FB.trans (i.mono (λk X=>by simp at X;simp[X]));have ab:hH (FS wu b mb (U (kW ⟨r,0,jW⟩) (F.length+1) c) (F++[(m,a)])):=ad;clear ad C af ag i d1 d2 e0 e1 e2 y N FB M;go_wp2;go_ret;exact⟨sM,⟨_,ab.out⟩,FC,am⟩
end Go.Proofs.YthcblmpncpcfkaaGreatDoor
namespace Go.Proofs.YthcblmpncpcfkaaGreatDoor.Wc
def rw0(F:List (Nat×Int))(m:Nat):List Int:=Vf F m m
theorem zFk(F:List (Nat×Int)):rw0 F 0=[]:=rfl
theorem zHU{F:List (Nat×Int)}(h:Rows F)(x:Nat×Int){m:Nat}(c:m<=F.length):rw0 (F++[x]) m=rw0 F m:=zMb h x m m c
theorem zOZ{F:List (Nat×Int)}(h:Rows F){m n:Nat}(c:m<=F.length)(d:n<=F.length)(e:rw0 F m=rw0 F n):m=n:=by
 unfold rw0 at e;rw[zB2 h m m F.length (eZ _) c c,zB2 h n n F.length (eZ _) d d]at e;exact zLS h F.length m n c d c d e
theorem zCi{F:List (Nat×Int)}(h:Rows F){k:Nat}{x:Nat×Int}(e:F[k]?=kW x):rw0 F (k+1)=rw0 F x.1++[x.2]:=by
 have d:k<F.length:=by
  rcases vZ k F.length with g|g
  ·exact g
  ·rw[rZ g]at e;cases e
 have c:=h.ahead k x e;unfold rw0;rw[JC F k k x e,zB2 h k x.1 x.1 c (eZ _) oM]
def handP(h:Int×Nat):List Int->List (Option (Int×Nat))->Option (List (Option (Int×Nat)))
 |[],M=>kW M
 |j::r,M=>match M.getD j.toNat jW with
  |none=>handP h r (M.set j.toNat (kW h))
  |some g=>if g=h then handP h r (M.set j.toNat (kW h))else jW
def behF(F:List (Nat×Int))(o a:Int)(m:Nat):Option (Nat×List (Nat×Int)) :=
 if o=6 then(match F.findIdx? (· == (m,a))with|some k=>kW (k+1,F)|none=>kW (F.length+1,F++[(m,a)]))
 else if o=7 then(if m=0 then jW else kW (m,F))
 else if o=8 then(if m=0\/pairs (F.getD (m-1) (0,0)).2=lW then jW else kW (m,F))
 else if o=9 then(if m=0\/pairs (F.getD (m-1) (0,0)).2=mW then jW else kW (m,F))
 else if o=10 then(if m=0 then jW else kW ((F.getD (m-1) (0,0)).1,F))
 else if o=16 then(if m=0 then kW (m,F)else jW)
 else kW (m,F)
abbrev PS:=List (Option (Int×Nat))×List (Nat×Int)
def stepP(i:Nat)(o a b:Int)(c:List Int)(s:PS):Option PS :=
 match s.1.getD i jW with
 |none=>jW
 |some (v,m)=>match behF s.2 o a m with
  |none=>jW
  |some (m2,F2)=>if v<(swO o b).1\/(o=16/\(swO o b).1<v)then jW else
   match handP (v-(swO o b).1+(swO o b).2,m2) (onw o a b c i).1 s.1 with
   |none=>jW
   |some d=>match handP (v,m) (onw o a b c i).2 d with
    |none=>jW
    |some e=>kW (e,F2)
def Vq(o a:Int)(f:List Int):List Int:=if o=6 then f++[a]else if o=10 then f.dropLast else f
def zS4(n i:Nat)(o b:Int)(v:Int)(f:List Int):Bool :=
 nW (¬(o=16/\i+1<n)/\(nds o b).1<=v/\(nds o b).2.1<=f.length/\(o=16->v=1/\f.length=0)/\(o=8\/o=9->pairs (f.getLastD 0)=nW (o=9)))
theorem getD_set{α:Type}(l:List (Option α))(i j:Nat)(x:Option α)(hi:i<l.length):(l.set i x).getD j jW=if i=j then x else l.getD j jW:=by
 simp only[fZ,List.getElem?_set];by_cases h:i=j
 ·subst h;simp[hi]
 ·simp[h]
theorem ops17(o:Int):o=6\/o=7\/o=8\/o=9\/o=10\/o=16\/(o≠6/\o≠7/\o≠8/\o≠9/\o≠10/\o≠16):=oM
theorem zIa{F:List (Nat×Int)}(h:Rows F){m:Nat}(g:m<=F.length)(d:m≠0):(F.getD (m-1) (0,0)).1<=F.length/\rw0 F m=rw0 F (F.getD (m-1) (0,0)).1++[(F.getD (m-1) (0,0)).2]:=by
 cases m with
 |zero=>exact absurd rfl d
 |succ k =>
  obtain⟨x,c⟩:∃x,F[k]?=kW x:=⟨_,cZ oM⟩
  have e:F.getD (k+1-1) (0,0)=x:=by rw[qX,fZ,c];rfl
  rw[e];have f:=h.ahead k x c;exact⟨oM,zCi h c⟩
def bst(o:Int)(f:List Int):Bool :=
 nW ((o=7\/o=8\/o=9\/o=10->1<=f.length)/\(o=16->f.length=0)/\(o=8\/o=9->pairs (f.getLastD 0)=nW (o=9)))
structure Beh(F:List (Nat×Int))(o a:Int)(m m2:Nat)(F2:List (Nat×Int)):Prop where
 rows:Rows F2
 le:F.length<=F2.length
 old:∀k:Nat,k<=F.length->rw0 F2 k=rw0 F k
 le2:m2<=F2.length
 row:rw0 F2 m2=Vq o a (rw0 F m)
theorem beh_some{F:List (Nat×Int)}(h:Rows F){o a:Int}{m:Nat}(c:m<=F.length)(r:bst o (rw0 F m)=lW):∃y l,behF F o a m=kW (y,l)/\Beh F o a m y l:=by
 simp only[bst,decide_eq_true_eq]at r;obtain⟨b1,b2,b3⟩:=r;rcases ops17 o with rfl|rfl|rfl|rfl|rfl|rfl|⟨z,I,K,M,C,N⟩
 ·have e0:behF F 6 a m=(match F.findIdx? (· == (m,a))with|some k=>kW (k+1,F)|none=>kW (F.length+1,F++[(m,a)])):=by simp[behF]
  rw[e0];cases e:F.findIdx? (· == (m,a))with
  |some k =>
   rw[List.findIdx?_eq_some_iff_getElem]at e;obtain⟨p,E,_⟩:=e;have G:F[k]=(m,a):=by simpa using E
   have H:F[k]?=kW (m,a):=by rw[cZ p,G]
   exact⟨k+1,F,rfl,h,eZ _,λ_ _=>rfl,p,by rw[zCi h H];simp[Vq]⟩
  |none =>
   rw[List.findIdx?_eq_none_iff]at e;have j:∀k:Nat,F[k]?≠kW (m,a):=by
    intro k i;have:=e (m,a) (List.mem_of_getElem? i);simp at this
   have u:=h.app (x:=(m,a)) c j;refine⟨F.length+1,F++[(m,a)],rfl,u,sM,λk i=>zHU h _ i,sM,?_⟩;have g:(F++[(m,a)])[F.length]?=kW (m,a):=sM;rw[zCi u g,zHU h _ c];simp[Vq]
 all_goals
  try
   have d:m≠0:=by
    intro e;subst e;simp[zFk]at b1
   obtain⟨X,D⟩:=zIa h c d;rw[D]at b3;simp only[lX]at b3
 ·exact⟨m,F,by simp[behF,d],h,eZ _,λ_ _=>rfl,c,by simp[Vq]⟩
 ·have f:=b3 sM;exact⟨m,F,by simp only[behF];rw[f];simp[d],h,eZ _,λ_ _=>rfl,c,by simp[Vq]⟩
 ·have f:=b3 sM;exact⟨m,F,by simp only[behF];rw[f];simp[d],h,eZ _,λ_ _=>rfl,c,by simp[Vq]⟩
 ·exact⟨_,F,by simp[behF,d],h,eZ _,λ_ _=>rfl,X,by rw[D];simp[Vq]⟩
 ·have d:m=0:=by
   have q:=b2 rfl;have R:rw0 F m=rw0 F 0:=by rw[zFk];exact yZ q
   exact zOZ h c (jZ _) R
  exact⟨m,F,by simp[behF,d],h,eZ _,λ_ _=>rfl,c,by simp[Vq]⟩
 ·exact⟨m,F,by simp[behF,z,I,K,M,C,N],h,eZ _,λ_ _=>rfl,c,by simp[Vq,z,C]⟩
theorem beh_none{F:List (Nat×Int)}(h:Rows F){o a:Int}{m:Nat}(g:m<=F.length)(c:bst o (rw0 F m)=mW):behF F o a m=jW:=by
 simp only[bst,decide_eq_false_iff_not]at c;rcases ops17 o with rfl|rfl|rfl|rfl|rfl|rfl|⟨j,l,p,r,u,y⟩
 ·exact absurd ⟨λq=>by omega,λq=>by omega,λq=>by omega⟩ c
 all_goals
  try
   rcases Nat.eq_zero_or_pos m with d|hp
   ·subst d;simp[behF]
   obtain⟨z,i⟩:=zIa h g oM;have d:m≠0:=oM;rw[i]at c;simp only[lX,qZ,xX,List.length_nil]at c
 ·exact absurd ⟨λq=>by omega,λq=>by omega,λq=>by omega⟩ c
 ·simp only[behF];cases f:pairs (F.getD (m-1) (0,0)).2 with
  |true=>simp
  |false=>rw[f]at c;exact absurd ⟨λq=>by omega,λq=>by omega,λq=>rfl⟩ c
 ·simp only[behF];cases f:pairs (F.getD (m-1) (0,0)).2 with
  |false=>simp
  |true=>rw[f]at c;exact absurd ⟨λq=>by omega,λq=>by omega,λq=>rfl⟩ c
 ·exact absurd ⟨λq=>by omega,λq=>by omega,λq=>by omega⟩ c
 ·have d:m≠0:=by
   intro e;subst e;exact c ⟨λq=>by omega,λ_=>rfl,λq=>by omega⟩
  simp[behF,d]
 ·exact absurd ⟨λq=>by omega,λq=>by omega,λq=>by omega⟩ c
def runP{α:Type}(c:Nat->α->PS->Option PS):Nat->List α->PS->Bool
 |_,[],_=>lW
 |i,x::r,s=>match c i x s with
  |none=>mW
  |some d=>runP c (i+1) r d
def plc(c:In->List Int->Bool)(n i:Nat)(x:In×List Int):Bool :=
 c x.1 x.2&&(((x.1.op == 16) == (i+1 == n))&&(!(onw x.1.op x.1.a x.1.b x.2 i).1.any (λj=>nW (j<=(i:Int)\/(n:Int)<=j)) && !(onw x.1.op x.1.a x.1.b x.2 i).2.any (λj=>nW (j<=(i:Int)\/(n:Int)<=j))))
def plcs(c:In->List Int->Bool)(n:Nat):Nat->List (In×List Int)->Bool
 |_,[]=>lW
 |i,x::r=>plc c n i x&&plcs c n (i+1) r
theorem plcs_iff(d:In->List Int->Bool)(n:Nat):∀(l:List (In×List Int))(i:Nat),plcs d n i l=lW↔∀(k:Nat)(c:k<l.length),plc d n (i+k) (l[k])=lW:=by
 intro l;induction l with
 |nil=>intro i;exact⟨λ_ k c=>absurd c (zZ _),λ_=>rfl⟩
 |cons x r g =>
  intro i;simp only[plcs,hZ,g (i+1)];constructor
  ·rintro⟨e,f⟩ k c;cases k with
   |zero=>exact e
   |succ q =>
    have:=f q (by simp at c;omega);simp only[eX];rw[show i+(q+1)=i+1+q from by omega];exact this
  ·intro h;refine⟨h 0 sM,λk c=>?_⟩;have:=h (k+1) (by simp;omega);simp only[eX]at this;rw[show i+1+k=i+(k+1)from by omega];exact this
def spI(i:Nat)(x:In×List Int)(s:PS):Option PS:=stepP i x.1.op x.1.a x.1.b x.2 s
def sP(n:Nat):PS:=((List.replicate n jW).set 0 (kW (0,0)),[])
def chkP(c:In->List Int->Bool)(L:List (In×List Int)):Bool:=plcs c L.length 0 L&&(nW (0<L.length)&&runP spI 0 L (sP L.length))
theorem zNP{l:List Int}{i n:Nat}:(!l.any (λj=>nW (j<=(i:Int)\/(n:Int)<=j)))=lW↔∀j∈l,(i:Int)<j/\j<(n:Int):=by
 simp only[Bool.not_eq_true',List.any_eq_false,decide_eq_true_eq];exact⟨λh j c=>by have:=h j c;omega,λh j c=>by have:=h j c;omega⟩
theorem plc_iff(c:In->List Int->Bool)(n i:Nat)(x:In×List Int):plc c n i x=lW↔c x.1 x.2=lW/\(x.1.op=16↔i+1=n)/\(∀j∈(onw x.1.op x.1.a x.1.b x.2 i).1,(i:Int)<j/\j<(n:Int))/\∀j∈(onw x.1.op x.1.a x.1.b x.2 i).2,(i:Int)<j/\j<(n:Int):=by
 unfold plc;rw[hZ,hZ,hZ,zNP,zNP];have e:((x.1.op == 16) == (i+1 == n))=lW↔(x.1.op=16↔i+1=n):=by
  rw[beq_iff_eq,iY,beq_iff_eq,beq_iff_eq]
 rw[e]
end Go.Proofs.YthcblmpncpcfkaaGreatDoor.Wc
namespace Go.Proofs.YthcblmpncpcfkaaGreatDoor
open Tryz
open Go.RowKit
variable {w w' w1 w2:wW}{x:Wt.Nd}{ops:Array Oper}{rest:List Oper}{a:Act}{Q:Exit->Act->wW->Prop}{B n lo hi b mb off b0 pb k bb:Nat}{op:Oper}{P:Program}{s:ByteArray}{F:List (Nat×Int)}{S:List Nat}{v va vb lv sv v':vW}{av:Option dW}{LA LB A L:List (Wt.Nd×vW)}{fn:Func}{t:Tmp}{id:Int}
def BPost(b mb:Nat)(lv:vW)(w w':wW)(c:List (Nat×Int)):Prop:=(∃lv',FS w' b mb lv' c)/\Fr (b::mb::lv.ownBlock.toList) w w'/\(∀u,w.cell? ⟨b,0,jW⟩=kW u->w'.cell? ⟨b,0,jW⟩=kW u)
theorem BPost.of_below(h:FS w b mb lv F)(c:bL w w'):BPost b mb lv w w' F:=⟨⟨lv,h.below c⟩,Fr.of_below _ c,λu d=>QB c d⟩
theorem BPost.front(c:bL w w1)(h:BPost b mb lv w1 w2 F):BPost b mb lv w w2 F:=⟨h.1,(Fr.of_below _ c).trans h.2.1,λu d=>h.2.2 u (QB c d)⟩
theorem zLq(b mb:Nat)(lv:vW)(F:List (Nat×Int))(m:Nat)(a:Int)(w:wW)(c:FS w b mb lv F)(f:F.length<=1000000) :
  cW prog 168 #[pX (kW ⟨b,1,jW⟩),O J (m:Int),O J a] w λe w'=>∃k F2,Wc.behF F 6 a m=kW (k,F2)/\e=rX (O J (k:Int))/\BPost b mb lv w w' F2:=by
 cases d:F.findIdx? (· == (m,a))with
 |some k =>
  refine(zMP b mb lv F m a k w c d).mono ?_;rintro e w' ⟨rfl,l⟩;exact⟨k+1,F,by simp[Wc.behF,d],sM,BPost.of_below c l⟩
 |none =>
  refine(zJ8 b mb lv F m a w c f d).mono ?_;rintro e w' ⟨rfl,g,i,j⟩;exact⟨F.length+1,F++[(m,a)],by simp[Wc.behF,d],sM,g,i,j⟩
def VW(F:List (Nat×Int))(m:Nat):Nat×Int:=if m=0 then(0,0)else F.getD (m-1) (0,0)
theorem J0(b mb:Nat)(lv:vW)(F:List (Nat×Int))(m:Nat)(w:wW)(c:FS w b mb lv F)(f:m<=F.length)(d:F.length<=1000000) :
  CR 167 #[pX (kW ⟨b,1,jW⟩),O J (m:Int)] w (uX #[gX #[O J ((VW F m).1:Int),O J (VW F m).2],Y (nW (m≠0))]):=by
 cases m with
 |zero=>exact zJw b 1 w
 |succ i =>
  have h:=zMB b 1 (F.map λx=>((x.1:Int),x.2)) i w c.list (by simp;omega) (by simpa using d);have e:VW F (i+1)=F[i]'oM:=by
   unfold VW;rw[if_neg oM,qX,fZ,cZ oM];rfl
  rw[e];simp only[zY]at h;exact h
theorem zLH(x:Wc.In)(tv:vW)(b mb:Nat)(lv:vW)(F:List (Nat×Int))(m:Nat)(w:wW)(j:FS w b mb lv F)(N:m<=F.length)(l:F.length<=1000000)(M:x.op=6) :
  cW prog 137 #[pX (kW ⟨b,1,jW⟩),inV x tv,O J (m:Int)] w λe w'=>∃k o,Wc.behF F 6 x.a m=kW (k,o)/\e=rX (uX #[O J (k:Int),Y lW])/\BPost b mb lv w w' o:=by
 have pA:=AtL.new0 w 86 (QE x tv);have d:=QI (bZ _ w) (Z (QE x tv).toArray 86);have g:=λw1 (K:bL w w1)=>J0 b mb lv F m w1 (j.below K) N l
 obtain⟨R,u⟩:∃t,VW F m=t:=⟨_,rfl⟩
 rw[u]at g;obtain⟨C,z⟩:=R;simp only at g;obtain⟨X,r⟩:∃s,nW (m≠0)=s:=⟨_,rfl⟩
 rw[r]at g;go_enter func137,ntmps137;go_upto_region 1 with fail
 generalize(w.alloc (Z (QE x tv).toArray 86))=W at*;have i:=g W d;clear g;go_wp2_with fail
 refine i.mono ?_;rintro e w1 ⟨rfl,f⟩;replace pA:=AtL.below f pA
 replace d:=QA d f
 have q:(QE x tv)[0]?=kW (O J (6)):=by rw[<-M];rfl
 have D:=pA.2.1 0 _ q;have E:=pA.2.1 1 _ rfl;have y:=AtL.new0 w1 257 [O J (C:Int),O J z];have c:=QI (bZ _ w1) (Z #[O J (C:Int),O J z] 257);replace d:=QA d c
 replace D:=QB c D
 replace E:=QB c E
 have t0:=y.2.1 0 _ rfl;have t1:=y.2.1 1 _ rfl;clear f pA i y c;go_upto_region 2 with fail
 generalize(w1.alloc (Z #[O J (C:Int),O J z] 257))=H at*;have G:=zLq b mb lv F m x.a H (j.below d) l;go_wp2_with fail
 refine G.mono ?_;rintro e w3 ⟨k,o,p,rfl,I⟩;go_wp2;go_ret2
 exact⟨k,o,p,rfl,BPost.front d I⟩
theorem zLD(x:Wc.In)(tv:vW)(b mb:Nat)(lv:vW)(F:List (Nat×Int))(m:Nat)(w:wW)(l:FS w b mb lv F)(G:m<=F.length)(p:F.length<=1000000)(E:x.op=7) :
  cW prog 137 #[pX (kW ⟨b,1,jW⟩),inV x tv,O J (m:Int)] w λe w'=>(e=rX (uX #[O J (m:Int),Y (nW (m≠0))]))/\bL w w':=by
 have pA:=AtL.new0 w 86 (QE x tv);have d:=QI (bZ _ w) (Z (QE x tv).toArray 86);have g:=λw1 (D:bL w w1)=>J0 b mb lv F m w1 (l.below D) G p
 obtain⟨I,q⟩:∃t,VW F m=t:=⟨_,rfl⟩
 rw[q]at g;obtain⟨y,u⟩:=I;simp only at g;obtain⟨H,j⟩:∃s,nW (m≠0)=s:=⟨_,rfl⟩
 rw[j]at g;rw[j];go_enter func137,ntmps137;go_upto_region 1 with fail
 generalize(w.alloc (Z (QE x tv).toArray 86))=W at*;have i:=g W d;clear g;go_wp2_with fail
 refine i.mono ?_;rintro e w1 ⟨rfl,f⟩;replace pA:=AtL.below f pA
 replace d:=QA d f
 have o:(QE x tv)[0]?=kW (O J (7)):=by rw[<-E];rfl
 have z:=pA.2.1 0 _ o;have C:=pA.2.1 1 _ rfl;have r:=AtL.new0 w1 257 [O J (y:Int),O J u];have c:=QI (bZ _ w1) (Z #[O J (y:Int),O J u] 257);replace d:=QA d c
 replace z:=QB c z
 replace C:=QB c C
 have M:=r.2.1 0 _ rfl;have N:=r.2.1 1 _ rfl;clear f pA i r c;go_upto_region 2 with fail
 generalize(w1.alloc (Z #[O J (y:Int),O J u] 257))=K at*;cases H
 ·go_wp2;go_ret2
  exact⟨sM,(clB d)⟩
 ·go_wp2;go_ret2
  exact⟨sM,(clB d)⟩
theorem zKm(x:Wc.In)(tv:vW)(b mb:Nat)(lv:vW)(F:List (Nat×Int))(m:Nat)(w:wW)(u:FS w b mb lv F)(N:m<=F.length)(z:F.length<=1000000)(M:x.op=8) :
  cW prog 137 #[pX (kW ⟨b,1,jW⟩),inV x tv,O J (m:Int)] w λe w'=>(e=rX (uX #[O J (m:Int),Y (nW (m≠0) && !Wc.pairs (VW F m).2)]))/\bL w w':=by
 have pA:=AtL.new0 w 86 (QE x tv);have d:=QI (bZ _ w) (Z (QE x tv).toArray 86);have g:=λw1 (K:bL w w1)=>J0 b mb lv F m w1 (u.below K) N z
 obtain⟨R,p⟩:∃t,VW F m=t:=⟨_,rfl⟩
 rw[p]at g;obtain⟨D,r⟩:=R;simp only at g;obtain⟨I,o⟩:∃s,nW (m≠0)=s:=⟨_,rfl⟩
 rw[o]at g;have PA:=λw=>zA5 r w
 obtain⟨H,j⟩:∃q,Wc.pairs r=q:=⟨_,rfl⟩
 rw[j]at PA;have l:(nW (m≠0) && !Wc.pairs (VW F m).2)=(I && !H):=by rw[p,o,<-j]
 rw[l];go_enter func137,ntmps137;go_upto_region 1 with fail
 generalize(w.alloc (Z (QE x tv).toArray 86))=W at*;have i:=g W d;clear g;go_wp2_with fail
 refine i.mono ?_;rintro e w1 ⟨rfl,f⟩;replace pA:=AtL.below f pA
 replace d:=QA d f
 have y:(QE x tv)[0]?=kW (O J (8)):=by rw[<-M];rfl
 have E:=pA.2.1 0 _ y;have G:=pA.2.1 1 _ rfl;have C:=AtL.new0 w1 257 [O J (D:Int),O J r];have c:=QI (bZ _ w1) (Z #[O J (D:Int),O J r] 257);replace d:=QA d c
 replace E:=QB c E
 replace G:=QB c G
 have t0:=C.2.1 0 _ rfl;have t1:=C.2.1 1 _ rfl;clear f pA i C c;go_upto_region 2 with fail
 generalize(w1.alloc (Z #[O J (D:Int),O J r] 257))=X at*;cases I
 ·clear PA;go_wp2;go_ret2
  exact⟨sM,(clB d)⟩
 ·go_wp2_with fail
  refine(PA _).mono ?_;rintro e w3 ⟨rfl,rfl⟩;cases H
  ·go_wp2;go_ret2
   exact⟨sM,(clB d)⟩
  ·go_wp2;go_ret2
   exact⟨sM,(clB d)⟩
theorem zLn(x:Wc.In)(tv:vW)(b mb:Nat)(lv:vW)(F:List (Nat×Int))(m:Nat)(w:wW)(u:FS w b mb lv F)(N:m<=F.length)(z:F.length<=1000000)(M:x.op=9) :
  cW prog 137 #[pX (kW ⟨b,1,jW⟩),inV x tv,O J (m:Int)] w λe w'=>(e=rX (uX #[O J (m:Int),Y (nW (m≠0)&&Wc.pairs (VW F m).2)]))/\bL w w':=by
 have pA:=AtL.new0 w 86 (QE x tv);have d:=QI (bZ _ w) (Z (QE x tv).toArray 86);have g:=λw1 (K:bL w w1)=>J0 b mb lv F m w1 (u.below K) N z
 obtain⟨R,p⟩:∃t,VW F m=t:=⟨_,rfl⟩
 rw[p]at g;obtain⟨D,r⟩:=R;simp only at g;obtain⟨I,o⟩:∃s,nW (m≠0)=s:=⟨_,rfl⟩
 rw[o]at g;have PA:=λw=>zA5 r w
 obtain⟨H,j⟩:∃q,Wc.pairs r=q:=⟨_,rfl⟩
 rw[j]at PA;have l:(nW (m≠0)&&Wc.pairs (VW F m).2)=(I&&H):=by rw[p,o,<-j]
 rw[l];go_enter func137,ntmps137;go_upto_region 1 with fail
 generalize(w.alloc (Z (QE x tv).toArray 86))=W at*;have i:=g W d;clear g;go_wp2_with fail
 refine i.mono ?_;rintro e w1 ⟨rfl,f⟩;replace pA:=AtL.below f pA
 replace d:=QA d f
 have y:(QE x tv)[0]?=kW (O J (9)):=by rw[<-M];rfl
 have E:=pA.2.1 0 _ y;have G:=pA.2.1 1 _ rfl;have C:=AtL.new0 w1 257 [O J (D:Int),O J r];have c:=QI (bZ _ w1) (Z #[O J (D:Int),O J r] 257);replace d:=QA d c
 replace E:=QB c E
 replace G:=QB c G
 have t0:=C.2.1 0 _ rfl;have t1:=C.2.1 1 _ rfl;clear f pA i C c;go_upto_region 2 with fail
 generalize(w1.alloc (Z #[O J (D:Int),O J r] 257))=X at*;cases I
 ·clear PA;go_wp2;go_ret2
  exact⟨sM,(clB d)⟩
 ·go_wp2_with fail
  refine(PA _).mono ?_;rintro e w3 ⟨rfl,rfl⟩;cases H
  ·go_wp2;go_ret2
   exact⟨sM,(clB d)⟩
  ·go_wp2;go_ret2
   exact⟨sM,(clB d)⟩
theorem zJu(x:Wc.In)(tv:vW)(b mb:Nat)(lv:vW)(F:List (Nat×Int))(m:Nat)(w:wW)(o:FS w b mb lv F)(G:m<=F.length)(q:F.length<=1000000)(E:x.op=10) :
  cW prog 137 #[pX (kW ⟨b,1,jW⟩),inV x tv,O J (m:Int)] w λe w'=>(e=rX (uX #[O J (((VW F m).1:Int)),Y (nW (m≠0))]))/\bL w w':=by
 have pA:=AtL.new0 w 86 (QE x tv);have d:=QI (bZ _ w) (Z (QE x tv).toArray 86);have g:=λw1 (D:bL w w1)=>J0 b mb lv F m w1 (o.below D) G q
 obtain⟨I,l⟩:∃t,VW F m=t:=⟨_,rfl⟩
 rw[l]at g;obtain⟨y,u⟩:=I;simp only at g;obtain⟨H,j⟩:∃s,nW (m≠0)=s:=⟨_,rfl⟩
 rw[j]at g;rw[j,l];go_enter func137,ntmps137;go_upto_region 1 with fail
 generalize(w.alloc (Z (QE x tv).toArray 86))=W at*;have i:=g W d;clear g;go_wp2_with fail
 refine i.mono ?_;rintro e w1 ⟨rfl,f⟩;replace pA:=AtL.below f pA
 replace d:=QA d f
 have p:(QE x tv)[0]?=kW (O J (10)):=by rw[<-E];rfl
 have z:=pA.2.1 0 _ p;have C:=pA.2.1 1 _ rfl;have r:=AtL.new0 w1 257 [O J (y:Int),O J u];have c:=QI (bZ _ w1) (Z #[O J (y:Int),O J u] 257);replace d:=QA d c
 replace z:=QB c z
 replace C:=QB c C
 have M:=r.2.1 0 _ rfl;have N:=r.2.1 1 _ rfl;clear f pA i r c;go_upto_region 2 with fail
 generalize(w1.alloc (Z #[O J (y:Int),O J u] 257))=K at*;cases H
 ·go_wp2;go_ret2
  exact⟨sM,(clB d)⟩
 ·go_wp2;go_ret2
  exact⟨sM,(clB d)⟩
theorem zJc(x:Wc.In)(tv:vW)(b mb:Nat)(lv:vW)(F:List (Nat×Int))(m:Nat)(w:wW)(o:FS w b mb lv F)(I:m<=F.length)(q:F.length<=1000000)(H:x.op=16) :
  cW prog 137 #[pX (kW ⟨b,1,jW⟩),inV x tv,O J (m:Int)] w λe w'=>(e=rX (uX #[O J (m:Int),Y (nW (m=0))]))/\bL w w':=by
 have pA:=AtL.new0 w 86 (QE x tv);have d:=QI (bZ _ w) (Z (QE x tv).toArray 86);have g:=λw1 (G:bL w w1)=>J0 b mb lv F m w1 (o.below G) I q
 obtain⟨K,r⟩:∃t,VW F m=t:=⟨_,rfl⟩
 rw[r]at g;obtain⟨z,y⟩:=K;simp only at g;obtain⟨E,j⟩:∃s,nW (m≠0)=s:=⟨_,rfl⟩
 rw[j]at g;have l:nW (m=0) = !E:=by rw[<-j];simp
 rw[l];go_enter func137,ntmps137;go_upto_region 1 with fail
 generalize(w.alloc (Z (QE x tv).toArray 86))=W at*;have i:=g W d;clear g;go_wp2_with fail
 refine i.mono ?_;rintro e w1 ⟨rfl,f⟩;replace pA:=AtL.below f pA
 replace d:=QA d f
 have p:(QE x tv)[0]?=kW (O J (16)):=by rw[<-H];rfl
 have C:=pA.2.1 0 _ p;have D:=pA.2.1 1 _ rfl;have u:=AtL.new0 w1 257 [O J (z:Int),O J y];have c:=QI (bZ _ w1) (Z #[O J (z:Int),O J y] 257);replace d:=QA d c
 replace C:=QB c C
 replace D:=QB c D
 have N:=u.2.1 0 _ rfl;have R:=u.2.1 1 _ rfl;clear f pA i u c;go_upto_region 2 with fail
 generalize(w1.alloc (Z #[O J (z:Int),O J y] 257))=M at*;cases E
 ·go_wp2;go_ret2
  exact⟨sM,(clB d)⟩
 ·go_wp2;go_ret2
  exact⟨sM,(clB d)⟩
theorem zMl(x:Wc.In)(tv:vW)(b mb:Nat)(lv:vW)(F:List (Nat×Int))(m:Nat)(w:wW)(j:FS w b mb lv F)(E:m<=F.length)(o:F.length<=1000000)(M:x.op≠6/\x.op≠7/\x.op≠8/\x.op≠9/\x.op≠10/\x.op≠16) :
  cW prog 137 #[pX (kW ⟨b,1,jW⟩),inV x tv,O J (m:Int)] w λe w'=>(e=rX (uX #[O J (m:Int),Y lW]))/\bL w w':=by
 have pA:=AtL.new0 w 86 (QE x tv);have f:=QI (bZ _ w) (Z (QE x tv).toArray 86);have g:=λw1 (D:bL w w1)=>J0 b mb lv F m w1 (j.below D) E o
 obtain⟨I,q⟩:∃t,VW F m=t:=⟨_,rfl⟩
 rw[q]at g;obtain⟨y,u⟩:=I;simp only at g;obtain⟨sm,p⟩:∃s,nW (m≠0)=s:=⟨_,rfl⟩
 rw[p]at g;have N:¬x.op=6:=oM;have R:¬x.op=7:=oM;have X:¬x.op=8:=oM;have m9:¬x.op=9:=oM;have G:¬x.op=10:=oM;have H:¬x.op=16:=oM;go_enter func137,ntmps137;go_upto_region 1 with fail
 generalize(w.alloc (Z (QE x tv).toArray 86))=W at*;have i:=g W f;clear g;go_wp2_with fail
 refine i.mono ?_;rintro e w1 ⟨rfl,d⟩;replace pA:=AtL.below d pA
 replace f:=QA f d
 have l:(QE x tv)[0]?=kW (O J x.op):=rfl;have z:=pA.2.1 0 _ l;have C:=pA.2.1 1 _ rfl;have r:=AtL.new0 w1 257 [O J (y:Int),O J u];have c:=QI (bZ _ w1) (Z #[O J (y:Int),O J u] 257);replace f:=QA f c
 replace z:=QB c z
 replace C:=QB c C
 have t0:=r.2.1 0 _ rfl;have t1:=r.2.1 1 _ rfl;clear d pA i r c;go_upto_region 2 with fail
 generalize(w1.alloc (Z #[O J (y:Int),O J u] 257))=K at*;go_wp2;go_ret2
 exact⟨sM,(clB f)⟩
def zSA(r:Option (Nat×List (Nat×Int)))(b mb:Nat)(lv:vW)(w:wW)(e:Ending)(w':wW):Prop:=match r with
 |some (k,F2)=>e=rX (uX #[O J (k:Int),Y lW])/\BPost b mb lv w w' F2
 |none=>∃z:Int,e=rX (uX #[O J z,Y mW])/\Fr (b::mb::lv.ownBlock.toList) w w'
theorem zDI{m:Nat}(h:m≠0):VW F m=F.getD (m-1) (0,0):=if_neg h
def V3(x:Wc.In):Prop:=∀(tv:vW)(b mb:Nat)(lv:vW)(F:List (Nat×Int))(m:Nat)(w:wW),FS w b mb lv F->m<=F.length->F.length<=1000000->cW prog 137 #[pX (kW ⟨b,1,jW⟩),inV x tv,O J (m:Int)] w λe w'=>zSA (Wc.behF F x.op x.a m) b mb lv w e w'
theorem zPb{x:Wc.In}(h:x.op=16):V3 x:=by
 intro tv b mb lv F m w c i f;refine(zJc x tv b mb lv F m w c i f h).mono ?_;rintro e w' ⟨rfl,g⟩;by_cases d:m=0
 ·rw[show Wc.behF F x.op x.a m=kW (m,F)from by simp[Wc.behF,h,d]];exact⟨by simp[d],BPost.of_below c g⟩
 ·rw[show Wc.behF F x.op x.a m=jW from by simp[Wc.behF,h,d]];exact⟨_,by simp[d];rfl,Fr.of_below _ g⟩
theorem zOK{x:Wc.In}(h:x.op≠6/\x.op≠7/\x.op≠8/\x.op≠9/\x.op≠10/\x.op≠16):V3 x:=by
 intro tv b mb lv F m w c g d;refine(zMl x tv b mb lv F m w c g d h).mono ?_;rintro e w' ⟨rfl,f⟩;obtain⟨i,j,l,o,p,q⟩:=h;rw[show Wc.behF F x.op x.a m=kW (m,F)from by simp[Wc.behF,i,j,l,o,p,q]];exact⟨rfl,BPost.of_below c f⟩
theorem zGt(x:Wc.In)(tv:vW)(b mb:Nat)(lv:vW)(F:List (Nat×Int))(m:Nat)(w:wW)(c:FS w b mb lv F)(i:m<=F.length)(f:F.length<=1000000) :
  cW prog 137 #[pX (kW ⟨b,1,jW⟩),inV x tv,O J (m:Int)] w λe w'=>zSA (Wc.behF F x.op x.a m) b mb lv w e w':=by
 rcases Wc.ops17 x.op with h|h|h|h|h|h|h
 ·refine(zLH x tv b mb lv F m w c i f h).mono ?_;rintro e w' ⟨k,q,l,o,p⟩;rw[h,l];exact⟨o,p⟩
 ·refine(zLD x tv b mb lv F m w c i f h).mono ?_;rintro e w' ⟨rfl,g⟩;by_cases d:m=0
  ·rw[show Wc.behF F x.op x.a m=jW from by simp[Wc.behF,h,d]];exact⟨_,by simp[d];rfl,Fr.of_below _ g⟩
  ·rw[show Wc.behF F x.op x.a m=kW (m,F)from by simp[Wc.behF,h,d]];exact⟨by simp[d],BPost.of_below c g⟩
 ·refine(zKm x tv b mb lv F m w c i f h).mono ?_;rintro e w' ⟨rfl,g⟩;by_cases d:m=0
  ·rw[show Wc.behF F x.op x.a m=jW from by simp[Wc.behF,h,d]];exact⟨_,by simp[d];rfl,Fr.of_below _ g⟩
  ·rw[zDI d];cases j:Wc.pairs (F.getD (m-1) (0,0)).2 with
   |true =>
    rw[show Wc.behF F x.op x.a m=jW from by simp only[Wc.behF,h,j];simp];exact⟨_,by simp;rfl,Fr.of_below _ g⟩
   |false =>
    rw[show Wc.behF F x.op x.a m=kW (m,F)from by simp only[Wc.behF,h,j];simp[d]];exact⟨by simp[d],BPost.of_below c g⟩
 ·refine(zLn x tv b mb lv F m w c i f h).mono ?_;rintro e w' ⟨rfl,g⟩;by_cases d:m=0
  ·rw[show Wc.behF F x.op x.a m=jW from by simp[Wc.behF,h,d]];exact⟨_,by simp[d];rfl,Fr.of_below _ g⟩
  ·rw[zDI d];cases j:Wc.pairs (F.getD (m-1) (0,0)).2 with
   |false =>
    rw[show Wc.behF F x.op x.a m=jW from by simp only[Wc.behF,h,j];simp];exact⟨_,by simp;rfl,Fr.of_below _ g⟩
   |true =>
    rw[show Wc.behF F x.op x.a m=kW (m,F)from by simp only[Wc.behF,h,j];simp[d]];exact⟨by simp[d],BPost.of_below c g⟩
 ·refine(zJu x tv b mb lv F m w c i f h).mono ?_;rintro e w' ⟨rfl,g⟩;by_cases d:m=0
  ·rw[show Wc.behF F x.op x.a m=jW from by simp[Wc.behF,h,d]];exact⟨_,by simp[d];rfl,Fr.of_below _ g⟩
  ·rw[zDI d,show Wc.behF F x.op x.a m=kW ((F.getD (m-1) (0,0)).1,F)from by simp[Wc.behF,h,d]];exact⟨by simp[d],BPost.of_below c g⟩
 ·exact zPb h tv b mb lv F m w c i f
 ·exact zOK h tv b mb lv F m w c i f
theorem zOz(x:Wc.In):V3 x:=λtv b mb lv F m w c e d=>zGt x tv b mb lv F m w c e d
def Vk(F:List (Nat×Int))(x:Wc.In)(v:Int)(m:Nat):Option ((Int×Nat)×List (Nat×Int)):=match Wc.behF F x.op x.a m with
 |none=>jW
 |some (m2,F2)=>if v<(Wc.swO x.op x.b).1\/(x.op=16/\(Wc.swO x.op x.b).1<v)then jW else kW ((v-(Wc.swO x.op x.b).1+(Wc.swO x.op x.b).2,m2),F2)
def XA(o:Int)(r:Option (Nat×List (Nat×Int)))(v c d:Int):Option ((Int×Nat)×List (Nat×Int)):=match r with
 |none=>jW
 |some (m2,F2)=>if v<c\/(o=16/\c<v)then jW else kW ((v-c+d,m2),F2)
def Vz(r:Option ((Int×Nat)×List (Nat×Int)))(b mb:Nat)(lv:vW)(w:wW)(e:Ending)(w':wW):Prop:=match r with
 |some ((v,k),F2)=>e=rX (uX #[gX #[O J v,O J (k:Int)],Y lW])/\BPost b mb lv w w' F2
 |none=>e=rX (uX #[gX #[O J 0,O J 0],Y mW])/\Fr (b::mb::lv.ownBlock.toList) w w'
theorem AtL.fr{l:List vW}(h:AtL w k l)(c:Fr S w w')(d:k∉S):AtL w' k l :=
 ⟨wZ h.1 c.size,λi v e=>c.cell (h.2.1 i v e) d,λi hi=>by rw[c.frozen h.1 d];exact h.2.2 i hi⟩
theorem BPost.set(h:BPost b mb lv w w1 F){k:Nat}(D:w.heap.size<=k)(H:b<w.heap.size)(d:∃c f,w1.heap[k]?=kW (Z c 190 f))(i:Nat)(v:vW):BPost b mb lv w (w1.setCell ⟨k,i,jW⟩ v) F/\∃c f,(w1.setCell ⟨k,i,jW⟩ v).heap[k]?=kW (Z c 190 f):=by
 obtain⟨c,f,d⟩:=d;obtain⟨⟨lv',l⟩,z,C⟩:=h;have fr:Fr [k] w1 (w1.setCell ⟨k,i,jW⟩ v):=Fr.of_grown (QT _ _ _ _) (λj e=>by cases e;simp);have E:=l.lt;refine⟨⟨⟨lv',l.fr fr (by simp;omega) (by simp;omega) (λg e m=>?_)⟩,z.new fr (λj hj=>by simp at hj;subst hj;exact xY D),λu G=>fr.cell (C u G) (by simp;omega)⟩,?_⟩
 ·simp at m;subst m;rcases l.own.2 with⟨q,_⟩|⟨y,cap,p,q,_,o,_⟩
  ·rw[q]at e;cases e
  ·rw[q]at e;have r:y=g:=by simpa[Value.ownBlock]using e
   subst r;rw[d]at o;cases o
 ·refine⟨c.setIfInBounds i v,f,?_⟩;simp[qY,bY,d]
theorem zAh(w:wW)(o:Obj)(k:Nat)(h:k=w.heap.size):(w.alloc o).heap[k]?=kW o:=by
 subst h;exact yY
theorem zGv(x:Wc.In)(tv:vW)(b mb:Nat)(lv:vW)(F:List (Nat×Int))(m:Nat)(v:Int)(w:wW)(g:FS w b mb lv F)(hm:m<=F.length)(ac:F.length<=1000000)(hv:0<=v/\v<=100000000)(ad:-1000<=(Wc.swO x.op x.b).1/\(Wc.swO x.op x.b).1<=1000/\0<=(Wc.swO x.op x.b).2/\(Wc.swO x.op x.b).2<=1)(aa:V3 x) :
  cW prog 103 #[pX (kW ⟨b,1,jW⟩),inV x tv,gX #[O J v,O J (m:Int)]] w λe w'=>Vz (Vk F x v m) b mb lv w e w':=by
 have I:AtL (((w.alloc (Z (QE x tv).toArray 86)).alloc (Z #[O J v,O J (m:Int)] 190)).alloc (Z #[O J 0,O J 0] 190)) w.heap.size (QE x tv):=((AtL.new0 w _ _).alloc _).alloc _;have u:AtL (((w.alloc (Z (QE x tv).toArray 86)).alloc (Z #[O J v,O J (m:Int)] 190)).alloc (Z #[O J 0,O J 0] 190)) (w.heap.size+1) [O J v,O J (m:Int)]:=(AtL.new1 w _ _ _).alloc _;have i:AtL (((w.alloc (Z (QE x tv).toArray 86)).alloc (Z #[O J v,O J (m:Int)] 190)).alloc (Z #[O J 0,O J 0] 190)) (w.heap.size+1+1) [O J 0,O J 0]:=AtL.new _ _ (by simp only[yX]) _;have tR:((((w.alloc (Z (QE x tv).toArray 86)).alloc (Z #[O J v,O J (m:Int)] 190)).alloc (Z #[O J 0,O J 0] 190))).heap[w.heap.size+1+1]?=kW (Z #[O J 0,O J 0] 190 (0,0)):=zAh _ _ _ (by simp only[yX]);have E:bL w ((((w.alloc (Z (QE x tv).toArray 86)).alloc (Z #[O J v,O J (m:Int)] 190)).alloc (Z #[O J 0,O J 0] 190))):=QI (QI (QI (bZ _ w) _) _) _;have SW:=λw=>zG9 x tv w
 have BH:=λw1 (hb:bL w w1)=>aa tv b mb lv F m w1 (g.below hb) hm ac
 clear aa;have HG:hH (∀k,k∈b::mb::lv.ownBlock.toList->k<w.heap.size):=by
  intro k hk;have h1:=Q7 g.hd;have h2:=g.lt;simp only[nX,Option.mem_toList]at hk;rcases hk with rfl|rfl|hk
  ·exact h1
  ·omega
  ·exact(QL g.own hk).2
 have HB:=hid (Q7 g.hd);obtain⟨c,l⟩:∃o,(Wc.swO x.op x.b).1=o:=⟨_,rfl⟩
 obtain⟨d,p⟩:∃o,(Wc.swO x.op x.b).2=o:=⟨_,rfl⟩
 obtain⟨r,hr⟩:=xV (Wc.behF F x.op x.a m)
 have ab:Vk F x v m=XA x.op r v c d:=by rw[<-l,<-p,<-hr];rfl
 rw[ab];rw[l,p]at ad;rw[hr]at BH;have R:∀w:wW,CR 136 #[inV x tv] w (uX #[O J c,O J d]):=λw=>by rw[<-l,<-p];exact SW w
 have wa:J.wrap (v-c)=v-c:=by rw[dZ];omega
 have wb:J.wrap (v-c+d)=v-c+d:=by rw[dZ];omega
 clear ab l p hr SW g hm ac hv ad;go_enter func103,ntmps103;go_upto_region 1 with fail
 generalize(((w.alloc (Z (QE x tv).toArray 86)).alloc (Z #[O J v,O J (m:Int)] 190)).alloc (Z #[O J 0,O J 0] 190))=W at*;have rI:=I.range;go_wp2_with (first|(refine ldQ 86 (mX 4) w.heap.size 0 (QE x tv) _ rI underlying86 ?_))
 refine(R _).mono ?_;rintro e w1 ⟨rfl,f⟩;replace I:=AtL.below f I
 replace u:=AtL.below f u
 replace tR:=(f.block _ i.1).trans tR
 replace i:=AtL.below f i
 replace E:=QA E f
 have M:=BH w1 E;clear rI f R BH;have rI:=I.range;have h0:=u.2.1 0 _ rfl;have h1:=u.2.1 1 _ rfl;go_wp2_with (first|(refine ldQ 86 (mX 4) w.heap.size 0 (QE x tv) _ rI underlying86 ?_))
 refine M.mono ?_;intro e w2 G;clear rI M;have nI:w.heap.size∉b::mb::lv.ownBlock.toList:=λe=>by have:=HG.out _ e;omega
 have nH:w.heap.size+1∉b::mb::lv.ownBlock.toList:=λe=>by have:=HG.out _ e;omega
 have nR:w.heap.size+1+1∉b::mb::lv.ownBlock.toList:=λe=>by have:=HG.out _ e;omega
 have K:Fr (b::mb::lv.ownBlock.toList) w1 w2:=by
  cases r with
  |none =>
   obtain⟨_,_,h⟩:=G;exact h
  |some q =>
   obtain⟨_,_,h,_⟩:=G;exact h
 replace I:=I.fr K nI
 replace u:=u.fr K nH
 have t2:w2.heap[w.heap.size+1+1]?=kW (Z #[O J 0,O J 0] 190 (0,0)):=by rw[K.block _ i.1 nR];exact tR
 replace i:=i.fr K nR
 have i0:=I.2.1 0 _ rfl;clear h0 h1 tR;have h0:=u.2.1 0 _ rfl;have h1:=u.2.1 1 _ rfl;have r0:=i.2.1 0 _ rfl;have r1:=i.2.1 1 _ rfl;have z0:=i.2.2 0 dM;have z1:=i.2.2 1 dM;cases r with
 |none =>
  obtain⟨z,rfl,hf⟩:=G;have FB:=(Fr.of_below (b::mb::lv.ownBlock.toList) E).trans hf;have F3:Fr (b::mb::lv.ownBlock.toList) w ((w2.setCell ⟨w.heap.size+1+1,0,jW⟩ (O J 0)).setCell ⟨w.heap.size+1+1,1,jW⟩ (O J 0)):=(FB.new (Fr.of_grown (QT _ _ _ _) (λj e=>by cases e;exact List.mem_singleton.2 rfl)) (λj H=>by simp at H;omega)).new (Fr.of_grown (QT _ _ _ _) (λj e=>by cases e;exact List.mem_singleton.2 rfl)) (λj H=>by simp at H;omega);clear hf K E;go_upto_region 4 with fail
  go_wp2;have y:((w2.setCell ⟨w.heap.size+1+1,0,jW⟩ (O J 0)).setCell ⟨w.heap.size+1+1,1,jW⟩ (O J 0)).cell? ⟨w.heap.size+1+1,0,jW⟩=kW (O J 0):=by rw[QY _ _ _ dM];exact Q4 r0 _
  have C:((w2.setCell ⟨w.heap.size+1+1,0,jW⟩ (O J 0)).setCell ⟨w.heap.size+1+1,1,jW⟩ (O J 0)).cell? ⟨w.heap.size+1+1,1,jW⟩=kW (O J 0):=Q4 (by rw[QY _ _ _ dM];exact r1) _;refine bodyPost_ret (v:=uX #[gX #[O J 0,O J 0],Y mW]) (by simp[results,results103,go_sem,y,C]) rfl ?_;exact⟨rfl,F3⟩
 |some q =>
  obtain⟨k,D⟩:=q;obtain⟨rfl,G⟩:=G;have PB:=BPost.front E G;have P1:=PB.set (k:=w.heap.size+1+1) oM HB.out ⟨_,_,t2⟩ 0 (O J (v-c+d));have P2:=P1.1.set oM HB.out P1.2 1 (O J (k:Int));have FB:=PB.2.1;have F3:Fr (b::mb::lv.ownBlock.toList) w ((w2.setCell ⟨w.heap.size+1+1,0,jW⟩ (O J 0)).setCell ⟨w.heap.size+1+1,1,jW⟩ (O J 0)):=(FB.new (Fr.of_grown (QT _ _ _ _) (λj e=>by cases e;exact List.mem_singleton.2 rfl)) (λj H=>by simp at H;omega)).new (Fr.of_grown (QT _ _ _ _) (λj e=>by cases e;exact List.mem_singleton.2 rfl)) (λj H=>by simp at H;omega);have N:=hid P2.1;clear G K E PB P1 P2 FB t2;have NO:∀(hc:v<c\/(x.op=16/\c<v)),XA x.op (kW (k,D)) v c d=jW:=λhc=>if_pos hc
  have X:∀(hc:¬(v<c\/(x.op=16/\c<v))),XA x.op (kW (k,D)) v c d=kW ((v-c+d,k),D):=λhc=>if_neg hc
  have y:((w2.setCell ⟨w.heap.size+1+1,0,jW⟩ (O J 0)).setCell ⟨w.heap.size+1+1,1,jW⟩ (O J 0)).cell? ⟨w.heap.size+1+1,0,jW⟩=kW (O J 0):=by rw[QY _ _ _ dM];exact Q4 r0 _
  have C:((w2.setCell ⟨w.heap.size+1+1,0,jW⟩ (O J 0)).setCell ⟨w.heap.size+1+1,1,jW⟩ (O J 0)).cell? ⟨w.heap.size+1+1,1,jW⟩=kW (O J 0):=Q4 (by rw[QY _ _ _ dM];exact r1) _;have Q0:hH _:=y;have Q1:hH _:=C;clear y C;by_cases c1:v<c
  ·go_upto_region 4 with fail
   go_wp2;refine bodyPost_ret (v:=uX #[gX #[O J 0,O J 0],Y mW]) (by have y:=Q0.out;have C:=Q1.out;simp[results,results103,go_sem,y,C]) rfl ?_;show Vz (XA x.op (kW (k,D)) v c d) b mb lv w _ _
   rw[NO (vY c1)];exact⟨rfl,F3⟩
  ·by_cases c2:x.op=16
   ·by_cases c3:c<v
    ·go_upto_region 4 with fail
     go_wp2;refine bodyPost_ret (v:=uX #[gX #[O J 0,O J 0],Y mW]) (by have y:=Q0.out;have C:=Q1.out;simp[results,results103,go_sem,y,C]) rfl ?_;show Vz (XA x.op (kW (k,D)) v c d) b mb lv w _ _
     rw[NO (xY ⟨c2,c3⟩)];exact⟨rfl,F3⟩
    ·go_wp2;have d0:((w2.setCell ⟨w.heap.size+1+1,0,jW⟩ (O J (v-c+d))).setCell ⟨w.heap.size+1+1,1,jW⟩ (O J (k:Int))).cell? ⟨w.heap.size+1+1,0,jW⟩=kW (O J (v-c+d)):=by rw[QY _ _ _ dM];exact Q4 r0 _
     have d1:((w2.setCell ⟨w.heap.size+1+1,0,jW⟩ (O J (v-c+d))).setCell ⟨w.heap.size+1+1,1,jW⟩ (O J (k:Int))).cell? ⟨w.heap.size+1+1,1,jW⟩=kW (O J (k:Int)):=Q4 (by rw[QY _ _ _ dM];exact r1) _;refine bodyPost_ret (v:=uX #[gX #[O J (v-c+d),O J (k:Int)],Y lW]) (by simp[results,results103,go_sem,d0,d1]) rfl ?_;show Vz (XA x.op (kW (k,D)) v c d) b mb lv w _ _
     rw[X oM];exact⟨rfl,N.out⟩
   ·go_wp2;have d0:((w2.setCell ⟨w.heap.size+1+1,0,jW⟩ (O J (v-c+d))).setCell ⟨w.heap.size+1+1,1,jW⟩ (O J (k:Int))).cell? ⟨w.heap.size+1+1,0,jW⟩=kW (O J (v-c+d)):=by rw[QY _ _ _ dM];exact Q4 r0 _
    have d1:((w2.setCell ⟨w.heap.size+1+1,0,jW⟩ (O J (v-c+d))).setCell ⟨w.heap.size+1+1,1,jW⟩ (O J (k:Int))).cell? ⟨w.heap.size+1+1,1,jW⟩=kW (O J (k:Int)):=Q4 (by rw[QY _ _ _ dM];exact r1) _;refine bodyPost_ret (v:=uX #[gX #[O J (v-c+d),O J (k:Int)],Y lW]) (by simp[results,results103,go_sem,d0,d1]) rfl ?_;show Vz (XA x.op (kW (k,D)) v c d) b mb lv w _ _
    rw[X oM];exact⟨rfl,N.out⟩
theorem zQN(l:List Int)(o p:vW)(w:wW)(z:RdZ w o l)(C:RdZ w p l)(D:l.length<=1000000) :
  CR 38 #[o,p] w (Y lW):=by
 obtain⟨H,K,rfl,j⟩:=z;obtain⟨I,M,rfl,m⟩:=C;have q:=hid j;have r:=hid m;obtain⟨n,E⟩:=xV l.length
 rw[E]at D ⊢;clear j m;go_enter func38,ntmps38;go_wp2_with fail
 go_loopg [5] n (λgk x wr=>∃i:Nat,x=O J i/\gk=n-i/\i<=n/\bL w wr)
 case atStart=>exact⟨0,rfl,rfl,jZ _,bZ _ _⟩
 case round =>
  obtain⟨i,rfl,N,hi,c⟩:=hrel;by_cases e:i<n
  ·have d:(i:Int)<(n:Int):=oM;have G:J.wrap ((i:Int)+1)=(i:Int)+1:=by rw[dZ];omega
   obtain⟨b1,R,rfl,f⟩:=q.out i oM;obtain⟨b2,X,rfl,g⟩:=r.out i oM;have u:=QB c f;have y:=QB c g;generalize l[i]=x at u y;clear f g;go_upto_region 6 with fail
   go_quiet (fail)
   go_wp2_with fail
   go_roundg (n-(i+1))
   case rel=>exact⟨i+1,sM,rfl,e,(clB c)⟩
   case measure=>omega
  ·have d:¬(i:Int)<(n:Int):=oM;go_wp2;go_ret;exact⟨rfl,c⟩
theorem QF(c:bL w w'){b o:Nat}{l:List vW}(h:w.rangeAt b o l):w'.rangeAt b o l:=λj v d=>QB c (h j v d)
def RdC(w:wW)(v:vW)(L:List (Wc.In×List Int)):Prop:=∃av cap,v=U av L.length cap/\∀i (h:i<L.length),∃bb off p m k,av=kW ⟨bb,off,jW⟩/\w.rangeAt bb (off+i*23) (QE (L[i]).1 (U p m k))/\RdZ w (U p m k) (L[i]).2/\(p=jW->k=0)
theorem RdC.below{L:List (Wc.In×List Int)}(h:RdC w v L)(c:bL w w'):RdC w' v L:=by
 obtain⟨av,cap,e,h⟩:=h;refine⟨av,cap,e,λi hi=>?_⟩;obtain⟨bb,off,p,m,k,d,f,g,j⟩:=h i hi;exact⟨bb,off,p,m,k,d,QF c f,g.below c,j⟩
theorem zCb{s:Tmp}{T:TypeId}(h:fn.results=#[.cell t T,.tmp s])(c:Array vW)(w:wW)(b:Nat)(cs:List vW)(d:TypeDesc)(i:c.getD t undef=pX (kW ⟨b,0,jW⟩))(f:w.rangeAt b 0 cs)
  (j:P.underlying T=kW d) (hd:d.isRow=lW) (hi:(P.info? T).map (·.size)=kW cs.length):(results fn c).run P w=.ok (uX #[gX cs.toArray,c.getD s undef]) w:=by
 have g:=run_loadVar_mid (P:=P) w b 0 T cs d f j hd hi;have e:c[t]?.getD undef=pX (kW ⟨b,0,jW⟩):=by rw[<-i];simp
 simp only[results,h];simp[e,g,asAddr]
theorem Q3{T:TypeId}(h:fn.results=#[.cell t T])(c:Array vW)(w:wW)(b:Nat)(cs:List vW)(d:TypeDesc)(i:c.getD t undef=pX (kW ⟨b,0,jW⟩))(f:w.rangeAt b 0 cs)
  (j:P.underlying T=kW d) (hd:d.isRow=lW) (hi:(P.info? T).map (·.size)=kW cs.length):(results fn c).run P w=.ok (gX cs.toArray) w:=by
 have g:=run_loadVar_mid (P:=P) w b 0 T cs d f j hd hi;have e:c[t]?.getD undef=pX (kW ⟨b,0,jW⟩):=by rw[<-i];simp
 simp only[results,h];simp[e,g,asAddr]
def QO(x:Wt.Nd)(c:vW):List vW:=QM x++[c]
theorem zBU(x:Wt.Nd)(c:vW):(QO x c).length=21:=rfl
theorem zMq(x:Wt.Nd)(av:Option dW)(n c:Nat):∀v∈QO x (U av n c),v.oneCell'=lW:=by
 intro v d;rcases List.mem_append.1 d with h|h
 ·exact zIw x v h
 ·simp at h;subst h;rfl
theorem Qt(x:Wt.Nd)(av:Option dW)(n c:Nat):(QO x (U av n c)).toArray.all (·.oneCell')=lW:=all_oneCell_toArray (zMq x av n c)
theorem zS0(x:Wt.Nd)(w:wW):(Instr.build 158 #[(0,gX (QM x).toArray)]).run prog w=.ok (gX (QO x (U jW 0 0)).toArray) w:=kR
theorem zEq(c:op.guard=jW)(y:Operand)(e:op.op=.build 158 #[(0,y)])(x:Wt.Nd)(f:a.eval y=gX (QM x).toArray)
  (h:wpList prog ops Q rest (a.put op.dst (gX (QO x (U jW 0 0)).toArray)) w):wpList prog ops Q (op::rest) a w:=by
 refine wpList_plain c λK d=>?_
 unfold Oper.wp execOp;simp only[e,rY,hY,bX,f,eY,fY,mZ,zS0];exact d _ _ h
theorem zBG{o:Nat}{e:vW}(h:w.rangeAt k o (QO x e)):w.rangeAt k o (QM x):=λj v c=>h j v (by
 unfold QO;have d:j<(QM x).length:=by
  rcases vZ j (QM x).length with q|q
  ·exact q
  ·rw[rZ q]at c;cases c
 rw[sZ d];exact c)
abbrev zeros21:Array vW:=#[O J 0,O J 0,O J 0,O J 0,V ⟨#[]⟩,Y mW,O J 0,O J 0,V ⟨#[]⟩,O J 0,V ⟨#[]⟩,O J 0,O J 0,Y mW,Y mW,V ⟨#[]⟩,O J 0,O J 0,Y mW,Y mW,U jW 0 0]
def Ja:List (Wt.Nd×vW)->List vW
 |[]=>[]
 |p::r=>QO p.1 p.2++Ja r
theorem zDe:∀A:List (Wt.Nd×vW),(Ja A).length=A.length*21
 |[]=>rfl
 |x::r=>by simp[Ja,zDe r,zBU];omega
theorem zDv:∀(A C:List (Wt.Nd×vW)),Ja (A++C)=Ja A++Ja C
 |[],C=>rfl
 |x::r,C=>by simp[Ja,zDv r C]
theorem zDO:∀(A:List (Wt.Nd×vW)),(∀p∈A,∃av n c,p.2=U av n c)->∀v∈Ja A,v.oneCell'=lW
 |[],_,v,h=>by cases h
 |x::r,hs,v,h=>by
  obtain⟨av,n,c,e⟩:=hs x (kZ ..);simp only[Ja,bW]at h;rcases h with h|h
  ·rw[e]at h;exact zMq _ _ _ _ v h
  ·exact zDO r (λp d=>hs p (uZ _ d)) v h
theorem zDZ:∀(A:List (Wt.Nd×vW))(i:Nat)(h:i<A.length)(j:Nat)(v:vW),(QO (A[i]).1 (A[i]).2)[j]?=kW v->(Ja A)[i*21+j]?=kW v
 |[],i,h,_,_,_=>absurd h (zZ _)
 |x::r,0,h,j,v,hv=>by
  have c:j<(QO x.1 x.2).length:=by
   rcases vZ j (QO x.1 x.2).length with q|q
   ·exact q
   ·simp only[fX]at hv;rw[rZ q]at hv;cases hv
  simp only[Ja,mY,tY];rw[sZ c];exact hv
 |x::r,i+1,h,j,v,hv=>by
  simp only[Ja];rw[wY (by rw[zBU];omega),zBU,show(i+1)*21+j-21=i*21+j from by omega];exact zDZ r i (by simpa using h) j v (by simpa using hv)
def OwnP(w:wW)(B:Nat)(v:vW)(A:List (Wt.Nd×vW)):Prop:=w.ownsRow B 158 21 v A.length (Ja A)
theorem OwnP.nil(w:wW)(B:Nat):OwnP w B (U jW 0 0) []:=⟨rfl,vY ⟨rfl,rfl⟩⟩
theorem OwnP.below(h:OwnP w B v A)(c:bL w w'):OwnP w' B v A:=QZ (Fr.of_below [] c) h sM
theorem OwnP.cases(h:OwnP w B v A):(v=U jW 0 0/\A=[]) \/ ∃g cap,v=U (kW ⟨g,0,jW⟩) A.length cap/\B<=g/\g<w.heap.size/\∀i (hi:i<A.length),w.rangeAt g (i*21) (QO (A[i]).1 (A[i]).2):=by
 rcases h.2 with⟨e,d⟩|⟨g,cap,f,e,c,m,o,p,q,r⟩
 ·exact vY ⟨e,yZ d⟩
 ·refine xY ⟨g,cap,e,c,(QL h (by rw[e];rfl)).2,λi hi j v l=>?_⟩;have:=h.cells (by rw[e];rfl) (i*21+j) v (zDZ A i hi j v l);rw[show(⟨g,0,jW⟩:dW).add (i*21+j)=⟨g,i*21+j,jW⟩from by
   simp[Addr.add];try(intro d;omega)]at this
  exact this
theorem OwnP.slice(h:OwnP w B v A):∃a m c,v=U a m c:=by
 rcases OwnP.cases h with⟨e,_⟩|⟨g,cap,e,_⟩
 ·exact⟨_,_,_,e⟩
 ·exact⟨_,_,_,e⟩
theorem zFO:(prog.info? 158).map (λi=>(i.zero,i.size,i.bytes))=kW (kW (gX zeros21),21,200):=kR
theorem zA9{ops:Array Oper}{rest:List Oper}{o:Oper}{a:Act}{Q:Exit->Act->wW->Prop}(i:o.guard=jW)(s x:Operand)(H:o.op=.call {callee:=.builtin .append,args:=#[s,x],argTypes:=#[156,156]})
  (w:wW) (B:Nat) (C:B<=w.heap.size) (v:vW) (A:List (Wt.Nd×vW)) (M:a.eval s=v) (e:OwnP w B v A) (g:Nat) (y:Wt.Nd) (av:Option dW) (n c:Nat) (N:a.eval x=U (kW ⟨g,0,jW⟩) 1 1) (f:w.rangeAt g 0 (QO y (U av n c))) (z:True->A.length<=1000)
  (h:∀v' w',OwnP w' B v' (A++[(y,U av n c)])->w.grownBy w' v.ownBlock->(v'.ownBlock=v.ownBlock\/v'.ownBlock=kW w.heap.size)->wpList prog ops Q rest (a.put o.dst v') w'):wpList prog ops Q (o::rest) a w:=by
 obtain⟨R,l,m,q,r⟩:=info_parts zFO;have z:=z trivial;refine wpList_plain i λK D=>?_
 have d:∀j u,(Ja [(y,U av n c)])[j]?=kW u->w.cell? ((⟨g,0,jW⟩:dW).add j)=kW u:=λj u hj=>by
  simp only[Ja,iX]at hj;have:=f j u hj;rw[tY]at this;rw[show(⟨g,0,jW⟩:dW).add j=⟨g,j,jW⟩from by
   simp[Addr.add];try(intro X;omega)]
  exact this
 obtain⟨v',w',I,own,G,_,E⟩:=run_append_own_at (P:=prog) w B 156 o.type 158 R _ 21 200 underlying156 l m q r rfl dM v A.length (Ja A) e ⟨g,0,jW⟩ 1 1 (Ja [(y,U av n c)]) (zDe _) d (zDO _ (λp hp=>by simp at hp;subst hp;exact⟨_,_,_,rfl⟩)) (by unfold maxLen;omega) oM C;unfold Oper.wp execOp;simp only[H,resolve,invoke,builtin,eY,fY,mZ,rY,hY,bX,M,N,I];refine D _ _ (h v' w' ?_ G E);unfold OwnP;rw[qZ,zDv];exact own
theorem zS5(x:Wt.Nd)(av:Option dW)(n c:Nat)(w:wW):(Instr.buildSlice 156 1 #[(0,gX (QO x (U av n c)).toArray)]).run prog w=.ok (U (kW ⟨w.heap.size,0,jW⟩) 1 1) (w.alloc (Z (QO x (U av n c)).toArray 158)):=kR
theorem zAb(d:op.guard=jW)(y:Operand)(f:op.op=.buildSlice 156 1 #[(0,y)])(x:Wt.Nd)(av:Option dW)(n c:Nat)(g:a.eval y=gX (QO x (U av n c)).toArray)
  (h:wpList prog ops Q rest (a.put op.dst (U (kW ⟨w.heap.size,0,jW⟩) 1 1)) (w.alloc (Z (QO x (U av n c)).toArray 158))):wpList prog ops Q (op::rest) a w:=by
 refine wpList_plain d λK e=>?_
 unfold Oper.wp execOp;simp only[f,rY,hY,bX,g,eY,fY,mZ,zS5];exact e _ _ h
theorem Qj(b:Nat):∀(vs:List vW)(o:Nat)(w:wW),Fr [b] w (w.setCells b o vs)
 |[],o,w=>Fr.refl _ _
 |v::r,o,w=>(Fr.of_grown (QT w b o v) (λj e=>by cases e;simp)).trans (Qj b r (o+1) _)
theorem zBg(h:bL w w1)(f:Fr S w1 w2)(c:∀k∈S,w.heap.size<=k):bL w w2:=(Fr.new (Fr.of_below [] h) f (λk hk=>xY (c k hk))).to_below (λk hk=>absurd hk sM)
open Wf
def RdT(n lo hi:Nat)(w:wW)(av:Option dW)(c:List (Tr n×vW)):Prop:=∀i (h:i<c.length),∃bb off,lo<=bb/\bb<hi/\av=kW ⟨bb,off,jW⟩/\w.rangeAt bb (off+i*21) (QO (hd n (c[i]).1) (c[i]).2)
def PA:(n:Nat)->Nat->Nat->wW->Tr n->vW->Prop
 |0,_,_,_,t,_=>Empty.elim t
 |n+1,lo,hi,w,t,sl=>∃(av:Option dW)(cap:Nat)(c:List (Tr n×vW)),c.map (·.1)=Br.ks t/\sl=U av c.length cap/\c.length<=cap/\RdT n lo hi w av c/\∀p∈c,PA n lo hi w p.1 p.2
def Kept(lo hi:Nat)(w w':wW):Prop:=∀b o v,lo<=b->b<hi->w.cell? ⟨b,o,jW⟩=kW v->w'.cell? ⟨b,o,jW⟩=kW v
theorem Kept.of_fr(h:Fr S w w')(c:∀k∈S,k<lo\/hi<=k):Kept lo hi w w':=λb o v h1 h2 hc=>h.cell hc (λhm=>by have:=c b hm;omega)
theorem Kept.of_below(h:bL w w'):Kept lo hi w w':=λb o v _ _ c=>QB h c
theorem RdT.kept{f:List (Tr n×vW)}(h:RdT n lo hi w av f)(m:Kept lo hi w w'):RdT n lo hi w' av f:=λi c=>by
 obtain⟨bb,off,d,e,g,l⟩:=h i c;exact⟨bb,off,d,e,g,λj v o=>m _ _ _ d e (l j v o)⟩
theorem PA.kept{lo hi:Nat}{w w':wW}(e:Kept lo hi w w'):∀(n:Nat)(t:Tr n)(d:vW),PA n lo hi w t d->PA n lo hi w' t d
 |0,t,_,_=>Empty.elim t
 |n+1,t,d,h=>by
  obtain⟨av,cap,m,f,g,c,i,j⟩:=h;exact⟨av,cap,m,f,g,c,i.kept e,λp l=>PA.kept e n p.1 p.2 (j p l)⟩
theorem PA.wide{lo hi d c:Nat}{w:wW}(g:d<=lo)(j:hi<=c):∀(n:Nat)(t:Tr n)(f:vW),PA n lo hi w t f->PA n d c w t f
 |0,t,_,_=>Empty.elim t
 |n+1,t,f,h=>by
  obtain⟨av,cap,l,m,o,e,q,r⟩:=h;refine⟨av,cap,l,m,o,e,λi hi=>?_,λp hp=>PA.wide g j n p.1 p.2 (r p hp)⟩;obtain⟨bb,off,z,C,u,y⟩:=q i hi;exact⟨bb,off,oM,oM,u,y⟩
theorem PA.slice{lo hi:Nat}{w:wW}:∀{n:Nat}{t:Tr n}{d:vW},PA n lo hi w t d->∃av m c,d=U av m c
 |0,t,_,_=>Empty.elim t
 |n+1,t,d,h=>by
  obtain⟨av,cap,g,i,e,f,j,l⟩:=h;exact⟨_,_,_,e⟩
open Go.RowKit Wf
theorem zGZ(x:Wt.Nd)(w:wW):CR 147 #[gX (QM x).toArray] w (O J (Wt.parts x)):=by
 have p:=AtL.new0 w 97 (QM x);have e:=QI (bZ _ w) (Z (QM x).toArray 97);have f:=p.2.1 0 _ rfl;have g:=p.2.1 9 _ rfl;clear p;unfold Wt.parts;by_cases c:x.k=4
 ·rw[if_pos c];rw[c]at f;clear c;go_enter func147,ntmps147;go_upto_region 1 with fail
  generalize(w.alloc (Z (QM x).toArray 97))=W at*;go_wp2;go_ret;exact⟨rfl,e⟩
 rw[if_neg c];by_cases d:x.k=5
 ·rw[if_pos d];rw[d]at f;clear c d;go_enter func147,ntmps147;go_upto_region 1 with fail
  generalize(w.alloc (Z (QM x).toArray 97))=W at*;go_wp2;go_ret;exact⟨rfl,e⟩
 rw[if_neg d];have i:(x.k == 4)=mW:=by simpa using c
 have j:(x.k == 5)=mW:=by simpa using d
 go_enter func147,ntmps147;go_upto_region 1 with fail
 generalize(w.alloc (Z (QM x).toArray 97))=W at*;go_wp2;go_ret;exact⟨rfl,e⟩
theorem zOo(w:wW)(g o m cap:Nat):(Instr.sliceAt 99 (U (kW ⟨g,o,jW⟩) (m+1) cap) (kW (O J 1)) jW jW).run prog w=.ok (sliced (kW ⟨g,o,jW⟩) 1 (m+1) cap 20) w:=by
 have c:prog.underlying 99=kW (.slice (prog.elem 99)):=kR
 have d:(sizeOf (prog.elem 99)).run prog w=.ok 20 w:=kR
 rw[run_sliceAt_slice w _ _ _ _ _ c,run_slice_l w _ _ _ _ c _ 1 oM oM,d];rfl
theorem zHL(d:op.guard=jW)(s:Operand)(j:op.op=.slice 99 s (kW (.const (O J 1))) jW jW)(g o m cap:Nat)(l:a.eval s=U (kW ⟨g,o,jW⟩) (m+1) cap)(q:m+1<=cap)
  (h:∀X C:Nat,(m≠0->X=o+20)->m<=C->wpList prog ops Q rest (a.put op.dst (U (kW ⟨g,X,jW⟩) m C)) w):wpList prog ops Q (op::rest) a w:=by
 refine wpList_plain d λK f=>?_
 unfold Oper.wp execOp;have e:=zOo w g o m cap;have i:sliced (kW ⟨g,o,jW⟩) 1 (m+1) cap 20=U (kW ⟨g,(if cap=1 then o else o+20),jW⟩) m (cap-1):=by
  unfold sliced;by_cases c:cap=1
  ·rw[if_pos c,if_pos c];rfl
  ·rw[if_neg c,if_neg c];rfl
 rw[i]at e;have p:a.eval (.const (O J 1))=O J 1:=rfl;simp only[j,l,p,Option.map_some,Option.map_none,eY,fY,mZ,e];exact f _ _ (h _ _ (λr=>by rw[if_neg oM]) oM)
theorem RdN.tail{X:Nat}{r:List Wt.Nd}(h:RdN w (kW ⟨bb,off,jW⟩) (x::r))(c:r.length≠0->X=off+20):RdN w (kW ⟨bb,X,jW⟩) r:=λi hi=>by
 obtain⟨b2,f,e,d⟩:=h (i+1) (by simp;omega);cases e
 refine⟨bb,X,rfl,?_⟩;rw[c oM,show off+20+i*20=off+(i+1)*20 from by omega];exact d
structure GrS(n b0:Nat)(w:wW)(pb:Nat)(x:Wt.Nd)(sv:vW)(ps:List (Tr n×vW)):Prop where
 at':AtL w pb (QO x sv)
 own:OwnP w (pb+1) sv (ps.map λp=>(hd n p.1,p.2))
 kids:∀p∈ps,∃lo hi,b0<=lo/\hi<=w.heap.size/\(∀j,sv.ownBlock=kW j->j<lo\/hi<=j)/\pb<lo/\PA n lo hi w p.1 p.2
theorem GrS.below{d:List (Tr n×vW)}(h:GrS n b0 w pb x sv d)(c:bL w w'):GrS n b0 w' pb x sv d :=
 ⟨AtL.below c h.at',h.own.below c,λp l=>by
  obtain⟨lo,hi,e,f,g,i,j⟩:=h.kids p l;exact⟨lo,hi,e,dY f c.size,g,i,PA.kept (Kept.of_below c) n _ _ j⟩⟩
theorem GrS.done{c:List (Tr n×vW)}(h:GrS n b0 w pb x sv c)(t:Tr (n+1))(u:c.map (·.1)=Br.ks t):PA (n+1) pb w.heap.size w t sv:=by
 have q:∀p∈c,PA n pb w.heap.size w p.1 p.2:=λp j=>by
  obtain⟨lo,hi,z,f,o,C,D⟩:=h.kids p j;exact PA.wide (hW C) f n _ _ D
 have r:(c.map λp=>(hd n p.1,p.2)).length=c.length:=sM;rcases OwnP.cases h.own with⟨e,j⟩|⟨g,cap,e,z,f,o⟩
 ·have l:c=[]:=by simpa using j
  subst l;exact⟨jW,0,[],u,e,eZ _,λi hi=>absurd hi (zZ _),q⟩
 ·rw[r]at e;refine⟨_,cap,c,u,e,?_,λi hi=>?_,q⟩
  ·rcases h.own.2 with⟨d,H⟩|⟨G,m,y,d,_,_,E,_⟩
   ·rw[d]at e;cases e
   ·rw[d]at e;simp only[U.injEq,sY]at e E;omega
  ·refine⟨g,0,oM,f,rfl,?_⟩;have:=o i (by rw[r];exact hi);simp only[zY]at this;rw[tY];exact this
theorem GrS.app{q:List (Tr n×vW)}(h:GrS n b0 w pb x sv q){k:Tr n}{z:vW}{lo hi:Nat}(M:PA n lo hi w k z)(H:b0<=lo)(C:hi<=w.heap.size)(D:∀j,sv.ownBlock=kW j->j<lo)(E:pb<lo)
  (own:OwnP w1 (pb+1) v' ((q.map λp=>(hd n p.1,p.2))++[(hd n k,z)])) (K:w.grownBy w1 sv.ownBlock) (hv:v'.ownBlock=sv.ownBlock\/v'.ownBlock=kW w.heap.size) :
  GrS n b0 (w1.setCell ⟨pb,20,jW⟩ v') pb x v' (q++[(k,z)])/\Fr (pb::sv.ownBlock.toList) w (w1.setCell ⟨pb,20,jW⟩ v'):=by
 have g:Fr sv.ownBlock.toList w w1:=Fr.of_grown K (λj e=>by simp[e]);have i:Fr [pb] w1 (w1.setCell ⟨pb,20,jW⟩ v'):=Fr.of_grown (QT _ _ _ _) (λj e=>by cases e;simp);have I:=h.at'.fr g (λe=>by have:=(QL h.own (show sv.ownBlock=kW pb by simpa using e)).1;omega);have c:∀(t:Tr n)(u:vW)(lo hi:Nat),(∀j,sv.ownBlock=kW j->j<lo\/hi<=j)->pb<lo->PA n lo hi w t u->PA n lo hi (w1.setCell ⟨pb,20,jW⟩ v') t u:=λt u lo hi r y l =>
  PA.kept (Kept.of_fr i (λj d=>by simp at d;omega)) n _ _ (PA.kept (Kept.of_fr g (λj d=>r j (by simpa using d))) n _ _ l)
 have f:=dY g.size i.size;refine⟨⟨I.set 20 v',?_,λp hp=>?_⟩,(g.mono (λj d=>uZ _ d)).trans (i.mono (λj d=>by simp at d;subst d;exact kZ ..))⟩
 ·have:=QZ i own (λj e=>by have:=(QL own e).1;simp;omega);simpa[OwnP]using this
 ·rcases List.mem_append.1 hp with hp|hp
  ·obtain⟨o,m,r,y,l,G,N⟩:=h.kids p hp;refine⟨o,m,r,dY y f,λj e=>?_,G,c _ _ _ _ l G N⟩;rcases hv with hv|hv
   ·exact l j (by rw[<-hv];exact e)
   ·rw[hv]at e;cases e;exact xY y
  ·simp only[oX]at hp;subst hp;refine⟨lo,hi,H,dY C f,λj e=>?_,E,c _ _ _ _ (λj e=>vY (D j e)) E M⟩;rcases hv with hv|hv
   ·exact vY (D j (by rw[<-hv];exact e))
   ·rw[hv]at e;cases e;exact xY C
def GrP(n:Nat)(t:Tr n)(bb:Nat)(R:List Wt.Nd)(w:wW)(e:Ending)(w':wW):Prop :=
 (∃(c:vW)(X L C:Nat),e=rX (uX #[gX (QO (hd n t) c).toArray,U (kW ⟨bb,X,jW⟩) L C])/\L=R.length/\PA n w.heap.size w'.heap.size w' t c/\RdN w' (kW ⟨bb,X,jW⟩) R/\L<=C)/\bL w w'
def GrC(n:Nat):Prop:=∀(t:Tr n)(bb off L cap:Nat)(R:List Wt.Nd)(w:wW),VD n t->L=(row n t++R).length->L<=300->L<=cap->RdN w (kW ⟨bb,off,jW⟩) (row n t++R) ->
 cW prog 113 #[U (kW ⟨bb,off,jW⟩) L cap] w (GrP n t bb R w)
theorem RdN.fr{L:List Wt.Nd}(h:RdN w (kW ⟨bb,off,jW⟩) L)(c:Fr S w w')(d:bb∉S):RdN w' (kW ⟨bb,off,jW⟩) L:=λi hi=>by
 obtain⟨b2,g,e,f⟩:=h i hi;cases e
 exact⟨bb,off,rfl,c.range f d⟩
theorem zIy(n:Nat)(ih:GrC n):GrC (n+1):=by
 intro t bb off L cap R w hF ae hL hC hR;obtain⟨x,ks⟩:Br (Tr n):=t;obtain⟨hx,hp,ai⟩:=hF;replace hx:Wt.right x=lW:=hx
 replace hp:Wt.parts x=(ks.length:Int):=hp
 replace ai:∀k∈ks,VD n k:=ai
 have an:row (n+1) (⟨x,ks⟩:Br (Tr n))=x::(ks.map (row n)).flatten:=rfl;rw[an,List.cons_append]at ae hR;unfold GrP;have a4:hd (n+1) (⟨x,ks⟩:Br (Tr n))=x:=rfl;simp only[a4];obtain⟨b9,o9,e9,ak⟩:=hR 0 sM;cases e9
 have aG:hH (bb<w.heap.size):=Q7 (ak 0 _ rfl);have HF:=hid ai;have HP:=hid hp;have aI:hH (∀w:wW,CR 147 #[gX (QM x).toArray] w (O J (ks.length:Int))):=λw=>by rw[<-hp];exact zGZ x w
 have bj:=hid ih;have aL:hH (ks.length<=30):=by have:=(Wt.parts_le hx).2;show ks.length<=30;omega
 simp only[xX]at ae;obtain⟨m,hm⟩:=xV (((ks.map (row n)).flatten++R).length)
 rw[hm]at ae;subst ae;have HM:hH (((ks.map (row n)).flatten++R).length=m/\m+1<=300):=⟨hm,hL⟩
 simp only[fX,mY,cX]at ak;have HR:=hid hR;have bt:(0:Int)<((m+1:Nat):Int):=oM;clear hx hp ai hR hL hm ih an;have aA:AtL (w.alloc (Z zeros21 158)) w.heap.size zeros21.toList:=AtL.new0 w _ _;have af:=QI (bZ _ w) (Z zeros21 158);have h1:=QF af ak;have aS:=hid (HR.out.below af);clear ak HR;go_enter func113,ntmps113;go_upto_region 1 with fail
 generalize(w.alloc (Z zeros21 158))=o at*;have bd:AtL (o.alloc (Z zeros21 158)) o.heap.size zeros21.toList:=AtL.new0 o _ _;have u:nZ (o.alloc (Z zeros21 158)) o.heap.size 0 (QO x (U jW 0 0)).toArray.size:=bd.there;clear bd;go_upto_region 2 with(first|(refine ldQ 97 (mX 8) bb off (QM x) _ h1 underlying97 ?_)|(refine zEq rfl (mX 9) rfl x rfl ?_)|((with_reducible refine stQ 158 (mX 4) (mX 10) o.heap.size 0 (QO x (U jW 0 0)).toArray ?_ ?_ ?_);exact u;exact Qt _ _ _ _))
 have pP:AtL ((o.alloc (Z zeros21 158)).setCells o.heap.size 0 (QO x (U jW 0 0))) o.heap.size (QO x (U jW 0 0)):=(AtL.new0 o _ _:AtL (o.alloc (Z zeros21 158)) o.heap.size zeros21.toList).setAll rfl;have ag:bL o ((o.alloc (Z zeros21 158)).setCells o.heap.size 0 (QO x (U jW 0 0))):=Ql (QI (bZ _ o) _) (eZ _) _ 0;have be:=AtL.below ag aA;have a1:=QA af ag;have M:=hid (aS.out.below ag);have H:=hid aA.lt;clear u aA h1 af ag aS;generalize((o.alloc (Z zeros21 158)).setCells o.heap.size 0 (QO x (U jW 0 0)))=W2 at*;obtain⟨D,ab⟩:∃k,o.heap.size=k:=⟨_,rfl⟩
 rw[ab]at pP H;simp only[ab];clear ab;have rN:=zBG pP.range;have CO:=aI.out W2;go_wp2_with (first|(refine zHL rfl (mX 11) rfl bb off m cap rfl hC ?_;intro X C hX a9)|(refine ldQ 97 (mX 13) D 0 (QM x) _ rN underlying97 ?_))
 refine CO.mono ?_;rintro e w3 ⟨rfl,N⟩;have E:hH (GrS n w.heap.size w3 D x (U jW 0 0) []):=⟨AtL.below N pP,OwnP.nil _ _,λp hp=>by cases hp⟩
 have HZ:=hid (AtL.below N be);have aC:=hid (QA a1 N);have aT:=hid ((M.out.tail (λh=>hX (by have:=HM.out.1;omega))).below N);have aH:=hid a9;have aN:=hid HM.out.1;have aO:hH (m<=300):=by have:=HM.out.2;show m<=300;omega
 clear CO rN pP be a1 N aI M hX a9 hC bt HM a4;go_wp2_with fail
 go_loopg [0,16] ks.length (λgk a b wr=>∃(i L2 X2 C2:Nat)(sv:vW)(ps:List (Tr n×vW)),a=U (kW ⟨bb,X2,jW⟩) L2 C2/\b=O J (i:Int)/\gk=ks.length-i/\i<=ks.length/\hH (ps.map (·.1)=ks.take i)/\hH (RdN wr (kW ⟨bb,X2,jW⟩) (((ks.drop i).map (row n)).flatten++R))/\hH (L2=(((ks.drop i).map (row n)).flatten++R).length)/\hH (L2<=C2)/\hH (L2<=300)/\hH (GrS n w.heap.size wr D x sv ps)/\hH (AtL wr w.heap.size zeros21.toList)/\hH (bL w wr))
 case atStart=>exact⟨0,_,_,_,_,[],rfl,rfl,rfl,jZ _,(by simp:([]:List (Tr n×vW)).map (·.1)=ks.take 0),(by rw[uY];exact aT.out:RdN w3 _ _),(by rw[uY];exact aN.out.symm:m=_),aH,aO,E,HZ,aC⟩
 case round =>
  clear aT aH aN aO E HZ aC;obtain⟨i,L2,X2,C2,sv,ps,rfl,rfl,hg,hi,K,HR,HL,HC,HM,E,HZ,HB⟩:=hrel;by_cases aj:i<ks.length
  ·have bs:(i:Int)<(ks.length:Int):=oM;have bu:J.wrap ((i:Int)+1)=(i:Int)+1:=by have:=aL.out;rw[dZ];omega
   have a3:((ks.drop i).map (row n)).flatten++R=row n ks[i]++(((ks.drop (i+1)).map (row n)).flatten++R):=by
    rw[tZ aj,hY,List.flatten_cons,List.append_assoc]
   rw[a3]at HR HL;have GR:=bj.out ks[i] bb X2 L2 C2 (((ks.drop (i+1)).map (row n)).flatten++R) wr (HF.out _ (oZ aj)) HL.out HM.out HC.out HR.out;have am:hH (ps.map (·.1)++[ks[i]]=ks.take (i+1)):=by show _=_;rw[K.out,iZ aj]
   have aP:hH ((((ks.drop (i+1)).map (row n)).flatten++R).length<=300):=by have:=HM.out;have h2:=HL.out;rw[qZ]at h2;show _<=300;omega
   have bm:hH (ps.length<=30):=by have:=congrArg List.length K.out;have:=aL.out;simp at*;show _<=30;omega
   clear a3 HR HC HM HL K;obtain⟨kk,a5⟩:=xV (ks[i])
   rw[a5]at GR am;clear a5;obtain⟨R2,aw⟩:=xV (((ks.drop (i+1)).map (row n)).flatten++R)
   rw[aw]at GR aP;have M:=hid aw;clear aw;unfold GrP at GR;go_wp2_with fail
   refine GR.mono ?_;rintro e g ⟨⟨sl,X3,L3,C3,rfl,a6,az,ba,a2⟩,aa⟩;obtain⟨c,f,d,rfl⟩:=az.slice;have aJ:=hid (E.out.below aa);have aY:=hid (AtL.below aa HZ.out);have aD:=hid (QA HB.out aa);have aQ:=hid az;have aU:=hid ba;have aq:hH (L3=R2.length/\L3<=C3):=⟨a6,a2⟩
   have r:hH (D<wr.heap.size/\wr.heap.size<=g.heap.size/\w.heap.size<=wr.heap.size/\∀j,sv.ownBlock=kW j->D+1<=j/\j<wr.heap.size):=⟨E.out.at'.lt,aa.size,HB.out.size,λj e=>QL E.out.own e⟩
   clear az ba a6 a2 aa E HZ HB GR;have u:nZ (g.alloc (Z zeros21 158)) g.heap.size 0 (QO (hd n kk) (U c f d)).toArray.size:=(AtL.new0 g _ _:AtL (g.alloc (Z zeros21 158)) g.heap.size zeros21.toList).there;have ad:hH (AtL ((g.alloc (Z zeros21 158)).setCells g.heap.size 0 (QO (hd n kk) (U c f d))) g.heap.size (QO (hd n kk) (U c f d))):=(AtL.new0 g _ _:AtL (g.alloc (Z zeros21 158)) g.heap.size zeros21.toList).setAll rfl;have l:bL g ((g.alloc (Z zeros21 158)).setCells g.heap.size 0 (QO (hd n kk) (U c f d))):=Ql (QI (bZ _ g) _) (eZ _) _ 0;have ap:=hid l;clear l;obtain⟨y,hy⟩:=xV (hd n kk)
   have HY:=hid hy;rw[hy]at u ad ap ⊢;clear hy;go_upto_region 6 with(first|((with_reducible refine stQ 158 (mX 5) (mX 21) g.heap.size 0 (QO y (U c f d)).toArray ?_ ?_ ?_);exact u;exact Qt _ _ _ _))
   clear u;have l:=ap.out;have ao:=hid (aJ.out.below l);have aZ:=hid (AtL.below l aY.out);have aE:=hid (QA aD.out l);have I:hH (PA n wr.heap.size g.heap.size ((g.alloc (Z zeros21 158)).setCells g.heap.size 0 (QO y (U c f d))) kk (U c f d)):=PA.kept (Kept.of_below l) n _ _ aQ.out;have aV:=hid (aU.out.below l);have ar:=hid l.size;clear l ap aJ aY aD aQ aU;generalize((g.alloc (Z zeros21 158)).setCells g.heap.size 0 (QO y (U c f d)))=W5 at*;obtain⟨ib,ay⟩:∃k,g.heap.size=k:=⟨_,rfl⟩
   rw[ay]at ad I r ar;simp only[ay];clear ay;have rI:=ad.out.range;have bq:W5.cell? ⟨D,20,jW⟩=kW sv:=ao.out.at'.2.1 20 sv rfl;have z:=QI (bZ _ W5) (Z (QO y (U c f d)).toArray 158);have aB:=hid ((AtL.new0 W5 158 (QO y (U c f d))).range);have G:=hid (ao.out.below z);have a0:=hid (AtL.below z aZ.out);have aF:=hid (QA aE.out z);have al:hH (PA n wr.heap.size ib (W5.alloc (Z (QO y (U c f d)).toArray 158)) kk (U c f d)):=PA.kept (Kept.of_below z) n _ _ I.out;have aW:=hid (aV.out.below z);have aX:=hid (dY ar.out z.size);have aM:=hid (G.out.at'.lt);clear z ao aZ aE I aV ar ad;go_wp2_with (first
    |(refine ldQ 158 (mX 5) ib 0 (QO y (U c f d)) _ rI underlying158 ?_)
    |(refine zAb rfl (mX 25) rfl y c f d rfl ?_;clear rI bq)
    |(
      refine zA9 rfl (mX 24) (mX 26) rfl (W5.alloc (Z (QO y (U c f d)).toArray 158)) (D+1) aM.out sv (ps.map λp=>(hd n p.1,p.2)) rfl G.out.own W5.heap.size y c f d rfl aB.out (λ_=>by have:=bm.out;simp;omega) ?_;intro v7 w7 ac ax bc;obtain⟨a8,m8,c8,rfl⟩:=ac.slice;have aK:=G.out.app al.out (by have:=r.out;omega) aX.out (λj e=>(r.out.2.2.2 j e).2) r.out.1 (by rw[HY.out];exact ac) ax bc;have f7:Fr sv.ownBlock.toList (W5.alloc (Z (QO y (U c f d)).toArray 158)) w7:=Fr.of_grown ax (λj e=>by simp[e]);have a7:=G.out.at'.fr f7 (λe=>by have:=(r.out.2.2.2 D (by simpa using e)).1;omega);have c7:w7.cell? ⟨D,20,jW⟩=kW sv:=a7.2.1 20 sv rfl;have z7:=a7.2.2 20 (by rw[zBU];omega);have HH:hH (GrS n w.heap.size (w7.setCell ⟨D,20,jW⟩ (U a8 m8 c8)) D x (U a8 m8 c8) (ps++[(kk,U c f d)])/\Fr (D::sv.ownBlock.toList) (W5.alloc (Z (QO y (U c f d)).toArray 158)) (w7.setCell ⟨D,20,jW⟩ (U a8 m8 c8))):=aK;clear aK f7 a7 ac ax bc))
   have ah:=HH.out.2;have bp:=hid (a0.out.fr ah (λe=>by
    have h9:=r.out;have:=H.out;rcases List.mem_cons.1 e with q|q
    ·omega
    ·have:=(h9.2.2.2 w.heap.size (by simpa using q)).1;omega))
   have bf:=hid (zBg aF.out ah (λj e=>by
    have h9:=r.out;have:=H.out;rcases List.mem_cons.1 e with q|q
    ·omega
    ·have:=(h9.2.2.2 j (by simpa using q)).1;omega))
   have bn:=hid (aW.out.fr ah (λe=>by
    have h9:=r.out;have:=H.out;have:=aG.out;rcases List.mem_cons.1 e with q|q
    ·omega
    ·have:=(h9.2.2.2 bb (by simpa using q)).1;omega))
   have bi:=hid HH.out.1;clear ah HH a0 aF aW G al aB aX aM c7 z7;go_roundg (ks.length-(i+1))
   case rel =>
    refine⟨i+1,_,_,_,_,ps++[(kk,U c f d)],rfl,sM,rfl,aj,(by rw[List.map_append];exact am.out:_=_),(by rw[M.out];exact bn.out:RdN _ _ _),(by rw[M.out];exact aq.out.1:_=_),aq.out.2,(by have:=aq.out.1;have:=aP.out;omega:L3<=300),bi,bp,bf⟩
   case measure=>omega
  ·have bs:¬(i:Int)<(ks.length:Int):=oM;have br:i=ks.length:=oM;subst br;have bk:hH (L2=R.length):=by show _=_;have:=HL.out;rw[gY]at this;simpa using this
   have bo:hH (RdN wr (kW ⟨bb,X2,jW⟩) R):=by show RdN _ _ _;have:=HR.out;rw[gY]at this;simpa using this
   obtain⟨c,f,d,rfl⟩:=E.out.own.slice;have rP:=E.out.at'.range;have u:nZ wr w.heap.size 0 (QO x (U c f d)).toArray.size:=HZ.out.there;have pF:AtL (wr.setCells w.heap.size 0 (QO x (U c f d))) w.heap.size (QO x (U c f d)):=HZ.out.setAll rfl;have bl:=hid pF.range;have bg:hH (bL w (wr.setCells w.heap.size 0 (QO x (U c f d)))):=Ql HB.out (eZ _) _ 0;have aR:hH (PA (n+1) D wr.heap.size wr (⟨x,ks⟩:Br (Tr n)) (U c f d)):=E.out.done _ (by rw[K.out,zX]);have bh:hH (Fr [w.heap.size] wr (wr.setCells w.heap.size 0 (QO x (U c f d)))):=Qj _ _ _ _;clear pF E HZ HB HR HL K;go_wp2_with (first|(refine ldQ 158 (mX 4) D 0 (QO x (U c f d)) _ rP underlying158 ?_)|((with_reducible refine stQ 158 (mX 2) (mX 31) w.heap.size 0 (QO x (U c f d)).toArray ?_ ?_ ?_);exact u;exact Qt _ _ _ _))
   have ab:=H.out;have au:=bh.out;refine bodyPost_ret (zCb (by rfl) _ _ w.heap.size (QO x (U c f d)) _ (by rfl) bl.out underlying158 rfl kR) rfl ⟨⟨_,_,_,_,rfl,bk.out,PA.wide (hW ab) au.size (n+1) _ _ (PA.kept (Kept.of_fr au (λj hj=>by simp at hj;omega)) (n+1) _ _ aR.out),bo.out.fr au (by have:=aG.out;simp;omega),HC.out⟩,bg.out⟩
theorem zFt:∀n,GrC n
 |0=>λt=>Empty.elim t
 |n+1=>zIy n (zFt n)
def RdS(w:wW)(av:Option dW)(L:List ByteArray):Prop:=∀i (h:i<L.length),∃bb off,av=kW ⟨bb,off,jW⟩/\w.cell? ⟨bb,off+i,jW⟩=kW (V (L[i]))
theorem RdS.below{L:List ByteArray}(h:RdS w av L)(c:bL w w'):RdS w' av L:=λi hi=>by
 obtain⟨bb,off,e,d⟩:=h i hi;exact⟨bb,off,e,QB c d⟩
theorem str_eqb{x:ByteArray}:s.toList=x.toList↔s=x:=by
 refine⟨λh=>?_,λh=>by rw[h]⟩;rw[ByteArray.toList_eq,ByteArray.toList_eq]at h;exact ByteArray.ext (Array.toList_inj.mp h)
theorem zMy{x:ByteArray}(h:¬s=x):(s.toList == x.toList)=mW:=by
 rw[beq_eq_false_iff_ne];exactλe=>h (str_eqb.1 e)
theorem zK6(h:¬s=⟨#[]⟩):s.toList.isEmpty=mW:=by
 cases c:s.toList with
 |nil=>exact absurd (str_eqb.1 (c.trans (by rw[ByteArray.toList_eq]))) h
 |cons a r=>rfl
theorem zKD(s:ByteArray)(nm:List ByteArray)(av:Option dW)(m cap:Nat)(w:wW)(D:m=nm.length)(C:nm.length<=16)(y:RdS w av nm):CR 33 #[U av m cap,V s] w (O J (idx s nm 0)):=by
 generalize r:idx s nm 0=q;have g:=hid (And.intro D C);have G:=hid y;clear D C y;go_enter func33,ntmps33;go_wp2_with fail
 go_loopg [5,8] m (λgk u x wr=>∃i:Nat,x=O J (i:Int)/\gk=m-i/\i<=m/\hH (idx s (nm.drop i) i=q)/\w=wr)
 case atStart=>exact⟨0,rfl,rfl,jZ _,(by rw[uY];exact r:_=_),rfl⟩
 case round =>
  obtain⟨i,rfl,R,hi,c,rfl⟩:=hrel;by_cases p:i<m
  ·have o:(i:Int)<(m:Int):=oM;have M:(0:Int)<=(i:Int):=oM;have N:J.wrap ((i:Int)+1)=(i:Int)+1:=by have:=g.out;rw[dZ];omega
   have d:i<nm.length:=by have:=g.out;omega
   obtain⟨bb,off,rfl,H⟩:=G.out i d;have e:=tZ d;rw[e]at c;simp only[idx]at c;obtain⟨x,E⟩:=xV (nm[i])
   rw[E]at c H;clear e E r d;by_cases f:x=s
   ·subst f;rw[if_pos rfl]at c;go_wp2;go_ret;exact⟨congrArg (λz=>rX (O J z)) c.out,bZ _ _⟩
   ·rw[if_neg f]at c;have I:(s.toList == x.toList)=mW:=zMy (λh=>f h.symm);have K:¬s.toList=x.toList:=λh=>f (str_eqb.1 h).symm
    clear f;go_wp2;go_roundg (m-(i+1))
    case rel=>exact⟨i+1,sM,rfl,p,c,rfl⟩
    case measure=>omega
  ·have o:¬(i:Int)<(m:Int):=oM;have j:hH (-1=q):=by
    have l:i=nm.length:=by have:=g.out;omega
    rw[l,gY]at c;exact c
   clear c r;go_wp2;go_ret;exact⟨congrArg (λz=>rX (O J z)) j.out,bZ _ _⟩
abbrev Jn(own:Int)(av:Option dW)(m cap:Nat):vW:=gX #[O J own,U av m cap]
theorem zBl(own:Int)(nm:List ByteArray)(s:ByteArray)(av:Option dW)(m cap:Nat)(w:wW)(q:m=nm.length)(o:nm.length<=16)(l:RdS w av nm):CR 148 #[Jn own av m cap,V s] w (O J (shN own nm s)):=by
 have f:=QI (bZ _ w) (Z #[O J own,U av m cap] 154);have p:=AtL.new0 w 154 [O J own,U av m cap];have y:=p.2.1 0 _ rfl;have z:=p.2.1 1 _ rfl;have j:=λ(w2:wW)(h:RdS w2 av nm)=>zKD s nm av m cap w2 q o h
 have c:=l.below f;clear p q o l;unfold shN;by_cases i:s=⟨#[]⟩
 ·subst i;rw[if_pos rfl];clear j c;go_enter func148,ntmps148;go_upto_region 1 with fail
  generalize(w.alloc (Z [O J own,U av m cap].toArray 154))=W at*;go_wp2;go_ret;exact⟨rfl,f⟩
 ·rw[if_neg i];have d:s.toList.isEmpty=mW:=zK6 i;have u:¬s.toList=[]:=λh=>by rw[h]at d;cases d
  go_enter func148,ntmps148;go_upto_region 1 with fail
  generalize(w.alloc (Z [O J own,U av m cap].toArray 154))=W at*;go_wp2_with fail
  refine(j _ c).mono ?_;rintro e w1 ⟨rfl,g⟩;have r:=QA f g;go_wp2;go_ret;exact⟨rfl,r⟩
def RdQ(w:wW)(av:Option dW)(L:List (Wt.Nd×vW)):Prop:=∀i (h:i<L.length),∃bb off,av=kW ⟨bb,off,jW⟩/\w.rangeAt bb (off+i*21) (QO (L[i]).1 (L[i]).2)
theorem RdQ.below(h:RdQ w av L)(c:bL w w'):RdQ w' av L:=λi hi=>by
 obtain⟨bb,off,e,d⟩:=h i hi;exact⟨bb,off,e,QF c d⟩
theorem RdT.q{c:List (Tr n×vW)}(h:RdT n lo hi w av c):RdQ w av (c.map λp=>(hd n p.1,p.2)):=λi hi'=>by
 obtain⟨bb,off,_,_,e,d⟩:=h i (by simpa using hi');exact⟨bb,off,e,by simpa using d⟩
theorem zAR(x:Wt.Nd)(c:vW)(w:wW):CR 84 #[gX (QO x c).toArray] w (Y (isA x)):=by
 have d:=QI (bZ _ w) (Z (QO x c).toArray 158);have p:=AtL.new0 w 158 (QO x c);have e:(w.alloc (Z (QO x c).toArray 158)).cell? ⟨w.heap.size,0,jW⟩=kW (O J x.k):=p.2.1 0 _ rfl;clear p;go_enter func84,ntmps84;go_upto_region 1 with fail
 generalize(w.alloc (Z (QO x c).toArray 158))=W at*;go_wp2;go_ret;exact⟨rfl,d⟩
theorem zG7(L:List (Wt.Nd×vW))(av:Option dW)(m cap:Nat)(w:wW)(N:m=L.length)(M:L.length<=30)(K:RdQ w av L):cW prog 177 #[U av m cap,.func (.func 84) #[] #[]] w λe w'=>(∃v:Int,e=rX (O J v)/\nW (0<=v)=L.any (λp=>isA p.1))/\bL w w':=by
 have eg:∀args w,(callFunc 84 args).run prog w=.ok (.enter 84 args) w:=λ_ _=>by kernel_rfl
 generalize H:L.any (λp=>isA p.1)=q;have z:=hid (And.intro N M);have X:=hid K;clear N M K;go_enter func177,ntmps177;go_wp2_with fail
 go_loopg [5,8] m (λgk u x wr=>∃i:Nat,x=O J (i:Int)/\gk=m-i/\i<=m/\hH ((L.drop i).any (λp=>isA p.1)=q)/\hH (bL w wr))
 case atStart=>exact⟨0,rfl,rfl,jZ _,(by rw[uY];exact H:_=_),bZ _ _⟩
 case round =>
  obtain⟨i,rfl,hg,hi,c,g⟩:=hrel;by_cases G:i<m
  ·have E:(i:Int)<(m:Int):=oM;have aa:(0:Int)<=(i:Int):=oM;have ab:J.wrap ((i:Int)+1)=(i:Int)+1:=by have:=z.out;rw[dZ];omega
   have f:i<L.length:=by have:=z.out;omega
   obtain⟨bb,off,rfl,r⟩:=(X.out.below g.out) i f;have j:=tZ f;rw[j,List.any_cons]at c;obtain⟨x,R⟩:=xV (L[i])
   rw[R]at c r;obtain⟨x,I⟩:=x;simp only at c r;have l:=λw=>zAR x I w
   clear j R H f;cases o:isA x with
   |true =>
    rw[o]at l;rw[o,iW]at c;go_wp2_with (first|(refine ldQ 158 (mX 14) bb (off+i*21) (QO x I) _ r underlying158 ?_)|(go_at_call 84;refine(l _).mono ?_;rintro e w1 ⟨rfl,d⟩))
    go_ret;exact⟨⟨_,rfl,by rw[<-c.out];simp⟩,QA g.out d⟩
   |false =>
    rw[o]at l;rw[o,fW]at c;go_wp2_with (first|(refine ldQ 158 (mX 14) bb (off+i*21) (QO x I) _ r underlying158 ?_)|(go_at_call 84;refine(l _).mono ?_;rintro e w1 ⟨rfl,d⟩))
    have y:=hid (QA g.out d);clear d g;go_roundg (m-(i+1))
    case rel=>exact⟨i+1,sM,rfl,G,c,y⟩
    case measure=>omega
  ·have E:¬(i:Int)<(m:Int):=oM;have C:hH (mW=q):=by
    have D:i=L.length:=by have:=z.out;omega
    rw[D,gY]at c;exact c
   clear c H;go_wp2;go_ret;exact⟨⟨_,rfl,by rw[<-C.out];simp⟩,g.out⟩
theorem zC7(L:List (Wt.Nd×vW))(av:Option dW)(m cap:Nat)(w:wW)(g:m=L.length)(f:L.length<=30)(d:RdQ w av L):CR 149 #[U av m cap,.func (.func 84) #[] #[]] w (Y (L.any (λp=>isA p.1))):=by
 have j:=zG7 L av m cap w g f d;clear g f d;generalize L.any (λp=>isA p.1)=q at*;go_enter func149,ntmps149;go_wp2_with fail
 refine j.mono ?_;rintro e w1 ⟨⟨v,rfl,i⟩,c⟩;have H:=hid i;clear i;go_wp2;go_ret;exact⟨by rw[<-H.out];rfl,c⟩
theorem zKY(s:ByteArray):JD s<=63:=List.findIdx_le_length
theorem zML{i:Nat}(h:i<63)(g:∀j,j<i->¬(⟨(fnN.getD j []).toArray⟩:ByteArray)=s)(e:(⟨(fnN.getD i []).toArray⟩:ByteArray)=s):JD s=i:=by
 have c:=h;unfold JD;rw[List.findIdx_eq c];refine⟨?_,λj f=>?_⟩
 ·rw[fZ,cZ c]at e;simpa using e
 ·have:=g j f;have d:j<fnN.length:=Nat.lt_trans f c;rw[fZ,cZ d]at this;simpa using this
theorem zIs(e:∀j,j<63->¬(⟨(fnN.getD j []).toArray⟩:ByteArray)=s):JD s=63:=by
 have d:fnN.length=63:=rfl;unfold JD;rw[<-d,List.findIdx_eq_length];intro x f;obtain⟨j,c,rfl⟩:=List.getElem_of_mem f;have:=e j c;rw[fZ,cZ c]at this;simpa using this
theorem zBK(c:op.guard=jW)(T:TypeId)(s i:Operand)(e:op.op=.index T s i)(cs:Array vW)(g:a.eval s=gX cs)(k:Nat)(hi:a.eval i=O J (k:Int))(v:vW)(f:(Instr.index T (gX cs) (O J (k:Int))).run P w=.ok v w)
  (h:wpList P ops Q rest (a.put op.dst v) w):wpList P ops Q (op::rest) a w:=by
 refine wpList_plain c λK d=>?_
 unfold Oper.wp execOp;simp only[e,g,hi,eY,fY,mZ,f];exact d _ _ h
theorem zP4(w:wW):∀i:Nat,i<63->(Instr.index 267 (gX nmR.toArray) (O J (i:Int))).run prog w=.ok (V ⟨(fnN.getD i []).toArray⟩) w
 |0,_=>by kernel_rfl
 |1,_=>by kernel_rfl
 |2,_=>by kernel_rfl
 |3,_=>by kernel_rfl
 |4,_=>by kernel_rfl
 |5,_=>by kernel_rfl
 |6,_=>by kernel_rfl
 |7,_=>by kernel_rfl
 |8,_=>by kernel_rfl
 |9,_=>by kernel_rfl
 |10,_=>by kernel_rfl
 |11,_=>by kernel_rfl
 |12,_=>by kernel_rfl
 |13,_=>by kernel_rfl
 |14,_=>by kernel_rfl
 |15,_=>by kernel_rfl
 |16,_=>by kernel_rfl
 |17,_=>by kernel_rfl
 |18,_=>by kernel_rfl
 |19,_=>by kernel_rfl
 |20,_=>by kernel_rfl
 |21,_=>by kernel_rfl
 |22,_=>by kernel_rfl
 |23,_=>by kernel_rfl
 |24,_=>by kernel_rfl
 |25,_=>by kernel_rfl
 |26,_=>by kernel_rfl
 |27,_=>by kernel_rfl
 |28,_=>by kernel_rfl
 |29,_=>by kernel_rfl
 |30,_=>by kernel_rfl
 |31,_=>by kernel_rfl
 |32,_=>by kernel_rfl
 |33,_=>by kernel_rfl
 |34,_=>by kernel_rfl
 |35,_=>by kernel_rfl
 |36,_=>by kernel_rfl
 |37,_=>by kernel_rfl
 |38,_=>by kernel_rfl
 |39,_=>by kernel_rfl
 |40,_=>by kernel_rfl
 |41,_=>by kernel_rfl
 |42,_=>by kernel_rfl
 |43,_=>by kernel_rfl
 |44,_=>by kernel_rfl
 |45,_=>by kernel_rfl
 |46,_=>by kernel_rfl
 |47,_=>by kernel_rfl
 |48,_=>by kernel_rfl
 |49,_=>by kernel_rfl
 |50,_=>by kernel_rfl
 |51,_=>by kernel_rfl
 |52,_=>by kernel_rfl
 |53,_=>by kernel_rfl
 |54,_=>by kernel_rfl
 |55,_=>by kernel_rfl
 |56,_=>by kernel_rfl
 |57,_=>by kernel_rfl
 |58,_=>by kernel_rfl
 |59,_=>by kernel_rfl
 |60,_=>by kernel_rfl
 |61,_=>by kernel_rfl
 |62,_=>by kernel_rfl
 |n+63,h=>absurd h oM
theorem zFs(s:ByteArray)(w:wW)(hN:NmAt w):CR 151 #[V s] w (uX #[gX (VH (JD s:Nat)).toArray,Y (JL (JD s:Nat))]):=by
 have pZ:=AtL.new0 w 242 (sg6 0 0 ⟨#[]⟩ 0 0 ⟨#[]⟩);have hB:=QI (bZ _ w) (Z (sg6 0 0 ⟨#[]⟩ 0 0 ⟨#[]⟩).toArray 242);have g:=hN.below hB;have r:hH (∀(w:wW),NmAt w->CR 160 #[O J (JD s:Nat)] w (uX #[gX (VH (JD s:Nat)).toArray,Y (JL (JD s:Nat))])):=λw h=>zGQ _ w h
 have E:JD s=63->JL (JD s:Nat)=mW/\VH (JD s:Nat)=zero6:=λh=>by rw[h];exact⟨by kernel_rfl,by kernel_rfl⟩
 have p:hH (JD s=63->JL (JD s:Nat)=mW/\VH (JD s:Nat)=zero6):=E;have l:∃a b c d e f,VH (JD s:Nat)=sg6 a b c d e f:=by
  unfold VH;split
  ·exact⟨_,_,_,_,_,_,rfl⟩
  ·exact⟨_,_,_,_,_,_,rfl⟩
 obtain⟨a1,a2,a3,a4,a5,a6,l⟩:=l;rw[l]at r p ⊢;generalize JL (JD s:Nat)=kb at*;clear l;clear hN E;go_enter func151,ntmps151;go_upto_region 1 with fail
 generalize(w.alloc (Z (sg6 0 0 ⟨#[]⟩ 0 0 ⟨#[]⟩).toArray 242))=W at*;have HN:hH (NmAt W):=g;have HZ:hH (AtL W w.heap.size (sg6 0 0 ⟨#[]⟩ 0 0 ⟨#[]⟩)):=pZ;have HB:hH (bL w W):=hB;unfold NmAt at g;clear pZ hB;go_wp2_with (first|(refine ldQ 267 (.global 2) 2 0 nmR _ g underlying267 ?_))
 clear g;have C:hH (∀(w:wW)(i:Nat),i<63->(Instr.index 267 (gX nmR.toArray) (O J (i:Int))).run prog w=.ok (V ⟨(fnN.getD i []).toArray⟩) w):=zP4;generalize nmR.toArray=NA at*;go_loopg [4,5,7] 63 (λgk u v x wr=>∃i:Nat,x=O J (i:Int)/\gk=63-i/\i<=63/\hH (∀j,j<i->¬(⟨(fnN.getD j []).toArray⟩:ByteArray)=s)/\W=wr)
 case atStart=>exact⟨0,rfl,rfl,jZ _,(λj hj=>absurd hj (zZ _):∀j,j<0->¬(⟨(fnN.getD j []).toArray⟩:ByteArray)=s),rfl⟩
 case round =>
  obtain⟨i,rfl,hg,hi,z,rfl⟩:=hrel;by_cases o:i<63
  ·have aa:(i:Int)<63:=oM;have ad:(0:Int)<=(i:Int):=oM;have ae:J.wrap ((i:Int)+1)=(i:Int)+1:=by rw[dZ];omega
   have hr:=C.out W i o;obtain⟨y,K⟩:=xV (⟨(fnN.getD i []).toArray⟩:ByteArray)
   rw[K]at hr;by_cases H:y=s
   ·subst H;have D:=zML o z.out K;have M:=r.out W HN.out;rw[D]at M;clear K D z;go_wp2_with (first|(refine zBK rfl 267 (mX 6) (mX 7) rfl NA rfl i rfl _ hr ?_))
    refine M.mono ?_;rintro e w1 ⟨rfl,G⟩;obtain⟨b0,b1,b2,b3,X,b5,k0,k1,k2,k3,k4,k5⟩:=at6 (AtL.below G HZ.out);have m:=QA HB.out G;clear M;go_wp2;refine bodyPost_ret (v:=uX #[gX (sg6 a1 a2 a3 a4 a5 a6).toArray,Y kb]) (by simp[results,results151,go_sem,b0,b1,b2,b3,X,b5]) rfl ⟨rfl,(clB m)⟩
   ·have R:hH (∀j,j<i+1->¬(⟨(fnN.getD j []).toArray⟩:ByteArray)=s):=(λj hj=>by
     by_cases e:j=i
     ·subst e;rw[K];exact H
     ·exact z.out j oM:∀j,j<i+1->¬(⟨(fnN.getD j []).toArray⟩:ByteArray)=s)
    have ab:=zMy H;have ac:¬y.toList=s.toList:=λh=>H (str_eqb.1 h)
    clear K H z;go_wp2_with (first|(refine zBK rfl 267 (mX 6) (mX 7) rfl NA rfl i rfl _ hr ?_))
    go_roundg (63-(i+1))
    case rel=>exact⟨i+1,sM,rfl,o,R,rfl⟩
    case measure=>omega
  ·have aa:¬(i:Int)<63:=oM;have I:i=63:=oM;subst I;have D:=zIs z.out;have N:=p.out D;unfold zero6 at N;have q:hH (kb=mW/\sg6 a1 a2 a3 a4 a5 a6=sg6 0 0 ⟨#[]⟩ 0 0 ⟨#[]⟩):=N;clear D N;obtain⟨b0,b1,b2,b3,X,b5,k0,k1,k2,k3,k4,k5⟩:=at6 HZ.out;have m:=HB.out;go_wp2;refine bodyPost_ret (v:=uX #[gX (sg6 0 0 ⟨#[]⟩ 0 0 ⟨#[]⟩).toArray,Y mW]) (by simp[results,results151,go_sem,b0,b1,b2,b3,X,b5]) rfl ⟨by rw[q.out.1,q.out.2],(clB m)⟩
theorem zFR{P:Program}{ops:Array Oper}{rest:List Oper}{a:Act}{w:wW}{Q:Exit->Act->wW->Prop}(c:op.guard=jW)(x y:Operand)(ts:Array TypeId)(g:op.op=.call {callee:=.builtin .min,args:=#[x,y],argTypes:=ts})(i j k:Int)(l:a.eval x=O J i)(m:a.eval y=O J j)(f:(if j<i then j else i)=k)
  (h:wpList P ops Q rest (a.put op.dst (O J k)) w):wpList P ops Q (op::rest) a w:=by
 refine wpList_plain c λK e=>?_
 have d:=run_min_int2 (P:=P) (w:=w) ts op.type J J i j;rw[f]at d;unfold Oper.wp execOp;simp only[g,resolve,invoke,builtin,eY,fY,mZ,rY,hY,bX,l,m,d];exact e _ _ h
theorem zEX(d:op.guard=jW)(T:TypeId)(s i:Operand)(j:op.op=.index T s i)(b:ByteArray)(l:a.eval s=V b)(k:Nat)(hi:a.eval i=O J (k:Int))(m:P.underlying T=kW .string)(c:UInt8)(o:k<b.size)(g:b[k]=c)
  (h:wpList P ops Q rest (a.put op.dst (O .u8 (c.toNat:Int))) w):wpList P ops Q (op::rest) a w:=by
 refine wpList_plain d λK f=>?_
 have e:=run_index_string (P:=P) (w:=w) T b J (k:Int) m;rw[dif_pos oM]at e;simp only[Int.toNat_natCast,g]at e;unfold Oper.wp execOp;simp only[j,l,hi,eY,fY,mZ,e];exact f _ _ h
theorem zQd{c d:UInt8}(h:¬c=d):¬c.toNat=d.toNat:=λe=>h (UInt8.toNat_inj.1 e)
theorem zHY(a1 a2:Int)(a3:ByteArray)(a4 a5:Int)(p:ByteArray)(L:List (Wt.Nd×vW))(av:Option dW)(m cap:Nat)(w:wW)(hp:0<p.size/\p.size<=10)(hm:m=L.length)(hl:L.length<=30)(ah:∀q∈L,∃a b c,q.2=U a b c)(hR:RdQ w av L) :
  CR 178 #[gX (sg6 a1 a2 a3 a4 a5 p).toArray,U av m cap] w (Y (JF p.data.toList (L.map (·.1)) 0)):=by
 generalize hq:JF p.data.toList (L.map (·.1)) 0=q;have pS:=AtL.new0 w 242 (sg6 a1 a2 a3 a4 a5 p);have hB:=QI (bZ _ w) (Z (sg6 a1 a2 a3 a4 a5 p).toArray 242);have HM:hH (m=L.length/\L.length<=30):=⟨hm,hl⟩
 have al:=hid ah;have HR:=hid (hR.below hB);have ad:=hid hq;have HP:=hid hp;clear hm hl ah hR hq hp;go_enter func178,ntmps178;go_upto_region 1 with fail
 generalize(w.alloc (Z (sg6 a1 a2 a3 a4 a5 p).toArray 242))=W at*;have HS:=hid pS;have HB:=hid hB;clear pS hB;go_wp2_with fail
 go_loopg [5,6,7,10] m (λgk u5 u6 u7 x wr=>∃i:Nat,x=O J (i:Int)/\gk=m-i/\i<=m/\hH (JF p.data.toList ((L.drop i).map (·.1)) i=q)/\hH (bL W wr))
 case atStart=>exact⟨0,rfl,rfl,jZ _,ad,bZ _ _⟩
 case round =>
  clear ad;obtain⟨i,rfl,hg,hi,j,y⟩:=hrel;by_cases R:i<m
  ·have an:(i:Int)<(m:Int):=oM;have ar:(0:Int)<=(i:Int):=oM;have aw:J.wrap ((i:Int)+1)=(i:Int)+1:=by have:=HM.out;rw[dZ];omega
   have H:i<L.length:=by have:=HM.out;omega
   obtain⟨bb,off,rfl,hr⟩:=(HR.out.below y.out) i H;have ae:=tZ H;have X:=al.out L[i] (oZ H);rw[ae,hY]at j;obtain⟨x,hx⟩:=xV (L[i])
   rw[hx]at j hr X;obtain⟨x,sl⟩:=x;simp only at j hr X;obtain⟨o,r,u,rfl⟩:=X;have C:=λw=>zAR x (U o r u) w
   clear ae hx H;obtain⟨k,hk⟩:=xV (min i (p.data.toList.length-1))
   have ag:p.data.toList.length=p.size:=by show p.data.toList.length=p.data.size;exact Array.length_toList
   have N:k<p.size:=by have:=HP.out;omega
   have ao:min (i:Int) ((p.size:Int)-1)=(k:Int):=by have:=HP.out;omega
   obtain⟨c,hc⟩:=xV (p[k])
   have af:p.data.toList.getD k 0=c:=by
    rw[<-hc];rw[fZ,cZ (by rw[ag];exact N)];rfl
   simp only[JF,hk,af]at j;have au:J.wrap ((p.size:Int)-1)=(p.size:Int)-1:=by have:=HP.out;rw[dZ];omega
   have aj:hH ((if(p.size:Int)-1<(i:Int)then(p.size:Int)-1 else(i:Int))=(k:Int)):=by show _=_;have:=HP.out;split <;> omega
   have ab:hH (k<p.size/\∀h:k<p.size,p[k]=c):=⟨N,λ_=>hc⟩
   clear hk ag af ao hc N;have ai:nZ (wr.alloc (Z zeros21 158)) wr.heap.size 0 (QO x (U o r u)).toArray.size:=(AtL.new0 wr _ _:AtL (wr.alloc (Z zeros21 158)) wr.heap.size zeros21.toList).there;have ac:hH (AtL ((wr.alloc (Z zeros21 158)).setCells wr.heap.size 0 (QO x (U o r u))) wr.heap.size (QO x (U o r u))):=(AtL.new0 wr _ _:AtL (wr.alloc (Z zeros21 158)) wr.heap.size zeros21.toList).setAll rfl;have aa:hH (bL wr ((wr.alloc (Z zeros21 158)).setCells wr.heap.size 0 (QO x (U o r u)))):=Ql (QI (bZ _ wr) _) (eZ _) _ 0;go_upto_region 4 with(first|(refine ldQ 158 (mX 13) bb (off+i*21) (QO x (U o r u)) _ hr underlying158 ?_)|((with_reducible refine stQ 158 (mX 6) (mX 14) wr.heap.size 0 (QO x (U o r u)).toArray ?_ ?_ ?_);exact ai;exact Qt _ _ _ _))
   have g:hH (bL W ((wr.alloc (Z zeros21 158)).setCells wr.heap.size 0 (QO x (U o r u)))):=QA y.out aa.out;clear ai hr aa y;generalize((wr.alloc (Z zeros21 158)).setCells wr.heap.size 0 (QO x (U o r u)))=W2 at*;obtain⟨ib,M⟩:∃k,wr.heap.size=k:=⟨_,rfl⟩
   rw[M]at ac;simp only[M];clear M;have rI:=ac.out.range;have s5:=(AtL.below g.out HS.out).2.1 5 _ rfl;go_upto_region 5 with(first|(refine zFR rfl (mX 17) (mX 21) _ rfl (i:Int) ((p.size:Int)-1) (k:Int) rfl rfl aj.out ?_)|(refine zEX rfl 9 (mX 16) (mX 22) rfl p rfl k rfl kR c ab.out.1 (ab.out.2 _) ?_))
   clear s5;by_cases E:c=97
   ·subst E;cases G:isA x with
    |true =>
     rw[G]at C;simp only[G,show((97:UInt8) == 97)=lW from rfl,show((97:UInt8) == 118)=mW from rfl,Bool.not_true,kX,oY,sX,kY,if_false]at j;go_wp2_with (first|(refine ldQ 158 (mX 6) ib 0 (QO x (U o r u)) _ rI underlying158 ?_)|(go_at_call 84;refine(C _).mono ?_;rintro e w1 ⟨rfl,f⟩))
     have K:=hid (QA g.out f);clear f g;go_roundg (m-(i+1))
     case rel=>exact⟨i+1,sM,rfl,R,j,K⟩
     case measure=>omega
    |false =>
     rw[G]at C;simp only[G,show((97:UInt8) == 97)=lW from rfl,Bool.not_false,gW,iW,if_true]at j;go_wp2_with (first|(refine ldQ 158 (mX 6) ib 0 (QO x (U o r u)) _ rI underlying158 ?_)|(go_at_call 84;refine(C _).mono ?_;rintro e w1 ⟨rfl,f⟩))
     go_ret;exact⟨congrArg (λz=>rX (Y z)) j.out,QA HB.out (QA g.out f)⟩
   ·have ax:¬c.toNat=97:=zQd (d:=97) E;have D:(c == 97)=mW:=by simpa using E
    have ay:¬(c.toNat:Int)=97:=oM;by_cases l:c=118
    ·subst l;cases G:isA x with
     |true =>
      rw[G]at C;simp only[G,D,show((118:UInt8) == 118)=lW from rfl,oY,gW,fW,if_true]at j;go_wp2_with (first|(refine ldQ 158 (mX 6) ib 0 (QO x (U o r u)) _ rI underlying158 ?_)|(go_at_call 84;refine(C _).mono ?_;rintro e w1 ⟨rfl,f⟩))
      go_ret;exact⟨congrArg (λz=>rX (Y z)) j.out,QA HB.out (QA g.out f)⟩
     |false =>
      rw[G]at C;simp only[G,D,oY,kX,sX,kY,if_false]at j;go_wp2_with (first|(refine ldQ 158 (mX 6) ib 0 (QO x (U o r u)) _ rI underlying158 ?_)|(go_at_call 84;refine(C _).mono ?_;rintro e w1 ⟨rfl,f⟩))
      have K:=hid (QA g.out f);clear f g;go_roundg (m-(i+1))
      case rel=>exact⟨i+1,sM,rfl,R,j,K⟩
      case measure=>omega
    ·have ap:¬c.toNat=118:=zQd (d:=118) l;have I:(c == 118)=mW:=by simpa using l
     have aq:¬(c.toNat:Int)=118:=oM;simp only[D,I,oY,sX,kY,if_false]at j;clear C E l D I;go_wp2_with fail
     go_roundg (m-(i+1))
     case rel=>exact⟨i+1,sM,rfl,R,j,g⟩
     case measure=>omega
  ·have an:¬(i:Int)<(m:Int):=oM;have ak:hH (lW=q):=by
    have am:i=L.length:=by have:=HM.out;omega
    rw[am,gY]at j;exact j
   clear j;go_wp2;go_ret;exact⟨congrArg (λz=>rX (Y z)) ak.out,QA HB.out y.out⟩
def Cells(w:wW)(blk off n:Nat)(F:Nat->Wpl.Cl):Prop :=
 ∀j,j<n->w.cell? ⟨blk,off+j*3,jW⟩=kW (O J (F j).s)/\w.cell? ⟨blk,off+j*3+1,jW⟩=kW (O J (F j).r)/\w.cell? ⟨blk,off+j*3+2,jW⟩=kW (O J (F j).c)
theorem Cells.below{W f:wW}{blk:Nat}{F:Nat->Wpl.Cl}(h:Cells W blk off n F)(d:blk<W.heap.size)(c:bL W f):Cells f blk off n F:=λj e =>
 ⟨(c.cell (p:=⟨blk,off+j*3,jW⟩) d).trans (h j e).1,(c.cell (p:=⟨blk,off+j*3+1,jW⟩) d).trans (h j e).2.1,(c.cell (p:=⟨blk,off+j*3+2,jW⟩) d).trans (h j e).2.2⟩
theorem zI4(q:Int)(blk off n cap:Nat)(F:Nat->Wpl.Cl)(w:wW)(K:n<=1000000000000000)(o:blk<w.heap.size)(E:Cells w blk off n F) :
  cW prog 170 #[U (kW ⟨blk,off,jW⟩) n cap,.func (.func 139) #[O J q] #[]] w λe w'=>∃v:Int,e=rX (O J v)/\nW (0<=v)=Wpl.anyN q F n/\bL w w':=by
 have H:∀args w,(callFunc 139 args).run prog w=.ok (.enter 139 args) w:=λ_ _=>by kernel_rfl
 go_enter func170,ntmps170;go_wp2;go_loopw [5,8] (λ_ i wr=>∃j:Nat,j<=n/\i=O J j/\hH (∀m,m<j->Wpl.lacks q (F m)=mW)/\bL w wr) (λ_ i _=>n-(intOf i).toNat)
 case atStart=>exact⟨0,jZ _,rfl,(λm u=>absurd u (zZ _):∀m,m<0->Wpl.lacks q (F m)=mW),bZ _ _⟩
 case round =>
  obtain⟨j,I,rfl,A,f⟩:=hrel;by_cases g:j<n
  ·have l:(j:Int)<(n:Int):=oM;obtain⟨z,C,D⟩:=E j g;have R:wr.cell? ⟨blk,off+j*3,jW⟩=kW (O J (F j).s):=(f.cell (p:=⟨blk,off+j*3,jW⟩) o).trans z;have X:wr.cell? ⟨blk,off+j*3+1,jW⟩=kW (O J (F j).r):=(f.cell (p:=⟨blk,off+j*3+1,jW⟩) o).trans C;have y2:wr.cell? ⟨blk,off+j*3+2,jW⟩=kW (O J (F j).c):=(f.cell (p:=⟨blk,off+j*3+2,jW⟩) o).trans D;have L:=λw=>zH4 q (F j).s (F j).r (F j).c w
   clear z C D;generalize y:Wpl.lacks q ⟨(F j).s,(F j).r,(F j).c⟩=b at L;have B:hH (Wpl.lacks q (F j)=b):=y;clear y;generalize(F j).s=N at*;generalize(F j).r=M at*;generalize(F j).c=G at*;cases b with
   |true =>
    go_wp2_with (go_at_call 139;refine(L _).mono ?_;rintro e w1 ⟨rfl,d⟩)
    go_ret;exact⟨_,rfl,by rw[Wpl.anyN_hit g B.out];simp,zAC f d⟩
   |false =>
    go_wp2_with (go_at_call 139;refine(L _).mono ?_;rintro e w1 ⟨rfl,d⟩)
    go_roundw
    case rel =>
     refine⟨j+1,oM,by go_num,(λm u=>?_:∀m,m<j+1->Wpl.lacks q (F m)=mW),zAC f d⟩;by_cases e:m=j
     ·rw[e];exact B.out
     ·exact A.out m oM
    case measure=>simp[intOf];omega
  ·have l:¬(j:Int)<(n:Int):=oM;have e:j=n:=oM;subst e;go_wp2;go_ret;exact⟨_,rfl,by rw[Wpl.anyN_miss A.out];rfl,f⟩
theorem zAX(q:Int)(blk off n cap:Nat)(F:Nat->Wpl.Cl)(w:wW)(i:n<=1000000000000000)(f:blk<w.heap.size)(g:Cells w blk off n F) :
  CR 138 #[U (kW ⟨blk,off,jW⟩) n cap,.func (.func 139) #[O J q] #[]] w (Y (Wpl.anyN q F n)):=by
 go_enter func138,ntmps138;go_wp2_with fail
 refine(zI4 q blk off n cap F _ i f g).mono ?_;rintro e w1 ⟨v,rfl,d,c⟩;have H:=hid d;clear d;go_wp2;go_ret;exact⟨by rw[<-H.out];rfl,c⟩
theorem zJn(blk off n cap:Nat)(F:Nat->Wpl.Cl)(w:wW)(i:0<n)(H:n<=1000000000000000)(q:n<=cap)(g:cap<=9223372036854775807)(E:blk<w.heap.size)(p:Cells w blk off n F)(f:Wpl.anyN (F 0).s F n=lW) :
  CR 105 #[U (kW ⟨blk,off,jW⟩) n cap] w (uX #[gX #[O J (Wpl.hullV F n).s,O J (Wpl.hullV F n).t,O J (Wpl.hullV F n).l,O J (Wpl.hullV F n).b,O J (Wpl.hullV F n).r],Y (Wpl.hullOk F n)]):=by
 obtain⟨x0,x1,x2⟩:=p 0 i;simp only[mY,cX]at x0 x1 x2;have G:∀(fn:Fn)(first cap:Array vW)(w:wW),(Instr.makeFunc fn first cap).run prog w=.ok (.func fn first cap) w:=λ_ _ _ _=>rfl
 have C:=λw y z=>zAX (F 0).s blk off n cap F w H y z
 rw[f]at C;have m:hH (Wpl.anyN (F 0).s F n=lW):=f;clear f;have E0:hH (Wpl.hullU F 0=⟨(F 0).s,(F 0).r,(F 0).c,(F 0).r,(F 0).c⟩):=(rfl:Wpl.hullU F 0=⟨(F 0).s,(F 0).r,(F 0).c,(F 0).r,(F 0).c⟩)
 have o:hH (Wpl.hullOk F n=mW):=by show _=_;unfold Wpl.hullOk;rw[m.out,decide_eq_true (show n≠0 by omega)];rfl
 have u:hH (Wpl.hullV F n=Wpl.nullA):=by show _=_;unfold Wpl.hullV;rw[o.out];rfl
 clear m;generalize(F 0).s=s0 at*;generalize(F 0).r=r0 at*;generalize(F 0).c=c0 at*;have I:((n:Int) == 0)=mW:=by simp;omega
 go_enter func105,ntmps105;go_wp2_with fail
 refine(C _ (by simp[go_sem];omega) (p.below E ((bZ _ _).alloc (eZ _) _))).mono ?_;rintro e w1 ⟨rfl,d⟩;have K:=AtL.below d (AtL.new w _ rfl _);have D:bL w w1:=clA
 clear d;obtain⟨j,M,N,R,X,_,_,_,_,_⟩:=K.five;go_wp2;refine bodyPost_ret (v:=uX #[gX #[O J 0,O J 0,O J 0,O J 0,O J 0],Y mW]) (by simp[results,results105,go_sem,j,M,N,R,X]) rfl ⟨by rw[u.out,o.out];rfl,?_⟩;exact zA7 D (eZ _) _ _ _ _ _
theorem zMO(blk off n cap:Nat)(F:Nat->Wpl.Cl)(w:wW)(H:0<n)(hn:n<=1000000000000000)(aa:n<=cap)(G:cap<=9223372036854775807)(m:blk<w.heap.size)(hc:Cells w blk off n F)(z:Wpl.anyN (F 0).s F n=mW)(D:cap=1) :
  CR 105 #[U (kW ⟨blk,off,jW⟩) n cap] w (uX #[gX #[O J (Wpl.hullV F n).s,O J (Wpl.hullV F n).t,O J (Wpl.hullV F n).l,O J (Wpl.hullV F n).b,O J (Wpl.hullV F n).r],Y (Wpl.hullOk F n)]):=by
 subst D;obtain⟨I,K,M⟩:=hc 0 H;simp only[mY,cX]at I K M;have ae:∀(fn:Fn)(first cap:Array vW)(w:wW),(Instr.makeFunc fn first cap).run prog w=.ok (.func fn first cap) w:=λ_ _ _ _=>rfl
 have C:=λw h1 h2=>zAX (F 0).s blk off n 1 F w hn h1 h2
 rw[z]at C;have N:=hid z;clear z;have E0:hH (Wpl.hullU F 0=⟨(F 0).s,(F 0).r,(F 0).c,(F 0).r,(F 0).c⟩):=(rfl:Wpl.hullU F 0=⟨(F 0).s,(F 0).r,(F 0).c,(F 0).r,(F 0).c⟩)
 have R:hH (Wpl.hullOk F n=lW):=by show _=_;unfold Wpl.hullOk;rw[N.out,decide_eq_true (show n≠0 by omega)];rfl
 have X:hH (Wpl.hullV F n=Wpl.hullU F (n-1)):=by show _=_;unfold Wpl.hullV;rw[R.out];rfl
 clear N;generalize(F 0).s=f at*;generalize(F 0).r=r0 at*;generalize(F 0).c=d at*;have af:((n:Int) == 0)=mW:=by simp;omega
 go_enter func105,ntmps105;go_wp2_with fail
 refine(C _ (by simp[go_sem];omega) (hc.below m ((bZ _ _).alloc (eZ _) _))).mono ?_;rintro e w1 ⟨rfl,o⟩;have pR:AtL w1 w.heap.size [O J 0,O J 0,O J 0,O J 0,O J 0]:=AtL.below o (AtL.new w _ rfl _);have g:bL w w1:=clA
 have y0:w1.cell? ⟨blk,off,jW⟩=kW (O J f):=(g.cell (p:=⟨blk,off,jW⟩) m).trans I;have y1:w1.cell? ⟨blk,off+1,jW⟩=kW (O J r0):=(g.cell (p:=⟨blk,off+1,jW⟩) m).trans K;have y2:w1.cell? ⟨blk,off+2,jW⟩=kW (O J d):=(g.cell (p:=⟨blk,off+2,jW⟩) m).trans M;have ac:blk<w1.heap.size:=wZ m g.size;have ag:=g.size;clear o I K M C;go_wp2_with fail
 have pA:AtL ((w1.alloc (Z #[O J f,O J r0,O J d] 36)).alloc (Z #[O J f,O J r0,O J d,O J r0,O J d] 83)) (w1.heap.size+1) [O J f,O J r0,O J d,O J r0,O J d]:=AtL.new (w1.alloc _) _ (by simp[go_sem]) _;have u:=(pR.alloc (Z #[O J f,O J r0,O J d] 36)).alloc (Z #[O J f,O J r0,O J d,O J r0,O J d] 83);have pB:=zBA (zBA g (Z #[O J f,O J r0,O J d] 36)) (Z #[O J f,O J r0,O J d,O J r0,O J d] 83);clear y0 y1 y2 pR g;generalize hk:w1.heap.size+1=k at*;have ad:w.heap.size<k:=oM;generalize(w1.alloc (Z #[O J f,O J r0,O J d] 36)).alloc (Z #[O J f,O J r0,O J d,O J r0,O J d] 83)=W2 at*;go_loopw [7,38] (λ_ i wr=>∃(j:Nat)(t l b r:Int),j<=n-1/\i=O J j/\hH (Wpl.hullU F j=⟨f,t,l,b,r⟩)/\bL w wr/\AtL wr w.heap.size [O J 0,O J 0,O J 0,O J 0,O J 0]/\AtL wr k [O J f,O J t,O J l,O J b,O J r]) (λ_ i _=>n-(intOf i).toNat)
 case atStart=>exact⟨0,r0,d,r0,d,jZ _,rfl,E0,pB,u,pA⟩
 case round =>
  clear pB u pA;obtain⟨j,t,l,b,r,hj,rfl,E,qB,qR,qA⟩:=hrel
  ·have ab:¬(j:Int)<((n-1:Nat):Int):=oM;have q:j=n-1:=oM;have y:hH (Wpl.hullV F n=⟨f,t,l,b,r⟩):=by show _=_;rw[X.out,<-q,E.out]
   clear q E X;have sR:=qR.put5 (O J f) (O J t) (O J l) (O J b) (O J r);have sB:=zA7 qB (eZ w.heap.size) (O J f) (O J t) (O J l) (O J b) (O J r);obtain⟨a0,a1,a2,a3,a4,f0,f1,f2,f3,f4⟩:=qA.five;obtain⟨z0,z1,z2,z3,z4,g0,g1,g2,g3,g4⟩:=qR.five;go_wp2;obtain⟨ah,r1,r2,r3,r4,_,_,_,_,_⟩:=sR.five;refine bodyPost_ret (v:=uX #[gX #[O J f,O J t,O J l,O J b,O J r],Y lW]) (by simp[results,results105,go_sem,z0,z1,z2,z3,z4]) rfl ⟨by rw[y.out,R.out],?_⟩;exact sB
theorem zIp(blk off n cap:Nat)(F:Nat->Wpl.Cl)(w:wW)(ah:0<n)(hn:n<=1000000000000000)(ai:n<=cap)(ag:cap<=9223372036854775807)(o:blk<w.heap.size)(hc:Cells w blk off n F)(hA:Wpl.anyN (F 0).s F n=mW)(ak:¬cap=1) :
  CR 105 #[U (kW ⟨blk,off,jW⟩) n cap] w (uX #[gX #[O J (Wpl.hullV F n).s,O J (Wpl.hullV F n).t,O J (Wpl.hullV F n).l,O J (Wpl.hullV F n).b,O J (Wpl.hullV F n).r],Y (Wpl.hullOk F n)]):=by
 obtain⟨x0,x1,x2⟩:=hc 0 ah;simp only[mY,cX]at x0 x1 x2;have ap:∀(fn:Fn)(first cap:Array vW)(w:wW),(Instr.makeFunc fn first cap).run prog w=.ok (.func fn first cap) w:=λ_ _ _ _=>rfl
 have C:=λw h1 h2=>zAX (F 0).s blk off n cap F w hn h1 h2
 rw[hA]at C;have HA:=hid hA;clear hA;have E0:hH (Wpl.hullU F 0=⟨(F 0).s,(F 0).r,(F 0).c,(F 0).r,(F 0).c⟩):=(rfl:Wpl.hullU F 0=⟨(F 0).s,(F 0).r,(F 0).c,(F 0).r,(F 0).c⟩)
 have HO:hH (Wpl.hullOk F n=lW):=by show _=_;unfold Wpl.hullOk;rw[HA.out,decide_eq_true (show n≠0 by omega)];rfl
 have HV:hH (Wpl.hullV F n=Wpl.hullU F (n-1)):=by show _=_;unfold Wpl.hullV;rw[HO.out];rfl
 clear HA;generalize(F 0).s=d at*;generalize(F 0).r=r0 at*;generalize(F 0).c=f at*;have aq:((n:Int) == 0)=mW:=by simp;omega
 go_enter func105,ntmps105;go_wp2_with fail
 refine(C _ (by simp[go_sem];omega) (hc.below o ((bZ _ _).alloc (eZ _) _))).mono ?_;rintro e w1 ⟨rfl,aa⟩;have pR:AtL w1 w.heap.size [O J 0,O J 0,O J 0,O J 0,O J 0]:=AtL.below aa (AtL.new w _ rfl _);have u:bL w w1:=clA
 have y0:w1.cell? ⟨blk,off,jW⟩=kW (O J d):=(u.cell (p:=⟨blk,off,jW⟩) o).trans x0;have y1:w1.cell? ⟨blk,off+1,jW⟩=kW (O J r0):=(u.cell (p:=⟨blk,off+1,jW⟩) o).trans x1;have y2:w1.cell? ⟨blk,off+2,jW⟩=kW (O J f):=(u.cell (p:=⟨blk,off+2,jW⟩) o).trans x2;have aj:blk<w1.heap.size:=wZ o u.size;have ar:=u.size;clear aa x0 x1 x2 C;go_wp2_with fail
 have pA:AtL ((w1.alloc (Z #[O J d,O J r0,O J f] 36)).alloc (Z #[O J d,O J r0,O J f,O J r0,O J f] 83)) (w1.heap.size+1) [O J d,O J r0,O J f,O J r0,O J f]:=AtL.new (w1.alloc _) _ (by simp[go_sem]) _;have ad:=(pR.alloc (Z #[O J d,O J r0,O J f] 36)).alloc (Z #[O J d,O J r0,O J f,O J r0,O J f] 83);have pB:=zBA (zBA u (Z #[O J d,O J r0,O J f] 36)) (Z #[O J d,O J r0,O J f,O J r0,O J f] 83);clear y0 y1 y2 pR u;generalize hk:w1.heap.size+1=k at*;have an:w.heap.size<k:=oM;generalize(w1.alloc (Z #[O J d,O J r0,O J f] 36)).alloc (Z #[O J d,O J r0,O J f,O J r0,O J f] 83)=W2 at*;go_loopw [7,38] (λ_ i wr=>∃(j:Nat)(t l b r:Int),j<=n-1/\i=O J j/\hH (Wpl.hullU F j=⟨d,t,l,b,r⟩)/\bL w wr/\AtL wr w.heap.size [O J 0,O J 0,O J 0,O J 0,O J 0]/\AtL wr k [O J d,O J t,O J l,O J b,O J r]) (λ_ i _=>n-(intOf i).toNat)
 case atStart=>exact⟨0,r0,f,r0,f,jZ _,rfl,E0,pB,ad,pA⟩
 case round =>
  clear pB ad pA;obtain⟨j,t,l,b,r,hj,rfl,E,qB,qR,qA⟩:=hrel;by_cases ao:j<n-1
  ·have ac:(j:Int)<((n-1:Nat):Int):=oM;obtain⟨x0,x1,x2⟩:=hc (j+1) oM;have y0:wr.cell? ⟨blk,off+3+j*3,jW⟩=kW (O J (F (j+1)).s):=by
    have:=(qB.cell (p:=⟨blk,off+(j+1)*3,jW⟩) o).trans x0;rwa [show off+(j+1)*3=off+3+j*3 by omega]at this
   have y1:wr.cell? ⟨blk,off+3+j*3+1,jW⟩=kW (O J (F (j+1)).r):=by
    have:=(qB.cell (p:=⟨blk,off+(j+1)*3+1,jW⟩) o).trans x1;rwa [show off+(j+1)*3+1=off+3+j*3+1 by omega]at this
   have y2:wr.cell? ⟨blk,off+3+j*3+2,jW⟩=kW (O J (F (j+1)).c):=by
    have:=(qB.cell (p:=⟨blk,off+(j+1)*3+2,jW⟩) o).trans x2;rwa [show off+(j+1)*3+2=off+3+j*3+2 by omega]at this
   have E1:hH (Wpl.hullU F (j+1)=⟨d,min t (F (j+1)).r,min l (F (j+1)).c,max b (F (j+1)).r,max r (F (j+1)).c⟩):=by show Wpl.grow (Wpl.hullU F j) (F (j+1))=_;rw[E.out];rfl
   clear x0 x1 x2 E;generalize(F (j+1)).s=y at*;generalize(F (j+1)).r=m at*;generalize(F (j+1)).c=g at*;have sA:=qA.alloc (Z #[O J y,O J m,O J g] 36);have sR:=qR.alloc (Z #[O J y,O J m,O J g] 36);have sC:AtL (wr.alloc (Z #[O J y,O J m,O J g] 36)) wr.heap.size [O J y,O J m,O J g]:=AtL.new wr _ rfl _;have sB:=zBA qB (Z #[O J y,O J m,O J g] 36);have am:=qA.lt;go_upto_region 8 with fail
   clear qA qR qB y0 y1 y2;generalize wr.alloc (Z #[O J y,O J m,O J g] 36)=W3 at*;generalize wr.heap.size=kc at*;obtain⟨H,I,K,M,N,R,X,f2,f3,f4⟩:=sA.five;obtain⟨z,D,G,g0,g1,g2⟩:=sC.three;have al:¬kc=k:=oM;go_cut [] (λq=>bL w q/\AtL q w.heap.size [O J 0,O J 0,O J 0,O J 0,O J 0]/\AtL q kc [O J y,O J m,O J g]/\∃t' b':Int,hH (t'=min t m)/\hH (b'=max b m)/\AtL q k [O J d,O J t',O J l,O J b',O J r])
   case first =>
    go_region
    go_wp2_with fail
    all_goals go_meet
    all_goals
     clear H I K M N R X f2 f3 f4 z D G g0 g1 g2;refine⟨((sB.setCell (p:=⟨k,1,jW⟩) (by show w.heap.size<=k;omega) _).setCell (p:=⟨k,3,jW⟩) (by show w.heap.size<=k;omega) _).drew,((sR.far (j:=k) oM 1 _).far (j:=k) oM 3 _).drew,((sC.far (j:=k) oM 1 _).far (j:=k) oM 3 _).drew,_,_,?_,?_,((sA.set 1 _).set 3 _).drew⟩
     ·go_light;show _=_;omega
     ·go_light;show _=_;omega
   case rest =>
   clear sA sR sC sB H I K M N R X f2 f3 f4 z D G g0 g1 g2;obtain⟨tB,tR,tC,t',b',Et,Eb,tA⟩:=hcut;rw[<-Et.out,<-Eb.out]at E1;clear Et Eb;go_upto_region 9 with fail
   obtain⟨H,I,K,M,N,R,X,f2,f3,f4⟩:=AtL.five tA;obtain⟨z,D,G,g0,g1,g2⟩:=tC.three;refine zO4 λK9 af=>?_
   go_cut [] (λq=>bL w q/\AtL q w.heap.size [O J 0,O J 0,O J 0,O J 0,O J 0]/\∃l' r':Int,hH (l'=min l g)/\hH (r'=max r g)/\AtL q k [O J d,O J t',O J l',O J b',O J r'])
   case first =>
    go_region
    go_wp2_with fail
    all_goals go_meet
    all_goals
     clear H I K M N R X f2 f3 f4 z D G g0 g1 g2;refine⟨((tB.setCell (p:=⟨k,2,jW⟩) (by show w.heap.size<=k;omega) _).setCell (p:=⟨k,4,jW⟩) (by show w.heap.size<=k;omega) _).drew,((tR.far (j:=k) oM 2 _).far (j:=k) oM 4 _).drew,_,_,?_,?_,((AtL.set tA 2 _).set 4 _).drew⟩
     ·go_light;show _=_;omega
     ·go_light;show _=_;omega
   case rest =>
   obtain⟨vB,vR,l',r',El,Er,vA⟩:=hcut;rw[<-El.out,<-Er.out]at E1;clear El Er;clear tB tR tA tC H I K M N R X f2 f3 f4 z D G g0 g1 g2;refine af _ _ ?_;go_wp2_with fail
   go_roundw
   case rel =>
    exact⟨j+1,t',l',b',r',oM,by go_num,E1,vB,vR,vA⟩
   case measure=>simp[intOf];omega
  ·have ac:¬(j:Int)<((n-1:Nat):Int):=oM;have ab:j=n-1:=oM;have ae:hH (Wpl.hullV F n=⟨d,t,l,b,r⟩):=by show _=_;rw[HV.out,<-ab,E.out]
   clear ab E HV;have sR:=qR.put5 (O J d) (O J t) (O J l) (O J b) (O J r);have sB:=zA7 qB (eZ w.heap.size) (O J d) (O J t) (O J l) (O J b) (O J r);obtain⟨H,I,K,M,N,R,X,f2,f3,f4⟩:=qA.five;obtain⟨z,D,G,z3,z4,g0,g1,g2,g3,g4⟩:=qR.five;go_wp2;obtain⟨au,r1,r2,r3,r4,_,_,_,_,_⟩:=sR.five;refine bodyPost_ret (v:=uX #[gX #[O J d,O J t,O J l,O J b,O J r],Y lW]) (by simp[results,results105,go_sem,z,D,G,z3,z4]) rfl ⟨by rw[ae.out,HO.out],?_⟩;exact sB
theorem zGF(blk off n cap:Nat)(F:Nat->Wpl.Cl)(w:wW)(e:0<n)(j:n<=1000000000000000)(d:n<=cap)(c:cap<=9223372036854775807)(g:blk<w.heap.size)(i:Cells w blk off n F) :
  CR 105 #[U (kW ⟨blk,off,jW⟩) n cap] w (uX #[gX #[O J (Wpl.hullV F n).s,O J (Wpl.hullV F n).t,O J (Wpl.hullV F n).l,O J (Wpl.hullV F n).b,O J (Wpl.hullV F n).r],Y (Wpl.hullOk F n)]):=by
 cases f:Wpl.anyN (F 0).s F n with
 |true=>exact zJn blk off n cap F w e j d c g i f
 |false =>
  by_cases m:cap=1
  ·exact zMO blk off n cap F w e j d c g i f m
  ·exact zIp blk off n cap F w e j d c g i f m
theorem zCM(s t l b r:Int):(Wpl.rightC s t l&&(Wpl.rightC s b r&&(nW (t<=b)&&nW (l<=r))))=Wpl.rightA s t l b r:=by
 rw[iY];simp only[hZ,Wpl.rightC_iff,Wpl.rightA_iff,decide_eq_true_eq];omega
theorem zAG(s t l b r:Int)(w:wW) :
  CR 132 #[gX #[O J s,O J t,O J l,O J b,O J r]] w (Y (Wpl.rightA s t l b r)):=by
 have j:=hid (zCM s t l b r);have y:=λw=>Qh s t l w
 have z:=λw=>Qh s b r w
 have F:=λw=>zHg s t l b r w
 have L:=λw=>zL4 s t l b r w
 generalize Wpl.rightC s t l=E at*;generalize Wpl.rightC s b r=G at*;generalize Wpl.rightA s t l b r=A at*;have pA:=AtL.new0 w 83 [O J s,O J t,O J l,O J b,O J r];have c:=zBA (bZ _ w) (Z #[O J s,O J t,O J l,O J b,O J r] 83);go_enter func132,ntmps132;go_upto_region 1 with fail
 generalize w.alloc (Z #[O J s,O J t,O J l,O J b,O J r] 83)=H at*;obtain⟨m,o,p,q,u,_,_,_,_,_⟩:=pA.five;go_wp2_with fail
 refine(F _).mono ?_;rintro e w1 ⟨rfl,d⟩;replace pA:=AtL.below d pA
 replace c:=zAC c d
 clear m o p q u d F;go_wp2_with fail
 refine(y _).mono ?_;rintro e w2 ⟨rfl,f⟩;replace pA:=AtL.below f pA
 replace c:=zAC c f
 clear f y;obtain⟨m,o,p,q,u,_,_,_,_,_⟩:=pA.five;cases E with
 |false =>
  go_wp2;go_ret;exact⟨by rw[<-j.out];rfl,c⟩
 |true =>
  go_wp2_with fail
  refine(L _).mono ?_;rintro e I ⟨rfl,g⟩;replace pA:=AtL.below g pA
  replace c:=zAC c g
  clear m o p q u g L;go_wp2_with fail
  refine(z _).mono ?_;rintro e K ⟨rfl,i⟩;replace pA:=AtL.below i pA
  replace c:=zAC c i
  clear i z;obtain⟨m,o,p,q,u,_,_,_,_,_⟩:=pA.five;cases G with
  |false =>
   go_wp2;go_ret;exact⟨by rw[<-j.out];rfl,c⟩
  |true =>
   by_cases C:t<=b
   ·by_cases D:l<=r
    ·go_wp2;go_ret;exact⟨by rw[<-j.out];simp[C,D],c⟩
    ·go_wp2;go_ret;exact⟨by rw[<-j.out];simp[C],c⟩
   ·go_wp2;go_ret;exact⟨by rw[<-j.out];simp;omega,c⟩
def RtN(x:Wt.Nd):Prop:=Wt.inR x.a.r x.a.c=lW/\Wt.inR x.b.r x.b.c=lW
theorem zCm(h:Wt.right x=lW)(c:x.k=3):RtN x:=by
 unfold Wt.right at h;rw[if_neg oM,if_neg oM,if_pos c]at h;simp only[hZ,Wt.rfOk]at h;exact⟨h.1.1.1.1,h.1.1.2.1⟩
theorem zJ9(h:RtN x):Wpl.hullV (λi=>if i=0 then⟨0,x.a.r,x.a.c⟩else⟨0,x.b.r,x.b.c⟩) 2=Jg x:=by
 obtain⟨d,e⟩:=h;simp only[Wt.inR,hZ,decide_eq_true_eq]at d e;have f:Wpl.hullOk (λi=>if i=0 then⟨0,x.a.r,x.a.c⟩else⟨0,x.b.r,x.b.c⟩) 2=lW:=by
  simp[Wpl.hullOk,Wpl.anyN,Wpl.lacks,Wpl.rightC,Wpl.inB];omega
 unfold Wpl.hullV;rw[f,if_pos rfl];show Wpl.grow (Wpl.oneA ⟨0,x.a.r,x.a.c⟩) ⟨0,x.b.r,x.b.c⟩=Jg x
 simp[Wpl.grow,Wpl.oneA,Jg]
theorem zEt(h:RtN x):SmA (Jg x):=by
 obtain⟨c,d⟩:=h;simp only[Wt.inR,hZ,decide_eq_true_eq]at c d;simp only[SmA,Jg];omega
theorem zCk(x:Wt.Nd)(w:wW)(X:RtN x):CR 202 #[gX (QM x).toArray] w (gX (ar5 (Jg x)).toArray):=by
 obtain⟨r,m⟩:=xV (Jg x)
 have M:=zJ9 X;rw[m]at M;rw[m];clear m;have N:=hid M;have q:=QI (QI (bZ _ w) (Z (QM x).toArray 97)) (Z #[O J 0,O J 0,O J 0,O J 0,O J 0] 83);have C:=(AtL.new0 w 97 (QM x)).alloc (Z #[O J 0,O J 0,O J 0,O J 0,O J 0] 83);have pA:=AtL.new1 w (Z (QM x).toArray 97) 83 [O J 0,O J 0,O J 0,O J 0,O J 0];have E:=C.2.1 11 (O J x.a.r) rfl;have G:=C.2.1 12 (O J x.a.c) rfl;have H:=C.2.1 16 (O J x.b.r) rfl;have I:=C.2.1 17 (O J x.b.c) rfl;clear C X M;go_enter func202,ntmps202;go_upto_region 1 with fail
 generalize((w.alloc (Z (QM x).toArray 97)).alloc (Z [O J 0,O J 0,O J 0,O J 0,O J 0].toArray 83))=W at*;have d:=AtL.new0 W 36 [O J 0,O J x.a.r,O J x.a.c,O J 0,O J x.b.r,O J x.b.c];have l:=QI (bZ _ W) (Z #[O J 0,O J x.a.r,O J x.a.c,O J 0,O J x.b.r,O J x.b.c] 36);have R:Cells (W.alloc (Z #[O J 0,O J x.a.r,O J x.a.c,O J 0,O J x.b.r,O J x.b.c] 36)) W.heap.size 0 2 (λi=>if i=0 then⟨0,x.a.r,x.a.c⟩else⟨0,x.b.r,x.b.c⟩):=λj hj=>by
  rcases(show j=0\/j=1 by omega)with rfl|rfl
  ·exact⟨d.2.1 0 _ rfl,d.2.1 1 _ rfl,d.2.1 2 _ rfl⟩
  ·exact⟨d.2.1 3 _ rfl,d.2.1 4 _ rfl,d.2.1 5 _ rfl⟩
 have D:=zGF W.heap.size 0 2 2 _ _ oM oM oM oM d.lt R;rw[N.out]at D;generalize Wpl.hullOk (λi=>if i=0 then(⟨0,x.a.r,x.a.c⟩:Wpl.Cl)else⟨0,x.b.r,x.b.c⟩) 2=ok at D;have o:=QA q l;have u:=AtL.below l pA;clear R d l q pA N;go_wp2_with fail
 refine D.mono ?_;rintro e w1 ⟨rfl,f⟩;have p:=QA o f;have y:=AtL.below f u;have g:=QI (bZ _ w1) (Z (ar5 r).toArray 83);have pR:=AtL.new0 w1 83 (ar5 r);have K:=QA p g;have z:=AtL.below g y;clear E G H I D f g y u o p;go_upto_region 2 with fail
 generalize(w1.alloc (Z (ar5 r).toArray 83))=W4 at*;obtain⟨b0,b1,b2,b3,b4,k0,k1,k2,k3,k4⟩:=z.five;obtain⟨r0,r1,r2,r3,r4,_,_,_,_,_⟩:=pR.five;go_wp2;have aa:=z.lt;refine bodyPost_ret (v:=gX (ar5 r).toArray) (by simp[results,results202,go_sem,b0,b1,b2,b3,b4]) rfl ⟨rfl,(clB K)⟩
structure ApS(B:Nat)(w:wW)(va vb:vW)(LA LB:List (Wt.Nd×vW)):Prop where
 a:OwnP w B va LA
 b:OwnP w B vb LB
 ne:∀j,va.ownBlock=kW j->¬vb.ownBlock=kW j
theorem ApS.below(h:ApS B w va vb LA LB)(c:bL w w'):ApS B w' va vb LA LB:=⟨h.a.below c,h.b.below c,h.ne⟩
theorem ApS.symm(h:ApS B w va vb LA LB):ApS B w vb va LB LA:=⟨h.b,h.a,λj e f=>h.ne j f e⟩
theorem ApS.app{c:List (Wt.Nd×vW)}(h:ApS B w va vb LA LB)(own:OwnP w1 B v' c)(g:w.grownBy w1 va.ownBlock)(hv:v'.ownBlock=va.ownBlock\/v'.ownBlock=kW w.heap.size):ApS B w1 v' vb c LB:=by
 have d:Fr va.ownBlock.toList w w1:=Fr.of_grown g (λj e=>by simp[e]);refine⟨own,QZ d h.b (λj e i=>h.ne j (by simpa using i) e),λj e f=>?_⟩;rcases hv with hv|hv
 ·exact h.ne j (by rw[<-hv];exact e) f
 ·rw[hv]at e;cases e
  have:=(QL h.b f).2;omega
theorem ApS.fr(h:ApS B w va vb LA LB)(f:w.grownBy w1 va.ownBlock){c:wW}(d:bL c w)(g:c.heap.size<=B):bL c w1 :=
 zBg d (Fr.of_grown (S:=va.ownBlock.toList) f (λj e=>by simp[e])) (λj hj=>by have:=(QL h.a (show va.ownBlock=kW j by simpa using hj)).1;omega)
def ApP(L:List (Wt.Nd×vW))(w:wW)(e:Ending)(w':wW):Prop:=(∃va vb,e=rX (uX #[va,vb])/\OwnP w' w.heap.size va (L.filter λp=>isA p.1)/\OwnP w' w.heap.size vb (L.filter λp=>!isA p.1))/\bL w w'
theorem zDp(L:List (Wt.Nd×vW))(av:Option dW)(m cap:Nat)(w:wW)(hm:m=L.length)(hl:L.length<=30)(ah:∀q∈L,∃a b c,q.2=U a b c)(hR:RdQ w av L):cW prog 182 #[U av m cap] w (ApP L w):=by
 unfold ApP;have HM:hH (m=L.length/\L.length<=30):=⟨hm,hl⟩
 have aj:=hid ah;have HR:=hid hR;clear hm hl ah hR;go_enter func182,ntmps182;go_wp2_with fail
 go_loopg [2,3,5,8] m (λgk u2 u3 u5 x wr=>∃(i:Nat)(va vb:vW),va=u2/\vb=u3/\x=O J (i:Int)/\gk=m-i/\i<=m/\hH (ApS w.heap.size wr va vb ((L.take i).filter λp=>isA p.1) ((L.take i).filter λp=>!isA p.1))/\hH (bL w wr))
 case atStart=>exact⟨0,_,_,rfl,rfl,rfl,rfl,jZ _,⟨OwnP.nil _ _,OwnP.nil _ _,λj e=>by cases e⟩,bZ _ _⟩
 case round =>
  obtain⟨i,va,vb,rfl,rfl,rfl,hg,hi,HA,HB⟩:=hrel;by_cases ag:i<m
  ·have al:(i:Int)<(m:Int):=oM;have am:(0:Int)<=(i:Int):=oM;have an:J.wrap ((i:Int)+1)=(i:Int)+1:=by have:=HM.out;rw[dZ];omega
   have N:i<L.length:=by have:=HM.out;omega
   obtain⟨bb,off,rfl,hr⟩:=(HR.out.below HB.out) i N;have ae:=aj.out L[i] (oZ N);have HT:hH (L.take (i+1)=L.take i++[L[i]]):=(iZ N:_=_)
   have af:=hid ((λf=>by
    have h1:=jX f (L.take i);have h2:(L.take i).length<=L.length:=by rw[List.length_take];omega
    have:=HM.out.2;omega:∀(f:Wt.Nd×vW->Bool),((L.take i).filter f).length<=1000))
   obtain⟨x,hx⟩:=xV (L[i])
   rw[hx]at hr ae HT;obtain⟨x,sl⟩:=x;simp only at hr ae;obtain⟨d,g,l,rfl⟩:=ae;have IA:=λw=>zAR x (U d g l) w
   clear hx N;have ai:nZ (wr.alloc (Z zeros21 158)) wr.heap.size 0 (QO x (U d g l)).toArray.size:=(AtL.new0 wr _ _:AtL (wr.alloc (Z zeros21 158)) wr.heap.size zeros21.toList).there;have M:hH (AtL ((wr.alloc (Z zeros21 158)).setCells wr.heap.size 0 (QO x (U d g l))) wr.heap.size (QO x (U d g l))):=(AtL.new0 wr _ _:AtL (wr.alloc (Z zeros21 158)) wr.heap.size zeros21.toList).setAll rfl;have ac:hH (bL wr ((wr.alloc (Z zeros21 158)).setCells wr.heap.size 0 (QO x (U d g l)))):=Ql (QI (bZ _ wr) _) (eZ _) _ 0;go_upto_region 4 with(first|(refine ldQ 158 (mX 10) bb (off+i*21) (QO x (U d g l)) _ hr underlying158 ?_)|((with_reducible refine stQ 158 (mX 5) (mX 11) wr.heap.size 0 (QO x (U d g l)).toArray ?_ ?_ ?_);exact ai;exact Qt _ _ _ _))
   have K:=hid (QA HB.out ac.out);have D:=HA.out.below ac.out;have I:hH (ApS w.heap.size ((wr.alloc (Z zeros21 158)).setCells wr.heap.size 0 (QO x (U d g l))) va vb ((L.take i).filter λp=>isA p.1) ((L.take i).filter λp=>!isA p.1)):=D;clear ai hr ac D HA HB;generalize((wr.alloc (Z zeros21 158)).setCells wr.heap.size 0 (QO x (U d g l)))=W2 at*;obtain⟨ib,ad⟩:∃k,wr.heap.size=k:=⟨_,rfl⟩
   rw[ad]at M;simp only[ad];clear ad;have rI:=M.out.range;have C:=IA W2;clear IA;cases hb:isA x with
   |true =>
    rw[hb]at C;go_wp2_with (first|(refine ldQ 158 (mX 5) ib 0 (QO x (U d g l)) _ rI underlying158 ?_))
    refine C.mono ?_;rintro e R ⟨rfl,u⟩;have H:=QF u rI;have y:=QA u (QI (bZ _ R) (Z (QO x (U d g l)).toArray 158));have r:=hid (I.out.below y);have E:=hid (QA K.out y);have aa:=hid ((AtL.new0 R 158 (QO x (U d g l))).range);clear u y rI I K M C;go_wp2_with (first
     |(refine ldQ 158 (mX 5) ib 0 (QO x (U d g l)) _ H underlying158 ?_)
     |(refine zAb rfl (mX 15) rfl x d g l rfl ?_;clear H)
     |(
       refine zA9 rfl (mX 14) (mX 16) rfl (R.alloc (Z (QO x (U d g l)).toArray 158)) w.heap.size E.out.size va ((L.take i).filter λp=>isA p.1) rfl r.out.a R.heap.size x d g l rfl aa.out (λ_=>af.out _) ?_;intro v7 w7 o z G;have X:hH (ApS w.heap.size w7 v7 vb ((L.take (i+1)).filter λp=>isA p.1) ((L.take (i+1)).filter λp=>!isA p.1)):=by
        show ApS _ _ _ _ _ _
        rw[HT.out,lY,lY,show[(x,U d g l)].filter (λp=>isA p.1)=[(x,U d g l)]from by simp[hb],show[(x,U d g l)].filter (λp=>!isA p.1)=[]from by simp[hb],iX];exact r.out.app o z G
       have ab:hH (bL w w7):=r.out.fr z E.out (eZ _);clear o z G))
    go_roundg (m-(i+1))
    case rel=>exact⟨i+1,_,_,rfl,rfl,sM,rfl,ag,X,ab⟩
    case measure=>omega
   |false =>
    rw[hb]at C;go_wp2_with (first|(refine ldQ 158 (mX 5) ib 0 (QO x (U d g l)) _ rI underlying158 ?_))
    refine C.mono ?_;rintro e R ⟨rfl,u⟩;have H:=QF u rI;have y:=QA u (QI (bZ _ R) (Z (QO x (U d g l)).toArray 158));have r:=hid (I.out.below y);have E:=hid (QA K.out y);have aa:=hid ((AtL.new0 R 158 (QO x (U d g l))).range);clear u y rI I K M C;go_wp2_with (first
     |(refine ldQ 158 (mX 5) ib 0 (QO x (U d g l)) _ H underlying158 ?_)
     |(refine zAb rfl (mX 19) rfl x d g l rfl ?_;clear H)
     |(
       refine zA9 rfl (mX 18) (mX 20) rfl (R.alloc (Z (QO x (U d g l)).toArray 158)) w.heap.size E.out.size vb ((L.take i).filter λp=>!isA p.1) rfl r.out.b R.heap.size x d g l rfl aa.out (λ_=>af.out _) ?_;intro v7 w7 o z G;have X:hH (ApS w.heap.size w7 va v7 ((L.take (i+1)).filter λp=>isA p.1) ((L.take (i+1)).filter λp=>!isA p.1)):=by
        show ApS _ _ _ _ _ _
        rw[HT.out,lY,lY,show[(x,U d g l)].filter (λp=>isA p.1)=[]from by simp[hb],show[(x,U d g l)].filter (λp=>!isA p.1)=[(x,U d g l)]from by simp[hb],iX];exact(r.out.symm.app o z G).symm
       have ab:hH (bL w w7):=r.out.symm.fr z E.out (eZ _);clear o z G))
    go_roundg (m-(i+1))
    case rel=>exact⟨i+1,_,_,rfl,rfl,sM,rfl,ag,X,ab⟩
    case measure=>omega
  ·have al:¬(i:Int)<(m:Int):=oM;have D:hH (ApS w.heap.size wr va vb (L.filter λp=>isA p.1) (L.filter λp=>!isA p.1)):=by
    show ApS _ _ _ _ _ _
    have ak:i=L.length:=by have:=HM.out;omega
    have:=HA.out;rw[ak,zX]at this;exact this
   clear HA;go_wp2;go_ret2
   exact⟨⟨_,_,rfl,D.out.a,D.out.b⟩,HB.out⟩
theorem zLy(L:List (Wt.Nd×vW)):J6 (L.map (·.1))=(L.filter λp=>isA p.1).map (·.1):=by
 unfold J6;rw[eW];rfl
theorem zH9(g:Wc.pairs id=lW){A:List (Wt.Nd×vW)}(f:(L.filter λp=>isA p.1)=A)(e:0<A.length):J9 id (L.map (·.1))=shp (Jg (A[0]).1) (Jg (A[A.length-1]).1):=by
 unfold J9;rw[if_pos g,zLy,f];cases A with
 |nil=>cases e
 |cons a r =>
  have c:(((a::r).map (·.1)).headD ⟨0,v0I,0,⟨#[]⟩,0,Wt.r0,Wt.r0⟩)=a.1:=rfl;have d:(((a::r).map (·.1)).getLastD ⟨0,v0I,0,⟨#[]⟩,0,Wt.r0,Wt.r0⟩)=((a::r)[(a::r).length-1]).1:=by
   rw[List.getLastD_eq_getLast?,List.getLast?_eq_getElem?,sY,tX,cZ sM];rfl
  simp only[c,d];rfl
theorem zGj(id:Int)(L:List (Wt.Nd×vW))(av:Option dW)(m cap:Nat)(w:wW)(hm:m=L.length)(hl:L.length<=30)(N:∀q∈L,∃a b c,q.2=U a b c)(hR:RdQ w av L)(I:Wc.pairs id=lW->0<(L.filter λp=>isA p.1).length)(M:∀q∈L,isA q.1=lW->RtN q.1) :
  CR 179 #[O J id,U av m cap] w (Y (J9 id (L.map (·.1)))):=by
 have PR:=zA5 id w;cases hp:Wc.pairs id with
 |false =>
  have u:J9 id (L.map (·.1))=lW:=by unfold J9;rw[hp];rfl
  rw[u];rw[hp]at PR;clear hm hl N hR I M u;go_enter func179,ntmps179;go_wp2_with fail
  refine PR.mono ?_;rintro e w1 ⟨rfl,rfl⟩;go_wp2;go_ret;exact⟨rfl,bZ _ _⟩
 |true =>
  rw[hp]at PR;have AP:=zDp L av m cap w hm hl N hR;obtain⟨A,X⟩:=xV (L.filter λp=>isA p.1)
  have R:=I hp;rw[X]at R;have HQ:=zH9 hp X R;unfold ApP at AP;rw[X]at AP;have f:∀q∈A,RtN q.1:=λq u=>by
   rw[<-X]at u;exact M q (List.mem_filter.1 u).1 (List.mem_filter.1 u).2
  have af:hH (A.length<=30):=by
   show A.length<=30
   have:=jX (λp:Wt.Nd×vW=>isA p.1) L;rw[X]at this;omega
  have RA:=λw=>zCk (A[0]).1 w (f _ (oZ R))
  have RB:=λw=>zCk (A[A.length-1]).1 w (f _ (oZ oM))
  have SS:=λw=>zAs (Jg (A[0]).1) (Jg (A[A.length-1]).1) w (zEt (f _ (oZ R))) (zEt (f _ (oZ oM)))
  rw[HQ];clear HQ hm hl N hR I M f hp;obtain⟨z,o⟩:∃x,(A[0]).1=x:=⟨_,rfl⟩
  obtain⟨C,r⟩:∃x,(A[A.length-1]).1=x:=⟨_,rfl⟩
  rw[o]at RA;rw[r]at RB;rw[o,r]at SS;rw[o,r];obtain⟨q,u⟩:=xV (shp (Jg z) (Jg C))
  rw[u]at SS;rw[u];have HQ:hH (q=q):=rfl;clear u;generalize Jg z=ao at*;generalize Jg C=ap at*;have aa:hH (∀h:0<A.length,(A[0]).1=z):=(λ_=>o:∀h:0<A.length,(A[0]).1=z)
  have ab:hH (∀h:A.length-1<A.length,(A[A.length-1]).1=C):=(λ_=>r:∀h:A.length-1<A.length,(A[A.length-1]).1=C)
  have D:=hid R;clear o r R;go_enter func179,ntmps179;go_wp2_with fail
  refine PR.mono ?_;rintro e w0 ⟨rfl,rfl⟩;go_wp2_with fail
  refine AP.mono ?_;rintro e w1 ⟨⟨va,vb,rfl,ae,ah⟩,ac⟩;rcases OwnP.cases ae with⟨_,e0⟩|⟨g,cp,rfl,ai,aj,hr⟩
  ·have:=D.out;rw[e0]at this;cases this
  have i:w1.rangeAt g 0 (QM z):=by
   have:=zBG (hr 0 D.out);rw[aa.out D.out,mY]at this;exact this
  have j:w1.rangeAt g ((A.length-1)*21) (QM C):=by
   have ad:A.length-1<A.length:=by have:=D.out;omega
   have:=zBG (hr _ ad);rw[ab.out ad]at this;exact this
  have y:=ac;clear hr ae ah ac AP PR aa ab X;have ak:(0:Int)<(A.length:Int):=by have:=D.out;omega
  have al:J.wrap ((A.length:Int)-1)=((A.length-1:Nat):Int):=by have:=D.out;have:=af.out;rw[dZ];omega
  generalize A.length=k at*;have am:((k-1:Nat):Int)<(k:Int):=oM;have an:(0:Int)<=((k-1:Nat):Int):=oM;go_upto_region 4 with fail
  replace y:=y.drew
  replace i:w1.drew.rangeAt g 0 (QM z):=i
  replace j:w1.drew.rangeAt g ((k-1)*21) (QM C):=j
  refine wp_region_held_drew (S:=λW=>W.rangeAt g 0 (QM z)/\W.rangeAt g ((k-1)*21) (QM C)) kR ⟨i,j⟩ (λd=>?_);generalize w1.drew=WD at*;refine tkQ 0 ?_
  refine tkH 1 ?_ rfl (vY ⟨by rfl,?_⟩) ?_;rotate_left
  ·intro w ag
   (try dsimp only at ag)
   go_simp
   rw[if_pos (by have:=D.out;omega)];try with_reducible rfl
  try simp only[Act.put,lA,lZ,lS]
  refine tkQ 2 ?_
  refine tkH 3 (gX (QM z).toArray) rfl (yiQ 97 (mX 17) (g) (0) (QM z) _ (λ_ h=>h.1) underlying97) ?_;try simp only[Act.put,lA,lZ,lS]
  refine tkQ 5 ?_
  refine tkQ 6 ?_
  refine tkQ 7 ?_
  refine tkQ 8 ?_
  refine tkQ 9 ?_
  refine tkQ 10 ?_
  refine tkH 11 (gX (QM C).toArray) rfl (yiQ 97 (mX 25) (g) ((k-1)*21) (QM C) _ (λ_ h=>h.2) underlying97) ?_;try simp only[Act.put,lA,lZ,lS]
  refine rdQ 4 (λK l=>?_);go_simp
  refine(RA _).mono ?_;rintro e w2 ⟨rfl,E⟩;go_wp2_with fail
  replace i:=QF E i
  replace j:=QF E j
  replace y:=QA y E
  refine hkQ l ⟨i,j⟩ (λd=>?_);clear l K
  refine rdQ 12 (λK l=>?_);go_simp
  refine(RB _).mono ?_;rintro e w3 ⟨rfl,G⟩;go_wp2_with fail
  replace i:=QF G i
  replace j:=QF G j
  replace y:=QA y G
  refine hkQ l ⟨i,j⟩ (λd=>?_);clear l K
  refine rdQ 13 (λK l=>?_);go_simp
  refine(SS _).mono ?_;rintro e w4 ⟨rfl,H⟩;go_wp2_with fail
  replace i:=QF H i
  replace j:=QF H j
  replace y:=QA y H
  refine hkQ l ⟨i,j⟩ (λd=>?_);clear l K
  refine rdQ 14 (λK l=>?_);go_simp
  refine hkQ l ⟨i,j⟩ (λd=>?_);clear l K
  refine wpAnyH_done kR ?_ _;clear d i j;go_wp2;go_ret;exact⟨rfl,y⟩
theorem zGs:(List.range 64).all (λk=>let s:=(QR (k:Nat)).p.size;nW (0<s)&&nW (s<=10))=lW:=kR
theorem zJS(s:ByteArray):0<(QR (JD s:Nat)).p.size/\(QR (JD s:Nat)).p.size<=10:=by
 have:=List.all_eq_true.1 zGs (JD s) (List.mem_range.2 (by have:=zKY s;omega));simpa using this
theorem zGn{ks:List Wt.Nd}(g:Wc.pairs id=lW)(f:(QR id).l<=(ks.length:Int))(c:JF (QR id).p.data.toList ks 0=lW):0<(ks.filter isA).length:=by
 have hid:id=22\/id=23\/id=24:=by
  simp only[Wc.pairs,Bool.or_eq_true,beq_iff_eq]at g;exact g
 have j:∃x∈ks,isA x=lW:=by
  rcases hid with rfl|rfl|rfl
  ·have e:=f;match ks,c with
   |x::r,c =>
    refine⟨x,kZ ..,?_⟩;cases d:isA x with
    |true=>rfl
    |false =>
     have:JF (QR 22).p.data.toList (x::r) 0=mW:=by
      simp only[JF,d];rfl
     rw[this]at c;cases c
  ·have e:=f;match ks,c with
   |x::y::r,c =>
    refine⟨y,uZ _ (kZ ..),?_⟩;cases m:isA y with
    |true=>rfl
    |false =>
     have:JF (QR 23).p.data.toList (x::y::r) 0=mW:=by
      cases d:isA x with
      |true =>
       simp only[JF,d];rfl
      |false =>
       have i:JF (QR 23).p.data.toList (x::y::r) 0=JF (QR 23).p.data.toList (y::r) 1:=by
        simp only[JF,d];rfl
       rw[i];simp only[JF,m];rfl
     rw[this]at c;cases c
  ·have e:=f;match ks,c with
   |x::r,c =>
    refine⟨x,kZ ..,?_⟩;cases d:isA x with
    |true=>rfl
    |false =>
     have:JF (QR 24).p.data.toList (x::r) 0=mW:=by
      simp only[JF,d];rfl
     rw[this]at c;cases c
 obtain⟨x,d,hi⟩:=j;exact List.length_pos_of_mem (List.mem_filter.2 ⟨d,hi⟩)
theorem zMZ(x:Wt.Nd)(L:List (Wt.Nd×vW))(av:Option dW)(m cap:Nat)(w:wW)(hN:NmAt w)(hm:m=L.length)(hl:L.length<=30)(ac:x.ar=(L.length:Int))(M:∀q∈L,∃a b c,q.2=U a b c)(hR:RdQ w av L)(af:∀q∈L,isA q.1=lW->RtN q.1) :
  CR 150 #[gX (QO x (U av m cap)).toArray] w (O J (Vh x (L.map (·.1)))):=by
 have ae:=zJS x.nm;have o:=QI (bZ _ w) (Z (QO x (U av m cap)).toArray 158);have pP:=AtL.new0 w 158 (QO x (U av m cap));have OF:=zFs x.nm _ (hN.below o);have I:hH (∀(a1 a2:Int)(a3:ByteArray)(a4 a5:Int)(w2:wW),RdQ w2 av L->CR 178 #[gX (sg6 a1 a2 a3 a4 a5 (QR (JD x.nm:Nat)).p).toArray,U av m cap] w2 (Y (JF (QR (JD x.nm:Nat)).p.data.toList (L.map (·.1)) 0))):=λa1 a2 a3 a4 a5 w2 h=>zHY a1 a2 a3 a4 a5 _ L av m cap w2 ae hm hl M h
 have aa:hH ((QR (JD x.nm:Nat)).l<=x.ar->JF (QR (JD x.nm:Nat)).p.data.toList (L.map (·.1)) 0=lW->∀(w2:wW),RdQ w2 av L->CR 179 #[O J (JD x.nm:Nat),U av m cap] w2 (Y (J9 (JD x.nm:Nat) (L.map (·.1))))):=λN R w2 h=>zGj _ L av m cap w2 hm hl M h (λhp=>by
  have:=zGn (ks:=L.map (·.1)) hp (by rw[sY,<-ac];exact N) R;rw[eW,sY]at this;exact this) af
 have X:=hid (hR.below o);unfold Vh;simp only;generalize L.map (·.1)=ks at*;have c8:=pP.2.1 8 (V x.nm) rfl;clear ae hN hm hl M hR af ac;unfold VH at OF;generalize J9 (JD x.nm:Nat) ks=qs at*;generalize JF (QR (JD x.nm:Nat)).p.data.toList ks 0=qt at*;generalize ai:VZ (JD x.nm:Nat)=y at*;generalize QR (JD x.nm:Nat)=d at*;generalize JL (JD x.nm:Nat)=kb at*;generalize hid:((JD x.nm:Nat):Int)=id at*;clear ai hid;obtain⟨q,g⟩:∃q:Int,(if kb=mW then 80 else if x.ar<d.l\/d.m<x.ar then 81 else if qt=mW then 82 else if qs=mW then 83 else 0)=q:=⟨_,rfl⟩
 rw[g];have E:=hid g;clear g;go_enter func150,ntmps150;go_upto_region 1 with fail
 generalize(w.alloc (Z (QO x (U av m cap)).toArray 158))=W at*;go_wp2_with fail
 refine OF.mono ?_;rintro e w1 ⟨rfl,r⟩;have G:=hid (X.out.below r);have D:=hid (AtL.below r pP);have C:=hid (QA o r);clear OF c8 pP o r X;cases kb with
 |false =>
  have g:q=80:=by rw[<-E.out];rfl
  subst g;clear E I aa G D;simp only[kY,if_false,zero6];have hB:=C.out;go_wp2;go_ret;exact⟨rfl,(clB hB)⟩
 |true =>
  simp only[if_true];have u:=QI (bZ _ w1) (Z (sg6 id d.c ⟨y.toArray⟩ d.l d.m d.p).toArray 242);have pS:=AtL.new0 w1 242 (sg6 id d.c ⟨y.toArray⟩ d.l d.m d.p);have H:=hid (G.out.below u);have j:=AtL.below u D.out;have f:=QA C.out u;have z:hH (∀w2:wW,RdQ w2 av L->CR 178 #[gX (sg6 id d.c ⟨y.toArray⟩ d.l d.m d.p).toArray,U av m cap] w2 (Y qt)):=λw2 h=>I.out _ _ _ _ _ w2 h
  clear u G D C I;generalize(⟨y.toArray⟩:ByteArray)=nv at*;go_upto_region 2 with fail
  generalize(w1.alloc (Z (sg6 id d.c nv d.l d.m d.p).toArray 242))=W2 at*;have p9:=j.2.1 9 (O J x.ar) rfl;have ag:=j.2.1 20 (U av m cap) rfl;obtain⟨sb,K⟩:∃k,w1.heap.size=k:=⟨_,rfl⟩
  rw[K]at pS;simp only[K];clear K;obtain⟨b0,b1,b2,b3,b4,b5,k0,k1,k2,k3,k4,k5⟩:=at6 pS;by_cases N:x.ar<d.l
  ·have g:q=81:=by rw[<-E.out];simp[N]
   subst g;go_wp2;go_ret;exact⟨rfl,f⟩
  by_cases R:d.m<x.ar
  ·have g:q=81:=by rw[<-E.out];simp[R]
   subst g;go_wp2;go_ret;exact⟨rfl,f⟩
  have ab:=z.out W2 H.out;go_wp2_with fail
  refine ab.mono ?_;rintro e w3 ⟨rfl,i⟩;have ah:=hid (H.out.below i);replace j:=AtL.below i j
  replace pS:=AtL.below i pS
  replace f:=QA f i
  clear ab i z H p9 ag b0 b1 b2 b3 b4 b5 k0 k1 k2 k3 k4 k5;have ag:=j.2.1 20 (U av m cap) rfl;have b0:=pS.2.1 0 (O J id) rfl;cases qt with
  |false =>
   have g:q=82:=by rw[<-E.out];simp[N,R]
   subst g;go_wp2;go_ret;exact⟨rfl,f⟩
  |true =>
   have SS:=aa.out oM rfl w3 ah.out;go_wp2_with fail
   refine SS.mono ?_;rintro e w4 ⟨rfl,ad⟩;replace f:=QA f ad
   clear ad SS;cases qs with
   |false =>
    have g:q=83:=by rw[<-E.out];simp[N,R]
    subst g;go_wp2;go_ret;exact⟨rfl,f⟩
   |true =>
    have g:q=0:=by rw[<-E.out];simp[N,R]
    subst g;go_wp2;go_ret;exact⟨rfl,f⟩
theorem zMc(own:Int)(nm:List ByteArray)(d:Option dW)(i c:Nat)(x:Wt.Nd)(L:List (Wt.Nd×vW))(av:Option dW)(m cap:Nat)(w:wW)(hN:NmAt w)(hS:RdS w d nm)(M:i=nm.length)(K:nm.length<=16)(hm:m=L.length)(hl:L.length<=30)(X:RdQ w av L)(hC:x.k=6->∀W:wW,NmAt W->RdQ W av L->CR 150 #[gX (QO x (U av m cap)).toArray] W (O J (Vh x (L.map (·.1))))) :
  CR 114 #[gX (QO x (U av m cap)).toArray,Jn own d i c] w (O J (V7 own nm x (L.map (·.1)))):=by
 have l:=QI (QI (bZ _ w) (Z (QO x (U av m cap)).toArray 158)) (Z #[O J own,U d i c] 154);have N:=(AtL.new0 w 158 (QO x (U av m cap))).alloc (Z #[O J own,U d i c] 154);have pS:=AtL.new1 w (Z (QO x (U av m cap)).toArray 158) 154 [O J own,U d i c];have H:=N.2.1 0 (O J x.k) rfl;have aa:=N.2.1 10 (V x.a.s) rfl;have ab:=N.2.1 20 (U av m cap) rfl;have s0:=pS.2.1 0 _ rfl;have s1:=pS.2.1 1 _ rfl;have rP:=N.range;have D:=zBl own nm x.a.s d i c _ M K (hS.below l);have r:=zC7 L av m cap _ hm hl (X.below l);have q:L.any (λp=>isA p.1)=(L.map (·.1)).any isA:=by rw[List.any_map];rfl
 rw[q]at r;have g:hH (x.k=6->cW prog 150 #[gX (QO x (U av m cap)).toArray] ((w.alloc (Z (QO x (U av m cap)).toArray 158)).alloc (Z #[O J own,U d i c] 154)) λe w'=>e=rX (O J (Vh x (L.map (·.1))))/\Below ((w.alloc (Z (QO x (U av m cap)).toArray 158)).alloc (Z #[O J own,U d i c] 154)).heap.size ((w.alloc (Z (QO x (U av m cap)).toArray 158)).alloc (Z #[O J own,U d i c] 154)) w'):=λy=>hC y _ (hN.below l) (X.below l)
 clear q N pS hN hS M K hm hl X hC;unfold V7;generalize Vh x (L.map (·.1))=rc at*;generalize(L.map (·.1)).any isA=qa at*;generalize shN own nm x.a.s=R at*;by_cases o:x.k=2
 ·rw[if_pos (vY o)];rw[o]at H;obtain⟨z,C⟩:∃z:Int,(if R<0 then 84 else 0)=z:=⟨_,rfl⟩
  rw[C];have G:=hid C;clear C;clear r g o;go_enter func114,ntmps114;go_upto_region 1 with fail
  generalize((w.alloc (Z (QO x (U av m cap)).toArray 158)).alloc (Z #[O J own,U d i c] 154))=W at*;go_wp2_with fail
  refine D.mono ?_;rintro e w1 ⟨rfl,f⟩;have j:=QA l f;by_cases hs:R<0
  ·go_wp2;go_ret;exact⟨congrArg (λz=>rX (O J z)) (by rw[<-G.out,if_pos oM]:(84:Int)=z),j⟩
  ·go_wp2;go_ret;exact⟨congrArg (λz=>rX (O J z)) (by rw[<-G.out,if_neg oM]:(0:Int)=z),j⟩
 by_cases u:x.k=3
 ·rw[if_pos (xY u)];rw[u]at H;obtain⟨z,C⟩:∃z:Int,(if R<0 then 84 else 0)=z:=⟨_,rfl⟩
  rw[C];have G:=hid C;clear C;clear r g o u;go_enter func114,ntmps114;go_upto_region 1 with fail
  generalize((w.alloc (Z (QO x (U av m cap)).toArray 158)).alloc (Z #[O J own,U d i c] 154))=W at*;go_wp2_with fail
  refine D.mono ?_;rintro e w1 ⟨rfl,f⟩;have j:=QA l f;by_cases hs:R<0
  ·go_wp2;go_ret;exact⟨congrArg (λz=>rX (O J z)) (by rw[<-G.out,if_pos oM]:(84:Int)=z),j⟩
  ·go_wp2;go_ret;exact⟨congrArg (λz=>rX (O J z)) (by rw[<-G.out,if_neg oM]:(0:Int)=z),j⟩
 rw[if_neg (λh=>h.elim o u)];by_cases E:x.k=4
 ·rw[if_pos (vY E)];rw[E]at H;clear D g o u E;go_enter func114,ntmps114;go_upto_region 1 with fail
  generalize((w.alloc (Z (QO x (U av m cap)).toArray 158)).alloc (Z #[O J own,U d i c] 154))=W at*;go_wp2_with fail
  refine r.mono ?_;rintro e w1 ⟨rfl,f⟩;have j:=QA l f;cases qa with
  |true =>
   go_wp2;go_ret;exact⟨rfl,j⟩
  |false =>
   go_wp2;go_ret;exact⟨rfl,j⟩
 by_cases I:x.k=5
 ·rw[if_pos (xY I)];rw[I]at H;clear D g o u E I;go_enter func114,ntmps114;go_upto_region 1 with fail
  generalize((w.alloc (Z (QO x (U av m cap)).toArray 158)).alloc (Z #[O J own,U d i c] 154))=W at*;go_wp2_with fail
  refine r.mono ?_;rintro e w1 ⟨rfl,f⟩;have j:=QA l f;cases qa with
  |true =>
   go_wp2;go_ret;exact⟨rfl,j⟩
  |false =>
   go_wp2;go_ret;exact⟨rfl,j⟩
 rw[if_neg (λh=>h.elim E I)];by_cases y:x.k=6
 ·rw[if_pos y];have RC:=g.out y;rw[y]at H;clear D r g o u E I y;go_enter func114,ntmps114;go_upto_region 1 with fail
  generalize((w.alloc (Z (QO x (U av m cap)).toArray 158)).alloc (Z #[O J own,U d i c] 154))=W at*;go_wp2_with (first|(refine ldQ 158 (mX 2) w.heap.size 0 (QO x (U av m cap)) _ rP underlying158 ?_))
  refine RC.mono ?_;rintro e w1 ⟨rfl,f⟩;have j:=QA l f;go_wp2;go_ret;exact⟨rfl,j⟩
 rw[if_neg y];clear D r g;go_enter func114,ntmps114;go_upto_region 1 with fail
 generalize((w.alloc (Z (QO x (U av m cap)).toArray 158)).alloc (Z #[O J own,U d i c] 154))=W at*;go_wp2;go_ret;exact⟨rfl,l⟩
