/- Lemmas. -/
import Derived.Test.YtloponhikiddmaaGreatDoorQ05
set_option maxHeartbeats 1600000
set_option maxRecDepth 100000
open Go.RowKit.Below renaming refl->aZ
open List renaming getElem_mem->bZ,length_map->dZ,getElem?_eq_getElem->eZ,getD_eq_getElem?_getD->gZ,drop_eq_getElem_cons->iZ,filter_append->kZ,mem_cons_self->oZ,drop_length->qZ,length_filter_le->tZ,getElem_of_mem->uZ,map_map->yZ,append_nil->zZ,filter_map->aY,drop_zero->bY,map_cons->eY
open Go.IntKind renaming wrap_i64->cZ
open Nat renaming zero_le->fZ,le_refl->hZ,zero_mul->rZ,not_lt_zero->sZ,lt_of_lt_of_le->vZ,add_zero->xZ
open Bool renaming false_eq_true->jZ,and_eq_true->mZ,false_and->nZ,or_self->wZ,and_false->cY,false_or->dY,and_self->fY,true_or->gY
open Go renaming World->wW,Value->vW,Addr->dW
open Go.RowKit renaming Hid->hH
open Go.Value renaming int->O,slice->U,string->V,bool->Y,pointer->pX,agg->gX,tuple->uX
open Go.IntKind renaming i64->J
open Go.Obj renaming cells->Z
open Go.Ending renaming returned->rX
open Go.Operand renaming tmp->mX
namespace Go.Proofs.YtloponhikiddmaaGreatDoor
open Tryz
open Go.RowKit Wf
set_option linter.unusedVariables false
variable {w w' w1:wW} {B n lo hi:Nat} {s:ByteArray} {va vb v:vW} {LA LB L:List (Wt.Nd × vW)} {av:Option dW} {P:Program} {ops:Array Oper} {rest:List Oper} {op:Oper} {a:Act} {Q:Exit->Act->wW->Prop} {x:Wt.Nd} {A:List Int} {id:Int}
def RdS (w:wW) (av:Option dW) (L:List ByteArray):Prop:=∀ i (h:i<L.length),∃ bb off,av=some ⟨bb,off,none⟩/\w.cell? ⟨bb,off+i,none⟩=some (V (L[i]))
theorem RdS.below {L:List ByteArray} (h:RdS w av L) (d:bL w w'):RdS w' av L:=λi hi=>by
 obtain ⟨c,b,e,f⟩:=h i hi;exact ⟨c,b,e,QC d f⟩
theorem str_eqb {x:ByteArray}:s.toList=x.toList ↔ s=x:=by
 refine ⟨λh=>?_,λh=>by rw [h]⟩;rw [ByteArray.toList_eq,ByteArray.toList_eq] at h;exact ByteArray.ext (Array.toList_inj.mp h)
theorem zM6 {x:ByteArray} (h:¬ s=x):(s.toList == x.toList)=false:=by
 rw [beq_eq_false_iff_ne];exact λe=>h (str_eqb.1 e)
theorem zLG (h:¬ s=⟨#[]⟩):s.toList.isEmpty=false:=by
 cases b:s.toList with
 | nil=>exact absurd (str_eqb.1 (b.trans (by rw [ByteArray.toList_eq]))) h
 | cons a r=>rfl
theorem zHL (s:ByteArray) (nm:List ByteArray) (av:Option dW) (m cap:Nat) (w:wW) (t:m=nm.length) (r:nm.length<=16) (p:RdS w av nm):CR 35 #[U av m cap,V s] w (O J (idx s nm 0)):=by
 generalize o:idx s nm 0=q;have f:=hid (And.intro t r);have C:=hid p;clear t r p;go_enter func35,ntmps35;go_wp2_with fail
 go_loopg [5,8] m (λgk u x wr=>∃ i:Nat,x=O J (i:Int)/\gk=m - i/\i<=m/\hH (idx s (nm.drop i) i=q)/\w=wr)
 case atStart=>exact ⟨0,rfl,rfl,fZ _,(by rw [bY];exact o:_=_),rfl⟩
 case round =>
  obtain ⟨i,rfl,M,hi,b,rfl⟩:=hrel;by_cases l:i<m
  ·have k:(i:Int)<(m:Int):=oM;have G:(0:Int)<=(i:Int):=oM;have H:J.wrap ((i:Int)+1)=(i:Int)+1:=by have:=f.out;rw [cZ];omega
   have c:i<nm.length:=by have:=f.out;omega
   obtain ⟨K,I,rfl,D⟩:=C.out i c;have d:=iZ c;rw [d] at b;simp only [idx] at b;obtain ⟨x,y⟩:=xV (nm[i])
   rw [y] at b D;clear d y o c;by_cases e:x=s
   ·subst e;rw [if_pos rfl] at b;go_wp2;go_ret;exact ⟨congrArg (λz=>rX (O J z)) b.out,aZ _ _⟩
   ·rw [if_neg e] at b;have E:(s.toList == x.toList)=false:=zM6 (λh=>e h.symm);have F:¬ s.toList=x.toList:=λh=>e (str_eqb.1 h).symm
    clear e;go_wp2;go_roundg (m - (i+1))
    case rel=>exact ⟨i+1,sM,rfl,l,b,rfl⟩
    case measure=>omega
  ·have k:¬ (i:Int)<(m:Int):=oM;have g:hH (-1=q):=by
    have j:i=nm.length:=by have:=f.out;omega
    rw [j,qZ] at b;exact b
   clear b o;go_wp2;go_ret;exact ⟨congrArg (λz=>rX (O J z)) g.out,aZ _ _⟩
abbrev Jk (own:Int) (av:Option dW) (m cap:Nat):vW:=gX #[O J own,U av m cap]
theorem zBb (own:Int) (nm:List ByteArray) (s:ByteArray) (av:Option dW) (m cap:Nat) (w:wW) (l:m=nm.length) (k:nm.length<=16) (j:RdS w av nm):CR 150 #[Jk own av m cap,V s] w (O J (shN own nm s)):=by
 have d:=QJ (aZ _ w) (Z #[O J own,U av m cap] 155);have p:=AtL.new0 w 155 [O J own,U av m cap];have t:=p.2.1 0 _ rfl;have u:=p.2.1 1 _ rfl;have i:=λ(o:wW) (h:RdS o av nm)=>zHL s nm av m cap o l k h
 have b:=j.below d;clear p l k j;unfold shN;by_cases g:s=⟨#[]⟩
 ·subst g;rw [if_pos rfl];clear i b;go_enter func150,ntmps150;go_upto_region 1 with fail
  generalize (w.alloc (Z [O J own,U av m cap].toArray 155))=W at *;go_wp2;go_ret;exact ⟨rfl,d⟩
 ·rw [if_neg g];have c:s.toList.isEmpty=false:=zLG g;have r:¬ s.toList=[]:=λh=>by rw [h] at c;cases c
  go_enter func150,ntmps150;go_upto_region 1 with fail
  generalize (w.alloc (Z [O J own,U av m cap].toArray 155))=W at *;go_wp2_with fail
  refine (i _ b).mono ?_;rintro e w1 ⟨rfl,f⟩;have q:=QA d f;go_wp2;go_ret;exact ⟨rfl,q⟩
def RdQ (w:wW) (av:Option dW) (L:List (Wt.Nd × vW)):Prop:=∀ i (h:i<L.length),∃ bb off,av=some ⟨bb,off,none⟩/\w.rangeAt bb (off+i * 21) (QP (L[i]).1 (L[i]).2)
theorem RdQ.below (h:RdQ w av L) (d:bL w w'):RdQ w' av L:=λi hi=>by
 obtain ⟨c,b,e,f⟩:=h i hi;exact ⟨c,b,e,QG d f⟩
theorem RdT.q {c:List (Tr n × vW)} (h:RdT n lo hi w av c):RdQ w av (c.map λp=>(hd n p.1,p.2)):=λi hi'=>by
 obtain ⟨d,b,_,_,e,f⟩:=h i (by simpa using hi');exact ⟨d,b,e,by simpa using f⟩
theorem zAR (x:Wt.Nd) (b:vW) (w:wW):CR 86 #[gX (QP x b).toArray] w (Y (isA x)):=by
 have c:=QJ (aZ _ w) (Z (QP x b).toArray 159);have p:=AtL.new0 w 159 (QP x b);have d:(w.alloc (Z (QP x b).toArray 159)).cell? ⟨w.heap.size,0,none⟩=some (O J x.k):=p.2.1 0 _ rfl;clear p;go_enter func86,ntmps86;go_upto_region 1 with fail
 generalize (w.alloc (Z (QP x b).toArray 159))=W at *;go_wp2;go_ret;exact ⟨rfl,c⟩
theorem zGE (L:List (Wt.Nd × vW)) (av:Option dW) (m cap:Nat) (w:wW) (K:m=L.length) (I:L.length<=30) (H:RdQ w av L):Calls prog 179 #[U av m cap,.func (.func 86) #[] #[]] w λe w'=>(∃ v:Int,e=rX (O J v)/\decide (0<=v)=L.any (λp=>isA p.1))/\bL w w':=by
 have T:∀ args w,(callFunc 86 args).run prog w=.ok (.enter 86 args) w:=λ_ _=>by kernel_rfl
 generalize E:L.any (λp=>isA p.1)=q;have t:=hid (And.intro K I);have N:=hid H;clear K I H;go_enter func179,ntmps179;go_wp2_with fail
 go_loopg [5,8] m (λgk u x wr=>∃ i:Nat,x=O J (i:Int)/\gk=m - i/\i<=m/\hH ((L.drop i).any (λp=>isA p.1)=q)/\hH (bL w wr))
 case atStart=>exact ⟨0,rfl,rfl,fZ _,(by rw [bY];exact E:_=_),aZ _ _⟩
 case round =>
  obtain ⟨i,rfl,W,hi,b,f⟩:=hrel;by_cases D:i<m
  ·have C:(i:Int)<(m:Int):=oM;have R:(0:Int)<=(i:Int):=oM;have S:J.wrap ((i:Int)+1)=(i:Int)+1:=by have:=t.out;rw [cZ];omega
   have d:i<L.length:=by have:=t.out;omega
   obtain ⟨G,j,rfl,o⟩:=(N.out.below f.out) i d;have g:=iZ d;rw [g,List.any_cons] at b;obtain ⟨x,M⟩:=xV (L[i])
   rw [M] at b o;obtain ⟨x,F⟩:=x;simp only at b o;have k:=λw=>zAR x F w
   clear g M E d;cases l:isA x with
   | true =>
    rw [l] at k;rw [l,gY] at b;go_wp2_with (first | (refine QB (by rfl) 159 (mX 14) rfl G (j+i * 21) rfl (QP x F) _ o underlying159 rfl kR ?_) | (go_at_call 86;refine (k _).mono ?_;rintro e w1 ⟨rfl,c⟩))
    go_ret;exact ⟨⟨_,rfl,by rw [<-b.out];simp⟩,QA f.out c⟩
   | false =>
    rw [l] at k;rw [l,dY] at b;go_wp2_with (first | (refine QB (by rfl) 159 (mX 14) rfl G (j+i * 21) rfl (QP x F) _ o underlying159 rfl kR ?_) | (go_at_call 86;refine (k _).mono ?_;rintro e w1 ⟨rfl,c⟩))
    have r:=hid (QA f.out c);clear c f;go_roundg (m - (i+1))
    case rel=>exact ⟨i+1,sM,rfl,D,b,r⟩
    case measure=>omega
  ·have C:¬ (i:Int)<(m:Int):=oM;have y:hH (false=q):=by
    have z:i=L.length:=by have:=t.out;omega
    rw [z,qZ] at b;exact b
   clear b E;go_wp2;go_ret;exact ⟨⟨_,rfl,by rw [<-y.out];simp⟩,f.out⟩
theorem zC5 (L:List (Wt.Nd × vW)) (av:Option dW) (m cap:Nat) (w:wW) (f:m=L.length) (d:L.length<=30) (c:RdQ w av L):CR 151 #[U av m cap,.func (.func 86) #[] #[]] w (Y (L.any (λp=>isA p.1))):=by
 have i:=zGE L av m cap w f d c;clear f d c;generalize L.any (λp=>isA p.1)=q at *;go_enter func151,ntmps151;go_wp2_with fail
 refine i.mono ?_;rintro e w1 ⟨⟨v,rfl,g⟩,b⟩;have H:=hid g;clear g;go_wp2;go_ret;exact ⟨by rw [<-H.out];rfl,b⟩
theorem zHk (s:ByteArray):JA s<=63:=List.findIdx_le_length
theorem zKy {i:Nat} (h:i<63) (f:∀ j,j<i->¬ (⟨(fnN.getD j []).toArray⟩:ByteArray)=s) (d:(⟨(fnN.getD i []).toArray⟩:ByteArray)=s):JA s=i:=by
 have b:=h;unfold JA;rw [List.findIdx_eq b];refine ⟨?_,λj e=>?_⟩
 ·rw [gZ,eZ b] at d;simpa using d
 ·have:=f j e;have c:j<fnN.length:=Nat.lt_trans e b;rw [gZ,eZ c] at this;simpa using this
theorem zGs (d:∀ j,j<63->¬ (⟨(fnN.getD j []).toArray⟩:ByteArray)=s):JA s=63:=by
 have c:fnN.length=63:=rfl;unfold JA;rw [<-c,List.findIdx_eq_length];intro x e;obtain ⟨j,b,rfl⟩:=uZ e;have:=d j b;rw [gZ,eZ b] at this;simpa using this
theorem zBF (b:op.guard=none) (T:TypeId) (s i:Operand) (d:op.op=.index T s i) (cs:Array vW) (f:a.eval s=gX cs) (k:Nat) (hi:a.eval i=O J (k:Int)) (v:vW) (e:(Instr.index T (gX cs) (O J (k:Int))).run P w=.ok v w)
  (h:wpList P ops Q rest (a.put op.dst v) w):wpList P ops Q (op::rest) a w:=by
 refine wpList_plain b λK c=>?_
 unfold Oper.wp execOp;simp only [d,f,hi,Sem.run_bind,Sem.run_pure,Result.andThen_ok,e];exact c _ _ h
theorem zOy (w:wW):∀ i:Nat,i<63->(Instr.index 268 (gX nmR.toArray) (O J (i:Int))).run prog w=.ok (V ⟨(fnN.getD i []).toArray⟩) w
 | 0,_=>by kernel_rfl
 | 1,_=>by kernel_rfl
 | 2,_=>by kernel_rfl
 | 3,_=>by kernel_rfl
 | 4,_=>by kernel_rfl
 | 5,_=>by kernel_rfl
 | 6,_=>by kernel_rfl
 | 7,_=>by kernel_rfl
 | 8,_=>by kernel_rfl
 | 9,_=>by kernel_rfl
 | 10,_=>by kernel_rfl
 | 11,_=>by kernel_rfl
 | 12,_=>by kernel_rfl
 | 13,_=>by kernel_rfl
 | 14,_=>by kernel_rfl
 | 15,_=>by kernel_rfl
 | 16,_=>by kernel_rfl
 | 17,_=>by kernel_rfl
 | 18,_=>by kernel_rfl
 | 19,_=>by kernel_rfl
 | 20,_=>by kernel_rfl
 | 21,_=>by kernel_rfl
 | 22,_=>by kernel_rfl
 | 23,_=>by kernel_rfl
 | 24,_=>by kernel_rfl
 | 25,_=>by kernel_rfl
 | 26,_=>by kernel_rfl
 | 27,_=>by kernel_rfl
 | 28,_=>by kernel_rfl
 | 29,_=>by kernel_rfl
 | 30,_=>by kernel_rfl
 | 31,_=>by kernel_rfl
 | 32,_=>by kernel_rfl
 | 33,_=>by kernel_rfl
 | 34,_=>by kernel_rfl
 | 35,_=>by kernel_rfl
 | 36,_=>by kernel_rfl
 | 37,_=>by kernel_rfl
 | 38,_=>by kernel_rfl
 | 39,_=>by kernel_rfl
 | 40,_=>by kernel_rfl
 | 41,_=>by kernel_rfl
 | 42,_=>by kernel_rfl
 | 43,_=>by kernel_rfl
 | 44,_=>by kernel_rfl
 | 45,_=>by kernel_rfl
 | 46,_=>by kernel_rfl
 | 47,_=>by kernel_rfl
 | 48,_=>by kernel_rfl
 | 49,_=>by kernel_rfl
 | 50,_=>by kernel_rfl
 | 51,_=>by kernel_rfl
 | 52,_=>by kernel_rfl
 | 53,_=>by kernel_rfl
 | 54,_=>by kernel_rfl
 | 55,_=>by kernel_rfl
 | 56,_=>by kernel_rfl
 | 57,_=>by kernel_rfl
 | 58,_=>by kernel_rfl
 | 59,_=>by kernel_rfl
 | 60,_=>by kernel_rfl
 | 61,_=>by kernel_rfl
 | 62,_=>by kernel_rfl
 | n+63,h=>absurd h oM
theorem zF3 (s:ByteArray) (w:wW) (hN:NmAt w):CR 153 #[V s] w (uX #[gX (VA (JA s:Nat)).toArray,Y (JM (JA s:Nat))]):=by
 have pZ:=AtL.new0 w 243 (sg6 0 0 ⟨#[]⟩ 0 0 ⟨#[]⟩);have S:=QJ (aZ _ w) (Z (sg6 0 0 ⟨#[]⟩ 0 0 ⟨#[]⟩).toArray 243);have g:=hN.below S;have q:hH (∀ (w:wW),NmAt w->CR 162 #[O J (JA s:Nat)] w (uX #[gX (VA (JA s:Nat)).toArray,Y (JM (JA s:Nat))])):=λw h=>zFo _ w h
 have C:JA s=63->JM (JA s:Nat)=false/\VA (JA s:Nat)=zero6:=λh=>by rw [h];exact ⟨by kernel_rfl,by kernel_rfl⟩
 have o:hH (JA s=63->JM (JA s:Nat)=false/\VA (JA s:Nat)=zero6):=C;have k:∃ a b c d e f,VA (JA s:Nat)=sg6 a b c d e f:=by
  unfold VA;split
  ·exact ⟨_,_,_,_,_,_,rfl⟩
  ·exact ⟨_,_,_,_,_,_,rfl⟩
 obtain ⟨a1,a2,a3,a4,a5,a6,k⟩:=k;rw [k] at q o ⊢;generalize JM (JA s:Nat)=kb at *;clear k;clear hN C;go_enter func153,ntmps153;go_upto_region 1 with fail
 generalize (w.alloc (Z (sg6 0 0 ⟨#[]⟩ 0 0 ⟨#[]⟩).toArray 243))=W at *;have HN:hH (NmAt W):=g;have HZ:hH (AtL W w.heap.size (sg6 0 0 ⟨#[]⟩ 0 0 ⟨#[]⟩)):=pZ;have HB:hH (bL w W):=S;unfold NmAt at g;clear pZ S;go_wp2_with (first | (refine QB (by rfl) 268 (.global 2) rfl 2 0 rfl nmR _ g underlying268 rfl kR ?_))
 clear g;have t:hH (∀ (w:wW) (i:Nat),i<63->(Instr.index 268 (gX nmR.toArray) (O J (i:Int))).run prog w=.ok (V ⟨(fnN.getD i []).toArray⟩) w):=zOy;generalize nmR.toArray=NA at *;go_loopg [4,5,7] 63 (λgk u v x wr=>∃ i:Nat,x=O J (i:Int)/\gk=63 - i/\i<=63/\hH (∀ j,j<i->¬ (⟨(fnN.getD j []).toArray⟩:ByteArray)=s)/\W=wr)
 case atStart=>exact ⟨0,rfl,rfl,fZ _,(λj hj=>absurd hj (sZ _):∀ j,j<0->¬ (⟨(fnN.getD j []).toArray⟩:ByteArray)=s),rfl⟩
 case round =>
  obtain ⟨i,rfl,hg,hi,r,rfl⟩:=hrel;by_cases m:i<63
  ·have T:(i:Int)<63:=oM;have ac:(0:Int)<=(i:Int):=oM;have ad:J.wrap ((i:Int)+1)=(i:Int)+1:=by rw [cZ];omega
   have X:=t.out W i m;obtain ⟨y,G⟩:=xV (⟨(fnN.getD i []).toArray⟩:ByteArray)
   rw [G] at X;by_cases E:y=s
   ·subst E;have z:=zKy m r.out G;have H:=q.out W HN.out;rw [z] at H;clear G z r;go_wp2_with (first | (refine zBF rfl 268 (mX 6) (mX 7) rfl NA rfl i rfl _ X ?_))
    refine H.mono ?_;rintro e w1 ⟨rfl,D⟩;obtain ⟨M,b1,b2,b3,N,R,k0,k1,k2,k3,k4,k5⟩:=at6 (AtL.below D HZ.out);have l:=QA HB.out D;clear H;go_wp2;refine bodyPost_ret (v:=uX #[gX (sg6 a1 a2 a3 a4 a5 a6).toArray,Y kb]) (by simp [results,results153,go_sem,M,b1,b2,b3,N,R]) rfl ⟨rfl,(clB l)⟩
   ·have K:hH (∀ j,j<i+1->¬ (⟨(fnN.getD j []).toArray⟩:ByteArray)=s):=(λj hj=>by
     by_cases e:j=i
     ·subst e;rw [G];exact E
     ·exact r.out j oM:∀ j,j<i+1->¬ (⟨(fnN.getD j []).toArray⟩:ByteArray)=s)
    have aa:=zM6 E;have ab:¬ y.toList=s.toList:=λh=>E (str_eqb.1 h)
    clear G E r;go_wp2_with (first | (refine zBF rfl 268 (mX 6) (mX 7) rfl NA rfl i rfl _ X ?_))
    go_roundg (63 - (i+1))
    case rel=>exact ⟨i+1,sM,rfl,m,K,rfl⟩
    case measure=>omega
  ·have T:¬ (i:Int)<63:=oM;have F:i=63:=oM;subst F;have z:=zGs r.out;have I:=o.out z;unfold zero6 at I;have p:hH (kb=false/\sg6 a1 a2 a3 a4 a5 a6=sg6 0 0 ⟨#[]⟩ 0 0 ⟨#[]⟩):=I;clear z I;obtain ⟨M,b1,b2,b3,N,R,k0,k1,k2,k3,k4,k5⟩:=at6 HZ.out;have l:=HB.out;go_wp2;refine bodyPost_ret (v:=uX #[gX (sg6 0 0 ⟨#[]⟩ 0 0 ⟨#[]⟩).toArray,Y false]) (by simp [results,results153,go_sem,M,b1,b2,b3,N,R]) rfl ⟨by rw [p.out.1,p.out.2],(clB l)⟩
theorem zE5 {P:Program} {ops:Array Oper} {rest:List Oper} {a:Act} {w:wW} {Q:Exit->Act->wW->Prop} (b:op.guard=none) (x y:Operand) (d:Array TypeId) (g:op.op=.call {callee:=.builtin .min,args:=#[x,y],argTypes:=d}) (i j k:Int) (l:a.eval x=O J i) (m:a.eval y=O J j) (f:(if j<i then j else i)=k)
  (h:wpList P ops Q rest (a.put op.dst (O J k)) w):wpList P ops Q (op::rest) a w:=by
 refine wpList_plain b λK e=>?_
 have c:=run_min_int2 (P:=P) (w:=w) d op.type J J i j;rw [f] at c;unfold Oper.wp execOp;simp only [g,resolve,invoke,builtin,Sem.run_bind,Sem.run_pure,Result.andThen_ok,List.map_toArray,eY,List.map_nil,l,m,c];exact e _ _ h
theorem zEx (d:op.guard=none) (T:TypeId) (s i:Operand) (j:op.op=.index T s i) (b:ByteArray) (l:a.eval s=V b) (k:Nat) (hi:a.eval i=O J (k:Int)) (m:P.underlying T=some .string) (c:UInt8) (o:k<b.size) (g:b[k]=c)
  (h:wpList P ops Q rest (a.put op.dst (O .u8 (c.toNat:Int))) w):wpList P ops Q (op::rest) a w:=by
 refine wpList_plain d λK f=>?_
 have e:=run_index_string (P:=P) (w:=w) T b J (k:Int) m;rw [dif_pos oM] at e;simp only [Int.toNat_natCast,g] at e;unfold Oper.wp execOp;simp only [j,l,hi,Sem.run_bind,Sem.run_pure,Result.andThen_ok,e];exact f _ _ h
theorem zOv {c d:UInt8} (h:¬ c=d):¬ c.toNat=d.toNat:=λe=>h (UInt8.toNat_inj.1 e)
theorem zIl (R S:Int) (T:ByteArray) (X a5:Int) (p:ByteArray) (L:List (Wt.Nd × vW)) (av:Option dW) (m cap:Nat) (w:wW) (hp:0<p.size/\p.size<=10) (hm:m=L.length) (hl:L.length<=30) (ah:∀ q ∈ L,∃ a b c,q.2=U a b c) (hR:RdQ w av L) :
  CR 180 #[gX (sg6 R S T X a5 p).toArray,U av m cap] w (Y (JD p.data.toList (L.map (·.1)) 0)):=by
 generalize hq:JD p.data.toList (L.map (·.1)) 0=q;have pS:=AtL.new0 w 243 (sg6 R S T X a5 p);have hB:=QJ (aZ _ w) (Z (sg6 R S T X a5 p).toArray 243);have HM:hH (m=L.length/\L.length<=30):=⟨hm,hl⟩
 have al:hH (∀ q ∈ L,∃ a b c,q.2=U a b c):=ah;have HR:hH (RdQ (w.alloc (Z (sg6 R S T X a5 p).toArray 243)) av L):=hR.below hB;have ad:hH (JD p.data.toList ((L.drop 0).map (·.1)) 0=q):=hq;have HP:hH (0<p.size/\p.size<=10):=hp;clear hm hl ah hR hq hp;go_enter func180,ntmps180;go_upto_region 1 with fail
 generalize (w.alloc (Z (sg6 R S T X a5 p).toArray 243))=W at *;have HS:hH (AtL W w.heap.size (sg6 R S T X a5 p)):=pS;have HB:hH (bL w W):=hB;clear pS hB;go_wp2_with fail
 go_loopg [5,6,7,10] m (λgk u5 u6 u7 x wr=>∃ i:Nat,x=O J (i:Int)/\gk=m - i/\i<=m/\hH (JD p.data.toList ((L.drop i).map (·.1)) i=q)/\hH (bL W wr))
 case atStart=>exact ⟨0,rfl,rfl,fZ _,ad,aZ _ _⟩
 case round =>
  clear ad;obtain ⟨i,rfl,hg,hi,j,u⟩:=hrel;by_cases M:i<m
  ·have an:(i:Int)<(m:Int):=oM;have au:(0:Int)<=(i:Int):=oM;have ax:J.wrap ((i:Int)+1)=(i:Int)+1:=by have:=HM.out;rw [cZ];omega
   have F:i<L.length:=by have:=HM.out;omega
   obtain ⟨bb,ap,rfl,hr⟩:=(HR.out.below u.out) i F;have ae:=iZ F;have N:=al.out L[i] (bZ F);rw [ae,eY] at j;obtain ⟨x,hx⟩:=xV (L[i])
   rw [hx] at j hr N;obtain ⟨x,sl⟩:=x;simp only at j hr N;obtain ⟨o,r,t,rfl⟩:=N;have y:=λw=>zAR x (U o r t) w
   clear ae hx F;obtain ⟨k,hk⟩:=xV (min i (p.data.toList.length - 1))
   have ag:p.data.toList.length=p.size:=by show p.data.toList.length=p.data.size;exact Array.length_toList
   have K:k<p.size:=by have:=HP.out;omega
   have ao:min (i:Int) ((p.size:Int) - 1)=(k:Int):=by have:=HP.out;omega
   obtain ⟨c,hc⟩:=xV (p[k])
   have af:p.data.toList.getD k 0=c:=by
    rw [<-hc];rw [gZ,eZ (by rw [ag];exact K)];rfl
   simp only [JD,hk,af] at j;have aw:J.wrap ((p.size:Int) - 1)=(p.size:Int) - 1:=by have:=HP.out;rw [cZ];omega
   have aj:hH ((if (p.size:Int) - 1<(i:Int) then (p.size:Int) - 1 else (i:Int))=(k:Int)):=by show _=_;have:=HP.out;split <;> omega
   have ab:hH (k<p.size/\∀ h:k<p.size,p[k]=c):=⟨K,λ_=>hc⟩
   clear hk ag af ao hc K;have ai:World.there (wr.alloc (Z zeros21 159)) wr.heap.size 0 (QP x (U o r t)).toArray.size:=(AtL.new0 wr _ _:AtL (wr.alloc (Z zeros21 159)) wr.heap.size zeros21.toList).there;have ac:hH (AtL ((wr.alloc (Z zeros21 159)).setCells wr.heap.size 0 (QP x (U o r t))) wr.heap.size (QP x (U o r t))):=(AtL.new0 wr _ _:AtL (wr.alloc (Z zeros21 159)) wr.heap.size zeros21.toList).setAll rfl;have aa:hH (bL wr ((wr.alloc (Z zeros21 159)).setCells wr.heap.size 0 (QP x (U o r t)))):=Qm (QJ (aZ _ wr) _) (hZ _) _ 0;go_upto_region 4 with (first | (refine QB (by rfl) 159 (mX 13) rfl bb (ap+i * 21) rfl (QP x (U o r t)) _ hr underlying159 rfl kR ?_) | ((with_reducible refine wpList_store_mid ?_ 159 (mX 6) (mX 14) ?_ wr.heap.size 0 (QP x (U o r t)).toArray ?_ ?_ ?_ ?_ ?_ ?_);rfl;rfl;rfl;rfl;exact ai;kernel_rfl;exact Qt _ _ _ _))
   have g:hH _:=QA u.out aa.out;clear ai hr aa u;generalize ((wr.alloc (Z zeros21 159)).setCells wr.heap.size 0 (QP x (U o r t)))=W2 at *;obtain ⟨ib,I⟩:∃ k,wr.heap.size=k:=⟨_,rfl⟩
   rw [I] at ac;simp only [I];clear I;have rI:=ac.out.range;have s5:=(AtL.below g.out HS.out).2.1 5 _ rfl;go_upto_region 5 with (first | (refine zE5 rfl (mX 17) (mX 21) _ rfl (i:Int) ((p.size:Int) - 1) (k:Int) rfl rfl aj.out ?_) | (refine zEx rfl 9 (mX 16) (mX 22) rfl p rfl k rfl kR c ab.out.1 (ab.out.2 _) ?_))
   clear s5;by_cases D:c=97
   ·subst D;cases E:isA x with
    | true =>
     rw [E] at y;simp only [E,show ((97:UInt8) == 97)=true from rfl,show ((97:UInt8) == 118)=false from rfl,Bool.not_true,cY,nZ,wZ,jZ,if_false] at j;go_wp2_with (first | (refine QB (by rfl) 159 (mX 6) rfl ib 0 rfl (QP x (U o r t)) _ rI underlying159 rfl kR ?_) | (go_at_call 86;refine (y _).mono ?_;rintro e w1 ⟨rfl,f⟩))
     have H:hH (bL W w1):=QA g.out f;clear f g;go_roundg (m - (i+1))
     case rel=>exact ⟨i+1,sM,rfl,M,j,H⟩
     case measure=>omega
    | false =>
     rw [E] at y;simp only [E,show ((97:UInt8) == 97)=true from rfl,Bool.not_false,fY,gY,if_true] at j;go_wp2_with (first | (refine QB (by rfl) 159 (mX 6) rfl ib 0 rfl (QP x (U o r t)) _ rI underlying159 rfl kR ?_) | (go_at_call 86;refine (y _).mono ?_;rintro e w1 ⟨rfl,f⟩))
     go_ret;exact ⟨congrArg (λz=>rX (Y z)) j.out,QA HB.out (QA g.out f)⟩
   ·have ay:¬ c.toNat=97:=zOv (d:=97) D;have C:(c == 97)=false:=by simpa using D
    have az:¬ (c.toNat:Int)=97:=oM;by_cases l:c=118
    ·subst l;cases E:isA x with
     | true =>
      rw [E] at y;simp only [E,C,show ((118:UInt8) == 118)=true from rfl,nZ,fY,dY,if_true] at j;go_wp2_with (first | (refine QB (by rfl) 159 (mX 6) rfl ib 0 rfl (QP x (U o r t)) _ rI underlying159 rfl kR ?_) | (go_at_call 86;refine (y _).mono ?_;rintro e w1 ⟨rfl,f⟩))
      go_ret;exact ⟨congrArg (λz=>rX (Y z)) j.out,QA HB.out (QA g.out f)⟩
     | false =>
      rw [E] at y;simp only [E,C,nZ,cY,wZ,jZ,if_false] at j;go_wp2_with (first | (refine QB (by rfl) 159 (mX 6) rfl ib 0 rfl (QP x (U o r t)) _ rI underlying159 rfl kR ?_) | (go_at_call 86;refine (y _).mono ?_;rintro e w1 ⟨rfl,f⟩))
      have H:hH (bL W w1):=QA g.out f;clear f g;go_roundg (m - (i+1))
      case rel=>exact ⟨i+1,sM,rfl,M,j,H⟩
      case measure=>omega
    ·have aq:¬ c.toNat=118:=zOv (d:=118) l;have G:(c == 118)=false:=by simpa using l
     have ar:¬ (c.toNat:Int)=118:=oM;simp only [C,G,nZ,wZ,jZ,if_false] at j;clear y D l C G;go_wp2_with fail
     go_roundg (m - (i+1))
     case rel=>exact ⟨i+1,sM,rfl,M,j,g⟩
     case measure=>omega
  ·have an:¬ (i:Int)<(m:Int):=oM;have ak:hH (true=q):=by
    have am:i=L.length:=by have:=HM.out;omega
    rw [am,qZ] at j;exact j
   clear j;go_wp2;go_ret;exact ⟨congrArg (λz=>rX (Y z)) ak.out,QA HB.out u.out⟩
open Go.RowKit
def Cells (w:wW) (blk b n:Nat) (F:Nat->Wpl.Cl):Prop :=
 ∀ j,j<n->w.cell? ⟨blk,b+j * 3,none⟩=some (O J (F j).s)/\w.cell? ⟨blk,b+j * 3+1,none⟩=some (O J (F j).r)/\w.cell? ⟨blk,b+j * 3+2,none⟩=some (O J (F j).c)
theorem Cells.below {W f:wW} {blk b:Nat} {F:Nat->Wpl.Cl} (h:Cells W blk b n F) (d:blk<W.heap.size) (c:bL W f):Cells f blk b n F:=λj e =>
 ⟨(c.cell (p:=⟨blk,b+j * 3,none⟩) d).trans (h j e).1,(c.cell (p:=⟨blk,b+j * 3+1,none⟩) d).trans (h j e).2.1,(c.cell (p:=⟨blk,b+j * 3+2,none⟩) d).trans (h j e).2.2⟩
theorem zGu (q:Int) (blk d n cap:Nat) (F:Nat->Wpl.Cl) (w:wW) (I:n<=1000000000000000) (o:blk<w.heap.size) (D:Cells w blk d n F) :
  Calls prog 172 #[U (some ⟨blk,d,none⟩) n cap,.func (.func 141) #[O J q] #[]] w λe w'=>∃ v:Int,e=rX (O J v)/\decide (0<=v)=Wpl.anyN q F n/\bL w w':=by
 have G:∀ args w,(callFunc 141 args).run prog w=.ok (.enter 141 args) w:=λ_ _=>by kernel_rfl
 go_enter func172,ntmps172;go_wp2;go_loopw [5,8] (λ_ i wr=>∃ j:Nat,j<=n/\i=O J j/\hH (∀ m,m<j->Wpl.lacks q (F m)=false)/\bL w wr) (λ_ i _=>n - (intOf i).toNat)
 case atStart=>exact ⟨0,fZ _,rfl,(λm t=>absurd t (sZ _):∀ m,m<0->Wpl.lacks q (F m)=false),aZ _ _⟩
 case round =>
  obtain ⟨j,H,rfl,A,g⟩:=hrel;by_cases k:j<n
  ·have l:(j:Int)<(n:Int):=oM;obtain ⟨y,z,C⟩:=D j k;have N:wr.cell? ⟨blk,d+j * 3,none⟩=some (O J (F j).s):=(g.cell (p:=⟨blk,d+j * 3,none⟩) o).trans y;have R:wr.cell? ⟨blk,d+j * 3+1,none⟩=some (O J (F j).r):=(g.cell (p:=⟨blk,d+j * 3+1,none⟩) o).trans z;have S:wr.cell? ⟨blk,d+j * 3+2,none⟩=some (O J (F j).c):=(g.cell (p:=⟨blk,d+j * 3+2,none⟩) o).trans C;have L:=λw=>zHz q (F j).s (F j).r (F j).c w
   clear y z C;generalize u:Wpl.lacks q ⟨(F j).s,(F j).r,(F j).c⟩=b at L;have B:hH (Wpl.lacks q (F j)=b):=u;clear u;generalize (F j).s=M at *;generalize (F j).r=K at *;generalize (F j).c=E at *;cases b with
   | true =>
    go_wp2_with (go_at_call 141;refine (L _).mono ?_;rintro e w1 ⟨rfl,f⟩)
    go_ret;exact ⟨_,rfl,by rw [Wpl.anyN_hit k B.out];simp,zAC g f⟩
   | false =>
    go_wp2_with (go_at_call 141;refine (L _).mono ?_;rintro e w1 ⟨rfl,f⟩)
    go_roundw
    case rel =>
     refine ⟨j+1,oM,by go_num,(λm t=>?_:∀ m,m<j+1->Wpl.lacks q (F m)=false),zAC g f⟩;by_cases e:m=j
     ·rw [e];exact B.out
     ·exact A.out m oM
    case measure=>simp [intOf];omega
  ·have l:¬ (j:Int)<(n:Int):=oM;have e:j=n:=oM;subst e;go_wp2;go_ret;exact ⟨_,rfl,by rw [Wpl.anyN_miss A.out];rfl,g⟩
theorem zAV (q:Int) (blk b n cap:Nat) (F:Nat->Wpl.Cl) (w:wW) (i:n<=1000000000000000) (f:blk<w.heap.size) (g:Cells w blk b n F) :
  CR 140 #[U (some ⟨blk,b,none⟩) n cap,.func (.func 141) #[O J q] #[]] w (Y (Wpl.anyN q F n)):=by
 go_enter func140,ntmps140;go_wp2_with fail
 refine (zGu q blk b n cap F _ i f g).mono ?_;rintro e w1 ⟨v,rfl,d,c⟩;have H:=hid d;clear d;go_wp2;go_ret;exact ⟨by rw [<-H.out];rfl,c⟩
theorem zIm (blk d n cap:Nat) (F:Nat->Wpl.Cl) (w:wW) (j:0<n) (I:n<=1000000000000000) (u:n<=cap) (i:cap<=9223372036854775807) (G:blk<w.heap.size) (q:Cells w blk d n F) (g:Wpl.anyN (F 0).s F n=true) :
  CR 107 #[U (some ⟨blk,d,none⟩) n cap] w (uX #[gX #[O J (Wpl.hullV F n).s,O J (Wpl.hullV F n).t,O J (Wpl.hullV F n).l,O J (Wpl.hullV F n).b,O J (Wpl.hullV F n).r],Y (Wpl.hullOk F n)]):=by
 obtain ⟨W,X,x2⟩:=q 0 j;simp only [rZ,xZ] at W X x2;have H:∀ (p:Fn) (first cap:Array vW) (w:wW),(Instr.makeFunc p first cap).run prog w=.ok (.func p first cap) w:=λ_ _ _ _=>rfl
 have C:=λw z D=>zAV (F 0).s blk d n cap F w I z D
 rw [g] at C;have m:hH (Wpl.anyN (F 0).s F n=true):=g;clear g;have E0:hH (Wpl.hullU F 0=⟨(F 0).s,(F 0).r,(F 0).c,(F 0).r,(F 0).c⟩):=(rfl:Wpl.hullU F 0=⟨(F 0).s,(F 0).r,(F 0).c,(F 0).r,(F 0).c⟩)
 have o:hH (Wpl.hullOk F n=false):=by show _=_;unfold Wpl.hullOk;rw [m.out,decide_eq_true (show n ≠ 0 by omega)];rfl
 have y:hH (Wpl.hullV F n=Wpl.nullA):=by show _=_;unfold Wpl.hullV;rw [o.out];rfl
 clear m;generalize (F 0).s=s0 at *;generalize (F 0).r=r0 at *;generalize (F 0).c=c0 at *;have K:((n:Int) == 0)=false:=by simp;omega
 go_enter func107,ntmps107;go_wp2_with fail
 refine (C _ (by simp [go_sem];omega) (q.below G ((aZ _ _).alloc (hZ _) _))).mono ?_;rintro e w1 ⟨rfl,f⟩;have M:=AtL.below f (AtL.new w _ rfl _);have E:bL w w1:=clA
 clear f;obtain ⟨k,N,R,S,T,_,_,_,_,_⟩:=M.five;go_wp2;refine bodyPost_ret (v:=uX #[gX #[O J 0,O J 0,O J 0,O J 0,O J 0],Y false]) (by simp [results,results107,go_sem,k,N,R,S,T]) rfl ⟨by rw [y.out,o.out];rfl,?_⟩;exact zA3 E (hZ _) _ _ _ _ _
theorem zL8 (blk d n cap:Nat) (F:Nat->Wpl.Cl) (w:wW) (I:0<n) (hn:n<=1000000000000000) (aa:n<=cap) (H:cap<=9223372036854775807) (o:blk<w.heap.size) (X:Cells w blk d n F) (D:Wpl.anyN (F 0).s F n=false) (G:cap=1) :
  CR 107 #[U (some ⟨blk,d,none⟩) n cap] w (uX #[gX #[O J (Wpl.hullV F n).s,O J (Wpl.hullV F n).t,O J (Wpl.hullV F n).l,O J (Wpl.hullV F n).b,O J (Wpl.hullV F n).r],Y (Wpl.hullOk F n)]):=by
 subst G;obtain ⟨K,M,N⟩:=X 0 I;simp only [rZ,xZ] at K M N;have ae:∀ (W:Fn) (first cap:Array vW) (w:wW),(Instr.makeFunc W first cap).run prog w=.ok (.func W first cap) w:=λ_ _ _ _=>rfl
 have C:=λw h1 h2=>zAV (F 0).s blk d n 1 F w hn h1 h2
 rw [D] at C;have R:=hid D;clear D;have E0:hH (Wpl.hullU F 0=⟨(F 0).s,(F 0).r,(F 0).c,(F 0).r,(F 0).c⟩):=(rfl:Wpl.hullU F 0=⟨(F 0).s,(F 0).r,(F 0).c,(F 0).r,(F 0).c⟩)
 have S:hH (Wpl.hullOk F n=true):=by show _=_;unfold Wpl.hullOk;rw [R.out,decide_eq_true (show n ≠ 0 by omega)];rfl
 have T:hH (Wpl.hullV F n=Wpl.hullU F (n - 1)):=by show _=_;unfold Wpl.hullV;rw [S.out];rfl
 clear R;generalize (F 0).s=g at *;generalize (F 0).r=r0 at *;generalize (F 0).c=f at *;have af:((n:Int) == 0)=false:=by simp;omega
 go_enter func107,ntmps107;go_wp2_with fail
 refine (C _ (by simp [go_sem];omega) (X.below o ((aZ _ _).alloc (hZ _) _))).mono ?_;rintro e w1 ⟨rfl,q⟩;have pR:AtL w1 w.heap.size [O J 0,O J 0,O J 0,O J 0,O J 0]:=AtL.below q (AtL.new w _ rfl _);have m:bL w w1:=clA
 have y0:w1.cell? ⟨blk,d,none⟩=some (O J g):=(m.cell (p:=⟨blk,d,none⟩) o).trans K;have y1:w1.cell? ⟨blk,d+1,none⟩=some (O J r0):=(m.cell (p:=⟨blk,d+1,none⟩) o).trans M;have y2:w1.cell? ⟨blk,d+2,none⟩=some (O J f):=(m.cell (p:=⟨blk,d+2,none⟩) o).trans N;have ac:blk<w1.heap.size:=vZ o m.size;have ag:=m.size;clear q K M N C;go_wp2_with fail
 have pA:AtL ((w1.alloc (Z #[O J g,O J r0,O J f] 36)).alloc (Z #[O J g,O J r0,O J f,O J r0,O J f] 84)) (w1.heap.size+1) [O J g,O J r0,O J f,O J r0,O J f]:=AtL.new (w1.alloc _) _ (by simp [go_sem]) _;have y:=(pR.alloc (Z #[O J g,O J r0,O J f] 36)).alloc (Z #[O J g,O J r0,O J f,O J r0,O J f] 84);have pB:=zBC (zBC m (Z #[O J g,O J r0,O J f] 36)) (Z #[O J g,O J r0,O J f,O J r0,O J f] 84);clear y0 y1 y2 pR m;generalize hk:w1.heap.size+1=k at *;have ad:w.heap.size<k:=oM;generalize (w1.alloc (Z #[O J g,O J r0,O J f] 36)).alloc (Z #[O J g,O J r0,O J f,O J r0,O J f] 84)=W2 at *;go_loopw [7,38] (λ_ i wr=>∃ (j:Nat) (t l b r:Int),j<=n - 1/\i=O J j/\hH (Wpl.hullU F j=⟨g,t,l,b,r⟩)/\bL w wr/\AtL wr w.heap.size [O J 0,O J 0,O J 0,O J 0,O J 0]/\AtL wr k [O J g,O J t,O J l,O J b,O J r]) (λ_ i _=>n - (intOf i).toNat)
 case atStart=>exact ⟨0,r0,f,r0,f,fZ _,rfl,E0,pB,y,pA⟩
 case round =>
  clear pB y pA;obtain ⟨j,t,l,b,r,hj,rfl,E,qB,qR,qA⟩:=hrel
  ·have ab:¬ (j:Int)<((n - 1:Nat):Int):=oM;have u:j=n - 1:=oM;have z:hH (Wpl.hullV F n=⟨g,t,l,b,r⟩):=by show _=_;rw [T.out,<-u,E.out]
   clear u E T;have sR:=qR.put5 (O J g) (O J t) (O J l) (O J b) (O J r);have sB:=zA3 qB (hZ w.heap.size) (O J g) (O J t) (O J l) (O J b) (O J r);obtain ⟨a0,a1,a2,a3,a4,f0,f1,f2,f3,f4⟩:=qA.five;obtain ⟨z0,z1,z2,z3,z4,g0,g1,g2,g3,g4⟩:=qR.five;go_wp2;obtain ⟨ah,r1,r2,r3,r4,_,_,_,_,_⟩:=sR.five;refine bodyPost_ret (v:=uX #[gX #[O J g,O J t,O J l,O J b,O J r],Y true]) (by simp [results,results107,go_sem,z0,z1,z2,z3,z4]) rfl ⟨by rw [z.out,S.out],?_⟩;exact sB
theorem zI6 (blk d n cap:Nat) (F:Nat->Wpl.Cl) (w:wW) (ah:0<n) (hn:n<=1000000000000000) (ai:n<=cap) (ag:cap<=9223372036854775807) (q:blk<w.heap.size) (hc:Cells w blk d n F) (hA:Wpl.anyN (F 0).s F n=false) (ak:¬ cap=1) :
  CR 107 #[U (some ⟨blk,d,none⟩) n cap] w (uX #[gX #[O J (Wpl.hullV F n).s,O J (Wpl.hullV F n).t,O J (Wpl.hullV F n).l,O J (Wpl.hullV F n).b,O J (Wpl.hullV F n).r],Y (Wpl.hullOk F n)]):=by
 obtain ⟨x0,x1,x2⟩:=hc 0 ah;simp only [rZ,xZ] at x0 x1 x2;have ap:∀ (fn:Fn) (first cap:Array vW) (w:wW),(Instr.makeFunc fn first cap).run prog w=.ok (.func fn first cap) w:=λ_ _ _ _=>rfl
 have C:=λw h1 h2=>zAV (F 0).s blk d n cap F w hn h1 h2
 rw [hA] at C;have HA:=hid hA;clear hA;have E0:hH (Wpl.hullU F 0=⟨(F 0).s,(F 0).r,(F 0).c,(F 0).r,(F 0).c⟩):=(rfl:Wpl.hullU F 0=⟨(F 0).s,(F 0).r,(F 0).c,(F 0).r,(F 0).c⟩)
 have HO:hH (Wpl.hullOk F n=true):=by show _=_;unfold Wpl.hullOk;rw [HA.out,decide_eq_true (show n ≠ 0 by omega)];rfl
 have HV:hH (Wpl.hullV F n=Wpl.hullU F (n - 1)):=by show _=_;unfold Wpl.hullV;rw [HO.out];rfl
 clear HA;generalize (F 0).s=f at *;generalize (F 0).r=r0 at *;generalize (F 0).c=g at *;have aq:((n:Int) == 0)=false:=by simp;omega
 go_enter func107,ntmps107;go_wp2_with fail
 refine (C _ (by simp [go_sem];omega) (hc.below q ((aZ _ _).alloc (hZ _) _))).mono ?_;rintro e w1 ⟨rfl,aa⟩;have pR:AtL w1 w.heap.size [O J 0,O J 0,O J 0,O J 0,O J 0]:=AtL.below aa (AtL.new w _ rfl _);have y:bL w w1:=clA
 have y0:w1.cell? ⟨blk,d,none⟩=some (O J f):=(y.cell (p:=⟨blk,d,none⟩) q).trans x0;have y1:w1.cell? ⟨blk,d+1,none⟩=some (O J r0):=(y.cell (p:=⟨blk,d+1,none⟩) q).trans x1;have y2:w1.cell? ⟨blk,d+2,none⟩=some (O J g):=(y.cell (p:=⟨blk,d+2,none⟩) q).trans x2;have aj:blk<w1.heap.size:=vZ q y.size;have ar:=y.size;clear aa x0 x1 x2 C;go_wp2_with fail
 have pA:AtL ((w1.alloc (Z #[O J f,O J r0,O J g] 36)).alloc (Z #[O J f,O J r0,O J g,O J r0,O J g] 84)) (w1.heap.size+1) [O J f,O J r0,O J g,O J r0,O J g]:=AtL.new (w1.alloc _) _ (by simp [go_sem]) _;have ad:=(pR.alloc (Z #[O J f,O J r0,O J g] 36)).alloc (Z #[O J f,O J r0,O J g,O J r0,O J g] 84);have pB:=zBC (zBC y (Z #[O J f,O J r0,O J g] 36)) (Z #[O J f,O J r0,O J g,O J r0,O J g] 84);clear y0 y1 y2 pR y;generalize hk:w1.heap.size+1=k at *;have an:w.heap.size<k:=oM;generalize (w1.alloc (Z #[O J f,O J r0,O J g] 36)).alloc (Z #[O J f,O J r0,O J g,O J r0,O J g] 84)=W2 at *;go_loopw [7,38] (λ_ i wr=>∃ (j:Nat) (t l b r:Int),j<=n - 1/\i=O J j/\hH (Wpl.hullU F j=⟨f,t,l,b,r⟩)/\bL w wr/\AtL wr w.heap.size [O J 0,O J 0,O J 0,O J 0,O J 0]/\AtL wr k [O J f,O J t,O J l,O J b,O J r]) (λ_ i _=>n - (intOf i).toNat)
 case atStart=>exact ⟨0,r0,g,r0,g,fZ _,rfl,E0,pB,ad,pA⟩
 case round =>
  clear pB ad pA;obtain ⟨j,t,l,b,r,hj,rfl,E,qB,qR,qA⟩:=hrel;by_cases ao:j<n - 1
  ·have ac:(j:Int)<((n - 1:Nat):Int):=oM;obtain ⟨x0,x1,x2⟩:=hc (j+1) oM;have y0:wr.cell? ⟨blk,d+3+j * 3,none⟩=some (O J (F (j+1)).s):=by
    have:=(qB.cell (p:=⟨blk,d+(j+1) * 3,none⟩) q).trans x0;rwa [show d+(j+1) * 3=d+3+j * 3 by omega] at this
   have y1:wr.cell? ⟨blk,d+3+j * 3+1,none⟩=some (O J (F (j+1)).r):=by
    have:=(qB.cell (p:=⟨blk,d+(j+1) * 3+1,none⟩) q).trans x1;rwa [show d+(j+1) * 3+1=d+3+j * 3+1 by omega] at this
   have y2:wr.cell? ⟨blk,d+3+j * 3+2,none⟩=some (O J (F (j+1)).c):=by
    have:=(qB.cell (p:=⟨blk,d+(j+1) * 3+2,none⟩) q).trans x2;rwa [show d+(j+1) * 3+2=d+3+j * 3+2 by omega] at this
   have E1:hH (Wpl.hullU F (j+1)=⟨f,min t (F (j+1)).r,min l (F (j+1)).c,max b (F (j+1)).r,max r (F (j+1)).c⟩):=by show Wpl.grow (Wpl.hullU F j) (F (j+1))=_;rw [E.out];rfl
   clear x0 x1 x2 E;generalize (F (j+1)).s=z at *;generalize (F (j+1)).r=o at *;generalize (F (j+1)).c=m at *;have sA:=qA.alloc (Z #[O J z,O J o,O J m] 36);have sR:=qR.alloc (Z #[O J z,O J o,O J m] 36);have sC:AtL (wr.alloc (Z #[O J z,O J o,O J m] 36)) wr.heap.size [O J z,O J o,O J m]:=AtL.new wr _ rfl _;have sB:=zBC qB (Z #[O J z,O J o,O J m] 36);have am:=qA.lt;go_upto_region 8 with fail
   clear qA qR qB y0 y1 y2;generalize wr.alloc (Z #[O J z,O J o,O J m] 36)=W3 at *;generalize wr.heap.size=kc at *;obtain ⟨I,K,M,N,R,S,T,W,f3,X⟩:=sA.five;obtain ⟨D,G,H,g0,g1,g2⟩:=sC.three;have al:¬ kc=k:=oM;go_cut [] (λu=>bL w u/\AtL u w.heap.size [O J 0,O J 0,O J 0,O J 0,O J 0]/\AtL u kc [O J z,O J o,O J m]/\∃ t' b':Int,hH (t'=min t o)/\hH (b'=max b o)/\AtL u k [O J f,O J t',O J l,O J b',O J r])
   case first =>
    go_region
    go_wp2_with fail
    all_goals go_meet
    all_goals
     clear I K M N R S T W f3 X D G H g0 g1 g2;refine ⟨((sB.setCell (p:=⟨k,1,none⟩) (by show w.heap.size<=k;omega) _).setCell (p:=⟨k,3,none⟩) (by show w.heap.size<=k;omega) _).drew,((sR.far (j:=k) oM 1 _).far (j:=k) oM 3 _).drew,((sC.far (j:=k) oM 1 _).far (j:=k) oM 3 _).drew,_,_,?_,?_,((sA.set 1 _).set 3 _).drew⟩
     ·go_light;show _=_;omega
     ·go_light;show _=_;omega
   case rest =>
   clear sA sR sC sB I K M N R S T W f3 X D G H g0 g1 g2;obtain ⟨tB,tR,tC,t',b',Et,Eb,tA⟩:=hcut;rw [<-Et.out,<-Eb.out] at E1;clear Et Eb;go_upto_region 9 with fail
   obtain ⟨I,K,M,N,R,S,T,W,f3,X⟩:=AtL.five tA;obtain ⟨D,G,H,g0,g1,g2⟩:=tC.three;refine zOA λK9 af=>?_
   go_cut [] (λu=>bL w u/\AtL u w.heap.size [O J 0,O J 0,O J 0,O J 0,O J 0]/\∃ l' r':Int,hH (l'=min l m)/\hH (r'=max r m)/\AtL u k [O J f,O J t',O J l',O J b',O J r'])
   case first =>
    go_region
    go_wp2_with fail
    all_goals go_meet
    all_goals
     clear I K M N R S T W f3 X D G H g0 g1 g2;refine ⟨((tB.setCell (p:=⟨k,2,none⟩) (by show w.heap.size<=k;omega) _).setCell (p:=⟨k,4,none⟩) (by show w.heap.size<=k;omega) _).drew,((tR.far (j:=k) oM 2 _).far (j:=k) oM 4 _).drew,_,_,?_,?_,((AtL.set tA 2 _).set 4 _).drew⟩
     ·go_light;show _=_;omega
     ·go_light;show _=_;omega
   case rest =>
   obtain ⟨vB,vR,l',r',El,Er,vA⟩:=hcut;rw [<-El.out,<-Er.out] at E1;clear El Er;clear tB tR tA tC I K M N R S T W f3 X D G H g0 g1 g2;refine af _ _ ?_;go_wp2_with fail
   go_roundw
   case rel =>
    exact ⟨j+1,t',l',b',r',oM,by go_num,E1,vB,vR,vA⟩
   case measure=>simp [intOf];omega
  ·have ac:¬ (j:Int)<((n - 1:Nat):Int):=oM;have ab:j=n - 1:=oM;have ae:hH (Wpl.hullV F n=⟨f,t,l,b,r⟩):=by show _=_;rw [HV.out,<-ab,E.out]
   clear ab E HV;have sR:=qR.put5 (O J f) (O J t) (O J l) (O J b) (O J r);have sB:=zA3 qB (hZ w.heap.size) (O J f) (O J t) (O J l) (O J b) (O J r);obtain ⟨I,K,M,N,R,S,T,W,f3,X⟩:=qA.five;obtain ⟨D,G,H,z3,z4,g0,g1,g2,g3,g4⟩:=qR.five;go_wp2;obtain ⟨au,r1,r2,r3,r4,_,_,_,_,_⟩:=sR.five;refine bodyPost_ret (v:=uX #[gX #[O J f,O J t,O J l,O J b,O J r],Y true]) (by simp [results,results107,go_sem,D,G,H,z3,z4]) rfl ⟨by rw [ae.out,HO.out],?_⟩;exact sB
theorem zF7 (blk e n cap:Nat) (F:Nat->Wpl.Cl) (w:wW) (f:0<n) (k:n<=1000000000000000) (d:n<=cap) (c:cap<=9223372036854775807) (i:blk<w.heap.size) (j:Cells w blk e n F) :
  CR 107 #[U (some ⟨blk,e,none⟩) n cap] w (uX #[gX #[O J (Wpl.hullV F n).s,O J (Wpl.hullV F n).t,O J (Wpl.hullV F n).l,O J (Wpl.hullV F n).b,O J (Wpl.hullV F n).r],Y (Wpl.hullOk F n)]):=by
 cases g:Wpl.anyN (F 0).s F n with
 | true=>exact zIm blk e n cap F w f k d c i j g
 | false =>
  by_cases m:cap=1
  ·exact zL8 blk e n cap F w f k d c i j g m
  ·exact zI6 blk e n cap F w f k d c i j g m
theorem zBw (s t l b r:Int):(Wpl.rightC s t l && (Wpl.rightC s b r && (decide (t<=b) && decide (l<=r))))=Wpl.rightA s t l b r:=by
 rw [Bool.eq_iff_iff];simp only [mZ,Wpl.rightC_iff,Wpl.rightA_iff,decide_eq_true_eq];omega
theorem zAH (s t l b r:Int) (w:wW) :
  CR 134 #[gX #[O J s,O J t,O J l,O J b,O J r]] w (Y (Wpl.rightA s t l b r)):=by
 have j:=hid (zBw s t l b r);have u:=λw=>Qg s t l w
 have y:=λw=>Qg s b r w
 have F:=λw=>zJB s t l b r w
 have L:=λw=>zKN s t l b r w
 generalize Wpl.rightC s t l=D at *;generalize Wpl.rightC s b r=E at *;generalize Wpl.rightA s t l b r=A at *;have pA:=AtL.new0 w 84 [O J s,O J t,O J l,O J b,O J r];have c:=zBC (aZ _ w) (Z #[O J s,O J t,O J l,O J b,O J r] 84);go_enter func134,ntmps134;go_upto_region 1 with fail
 generalize w.alloc (Z #[O J s,O J t,O J l,O J b,O J r] 84)=G at *;obtain ⟨k,m,o,p,q,_,_,_,_,_⟩:=pA.five;go_wp2_with fail
 refine (F _).mono ?_;rintro e w1 ⟨rfl,d⟩;replace pA:=AtL.below d pA
 replace c:=zAC c d
 clear k m o p q d F;go_wp2_with fail
 refine (u _).mono ?_;rintro e H ⟨rfl,f⟩;replace pA:=AtL.below f pA
 replace c:=zAC c f
 clear f u;obtain ⟨k,m,o,p,q,_,_,_,_,_⟩:=pA.five;cases D with
 | false =>
  go_wp2;go_ret;exact ⟨by rw [<-j.out];rfl,c⟩
 | true =>
  go_wp2_with fail
  refine (L _).mono ?_;rintro e I ⟨rfl,g⟩;replace pA:=AtL.below g pA
  replace c:=zAC c g
  clear k m o p q g L;go_wp2_with fail
  refine (y _).mono ?_;rintro e K ⟨rfl,i⟩;replace pA:=AtL.below i pA
  replace c:=zAC c i
  clear i y;obtain ⟨k,m,o,p,q,_,_,_,_,_⟩:=pA.five;cases E with
  | false =>
   go_wp2;go_ret;exact ⟨by rw [<-j.out];rfl,c⟩
  | true =>
   by_cases z:t<=b
   ·by_cases C:l<=r
    ·go_wp2;go_ret;exact ⟨by rw [<-j.out];simp [z,C],c⟩
    ·go_wp2;go_ret;exact ⟨by rw [<-j.out];simp [z],c⟩
   ·go_wp2;go_ret;exact ⟨by rw [<-j.out];simp;omega,c⟩
def RtN (x:Wt.Nd):Prop:=Wt.inR x.a.r x.a.c=true/\Wt.inR x.b.r x.b.c=true
theorem zCn (h:Wt.right x=true) (b:x.k=3):RtN x:=by
 unfold Wt.right at h;rw [if_neg oM,if_neg oM,if_pos b] at h;simp only [mZ,Wt.rfOk] at h;exact ⟨h.1.1.1.1,h.1.1.2.1⟩
theorem zIH (h:RtN x):Wpl.hullV (λi=>if i=0 then ⟨0,x.a.r,x.a.c⟩ else ⟨0,x.b.r,x.b.c⟩) 2=Jd x:=by
 obtain ⟨d,e⟩:=h;simp only [Wt.inR,mZ,decide_eq_true_eq] at d e;have f:Wpl.hullOk (λi=>if i=0 then ⟨0,x.a.r,x.a.c⟩ else ⟨0,x.b.r,x.b.c⟩) 2=true:=by
  simp [Wpl.hullOk,Wpl.anyN,Wpl.lacks,Wpl.rightC,Wpl.inB];omega
 unfold Wpl.hullV;rw [f,if_pos rfl];show Wpl.grow (Wpl.oneA ⟨0,x.a.r,x.a.c⟩) ⟨0,x.b.r,x.b.c⟩=Jd x
 simp [Wpl.grow,Wpl.oneA,Jd]
theorem zEQ (h:RtN x):SmA (Jd x):=by
 obtain ⟨b,c⟩:=h;simp only [Wt.inR,mZ,decide_eq_true_eq] at b c;simp only [SmA,Jd];omega
theorem zCu (x:Wt.Nd) (w:wW) (M:RtN x):CR 204 #[gX (QN x).toArray] w (gX (ar5 (Jd x)).toArray):=by
 obtain ⟨r,l⟩:=xV (Jd x)
 have H:=zIH M;rw [l] at H;rw [l];clear l;have I:=hid H;have p:=QJ (QJ (aZ _ w) (Z (QN x).toArray 98)) (Z #[O J 0,O J 0,O J 0,O J 0,O J 0] 84);have y:=(AtL.new0 w 98 (QN x)).alloc (Z #[O J 0,O J 0,O J 0,O J 0,O J 0] 84);have pA:=AtL.new1 w (Z (QN x).toArray 98) 84 [O J 0,O J 0,O J 0,O J 0,O J 0];have C:=y.2.1 11 (O J x.a.r) rfl;have D:=y.2.1 12 (O J x.a.c) rfl;have E:=y.2.1 16 (O J x.b.r) rfl;have F:=y.2.1 17 (O J x.b.c) rfl;clear y M H;go_enter func204,ntmps204;go_upto_region 1 with fail
 generalize ((w.alloc (Z (QN x).toArray 98)).alloc (Z [O J 0,O J 0,O J 0,O J 0,O J 0].toArray 84))=W at *;have d:=AtL.new0 W 36 [O J 0,O J x.a.r,O J x.a.c,O J 0,O J x.b.r,O J x.b.c];have k:=QJ (aZ _ W) (Z #[O J 0,O J x.a.r,O J x.a.c,O J 0,O J x.b.r,O J x.b.c] 36);have K:Cells (W.alloc (Z #[O J 0,O J x.a.r,O J x.a.c,O J 0,O J x.b.r,O J x.b.c] 36)) W.heap.size 0 2 (λi=>if i=0 then ⟨0,x.a.r,x.a.c⟩ else ⟨0,x.b.r,x.b.c⟩):=λj hj=>by
  rcases (show j=0 \/ j=1 by omega) with rfl | rfl
  ·exact ⟨d.2.1 0 _ rfl,d.2.1 1 _ rfl,d.2.1 2 _ rfl⟩
  ·exact ⟨d.2.1 3 _ rfl,d.2.1 4 _ rfl,d.2.1 5 _ rfl⟩
 have z:=zF7 W.heap.size 0 2 2 _ _ oM oM oM oM d.lt K;rw [I.out] at z;generalize Wpl.hullOk (λi=>if i=0 then (⟨0,x.a.r,x.a.c⟩:Wpl.Cl) else ⟨0,x.b.r,x.b.c⟩) 2=ok at z;have m:=QA p k;have q:=AtL.below k pA;clear K d k p pA I;go_wp2_with fail
 refine z.mono ?_;rintro e w1 ⟨rfl,f⟩;have o:=QA m f;have t:=AtL.below f q;have g:=QJ (aZ _ w1) (Z (ar5 r).toArray 84);have T:=AtL.new0 w1 84 (ar5 r);have G:=QA o g;have u:=AtL.below g t;clear C D E F z f g t q m o;go_upto_region 2 with fail
 generalize (w1.alloc (Z (ar5 r).toArray 84))=X at *;obtain ⟨R,b1,b2,b3,S,k0,k1,k2,k3,k4⟩:=u.five;obtain ⟨r0,r1,r2,r3,r4,_,_,_,_,_⟩:=T.five;go_wp2;have N:=u.lt;refine bodyPost_ret (v:=gX (ar5 r).toArray) (by simp [results,results204,go_sem,R,b1,b2,b3,S]) rfl ⟨rfl,(clB G)⟩
structure ApS (B:Nat) (w:wW) (va vb:vW) (LA LB:List (Wt.Nd × vW)):Prop where
 a:OwnP w B va LA
 b:OwnP w B vb LB
 ne:∀ j,va.ownBlock=some j->¬ vb.ownBlock=some j
theorem ApS.below (h:ApS B w va vb LA LB) (c:bL w w'):ApS B w' va vb LA LB:=⟨h.a.below c,h.b.below c,h.ne⟩
theorem ApS.symm (h:ApS B w va vb LA LB):ApS B w vb va LB LA:=⟨h.b,h.a,λj e f=>h.ne j f e⟩
theorem ApS.app {c:vW} {d:List (Wt.Nd × vW)} (h:ApS B w va vb LA LB) (own:OwnP w1 B c d) (i:w.grownBy w1 va.ownBlock) (hv:c.ownBlock=va.ownBlock \/ c.ownBlock=some w.heap.size):ApS B w1 c vb d LB:=by
 have g:Fr va.ownBlock.toList w w1:=Fr.of_grown i (λj e=>by simp [e]);refine ⟨own,Q2 g h.b (λj e k=>h.ne j (by simpa using k) e),λj e f=>?_⟩;rcases hv with hv | hv
 ·exact h.ne j (by rw [<-hv];exact e) f
 ·rw [hv] at e;cases e
  have:=(QM h.b f).2;omega
theorem ApS.fr (h:ApS B w va vb LA LB) (d:w.grownBy w1 va.ownBlock) {b:wW} (c:bL b w) (f:b.heap.size<=B):bL b w1 :=
 zB5 c (Fr.of_grown (S:=va.ownBlock.toList) d (λj e=>by simp [e])) (λj hj=>by have:=(QM h.a (show va.ownBlock=some j by simpa using hj)).1;omega)
def ApP (L:List (Wt.Nd × vW)) (w:wW) (e:Ending) (w':wW):Prop:=(∃ va vb,e=rX (uX #[va,vb])/\OwnP w' w.heap.size va (L.filter λp=>isA p.1)/\OwnP w' w.heap.size vb (L.filter λp=>!isA p.1))/\bL w w'
theorem zDn (L:List (Wt.Nd × vW)) (av:Option dW) (m cap:Nat) (w:wW) (hm:m=L.length) (hl:L.length<=30) (ac:∀ q ∈ L,∃ a b c,q.2=U a b c) (hR:RdQ w av L):Calls prog 184 #[U av m cap] w (ApP L w):=by
 unfold ApP;have HM:hH (m=L.length/\L.length<=30):=⟨hm,hl⟩
 have ae:=hid ac;have HR:=hid hR;clear hm hl ac hR;go_enter func184,ntmps184;go_wp2_with fail
 go_loopg [2,3,5,8] m (λgk u2 u3 u5 x wr=>∃ (i:Nat) (va vb:vW),va=u2/\vb=u3/\x=O J (i:Int)/\gk=m - i/\i<=m/\hH (ApS w.heap.size wr va vb ((L.take i).filter λp=>isA p.1) ((L.take i).filter λp=>!isA p.1))/\hH (bL w wr))
 case atStart=>exact ⟨0,_,_,rfl,rfl,rfl,rfl,fZ _,⟨OwnP.nil _ _,OwnP.nil _ _,λj e=>by cases e⟩,aZ _ _⟩
 case round =>
  obtain ⟨i,va,vb,rfl,rfl,rfl,hg,hi,HA,HB⟩:=hrel;by_cases ab:i<m
  ·have ag:(i:Int)<(m:Int):=oM;have ai:(0:Int)<=(i:Int):=oM;have aj:J.wrap ((i:Int)+1)=(i:Int)+1:=by have:=HM.out;rw [cZ];omega
   have K:i<L.length:=by have:=HM.out;omega
   obtain ⟨bb,ah,rfl,hr⟩:=(HR.out.below HB.out) i K;have X:=ae.out L[i] (bZ K);have HT:hH (L.take (i+1)=L.take i++[L[i]]):=(List.take_succ_eq_append_getElem K:_=_)
   have aa:=hid ((λf=>by
    have h1:=tZ f (L.take i);have h2:(L.take i).length<=L.length:=by rw [List.length_take];omega
    have:=HM.out.2;omega:∀ (f:Wt.Nd × vW->Bool),((L.take i).filter f).length<=1000))
   obtain ⟨x,hx⟩:=xV (L[i])
   rw [hx] at hr X HT;obtain ⟨x,sl⟩:=x;simp only at hr X;obtain ⟨d,g,l,rfl⟩:=X;have IA:=λw=>zAR x (U d g l) w
   clear hx K;have ad:World.there (wr.alloc (Z zeros21 159)) wr.heap.size 0 (QP x (U d g l)).toArray.size:=(AtL.new0 wr _ _:AtL (wr.alloc (Z zeros21 159)) wr.heap.size zeros21.toList).there;have I:hH (AtL ((wr.alloc (Z zeros21 159)).setCells wr.heap.size 0 (QP x (U d g l))) wr.heap.size (QP x (U d g l))):=(AtL.new0 wr _ _:AtL (wr.alloc (Z zeros21 159)) wr.heap.size zeros21.toList).setAll rfl;have T:hH (bL wr ((wr.alloc (Z zeros21 159)).setCells wr.heap.size 0 (QP x (U d g l)))):=Qm (QJ (aZ _ wr) _) (hZ _) _ 0;go_upto_region 4 with (first | (refine QB (by rfl) 159 (mX 10) rfl bb (ah+i * 21) rfl (QP x (U d g l)) _ hr underlying159 rfl kR ?_) | ((with_reducible refine wpList_store_mid ?_ 159 (mX 5) (mX 11) ?_ wr.heap.size 0 (QP x (U d g l)).toArray ?_ ?_ ?_ ?_ ?_ ?_);rfl;rfl;rfl;rfl;exact ad;kernel_rfl;exact Qt _ _ _ _))
   have H:=hid (QA HB.out T.out);have C:=HA.out.below T.out;have G:hH (ApS w.heap.size ((wr.alloc (Z zeros21 159)).setCells wr.heap.size 0 (QP x (U d g l))) va vb ((L.take i).filter λp=>isA p.1) ((L.take i).filter λp=>!isA p.1)):=C;clear ad hr T C HA HB;generalize ((wr.alloc (Z zeros21 159)).setCells wr.heap.size 0 (QP x (U d g l)))=W2 at *;obtain ⟨ib,W⟩:∃ k,wr.heap.size=k:=⟨_,rfl⟩
   rw [W] at I;simp only [W];clear W;have rI:=I.out.range;have z:=IA W2;clear IA;cases hb:isA x with
   | true =>
    rw [hb] at z;go_wp2_with (first | (refine QB (by rfl) 159 (mX 5) rfl ib 0 rfl (QP x (U d g l)) _ rI underlying159 rfl kR ?_))
    refine z.mono ?_;rintro e M ⟨rfl,t⟩;have F:=QG t rI;have u:=QA t (QJ (aZ _ M) (Z (QP x (U d g l)).toArray 159));have r:=hid (G.out.below u);have D:=hid (QA H.out u);have R:=hid ((AtL.new0 M 159 (QP x (U d g l))).range);clear t u rI G H I z;go_wp2_with (first
     | (refine QB (by rfl) 159 (mX 5) rfl ib 0 rfl (QP x (U d g l)) _ F underlying159 rfl kR ?_)
     | (refine zA8 rfl (mX 15) rfl x d g l rfl ?_;clear F)
     | (
       refine zAa rfl (mX 14) (mX 16) rfl (M.alloc (Z (QP x (U d g l)).toArray 159)) w.heap.size D.out.size va ((L.take i).filter λp=>isA p.1) rfl r.out.a M.heap.size x d g l rfl R.out (λ_=>aa.out _) ?_;intro v7 w7 o y E;have N:hH (ApS w.heap.size w7 v7 vb ((L.take (i+1)).filter λp=>isA p.1) ((L.take (i+1)).filter λp=>!isA p.1)):=by
        show ApS _ _ _ _ _ _
        rw [HT.out,kZ,kZ,show [(x,U d g l)].filter (λp=>isA p.1)=[(x,U d g l)] from by simp [hb],show [(x,U d g l)].filter (λp=>!isA p.1)=[] from by simp [hb],zZ];exact r.out.app o y E
       have S:hH (bL w w7):=r.out.fr y D.out (hZ _);clear o y E))
    go_roundg (m - (i+1))
    case rel=>exact ⟨i+1,_,_,rfl,rfl,sM,rfl,ab,N,S⟩
    case measure=>omega
   | false =>
    rw [hb] at z;go_wp2_with (first | (refine QB (by rfl) 159 (mX 5) rfl ib 0 rfl (QP x (U d g l)) _ rI underlying159 rfl kR ?_))
    refine z.mono ?_;rintro e M ⟨rfl,t⟩;have F:=QG t rI;have u:=QA t (QJ (aZ _ M) (Z (QP x (U d g l)).toArray 159));have r:=hid (G.out.below u);have D:=hid (QA H.out u);have R:=hid ((AtL.new0 M 159 (QP x (U d g l))).range);clear t u rI G H I z;go_wp2_with (first
     | (refine QB (by rfl) 159 (mX 5) rfl ib 0 rfl (QP x (U d g l)) _ F underlying159 rfl kR ?_)
     | (refine zA8 rfl (mX 19) rfl x d g l rfl ?_;clear F)
     | (
       refine zAa rfl (mX 18) (mX 20) rfl (M.alloc (Z (QP x (U d g l)).toArray 159)) w.heap.size D.out.size vb ((L.take i).filter λp=>!isA p.1) rfl r.out.b M.heap.size x d g l rfl R.out (λ_=>aa.out _) ?_;intro v7 w7 o y E;have N:hH (ApS w.heap.size w7 va v7 ((L.take (i+1)).filter λp=>isA p.1) ((L.take (i+1)).filter λp=>!isA p.1)):=by
        show ApS _ _ _ _ _ _
        rw [HT.out,kZ,kZ,show [(x,U d g l)].filter (λp=>isA p.1)=[] from by simp [hb],show [(x,U d g l)].filter (λp=>!isA p.1)=[(x,U d g l)] from by simp [hb],zZ];exact (r.out.symm.app o y E).symm
       have S:hH (bL w w7):=r.out.symm.fr y D.out (hZ _);clear o y E))
    go_roundg (m - (i+1))
    case rel=>exact ⟨i+1,_,_,rfl,rfl,sM,rfl,ab,N,S⟩
    case measure=>omega
  ·have ag:¬ (i:Int)<(m:Int):=oM;have C:hH (ApS w.heap.size wr va vb (L.filter λp=>isA p.1) (L.filter λp=>!isA p.1)):=by
    show ApS _ _ _ _ _ _
    have af:i=L.length:=by have:=HM.out;omega
    have:=HA.out;rw [af,List.take_length] at this;exact this
   clear HA;go_wp2;go_ret2
   exact ⟨⟨_,_,rfl,C.out.a,C.out.b⟩,HB.out⟩
theorem zME (L:List (Wt.Nd × vW)):J4 (L.map (·.1))=(L.filter λp=>isA p.1).map (·.1):=by
 unfold J4;rw [aY];rfl
theorem zJ2 (f:Wc.pairs id=true) {A:List (Wt.Nd × vW)} (e:(L.filter λp=>isA p.1)=A) (d:0<A.length):J3 id (L.map (·.1))=shp (Jd (A[0]).1) (Jd (A[A.length - 1]).1):=by
 unfold J3;rw [if_pos f,zME,e];cases A with
 | nil=>cases d
 | cons a r =>
  have b:(((a::r).map (·.1)).headD ⟨0,v0I,0,⟨#[]⟩,0,Wt.r0,Wt.r0⟩)=a.1:=rfl;have c:(((a::r).map (·.1)).getLastD ⟨0,v0I,0,⟨#[]⟩,0,Wt.r0,Wt.r0⟩)=((a::r)[(a::r).length - 1]).1:=by
   rw [List.getLastD_eq_getLast?,List.getLast?_eq_getElem?,dZ,List.getElem?_map,eZ sM];rfl
  simp only [b,c];rfl
theorem zG7 (id:Int) (L:List (Wt.Nd × vW)) (av:Option dW) (m cap:Nat) (w:wW) (hm:m=L.length) (hl:L.length<=30) (M:∀ q ∈ L,∃ a b c,q.2=U a b c) (hR:RdQ w av L) (H:Wc.pairs id=true->0<(L.filter λp=>isA p.1).length) (I:∀ q ∈ L,isA q.1=true->RtN q.1) :
  CR 181 #[O J id,U av m cap] w (Y (J3 id (L.map (·.1)))):=by
 have PR:=zA4 id w;cases T:Wc.pairs id with
 | false =>
  have u:J3 id (L.map (·.1))=true:=by unfold J3;rw [T];rfl
  rw [u];rw [T] at PR;clear hm hl M hR H I u;go_enter func181,ntmps181;go_wp2_with fail
  refine PR.mono ?_;rintro e w1 ⟨rfl,rfl⟩;go_wp2;go_ret;exact ⟨rfl,aZ _ _⟩
 | true =>
  rw [T] at PR;have AP:=zDn L av m cap w hm hl M hR;obtain ⟨A,R⟩:=xV (L.filter λp=>isA p.1)
  have N:=H T;rw [R] at N;have HQ:=zJ2 T R N;unfold ApP at AP;rw [R] at AP;have f:∀ q ∈ A,RtN q.1:=λq u=>by
   rw [<-R] at u;exact I q (List.mem_filter.1 u).1 (List.mem_filter.1 u).2
  have ae:hH (A.length<=30):=by
   show A.length<=30
   have:=tZ (λp:Wt.Nd × vW=>isA p.1) L;rw [R] at this;omega
  have RA:=λw=>zCu (A[0]).1 w (f _ (bZ N))
  have RB:=λw=>zCu (A[A.length - 1]).1 w (f _ (bZ oM))
  have SS:=λw=>zAc (Jd (A[0]).1) (Jd (A[A.length - 1]).1) w (zEQ (f _ (bZ N))) (zEQ (f _ (bZ oM)))
  rw [HQ];clear HQ hm hl M hR H I f T;obtain ⟨z,r⟩:∃ x,(A[0]).1=x:=⟨_,rfl⟩
  obtain ⟨C,t⟩:∃ x,(A[A.length - 1]).1=x:=⟨_,rfl⟩
  rw [r] at RA;rw [t] at RB;rw [r,t] at SS;rw [r,t];obtain ⟨q,u⟩:=xV (shp (Jd z) (Jd C))
  rw [u] at SS;rw [u];have HQ:hH (q=q):=rfl;clear u;generalize Jd z=an at *;generalize Jd C=ao at *;have X:hH (∀ h:0<A.length,(A[0]).1=z):=(λ_=>r:∀ h:0<A.length,(A[0]).1=z)
  have aa:hH (∀ h:A.length - 1<A.length,(A[A.length - 1]).1=C):=(λ_=>t:∀ h:A.length - 1<A.length,(A[A.length - 1]).1=C)
  have D:=hid N;clear r t N;go_enter func181,ntmps181;go_wp2_with fail
  refine PR.mono ?_;rintro e w0 ⟨rfl,rfl⟩;go_wp2_with fail
  refine AP.mono ?_;rintro e w1 ⟨⟨va,vb,rfl,ad,ag⟩,ab⟩;rcases OwnP.cases ad with ⟨_,e0⟩ | ⟨g,cp,rfl,ah,ai,hr⟩
  ·have:=D.out;rw [e0] at this;cases this
  have j:w1.rangeAt g 0 (QN z):=by
   have:=zBB (hr 0 D.out);rw [X.out D.out,rZ] at this;exact this
  have l:w1.rangeAt g ((A.length - 1) * 21) (QN C):=by
   have ac:A.length - 1<A.length:=by have:=D.out;omega
   have:=zBB (hr _ ac);rw [aa.out ac] at this;exact this
  have y:=ab;clear hr ad ag ab AP PR X aa R;have aj:(0:Int)<(A.length:Int):=by have:=D.out;omega
  have ak:J.wrap ((A.length:Int) - 1)=((A.length - 1:Nat):Int):=by have:=D.out;have:=ae.out;rw [cZ];omega
  generalize A.length=k at *;have al:((k - 1:Nat):Int)<(k:Int):=oM;have am:(0:Int)<=((k - 1:Nat):Int):=oM;go_upto_region 4 with fail
  replace y:=y.drew
  replace j:w1.drew.rangeAt g 0 (QN z):=j
  replace l:w1.drew.rangeAt g ((k - 1) * 21) (QN C):=l
  refine wp_region_held_drew (S:=λW=>W.rangeAt g 0 (QN z)/\W.rangeAt g ((k - 1) * 21) (QN C)) kR ⟨j,l⟩ (λd=>?_);generalize w1.drew=WD at *;refine tkQ 0 ?_
  refine wpAnyH_take (i:=1) (v:=?_) (atQ rfl) kR kR kR (λ_ _ _ h=>h) (Or.inl ⟨by rfl,?_⟩) (by assumption) ?_;rotate_left
  ·intro w af
   (try dsimp only at af)
   go_simp
   rw [if_pos (by have:=D.out;omega)];try with_reducible rfl
  try simp only [Act.put,lA,lZ,lS]
  refine tkQ 2 ?_
  refine wpAnyH_take (i:=3) (v:=gX (QN z).toArray) (atQ rfl) kR kR kR (λ_ _ _ h=>h) (yieldsIf_load_mid (by rfl) 98 (mX 17) rfl (g) (0) rfl (QN z) _ (λ_ h=>h.1) underlying98 rfl kR) (by assumption) ?_;try simp only [Act.put,lA,lZ,lS]
  refine tkQ 5 ?_
  refine tkQ 6 ?_
  refine tkQ 7 ?_
  refine tkQ 8 ?_
  refine tkQ 9 ?_
  refine tkQ 10 ?_
  refine wpAnyH_take (i:=11) (v:=gX (QN C).toArray) (atQ rfl) kR kR kR (λ_ _ _ h=>h) (yieldsIf_load_mid (by rfl) 98 (mX 25) rfl (g) ((k - 1) * 21) rfl (QN C) _ (λ_ h=>h.2) underlying98 rfl kR) (by assumption) ?_;try simp only [Act.put,lA,lZ,lS]
  refine rdQ 4 (λK o=>?_);go_simp
  refine (RA _).mono ?_;rintro e w2 ⟨rfl,E⟩;go_wp2_with fail
  replace j:=QG E j
  replace l:=QG E l
  replace y:=QA y E
  refine hkQ o ⟨j,l⟩ (λd=>?_);clear o K
  refine rdQ 12 (λK o=>?_);go_simp
  refine (RB _).mono ?_;rintro e w3 ⟨rfl,F⟩;go_wp2_with fail
  replace j:=QG F j
  replace l:=QG F l
  replace y:=QA y F
  refine hkQ o ⟨j,l⟩ (λd=>?_);clear o K
  refine rdQ 13 (λK o=>?_);go_simp
  refine (SS _).mono ?_;rintro e w4 ⟨rfl,G⟩;go_wp2_with fail
  replace j:=QG G j
  replace l:=QG G l
  replace y:=QA y G
  refine hkQ o ⟨j,l⟩ (λd=>?_);clear o K
  refine rdQ 14 (λK o=>?_);go_simp
  refine hkQ o ⟨j,l⟩ (λd=>?_);clear o K
  refine wpAnyH_done kR ?_ _;clear d j l;go_wp2;go_ret;exact ⟨rfl,y⟩
theorem zGT:(List.range 64).all (λk=>let s:=(QS (k:Nat)).p.size;decide (0<s) && decide (s<=10))=true:=kR
theorem zJD (s:ByteArray):0<(QS (JA s:Nat)).p.size/\(QS (JA s:Nat)).p.size<=10:=by
 have:=List.all_eq_true.1 zGT (JA s) (List.mem_range.2 (by have:=zHk s;omega));simpa using this
theorem zG5 {ks:List Wt.Nd} (f:Wc.pairs id=true) (e:(QS id).l<=(ks.length:Int)) (b:JD (QS id).p.data.toList ks 0=true):0<(ks.filter isA).length:=by
 have hid:id=22 \/ id=23 \/ id=24:=by
  simp only [Wc.pairs,Bool.or_eq_true,beq_iff_eq] at f;exact f
 have i:∃ x ∈ ks,isA x=true:=by
  rcases hid with rfl | rfl | rfl
  ·have d:=e;match ks,b with
   | x::r,b =>
    refine ⟨x,oZ ..,?_⟩;cases c:isA x with
    | true=>rfl
    | false =>
     have:JD (QS 22).p.data.toList (x::r) 0=false:=by
      simp only [JD,c];rfl
     rw [this] at b;cases b
  ·have d:=e;match ks,b with
   | x::y::r,b =>
    refine ⟨y,List.mem_cons_of_mem _ (oZ ..),?_⟩;cases j:isA y with
    | true=>rfl
    | false =>
     have:JD (QS 23).p.data.toList (x::y::r) 0=false:=by
      cases c:isA x with
      | true =>
       simp only [JD,c];rfl
      | false =>
       have g:JD (QS 23).p.data.toList (x::y::r) 0=JD (QS 23).p.data.toList (y::r) 1:=by
        simp only [JD,c];rfl
       rw [g];simp only [JD,j];rfl
     rw [this] at b;cases b
  ·have d:=e;match ks,b with
   | x::r,b =>
    refine ⟨x,oZ ..,?_⟩;cases c:isA x with
    | true=>rfl
    | false =>
     have:JD (QS 24).p.data.toList (x::r) 0=false:=by
      simp only [JD,c];rfl
     rw [this] at b;cases b
 obtain ⟨x,c,hi⟩:=i;exact List.length_pos_of_mem (List.mem_filter.2 ⟨c,hi⟩)
theorem zKu (x:Wt.Nd) (L:List (Wt.Nd × vW)) (av:Option dW) (m cap:Nat) (w:wW) (hN:NmAt w) (hm:m=L.length) (hl:L.length<=30) (X:x.ar=(L.length:Int)) (K:∀ q ∈ L,∃ a b c,q.2=U a b c) (hR:RdQ w av L) (ac:∀ q ∈ L,isA q.1=true->RtN q.1) :
  CR 152 #[gX (QP x (U av m cap)).toArray] w (O J (Vd x (L.map (·.1)))):=by
 have ab:=zJD x.nm;have r:=QJ (aZ _ w) (Z (QP x (U av m cap)).toArray 159);have pP:=AtL.new0 w 159 (QP x (U av m cap));have OF:=zF3 x.nm _ (hN.below r);have H:hH (∀ (a1 a2:Int) (a3:ByteArray) (a4 a5:Int) (i:wW),RdQ i av L->CR 180 #[gX (sg6 a1 a2 a3 a4 a5 (QS (JA x.nm:Nat)).p).toArray,U av m cap] i (Y (JD (QS (JA x.nm:Nat)).p.data.toList (L.map (·.1)) 0))):=λa1 a2 a3 a4 a5 i h=>zIl a1 a2 a3 a4 a5 _ L av m cap i ab hm hl K h
 have S:hH ((QS (JA x.nm:Nat)).l<=x.ar->JD (QS (JA x.nm:Nat)).p.data.toList (L.map (·.1)) 0=true->∀ (i:wW),RdQ i av L->CR 181 #[O J (JA x.nm:Nat),U av m cap] i (Y (J3 (JA x.nm:Nat) (L.map (·.1))))):=λM N i h=>zG7 _ L av m cap i hm hl K h (λhp=>by
  have:=zG5 (ks:=L.map (·.1)) hp (by rw [dZ,<-X];exact M) N;rw [aY,dZ] at this;exact this) ac
 have R:=hid (hR.below r);unfold Vd;simp only;generalize L.map (·.1)=ks at *;have c8:=pP.2.1 8 (V x.nm) rfl;clear ab hN hm hl K hR ac X;unfold VA at OF;generalize J3 (JA x.nm:Nat) ks=qs at *;generalize JD (QS (JA x.nm:Nat)).p.data.toList ks 0=qt at *;generalize af:VV (JA x.nm:Nat)=y at *;generalize QS (JA x.nm:Nat)=d at *;generalize JM (JA x.nm:Nat)=kb at *;generalize hid:((JA x.nm:Nat):Int)=id at *;clear af hid;obtain ⟨q,g⟩:∃ q:Int,(if kb=false then 80 else if x.ar<d.l \/ d.m<x.ar then 81 else if qt=false then 82 else if qs=false then 83 else 0)=q:=⟨_,rfl⟩
 rw [g];have E:=hid g;clear g;go_enter func152,ntmps152;go_upto_region 1 with fail
 generalize (w.alloc (Z (QP x (U av m cap)).toArray 159))=W at *;go_wp2_with fail
 refine OF.mono ?_;rintro e w1 ⟨rfl,t⟩;have F:=hid (R.out.below t);have D:=hid (AtL.below t pP);have C:=hid (QA r t);clear OF c8 pP r t R;cases kb with
 | false =>
  have g:q=80:=by rw [<-E.out];rfl
  subst g;clear E H S F D;simp only [jZ,if_false,zero6];have hB:=C.out;go_wp2;go_ret;exact ⟨rfl,(clB hB)⟩
 | true =>
  simp only [if_true];have u:=QJ (aZ _ w1) (Z (sg6 id d.c ⟨y.toArray⟩ d.l d.m d.p).toArray 243);have pS:=AtL.new0 w1 243 (sg6 id d.c ⟨y.toArray⟩ d.l d.m d.p);have G:=hid (F.out.below u);have o:=AtL.below u D.out;have f:=QA C.out u;have z:hH (∀ i:wW,RdQ i av L->CR 180 #[gX (sg6 id d.c ⟨y.toArray⟩ d.l d.m d.p).toArray,U av m cap] i (Y qt)):=λi h=>H.out _ _ _ _ _ i h
  clear u F D C H;generalize (⟨y.toArray⟩:ByteArray)=nv at *;go_upto_region 2 with fail
  generalize (w1.alloc (Z (sg6 id d.c nv d.l d.m d.p).toArray 243))=W2 at *;have p9:=o.2.1 9 (O J x.ar) rfl;have ad:=o.2.1 20 (U av m cap) rfl;obtain ⟨sb,I⟩:∃ k,w1.heap.size=k:=⟨_,rfl⟩
  rw [I] at pS;simp only [I];clear I;obtain ⟨b0,b1,b2,b3,b4,b5,k0,k1,k2,k3,k4,k5⟩:=at6 pS;by_cases M:x.ar<d.l
  ·have g:q=81:=by rw [<-E.out];simp [M]
   subst g;go_wp2;go_ret;exact ⟨rfl,f⟩
  by_cases N:d.m<x.ar
  ·have g:q=81:=by rw [<-E.out];simp [N]
   subst g;go_wp2;go_ret;exact ⟨rfl,f⟩
  have T:=z.out W2 G.out;go_wp2_with fail
  refine T.mono ?_;rintro e w3 ⟨rfl,j⟩;have ae:=hid (G.out.below j);replace o:=AtL.below j o
  replace pS:=AtL.below j pS
  replace f:=QA f j
  clear T j z G p9 ad b0 b1 b2 b3 b4 b5 k0 k1 k2 k3 k4 k5;have ad:=o.2.1 20 (U av m cap) rfl;have b0:=pS.2.1 0 (O J id) rfl;cases qt with
  | false =>
   have g:q=82:=by rw [<-E.out];simp [M,N]
   subst g;go_wp2;go_ret;exact ⟨rfl,f⟩
  | true =>
   have SS:=S.out oM rfl w3 ae.out;go_wp2_with fail
   refine SS.mono ?_;rintro e w4 ⟨rfl,aa⟩;replace f:=QA f aa
   clear aa SS;cases qs with
   | false =>
    have g:q=83:=by rw [<-E.out];simp [M,N]
    subst g;go_wp2;go_ret;exact ⟨rfl,f⟩
   | true =>
    have g:q=0:=by rw [<-E.out];simp [M,N]
    subst g;go_wp2;go_ret;exact ⟨rfl,f⟩
theorem zKa (own:Int) (nm:List ByteArray) (c:Option dW) (g b:Nat) (x:Wt.Nd) (L:List (Wt.Nd × vW)) (av:Option dW) (m cap:Nat) (w:wW) (S:NmAt w) (T:RdS w c nm) (H:g=nm.length) (G:nm.length<=16) (hm:m=L.length) (X:L.length<=30) (M:RdQ w av L) (R:x.k=6->∀ W:wW,NmAt W->RdQ W av L->CR 152 #[gX (QP x (U av m cap)).toArray] W (O J (Vd x (L.map (·.1))))) :
  CR 116 #[gX (QP x (U av m cap)).toArray,Jk own c g b] w (O J (V2 own nm x (L.map (·.1)))):=by
 have j:=QJ (QJ (aZ _ w) (Z (QP x (U av m cap)).toArray 159)) (Z #[O J own,U c g b] 155);have I:=(AtL.new0 w 159 (QP x (U av m cap))).alloc (Z #[O J own,U c g b] 155);have N:=AtL.new1 w (Z (QP x (U av m cap)).toArray 159) 155 [O J own,U c g b];have E:=I.2.1 0 (O J x.k) rfl;have aa:=I.2.1 10 (V x.a.s) rfl;have ab:=I.2.1 20 (U av m cap) rfl;have s0:=N.2.1 0 _ rfl;have s1:=N.2.1 1 _ rfl;have rP:=I.range;have y:=zBb own nm x.a.s c g b _ H G (T.below j);have q:=zC5 L av m cap _ hm X (M.below j);have o:L.any (λp=>isA p.1)=(L.map (·.1)).any isA:=by rw [List.any_map];rfl
 rw [o] at q;have f:hH (x.k=6->Calls prog 152 #[gX (QP x (U av m cap)).toArray] ((w.alloc (Z (QP x (U av m cap)).toArray 159)).alloc (Z #[O J own,U c g b] 155)) λe w'=>e=rX (O J (Vd x (L.map (·.1))))/\Below ((w.alloc (Z (QP x (U av m cap)).toArray 159)).alloc (Z #[O J own,U c g b] 155)).heap.size ((w.alloc (Z (QP x (U av m cap)).toArray 159)).alloc (Z #[O J own,U c g b] 155)) w'):=λt=>R t _ (S.below j) (M.below j)
 clear o I N S T H G hm X M R;unfold V2;generalize Vd x (L.map (·.1))=rc at *;generalize (L.map (·.1)).any isA=qa at *;generalize shN own nm x.a.s=K at *;by_cases l:x.k=2
 ·rw [if_pos (Or.inl l)];rw [l] at E;obtain ⟨z,u⟩:∃ z:Int,(if K<0 then 84 else 0)=z:=⟨_,rfl⟩
  rw [u];have D:=hid u;clear u;clear q f l;go_enter func116,ntmps116;go_upto_region 1 with fail
  generalize ((w.alloc (Z (QP x (U av m cap)).toArray 159)).alloc (Z #[O J own,U c g b] 155))=W at *;go_wp2_with fail
  refine y.mono ?_;rintro e w1 ⟨rfl,d⟩;have i:=QA j d;by_cases hs:K<0
  ·go_wp2;go_ret;exact ⟨congrArg (λz=>rX (O J z)) (by rw [<-D.out,if_pos oM]:(84:Int)=z),i⟩
  ·go_wp2;go_ret;exact ⟨congrArg (λz=>rX (O J z)) (by rw [<-D.out,if_neg oM]:(0:Int)=z),i⟩
 by_cases r:x.k=3
 ·rw [if_pos (Or.inr r)];rw [r] at E;obtain ⟨z,u⟩:∃ z:Int,(if K<0 then 84 else 0)=z:=⟨_,rfl⟩
  rw [u];have D:=hid u;clear u;clear q f l r;go_enter func116,ntmps116;go_upto_region 1 with fail
  generalize ((w.alloc (Z (QP x (U av m cap)).toArray 159)).alloc (Z #[O J own,U c g b] 155))=W at *;go_wp2_with fail
  refine y.mono ?_;rintro e w1 ⟨rfl,d⟩;have i:=QA j d;by_cases hs:K<0
  ·go_wp2;go_ret;exact ⟨congrArg (λz=>rX (O J z)) (by rw [<-D.out,if_pos oM]:(84:Int)=z),i⟩
  ·go_wp2;go_ret;exact ⟨congrArg (λz=>rX (O J z)) (by rw [<-D.out,if_neg oM]:(0:Int)=z),i⟩
 rw [if_neg (λh=>h.elim l r)];by_cases C:x.k=4
 ·rw [if_pos (Or.inl C)];rw [C] at E;clear y f l r C;go_enter func116,ntmps116;go_upto_region 1 with fail
  generalize ((w.alloc (Z (QP x (U av m cap)).toArray 159)).alloc (Z #[O J own,U c g b] 155))=W at *;go_wp2_with fail
  refine q.mono ?_;rintro e w1 ⟨rfl,d⟩;have i:=QA j d;cases qa with
  | true =>
   go_wp2;go_ret;exact ⟨rfl,i⟩
  | false =>
   go_wp2;go_ret;exact ⟨rfl,i⟩
 by_cases F:x.k=5
 ·rw [if_pos (Or.inr F)];rw [F] at E;clear y f l r C F;go_enter func116,ntmps116;go_upto_region 1 with fail
  generalize ((w.alloc (Z (QP x (U av m cap)).toArray 159)).alloc (Z #[O J own,U c g b] 155))=W at *;go_wp2_with fail
  refine q.mono ?_;rintro e w1 ⟨rfl,d⟩;have i:=QA j d;cases qa with
  | true =>
   go_wp2;go_ret;exact ⟨rfl,i⟩
  | false =>
   go_wp2;go_ret;exact ⟨rfl,i⟩
 rw [if_neg (λh=>h.elim C F)];by_cases t:x.k=6
 ·rw [if_pos t];have RC:=f.out t;rw [t] at E;clear y q f l r C F t;go_enter func116,ntmps116;go_upto_region 1 with fail
  generalize ((w.alloc (Z (QP x (U av m cap)).toArray 159)).alloc (Z #[O J own,U c g b] 155))=W at *;go_wp2_with (first | (refine QB (by rfl) 159 (mX 2) rfl w.heap.size 0 rfl (QP x (U av m cap)) _ rP underlying159 rfl kR ?_))
  refine RC.mono ?_;rintro e w1 ⟨rfl,d⟩;have i:=QA j d;go_wp2;go_ret;exact ⟨rfl,i⟩
 rw [if_neg t];clear y q f;go_enter func116,ntmps116;go_upto_region 1 with fail
 generalize ((w.alloc (Z (QP x (U av m cap)).toArray 159)).alloc (Z #[O J own,U c g b] 155))=W at *;go_wp2;go_ret;exact ⟨rfl,j⟩
def go0 (c:Int) (l:List Int):Int:=if c=0 then zPR l else c
theorem zI1 {d:List (Tr n × vW)} (h:∀ p ∈ d,PA n lo hi w p.1 p.2):∀ q ∈ (d.map λp=>(hd n p.1,p.2)),∃ a b c,q.2=U a b c:=λq hq=>by
 obtain ⟨p,e,rfl⟩:=List.mem_map.1 hq;exact (h p e).slice
theorem zEk:∀ {n:Nat} {t:Tr n},Jw n t->Wt.right (hd n t)=true
 | 0,t,_=>Empty.elim t
 | n+1,t,h=>h.1
theorem zNf {b:List (Tr n × vW)} (h:∀ p ∈ b,Jw n p.1):∀ q ∈ (b.map λp=>(hd n p.1,p.2)),isA q.1=true->RtN q.1:=λq hq ha=>by
 obtain ⟨p,c,rfl⟩:=List.mem_map.1 hq;exact zCn (zEk (h p c)) (by simpa [isA] using ha)
def RfC (own:Int) (nm:List ByteArray) (b:Option dW) (e c n:Nat):Prop:=∀ (t:Tr n) (d:vW) (lo hi:Nat) (w:wW),Jw n t->PA n lo hi w t d->NmAt w->RdS w b nm ->
 CR 85 #[gX (QP (hd n t) d).toArray,Jk own b e c] w (O J (Jv own nm n t))
def RfT (own:Int) (nm:List ByteArray) (b:Option dW) (e c n:Nat) (t:Tr n):Prop:=∀ (d:vW) (lo hi:Nat) (w:wW),Jw n t->PA n lo hi w t d->NmAt w->RdS w b nm ->
 CR 85 #[gX (QP (hd n t) d).toArray,Jk own b e c] w (O J (Jv own nm n t))
def RcC (x:Wt.Nd):Prop:=x.k=6->∀ (L:List (Wt.Nd × vW)) (av:Option dW) (m cap:Nat) (w:wW),NmAt w->m=L.length->L.length<=30->x.ar=(L.length:Int)->(∀ q ∈ L,∃ a b c,q.2=U a b c)->RdQ w av L->(∀ q ∈ L,isA q.1=true->RtN q.1)->CR 152 #[gX (QP x (U av m cap)).toArray] w (O J (Vd x (L.map (·.1))))
theorem zNp (own:Int) (nm:List ByteArray) (f:Option dW) (z b:Nat) (ap:z=nm.length) (ao:nm.length<=16) (n:Nat) (ih:RfC own nm f z b n) (t:Tr (n+1)) (hC:RcC (hd (n+1) t)):RfT own nm f z b (n+1) t:=by
 intro sl lo hi w hF hP hN hS;obtain ⟨x,ks⟩:Br (Tr n):=t;obtain ⟨hx,hp,F⟩:=hF;replace hx:Wt.right x=true:=hx
 replace hp:Wt.parts x=(ks.length:Int):=hp
 replace F:∀ k ∈ ks,Jw n k:=F
 obtain ⟨av,cap,d,q1,rfl,aG,q3,q4⟩:=hP;replace q1:d.map (·.1)=ks:=q1
 have an:hd (n+1) (⟨x,ks⟩:Br (Tr n))=x:=rfl;rw [an];replace hC:RcC x:=hC
 have I:d.length=ks.length:=by rw [<-q1,dZ]
 have l:d.length<=30:=by have:=(Wt.parts_le hx).2;omega
 have T:∀ p ∈ d,Jw n p.1:=λp hp=>F p.1 (by rw [<-q1];exact List.mem_map.2 ⟨p,hp,rfl⟩)
 have ak:x.k=6->x.ar=((d.map λp=>(hd n p.1,p.2)).length:Int):=λh6=>by
  rw [dZ,I,<-hp];unfold Wt.parts;rw [if_neg oM,if_neg oM]
 have hb:=QJ (QJ (aZ _ w) (Z (QP x (U av d.length cap)).toArray 159)) (Z #[O J own,U f z b] 155);have pP:=(AtL.new0 w 159 (QP x (U av d.length cap))).alloc (Z #[O J own,U f z b] 155);have pS:=AtL.new1 w (Z (QP x (U av d.length cap)).toArray 159) 155 [O J own,U f z b];have RN:=zKa own nm f z b x (d.map λp=>(hd n p.1,p.2)) av d.length cap _ (hN.below hb) (hS.below hb) ap ao (by rw [dZ]) (by rw [dZ];exact l) (q3.q.below hb) λh6 W aB aC=>hC h6 (d.map λp=>(hd n p.1,p.2)) av d.length cap W aB (by rw [dZ]) (by rw [dZ];exact l) (ak h6) (zI1 q4) aC (zNf T)
 have M:(d.map λp=>(hd n p.1,p.2)).map (·.1)=ks.map (hd n):=by rw [<-q1,yZ,yZ];rfl
 rw [M] at RN;have hq:Jv own nm (n+1) (⟨x,ks⟩:Br (Tr n))=go0 (V2 own nm x (ks.map (hd n))) (d.map λp=>Jv own nm n p.1):=by
  have e1:(d.map λp=>Jv own nm n p.1)=ks.map (Jv own nm n):=by rw [<-q1,yZ];rfl
  rw [e1];rfl
 rw [hq];generalize V2 own nm x (ks.map (hd n))=r0 at *;obtain ⟨q,X⟩:=xV (go0 r0 (d.map λp=>Jv own nm n p.1))
 rw [X];have ah:=hid X;have au:=hid T;have ag:=hid q4;have aA:=hid q3;have af:=hid (And.intro hN hS);have aw:=hid ih;clear hx hp F q1 aG q3 q4 an I T ak M hq X hN hS ih ap ao hC;have ax:=hid l;clear l;have ay:hH (∀ (i:Nat) (h:i<d.length),d.drop i=d[i]::d.drop (i+1)):=λi h=>iZ h
 obtain ⟨m,hm⟩:=xV d.length
 have N:=hid hm;rw [hm] at pP RN hb pS ⊢;clear hm;have H:=pP.2.1 20 (U av m cap) rfl;have rP:=pP.range;have s0:=pS.2.1 0 _ rfl;have s1:=pS.2.1 1 _ rfl;go_enter func85,ntmps85;go_upto_region 1 with fail
 have ad:=hid hb;clear hb;generalize ((w.alloc (Z (QP x (U av m cap)).toArray 159)).alloc (Z [O J own,U f z b].toArray 155))=W at *;go_wp2_with (first | (refine QB (by rfl) 159 (mX 2) rfl w.heap.size 0 rfl (QP x (U av m cap)) _ rP underlying159 rfl kR ?_))
 refine RN.mono ?_;rintro e W1 ⟨rfl,D⟩;have ae:=hid (QC D H);have az:=hid (QG D pS.range);have o:=hid (QA ad.out D);clear RN H rP s0 s1 pP pS D ad;go_wp2_with fail
 go_loopg [5,6] m (λgk u5 u6 wr=>∃ (i:Nat) (c:Int),u5=O J c/\u6=O J (i:Int)/\gk=m - i/\i<=m/\hH (go0 c ((d.drop i).map λp=>Jv own nm n p.1)=q)/\hH (bL W1 wr))
 case atStart=>exact ⟨0,r0,rfl,rfl,rfl,fZ _,ah,aZ _ _⟩
 case round =>
  clear ah;obtain ⟨i,c,rfl,rfl,hg,aH,HQ,HB⟩:=hrel;have g:=QC HB.out ae.out;by_cases aF:i<m
  ·have aE:(i:Int)<(m:Int):=oM;by_cases hc:c=0
   ·subst hc;have aI:(0:Int)<=(i:Int):=oM;have aJ:J.wrap ((i:Int)+1)=(i:Int)+1:=by have:=ax.out;have:=N.out;rw [cZ];omega
    have u:i<d.length:=by have:=N.out;omega
    obtain ⟨bb,C,_,_,rfl,hr⟩:=aA.out i u;have al:=QA o.out HB.out;have G:=QG al hr;have rs:=QG HB.out az.out;have am:=ay.out i u;have aj:=λ(R:wW) (h:bL W1 R)=>aw.out (d[i]).1 (d[i]).2 lo hi R (au.out _ (bZ u)) (PA.kept (Kept.of_below (QA o.out h)) n _ _ (ag.out _ (bZ u))) (af.out.1.below (QA o.out h)) (af.out.2.below (QA o.out h))
    obtain ⟨sa,sb,sc,ab⟩:=(ag.out _ (bZ u)).slice;have ai:hH (go0 (Jv own nm n (d[i]).1) ((d.drop (i+1)).map λp=>Jv own nm n p.1)=q):=by
     show _=_
     rw [<-HQ.out,am];rfl
    obtain ⟨rt,aa⟩:∃ r,Jv own nm n (d[i]).1=r:=⟨_,rfl⟩
    obtain ⟨y,hy⟩:=xV (hd n (d[i]).1)
    rw [ab,hy] at G;rw [aa] at ai;have KC:∀ (R:wW),bL W1 R->CR 85 #[gX (QP y (U sa sb sc)).toArray,Jk own f z b] R (O J rt):=by
     intro R h;have:=aj R h;rw [ab,hy,aa] at this;exact this
    clear aj ab hy aa am hr al u HQ;go_upto_region 5 with fail
    have ac:=hid HB.out.drew;replace g:wr.drew.cell? ⟨w.heap.size,20,none⟩=some (U (some ⟨bb,C,none⟩) m cap):=g
    replace G:wr.drew.rangeAt bb (C+i * 21) (QP y (U sa sb sc)):=G
    replace rs:wr.drew.rangeAt (w.heap.size+1) 0 [O J own,U f z b]:=rs
    refine wp_region_held_drew (S:=λW=>W.cell? ⟨w.heap.size,20,none⟩=some (U (some ⟨bb,C,none⟩) m cap)/\W.rangeAt bb (C+i * 21) (QP y (U sa sb sc))/\W.rangeAt (w.heap.size+1) 0 [O J own,U f z b]) kR ⟨g,G,rs⟩ (λj=>?_);generalize wr.drew=WD at *;refine tkQ 0 ?_
    refine tkQ 1 ?_
    refine tkQ 2 ?_
    refine tkQ 3 ?_
    refine wpAnyH_take (i:=4) (v:=gX (QP y (U sa sb sc)).toArray) (atQ rfl) kR kR kR (λ_ _ _ h=>h) (yieldsIf_load_mid (by rfl) 159 (mX 24) rfl (bb) (C+i * 21) rfl (QP y (U sa sb sc)) _ (λ_ h=>h.2.1) underlying159 rfl kR) (by assumption) ?_;try simp only [Act.put,lA,lZ,lS]
    refine wpAnyH_take (i:=5) (v:=gX ([O J own,U f z b]).toArray) (atQ rfl) kR kR kR (λ_ _ _ h=>h) (yieldsIf_load_mid (by rfl) 155 (mX 3) rfl (w.heap.size+1) (0) rfl ([O J own,U f z b]) _ (λ_ h=>h.2.2) underlying155 rfl kR) (by assumption) ?_;try simp only [Act.put,lA,lZ,lS]
    refine rdQ 6 (λK hK=>?_);go_simp
    refine (KC _ ac.out).mono ?_;rintro e w2 ⟨rfl,E⟩;go_wp2_with fail
    have aq:=hid (QA ac.out E);replace g:=QC E g
    replace G:=QG E G
    replace rs:=QG E rs
    refine hkQ hK ⟨g,G,rs⟩ (λj=>?_);clear hK K
    refine rdQ 7 (λK hK=>?_);go_simp
    refine hkQ hK ⟨g,G,rs⟩ (λj=>?_);clear hK K
    refine wpAnyH_done kR ?_ _;clear j G rs g;go_wp2_with fail
    go_roundg (m - (i+1))
    case rel=>exact ⟨i+1,rt,rfl,sM,rfl,aF,ai,aq⟩
    case measure=>omega
   ·have hq:q=c:=by rw [<-HQ.out];unfold go0;rw [if_neg hc]
    subst hq;have hB:=QA o.out HB.out;go_wp2;go_ret;exact ⟨rfl,hB⟩
  ·have aE:¬ (i:Int)<(m:Int):=oM;have hq:q=c:=by
    have aD:d.length<=i:=by have:=N.out;omega
    rw [<-HQ.out,List.drop_eq_nil_of_le aD];unfold go0;by_cases h0:c=0
    ·rw [if_pos h0,h0];rfl
    ·rw [if_neg h0]
   subst hq;have hB:=QA o.out HB.out;go_wp2;go_ret;exact ⟨rfl,hB⟩
theorem zL6 (own:Int) (nm:List ByteArray) (c:Option dW) (d b:Nat) (g:d=nm.length) (f:nm.length<=16) (n:Nat) (q:RfC own nm c d b n):RfC own nm c d b (n+1):=λt =>
 zNp own nm c d b g f n q t λr L av m cap w k p o e j l i=>zKu _ L av m cap w k p o e j l i
theorem zBj (own:Int) (nm:List ByteArray) (c:Option dW) (f b:Nat) (e:f=nm.length) (d:nm.length<=16):∀ n,RfC own nm c f b n
 | 0=>λt=>Empty.elim t
 | n+1=>zL6 own nm c f b e d n (zBj own nm c f b e d n)
def OwnZ (w:wW) (B:Nat) (v:vW) (A:List Int):Prop:=w.ownsRow B 3 1 v A.length (A.map (O J))
theorem OwnZ.nil (w:wW) (B:Nat):OwnZ w B (U none 0 0) []:=⟨rfl,Or.inl ⟨rfl,rfl⟩⟩
theorem OwnZ.rd (h:OwnZ w B v A):RdZ w v A:=by
 rcases h.2 with ⟨e,d⟩ | ⟨g,cap,c,e,p,k,l,m,o,f⟩
 ·have j:A=[]:=List.eq_nil_of_length_eq_zero d;subst j;rw [e];exact RdZ.nil w
 ·refine ⟨some ⟨g,0,none⟩,cap,e,λi hi=>⟨g,0,rfl,?_⟩⟩;have b:(A.map (O J))[i]? = some (O J (A[i])):=by simp [hi]
  rw [<-f,List.getElem?_take_of_lt oM] at b;unfold World.cell?;simp only [k];simpa using b
theorem OwnZ.blk (h:OwnZ w B v A) {g:Nat} (e:v.ownBlock=some g):B<=g/\g<w.heap.size:=by
 rcases h.2 with ⟨rfl,_⟩ | ⟨b,cap,d,rfl,i,c,_⟩
 ·cases e
 ·have f:b=g:=by simpa [Value.ownBlock] using e
  subst f;refine ⟨i,?_⟩;rcases Nat.lt_or_ge b w.heap.size with q | q
  ·exact q
  ·rw [Array.getElem?_eq_none q] at c;cases c
theorem OwnZ.below (h:OwnZ w B v A) (d:bL w w'):OwnZ w' B v A:=by
 have i:=λ{g} (e:v.ownBlock=some g)=>h.blk e
 refine ⟨h.1,?_⟩;rcases h.2 with q | ⟨g,cap,b,rfl,c,f,r⟩
 ·exact Or.inl q
 ·exact Or.inr ⟨g,cap,b,rfl,c,by rw [d.block g (i rfl).2];exact f,r⟩
theorem zI0:(prog.info? 3).map (λi=>(i.zero,i.size,i.bytes))=some (some (O J 0),1,8):=kR
def VK (at' n:Int) (j:Int):Bool:=decide (j<=at' \/ n<=j)
theorem zJW (b at':Int) (p q:dW) (av:Option dW) (n cap:Nat) (w:wW) (f:w.cell? p=some (O J at')) (g:w.cell? q=some (U av n cap)) :
  CR 102 #[O J b,pX (some p),pX (some q)] w (Y (VK at' n b)):=by
 by_cases d:b<=at'
 ·have c:VK at' n b=true:=decide_eq_true (Or.inl d);rw [c];go_enter func102,ntmps102;go_wp2;go_ret;exact ⟨sM,aZ _ _⟩
 ·by_cases e:(n:Int)<=b
  ·have c:VK at' n b=true:=decide_eq_true (Or.inr e);rw [c];go_enter func102,ntmps102;go_wp2;go_ret;exact ⟨sM,aZ _ _⟩
  ·have c:VK at' n b=false:=decide_eq_false oM;rw [c];go_enter func102,ntmps102;go_wp2;go_ret;exact ⟨sM,aZ _ _⟩
theorem zGi (l:List Int) (v:vW) (at':Int) (q t:Nat) (av:Option dW) (n cap:Nat) (w:wW) (h:RdZ w v l) (hl:l.length<=1000000) (I:w.cell? ⟨q,0,none⟩=some (O J at')) (K:w.cell? ⟨t,0,none⟩=some (U av n cap)) :
  Calls prog 137 #[v,.func (.func 102) #[] #[pX (some ⟨q,0,none⟩),pX (some ⟨t,0,none⟩)]] w λe w'=>(∃ z:Int,e=rX (O J z)/\decide (0<=z)=l.any (VK at' n))/\bL w w':=by
 have eg:∀ args w,(callFunc 102 args).run prog w=.ok (.enter 102 args) w:=λ_ _=>by kernel_rfl
 obtain ⟨X,c1,rfl,N⟩:=h;have S:hH (∀ i (h:i<l.length),∃ bb off,X=some ⟨bb,off,none⟩/\w.cell? ⟨bb,off+i,none⟩=some (O J (l[i]))):=N;obtain ⟨k,C⟩:=xV l.length
 have F:hH (l.length=k):=C;rw [C] at hl ⊢;have T:hH (w.cell? ⟨q,0,none⟩=some (O J at')):=I;have W:hH (w.cell? ⟨t,0,none⟩=some (U av n cap)):=K;clear N C I K;go_enter func137,ntmps137;go_wp2_with fail
 go_loopg [5,8] k (λgk y x wr=>∃ i:Nat,x=O J i/\gk=k - i/\i<=k/\hH (∀ m (c:m<l.length),m<i->VK at' n l[m]=false)/\bL w wr)
 case atStart=>exact ⟨0,rfl,rfl,fZ _,(λm c h=>absurd h (sZ _):∀ m (c:m<l.length),m<0->VK at' n l[m]=false),aZ _ _⟩
 case round =>
  obtain ⟨i,rfl,hg,hi,H,d⟩:=hrel;by_cases j:i<k
  ·have D:(i:Int)<(k:Int):=oM;have ab:J.wrap ((i:Int)+1)=(i:Int)+1:=by rw [cZ];omega
   have u:i<l.length:=by rw [F.out];exact j
   obtain ⟨b1,o1,rfl,M⟩:=S.out i u;have d1:=QC d M;have o:=λR (g:bL wr R)=>zJW l[i] at' ⟨q,0,none⟩ ⟨t,0,none⟩ av n cap R (QC g (QC d T.out)) (QC g (QC d W.out))
   obtain ⟨x,E⟩:=xV (l[i])
   obtain ⟨r,p⟩:=xV (VK at' n l[i])
   have G:hH (VK at' n l[i]=r):=p;rw [E] at d1 o;rw [E] at p;rw [p] at o;have f:=o wr (aZ _ _);clear M E p o;cases r with
   | true =>
    go_wp2_with (go_at_call 102;refine f.mono ?_;rintro e w1 ⟨rfl,b⟩)
    go_ret;refine ⟨⟨_,rfl,?_⟩,QA d b⟩;have:l.any (VK at' n)=true:=List.any_eq_true.2 ⟨l[i],bZ _,G.out⟩;rw [this];simp
   | false =>
    go_wp2_with (go_at_call 102;refine f.mono ?_;rintro e w1 ⟨rfl,b⟩)
    go_roundg (k - (i+1))
    case rel =>
     refine ⟨i+1,sM,rfl,j,(λm c aa=>?_:∀ m (c:m<l.length),m<i+1->VK at' n l[m]=false),QA d b⟩;by_cases e:m=i
     ·subst e;exact G.out
     ·exact H.out m c oM
    case measure=>omega
  ·have D:¬ (i:Int)<(k:Int):=oM;go_wp2;go_ret;refine ⟨⟨_,rfl,?_⟩,d⟩;have:l.any (VK at' n)=false:=by
    rw [List.any_eq_false];intro y hy;obtain ⟨m,c,rfl⟩:=uZ hy;rw [H.out m c (by have:=F.out;omega)];simp
   rw [this];simp
theorem zAI (l:List Int) (v:vW) (at':Int) (c d:Nat) (av:Option dW) (n cap:Nat) (w:wW) (h:RdZ w v l) (f:l.length<=1000000) (g:w.cell? ⟨c,0,none⟩=some (O J at')) (i:w.cell? ⟨d,0,none⟩=some (U av n cap)) :
  CR 104 #[v,.func (.func 102) #[] #[pX (some ⟨c,0,none⟩),pX (some ⟨d,0,none⟩)]] w (Y (l.any (VK at' n))):=by
 have I:=zGi l v at' c d av n cap w h f g i;clear h f g i;go_enter func104,ntmps104;go_wp2_with fail
 refine I.mono ?_;rintro e w1 ⟨⟨z,rfl,j⟩,b⟩;have H:hH (decide (0<=z)=l.any (VK at' n)):=j;clear j I;go_wp2;go_ret;exact ⟨by rw [<-H.out];rfl,b⟩
