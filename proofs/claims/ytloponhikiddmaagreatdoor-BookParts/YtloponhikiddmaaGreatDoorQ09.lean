/- Lemmas. -/
import Derived.Test.YtloponhikiddmaaGreatDoorQ08
set_option maxHeartbeats 4000000
set_option maxRecDepth 100000
open List renaming getElem_set_ne->aZ,getElem_set_self->bZ,length_set->dZ,map_toArray->gZ,getElem_append_left->hZ,map_cons->iZ,map_nil->jZ,mem_cons_of_mem->nZ,mem_cons_self->oZ,getElem_cons_zero->rZ,getElem?_eq_none->sZ,length_append->uZ
open Go.RowKit.Below renaming refl->cZ
open Go.Result renaming andThen_ok->eZ
open Nat renaming le_trans->fZ,lt_of_lt_of_le->tZ,lt_or_ge->vZ,zero_mul->wZ,zero_add->xZ
open Go.Sem renaming run_bind->kZ,run_pure->mZ
open Go.World renaming frozen?_setCell->pZ
open Int renaming toNat_natCast->qZ
open Go renaming World->wW,Value->vW,Calls->cW
open Go.RowKit renaming Hid->hH
open Go.Value renaming int->O,slice->U,string->V,bool->Y,pointer->pX,agg->gX,tuple->uX
open Go.IntKind renaming i64->J
open Go.Obj renaming cells->Z
open Go.Ending renaming returned->rX
open Go.Operand renaming tmp->mX
namespace Go.Proofs.YtloponhikiddmaaGreatDoor
open Tryz
variable {w w' w1:wW} {B k mk n b:Nat} {a:Act} {Q:Exit->Act->wW->Prop} {T:Nat->Nat} {s0 s1 lv v:vW} {L:List Wf.I} {P:List (Wc.In × vW)} {op o:Oper} {ops:Array Oper} {rest:List Oper} {M:List (Option (Int × Nat))} {K:Act->wW->Prop}
open Go.RowKit
set_option linter.unusedVariables false
def mkC (M:List (Option (Int × Nat))) (j:Nat):List vW:=match M.getD j none with
 | none=>[O J 0,O J 0,Y false]
 | some (v,m)=>[O J v,O J (m:Int),Y (decide (j ≠ 0))]
structure MkS (w:wW) (b mk n:Nat) (M:List (Option (Int × Nat))):Prop where
 hd:w.cell? ⟨b,0,none⟩=some (U (some ⟨mk,0,none⟩) n n)
 at':∀ j:Nat,j<n->w.rangeAt mk (j * 3) (mkC M j)
 fz:∀ i:Nat,i<n * 3->w.frozen? ⟨mk,i,none⟩=false
 len:M.length=n
 mlt:mk<w.heap.size
theorem MkS.fr {S:List Nat} (h:MkS w b mk n M) (c:Fr S w w') (e:b ∉ S) (d:mk ∉ S):MkS w' b mk n M :=
 ⟨c.cell h.hd e,λj f=>c.range (h.at' j f) d,λi hi=>by rw [c.frozen h.mlt d];exact h.fz i hi,h.len,tZ h.mlt c.size⟩
theorem zDV (M:List (Option (Int × Nat))) (j:Nat):∃ a c d,mkC M j=[O J a,O J c,Y d]:=by
 unfold mkC;split
 ·exact ⟨_,_,_,rfl⟩
 ·exact ⟨_,_,_,rfl⟩
theorem MkS.three (h:MkS w b mk n M) {j:Nat} (g:j<n):(∃ a:Int,w.cell? ⟨mk,j * 3,none⟩=some (O J a))/\(∃ a:Int,w.cell? ⟨mk,j * 3+1,none⟩=some (O J a))/\∃ d,w.cell? ⟨mk,j * 3+2,none⟩=some (Y d):=by
 obtain ⟨a,c,d,e⟩:=zDV M j;have f:=h.at' j g;rw [e] at f;exact ⟨⟨a,f 0 _ rfl⟩,⟨c,f 1 _ rfl⟩,⟨d,f 2 _ rfl⟩⟩
theorem MkS.set (h:MkS w b mk n M) {j:Nat} (s:j<n) (C:j ≠ 0) (l:b ≠ mk) (v:Int) (m:Nat):MkS (((w.setCell ⟨mk,j * 3,none⟩ (O J v)).setCell ⟨mk,j * 3+1,none⟩ (O J (m:Int))).setCell ⟨mk,j * 3+2,none⟩ (Y true)) b mk n (M.set j (some (v,m))):=by
 have fr:Fr [mk] w (((w.setCell ⟨mk,j * 3,none⟩ (O J v)).setCell ⟨mk,j * 3+1,none⟩ (O J (m:Int))).setCell ⟨mk,j * 3+2,none⟩ (Y true)) :=
  ((Fr.of_grown (QU _ _ _ _) (λk e=>by cases e;simp)).trans (Fr.of_grown (QU _ _ _ _) (λk e=>by cases e;simp))).trans (Fr.of_grown (QU _ _ _ _) (λk e=>by cases e;simp))
 obtain ⟨⟨D,e0⟩,⟨E,x⟩,⟨F,y⟩⟩:=h.three s;refine ⟨fr.cell h.hd (by simpa using l),λi r=>?_,λi r=>by rw [pZ,pZ,pZ];exact h.fz i r,by rw [dZ];exact h.len,tZ h.mlt fr.size⟩;by_cases e:i=j
 ·subst e;have p:mkC (M.set i (some (v,m))) i=[O J v,O J (m:Int),Y true]:=by
   unfold mkC;rw [Wc.getD_set M i i _ (by rw [h.len];exact s),if_pos rfl];simp [C]
  rw [p];intro q u f;match q,f with
  | 0,f =>
   cases f
   rw [QZ _ _ _ oM,QZ _ _ _ oM];exact Q6 e0 _
  | 1,f =>
   cases f
   rw [QZ _ _ _ oM];exact Q6 (by rw [QZ _ _ _ oM];exact x) _
  | 2,f =>
   cases f
   exact Q6 (by rw [QZ _ _ _ oM,QZ _ _ _ oM];exact y) _
 ·have p:mkC (M.set j (some (v,m))) i=mkC M i:=by
   unfold mkC;rw [Wc.getD_set M j i _ (by rw [h.len];exact s),if_neg (λq=>e q.symm)]
  rw [p];obtain ⟨a,c,d,z⟩:=zDV M i;have t:=h.at' i r;rw [z] at t ⊢;intro q u f;have A:q<3:=by
   rcases vZ q 3 with g | g
   ·exact g
   ·rw [sZ (by simpa using g)] at f;cases f
  have:=t q u f;rw [QZ _ _ _ oM,QZ _ _ _ oM,QZ _ _ _ oM];exact this
theorem zCq {c d f:Nat} {g i j:vW}:Fr [mk] w (((w.setCell ⟨mk,c,none⟩ g).setCell ⟨mk,d,none⟩ i).setCell ⟨mk,f,none⟩ j) :=
 ((Fr.of_grown (QU _ _ _ _) (λk e=>by cases e;simp)).trans (Fr.of_grown (QU _ _ _ _) (λk e=>by cases e;simp))).trans (Fr.of_grown (QU _ _ _ _) (λk e=>by cases e;simp))
theorem zKS (x y d e:Int) (w:wW):(binOp .neq 191 (gX #[O J x,O J y]) (gX #[O J d,O J e])).run prog w=.ok (Y (!((x == d) && (y == e)))) w:=by
 by_cases c:x=d
 ·by_cases f:y=e
  ·simp [go_sem,c,f]
  ·simp [go_sem,c,f]
 ·simp [go_sem,c]
def zQu (r:Option (List (Option (Int × Nat)))) (b mk n:Nat) (w:wW) (e:Ending) (w':wW):Prop:=match r with
 | some c=>e=rX (Y true)/\MkS w' b mk n c/\Fr [mk] w w'
 | none=>e=rX (Y false)/\Fr [mk] w w'
theorem zBR (b mk n:Nat) (M:List (Option (Int × Nat))) (v:Int) (m:Nat) (pl:List Int) (pv:vW) (w:wW) (l:MkS w b mk n M) (aa:b ≠ mk) (hp:RdZ w pv pl) (ah:∀ j ∈ pl,0<j/\j<(n:Int)) (hl:pl.length<=1000000) (hn:n<=1000000) (ag:pl ≠ []->∀ g,pv.ownBlock=some g->g ≠ mk) :
  cW prog 106 #[pX (some ⟨b,0,none⟩),gX #[O J v,O J (m:Int)],pv] w λe w'=>zQu (Wc.handP (v,m) pl M) b mk n w e w':=by
 obtain ⟨a1,c1,rfl,r1⟩:=hp;have HR:hH (RdZ w (U a1 pl.length c1) pl):=⟨a1,c1,rfl,r1⟩
 have ai:=hid ag;have aj:=hid ah;obtain ⟨k,hk⟩:=xV pl.length
 have HK:=hid hk;rw [hk] at hl ⊢;obtain ⟨q,hq⟩:=xV (Wc.handP (v,m) pl M)
 have HQ:=hid hq;rw [hq];have pH:=AtL.new0 w 191 [O J v,O J (m:Int)];have F:=QJ (cZ _ w) (Z #[O J v,O J (m:Int)] 191);have ae:=l.fr (Fr.of_below [] F) sM sM;have ad:=Fr.of_below [mk] F;have r:=pH.2.1 0 _ rfl;have s:=pH.2.1 1 _ rfl;have nb:b ∉ [mk]:=by simpa using aa
 have nw:w.heap.size ∉ [mk]:=by have:=l.mlt;simp;omega
 clear r1 ah hk hq pH l ag;go_enter func106,ntmps106;go_upto_region 1 with fail
 generalize (w.alloc (Z #[O J v,O J (m:Int)] 191))=w0 at *;have ar:=hid F;clear F;go_wp2_with fail
 go_loopg [11] k (λgk x wr=>∃ (i:Nat) (C:List (Option (Int × Nat))),x=O J i/\gk=k - i/\i<=k/\hH (Wc.handP (v,m) (pl.drop i) C=q)/\hH (MkS wr b mk n C)/\hH (Fr [mk] w wr)/\wr.cell? ⟨w.heap.size,0,none⟩=some (O J v)/\wr.cell? ⟨w.heap.size,1,none⟩=some (O J (m:Int)))
 case atStart=>exact ⟨0,M,rfl,rfl,Nat.zero_le _,HQ,ae,ad,r,s⟩
 case round =>
  clear r s ae ad HQ;obtain ⟨i,C,rfl,hg,hi,HQ,R,I,r,s⟩:=hrel;by_cases ac:i<k
  ·have ao:(i:Int)<(k:Int):=oM;have aw:J.wrap ((i:Int)+1)=(i:Int)+1:=by rw [IntKind.wrap_i64];omega
   have z:i<pl.length:=by rw [HK.out];exact ac
   have l:=R.out;have D:=I.out;have H0:=HR.out;rw [HK.out] at H0;obtain ⟨q1,d1,e1,f1⟩:=H0;simp only [U.injEq] at e1;obtain ⟨ak,al,am⟩:=e1;subst ak;subst am;clear al;obtain ⟨bb,aq,rfl,t1⟩:=f1 i z;have av:=Q8 t1;have t2:wr.cell? ⟨bb,aq+i,none⟩=some (O J (pl[i])):=D.cell t1 (by have:=ai.out (by intro e;rw [e] at z;simp at z) bb rfl;simpa using this);obtain ⟨af,an⟩:=aj.out pl[i] (List.getElem_mem _);obtain ⟨j,hj⟩:∃ j:Nat,pl[i]=(j:Int):=⟨pl[i].toNat,oM⟩
   have X:hH (Wc.handP (v,m) ((j:Int)::pl.drop (i+1)) C=q):=by
    show _=q
    rw [<-HQ.out,List.drop_eq_getElem_cons z,hj]
   rw [hj] at t2 af an;have A:j<n:=oM;have ab:j ≠ 0:=oM;have au:(0:Int)<=(j:Int):=oM;have hr:=l.at' j A;have G:=l.hd;clear f1 t1 z hj af R I HQ;cases p:C.getD j none with
   | none =>
    have u:hH (Wc.handP (v,m) (pl.drop (i+1)) (C.set j (some (v,m)))=q):=by
     show _=q
     rw [<-X.out];simp only [Wc.handP,qZ,p]
    have e2:wr.cell? ⟨mk,j * 3+2,none⟩=some (Y false):=by
     have:=hr 2 (Y false) (by unfold mkC;rw [p];rfl);exact this
    clear hr;go_upto_region 4 with fail
    go_quiet (fail)
    go_upto_region 6 with fail
    have f:bL wr (wr.drewN nq).drew:=(Ql (cZ _ wr) nq).drew;replace l:=l.fr (Fr.of_below [] f) sM sM
    replace D:=D.trans (Fr.of_below [mk] f)
    replace r:=QC f r
    replace s:=QC f s
    clear f;have G:=l.hd;refine wp_region_held_drew (S:=λW=>W.cell? ⟨b,0,none⟩=some (U (some ⟨mk,0,none⟩) n n)/\W.cell? ⟨w.heap.size,0,none⟩=some (O J v)/\W.cell? ⟨w.heap.size,1,none⟩=some (O J (m:Int))) kR ⟨G,r,s⟩ (λd=>?_);generalize (wr.drewN nq).drew=wd at *;refine tkQ 0 ?_
    refine tkQ 1 ?_
    refine tkQ 2 ?_
    refine tkQ 3 ?_
    refine tkQ 4 ?_
    refine tkQ 5 ?_
    refine tkQ 6 ?_
    refine tkQ 7 ?_
    have E:=l.fz;have f0:=E (j * 3) oM;have f1:=E (j * 3+1) oM;have f2:=E (j * 3+2) oM;obtain ⟨⟨y0,e0⟩,⟨y1,e1⟩,⟨y2,e2⟩⟩:=l.three A;have y:=l.set A ab aa v m;have c:Fr [mk] wd (((wd.setCell ⟨mk,j * 3,none⟩ (O J v)).setCell ⟨mk,j * 3+1,none⟩ (O J (m:Int))).setCell ⟨mk,j * 3+2,none⟩ (Y true)):=zCq;have k0:=c.cell G nb;have k1:=c.cell r nw;have k2:=c.cell s nw;clear E;refine rdQ 8 (λK hK=>?_);go_simp
    refine hkQ hK (⟨k0,k1,k2⟩) (λd=>?_);clear hK K
    refine wpAnyH_done kR ?_ _;clear d f0 f1 f2 e0 e1 e2 G r s l;have N:=hid y;have H:=hid (D.trans c);have H1:hH _:=k1;have H2:hH _:=k2;clear y D c k0 k1 k2;generalize (((wd.setCell ⟨mk,j * 3,none⟩ (O J v)).setCell ⟨mk,j * 3+1,none⟩ (O J (m:Int))).setCell ⟨mk,j * 3+2,none⟩ (Y true))=w9 at *;go_wp2_with fail
    go_roundg (k - (i+1))
    case rel=>exact ⟨i+1,C.set j (some (v,m)),sM,rfl,ac,u,N,H,H1.out,H2.out⟩
    case measure=>omega
   | some gg =>
    obtain ⟨gv,gm⟩:=gg;have a0:wr.cell? ⟨mk,j * 3,none⟩=some (O J gv):=hr 0 (O J gv) (by unfold mkC;rw [p];rfl);have a1:wr.cell? ⟨mk,j * 3+1,none⟩=some (O J (gm:Int)):=hr 1 (O J (gm:Int)) (by unfold mkC;rw [p];rfl);have e2:wr.cell? ⟨mk,j * 3+2,none⟩=some (Y true):=hr 2 (Y true) (by unfold mkC;rw [p];simp [ab]);have NH:=λw=>zKS gv (gm:Int) v (m:Int) w
    clear hr;by_cases t:(gv,gm)=(v,m)
    ·have u:hH (Wc.handP (v,m) (pl.drop (i+1)) (C.set j (some (v,m)))=q):=by
      show _=q
      rw [<-X.out];simp only [Wc.handP,qZ,p,if_pos t]
     have hx:(!((gv == v) && ((gm:Int) == (m:Int))))=false:=by
      obtain ⟨h2,h3⟩:=Prod.mk.inj t;rw [h2,h3];simp
     rw [hx] at NH;clear hx t;go_upto_region 4 with fail
     go_quiet (fail)
     go_upto_region 6 with fail
     have f:bL wr (wr.drewN nq).drew:=(Ql (cZ _ wr) nq).drew;replace l:=l.fr (Fr.of_below [] f) sM sM
     replace D:=D.trans (Fr.of_below [mk] f)
     replace r:=QC f r
     replace s:=QC f s
     clear f;have G:=l.hd;refine wp_region_held_drew (S:=λW=>W.cell? ⟨b,0,none⟩=some (U (some ⟨mk,0,none⟩) n n)/\W.cell? ⟨w.heap.size,0,none⟩=some (O J v)/\W.cell? ⟨w.heap.size,1,none⟩=some (O J (m:Int))) kR ⟨G,r,s⟩ (λd=>?_);generalize (wr.drewN nq).drew=wd at *;refine tkQ 0 ?_
     refine tkQ 1 ?_
     refine tkQ 2 ?_
     refine tkQ 3 ?_
     refine tkQ 4 ?_
     refine tkQ 5 ?_
     refine tkQ 6 ?_
     refine tkQ 7 ?_
     have E:=l.fz;have f0:=E (j * 3) oM;have f1:=E (j * 3+1) oM;have f2:=E (j * 3+2) oM;obtain ⟨⟨y0,e0⟩,⟨y1,e1⟩,⟨y2,e2⟩⟩:=l.three A;have y:=l.set A ab aa v m;have c:Fr [mk] wd (((wd.setCell ⟨mk,j * 3,none⟩ (O J v)).setCell ⟨mk,j * 3+1,none⟩ (O J (m:Int))).setCell ⟨mk,j * 3+2,none⟩ (Y true)):=zCq;have k0:=c.cell G nb;have k1:=c.cell r nw;have k2:=c.cell s nw;clear E;refine rdQ 8 (λK hK=>?_);go_simp
     refine hkQ hK (⟨k0,k1,k2⟩) (λd=>?_);clear hK K
     refine wpAnyH_done kR ?_ _;clear d f0 f1 f2 e0 e1 e2 G r s l;have N:=hid y;have H:=hid (D.trans c);have H1:hH _:=k1;have H2:hH _:=k2;clear y D c k0 k1 k2;generalize (((wd.setCell ⟨mk,j * 3,none⟩ (O J v)).setCell ⟨mk,j * 3+1,none⟩ (O J (m:Int))).setCell ⟨mk,j * 3+2,none⟩ (Y true))=w9 at *;go_wp2_with fail
     go_roundg (k - (i+1))
     case rel=>exact ⟨i+1,C.set j (some (v,m)),sM,rfl,ac,u,N,H,H1.out,H2.out⟩
     case measure=>omega
    ·have u:hH (none=q):=by
      show _=q
      rw [<-X.out];simp only [Wc.handP,qZ,p,if_neg t]
     have hx:(!((gv == v) && ((gm:Int) == (m:Int))))=true:=by
      rw [Bool.not_eq_true',Bool.and_eq_false_iff];by_cases h2:gv=v
      ·right
       have h3:gm ≠ m:=λe=>t (by rw [h2,e])
       simp;omega
      ·left
       simpa using h2
     rw [hx] at NH;clear hx t;go_upto_region 4 with fail
     go_quiet (fail)
     go_wp2;go_ret;show zQu q b mk n w _ _
     rw [<-u.out];exact ⟨rfl,D.trans (Fr.of_below _ (Ql (cZ wr.heap.size wr) nq))⟩
  ·have ao:¬ (i:Int)<(k:Int):=oM;have ap:some C=q:=by
    rw [<-HQ.out,List.drop_eq_nil_of_le (by rw [HK.out];omega)];rfl
   go_wp2;go_ret;show zQu q b mk n w _ _
   rw [<-ap];exact ⟨rfl,R.out,I.out⟩
theorem zLg (w:wW) (o:Obj):w.heap.size<(w.alloc o).heap.size:=by
 show w.heap.size<(w.heap.push o).size
 simp
def Qf:List (Wc.In × vW)->List vW
 | []=>[]
 | x::r=>QF x.1 x.2++Qf r
theorem zD3:∀ A:List (Wc.In × vW),(Qf A).length=A.length * 23
 | []=>rfl
 | x::r=>by simp [Qf,zD3 r,QF];omega
theorem zDX:∀ (A C:List (Wc.In × vW)),Qf (A++C)=Qf A++Qf C
 | [],C=>rfl
 | x::r,C=>by simp [Qf,zDX r C]
def OwnI (w:wW) (B:Nat) (v:vW) (A:List (Wc.In × vW)):Prop:=w.ownsRow B 87 23 v A.length (Qf A)
theorem OwnI.nil (w:wW) (B:Nat):OwnI w B (U none 0 0) []:=⟨rfl,Or.inl ⟨rfl,rfl⟩⟩
theorem OwnI.below {A:List (Wc.In × vW)} (h:OwnI w B v A) (c:bL w w'):OwnI w' B v A:=Q2 (Fr.of_below [] c) h sM
theorem zH0:(prog.info? 87).map (λi=>(i.zero,i.size,i.bytes))=some (some (gX (QF (QL 0) QO).toArray),23,208):=kR
theorem zBl:∀ (A:List (Wc.In × vW)),(∀ p ∈ A,∃ d n c,p.2=U d n c)->∀ v ∈ Qf A,v.oneCell'=true
 | [],_,v,h=>by cases h
 | x::r,hs,v,h=>by
  obtain ⟨d,n,c,e⟩:=hs x (oZ ..);simp only [Qf,List.mem_append] at h;rcases h with h | h
  ·rw [e] at h;exact zMZ _ _ _ _ v h
  ·exact zBl r (λp f=>hs p (nZ _ f)) v h
theorem zRb (x:Wc.In) (d:Option Addr) (n c:Nat) (w:wW):(Instr.buildSlice 55 1 #[(0,gX (QF x (U d n c)).toArray)]).run prog w=.ok (U (some ⟨w.heap.size,0,none⟩) 1 1) (w.alloc (Z (QF x (U d n c)).toArray 87)):=kR
theorem zHn (y:Operand) (e:op.op=.buildSlice 55 1 #[(0,y)]) (x:Wc.In) (d:Option Addr) (n c:Nat) (f:a.eval y=gX (QF x (U d n c)).toArray)
  (h:K (a.put op.dst (U (some ⟨w.heap.size,0,none⟩) 1 1)) (w.alloc (Z (QF x (U d n c)).toArray 87))):op.wp prog a w K Q:=by
 unfold Oper.wp execOp;simp only [e,gZ,iZ,jZ,f,kZ,mZ,eZ,zRb];exact h
theorem zJ3 {a:Act} {K:Act->wW->Prop} {Q:Exit->Act->wW->Prop} (s x:Operand) (E:o.op=.call {callee:=.builtin .append,args:=#[s,x],argTypes:=#[55,55]})
  (w:wW) (B:Nat) (y:B<=w.heap.size) (v:vW) (A:List (Wc.In × vW)) (G:a.eval s=v) (f:OwnI w B v A) (g n:Nat) (L:List (Wc.In × vW)) (D:n=L.length) (H:a.eval x=U (some ⟨g,0,none⟩) n n) (i:AtL w g (Qf L)) (m:∀ p ∈ L,∃ av n c,p.2=U av n c) (R:A.length+L.length<=2000000)
  (h:∀ e w',OwnI w' B e (A++L)->w.grownBy w' v.ownBlock->(e.ownBlock=v.ownBlock \/ e.ownBlock=some w.heap.size)->K (a.put o.dst e) w'):o.wp prog a w K Q:=by
 subst D;obtain ⟨I,l,q,r,t⟩:=info_parts zH0;have d:∀ j u,(Qf L)[j]? = some u->w.cell? ((⟨g,0,none⟩:Addr).add j)=some u:=λj u hj=>by
  have:=i.2.1 j u hj;rw [show (⟨g,0,none⟩:Addr).add j=⟨g,j,none⟩ from by
   simp [Addr.add];try (intro N;omega)]
  exact this
 obtain ⟨e,w',F,own,C,_,z⟩:=run_append_own_at (P:=prog) w B 55 o.type 87 I _ 23 208 underlying55 l q r t rfl dM v A.length (Qf A) f ⟨g,0,none⟩ L.length L.length (Qf L) (zD3 L) d (zBl L m) (by unfold maxLen;omega) oM y;unfold Oper.wp execOp;simp only [E,resolve,invoke,builtin,kZ,mZ,eZ,gZ,iZ,jZ,G,H,F];refine h e w' ?_ C z;unfold OwnI;rw [uZ,zDX];exact own
theorem zJu (k B:Nat) (x:Wc.In) (s0 s1 lv:vW) (A:List (Wc.In × vW)) (w:wW) (hw:AtL w k [s0,s1,lv]) (ho:OwnI w B lv A) (aq:k<B) (hB:B<=w.heap.size) (hl:A.length<=1000000) :
  cW prog 88 #[pX (some ⟨k,0,none⟩),gX (QF x QO).toArray] w λe w'=>(∃ lv',e=rX (uX #[])/\AtL w' k [s0,s1,lv']/\OwnI w' B lv' (A++[(x,QO)])/\∀ j,lv'.ownBlock=some j->lv.ownBlock=some j \/ w.heap.size<=j)/\Fr (k::lv.ownBlock.toList) w w':=by
 have ak:=AtL.new0 w 87 (QF x QO);have I:=QJ (cZ _ w) (Z (QF x QO).toArray 87);have ar:=AtL.below I hw;have ao:=hid (ho.below I);have am:hH (Fr (k::lv.ownBlock.toList) w (w.alloc (Z (QF x QO).toArray 87))):=Fr.of_below _ I;have ap:hH (B<=(w.alloc (Z (QF x QO).toArray 87)).heap.size/\w.heap.size<(w.alloc (Z (QF x QO).toArray 87)).heap.size):=⟨fZ hB I.size,ak.1⟩
 have HL:=hid hl;have E:hH (k<B/\B<=w.heap.size):=⟨aq,hB⟩
 have an:hH (∀ j,lv.ownBlock=some j->B<=j/\j<w.heap.size):=λj e=>QM ho e
 clear hw ho hl I aq hB;go_enter func88,ntmps88;go_upto_region 1 with fail
 generalize (w.alloc (Z (QF x QO).toArray 87))=W1 at *;have rb:=(cZ W1.heap.size W1).drew;have sI:=QG rb ak.range;have pW:=AtL.below rb ar;have sW:=pW.2.1 2 _ rfl;have ad:=hid (ao.out.below rb);have ac:=hid (am.out.trans (Fr.of_below _ rb));have F:hH (B<=W1.drew.heap.size/\w.heap.size<W1.drew.heap.size):=ap.out;clear rb ak ar ao am ap;refine wp_region_held_drew (S:=λW=>W.rangeAt w.heap.size 0 (QF x QO)) kR sI (λc=>?_);generalize W1.drew=t at *;refine tkQ 0 ?_
 refine tkQ 1 ?_
 refine tkQ 2 ?_
 refine tkQ 3 ?_
 refine wpAnyH_take (i:=5) (v:=gX (QF x QO).toArray) (atQ rfl) kR kR kR (λ_ _ _ h=>h) (yieldsIf_load_mid (by rfl) 87 (mX 3) rfl w.heap.size 0 rfl (QF x QO) _ (λ_ h=>h) underlying87 rfl kR) (by assumption) ?_;try simp only [Act.put,lA,lZ,lS]
 refine wpAnyH_ready (rs:=[4,6]) kR sM ?_;refine AllReadyH.cons (atQ rfl) (λK l=>?_) (AllReadyH.cons (atQ rfl) (λK l=>?_) AllReadyH.nil)
 ·go_simp
  refine hkQ l sI (λc=>?_);clear l K
  refine rdQ 6 (λK l=>?_);refine zHn (mX 9) rfl x none 0 0 rfl ?_;have d:=QJ (cZ _ t) (Z (QF x QO).toArray 87);have u:hH (AtL (t.alloc (Z (QF x QO).toArray 87)) t.heap.size (Qf [(x,QO)])):=by show AtL _ _ _;rw [show Qf [(x,QO)]=(QF x QO) from by simp [Qf]];exact AtL.new0 t _ _
  have z:=hid (ad.out.below d);have y:=hid (ac.out.trans (Fr.of_below _ d));have H:hH (B<=(t.alloc (Z (QF x QO).toArray 87)).heap.size/\w.heap.size<t.heap.size):=⟨fZ F.out.1 d.size,F.out.2⟩
  have s:=QG d sI;have X:=AtL.below d pW;have al:=QC d sW;clear d ad ac F sI pW sW;refine hkQ l s (λc=>?_);clear l K
  generalize (t.alloc (Z (QF x QO).toArray 87))=W2 at *;obtain ⟨g,hg⟩:=xV t.heap.size
  rw [hg] at u H;try simp only [hg]
  clear hg;refine rdQ 7 (λK l=>?_);refine zJ3 (mX 8) (mX 10) rfl W2 B H.out.1 lv A rfl z.out g 1 [(x,QO)] rfl rfl u.out (λp hp=>by simp at hp;subst hp;exact ⟨_,_,_,rfl⟩) (by have:=HL.out;simp;omega) ?_;intro v3 W3 m R hv3;have ag:=hid ((λj e=>by
   rcases hv3 with hv3 | hv3
   ·exact Or.inl (by rw [<-hv3];exact e)
   ·rw [hv3] at e;cases e;exact Or.inr y.out.size:∀ j,v3.ownBlock=some j->lv.ownBlock=some j \/ w.heap.size<=j))
  clear hv3;obtain ⟨g3,f,ev,av⟩:∃ g cap,v3=U (some ⟨g,0,none⟩) (A.length+1) cap/\B<=g:=by
   rcases m.2 with ⟨_,h0⟩ | ⟨g,cap,au,e,aj,_,hc,_⟩
   ·simp at h0
   ·exact ⟨g,cap,by rw [e];simp,aj⟩
  subst ev;have q:Fr lv.ownBlock.toList W2 W3:=Fr.of_grown R (λk e=>by simp [e]);have N:∀ j,lv.ownBlock=some j->B<=j/\j<W2.heap.size:=λj e=>QM z.out e
  have D:=q.range s (λe=>by have:=(an.out w.heap.size (by simpa using e)).2;omega);have C:=X.fr q (λe=>by have:=(N k (by simpa using e)).1;have:=E.out;omega);have ae:=hid (y.out.trans (q.mono (λj hj=>nZ _ hj)));have G:=hid m;clear m R q N y z u X s al;have aw:=C.2.1 2 _ rfl;have ax:=C.2.2 2 sM;refine hkQ l D (λc=>?_);clear l K
  refine tkQ 8 ?_
  refine tkQ 9 ?_
  refine rdQ 10 (λK l=>?_);go_simp
  have aa:=C.set 2 (U (some ⟨g3,0,none⟩) (A.length+1) f);have r:Fr [k] W3 (W3.setCell ⟨k,2,none⟩ (U (some ⟨g3,0,none⟩) (A.length+1) f)):=Fr.of_grown (QU _ _ _ _) (λj e=>by cases e;simp);have af:=hid (ae.out.trans (r.mono (λj hj=>by simp at hj;subst hj;exact oZ ..)));have ah:=hid (Q2 r G.out (λj e=>by have:=(QM G.out e).1;have:=E.out;simp;omega));have ab:=r.range D (by have:=E.out;simp;omega);have ai:=hid aa;generalize (W3.setCell ⟨k,2,none⟩ (U (some ⟨g3,0,none⟩) (A.length+1) f))=W4 at *;refine hkQ l ab (λc=>?_);clear l K
  refine wpAnyH_done kR ?_ _;clear c ab D aa r;go_wp2;go_end0
  exact ⟨⟨_,rfl,ai.out,ah.out,ag.out⟩,af.out⟩
 ·refine zHn (mX 9) rfl x none 0 0 rfl ?_;have d:=QJ (cZ _ t) (Z (QF x QO).toArray 87);have u:hH (AtL (t.alloc (Z (QF x QO).toArray 87)) t.heap.size (Qf [(x,QO)])):=by show AtL _ _ _;rw [show Qf [(x,QO)]=(QF x QO) from by simp [Qf]];exact AtL.new0 t _ _
  have z:=hid (ad.out.below d);have y:=hid (ac.out.trans (Fr.of_below _ d));have H:hH (B<=(t.alloc (Z (QF x QO).toArray 87)).heap.size/\w.heap.size<t.heap.size):=⟨fZ F.out.1 d.size,F.out.2⟩
  have s:=QG d sI;have X:=AtL.below d pW;have al:=QC d sW;clear d ad ac F sI pW sW;refine hkQ l s (λc=>?_);clear l K
  generalize (t.alloc (Z (QF x QO).toArray 87))=W2 at *;obtain ⟨g,hg⟩:=xV t.heap.size
  rw [hg] at u H;try simp only [hg]
  clear hg;refine rdQ 4 (λK l=>?_);try clear c
  go_simp
  refine hkQ l s (λc=>?_);clear l K
  refine rdQ 7 (λK l=>?_);refine zJ3 (mX 8) (mX 10) rfl W2 B H.out.1 lv A rfl z.out g 1 [(x,QO)] rfl rfl u.out (λp hp=>by simp at hp;subst hp;exact ⟨_,_,_,rfl⟩) (by have:=HL.out;simp;omega) ?_;intro v3 W3 m R hv3;have ag:=hid ((λj e=>by
   rcases hv3 with hv3 | hv3
   ·exact Or.inl (by rw [<-hv3];exact e)
   ·rw [hv3] at e;cases e;exact Or.inr y.out.size:∀ j,v3.ownBlock=some j->lv.ownBlock=some j \/ w.heap.size<=j))
  clear hv3;obtain ⟨g3,f,ev,av⟩:∃ g cap,v3=U (some ⟨g,0,none⟩) (A.length+1) cap/\B<=g:=by
   rcases m.2 with ⟨_,h0⟩ | ⟨g,cap,au,e,aj,_,hc,_⟩
   ·simp at h0
   ·exact ⟨g,cap,by rw [e];simp,aj⟩
  subst ev;have q:Fr lv.ownBlock.toList W2 W3:=Fr.of_grown R (λk e=>by simp [e]);have N:∀ j,lv.ownBlock=some j->B<=j/\j<W2.heap.size:=λj e=>QM z.out e
  have D:=q.range s (λe=>by have:=(an.out w.heap.size (by simpa using e)).2;omega);have C:=X.fr q (λe=>by have:=(N k (by simpa using e)).1;have:=E.out;omega);have ae:=hid (y.out.trans (q.mono (λj hj=>nZ _ hj)));have G:=hid m;clear m R q N y z u X s al;have aw:=C.2.1 2 _ rfl;have ax:=C.2.2 2 sM;refine hkQ l D (λc=>?_);clear l K
  refine tkQ 8 ?_
  refine tkQ 9 ?_
  refine rdQ 10 (λK l=>?_);go_simp
  have aa:=C.set 2 (U (some ⟨g3,0,none⟩) (A.length+1) f);have r:Fr [k] W3 (W3.setCell ⟨k,2,none⟩ (U (some ⟨g3,0,none⟩) (A.length+1) f)):=Fr.of_grown (QU _ _ _ _) (λj e=>by cases e;simp);have af:=hid (ae.out.trans (r.mono (λj hj=>by simp at hj;subst hj;exact oZ ..)));have ah:=hid (Q2 r G.out (λj e=>by have:=(QM G.out e).1;have:=E.out;simp;omega));have ab:=r.range D (by have:=E.out;simp;omega);have ai:=hid aa;generalize (W3.setCell ⟨k,2,none⟩ (U (some ⟨g3,0,none⟩) (A.length+1) f))=W4 at *;refine hkQ l ab (λc=>?_);clear l K
  refine wpAnyH_done kR ?_ _;clear c ab D aa r;go_wp2;go_end0
  exact ⟨⟨_,rfl,ai.out,ah.out,ag.out⟩,af.out⟩
open Go.RowKit Wf
structure WS (k B:Nat) (T:Nat->Nat) (w:wW) (s0 s1:vW) (L:List I) (lv:vW) (P:List (Wc.In × vW)):Prop where
 at':AtL w k [s0,s1,lv]
 own:OwnI w B lv P
 len:P.length=L.length
 ins:∀ i (h:i<P.length) (h':i<L.length),(P[i]).1=(L[i]).1/\OwnZ w (T i) (P[i]).2 (L[i]).2
 tb:∀ i,B<=T i
 dis:∀ i j (h:i<P.length) (h':j<P.length) b,(P[i]).2.ownBlock=some b->(P[j]).2.ownBlock=some b->i=j
def Nx (w:wW) (lv lv':vW):Prop:=∀ j,lv'.ownBlock=some j->lv.ownBlock=some j \/ w.heap.size<=j
theorem Nx.refl (w:wW) (lv:vW):Nx w lv lv:=λj e=>Or.inl e
theorem Nx.trans {a b c:vW} (h:Nx w a b) (d:Nx w1 b c) (f:w.heap.size<=w1.heap.size):Nx w a c:=λj e=>by
 rcases d j e with q | q
 ·exact h j q
 ·exact Or.inr (fZ f q)
theorem zMA {c:wW} {a b:vW} (h:Fr (k::a.ownBlock.toList) w w1) (d:Fr (k::b.ownBlock.toList) w1 c) (g:Nx w a b):Fr (k::a.ownBlock.toList) w c :=
 h.new d (λj f=>by
  rcases List.mem_cons.1 f with q | q
  ·exact Or.inl (by rw [q];exact oZ ..)
  ·rcases g j (by simpa using q) with e | e
   ·exact Or.inl (nZ _ (by simp [e]))
   ·exact Or.inr e)
def WP (k B:Nat) (T:Nat->Nat) (s0 s1:vW) (L:List I) (lv:vW) (w:wW) (e:Ending) (w':wW):Prop :=
 (∃ lv' c,e=rX (uX #[])/\WS k B T w' s0 s1 L lv' c/\Nx w lv lv')/\Fr (k::lv.ownBlock.toList) w w'
theorem JR {C T c m:Nat} {u:vW} {y:Nat} {D E:List vW} (h:w.ownsRow B T k u n D) (x:w.ownsRow C c m v y E) (f:¬ T=c) {b:Nat} (e:u.ownBlock=some b):¬ v.ownBlock=some b:=λd=>by
 rcases h.2 with ⟨q,_⟩ | ⟨s,F,i,z,_,l,_⟩
 ·rw [q] at e;cases e
 ·rcases x.2 with ⟨q,_⟩ | ⟨t,G,j,A,_,g,_⟩
  ·rw [q] at d;cases d
  ·rw [z] at e;rw [A] at d;have p:s=b:=by simpa [Value.ownBlock] using e
   have r:t=b:=by simpa [Value.ownBlock] using d
   rw [p] at l;rw [r,l] at g;simp only [Option.some.injEq,Obj.cells.injEq] at g;exact f g.2.1
theorem WS.fr (h:WS k B T w s0 s1 L lv P) {S:List Nat} (f:Fr S w w') (g:k ∉ S) (l:∀ j,lv.ownBlock=some j->j ∉ S) (m:∀ i (h:i<P.length) b,(P[i]).2.ownBlock=some b->b ∉ S):WS k B T w' s0 s1 L lv P :=
 ⟨h.at'.fr f g,Q2 f h.own l,h.len,λi c d=>⟨(h.ins i c d).1,Q2 f (h.ins i c d).2 (λj e=>m i c j e)⟩,h.tb,h.dis⟩
theorem WS.below (h:WS k B T w s0 s1 L lv P) (c:bL w w'):WS k B T w' s0 s1 L lv P :=
 h.fr (Fr.of_below [] c) sM (λj _=>by simp) (λi _ b _=>by simp)
theorem Qy (k B:Nat) (T:Nat->Nat) (x:Wc.In) (s0 s1:vW) (L:List I) (lv:vW) (P:List (Wc.In × vW)) (w:wW) (h:WS k B T w s0 s1 L lv P) (m:k<B) (z:B<=w.heap.size) (C:L.length<=1000000) :
  cW prog 88 #[pX (some ⟨k,0,none⟩),gX (QF x QO).toArray] w (WP k B T s0 s1 (L++[(x,[])]) lv w):=by
 refine (zJu k B x s0 s1 lv P w h.at' h.own m z (by rw [h.len];exact C)).mono ?_;rintro e w' ⟨⟨lv',rfl,A,F,E⟩,t⟩;refine ⟨⟨lv',P++[(x,QO)],rfl,⟨A,F,by simp [h.len],λi f s=>?_,h.tb,λi j f s b l d=>?_⟩,E⟩,t⟩
 ·by_cases g:i<P.length
  ·have c:i<L.length:=by rw [<-h.len];exact g
   rw [hZ g,hZ c];refine ⟨(h.ins i g c).1,Q2 t (h.ins i g c).2 (λb e D=>?_)⟩;rcases List.mem_cons.1 D with q | q
   ·have:=(QM (h.ins i g c).2 e).1;have:=h.tb i;omega
   ·exact JR (h.ins i g c).2 h.own dM e (by simpa using q)
  ·have l:i=P.length:=by simp at f;omega
   subst l;have d:(P++[(x,QO)])[P.length]=(x,QO):=sM;have y:(L++[(x,([]:List Int))])[P.length]=(x,[]):=by simp [h.len]
   rw [d,y];exact ⟨rfl,OwnZ.nil _ _⟩
 ·have u:∀ i (f:i<(P++[(x,QO)]).length),((P++[(x,QO)])[i]).2.ownBlock=some b->i<P.length:=λi f e=>by
   rcases vZ i P.length with q | q
   ·exact q
   ·have e0:i=P.length:=by simp at f;omega
    subst e0;have d:(P++[(x,QO)])[P.length]=(x,QO):=sM;rw [d] at e;cases e
  have p:=u i f l;have r:=u j s d;rw [hZ p] at l;rw [hZ r] at d;exact h.dis i j p r b l d
def Cl (k:Nat) (w:wW) (f at':Nat) (g:List Nat) (cl:vW):Prop:=∃ d e c,g=[d,e,c]/\cl=.func (.func 222) #[] #[pX (some ⟨d,0,none⟩),pX (some ⟨e,0,none⟩),pX (some ⟨c,0,none⟩)] /\
 w.cell? ⟨d,0,none⟩=some (.func (.func f) #[] #[])/\w.cell? ⟨e,0,none⟩=some (pX (some ⟨k,0,none⟩))/\w.cell? ⟨c,0,none⟩=some (O J (at':Int))
theorem Cl.fr {f at':Nat} {c:List Nat} {cl:vW} (h:Cl k w f at' c cl) {S:List Nat} (d:Fr S w w') (g:∀ b ∈ c,b ∉ S):Cl k w' f at' c cl:=by
 obtain ⟨j,l,i,rfl,e,m,p,q⟩:=h;exact ⟨j,l,i,rfl,e,d.cell m (g _ sM),d.cell p (g _ sM),d.cell q (g _ sM)⟩
theorem zBf (k B f:Nat) (T:Nat->Nat) (s0 s1:vW) (L:List I) (lv:vW) (P:List (Wc.In × vW)) (w:wW) (h:WS k B T w s0 s1 L lv P) (A:0<L.length) (F:L.length<=1000000) :
  cW prog 205 #[pX (some ⟨k,0,none⟩),.func (.func f) #[] #[]] w λe w'=>(∃ cl bs,e=rX cl/\Cl k w' f (L.length - 1) bs cl/\∀ b ∈ bs,w.heap.size<=b/\b<w'.heap.size)/\bL w w':=by
 have r:=h.len;rcases h.own.2 with ⟨e,C⟩ | ⟨g,cap,y,e,_⟩
 ·rw [r] at C;omega
 subst e;rw [r] at h;obtain ⟨m,u⟩:=xV L.length
 rw [u] at h A F ⊢;have t:=h.at'.2.1 2 _ rfl;have G:=h.at'.lt;clear r u h;have c:=QJ (QJ (cZ _ w) (Z #[pX (some ⟨k,0,none⟩)] 209)) (Z #[.func (.func f) #[] #[]] 295);have s:=(AtL.new0 w 209 [pX (some ⟨k,0,none⟩)]).alloc (Z #[.func (.func f) #[] #[]] 295);have x:=AtL.new1 w (Z #[pX (some ⟨k,0,none⟩)] 209) 295 [.func (.func f) #[] #[]];have z:=QC c t;have N:=s.2.1 0 _ rfl;have H:J.wrap ((m:Int) - 1)=((m - 1:Nat):Int):=by rw [IntKind.wrap_i64];omega
 clear t;go_enter func205,ntmps205;go_upto_region 1 with fail
 generalize ((w.alloc (Z [pX (some ⟨k,0,none⟩)].toArray 209)).alloc (Z [.func (.func f) #[] #[]].toArray 295))=W at *;have d:=QJ (cZ _ W) (Z #[O J ((m - 1:Nat):Int)] 3);have pA:=AtL.new0 W 3 [O J ((m - 1:Nat):Int)];have p:=AtL.below d s;have j:=AtL.below d x;have D:=QA c d;go_upto_region 2 with fail
 have l:=c.size;clear z N s x c d;generalize (W.alloc (Z [O J ((m - 1:Nat):Int)].toArray 3))=R at *;have i:=hid (And.intro (j.2.1 0 _ rfl) (And.intro (p.2.1 0 _ rfl) (pA.2.1 0 _ rfl)));have q:=hid (And.intro j.lt (And.intro pA.lt l));clear p j pA l;go_wp2;go_ret;refine ⟨⟨_,_,rfl,⟨_,_,_,rfl,rfl,i.out.1,i.out.2.1,i.out.2.2⟩,λb E=>?_⟩,D⟩;have S:=q.out;simp at E;omega
theorem zBS:∀ (A:List (Wc.In × vW)) (i:Nat) (h:i<A.length) (j:Nat) (v:vW),(QF (A[i]).1 (A[i]).2)[j]? = some v->(Qf A)[i * 23+j]? = some v
 | [],i,h,_,_,_=>absurd h (Nat.not_lt_zero _)
 | x::r,0,h,j,v,hv=>by
  have d:j<(QF x.1 x.2).length:=by
   rcases vZ j (QF x.1 x.2).length with q | q
   ·exact q
   ·simp only [rZ] at hv;rw [sZ q] at hv;cases hv
  simp only [Qf,wZ,xZ];rw [List.getElem?_append_left d];exact hv
 | x::r,i+1,h,j,v,hv=>by
  have c:(QF x.1 x.2).length=23:=rfl;simp only [Qf];rw [List.getElem?_append_right (by rw [c];omega),c,show (i+1) * 23+j - 23=i * 23+j from by omega];exact zBS r i (by simpa using h) j v (by simpa using hv)
theorem zBm (A:List (Wc.In × vW)) (i:Nat) (h:i<A.length) (y:Wc.In × vW) (j:Nat) (u:vW) (d:(QF (A[i]).1 (A[i]).2).set j u=QF y.1 y.2) (e:j<23):(Qf A).set (i * 23+j) u=Qf (A.set i y):=by
 induction A generalizing i with
 | nil=>cases h
 | cons x r f =>
  have c:(QF x.1 x.2).length=23:=rfl;cases i with
  | zero =>
   simp only [Qf,List.set_cons_zero,wZ,xZ];rw [List.set_append_left _ _ (by rw [c];exact e)];simp only [rZ] at d;rw [d]
  | succ i =>
   simp only [Qf,List.set_cons_succ];rw [List.set_append_right _ _ (by rw [c];omega),c,show (i+1) * 23+j - 23=i * 23+j from by omega];rw [f i (by simpa using h) (by simpa using d)]
theorem zJE {g o:Nat} (h:WS k B T (w.setCell ⟨g,o,none⟩ v) s0 s1 L lv P):WS k B T (w.drew.setCell ⟨g,o,none⟩ v) s0 s1 L lv P:=by
 have c:Below (w.setCell ⟨g,o,none⟩ v).heap.size (w.setCell ⟨g,o,none⟩ v) (w.setCell ⟨g,o,none⟩ v).drew:=(cZ _ _).drew;exact h.below c
theorem zNg (h:WS k B T w s0 s1 L lv P) (x:k<B) {g cap i:Nat} (p:lv=U (some ⟨g,0,none⟩) P.length cap) (t:i<P.length) (u:i<L.length) (v:Int) :
  WS k B T (w.setCell ⟨g,i * 23+1,none⟩ (O J v)) s0 s1 (L.set i ({(L[i]).1 with a:=v},(L[i]).2)) lv (P.set i ({(P[i]).1 with a:=v},(P[i]).2)):=by
 subst p;have m:=h.own.stored (i * 23+1) (O J v);have y:=(QM h.own (show Value.ownBlock (U (some ⟨g,0,none⟩) P.length cap)=some g from rfl)).1;have q:Fr [g] w (w.setCell ⟨g,i * 23+1,none⟩ (O J v)):=Fr.of_grown m.2 (λj e=>by cases e;simp);have l:∀ j (d:j<P.length),((P.set i ({(P[i]).1 with a:=v},(P[i]).2))[j]'(by rw [dZ];exact d)).2=(P[j]).2:=λj d=>by
  by_cases e:i=j
  ·subst e;rw [bZ]
  ·rw [aZ e]
 refine ⟨h.at'.fr q (by simp;omega),?_,by simp [h.len],λj d f=>?_,h.tb,λa b d f c e1 e2=>?_⟩
 ·have:=m.1;rw [zBm P i t ({(P[i]).1 with a:=v},(P[i]).2) 1 _ rfl oM] at this;unfold OwnI;rw [dZ];exact this
 ·rw [dZ] at d f;have s:OwnZ (w.setCell ⟨g,i * 23+1,none⟩ (O J v)) (T j) (P[j]).2 (L[j]).2:=Q2 q (h.ins j d f).2 (λb e r=>JR (h.ins j d f).2 h.own dM e (by simp at r;rw [r];rfl));by_cases e:i=j
  ·subst e;rw [bZ,bZ];exact ⟨by rw [(h.ins i d f).1],s⟩
  ·rw [aZ e,aZ e];exact ⟨(h.ins j d f).1,s⟩
 ·rw [dZ] at d f;rw [l a d] at e1;rw [l b f] at e2;exact h.dis a b d f c e1 e2
theorem zOC (h:WS k B T w s0 s1 L lv P) (x:k<B) {g cap i:Nat} (p:lv=U (some ⟨g,0,none⟩) P.length cap) (t:i<P.length) (u:i<L.length) (v:Int) :
  WS k B T (w.setCell ⟨g,i * 23+2,none⟩ (O J v)) s0 s1 (L.set i ({(L[i]).1 with b:=v},(L[i]).2)) lv (P.set i ({(P[i]).1 with b:=v},(P[i]).2)):=by
 subst p;have m:=h.own.stored (i * 23+2) (O J v);have y:=(QM h.own (show Value.ownBlock (U (some ⟨g,0,none⟩) P.length cap)=some g from rfl)).1;have q:Fr [g] w (w.setCell ⟨g,i * 23+2,none⟩ (O J v)):=Fr.of_grown m.2 (λj e=>by cases e;simp);have l:∀ j (d:j<P.length),((P.set i ({(P[i]).1 with b:=v},(P[i]).2))[j]'(by rw [dZ];exact d)).2=(P[j]).2:=λj d=>by
  by_cases e:i=j
  ·subst e;rw [bZ]
  ·rw [aZ e]
 refine ⟨h.at'.fr q (by simp;omega),?_,by simp [h.len],λj d f=>?_,h.tb,λa b d f c e1 e2=>?_⟩
 ·have:=m.1;rw [zBm P i t ({(P[i]).1 with b:=v},(P[i]).2) 2 _ rfl oM] at this;unfold OwnI;rw [dZ];exact this
 ·rw [dZ] at d f;have s:OwnZ (w.setCell ⟨g,i * 23+2,none⟩ (O J v)) (T j) (P[j]).2 (L[j]).2:=Q2 q (h.ins j d f).2 (λb e r=>JR (h.ins j d f).2 h.own dM e (by simp at r;rw [r];rfl));by_cases e:i=j
  ·subst e;rw [bZ,bZ];exact ⟨by rw [(h.ins i d f).1],s⟩
  ·rw [aZ e,aZ e];exact ⟨(h.ins j d f).1,s⟩
 ·rw [dZ] at d f;rw [l a d] at e1;rw [l b f] at e2;exact h.dis a b d f c e1 e2
theorem zIC (g o:Nat) (v:Int) (u:vW) (w:wW) (c:w.cell? ⟨g,o+1,none⟩=some u) (d:w.frozen? ⟨g,o+1,none⟩=false):cW prog 206 #[pX (some ⟨g,o,none⟩),O J v] w λe w'=>e=rX (uX #[])/\w'=w.setCell ⟨g,o+1,none⟩ (O J v):=by
 go_enter func206,ntmps206;go_wp2;go_end0
 exact ⟨rfl,rfl⟩
theorem zJ9 (g o:Nat) (v:Int) (u:vW) (w:wW) (c:w.cell? ⟨g,o+2,none⟩=some u) (d:w.frozen? ⟨g,o+2,none⟩=false):cW prog 207 #[pX (some ⟨g,o,none⟩),O J v] w λe w'=>e=rX (uX #[])/\w'=w.setCell ⟨g,o+2,none⟩ (O J v):=by
 go_enter func207,ntmps207;go_wp2;go_end0
 exact ⟨rfl,rfl⟩
theorem zE7 (k B:Nat) (T:Nat->Nat) (s0 s1:vW) (L:List I) (lv:vW) (P:List (Wc.In × vW)) (w:wW) (at':Nat) (F G E:Nat) (h:WS k B T w s0 s1 L lv P) (af:k<B) (hl:L.length<=1000000) (i:at' < L.length)
  (A:w.cell? ⟨F,0,none⟩=some (.func (.func 206) #[] #[])) (C:w.cell? ⟨G,0,none⟩=some (pX (some ⟨k,0,none⟩))) (N:w.cell? ⟨E,0,none⟩=some (O J (at':Int))) (hn:∀ b,lv.ownBlock=some b->F ≠ b/\G ≠ b/\E ≠ b) :
  cW prog 222 #[pX (some ⟨F,0,none⟩),pX (some ⟨G,0,none⟩),pX (some ⟨E,0,none⟩)] w λe w'=>(∃ P',e=rX (uX #[])/\WS k B T w' s0 s1 (L.set at' ({(L[at']).1 with a:=(L.length:Int)},(L[at']).2)) lv P')/\Fr lv.ownBlock.toList w w':=by
 have t:=h.len;rcases h.own.2 with ⟨e,h9⟩ | ⟨g,cap,ag,e,aj,_⟩
 ·rw [t] at h9;omega
 have l:at' < P.length:=by rw [t];exact i
 have c:=zNg h af e l i (L.length:Int);subst e;have q:=h.own;have p:=q.cellAt (at' * 23+1) oM;have y:=q.frozenAt (at' * 23+1);rw [zBS P at' l 1 (O J (P[at']).1.a) rfl] at p;rw [t] at h c hn ⊢;obtain ⟨m,hm⟩:=xV L.length
 have ab:hH (at' < m/\m<=1000000):=by rw [hm] at i hl;exact ⟨i,hl⟩
 have H:=h.at'.2.1 2 _ rfl;have x:=hn g rfl;have aa:g ≠ k:=oM;have z:hH (F ∉ [g]/\G ∉ [g]/\E ∉ [g]/\k ∉ [g]):=⟨by simpa using x.1,by simpa using x.2.1,by simpa using x.2.2,by simpa using aa.symm⟩
 obtain ⟨L2,D⟩:=xV (L.set at' ({(L[at']).1 with a:=(L.length:Int)},(L[at']).2))
 obtain ⟨P2,R⟩:=xV (P.set at' ({(P[at']).1 with a:=(L.length:Int)},(P[at']).2))
 rw [D,R] at c;rw [D];rw [hm] at H c ⊢;have ae:Fr [g] w (w.setCell ⟨g,at' * 23+1,none⟩ (O J (m:Int))):=Fr.of_grown (QU _ _ _ _) (λj e=>by cases e;simp);have X:=(cZ w.heap.size w).drew;have r:=zJE c;have d:Fr [g] w.drew (w.drew.setCell ⟨g,at' * 23+1,none⟩ (O J (m:Int))):=Fr.of_grown (QU _ _ _ _) (λj e=>by cases e;simp);have ac:=hid ((Fr.of_below [g] X).trans d);have ad:=hid r;have s:=z;replace p:w.drew.cell? ⟨g,at' * 23+1,none⟩=some (O J (P[at']).1.a):=p
 replace y:w.drew.frozen? ⟨g,at' * 23+1,none⟩=false:=y
 replace A:w.drew.cell? ⟨F,0,none⟩=some (.func (.func 206) #[] #[]):=A
 replace C:w.drew.cell? ⟨G,0,none⟩=some (pX (some ⟨k,0,none⟩)):=C
 replace N:w.drew.cell? ⟨E,0,none⟩=some (O J (at':Int)):=N
 replace H:w.drew.cell? ⟨k,2,none⟩=some (U (some ⟨g,0,none⟩) m cap):=H
 have ai:(at':Int)<(m:Int):=by have:=ab.out;omega
 have ah:(0:Int)<=(at':Int):=oM;have IN:=λ(W:wW) (A:W.cell? ⟨g,at' * 23+1,none⟩=some (O J (P[at']).1.a)) (C:W.frozen? ⟨g,at' * 23+1,none⟩=false)=>zIC g (at' * 23) (m:Int) _ W A C
 generalize (P[at']).1.a=u at *;clear c r ae X q h t l i hl hm hn x aa z D R;go_enter func222,ntmps222;refine wp_region_held_drew (S:=λW=>W.cell? ⟨F,0,none⟩=some (.func (.func 206) #[] #[])/\W.cell? ⟨G,0,none⟩=some (pX (some ⟨k,0,none⟩))/\W.cell? ⟨E,0,none⟩=some (O J (at':Int))/\W.cell? ⟨k,2,none⟩=some (U (some ⟨g,0,none⟩) m cap)) kR ⟨A,C,N,H⟩ (λf=>?_);generalize w.drew=WD at *;refine tkQ 0 ?_
 refine tkQ 1 ?_
 refine tkQ 2 ?_
 refine tkQ 3 ?_
 refine tkQ 4 ?_
 refine tkQ 5 ?_
 refine tkQ 6 ?_
 refine tkQ 7 ?_
 refine tkQ 8 ?_
 refine tkQ 9 ?_
 refine tkQ 10 ?_
 refine tkQ 11 ?_
 refine rdQ 12 (λK hK=>?_);go_simp
 refine (IN _ p y).mono ?_;rintro e w2 ⟨rfl,rfl⟩;go_wp2_with fail
 refine hkQ hK ⟨d.cell A s.out.1,d.cell C s.out.2.1,d.cell N s.out.2.2.1,d.cell H s.out.2.2.2⟩ (λf=>?_);clear hK K
 refine wpAnyH_done kR ?_ _;clear f A C N H p y d IN;go_wp2;go_end0
 exact ⟨⟨_,rfl,ad.out⟩,ac.out⟩
theorem zHq (k B:Nat) (T:Nat->Nat) (s0 s1:vW) (L:List I) (lv:vW) (P:List (Wc.In × vW)) (w:wW) (at':Nat) (F G E:Nat) (h:WS k B T w s0 s1 L lv P) (af:k<B) (hl:L.length<=1000000) (i:at' < L.length)
  (A:w.cell? ⟨F,0,none⟩=some (.func (.func 207) #[] #[])) (C:w.cell? ⟨G,0,none⟩=some (pX (some ⟨k,0,none⟩))) (N:w.cell? ⟨E,0,none⟩=some (O J (at':Int))) (hn:∀ b,lv.ownBlock=some b->F ≠ b/\G ≠ b/\E ≠ b) :
  cW prog 222 #[pX (some ⟨F,0,none⟩),pX (some ⟨G,0,none⟩),pX (some ⟨E,0,none⟩)] w λe w'=>(∃ P',e=rX (uX #[])/\WS k B T w' s0 s1 (L.set at' ({(L[at']).1 with b:=(L.length:Int)},(L[at']).2)) lv P')/\Fr lv.ownBlock.toList w w':=by
 have t:=h.len;rcases h.own.2 with ⟨e,h9⟩ | ⟨g,cap,ag,e,aj,_⟩
 ·rw [t] at h9;omega
 have l:at' < P.length:=by rw [t];exact i
 have c:=zOC h af e l i (L.length:Int);subst e;have q:=h.own;have p:=q.cellAt (at' * 23+2) oM;have y:=q.frozenAt (at' * 23+2);rw [zBS P at' l 2 (O J (P[at']).1.b) rfl] at p;rw [t] at h c hn ⊢;obtain ⟨m,hm⟩:=xV L.length
 have ab:hH (at' < m/\m<=1000000):=by rw [hm] at i hl;exact ⟨i,hl⟩
 have H:=h.at'.2.1 2 _ rfl;have x:=hn g rfl;have aa:g ≠ k:=oM;have z:hH (F ∉ [g]/\G ∉ [g]/\E ∉ [g]/\k ∉ [g]):=⟨by simpa using x.1,by simpa using x.2.1,by simpa using x.2.2,by simpa using aa.symm⟩
 obtain ⟨L2,D⟩:=xV (L.set at' ({(L[at']).1 with b:=(L.length:Int)},(L[at']).2))
 obtain ⟨P2,R⟩:=xV (P.set at' ({(P[at']).1 with b:=(L.length:Int)},(P[at']).2))
 rw [D,R] at c;rw [D];rw [hm] at H c ⊢;have ae:Fr [g] w (w.setCell ⟨g,at' * 23+2,none⟩ (O J (m:Int))):=Fr.of_grown (QU _ _ _ _) (λj e=>by cases e;simp);have X:=(cZ w.heap.size w).drew;have r:=zJE c;have d:Fr [g] w.drew (w.drew.setCell ⟨g,at' * 23+2,none⟩ (O J (m:Int))):=Fr.of_grown (QU _ _ _ _) (λj e=>by cases e;simp);have ac:=hid ((Fr.of_below [g] X).trans d);have ad:=hid r;have s:=z;replace p:w.drew.cell? ⟨g,at' * 23+2,none⟩=some (O J (P[at']).1.b):=p
 replace y:w.drew.frozen? ⟨g,at' * 23+2,none⟩=false:=y
 replace A:w.drew.cell? ⟨F,0,none⟩=some (.func (.func 207) #[] #[]):=A
 replace C:w.drew.cell? ⟨G,0,none⟩=some (pX (some ⟨k,0,none⟩)):=C
 replace N:w.drew.cell? ⟨E,0,none⟩=some (O J (at':Int)):=N
 replace H:w.drew.cell? ⟨k,2,none⟩=some (U (some ⟨g,0,none⟩) m cap):=H
 have ai:(at':Int)<(m:Int):=by have:=ab.out;omega
 have ah:(0:Int)<=(at':Int):=oM;have IN:=λ(W:wW) (A:W.cell? ⟨g,at' * 23+2,none⟩=some (O J (P[at']).1.b)) (C:W.frozen? ⟨g,at' * 23+2,none⟩=false)=>zJ9 g (at' * 23) (m:Int) _ W A C
 generalize (P[at']).1.b=u at *;clear c r ae X q h t l i hl hm hn x aa z D R;go_enter func222,ntmps222;refine wp_region_held_drew (S:=λW=>W.cell? ⟨F,0,none⟩=some (.func (.func 207) #[] #[])/\W.cell? ⟨G,0,none⟩=some (pX (some ⟨k,0,none⟩))/\W.cell? ⟨E,0,none⟩=some (O J (at':Int))/\W.cell? ⟨k,2,none⟩=some (U (some ⟨g,0,none⟩) m cap)) kR ⟨A,C,N,H⟩ (λf=>?_);generalize w.drew=WD at *;refine tkQ 0 ?_
 refine tkQ 1 ?_
 refine tkQ 2 ?_
 refine tkQ 3 ?_
 refine tkQ 4 ?_
 refine tkQ 5 ?_
 refine tkQ 6 ?_
 refine tkQ 7 ?_
 refine tkQ 8 ?_
 refine tkQ 9 ?_
 refine tkQ 10 ?_
 refine tkQ 11 ?_
 refine rdQ 12 (λK hK=>?_);go_simp
 refine (IN _ p y).mono ?_;rintro e w2 ⟨rfl,rfl⟩;go_wp2_with fail
 refine hkQ hK ⟨d.cell A s.out.1,d.cell C s.out.2.1,d.cell N s.out.2.2.1,d.cell H s.out.2.2.2⟩ (λf=>?_);clear hK K
 refine wpAnyH_done kR ?_ _;clear f A C N H p y d IN;go_wp2;go_end0
 exact ⟨⟨_,rfl,ad.out⟩,ac.out⟩
theorem zD6 {ops:Array Oper} {rest:List Oper} {a:Act} {Q:Exit->Act->wW->Prop} (i:o.guard=none) (s x:Operand) (E:o.op=.call {callee:=.builtin .append,args:=#[s,x],argTypes:=#[85,85]})
  (w:wW) (B:Nat) (t:B<=w.heap.size) (v:vW) (A:List Int) (G:a.eval s=v) (e:OwnZ w B v A) (g:Nat) (y:Int) (H:a.eval x=U (some ⟨g,0,none⟩) 1 1) (f:w.cell? ⟨g,0,none⟩=some (O J y)) (r:True->A.length<=1000000)
  (h:∀ d w',OwnZ w' B d (A++[y])->w.grownBy w' v.ownBlock->(d.ownBlock=v.ownBlock \/ d.ownBlock=some w.heap.size)->wpList prog ops Q rest (a.put o.dst d) w'):wpList prog ops Q (o::rest) a w:=by
 obtain ⟨I,l,m,p,q⟩:=info_parts zI0;have r:=r trivial;refine wpList_plain i λK z=>?_
 have c:∀ j u,([O J y])[j]? = some u->w.cell? ((⟨g,0,none⟩:Addr).add j)=some u:=λj u hj=>by
  cases j with
  | zero=>simp only [List.getElem?_cons_zero,Option.some.injEq] at hj;subst hj;exact f
  | succ j=>simp at hj
 obtain ⟨d,w',F,own,D,_,C⟩:=run_append_own_at (P:=prog) w B 85 o.type 3 I _ 1 8 underlying85 l m p q rfl dM v A.length (A.map (O J)) e ⟨g,0,none⟩ 1 1 [O J y] rfl c (λu hu=>by simp at hu;subst hu;rfl) (by unfold maxLen;omega) oM t;unfold Oper.wp execOp;simp only [E,resolve,invoke,builtin,kZ,mZ,eZ,gZ,iZ,jZ,G,H,F];refine z _ _ (h d w' ?_ D C);unfold OwnZ;rw [uZ,List.map_append];exact own
theorem OwnZ.slice {A:List Int} (h:OwnZ w B v A):∃ a m c,v=U a m c:=by
 rcases h.2 with ⟨e,_⟩ | ⟨g,cap,d,e,_⟩
 ·exact ⟨_,_,_,e⟩
 ·exact ⟨_,_,_,e⟩
theorem zGZ (g o B:Nat) (v:Int) (tv:vW) (m:List Int) (w:wW) (E:w.cell? ⟨g,o+22,none⟩=some tv) (R:w.frozen? ⟨g,o+22,none⟩=false) (H:OwnZ w B tv m) (D:B<=w.heap.size) (G:m.length<=1000000) (F:¬ tv.ownBlock=some g):cW prog 209 #[pX (some ⟨g,o,none⟩),O J v] w λe w'=>e=rX (uX #[])/\∃ tv' w1,OwnZ w1 B tv' (m++[v])/\Fr tv.ownBlock.toList w w1/\(∀ j,tv'.ownBlock=some j->tv.ownBlock=some j \/ w.heap.size<=j)/\w'=w1.setCell ⟨g,o+22,none⟩ tv':=by
 have c:=QJ (cZ _ w) (Z #[O J v] 3);have I:=AtL.new0 w 3 [O J v];have A:hH (OwnZ (w.alloc (Z #[O J v] 3)) B tv m):=H.below c;have C:hH ((w.alloc (Z #[O J v] 3)).cell? ⟨w.heap.size,0,none⟩=some (O J v)):=I.2.1 0 _ rfl;have y:=hid (And.intro (fZ D c.size) c.size);have N:=hid G;have z:=hid F;have p:hH ((w.alloc (Z #[O J v] 3)).cell? ⟨g,o+22,none⟩=some tv/\(w.alloc (Z #[O J v] 3)).frozen? ⟨g,o+22,none⟩=false):=⟨QC c E,by rw [(Fr.of_below [] c).frozen (Q8 E) sM];exact R⟩
 have f:hH (Fr tv.ownBlock.toList w (w.alloc (Z #[O J v] 3))):=Fr.of_below _ c;clear I c H D G F;go_enter func209,ntmps209;go_wp2_with (first
  | (
    refine zD6 rfl (mX 8) (mX 10) rfl (w.alloc (Z #[O J v] 3)) B y.out.1 tv m rfl A.out w.heap.size v rfl C.out (λ_=>N.out) ?_;intro x w1 d i l;have r:Fr tv.ownBlock.toList (w.alloc (Z #[O J v] 3)) w1:=Fr.of_grown i (λj e=>by simp [e]);have W:=r.cell p.out.1 (λe=>z.out (by simpa using e));have z1:w1.frozen? ⟨g,o+22,none⟩=false:=by rw [r.frozen (Q8 p.out.1) (λe=>z.out (by simpa using e))];exact p.out.2
    have s:=hid (f.out.trans r);have t:=hid d;have u:=hid ((λj e=>by
     rcases l with q | q
     ·exact Or.inl (by rw [<-q];exact e)
     ·rw [q] at e;cases e;exact Or.inr y.out.2:∀ j,x.ownBlock=some j->tv.ownBlock=some j \/ w.heap.size<=j))
    obtain ⟨S,m8,X,rfl⟩:=d.slice;clear d i l r A C p f))
 go_end0
 exact ⟨rfl,_,_,t.out,s.out,u.out,rfl⟩
theorem zNR (h:WS k B T w s0 s1 L lv P) (R:k<B) {g cap i:Nat} (I:lv=U (some ⟨g,0,none⟩) P.length cap) (E:i<P.length) (G:i<L.length) (v:Int) {f:vW} (C:Fr (P[i]).2.ownBlock.toList w w1) (N:OwnZ w1 (T i) f ((L[i]).2++[v])) (S:Nx w (P[i]).2 f) :
  WS k B T (w1.setCell ⟨g,i * 23+22,none⟩ f) s0 s1 (L.set i ((L[i]).1,(L[i]).2++[v])) lv (P.set i ((P[i]).1,f))/\Fr (lv.ownBlock.toList++(P[i]).2.ownBlock.toList) w (w1.setCell ⟨g,i * 23+22,none⟩ f):=by
 have u:=(h.ins i E G).2;have H:∀ j,lv.ownBlock=some j->j ∉ (P[i]).2.ownBlock.toList:=λj e l=>JR h.own u dM e (by simpa using l)
 have F:=λ(e:lv.ownBlock=some g)=>(QM h.own e).1
 subst I;have W:=F rfl;have m:=Q2 C h.own H;have z:=m.stored (i * 23+22) f;have D:Fr [g] w1 (w1.setCell ⟨g,i * 23+22,none⟩ f):=Fr.of_grown z.2 (λj e=>by cases e;simp);refine ⟨⟨(h.at'.fr C (λl=>by have:=(QM u (show (P[i]).2.ownBlock=some k by simpa using l)).1;have:=h.tb i;omega)).fr D (by simp;omega),?_,by simp [h.len],λj r s=>?_,h.tb,λa b r s c e1 e2=>?_⟩,?_⟩
 ·have:=z.1;rw [zBm P i E ((P[i]).1,f) 22 _ rfl oM] at this;unfold OwnI;rw [dZ];exact this
 ·rw [dZ] at r s;by_cases e:i=j
  ·subst e;rw [bZ,bZ];exact ⟨(h.ins i r s).1,Q2 D N (λb e l=>by
    simp at l;subst l;exact JR N m dM e rfl)⟩
  ·rw [aZ e,aZ e];have t:=(h.ins j r s).2;have x:=Q2 C t (λb p l=>e (h.dis i j E r b (by simpa using l) p));exact ⟨(h.ins j r s).1,Q2 D x (λb p l=>by
    simp at l;subst l;exact JR x m dM p rfl)⟩
 ·rw [dZ] at r s;have y:∀ d (hd:d<P.length),¬ i=d->(P[d]).2.ownBlock=some c->f.ownBlock=some c->False:=λd hd hid ed et=>by
   rcases S c et with q | q
   ·exact hid (h.dis i d E hd c q ed)
   ·have:=(QM (h.ins d hd (by rw [<-h.len];exact hd)).2 ed).2;omega
  by_cases A:i=a
  ·by_cases p:i=b
   ·omega
   ·subst A;rw [bZ] at e1;rw [aZ p] at e2;exact (y b s p e2 e1).elim
  ·by_cases p:i=b
   ·subst p;rw [bZ] at e2;rw [aZ A] at e1;exact (y a r A e1 e2).elim
   ·rw [aZ A] at e1;rw [aZ p] at e2;exact h.dis a b r s c e1 e2
 ·exact (C.mono (λj t=>List.mem_append_right _ t)).trans (D.mono (λj t=>by simp at t;subst t;exact List.mem_append_left _ (by simp [Value.ownBlock])))
theorem zOV (k B:Nat) (T:Nat->Nat) (s0 s1:vW) (L:List I) (lv:vW) (P:List (Wc.In × vW)) (w:wW) (at':Nat) (N R H:Nat) (h:WS k B T w s0 s1 L lv P) (am:k<B) (hB:T at'<=w.heap.size) (hl:L.length<=1000000) (f:at' < L.length) (c:at' < P.length) (ae:(L[at']).2.length<=1000000)
  (h1:w.cell? ⟨N,0,none⟩=some (.func (.func 209) #[] #[])) (h2:w.cell? ⟨R,0,none⟩=some (pX (some ⟨k,0,none⟩))) (h3:w.cell? ⟨H,0,none⟩=some (O J (at':Int))) (hn:∀ b ∈ [N,R,H],b ∉ lv.ownBlock.toList++(P[at']).2.ownBlock.toList) :
  cW prog 222 #[pX (some ⟨N,0,none⟩),pX (some ⟨R,0,none⟩),pX (some ⟨H,0,none⟩)] w λe w'=>(∃ d,e=rX (uX #[])/\WS k B T w' s0 s1 (L.set at' ((L[at']).1,(L[at']).2++[(L.length:Int)])) lv (P.set at' ((P[at']).1,d))/\Nx w (P[at']).2 d)/\Fr (lv.ownBlock.toList++(P[at']).2.ownBlock.toList) w w':=by
 have D:=h.len;rcases h.own.2 with ⟨e,h9⟩ | ⟨g,cap,an,e,aq,_⟩
 ·rw [D] at h9;omega
 have E:=(cZ w.heap.size w).drew;have hd:=h.below E;have i:hH (∀ (d:vW) (w1:wW),Fr (P[at']).2.ownBlock.toList w.drew w1->OwnZ w1 (T at') d ((L[at']).2++[(L.length:Int)])->Nx w.drew (P[at']).2 d->WS k B T (w1.setCell ⟨g,at' * 23+22,none⟩ d) s0 s1 (L.set at' ((L[at']).1,(L[at']).2++[(L.length:Int)])) lv (P.set at' ((P[at']).1,d))/\Fr (lv.ownBlock.toList++(P[at']).2.ownBlock.toList) w.drew (w1.setCell ⟨g,at' * 23+22,none⟩ d)):=λd w1 f1 ho hnx=>zNR hd am e c f _ f1 ho hnx
 have ac:hH (OwnZ w.drew (T at') (P[at']).2 (L[at']).2):=(hd.ins at' c f).2;have ak:hH (T at'<=w.drew.heap.size):=hB;have ab:=hid ae;have aa:hH (k ∉ lv.ownBlock.toList++(P[at']).2.ownBlock.toList):=λF=>by
  rcases List.mem_append.1 F with q | q
  ·have:=(QM h.own (show lv.ownBlock=some k by simpa using q)).1;omega
  ·have:=(QM (h.ins at' c f).2 (show (P[at']).2.ownBlock=some k by simpa using q)).1;have:=h.tb at';omega
 have X:hH (¬ (P[at']).2.ownBlock=some g):=λee=>JR (h.ins at' c f).2 h.own dM ee (by rw [e];rfl)
 have s:=hid hn;have C:hH (Fr (lv.ownBlock.toList++(P[at']).2.ownBlock.toList) w w.drew):=Fr.of_below _ E;have r:OwnI w.drew B (U (some ⟨g,0,none⟩) P.length cap) P:=by rw [<-e];exact hd.own
 have u:=r.cellAt (at' * 23+22) oM;have ai:=r.frozenAt (at' * 23+22);rw [zBS P at' c 22 (P[at']).2 rfl] at u;have c2:=hd.at'.2.1 2 _ rfl;rw [e,D] at c2;replace h1:w.drew.cell? ⟨N,0,none⟩=some (.func (.func 209) #[] #[]):=h1
 replace h2:w.drew.cell? ⟨R,0,none⟩=some (pX (some ⟨k,0,none⟩)):=h2
 replace h3:w.drew.cell? ⟨H,0,none⟩=some (O J (at':Int)):=h3
 have IN:=λ(W:wW) (q1:W.cell? ⟨g,at' * 23+22,none⟩=some (P[at']).2) (q2:W.frozen? ⟨g,at' * 23+22,none⟩=false) (q3:OwnZ W (T at') (P[at']).2 (L[at']).2) (q4:T at'<=W.heap.size) (q5:(L[at']).2.length<=1000000) (q6:¬ (P[at']).2.ownBlock=some g)=>zGZ g (at' * 23) (T at') (L.length:Int) (P[at']).2 (L[at']).2 W q1 q2 q3 q4 q5 q6
 obtain ⟨m,F⟩:=xV L.length
 have aj:hH (at' < m/\m<=1000000):=by rw [F] at f hl;exact ⟨f,hl⟩
 rw [F] at c2;have HM:=hid F;simp only [F] at IN i ⊢;have ap:(at':Int)<(m:Int):=by have:=aj.out;omega
 have ao:(0:Int)<=(at':Int):=oM;obtain ⟨tv,af⟩:=xV ((P[at']).2)
 obtain ⟨tl,z⟩:=xV ((L[at']).2)
 obtain ⟨xi,ag⟩:∃ x,(P[at']).1=x:=⟨_,rfl⟩
 obtain ⟨xl,ah⟩:∃ x,(L[at']).1=x:=⟨_,rfl⟩
 simp only [af,z,ag,ah] at IN i ac ab aa X s C u ⊢;clear af z ag ah r hd E h D F hn e f hl ae c hB;go_enter func222,ntmps222;refine wp_region_held_drew (S:=λW=>W.cell? ⟨N,0,none⟩=some (.func (.func 209) #[] #[])/\W.cell? ⟨R,0,none⟩=some (pX (some ⟨k,0,none⟩))/\W.cell? ⟨H,0,none⟩=some (O J (at':Int))/\W.cell? ⟨k,2,none⟩=some (U (some ⟨g,0,none⟩) m cap)) kR ⟨h1,h2,h3,c2⟩ (λl=>?_);generalize w.drew=WD at *;refine tkQ 0 ?_
 refine tkQ 1 ?_
 refine tkQ 2 ?_
 refine tkQ 3 ?_
 refine tkQ 4 ?_
 refine tkQ 5 ?_
 refine tkQ 6 ?_
 refine tkQ 7 ?_
 refine tkQ 8 ?_
 refine tkQ 9 ?_
 refine tkQ 10 ?_
 refine tkQ 11 ?_
 refine rdQ 12 (λK hK=>?_);go_simp
 refine (IN WD u ai ac.out ak.out ab.out X.out).mono ?_;rintro e w2 ⟨rfl,y,w1,A,f1,G,rfl⟩;have t:=i.out y w1 f1 A G;have p:=t.2;go_wp2_with fail
 refine hkQ hK ⟨p.cell h1 (s.out N sM),p.cell h2 (s.out R sM),p.cell h3 (s.out H sM),p.cell c2 aa.out⟩ (λl=>?_);clear hK K
 refine wpAnyH_done kR ?_ _;have ad:hH (WS k B T (w1.setCell ⟨g,at' * 23+22,none⟩ y) s0 s1 (L.set at' (xl,tl++[(m:Int)])) lv (P.set at' (xi,y))/\Nx w tv y):=⟨t.1,λj e=>(G j e).imp id (fZ C.out.size)⟩
 have al:=C.out.trans t.2;clear l h1 h2 h3 c2 u ai p IN t A f1 G;go_wp2;go_end0
 exact ⟨⟨_,rfl,ad.out.1,ad.out.2⟩,al⟩
theorem zEY (own:Int) (nm:List ByteArray) (i:Option Addr) (m cap:Nat) (r:Wt.Rf) (w:wW) (X:m=nm.length) (R:nm.length<=16) (N:RdS w i nm):CR 118 #[Jk own i m cap,gX (rf5 r).toArray] w (gX #[O J (shN own nm r.s),O J r.r,O J r.c]):=by
 have SH:=λ(W:wW) (h:RdS W i nm)=>zBb own nm r.s i m cap W X R h
 generalize shN own nm r.s=l at *;have I:=QJ (QJ (QJ (cZ _ w) (Z #[O J own,U i m cap] 155)) (Z #[V r.s,O J r.r,O J r.c,Y r.fr,Y r.fc] 96)) (Z #[O J 0,O J 0,O J 0] 36);have pS:=((AtL.new0 w 155 [O J own,U i m cap]).alloc (Z #[V r.s,O J r.r,O J r.c,Y r.fr,Y r.fc] 96)).alloc (Z #[O J 0,O J 0,O J 0] 36);have pR:=(AtL.new1 w (Z #[O J own,U i m cap] 155) 96 [V r.s,O J r.r,O J r.c,Y r.fr,Y r.fc]).alloc (Z #[O J 0,O J 0,O J 0] 36);have pC:AtL (((w.alloc (Z #[O J own,U i m cap] 155)).alloc (Z #[V r.s,O J r.r,O J r.c,Y r.fr,Y r.fc] 96)).alloc (Z #[O J 0,O J 0,O J 0] 36)) (w.heap.size+2) [O J 0,O J 0,O J 0]:=AtL.new _ _ sM _;have u:hH (RdS (((w.alloc (Z #[O J own,U i m cap] 155)).alloc (Z #[V r.s,O J r.r,O J r.c,Y r.fr,Y r.fc] 96)).alloc (Z #[O J 0,O J 0,O J 0] 36)) i nm):=N.below I;clear X R N;unfold rf5;go_enter func118,ntmps118;go_upto_region 1 with fail
 generalize (((w.alloc (Z #[O J own,U i m cap] 155)).alloc (Z #[V r.s,O J r.r,O J r.c,Y r.fr,Y r.fc] 96)).alloc (Z #[O J 0,O J 0,O J 0] 36))=C at *;have q:=(cZ C.heap.size C).drew;have p:=AtL.below q pS;have j:=AtL.below q pR;have A:=AtL.below q pC;have x:=QA I q;have H:hH (RdS C.drew i nm):=u.out.below q;have s0:=p.2.1 0 _ rfl;have s1:=p.2.1 1 _ rfl;have r0:=j.2.1 0 _ rfl;have D:=j.2.1 1 _ rfl;have E:=j.2.1 2 _ rfl;clear q pS pR pC p j I u;refine wp_region_held_drew (S:=λW=>W.cell? ⟨w.heap.size,0,none⟩=some (O J own)/\W.cell? ⟨w.heap.size,1,none⟩=some (U i m cap)/\W.cell? ⟨w.heap.size+1,0,none⟩=some (V r.s)/\W.cell? ⟨w.heap.size+1,1,none⟩=some (O J r.r)/\W.cell? ⟨w.heap.size+1,2,none⟩=some (O J r.c)) kR ⟨s0,s1,r0,D,E⟩ (λg=>?_);generalize C.drew=WD at *;refine tkQ 0 ?_
 refine tkQ 1 ?_
 refine tkQ 2 ?_
 refine tkQ 4 ?_
 refine tkQ 5 ?_
 refine tkQ 6 ?_
 refine tkQ 7 ?_
 refine rdQ 3 (λK z=>?_);go_simp
 refine (SH WD H.out).mono ?_;rintro e t ⟨rfl,d⟩;go_wp2_with fail
 refine hkQ z ⟨QC d s0,QC d s1,QC d r0,QC d D,QC d E⟩ (λg=>?_);clear z K
 have y:=QA x d;have f:=AtL.below d A;refine tkQ 8 ?_
 have k0:=f.2.1 0 _ rfl;have k1:=f.2.1 1 _ rfl;have k2:=f.2.1 2 _ rfl;have z0:=f.2.2 0 sM;have z1:=f.2.2 1 sM;have z2:=f.2.2 2 sM;refine rdQ 9 (λK z=>?_);go_simp
 have fr:Fr [w.heap.size+2] t (((t.setCell ⟨w.heap.size+2,0,none⟩ (O J l)).setCell ⟨w.heap.size+2,1,none⟩ (O J r.r)).setCell ⟨w.heap.size+2,2,none⟩ (O J r.c)):=zCq;have pF:AtL (t.setCells (w.heap.size+2) 0 [O J l,O J r.r,O J r.c]) (w.heap.size+2) [O J l,O J r.r,O J r.c]:=f.setAll rfl;have G:hH ((((t.setCell ⟨w.heap.size+2,0,none⟩ (O J l)).setCell ⟨w.heap.size+2,1,none⟩ (O J r.r)).setCell ⟨w.heap.size+2,2,none⟩ (O J r.c)).rangeAt (w.heap.size+2) 0 [O J l,O J r.r,O J r.c]):=pF.range;have F:hH (bL w (((t.setCell ⟨w.heap.size+2,0,none⟩ (O J l)).setCell ⟨w.heap.size+2,1,none⟩ (O J r.r)).setCell ⟨w.heap.size+2,2,none⟩ (O J r.c))):=zB5 y fr (λk hk=>by simp at hk;omega);refine hkQ z ⟨fr.cell (QC d s0) sM,fr.cell (QC d s1) sM,fr.cell (QC d r0) sM,fr.cell (QC d D) sM,fr.cell (QC d E) sM⟩ (λg=>?_);clear z K
 refine wpAnyH_done kR ?_ _;clear g fr pF k0 k1 k2 z0 z1 z2 f A y x d s0 s1 r0 D E;generalize (((t.setCell ⟨w.heap.size+2,0,none⟩ (O J l)).setCell ⟨w.heap.size+2,1,none⟩ (O J r.r)).setCell ⟨w.heap.size+2,2,none⟩ (O J r.c))=WF at *;go_wp2;refine bodyPost_ret (Q4 (by rfl) _ _ (w.heap.size+2) [O J l,O J r.r,O J r.c] _ (by rfl) G.out underlying36 rfl kR) rfl ⟨rfl,F.out⟩
theorem zCX (own:Int) (nm:List ByteArray) (f:Option Addr) (m cap:Nat) (x:Wt.Nd) (w:wW) (N:RtN x) (H:m=nm.length) (G:nm.length<=16) (F:RdS w f nm):CR 182 #[Jk own f m cap,gX (QN x).toArray] w (gX (ar5 (Qh own nm x)).toArray):=by
 have y:hH (∀ (W:wW),RdS W f nm->CR 150 #[Jk own f m cap,V x.a.s] W (O J (shN own nm x.a.s))):=λW h=>zBb own nm x.a.s f m cap W H G h
 have D:=λW=>zCu x W N
 have z:Qh own nm x = {Jd x with s:=shN own nm x.a.s}:=rfl;rw [z];generalize shN own nm x.a.s=sn at *;generalize Jd x=rc at *;have i:=QJ (QJ (QJ (cZ _ w) (Z #[O J own,U f m cap] 155)) (Z (QN x).toArray 98)) (Z #[O J 0,O J 0,O J 0,O J 0,O J 0] 84);have q:=((AtL.new0 w 155 [O J own,U f m cap]).alloc (Z (QN x).toArray 98)).alloc (Z #[O J 0,O J 0,O J 0,O J 0,O J 0] 84);have p:=(AtL.new1 w (Z #[O J own,U f m cap] 155) 98 (QN x)).alloc (Z #[O J 0,O J 0,O J 0,O J 0,O J 0] 84);have pA:AtL (((w.alloc (Z #[O J own,U f m cap] 155)).alloc (Z (QN x).toArray 98)).alloc (Z #[O J 0,O J 0,O J 0,O J 0,O J 0] 84)) (w.heap.size+2) [O J 0,O J 0,O J 0,O J 0,O J 0]:=AtL.new _ _ sM _;have r:=hid (F.below i);clear H G F N z;go_enter func182,ntmps182;go_upto_region 1 with fail
 generalize (((w.alloc (Z #[O J own,U f m cap] 155)).alloc (Z (QN x).toArray 98)).alloc (Z #[O J 0,O J 0,O J 0,O J 0,O J 0] 84))=W3 at *;have R:=p.range;go_wp2_with (first | (refine QB (by rfl) 98 (mX 3) rfl (w.heap.size+1) 0 rfl (QN x) _ R underlying98 rfl kR ?_))
 refine (D _).mono ?_;rintro e w1 ⟨rfl,c⟩;replace i:=QA i c
 replace q:=AtL.below c q
 replace p:=AtL.below c p
 replace pA:=AtL.below c pA
 have t:=hid (r.out.below c);have g:=hid (And.intro i.size pA.lt);clear D R c r;have d:=QJ (cZ _ w1) (Z (ar5 rc).toArray 84);have A:=AtL.new0 w1 84 (ar5 rc);replace i:=QA i d
 replace q:=AtL.below d q
 replace p:=AtL.below d p
 replace pA:=AtL.below d pA
 have u:=hid (t.out.below d);clear d t;go_upto_region 2 with fail
 generalize (w1.alloc (Z (ar5 rc).toArray 84))=X at *;obtain ⟨S,l⟩:∃ k,w1.heap.size=k:=⟨_,rfl⟩
 rw [l] at A g;simp only [l];clear l;have s0:=q.2.1 0 _ rfl;have s1:=q.2.1 1 _ rfl;have C:=p.2.1 10 (V x.a.s) rfl;have E:=y.out X u.out;go_wp2_with fail
 refine E.mono ?_;rintro e w5 ⟨rfl,j⟩;replace i:=QA i j
 replace pA:=AtL.below j pA
 replace A:=AtL.below j A
 clear E s0 s1 C q p j u y;obtain ⟨b0,b1,b2,b3,b4,k0,k1,k2,k3,k4⟩:=pA.five;obtain ⟨r0,r1,r2,r3,r4,q0,_,_,_,_⟩:=A.five;have ab:¬ S=w.heap.size+2:=by have:=g.out;omega
 have I:¬ w.heap.size+2=S:=by have:=g.out;omega
 have aa:=g.out.1;go_wp2;refine bodyPost_ret (v:=gX (ar5 {rc with s:=sn}).toArray) (by simp [results,results182,go_sem,b0,b1,b2,b3,b4]) rfl ⟨rfl,(clB i)⟩
theorem zRg (o:Int) (w:wW):(Instr.build 87 #[(0,O J o)]).run prog w=.ok (gX (QF (ins o 0 0).1 QO).toArray) w:=kR
theorem zSB (o a:Int) (w:wW):(Instr.build 87 #[(0,O J o),(1,O J a)]).run prog w=.ok (gX (QF (ins o a 0).1 QO).toArray) w:=kR
theorem zSA (o a b:Int) (w:wW):(Instr.build 87 #[(0,O J o),(1,O J a),(2,O J b)]).run prog w=.ok (gX (QF (ins o a b).1 QO).toArray) w:=kR
theorem zRp (v:Wt.Vl) (w:wW):(Instr.build 87 #[(0,O J 1),(3,gX (vl6 v).toArray)]).run prog w=.ok (gX (QF (Jn v).1 QO).toArray) w:=kR
theorem zR6 (c:Wpl.Cl) (w:wW):(Instr.build 87 #[(0,O J 2),(4,gX #[O J c.s,O J c.r,O J c.c])]).run prog w=.ok (gX (QF (zOa c).1 QO).toArray) w:=kR
theorem zR4 (a:Wpl.Ar) (w:wW):(Instr.build 87 #[(0,O J 8),(5,gX (ar5 a).toArray)]).run prog w=.ok (gX (QF (Jr 8 0 a a0I).1 QO).toArray) w:=kR
theorem zRy (a b:Wpl.Ar) (w:wW):(Instr.build 87 #[(0,O J 9),(5,gX (ar5 a).toArray),(6,gX (ar5 b).toArray)]).run prog w=.ok (gX (QF (Jr 9 0 a b).1 QO).toArray) w:=kR
theorem zRv (a:Wpl.Ar) (b:Int) (w:wW):(Instr.build 87 #[(0,O J 11),(5,gX (ar5 a).toArray),(2,O J b)]).run prog w=.ok (gX (QF (Jr 11 b a a0I).1 QO).toArray) w:=kR
theorem Qo (c:op.guard=none) (o:Int) (e:op.op=.build 87 #[(0,.const (O J o))])
  (h:wpList prog ops Q rest (a.put op.dst (gX (QF (ins o 0 0).1 QO).toArray)) w):wpList prog ops Q (op::rest) a w:=by
 refine wpList_plain c λK d=>?_
 unfold Oper.wp execOp;have f:a.eval (.const (O J o))=O J o:=rfl;simp only [e,gZ,iZ,jZ,f,kZ,mZ,eZ,zRg];exact d _ _ h
theorem zAU (c:op.guard=none) (o:Int) (y:Operand) (e:op.op=.build 87 #[(0,.const (O J o)),(1,y)]) (v:Int) (g:a.eval y=O J v)
  (h:wpList prog ops Q rest (a.put op.dst (gX (QF (ins o v 0).1 QO).toArray)) w):wpList prog ops Q (op::rest) a w:=by
 refine wpList_plain c λK d=>?_
 unfold Oper.wp execOp;have f:a.eval (.const (O J o))=O J o:=rfl;simp only [e,gZ,iZ,jZ,f,g,kZ,mZ,eZ,zSB];exact d _ _ h
theorem zEq (c:op.guard=none) (o:Int) (y z:Operand) (e:op.op=.build 87 #[(0,.const (O J o)),(1,y),(2,z)]) (v u:Int) (g:a.eval y=O J v) (i:a.eval z=O J u)
  (h:wpList prog ops Q rest (a.put op.dst (gX (QF (ins o v u).1 QO).toArray)) w):wpList prog ops Q (op::rest) a w:=by
 refine wpList_plain c λK d=>?_
 unfold Oper.wp execOp;have f:a.eval (.const (O J o))=O J o:=rfl;simp only [e,gZ,iZ,jZ,f,g,i,kZ,mZ,eZ,zSA];exact d _ _ h
theorem zEW (c:op.guard=none) (y:Operand) (e:op.op=.build 87 #[(0,.const (O J 1)),(3,y)]) (v:Wt.Vl) (g:a.eval y=gX (vl6 v).toArray)
  (h:wpList prog ops Q rest (a.put op.dst (gX (QF (Jn v).1 QO).toArray)) w):wpList prog ops Q (op::rest) a w:=by
 refine wpList_plain c λK d=>?_
 unfold Oper.wp execOp;have f:a.eval (.const (O J 1))=O J 1:=rfl;simp only [e,gZ,iZ,jZ,f,g,kZ,mZ,eZ,zRp];exact d _ _ h
theorem WP.from (c:bL w w1) {e:Ending} {w':wW} (h:WP k B T s0 s1 L lv w1 e w'):WP k B T s0 s1 L lv w e w':=by
 obtain ⟨⟨lv',d,rfl,f,g⟩,i⟩:=h;exact ⟨⟨lv',d,rfl,f,λj e=>(g j e).imp id (fZ c.size)⟩,(Fr.of_below _ c).trans i⟩
theorem zEp (k B:Nat) (T:Nat->Nat) (v:Wt.Vl) (s0 s1:vW) (L:List I) (lv:vW) (P:List (Wc.In × vW)) (w:wW) (h:WS k B T w s0 s1 L lv P) (d:k<B) (m:B<=w.heap.size) (p:L.length<=1000000) :
  cW prog 117 #[pX (some ⟨k,0,none⟩),gX (vl6 v).toArray] w (WP k B T s0 s1 (L++[Jn v]) lv w):=by
 have c:=QJ (cZ _ w) (Z (vl6 v).toArray 65);have r:=AtL.new0 w 65 (vl6 v);have f:=Qy k B T (Jn v).1 s0 s1 L lv P _ (h.below c) d (fZ m c.size) p;have x:hH (∀ e w',WP k B T s0 s1 (L++[Jn v]) lv (w.alloc (Z (vl6 v).toArray 65)) e w'->WP k B T s0 s1 (L++[Jn v]) lv w e w'):=λe w' q=>q.from c
 have s:=r.range;clear h d m p c r;go_enter func117,ntmps117;go_upto_region 1 with fail
 generalize (w.alloc (Z (vl6 v).toArray 65))=W at *;go_wp2_with (first | (refine QB (by rfl) 65 (mX 3) rfl w.heap.size 0 rfl (vl6 v) _ s underlying65 rfl kR ?_) | (refine zEW rfl (mX 5) rfl v rfl ?_))
 refine f.mono ?_;rintro e w1 g;have t:=x.out e w1 g;obtain ⟨⟨lv',y,rfl,i,j⟩,l⟩:=t;clear g f s;have u:hH (WP k B T s0 s1 (L++[Jn v]) lv w (rX (uX #[])) w1):=⟨⟨lv',y,rfl,i,j⟩,l⟩
 clear i j l;go_wp2;go_end0
 exact u.out
theorem zFi (k B:Nat) (T:Nat->Nat) (n:Int) (x:0<=n/\n<=65536) (s0 s1:vW) (L:List I) (lv:vW) (P:List (Wc.In × vW)) (w:wW) (h:WS k B T w s0 s1 L lv P) (f:k<B) (q:B<=w.heap.size) (r:L.length<=1000000) :
  cW prog 185 #[pX (some ⟨k,0,none⟩),O J n] w (WP k B T s0 s1 (L++[Jn (VJ n)]) lv w):=by
 have i:=zCv n 1 w oM oM oM oM;have g:Vs n 1=VJ n:=by
  have y:Wnum.rightB n 1=true:=by
   unfold Wnum.rightB;simp;omega
  simp [Vs,VJ,Wnum.cN,Wnum.cD,y]
 rw [g] at i;have d:hH (∀ w1:wW,bL w w1->cW prog 117 #[pX (some ⟨k,0,none⟩),gX (vl6 (VJ n)).toArray] w1 (WP k B T s0 s1 (L++[Jn (VJ n)]) lv w1)):=λw1 hb=>zEp k B T (VJ n) s0 s1 L lv P w1 (h.below hb) f (fZ q hb.size) r
 clear h f q r g x;unfold vlV at i;go_enter func185,ntmps185;go_wp2_with fail
 refine i.mono ?_;rintro e w1 ⟨rfl,c⟩;have l:=d.out w1 c;clear i d;generalize VJ n=z at *;go_wp2_with fail
 refine l.mono ?_;rintro e A j;have s:=j.from c
 obtain ⟨⟨lv',u,rfl,j,m⟩,p⟩:=s;have t:hH (WP k B T s0 s1 (L++[Jn z]) lv w (rX (uX #[])) A):=⟨⟨lv',u,rfl,j,m⟩,p⟩
 clear j m p l c;go_wp2;go_end0
 exact t.out
def JP (k B:Nat) (T:Nat->Nat) (s0 s1:vW) (L:List I) (lv:vW) (w:wW) (e:Ending) (w':wW):Prop :=
 (∃ cl c lv' d,e=rX cl/\Cl k w' 206 L.length c cl/\(∀ b ∈ c,w.heap.size<=b/\b<w'.heap.size/\¬ lv'.ownBlock=some b)/\WS k B T w' s0 s1 (L++[ins 13 0 0]) lv' d/\Nx w lv lv')/\Fr (k::lv.ownBlock.toList) w w'
theorem zMz (k B:Nat) (T:Nat->Nat) (s0 s1:vW) (L:List I) (lv:vW) (P:List (Wc.In × vW)) (w:wW) (h:WS k B T w s0 s1 L lv P) (l:k<B) (E:B<=w.heap.size) (F:L.length<=999999) :
  cW prog 208 #[pX (some ⟨k,0,none⟩)] w (JP k B T s0 s1 L lv w):=by
 have D:=Qy k B T (ins 13 0 0).1 s0 s1 L lv P w h l E oM;have u:=hid F;unfold JP;clear h l E F;go_enter func208,ntmps208;go_wp2_with (first | (refine Qo rfl 13 rfl ?_))
 refine D.mono ?_;rintro e w1 ⟨⟨m,P1,rfl,g,p⟩,j⟩;have x:=zBf k B 206 T s0 s1 _ m P1 w1 g sM (by have:=u.out;simp;omega);rw [show (L++[((ins 13 0 0).1,([]:List Int))]).length - 1=L.length from by simp] at x;have C:=hid (And.intro g (And.intro p j));clear D g p j;go_wp2_with fail
 refine x.mono ?_;rintro e t ⟨⟨cl,i,rfl,f,c⟩,d⟩;have A:∃ r s q,cl=.func (.func 222) #[] #[pX (some ⟨r,0,none⟩),pX (some ⟨s,0,none⟩),pX (some ⟨q,0,none⟩)]:=by
  obtain ⟨r,s,q,_,e,_⟩:=f;exact ⟨r,s,q,e⟩
 have N:hH ((∃ i lv' y,Cl k t 206 L.length i cl/\(∀ b ∈ i,w.heap.size<=b/\b<t.heap.size/\¬ lv'.ownBlock=some b)/\WS k B T t s0 s1 (L++[ins 13 0 0]) lv' y/\Nx w lv lv')/\Fr (k::lv.ownBlock.toList) w t):=by
  obtain ⟨G,R,H⟩:=C.out;refine ⟨⟨i,m,P1,f,λb z=>⟨fZ H.size (c b z).1,(c b z).2,λe=>?_⟩,G.below d,R⟩,H.trans (Fr.of_below _ d)⟩;have:=(QM G.own e).2;have:=(c b z).1;omega
 obtain ⟨r,s,q,rfl⟩:=A;clear x C f c d;go_wp2;go_ret;obtain ⟨⟨i,lv',y,S,W,X,r4⟩,r5⟩:=N.out;exact ⟨⟨_,i,lv',y,rfl,S,W,X,r4⟩,r5⟩
