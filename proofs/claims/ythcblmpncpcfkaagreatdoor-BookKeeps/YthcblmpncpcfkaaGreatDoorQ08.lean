/- Lemmas. -/
import Derived.Test.YthcblmpncpcfkaaGreatDoorQ07
import Derived.Deep.Slices
import Derived.Lib.SmallJoins
import Derived.SizedLaws
import Derived.Carry
import Derived.ProofKit
import Derived.Test.YthcblmpncpcfkaaGreatDoorCards
import Derived.Test.YthcblmpncpcfkaaGreatDoorTie
import Derived.JoinedCond
import Derived.Lib.LaidTab
import Derived.Deep.Strs
import Derived.Stop.LaidErr
set_option maxHeartbeats 400000000
set_option maxRecDepth 100000
set_option linter.unusedVariables false
open Array renaming getElem?_toList->bZ,ext'->bY
open List renaming getElem?_eq_getElem->cZ,getElem?_map->eZ,range->gZ,mem_append->hZ,getElem?_cons_zero->iZ,getElem?_drop->kZ,mem_cons->nZ,getElem?_cons_succ->pZ,length_map->qZ,take_succ_cons->rZ,drop_succ_cons->sZ,mem_singleton->tZ,getElem?_take->uZ,flatMap_cons->wZ,drop_zero->xZ,take_zero->yZ
open Go.RowKit.Below renaming refl->dZ
open Go.IntKind renaming wrap_i64->fZ
open Or renaming inr->jZ,inl->oZ
open Nat renaming zero_le->mZ,zero_add->vZ,le_trans->zZ
open Go renaming World->wW,Value->vW
namespace Go.Proofs.YthcblmpncpcfkaaGreatDoor
open _root_.Go.Proofs.Tryz
variable {L:List Ch}
open Go.RowKit Wf
theorem zR1{p:Int}(h:XE p):0<=p:=by
 rcases h with h|⟨u,c,q,a,b,rfl⟩
 ·exact h
 ·have d:=zGp a;unfold wrap64;omega
theorem zR2(w:wW):(Instr.build 30 #[]).run prog w=.ok (.agg #[.int .i64 0,.int .i64 0,.int .i64 0]) w:=kR
theorem zSR(w:wW):(binOp .neq 30 (.agg #[.int .i64 0,.int .i64 0,.int .i64 0]) (.agg #[.int .i64 0,.int .i64 0,.int .i64 0])).run prog w=.ok (.bool false) w:=kR
theorem zOB(x y:Wpl.Cl)(w:wW):(binOp .eql 36 (.agg #[.int .i64 x.s,.int .i64 x.r,.int .i64 x.c]) (.agg #[.int .i64 y.s,.int .i64 y.r,.int .i64 y.c])).run prog w=.ok (.bool (eqB x y)) w:=by
 unfold eqB;by_cases a:x.s=y.s <;> by_cases b:x.r=y.r <;> by_cases d:x.c=y.c <;> simp[go_sem,a,b,d]
theorem zPL(L:List Ch):wtE [L]=L.length+szH L:=by simp[wtE]
theorem zOf{w:wW}{p:Option Addr}{m k:Nat}(d:L.length=m)(e:RdH w p L)(b:p=none->m=0/\k=0):RdE (w.alloc (.cells #[.slice p m k] 23)) (some ⟨w.heap.size,0,none⟩) [L]:=by
 intro i M a;cases i with
 |zero =>
  simp only[iZ,Option.some.injEq]at a;subst a;exact⟨w.heap.size,0,p,m,k,rfl,(AtL.new0 w 23 [.slice p m k]).range 0 _ rfl,d,e.below (QI (dZ _ w) _),b⟩
 |succ i=>simp at a
def KpS(rs:Ch->List I⊕(Int×Int))(g:Int)(G:List (Wpl.Cl×Ce))(L:List Ch)(a e d:Nat)(f:Option Addr)(b:Nat)(c x y:Int)(W:wW):Prop :=
 (c≠0/\BK W a e d f b [sS,sT] g G/\0<=x/\(0<L.length->x<(L.length:Int))/\0<=y)\/(c=0/\x=0/\y=0/\∃G',BK W a e d f b [sS,sT] (g+1) G'/\EdAcc 2 rs G L G')
theorem KpS.below{rs:Ch->List I⊕(Int×Int)}{k:Int}{G:List (Wpl.Cl×Ce)}{d i g:Nat}{j:Option Addr}{f:Nat}{c x y:Int}{W b:wW}(h:KpS rs k G L d i g j f c x y W)(e:bL W b):KpS rs k G L d i g j f c x y b :=
 h.imp (λ⟨a,h2,h3⟩=>⟨a,h2.below e,h3⟩) (λ⟨a,h2,h3,G',h4,h5⟩=>⟨a,h2,h3,G',h4.below e,h5⟩)
theorem zKI(E:List (List Ch))(av:Option Addr)(n cap:Nat)(L:List Ch)(lv:Option Addr)(l lc:Nat)(w:wW)(hE:BEnv w)(hr:RdE w av E)(hn:E.length=n)(hN:True->n<=1000000000000000)(hL:∀L∈E,L.length<=1000000000000000/\∀a∈L,a.t.size<=1000000000000000)(aV:RdH w lv L)(aP:L.length=l)(aS:lv=none->l=0/\lc=0)(a9:True->l<=1000000000000000)(ae:∀a∈L,a.t.size<=1000000000000000) :
  CR 3 #[.slice av n cap,.slice lv l lc] w (.bool true):=by
 obtain⟨rs,aW⟩:=zRK [sS,sT] dM;have aj:=hid aW;have N:=hid (And.intro hE (And.intro hr (And.intro hn hL)));have p:=hid (And.intro aV (And.intro aP (And.intro aS ae)));clear hE hr hn hL aW aV aP aS ae;go_enter func3,ntmps3;go_upto_region 1 with fail
 go_wp2_with fail
 refine(zQS w N.out.1).mono ?_;rintro e w1 ⟨rfl,aJ⟩;have aa:=hid aJ;clear aJ;go_wp2_with fail
 refine(zNN E av n cap w1 (N.out.2.1.below aa.out) N.out.2.2.1 hN N.out.2.2.2).mono ?_;rintro e w2 ⟨⟨b,rfl,d⟩,rfl⟩;cases b with
 |true =>
  go_wp2;go_ret;exact⟨rfl,aa.out⟩
 |false =>
  have HW:=hid (d rfl);have T:=QI (dZ _ w1) (.cells #[.slice lv l lc] 23);have MU:=zNN [L] (some ⟨w1.heap.size,0,none⟩) 1 1 (w1.alloc (.cells #[.slice lv l lc] 23)) (zOf p.out.2.1 (p.out.1.below aa.out) p.out.2.2.1) rfl (λ_=>by decide) (λM hM=>by rw[tZ]at hM;rw[hM];exact⟨by have:=p.out.2.1;have:=a9 trivial;omega,p.out.2.2.2⟩);have R:=hid (QA aa.out T);clear d T;go_wp2_with fail
  refine MU.mono ?_;rintro e w2 ⟨⟨b,rfl,d⟩,rfl⟩;clear MU;cases b with
  |true =>
   have HE:=R;clear d;go_wp2;go_ret;exact⟨rfl,HE.out⟩
  |false =>
  have au:=hid (show l+szH L<=6000 by have h:=d rfl;rw[zPL]at h;have:=p.out.2.1;simp only[List.length_cons,List.length_nil]at h;omega);clear d aa;generalize w1.alloc (.cells #[.slice lv l lc] 23)=W1 at*;go_upto_region 5 with fail
  go_wp2_with fail
  refine(zNG rs aj.out E av n cap W1 (N.out.1.below R.out) (N.out.2.1.below R.out) N.out.2.2.1 HW.out (λL hL=>(N.out.2.2.2 L hL).2)).mono ?_;rintro e w3 ⟨ba,ma,la,na,ka,rfl,aO,hI,aK,aL,aQ,bd⟩;have HA:=hid aO;have af:=hid (QA R.out aK);have aG:=hid (And.intro aL aQ);clear aO aK aL aQ bd;go_wp2_with fail
  refine(zNG rs aj.out E av n cap w3 (N.out.1.below af.out) (N.out.2.1.below af.out) N.out.2.2.1 HW.out (λL hL=>(N.out.2.2.2 L hL).2)).mono ?_;rintro e Q ⟨bb,mb,lb,nb,kb,rfl,ay,_,B,a2,bc,aR⟩;have ap:=hid (HA.out.below B);have aF:=hid ay;have ag:=hid (QA af.out B);obtain⟨hG,a1,aX,bf⟩:=hI;have HD:Hid (w.heap.size<=ba/\w.heap.size<=ma/\∀k∈[ba,ma],k<lb/\k≠bb/\k≠mb/\∀g o,nb=some ⟨g,o,none⟩->k≠g):=by
   have d1:=aG.out;have d2:=HA.out.lt;have d3:=R.out.size;have d4:=ay.lt;refine⟨oM,oM,λk D=>?_⟩;simp only[nZ,List.not_mem_nil,or_false]at D;exact⟨oM,oM,oM,λg o e=>by have:=aR g o e;omega⟩
  have HG:=hid (And.intro hG (And.intro (show 2*(mkS rs E).2.length<=6000 by have:=HW.out;omega) (And.intro aX (show(mkS rs E).1<=6000 by have:=HW.out;omega))));clear hG a1 aX bf ay B a2 bc aR HA af aG R;generalize(mkS rs E).1=va at*;generalize(mkS rs E).2=G at*;have T:=QI (dZ _ Q) (.cells #[] 38);have oE:(Q.alloc (.cells #[] 38)).ownsRow Q.heap.size 38 4 (.slice (some ⟨Q.heap.size,0,none⟩) 0 0) 0 []:=⟨rfl,jZ ⟨Q.heap.size,0,#[],rfl,Nat.le_refl _,(Go.MapKept.heap_alloc Q _).1,Nat.le_refl _,by unfold maxLen;omega,rfl,rfl⟩⟩
  have ao:=p.out.1.below (QA ag.out T);have aA:Q.heap.size<=(Q.alloc (.cells #[] 38)).heap.size:=T.size;clear T;go_wp2_with (at_builtin;refine zCO rfl (.tmp 28) (.tmp 29) rfl (Q.alloc (.cells #[] 38)) Q.heap.size aA (.slice (some ⟨Q.heap.size,0,none⟩) 0 0) rfl oE lv l lc L p.out.2.1 rfl ao p.out.2.2.1 (by have:=au.out;omega) ?_;intro v3 w5 o3 aN)
  have ad:bL Q w5:=(Fr.new (Fr.of_below [] (QI (dZ _ Q) (.cells #[] 38))) (Fr.of_grown (S:=[Q.heap.size]) aN (λk e=>by cases e;simp)) (λk D=>jZ (by simp at D;omega))).to_below sM;rw[<-p.out.2.1]at o3;obtain⟨a3,c3,rfl,aT,aI⟩:=zK0 o3;rw[p.out.2.1];have ED:=zGA ba ma la na ka [sS,sT] rs aj.out va G a3 l c3 L w5 (N.out.1.below (QA ag.out ad)) (ap.out.below ad) aT p.out.2.1 HG.out.1 (by have:=HG.out.2.1;omega) ⟨HG.out.2.2.1,by have:=HG.out.2.2.2;omega⟩ (λg o e=>by have:=aI g o e;have:=ap.out.lt;omega) p.out.2.2.2;have aE:=hid (QA ag.out ad);have al:=hid (aF.out.below ad);clear o3 aN aT aI ad oE ao aA ap ag aF;go_wp2_with fail
  refine ED.mono ?_;rintro e w6 ⟨r,hc,-,rfl,D,hf⟩;obtain⟨⟨c,x,y⟩,v',G'⟩:=r;have ak:=QI (dZ _ w6) (.cells #[.int .i64 c,.int .i64 x,.int .i64 y] 30);have q6:=AtL.new0 w6 30 [.int .i64 c,.int .i64 x,.int .i64 y];have ah:=hid (QA ((Fr.new (Fr.of_below [] aE.out) hf (λk D=>jZ (by have:=HD.out;simp at D;omega))).to_below sM) ak);have u:=hid ((al.out.fr hf HD.out.2.2).below ak);have aM:KpS rs va G L ba ma la na ka c x y w6:=by
   rcases hc with⟨h1,h2,h3,h4,h5⟩|⟨h1,h2,_,_,h3⟩
   ·simp only[Prod.mk.injEq]at h2;rw[h2.1,h2.2]at D;exact oZ ⟨h1,D,h3,h4,zR1 h5⟩
   ·simp only[Prod.mk.injEq]at h1 h2;rw[h2]at D;exact jZ ⟨h1.1,h1.2.1,h1.2.2,G',D,h3⟩
  have HC:=hid (aM.below ak);clear ED hc D hf ak aM aE al;go_upto_region 7 with fail
  generalize w6.alloc (.cells #[.int .i64 c,.int .i64 x,.int .i64 y] 30)=W7 at*;generalize w6.heap.size=rb at*;obtain⟨j0,j1,j2,-⟩:=q6.three;rcases HC.out with⟨hc,D,bo,aB,bp⟩|⟨rfl,rfl,rfl,G2,D,an⟩
  ·have AL:=zNf aj.out (w:=W7) ⟨dZ _ _,D,u.out,N.out.1.below ah.out⟩ HG.out.1 HG.out.1 (λ_=>rfl) (by have:=HG.out.2.1;omega);have HK:=hid D;have HX:=hid aB;clear HC D q6 aB;go_upto_region 8 with fail
   go_wp2_with fail
   refine AL.mono ?_;rintro e w8 ⟨rfl,d⟩;have ab:=hid (QA ah.out d);replace j1:=QB d j1
   replace j2:=QB d j2
   have VA:=zAF ba ma _ va w8 (AtL.below d HK.out.hd);have am:=hid (u.out.below d);clear AL d j0;go_wp2_with fail
   refine VA.mono ?_;rintro e w9 ⟨rfl,d⟩;have F:=hid (QA ab.out d);replace j1:=QB d j1
   replace j2:=QB d j2
   have VB:=zAF bb mb _ va w9 (AtL.below d am.out.hd);clear VA d;go_wp2_with fail
   refine VB.mono ?_;rintro e aC ⟨rfl,d⟩;have HE:=hid (QA F.out d);replace j1:=QB d j1
   replace j2:=QB d j2
   clear VB d ab F am;by_cases a8:l=0
   ·subst a8;go_wp2;go_ret;exact⟨sM,HE.out⟩
   ·have bl:((l:Int) == 0)=false:=by simp;omega
    have aB:x<(l:Int):=by
     have:=HX.out;have:=p.out.2.1;omega
    go_wp2;go_ret;exact⟨sM,HE.out⟩
  ·have aD:=hid an;have VA:=zAF ba ma _ (va+1) W7 D.hd;have HK:=hid D;have bi:IntKind.i64.wrap (va+1)=va+1:=by have:=HG.out.2.2;rw[fZ];omega
   clear HC D an;go_upto_region 9 with fail
   go_wp2_with fail
   refine VA.mono ?_;rintro e w8 ⟨rfl,d⟩;have ab:=hid (QA ah.out d);have q8:=AtL.below d q6;have VB:=zAF bb mb _ va w8 (AtL.below d u.out.hd);replace HK:=hid (HK.out.below d)
   replace u:=hid (u.out.below d)
   clear VA d q6 j0 j1 j2 ah;go_wp2_with fail
   refine VB.mono ?_;rintro e w9 ⟨rfl,d⟩;have F:=hid (QA ab.out d);obtain⟨j0,j1,j2,-⟩:=(AtL.below d q8).three;replace HK:=hid (HK.out.below d)
   replace u:=hid (u.out.below d)
   have a4:=λw=>zR2 w
   have be:=λw=>zSR w
   clear VB d q8 ab;go_upto_region 12 with fail
   generalize w9=W0 at*;clear j0 j1 j2 a4 be bi;go_loopg [8] l (λgk x wr=>∃i:Nat,x=.int .i64 (i:Int)/\gk=l-i/\Hid (i<=l)/\Hid (bL W0 wr))
   case atStart=>exact⟨0,rfl,rfl,mZ _,dZ _ _⟩
   case round =>
    obtain⟨i,rfl,hg,HI,v⟩:=hrel;generalize I:wr=W at*;clear I;by_cases ae:i<l
    ·have aw:(i:Int)<(l:Int):=oM;have a6:(0:Int)<=(i:Int):=oM;have bh:IntKind.i64.wrap ((i:Int)+1)=(i:Int)+1:=by have:=au.out;rw[fZ];omega
     obtain⟨a,ha⟩:∃a,L[i]?=some a:=⟨L[i]'(by rw[p.out.2.1];exact ae),cZ _⟩
     have B:=(dZ W.heap.size W).drew;replace v:=hid (QA v.out B)
     obtain⟨pb,po,e,f⟩:=p.out.1.below (QA F.out v.out) i a ha;subst e;obtain⟨_,C,_,X⟩:=aD.out.new a (List.mem_of_getElem? ha);have ai:=hid X;have c0:W.drew.cell? ⟨pb,po+i*4,none⟩=some (.int .i64 a.x.s):=f 0 _ rfl;have c1:W.drew.cell? ⟨pb,po+i*4+1,none⟩=some (.int .i64 a.x.r):=f 1 _ rfl;have c2:W.drew.cell? ⟨pb,po+i*4+2,none⟩=some (.int .i64 a.x.c):=f 2 _ rfl;have c3:W.drew.cell? ⟨pb,po+i*4+3,none⟩=some (.string a.t):=f 3 _ rfl;clear ha f X B;go_upto_region 14 with fail
     refine wp_region_held_drew (S:=λW=>W.cell? ⟨pb,po+i*4,none⟩=some (.int .i64 a.x.s)/\W.cell? ⟨pb,po+i*4+1,none⟩=some (.int .i64 a.x.r)/\W.cell? ⟨pb,po+i*4+2,none⟩=some (.int .i64 a.x.c)/\W.cell? ⟨pb,po+i*4+3,none⟩=some (.string a.t)) kR ⟨c0,c1,c2,c3⟩ (λq=>?_);refine tkQ 0 ?_
     refine tkQ 1 ?_
     refine tkQ 2 ?_
     refine tkQ 3 ?_
     refine tkQ 4 ?_
     refine tkQ 5 ?_
     refine tkQ 7 ?_
     refine tkQ 8 ?_
     refine tkQ 9 ?_
     refine tkQ 10 ?_
     refine tkQ 11 ?_
     refine rdQ 6 (λK hK=>?_);go_simp
     refine(zBd (HK.out.below v.out) a.x ai.out).mono ?_;rintro e aC ⟨rfl,d⟩;replace v:=hid (QA v.out d)
     replace c0:=QB d c0
     replace c1:=QB d c1
     replace c2:=QB d c2
     replace c3:=QB d c3
     clear d;go_wp2_with fail
     refine hkQ hK ⟨c0,c1,c2,c3⟩ (λq=>?_);clear hK K
     refine tkQ 12 ?_
     refine wpAnyH_done kR ?_ _;clear q c0 c1 c2 c3;go_wp2_with fail
     go_roundg (l-(i+1))
     case rel=>exact⟨i+1,sM,rfl,ae,v⟩
     case measure=>omega
    ·have aw:¬(i:Int)<(l:Int):=oM;have aY:=hid (QA F.out v.out);clear HI;go_upto_region 17 with fail
     go_loopg [9] 2 (λgk x wr=>∃s:Int,x=.int .i64 s/\(0<=s/\s<=2/\gk=(2-s).toNat)/\Hid (bL W0 wr))
     case atStart=>exact⟨0,rfl,⟨oM,oM,rfl⟩,v⟩
     case round =>
      clear v aY;obtain⟨s,rfl,hs,v⟩:=hrel;generalize I:wr=W1 at*;clear I;by_cases aA:s<2
      ·have bn:IntKind.i64.wrap (s+1)=s+1:=by rw[fZ];omega
       go_wp2_with fail
       refine(zCf (u.out.below v.out) HG.out.1.1 (by have:=HG.out.2.1;omega) s).mono ?_;rintro e aC ⟨⟨xa,xc,rfl,aU,_⟩,d⟩;replace v:=hid (QA v.out d)
       have aH:=hid aU;obtain⟨m,hm⟩:=xV ((clS s (ksB G)).length)
       have HM:Hid ((clS s (ksB G)).length=m/\m<=3000):=by
        refine⟨hm,?_⟩;have h1:=HG.out.2.1;have h2:=zNI HG.out.1;rcases(by omega:s=0\/s=1)with h|h <;> (subst h;omega)
       rw[hm];clear d aU hm;go_upto_region 21 with fail
       generalize bg:aC=W2 at*;clear bg;go_loopg [11] m (λgk x wr=>∃i:Nat,x=.int .i64 (i:Int)/\gk=m-i/\Hid (i<=m)/\Hid (bL W2 wr))
       case atStart=>exact⟨0,rfl,rfl,mZ _,dZ _ _⟩
       case round =>
        obtain⟨i,rfl,hg,HI,aq⟩:=hrel;generalize I:wr=W3 at*;clear I;by_cases ax:i<m
        ·have aw:(i:Int)<(m:Int):=oM;have a6:(0:Int)<=(i:Int):=oM;have bh:IntKind.i64.wrap ((i:Int)+1)=(i:Int)+1:=by have:=HM.out.2;rw[fZ];omega
         obtain⟨x,hx⟩:∃x,(clS s (ksB G))[i]?=some x:=⟨(clS s (ksB G))[i]'(by rw[HM.out.1];exact ax),cZ _⟩
         obtain⟨g,e1,f⟩:=aH.out i x hx;subst e1;have A:=hid f;clear hx f;go_upto_region 25 with fail
         go_loopg [12,13] l (λgk y z wr=>∃(k:Nat)(b:Bool),z=.int .i64 (k:Int)/\y=.bool b/\gk=l-k/\Hid (k<=l)/\Hid (bL W2 wr)/\Hid (b=true↔∃a∈L.take k,a.x=x))
         case atStart=>exact⟨0,false,rfl,rfl,rfl,mZ _,aq,hid sM⟩
         case round =>
          obtain⟨k,b,rfl,rfl,bj,aZ,j,HQ⟩:=hrel;generalize I:wr=W4 at*;clear I;by_cases az:k<l
          ·have a7:(k:Int)<(l:Int):=oM;have bk:(0:Int)<=(k:Int):=oM;have bm:IntKind.i64.wrap ((k:Int)+1)=(k:Int)+1:=by have:=au.out;rw[fZ];omega
           obtain⟨a,ha⟩:∃a,L[k]?=some a:=⟨L[k]'(by rw[p.out.2.1];exact az),cZ _⟩
           obtain⟨pb,po,e,f⟩:=p.out.1.below (QA F.out (QA v.out j.out)) k a ha;subst e;have c0:W4.cell? ⟨pb,po+k*4,none⟩=some (.int .i64 a.x.s):=f 0 _ rfl;have c1:W4.cell? ⟨pb,po+k*4+1,none⟩=some (.int .i64 a.x.r):=f 1 _ rfl;have c2:W4.cell? ⟨pb,po+k*4+2,none⟩=some (.int .i64 a.x.c):=f 2 _ rfl;have d0:W4.cell? ⟨g,i*3,none⟩=some (.int .i64 x.s):=QB j.out (A.out 0 _ rfl);have d1:W4.cell? ⟨g,i*3+1,none⟩=some (.int .i64 x.r):=QB j.out (A.out 1 _ rfl);have d2:W4.cell? ⟨g,i*3+2,none⟩=some (.int .i64 x.c):=QB j.out (A.out 2 _ rfl);have ar:Hid (∀b',(b'=true↔b=true\/a.x=x)->(b'=true↔∃a∈L.take (k+1),a.x=x)):=λb' ac=>by
            rw[ac,HQ.out,List.take_add_one,ha];simp only[Option.toList_some,hZ,tZ];refine⟨λh=>?_,λ⟨c,hc,e⟩=>?_⟩
            ·rcases h with⟨c,hc,e⟩|h
             ·exact⟨c,oZ hc,e⟩
             ·exact⟨a,jZ rfl,h⟩
            ·rcases hc with hc|rfl
             ·exact oZ ⟨c,hc,e⟩
             ·exact jZ e
           clear ha f;cases b with
           |true =>
            go_upto_region 27 with fail
            go_quiet (fail)
            go_wp2_with fail
            go_roundg (l-(k+1))
            case rel=>exact⟨k+1,true,sM,rfl,rfl,az,Q9 j.out _,ar.out true sM⟩
            case measure=>omega
           |false =>
            obtain⟨b',ac⟩:=xV (eqB a.x x)
            have a5:=λw=>zOB a.x x w
            rw[ac]at a5;have a0:=hid (ar.out b' (by rw[<-ac,eqB_iff];simp));clear ac ar HQ;go_upto_region 27 with fail
            go_quiet (fail)
            go_wp2_with fail
            go_roundg (l-(k+1))
            case rel=>exact⟨k+1,b',sM,rfl,rfl,az,Q9 j.out _,a0.out⟩
            case measure=>omega
          ·have a7:¬(k:Int)<(l:Int):=oM;have B:=(dZ W4.heap.size W4).drew;replace j:=hid (QA j.out B)
           have HO:=hid (show b=false->gtE x G2=gtE x G fromλd=>aD.out.old x (λa ha e=>by
            have h1:=HQ.out.2 ⟨a,by rw[List.take_of_length_le (by have:=p.out.2.1;omega)];exact ha,e⟩;rw[d]at h1;cases h1))
           have d0:W4.drew.cell? ⟨g,i*3,none⟩=some (.int .i64 x.s):=QB j.out (A.out 0 _ rfl);have d1:W4.drew.cell? ⟨g,i*3+1,none⟩=some (.int .i64 x.r):=QB j.out (A.out 1 _ rfl);have d2:W4.drew.cell? ⟨g,i*3+2,none⟩=some (.int .i64 x.c):=QB j.out (A.out 2 _ rfl);clear HQ aZ B;go_upto_region 28 with fail
           cases b with
           |true =>
            refine wp_region_held_drew (S:=λW=>W.cell? ⟨g,i*3,none⟩=some (.int .i64 x.s)/\W.cell? ⟨g,i*3+1,none⟩=some (.int .i64 x.r)/\W.cell? ⟨g,i*3+2,none⟩=some (.int .i64 x.c)) kR ⟨d0,d1,d2⟩ (λq=>?_);refine tkQ 0 ?_
            refine tkQ 1 ?_
            refine tkQ 2 ?_
            refine tnQ 3 ?_
            refine tnQ 4 ?_
            refine tnQ 5 ?_
            refine tnQ 6 ?_
            refine tnQ 7 ?_
            refine tnQ 9 ?_
            refine tnQ 10 ?_
            refine tnQ 11 ?_
            refine tnQ 12 ?_
            refine tnQ 13 ?_
            refine tnQ 8 ?_
            refine tnQ 14 ?_
            refine tnQ 15 ?_
            refine tkQ 16 ?_
            refine wpAnyH_done kR ?_ _;clear q d0 d1 d2;go_wp2_with fail
            go_roundg (m-(i+1))
            case rel=>exact⟨i+1,sM,rfl,ax,j⟩
            case measure=>omega
           |false =>
            have X:=HO.out rfl;obtain⟨e,he⟩:=xV (gtE x G)
            rw[he]at X;have ai:=hid (And.intro X he);clear X he HO;refine wp_region_held_drew (S:=λW=>W.cell? ⟨g,i*3,none⟩=some (.int .i64 x.s)/\W.cell? ⟨g,i*3+1,none⟩=some (.int .i64 x.r)/\W.cell? ⟨g,i*3+2,none⟩=some (.int .i64 x.c)) kR ⟨d0,d1,d2⟩ (λq=>?_);refine tkQ 0 ?_
            refine tkQ 1 ?_
            refine tkQ 2 ?_
            refine tkQ 3 ?_
            refine tkQ 4 ?_
            refine tkQ 5 ?_
            refine tkQ 6 ?_
            refine tkQ 7 ?_
            refine tkQ 9 ?_
            refine tkQ 10 ?_
            refine tkQ 11 ?_
            refine tkQ 12 ?_
            refine tkQ 13 ?_
            refine rdQ 8 (λK hK=>?_);go_simp
            refine(zBd (HK.out.below (QA v.out j.out)) x ai.out.1).mono ?_;rintro en bq ⟨rfl,d⟩;replace j:=hid (QA j.out d)
            replace d0:=QB d d0
            replace d1:=QB d d1
            replace d2:=QB d d2
            clear d;go_wp2_with fail
            refine hkQ hK ⟨d0,d1,d2⟩ (λq=>?_);clear hK K
            refine rdQ 14 (λK hK=>?_);go_simp
            refine(zBd (u.out.below (QA v.out j.out)) x ai.out.2).mono ?_;rintro en br ⟨rfl,d⟩;replace j:=hid (QA j.out d)
            replace d0:=QB d d0
            replace d1:=QB d d1
            replace d2:=QB d d2
            clear d;go_wp2_with fail
            refine hkQ hK ⟨d0,d1,d2⟩ (λq=>?_);clear hK K
            refine tkQ 15 ?_
            refine tkQ 16 ?_
            refine wpAnyH_done kR ?_ _;clear q d0 d1 d2;go_wp2_with fail
            go_roundg (m-(i+1))
            case rel=>exact⟨i+1,sM,rfl,ax,j⟩
            case measure=>omega
        ·have aw:¬(i:Int)<(m:Int):=oM;replace v:=hid (QA v.out aq.out)
         clear aq aH;go_wp2_with fail
         go_roundg (2-(s+1)).toNat
         case rel=>exact⟨s+1,rfl,⟨oM,oM,rfl⟩,v⟩
         case measure=>omega
      ·have HE:=hid (QA F.out v.out);go_wp2;go_ret;exact⟨rfl,HE.out⟩
open Go.ChangeShapes Go.WideShapes Go.ChangeAt Go.RowKit Go.Joins Go.Deep
theorem zQD:prog.cellsOf 36=3:=kR
theorem zSL:prog.cellsOf 38=4:=kR
theorem zRk:prog.cellsOf 23=1:=kR
theorem zNg:prog.cellsOf 3=1:=kR
theorem zR7:prog.cellsOf 9=1:=kR
theorem zRP:prog.bytesOf 38=40:=kR
theorem zQO:prog.bytesOf 23=24:=kR
section
variable {H:Type}{enc:TypeId×vW->H}{w:wW}{base:Nat}{spare:Nat->Bool}{held:Bool}
theorem zMM{b d e:Field}(u:prog.underlying 36=some (.struct #[b,d,e]))(B:b.offset=0)(E:b.type=3)(C:d.offset=1)(F:d.type=3)(D:e.offset=2)(G:e.type=3){fuel:Nat}{k l m:vW}{x:DataW H×List MemPlace}
  (h:DataW.trod enc prog w base spare held fuel 36 [k,l,m]=some x):∃y:Wpl.Cl,[k,l,m]=[Value.int .i64 y.s,.int .i64 y.r,.int .i64 y.c]:=by
 obtain⟨t,q,_,I,_,a,j⟩:=DataW.trod_struct u h;have a:t.length=3:=a;have f:=j 0 b rfl;rw[B,E,zNg]at f;have g:=j 1 d rfl;rw[C,F,zNg]at g;have i:=j 2 e rfl;rw[D,G,zNg]at i;match t,a with
 |[x0,x1,x2],_ =>
  simp only[xZ,rZ,yZ,sZ,iZ,pZ]at f g i;obtain⟨v,e0,_,_⟩:=DataW.trod_int underlying3 f;obtain⟨z,o,_,_⟩:=DataW.trod_int underlying3 g;obtain⟨A,p,_,_⟩:=DataW.trod_int underlying3 i;simp only[List.cons.injEq,and_true]at e0 o p;exact⟨⟨v,z,A⟩,by rw[e0,o,p]⟩
theorem zLZ{b d:Field}(i:prog.underlying 38=some (.struct #[b,d]))(v:b.offset=0)(D:b.type=36)(z:d.offset=3)(k:d.type=9){fuel:Nat}{cs:List vW}(u:cs.length=4){x:DataW H×List MemPlace}
  (h:DataW.trod enc prog w base spare held fuel 38 cs=some x):∃y:Ch,cs=chL y/\y.t.size∈x.1.weights prog 38:=by
 match cs,u with
 |[a0,a1,a2,a3],_ =>
  obtain⟨l,q,_,r,_,a,j⟩:=DataW.trod_struct i h;have a:l.length=2:=a;have e:=j 0 b rfl;rw[v,D,zQD]at e;have f:=j 1 d rfl;rw[z,k,zR7]at f;match l,a with
  |[x0,x1],_ =>
   simp only[xZ,rZ,yZ,sZ,iZ,pZ]at e f;obtain⟨m,e0⟩:=zMM underlying36 rfl rfl rfl rfl rfl rfl e;obtain⟨s,g,p,_⟩:=DataW.trod_string underlying9 f;simp only[List.cons.injEq,and_true]at e0 g;obtain⟨A,B,C⟩:=e0;refine⟨⟨m,s⟩,by rw[A,B,C,g];rfl,?_⟩;rw[r];simp only[List.map_cons,List.map_nil,DataW.weights,i,DataW.weightsEach,hZ,k];have o:x1.1=.lit (.string s.data.toList):=congrArg Prod.fst p;rw[o];simp only[DataW.weights,nZ];exact jZ (oZ (oZ rfl))
theorem zN1{α:Type}[Inhabited α]{m:Nat}{p:Nat->α->Prop}(h:∀i,i<m->∃v,p i v):∃G:Nat->α,∀i,i<m->p i (G i):=by
 classical
 refine⟨λi=>if hi:i<m then Classical.choose (h i hi)else default,λi hi=>?_⟩;dsimp only;rw[dif_pos hi];exact Classical.choose_spec (h i hi)
theorem zBP(e:TypeId):∀(l:List (DataW H))(x:DataW H),x∈l->∀n∈x.weights prog e,n∈DataW.weightsAll prog e l:=by
 intro l;induction l with
 |nil=>intro x hx;cases hx
 |cons y r b =>
  intro x hx n a;simp only[DataW.weightsAll,hZ];rcases List.mem_cons.1 hx with rfl|hx
  ·exact oZ a
  ·exact jZ (b x hx n a)
abbrev zSb:Inhabited Ch:=⟨⟨⟨0,0,0⟩,⟨#[]⟩⟩⟩
theorem zEI{fuel:Nat}{c:vW}{x:DataW H×List MemPlace}(h:DataW.trod enc prog w 0 (λ_=>true) true fuel 23 [c]=some x) :
  ∃(p:Option Addr)(m k:Nat)(L:List Ch),c=.slice p m k/\L.length=m/\RdH w p L/\(p=none->m=0/\k=0)/\(m=0 \/ ∃n∈x.1.weights prog 23,m<=n)/\∀a∈L,a.t.size∈x.1.weights prog 23:=by
 rcases open_slice underlying23 h with⟨f,C⟩|⟨a,len,cap,m,n,D,T,f,X,hl,hm,r,C,q⟩
 ·simp only[List.cons.injEq,and_true]at f;exact⟨none,0,0,[],f,rfl,(λi a A=>by simp at A),λ_=>⟨rfl,rfl⟩,oZ rfl,λa A=>by cases A⟩
 ·simp only[List.cons.injEq,and_true]at f;simp only[if_true]at r;subst r;have o:∀i,i<m->∃y:Ch,(∀j u,(chL y)[j]?=some u->w.cell? (a.add (i*4+j))=some u)/\y.t.size∈(D i).weights prog 38:=by
   intro i g;obtain⟨M,K,Q⟩:=q i g;rw[zSL]at K;obtain⟨_,d,l⟩:=World.cells?_some K;obtain⟨y,rfl,B⟩:=zLZ underlying38 rfl rfl rfl rfl d Q;refine⟨y,λj u v=>?_,B⟩;have R:j<4:=by
    have:=(List.getElem?_eq_some_iff.1 v).1;rw[d]at this;exact this
   have:=l j R;rw[add_add]at this;rw[this,v]
  letI:=zSb
  obtain⟨G,z⟩:=zN1 o;have d:((gZ len).map G).length=len:=sM;have E:∀i,i<len->∀n∈(D i).weights prog 38,n∈x.1.weights prog 23:=λi g n hn=>by
   rw[C];simp only[DataW.weights,underlying23,nZ,hZ];exact jZ (oZ (zBP _ _ (D i) (List.mem_map.2 ⟨i,by simpa using g,rfl⟩) _ hn))
  refine⟨some a,len,m,(gZ len).map G,f,d,λi y F=>?_,(λe=>by cases e),jZ ⟨(len+(m-len))*40,?_,oM⟩,λy F=>?_⟩
  ·obtain⟨g,e⟩:=List.getElem?_eq_some_iff.1 F;rw[d]at g;have N:G i=y:=by simpa using e
   have S:(a.add 0).spot=none:=World.cell?_spot ((z 0 oM).1 0 _ rfl);obtain⟨b,I,s⟩:=a;obtain rfl:s=none:=S;refine⟨b,I,rfl,λj u v=>?_⟩;have:=(z i oM).1 j u (by rw[N];exact v);rw[add_plain]at this;rw[Nat.add_assoc];exact this
  ·rw[C];simp[DataW.weights,underlying23,zRP]
  ·obtain⟨i,g,rfl⟩:=List.mem_map.1 F;have g:=List.mem_range.1 g;exact E i g _ (z i oM).2
abbrev zRC:Inhabited (List Ch):=⟨[]⟩
theorem zJC{W:wW}{r:Reach}{b0:Nat}{v:vW}{d:DataW H}{p:List MemPlace}
  (hv:Value.okWide prog W r b0 22 v) (h:DataW.Trod enc prog W 0 (λ_=>true) true 22 v d p) :
  ∃(E:List (List Ch))(av:Option Addr)(n cap:Nat),v=.slice av n cap/\RdE W av E/\E.length=n /\
   ∀(B:List TypeId)(N:List (DataW H))(j:Nat),(DataW.weightsEach prog B N).all (· <= reachBytes)=true->B[j]?=some 22->N[j]?=some d->n<=reachBytes/\∀L∈E,L.length<=reachBytes/\∀a∈L,a.t.size<=reachBytes:=by
 obtain⟨a0,len,cap,rfl⟩:=okWide_slice underlying22 hv;obtain⟨fuel,hg⟩:=h;rcases open_slice underlying22 hg with⟨g,C⟩|⟨a,ac,ab,m,n,D,Pl,g,hb,hl,hm,K,C,I⟩
 ·simp[Value.cells]at g;obtain⟨rfl,rfl,rfl⟩:=g;exact⟨[],none,0,0,rfl,(λi a ha=>by simp at ha),rfl,λ_ _ _ _ _ _=>⟨sM,λx C=>by cases C⟩⟩
 ·simp[Value.cells]at g;obtain⟨rfl,rfl,rfl⟩:=g;simp only[if_true]at K;subst K;have F:∀i,i<m->∃L:List Ch,(∃p s k,W.cell? (a.add i)=some (.slice p s k)/\L.length=s/\RdH W p L/\(p=none->s=0/\k=0))/\(L.length=0 \/ ∃n∈(D i).weights prog 23,L.length<=n)/\∀y∈L,y.t.size∈(D i).weights prog 23:=by
   intro i A;obtain⟨R,u,S⟩:=I i A;rw[zRk]at u;obtain⟨_,f,z⟩:=World.cells?_some u;match R,f with
   |[c],_ =>
    obtain⟨p,s,k,L,rfl,hL,hr,Q,o,ht⟩:=zEI S;refine⟨L,⟨p,s,k,?_,hL,hr,Q⟩,by rw[hL];exact o,ht⟩;have:=z 0 oM;rw[add_add,Nat.mul_one,Nat.add_zero]at this;exact this
  letI:=zRC
  obtain⟨G,T⟩:=zN1 F;have f:((gZ len).map G).length=len:=sM;have aa:0<len->∃b l,a=⟨b,l,none⟩:=by
   intro h0;obtain⟨⟨p,s,k,u,_⟩,_⟩:=T 0 oM;have s1:(a.add 0).spot=none:=World.cell?_spot u;obtain⟨b,l,M⟩:=a;obtain rfl:M=none:=s1;exact⟨b,l,rfl⟩
  refine⟨(gZ len).map G,some a,len,m,rfl,λi y hy=>?_,f,λB N j Q u S=>?_⟩
  ·obtain⟨A,e⟩:=List.getElem?_eq_some_iff.1 hy;rw[f]at A;have eG:G i=y:=by simpa using e
   obtain⟨b,l,rfl⟩:=aa oM;obtain⟨⟨p,s,k,q1,q2,q3,q4⟩,_⟩:=T i oM;rw[eG]at q2 q3;rw[add_plain]at q1;exact⟨b,l,p,s,k,rfl,q1,q2,q3,q4⟩
  ·have h3:N[j]?=some (.slice ((gZ len).map D) ((gZ (m-len)).map λj=>D (len+j))):=by rw[S];exact congrArg some (congrArg Prod.fst C)
   have q:=sized_slice Q u h3 underlying22;rw[zQO]at q;simp only[qZ,List.length_range]at q;refine⟨oM,λx C=>?_⟩;obtain⟨i,A,rfl⟩:=List.mem_map.1 C;have A:=List.mem_range.1 A;obtain⟨_,o,ht⟩:=T i oM;have key:∀n∈(D i).weights prog 23,n<=reachBytes:=by
    intro n o;have hm:n∈(DataW.slice ((gZ len).map D) ((gZ (m-len)).map λj=>D (len+j)):DataW H).weights prog 22:=by
     simp only[DataW.weights,underlying22,nZ,hZ];exact jZ (oZ (zBP _ _ (D i) (List.mem_map.2 ⟨i,by simpa using A,rfl⟩) _ o))
    have:=List.all_eq_true.1 Q _ (DataW.weights_mem_each u h3 _ hm);simpa using this
   refine⟨?_,λy hy=>key _ (ht y hy)⟩;rcases o with o|⟨n,o,X⟩
   ·rw[o];exact mZ _
   ·exact zZ X (key n o)
end
open Go.ChangeShapes Go.WideShapes Go.ChangeAt Go.RowKit Go.Joins Go.Deep
open Go.ChangeMaps (open_string shut_string)
section
variable {H:Type}{enc:TypeId×vW->H}
theorem zMX{W:wW}{r:Reach}{q:Nat}{v:vW}{d:DataW H}{p:List MemPlace}
  (C:Value.okWide prog W r q 23 v) (h:DataW.Trod enc prog W 0 (λ_=>true) true 23 v d p) :
  ∃(L:List Ch)(f:Option Addr)(n cap:Nat),v=.slice f n cap/\RdH W f L/\L.length=n/\(f=none->n=0/\cap=0) /\
   ∀(e:List TypeId)(g:List (DataW H))(j:Nat),(DataW.weightsEach prog e g).all (· <= reachBytes)=true->e[j]?=some 23->g[j]?=some d->n<=reachBytes/\∀a∈L,a.t.size<=reachBytes:=by
 obtain⟨o,len,cap,rfl⟩:=okWide_slice underlying23 C;obtain⟨fuel,z⟩:=h;obtain⟨G,m,k,L,l,x,A,F,b,B⟩:=zEI z;simp only[Value.slice.injEq]at l;obtain⟨rfl,rfl,rfl⟩:=l;refine⟨L,o,len,cap,rfl,A,x,F,λe g j D s u=>?_⟩;have key:∀n∈d.weights prog 23,n<=reachBytes:=λn b=>by
  have:=List.all_eq_true.1 D _ (DataW.weights_mem_each s u _ b);simpa using this
 refine⟨?_,λy E=>key _ (B y E)⟩;rcases b with b|⟨n,b,i⟩
 ·rw[b];exact mZ _
 ·exact zZ i (key n b)
end
end Go.Proofs.YthcblmpncpcfkaaGreatDoor
namespace Go.Proofs.YthcblmpncpcfkaaGreatDoor.bookKeeps
theorem Je{a b:Bool}(d:a=true)(e:b=true):(a&&b)=true:=by rw[d,e];rfl
theorem zPx:Tryz.pinned.checked.prog.funcNamed Rows.bookKeepsRow.func=some 3:=kR
theorem zMG:joinedFacts Tryz.pinned.checked.prog 3 Tryz.f3 (OpenSpec.ofChange Rows.bookKeepsSpec).bare Rows.bookKeepsRow=true:=by
 unfold joinedFacts;refine Je (Je (Je (Je (Je (Je (Je (Je (Je (Je (Je (Je (Je (Je (Je (Je (Je (Je (Je (Je (Je (Je (Je (Je (Je (Je (Je (Je (Je (Je (Je ?_ ?_) ?_) ?_) ?_) ?_) ?_) ?_) ?_) ?_) ?_) ?_) ?_) ?_) ?_) ?_) ?_) ?_) ?_) ?_) ?_) ?_) ?_) ?_) ?_) ?_) ?_) ?_) ?_) ?_) ?_) ?_;all_goals as_aux_lemma=>kernel_rfl
theorem zQT:Tryz.f3.isInstance Tryz.pinned.checked.prog Rows.bookKeepsRow.origin Rows.bookKeepsRow.targs:=of_decide_eq_true kR
theorem zQW:Tryz.f3.isWrapper Tryz.pinned.checked.prog Rows.bookKeepsRow.wrapper Rows.bookKeepsRow.mainSum:=by
 unfold Func.isWrapper;first|(rw[if_pos (by decide +kernel)];kernel_rfl)|(rw[if_neg (by decide +kernel)];exact⟨rfl,rfl⟩)
theorem zNy:true=Tryz.pinned.checked.prog.looks []:=kR
end Go.Proofs.YthcblmpncpcfkaaGreatDoor.bookKeeps
namespace Go.Proofs.YthcblmpncpcfkaaGreatDoor
open _root_.Go.Proofs.Tryz
open Go.RowKit
variable {W w:wW}{rest:List (String×DataW Unit)}{P:Program}{base fuel n c:Nat}{sp:Nat->Bool}{held:Bool}{cs:List vW}
theorem zC3{H:Type}{enc:TypeId×vW->H}{t e:TypeId}{f:List (DataW H)}{p:List MemPlace}
  (u:P.underlying t=some (.array n e)) (g:P.cellsOf e=c) (j:P.cellsOf t=n*c)
  (h:DataW.trod enc P w base sp held fuel t cs=some (.agg f,p)):cs.length=n*c/\f.length=n/\∀i d,f[i]?=some d->∃fuel' p',DataW.trod enc P w base sp held fuel' e ((cs.drop (i*c)).take c)=some (d,p'):=by
 cases fuel with
 |zero=>simp[DataW.trod]at h
 |succ fuel =>
  simp only[DataW.trod,u,g,j]at h;split at h
  ·rename_i s
   obtain⟨l,m,v⟩:=Option.map_eq_some_iff.1 h;have a:l.map (·.1)=f:=by
    have:=congrArg Prod.fst v;simpa using this
   have k:l.length=n:=by simpa using Lib.mapM_length m
   refine⟨by simpa using s,by rw[<-a];simpa using k,λi d hd=>?_⟩;have r:i<n:=by
    have:=(List.getElem?_eq_some_iff.1 hd).1;rw[<-a,qZ]at this;omega
   obtain⟨b,o,q⟩:=Lib.mapM_at m i i (by simp[r]);have:(l.map (·.1))[i]?=some b.1:=by simp[o]
   rw[a,hd]at this;obtain rfl:=Option.some.inj this;exact⟨fuel,b.2,q⟩
  ·cases h
theorem zQF{s:ByteArray}{l:List UInt8}(h:s.data.toList=l):s=⟨l.toArray⟩:=by
 apply ByteArray.ext
 apply bY
 rw[h]
theorem zPw (h:laidMet prog (("whittle/value.faultNames",.agg (fNames.map λx=>.lit (.string x)))::rest) W):FltAt W:=by
 obtain⟨B,⟨u,C,cs,fuel,p,q,b,d,a,hd,_,_⟩,_⟩:=h;have k:prog.globalNamed "whittle/value.faultNames" = some 0:=kR
 have f:(prog.globals[0]?).map (·.type)=some 168:=kR
 obtain rfl:=Option.some.inj (k.symm.trans b);obtain rfl:=Option.some.inj (f.symm.trans d);obtain⟨y,z,m⟩:=zC3 (n:=9) (c:=1) (e:=9) underlying168 kR kR hd;intro j v g;unfold fltR at g;rw[eZ]at g;obtain⟨x,r,rfl⟩:=Option.map_eq_some_iff.1 g;obtain⟨t,A,o⟩:=m j (.lit (.string x)) (by rw[eZ,r];rfl);obtain⟨s,l,i,_⟩:=DataW.trod_string underlying9 o;simp only[Prod.mk.injEq,DataW.lit.injEq,Lit.string.injEq]at i;rw[vZ,World.var?_cell k a j];have:cs.toList[j]?=some (.string s):=by
  have:=congrArg (·[0]?) l;simpa[uZ,kZ]using this
 rw[bZ]at this;rw[this,zQF i.1.symm]
theorem zPQ{α β:Type}(f:α->List β)(b:∀x,(f x).length=3):∀(l:List α)(i:Nat)(a:i<l.length)(r:Nat),r<3->(l.flatMap f)[i*3+r]?=(f l[i])[r]?
 |[],i,a,r,hr=>absurd a (Nat.not_lt_zero _)
 |x::l,0,a,r,hr=>by
  rw[wZ,List.getElem?_append_left (by rw[b];omega)];simp
 |x::l,i+1,a,r,hr=>by
  rw[wZ,List.getElem?_append_right (by rw[b];omega),b,show(i+1)*3+r-3=i*3+r by omega];rw[zPQ f b l i (by simpa using a) r hr];simp
theorem zQ1 (h:laidMet prog (("whittle/tree.operators",.agg (Wt.opsT.map λx=>.agg [.lit (.int .i64 x.1),.lit (.string x.2.1),.lit (.int .i64 x.2.2)]))::rest) W):OpsAt W:=by
 obtain⟨ps,⟨X,t',cs,fuel,p,q,f,g,b,hd,_,_⟩,_⟩:=h;have r:prog.globalNamed "whittle/tree.operators" = some 1:=kR
 have k:(prog.globals[1]?).map (·.type)=some 247:=kR
 obtain rfl:=Option.some.inj (r.symm.trans f);obtain rfl:=Option.some.inj (k.symm.trans g);obtain⟨h1,h2,F⟩:=zC3 (n:=15) (c:=3) (e:=222) underlying247 kR kR hd;have z:prog.cellsOf 3=1:=kR
 have A:prog.cellsOf 9=1:=kR
 have key:∀i x,Wt.opsT[i]?=some x->cs.toList[i*3]?=some (.int .i64 x.1)/\cs.toList[i*3+1]?=some (.string ⟨x.2.1.toArray⟩)/\cs.toList[i*3+2]?=some (.int .i64 x.2.2):=by
  intro i x I;obtain⟨T,p',G⟩:=F i _ (by rw[eZ,I];rfl);obtain⟨y0,y1,y2,n,e,-,Q,R,S⟩:=Deep.trod_struct3 underlying222 G;simp only[Prod.mk.injEq,DataW.agg.injEq,List.cons.injEq,and_true]at e;obtain⟨z0,l,C,_⟩:=DataW.trod_int underlying3 Q;obtain⟨z1,m,D,_⟩:=DataW.trod_string underlying9 R;obtain⟨z2,o,E,_⟩:=DataW.trod_int underlying3 S;subst C D E;simp only[DataW.lit.injEq,Lit.int.injEq,Lit.string.injEq,true_and]at e;obtain⟨⟨rfl,B,rfl⟩,-⟩:=e;simp only[z]at l o;simp only[A]at m;have t:=congrArg (·[0]?) l;have u:=congrArg (·[0]?) m;have y:=congrArg (·[0]?) o;simp[kZ]at t u y;refine⟨?_,?_,?_⟩
  ·rw[bZ];exact t
  ·rw[bZ,u,zQF B.symm]
  ·rw[bZ];exact y
 intro j v a;rw[vZ,World.var?_cell r b j];have hj:j<45:=by
  have:=(List.getElem?_eq_some_iff.1 a).1;have e:opsR.length=45:=rfl;omega
 have s:j/3<Wt.opsT.length:=by show j/3<15;omega
 obtain⟨K,M,N⟩:=key (j/3) _ (cZ s);have d:=zPQ (λx:Int×List UInt8×Int=>([.int .i64 x.1,.string ⟨x.2.1.toArray⟩,.int .i64 x.2.2]:List vW)) (λ_=>rfl) Wt.opsT (j/3) s;have hm:j%3=0\/j%3=1\/j%3=2:=oM;rcases hm with hm|hm|hm
 ·have e:j=j/3*3+0:=oM;have:=d 0 dM;rw[<-e]at this;rw[show opsR[j]?=_ from this]at a;rw[show j=j/3*3 by omega,<-bZ,K];exact a
 ·have e:j=j/3*3+1:=oM;have:=d 1 dM;rw[<-e]at this;rw[show opsR[j]?=_ from this]at a;rw[e,<-bZ,M];exact a
 ·have e:j=j/3*3+2:=oM;have:=d 2 dM;rw[<-e]at this;rw[show opsR[j]?=_ from this]at a;rw[e,<-bZ,N];exact a
theorem zEm{H:Type}{enc:TypeId×vW->H}{t e:TypeId}{f:List (DataW H)}{p:List MemPlace}
  (u:P.underlying t=some (.array n e)) (g:P.cellsOf e=c) (j:P.cellsOf t=n*c)
  (h:DataW.trod enc P w base sp held fuel t cs=some (.agg f,p)):cs.length=n*c/\f.length=n/\∀i d,f[i]?=some d->∃fuel' p',DataW.trod enc P w base sp held fuel' e ((cs.drop (i*c)).take c)=some (d,p'):=by
 cases fuel with
 |zero=>simp[DataW.trod]at h
 |succ fuel =>
  simp only[DataW.trod,u,g,j]at h;split at h
  ·rename_i s
   obtain⟨l,m,v⟩:=Option.map_eq_some_iff.1 h;have a:l.map (·.1)=f:=by
    have:=congrArg Prod.fst v;simpa using this
   have k:l.length=n:=by simpa using Lib.mapM_length m
   refine⟨by simpa using s,by rw[<-a];simpa using k,λi d hd=>?_⟩;have r:i<n:=by
    have:=(List.getElem?_eq_some_iff.1 hd).1;rw[<-a,qZ]at this;omega
   obtain⟨b,o,q⟩:=Lib.mapM_at m i i (by simp[r]);have:(l.map (·.1))[i]?=some b.1:=by simp[o]
   rw[a,hd]at this;obtain rfl:=Option.some.inj this;exact⟨fuel,b.2,q⟩
  ·cases h
theorem zRb (h:laidMet prog (("whittle/funcs.names",.agg (fnN.map λx=>.lit (.string x)))::rest) W):NmAt W:=by
 obtain⟨C,⟨y,D,cs,fuel,p,q,b,d,a,hd,_,_⟩,_⟩:=h;have k:prog.globalNamed "whittle/funcs.names" = some 2:=kR
 have f:(prog.globals[2]?).map (·.type)=some 267:=kR
 obtain rfl:=Option.some.inj (k.symm.trans b);obtain rfl:=Option.some.inj (f.symm.trans d);obtain⟨z,A,o⟩:=zEm (n:=63) (c:=1) (e:=9) underlying267 kR kR hd;intro j v g;unfold nmR at g;rw[eZ]at g;obtain⟨x,t,rfl⟩:=Option.map_eq_some_iff.1 g;obtain⟨u,B,r⟩:=o j (.lit (.string x)) (by rw[eZ,t];rfl);obtain⟨s,l,i,_⟩:=DataW.trod_string underlying9 r;simp only[Prod.mk.injEq,DataW.lit.injEq,Lit.string.injEq]at i;rw[vZ,World.var?_cell k a j];have:cs.toList[j]?=some (.string s):=by
  have:=congrArg (·[0]?) l;simpa[uZ,kZ]using this
 rw[bZ]at this;have m:s=⟨x.toArray⟩:=by
  apply ByteArray.ext
  apply bY
  exact i.1.symm
 rw[this,m]
