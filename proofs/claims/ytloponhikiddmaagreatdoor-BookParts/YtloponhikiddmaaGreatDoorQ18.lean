/- Lemmas. -/
import Derived.Test.YtloponhikiddmaaGreatDoorQ17
import Derived.Maps.RangeRun
import Derived.Sort.Grow
import Derived.Lib.QuietBelow
import Derived.Shelf.SlSortCmp.WholeK
import Derived.Ground.SlsfProg
import Derived.Shelf.SlGeneric
import Derived.Shelf.SlSortCmp.NoneTotal
set_option maxHeartbeats 4000000
set_option maxRecDepth 100000
set_option linter.unusedVariables false
open Go.RowKit.Below renaming refl->cZ
open Nat renaming le_refl->dZ,le_trans->eZ,zero_add->nZ,lt_of_lt_of_le->oZ,zero_le->rZ,not_lt_zero->cY,lt_trans->jY
open List renaming getElem?_map->fZ,getElem_mem->jZ,mem_cons->kZ,getElem?_eq_none->mZ,getD_eq_getElem?_getD->qZ,getElem?_append_right->sZ,drop_eq_getElem_cons->tZ,getElem?_append_left->uZ,getElem?_eq_getElem->vZ,not_mem_nil->wZ,getElem?_replicate->xZ,getElem?_cons_zero->yZ,drop_eq_nil_of_le->zZ,replicate->dY,map_map->fY,getElem?_inj->gY,take_zero->iY
open Bool renaming not_eq_true'->gZ,or_eq_true->hY
open Go.IntKind renaming wrap_i64->iZ
open Or renaming inr->pZ,inl->eY
open Go renaming World->wW,Value->vW,Calls->cW
open Go.RowKit renaming Hid->hH
open Go.Value renaming int->O,slice->U,string->V,bool->Y,pointer->pX,agg->gX,tuple->uX
open Go.IntKind renaming i64->J
open Go.Obj renaming cells->Z
open Go.Ending renaming returned->rX
open Go.Operand renaming tmp->mX
namespace Go.Proofs.YtloponhikiddmaaGreatDoor
open Tryz
variable {w w':wW} {mb k n r b mk m2 B m:Nat} {F:List (Wpl.Cl × Ct)} {S:List Nat} {M:List (Option (Int × Nat))} {v2:Int} {D:List Wpl.Cl} {E:List MapEntry} {lv v:vW} {tl:List Int} {ok:Bool} {C:List Wf.I}
open Go.RowKit
theorem zLi:(prog.info? 193).map (λi=>(i.zero,i.size,i.bytes))=some (some (gX #[O J 0,O J 0,Y false]),3,24):=kR
theorem MkS.call (h:MkS w b mk n M) (a:Fr S w w') (hd:w'.cell? ⟨b,0,none⟩=some (U (some ⟨mk,0,none⟩) n n)) (c:mk ∉ S):MkS w' b mk n M :=
 ⟨hd,λj d=>a.range (h.at' j d) c,λi hi=>by rw [a.frozen h.mlt c];exact h.fz i hi,h.len,oZ h.mlt a.size⟩
theorem zGw {r:Option ((Int × Nat) × List (Nat × Int))} {e:Ending} {F:List (Nat × Int)} (c:FS w b mb lv F) (h:Vx r b mb lv w e w'):∃ (v2:Int) (m2:Nat) (ok:Bool),e=rX (uX #[gX #[O J v2,O J (m2:Int)],Y ok])/\Fr (b::mb::lv.ownBlock.toList) w w' /\
  ((ok=false/\r=none) \/ (ok=true/\∃ a,r=some ((v2,m2),a)/\(∃ lv',FS w' b mb lv' a)/\(∀ u,w.cell? ⟨b,0,none⟩=some u->w'.cell? ⟨b,0,none⟩=some u))):=by
 cases r with
 | none=>exact ⟨0,0,false,h.1,h.2,eY ⟨rfl,rfl⟩⟩
 | some q =>
  obtain ⟨⟨v,k⟩,a⟩:=q;exact ⟨v,k,true,h.1,h.2.2.1,pZ ⟨rfl,a,rfl,h.2.1,h.2.2.2⟩⟩
theorem zQW (n j:Nat) (d:j<n):(madeCells (gX #[O J 0,O J 0,Y false]).cells (n * 3)).toList[j * 3]? = some (O J 0)/\(madeCells (gX #[O J 0,O J 0,Y false]).cells (n * 3)).toList[j * 3+1]? = some (O J 0)/\(madeCells (gX #[O J 0,O J 0,Y false]).cells (n * 3)).toList[j * 3+2]? = some (Y false):=by
 have e0:j * 3 % 3=0:=oM;have a:(j * 3+1) % 3=1:=oM;have c:(j * 3+2) % 3=2:=oM;refine ⟨?_,?_,?_⟩
 ·simp [madeCells,Value.cells,show j * 3<n * 3 by omega,e0]
 ·simp [madeCells,Value.cells,show j * 3+1<n * 3 by omega,a]
 ·simp [madeCells,Value.cells,show j * 3+2<n * 3 by omega,c]
theorem mk0 (n j:Nat) (a:0<n):mkC ((dY n none).set 0 (some ((0:Int),(0:Nat)))) j=[O J 0,O J 0,Y false]:=by
 unfold mkC;rw [Wc.getD_set _ 0 j _ (by simpa using a)];by_cases h:0=j
 ·rw [if_pos h];subst h;rfl
 ·have e:(if j<n then some (none:Option (Int × Nat)) else none).getD none=none:=by split <;> rfl
  rw [if_neg h,qZ,xZ,e]
theorem zRS (n:Nat) (a:0<n):PInv 0 ((dY n none).set 0 (some ((0:Int),(0:Nat)))) []:=by
 refine ⟨dZ _,Wc.Rows.nil,by rw [Wc.getD_set _ 0 0 _ (by simpa using a),if_pos rfl],λj v m e=>?_⟩;rw [Wc.getD_set _ 0 j _ (by simpa using a)] at e;split at e
 ·cases e
  exact ⟨Int.le_refl _,Int.le_refl _,dZ _⟩
 ·rw [qZ,xZ] at e;split at e <;> cases e
theorem zDQ {i:Nat} {o p:List (Option (Int × Nat))} {F l:List (Nat × Int)} {x:Wc.In} {v:Int} (h:PInv i M F) (I:M.getD i none=some (v,m)) (L:rgt x tl=true) (c:Vf F x v m=some ((v2,m2),l)) {pl1 f:List Int} (G:Wc.handP (v2,m2) pl1 M=some o) (H:Wc.handP (v,m) f o=some p) (P:∀ j ∈ pl1,0<j) (Q:∀ j ∈ f,0<j):PInv (i+1) p l:=by
 obtain ⟨z,T,A⟩:=h.at' i v m I;have hs:=zOz L;unfold Vf at c;cases g:Wc.behF F x.op x.a m with
 | none=>rw [g] at c;cases c
 | some q =>
  obtain ⟨m3,R⟩:=q;rw [g] at c;simp only at c;split at c
  ·cases c
  ·rename_i X
   cases c
   have W:=zL4 g;have B:=zPe h.rows A g;obtain ⟨t,y⟩:=zDh _ _ _ G P;obtain ⟨b1,b2⟩:=zDh _ _ _ H Q;have s:=h.len;refine ⟨oM,B.rows,by rw [b1,t];exact h.zero,λj u k e=>?_⟩;have K:=B.le;have d:=B.le2;rcases b2 j _ e with q | q
   ·cases q
    exact ⟨z,oM,oM⟩
   ·rcases y j _ q with q | q
    ·cases q
     refine ⟨oM,oM,d⟩
    ·obtain ⟨N,k2,k3⟩:=h.at' j u k q;exact ⟨N,oM,oM⟩
theorem zPP {y:wW} {p:Option Addr} {d c:Nat} {u:List Int} (h:RdZ w (U p d c) tl) (q:RdZ y (U p d c) u) (a:u ≠ []) {g:Nat} (e:(U p d c).ownBlock=some g):g<w.heap.size:=by
 obtain ⟨z,G,f,o⟩:=h;obtain ⟨A,H,j,I⟩:=q;simp only [U.injEq] at f j;have K:tl.length=u.length:=oM;have L:=List.length_pos_iff.2 a;obtain ⟨i,s,t,x⟩:=o 0 oM;rw [f.1,t] at e;have l:i=g:=by simpa [Value.ownBlock] using e
 subst l;exact Q8 x
theorem zMf {l:List Int} (h:RdZ w v l) (s:Fr S w w') (p:l ≠ []->∀ g,v.ownBlock=some g->g ∉ S):RdZ w' v l:=by
 obtain ⟨o,cap,e,f⟩:=h;refine ⟨o,cap,e,λi a=>?_⟩;obtain ⟨d,c,j,t⟩:=f i a;refine ⟨d,c,j,s.cell t (p (by intro q;rw [q] at a;simp at a) d ?_)⟩;rw [e,j];rfl
def OKF (w:wW) (b mb mk n:Nat) (M:List (Option (Int × Nat))) (r:Option ((Int × Nat) × List (Nat × Int))) (ok:Bool) (v2:Int) (m2:Nat):Prop:=(ok=false/\r=none) \/ (ok=true/\∃ a,r=some ((v2,m2),a)/\(∃ lv',FS w b mb lv' a)/\MkS w b mk n M)
theorem OKF.below {r:Option ((Int × Nat) × List (Nat × Int))} (h:OKF w b mb mk n M r ok v2 m2) (a:bL w w'):OKF w' b mb mk n M r ok v2 m2:=by
 rcases h with h | ⟨d,c,e,⟨lv',f⟩,g⟩
 ·exact eY h
 ·exact pZ ⟨d,c,e,⟨lv',f.below a⟩,g.fr (Fr.of_below [] a) sM sM⟩
theorem zMa (h:∃ c f,w.heap[k]? = some (Z c 191 f)) (i:Nat) (v:vW):∃ c f,(w.setCell ⟨k,i,none⟩ v).heap[k]? = some (Z c 191 f):=by
 obtain ⟨c,f,h⟩:=h;exact ⟨c.setIfInBounds i v,f,by simp [World.setCell,Array.getElem?_modify,h]⟩
theorem OKF.set {r:Option ((Int × Nat) × List (Nat × Int))} (h:OKF w b mb mk n M r ok v2 m2) (H:b<k) (I:mk<k) (a:∃ c f,w.heap[k]? = some (Z c 191 f)) (i:Nat) (u:vW):OKF (w.setCell ⟨k,i,none⟩ u) b mb mk n M r ok v2 m2:=by
 rcases h with h | ⟨y,p,z,⟨lv',d⟩,A⟩
 ·exact eY h
 ·obtain ⟨c,f,a⟩:=a;have fr:Fr [k] w (w.setCell ⟨k,i,none⟩ u):=Fr.of_grown (QU _ _ _ _) (λj e=>by cases e;simp);have G:=d.lt;refine pZ ⟨y,p,z,⟨lv',d.fr fr (by simp;omega) (by simp;omega) (λg e l=>?_)⟩,A.fr fr (by simp;omega) (by simp;omega)⟩;simp at l;subst l;rcases d.own.2 with ⟨q,_⟩ | ⟨x,cap,s,q,_,o,_⟩
  ·rw [q] at e;cases e
  ·rw [q] at e;have t:x=g:=by simpa [Value.ownBlock] using e
   subst t;rw [a] at o;cases o
theorem Qn {a c:wW} (h:bL w a) (f:Fr S a c) (e:∀ k ∈ S,w.heap.size<=k):bL w c :=
 ((Fr.of_below [] h).new f (λk d=>pZ (e k d))).to_below sM
theorem zOK (L:List (Wc.In × List Int)) (v:vW) (w:wW) (h:RdC w v L) (hl:L.length<=1000000) (z:0<L.length) (ht:∀ x ∈ L,x.2.length<=1000000) (bP:Wc.plcs rgt L.length 0 L=true) (bK:∀ x ∈ L,VZ x.1) :
  cW prog 75 #[v] w λe w'=>(∃ p,e=rX (uX #[p,Y (Wc.runP Wc.spI 0 L (Wc.sP L.length))]))/\bL w w':=by
 obtain ⟨a1,c1,rfl,r1⟩:=h;have HR:hH (RdC w (U a1 L.length c1) L):=⟨a1,c1,rfl,r1⟩
 have HT:=hid ht;have bV:=hid bK;clear bK;have bX:hH (∀ (k:Nat) (hk:k<L.length),Wc.plc rgt L.length k (L[k])=true):=λk hk=>by have:=(Wc.plcs_iff rgt L.length L 0).1 bP k hk;rwa [nZ] at this
 obtain ⟨n,hn⟩:=xV L.length
 have HL:=hid hn;rw [hn] at hl z ⊢;obtain ⟨q,hq⟩:=xV (Wc.runP Wc.spI 0 L (Wc.sP n))
 have HQ:=hid hq;rw [hq];have HN:=hid (And.intro z hl);obtain ⟨i0,bs,bR,bS,bT⟩:=info_parts zLi;have b5:∀ w:wW,(Instr.makeMap 184 none).run prog w=.ok (.map (some w.heap.size)) (w.alloc (.map #[] 0)):=λw=>by kernel_rfl
 clear r1 ht bP hn hq;go_enter func75,ntmps75;go_upto_region 1 with fail
 go_upto_region 2 with (refine wpList_make_full w rfl (mX 13) (mX 13) 183 rfl w.heap.size 193 i0 _ 3 underlying183 bs bR bS J J _ _ n rfl rfl rfl rfl (by rw [bT];omega) (by unfold maxLen;omega) (dZ _) ?_;intro w2 aE aH)
 have bM:bL w w2:=⟨aH.os,aH.tape,aH.output,aH.size,λk hk=>aH.block k hk sM⟩
 have a7:w.heap.size<w2.heap.size:=(QM aE (g:=w.heap.size) rfl).2;have s:=QJ (QJ (cZ _ w2) (.map #[] 0)) (Z #[U (some ⟨w.heap.size,0,none⟩) n n,U none 0 0,.map (some w2.heap.size)] 189);have bJ:=QA bM s;have pB:=AtL.new1 w2 (.map #[] 0) 189 [U (some ⟨w.heap.size,0,none⟩) n n,U none 0 0,.map (some w2.heap.size)];have bO:FM ((w2.alloc (.map #[] 0)).alloc (Z #[U (some ⟨w.heap.size,0,none⟩) n n,U none 0 0,.map (some w2.heap.size)] 189)) w2.heap.size []:=FM.below (w:=w2.alloc (.map #[] 0)) ⟨#[],zAq _ _ _ rfl,rfl⟩ (QJ (cZ _ _) _);have aF:hH (FS ((w2.alloc (.map #[] 0)).alloc (Z #[U (some ⟨w.heap.size,0,none⟩) n n,U none 0 0,.map (some w2.heap.size)] 189)) (w2.heap.size+1) w2.heap.size (U none 0 0) []):=⟨pB.2.1 1 _ rfl,pB.2.2 1 sM,⟨rfl,eY ⟨rfl,rfl⟩⟩,pB.2.1 2 _ rfl,bO,Nat.lt_succ_self _⟩
 have ay:hH (MkS ((w2.alloc (.map #[] 0)).alloc (Z #[U (some ⟨w.heap.size,0,none⟩) n n,U none 0 0,.map (some w2.heap.size)] 189)) (w2.heap.size+1) w.heap.size n ((dY n none).set 0 (some ((0:Int),(0:Nat))))):=by
  have b2:=aE.cells (g:=w.heap.size) rfl;have aV:∀ (j:Nat) (u:vW),(madeCells (gX #[O J 0,O J 0,Y false]).cells (n * 3)).toList[j]? = some u->w2.cell? ⟨w.heap.size,j,none⟩=some u:=by
   intro j u hu;have:=b2 j u hu;rwa [show (⟨w.heap.size,0,none⟩:Addr).add j=⟨w.heap.size,j,none⟩ from by simp [Addr.add];intro h;exact h.symm] at this
  refine ⟨pB.2.1 0 _ rfl,λj hj=>?_,λi hi=>?_,sM,oZ a7 s.size⟩
  ·rw [mk0 n j z];obtain ⟨d0,d1,d2⟩:=zQW n j hj;intro r u hu;match r,hu with
   | 0,hu=>cases hu;exact QC s (aV _ _ d0)
   | 1,hu=>cases hu;exact QC s (aV _ _ d1)
   | 2,hu=>cases hu;exact QC s (aV _ _ d2)
  ·have b3:w2.frozen? ⟨w.heap.size,i,none⟩=false:=by
    rcases aE.2 with ⟨e,_⟩ | ⟨g,cb,cc,e,_,hg,_,_,hs,_⟩
    ·cases e
    ·simp only [U.injEq,Option.some.injEq,Addr.mk.injEq] at e;obtain ⟨⟨e1,-,-⟩,-,-⟩:=e;rw [<-e1] at hg;simp [World.frozen?,hg]
   rw [(Fr.of_below [] s).frozen a7 sM];exact b3
 have bF:=hid (zRS n z);have bC:=hid bJ;have bG:=hid a7;clear bM a7 s bJ pB bO aE aH bs bR bS bT b5 i0;obtain ⟨b,hb⟩:=xV (w2.heap.size+1)
 obtain ⟨mb,a9⟩:∃ b,w2.heap.size=b:=⟨_,rfl⟩
 obtain ⟨mk,aD⟩:∃ b,w.heap.size=b:=⟨_,rfl⟩
 have d:hH (mk<mb/\mb+1=b/\w.heap.size=mk):=⟨by rw [<-aD,<-a9];exact bG.out,by rw [<-a9];exact hb,aD⟩
 generalize ((w2.alloc (.map #[] 0)).alloc (Z #[U (some ⟨w.heap.size,0,none⟩) n n,U none 0 0,.map (some w2.heap.size)] 189))=w0 at *;rw [hb,aD] at ay;rw [hb,a9] at aF;simp only [a9,aD];simp only [d.out.2.1];clear bG;go_wp2_with fail
 go_loopg [21] n (λgk x wr=>∃ (i:Nat) (M:List (Option (Int × Nat))) (F:List (Nat × Int)) (lv:vW),x=O J i/\gk=n - i/\i<=n/\hH (Wc.runP Wc.spI i (L.drop i) (M,F)=q)/\hH (MkS wr b mk n M)/\hH (FS wr b mb lv F)/\hH (PInv i M F)/\hH (bL w wr))
 case atStart=>exact ⟨0,_,[],_,rfl,rfl,rZ _,HQ,ay,aF,bF,bC⟩
 case round =>
  clear HQ ay aF bF bC;obtain ⟨i,M,F,lv,rfl,hg,hi,HQ,HM,HS,HI,HB⟩:=hrel;by_cases a8:i<n
  ·have b4:(i:Int)<(n:Int):=oM;have ce:J.wrap ((i:Int)+1)=(i:Int)+1:=by rw [iZ];have:=HN.out;omega
   have a6:i<L.length:=by rw [HL.out];exact a8
   have l:=HB.out;have H0:=HR.out;rw [HL.out] at H0;obtain ⟨q1,d1,e1,f1⟩:=H0;simp only [U.injEq] at e1;obtain ⟨bZ,b0,b1⟩:=e1;subst bZ;subst b1;clear b0;obtain ⟨bb,b9,p,mm,kk,rfl,bA,be,_⟩:=f1 i a6;obtain ⟨y,tl,aX⟩:∃ y tl,L[i]=(y,tl):=⟨_,_,rfl⟩
   have bx:=HT.out L[i] (jZ _);have bD:hH (VZ y):=by have:=bV.out (L[i]) (jZ _);rw [aX] at this;exact this
   rw [aX] at bx bA be;have bv:=bX.out i a6;rw [HL.out,aX] at bv;obtain ⟨bz,_,bc,bd⟩:=(Wc.plc_iff _ _ _ _).1 bv;have bI:=hid bz;have bY:0<=(Wc.swO y.op y.b).1/\(Wc.swO y.op y.b).1<=1000/\0<=(Wc.swO y.op y.b).2/\(Wc.swO y.op y.b).2<=1:=zOz bz;have ae:hH (∀ u1 u2:List Int,onw y.op y.a y.b tl i=(u1,u2)->(∀ j ∈ u1,0<j/\j<(n:Int))/\(∀ j ∈ u2,0<j/\j<(n:Int))/\u1.length<=1000000/\u2.length<=1000000):=by
    intro u1 u2 hu;have bu:=zEo (o:=y.op) (a:=y.a) (b:=y.b) (at':=i) bx;simp only at bc bd;rw [hu] at bc bd bu;exact ⟨λj hj=>by have:=bc j hj;omega,λj hj=>by have:=bd j hj;omega,bu.1,bu.2⟩
   have HZ:=hid be;have aG:hH (∀ (wa:wW) (cv:vW) (u:List Int) (wb:wW),u ≠ []->RdZ wa cv u->Bk wb (U p mm kk) cv->mk<wb.heap.size->∀ g,cv.ownBlock=some g->g ≠ mk):=by
    intro wa cv u wb ab b8 hbk cd g e;rcases hbk with hbk | hbk
    ·subst hbk;have hg:=zPP be b8 ab e;have:=d.out;omega
    ·have:=hbk g e;omega
   have am:hH ((match Wc.spI i (y,tl) (M,F) with | none=>false | some s2=>Wc.runP Wc.spI (i+1) (L.drop (i+1)) s2)=q):=by
    show _=q
    rw [<-HQ.out,tZ a6,aX];rfl
   have t1:=QG l bA;have aZ:AtL (wr.alloc (Z zeros23 87)) wr.heap.size zeros23.toList:=AtL.new0 wr _ _;have bQ:World.there (wr.alloc (Z zeros23 87)) wr.heap.size 0 (QF y (U p mm kk)).toArray.size:=aZ.there;clear aZ f1 aX HQ a6 l be bA bx bv bz bc bd;go_upto_region 5 with (first | (refine QB (by rfl) 87 (mX 24) rfl bb (b9+i * 23) rfl (QF y (U p mm kk)) _ t1 underlying87 rfl kR ?_) | ((with_reducible refine wpList_store_mid ?_ 87 (mX 6) (mX 25) ?_ wr.heap.size 0 (QF y (U p mm kk)).toArray ?_ ?_ ?_ ?_ ?_ ?_);rfl;rfl;rfl;rfl;exact bQ;kernel_rfl;exact JO _ _ _ _))
   have aZ:AtL (wr.alloc (Z zeros23 87)) wr.heap.size zeros23.toList:=AtL.new0 wr _ _;have X:AtL ((wr.alloc (Z zeros23 87)).setCells wr.heap.size 0 (QF y (U p mm kk))) wr.heap.size (QF y (U p mm kk)):=aZ.setAll rfl;have a5:bL wr ((wr.alloc (Z zeros23 87)).setCells wr.heap.size 0 (QF y (U p mm kk))):=Qm (QJ (cZ _ wr) _) (dZ _) _ 0;have hM:=HM.out.fr (Fr.of_below [] a5) sM sM;have hS:=HS.out.below a5;have l:=QA HB.out a5;have bE:hH (∀ g,lv.ownBlock=some g->b+1<=g/\g<wr.heap.size):=λg e=>QM HS.out.own e
   have aJ:=hid (Q8 HS.out.hd);clear aZ bQ t1 HM HS HB a5;generalize (wr.alloc (Z zeros23 87)).setCells wr.heap.size 0 (QF y (U p mm kk))=W4 at *;have c0:=hM.hd;have hr:=hM.at' i a8;cases ao:M.getD i none with
   | none =>
    have bs:i ≠ 0:=λe=>by rw [e,HI.out.zero] at ao;cases ao
    have bN:(0:Int)<(i:Int):=oM;have e2:W4.cell? ⟨mk,i * 3+2,none⟩=some (Y false):=hr 2 (Y false) (by unfold mkC;rw [ao];rfl);clear hr;go_wp2;go_ret2
    have ad:q=false:=by
     rw [<-am.out,JC];simp only [ao]
    exact ⟨⟨pX none,by rw [ad];rfl⟩,by first | exact l | (rw [<-d.out.2.2];exact l)⟩
   | some gg =>
    obtain ⟨v,m⟩:=gg;have af:=hid ao;have a0:W4.cell? ⟨mk,i * 3,none⟩=some (O J v):=hr 0 (O J v) (by unfold mkC;rw [ao];rfl);have a1:W4.cell? ⟨mk,i * 3+1,none⟩=some (O J (m:Int)):=hr 1 (O J (m:Int)) (by unfold mkC;rw [ao];rfl);have e2:W4.cell? ⟨mk,i * 3+2,none⟩=some (Y (decide (i ≠ 0))):=hr 2 (Y (decide (i ≠ 0))) (by unfold mkC;rw [ao];rfl);have b6:(¬ (0:Int)<(i:Int)/\W4.cell? ⟨mk,i * 3+2,none⟩=some (Y false)) \/ ((0:Int)<(i:Int)/\W4.cell? ⟨mk,i * 3+2,none⟩=some (Y true)):=by
     rcases Nat.eq_zero_or_pos i with hz | hz
     ·left
      exact ⟨oM,by rw [e2];simp [hz]⟩
     ·right
      exact ⟨oM,by rw [e2];simp;omega⟩
    have ay:=hid hM;have aF:=hid hS;clear hr ao e2 hM hS;rcases b6 with ⟨bN,e2⟩ | ⟨bN,e2⟩
    all_goals
     go_upto_region 7 with fail
     clear e2;go_upto_region 8 with fail
     have pH:=AtL.new0 W4 191 [O J v,O J (m:Int)];have aU:bL W4 (W4.alloc (Z #[O J v,O J (m:Int)] 191)).drew:=(QJ (cZ _ W4) (Z #[O J v,O J (m:Int)] 191)).drew;have z:=(AtL.drew pH).2.1 0 _ rfl;have G:=(AtL.drew pH).2.1 1 _ rfl;have Q:=hid ay.out.mlt;have aO:=hid ((AtL.drew pH).1);have au:=hid X.1;replace X:=AtL.below aU X
     replace l:=QA l aU
     have aM:=hid (ay.out.fr (Fr.of_below [] aU) sM sM);have aN:=hid (aF.out.below aU);clear pH aU ay aF a0 a1 c0;refine wp_region_held_drew (S:=λW=>W.rangeAt wr.heap.size 0 (QF y (U p mm kk))/\W.cell? ⟨W4.heap.size,0,none⟩=some (O J v)/\W.cell? ⟨W4.heap.size,1,none⟩=some (O J (m:Int))) kR ⟨X.range,z,G⟩ (λt=>?_);generalize (W4.alloc (Z #[O J v,O J (m:Int)] 191)).drew=wc at *;have bH:=HI.out.at' i v m af.out;have ba:∀ k,k ∈ b::mb::lv.ownBlock.toList->k<wr.heap.size:=by
      intro k hk;have G:=aJ.out;have h2:=d.out;simp only [kZ,Option.mem_toList] at hk;rcases hk with rfl | rfl | hk
      ·exact G
      ·omega
      ·exact (bE.out k hk).2
     have bw:∀ k,k ∈ b::mb::lv.ownBlock.toList->mk<k:=by
      intro k hk;have h2:=d.out;simp only [kZ,Option.mem_toList] at hk;rcases hk with rfl | rfl | hk
      ·omega
      ·omega
      ·have:=(bE.out k hk).1;omega
     have ag:hH (wr.heap.size ∉ b::mb::lv.ownBlock.toList/\W4.heap.size ∉ b::mb::lv.ownBlock.toList/\(∀ k,wr.heap.size<=k->k ∉ b::mb::lv.ownBlock.toList)/\mk ∉ b::mb::lv.ownBlock.toList/\∀ k ∈ b::mb::lv.ownBlock.toList,w.heap.size<=k) :=
      ⟨λe=>by have:=ba _ e;omega,λe=>by have:=ba _ e;have:=au.out;omega,λk hk e=>by have:=ba _ e;omega,λe=>by have:=bw _ e;omega,λk hk=>by have:=bw k hk;have:=d.out;omega⟩
     clear ba bw;have a4:hH (∀ wx:wW,FS wx b mb lv F->cW prog 105 #[pX (some ⟨b,1,none⟩),inV y (U p mm kk),gX #[O J v,O J (m:Int)]] wx λe w'=>Vx (Vf F y v m) b mb lv wx e w'):=λwx hx=>zGh y (U p mm kk) b mb lv F m v wx hx bH.2.2 (by have:=HI.out.len;have:=HN.out;omega) (by have:=HN.out;omega) oM bD.out
     clear bD;clear bH bY;refine tkQ 0 ?_
     refine tkQ 1 ?_
     refine tkQ 2 ?_
     refine wpAnyH_take (i:=3) (v:=gX (QF y (U p mm kk)).toArray) (atQ rfl) kR kR kR (λ_ _ _ h=>h) (yieldsIf_load_mid (by rfl) 87 (mX 6) rfl wr.heap.size 0 rfl (QF y (U p mm kk)) _ (λ_ h=>h.1) underlying87 rfl kR) (by assumption) ?_;try simp only [Act.put,lA,lZ,lS]
     refine tkQ 4 ?_
     refine wpAnyH_ready (rs:=[5,9]) kR sM ?_;refine AllReadyH.cons (atQ rfl) (λK hK=>?_) (AllReadyH.cons (atQ rfl) (λK hK=>?_) AllReadyH.nil)
     ·have CH:=a4.out wc aN.out;go_simp
      refine CH.mono ?_;intro e w8 hP;obtain ⟨v2,m2,ok,rfl,f8,ac⟩:=zGw aN.out hP;replace X:=X.fr f8 ag.out.1
      replace z:=f8.cell z ag.out.2.1
      replace G:=f8.cell G ag.out.2.1
      replace l:=Qn l f8 ag.out.2.2.2.2
      have bg:=hid (oZ aO.out f8.size);have bf:hH (OKF w8 b mb mk n M (Vf F y v m) ok v2 m2):=by
       rcases ac with h | ⟨G,F2,h2,h3,h4⟩
       ·exact eY h
       ·exact pZ ⟨G,F2,h2,h3,aM.out.call f8 (h4 _ aM.out.hd) ag.out.2.2.2.1⟩
      clear hP ac f8 aM aN CH a4;go_wp2_with fail
      refine hkQ hK ⟨X.range,z,G⟩ (λt=>?_);clear hK K
      refine tkQ 6 ?_
      refine tkQ 7 ?_
      refine tkQ 8 ?_
      have s:=QJ (cZ _ w8) (Z #[O J 0,O J 0] 191);have pK:=AtL.new0 w8 191 [O J 0,O J 0];replace X:=AtL.below s X
      replace z:=QC s z
      replace G:=QC s G
      replace l:=QA l s
      have av:=hid (bf.out.below s);have A:=hid bg.out;have aw:∃ c f,(w8.alloc (Z #[O J 0,O J 0] 191)).heap[w8.heap.size]? = some (Z c 191 f):=⟨_,_,zAq _ _ _ rfl⟩
      clear s;refine rdQ 9 (λK hK=>?_);go_simp
      refine hkQ hK ⟨X.range,z,G⟩ (λt=>?_);clear hK K
      generalize bt:(w8.alloc (Z #[O J 0,O J 0] 191))=wy at *;clear bt;obtain ⟨P,aB⟩:∃ k,w8.heap.size=k:=⟨_,rfl⟩
      rw [aB] at pK aw A;simp only [aB];clear aB bg bf;have k0:=pK.2.1 0 _ rfl;have k1:=pK.2.1 1 _ rfl;have z0:=pK.2.2 0 sM;have z1:=pK.2.2 1 sM;have aC:wr.heap.size ∉ [P]:=by have:=A.out;have:=au.out;simp;omega
      have ak:W4.heap.size ∉ [P]:=by have:=A.out;simp;omega
      have I:Fr [P] wy ((wy.setCell ⟨P,0,none⟩ (O J v2)).setCell ⟨P,1,none⟩ (O J (m2:Int))):=(Fr.of_grown (QU _ _ _ _) (λj e=>by cases e;simp)).trans (Fr.of_grown (QU _ _ _ _) (λj e=>by cases e;simp));have g0:((wy.setCell ⟨P,0,none⟩ (O J v2)).setCell ⟨P,1,none⟩ (O J (m2:Int))).cell? ⟨P,0,none⟩=some (O J v2):=by rw [QZ _ _ _ dM];exact Q6 k0 _
      have g1:((wy.setCell ⟨P,0,none⟩ (O J v2)).setCell ⟨P,1,none⟩ (O J (m2:Int))).cell? ⟨P,1,none⟩=some (O J (m2:Int)):=Q6 (by rw [QZ _ _ _ dM];exact k1) _;refine rdQ 10 (λK hK=>?_);go_simp
      refine hkQ hK ⟨I.range X.range aC,I.cell z ak,I.cell G ak⟩ (λt=>?_);clear hK K
      replace X:=X.fr I aC
      replace z:=I.cell z ak
      replace G:=I.cell G ak
      replace l:=Qn l I (λk hk=>by have:=A.out;have:=Q.out;have:=d.out;simp at hk;omega)
      have bn:hH (OKF ((wy.setCell ⟨P,0,none⟩ (O J v2)).setCell ⟨P,1,none⟩ (O J (m2:Int))) b mb mk n M (Vf F y v m) ok v2 m2):=(av.out.set (by have:=A.out;have:=au.out;have:=aJ.out;omega) (by have:=A.out;have:=Q.out;omega) aw 0 _).set (by have:=A.out;have:=au.out;have:=aJ.out;omega) (by have:=A.out;have:=Q.out;omega) (zMa aw 0 _) 1 _;have bq:=hid (Q8 z);clear k0 k1 z0 z1 aC ak I av aw pK;generalize ((wy.setCell ⟨P,0,none⟩ (O J v2)).setCell ⟨P,1,none⟩ (O J (m2:Int)))=wz at *;refine rdQ 11 (λK hK=>?_);go_simp
      refine hkQ hK ⟨X.range,z,G⟩ (λt=>?_);clear hK K
      refine wpAnyH_done kR ?_ _;clear t;have rI:=X.range;have OW:=zA5 y p mm kk tl i wz ⟨oM,by have:=HN.out;omega⟩ (HZ.out.below l);obtain ⟨u,hu⟩:=xV (onw y.op y.a y.b tl i)
      have HU:=hid hu;rw [hu] at OW;obtain ⟨u1,u2⟩:=u;clear hu;go_wp2_with (first | (refine QB (by rfl) 87 (mX 6) rfl wr.heap.size 0 rfl (QF y (U p mm kk)) _ rI underlying87 rfl kR ?_))
      refine OW.mono ?_;rintro e w9 ⟨⟨aR,aA,rfl,a2,a3,aP,aQ⟩,N⟩;have az:=hid (jY Q.out bq.out);replace z:=QC N z
      replace G:=QC N G
      replace g0:=QC N g0
      replace g1:=QC N g1
      replace l:=QA l N
      have Z1:=hid a2;have Z2:=hid a3;have bi:=hid aP;have aI:=hid aQ;clear a2 a3 aP aQ rI OW X;rcases bn.out with ⟨ac,br⟩ | ⟨ac,F2,aW,⟨lv',an⟩,ai⟩
      ·subst ac;go_wp2;go_ret2
       have ad:q=false:=by
        rw [<-am.out,JC];simp only [af.out,br]
       exact ⟨⟨pX none,by rw [ad];rfl⟩,by first | exact l | (rw [<-d.out.2.2];exact l)⟩
      ·subst ac;replace an:=an.below N
       replace ai:=ai.fr (Fr.of_below [] N) sM sM
       have aK:=hid an;have bW:=hid ai;have ap:=zBR b mk n M v2 m2 u1 aR w9 ai (by have:=d.out;omega) Z1.out (ae.out _ _ HU.out).1 (ae.out _ _ HU.out).2.2.1 HN.out.2 (λab g e=>aG.out w9 aR u1 wz ab Z1.out bi.out az.out g e);have al:=hid aW;clear an ai aW N;go_wp2_with fail
       refine ap.mono ?_;intro e bB R;clear ap;cases aj:Wc.handP (v2,m2) u1 M with
       | none =>
        rw [aj] at R;obtain ⟨rfl,H⟩:=R;replace l:=Qn l H (λk hk=>by have:=d.out;simp at hk;omega)
        go_wp2;go_ret2
        have ad:q=false:=by
         rw [<-am.out,JC];simp only [af.out,al.out,HU.out,aj]
        exact ⟨⟨pX none,by rw [ad];rfl⟩,by first | exact l | (rw [<-d.out.2.2];exact l)⟩
       | some M1 =>
        rw [aj] at R;obtain ⟨rfl,aS,H⟩:=R;have aY:W4.heap.size ∉ [mk]:=by have:=Q.out;simp;omega
        replace z:=H.cell z aY
        replace G:=H.cell G aY
        replace l:=Qn l H (λk hk=>by have:=d.out;simp at hk;omega)
        have aq:=zBR b mk n M1 v m u2 aA bB aS (by have:=d.out;omega) (zMf Z2.out H (λab g e=>by have:=aG.out w9 aA u2 wz ab Z2.out aI.out az.out g e;simpa using this)) (ae.out _ _ HU.out).2.1 (ae.out _ _ HU.out).2.2.2 HN.out.2 (λab g e=>aG.out w9 aA u2 wz ab Z2.out aI.out az.out g e);have ar:=hid (aK.out.fr H (by have:=d.out;simp;omega) (by have:=d.out;simp;omega) (λg e=>by have:=(QM aK.out.own e).1;have:=d.out;simp;omega));have ax:=hid aj;clear aS H aj;go_wp2_with fail
        refine aq.mono ?_;intro e ca T;clear aq;cases aa:Wc.handP (v,m) u2 M1 with
        | none =>
         rw [aa] at T;obtain ⟨rfl,ah⟩:=T;replace l:=Qn l ah (λk hk=>by have:=d.out;simp at hk;omega)
         go_wp2;go_ret2
         have ad:q=false:=by
          rw [<-am.out,JC];simp only [af.out,al.out,HU.out,ax.out,aa]
         exact ⟨⟨pX none,by rw [ad];rfl⟩,by first | exact l | (rw [<-d.out.2.2];exact l)⟩
        | some M2 =>
         rw [aa] at T;obtain ⟨rfl,aT,ah⟩:=T;replace l:=Qn l ah (λk hk=>by have:=d.out;simp at hk;omega)
         have bo:hH (Wc.runP Wc.spI (i+1) (L.drop (i+1)) (M2,F2)=q):=by
          show _=q
          rw [<-am.out,JC];simp only [af.out,al.out,HU.out,ax.out,aa]
         have bk:=hid (zDQ HI.out af.out bI.out al.out ax.out aa (λj hj=>((ae.out _ _ HU.out).1 j hj).1) (λj hj=>((ae.out _ _ HU.out).2.1 j hj).1));have aL:=hid (ar.out.fr ah (by have:=d.out;simp;omega) (by have:=d.out;simp;omega) (λg e=>by have:=(QM ar.out.own e).1;have:=d.out;simp;omega));have bl:=hid aT;have bj:=hid l;clear aT ah aa l z G g0 g1;go_wp2_with fail
         go_roundg (n - (i+1))
         case rel=>exact ⟨i+1,M2,F2,lv',sM,rfl,a8,bo,bl,aL,bk,bj⟩
         case measure=>omega
     ·have s:=QJ (cZ _ wc) (Z #[O J 0,O J 0] 191);have pK:=AtL.new0 wc 191 [O J 0,O J 0];replace X:=AtL.below s X
      replace z:=QC s z
      replace G:=QC s G
      replace l:=QA l s
      have bp:=hid (aN.out.below s);have bm:=hid (aM.out.fr (Fr.of_below [] s) sM sM);have A:=hid aO.out;have bh:(wc.alloc (Z #[O J 0,O J 0] 191)).heap[wc.heap.size]? = some (Z #[O J 0,O J 0] 191 (0,0)):=zAq _ _ _ rfl;clear s aN aM;go_simp
      refine hkQ hK ⟨X.range,z,G⟩ (λt=>?_);clear hK K
      generalize bt:(wc.alloc (Z #[O J 0,O J 0] 191))=wb at *;clear bt;obtain ⟨P,aB⟩:∃ k,wc.heap.size=k:=⟨_,rfl⟩
      rw [aB] at pK bh A;simp only [aB];clear aB aO;refine rdQ 5 (λK hK=>?_);have CH:=a4.out wb bp.out;go_simp
      refine CH.mono ?_;intro e w8 hP;obtain ⟨v2,m2,ok,rfl,f8,ac⟩:=zGw bp.out hP;replace X:=X.fr f8 ag.out.1
      replace z:=f8.cell z ag.out.2.1
      replace G:=f8.cell G ag.out.2.1
      replace l:=Qn l f8 ag.out.2.2.2.2
      have bU:P ∉ b::mb::lv.ownBlock.toList:=ag.out.2.2.1 P (by have:=A.out;have:=au.out;omega);have aw:∃ c f,w8.heap[P]? = some (Z c 191 f):=⟨_,_,(f8.block P pK.1 bU).trans bh⟩
      replace pK:=pK.fr f8 bU
      have av:hH (OKF w8 b mb mk n M (Vf F y v m) ok v2 m2):=by
       rcases ac with h | ⟨G,F2,h2,h3,h4⟩
       ·exact eY h
       ·exact pZ ⟨G,F2,h2,h3,bm.out.call f8 (h4 _ bm.out.hd) ag.out.2.2.2.1⟩
      clear hP ac f8 bm bp CH a4;go_wp2_with fail
      refine hkQ hK ⟨X.range,z,G⟩ (λt=>?_);clear hK K
      refine tkQ 6 ?_
      refine tkQ 7 ?_
      refine tkQ 8 ?_
      have k0:=pK.2.1 0 _ rfl;have k1:=pK.2.1 1 _ rfl;have z0:=pK.2.2 0 sM;have z1:=pK.2.2 1 sM;have aC:wr.heap.size ∉ [P]:=by have:=A.out;have:=au.out;simp;omega
      have ak:W4.heap.size ∉ [P]:=by have:=A.out;simp;omega
      have I:Fr [P] w8 ((w8.setCell ⟨P,0,none⟩ (O J v2)).setCell ⟨P,1,none⟩ (O J (m2:Int))):=(Fr.of_grown (QU _ _ _ _) (λj e=>by cases e;simp)).trans (Fr.of_grown (QU _ _ _ _) (λj e=>by cases e;simp));have g0:((w8.setCell ⟨P,0,none⟩ (O J v2)).setCell ⟨P,1,none⟩ (O J (m2:Int))).cell? ⟨P,0,none⟩=some (O J v2):=by rw [QZ _ _ _ dM];exact Q6 k0 _
      have g1:((w8.setCell ⟨P,0,none⟩ (O J v2)).setCell ⟨P,1,none⟩ (O J (m2:Int))).cell? ⟨P,1,none⟩=some (O J (m2:Int)):=Q6 (by rw [QZ _ _ _ dM];exact k1) _;refine rdQ 10 (λK hK=>?_);go_simp
      refine hkQ hK ⟨I.range X.range aC,I.cell z ak,I.cell G ak⟩ (λt=>?_);clear hK K
      replace X:=X.fr I aC
      replace z:=I.cell z ak
      replace G:=I.cell G ak
      replace l:=Qn l I (λk hk=>by have:=A.out;have:=Q.out;have:=d.out;simp at hk;omega)
      have bn:hH (OKF ((w8.setCell ⟨P,0,none⟩ (O J v2)).setCell ⟨P,1,none⟩ (O J (m2:Int))) b mb mk n M (Vf F y v m) ok v2 m2):=(av.out.set (by have:=A.out;have:=au.out;have:=aJ.out;omega) (by have:=A.out;have:=Q.out;omega) aw 0 _).set (by have:=A.out;have:=au.out;have:=aJ.out;omega) (by have:=A.out;have:=Q.out;omega) (zMa aw 0 _) 1 _;have bq:=hid (Q8 z);clear k0 k1 z0 z1 aC ak I av aw pK;generalize ((w8.setCell ⟨P,0,none⟩ (O J v2)).setCell ⟨P,1,none⟩ (O J (m2:Int)))=wz at *;refine rdQ 11 (λK hK=>?_);go_simp
      refine hkQ hK ⟨X.range,z,G⟩ (λt=>?_);clear hK K
      refine wpAnyH_done kR ?_ _;clear t;have rI:=X.range;have OW:=zA5 y p mm kk tl i wz ⟨oM,by have:=HN.out;omega⟩ (HZ.out.below l);obtain ⟨u,hu⟩:=xV (onw y.op y.a y.b tl i)
      have HU:=hid hu;rw [hu] at OW;obtain ⟨u1,u2⟩:=u;clear hu;go_wp2_with (first | (refine QB (by rfl) 87 (mX 6) rfl wr.heap.size 0 rfl (QF y (U p mm kk)) _ rI underlying87 rfl kR ?_))
      refine OW.mono ?_;rintro e w9 ⟨⟨aR,aA,rfl,a2,a3,aP,aQ⟩,N⟩;have az:=hid (jY Q.out bq.out);replace z:=QC N z
      replace G:=QC N G
      replace g0:=QC N g0
      replace g1:=QC N g1
      replace l:=QA l N
      have Z1:=hid a2;have Z2:=hid a3;have bi:=hid aP;have aI:=hid aQ;clear a2 a3 aP aQ rI OW X;rcases bn.out with ⟨ac,br⟩ | ⟨ac,F2,aW,⟨lv',an⟩,ai⟩
      ·subst ac;go_wp2;go_ret2
       have ad:q=false:=by
        rw [<-am.out,JC];simp only [af.out,br]
       exact ⟨⟨pX none,by rw [ad];rfl⟩,by first | exact l | (rw [<-d.out.2.2];exact l)⟩
      ·subst ac;replace an:=an.below N
       replace ai:=ai.fr (Fr.of_below [] N) sM sM
       have aK:=hid an;have bW:=hid ai;have ap:=zBR b mk n M v2 m2 u1 aR w9 ai (by have:=d.out;omega) Z1.out (ae.out _ _ HU.out).1 (ae.out _ _ HU.out).2.2.1 HN.out.2 (λab g e=>aG.out w9 aR u1 wz ab Z1.out bi.out az.out g e);have al:=hid aW;clear an ai aW N;go_wp2_with fail
       refine ap.mono ?_;intro e bB R;clear ap;cases aj:Wc.handP (v2,m2) u1 M with
       | none =>
        rw [aj] at R;obtain ⟨rfl,H⟩:=R;replace l:=Qn l H (λk hk=>by have:=d.out;simp at hk;omega)
        go_wp2;go_ret2
        have ad:q=false:=by
         rw [<-am.out,JC];simp only [af.out,al.out,HU.out,aj]
        exact ⟨⟨pX none,by rw [ad];rfl⟩,by first | exact l | (rw [<-d.out.2.2];exact l)⟩
       | some M1 =>
        rw [aj] at R;obtain ⟨rfl,aS,H⟩:=R;have aY:W4.heap.size ∉ [mk]:=by have:=Q.out;simp;omega
        replace z:=H.cell z aY
        replace G:=H.cell G aY
        replace l:=Qn l H (λk hk=>by have:=d.out;simp at hk;omega)
        have aq:=zBR b mk n M1 v m u2 aA bB aS (by have:=d.out;omega) (zMf Z2.out H (λab g e=>by have:=aG.out w9 aA u2 wz ab Z2.out aI.out az.out g e;simpa using this)) (ae.out _ _ HU.out).2.1 (ae.out _ _ HU.out).2.2.2 HN.out.2 (λab g e=>aG.out w9 aA u2 wz ab Z2.out aI.out az.out g e);have ar:=hid (aK.out.fr H (by have:=d.out;simp;omega) (by have:=d.out;simp;omega) (λg e=>by have:=(QM aK.out.own e).1;have:=d.out;simp;omega));have ax:=hid aj;clear aS H aj;go_wp2_with fail
        refine aq.mono ?_;intro e ca T;clear aq;cases aa:Wc.handP (v,m) u2 M1 with
        | none =>
         rw [aa] at T;obtain ⟨rfl,ah⟩:=T;replace l:=Qn l ah (λk hk=>by have:=d.out;simp at hk;omega)
         go_wp2;go_ret2
         have ad:q=false:=by
          rw [<-am.out,JC];simp only [af.out,al.out,HU.out,ax.out,aa]
         exact ⟨⟨pX none,by rw [ad];rfl⟩,by first | exact l | (rw [<-d.out.2.2];exact l)⟩
        | some M2 =>
         rw [aa] at T;obtain ⟨rfl,aT,ah⟩:=T;replace l:=Qn l ah (λk hk=>by have:=d.out;simp at hk;omega)
         have bo:hH (Wc.runP Wc.spI (i+1) (L.drop (i+1)) (M2,F2)=q):=by
          show _=q
          rw [<-am.out,JC];simp only [af.out,al.out,HU.out,ax.out,aa]
         have bk:=hid (zDQ HI.out af.out bI.out al.out ax.out aa (λj hj=>((ae.out _ _ HU.out).1 j hj).1) (λj hj=>((ae.out _ _ HU.out).2.1 j hj).1));have aL:=hid (ar.out.fr ah (by have:=d.out;simp;omega) (by have:=d.out;simp;omega) (λg e=>by have:=(QM ar.out.own e).1;have:=d.out;simp;omega));have bl:=hid aT;have bj:=hid l;clear aT ah aa l z G g0 g1;go_wp2_with fail
         go_roundg (n - (i+1))
         case rel=>exact ⟨i+1,M2,F2,lv',sM,rfl,a8,bo,bl,aL,bk,bj⟩
         case measure=>omega
  ·have b4:¬ (i:Int)<(n:Int):=oM;have b7:hH (true=q):=by
    show true=q
    rw [<-HQ.out,zZ (by rw [HL.out];omega)];rfl
   go_wp2;go_ret2
   exact ⟨⟨_,by rw [<-b7.out];rfl⟩,HB.out⟩
theorem zGo (L:List (Wc.In × List Int)) (v:vW) (w:wW) (h:RdC w v L) (A:L.length<=1000000) (G:∀ x ∈ L,x.2.length<=1000000/\Wt.FitV x.1.v) (I:NmAt w) (d:∀ x ∈ L,zHV x) :
  CR 48 #[v] w (O J (if Wc.chkP rgt L=true then 0 else 85)):=by
 have i:=zGX L v w h A G I d;have f:=λc (u:bL w c) (N:0<L.length) (P:Wc.plcs rgt L.length 0 L=true)=>zOK L v c (h.below u) A N (λx hx=>(G x hx).1) P (λx hx=>(d x hx).1)
 clear d;have z:Wc.chkP rgt L=(Wc.plcs rgt L.length 0 L && (decide (0<L.length) && Wc.runP Wc.spI 0 L (Wc.sP L.length))):=rfl;obtain ⟨Q,j⟩:∃ q,Wc.plcs rgt L.length 0 L=q:=⟨_,rfl⟩
 obtain ⟨R,l⟩:∃ q,decide (0<L.length)=q:=⟨_,rfl⟩
 obtain ⟨T,t⟩:∃ q,Wc.runP Wc.spI 0 L (Wc.sP L.length)=q:=⟨_,rfl⟩
 rw [j,l,t] at z;rw [j,l] at i;rw [z];rw [j,t] at f;have K:=hid l;clear z j l t h G I A;cases Q with
 | false =>
  clear f;go_enter func48,ntmps48;go_wp2_with fail
  refine i.mono ?_;rintro e c ⟨rfl,a⟩;go_wp2;go_ret;exact ⟨sM,a⟩
 | true =>
  cases R with
  | false =>
   clear f;go_enter func48,ntmps48;go_wp2_with fail
   refine i.mono ?_;rintro e c ⟨rfl,a⟩;go_wp2;go_ret;exact ⟨sM,a⟩
  | true =>
   have g:=λc u=>f c u (of_decide_eq_true K.out) rfl
   have o:=hid g;clear f g;go_enter func48,ntmps48;go_wp2_with fail
   refine i.mono ?_;rintro e c ⟨rfl,a⟩;have s:=o.out c a;go_wp2_with fail
   refine s.mono ?_;rintro e W ⟨⟨p,rfl⟩,y⟩;have H:=QA a y;cases T
   ·go_wp2;go_ret;exact ⟨sM,H⟩
   ·go_wp2;go_ret;exact ⟨sM,H⟩
def RdP (A:List Wpl.Ar) (w:wW) (e:Ending) (w':wW):Prop:=∃ r,e=rX r/\RdA w' r A/\(∀ g,r.ownBlock=some g->w.heap.size<=g)
theorem RdP.one {W:wW} {x:Wpl.Ar} (d:w.heap.size<=W.heap.size):RdP [x] w (rX (U (some ⟨W.heap.size,0,none⟩) 1 1)) (W.alloc (Z (J0 x).toArray 84)) :=
 ⟨_,rfl,RdA.at0 (A:=[x]) (λj u a=>(AtL.new0 W 84 (J0 x)).2.1 j u (by simpa [JQ] using a)),λg e=>by
  have c:W.heap.size=g:=by simpa [Value.ownBlock] using e
  omega⟩
theorem zHO (x:Wc.In) (tv:vW) (w:wW):cW prog 49 #[gX (QF x tv).toArray] w λe w'=>RdP (rdA x) w e w'/\bL w w':=by
 have L:=zGc x.ce.s x.ce.r x.ce.c;have i:=hid L;clear L;have H:=QJ (cZ _ w) (Z (QF x tv).toArray 87);have p:=AtL.new0 w 87 (QF x tv);have c0:=p.2.1 0 _ rfl;obtain ⟨q,hq⟩:=xV (rdA x)
 have o:=hid hq;rw [hq];clear hq;go_enter func49,ntmps49;go_upto_region 1 with fail
 generalize (w.alloc (Z (QF x tv).toArray 87))=W at *;have K:=hid H.size;by_cases l:x.op=2
 ·have ab:(x.op == 2)=true:=by simp [l]
  have t:hH (q=[Vg x.ce.s x.ce.r x.ce.c]):=by show _=_;rw [<-o.out];simp [rdA,l]
  have c9:=p.2.1 9 _ rfl;have T:=p.2.1 10 _ rfl;have X:=p.2.1 11 _ rfl;have L:=i.out W;generalize Vg x.ce.s x.ce.r x.ce.c=f at *;clear p l i o;go_wp2_with fail
  refine L.mono ?_;rintro e w1 ⟨rfl,P⟩;have N:=QA H P;have Q:=QJ (cZ _ w1) (Z (J0 f).toArray 84);have I:=AtL.new0 w1 84 (J0 f);have q0:=I.2.1 0 _ rfl;have q1:=I.2.1 1 _ rfl;have q2:=I.2.1 2 _ rfl;have q3:=I.2.1 3 _ rfl;have q4:=I.2.1 4 _ rfl;have y:=QA N Q;clear I Q L H P c0 c9 T X;go_upto_region 4 with fail
  generalize (w1.alloc (Z (J0 f).toArray 84))=R at *;have a:hH (bL w (R.alloc (Z (J0 f).toArray 84))):=QJ y _;have d:hH (RdP [f] w (rX (U (some ⟨R.heap.size,0,none⟩) 1 1)) (R.alloc (Z (J0 f).toArray 84))):=RdP.one y.size;clear y N;go_wp2;go_ret;exact ⟨by rw [t.out];exact d.out,a.out⟩
 ·have ab:(x.op == 2)=false:=by simp [l]
  by_cases z:x.op=8 \/ x.op=11
  ·have t:hH (q=[x.ar]):=by show _=_;rw [<-o.out];simp [rdA,l,z]
   have q0:=p.2.1 12 _ rfl;have q1:=p.2.1 13 _ rfl;have q2:=p.2.1 14 _ rfl;have q3:=p.2.1 15 _ rfl;have q4:=p.2.1 16 _ rfl;have a:hH (bL w (W.alloc (Z (J0 x.ar).toArray 84))):=QJ H _;have d:hH (RdP [x.ar] w (rX (U (some ⟨W.heap.size,0,none⟩) 1 1)) (W.alloc (Z (J0 x.ar).toArray 84))):=RdP.one K.out;have hc:((x.op == 8)=true) \/ ((x.op == 8)=false/\(x.op == 11)=true):=by
    rcases z with h | h
    ·left;simp [h]
    ·right;simp [h]
   clear p z l i o;rcases hc with e8 | ⟨e8,aa⟩
   ·go_wp2;go_ret;exact ⟨by rw [t.out];exact d.out,a.out⟩
   ·go_wp2;go_ret;exact ⟨by rw [t.out];exact d.out,a.out⟩
  ·have e8:(x.op == 8)=false:=by simp;omega
   have aa:(x.op == 11)=false:=by simp;omega
   by_cases G:x.op=9
   ·have t:hH (q=[x.ar,x.pr]):=by show _=_;rw [<-o.out];simp [rdA,G]
    have e9:(x.op == 9)=true:=by simp [G]
    have q0:=p.2.1 12 _ rfl;have q1:=p.2.1 13 _ rfl;have q2:=p.2.1 14 _ rfl;have q3:=p.2.1 15 _ rfl;have q4:=p.2.1 16 _ rfl;have r0:=p.2.1 17 _ rfl;have r1:=p.2.1 18 _ rfl;have r2:=p.2.1 19 _ rfl;have r3:=p.2.1 20 _ rfl;have r4:=p.2.1 21 _ rfl;have a:hH (bL w (W.alloc (Z (J0 x.ar++J0 x.pr).toArray 84))):=QJ H _;have d:hH (RdP [x.ar,x.pr] w (rX (U (some ⟨W.heap.size,0,none⟩) 2 2)) (W.alloc (Z (J0 x.ar++J0 x.pr).toArray 84))) :=
     ⟨_,rfl,RdA.at0 (A:=[x.ar,x.pr]) (λj u hu=>(AtL.new0 W 84 (J0 x.ar++J0 x.pr)).2.1 j u (by simpa [JQ] using hu)),λg e=>by
      have e2:W.heap.size=g:=by simpa [Value.ownBlock] using e
      have:=K.out;omega⟩
    clear p z l G i o;go_wp2;go_ret;exact ⟨by rw [t.out];exact d.out,a.out⟩
   ·have t:hH (q=[]):=by show _=_;rw [<-o.out];simp [rdA,l,z,G]
    have e9:(x.op == 9)=false:=by simp [G]
    clear p z l G i o;go_wp2;go_ret;exact ⟨by rw [t.out];exact ⟨_,rfl,RdA.nil _,λg e=>by cases e⟩,H⟩
def usA (L:List (Wc.In × List Int)):List Wpl.Ar:=if Wc.chkP rgt L=true then ddA [] (VM L) else []
theorem zK0 (L:List (Wc.In × List Int)) (v:vW) (w:wW) (h:RdC w v L) (hl:L.length<=1000000) (ht:∀ x ∈ L,x.2.length<=1000000/\Wt.FitV x.1.v) (hN:NmAt w) (bk:∀ x ∈ L,zHV x) :
  cW prog 34 #[v] w λe w'=>(∃ r B,e=rX r/\OwnA w' B r (usA L)/\w.heap.size<=B)/\bL w w':=by
 have CK:=zGo L v w h hl ht hN bk;clear bk;obtain ⟨a1,c1,rfl,r1⟩:=h;have HR:hH (RdC w (U a1 L.length c1) L):=⟨a1,c1,rfl,r1⟩
 obtain ⟨n,hn⟩:=xV L.length
 have HL:=hid hn;have HN:hH (n<=1000000):=by show n<=_;omega
 rw [hn] at CK ⊢;have bS:∀ w:wW,(Instr.makeMap 103 none).run prog w=.ok (.map (some w.heap.size)) (w.alloc (.map #[] 0)):=λw=>by kernel_rfl
 obtain ⟨qc,aM⟩:∃ b,Wc.chkP rgt L=b:=⟨_,rfl⟩
 have HU:hH (usA L=if qc=true then ddA [] (VM L) else []):=by show _=_;rw [<-aM];rfl
 rw [aM] at CK;obtain ⟨us,bt⟩:∃ u,usA L=u:=⟨_,rfl⟩
 rw [bt] at HU ⊢;clear aM bt r1 hl ht hN hn;cases qc with
 | false =>
  have HE:=HU;go_enter func34,ntmps34;go_wp2_with fail
  refine CK.mono ?_;rintro e w1 ⟨rfl,aa⟩;go_wp2;go_ret;exact ⟨by rw [HE.out];exact ⟨_,_,rfl,OwnA.nil _ w.heap.size,dZ _⟩,aa⟩
 | true =>
  have HE:hH (us=ddA [] (VM L)):=HU;clear HU;go_enter func34,ntmps34;go_wp2_with fail
  refine CK.mono ?_;rintro e w1 ⟨rfl,aa⟩;go_upto_region 5 with fail
  have bl:=QJ (cZ _ w1) (.map #[] 0);have aq:=hid (QA aa bl);have ax:hH (AM (w1.alloc (.map #[] 0)) w1.heap.size []):=⟨#[],zAq _ _ _ rfl,rfl⟩
  have a0:=hid aa.size;have ae:hH (w1.heap.size<(w1.alloc (.map #[] 0)).heap.size):=zLg _ _;clear CK bl aa bS;generalize (w1.alloc (.map #[] 0))=w2 at *;obtain ⟨mb,aK⟩:∃ k,w1.heap.size=k:=⟨_,rfl⟩
  rw [aK] at ax a0 ae;simp only [aK];clear aK;have aA:hH (OwnA w2 w2.heap.size (U none 0 0) (ddA [] (VM (L.take 0)))):=by show OwnA _ _ _ _;rw [iY];exact OwnA.nil _ _
  have al:hH (AM w2 mb (ddA [] (VM (L.take 0)))):=by show AM _ _ _;rw [iY];exact ax.out
  obtain ⟨B,bj⟩:∃ b,w2.heap.size=b:=⟨_,rfl⟩
  rw [bj] at aA ae;have N:hH (B<=w2.heap.size/\w.heap.size<=B/\mb<B):=⟨oM,by have:=aq.out.size;omega,ae.out⟩
  clear ax bj ae;go_wp2_with fail
  go_loopg [3,17] n (λgk u3 u17 wr=>∃ (i:Nat) (lv:vW),lv=u3/\u17=O J i/\gk=n - i/\i<=n/\hH (bL w wr)/\hH (OwnA wr B lv (ddA [] (VM (L.take i))))/\hH (AM wr mb (ddA [] (VM (L.take i))))/\hH (B<=wr.heap.size))
  case atStart=>exact ⟨0,_,rfl,rfl,rfl,rZ _,aq,aA,al,N.out.1⟩
  case round =>
   clear aq aA al;obtain ⟨i,lv,rfl,rfl,hg,hi,HB,HO,HM,aV⟩:=hrel;by_cases br:i<n
   ·have bR:(i:Int)<(n:Int):=oM;have bV:(0:Int)<=(i:Int):=oM;have bY:J.wrap ((i:Int)+1)=(i:Int)+1:=by rw [iZ];have:=HN.out;omega
    have bo:i<L.length:=by rw [HL.out];exact br
    have H0:=HR.out.below HB.out;obtain ⟨q1,d1,e1,f1⟩:=H0;simp only [U.injEq] at e1;obtain ⟨bi,bM,bN⟩:=e1;obtain ⟨bb,bT,p,mm,kk,ee,t1,_,_⟩:=f1 i bo;rw [ee] at bi;subst bi;obtain ⟨y,tl,aO⟩:∃ y tl,L[i]=(y,tl):=⟨_,_,rfl⟩
    rw [aO] at t1;have bg:hH (VM (L.take (i+1))=VM (L.take i)++rdA y):=by show _=_;rw [zI5 bo,aO]
    have aw:hH ((ddA [] (VM (L.take i))).length<=2000000):=by show _<=_;have h1:=zCr (VM (L.take i)) [];have h2:=zCh (L.take i);have:=HN.out;have:=HL.out;simp at h1 h2;omega
    obtain ⟨q,ad⟩:∃ c,(ddA [] (VM (L.take i)))=c:=⟨_,rfl⟩
    have bx:=hid ad;rw [ad] at HO HM aw;have bs:World.there (wr.alloc (Z zeros23 87)) wr.heap.size 0 (QF y (U p mm kk)).toArray.size:=(AtL.new0 wr _ _:AtL (wr.alloc (Z zeros23 87)) wr.heap.size zeros23.toList).there;clear f1 aO ee bM bN ad;go_upto_region 8 with (first | (refine QB (by rfl) 87 (mX 19) rfl bb (bT+i * 23) rfl (QF y (U p mm kk)) _ t1 underlying87 rfl kR ?_) | ((with_reducible refine wpList_store_mid ?_ 87 (mX 6) (mX 20) ?_ wr.heap.size 0 (QF y (U p mm kk)).toArray ?_ ?_ ?_ ?_ ?_ ?_);rfl;rfl;rfl;rfl;exact bs;kernel_rfl;exact JO _ _ _ _))
    have pI:AtL ((wr.alloc (Z zeros23 87)).setCells wr.heap.size 0 (QF y (U p mm kk))) wr.heap.size (QF y (U p mm kk)):=(AtL.new0 wr _ _:AtL (wr.alloc (Z zeros23 87)) wr.heap.size zeros23.toList).setAll rfl;have ac:bL wr ((wr.alloc (Z zeros23 87)).setCells wr.heap.size 0 (QF y (U p mm kk))):=Qm (QJ (cZ _ wr) _) (dZ _) _ 0;have aQ:=hid (QA HB.out ac);have ay:=hid (HM.out.below ac);have aB:=hid (HO.out.below ac);have ba:=hid (eZ aV.out ac.size);clear bs t1 ac HM HB HO aV;generalize ((wr.alloc (Z zeros23 87)).setCells wr.heap.size 0 (QF y (U p mm kk)))=w3 at *;obtain ⟨X,hX⟩:∃ k,wr.heap.size=k:=⟨_,rfl⟩
    rw [hX] at pI;simp only [hX];clear hX;have rI:=pI.range;have RL:=zHO y (U p mm kk) w3;go_wp2_with (first | (refine QB (by rfl) 87 (mX 6) rfl X 0 rfl (QF y (U p mm kk)) _ rI underlying87 rfl kR ?_))
    refine RL.mono ?_;rintro e w4 ⟨⟨r,rfl,hr,aH⟩,ab⟩;have aR:=hid (QA aQ.out ab);have aX:=hid (ay.out.below ab);have a2:=hid (aB.out.below ab);have bc:=hid (eZ ba.out ab.size);have bf:hH (∀ g k,r.ownBlock=some g->lv.ownBlock=some k->k ≠ g):=λg k e1 e2=>by have:=aH g e1;have:=(aB.out.blk e2).2;omega
    have bD:hH (∀ g,r.ownBlock=some g->mb ≠ g):=λg e=>by have:=aH g e;have:=ay.out.lt;omega
    obtain ⟨A,hA⟩:=xV (rdA y)
    have ap:hH (A.length<=2):=by show _<=_;rw [<-hA];exact zHu y
    rw [hA] at hr bg;obtain ⟨m,hm⟩:=xV A.length
    have K:=hid hm;have am:=hid hr;obtain ⟨ar,T,er,_⟩:=hr;rw [hm] at er;subst er;have a8:=hid am.out;have aW:hH (ddA q (A.drop 0)=ddA q A):=rfl;clear RL rI pI ab aQ ay aB ba am hA hm aH;go_wp2_with fail
    go_loopg [3,24] m (λgk u3 u24 wr=>∃ (j:Nat) (I:vW) (a:List Wpl.Ar),I=u3/\u24=O J j/\gk=m - j/\j<=m/\hH (bL w wr)/\hH (OwnA wr B I a)/\hH (AM wr mb a)/\hH (B<=wr.heap.size)/\hH (ddA a (A.drop j)=ddA q A)/\hH (a.length<=2000000+j)/\hH (j<m->RdA wr (U ar m T) A/\(j=0->∀ g k,(U ar m T).ownBlock=some g->I.ownBlock=some k->k ≠ g)))
    case atStart=>exact ⟨0,_,q,rfl,rfl,rfl,rZ _,aR,a2,aX,bc,aW,aw,(λ_=>⟨a8.out,λ_=>bf.out⟩:0<m->RdA w4 (U ar m T) A/\(0=0->∀ g k,(U ar m T).ownBlock=some g->lv.ownBlock=some k->k ≠ g))⟩
    case round =>
     clear aR a2 aX bc aW aw a8 bf;obtain ⟨j,I,a,rfl,rfl,bU,hj,au,Q,P,aD,f,o,aC⟩:=hrel;by_cases ak:j<m
     ·have bQ:(j:Int)<(m:Int):=oM;have bX:(0:Int)<=(j:Int):=oM;have bZ:J.wrap ((j:Int)+1)=(j:Int)+1:=by rw [iZ];have:=ap.out;have:=K.out;omega
      have aI:j<A.length:=by rw [K.out];exact ak
      obtain ⟨aN,an⟩:=aC.out ak;obtain ⟨z,hz⟩:=xV (A[j])
      have bK:∃ R oq,ar=some ⟨R,oq,none⟩/\wr.rangeAt R (oq+j * 5) (J0 z):=by
       obtain ⟨x1,x2,x3,x4⟩:=aN;obtain ⟨x5,x6,x7,x8⟩:=x4 j aI;simp only [U.injEq] at x3;rw [hz] at x8;exact ⟨x5,x6,by rw [x3.1];exact x7,x8⟩
      have a9:=hid aN;have bH:=hid an;obtain ⟨R,oq,rfl,cJ⟩:=bK;have bB:hH (A.drop j=z::A.drop (j+1)):=by show _=_;rw [tZ aI,hz]
      rw [bB.out] at f;clear hz aI aN an aC;have q0:wr.cell? ⟨R,oq+j * 5,none⟩=some (O J z.s):=by have:=cJ 0 _ rfl;simpa using this
      have q1:=cJ 1 _ rfl;have q2:=cJ 2 _ rfl;have q3:=cJ 3 _ rfl;have q4:=cJ 4 _ rfl;have G:=QJ (cZ _ wr) (Z (J0 z).toArray 84);have p6:=AtL.new0 wr 84 (J0 z);have aS:=hid (QA au.out G);have aJ:AM (wr.alloc (Z (J0 z).toArray 84)) mb a:=P.out.below G;have a3:=hid (Q.out.below G);have bd:=hid (eZ aD.out G.size);have a6:=hid (a9.out.below G);have aP:hH (mb<wr.heap.size/\∀ k,I.ownBlock=some k->k<wr.heap.size):=⟨P.out.lt,λk e=>(Q.out.blk e).2⟩
      clear G cJ au P Q aD a9;go_upto_region 11 with fail
      generalize (wr.alloc (Z (J0 z).toArray 84))=w6 at *;obtain ⟨AB,aG⟩:∃ k,wr.heap.size=k:=⟨_,rfl⟩
      rw [aG] at p6 aP;simp only [aG];clear aG q0 q1 q2 q3 q4;have q0:=p6.2.1 0 _ rfl;have q1:=p6.2.1 1 _ rfl;have q2:=p6.2.1 2 _ rfl;have q3:=p6.2.1 3 _ rfl;have q4:=p6.2.1 4 _ rfl;have bp:=zQ2 aJ z;obtain ⟨qa,aL⟩:∃ b,a.any (λy=>Ji y z)=b:=⟨_,rfl⟩
      have ah:=hid aL;rw [aL] at bp;clear aL;go_upto_region 12 with fail
      have l:=QJ (cZ _ w6) (Z #[] 105);have p7:=AtL.below l p6;have av:=hid (QA aS.out l);have az:=hid (aJ.below l);have af:=hid (a3.out.below l);have aE:hH (B<=(w6.alloc (Z #[] 105)).heap.size):=eZ bd.out l.size;have ai:hH (RdA (w6.alloc (Z #[] 105)) (U (some ⟨R,oq,none⟩) m T) A):=a6.out.below l;clear bp q0 q1 q2 q3 q4 l p6 aJ aS a3 bd a6;generalize (w6.alloc (Z #[] 105))=w7 at *;cases qa with
      | true =>
       have bA:hH (ddA a (A.drop (j+1))=ddA q A):=by show _=_;rw [<-f.out];simp only [ddA,ah.out,if_true]
       have bv:hH (a.length<=2000000+(j+1)):=by show _<=_;have:=o.out;omega
       have aj:hH (j+1<m->RdA w7 (U (some ⟨R,oq,none⟩) m T) A/\(j+1=0->∀ g k,(U (some ⟨R,oq,none⟩) m T).ownBlock=some g->I.ownBlock=some k->k ≠ g)):=λ_=>⟨ai.out,λh=>by omega⟩
       clear f o ai p7;go_wp2_with fail
       go_roundg (m - (j+1))
       case rel=>exact ⟨j+1,I,a,rfl,sM,rfl,ak,av,af,az,aE,bA,bv,aj⟩
       case measure=>omega
      | false =>
       have q0:=p7.2.1 0 _ rfl;have q1:=p7.2.1 1 _ rfl;have q2:=p7.2.1 2 _ rfl;have q3:=p7.2.1 3 _ rfl;have q4:=p7.2.1 4 _ rfl;go_upto_region 13 with fail
       go_upto_region 14 with (first | (refine zDB rfl (mX 35) (mX 36) (mX 37) rfl mb rfl z rfl rfl a az.out ah.out ?_;intro d bh bm))
       have t:Fr [mb] w7 d:=Fr.of_grown bm (λk e=>by cases e;simp);have p8:=p7.fr t (by have:=aP.out;simp;omega);have aT:hH (bL w d):=Qn av.out t (λk hk=>by have:=a0.out;simp at hk;omega);have a4:hH (OwnA d B I a):=Q2 t af.out (λg e=>by have:=(af.out.blk e).1;have:=N.out;simp;omega);have be:hH (B<=d.heap.size):=eZ aE.out t.size;have aY:hH (AM d mb (a++[z])):=bh;have a7:hH (RdA d (U (some ⟨R,oq,none⟩) m T) A):=by
        obtain ⟨x1,x2,x3,x4⟩:=ai.out;refine ⟨x1,x2,x3,λi hi=>?_⟩;obtain ⟨x5,x6,x7,x8⟩:=x4 i hi;refine ⟨x5,x6,x7,t.range x8 ?_⟩;simp only [U.injEq] at x3;have:=bD.out x5 (by rw [x3.1,x7];rfl);simp;omega
       clear q0 q1 q2 q3 q4 p7 az av af aE ai t bm bh;have q0:=p8.2.1 0 _ rfl;have q1:=p8.2.1 1 _ rfl;have q2:=p8.2.1 2 _ rfl;have q3:=p8.2.1 3 _ rfl;have q4:=p8.2.1 4 _ rfl;have H:=QJ (cZ _ d) (Z (J0 z).toArray 84);have a5:hH (AtL (d.alloc (Z (J0 z).toArray 84)) d.heap.size (JQ [z])):=AtL.new0 d 84 (JQ [z]);have aU:hH (bL w (d.alloc (Z (J0 z).toArray 84))):=QA aT.out H;have ag:hH (OwnA (d.alloc (Z (J0 z).toArray 84)) B I a):=a4.out.below H;have aZ:hH (AM (d.alloc (Z (J0 z).toArray 84)) mb (a++[z])):=aY.out.below H;have aF:hH (B<=(d.alloc (Z (J0 z).toArray 84)).heap.size):=eZ be.out H.size;have aj:hH (RdA (d.alloc (Z (J0 z).toArray 84)) (U (some ⟨R,oq,none⟩) m T) A):=a7.out.below H;clear p8 aT a4 aY be a7 H;go_wp2_with (first | (refine zDe rfl (mX 38) (mX 40) rfl (d.alloc (Z (J0 z).toArray 84)) B aF.out I a rfl ag.out d.heap.size 1 [z] rfl rfl a5.out (by have:=o.out;have:=ap.out;have:=K.out;simp;omega) ?_;intro v9 w9 ao bn))
       have W:Fr I.ownBlock.toList (d.alloc (Z (J0 z).toArray 84)) w9:=Fr.of_grown bn (λk e=>by simp [e]);have bu:hH (bL w w9):=Qn aU.out W (λk hk=>by have:=(ag.out.blk (g:=k) (by simpa using hk)).1;have:=N.out;omega);have bE:hH (AM w9 mb (a++[z])):=aZ.out.fr W (λe=>by have:=(ag.out.blk (g:=mb) (by simpa using e)).1;have:=N.out;omega);have bF:hH (OwnA w9 B v9 (a++[z])):=ao;have bI:hH (B<=w9.heap.size):=eZ aF.out W.size;have bC:hH (ddA (a++[z]) (A.drop (j+1))=ddA q A):=by show _=_;rw [<-f.out];simp [ddA,ah.out]
       have bz:hH ((a++[z]).length<=2000000+(j+1)):=by show _<=_;have:=o.out;simp;omega
       have bG:hH (j+1<m->RdA w9 (U (some ⟨R,oq,none⟩) m T) A/\(j+1=0->∀ g k,(U (some ⟨R,oq,none⟩) m T).ownBlock=some g->v9.ownBlock=some k->k ≠ g)):=by
        intro bW;have bO:j=0:=by have:=ap.out;have:=K.out;omega
        refine ⟨?_,λh=>by omega⟩;obtain ⟨x1,x2,x3,x4⟩:=aj.out;refine ⟨x1,x2,x3,λi hi=>?_⟩;obtain ⟨x5,x6,x7,x8⟩:=x4 i hi;refine ⟨x5,x6,x7,W.range x8 (λe=>?_)⟩;simp only [U.injEq] at x3;exact bH.out bO x5 x5 (by rw [x3.1,x7];rfl) (by simpa using e) rfl
       clear ao bn W q0 q1 q2 q3 q4 a5 aU ag aZ aF aj f o ah;go_roundg (m - (j+1))
       case rel=>exact ⟨j+1,v9,a++[z],rfl,sM,rfl,ak,bu,bF,bE,bI,bC,bz,bG⟩
       case measure=>omega
     ·have bQ:¬ (j:Int)<(m:Int):=oM;have bP:j=m:=oM;have bw:hH (a=ddA [] (VM (L.take (i+1)))):=by
       show _=_
       have e:A.drop j=[]:=zZ (by rw [K.out];omega);have:=f.out;rw [e] at this;rw [bg.out,zO6,bx.out,<-this];rfl
      rw [bw.out] at Q P;clear aC f o bP;go_wp2_with fail
      go_roundg (n - (i+1))
      case rel=>exact ⟨i+1,I,rfl,sM,rfl,br,au,Q,P,aD⟩
      case measure=>omega
   ·have bR:¬ (i:Int)<(n:Int):=oM;have bJ:hH (L.take i=L):=List.take_of_length_le (by rw [HL.out];omega);rw [bJ.out,<-HE.out] at HO;go_wp2;go_ret;exact ⟨⟨_,rfl,_,HO.out,N.out.2.1⟩,HB.out⟩
theorem zMM (L:List (Wc.In × List Int)) (v:vW) (w:wW) (h:RdC w v L) (c:L.length<=1000000) (d:∀ x ∈ L,x.2.length<=1000000/\Wt.FitV x.1.v) (a:NmAt w) :
  cW prog 34 #[v] w λe w'=>(∃ r B,e=rX r/\OwnA w' B r (usA L)/\w.heap.size<=B)/\bL w w':=zK0 L v w h c d a (λx _=>zOW x)
open Go.RowKit Wf
theorem zAz:∀ (A:List (Wc.In × vW)) (i j:Nat) (h:i<A.length),j<23->(Qf A)[i * 23+j]? = (QF (A[i]).1 (A[i]).2)[j]?
 | x::r,0,j,_,hj=>by
  show (QF x.1 x.2++Qf r)[0 * 23+j]? = _
  rw [uZ (by simp [QF];omega)];simp
 | x::r,i+1,j,h,hj=>by
  have a:=zAz r i j (by simpa using h) hj;show (QF x.1 x.2++Qf r)[(i+1) * 23+j]? = _
  rw [sZ (by simp [QF];omega)];have e:(i+1) * 23+j - (QF x.1 x.2).length=i * 23+j:=by simp [QF];omega
  rw [e,a];rfl
theorem zDM:∀ (A:List (Wc.In × vW)) (i:Nat) (h:i<A.length) (v:vW),(Qf A).set (i * 23+22) v=Qf (A.set i ((A[i]).1,v))
 | [],i,h,v=>absurd h (cY _)
 | x::r,0,h,v=>by
  show (QF x.1 x.2++Qf r).set (0 * 23+22) v=QF x.1 v++Qf r
  rfl
 | x::r,i+1,h,v=>by
  show (QF x.1 x.2++Qf r).set ((i+1) * 23+22) v=QF x.1 x.2++Qf (r.set i ((r[i]'(by simpa using h)).1,v))
  rw [<-zDM r i (by simpa using h) v,List.set_append_right _ _ (by simp [QF];omega),show (i+1) * 23+22 - (QF x.1 x.2).length=i * 23+22 from by simp [QF];omega]
theorem TyB.own {g c:Nat} {T:TypeId} {i:List vW} (h:w.ownsRow B T k (U (some ⟨g,0,none⟩) n c) m i):TyB w g T:=by
 rcases h.2 with ⟨e,_⟩ | ⟨j,d,f,e,_,a,_⟩
 ·cases e
 ·simp only [U.injEq,Option.some.injEq,Addr.mk.injEq] at e;obtain ⟨⟨rfl,_⟩,_⟩:=e;exact ⟨_,_,a⟩
theorem zHN (bb mb lo:Nat) (nv:vW) (aT:Int) (F:List (Wpl.Cl × Ct)) (x:Wpl.Cl) (C:List I) (w:wW) (h:AtL w bb [nv,O J aT,.map (some mb)]) (hm:MB w mb F) (hC:CdP w lo (gtC x F).v C) (hN:True->C.length<=1000000) (X:∀ p ∈ C,p.2.length<=1000000) :
  cW prog 26 #[pX (some ⟨bb,0,none⟩),gX #[O J x.s,O J x.r,O J x.c]] w λe w'=>(∃ v,e=rX v/\CdP w' w.heap.size v C)/\bL w w':=by
 have aa:=QJ (cZ _ w) (Z #[O J x.s,O J x.r,O J x.c] 36);have p:=AtL.f3 (AtL.new0 w 36 [O J x.s,O J x.r,O J x.c]);have G:=AtL.below aa h;obtain ⟨_,_,R,_⟩:=G.three;have ap:=hid (hm.below aa);have ac:=hid aa;obtain ⟨g,hg⟩:=xV (gtC x F)
 have HG:=hid hg;rw [hg] at hC;obtain ⟨gt,ga,gn,gk⟩:=g;have aE:=hid hC;have HZ:=hid X;clear h hm G aa hg hC X;go_enter func26,ntmps26;go_upto_region 1 with fail
 generalize w.alloc (Z #[O J x.s,O J x.r,O J x.c] 36)=W0 at *;have t3:JI W0 w.heap.size (O J x.s) (O J x.r) (O J x.c):=p;clear p;have y:=(cZ W0.heap.size W0).drew;refine wp_region_held_drew (S:=λW=>W.cell? ⟨bb,2,none⟩=some (.map (some mb))/\JI W w.heap.size (O J x.s) (O J x.r) (O J x.c)) kR ⟨QC y R,QH y t3⟩ (λt=>?_);have aq:=hid (MB.below ap.out y);have ad:=hid (QA ac.out y);have ao:=hid (aE.out.fr (Fr.of_below [] (QA ac.out y)) sM);replace t3:=QH y t3
 replace R:=QC y R
 clear y ap ac;generalize W0.drew=N at *;refine tkQ 0 ?_
 refine tkQ 1 ?_
 refine tkQ 2 ?_
 refine tkQ 3 ?_
 refine tkQ 4 ?_
 refine rdQ 5 (λK hK=>?_);have aQ:(Instr.lookup 50 (.map (some mb)) (gX #[O J x.s,O J x.r,O J x.c]) false).run prog N=.ok (gX #[V gt,U ga gn gk]) N:=by have:=zCz aq.out x;rw [HG.out] at this;exact this
 go_simp
 refine hkQ hK ⟨R,t3⟩ (λt=>?_);clear hK K aQ
 have f1:=λw=>zRX gt ga gn gk w
 refine tkQ 6 ?_
 obtain ⟨P,o1,ai,T⟩:=ao.out;obtain ⟨n,hn⟩:=xV P.length
 have ak:∀ p ∈ P,∃ av m c,p.2=U av m c:=λp hp=>by
  obtain ⟨i,hi,e⟩:=List.mem_iff_getElem.1 hp;have:=OwnZ.slice (T i hi (by rw [<-ai];exact hi)).2;rw [e] at this;exact this
 have CL:=zPn (U ga gn gk) P.length (Qf P) lo N o1 (zBl P ak) (λ_=>by have:=hN trivial;omega);have HP:hH (P.length=C.length/\P.length=n/\(∀ p ∈ P,∃ av m c,p.2=U av m c)/\∀ i (h:i<P.length) (G:i<C.length),(P[i]).1=(C[i]).1/\OwnZ N lo (P[i]).2 (C[i]).2/\(C[i]).2.length<=1000000):=⟨ai,hn,ak,λi h G=>⟨(T i h G).1,(T i h G).2,HZ.out _ (jZ _)⟩⟩
 clear ai T ak o1 ao;refine rdQ 7 (λK hK=>?_);go_simp
 refine CL.mono ?_;rintro e w2 ⟨⟨lv,rfl,o2⟩,H⟩;have am:=hid (QA ad.out H);have af:=hid HP.out.2.2.2;have au:=hid ad.out.size;have al:=hid H;replace t3:=QH H t3
 replace R:=QC H R
 clear H ad CL aq;go_wp2_with fail
 refine hkQ hK ⟨R,t3⟩ (λt=>?_);clear hK K
 refine rdQ 8 (λK hK=>?_);go_simp
 refine hkQ hK ⟨R,t3⟩ (λt=>?_);clear hK K
 refine wpAnyH_done kR ?_ _;clear t R t3;have aB:C.length=n:=by rw [<-HP.out.1];exact HP.out.2.1
 rw [HP.out.2.1] at o2;have ae:=hid aB;have aL:True->n<=1000000:=λ_=>by have:=hN trivial;omega
 rcases o2.2 with ⟨e,h0⟩ | ⟨g,cap,aW,e,aw,_⟩
 ·subst e;clear o2 af HP HZ;subst h0;go_upto_region 3 with fail
  go_loopg [17] 1 (λgk u wr=>u=O J 0/\wr=w2)
  case atStart=>exact ⟨rfl,rfl⟩
  case round =>
   obtain ⟨rfl,rfl⟩:=hrel;go_wp2;go_ret;exact ⟨⟨_,rfl,by rw [List.eq_nil_of_length_eq_zero ae.out];exact CdP.nil _ _⟩,am.out⟩
 ·subst e;have ar:=hid o2;have an:=hid aw;have Q:=hid HP.out.2.1;have aH:=hid HP.out.2.2.1;clear o2 aw HP HZ aB;go_upto_region 3 with fail
  go_loopg [17] n (λgk u wr=>∃ (i:Nat) (d:List (Wc.In × vW)),u=O J (i:Int)/\gk=n - i/\hH (i<=n)/\hH (wr.ownsRow N.heap.size 87 23 (U (some ⟨g,0,none⟩) n cap) n (Qf d))/\hH (d.length=n/\∀ j (h:j<P.length) (G:j<d.length),(d[j]).1=(P[j]).1/\(i<=j->(d[j]).2=(P[j]).2)/\(j<i->∀ hc:j<C.length,OwnZ wr N.heap.size (d[j]).2 (C[j]).2))/\hH (Fr [g] w2 wr))
  case atStart=>exact ⟨0,P,rfl,rfl,rZ _,ar,⟨Q.out,λj h G=>⟨rfl,λ_=>rfl,λhj=>absurd hj (cY _)⟩⟩,Fr.refl _ _⟩
  case round =>
   obtain ⟨i,d,rfl,hg,HI,HO,A,HF⟩:=hrel;generalize aS:wr=W at *;clear aS ar;by_cases ab:i<n
   ·have aO:(i:Int)<(n:Int):=oM;have aX:(0:Int)<=(i:Int):=oM;have aY:J.wrap ((i:Int)+1)=(i:Int)+1:=by have:=aL trivial;rw [iZ];omega
    have ay:i<P.length:=by rw [Q.out];exact ab
    have ah:bL N W:=(Fr.new (Fr.of_below [] al.out) HF.out (λk hk=>pZ (by simp at hk;have:=an.out;omega))).to_below sM;obtain ⟨za,zm,zc,hz⟩:=aH.out (P[i]) (jZ _);have aj:i<C.length:=by rw [ae.out];exact ab
    have z:i<d.length:=by rw [A.out.1];exact ab
    obtain ⟨z0,z1,z2⟩:=af.out i ay aj;have aC:(d[i]).2=U za zm zc:=by rw [(A.out.2 i ay z).2.1 (dZ _),hz]
    obtain ⟨ag,X⟩:=xV ((C[i]).2)
    rw [hz,X] at z1;rw [X] at z2;have aK:hH (∃ hc:i<C.length,(C[i]).2=ag):=⟨aj,X⟩
    have CL:=zQA (U za zm zc) ag.length (ag.map (O J)) lo W (z1.below ah) (λu hu=>by obtain ⟨a,_,rfl⟩:=List.mem_map.1 hu;rfl) (λ_=>by omega);have k0:W.cell? ⟨g,i * 23+22,none⟩=some (U za zm zc):=by
     have hx:(Qf d)[i * 23+22]? = some (U za zm zc):=by rw [zAz d i 22 z dM,aC];rfl
     have hc:=HO.out.cells (g:=g) rfl (i * 23+22) _ hx;rwa [show (⟨g,0,none⟩:Addr).add (i * 23+22)=⟨g,i * 23+22,none⟩ from by simp [Addr.add]] at hc
    have aI:=hid ah.size;clear z0 z1 z2 hz aC X ah aj;go_wp2_with fail
    refine CL.mono ?_;rintro e w3 ⟨⟨nv,rfl,on⟩,L⟩;have o3:w3.ownsRow N.heap.size 87 23 (U (some ⟨g,0,none⟩) n cap) n (Qf d):=Q2 (Fr.of_below [] L) HO.out sM;obtain ⟨o4,aM⟩:=World.ownsRow.stored o3 (i * 23+22) nv;have k3:=QC L k0;have k4:w3.frozen? ⟨g,i * 23+22,none⟩=false:=by
     rcases o3.2 with ⟨e,_⟩ | ⟨g',aU,aV,e,_,aN,_⟩
     ·cases e
     ·simp only [U.injEq,Option.some.injEq,Addr.mk.injEq] at e;obtain ⟨⟨rfl,_⟩,_⟩:=e;simp [World.frozen?,aN]
    obtain ⟨f,q,l,aR⟩:∃ a m c,nv=U a m c:=by
     rcases on.2 with ⟨e,_⟩ | ⟨_,_,_,e,_⟩
     ·exact ⟨_,_,_,e⟩
     ·exact ⟨_,_,_,e⟩
    subst aR;have ax:Fr [g] W (w3.setCell ⟨g,i * 23+22,none⟩ (U f q l)):=(Fr.of_below _ L).trans (Qj g [U f q l] (i * 23+22) w3);rw [zDM d i z] at o4;have aG:=hid o4;have aJ:hH ((d.set i ((d[i]).1,U f q l)).length=n/\∀ j (h:j<P.length) (G:j<(d.set i ((d[i]).1,U f q l)).length),((d.set i ((d[i]).1,U f q l))[j]).1=(P[j]).1/\(i+1<=j->((d.set i ((d[i]).1,U f q l))[j]).2=(P[j]).2)/\(j<i+1->∀ hc:j<C.length,OwnZ (w3.setCell ⟨g,i * 23+22,none⟩ (U f q l)) N.heap.size ((d.set i ((d[i]).1,U f q l))[j]).2 (C[j]).2)):=by
     refine ⟨by rw [List.length_set];exact A.out.1,λj h G=>?_⟩;rw [List.getElem_set];by_cases aA:i=j
     ·subst aA;rw [if_pos rfl];refine ⟨(A.out.2 i h z).1,λhj=>absurd hj oM,λ_ hc=>?_⟩;obtain ⟨_,X⟩:=aK.out;rw [X];exact zFF (Q2 (Qj g [U f q l] (i * 23+22) w3) on (zFx on (TyB.own o3) dM)) aI.out
     ·rw [if_neg aA];have aP:j<d.length:=by rw [A.out.1,<-Q.out];exact h
      obtain ⟨q1,q2,q3⟩:=A.out.2 j h aP;refine ⟨q1,λhj=>q2 oM,λhj hc=>?_⟩;have o:=q3 oM hc;exact Q2 ax o (zFx o (TyB.own HO.out) dM)
    have aF:=hid ((HF.out.trans (Fr.of_below _ L)).trans (Qj g [U f q l] (i * 23+22) w3));clear CL on o3 o4 aM L ax k0 HO A HF;go_wp2_with fail
    go_roundg (n - (i+1))
    case rel=>exact ⟨i+1,_,sM,rfl,ab,aG,aJ,aF⟩
    case measure=>omega
   ·have aO:¬ (i:Int)<(n:Int):=oM;have HE:=hid ((Fr.new (Fr.of_below [] am.out) HF.out (λk hk=>pZ (by simp at hk;have:=an.out;have:=au.out;omega))).to_below sM);have aD:hH (CdP W w.heap.size (U (some ⟨g,0,none⟩) n cap) C):=by
     refine CdP.mono (lo:=N.heap.size) ⟨d,?_,by rw [A.out.1,ae.out],λj h G=>?_⟩ au.out
     ·show World.ownsRow _ _ _ _ _ _ _
      rw [A.out.1];exact HO.out
     ·have az:j<P.length:=by rw [Q.out,<-A.out.1];exact h
      obtain ⟨q1,_,q3⟩:=A.out.2 j az h;exact ⟨q1.trans (af.out j az G).1,q3 (by have:=A.out.1;omega) G⟩
    clear HO A HF;go_wp2;go_ret;exact ⟨⟨_,rfl,aD.out⟩,HE.out⟩
theorem OwnI.cellB {G cap:Nat} {A:List (Wc.In × vW)} (h:OwnI w B (U (some ⟨G,0,none⟩) n cap) A) {i:Nat} (d:i<A.length):w.rangeAt G (i * 23) (QF (A[i]).1 (A[i]).2):=by
 intro j v a;have e:j<23:=by
  rcases Nat.lt_or_ge j 23 with q | q
  ·exact q
  ·rw [mZ (by simp [QF];omega)] at a;cases a
 have c:=h.cells (g:=G) rfl (i * 23+j) v (by rw [zAz A i j d e];exact a);rwa [show (⟨G,0,none⟩:Addr).add (i * 23+j)=⟨G,i * 23+j,none⟩ from by
  simp [Addr.add];try (intro f;omega)] at c
theorem zL2 {P:List (Wc.In × vW)} (h:OwnI w B lv P) (p:P.length=C.length) (o:∀ i (h:i<P.length) (y:i<C.length),(P[i]).1=(C[i]).1/\OwnZ w B (P[i]).2 (C[i]).2):RdC w lv C:=by
 rcases h.2 with ⟨e,u⟩ | ⟨G,cap,t,e,A,H,r⟩
 ·subst e;refine ⟨none,0,by rw [<-p,u],λi o=>?_⟩;omega
 ·subst e;refine ⟨some ⟨G,0,none⟩,cap,by rw [<-p],λi g=>?_⟩;have d:i<P.length:=oM;have c:=OwnI.cellB h (i:=i) d;obtain ⟨q,s⟩:=o i d g;have f:=s.rd;rcases s.2 with ⟨a,z⟩ | ⟨x,j,l,a,_⟩
  ·rw [q,a] at c;rw [a] at f;exact ⟨G,0,none,0,0,rfl,by rw [nZ];exact c,f,λ_=>rfl⟩
  ·rw [q,a] at c;rw [a] at f;exact ⟨G,0,_,_,_,rfl,by rw [nZ];exact c,f,λh=>by cases h⟩
theorem CdP.rdc {lo:Nat} (h:CdP w lo v C):RdC w v C:=by
 obtain ⟨P,a,c,d⟩:=h;exact zL2 a c d
theorem zMb (Q mb lo:Nat) (nv:vW) (ab:Int) (F:List (Wpl.Cl × Ct)) (x:Wpl.Cl) (C:List I) (w:wW) (h:AtL w Q [nv,O J ab,.map (some mb)]) (hm:MB w mb F) (R:CdP w lo (gtC x F).v C) (hN:NmAt w) (hl:C.length<=1000000) (hZ:∀ p ∈ C,TI 1000000 p) :
  cW prog 17 #[pX (some ⟨Q,0,none⟩),gX #[O J x.s,O J x.r,O J x.c]] w λe w'=>(∃ v,e=rX v/\RdA w' v (usA C))/\bL w w':=by
 have i:=QJ (cZ _ w) (Z #[O J x.s,O J x.r,O J x.c] 36);have p:=AtL.f3 (AtL.new0 w 36 [O J x.s,O J x.r,O J x.c]);have h':=AtL.below i h;obtain ⟨_,_,f,_⟩:=h'.three;have u:=hid (hm.below i);have q:=hid i;obtain ⟨g,X⟩:=xV (gtC x F)
 have HG:=hid X;rw [X] at R;obtain ⟨gt,H,L,gk⟩:=g;have z:hH (∀ W,bL w W->cW prog 34 #[U H L gk] W λe w'=>(∃ v,e=rX v/\RdA w' v (usA C))/\bL W w'):=λW hb=>by
  refine Calls.mono (zMM C (U H L gk) W (RdC.below R.rdc hb) hl hZ (hN.below hb)) ?_;rintro e w' ⟨⟨r,B,rfl,ho,_⟩,T⟩;exact ⟨⟨r,rfl,ho.rd⟩,T⟩
 clear h hm h' i X R hZ hN hl;go_enter func17,ntmps17;go_upto_region 1 with fail
 generalize w.alloc (Z #[O J x.s,O J x.r,O J x.c] 36)=A at *;have l:JI A w.heap.size (O J x.s) (O J x.r) (O J x.c):=p;clear p;have d:=(cZ A.heap.size A).drew;refine wp_region_held_drew (S:=λW=>W.cell? ⟨Q,2,none⟩=some (.map (some mb))/\JI W w.heap.size (O J x.s) (O J x.r) (O J x.c)) kR ⟨QC d f,QH d l⟩ (λa=>?_);have y:=hid (MB.below u.out d);have t:=hid (QA q.out d);have US:=z.out A.drew (QA q.out d);replace l:=QH d l
 replace f:=QC d f
 clear d u q z;generalize A.drew=W1 at *;refine tkQ 0 ?_
 refine tkQ 1 ?_
 refine tkQ 2 ?_
 refine tkQ 3 ?_
 refine tkQ 4 ?_
 refine rdQ 5 (λK o=>?_);have aa:(Instr.lookup 50 (.map (some mb)) (gX #[O J x.s,O J x.r,O J x.c]) false).run prog W1=.ok (gX #[V gt,U H L gk]) W1:=by have:=zCz y.out x;rw [HG.out] at this;exact this
 go_simp
 refine hkQ o ⟨f,l⟩ (λa=>?_);clear o K aa
 have f1:=λw=>zRX gt H L gk w
 refine tkQ 6 ?_
 refine rdQ 7 (λK o=>?_);go_simp
 refine US.mono ?_;rintro e w2 ⟨⟨uv,rfl,G⟩,j⟩;have P:=hid G;have N:=hid (QA t.out j);replace l:=QH j l
 replace f:=QC j f
 clear j t US y G;go_wp2_with fail
 refine hkQ o ⟨f,l⟩ (λa=>?_);clear o K
 refine rdQ 8 (λK o=>?_);go_simp
 refine hkQ o ⟨f,l⟩ (λa=>?_);clear o K
 refine wpAnyH_done kR ?_ _;clear a f l;go_wp2;go_ret;exact ⟨⟨uv,rfl,P.out⟩,N.out⟩
theorem zOl:(usA [ins 2 0 0,ins 16 0 0]).length=1:=kR
theorem zNk:∀ x ∈ [ins 2 0 0,ins 16 0 0],x.2.length<=1000000/\Wt.FitV x.1.v:=by
 intro x a;simp only [kZ,wZ,or_false] at a;rcases a with rfl | rfl
 ·exact ⟨by simp [ins],by unfold Wt.FitV;decide⟩
 ·exact ⟨by simp [ins],by unfold Wt.FitV;decide⟩
def chA:List Ch:=[⟨⟨0,0,0⟩,t2B⟩,⟨⟨1,0,0⟩,tF⟩]
def rsA (a:Ch):List I ⊕ (Int × Int):=if a.x.s=0 then .inl [] else .inl [ins 2 0 0,ins 16 0 0]
def gA:List (Wpl.Cl × Ce):=[(⟨0,0,0⟩,⟨t2B,[]⟩),(⟨1,0,0⟩,⟨tF,[ins 2 0 0,ins 16 0 0]⟩)]
theorem raA:raP 2 rsA chA 0 []=.inr gA:=kR
theorem lbA:¬ 4096<lbE [] chA (([]:List (Wpl.Cl × Ce)).length:Int):=by decide +kernel
theorem zRs:VP gA chA []=gA:=kR
theorem zOQ:∀ a ∈ chA,Jh 2 a.x=true->VQ [sS,sT] a.x a.t (rsA a):=by
 intro a c _;simp only [chA,kZ,wZ,or_false] at c;rcases c with rfl | rfl
 ·exact zNw
 ·exact zPf
theorem zQB:∀ y,(gtE y gA).t.size<=9223372036854775807:=by
 intro y;rcases J7 (G:=gA) (x:=y) with h | h
 ·rw [h];decide
 ·generalize gtE y gA=e at *;simp only [gA,kZ,wZ,or_false,Prod.mk.injEq] at h;rcases h with ⟨_,rfl⟩ | ⟨_,rfl⟩ <;> decide
def chB:Array vW:=#[O J 0,O J 0,O J 0,V t2B,O J 1,O J 0,O J 0,V tF]
theorem zO8 (w:wW):RdH (w.alloc (Z #[O J 0,O J 0,O J 0,V t2B,O J 1,O J 0,O J 0,V tF] 38)) (some ⟨w.heap.size,0,none⟩) chA:=by
 have q:=(AtL.new0 w 38 [O J 0,O J 0,O J 0,V t2B,O J 1,O J 0,O J 0,V tF]).range;intro i a d;refine ⟨w.heap.size,0,rfl,?_⟩;match i,d with
 | 0,d =>
  simp only [chA,yZ,Option.some.injEq] at d;subst d;intro j v c;have e:j<4:=(List.getElem?_eq_some_iff.1 c).1;match j,e with
  | 0,_=>exact q 0 v c
  | 1,_=>exact q 1 v c
  | 2,_=>exact q 2 v c
  | 3,_=>exact q 3 v c
 | 1,d =>
  simp only [chA,List.getElem?_cons_succ,yZ,Option.some.injEq] at d;subst d;intro j v c;have e:j<4:=(List.getElem?_eq_some_iff.1 c).1;match j,e with
  | 0,_=>exact q 4 v c
  | 1,_=>exact q 5 v c
  | 2,_=>exact q 6 v c
  | 3,_=>exact q 7 v c
 | i+2,d=>simp [chA] at d
theorem zEw (w:wW):(w.alloc (Z #[V sS,V sT] 9)).ownsRow 0 9 1 (U (some ⟨w.heap.size,0,none⟩) 2 2) 2 [V sS,V sT] :=
 ⟨rfl,pZ ⟨w.heap.size,2,_,rfl,rZ _,(Go.MapKept.heap_alloc w _).1,dZ _,by unfold maxLen;omega,rfl,rfl⟩⟩
theorem zPX (w:wW) (hE:BEnv w):CR 6 #[] w (Y true):=by
 have z:=QJ (cZ _ w) (Z #[V sS,V sT] 9);have NW:=zJd w.heap.size (w.alloc (Z #[V sS,V sT] 9)) (hE.1.1.below z) (zEw w);have HE:=hid hE;have p:=hid z;clear hE z;go_enter func6,ntmps6;go_wp2_with fail
 refine NW.mono ?_;rintro e R ⟨l,mb,P,Q,rfl,hk,ae,ai,ak,_⟩;have q:=hid (QA p.out ae);have ah:hH (w.heap.size<=l/\w.heap.size<=mb):=by
  have:=p.out.size;exact ⟨oM,oM⟩
 have u:=hid hk;clear NW hk ae ai ak p;go_upto_region 4 with fail
 have j:=QJ (cZ _ R) (Z #[O J 0,O J 0,O J 0,V t2B,O J 1,O J 0,O J 0,V tF] 38);have ED:=zIz l mb R.heap.size P Q [sS,sT] 0 [] (some ⟨R.heap.size,0,none⟩) 2 2 chA rsA (R.alloc (Z #[O J 0,O J 0,O J 0,V t2B,O J 1,O J 0,O J 0,V tF] 38)) ((HE.out.below q.out).below j) (u.out.below j) (zO8 R) rfl dM dM zOQ gA raA dM (λy=>by show (0:Nat)<=_;omega) zQB lbA dM (λg o e=>by have:=u.out.lt;cases e;omega);rw [zRs] at ED;have T:=hid (QA q.out j);clear j u q;go_wp2_with fail
 refine ED.mono ?_;rintro e w3 ⟨rfl,af,ad⟩;have A:=QJ (cZ _ w3) (Z #[O J 0,O J 0,O J 0] 30);have q4:=AtL.new0 w3 30 [O J 0,O J 0,O J 0];have x:=hid (af.below A);have W:=hid (QA ((Fr.new (Fr.of_below [] T.out) ad (λk hk=>pZ (by simp at hk;have:=ah.out;omega))).to_below sM) A);clear ED af ad A T;go_upto_region 5 with fail
 generalize w3.alloc (Z #[O J 0,O J 0,O J 0] 30)=W4 at *;generalize aj:w3.heap.size=fb at *;clear aj;obtain ⟨j0,_,_,_⟩:=q4.three;have VE:=zDP l mb (U P 2 Q) 1 W4 x.out.hd;go_wp2_with fail
 refine VE.mono ?_;rintro e w5 ⟨rfl,G⟩;have a:=hid (x.out.below G);have X:=hid (QA W.out G);clear VE G x W q4 j0;obtain ⟨F5,m5,t5⟩:=a.out.mp;have LE:=zCo l mb (U P 2 Q) 1 F5 w5 a.out.hd m5;rw [t5.len] at LE;clear m5 t5;go_wp2_with fail
 refine LE.mono ?_;rintro e w6 ⟨rfl,H⟩;have d:=hid (a.out.below H);have aa:=hid (QA X.out H);clear LE H a X;obtain ⟨F6,m6,t6⟩:=d.out.mp;have KI:=zAo l mb (U P 2 Q) 1 F6 ⟨1,0,0⟩ w6 d.out.hd m6 (by rw [(t6.get _).1.1];exact zQB _);rw [(t6.get _).1.1,show knd (gtE ⟨1,0,0⟩ gA).t=2 from by kernel_rfl] at KI;clear m6 t6;go_wp2_with fail
 refine KI.mono ?_;rintro e w7 ⟨rfl,I⟩;have f:=hid (d.out.below I);have ab:=hid (QA aa.out I);clear KI I d aa;obtain ⟨F7,m7,t7⟩:=f.out.mp;have TX:=zBr l mb (U P 2 Q) 1 F7 ⟨0,0,0⟩ w7 f.out.hd m7;rw [(t7.get _).1.1,show (gtE ⟨0,0,0⟩ gA).t=t2B from by kernel_rfl] at TX;clear m7 t7;go_wp2_with fail
 refine TX.mono ?_;rintro e w8 ⟨rfl,K⟩;have i:=hid (f.out.below K);have s:=hid (QA ab.out K);clear TX K f ab;obtain ⟨F8,m8,t8⟩:=i.out.mp;have N:=(t8.get ⟨1,0,0⟩).1.2;rw [show (gtE ⟨1,0,0⟩ gA).c=[ins 2 0 0,ins 16 0 0] from by kernel_rfl] at N;have US:=zMb l mb R.heap.size (U P 2 Q) 1 F8 ⟨1,0,0⟩ [ins 2 0 0,ins 16 0 0] w8 i.out.hd m8 N (HE.out.2.1.below s.out) dM zNk;clear m8 t8 N;go_wp2_with fail
 refine US.mono ?_;rintro e w9 ⟨⟨uv,rfl,ua,uc,e9,_⟩,L⟩;rw [zOl] at e9;subst e9;have ac:=hid (i.out.below L);have ag:=hid (QA s.out L);clear US L i s;have SH:=zOS l mb P Q [sS,sT] 1 sT w9 ac.out.hd ac.out.rs (λ_=>by decide);rw [show ixS sT [sS,sT] 0=1 from by kernel_rfl] at SH;go_wp2_with fail
 refine SH.mono ?_;rintro e al ⟨rfl,rfl⟩;clear SH;go_wp2;go_ret;exact ⟨rfl,ag.out⟩
open Go.ChangeMaps (setBlock)
theorem zIA (h:r<w.heap.size) (o:Obj):(setBlock w r o).heap[r]? = some o:=by simp [setBlock,h]
theorem zCQ {j:Nat} (o:Obj) (h:j ≠ r):(setBlock w r o).heap[j]? = w.heap[j]?:=by
 show (w.heap.setIfInBounds r o)[j]? = _
 rw [Array.getElem?_setIfInBounds_ne (Ne.symm h)]
def ItB (w:wW) (r mb:Nat) (F:List (Wpl.Cl × Ct)) (D:List Wpl.Cl) (k:Nat):Prop :=
 ∃ (d:Array MapEntry) (f a g:Nat) (c:Array Nat),w.heap[r]? = some (.mapIter (some mb) a c g)/\w.heap[mb]? = some (.map d f)/\enB d.toList F/\StB d.toList f/\a=f/\a<=g/\(leftOf d c).size=k/\(∀ y ∈ D,∃ e ∈ d.toList,e.key=ceV y/\c.contains e.born=true)/\∀ e ∈ d.toList,c.contains e.born=true->∃ y ∈ D,e.key=ceV y
theorem ItB.lt (h:ItB w r mb F D k):r<w.heap.size/\mb<w.heap.size:=by
 obtain ⟨i,g,a,f,c,d,e,_⟩:=h;exact ⟨(Array.getElem?_eq_some_iff.1 d).1,(Array.getElem?_eq_some_iff.1 e).1⟩
theorem ItB.fr (h:ItB w r mb F D k) (d:Fr S w w') (p:r ∉ S) (q:mb ∉ S):ItB w' r mb F D k:=by
 have e:=h.lt;obtain ⟨i,g,a,f,c,j,l,o⟩:=h;exact ⟨i,g,a,f,c,by rw [d.block r e.1 p];exact j,by rw [d.block mb e.2 q];exact l,o⟩
theorem enB.mem (h:enB E F) {e:MapEntry} (c:e ∈ E):∃ x f,(x,f) ∈ F/\e.key=ceV x/\e.val=ctV f:=by
 have:(e.key,e.val) ∈ E.map (λe=>(e.key,e.val)):=List.mem_map.2 ⟨e,c,rfl⟩;rw [h] at this;obtain ⟨p,d,a⟩:=List.mem_map.1 this;simp only [Prod.mk.injEq] at a;exact ⟨p.1,p.2,d,a.1.symm,a.2.symm⟩
theorem zIr {x y:Wpl.Cl} (h:ceV x=ceV y):x=y:=by
 obtain ⟨a,b,c⟩:=x;obtain ⟨d,e,f⟩:=y;simpa using h
theorem enB.one (h:enB E F) (l:KB F) {e c:MapEntry} (u:e ∈ E) (f:c ∈ E) (x:e.key=c.key):e=c:=by
 have y:(E.map (λe=>e.key)).Nodup:=by
  have s:E.map (λe=>e.key)=(F.map (λp=>p.1)).map ceV:=by
   have:=congrArg (List.map Prod.fst) h;rw [fY,fY] at this;rw [fY];exact this
  rw [s];unfold KB at l;exact List.Pairwise.map ceV (λa b d e=>d (zIr e)) l
 obtain ⟨i,o⟩:=List.mem_iff_getElem?.1 u;obtain ⟨j,g⟩:=List.mem_iff_getElem?.1 f;have q:(E.map (λe=>e.key))[i]? = some e.key:=by rw [fZ,o];rfl
 have z:(E.map (λe=>e.key))[j]? = some e.key:=by rw [fZ,g,x];rfl
 have t:=(gY (List.getElem?_eq_some_iff.1 q).1 y).1 (q.trans z.symm);subst t;rw [o] at g;exact Option.some.inj g
theorem StB.one {l:Nat} (h:StB E l) {e a:MapEntry} (q:e ∈ E) (c:a ∈ E) (p:e.born=a.born):e=a:=by
 obtain ⟨i,f⟩:=List.mem_iff_getElem?.1 q;obtain ⟨j,d⟩:=List.mem_iff_getElem?.1 c;have g:(E.map (·.born))[i]? = some e.born:=by rw [fZ,f];rfl
 have s:(E.map (·.born))[j]? = some e.born:=by rw [fZ,d,p];rfl
 have o:=(gY (List.getElem?_eq_some_iff.1 g).1 h.2).1 (g.trans s.symm);subst o;rw [f] at d;exact Option.some.inj d
theorem zOP (h:MB w mb F):∃ w',(Instr.range 50 (.map (some mb))).run prog w=.ok (pX (some ⟨w.heap.size,0,none⟩)) w'/\(∃ k,k<=F.length/\ItB w' w.heap.size mb F [] k)/\bL w w':=by
 have d:=h.lt;obtain ⟨c,a,f,g,i⟩:=h;refine ⟨_,run_range_map w 50 36 57 mb c a Vk f,⟨_,?_,c,a,a,a,#[],heap_alloc_new _ _,by rw [heap_alloc_old w _ d];exact f,g,i,rfl,dZ _,rfl,(λy j=>by cases j),λe he hs=>by simp at hs⟩,QJ (cZ _ w) _⟩;have e:c.size=F.length:=by
  have:=congrArg List.length g;simpa using this
 rw [<-e];exact Array.size_filter_le
theorem ItB.next (h:ItB w r mb F D k) (hK:KB F) (T:TypeId) :
  (Instr.next (pX (some ⟨r,0,none⟩)) false T).run prog w=.ok (uX #[Y false]) w/\(∀ p ∈ F,p.1 ∈ D) \/
  ∃ x f w',(x,f) ∈ F/\x ∉ D/\(Instr.next (pX (some ⟨r,0,none⟩)) false T).run prog w=.ok (uX #[Y true,ceV x,ctV f]) w'/\(Instr.entry (pX (some ⟨r,0,none⟩))).run prog w'=.ok (uX #[ceV x,ctV f]) w'/\Fr [r] w w'/\∃ k',k' < k/\ItB w' r mb F (x::D) k':=by
 have hl:=h.lt;obtain ⟨t,q,c,W,a,L,G,H,I,N,g6,g7,g8,g9⟩:=h;rcases run_next_at (P:=prog) w T r mb c W a t q L G (λx hx=>by rw [N];exact I.1 x hx) g6 with ⟨h0,e⟩ | ⟨e,he,w1,hw1,hrun⟩
 ·refine eY ⟨e,λp hp=>?_⟩;have hm:(ceV p.1,ctV p.2) ∈ t.toList.map (λe=>(e.key,e.val)):=by rw [H];exact List.mem_map.2 ⟨p,hp,rfl⟩
  obtain ⟨l,g,X⟩:=List.mem_map.1 hm;simp only [Prod.mk.injEq] at X;have hs:a.contains l.born=true:=by
   cases hq:a.contains l.born with
   | true=>rfl
   | false =>
    have:l ∈ leftOf t a:=Array.mem_filter.2 ⟨Array.mem_def.2 g,by rw [hq];rfl⟩;rw [Array.eq_empty_of_size_eq_zero h0] at this;simp at this
  obtain ⟨y,hy,K⟩:=g9 l g hs;rw [zIr (X.1.symm.trans K)];exact hy
 ·right
  have d:=mem_left he;obtain ⟨x,f,R,u,ev⟩:=H.mem d.1;have Q:mb ≠ r:=λe=>by rw [e,L] at G;cases G
  have i:w1.heap=w.heap:=by rcases hw1 with rfl | rfl <;> rfl
  have aa:w1.heap[r]? = some (.mapIter (some mb) c a W):=by rw [i];exact L
  have A:(setBlock w1 r (.mapIter (some mb) c (a.push e.born) q)).heap[r]? = some (.mapIter (some mb) c (a.push e.born) q):=zIA (by rw [i];exact hl.1) _;have z:(setBlock w1 r (.mapIter (some mb) c (a.push e.born) q)).heap[mb]? = some (.map t q):=by rw [zCQ _ Q,i];exact G
  refine ⟨x,f,_,R,λhD=>?_,by rw [<-u,<-ev];exact hrun,by rw [<-u,<-ev];exact run_entry_at _ r mb c a t q e A z d.1 I.2,?_,_,?_,⟨t,q,c,q,a.push e.born,A,z,H,I,N,Nat.le_of_eq N,rfl,λy hy=>?_,λl g hs=>?_⟩⟩
  ·obtain ⟨l,g,s,o⟩:=g8 x hD;have:=H.one hK d.1 g (by rw [u,s]);rw [<-this,d.2] at o;cases o
  ·refine ⟨?_,?_,?_,?_,λj hj hn=>?_⟩
   ·rcases hw1 with rfl | rfl <;> rfl
   ·rcases hw1 with rfl | rfl <;> rfl
   ·rcases hw1 with rfl | rfl <;> rfl
   ·simp [setBlock,i]
   ·rw [zCQ _ (λe=>hn (by simp [e])),i]
  ·rw [<-g7];exact left_shrinks t a e he
  ·rcases List.mem_cons.1 hy with rfl | hy
   ·exact ⟨e,d.1,u,by rw [contains_push];simp⟩
   ·obtain ⟨l,g,s,o⟩:=g8 y hy;exact ⟨l,g,s,by rw [contains_push,o];rfl⟩
  ·rw [contains_push,hY] at hs;rcases hs with hs | hs
   ·obtain ⟨y,hy,K⟩:=g9 l g hs;exact ⟨y,List.mem_cons_of_mem _ hy,K⟩
   ·refine ⟨x,List.mem_cons_self ..,?_⟩;rw [<-u,I.one g d.1 (by simpa using hs)]
end Go.Proofs.YtloponhikiddmaaGreatDoor
namespace Wb
def ltC (a b:Wpl.Cl):Bool:=Wpl.before a.s a.r a.c b.s b.r b.c
theorem ltC_iff (a b:Wpl.Cl):ltC a b=true ↔ (a.s<b.s \/ a.s=b.s/\(a.r<b.r \/ a.r=b.r/\a.c<b.c)):=by
 unfold ltC Wpl.before;split
 ·rw [decide_eq_true_eq];omega
 ·split
  ·rw [decide_eq_true_eq];omega
  ·rw [decide_eq_true_eq];omega
theorem ltC_no (a b:Wpl.Cl):ltC a b=false ↔ ¬ (a.s<b.s \/ a.s=b.s/\(a.r<b.r \/ a.r=b.r/\a.c<b.c)):=by
 rw [<-ltC_iff];simp
theorem ltC_eq {a b:Wpl.Cl} (d:ltC a b=false) (e:ltC b a=false):a=b:=by
 rw [ltC_no] at d e;obtain ⟨s,r,c⟩:=a;obtain ⟨o,l,f⟩:=b;simp only at d e;have g:s=o:=by omega
 have i:r=l:=by omega
 have j:c=f:=by omega
 rw [g,i,j]
def cmpC (a b:Wpl.Cl):Int:=if ltC a b then -1 else if ltC b a then 1 else 0
theorem cmpC_lt (a b:Wpl.Cl):decide (cmpC a b<0)=ltC a b:=by
 unfold cmpC;cases h:ltC a b with
 | true=>rfl
 | false=>cases c:ltC b a <;> rfl
def leC (a b:Wpl.Cl):Bool:=!ltC b a
def srt (l:List Wpl.Cl):List Wpl.Cl:=l.mergeSort leC
theorem srt_perm (l:List Wpl.Cl):(srt l).Perm l:=List.mergeSort_perm l leC
theorem srt_pw (l:List Wpl.Cl):(srt l).Pairwise (λa b=>ltC b a=false):=by
 have:=List.pairwise_mergeSort (le:=leC) (λa b c d e=>by
  unfold leC at *;rw [gZ,ltC_no] at *;omega) (λa b=>by
  unfold leC;rw [hY,gZ,gZ,ltC_no,ltC_no];omega) l
 refine List.Pairwise.imp (λh=>?_) this;unfold leC at h;rwa [gZ] at h
theorem srt_len (l:List Wpl.Cl):(srt l).length=l.length:=(srt_perm l).length_eq
end Wb
namespace Go.Proofs.YtloponhikiddmaaGreatDoor
open Tryz
open Go.RowKit
def BlD (w w':wW):Prop:=bL w w'/\w.drawn<=w'.drawn
theorem BlD.refl (w:wW):BlD w w:=⟨cZ _ _,dZ _⟩
theorem zPK {w W:wW} (h:BlD w W) (o:Obj):BlD w (W.alloc o):=⟨QJ h.1 o,h.2⟩
theorem zP4 {w W d:wW} (a:BlD w W) (c:BlD W d):BlD w d:=⟨QA a.1 c.1,eZ a.2 c.2⟩
theorem BlD.grow {w w':wW} (h:BlD w w'):∃ q c,w'=Go.Sort.grow (w.drewN q) c:=by
 obtain ⟨p,a⟩:=regrown_of_below h.1;refine ⟨w'.drawn - w.drawn,p.os,?_⟩;have e:w'.drawn=p.d:=by rw [a];rfl
 have:=h.2;rw [a];show Go.Sort.grow _ _=Go.Sort.grow _ _
 congr 1
 unfold redrawn World.drewN;congr 1
 show p.d=w.drawn+(_ - w.drawn)
 show p.d=w.drawn+((Go.Sort.grow (redrawn w p.d) p.os).drawn - w.drawn)
 rw [<-a];omega
theorem zF2 (s r c d a f:Int) (w:wW) :
  cW prog 45 #[gX #[O J s,O J r,O J c],gX #[O J d,O J a,O J f]] w λe w'=>e=rX (Y (Wpl.before s r c d a f))/\BlD w w':=by
 unfold Wpl.before;by_cases h:s=d
 ·rw [if_neg (not_not_intro h)];by_cases k:r=a
  ·rw [if_neg (not_not_intro k)];subst h k;go_enter func45,ntmps45;go_wp2;go_ret;exact ⟨rfl,clA,sM⟩
  ·rw [if_pos k];subst h;go_enter func45,ntmps45;go_wp2;go_ret;exact ⟨rfl,clA,sM⟩
 ·rw [if_pos h];go_enter func45,ntmps45;go_wp2;go_ret;exact ⟨rfl,clA,sM⟩
theorem zN9 (s r c g f d:Int) (w:wW):cW prog 29 #[gX #[O J s,O J r,O J c],gX #[O J g,O J f,O J d]] w λe w'=>e=rX (O J (Wb.cmpC ⟨s,r,c⟩ ⟨g,f,d⟩))/\BlD w w':=by
 have q:=λw=>zF2 s r c g f d w
 have t:=λw=>zF2 g f d s r c w
 obtain ⟨R,I⟩:=xV (Wb.cmpC ⟨s,r,c⟩ ⟨g,f,d⟩)
 rw [I];have o:hH (Wb.cmpC ⟨s,r,c⟩ ⟨g,f,d⟩=R):=I;have x:=(AtL.new0 w 36 [O J s,O J r,O J c]).alloc (Z #[O J g,O J f,O J d] 36);have y:=AtL.new1 w (Z #[O J s,O J r,O J c] 36) 36 [O J g,O J f,O J d];have j:=zPK (zPK (BlD.refl w) (Z #[O J s,O J r,O J c] 36)) (Z #[O J g,O J f,O J d] 36);clear I;cases i:Wpl.before s r c g f d with
 | true =>
  rw [i] at q;have u:hH (R = -1):=by show _=_;rw [<-o.out];simp [Wb.cmpC,Wb.ltC,i]
  clear i t o;go_enter func29,ntmps29;go_upto_region 1 with fail
  generalize (w.alloc (Z #[O J s,O J r,O J c] 36)).alloc (Z #[O J g,O J f,O J d] 36)=K at *;obtain ⟨z,A,G,_⟩:=x.three;obtain ⟨H,b1,b2,_⟩:=y.three;go_wp2_with fail
  refine (q _).mono ?_;rintro e L ⟨rfl,a⟩;go_wp2;go_ret;exact ⟨by rw [u.out];rfl,zP4 j a⟩
 | false =>
  rw [i] at q;cases p:Wpl.before g f d s r c with
  | true =>
   rw [p] at t;have u:hH (R=1):=by show _=_;rw [<-o.out];simp [Wb.cmpC,Wb.ltC,i,p]
   clear i p o;go_enter func29,ntmps29;go_upto_region 1 with fail
   generalize (w.alloc (Z #[O J s,O J r,O J c] 36)).alloc (Z #[O J g,O J f,O J d] 36)=K at *;obtain ⟨z,A,G,_⟩:=x.three;obtain ⟨H,b1,b2,_⟩:=y.three;go_wp2_with fail
   refine (q _).mono ?_;rintro e L ⟨rfl,a⟩;obtain ⟨z,A,G,_⟩:=(AtL.below a.1 x).three;obtain ⟨H,b1,b2,_⟩:=(AtL.below a.1 y).three;go_wp2_with fail
   refine (t _).mono ?_;rintro e N ⟨rfl,l⟩;go_wp2;go_ret;exact ⟨by rw [u.out];rfl,zP4 (zP4 j a) l⟩
  | false =>
   rw [p] at t;have u:hH (R=0):=by show _=_;rw [<-o.out];simp [Wb.cmpC,Wb.ltC,i,p]
   clear i p o;go_enter func29,ntmps29;go_upto_region 1 with fail
   generalize (w.alloc (Z #[O J s,O J r,O J c] 36)).alloc (Z #[O J g,O J f,O J d] 36)=K at *;obtain ⟨z,A,G,_⟩:=x.three;obtain ⟨H,b1,b2,_⟩:=y.three;go_wp2_with fail
   refine (q _).mono ?_;rintro e L ⟨rfl,a⟩;obtain ⟨z,A,G,_⟩:=(AtL.below a.1 x).three;obtain ⟨H,b1,b2,_⟩:=(AtL.below a.1 y).three;go_wp2_with fail
   refine (t _).mono ?_;rintro e N ⟨rfl,l⟩;go_wp2;go_ret;exact ⟨by rw [u.out];rfl,zP4 (zP4 j a) l⟩
open Go.Shelf Go.RowKit Go.Sort
def zFt:Go.Shelf.Ren:=⟨fun | 6=>28 | 15=>44 | 14=>43 | 28=>70 | 29=>71 | 20=>62 | 21=>63 | 22=>64 | 23=>65 | 24=>66 | 25=>67 | 26=>68 | 27=>69 | 46=>94 | 47=>95 | 48=>96 | 49=>97 | 50=>98 | 57=>125 | n=>n,fun | 22=>39 | 24=>36 | 25=>71 | 3=>3 | 39=>93 | 0=>0 | 53=>129 | 55=>131 | 4=>4 | 46=>122 | 45=>121 | 50=>126 | 5=>5 | 9=>9 | 66=>171 | 70=>175 | 76=>217 | 77=>218 | n=>n,fun | n=>n⟩
theorem zRU:Go.Proofs.SlLaysF0.n6 prog zFt:={
 mixed:=kR
 f6:=⟨ "slices.SortFunc[[]whittle/api.Cell,whittle/api.Cell]",dM,func28.trans (congrArg some kR)⟩
 f14:=⟨ "slices.pdqsortCmpFunc[whittle/api.Cell]",dM,func43.trans (congrArg some kR)⟩
 f15:=func44.trans (congrArg some kR)
 f20:=⟨ "slices.insertionSortCmpFunc[whittle/api.Cell]",dM,func62.trans (congrArg some kR)⟩
 f21:=⟨ "slices.heapSortCmpFunc[whittle/api.Cell]",dM,func63.trans (congrArg some kR)⟩
 f22:=⟨ "slices.breakPatternsCmpFunc[whittle/api.Cell]",dM,func64.trans (congrArg some kR)⟩
 f23:=⟨ "slices.choosePivotCmpFunc[whittle/api.Cell]",dM,func65.trans (congrArg some kR)⟩
 f24:=⟨ "slices.reverseRangeCmpFunc[whittle/api.Cell]",dM,func66.trans (congrArg some kR)⟩
 f25:=⟨ "slices.partialInsertionSortCmpFunc[whittle/api.Cell]",dM,func67.trans (congrArg some kR)⟩
 f26:=⟨ "slices.partitionEqualCmpFunc[whittle/api.Cell]",dM,func68.trans (congrArg some kR)⟩
 f27:=⟨ "slices.partitionCmpFunc[whittle/api.Cell]",dM,func69.trans (congrArg some kR)⟩
 f28:=func70.trans (congrArg some kR)
 f29:=func71.trans (congrArg some kR)
 f46:=⟨ "slices.siftDownCmpFunc[whittle/api.Cell]",dM,func94.trans (congrArg some kR)⟩
 f47:=func95.trans (congrArg some kR)
 f48:=func96.trans (congrArg some kR)
 f49:=⟨ "slices.medianAdjacentCmpFunc[whittle/api.Cell]",dM,func97.trans (congrArg some kR)⟩
 f50:=⟨ "slices.medianCmpFunc[whittle/api.Cell]",dM,func98.trans (congrArg some kR)⟩
 f57:=⟨ "slices.order2CmpFunc[whittle/api.Cell]",dM,func125.trans (congrArg some kR)⟩
 t0:=underlying0
 a0:=Tryz.isAgg0
 z0:=Tryz.sizeOf0
 v0:=Tryz.zeroValue0
 t3:=underlying3
 a3:=Tryz.isAgg3
 z3:=Tryz.sizeOf3
 v3:=Tryz.zeroValue3
 t4:=underlying4
 a4:=Tryz.isAgg4
 z4:=Tryz.sizeOf4
 v4:=Tryz.zeroValue4
 t5:=underlying5
 a5:=Tryz.isAgg5
 z5:=Tryz.sizeOf5
 v5:=Tryz.zeroValue5
 t9:=underlying9
 a9:=Tryz.isAgg9
 z9:=Tryz.sizeOf9
 v9:=Tryz.zeroValue9
 t22:=underlying39
 a22:=Tryz.isAgg39
 z22:=Tryz.sizeOf39
 v22:=Tryz.zeroValue39
 t25:=underlying71
 a25:=Tryz.isAgg71
 z25:=Tryz.sizeOf71
 v25:=Tryz.zeroValue71
 t39:=underlying93
 a39:=Tryz.isAgg93
 z39:=Tryz.sizeOf93
 v39:=Tryz.zeroValue93
 t45:=underlying121
 a45:=Tryz.isAgg121
 z45:=Tryz.sizeOf121
 v45:=Tryz.zeroValue121
 t46:=underlying122
 a46:=Tryz.isAgg122
 z46:=Tryz.sizeOf122
 v46:=Tryz.zeroValue122
 t50:=underlying126
 a50:=Tryz.isAgg126
 z50:=Tryz.sizeOf126
 v50:=Tryz.zeroValue126
 t53:=underlying129
 a53:=Tryz.isAgg129
 z53:=Tryz.sizeOf129
 v53:=Tryz.zeroValue129
 t55:=underlying131
 a55:=Tryz.isAgg131
 z55:=Tryz.sizeOf131
 v55:=Tryz.zeroValue131
 t66:=underlying171
 a66:=Tryz.isAgg171
 z66:=Tryz.sizeOf171
 v66:=Tryz.zeroValue171
 t70:=underlying175
 a70:=Tryz.isAgg175
 z70:=Tryz.sizeOf175
 v70:=Tryz.zeroValue175
 t76:=underlying217
 a76:=Tryz.isAgg217
 z76:=Tryz.sizeOf217
 v76:=Tryz.zeroValue217
 t77:=underlying218
 a77:=Tryz.isAgg218
 z77:=Tryz.sizeOf218
 v77:=Tryz.zeroValue218}
def clX (x:Wpl.Cl):List vW:=[O J x.s,O J x.r,O J x.c]
def JN:List Wpl.Cl->List vW
 | []=>[]
 | x::r=>clX x++JN r
theorem zAg:∀ A:List Wpl.Cl,(JN A).length=A.length * 3
 | []=>rfl
 | x::r=>by simp [JN,zAg r,clX];omega
theorem zDy:∀ (A C:List Wpl.Cl),JN (A++C)=JN A++JN C
 | [],C=>rfl
 | x::r,C=>by simp [JN,zDy r C]
theorem zCS:∀ (A:List Wpl.Cl) (i:Nat) (h:i<A.length) (c:Nat),c<3->(JN A)[i * 3+c]? = (clX (A[i]))[c]?
 | [],i,h,c,hc=>absurd h (cY _)
 | x::r,0,h,c,hc=>by
  show (clX x++JN r)[0 * 3+c]? = _
  rw [Nat.zero_mul,nZ,uZ (by simpa [clX] using hc)];rfl
 | x::r,i+1,h,c,hc=>by
  show (clX x++JN r)[(i+1) * 3+c]? = _
  rw [sZ (by simp [clX];omega),show (i+1) * 3+c - (clX x).length=i * 3+c from by simp [clX];omega,zCS r i (by simpa using h) c hc];rfl
theorem zPL (x:Wpl.Cl):∀ u ∈ clX x,u.oneCell'=true:=λu h=>by
 simp [clX] at h;rcases h with h | h | h <;> (subst h;rfl)
theorem zR2:∀ (l:List Wpl.Cl),∀ u ∈ JN l,u.oneCell'=true
 | [],u,hu=>by cases hu
 | y::r,u,hu=>by
  rcases List.mem_append.1 hu with q | q
  ·exact zPL y u q
  ·exact zR2 r u q
theorem zDg (a b:Wpl.Cl):ltOf Wb.cmpC a b=Wb.ltC a b:=Wb.cmpC_lt a b
theorem zR8:SWO (ltOf Wb.cmpC):=⟨λx=>by rw [zDg,Wb.ltC_no];omega,λx y z a c=>by rw [zDg,Wb.ltC_iff] at *;omega,λx y z a c=>by rw [zDg,Wb.ltC_no] at *;omega⟩
abbrev inX:Inhabited Wpl.Cl:=⟨⟨0,0,0⟩⟩
theorem zL1 (blk a size:Nat) (w:wW):@CmpLays Wpl.Cl inX prog 29 #[] clX 3 Wb.cmpC blk a size w:=λm f dk _ x y=>by
 refine (zN9 x.s x.r x.c y.s y.r y.c _).mono ?_;rintro en g ⟨e,d⟩;exact ⟨e,d.grow⟩
theorem zPm (l:List Wpl.Cl):(@flatK Wpl.Cl inX clX 3 l.toArray).toList=JN l:=by
 letI:Inhabited Wpl.Cl:=inX
 apply List.ext_getElem?
 intro t;by_cases h:t<l.length * 3
 ·have c:t / 3<l.length:=oM;have q:=zCS l (t / 3) c (t % 3) oM;rw [show t / 3 * 3+t % 3=t from by omega] at q;rw [q];have e:(l.toArray)[t / 3]! = l[t / 3]:=by simp [c]
  have a:t % 3<(clX (l[t / 3])).length:=by simp [clX];omega
  rw [Array.getElem?_toList];simp only [flatK,Array.getElem?_map,List.size_toArray,Array.getElem?_range,h,if_true,Option.map_some];rw [e,vZ a];congr 1
  rw [List.getElem!_eq_getElem?_getD,vZ a];rfl
 ·rw [mZ (by simp [size_flatK];omega),mZ (by rw [zAg];omega)]
theorem zCA (l:List Wpl.Cl) (j:Nat) (a:j<l.length * 3):(JN l)[j]? = some ((@flatK Wpl.Cl inX clX 3 l.toArray)[j]!):=by
 rw [<-zPm,Array.getElem?_toList];have:j<(@flatK Wpl.Cl inX clX 3 l.toArray).size:=by simp [size_flatK];omega
 rw [getElem!_pos (@flatK Wpl.Cl inX clX 3 l.toArray) j this,Array.getElem?_eq_getElem this]
def SfP (l:List Wpl.Cl) (g:Nat) (w:wW) (en:Ending) (w':wW):Prop:=en=rX (uX #[])/\(∀ j u,(JN (Wb.srt l))[j]? = some u->w'.cell? ⟨g,j,none⟩=some u)/\w.grownBy w' (some g)
theorem zHT (g n cap B:Nat) (l:List Wpl.Cl) (w:wW) (h:w.ownsRow B 36 3 (U (some ⟨g,0,none⟩) n cap) n (JN l)) (W:l.length=n) (t:True->n<=1000000000) :
  cW prog 28 #[U (some ⟨g,0,none⟩) n cap,.func (.func 29) #[] #[]] w (SfP l g w):=by
 have t:=t trivial;subst W;have d:=(QM h rfl).2;have s:@HoldsK Wpl.Cl inX clX 3 w g 0 l.toArray:=λj R=>by
  have a:j<l.length * 3:=by simpa [size_flatK] using R
  have e:=zCA l j a;have z:=h.cells (g:=g) rfl j _ e;rw [show (⟨g,0,none⟩:Addr).add j=⟨g,0+j,none⟩ from by simp [Addr.add];intro h;omega] at z;refine ⟨z,?_⟩;rcases h.2 with ⟨e,_⟩ | ⟨g',q,H,e,_,Q,_⟩
  ·cases e
  ·simp only [U.injEq,Option.some.injEq,Addr.mk.injEq] at e;obtain ⟨⟨rfl,_⟩,_⟩:=e;simp [World.frozen?,Q]
 have I:∀ args w,(callFunc 29 args).run prog w=.ok (.enter 29 args) w:=enters_of func29 kR rfl;have c:=@AnyQ.slices_SortFunc_total prog zFt Wpl.Cl inX zRU 3 Tryz.isAgg36 Tryz.sizeOf36 clX (λ_=>rfl) zPL Wb.cmpC zR8 29 #[] g 0 cap l.toArray w I (zL1 g 0 l.length w) s d (by simp;omega) (λx y L N=>by rw [zDg] at *;exact Wb.ltC_eq L N);change cW prog 28 _ _ _ at c
 refine c.mono ?_;rintro en w' ⟨P,m,G,p⟩;have K:(l.toArray.toList.mergeSort λx y=>!(ltOf Wb.cmpC) y x)=Wb.srt l:=by
  unfold Wb.srt;congr 1
  funext x y
  rw [zDg];rfl
 rw [K] at p;have X:(Wb.srt l).toArray.size=l.toArray.size:=by simp [Wb.srt_len]
 have f:@HoldsK Wpl.Cl inX clX 3 w' g 0 (Wb.srt l).toArray:=by
  rw [p];exact @holdsK_grow Wpl.Cl inX clX 3 _ G g 0 _ (by simpa [putRowK] using d) (@holdsK_putRowK Wpl.Cl inX clX 3 _ g 0 _ _ (@holdsK_ahead Wpl.Cl inX clX 3 w m g 0 _ s) X)
 refine ⟨P,λj u A=>?_,?_⟩
 ·have a:j<(Wb.srt l).length * 3:=by rw [<-zAg];exact (List.getElem?_eq_some_iff.1 A).1
  have e:=zCA (Wb.srt l) j a;rw [A] at e;have:=(f j (by simp only [size_flatK];simpa using a)).1;rw [nZ] at this;rw [this];exact e.symm
 ·rw [p];refine ⟨rfl,rfl,rfl,by simp [sortWorldK,putRowK,grow,Sort.ahead],λk T o=>?_⟩;have i:g ≠ k:=λe=>o (by rw [e])
  letI:Inhabited Wpl.Cl:=inX
  show (grow (putRowK clX 3 (Sort.ahead w m) g 0 (Wb.srt l).toArray) G).heap[k]? = _
  rw [heap_grow_old _ _ (by simpa [putRowK] using T)];simp [putRowK,putRow,mapBlock,Sort.ahead,Array.getElem?_modify,i]
