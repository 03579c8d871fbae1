/- Lemmas. -/
import Derived.Test.YtloponhikiddmaaGreatDoorQ10
set_option maxHeartbeats 3200000
set_option maxRecDepth 100000
set_option linter.unusedVariables false
open List renaming length_append->bZ,length_cons->cZ,length_nil->dZ,length_map->eZ,map_cons->gZ,getElem_map->jZ,append_assoc->mZ,map_toArray->nZ,mem_cons_self->oZ,map_nil->qZ,mem_cons_of_mem->tZ,getElem_mem->uZ,sum_cons->vZ,filter_map->xZ,take_of_length_le->zZ,length_filter_le->bY,map_map->dY,range->eY
open Or renaming inr->fZ,inl->kZ
open Go.RowKit.Below renaming refl->hZ
open Go.Result renaming andThen_ok->iZ
open Go.Sem renaming run_bind->rZ,run_pure->sZ
open Nat renaming zero_add->wZ,le_refl->yZ,lt_of_lt_of_le->cY
open Go renaming World->wW,Value->vW,Calls->cW,Addr->dW
open Go.RowKit renaming Hid->hH
open Go.Value renaming int->O,slice->U,string->V,pointer->pX,agg->gX,tuple->uX
open Go.IntKind renaming i64->J
open Go.Obj renaming cells->Z
open Go.Ending renaming returned->rX
open Go.Operand renaming tmp->mX
namespace Go.Proofs.YtloponhikiddmaaGreatDoor
open Tryz
variable {w:wW} {op:Oper} {a:Act} {x:Wt.Nd} {k B:Nat} {ops:Array Oper} {rest:List Oper} {Q:Exit->Act->wW->Prop} {sl:vW}
open Go.RowKit Wf
theorem Jb {T:Nat->Nat} {c d:vW} {L:List I} {lv:vW} {P:List (Wc.In × vW)} (h:WS k B T w c d L lv P):w.rangeAt k 0 [c,d]:=λj v b=>by
 have:=h.at'.2.1 j v (by
  match j,b with
  | 0,b=>exact b
  | 1,b=>exact b
  | j+2,b=>simp at b)
 rw [wZ];exact this
theorem zId (y:Operand) (c:op.op=.build 87 #[(0,.const (O J 8)),(5,y)]) (b:Wpl.Ar) (e:a.eval y=gX (ar5 b).toArray) (W:wW):(execOp a.eval op).run prog W=.ok (.value (gX (QF (Jr 8 0 b a0I).1 QO).toArray)) W:=by
 unfold execOp;have d:a.eval (.const (O J 8))=O J 8:=rfl;simp only [c,nZ,gZ,qZ,d,e,rZ,sZ,iZ,zR4]
section
variable (own:Int) (nm:List ByteArray) (av2:Option dW) (m2 cap2:Nat)
def Wq (n:Nat) (t:Tr n):Prop:=Jw n t/\Jv own nm n t=0
def VW (n:Nat) (id:Int) (l:List (Tr n)) (a:Nat):List I:=ins 6 id 0::(Qb (Jz own nm (hd n) (cod own nm n)) l (a+1)++[ins 10 0 0])
def FoC (n:Nat):Prop:=∀ (id:Int) (b:List (Tr n × vW)) (c:Option dW) (m cap lo d k B:Nat) (T:Nat->Nat) (w:wW) (L:List I) (lv:vW) (P:List (Wc.In × vW)),m=b.length->b.length<=30->(∀ p ∈ b,Wq own nm n p.1)->(∀ p ∈ b,PA n lo d w p.1 p.2)->RdQ w c (b.map λp=>(hd n p.1,p.2))->(∀ bb off,c=some ⟨bb,off,none⟩->bb<d)->En own nm av2 m2 cap2 k B T d w->WS k B T w (O J own) (U av2 m2 cap2) L lv P->L.length+(VW own nm n id (b.map (·.1)) L.length).length<=900000 ->
 cW prog 154 #[pX (some ⟨k,0,none⟩),O J id,U c m cap] w (WP k B T (O J own) (U av2 m2 cap2) (L++VW own nm n id (b.map (·.1)) L.length) lv w)
end
theorem zMp (own:Int) (nm:List ByteArray) (av2:Option dW) (m2 cap2 n:Nat) (ih:PtC own nm av2 m2 cap2 n):FoC own nm av2 m2 cap2 n:=by
 intro id c av m cap lo hi k B T w L lv P hm hl aW aj aU aP p ae aQ;have fd:=zHa own nm av2 m2 cap2 n ih;have aL:∀ j,lv.ownBlock=some j->B<=j:=λj e=>(QM ae.own e).1
 have aM:L++VW own nm n id (c.map (·.1)) L.length=((L++[ins 6 id 0])++Qb (Jz own nm (hd n) (cod own nm n)) (c.map (·.1)) (L.length+1))++[ins 10 0 0]:=by simp [VW]
 have ai:L.length+1+(Qb (Jz own nm (hd n) (cod own nm n)) (c.map (·.1)) (L.length+1)).length<=900000:=by
  simp only [VW,cZ,bZ] at aQ;omega
 rw [aM];have LA:=Qy k B T (ins 6 id 0).1 _ _ L lv P w ae p.kB p.hB oM;have af:=hid (St.init p ae);have HM:hH (m=c.length/\c.length<=30):=⟨hm,hl⟩
 have bd:=hid aW;have ba:=hid aj;have bc:=hid aU;have a7:=hid aP;have HK:hH (hi<=k/\k<B/\∀ j,lv.ownBlock=some j->B<=j):=⟨p.hk,p.kB,aL⟩
 have a9:=hid fd;have al:=hid ai;have aF:hH (m2=nm.length/\nm.length<=16):=⟨p.hm,p.hl⟩
 clear hm hl aW aj aU aP p ae aQ ih fd aL aM ai;go_enter func154,ntmps154;go_wp2_with (first | (refine zAU rfl 6 (mX 9) rfl id rfl ?_))
 refine LA.mono ?_;rintro e w1 ⟨⟨aX,P1,rfl,a5,aZ⟩,aJ⟩;have ag:hH (St own nm av2 m2 cap2 k B T hi w lv w1 (L++[ins 6 id 0]) aX P1):=af.out.step aJ aZ a5;clear LA a5 aZ aJ af;go_wp2_with fail
 go_loopg [7,14] m (λgk u x wr=>∃ (i:Nat),x=O J (i:Int)/\gk=m - i/\i<=m/\hH (∃ d E,St own nm av2 m2 cap2 k B T hi w lv wr ((L++[ins 6 id 0])++Qb (Jz own nm (hd n) (cod own nm n)) ((c.map (·.1)).take i) (L.length+1)) d E))
 case atStart=>exact ⟨0,rfl,rfl,Nat.zero_le _,⟨aX,P1,by simpa [Qb] using ag.out⟩⟩
 case round =>
  clear ag;obtain ⟨i,rfl,hg,bh,HS⟩:=hrel;by_cases aT:i<m
  ·have bf:(i:Int)<(m:Int):=oM;have bi:(0:Int)<=(i:Int):=oM;have bj:J.wrap ((i:Int)+1)=(i:Int)+1:=by have:=HM.out;rw [IntKind.wrap_i64];omega
   have ab:i<c.length:=by have:=HM.out;omega
   obtain ⟨d,E,A⟩:=HS.out;obtain ⟨bb,a1,rfl,az⟩:=bc.out i (by simpa using ab);simp only [jZ] at az;have aR:bb ∉ k::lv.ownBlock.toList:=λhm=>by
    have:=a7.out bb a1 rfl;have h9:=HK.out;rcases List.mem_cons.1 hm with q | q
    ·omega
    ·have:=h9.2.2 bb (by simpa using q);omega
   have hr:=A.fr.range az aR;have ax:=uZ ab;have aw:=PA.kept (A.kept HK.out.2.2) n _ _ (ba.out _ ax);obtain ⟨F,G,H,aA⟩:=aw.slice;have l:=zB7 (Jz own nm (hd n) (cod own nm n)) (c.map (·.1)) i (by simpa using ab) (L.length+1);have aa:=zEd (Jz own nm (hd n) (cod own nm n)) (c.map (·.1)) (i+1) (L.length+1);rw [l,bZ,jZ] at aa;rw [jZ] at l;obtain ⟨D,X⟩:=xV ((L++[ins 6 id 0])++Qb (Jz own nm (hd n) (cod own nm n)) ((c.map (·.1)).take i) (L.length+1))
   have aq:L.length+1+(Qb (Jz own nm (hd n) (cod own nm n)) ((c.map (·.1)).take i) (L.length+1)).length=D.length:=by rw [<-X];simp;omega
   have ap:hH ((L++[ins 6 id 0])++Qb (Jz own nm (hd n) (cod own nm n)) ((c.map (·.1)).take (i+1)) (L.length+1)=D++Jz own nm (hd n) (cod own nm n) (c[i]).1 D.length):=by show _=_;rw [l,<-mZ,X,aq]
   rw [aq] at aa;rw [X] at A;have ad:=bd.out _ ax;have a8:hH (D.length<=1000000):=by have:=al.out;show _<=_;omega
   have am:hH (isA (hd n (c[i]).1)=false->∀ (W:wW),bL wr W->cW prog 183 #[pX (some ⟨k,0,none⟩),gX (QP (hd n (c[i]).1) (U F G H)).toArray] W (WP k B T (O J own) (U av2 m2 cap2) (D++Jz own nm (hd n) (cod own nm n) (c[i]).1 D.length) d W)):=λg W hb=>by
    have he:Jz own nm (hd n) (cod own nm n) (c[i]).1 D.length=JE (cod own nm n) (c[i]).1 D.length:=by unfold Jz;rw [g];rfl
    rw [he] at aa ⊢;have:=a9.out (c[i]).1 (c[i]).2 lo hi k B T W D d E ⟨ad.1,ad.2,g⟩ (PA.kept (Kept.of_below hb) n _ _ aw) (A.en.below hb) (A.ws.below hb) (by have:=al.out;omega);rw [aA] at this;exact this
   have ak:hH (isA (hd n (c[i]).1)=true->Jz own nm (hd n) (cod own nm n) (c[i]).1 D.length=[Jr 8 0 (Qh own nm (hd n (c[i]).1)) a0I]/\RtN (hd n (c[i]).1)):=λg=>by
    refine ⟨by unfold Jz;rw [g];rfl,zCn (zEk ad.1) (by simpa [isA] using g)⟩
   rw [aA] at hr;have IA:=λW=>zAR (hd n (c[i]).1) (U F G H) W
   generalize Jz own nm (hd n) (cod own nm n) (c[i]).1 D.length=ac at *;generalize hd n (c[i]).1=y at *;have f:=hid A;clear l aa aA aw az aR ax ab A HS X aq ad;have aV:World.there (wr.alloc (Z zeros21 159)) wr.heap.size 0 (QP y (U F G H)).toArray.size:=(AtL.new0 wr _ _:AtL (wr.alloc (Z zeros21 159)) wr.heap.size zeros21.toList).there;have an:hH (AtL ((wr.alloc (Z zeros21 159)).setCells wr.heap.size 0 (QP y (U F G H))) wr.heap.size (QP y (U F G H))):=(AtL.new0 wr _ _:AtL (wr.alloc (Z zeros21 159)) wr.heap.size zeros21.toList).setAll rfl;have I:hH (bL wr ((wr.alloc (Z zeros21 159)).setCells wr.heap.size 0 (QP y (U F G H)))):=Qm (QJ (hZ _ wr) _) (yZ _) _ 0;go_upto_region 4 with (first | (refine QB (by rfl) 159 (mX 16) rfl bb (a1+i * 21) rfl (QP y (U F G H)) _ hr underlying159 rfl kR ?_) | ((with_reducible refine wpList_store_mid ?_ 159 (mX 7) (mX 17) ?_ wr.heap.size 0 (QP y (U F G H)).toArray ?_ ?_ ?_ ?_ ?_ ?_);rfl;rfl;rfl;rfl;exact aV;kernel_rfl;exact Qt _ _ _ _))
   clear aV hr;generalize ((wr.alloc (Z zeros21 159)).setCells wr.heap.size 0 (QP y (U F G H)))=W2 at *;have rI:=an.out.range;have aD:hH (k<wr.heap.size):=by have:=f.out.en.kB;have:=f.out.en.hB;show _<_;omega
   have aE:hH (¬ d.ownBlock=some wr.heap.size):=λe=>by have:=(QM f.out.ws.own e).2;omega
   have t:=IA W2;clear IA;cases g:isA y with
   | false =>
    rw [g] at t;have FE:=am.out g;go_wp2_with (first | (refine QB (by rfl) 159 (mX 7) rfl wr.heap.size 0 rfl (QP y (U F G H)) _ rI underlying159 rfl kR ?_))
    refine t.mono ?_;rintro e w3 ⟨rfl,o⟩;have a2:=QG o rI;have aB:=FE w3 (QA I.out o);have aC:=hid (QA I.out o);clear FE t rI o I an am ak;go_wp2_with (first | (refine QB (by rfl) 159 (mX 7) rfl wr.heap.size 0 rfl (QP y (U F G H)) _ a2 underlying159 rfl kR ?_))
    refine aB.mono ?_;rintro e w4 ⟨⟨bg,P4,rfl,a6,a0⟩,aK⟩;have ao:hH (∃ d E,St own nm av2 m2 cap2 k B T hi w lv w4 ((L++[ins 6 id 0])++Qb (Jz own nm (hd n) (cod own nm n)) ((c.map (·.1)).take (i+1)) (L.length+1)) d E):=⟨bg,P4,by rw [ap.out];exact (f.out.below aC.out).step aK a0 a6⟩
    clear aB a2 a6 a0 aK aC f;go_wp2_with fail
    go_roundg (m - (i+1))
    case rel=>exact ⟨i+1,sM,rfl,aT,ao⟩
    case measure=>omega
   | true =>
    rw [g] at t;obtain ⟨aN,aO⟩:=ak.out g;rw [aN] at ap;have AR:=λ(W:wW) (h:RdS W av2 nm)=>zCX own nm av2 m2 cap2 y W aO aF.out.1 aF.out.2 h
    go_wp2_with (first | (refine QB (by rfl) 159 (mX 7) rfl wr.heap.size 0 rfl (QP y (U F G H)) _ rI underlying159 rfl kR ?_))
    refine t.mono ?_;rintro e w3 ⟨rfl,o⟩;have ah:=QA I.out o;have aH:=hid (f.out.below ah);have ry:=zBB (QG o rI);clear t rI o ah I an am ak aN aO f;go_upto_region 5 with fail
    have aS:=(hZ w3.heap.size w3).drew;have R:=hid (aH.out.below aS);have rk:=Jb R.out.ws;replace ry:w3.drew.rangeAt wr.heap.size 0 (QN y):=ry
    clear aS aH;obtain ⟨ib,au⟩:∃ b,wr.heap.size=b:=⟨_,rfl⟩
    rw [au] at ry aD aE;simp only [au];clear au;refine wp_region_held_drew (S:=λW=>W.rangeAt k 0 [O J own,U av2 m2 cap2]/\W.rangeAt ib 0 (QN y)) kR ⟨rk,ry⟩ (λs=>?_);generalize w3.drew=WD at *;refine tkQ 0 ?_
    refine tkQ 1 ?_
    refine tkQ 2 ?_
    refine tkQ 3 ?_
    refine wpAnyH_take (i:=4) (v:=gX ([O J own,U av2 m2 cap2]).toArray) (atQ rfl) kR kR kR (λ_ _ _ h=>h) (yieldsIf_load_mid (by rfl) 155 (mX 23) rfl (k) (0) rfl ([O J own,U av2 m2 cap2]) _ (λ_ h=>h.1) underlying155 rfl kR) (by assumption) ?_;try simp only [Act.put,lA,lZ,lS]
    refine tkQ 5 ?_
    refine wpAnyH_take (i:=6) (v:=gX (QN y).toArray) (atQ rfl) kR kR kR (λ_ _ _ h=>h) (yieldsIf_load_mid (by rfl) 98 (mX 25) rfl (ib) (0) rfl (QN y) _ (λ_ h=>h.2) underlying98 rfl kR) (by assumption) ?_;try simp only [Act.put,lA,lZ,lS]
    refine rdQ 7 (λK hK=>?_);go_simp
    refine (AR WD R.out.en.rs).mono ?_;rintro e w4 ⟨rfl,ar⟩;go_wp2_with fail
    have M:=hid (R.out.below ar);replace rk:=QG ar rk
    replace ry:=QG ar ry
    refine hkQ hK ⟨rk,ry⟩ (λs=>?_);clear hK K
    generalize Qh own nm y=ay at *;refine wpAnyH_take (i:=8) (v:=gX (QF (Jr 8 0 ay a0I).1 QO).toArray) (atQ rfl) kR kR kR (λ_ _ _ h=>h) (kZ ⟨by rfl,λW _=>zId (mX 27) rfl ay rfl W⟩) (by assumption) ?_;try simp only [Act.put,lA,lZ,lS]
    have LA:=Qy k B T (Jr 8 0 ay a0I).1 _ _ D d E w4 M.out.ws M.out.en.kB M.out.en.hB a8.out;refine rdQ 9 (λK hK=>?_);go_simp
    refine LA.mono ?_;rintro e w5 ⟨⟨aY,P5,rfl,C,N⟩,z⟩;go_wp2_with fail
    have aI:=hid (M.out.step z N C);have a3:=Jb C;have a4:=z.range ry (λhm=>by
     rcases List.mem_cons.1 hm with q | q
     ·have:=aD.out;omega
     ·exact aE.out (by simpa using q))
    refine hkQ hK ⟨a3,a4⟩ (λs=>?_);clear hK K
    refine wpAnyH_done kR ?_ _;have ao:hH (∃ d E,St own nm av2 m2 cap2 k B T hi w lv w5 ((L++[ins 6 id 0])++Qb (Jz own nm (hd n) (cod own nm n)) ((c.map (·.1)).take (i+1)) (L.length+1)) d E):=⟨aY,P5,by rw [ap.out];exact aI.out⟩
    clear s rk ry a3 a4 C N z aI M R LA AR;go_wp2_with fail
    go_roundg (m - (i+1))
    case rel=>exact ⟨i+1,sM,rfl,aT,ao⟩
    case measure=>omega
  ·have bf:¬ (i:Int)<(m:Int):=oM;have aG:hH (∃ d E,St own nm av2 m2 cap2 k B T hi w lv wr ((L++[ins 6 id 0])++Qb (Jz own nm (hd n) (cod own nm n)) (c.map (·.1)) (L.length+1)) d E):=by
    have be:(c.map (·.1)).length<=i:=by have:=HM.out;simp;omega
    have:=HS.out;rw [zZ be] at this;exact this
   obtain ⟨d,E,A⟩:=aG.out;have LA:=Qy k B T (ins 10 0 0).1 _ _ _ d E wr A.ws A.en.kB A.en.hB (by have:=al.out;simp only [bZ,cZ,dZ];omega);have f:=hid A;clear HS aG A;go_wp2_with (first | (refine Qo rfl 10 rfl ?_))
   refine LA.mono ?_;rintro e w5 ⟨⟨aY,P5,rfl,C,N⟩,z⟩;have HR:=hid ((f.out.step z N C).wp);clear LA C N z f;go_wp2;go_end0
   exact HR.out
open Go.RowKit Wf
theorem zEv (b:op.guard=none) (y:Operand) (e:op.op=.build 87 #[(0,.const (O J 8)),(5,y)]) (c:Wpl.Ar) (g:a.eval y=gX (ar5 c).toArray)
  (h:wpList prog ops Q rest (a.put op.dst (gX (QF (Jr 8 0 c a0I).1 QO).toArray)) w):wpList prog ops Q (op::rest) a w:=by
 refine wpList_plain b λK d=>?_
 unfold Oper.wp execOp;have f:a.eval (.const (O J 8))=O J 8:=rfl;simp only [e,nZ,gZ,qZ,f,g,rZ,sZ,iZ,zR4];exact d _ _ h
theorem zEa (b:op.guard=none) (y z:Operand) (f:op.op=.build 87 #[(0,.const (O J 9)),(5,y),(6,z)]) (c d:Wpl.Ar) (i:a.eval y=gX (ar5 c).toArray) (j:a.eval z=gX (ar5 d).toArray)
  (h:wpList prog ops Q rest (a.put op.dst (gX (QF (Jr 9 0 c d).1 QO).toArray)) w):wpList prog ops Q (op::rest) a w:=by
 refine wpList_plain b λK e=>?_
 unfold Oper.wp execOp;have g:a.eval (.const (O J 9))=O J 9:=rfl;simp only [f,nZ,gZ,qZ,g,i,j,rZ,sZ,iZ,zRy];exact e _ _ h
theorem zES (c:op.guard=none) (y z:Operand) (f:op.op=.build 87 #[(0,.const (O J 11)),(5,y),(2,z)]) (d:Wpl.Ar) (b:Int) (i:a.eval y=gX (ar5 d).toArray) (j:a.eval z=O J b)
  (h:wpList prog ops Q rest (a.put op.dst (gX (QF (Jr 11 b d a0I).1 QO).toArray)) w):wpList prog ops Q (op::rest) a w:=by
 refine wpList_plain c λK e=>?_
 unfold Oper.wp execOp;have g:a.eval (.const (O J 11))=O J 11:=rfl;simp only [f,nZ,gZ,qZ,g,i,j,rZ,sZ,iZ,zRv];exact e _ _ h
section
variable (own:Int) (nm:List ByteArray) (av2:Option dW) (m2 cap2:Nat)
def VX (n:Nat) (id:Int) (b c:Wpl.Ar) (l:List (Tr n)) (a:Nat):List I:=ins 6 id 0::(Qb (JE (cod own nm n)) l (a+1)++[if Wc.pairs id then Jr 9 0 b c else Jr 8 0 b a0I,ins 10 0 0])
def SrC (n:Nat):Prop:=∀ (id:Int) (d e:Wpl.Ar) (b:List (Tr n × vW)) (c:Option dW) (m cap lo f k B:Nat) (T:Nat->Nat) (w:wW) (L:List I) (lv:vW) (P:List (Wc.In × vW)),m=b.length->b.length<=30->(∀ p ∈ b,Wr own nm n p.1)->(∀ p ∈ b,PA n lo f w p.1 p.2)->RdQ w c (b.map λp=>(hd n p.1,p.2))->(∀ bb off,c=some ⟨bb,off,none⟩->∀ j,lv.ownBlock=some j->bb ≠ j)->(∀ bb off,c=some ⟨bb,off,none⟩->bb ≠ k/\bb<w.heap.size)->En own nm av2 m2 cap2 k B T f w->WS k B T w (O J own) (U av2 m2 cap2) L lv P->L.length+(VX own nm n id d e (b.map (·.1)) L.length).length<=900000 ->
 cW prog 186 #[pX (some ⟨k,0,none⟩),O J id,gX (ar5 d).toArray,gX (ar5 e).toArray,U c m cap] w (WP k B T (O J own) (U av2 m2 cap2) (L++VX own nm n id d e (b.map (·.1)) L.length) lv w)
end
theorem zJ5 (own:Int) (nm:List ByteArray) (av2:Option dW) (m2 cap2 n:Nat) (ih:PtC own nm av2 m2 cap2 n):SrC own nm av2 m2 cap2 n:=by
 intro id o A d av m cap lo hi k B T w L lv P hm hl aM ah aJ aH af s au aI;have fd:=zHa own nm av2 m2 cap2 n ih;have aa:∀ j,lv.ownBlock=some j->B<=j/\j<w.heap.size:=λj e=>QM au.own e
 obtain ⟨sc,ar⟩:=xV (if Wc.pairs id then Jr 9 0 o A else Jr 8 0 o a0I)
 have aG:L++VX own nm n id o A (d.map (·.1)) L.length=(((L++[ins 6 id 0])++Qb (JE (cod own nm n)) (d.map (·.1)) (L.length+1))++[sc])++[ins 10 0 0]:=by simp [VX,ar]
 have ag:L.length+3+(Qb (JE (cod own nm n)) (d.map (·.1)) (L.length+1)).length<=900000:=by
  simp only [VX,cZ,bZ,dZ] at aI;omega
 rw [aG];have z:=QJ (QJ (hZ _ w) (Z (ar5 o).toArray 84)) (Z (ar5 A).toArray 84);have pF:=(AtL.new0 w 84 (ar5 o)).alloc (Z (ar5 A).toArray 84);have pL:=AtL.new1 w (Z (ar5 o).toArray 84) 84 (ar5 A);have aQ:=St.init (s.below z) (au.below z);have l:=hid aQ;have ax:hH (AtL ((w.alloc (Z (ar5 o).toArray 84)).alloc (Z (ar5 A).toArray 84)) w.heap.size (ar5 o)/\AtL ((w.alloc (Z (ar5 o).toArray 84)).alloc (Z (ar5 A).toArray 84)) (w.heap.size+1) (ar5 A)):=⟨pF,pL⟩
 have HM:hH (m=d.length/\d.length<=30):=⟨hm,hl⟩
 have aY:=hid aM;have aV:hH (∀ p ∈ d,PA n lo hi ((w.alloc (Z (ar5 o).toArray 84)).alloc (Z (ar5 A).toArray 84)) p.1 p.2):=λp hp=>PA.kept (Kept.of_below z) n _ _ (ah p hp)
 have aW:=hid (aJ.below z);have aT:hH (∀ X v,av=some ⟨X,v,none⟩->X ∉ k::lv.ownBlock.toList):=λX v e H=>by
  rcases List.mem_cons.1 H with q | q
  ·exact (af X v e).1 q
  ·exact aH X v e X (by simpa using q) rfl
 have HK:hH (hi<=k/\k<B/\(∀ j,lv.ownBlock=some j->B<=j)/\w.heap.size ∉ k::lv.ownBlock.toList/\w.heap.size+1 ∉ k::lv.ownBlock.toList):=⟨s.hk,s.kB,λj e=>(aa j e).1,λH=>by
  have:=s.kB;have:=s.hB;rcases List.mem_cons.1 H with q | q
  ·omega
  ·have:=(aa w.heap.size (by simpa using q)).2;omega,λH=>by
  have:=s.kB;have:=s.hB;rcases List.mem_cons.1 H with q | q
  ·omega
  ·have:=(aa (w.heap.size+1) (by simpa using q)).2;omega⟩
 have aU:=hid fd;have aj:=hid ag;have aw:=hid z;have PR:=λW=>zA4 id W
 have aC:=hid ar;clear hm hl aM ah aJ aH af s au aI ih fd aa aG ag z pF pL aQ ar;go_enter func186,ntmps186;go_upto_region 1 with fail
 generalize ((w.alloc (Z (ar5 o).toArray 84)).alloc (Z (ar5 A).toArray 84))=W at *;have LA:=Qy k B T (ins 6 id 0).1 _ _ L lv P W l.out.ws l.out.en.kB l.out.en.hB (by have:=aj.out;omega);go_wp2_with (first | (refine zAU rfl 6 (mX 13) rfl id rfl ?_))
 refine LA.mono ?_;rintro e w1 ⟨⟨aN,P1,rfl,aR,aO⟩,aE⟩;have ae:hH (St own nm av2 m2 cap2 k B T hi W lv w1 (L++[ins 6 id 0]) aN P1):=l.out.step aE aO aR;clear LA aR aO aE l;go_wp2_with fail
 go_loopg [11,18] m (λgk u x wr=>∃ (i:Nat),x=O J (i:Int)/\gk=m - i/\i<=m/\hH (∃ f S,St own nm av2 m2 cap2 k B T hi W lv wr ((L++[ins 6 id 0])++Qb (JE (cod own nm n)) ((d.map (·.1)).take i) (L.length+1)) f S))
 case atStart=>exact ⟨0,rfl,rfl,Nat.zero_le _,⟨aN,P1,by simpa [Qb] using ae.out⟩⟩
 case round =>
  clear ae;obtain ⟨i,rfl,hg,a6,HS⟩:=hrel;by_cases a3:i<m
  ·have a0:(i:Int)<(m:Int):=oM;have a7:(0:Int)<=(i:Int):=oM;have a8:J.wrap ((i:Int)+1)=(i:Int)+1:=by have:=HM.out;rw [IntKind.wrap_i64];omega
   have ad:i<d.length:=by have:=HM.out;omega
   obtain ⟨f,S,C⟩:=HS.out;obtain ⟨X,v,rfl,aq⟩:=aW.out i (by simpa using ad);simp only [jZ] at aq;have hr:=C.fr.range aq (aT.out X v rfl);have ap:=uZ ad;have ao:=PA.kept (C.kept HK.out.2.2.1) n _ _ (aV.out _ ap);obtain ⟨sa,sb,t,aK⟩:=ao.slice;have g:=zB7 (JE (cod own nm n)) (d.map (·.1)) i (by simpa using ad) (L.length+1);have an:=zEd (JE (cod own nm n)) (d.map (·.1)) (i+1) (L.length+1);rw [g,bZ,jZ] at an;rw [jZ] at g;obtain ⟨Li,ab⟩:=xV ((L++[ins 6 id 0])++Qb (JE (cod own nm n)) ((d.map (·.1)).take i) (L.length+1))
   have al:L.length+1+(Qb (JE (cod own nm n)) ((d.map (·.1)).take i) (L.length+1)).length=Li.length:=by rw [<-ab];simp;omega
   have aD:hH ((L++[ins 6 id 0])++Qb (JE (cod own nm n)) ((d.map (·.1)).take (i+1)) (L.length+1)=Li++JE (cod own nm n) (d[i]).1 Li.length):=by show _=_;rw [g,<-mZ,ab,al]
   rw [al] at an;rw [ab] at C;have ai:=λ(W2:wW) (hb:bL wr W2)=>aU.out (d[i]).1 (d[i]).2 lo hi k B T W2 Li f S (aY.out _ ap) (PA.kept (Kept.of_below hb) n _ _ ao) (C.en.below hb) (C.ws.below hb) (by have:=aj.out;omega)
   rw [aK] at hr ai;generalize JE (cod own nm n) (d[i]).1 Li.length=ac at *;generalize hd n (d[i]).1=y at *;have b:=hid C;clear g an aK ao aq ap ad C HS ab al;have aL:World.there (wr.alloc (Z zeros21 159)) wr.heap.size 0 (QP y (U sa sb t)).toArray.size:=(AtL.new0 wr _ _:AtL (wr.alloc (Z zeros21 159)) wr.heap.size zeros21.toList).there;have aA:hH (AtL ((wr.alloc (Z zeros21 159)).setCells wr.heap.size 0 (QP y (U sa sb t))) wr.heap.size (QP y (U sa sb t))):=(AtL.new0 wr _ _:AtL (wr.alloc (Z zeros21 159)) wr.heap.size zeros21.toList).setAll rfl;have ak:bL wr ((wr.alloc (Z zeros21 159)).setCells wr.heap.size 0 (QP y (U sa sb t))):=Qm (QJ (hZ _ wr) _) (yZ _) _ 0;have FE:=ai _ ak;have ay:=hid ak;clear ai ak;go_upto_region 5 with (first | (refine QB (by rfl) 159 (mX 20) rfl X (v+i * 21) rfl (QP y (U sa sb t)) _ hr underlying159 rfl kR ?_) | ((with_reducible refine wpList_store_mid ?_ 159 (mX 11) (mX 21) ?_ wr.heap.size 0 (QP y (U sa sb t)).toArray ?_ ?_ ?_ ?_ ?_ ?_);rfl;rfl;rfl;rfl;exact aL;kernel_rfl;exact Qt _ _ _ _))
   clear aL hr;generalize ((wr.alloc (Z zeros21 159)).setCells wr.heap.size 0 (QP y (U sa sb t)))=W2 at *;have rI:=aA.out.range;go_wp2_with (first | (refine QB (by rfl) 159 (mX 11) rfl wr.heap.size 0 rfl (QP y (U sa sb t)) _ rI underlying159 rfl kR ?_))
   refine FE.mono ?_;rintro e w4 ⟨⟨a4,P4,rfl,aS,aP⟩,aF⟩;have aX:hH (∃ f S,St own nm av2 m2 cap2 k B T hi W lv w4 ((L++[ins 6 id 0])++Qb (JE (cod own nm n)) ((d.map (·.1)).take (i+1)) (L.length+1)) f S):=⟨a4,P4,by rw [aD.out];exact (b.out.below ay.out).step aF aP aS⟩
   clear FE rI aS aP aF ay aA b aD;go_wp2_with fail
   go_roundg (m - (i+1))
   case rel=>exact ⟨i+1,sM,rfl,a3,aX⟩
   case measure=>omega
  ·have a0:¬ (i:Int)<(m:Int):=oM;have aB:hH (∃ f S,St own nm av2 m2 cap2 k B T hi W lv wr ((L++[ins 6 id 0])++Qb (JE (cod own nm n)) (d.map (·.1)) (L.length+1)) f S):=by
    have aZ:(d.map (·.1)).length<=i:=by have:=HM.out;simp;omega
    have:=HS.out;rw [zZ aZ] at this;exact this
   obtain ⟨f,S,C⟩:=aB.out;have D:hH (((L++[ins 6 id 0])++Qb (JE (cod own nm n)) (d.map (·.1)) (L.length+1)).length<=900000):=by have:=aj.out;show _<=_;simp only [bZ,cZ,dZ];omega
   obtain ⟨Lw,am⟩:=xV ((L++[ins 6 id 0])++Qb (JE (cod own nm n)) (d.map (·.1)) (L.length+1))
   rw [am] at D C;have az:=hid am;clear am;have b:=hid C;have a1:=(ax.out.1.fr C.fr HK.out.2.2.2.1)
   have a2:=(ax.out.2.fr C.fr HK.out.2.2.2.2)
   obtain ⟨f0,f1,f2,f3,f4,_,_,_,_,_⟩:=a1.five;obtain ⟨g0,g1,g2,g3,g4,_,_,_,_,_⟩:=a2.five;clear HS aB C a1 a2;have PW:=PR wr;cases hp:Wc.pairs id with
   | true =>
    rw [hp] at PW;have E:hH (Jr 9 0 o A=sc):=by have:=aC.out;rw [hp] at this;exact this
    have LB:=Qy k B T (Jr 9 0 o A).1 _ _ Lw f S wr b.out.ws b.out.en.kB b.out.en.hB (by have:=D.out;omega);go_wp2_with fail
    refine PW.mono ?_;rintro e w2 ⟨rfl,rfl⟩;go_wp2_with (first | (refine zEa rfl (mX 29) (mX 30) rfl o A rfl rfl ?_))
    refine LB.mono ?_;rintro e w5 ⟨⟨I,P5,rfl,N,K⟩,F⟩;have c:hH (St own nm av2 m2 cap2 k B T hi W lv w5 (Lw++[sc]) I P5):=by
     have:=b.out.step F K N;rw [<-E.out];exact this
    have LA:=Qy k B T (ins 10 0 0).1 _ _ _ I P5 w5 c.out.ws c.out.en.kB c.out.en.hB (by have:=D.out;simp only [bZ,cZ,dZ];omega);clear LB N K F f0 f1 f2 f3 f4 g0 g1 g2 g3 g4 PW PR;go_wp2_with (first | (refine Qo rfl 10 rfl ?_))
    refine LA.mono ?_;rintro e w6 ⟨⟨a5,P6,rfl,R,M⟩,G⟩;have HR:=hid (((c.out.step G M R).wp).from aw.out);clear LA R M G c b;go_wp2;go_end0
    have hr:=HR.out;rw [<-az.out] at hr;exact hr
   | false =>
    rw [hp] at PW;have E:hH (Jr 8 0 o a0I=sc):=by have:=aC.out;rw [hp] at this;exact this
    have LB:=Qy k B T (Jr 8 0 o a0I).1 _ _ Lw f S wr b.out.ws b.out.en.kB b.out.en.hB (by have:=D.out;omega);go_wp2_with fail
    refine PW.mono ?_;rintro e w2 ⟨rfl,rfl⟩;go_wp2_with (first | (refine zEv rfl (mX 34) rfl o rfl ?_))
    refine LB.mono ?_;rintro e w5 ⟨⟨I,P5,rfl,N,K⟩,F⟩;have c:hH (St own nm av2 m2 cap2 k B T hi W lv w5 (Lw++[sc]) I P5):=by
     have:=b.out.step F K N;rw [<-E.out];exact this
    have LA:=Qy k B T (ins 10 0 0).1 _ _ _ I P5 w5 c.out.ws c.out.en.kB c.out.en.hB (by have:=D.out;simp only [bZ,cZ,dZ];omega);clear LB N K F f0 f1 f2 f3 f4 g0 g1 g2 g3 g4 PW PR;go_wp2_with (first | (refine Qo rfl 10 rfl ?_))
    refine LA.mono ?_;rintro e w6 ⟨⟨a5,P6,rfl,R,M⟩,G⟩;have HR:=hid (((c.out.step G M R).wp).from aw.out);clear LA R M G c b;go_wp2;go_end0
    have hr:=HR.out;rw [<-az.out] at hr;exact hr
open Go.RowKit Wf
section
variable (own:Int) (nm:List ByteArray) (av2:Option dW) (m2 cap2:Nat)
def SkC (n:Nat):Prop:=∀ (id:Int) (b:List (Tr n × vW)) (c:Option dW) (m cap lo d k B:Nat) (T:Nat->Nat) (w:wW) (L:List I) (lv:vW) (P:List (Wc.In × vW)),m=b.length->b.length<=30->(∀ p ∈ b,Wq own nm n p.1)->0<(b.filter λp=>isA (hd n p.1)).length->(∀ p ∈ b,PA n lo d w p.1 p.2)->RdQ w c (b.map λp=>(hd n p.1,p.2))->En own nm av2 m2 cap2 k B T d w->WS k B T w (O J own) (U av2 m2 cap2) L lv P->L.length+(VI own nm (hd n) (cod own nm n) id (b.map (·.1)) L.length).length<=900000 ->
 cW prog 155 #[pX (some ⟨k,0,none⟩),O J id,U c m cap] w (WP k B T (O J own) (U av2 m2 cap2) (L++VI own nm (hd n) (cod own nm n) id (b.map (·.1)) L.length) lv w)
end
theorem zOJ {b:Nat} {v0 c d e f:vW}:Fr [b] w (((((w.setCell ⟨b,0,none⟩ v0).setCell ⟨b,1,none⟩ c).setCell ⟨b,2,none⟩ d).setCell ⟨b,3,none⟩ e).setCell ⟨b,4,none⟩ f):=Qj b [v0,c,d,e,f] 0 w
theorem zFk {n:Nat} (b:List (Tr n × vW)) (q:Wt.Nd->Bool):(b.map λp=>(hd n p.1,p.2)).filter (λp=>q p.1)=(b.filter λp=>q (hd n p.1)).map λp=>(hd n p.1,p.2):=by
 rw [xZ];rfl
theorem OwnP.rdq {v:vW} {A:List (Wt.Nd × vW)} (h:OwnP w B v A):∃ f c,v=U f A.length c/\RdQ w f A/\∀ d b,f=some ⟨d,b,none⟩->B<=d/\d<w.heap.size:=by
 rcases OwnP.cases h with ⟨e,l⟩ | ⟨g,cap,e,m,n,o⟩
 ·subst l;exact ⟨none,0,e,λi j=>absurd j (Nat.not_lt_zero _),λd b e=>by cases e⟩
 ·refine ⟨some ⟨g,0,none⟩,cap,e,λi j=>⟨g,0,rfl,by rw [wZ];exact o i j⟩,λd b e=>by cases e;exact ⟨m,n⟩⟩
theorem zNJ (h:RtN x):(0<=(Jd x).b - (Jd x).t+1/\(Jd x).b - (Jd x).t+1<=65536)/\(0<=(Jd x).r - (Jd x).l+1/\(Jd x).r - (Jd x).l+1<=65536):=by
 obtain ⟨c,d⟩:=h;simp only [Wt.inR,Bool.and_eq_true,decide_eq_true_eq] at c d;simp only [Jd];omega
theorem zOU (own:Int) (nm:List ByteArray) (av2:Option dW) (m2 cap2 n:Nat) (ih:PtC own nm av2 m2 cap2 n):SkC own nm av2 m2 cap2 n:=by
 intro id ps av m cap lo hi k B T w L lv P hm hl ao am ai bu D ba ak;have al:=zFm own nm av2 m2 cap2 n ih;have sr:=zJ5 own nm av2 m2 cap2 n ih;obtain ⟨E,an⟩:=xV (ps.filter λp=>isA (hd n p.1))
 obtain ⟨X,aA⟩:=xV (ps.filter λp=>!isA (hd n p.1))
 rw [an] at am;have bw:(ps.map (·.1)).filter (λk=>!isA (hd n k))=X.map (·.1):=by rw [<-aA,xZ];rfl
 have aN:J4 ((ps.map (·.1)).map (hd n))=E.map λp=>hd n p.1:=by
  unfold J4;rw [<-an,dY,xZ];rfl
 have a6:∀ p ∈ E,p ∈ ps/\isA (hd n p.1)=true:=λp hp=>by rw [<-an] at hp;exact List.mem_filter.1 hp
 have ab:∀ p ∈ X,p ∈ ps/\isA (hd n p.1)=false:=λp hp=>by
  rw [<-aA] at hp;have:=List.mem_filter.1 hp;exact ⟨this.1,by simpa using this.2⟩
 have a4:E.length<=30:=by have:=bY (λp:Tr n × vW=>isA (hd n p.1)) ps;rw [an] at this;omega
 have a5:X.length<=30:=by have:=bY (λp:Tr n × vW=>!isA (hd n p.1)) ps;rw [aA] at this;omega
 have AP:=zDn (ps.map λp=>(hd n p.1,p.2)) av m cap w (by rw [eZ];exact hm) (by rw [eZ];exact hl) (zI1 ai) bu;unfold ApP at AP;rw [zFk ps isA,zFk ps (λx=>!isA x),an,aA] at AP;obtain ⟨u,aL⟩:∃ x,hd n (E[0]).1=x:=⟨_,rfl⟩
 obtain ⟨xb,aM⟩:∃ x,hd n (E[E.length - 1]'oM).1=x:=⟨_,rfl⟩
 have a8:∀ p ∈ E,RtN (hd n p.1):=λp hp=>zCn (zEk (ao p (a6 p hp).1).1) (by simpa [isA] using (a6 p hp).2)
 have af:RtN u:=by rw [<-aL];exact a8 _ (uZ am)
 have bt:RtN xb:=by rw [<-aM];exact a8 _ (uZ _)
 have ay:(E.map λp=>hd n p.1).headD ⟨0,v0I,0,⟨#[]⟩,0,Wt.r0,Wt.r0⟩=u:=by
  rw [<-aL];cases E with
  | nil=>cases am
  | cons a r=>rfl
 have az:(E.map λp=>hd n p.1).getLastD ⟨0,v0I,0,⟨#[]⟩,0,Wt.r0,Wt.r0⟩=xb:=by
  rw [<-aM,List.getLastD_eq_getLast?,List.getLast?_eq_getElem?,eZ,List.getElem?_map,List.getElem?_eq_getElem oM];rfl
 obtain ⟨LF,I⟩:=xV (L++VI own nm (hd n) (cod own nm n) id (ps.map (·.1)) L.length)
 have a9:VI own nm (hd n) (cod own nm n) id (ps.map (·.1)) L.length=(if id=26 then [Jn (VJ ((Qh own nm u).b - (Qh own nm u).t+1))] else if id=27 then [Jn (VJ ((Qh own nm u).r - (Qh own nm u).l+1))] else if id=25 then Qb (cod own nm n) (X.map (·.1)) L.length++[Jr 11 (X.length:Nat) (Qh own nm u) a0I] else VX own nm n id (Qh own nm u) (Qh own nm xb) (X.map (·.1)) L.length):=by
  unfold VI VX;simp only [aN,bw,ay,az,eZ]
 rw [a9] at ak I;rw [a9,I];have aF:∀ j,lv.ownBlock=some j->B<=j/\j<w.heap.size:=λj e=>QM ba.own e
 have aK:∀ (W:wW),bL w W->St own nm av2 m2 cap2 k B T hi w lv W L lv P:=λW hb=>(St.init D ba).below hb
 have bl:=hid aK;have aC:hH (k<w.heap.size):=by have:=D.kB;have:=D.hB;show _<_;omega
 have bF:hH (∀ j,lv.ownBlock=some j->j<w.heap.size):=λj e=>(aF j e).2
 have AR:=λ(W:wW) (h:RdS W av2 nm)=>zCX own nm av2 m2 cap2 u W af D.hm D.hl h
 have AL:=λ(W:wW) (h:RdS W av2 nm)=>zCX own nm av2 m2 cap2 xb W bt D.hm D.hl h
 have aj:hH ((0<=(Qh own nm u).b - (Qh own nm u).t+1/\(Qh own nm u).b - (Qh own nm u).t+1<=65536)/\(0<=(Qh own nm u).r - (Qh own nm u).l+1/\(Qh own nm u).r - (Qh own nm u).l+1<=65536)):=zNJ af;have bk:hH (SmA (Qh own nm u)):=zEQ af;have aq:hH (id=25->∀ (W:wW) (G:Option dW) (c3:Nat),bL w W->RdQ W G (X.map λp=>(hd n p.1,p.2))->(∀ A g,G=some ⟨A,g,none⟩->w.heap.size<=A/\A<W.heap.size)->¬ id=26->¬ id=27->cW prog 119 #[pX (some ⟨k,0,none⟩),U G X.length c3] W (WP k B T (O J own) (U av2 m2 cap2) (L++Qb (cod own nm n) (X.map (·.1)) L.length) lv W)/\(L++Qb (cod own nm n) (X.map (·.1)) L.length)++[Jr 11 (X.length:Nat) (Qh own nm u) a0I]=LF/\(L++Qb (cod own nm n) (X.map (·.1)) L.length).length<=900000):=λaG W G c3 hb hr3 hv3 n26 n27=>by
  rw [if_neg n26,if_neg n27,if_pos aG] at ak I;simp only [bZ,cZ,dZ] at ak;have st:=aK W hb;refine ⟨al X G X.length c3 lo hi k B T W L lv P rfl a5 (λp hp=>⟨(ao p (ab p hp).1).1,(ao p (ab p hp).1).2,(ab p hp).2⟩) (λp hp=>PA.kept (Kept.of_below hb) n _ _ (ai p (ab p hp).1)) hr3 (λ_ A g e j ej=>by have:=hv3 A g e;have:=(aF j ej).2;omega) (λ_ A g e=>⟨by have:=hv3 A g e;have:=D.kB;have:=D.hB;omega,(hv3 A g e).2⟩) st.en st.ws oM,by rw [<-I,mZ],by rw [bZ];omega⟩
 have ad:hH (¬ id=26->¬ id=27->¬ id=25->∀ (W:wW) (G:Option dW) (c3:Nat),bL w W->RdQ W G (X.map λp=>(hd n p.1,p.2))->(∀ A g,G=some ⟨A,g,none⟩->w.heap.size<=A/\A<W.heap.size)->cW prog 186 #[pX (some ⟨k,0,none⟩),O J id,gX (ar5 (Qh own nm u)).toArray,gX (ar5 (Qh own nm xb)).toArray,U G X.length c3] W (WP k B T (O J own) (U av2 m2 cap2) LF lv W)):=λn26 n27 n25 W G c3 hb hr3 hv3=>by
  rw [if_neg n26,if_neg n27,if_neg n25] at ak I;have st:=aK W hb;have:=sr id (Qh own nm u) (Qh own nm xb) X G X.length c3 lo hi k B T W L lv P rfl a5 (λp hp=>⟨(ao p (ab p hp).1).1,(ao p (ab p hp).1).2,(ab p hp).2⟩) (λp hp=>PA.kept (Kept.of_below hb) n _ _ (ai p (ab p hp).1)) hr3 (λA g e j ej=>by have:=hv3 A g e;have:=(aF j ej).2;omega) (λA g e=>⟨by have:=hv3 A g e;have:=D.kB;have:=D.hB;omega,(hv3 A g e).2⟩) st.en st.ws ak;rw [I] at this;exact this
 have ac:hH (¬ (id=26/\id=27)/\(id=26->L++[Jn (VJ ((Qh own nm u).b - (Qh own nm u).t+1))]=LF)/\(id=27->L++[Jn (VJ ((Qh own nm u).r - (Qh own nm u).l+1))]=LF)/\L.length<=900000):=⟨λh=>by omega,λh=>by rw [if_pos h] at I;exact I,λh=>by rw [if_neg oM,if_pos h] at I;exact I,oM⟩
 obtain ⟨na,a7⟩:=xV E.length
 have H0:hH (0<na/\na<=30):=by rw [a7] at am a4;exact ⟨am,a4⟩
 have aU:hH (∀ (i:Nat) (h:i<E.length) (h2:i<(E.map λp=>(hd n p.1,p.2)).length),((E.map λp=>(hd n p.1,p.2))[i]).1=hd n (E[i]).1):=λi h h2=>by rw [jZ]
 have bm:hH (∀ h:0<E.length,hd n (E[0]).1=u):=λ_=>aL
 have bn:hH (∀ h:E.length - 1<E.length,hd n (E[E.length - 1]).1=xb):=λ_=>aM
 have au:=hid a7;generalize Qh own nm u=c at *;generalize Qh own nm xb=xs at *;obtain ⟨nv,bs⟩:=xV X.length
 have aS:=hid bs;clear bw aN a6 ab a4 a5 aL aM a8 af bt ay az a9 ak I aF aK hm hl ao ai bu D ba ih al sr an aA am a7 bs;go_enter func155,ntmps155;go_wp2_with fail
 refine AP.mono ?_;rintro e w1 ⟨⟨va,vb,rfl,bz,bA⟩,a1⟩;obtain ⟨ax,aW,rfl,bC,bv⟩:=bA.rdq;rcases OwnP.cases bz with ⟨_,e0⟩ | ⟨ga,bP,rfl,aO,aP,af⟩
 ·have h9:=au.out;have:=H0.out.1;rw [List.map_eq_nil_iff] at e0;rw [e0] at h9;simp at h9;omega
 rw [eZ,au.out];rw [eZ,aS.out];have bB:w1.rangeAt ga 0 (QN u):=by
  have ah:0<E.length:=by have:=au.out;have:=H0.out;omega
  have:=zBB (af 0 (by rw [eZ];exact ah));rw [aU.out 0 ah,bm.out ah,Nat.zero_mul] at this;exact this
 have bG:hH (w1.rangeAt ga ((na - 1) * 21) (QN xb)):=by
  have ah:E.length - 1<E.length:=by have:=au.out;have:=H0.out;omega
  have:=zBB (af (E.length - 1) (by rw [eZ];exact ah));rw [aU.out _ ah,bn.out ah,au.out] at this;exact this
 have bH:=hid (bl.out w1 a1);have aT:=hid (And.intro bC bv);have bh:=hid (And.intro aP aO);have bE:=hid a1;have a2:=(hZ w1.heap.size w1).drew;have z:=hid (bH.out.below a2);have aQ:=hid a2;have aD:hH (w1.heap.size<=w1.drew.heap.size):=yZ _;have N:=Jb z.out.ws;have ra:w1.drew.rangeAt ga 0 (QN u):=bB;have bQ:(0:Int)<(na:Int):=by have:=H0.out;omega
 clear AP bz bA bC bv af bB aO aP a1 aU bm bn a2;go_upto_region 1 with fail
 go_cut [8] (λs8 wx=>∃ d,s8=pX (some ⟨d,0,none⟩)/\d ≠ k/\AtL wx d (ar5 c)/\d<wx.heap.size/\w.heap.size<=d/\bL w1 wx)
 case first =>
  refine wp_region_held_drew (S:=λW=>W.rangeAt k 0 [O J own,U av2 m2 cap2]/\W.rangeAt ga 0 (QN u)) kR ⟨N,ra⟩ (λf=>?_);generalize w1.drew=WD at *;refine tkQ 0 ?_
  refine tkQ 1 ?_
  refine tkQ 2 ?_
  refine wpAnyH_take (i:=3) (v:=gX ([O J own,U av2 m2 cap2]).toArray) (atQ rfl) kR kR kR (λ_ _ _ h=>h) (yieldsIf_load_mid (by rfl) 155 (mX 16) rfl (k) (0) rfl ([O J own,U av2 m2 cap2]) _ (λ_ h=>h.1) underlying155 rfl kR) (by assumption) ?_;try simp only [Act.put,lA,lZ,lS]
  refine tkQ 4 ?_
  refine wpAnyH_take (i:=5) (v:=?_) (atQ rfl) kR kR kR (λ_ _ _ h=>h) (kZ ⟨by rfl,?_⟩) (by assumption) ?_;rotate_left
  ·intro w bJ
   (try dsimp only at bJ)
   go_simp
   rw [if_pos (by have:=H0.out;omega)];try with_reducible rfl
  try simp only [Act.put,lA,lZ,lS]
  refine tkQ 6 ?_
  refine wpAnyH_take (i:=7) (v:=gX (QN u).toArray) (atQ rfl) kR kR kR (λ_ _ _ h=>h) (yieldsIf_load_mid (by rfl) 98 (mX 20) rfl (ga) (0) rfl (QN u) _ (λ_ h=>h.2) underlying98 rfl kR) (by assumption) ?_;try simp only [Act.put,lA,lZ,lS]
  refine wpAnyH_ready (rs:=[8,9]) kR sM ?_;refine AllReadyH.cons (atQ rfl) (λK H=>?_) (AllReadyH.cons (atQ rfl) (λK H=>?_) AllReadyH.nil)
  ·go_simp
   refine (AR WD z.out.en.rs).mono ?_;rintro e w2 ⟨rfl,C⟩;go_wp2_with fail
   replace N:=QG C N
   replace ra:=QG C ra
   refine hkQ H ⟨N,ra⟩ (λf=>?_);clear H K
   have aa:=QJ (hZ _ w2) (Z #[O J 0,O J 0,O J 0,O J 0,O J 0] 84);have pZ:=AtL.new0 w2 84 [O J 0,O J 0,O J 0,O J 0,O J 0];refine rdQ 9 (λK H=>?_);go_simp
   refine hkQ H ⟨QG aa N,QG aa ra⟩ (λf=>?_);clear H K
   obtain ⟨k0,k1,k2,k3,k4,z0,z1,z2,z3,z4⟩:=pZ.five;have aH:=QJ (hZ _ w2) (Z (ar5 c).toArray 84);refine rdQ 10 (λK H=>?_);go_simp
   refine hkQ H ⟨QG aH N,QG aH ra⟩ (λf=>?_);clear H K
   refine wpAnyH_done kR ?_ _;have HN:hH (∃ d,pX (some ⟨w2.heap.size,0,none⟩)=pX (some ⟨d,0,none⟩)/\d ≠ k/\AtL (w2.alloc (Z (ar5 c).toArray 84)) d (ar5 c)/\d<(w2.alloc (Z (ar5 c).toArray 84)).heap.size/\w.heap.size<=d/\bL w1 (w2.alloc (Z (ar5 c).toArray 84))):=⟨w2.heap.size,rfl,by have:=aC.out;have:=z.out.fr.size;have:=C.size;omega,AtL.new0 w2 _ _,(AtL.new0 w2 84 (ar5 c)).lt,Nat.le_trans z.out.fr.size C.size,QA (QA aQ.out C) aH⟩
   clear f N ra aa aH pZ k0 k1 k2 k3 k4 z0 z1 z2 z3 z4 C z;go_wp2_with fail
   go_meet
   case rel =>
    go_light
    exact HN.out
  ·have aa:=QJ (hZ _ WD) (Z #[O J 0,O J 0,O J 0,O J 0,O J 0] 84);have pZ:=AtL.new0 WD 84 [O J 0,O J 0,O J 0,O J 0,O J 0];go_simp
   replace N:=QG aa N
   replace ra:=QG aa ra
   refine hkQ H ⟨N,ra⟩ (λf=>?_);clear H K
   have bj:=hid (z.out.below aa);have bg:=hid (QA aQ.out aa);have aE:=hid z.out.fr.size;clear aa z;generalize (WD.alloc (Z #[O J 0,O J 0,O J 0,O J 0,O J 0] 84))=WE at *;obtain ⟨d,a3⟩:∃ b,WD.heap.size=b:=⟨_,rfl⟩
   rw [a3] at pZ aE aD;simp only [a3];clear a3;refine rdQ 8 (λK H=>?_);go_simp
   refine (AR WE bj.out.en.rs).mono ?_;rintro e w2 ⟨rfl,C⟩;go_wp2_with fail
   replace N:=QG C N
   replace ra:=QG C ra
   refine hkQ H ⟨N,ra⟩ (λf=>?_);clear H K
   replace pZ:=AtL.below C pZ
   obtain ⟨k0,k1,k2,k3,k4,z0,z1,z2,z3,z4⟩:=pZ.five;have o:Fr [d] w2 (((((w2.setCell ⟨d,0,none⟩ (O J c.s)).setCell ⟨d,1,none⟩ (O J c.t)).setCell ⟨d,2,none⟩ (O J c.l)).setCell ⟨d,3,none⟩ (O J c.b)).setCell ⟨d,4,none⟩ (O J c.r)):=zOJ;have pF:AtL (((((w2.setCell ⟨d,0,none⟩ (O J c.s)).setCell ⟨d,1,none⟩ (O J c.t)).setCell ⟨d,2,none⟩ (O J c.l)).setCell ⟨d,3,none⟩ (O J c.b)).setCell ⟨d,4,none⟩ (O J c.r)) d (ar5 c):=pZ.put5 _ _ _ _ _;have bf:=hid (zB5 (QA bg.out C) o (λj hj=>by simp at hj;have:=aD.out;omega));refine rdQ 10 (λK H=>?_);go_simp
   refine hkQ H ⟨o.range N (by have:=aC.out;have:=aE.out;simp;omega),o.range ra (by have:=bh.out;have:=aD.out;simp;omega)⟩ (λf=>?_);clear H K
   refine wpAnyH_done kR ?_ _;have HN:hH (∃ aB,pX (some ⟨d,0,none⟩)=pX (some ⟨aB,0,none⟩)/\aB ≠ k/\AtL (((((w2.setCell ⟨d,0,none⟩ (O J c.s)).setCell ⟨d,1,none⟩ (O J c.t)).setCell ⟨d,2,none⟩ (O J c.l)).setCell ⟨d,3,none⟩ (O J c.b)).setCell ⟨d,4,none⟩ (O J c.r)) aB (ar5 c)/\aB<(((((w2.setCell ⟨d,0,none⟩ (O J c.s)).setCell ⟨d,1,none⟩ (O J c.t)).setCell ⟨d,2,none⟩ (O J c.l)).setCell ⟨d,3,none⟩ (O J c.b)).setCell ⟨d,4,none⟩ (O J c.r)).heap.size/\w.heap.size<=aB/\bL w1 (((((w2.setCell ⟨d,0,none⟩ (O J c.s)).setCell ⟨d,1,none⟩ (O J c.t)).setCell ⟨d,2,none⟩ (O J c.l)).setCell ⟨d,3,none⟩ (O J c.b)).setCell ⟨d,4,none⟩ (O J c.r))):=⟨d,rfl,by have:=aC.out;have:=aE.out;omega,pF,pF.lt,aE.out,bf.out⟩
   clear f N ra pZ k0 k1 k2 k3 k4 z0 z1 z2 z3 z4 C bj bg bf o pF;generalize (((((w2.setCell ⟨d,0,none⟩ (O J c.s)).setCell ⟨d,1,none⟩ (O J c.t)).setCell ⟨d,2,none⟩ (O J c.l)).setCell ⟨d,3,none⟩ (O J c.b)).setCell ⟨d,4,none⟩ (O J c.r))=WF at *;go_wp2_with fail
   go_meet
   case rel =>
    go_light
    exact HN.out
 case rest =>
  obtain ⟨d,rfl,bp,bo,bN,bO,aI⟩:=hcut;clear N ra AR z aQ aD;have HX:=hid (QA bE.out aI);have ae:=hid (bl.out wc HX.out);have br:=aI.size;have aw:hH (RdQ wc ax (X.map λp=>(hd n p.1,p.2))/\∀ A g,ax=some ⟨A,g,none⟩->w.heap.size<=A/\A<wc.heap.size):=⟨aT.out.1.below aI,λA g e=>⟨(aT.out.2 A g e).1,cY (aT.out.2 A g e).2 br⟩⟩
  have aR:hH (∀ b,b=ga \/ b=d->b ∉ k::lv.ownBlock.toList):=λb hb hmm=>by
   have h1:=bh.out;have h2:=aC.out;rcases List.mem_cons.1 hmm with q | q
   ·rcases hb with rfl | rfl
    ·omega
    ·exact bp q
   ·have:=bF.out b (by simpa using q);rcases hb with rfl | rfl <;> omega
  obtain ⟨i0,i1,i2,i3,i4,_,_,_,_,_⟩:=bo.five;have ap:=bo.range;by_cases aY:id=26
  ·subst aY;have RW:=zBa c wc bk.out;have ag:hH (∀ W,bL wc W->cW prog 185 #[pX (some ⟨k,0,none⟩),O J (c.b - c.t+1)] W (WP k B T (O J own) (U av2 m2 cap2) (L++[Jn (VJ (c.b - c.t+1))]) lv W)):=λW hb=>by
    have st:=ae.out.below hb;exact zFi k B T _ aj.out.1 _ _ L lv P W st.ws st.en.kB st.en.hB (by have:=ac.out.2.2.2;omega)
   have ar:=ac.out.2.1 rfl;rw [ar] at ag;generalize c.b - c.t+1=rr at *;clear ar aq ad AL ac aj;go_wp2_with (first | (refine QB (by rfl) 84 (mX 8) rfl d 0 rfl (ar5 c) _ ap underlying84 rfl kR ?_))
   refine RW.mono ?_;rintro e w4 ⟨rfl,y⟩;have PC:=ag.out w4 y;have R:=hid (ae.out.below y);clear RW y ag;go_wp2_with fail
   refine PC.mono ?_;rintro e w5 ⟨⟨bc,P5,rfl,F,M⟩,o⟩;have HR:=hid ((R.out.step o M F).wp);clear PC F M o R;go_wp2;go_end0
   exact HR.out
  by_cases aZ:id=27
  ·subst aZ;have RW:=zBn c wc bk.out;have ag:hH (∀ W,bL wc W->cW prog 185 #[pX (some ⟨k,0,none⟩),O J (c.r - c.l+1)] W (WP k B T (O J own) (U av2 m2 cap2) (L++[Jn (VJ (c.r - c.l+1))]) lv W)):=λW hb=>by
    have st:=ae.out.below hb;exact zFi k B T _ aj.out.2 _ _ L lv P W st.ws st.en.kB st.en.hB (by have:=ac.out.2.2.2;omega)
   have ar:=ac.out.2.2.1 rfl;rw [ar] at ag;generalize c.r - c.l+1=rr at *;clear ar aq ad AL ac aj;go_wp2_with (first | (refine QB (by rfl) 84 (mX 8) rfl d 0 rfl (ar5 c) _ ap underlying84 rfl kR ?_))
   refine RW.mono ?_;rintro e w4 ⟨rfl,y⟩;have PC:=ag.out w4 y;have R:=hid (ae.out.below y);clear RW y ag;go_wp2_with fail
   refine PC.mono ?_;rintro e w5 ⟨⟨bc,P5,rfl,F,M⟩,o⟩;have HR:=hid ((R.out.step o M F).wp);clear PC F M o R;go_wp2;go_end0
   exact HR.out
  by_cases aG:id=25
  ·subst aG;obtain ⟨AA,a0,bq⟩:=aq.out rfl wc ax aW HX.out aw.out.1 aw.out.2 aY aZ;rw [aS.out] at AA a0;have bi:=hid (And.intro a0 bq);clear a0 bq aq ad AL ac aj i0 i1 i2 i3 i4;generalize L++Qb (cod own nm n) (X.map (·.1)) L.length=L4 at *;go_wp2_with fail
   refine AA.mono ?_;rintro e w4 ⟨⟨bK,P4,rfl,bd,bx⟩,aX⟩;have R:=hid (ae.out.step aX bx bd);have bM:=aX.range ap (aR.out d (fZ rfl));have LA:=Qy k B T (Jr 11 (nv:Nat) c a0I).1 _ _ L4 bK P4 w4 bd R.out.en.kB R.out.en.hB (by have:=bi.out.2;omega);clear AA bd bx aX ap;go_wp2_with (first | (refine QB (by rfl) 84 (mX 8) rfl d 0 rfl (ar5 c) _ bM underlying84 rfl kR ?_) | (refine zES rfl (mX 59) (mX 61) rfl c (nv:Int) rfl rfl ?_))
   refine LA.mono ?_;rintro e w5 ⟨⟨bc,P5,rfl,F,M⟩,o⟩;have HR:hH (WP k B T (O J own) (U av2 m2 cap2) LF lv w (rX (uX #[])) w5):=by
    have:=(R.out.step o M F).wp;rw [<-bi.out.1];exact this
   clear LA F M o R;go_wp2;go_end0
   exact HR.out
  have bI:hH (∀ W,bL wc W->cW prog 186 #[pX (some ⟨k,0,none⟩),O J id,gX (ar5 c).toArray,gX (ar5 xs).toArray,U ax nv aW] W (WP k B T (O J own) (U av2 m2 cap2) LF lv W)):=λW hb=>by
   have:=ad.out aY aZ aG W ax aW (QA HX.out hb) (aw.out.1.below hb) (λA g e=>⟨(aw.out.2 A g e).1,cY (aw.out.2 A g e).2 hb.size⟩);rw [aS.out] at this;exact this
  have aJ:=(hZ wc.heap.size wc).drew;have z:=hid (ae.out.below aJ);have aV:=hid aJ;have N:=Jb z.out.ws;have rb:=QG aJ (QG aI bG.out);have ri:wc.drew.rangeAt d 0 (ar5 c):=ap;have bR:J.wrap ((na:Int) - 1)=((na - 1:Nat):Int):=by have:=H0.out;rw [IntKind.wrap_i64];omega
  have bS:((na - 1:Nat):Int)<(na:Int):=by have:=H0.out;omega
  have bT:(0:Int)<=((na - 1:Nat):Int):=oM;clear aq ad ac aj i0 i1 i2 i3 i4 ap aJ;go_upto_region 3 with fail
  refine wp_region_held_drew (S:=λW=>W.rangeAt k 0 [O J own,U av2 m2 cap2]/\W.rangeAt ga ((na - 1) * 21) (QN xb)/\W.rangeAt d 0 (ar5 c)) kR ⟨N,rb,ri⟩ (λf=>?_);generalize wc.drew=WD at *;refine tkQ 0 ?_
  refine tkQ 1 ?_
  refine wpAnyH_take (i:=2) (v:=gX (ar5 c).toArray) (atQ rfl) kR kR kR (λ_ _ _ h=>h) (yieldsIf_load_mid (by rfl) 84 (mX 8) rfl (d) (0) rfl (ar5 c) _ (λ_ h=>h.2.2) underlying84 rfl kR) (by assumption) ?_;try simp only [Act.put,lA,lZ,lS]
  refine tkQ 3 ?_
  refine tkQ 4 ?_
  refine tkQ 5 ?_
  refine wpAnyH_take (i:=6) (v:=gX ([O J own,U av2 m2 cap2]).toArray) (atQ rfl) kR kR kR (λ_ _ _ h=>h) (yieldsIf_load_mid (by rfl) 155 (mX 29) rfl (k) (0) rfl ([O J own,U av2 m2 cap2]) _ (λ_ h=>h.1) underlying155 rfl kR) (by assumption) ?_;try simp only [Act.put,lA,lZ,lS]
  refine tkQ 7 ?_
  refine tkQ 8 ?_
  refine tkQ 9 ?_
  refine tkQ 10 ?_
  refine tkQ 11 ?_
  refine tkQ 12 ?_
  refine wpAnyH_take (i:=13) (v:=gX (QN xb).toArray) (atQ rfl) kR kR kR (λ_ _ _ h=>h) (yieldsIf_load_mid (by rfl) 98 (mX 36) rfl (ga) ((na - 1) * 21) rfl (QN xb) _ (λ_ h=>h.2.1) underlying98 rfl kR) (by assumption) ?_;try simp only [Act.put,lA,lZ,lS]
  refine tkQ 15 ?_
  refine rdQ 14 (λK H=>?_);go_simp
  refine (AL WD z.out.en.rs).mono ?_;rintro e w4 ⟨rfl,y⟩;go_wp2_with fail
  have SR:=bI.out w4 (QA aV.out y);replace N:=QG y N
  replace rb:=QG y rb
  replace ri:=QG y ri
  refine hkQ H ⟨N,rb,ri⟩ (λf=>?_);clear H K
  have be:=hid (QA aV.out y);refine rdQ 16 (λK H=>?_);go_simp
  refine SR.mono ?_;rintro e w5 h5;obtain ⟨⟨bc,P5,rfl,F,M⟩,o⟩:=h5;go_wp2_with fail
  have bD:=Jb F;refine hkQ H ⟨bD,o.range rb (aR.out ga (kZ rfl)),o.range ri (aR.out d (fZ rfl))⟩ (λf=>?_);clear H K
  refine wpAnyH_done kR ?_ _;have HR:=hid (((ae.out.below be.out).step o M F).wp);clear f N rb ri bD SR F M o ae z aV be y AL;go_wp2;go_end0
  exact HR.out
open Go.RowKit Wf
theorem zOO:(eY 64).all (λk=>!JM ((k:Nat):Int) || (let s:=QS ((k:Nat):Int);(s.c == 1 && (decide (1<=s.l))) || (s.c == 2 && (decide (20<=k) && decide (k<=27))) || (s.c == 3 && (s.p.data.toList == [118]) && ((k == 30) || (k == 31) || (k == 32)) && decide (2<=s.l)) || (s.c == 4 && (s.p.data.toList == [118]))))=true:=kR
theorem zM0 (s:ByteArray) (h:JM ((JA s:Nat):Int)=true):((QS ((JA s:Nat):Int)).c=1/\1<=(QS ((JA s:Nat):Int)).l) \/ ((QS ((JA s:Nat):Int)).c=2/\20<=JA s/\JA s<=27) \/ ((QS ((JA s:Nat):Int)).c=3/\(QS ((JA s:Nat):Int)).p.data.toList=[118]/\(JA s=30 \/ JA s=31 \/ JA s=32)/\2<=(QS ((JA s:Nat):Int)).l) \/ ((QS ((JA s:Nat):Int)).c=4/\(QS ((JA s:Nat):Int)).p.data.toList=[118]):=by
 have h1:=List.all_eq_true.1 zOO (JA s) (List.mem_range.2 (by have:=zHk s;omega));rw [h] at h1;simp only [Bool.not_true,Bool.false_or,Bool.or_eq_true,Bool.and_eq_true,beq_iff_eq,decide_eq_true_eq] at h1;rcases h1 with ((h1 | h1) | h1) | h1
 ·exact kZ h1
 ·exact fZ (kZ ⟨h1.1,h1.2.1,h1.2.2⟩)
 ·refine fZ (fZ (kZ ⟨h1.1.1.1,h1.1.1.2,?_,h1.2⟩));rcases h1.1.2 with (q | q) | q
  ·exact kZ q
  ·exact fZ (kZ q)
  ·exact fZ (fZ q)
 ·exact fZ (fZ (fZ h1))
theorem zHm:∀ (l:List Wt.Nd) (i:Nat),JD [118] l i=true->∀ x ∈ l,isA x=false
 | [],i,h,x,hx=>by cases hx
 | y::r,i,h,x,hx=>by
  have e0:min i ([118]:List UInt8).length.pred=0:=sM;unfold JD at h;have c:([118]:List UInt8).getD (min i (([118]:List UInt8).length - 1)) 0=118:=sM;rw [c] at h;cases b:isA y with
  | true=>rw [b] at h;simp at h
  | false =>
   rw [b] at h;simp at h;rcases List.mem_cons.1 hx with rfl | hx
   ·exact b
   ·exact zHm r (i+1) h x hx
theorem zHI:∀ (p:List UInt8) (l:List Wt.Nd) (i j:Nat) (b:j<l.length),JD p l i=true->p.getD (min (i+j) (p.length - 1)) 0=97->isA l[j]=true
 | p,[],i,j,b,h,e=>by cases b
 | p,y::r,i,0,b,h,e=>by
  unfold JD at h;rw [Nat.add_zero] at e;rw [e] at h;cases c:isA y with
  | true=>simpa using c
  | false=>rw [c] at h;simp at h
 | p,y::r,i,j+1,b,h,e=>by
  unfold JD at h;split at h
  ·cases h
  ·have:=zHI p r (i+1) j (by simpa using b) h (by rw [show i+1+j=i+(j+1) from by omega];exact e);simpa using this
theorem zKX:(eY 8).all (λq=>let s:=QS ((20+q:Nat):Int);let p:=s.p.data.toList;(eY 3).any (λj=>decide ((j:Int)<s.l) && (p.getD (min j (p.length - 1)) 0 == 97)))=true:=kR
theorem zJZ {id:Nat} (f:20<=id) (g:id<=27) {ks:List Wt.Nd} (m:(QS ((id:Nat):Int)).l<=(ks.length:Int)) (e:JD (QS ((id:Nat):Int)).p.data.toList ks 0=true):0<(ks.filter isA).length:=by
 have c:=List.all_eq_true.1 zKX (id - 20) (List.mem_range.2 oM);simp only [show 20+(id - 20)=id from by omega] at c;obtain ⟨j,i,d⟩:=List.any_eq_true.1 c;simp only [Bool.and_eq_true,decide_eq_true_eq,beq_iff_eq] at d;have b:j<ks.length:=oM;have:=zHI _ ks 0 j b e (by rw [wZ];exact d.2);exact List.length_pos_of_mem (List.mem_filter.2 ⟨uZ b,this⟩)
theorem zAj:∀ {l:List Int},zPR l=0->∀ a ∈ l,a=0
 | [],h,a,ha=>by cases ha
 | b::r,h,a,ha=>by
  unfold zPR at h;by_cases c:b=0
  ·rw [if_pos c] at h;rcases List.mem_cons.1 ha with rfl | ha
   ·exact c
   ·exact zAj h a ha
  ·rw [if_neg c] at h;exact absurd h c
theorem zDr {ks:List Wt.Nd} (h:Vd x ks=0):JM ((JA x.nm:Nat):Int)=true/\(QS ((JA x.nm:Nat):Int)).l<=x.ar/\JD (QS ((JA x.nm:Nat):Int)).p.data.toList ks 0=true:=by
 unfold Vd at h;simp only at h;split at h
 ·omega
 ·rename_i b
  split at h
  ·omega
  ·rename_i d
   split at h
   ·omega
   ·rename_i c
    exact ⟨by simpa using b,oM,by simpa using c⟩
section
variable (own:Int) (nm:List ByteArray) (av2:Option dW) (m2 cap2:Nat)
def CaC (n:Nat):Prop:=∀ (x:Wt.Nd) (ks:List (Tr n)) (sl:vW) (lo b k B:Nat) (T:Nat->Nat) (w:wW) (L:List I) (lv:vW) (P:List (Wc.In × vW)),x.k=6->Jw (n+1) (⟨x,ks⟩:Br (Tr n))->Jv own nm (n+1) (⟨x,ks⟩:Br (Tr n))=0->PA (n+1) lo b w (⟨x,ks⟩:Br (Tr n)) sl->En own nm av2 m2 cap2 k B T b w->WS k B T w (O J own) (U av2 m2 cap2) L lv P->L.length+(VH own nm (hd n) (cod own nm n) x ks L.length).length<=900000 ->
 cW prog 120 #[pX (some ⟨k,0,none⟩),gX (QP x sl).toArray] w (WP k B T (O J own) (U av2 m2 cap2) (L++VH own nm (hd n) (cod own nm n) x ks L.length) lv w)
end
theorem zOI (own:Int) (nm:List ByteArray) (av2:Option dW) (m2 cap2 n:Nat) (ih:PtC own nm av2 m2 cap2 n) (aj:∀ (t:Tr n) (a:Nat),Wr own nm n t->0<(cod own nm n t a).length):CaC own nm av2 m2 cap2 n:=by
 intro x ks sl lo hi k B T w L lv P h6 hF hR hP y ag s;have al:=zFm own nm av2 m2 cap2 n ih;have fo:=zMp own nm av2 m2 cap2 n ih;have sk:=zOU own nm av2 m2 cap2 n ih;have lz:=zN7 own nm av2 m2 cap2 n ih aj;obtain ⟨hx,hp,ad⟩:=hF;replace hx:Wt.right x=true:=hx
 replace hp:Wt.parts x=(ks.length:Int):=hp
 replace ad:∀ k ∈ ks,Jw n k:=ad
 have ax:∀ a ∈ V2 own nm x (ks.map (hd n))::ks.map (Jv own nm n),a=0:=zAj hR;have ae:V2 own nm x (ks.map (hd n))=0:=ax _ (oZ ..);have aN:∀ t ∈ ks,Jv own nm n t=0:=λt ht=>ax _ (tZ _ (List.mem_map.2 ⟨t,ht,rfl⟩))
 have aM:Vd x (ks.map (hd n))=0:=by
  unfold V2 at ae;rw [if_neg oM,if_neg oM,if_pos h6] at ae;exact ae
 obtain ⟨aq,an,af⟩:=zDr aM;have aL:x.ar=(ks.length:Int):=by
  rw [<-hp];unfold Wt.parts;rw [if_neg oM,if_neg oM]
 obtain ⟨E,cap,d,q1,rfl,aQ,q3,q4⟩:=hP;replace q1:d.map (·.1)=ks:=q1
 have aJ:d.length=ks.length:=by rw [<-q1,eZ]
 have z:d.length<=30:=by have:=(Wt.parts_le hx).2;omega
 have S:∀ p ∈ d,Wq own nm n p.1:=λp hpp=>by
  have hm:p.1 ∈ ks:=by rw [<-q1];exact List.mem_map.2 ⟨p,hpp,rfl⟩
  exact ⟨ad _ hm,aN _ hm⟩
 have M:0<d.length->∀ bb G,E=some ⟨bb,G,none⟩->bb<hi:=λv bb G e=>by
  obtain ⟨b9,o9,_,h9,e9,_⟩:=q3 0 v;rw [e] at e9;cases e9
  exact h9
 have aw:(QS ((JA x.nm:Nat):Int)).p.data.toList=[118]->∀ p ∈ d,Wr own nm n p.1:=λR p hpp=>by
  rw [R] at af;have hm:p.1 ∈ ks:=by rw [<-q1];exact List.mem_map.2 ⟨p,hpp,rfl⟩
  exact ⟨(S p hpp).1,(S p hpp).2,zHm _ _ af _ (List.mem_map.2 ⟨p.1,hm,rfl⟩)⟩
 have aF:∀ j,lv.ownBlock=some j->B<=j:=λj e=>(QM ag.own e).1
 obtain ⟨LF,i⟩:=xV (L++VH own nm (hd n) (cod own nm n) x ks L.length)
 rw [i];rw [<-q1] at i s;obtain ⟨id,hid⟩:=xV ((JA x.nm:Nat):Int)
 have ap:=zM0 x.nm aq;have ak:=λ(h1:20<=JA x.nm) (h2:JA x.nm<=27)=>zJZ h1 h2 (ks:=ks.map (hd n)) (by rw [eZ,<-aL];exact an) af
 have ai:((ks.map (hd n)).filter isA).length=(d.filter λp=>isA (hd n p.1)).length:=by
  rw [<-q1,dY,xZ,eZ];rfl
 have F:∀ W:wW,bL w W->St own nm av2 m2 cap2 k B T hi w lv W L lv P:=λW hb=>(St.init y ag).below hb
 have N:∀ W:wW,bL w W->∀ p ∈ d,PA n lo hi W p.1 p.2:=λW hb p hpp=>PA.kept (Kept.of_below hb) n _ _ (q4 p hpp)
 have aH:VH own nm (hd n) (cod own nm n) x (d.map (·.1)) L.length=(if (QS id).c=4 then Qb (cod own nm n) (d.map (·.1)) L.length++[ins 5 id x.ar] else if (QS id).c=1 then VW own nm n id (d.map (·.1)) L.length else if (QS id).c=2 then VI own nm (hd n) (cod own nm n) id (d.map (·.1)) L.length else Jx (cod own nm n) id (d.map (·.1)) L.length):=by
  unfold VH VW;simp only [hid]
 rw [aH] at i s;have H4:hH ((QS id).c=4->(QS id).p.data.toList=[118]->∀ W,bL w W->cW prog 119 #[pX (some ⟨k,0,none⟩),U E d.length cap] W (WP k B T (O J own) (U av2 m2 cap2) (L++Qb (cod own nm n) (d.map (·.1)) L.length) lv W)/\(L++Qb (cod own nm n) (d.map (·.1)) L.length)++[ins 5 id x.ar]=LF/\(L++Qb (cod own nm n) (d.map (·.1)) L.length).length<=900000):=λh4 R W hb=>by
  rw [if_pos h4] at i s;simp only [bZ,cZ,dZ] at s;have H:=F W hb;refine ⟨al d E d.length cap lo hi k B T W L lv P rfl z (aw (by rw [hid];exact R)) (N W hb) (q3.q.below hb) (λv bb G e j ej=>by have:=M v bb G e;have:=aF j ej;have:=y.hk;have:=y.kB;omega) (λv bb G e=>by have:=M v bb G e;have:=y.hk;have:=y.kB;have:=H.en.hB;omega) H.en H.ws oM,by rw [<-i,mZ],by rw [bZ];omega⟩
 have H1:hH ((QS id).c=1->0<d.length->∀ W,bL w W->cW prog 154 #[pX (some ⟨k,0,none⟩),O J id,U E d.length cap] W (WP k B T (O J own) (U av2 m2 cap2) LF lv W)):=λh1 v W hb=>by
  rw [if_neg oM,if_pos h1] at i s;have H:=F W hb;have:=fo id d E d.length cap lo hi k B T W L lv P rfl z S (N W hb) (q3.q.below hb) (M v) H.en H.ws s;rw [i] at this;exact this
 have H2:hH ((QS id).c=2->0<(d.filter λp=>isA (hd n p.1)).length->∀ W,bL w W->cW prog 155 #[pX (some ⟨k,0,none⟩),O J id,U E d.length cap] W (WP k B T (O J own) (U av2 m2 cap2) LF lv W)):=λh2 v W hb=>by
  rw [if_neg oM,if_neg oM,if_pos h2] at i s;have H:=F W hb;have:=sk id d E d.length cap lo hi k B T W L lv P rfl z S v (N W hb) (q3.q.below hb) H.en H.ws s;rw [i] at this;exact this
 have H3:hH ((QS id).c=3->(QS id).p.data.toList=[118]->(id=30 \/ id=31 \/ id=32)->2<=d.length->∀ W,bL w W->cW prog 156 #[pX (some ⟨k,0,none⟩),O J id,U E d.length cap] W (WP k B T (O J own) (U av2 m2 cap2) LF lv W)):=λh3 R ac v W hb=>by
  rw [if_neg oM,if_neg oM,if_neg oM] at i s;have H:=F W hb;have:=lz id d E d.length cap lo hi k B T W L lv P ac rfl aQ v z (aw (by rw [hid];exact R)) (N W hb) (q3.q.below hb) (M oM) H.en H.ws s;rw [i] at this;exact this
 have D:hH (((QS id).c=1/\0<d.length) \/ ((QS id).c=2/\0<(d.filter λp=>isA (hd n p.1)).length) \/ ((QS id).c=3/\(QS id).p.data.toList=[118]/\(id=30 \/ id=31 \/ id=32)/\2<=d.length) \/ ((QS id).c=4/\(QS id).p.data.toList=[118])):=by
  rw [hid] at ap an;rcases ap with h | h | h | h
  ·exact kZ ⟨h.1,oM⟩
  ·exact fZ (kZ ⟨h.1,by rw [<-ai];exact ak h.2.1 h.2.2⟩)
  ·exact fZ (fZ (kZ ⟨h.1,h.2.1,oM,oM⟩))
  ·exact fZ (fZ (fZ h))
 have aa:=QJ (hZ _ w) (Z (QP x (U E d.length cap)).toArray 159);have pP:=AtL.new0 w 159 (QP x (U E d.length cap));have OF:=zF3 x.nm _ (y.na.below aa);unfold VA at OF;rw [aq,if_pos rfl,hid] at OF;have aT:hH (∀ W:wW,bL w W->St own nm av2 m2 cap2 k B T hi w lv W L lv P):=F;have aS:hH (k<w.heap.size/\∀ j,lv.ownBlock=some j->j<w.heap.size):=⟨by have:=y.kB;have:=y.hB;omega,λj e=>(QM ag.own e).2⟩
 obtain ⟨np,C⟩:=xV d.length
 have az:hH (d.length=np):=C;rw [C] at pP OF aa H4 H1 H2 H3 ⊢;obtain ⟨A,aO⟩:=xV (QS id)
 rw [aO] at OF H4 H1 H2 H3 D;have c8:=pP.2.1 8 (V x.nm) rfl;clear al fo sk lz hx hp ad ax ae aN aM aq an af aL q1 aJ z S M aw aF i ap ak ai F N aH s C aO hid aQ q3 q4 y ag ih aj hR h6;have am:=hid aa;have aA:=hid pP;clear aa pP;go_enter func120,ntmps120;go_upto_region 1 with fail
 generalize (w.alloc (Z (QP x (U E np cap)).toArray 159))=W at *;go_wp2_with fail
 refine OF.mono ?_;rintro e w1 ⟨rfl,ab⟩;obtain ⟨nv,aK⟩:∃ nv:ByteArray,(⟨(VV id).toArray⟩:ByteArray)=nv:=⟨_,rfl⟩
 rw [aK];have ao:=QJ (hZ _ w1) (Z (sg6 id A.c nv A.l A.m A.p).toArray 243);have aC:hH (AtL (w1.alloc (Z (sg6 id A.c nv A.l A.m A.p).toArray 243)) w1.heap.size (sg6 id A.c nv A.l A.m A.p)):=AtL.new0 w1 _ _;have aB:=hid (AtL.below ao (AtL.below ab aA.out));have K:=hid (QA (QA am.out ab) ao);have aD:=hid ((QA am.out ab).size);clear OF c8 ab ao aK aA am;go_upto_region 2 with fail
 generalize (w1.alloc (Z (sg6 id A.c nv A.l A.m A.p).toArray 243))=W2 at *;obtain ⟨sb,au⟩:∃ b,w1.heap.size=b:=⟨_,rfl⟩
 rw [au] at aC aD;simp only [au];clear au;obtain ⟨b0,b1,b2,b3,b4,b5,_,_,_,_,_,_⟩:=at6 aC.out;have aU:=aB.out.2.1 20 (U E np cap) rfl;have p9:=aB.out.2.1 9 (O J x.ar) rfl;have g:=hid (aT.out W2 K.out);rcases D.out with ⟨h1,v⟩ | ⟨h2,v⟩ | ⟨h3,R,ac,v⟩ | ⟨h4,R⟩
 ·rw [h1] at b1;rw [az.out] at v;have I:=H1.out h1 v W2 K.out;clear H1 H2 H3 H4 D b2 b3 b4 b5 p9 h1 v;go_wp2_with fail
  refine I.mono ?_;rintro e w3 ⟨⟨ah,P3,rfl,o,u⟩,f⟩;have HR:=hid ((g.out.step f u o).wp);clear I o u f g;go_wp2;go_end0
  exact HR.out
 ·rw [h2] at b1;have I:=H2.out h2 v W2 K.out;clear H1 H2 H3 H4 D b2 b3 b4 b5 p9 h2 v;go_wp2_with fail
  refine I.mono ?_;rintro e w3 ⟨⟨ah,P3,rfl,o,u⟩,f⟩;have HR:=hid ((g.out.step f u o).wp);clear I o u f g;go_wp2;go_end0
  exact HR.out
 ·rw [h3] at b1;rw [az.out] at v;have I:=H3.out h3 R ac v W2 K.out;clear H1 H2 H3 H4 D b2 b3 b4 b5 p9 h3 R ac v;go_wp2_with fail
  refine I.mono ?_;rintro e w3 ⟨⟨ah,P3,rfl,o,u⟩,f⟩;have HR:=hid ((g.out.step f u o).wp);clear I o u f g;go_wp2;go_end0
  exact HR.out
 ·rw [h4] at b1;obtain ⟨I,aG,aI⟩:=H4.out h4 R W2 K.out;have ay:=hid (And.intro aG aI);clear H1 H2 H3 H4 D b2 b3 b4 b5 h4 R aG aI;generalize L++Qb (cod own nm n) (d.map (·.1)) L.length=L4 at *;go_wp2_with fail
  refine I.mono ?_;rintro e w3 ⟨⟨ah,P3,rfl,o,u⟩,f⟩;have X:=hid (g.out.step f u o);have C:∀ b,w.heap.size<=b->b ∉ k::lv.ownBlock.toList:=λb hb hm=>by
   have h9:=aS.out;rcases List.mem_cons.1 hm with q | q
   ·omega
   ·have:=h9.2 b (by simpa using q);omega
  have d0:=f.cell b0 (C _ aD.out);have d9:=f.cell p9 (C _ (yZ _));have LA:=Qy k B T (ins 5 id x.ar).1 _ _ L4 ah P3 w3 o X.out.en.kB X.out.en.hB (by have:=ay.out.2;omega);clear I o u f g b0 b1 p9 aU C;go_wp2_with (first | (refine zEq rfl 5 (mX 23) (mX 26) rfl id x.ar rfl rfl ?_))
  refine LA.mono ?_;rintro e w4 ⟨⟨aV,P4,rfl,aR,aP⟩,aE⟩;have HR:hH (WP k B T (O J own) (U av2 m2 cap2) LF lv w (rX (uX #[])) w4):=by
   have h9:=(X.out.step aE aP aR).wp;rw [<-ay.out.1];exact h9
  clear LA aR aP aE X;go_wp2;go_end0
  exact HR.out
open Go.RowKit Wf
theorem zHi (y:Operand) (b:op.op=.build 87 #[(0,.const (O J 2)),(4,y)]) (c:Wpl.Cl) (e:a.eval y=gX #[O J c.s,O J c.r,O J c.c]) (W:wW):(execOp a.eval op).run prog W=.ok (.value (gX (QF (zOa c).1 QO).toArray)) W:=by
 unfold execOp;have d:a.eval (.const (O J 2))=O J 2:=rfl;simp only [b,nZ,gZ,qZ,d,e,rZ,sZ,iZ,zR6]
theorem zPA (h:w.rangeAt k 0 (QP x sl)):w.rangeAt k 1 (vl6 x.v):=λj v b=>by
 have:=h (1+j) v (by
  match j,b with
  | 0,b=>exact b
  | 1,b=>exact b
  | 2,b=>exact b
  | 3,b=>exact b
  | 4,b=>exact b
  | 5,b=>exact b
  | j+6,b=>simp [vl6] at b)
 rw [wZ] at this;exact this
theorem zOx (h:w.rangeAt k 0 (QP x sl)):w.rangeAt k 10 (rf5 x.a):=λj v b=>by
 have:=h (10+j) v (by
  match j,b with
  | 0,b=>exact b
  | 1,b=>exact b
  | 2,b=>exact b
  | 3,b=>exact b
  | 4,b=>exact b
  | j+5,b=>simp [rf5] at b)
 rw [wZ] at this;exact this
theorem zHv (h:Wt.right x=true):x.k=1 \/ x.k=2 \/ x.k=3 \/ x.k=4 \/ x.k=5 \/ x.k=6:=by
 unfold Wt.right at h;by_cases b:x.k=1
 ·exact kZ b
 by_cases c:x.k=2
 ·exact fZ (kZ c)
 by_cases d:x.k=3
 ·exact fZ (fZ (kZ d))
 by_cases e:x.k=4
 ·exact fZ (fZ (fZ (kZ e)))
 by_cases f:x.k=5
 ·exact fZ (fZ (fZ (fZ (kZ f))))
 by_cases g:x.k=6
 ·exact fZ (fZ (fZ (fZ (fZ g))))
 ·rw [if_neg b,if_neg c,if_neg d,if_neg e,if_neg f,if_neg g] at h;cases h
theorem zNA (own:Int) (nm:List ByteArray):∀ (n:Nat) (t:Tr n) (a:Nat),Wr own nm n t->0<(cod own nm n t a).length
 | 0,t,_,_=>Empty.elim t
 | n+1,t,a,h=>by
  obtain ⟨x,ks⟩:Br (Tr n):=t;obtain ⟨i,m,l⟩:=h;have v:Wt.right x=true:=i.1;have p:Wt.parts x=(ks.length:Int):=i.2.1;have d:isA x=false:=l;show 0<(JV own nm (hd n) (cod own nm n) x ks a).length
  unfold JV;rcases zHv v with h | h | h | h | h | h
  ·rw [if_pos h];simp
  ·rw [if_neg oM,if_pos h];simp
  ·simp [isA,h] at d
  ·rw [if_neg oM,if_neg oM,if_pos h];simp
  ·rw [if_neg oM,if_neg oM,if_neg oM,if_pos h];simp
  ·rw [if_neg oM,if_neg oM,if_neg oM,if_neg oM,if_pos h];have g:∀ a ∈ V2 own nm x (ks.map (hd n))::ks.map (Jv own nm n),a=0:=zAj m;have b:V2 own nm x (ks.map (hd n))=0:=g _ (oZ ..);have f:Vd x (ks.map (hd n))=0:=by
    unfold V2 at b;rw [if_neg oM,if_neg oM,if_pos h] at b;exact b
   obtain ⟨e,o,s⟩:=zDr f;have q:x.ar=(ks.length:Int):=by
    rw [<-p];unfold Wt.parts;rw [if_neg oM,if_neg oM]
   unfold VH;simp only;rcases zM0 x.nm e with h9 | h9 | h9 | h9
   ·rw [if_neg oM,if_pos h9.1];simp
   ·rw [if_neg oM,if_neg oM,if_pos h9.1];unfold VI;simp only;repeat' split
    all_goals simp
   ·rw [if_neg oM,if_neg oM,if_neg oM];have j:2<=ks.length:=oM;match ks,j with
    | c::u::r,_ =>
     simp only [Jx,bZ];have:0<(if ((JA x.nm:Nat):Int)=30 then VC (cod own nm n) u r (a+(cod own nm n c a).length) else if ((JA x.nm:Nat):Int)=31 then ins 14 (a+(cod own nm n c a).length+1+(cod own nm n u (a+(cod own nm n c a).length+1)).length:Nat) 0::cod own nm n u (a+(cod own nm n c a).length+1) else Ju (cod own nm n) (u::r) (a+(cod own nm n c a).length)).length:=by
      split
      ·simp [VC]
      ·split
       ·simp
       ·simp [Ju]
     omega
   ·rw [if_pos h9.1];simp
def PtT (own:Int) (nm:List ByteArray) (av2:Option dW) (m2 cap2 n:Nat) (t:Tr n):Prop:=∀ (sl:vW) (lo b k B:Nat) (T:Nat->Nat) (w:wW) (L:List I) (lv:vW) (P:List (Wc.In × vW)),Wr own nm n t->PA n lo b w t sl->En own nm av2 m2 cap2 k B T b w->WS k B T w (O J own) (U av2 m2 cap2) L lv P->L.length+(cod own nm n t L.length).length<=900000 ->
 cW prog 87 #[pX (some ⟨k,0,none⟩),gX (QP (hd n t) sl).toArray] w (WP k B T (O J own) (U av2 m2 cap2) (L++cod own nm n t L.length) lv w)
def PuC:Prop:=∀ (k B:Nat) (T:Nat->Nat) (v:Wt.Vl) (b c:vW) (L:List I) (lv:vW) (P:List (Wc.In × vW)) (w:wW),WS k B T w b c L lv P->k<B->B<=w.heap.size->L.length<=1000000 ->
 cW prog 117 #[pX (some ⟨k,0,none⟩),gX (vl6 v).toArray] w (WP k B T b c (L++[Jn v]) lv w)
theorem zKL (own:Int) (nm:List ByteArray) (av2:Option dW) (m2 cap2 n:Nat) (t:Tr (n+1)) (al:(hd (n+1) t).k=4 \/ (hd (n+1) t).k=5->AlC own nm av2 m2 cap2 n) (ca:(hd (n+1) t).k=6->CaC own nm av2 m2 cap2 n) (pu:(hd (n+1) t).k=1->PuC):PtT own nm av2 m2 cap2 (n+1) t:=by
 intro sl lo hi k B T w L lv P hw hP g ag d;obtain ⟨x,ks⟩:Br (Tr n):=t;replace al:x.k=4 \/ x.k=5->AlC own nm av2 m2 cap2 n:=al
 replace ca:x.k=6->CaC own nm av2 m2 cap2 n:=ca
 have aL:=hid pu;obtain ⟨hF,hR,hA⟩:=hw;have hx:Wt.right x=true:=hF.1;have hp:Wt.parts x=(ks.length:Int):=hF.2.1;have aC:∀ k ∈ ks,Jw n k:=hF.2.2;have aw:isA x=false:=hA;have aB:hd (n+1) (⟨x,ks⟩:Br (Tr n))=x:=rfl;have az:cod own nm (n+1) (⟨x,ks⟩:Br (Tr n)) L.length=JV own nm (hd n) (cod own nm n) x ks L.length:=rfl;rw [aB];rw [az] at d ⊢;have an:∀ a ∈ V2 own nm x (ks.map (hd n))::ks.map (Jv own nm n),a=0:=zAj hR;have aa:V2 own nm x (ks.map (hd n))=0:=an _ (oZ ..);have aF:∀ t ∈ ks,Jv own nm n t=0:=λt ht=>an _ (tZ _ (List.mem_map.2 ⟨t,ht,rfl⟩))
 have ax:=hP;obtain ⟨s,cap,z,q1,rfl,aQ,q3,q4⟩:=hP;replace q1:z.map (·.1)=ks:=q1
 have aD:z.length=ks.length:=by rw [<-q1,eZ]
 have ah:z.length<=30:=by have:=(Wt.parts_le hx).2;omega
 have aj:0<z.length->∀ bb I,s=some ⟨bb,I,none⟩->bb<hi:=λh0 bb I e=>by
  obtain ⟨b9,o9,_,h9,e9,_⟩:=q3 0 h0;rw [e] at e9;cases e9
  exact h9
 have ar:∀ j,lv.ownBlock=some j->B<=j:=λj e=>(QM ag.own e).1
 obtain ⟨LF,b⟩:=xV (L++JV own nm (hd n) (cod own nm n) x ks L.length)
 rw [b];have G:=QJ (hZ _ w) (Z (QP x (U s z.length cap)).toArray 159);have pP:=AtL.new0 w 159 (QP x (U s z.length cap));have E:=(St.init g ag).below G;have c:=hid E;have ai:hH (w.heap.size ∉ k::lv.ownBlock.toList):=λhm=>by
  have:=g.kB;have:=g.hB;rcases List.mem_cons.1 hm with q | q
  ·omega
  ·have:=(QM ag.own (show lv.ownBlock=some w.heap.size by simpa using q)).2;omega
 have N:=hid b;have ap:hH (L.length<=1000000):=by show _<=_;omega
 have aq:=hid (And.intro g.hm g.hl);have u:(x.k=4 \/ x.k=5)->L.length+(Qb (cod own nm n) ks L.length).length<=900000->cW prog 119 #[pX (some ⟨k,0,none⟩),U s z.length cap] (w.alloc (Z (QP x (U s z.length cap)).toArray 159)) (WP k B T (O J own) (U av2 m2 cap2) (L++Qb (cod own nm n) ks L.length) lv (w.alloc (Z (QP x (U s z.length cap)).toArray 159))):=λau aM=>by
  have ay:(ks.map (hd n)).any isA=false:=by
   unfold V2 at aa;rw [if_neg oM,if_pos au] at aa;cases hq:(ks.map (hd n)).any isA with
   | false=>rfl
   | true=>rw [hq] at aa;simp at aa
  have aO:∀ p ∈ z,Wr own nm n p.1:=λp am=>by
   have hm:p.1 ∈ ks:=by rw [<-q1];exact List.mem_map.2 ⟨p,am,rfl⟩
   refine ⟨aC _ hm,aF _ hm,?_⟩;have:=List.any_eq_false.1 ay (hd n p.1) (List.mem_map.2 ⟨p.1,hm,rfl⟩);simpa using this
  have:=al au z s z.length cap lo hi k B T _ L lv P rfl ah aO (λp am=>PA.kept (Kept.of_below G) n _ _ (q4 p am)) (q3.q.below G) (λh0 bb I e j ej=>by have:=aj h0 bb I e;have:=ar j ej;have:=g.hk;have:=g.kB;omega) (λh0 bb I e=>by have:=aj h0 bb I e;have:=g.hk;have:=g.kB;have:=E.en.hB;omega) E.en E.ws (by rw [q1];exact aM);rw [q1] at this;exact this
 have A:hH (x.k=6->cW prog 120 #[pX (some ⟨k,0,none⟩),gX (QP x (U s z.length cap)).toArray] (w.alloc (Z (QP x (U s z.length cap)).toArray 159)) (WP k B T (O J own) (U av2 m2 cap2) LF lv (w.alloc (Z (QP x (U s z.length cap)).toArray 159)))):=λh6=>by
  have aN:JV own nm (hd n) (cod own nm n) x ks L.length=VH own nm (hd n) (cod own nm n) x ks L.length:=by
   unfold JV;rw [if_neg oM,if_neg oM,if_neg oM,if_neg oM,if_pos h6]
  rw [aN] at d b;have:=ca h6 x ks (U s z.length cap) lo hi k B T _ L lv P h6 hF hR (PA.kept (Kept.of_below G) (n+1) _ _ ax) E.en E.ws d;rw [b] at this;exact this
 have hk:=zHv hx;have H:¬ x.k=3:=λh=>by simp [isA,h] at aw
 obtain ⟨np,aE⟩:=xV z.length
 rw [aE] at pP G c A u ⊢;have c0:=pP.2.1 0 (O J x.k) rfl;have rP:=pP.range;have ad:=pP.2.1 20 (U s np cap) rfl;have p7:=pP.2.1 7 (O J x.op) rfl;clear al ca pu hF hR hA hx hp aC aw aB az an aa aF ax q1 aQ q3 q4 aD ah aj ar E aE g ag G pP;rcases hk with h | h | h | h | h | h
 ·have f:JV own nm (hd n) (cod own nm n) x ks L.length=[Jn x.v]:=by unfold JV;rw [if_pos h]
  rw [f] at b;have aK:=hid b;rw [h] at c0;have rv:=zPA rP;have PU:=aL.out h k B T x.v _ _ L lv P _ c.out.ws c.out.en.kB c.out.en.hB ap.out;clear h f b u A H d ad p7;go_enter func87,ntmps87;go_upto_region 1 with fail
  generalize (w.alloc (Z (QP x (U s np cap)).toArray 159))=W at *;go_wp2_with (first | (refine QB (by rfl) 65 (mX 11) rfl w.heap.size 1 rfl (vl6 x.v) _ rv underlying65 rfl kR ?_))
  refine PU.mono ?_;rintro e w5 ⟨⟨aG,P5,rfl,o,y⟩,m⟩;have HR:hH (WP k B T (O J own) (U av2 m2 cap2) LF lv w (rX (uX #[])) w5):=by
   have h9:=(c.out.step m y o).wp;rw [<-aK.out];exact h9
  clear PU o y m c rv rP c0;go_wp2;go_end0
  exact HR.out
 ·have f:JV own nm (hd n) (cod own nm n) x ks L.length=[zOa (zJC own nm x)]:=by unfold JV;rw [if_neg oM,if_pos h]
  rw [f] at N;rw [h] at c0;have aH:=zOx rP;have CE:=λ(W:wW) (hr:RdS W av2 nm)=>zEY own nm av2 m2 cap2 x.a W aq.out.1 aq.out.2 hr
  clear h f b u A H d ad p7;go_enter func87,ntmps87;go_upto_region 1 with fail
  generalize (w.alloc (Z (QP x (U s np cap)).toArray 159))=W at *;go_upto_region 5 with fail
  have aA:=(hZ W.heap.size W).drew;have af:=hid (c.out.below aA);have rk:=Jb af.out.ws;have ra:W.drew.rangeAt w.heap.size 10 (rf5 x.a):=aH;clear aA c rP aH c0;refine wp_region_held_drew (S:=λW=>W.rangeAt k 0 [O J own,U av2 m2 cap2]/\W.rangeAt w.heap.size 10 (rf5 x.a)) kR ⟨rk,ra⟩ (λD=>?_);generalize W.drew=WD at *;refine tkQ 0 ?_
  refine tkQ 1 ?_
  refine tkQ 2 ?_
  refine tkQ 3 ?_
  refine wpAnyH_take (i:=4) (v:=gX ([O J own,U av2 m2 cap2]).toArray) (atQ rfl) kR kR kR (λ_ _ _ h=>h) (yieldsIf_load_mid (by rfl) 155 (mX 19) rfl (k) (0) rfl ([O J own,U av2 m2 cap2]) _ (λ_ h=>h.1) underlying155 rfl kR) (by assumption) ?_;try simp only [Act.put,lA,lZ,lS]
  refine tkQ 5 ?_
  refine tkQ 6 ?_
  refine wpAnyH_take (i:=7) (v:=gX (rf5 x.a).toArray) (atQ rfl) kR kR kR (λ_ _ _ h=>h) (yieldsIf_load_mid (by rfl) 96 (mX 22) rfl (w.heap.size) (10) rfl (rf5 x.a) _ (λ_ h=>h.2) underlying96 rfl kR) (by assumption) ?_;try simp only [Act.put,lA,lZ,lS]
  refine rdQ 8 (λK hK=>?_);go_simp
  refine (CE WD af.out.en.rs).mono ?_;rintro e w4 ⟨rfl,ak⟩;go_wp2_with fail
  have R:=hid (af.out.below ak);replace rk:=QG ak rk
  replace ra:=QG ak ra
  refine hkQ hK ⟨rk,ra⟩ (λD=>?_);clear hK K
  have LA:=Qy k B T (zOa (zJC own nm x)).1 _ _ L lv P w4 R.out.ws R.out.en.kB R.out.en.hB ap.out;refine wpAnyH_take (i:=9) (v:=gX (QF (zOa (zJC own nm x)).1 QO).toArray) (atQ rfl) kR kR kR (λ_ _ _ h=>h) (kZ ⟨by rfl,λW _=>zHi (mX 24) rfl (zJC own nm x) rfl W⟩) (by assumption) ?_;try simp only [Act.put,lA,lZ,lS]
  refine rdQ 10 (λK hK=>?_);go_simp
  refine LA.mono ?_;rintro e w5 ⟨⟨aG,P5,rfl,o,y⟩,m⟩;go_wp2_with fail
  have HR:hH (WP k B T (O J own) (U av2 m2 cap2) LF lv w (rX (uX #[])) w5):=by
   have h9:=(R.out.step m y o).wp;rw [<-N.out];exact h9
  have aJ:=Jb o;have aI:=m.range ra ai.out;refine hkQ hK ⟨aJ,aI⟩ (λD=>?_);clear hK K
  refine wpAnyH_done kR ?_ _;clear D rk ra aJ aI o y m R af LA CE;go_wp2;go_end0
  exact HR.out
 ·exact absurd h H
 ·have f:JV own nm (hd n) (cod own nm n) x ks L.length=Qb (cod own nm n) ks L.length++[ins 3 x.op 0]:=by unfold JV;rw [if_neg oM,if_neg oM,if_pos h]
  rw [f] at d b;rw [bZ] at d;have AA:=u (kZ h) oM;rw [<-mZ] at b;have M:hH ((L++Qb (cod own nm n) ks L.length)++[ins 3 x.op 0]=LF/\(L++Qb (cod own nm n) ks L.length).length<=900000):=⟨b,by rw [bZ];omega⟩
  rw [h] at c0;clear h f b u A H d N;generalize L++Qb (cod own nm n) ks L.length=L4 at *;go_enter func87,ntmps87;go_upto_region 1 with fail
  generalize (w.alloc (Z (QP x (U s np cap)).toArray 159))=W at *;go_wp2_with fail
  refine AA.mono ?_;rintro e w3 ⟨⟨ao,P3,rfl,F,ab⟩,C⟩;have l:=hid (c.out.step C ab F);have d7:=C.cell p7 ai.out;have LA:=Qy k B T (ins 3 x.op 0).1 _ _ L4 ao P3 w3 F l.out.en.kB l.out.en.hB (by have:=M.out.2;omega);clear AA F ab C c c0 rP ad p7;go_wp2_with (first | (refine zAU rfl 3 (mX 36) rfl x.op rfl ?_))
  refine LA.mono ?_;rintro e w4 ⟨⟨aP,P4,rfl,ae,ac⟩,X⟩;have HR:hH (WP k B T (O J own) (U av2 m2 cap2) LF lv w (rX (uX #[])) w4):=by
   have h9:=(l.out.step X ac ae).wp;rw [<-M.out.1];exact h9
  clear LA ae ac X l;go_wp2;go_end0
  exact HR.out
 ·have f:JV own nm (hd n) (cod own nm n) x ks L.length=Qb (cod own nm n) ks L.length++[ins 4 x.op 0]:=by unfold JV;rw [if_neg oM,if_neg oM,if_neg oM,if_pos h]
  rw [f] at d b;rw [bZ] at d;have AA:=u (fZ h) oM;rw [<-mZ] at b;have M:hH ((L++Qb (cod own nm n) ks L.length)++[ins 4 x.op 0]=LF/\(L++Qb (cod own nm n) ks L.length).length<=900000):=⟨b,by rw [bZ];omega⟩
  rw [h] at c0;clear h f b u A H d N;generalize L++Qb (cod own nm n) ks L.length=L4 at *;go_enter func87,ntmps87;go_upto_region 1 with fail
  generalize (w.alloc (Z (QP x (U s np cap)).toArray 159))=W at *;go_wp2_with fail
  refine AA.mono ?_;rintro e w3 ⟨⟨ao,P3,rfl,F,ab⟩,C⟩;have l:=hid (c.out.step C ab F);have d7:=C.cell p7 ai.out;have LA:=Qy k B T (ins 4 x.op 0).1 _ _ L4 ao P3 w3 F l.out.en.kB l.out.en.hB (by have:=M.out.2;omega);clear AA F ab C c c0 rP ad p7;go_wp2_with (first | (refine zAU rfl 4 (mX 48) rfl x.op rfl ?_))
  refine LA.mono ?_;rintro e w4 ⟨⟨aP,P4,rfl,ae,ac⟩,X⟩;have HR:hH (WP k B T (O J own) (U av2 m2 cap2) LF lv w (rX (uX #[])) w4):=by
   have h9:=(l.out.step X ac ae).wp;rw [<-M.out.1];exact h9
  clear LA ae ac X l;go_wp2;go_end0
  exact HR.out
 ·have CA:=A.out h;rw [h] at c0;clear h b u A H d ad p7 N;go_enter func87,ntmps87;go_upto_region 1 with fail
  generalize (w.alloc (Z (QP x (U s np cap)).toArray 159))=W at *;go_wp2_with (first | (refine QB (by rfl) 159 (mX 3) rfl w.heap.size 0 rfl (QP x (U s np cap)) _ rP underlying159 rfl kR ?_))
  refine CA.mono ?_;rintro e w5 ⟨⟨aG,P5,rfl,o,y⟩,m⟩;have HR:=hid ((c.out.step m y o).wp);clear CA o y m c rP c0;go_wp2;go_end0
  exact HR.out
theorem zJ4 (own:Int) (nm:List ByteArray) (av2:Option dW) (m2 cap2 n:Nat) (b:PtC own nm av2 m2 cap2 n):PtC own nm av2 m2 cap2 (n+1):=λt =>
 zKL own nm av2 m2 cap2 n t (λ_=>zFm own nm av2 m2 cap2 n b) (λ_=>zOI own nm av2 m2 cap2 n b (zNA own nm n)) (λ_=>zEp)
theorem zFa (own:Int) (nm:List ByteArray) (av2:Option dW) (m2 cap2:Nat):∀ n,PtC own nm av2 m2 cap2 n
 | 0=>λt=>Empty.elim t
 | n+1=>zJ4 own nm av2 m2 cap2 n (zFa own nm av2 m2 cap2 n)
end Go.Proofs.YtloponhikiddmaaGreatDoor
namespace Go.Proofs.YtloponhikiddmaaGreatDoor.Wf
open Go.Proofs.YtloponhikiddmaaGreatDoor
section
variable {α:Type} (r:α->Nat)
def VF (l:List α):Nat:=(l.map r).sum
theorem zFS (g:α->Nat->List I) (c:Nat):∀ (l:List α),(∀ k ∈ l,∀ a,(g k a).length+c<=6 * r k)->∀ a,(Qb g l a).length+c * l.length<=6 * VF r l
 | [],_,a=>by simp [Qb,VF]
 | k::l,h,a=>by
  have d:=h k (oZ ..) a;have e:=zFS g c l (λx b=>h x (tZ _ b)) (a+(g k a).length);simp only [Qb,bZ,cZ,VF,gZ,vZ] at *;rw [Nat.mul_add,Nat.mul_add,Nat.mul_one];omega
theorem zMk (g:α->Nat->List I) (e:Int):∀ (l:List α),(∀ k ∈ l,∀ a,(g k a).length+2<=6 * r k)->∀ a,(chB g e l a).length<=6 * VF r l
 | [],_,a=>by simp [chB]
 | k::l,h,a=>by
  have c:=h k (oZ ..) (a+1);have d:=zMk g e l (λx b=>h x (tZ _ b)) (a+1+(g k (a+1)).length);simp only [chB,bZ,cZ,VF,gZ,vZ] at *;omega
theorem zB6 (q:α->Bool):∀ (l:List α),VF r (l.filter q)<=VF r l
 | []=>yZ _
 | k::l=>by
  have:=zB6 q l;by_cases h:q k=true
  ·rw [List.filter_cons_of_pos h];simp only [VF,gZ,vZ] at *;omega
  ·rw [List.filter_cons_of_neg h];simp only [VF,gZ,vZ] at *;omega
end
theorem zEH (n:Nat) (x:Wt.Nd) (ks:List (Tr n)):(row (n+1) (⟨x,ks⟩:Br (Tr n))).length=1+VF (λk=>(row n k).length) ks:=by
 show (x::(ks.map (row n)).flatten).length=_
 rw [cZ,List.length_flatten,VF,dY];rw [Nat.add_comm];rfl
theorem zEX:∀ (n:Nat) (t:Tr n),1<=(row n t).length
 | 0,t=>Empty.elim t
 | n+1,t=>by
  obtain ⟨x,ks⟩:Br (Tr n):=t;rw [zEH];omega
theorem zIQ (own:Int) (nm:List ByteArray):∀ (n:Nat) (t:Tr n) (a:Nat),(cod own nm n t a).length+2<=6 * (row n t).length
 | 0,t,_=>Empty.elim t
 | n+1,t,a=>by
  obtain ⟨x,ks⟩:Br (Tr n):=t;have d:=zIQ own nm n;have f:=zEX n;rw [zEH];show (JV own nm (hd n) (cod own nm n) x ks a).length+2<=_
  have b:∀ (l:List (Tr n)) (a:Nat),(Qb (cod own nm n) l a).length<=6 * VF (λk=>(row n k).length) l:=λl a=>by
   have:=zFS (λk=>(row n k).length) (cod own nm n) 2 l (λk _ a=>d k a) a;omega
  have i:∀ (l:List (Tr n)) (a:Nat),(Qb (JE (cod own nm n)) l a).length<=6 * VF (λk=>(row n k).length) l:=λl a=>by
   have:=zFS (λk=>(row n k).length) (JE (cod own nm n)) 1 l (λk _ a=>by have:=d k a;simp only [JE,bZ,cZ,dZ];omega) a;omega
  unfold JV;split
  ·simp;omega
  split
  ·simp;omega
  split
  ·have:=b ks a;simp only [bZ,cZ,dZ];omega
  split
  ·have:=b ks a;simp only [bZ,cZ,dZ];omega
  split
  ·unfold VH;simp only;split
   ·have:=b ks a;simp only [bZ,cZ,dZ];omega
   split
   ·have:=zFS (λk=>(row n k).length) (Jz own nm (hd n) (cod own nm n)) 1 ks (λk _ a=>by
     have o:=d k a;have g:=f k;unfold Jz;split
     ·simp;omega
     ·simp only [JE,bZ,cZ,dZ];omega) (a+1)
    simp only [bZ,cZ,dZ];omega
   split
   ·unfold VI;simp only;have q:=zB6 (λk=>(row n k).length) (λk=>!isA (hd n k)) ks;split
    ·simp;omega
    split
    ·simp;omega
    split
    ·have:=b (ks.filter (λk=>!isA (hd n k))) a;simp only [bZ,cZ,dZ];omega
    ·have:=i (ks.filter (λk=>!isA (hd n k))) (a+1);simp only [bZ,cZ,dZ];omega
   ·match ks with
    | []=>simp [Jx];omega
    | c::rr =>
     have o:=d c a;simp only [Jx,bZ];match rr with
     | [] =>
      simp only [VF,gZ,qZ,vZ,List.sum_nil];split
      ·simp [Ju];omega
      ·simp;omega
     | u::no =>
      simp only [VF,gZ,vZ];have e:=λa=>b no a
      simp only [VF] at e;have j:=λa=>d u a
      have p:=f u;split
      ·simp only [VC,cZ,bZ];have g:=j (a+(cod own nm n c a).length+1);split
       ·simp;omega
       ·have m:=e (a+(cod own nm n c a).length+1+(cod own nm n u (a+(cod own nm n c a).length+1)).length+1);omega
      ·split
       ·have g:=j (a+(cod own nm n c a).length+1);simp only [cZ];omega
       ·simp only [Ju,cZ,bZ];have g:=j (a+(cod own nm n c a).length+1);have m:=zMk (λk=>(row n k).length) (cod own nm n) ((a+(cod own nm n c a).length+1+(cod own nm n u (a+(cod own nm n c a).length+1)).length+(chB (cod own nm n) 0 no (a+(cod own nm n c a).length+1+(cod own nm n u (a+(cod own nm n c a).length+1)).length)).length:Nat):Int) no (λk _ a=>d k a) (a+(cod own nm n c a).length+1+(cod own nm n u (a+(cod own nm n c a).length+1)).length);simp only [VF] at m;omega
  ·simp;omega
end Go.Proofs.YtloponhikiddmaaGreatDoor.Wf
namespace Go.Proofs.YtloponhikiddmaaGreatDoor
open Tryz
open Go.RowKit Wf
variable {op:Oper} {a:Act}
theorem zLY {P:Program} {a:Act} (x y:Operand) (c:Array TypeId) (e:op.op=.call {callee:=.builtin .min,args:=#[x,y],argTypes:=c}) (i j k:Int) (f:a.eval x=O J i) (g:a.eval y=O J j) (d:(if j<i then j else i)=k) (w:wW):(execOp a.eval op).run P w=.ok (.value (O J k)) w:=by
 have b:=run_min_int2 (P:=P) (w:=w) c op.type J J i j;rw [d] at b;unfold execOp;simp only [e,resolve,invoke,builtin,rZ,sZ,iZ,nZ,gZ,qZ,f,g,b]
theorem zKE (s h:Operand) (f:op.op=.slice 49 s none (some h) none) (b:Option dW) (m cap q:Nat) (i:a.eval s=U b m cap) (e:a.eval h=O J (q:Int)) (o:q<=m) (l:m<=cap) (n:b=none->cap=0) (W:wW):(execOp a.eval op).run prog W=.ok (.value (U b q cap)) W:=by
 have c:prog.underlying 49=some (.slice (prog.elem 49)):=kR
 have j:(sizeOf (prog.elem 49)).run prog W=.ok 1 W:=kR
 have g:(Instr.sliceAt 49 (U b m cap) none (some (O J (q:Int))) none).run prog W=.ok (U b q cap) W:=by
  rw [run_sliceAt_slice W _ _ _ _ _ c,run_slice_h W _ _ _ _ c _ (q:Int) oM oM,j];have d:sliced b 0 q cap 1=U b q cap:=by
   unfold sliced;split
   ·rfl
   ·cases b <;> simp [Addr.add]
  rw [<-d];rfl
 unfold execOp;simp only [f,i,e,Option.map_some,Option.map_none,rZ,sZ,iZ,g]
theorem zPh (s r c:Int) (b:Option dW) (m cap:Nat) (w:wW) (q:Nat) (H:q=min m 16) (A:m<=cap) (C:b=none->cap=0):CR 83 #[gX #[O J s,O J r,O J c],U b m cap] w (Jk s b q cap):=by
 have F:hH ((if (16:Int)<(m:Int) then (16:Int) else (m:Int))=(q:Int)):=by show _=_;split <;> omega
 have g:hH (q<=m/\m<=cap):=⟨oM,A⟩
 have j:hH (b=none->cap=0):=C;have l:=QJ (QJ (hZ _ w) (Z #[O J s,O J r,O J c] 36)) (Z #[O J 0,U none 0 0] 155);have D:=(AtL.new0 w 36 [O J s,O J r,O J c]).alloc (Z #[O J 0,U none 0 0] 155);have n:=AtL.new1 w (Z #[O J s,O J r,O J c] 36) 155 [O J 0,U none 0 0];clear H A C;go_enter func83,ntmps83;go_upto_region 1 with fail
 generalize ((w.alloc (Z #[O J s,O J r,O J c] 36)).alloc (Z #[O J 0,U none 0 0] 155))=W at *;have e:=(hZ W.heap.size W).drew;have u:=(AtL.below e D).2.1 0 _ rfl;have f:=AtL.below e n;have y:=QA l e;clear e D n l;refine wp_region_held_drew (S:=λW=>W.cell? ⟨w.heap.size,0,none⟩=some (O J s)) kR u (λd=>?_);generalize W.drew=o at *;refine tkQ 0 ?_
 refine tkQ 1 ?_
 refine tkQ 2 ?_
 refine tkQ 3 ?_
 refine tkQ 4 ?_
 refine wpAnyH_take (i:=5) (v:=O J (q:Int)) (atQ rfl) kR kR kR (λ_ _ _ h=>h) (kZ ⟨by rfl,λW _=>zLY (mX 9) (.const (O J 16)) _ rfl (m:Int) 16 (q:Int) rfl rfl F.out W⟩) (by assumption) ?_;try simp only [Act.put,lA,lZ,lS]
 refine wpAnyH_take (i:=6) (v:=U b q cap) (atQ rfl) kR kR kR (λ_ _ _ h=>h) (kZ ⟨by rfl,λW _=>zKE (mX 7) (mX 10) rfl b m cap q rfl rfl g.out.1 g.out.2 j.out W⟩) (by assumption) ?_;try simp only [Act.put,lA,lZ,lS]
 refine tkQ 7 ?_
 have I:=f.2.1 0 _ rfl;have L:=f.2.1 1 _ rfl;have M:=f.2.2 0 sM;have N:=f.2.2 1 sM;refine rdQ 8 (λK z=>?_);go_simp
 have fr:=Qj (w.heap.size+1) [O J s,U b q cap] 0 o;have E:=f.setAll (vs:=[O J s,U b q cap]) rfl;have t:hH (((o.setCell ⟨w.heap.size+1,0,none⟩ (O J s)).setCell ⟨w.heap.size+1,1,none⟩ (U b q cap)).rangeAt (w.heap.size+1) 0 [O J s,U b q cap]):=E.range;have p:hH (bL w ((o.setCell ⟨w.heap.size+1,0,none⟩ (O J s)).setCell ⟨w.heap.size+1,1,none⟩ (U b q cap))):=zB5 y fr (λk G=>by simp at G;omega);refine hkQ z (fr.cell u sM) (λd=>?_);clear z K
 refine wpAnyH_done kR ?_ _;clear d fr E I L M N f y u;generalize ((o.setCell ⟨w.heap.size+1,0,none⟩ (O J s)).setCell ⟨w.heap.size+1,1,none⟩ (U b q cap))=P at *;go_wp2;refine bodyPost_ret (Q4 (by rfl) _ _ (w.heap.size+1) [O J s,U b q cap] _ (by rfl) t.out underlying155 rfl kR) rfl ⟨rfl,p.out⟩
open Go.RowKit
theorem zBZ (g:Option dW) (cap:Nat) (L:List Wt.Nd) (w:wW) (y:L.length<=9223372036854775807) (n:∀ x ∈ L,Wt.FitN x) (o:OpsAt w) (t:RdN w g L) :
  CR 46 #[U g L.length cap] w (O J (Wt.check L)):=by
 unfold Wt.check;by_cases h:256<L.length
 ·rw [if_pos h];have p:(256:Int)<(L.length:Int):=oM;go_enter func46,ntmps46;go_wp2;go_ret;exact ⟨rfl,hZ _ _⟩
 rw [if_neg h];have p:¬ (256:Int)<(L.length:Int):=oM;have M:=zL5 g cap L oM n (L.length+1) oM 0 w oM oM o t;rw [List.drop_zero] at M;have i:=zIS (L.length+1) L;cases b:Wt.one (L.length+1) L with
 | none =>
  rw [b] at M;clear i;go_enter func46,ntmps46;go_wp2_with fail
  refine M.mono ?_;rintro e m ⟨rfl,c⟩;simp only [MP];go_wp2;go_ret;exact ⟨rfl,c⟩
 | some q =>
  obtain ⟨s,d⟩:=q;rw [b] at M;have v:=zCk _ _ _ _ b;replace i:=i s d b
  simp only [MP,wZ] at M;simp only;by_cases u:s=L.length
  ·rw [if_neg oM];have l:((s:Int) == (L.length:Int))=true:=by rw [beq_iff_eq];omega
   have f:(s:Int)=(L.length:Int):=oM;by_cases hd:32<d
   ·rw [if_pos hd];have j:(32:Int)<(d:Int):=oM;go_enter func46,ntmps46;go_wp2_with fail
    refine M.mono ?_;rintro e m ⟨rfl,c⟩;go_wp2;go_ret;exact ⟨rfl,c⟩
   ·rw [if_neg hd];have j:¬ (32:Int)<(d:Int):=oM;go_enter func46,ntmps46;go_wp2_with fail
    refine M.mono ?_;rintro e m ⟨rfl,c⟩;go_wp2;go_ret;exact ⟨rfl,c⟩
  ·rw [if_pos u];have l:((s:Int) == (L.length:Int))=false:=by rw [beq_eq_false_iff_ne];omega
   have f:¬ (s:Int)=(L.length:Int):=oM;go_enter func46,ntmps46;go_wp2_with fail
   refine M.mono ?_;rintro e m ⟨rfl,c⟩;go_wp2;go_ret;exact ⟨rfl,c⟩
