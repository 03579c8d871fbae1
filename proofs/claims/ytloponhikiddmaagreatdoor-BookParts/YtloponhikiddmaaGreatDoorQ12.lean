/- Lemmas. -/
import Derived.Test.YtloponhikiddmaaGreatDoorQ11
import Derived.Shelf.Strings.Replace
import Derived.Shelf.LaysM
import Derived.Ground.NamesProg
import Derived.WalkSmall
import Derived.Shelf.Strings.BuilderK
import Derived.Laws.Slices
import Derived.Defers
import Derived.Recover
set_option maxHeartbeats 4000000
set_option maxRecDepth 100000
set_option linter.unusedVariables false
open List renaming length_cons->bZ,length_take->jZ,eq_nil_of_length_eq_zero->nZ,length_append->oZ,length_drop->qZ,isPrefixOf->sZ,mem_of_getElem?->vZ,map_cons->wZ,append_nil->cY,length_nil->dY,replicate->eY
open Nat renaming le_refl->cZ,zero_le->eZ,le_trans->gZ,not_lt_zero->mZ,lt_of_lt_of_le->yZ,lt_succ_self->bY,add_comm->gY,zero_add->hY,lt_or_ge->iY
open Go.RowKit.Below renaming refl->dZ
open Go.World renaming cell?_setCell_far->fZ,block_lt_of_cell?->iZ,there->zZ,iterPos->fY
open Bool renaming and_eq_true->hZ
open Int renaming gcd->kZ,le_refl->uZ
open Or renaming inl->pZ,inr->xZ
open ByteArray renaming mk->rZ,size_extract->tZ
open Go renaming World->wW,Value->vW,Calls->cW
open Go.Value renaming int->O,slice->U,string->V,bool->Y,pointer->pX,agg->gX,tuple->uX
open Go.IntKind renaming i64->J
open Go.Obj renaming cells->Z
open Go.Ending renaming returned->rX
open Go.Operand renaming tmp->mX
namespace Go.Proofs.YtloponhikiddmaaGreatDoor
open Tryz
variable {w w':wW} {lo n:Nat} {S:List Nat} {F:List (Wpl.Cl × Ct)} {old new l:List UInt8} {v:vW} {xs:List vW} {na:Option Addr} {nm:List ByteArray}
open Go.RowKit Wf
theorem zOY (n:Nat) (t:Tr n) (I x L cap:Nat) (w:wW) (P:Jw n t) (Q:L=(row n t).length) (hl:L<=300) (T:L<=cap) (R:RdN w (some ⟨I,x,none⟩) (row n t)):cW prog 84 #[U (some ⟨I,x,none⟩) L cap] w λe w'=>(∃ M,e=rX (gX (QP (hd n t) M).toArray)/\PA n w.heap.size w'.heap.size w' t M)/\bL w w':=by
 have C:AtL (w.alloc (Z zeros21 159)) w.heap.size zeros21.toList:=AtL.new0 w _ _;have r:=QJ (dZ _ w) (Z zeros21 159);have D:=zFV n t I x L cap [] _ P (by rw [cY];exact Q) hl T (by rw [cY];exact R.below r);unfold GrP at D;have q:=hid C;have z:=hid r;clear C r P Q hl T R;go_enter func84,ntmps84;go_upto_region 1 with fail
 generalize (w.alloc (Z zeros21 159))=N at *;go_wp2_with fail
 refine D.mono ?_;rintro e a ⟨⟨M,X,L2,C2,rfl,_,u,_,_⟩,s⟩;obtain ⟨b,c,d,rfl⟩:=u.slice;have g:zZ (a.alloc (Z zeros21 159)) a.heap.size 0 (QP (hd n t) (U b c d)).toArray.size:=(AtL.new0 a _ _:AtL (a.alloc (Z zeros21 159)) a.heap.size zeros21.toList).there;have p:Hid (AtL ((a.alloc (Z zeros21 159)).setCells a.heap.size 0 (QP (hd n t) (U b c d))) a.heap.size (QP (hd n t) (U b c d))):=(AtL.new0 a _ _:AtL (a.alloc (Z zeros21 159)) a.heap.size zeros21.toList).setAll rfl;have f:bL a ((a.alloc (Z zeros21 159)).setCells a.heap.size 0 (QP (hd n t) (U b c d))):=Qm (QJ (dZ _ a) _) (cZ _) _ 0;have m:Hid (PA n N.heap.size a.heap.size ((a.alloc (Z zeros21 159)).setCells a.heap.size 0 (QP (hd n t) (U b c d))) t (U b c d)/\a.heap.size<=((a.alloc (Z zeros21 159)).setCells a.heap.size 0 (QP (hd n t) (U b c d))).heap.size/\w.heap.size<N.heap.size):=⟨PA.kept (Kept.of_below f) n _ _ u,f.size,q.out.lt⟩
 have i:=hid (AtL.below f (AtL.below s q.out));have o:=hid (QA (QA z.out s) f);clear D u s f q z;obtain ⟨y,K⟩:=xV (hd n t)
 have HY:=hid K;rw [K] at g p m i o ⊢;clear K;go_upto_region 2 with (first | ((with_reducible refine wpList_store_mid ?_ 159 (mX 3) (mX 8) ?_ a.heap.size 0 (QP y (U b c d)).toArray ?_ ?_ ?_ ?_ ?_ ?_);rfl;rfl;rfl;rfl;exact g;kernel_rfl;exact Qt _ _ _ _))
 clear g;generalize ((a.alloc (Z zeros21 159)).setCells a.heap.size 0 (QP y (U b c d)))=A at *;have rI:=p.out.range;have g:zZ A w.heap.size 0 (QP y (U b c d)).toArray.size:=i.out.there;have pF:AtL (A.setCells w.heap.size 0 (QP y (U b c d))) w.heap.size (QP y (U b c d)):=i.out.setAll rfl;have H:=hid pF.range;have E:Hid (bL w (A.setCells w.heap.size 0 (QP y (U b c d)))):=Qm o.out (cZ _) _ 0;have G:Hid (Fr [w.heap.size] A (A.setCells w.heap.size 0 (QP y (U b c d)))):=Qj _ _ _ _;clear pF p i o;go_wp2_with (first | (refine QB (by rfl) 159 (mX 3) rfl a.heap.size 0 rfl (QP y (U b c d)) _ rI underlying159 rfl kR ?_) | ((with_reducible refine wpList_store_mid ?_ 159 (mX 2) (mX 10) ?_ w.heap.size 0 (QP y (U b c d)).toArray ?_ ?_ ?_ ?_ ?_ ?_);rfl;rfl;rfl;rfl;exact g;kernel_rfl;exact Qt _ _ _ _))
 obtain ⟨a1,a2,a3⟩:=m.out;have B:=G.out;refine bodyPost_ret (Q4 (by rfl) _ _ w.heap.size (QP y (U b c d)) _ (by rfl) H.out underlying159 rfl kR) rfl ⟨⟨_,by rw [HY.out],PA.wide (Nat.le_of_lt a3) (gZ a2 B.size) n _ _ (PA.kept (Kept.of_fr B (λj hj=>by simp at hj;omega)) n _ _ a1)⟩,E.out⟩
def FlP (E:Int) (C:List I) (w:wW) (e:Ending) (w':wW):Prop :=
 ((E ≠ 0/\e=rX (uX #[U none 0 0,O J E])) \/ (E=0/\∃ lv P,e=rX (uX #[lv,O J 0])/\OwnI w' w.heap.size lv P/\P.length=C.length/\(∀ i (h:i<P.length) (a:i<C.length),(P[i]).1=(C[i]).1/\OwnZ w' w.heap.size (P[i]).2 (C[i]).2)/\∀ i j (h:i<P.length) (a:j<P.length) b,(P[i]).2.ownBlock=some b->(P[j]).2.ownBlock=some b->i=j))/\bL w w'
def flE (own r c:Int) (nm:List ByteArray) (n:Nat) (t:Tr n):Int :=
 if Wpl.rightC own r c=false then 110 else if (nm.length:Int)<=own then 84
 else if Jv own (nm.take 16) n t ≠ 0 then Jv own (nm.take 16) n t else if isA (hd n t) then 82 else 0
def flC (own:Int) (nm:List ByteArray) (n:Nat) (t:Tr n):List I:=cod own (nm.take 16) n t 0++[ins 16 0 0]
theorem zDZ {a b:wW} (h:bL w a) (f:Fr S a b) (d:∀ k ∈ S,w.heap.size<=k):bL w b :=
 ((Fr.of_below [] h).new f (λk c=>xZ (d k c))).to_below sM
theorem zFJ {B C b k:Nat} (h:w.ownsRow C b k v n xs) (c:B<=C):w.ownsRow B b k v n xs:=by
 refine ⟨h.1,?_⟩;rcases h.2 with q | ⟨g,cap,a,e,d,q⟩
 ·exact pZ q
 ·exact xZ ⟨g,cap,a,e,gZ c d,q⟩
theorem RdS.take {c:Option Addr} {L:List ByteArray} (h:RdS w c L) (k:Nat):RdS w c (L.take k):=λi g=>by
 have a:i<L.length:=by rw [jZ] at g;omega
 obtain ⟨d,b,e,f⟩:=h i a;exact ⟨d,b,e,by rw [List.getElem_take];exact f⟩
theorem zRx (own:Int) (a:Option Addr) (m cap:Nat) (w:wW):(Instr.build 163 #[(0,Jk own a m cap)]).run prog w=.ok (gX #[O J own,U a m cap,U none 0 0]) w:=kR
theorem zEm {c:Array Oper} {b:List Oper} {d:Oper} {a:Act} {Q:Exit->Act->wW->Prop} (e:d.guard=none) (y:Operand) (i:d.op=.build 163 #[(0,y)]) (own:Int) (f:Option Addr) (m cap:Nat) (j:a.eval y=Jk own f m cap)
  (h:wpList prog c Q b (a.put d.dst (gX #[O J own,U f m cap,U none 0 0])) w):wpList prog c Q (d::b) a w:=by
 refine wpList_plain e λK g=>?_
 unfold Oper.wp execOp;simp only [i,List.map_toArray,wZ,List.map_nil,j,Sem.run_bind,Sem.run_pure,Result.andThen_ok,zRx];exact g _ _ h
theorem zK4 (n:Nat) (t:Tr n) (bb ag cap:Nat) (l:List Wt.Nd) (own r c:Int) (al:Option Addr) (nm:List ByteArray) (m3 d:Nat) (w:wW) (hF:∀ x ∈ l,Wt.FitN x) (hO:OpsAt w) (hN:NmAt w) (hr:RdN w (some ⟨bb,ag,none⟩) l) (hS:RdS w al nm) (hE:Wt.check l=0) (u:row n t=l) (hT:Jw n t) (hl:l.length<=256) (ad:l.length<=cap) (m:Nat) (hm:m=l.length) (T:m3=nm.length) (an:m3<=d) (aM:nm.length<=1000000) (aw:-9223372036854775808<=own/\own<=9223372036854775807) (aY:∀ q,q=(nm.take 16).length->RfT own (nm.take 16) al q d n t) (aX:∀ q,PtT own (nm.take 16) al q d n t) :
  cW prog 54 #[U (some ⟨bb,ag,none⟩) m cap,gX #[O J own,O J r,O J c],U al m3 d] w (FlP (flE own r c nm n t) (flC own nm n t) w):=by
 have a9:=hid aY;have a8:=hid aX;clear aY aX;have Q:=QJ (dZ _ w) (Z #[O J own,O J r,O J c] 36);have pC:=AtL.new0 w 36 [O J own,O J r,O J c];have CK:=zBZ (some ⟨bb,ag,none⟩) cap l _ oM hF (hO.below Q) (hr.below Q);rw [<-hm,hE] at CK;have P:Hid (∀ W:wW,CR 50 #[gX #[O J own,O J r,O J c]] W (Y (Wpl.rightC own r c))):=λW=>Qg own r c W
 have N:=hid pC;have ah:=hid Q;unfold flE;generalize hq:Wpl.rightC own r c=qr at *;have bc:=hid hq;clear hq;cases qr with
 | false =>
  rw [if_pos rfl];clear hF hO hN hr hS hE u hT hl ad hm T an aM aw Q pC;go_enter func54,ntmps54;go_upto_region 1 with fail
  generalize (w.alloc (Z #[O J own,O J r,O J c] 36))=W at *;go_wp2_with fail
  refine CK.mono ?_;rintro e w1 ⟨rfl,f⟩;have B:=AtL.below f N.out;obtain ⟨c0,c1,c2,_,_,_⟩:=B.three;have RI:=P.out w1;clear CK B N P;go_wp2_with fail
  refine RI.mono ?_;rintro e w2 ⟨rfl,p⟩;have L:=hid (QA (QA ah.out f) p);clear RI f p c0 c1 c2;go_wp2;go_ret2
  exact ⟨pZ ⟨oM,rfl⟩,L.out⟩
 | true =>
  rw [if_neg sM];by_cases ab:(nm.length:Int)<=own
  ·rw [if_pos ab];rw [<-T] at ab;clear hF hO hN hr hS hE u hT hl ad hm T an aM Q pC;go_enter func54,ntmps54;go_upto_region 1 with fail
   generalize (w.alloc (Z #[O J own,O J r,O J c] 36))=W at *;go_wp2_with fail
   refine CK.mono ?_;rintro e w1 ⟨rfl,f⟩;have B:=AtL.below f N.out;obtain ⟨c0,c1,c2,_,_,_⟩:=B.three;have RI:=P.out w1;clear CK N P;go_wp2_with fail
   refine RI.mono ?_;rintro e w2 ⟨rfl,p⟩;have d0:=QC p c0;have L:=hid (QA (QA ah.out f) p);clear RI f p c0 c1 c2 B;go_wp2;go_ret2
   exact ⟨pZ ⟨oM,rfl⟩,L.out⟩
  ·rw [if_neg ab];have bk:=Wpl.rightC_iff.1 bc.out;have a2:0<nm.length:=oM;obtain ⟨s,A,rfl,h9⟩:=hS 0 a2;have R:s<w.heap.size:=Q8 h9;obtain ⟨q,hq⟩:=xV (min m3 16)
   have aO:q=(nm.take 16).length:=by rw [jZ,<-hq,T,Nat.min_comm]
   have ax:(nm.take 16).length<=16:=by rw [jZ];omega
   have aS:Hid (∀ W:wW,CR 83 #[gX #[O J own,O J r,O J c],U (some ⟨s,A,none⟩) m3 d] W (Jk own (some ⟨s,A,none⟩) q d)):=λW=>zPh own r c _ m3 d W q hq.symm an (λh=>by cases h)
   have aD:Hid (∀ W:wW,bL w W->cW prog 84 #[U (some ⟨bb,ag,none⟩) m cap] W λe w'=>(∃ sl,e=rX (gX (QP (hd n t) sl).toArray)/\PA n W.heap.size w'.heap.size w' t sl)/\bL W w'):=λW hb=>zOY n t bb ag m cap W hT (by rw [u];exact hm) oM oM (by rw [u];exact hr.below hb)
   have aF:Hid (∀ (sl:vW) (lo hi:Nat) (W:wW),bL w W->PA n lo hi W t sl->CR 85 #[gX (QP (hd n t) sl).toArray,Jk own (some ⟨s,A,none⟩) q d] W (O J (Jv own (nm.take 16) n t))):=λsl lo hi W hb hp=>a9.out q aO sl lo hi W hT hp (hN.below hb) ((hS.take 16).below hb)
   have hG:2<w.heap.size:=Q8 (hN.cell (id:=0) oM oM);have a7:Hid (∀ (W:wW) (k hi:Nat),bL w W->w.heap.size<=k->hi<=k->k+1<=W.heap.size->En own (nm.take 16) (some ⟨s,A,none⟩) q d k (k+1) (λ_=>k+1) hi W):=λW k hi hb h1 h2 h3=>⟨hN.below hb,(hS.take 16).below hb,aO,ax,λb o e=>by cases e;omega,oM,h2,bY _,h3,λ_=>h3⟩
   have aU:Hid ((cod own (nm.take 16) n t 0).length<=900000):=by
    show _<=_
    have h7:=zIQ own (nm.take 16) n t 0;rw [u] at h7;omega
   have HT:=hid hT;have bp:Hid (flC own nm n t=cod own (nm.take 16) n t 0++[ins 16 0 0]):=rfl;have bo:¬ (m3:Int)<=own:=by rw [T];exact ab
   obtain ⟨rt,ao⟩:=xV (Jv own (nm.take 16) n t)
   obtain ⟨y,hy⟩:=xV (hd n t)
   have bd:=hid ao;have HY:=hid hy;rw [ao,hy] at aF;rw [hy] at aD;rw [ao,hy];obtain ⟨E,aH⟩:=xV (if rt ≠ 0 then rt else if isA y=true then 82 else 0:Int)
   have HE:=hid aH;rw [aH];clear aH;clear hF hO hN hr hS hE u hT hl ad hm T an aM Q pC ab bk a2 h9 R hq aO ax hG ao hy aw;go_enter func54,ntmps54;go_upto_region 1 with fail
   generalize (w.alloc (Z #[O J own,O J r,O J c] 36))=W at *;go_wp2_with fail
   refine CK.mono ?_;rintro e w1 ⟨rfl,f⟩;have B:=AtL.below f N.out;obtain ⟨c0,c1,c2,_,_,_⟩:=B.three;have RI:=P.out w1;clear CK N P;go_wp2_with fail
   refine RI.mono ?_;rintro e w2 ⟨rfl,p⟩;have a4:=AtL.below p B;clear c0 c1 c2 B RI;obtain ⟨c0,c1,c2,_,_,_⟩:=a4.three;have L:=hid (QA (QA ah.out f) p);have AT:=aS.out w2;clear f p ah aS;go_wp2_with fail
   refine AT.mono ?_;rintro e w3 ⟨rfl,aZ⟩;have az:=hid (QA L.out aZ);have OF:=aD.out w3 az.out;clear AT aZ L aD c0 c1 c2 a4;go_wp2_with fail
   refine OF.mono ?_;rintro e K ⟨⟨sl,rfl,aN⟩,a0⟩;obtain ⟨X,sb,sc,rfl⟩:=aN.slice;have aA:=hid (QA az.out a0);have aq:=hid aN;clear OF aN a0 az;have pS:AtL ((K.alloc (Z #[O J own,U (some ⟨s,A,none⟩) q d] 155)).alloc (Z zeros21 159)) K.heap.size [O J own,U (some ⟨s,A,none⟩) q d]:=(AtL.new0 K 155 [O J own,U (some ⟨s,A,none⟩) q d]).alloc (Z zeros21 159);have pQ:AtL ((K.alloc (Z #[O J own,U (some ⟨s,A,none⟩) q d] 155)).alloc (Z zeros21 159)) (K.heap.size+1) zeros21.toList:=AtL.new1 K _ 159 zeros21.toList;have a1:=QJ (QJ (dZ _ K) (Z #[O J own,U (some ⟨s,A,none⟩) q d] 155)) (Z zeros21 159);have ay:zZ ((K.alloc (Z #[O J own,U (some ⟨s,A,none⟩) q d] 155)).alloc (Z zeros21 159)) (K.heap.size+1) 0 (QP y (U X sb sc)).toArray.size:=pQ.there;have aQ:=pS.farAll (b:=K.heap.size+1) oM 0 (QP y (U X sb sc));have aP:=pQ.setAll (vs:=QP y (U X sb sc)) rfl;have am:=Qm a1 (Nat.le_succ _) (QP y (U X sb sc)) 0;obtain ⟨W6,aJ⟩:=xV (((K.alloc (Z #[O J own,U (some ⟨s,A,none⟩) q d] 155)).alloc (Z zeros21 159)).setCells (K.heap.size+1) 0 (QP y (U X sb sc)))
   rw [aJ] at aQ aP am;have ak:=hid aQ;have aj:=hid aP;have aB:=hid (QA aA.out am);have I:=hid (PA.kept (Kept.of_below am) n _ _ aq.out);have aW:=hid aJ;have be:=hid aA.out.size;clear pS pQ aQ aP a1 am aJ aA aq;go_upto_region 9 with ((with_reducible refine wpList_store_mid ?_ 159 (mX 10) (mX 33) ?_ (K.heap.size+1) 0 (QP y (U X sb sc)).toArray ?_ ?_ ?_ ?_ ?_ ?_);rfl;rfl;rfl;rfl;exact ay;kernel_rfl;exact Qt _ _ _ _)
   rw [aW.out];clear aW ay;obtain ⟨k4,aK⟩:∃ k,K.heap.size=k:=⟨_,rfl⟩
   rw [aK] at ak aj I be;simp only [aK];clear aK;have RF:=aF.out (U X sb sc) w3.heap.size k4 W6 aB.out I.out;have rP:=aj.out.range;have rS:=ak.out.range;clear aF;go_wp2_with (first | (refine QB (by rfl) 159 (mX 10) rfl (k4+1) 0 rfl (QP y (U X sb sc)) _ rP underlying159 rfl kR ?_) | (refine QB (by rfl) 155 (mX 9) rfl k4 0 rfl [O J own,U (some ⟨s,A,none⟩) q d] _ rS underlying155 rfl kR ?_))
   refine RF.mono ?_;rintro e w7 ⟨rfl,ac⟩;have ai:=hid (QA aB.out ac);have aV:=hid (AtL.below ac ak.out);have aE:=hid (AtL.below ac aj.out);have ar:=hid (PA.kept (Kept.of_below ac) n _ _ I.out);clear RF ac aB ak aj I rP rS;by_cases z:rt=0
   ·have IA:=zAR y (U X sb sc) w7;have rP:=aE.out.range;cases af:isA y with
    | true =>
     have C:=HE.out;rw [if_neg (by simp [z]),if_pos af] at C;rw [af] at IA;subst z;go_wp2_with (first | (refine QB (by rfl) 159 (mX 10) rfl (k4+1) 0 rfl (QP y (U X sb sc)) _ rP underlying159 rfl kR ?_))
     refine IA.mono ?_;rintro e H ⟨rfl,D⟩;have M:=hid (QA ai.out D);clear IA D rP;go_wp2;go_ret2
     exact ⟨pZ ⟨oM,by rw [<-C];rfl⟩,M.out⟩
    | false =>
     have C:=HE.out;rw [if_neg (by simp [z]),if_neg (by simp [af])] at C;rw [af] at IA;have bf:Hid (Wr own (nm.take 16) n t):=⟨HT.out,by rw [bd.out];exact z,by rw [HY.out];exact af⟩
     clear HE;subst z;subst C;go_wp2_with (first | (refine QB (by rfl) 159 (mX 10) rfl (k4+1) 0 rfl (QP y (U X sb sc)) _ rP underlying159 rfl kR ?_))
     refine IA.mono ?_;rintro e H ⟨rfl,D⟩;have M:=hid (QA ai.out D);have rS:=QG D aV.out.range;have aI:=AtL.below D aE.out;have au:=PA.kept (Kept.of_below D) n _ _ ar.out;have bh:k4+1<H.heap.size:=aI.lt;have R:=QJ (dZ _ H) (Z #[O J own,U (some ⟨s,A,none⟩) q d,U none 0 0] 163);have aC:=hid (QA M.out R);have a5:=QG R aI.range;have av:=PA.kept (Kept.of_below R) n _ _ au;have ae:H.heap.size+1<=(H.alloc (Z #[O J own,U (some ⟨s,A,none⟩) q d,U none 0 0] 163)).heap.size:=by rw [World.size_alloc];exact cZ _
     have EN:=a7.out _ H.heap.size k4 aC.out M.out.size oM ae;have G:WS H.heap.size (H.heap.size+1) (λ_=>H.heap.size+1) (H.alloc (Z #[O J own,U (some ⟨s,A,none⟩) q d,U none 0 0] 163)) (O J own) (U (some ⟨s,A,none⟩) q d) [] (U none 0 0) []:=⟨AtL.new0 H 163 _,OwnI.nil _ _,rfl,λi h=>absurd h (mZ _),λ_=>cZ _,λi j h=>absurd h (mZ _)⟩
     have PT:=a8.out q (U X sb sc) w3.heap.size k4 H.heap.size (H.heap.size+1) (λ_=>H.heap.size+1) _ [] (U none 0 0) [] bf.out av EN G (by have:=aU.out;simpa using this);rw [HY.out] at PT;clear IA D R rP aI au av EN G aV aE ar ai;go_upto_region 15 with (first | (refine QB (by rfl) 155 (mX 9) rfl k4 0 rfl [O J own,U (some ⟨s,A,none⟩) q d] _ rS underlying155 rfl kR ?_) | (refine zEm rfl (mX 42) rfl own (some ⟨s,A,none⟩) q d rfl ?_;clear rS))
     generalize (H.alloc (Z #[O J own,U (some ⟨s,A,none⟩) q d,U none 0 0] 163))=W9 at *;have aa:=hid (And.intro M.out.size ae);clear M ae bh;obtain ⟨k8,aL⟩:∃ k,H.heap.size=k:=⟨_,rfl⟩
     rw [aL] at aa PT;simp only [aL];clear aL;go_wp2_with (first | (refine QB (by rfl) 159 (mX 10) rfl (k4+1) 0 rfl (QP y (U X sb sc)) _ a5 underlying159 rfl kR ?_))
     refine PT.mono ?_;rintro e bn ⟨⟨a3,P1,rfl,aR,bi⟩,aG⟩;have aT:=hid (zDZ aC.out aG (λj hj=>by
      have:=aa.out.1;simp [Value.ownBlock] at hj;omega))
     have LA:=Qy k8 (k8+1) (λ_=>k8+1) (ins 16 0 0).1 _ _ _ a3 P1 bn aR (bY _) (gZ aa.out.2 aG.size) (by have:=aU.out;simp only [List.nil_append,dY];omega);have ba:Hid (∀ g,a3.ownBlock=some g->k8+1<=g):=λg e=>(QM aR.own e).1
     clear PT a5 aR bi aG aC;go_wp2_with fail
     refine LA.mono ?_;rintro e br ⟨⟨bm,P2,rfl,ap,bj⟩,fr2⟩;have a6:=hid (zDZ aT.out fr2 (λj hj=>by
      have h1:=aa.out.1;rcases List.mem_cons.1 hj with q | q
      ·omega
      ·have:=ba.out j (by simpa using q);omega))
     have bl:∃ a b c,bm=U a b c:=by
      rcases ap.own.2 with ⟨q,_⟩ | ⟨g,c,bq,q,_⟩
      ·exact ⟨_,_,_,q⟩
      ·exact ⟨_,_,_,q⟩
     obtain ⟨la,lb,lc,rfl⟩:=bl;obtain ⟨_,_,c2,_,_,_⟩:=ap.at'.three;have bg:=hid ap;clear LA ap bj fr2 aT;go_wp2_with fail
     go_ret2
     have G:=bg.out;have hk:=aa.out.1;exact ⟨xZ ⟨rfl,_,P2,rfl,zFJ G.own oM,G.len,λi h h'=>⟨(G.ins i h h').1,zFJ (G.ins i h h').2 oM⟩,G.dis⟩,a6.out⟩
   ·have C:=HE.out;rw [if_pos z] at C;clear HE;go_wp2;go_ret2
    exact ⟨pZ ⟨oM,by rw [<-C];rfl⟩,ai.out⟩
theorem zFR (n:Nat) (t:Tr n) (j d cap:Nat) (l:List Wt.Nd) (own r c:Int) (b:Option Addr) (nm:List ByteArray) (i a:Nat) (w:wW) (y:∀ x ∈ l,Wt.FitN x) (A:OpsAt w) (z:NmAt w) (H:RdN w (some ⟨j,d,none⟩) l) (B:RdS w b nm) (u:Wt.check l=0) (g:row n t=l) (C:Jw n t) (D:l.length<=256) (e:l.length<=cap) (m:Nat) (E:m=l.length) (p:i=nm.length) (o:i<=a) (s:nm.length<=1000000) (f:-9223372036854775808<=own/\own<=9223372036854775807) :
  cW prog 54 #[U (some ⟨j,d,none⟩) m cap,gX #[O J own,O J r,O J c],U b i a] w (FlP (flE own r c nm n t) (flC own nm n t) w) :=
 zK4 n t j d cap l own r c b nm i a w y A z H B u g C D e m E p o s f (λq G=>zBj own (nm.take 16) b q a G (by rw [jZ];omega) n t) (λq=>zFa own (nm.take 16) b q a n t)
structure Ce where
 t:ByteArray
 c:List I
abbrev ce0:Ce:=⟨⟨#[]⟩,[]⟩
def CdP (w:wW) (lo:Nat) (v:vW) (C:List I):Prop:=∃ P,OwnI w lo v P/\P.length=C.length/\∀ i (h:i<P.length) (a:i<C.length),(P[i]).1=(C[i]).1/\OwnZ w lo (P[i]).2 (C[i]).2
theorem CdP.nil (w:wW) (lo:Nat):CdP w lo (U none 0 0) []:=⟨[],OwnI.nil _ _,rfl,λi h=>absurd h (mZ _)⟩
theorem CdP.fr (j:Fr S w w') {lo:Nat} {v:vW} {C:List I} (h:CdP w lo v C) (m:∀ k ∈ S,k<lo):CdP w' lo v C:=by
 obtain ⟨P,f,o,c⟩:=h;refine ⟨P,Q2 j f (λg e d=>?_),o,λi a b=>⟨(c i a b).1,Q2 j (c i a b).2 (λg e d=>?_)⟩⟩
 ·have:=(QM f e).1;have:=m g d;omega
 ·have:=(QM (c i a b).2 e).1;have:=m g d;omega
theorem zFF {base a:Nat} {e:TypeId} {size:Nat} (h:w.ownsRow base e size v n xs) (b:a<=base):w.ownsRow a e size v n xs :=
 ⟨h.1,h.2.imp id λ⟨g,cap,cur,h1,h2,h3⟩=>⟨g,cap,cur,h1,gZ b h2,h3⟩⟩
theorem CdP.mono {c:Nat} {C:List I} (h:CdP w lo v C) (e:c<=lo):CdP w c v C:=by
 obtain ⟨P,f,g,d⟩:=h;exact ⟨P,zFF f e,g,λi a b=>⟨(d i a b).1,zFF (d i a b).2 e⟩⟩
def CeP (w:wW) (lo:Nat) (f:Ct) (g:Ce):Prop:=f.t=g.t/\CdP w lo f.v g.c
theorem CeP.zero (w:wW) (lo:Nat):CeP w lo ct0 ce0:=⟨rfl,CdP.nil w lo⟩
def Mt (w:wW) (lo:Nat):List (Wpl.Cl × Ct)->List (Wpl.Cl × Ce)->Prop
 | [],[]=>True
 | f::F,g::G=>(f.1=g.1/\CeP w lo f.2 g.2)/\Mt w lo F G
 | [],_::_=>False
 | _::_,[]=>False
theorem Mt.fr {S:List Nat} {w w':wW} (a:Fr S w w') {lo:Nat} (b:∀ k ∈ S,k<lo):∀ {F:List (Wpl.Cl × Ct)} {G:List (Wpl.Cl × Ce)},Mt w lo F G->Mt w' lo F G
 | [],[],_=>trivial
 | f::F,g::G,h=>⟨⟨h.1.1,h.1.2.1,h.1.2.2.fr a b⟩,Mt.fr a b h.2⟩
 | [],_::_,h=>h.elim
 | _::_,[],h=>h.elim
theorem Mt.len {w:wW} {lo:Nat}:∀ {F:List (Wpl.Cl × Ct)} {G:List (Wpl.Cl × Ce)},Mt w lo F G->F.length=G.length
 | [],[],_=>rfl
 | f::F,g::G,h=>by rw [bZ,bZ,Mt.len h.2]
 | [],_::_,h=>h.elim
 | _::_,[],h=>h.elim
theorem Mt.keys {w:wW} {lo:Nat}:∀ {F:List (Wpl.Cl × Ct)} {G:List (Wpl.Cl × Ce)},Mt w lo F G->F.map (λp=>p.1)=G.map (λp=>p.1)
 | [],[],_=>rfl
 | f::F,g::G,h=>by rw [wZ,wZ,Mt.keys h.2,h.1.1]
 | [],_::_,h=>h.elim
 | _::_,[],h=>h.elim
theorem Mt.find {w:wW} {lo:Nat} (x:Wpl.Cl):∀ {F:List (Wpl.Cl × Ct)} {G:List (Wpl.Cl × Ce)} (i:Nat),Mt w lo F G->(fnB x F i=none/\fnB x G i=none) \/ ∃ k f g,fnB x F i=some (k,f)/\fnB x G i=some (k,g)/\CeP w lo f g
 | [],[],i,_=>pZ ⟨rfl,rfl⟩
 | f::F,g::G,i,h=>by
  unfold fnB;rw [h.1.1];cases eqB g.1 x with
  | true=>exact xZ ⟨i,f.2,g.2,rfl,rfl,h.1.2⟩
  | false=>exact Mt.find x (i+1) h.2
 | [],_::_,i,h=>h.elim
 | _::_,[],i,h=>h.elim
theorem Mt.set {w:wW} {lo:Nat} {x:Wpl.Cl} {f:Ct} {g:Ce} (c:CeP w lo f g):∀ {F:List (Wpl.Cl × Ct)} {G:List (Wpl.Cl × Ce)} (i:Nat),Mt w lo F G->Mt w lo (F.set i (x,f)) (G.set i (x,g))
 | [],[],i,_=>trivial
 | a::F,b::G,0,h=>⟨⟨rfl,c⟩,h.2⟩
 | a::F,b::G,i+1,h=>⟨h.1,Mt.set c i h.2⟩
 | [],_::_,i,h=>h.elim
 | _::_,[],i,h=>h.elim
theorem Mt.app {w:wW} {lo:Nat} {x:Wpl.Cl} {f:Ct} {g:Ce} (c:CeP w lo f g):∀ {F:List (Wpl.Cl × Ct)} {G:List (Wpl.Cl × Ce)},Mt w lo F G->Mt w lo (F++[(x,f)]) (G++[(x,g)])
 | [],[],_=>⟨⟨rfl,c⟩,trivial⟩
 | a::F,b::G,h=>⟨h.1,Mt.app c h.2⟩
 | [],_::_,h=>h.elim
 | _::_,[],h=>h.elim
theorem Mt.ers {w:wW} {lo:Nat}:∀ {F:List (Wpl.Cl × Ct)} {G:List (Wpl.Cl × Ce)} (i:Nat),Mt w lo F G->Mt w lo (F.eraseIdx i) (G.eraseIdx i)
 | [],[],i,_=>trivial
 | a::F,b::G,0,h=>h.2
 | a::F,b::G,i+1,h=>⟨h.1,Mt.ers i h.2⟩
 | [],_::_,i,h=>h.elim
 | _::_,[],i,h=>h.elim
theorem Mt.put {G:List (Wpl.Cl × Ce)} (h:Mt w lo F G) (x:Wpl.Cl) {f:Ct} {g:Ce} (e:CeP w lo f g):Mt w lo (VU x f F) (VU x g G):=by
 unfold VU;rcases h.find x 0 with ⟨c,d⟩ | ⟨k,a,b,c,d,_⟩
 ·rw [c,d];exact h.app e
 ·rw [c,d];exact h.set e k
theorem Mt.del {G:List (Wpl.Cl × Ce)} (h:Mt w lo F G) (x:Wpl.Cl):Mt w lo (V4 x F) (V4 x G):=by
 unfold V4;rcases h.find x 0 with ⟨c,d⟩ | ⟨k,a,b,c,d,_⟩
 ·rw [c,d];exact h
 ·rw [c,d];exact h.ers k
def gtE (x:Wpl.Cl) (G:List (Wpl.Cl × Ce)):Ce:=((fnB x G 0).map (λq=>q.2)).getD ce0
theorem Mt.get {G:List (Wpl.Cl × Ce)} (h:Mt w lo F G) (x:Wpl.Cl):CeP w lo (gtC x F) (gtE x G)/\gtH x F=(fnB x G 0).isSome:=by
 unfold gtC gtE gtH;rcases h.find x 0 with ⟨c,d⟩ | ⟨k,a,b,c,d,e⟩
 ·rw [c,d];exact ⟨CeP.zero w lo,rfl⟩
 ·rw [c,d];exact ⟨e,rfl⟩
theorem J7 {G:List (Wpl.Cl × Ce)} {x:Wpl.Cl}:gtE x G=ce0 \/ (x,gtE x G) ∈ G:=by
 unfold gtE;cases b:fnB x G 0 with
 | none=>exact pZ rfl
 | some q =>
  obtain ⟨j,c,a⟩:=Jy x G 0 q b;exact xZ (vZ a)
theorem zCP {G:List (Wpl.Cl × Ce)} (h:KB G) {x:Wpl.Cl} {e:Ce} (a:(x,e) ∈ G):gtE x G=e:=by
 unfold gtE;cases b:fnB x G 0 with
 | none=>exact absurd rfl (zAp x G 0 b _ a)
 | some q =>
  obtain ⟨j,d,c⟩:=Jy x G 0 q b;exact h.one (vZ c) a
structure BK (w:wW) (bb mb lo:Nat) (na:Option Addr) (nk:Nat) (nm:List ByteArray) (ver:Int) (G:List (Wpl.Cl × Ce)):Prop where
 hd:AtL w bb [U na nm.length nk,O J ver,.map (some mb)]
 rs:RdS w na nm
 kp:nm.length<=nk
 nb:∀ g o,na=some ⟨g,o,none⟩->g ≠ bb/\g ≠ mb
 mp:∃ F,MB w mb F/\Mt w lo F G
 lt:bb<lo/\mb<lo/\lo<=w.heap.size
 ne:bb ≠ mb
theorem MB.fr {b:Nat} (h:MB w b F) (g:Fr S w w') (i:b ∉ S):MB w' b F:=by
 have a:=h.lt;obtain ⟨d,c,e,f⟩:=h;exact ⟨d,c,by rw [g.block b a i];exact e,f⟩
theorem RdS.fr (h:RdS w na nm) (d:Fr S w w') (f:∀ g o,na=some ⟨g,o,none⟩->g ∉ S):RdS w' na nm:=λi hi=>by
 obtain ⟨b,a,e,c⟩:=h i hi;exact ⟨b,a,e,d.cell c (f b a e)⟩
theorem BK.below {c d:Nat} {e:Nat} {b:Int} {G:List (Wpl.Cl × Ce)} (h:BK w c d lo na e nm b G) (a:bL w w'):BK w' c d lo na e nm b G:=by
 obtain ⟨F,f,g⟩:=h.mp;exact ⟨AtL.below a h.hd,RdS.fr h.rs (Fr.of_below [] a) sM,h.kp,h.nb,⟨F,f.fr (Fr.of_below [] a) sM,g.fr (Fr.of_below [] a) sM⟩,⟨h.lt.1,h.lt.2.1,gZ h.lt.2.2 a.size⟩,h.ne⟩
theorem Mt.mono {w:wW} {lo a:Nat} (b:a<=lo):∀ {F:List (Wpl.Cl × Ct)} {G:List (Wpl.Cl × Ce)},Mt w lo F G->Mt w a F G
 | [],[],_=>trivial
 | f::F,g::G,h=>⟨⟨h.1.1,h.1.2.1,h.1.2.2.mono b⟩,Mt.mono b h.2⟩
 | [],_::_,h=>h.elim
 | _::_,[],h=>h.elim
open Go.RowKit
def Jh (n:Nat) (x:Wpl.Cl):Bool:=Wpl.rightC x.s x.r x.c && decide (x.s<(n:Int))
theorem zMC (y E:Nat) (na:Option Addr) (A B:Nat) (C:Int) (x:Wpl.Cl) (w:wW) (h:AtL w y [U na A B,O J C,.map (some E)]) :
  CR 36 #[pX (some ⟨y,0,none⟩),gX #[O J x.s,O J x.r,O J x.c]] w (Y (Jh A x)):=by
 have u:=λW=>Qg x.s x.r x.c W
 have t:=QJ (dZ _ w) (Z #[O J x.s,O J x.r,O J x.c] 36);have p:=AtL.f3 (AtL.new0 w 36 [O J x.s,O J x.r,O J x.c]);obtain ⟨g,_,_,_⟩:=(AtL.below t h).three;have m:=hid t;clear h t;unfold Jh;cases z:Wpl.rightC x.s x.r x.c with
 | false =>
  rw [z] at u;clear z;go_enter func36,ntmps36;go_upto_region 1 with fail
  generalize w.alloc (Z #[O J x.s,O J x.r,O J x.c] 36)=o at *;have f:JI o w.heap.size (O J x.s) (O J x.r) (O J x.c):=p;clear p;have b:=(dZ o.heap.size o).drew;refine wp_region_held_drew (S:=λW=>W.cell? ⟨y,0,none⟩=some (U na A B)/\JI W w.heap.size (O J x.s) (O J x.r) (O J x.c)) kR ⟨QC b g,QH b f⟩ (λa=>?_);have i:=hid (QA m.out b);replace f:=QH b f
  replace g:=QC b g
  clear b m;generalize o.drew=D at *;refine tkQ 0 ?_
  refine rdQ 1 (λK j=>?_);go_simp
  refine (u _).mono ?_;rintro e G ⟨rfl,d⟩;have q:=hid (QA i.out d);replace f:=QH d f
  replace g:=QC d g
  clear d i u;go_wp2_with fail
  refine hkQ j ⟨g,f⟩ (λa=>?_);clear j K
  refine tkQ 2 ?_
  refine tnQ 3 ?_
  refine tnQ 4 ?_
  refine tnQ 5 ?_
  refine tnQ 6 ?_
  refine tnQ 7 ?_
  refine tnQ 8 ?_
  refine tnQ 9 ?_
  refine tnQ 10 ?_
  refine tkQ 11 ?_
  refine rdQ 12 (λK j=>?_);go_simp
  refine hkQ j ⟨g,f⟩ (λa=>?_);clear j K
  refine wpAnyH_done kR ?_ _;clear a;go_wp2;go_ret;exact ⟨rfl,q.out⟩
 | true =>
  rw [z] at u;clear z;go_enter func36,ntmps36;go_upto_region 1 with fail
  generalize w.alloc (Z #[O J x.s,O J x.r,O J x.c] 36)=o at *;have f:JI o w.heap.size (O J x.s) (O J x.r) (O J x.c):=p;clear p;have b:=(dZ o.heap.size o).drew;refine wp_region_held_drew (S:=λW=>W.cell? ⟨y,0,none⟩=some (U na A B)/\JI W w.heap.size (O J x.s) (O J x.r) (O J x.c)) kR ⟨QC b g,QH b f⟩ (λa=>?_);have i:=hid (QA m.out b);replace f:=QH b f
  replace g:=QC b g
  clear b m;generalize o.drew=D at *;refine tkQ 0 ?_
  refine rdQ 1 (λK j=>?_);go_simp
  refine (u _).mono ?_;rintro e G ⟨rfl,d⟩;have q:=hid (QA i.out d);replace f:=QH d f
  replace g:=QC d g
  clear d i u;go_wp2_with fail
  refine hkQ j ⟨g,f⟩ (λa=>?_);clear j K
  refine tkQ 2 ?_
  refine tkQ 3 ?_
  refine tkQ 4 ?_
  refine tkQ 5 ?_
  refine tkQ 6 ?_
  refine tkQ 7 ?_
  refine tkQ 8 ?_
  refine tkQ 9 ?_
  refine tkQ 10 ?_
  refine tkQ 11 ?_
  refine rdQ 12 (λK j=>?_);go_simp
  refine hkQ j ⟨g,f⟩ (λa=>?_);clear j K
  refine wpAnyH_done kR ?_ _;clear a;go_wp2;go_ret;exact ⟨rfl,q.out⟩
theorem zCL (b:ByteArray) (i:Nat) (h:i<b.size) (f:128<=(b[i]).toNat):1<=(Utf8.decode b i).2/\i+(Utf8.decode b i).2<=b.size/\∀ j,i<=j->(q:j<b.size)->j<i+(Utf8.decode b i).2->128<=(b[j]).toNat:=by
 have g:∀ k (d:i+k<b.size),(b.get! (i+k))=b[i+k]:=by
  intro k d;simp [ByteArray.get!,getElem!_pos,d];rfl
 have p:=g 0 h;have r:¬ (b[i+0]).toNat<128:=by simpa using f
 have one:i+1<=b.size/\∀ j,i<=j->(q:j<b.size)->j<i+1->128<=(b[j]).toNat:=⟨h,λj c e m=>by
  obtain rfl:j=i:=oM;exact f⟩
 have two:∀ k,(decide (i+k<b.size) && (b.get! (i+k)).toNat / 64 == 2)=true->∃ d:i+k<b.size,128<=(b[i+k]).toNat:=by
  intro k d;simp only [hZ,decide_eq_true_eq,beq_iff_eq] at d;obtain ⟨c,e⟩:=d;rw [g k c] at e;exact ⟨c,oM⟩
 simp only [Utf8.decode,p,r,if_false];split
 ·rename_i a
  simp only [hZ] at a;obtain ⟨o,b1⟩:=two 1 (by simpa using a.2);split
  ·refine ⟨oM,oM,λj c e m=>?_⟩;have:j=i \/ j=i+1:=oM;rcases this with rfl | rfl
   ·exact f
   ·exact b1
  ·exact ⟨oM,one⟩
 ·split
  ·rename_i a
   simp only [hZ] at a;obtain ⟨o,b1⟩:=two 1 (by simpa using a.1.2);obtain ⟨s,b2⟩:=two 2 (by simpa using a.2);split
   ·refine ⟨oM,oM,λj c e m=>?_⟩;have:j=i \/ j=i+1 \/ j=i+2:=oM;rcases this with rfl | rfl | rfl
    ·exact f
    ·exact b1
    ·exact b2
   ·exact ⟨oM,one⟩
  ·split
   ·rename_i a
    simp only [hZ] at a;obtain ⟨o,b1⟩:=two 1 (by simpa using a.1.1.2);obtain ⟨s,b2⟩:=two 2 (by simpa using a.1.2);obtain ⟨t,b3⟩:=two 3 (by simpa using a.2);split
    ·refine ⟨oM,oM,λj c e m=>?_⟩;have:j=i \/ j=i+1 \/ j=i+2 \/ j=i+3:=oM;rcases this with rfl | rfl | rfl | rfl
     ·exact f
     ·exact b1
     ·exact b2
     ·exact b3
    ·exact ⟨oM,one⟩
   ·exact ⟨oM,one⟩
theorem zLe (b:ByteArray) (i:Nat):∀ n,i+n<=b.size->(∀ j,i<=j->(g:j<b.size)->j<i+n->¬ b[j]=34)->Wlx.quo true i (b.data.toList.drop i)=Wlx.quo true (i+n) (b.data.toList.drop (i+n)):=by
 intro n;induction n with
 | zero=>intro _ _;rfl
 | succ n e =>
  intro f d;rw [e oM (λj a b c=>d j a b oM),Qr b (i+n) oM,zMe (d (i+n) oM oM oM)];rfl
theorem zDs (b:ByteArray) (w:wW) (hs:b.size<=9223372036854775806):CR 143 #[V b] w (O J (Wlx.txtSz b.data.toList:Nat)):=by
 have g:=zAE b ⟨#[34]⟩ w oM;rw [zBD] at g;cases A:b.data.toList with
 | nil =>
  simp only [A] at g;go_enter func143,ntmps143;go_wp2_with fail
  refine g.mono ?_;rintro e D ⟨rfl,rfl⟩;go_wp2;go_ret;exact ⟨rfl,dZ _ _⟩
 | cons c t =>
  simp only [A] at g;by_cases G:c=34
  ·subst G;have N:Hid (Wlx.txtSz (34::t)=Wlx.quo false 0 (b.data.toList)):=by
    show _=_;rw [A,zCb];rfl
   obtain ⟨R,hR⟩:=xV (Wlx.txtSz (34::t))
   rw [hR] at N ⊢;clear A hR;go_enter func143,ntmps143;go_wp2_with fail
   refine g.mono ?_;rintro e D ⟨rfl,rfl⟩;go_wp2_with fail
   go_loopw [3] (λx wr=>∃ (q:Bool) (pos:Nat),x=Y q/\pos<=b.size/\wr.heap[w.heap.size]? = some (.stringIter b pos)/\Hid (R=Wlx.quo q pos (b.data.toList.drop pos))/\bL w wr) (λ_ wr=>b.size - wr.iterPos w.heap.size)
   case atStart=>exact ⟨false,0,rfl,eZ _,World.iter_heap w b 0,N,(dZ _ w).alloc (cZ _) _⟩
   case round =>
    obtain ⟨q,pos,rfl,hp,hit,f,L⟩:=hrel;by_cases a:pos<b.size
    ·have nx:=λM=>Lib.run_next_any_at (P:=prog) wr w.heap.size b pos M hit a
     have p:=λq=>Lib.iterAt_heap wr w.heap.size b pos q hit
     have y:=λq=>Lib.below_iterAt L (cZ w.heap.size) b q
     have hm:wr.iterPos w.heap.size=pos:=by simp [fY,hit]
     obtain ⟨C,d⟩:∃ C:Nat,(Utf8.decode b pos).1=C:=⟨_,rfl⟩
     obtain ⟨n,r⟩:∃ n:Nat,(Utf8.decode b pos).2=n:=⟨_,rfl⟩
     have B:(wr.iterAt w.heap.size b (pos+n)).iterPos w.heap.size=pos+n:=by simp [fY,p]
     have i:1<=n/\pos+n<=b.size/\(((C:Int) == 34)=true->b[pos]=34/\n=1)/\(((C:Int) == 34)=false->∀ j,pos<=j->(hj:j<b.size)->j<pos+n->¬ b[j]=34):=by
      rcases zB9 b pos a with ⟨h1,e⟩ | ⟨h1,e⟩
      ·rw [e] at d r;simp only at d r;subst r d;refine ⟨cZ _,a,λh=>⟨UInt8.toNat_inj.1 (by have:=beq_iff_eq.1 h;show _=34;omega),rfl⟩,λh j Q T X=>?_⟩;obtain rfl:j=pos:=oM;intro K;rw [K] at h;exact absurd h dM
      ·obtain ⟨D,w2,w3⟩:=zCL b pos a h1;rw [r] at D w2 w3;rw [d] at e;refine ⟨D,w2,λh=>by have:=beq_iff_eq.1 h;omega,λh j Q T X K=>?_⟩;have:=w3 j Q T X;rw [K] at this;exact absurd this dM
     obtain ⟨f1,I,f3,u⟩:=i;rw [d,r] at nx;have hi:=p (pos+n);have o:=y (pos+n);clear p y d r;cases m:((C:Int) == 34) with
     | true =>
      obtain ⟨s,rfl⟩:=f3 m;have E:Hid (R=Wlx.quo (!q) (pos+1) (b.data.toList.drop (pos+1))):=by
       show _=_;rw [f.out,Qr b pos a,s,zCb]
      clear f f3 u s;go_wp2_with fail
      go_roundw
      case rel=>exact ⟨!q,pos+1,rfl,I,hi,E,o⟩
      case measure=>rw [hm,B];omega
     | false =>
      cases q with
      | true =>
       have E:Hid (R=Wlx.quo true (pos+n) (b.data.toList.drop (pos+n))):=by
        show _=_;rw [f.out,zLe b pos n I (u m)]
       clear f f3 u;go_wp2_with fail
       go_roundw
       case rel=>exact ⟨true,pos+n,rfl,I,hi,E,o⟩
       case measure=>rw [hm,B];omega
      | false =>
       have E:Hid (R=pos):=by
        show _=_;rw [f.out,Qr b pos a,zHC (u m pos (cZ _) a oM)]
       clear f f3 u;go_wp2;go_ret;exact ⟨by rw [E.out];rfl,o⟩
    ·have nx:=λM=>Lib.run_next_end_at (P:=prog) wr w.heap.size b pos M hit a
     obtain rfl:pos=b.size:=oM;have E:Hid (R=if q then 0 else b.size):=by
      show _=_
      rw [f.out,JS b _ a];rfl
     clear f;cases q with
     | true =>
      have H:Hid (R=0):=by show _=_;rw [E.out];rfl
      clear E;go_wp2;go_ret;exact ⟨by rw [H.out];rfl,L⟩
     | false =>
      have H:Hid (R=b.size):=by show _=_;rw [E.out];rfl
      clear E;go_wp2;go_ret;exact ⟨by rw [H.out];rfl,L⟩
  ·have z:¬ (34:UInt8)=c:=λe=>G e.symm
   rw [decide_eq_false z] at g;have E:Hid (Wlx.txtSz (c::t)=0):=by show (if c=34 then _ else 0)=0;rw [if_neg G]
   clear A G z;go_enter func143,ntmps143;go_wp2_with fail
   refine g.mono ?_;rintro e D ⟨rfl,rfl⟩;go_wp2;go_ret;exact ⟨by rw [E.out];rfl,dZ _ _⟩
def zQ4 (a:List (List UInt8)):List vW:=a.map λn=>V ⟨n.toArray⟩
theorem zBK (b:ByteArray) (a:List (List UInt8)) (n:Nat) (w W:wW) (t:TypeId) (o:Obj) (f:W=w.alloc o) (j:o=Z (zQ4 a).toArray t) (m:b.size<=9223372036854775807) (g:n=a.length) (c:a.length<=100) (d:∀ x ∈ a,x.length<=100) :
  cW prog 145 #[V b,U (some ⟨w.heap.size,0,none⟩) n n] W λe w'=>e=rX (O J (Wlx.nameSz b.data.toList a:Nat))/\bL w w':=by
 subst f j;refine (zDp b w.heap.size a n _ m g c d (λi h=>?_)).mono ?_
 ·exact (AtL.new0 w t (zQ4 a)).2.1 i _ (by unfold zQ4;simp [h])
 ·rintro e p ⟨rfl,rfl⟩;exact ⟨rfl,(dZ _ w).alloc (cZ _) _⟩
theorem zEB (k:Nat) (b:ByteArray) (w:wW) (d:b.size<=9223372036854775806) (g:1<=k) (f:k<=5):CR 108 #[O J k,V b] w (O J (Wlx.sz k b.data.toList:Nat)):=by
 have:k=1 \/ k=2 \/ k=3 \/ k=4 \/ k=5:=oM;rcases this with rfl | rfl | rfl | rfl | rfl
 ·go_enter func108,ntmps108;go_wp2_with fail
  refine (zBz _ _ d).mono ?_;rintro e c ⟨rfl,a⟩;go_wp2;go_ret;exact ⟨rfl,a⟩
 ·go_enter func108,ntmps108;go_wp2_with fail
  refine (zDs _ _ d).mono ?_;rintro e c ⟨rfl,a⟩;go_wp2;go_ret;exact ⟨rfl,a⟩
 ·go_enter func108,ntmps108;go_wp2_with fail
  refine (zLy _ _ oM).mono ?_;rintro e c ⟨rfl,a⟩;go_wp2;go_ret;exact ⟨rfl,a⟩
 ·go_enter func108,ntmps108;go_wp2_with fail
  refine (zBK _ Wlx.faults 8 _ _ 9 _ rfl rfl oM rfl dM dM).mono ?_;rintro e c ⟨rfl,a⟩;go_wp2;go_ret;exact ⟨rfl,a⟩
 ·go_enter func108,ntmps108;go_wp2_with fail
  refine (zBK _ Wlx.marks 18 _ _ 9 _ rfl rfl oM rfl dM dM).mono ?_;rintro e c ⟨rfl,a⟩;go_wp2;go_ret;exact ⟨rfl,a⟩
open Go.Shelf Go.RowKit
def lays155_ren:Go.Shelf.Ren:=⟨fun | 155=>146 | 154=>174 | 138=>195 | 165=>196 | 143=>197 | 166=>198 | 197=>199 | 169=>200 | 195=>215 | 218=>216 | 240=>217 | 241=>218 | 219=>219 | 260=>220 | 276=>243 | 277=>244 | 217=>245 | 225=>246 | 224=>247 | 267=>248 | 266=>252 | 314=>253 | n=>n,fun | 9=>9 | 3=>3 | 4=>4 | 72=>285 | 0=>0 | 76=>288 | 105=>290 | 21=>21 | 5=>5 | 70=>282 | 20=>20 | 37=>283 | 75=>287 | 127=>310 | 164=>313 | 46=>93 | 119=>316 | 139=>319 | 138=>318 | 146=>368 | 51=>129 | 80=>292 | n=>n,fun | 1=>3 | 3=>4 | 4=>5 | n=>n⟩
theorem lays155:Go.Proofs.LaysM.n155 prog lays155_ren:={
 mixed:=kR
 f138:=func195.trans (congrArg some kR)
 f143:=func197.trans (congrArg some kR)
 f154:=func174.trans (congrArg some kR)
 f155:=func146.trans (congrArg some kR)
 f165:=func196.trans (congrArg some kR)
 f166:=func198.trans (congrArg some kR)
 f169:=func200.trans (congrArg some kR)
 f195:=func215.trans (congrArg some kR)
 f197:=func199.trans (congrArg some kR)
 f217:=func245.trans (congrArg some kR)
 f218:=func216.trans (congrArg some kR)
 f219:=func219.trans (congrArg some kR)
 f224:=func247.trans (congrArg some kR)
 f225:=func246.trans (congrArg some kR)
 f240:=func217.trans (congrArg some kR)
 f241:=func218.trans (congrArg some kR)
 f260:=func220.trans (congrArg some kR)
 f266:=func252.trans (congrArg some kR)
 f267:=func248.trans (congrArg some kR)
 f276:=func243.trans (congrArg some kR)
 f277:=func244.trans (congrArg some kR)
 f314:=func253.trans (congrArg some kR)
 t0:=underlying0
 a0:=Tryz.isAgg0
 z0:=Tryz.sizeOf0
 v0:=Tryz.zeroValue0
 t3:=underlying3
 a3:=Tryz.isAgg3
 z3:=Tryz.sizeOf3
 v3:=Tryz.zeroValue3
 t4:=underlying4
 a4:=Tryz.isAgg4
 z4:=Tryz.sizeOf4
 v4:=Tryz.zeroValue4
 t5:=underlying5
 a5:=Tryz.isAgg5
 z5:=Tryz.sizeOf5
 v5:=Tryz.zeroValue5
 t9:=underlying9
 a9:=Tryz.isAgg9
 z9:=Tryz.sizeOf9
 v9:=Tryz.zeroValue9
 t20:=underlying20
 a20:=Tryz.isAgg20
 z20:=Tryz.sizeOf20
 v20:=Tryz.zeroValue20
 t21:=underlying21
 a21:=Tryz.isAgg21
 z21:=Tryz.sizeOf21
 v21:=Tryz.zeroValue21
 t37:=underlying283
 a37:=Tryz.isAgg283
 z37:=Tryz.sizeOf283
 v37:=Tryz.zeroValue283
 t46:=underlying93
 a46:=Tryz.isAgg93
 z46:=Tryz.sizeOf93
 v46:=Tryz.zeroValue93
 t51:=underlying129
 a51:=Tryz.isAgg129
 z51:=Tryz.sizeOf129
 v51:=Tryz.zeroValue129
 t70:=underlying282
 a70:=Tryz.isAgg282
 z70:=Tryz.sizeOf282
 v70:=Tryz.zeroValue282
 t72:=underlying285
 a72:=Tryz.isAgg285
 z72:=Tryz.sizeOf285
 v72:=Tryz.zeroValue285
 t75:=underlying287
 a75:=Tryz.isAgg287
 z75:=Tryz.sizeOf287
 v75:=Tryz.zeroValue287
 t76:=underlying288
 a76:=Tryz.isAgg288
 z76:=Tryz.sizeOf288
 v76:=Tryz.zeroValue288
 t105:=underlying290
 a105:=Tryz.isAgg290
 z105:=Tryz.sizeOf290
 v105:=Tryz.zeroValue290
 t119:=underlying316
 a119:=Tryz.isAgg316
 z119:=Tryz.sizeOf316
 t127:=underlying310
 a127:=Tryz.isAgg310
 z127:=Tryz.sizeOf310
 v127:=Tryz.zeroValue310
 t138:=underlying318
 a138:=Tryz.isAgg318
 z138:=Tryz.sizeOf318
 v138:=Tryz.zeroValue318
 t139:=underlying319
 a139:=Tryz.isAgg319
 z139:=Tryz.sizeOf319
 v139:=Tryz.zeroValue319
 t146:=underlying368
 a146:=Tryz.isAgg368
 z146:=Tryz.sizeOf368
 v146:=Tryz.zeroValue368
 t164:=underlying313
 a164:=Tryz.isAgg313
 z164:=Tryz.sizeOf313
 v164:=Tryz.zeroValue313
 g1:=kR
 g3:=kR
 g4:=kR
 t80:=underlying292
 a80:=Tryz.isAgg292
 z80:=Tryz.sizeOf292
 v80:=Tryz.zeroValue292
 i0:=kR
 i3:=kR
 i4:=kR
 i5:=kR
 i9:=kR
 i20:=kR
 i21:=kR
 i37:=kR
 i46:=kR
 i51:=kR
 i70:=kR
 i72:=kR
 i75:=kR
 i76:=kR
 i80:=kR
 i105:=kR
 i127:=kR
 i138:=kR
 i139:=kR
 i146:=kR
 i164:=kR
 m1:=kR
 s1_3:=λw h=>Go.Proofs.cell_of_shapedOpen_int (zero:=#[O J 0]) (t:=3) h (of_decide_eq_true kR) kR rfl kR kR underlying3
 m3:=kR
 m4:=by kernel_rfl}
theorem zFl:Builder.Extra prog lays155_ren:={
 sizeBuilder:=kR
 liesBuilder:=kR
 t5:=underlying5
 a5:=Tryz.isAgg5
 z5:=Tryz.sizeOf5
 v5:=Tryz.zeroValue5
 infoByte:=kR
 cellsByte:=kR
 sizeByte:=kR
 neB5:=by decide}
def MaxAt (w:wW):Prop:=∃ m:Int,w.cell? ⟨lays155_ren.g 1,0,none⟩=some (O J m)
theorem MaxAt.below (h:MaxAt w) (b:bL w w'):MaxAt w':=by
 obtain ⟨m,a⟩:=h;exact ⟨m,(b.cell (p:=⟨lays155_ren.g 1,0,none⟩) (iZ _ _ a)).trans a⟩
theorem MaxAt.shaped (h:w.ShapedOpen prog):MaxAt w:=lays155.s1_3 w h
def rep (old new l:List UInt8):List UInt8:=Lib.replaceK old new (Lib.count l old) l
theorem zJi (c:old ≠ []) (h:old.isPrefixOf l=true):rep old new l=new++rep old new (l.drop old.length):=by
 have d:Lib.index l old=((0:Nat):Int):=by
  cases l with
  | nil=>cases old with | nil=>exact absurd rfl c | cons a b=>simp at h
  | cons b t=>unfold Lib.index;rw [if_pos h];rfl
 have e:=Lib.count_hit c d;unfold rep;rw [e,gY,Lib.replaceK_hit _ _ _ _ 0 d,hY];rfl
theorem zCR {t:List UInt8} {c:UInt8} (g:old ≠ []) (h:old.isPrefixOf (c::t)=false):rep old new (c::t)=c::rep old new t:=by
 have d:Lib.index (c::t) old=if Lib.index t old == -1 then -1 else Lib.index t old+1:=by
  conv=>lhs;unfold Lib.index
  rw [if_neg (by rw [h];decide)]
 unfold rep;by_cases j:Lib.index t old = -1
 ·rw [j,if_pos dM] at d;rw [Lib.count_miss d,Lib.count_miss j];rfl
 ·have o:=Lib.index_ge t old;obtain ⟨i,a⟩:∃ i:Nat,Lib.index t old=i:=⟨(Lib.index t old).toNat,oM⟩
  rw [a,if_neg (by first | (simp;done) | (simp;omega))] at d;have b:Lib.index (c::t) old=((i+1:Nat):Int):=by rw [d];omega
  have e:=Lib.count_hit g b;have m:=Lib.count_hit g a;have f:(c::t).drop (i+1+old.length)=t.drop (i+old.length):=by rw [show i+1+old.length=(i+old.length)+1 by omega];rfl
  rw [f] at e;rw [e,m,gY,Lib.replaceK_hit _ _ _ _ (i+1) b,Lib.replaceK_hit _ _ _ _ i a,f];rfl
theorem zCc (c:old ≠ []):rep old new []=[]:=by
 unfold rep;rw [Lib.count_miss (by cases old with | nil=>exact absurd rfl c | cons a b=>rfl)];rfl
theorem zIn (h:(old == new)=false):Lib.replaceAll l old new=rep old new l:=by
 unfold Lib.replaceAll Lib.replace rep Lib.replaceNum;rw [if_neg (by rw [h];decide),if_pos (pZ dM)]
theorem zHy:∀ (n:Nat) (l:List UInt8),l.length<=n->rep [34,34] [34] l=Wlx.undbl l:=by
 intro n;induction n with
 | zero=>intro l a;obtain rfl:=nZ (Nat.le_zero.1 a);exact zCc dM
 | succ n b =>
  intro l a;match l,a with
  | [],_=>exact zCc dM
  | [c],_=>rw [zCR dM (by simp [sZ]),zCc dM];rfl
  | c::d::t,a =>
   simp only [bZ] at a;have e:Wlx.undbl (c::d::t)=if c=34/\d=34 then 34::Wlx.undbl t else c::Wlx.undbl (d::t):=by conv=>lhs;unfold Wlx.undbl
   rw [e];by_cases h:c=34/\d=34
   ·obtain ⟨rfl,rfl⟩:=h;rw [zJi dM (by simp [sZ]),if_pos ⟨rfl,rfl⟩];show 34::rep [34,34] [34] t=_
    rw [b t oM]
   ·rw [zCR dM (by simp [sZ];intro f g;exact h ⟨f.symm,g.symm⟩),if_neg h,b (d::t) (by simp only [bZ];omega)]
theorem zAh (s old:ByteArray) (h:1<=old.size):Lib.countB s old<=s.size:=by
 have:=Lib.countB_mul_le old h s.size s (cZ _);have a:Lib.countB s old * 1<=Lib.countB s old * old.size:=Nat.mul_le_mul_left _ h;omega
theorem zEP (b:ByteArray) (w:wW) (a:MaxAt w) (d:b.size<=1048576):CR 146 #[V b,V ⟨#[34,34]⟩,V ⟨#[34]⟩] w (V ⟨(Wlx.undbl b.data.toList).toArray⟩):=by
 obtain ⟨m,a⟩:=a;have c:=zAh b ⟨#[34,34]⟩ dM;have h:=Any.strings_ReplaceAll {lays155 with} zFl b ⟨#[34,34]⟩ ⟨#[34]⟩ m w oM a dM (by show b.size+_ * 1<=_;omega);rw [zIn dM,zHy _ _ (cZ _)] at h;exact h
end Go.Proofs.YtloponhikiddmaaGreatDoor
namespace Wlx
theorem zAd:∀ (p l:List UInt8),begins p l=true->p.length<=l.length
 | [],_,_=>eZ _
 | _::_,[],h=>by simp [begins] at h
 | a::p,b::t,h=>by
  simp only [begins,hZ] at h;have:=zAd p t h.2;simp only [bZ];omega
theorem zDN (l:List UInt8) (a:List (List UInt8)):nameSz l a<=l.length:=by
 induction a with
 | nil=>exact eZ _
 | cons n r b =>
  unfold nameSz;split
  ·rename_i h;exact zAd n l h
  ·exact b
theorem zH9:∀ (l:List UInt8) (w:Bool) (i:Nat),quo w i l<=i+l.length
 | [],w,i=>by unfold quo;split <;> simp
 | c::t,w,i=>by
  unfold quo;split
  ·have:=zH9 t (!w) (i+1);simp only [bZ];omega
  ·split
   ·have:=zH9 t w (i+1);simp only [bZ];omega
   ·omega
theorem zLM (n:Nat) (l:List UInt8):numTl n l<=n+l.length:=by
 cases l with
 | nil=>exact cZ _
 | cons c t =>
  rw [numTl_cons];have:=runP_le dig t;split <;> simp only [bZ] <;> omega
theorem zJx (l:List UInt8):numSz l<=l.length:=by
 unfold numSz;split
 ·exact eZ _
 ·have a:=zLM (runP dig l) (l.drop (runP dig l));have b:=runP_le dig l;rw [qZ] at a;omega
theorem zLz (l:List UInt8):txtSz l<=l.length:=by
 cases l with
 | nil=>exact eZ _
 | cons c t =>
  show (if c=34 then quo true 1 t else 0)<=_
  split
  ·have:=zH9 t true 1;simp only [bZ];omega
  ·exact eZ _
theorem sz_le (k:Nat) (l:List UInt8):sz k l<=l.length:=by
 unfold sz;split
 ·exact zJx l
 split
 ·exact zLz l
 split
 ·exact runP_le _ l
 split
 ·exact zDN l _
 split
 ·exact zDN l _
 exact eZ _
def hit (l:List UInt8):Nat :=
 if 0<sz 1 l then 1 else if 0<sz 2 l then 2 else if 0<sz 3 l then 3 else if 0<sz 4 l then 4 else if 0<sz 5 l then 5 else 6
theorem hit_pos {l:List UInt8} (h:¬ hit l=6):0<sz (hit l) l:=by
 unfold hit at *;repeat' split
 all_goals first | assumption | (exfalso;apply h;simp_all)
theorem zQ6 (l:List UInt8):1<=hit l:=by unfold hit;(repeat' split) <;> omega
theorem hit_first {l:List UInt8} {k:Nat} (b:1<=k) (c:k<=5) (h:0<sz k l) (a:∀ j,1<=j->j<k->sz j l=0):hit l=k:=by
 have:k=1 \/ k=2 \/ k=3 \/ k=4 \/ k=5:=by omega
 unfold hit;rcases this with rfl | rfl | rfl | rfl | rfl
 ·rw [if_pos h]
 ·rw [a 1 (by omega) (by omega),if_neg (by omega),if_pos h]
 ·rw [a 1 (by omega) (by omega),if_neg (by omega),a 2 (by omega) (by omega),if_neg (by omega),if_pos h]
 ·rw [a 1 (by omega) (by omega),if_neg (by omega),a 2 (by omega) (by omega),if_neg (by omega),a 3 (by omega) (by omega),if_neg (by omega),if_pos h]
 ·rw [a 1 (by omega) (by omega),if_neg (by omega),a 2 (by omega) (by omega),if_neg (by omega),a 3 (by omega) (by omega),if_neg (by omega),a 4 (by omega) (by omega),if_neg (by omega),if_pos h]
theorem hit_none {l:List UInt8} (a:∀ j,1<=j->j<=5->sz j l=0):hit l=6:=by
 unfold hit;rw [a 1 (by omega) (by omega),if_neg (by omega),a 2 (by omega) (by omega),if_neg (by omega),a 3 (by omega) (by omega),if_neg (by omega),a 4 (by omega) (by omega),if_neg (by omega),a 5 (by omega) (by omega),if_neg (by omega)]
structure Tok where
 k:Nat
 t:List UInt8
 p:Nat
abbrev Res:=Sum (List Tok) (Nat × Nat)
abbrev Res.ok (ts:List Tok):Res:=.inl ts
abbrev Res.err (e p:Nat):Res:=.inr (e,p)
def Res.cons (t:Tok):Res->Res
 | .inl ts=>.inl (t::ts)
 | .inr x=>.inr x
def Res.pre:List Tok->Res->Res
 | [],r=>r
 | t::a,r=>Res.cons t (Res.pre a r)
theorem Res.pre_snoc (a:List Tok) (t:Tok) (r:Res):Res.pre (a++[t]) r=Res.pre a (Res.cons t r):=by
 induction a with
 | nil=>rfl
 | cons x a b=>exact congrArg (Res.cons x) b
theorem Res.pre_ok (a b:List Tok):Res.pre a (Res.ok b)=Res.ok (a++b):=by
 induction a with
 | nil=>rfl
 | cons x a c=>show Res.cons x _=_;rw [c];rfl
theorem Res.pre_err (a:List Tok) (e p:Nat):Res.pre a (Res.err e p)=Res.err e p:=by
 induction a with
 | nil=>rfl
 | cons x a b=>show Res.cons x _=_;rw [b];rfl
def VO:Nat->Nat->List UInt8->Res
 | 0,_,_=>Res.ok []
 | _+1,_,[]=>Res.ok []
 | f+1,p,c::t =>
  if c=32 then VO f (p+1) t
  else if hit (c::t)=6 then Res.err (if c=34 then 41 else 40) p
  else if runP prt ((c::t).take (sz (hit (c::t)) (c::t)))<sz (hit (c::t)) (c::t) then Res.err 40 (p+runP prt ((c::t).take (sz (hit (c::t)) (c::t))))
  else Res.cons ⟨hit (c::t),said (hit (c::t)) ((c::t).take (sz (hit (c::t)) (c::t))),p⟩ (VO f (p+sz (hit (c::t)) (c::t)) ((c::t).drop (sz (hit (c::t)) (c::t))))
theorem zAw (f p:Nat) (c:UInt8) (t:List UInt8):VO (f+1) p (c::t)=if c=32 then VO f (p+1) t
  else if hit (c::t)=6 then Res.err (if c=34 then 41 else 40) p
  else if runP prt ((c::t).take (sz (hit (c::t)) (c::t)))<sz (hit (c::t)) (c::t) then Res.err 40 (p+runP prt ((c::t).take (sz (hit (c::t)) (c::t))))
  else Res.cons ⟨hit (c::t),said (hit (c::t)) ((c::t).take (sz (hit (c::t)) (c::t))),p⟩ (VO f (p+sz (hit (c::t)) (c::t)) ((c::t).drop (sz (hit (c::t)) (c::t)))):=rfl
theorem zAl (f p:Nat):VO f p []=Res.ok []:=by cases f <;> rfl
theorem zJ1:∀ (f g p:Nat) (l:List UInt8),l.length<=f->l.length<=g->VO f p l=VO g p l:=by
 intro f;induction f with
 | zero =>
  intro g p l a d;obtain rfl:=nZ (Nat.le_zero.1 a);rw [zAl,zAl]
 | succ f e =>
  intro g p l a d;cases l with
  | nil=>rw [zAl,zAl]
  | cons c t =>
   simp only [bZ] at a d;obtain ⟨g,rfl⟩:∃ g',g=g'+1:=⟨g - 1,by omega⟩
   rw [zAw,zAw,e g (p+1) t (by omega) (by omega)];by_cases b:hit (c::t)=6
   ·rw [if_pos b,if_pos b]
   ·have:=hit_pos b;have i:((c::t).drop (sz (hit (c::t)) (c::t))).length<=t.length:=by
     rw [qZ];simp only [bZ];omega
    rw [e g (p+sz (hit (c::t)) (c::t)) ((c::t).drop (sz (hit (c::t)) (c::t))) (by omega) (by omega)]
def scan (p:Nat) (l:List UInt8):Res:=VO l.length p l
theorem scan_cons (p:Nat) (c:UInt8) (t:List UInt8):scan p (c::t)=if c=32 then scan (p+1) t
  else if hit (c::t)=6 then Res.err (if c=34 then 41 else 40) p
  else if runP prt ((c::t).take (sz (hit (c::t)) (c::t)))<sz (hit (c::t)) (c::t) then Res.err 40 (p+runP prt ((c::t).take (sz (hit (c::t)) (c::t))))
  else Res.cons ⟨hit (c::t),said (hit (c::t)) ((c::t).take (sz (hit (c::t)) (c::t))),p⟩ (scan (p+sz (hit (c::t)) (c::t)) ((c::t).drop (sz (hit (c::t)) (c::t)))):=by
 unfold scan;rw [bZ,zAw];by_cases a:hit (c::t)=6
 ·rw [if_pos a,if_pos a]
 ·have:=hit_pos a;have b:((c::t).drop (sz (hit (c::t)) (c::t))).length<=t.length:=by
   rw [qZ];simp only [bZ];omega
  rw [zJ1 t.length _ (p+sz (hit (c::t)) (c::t)) ((c::t).drop (sz (hit (c::t)) (c::t))) b (cZ _)]
theorem scan_nil (p:Nat):scan p []=Res.ok []:=rfl
theorem scan_blank (p:Nat) (t:List UInt8):scan p (32::t)=scan (p+1) t:=by
 rw [scan_cons,if_pos rfl]
theorem scan_none {p:Nat} {c:UInt8} {t:List UInt8} (h:¬ c=32) (a:hit (c::t)=6):scan p (c::t)=Res.err (if c=34 then 41 else 40) p:=by
 rw [scan_cons,if_neg h,if_pos a]
theorem scan_bad {p:Nat} {c:UInt8} {t:List UInt8} (h:¬ c=32) {k n:Nat} (d:hit (c::t)=k) (a:¬ k=6) (e:sz k (c::t)=n) (b:runP prt ((c::t).take n)<n):scan p (c::t)=Res.err 40 (p+runP prt ((c::t).take n)):=by
 subst d e;rw [scan_cons,if_neg h,if_neg a,if_pos b]
theorem scan_tok {p:Nat} {c:UInt8} {t:List UInt8} (h:¬ c=32) {k n:Nat} (d:hit (c::t)=k) (a:¬ k=6) (e:sz k (c::t)=n) (b:¬ runP prt ((c::t).take n)<n) :
  scan p (c::t)=Res.cons ⟨k,said k ((c::t).take n),p⟩ (scan (p+n) ((c::t).drop n)):=by
 subst d e;rw [scan_cons,if_neg h,if_neg a,if_neg b]
end Wlx
namespace Go.Proofs.YtloponhikiddmaaGreatDoor
open Tryz
open Go.Shelf Go.RowKit
variable {w w':wW}
theorem zIg (b:ByteArray) (w:wW) (a:MaxAt w) (i:2<=b.size) (j:b.size<=1048576):CR 111 #[O J 2,V b] w (V ⟨(Wlx.said 2 b.data.toList).toArray⟩):=by
 have d:(1:Int)<=(b.size:Int) - 1:=oM;have f:(b.size:Int) - 1<=(b.size:Int):=oM;have E:Hid (Wlx.undbl (b.extract 1 (b.size - 1)).data.toList=Wlx.said 2 b.data.toList):=by
  show _=_
  rw [Lib.extract_data];have:b.data.toList.length=b.size:=rfl;unfold Wlx.said;rw [if_pos rfl,this,show b.size - 1 - 1=b.size - 2 by omega]
 have R:=λw a=>zEP (b.extract 1 (b.size - 1)) w a (by rw [tZ];omega)
 rw [E.out] at R;clear E;generalize Wlx.said 2 b.data.toList=q at *;have g:((b.size:Int) - 1).toNat=b.size - 1:=oM;go_enter func111,ntmps111;go_wp2_with fail
 refine (R _ a).mono ?_;rintro e m ⟨rfl,c⟩;go_wp2;go_ret;exact ⟨rfl,c⟩
theorem zG4 (k:Nat) (b:ByteArray) (w:wW) (h:¬ k=2):CR 111 #[O J k,V b] w (V ⟨(Wlx.said k b.data.toList).toArray⟩):=by
 have a:((k:Int) != 2)=true:=by simp;omega
 have E:Hid ((⟨(Wlx.said k b.data.toList).toArray⟩:ByteArray)=b):=by
  show _=_;unfold Wlx.said;rw [if_neg h]
 clear h;rw [E.out];go_enter func111,ntmps111;go_wp2;go_ret;exact ⟨rfl,dZ _ _⟩
theorem zLs (k:Nat) (b:ByteArray) (w:wW) (c:MaxAt w) (a:k=2->2<=b.size) (d:b.size<=1048576):CR 111 #[O J k,V b] w (V ⟨(Wlx.said k b.data.toList).toArray⟩):=by
 by_cases h:k=2
 ·subst h;exact zIg b w c (a rfl) d
 ·exact zG4 k b w h
theorem zFE (b:ByteArray) (w:wW) (d:b.size<=9223372036854775807):cW prog 112 #[V b] w λe w'=>e=rX (O J (if Wlx.begins [34] b.data.toList then 41 else 40))/\w=w':=by
 have a:=zAE b ⟨#[34]⟩ w d;have e0:(⟨#[34]⟩:ByteArray).data.toList=[34]:=rfl;rw [e0] at a;cases c:Wlx.begins [34] b.data.toList with
 | true =>
  rw [c] at a;clear c;go_enter func112,ntmps112;go_wp2_with fail
  refine a.mono ?_;rintro e f ⟨rfl,rfl⟩;go_wp2;go_ret;exact ⟨rfl,rfl⟩
 | false =>
  rw [c] at a;clear c;go_enter func112,ntmps112;go_wp2_with fail
  refine a.mono ?_;rintro e f ⟨rfl,rfl⟩;go_wp2;go_ret;exact ⟨rfl,rfl⟩
def zQy (t:Wlx.Tok):List vW:=[O J t.k,V ⟨t.t.toArray⟩,O J t.p]
def Vu (ts:List Wlx.Tok):List vW:=ts.flatMap zQy
theorem zI4 (ts:List Wlx.Tok) (t:Wlx.Tok):Vu (ts++[t])=Vu ts++zQy t:=by simp [Vu]
theorem zNL:(prog.info? 203).map (λi=>(i.zero,i.size,i.bytes))=some (some (gX #[O J 0,V ⟨#[]⟩,O J 0]),3,32):=kR
abbrev V0 (w:wW) (base:Nat) (v:vW) (ts:List Wlx.Tok):Prop:=w.ownsRow base 203 3 v ts.length (Vu ts)
theorem zIt {B:Nat} {v:vW} {ts:List Wlx.Tok} (h:V0 w B v ts) (a:bL w w'):V0 w' B v ts :=
 h.kept (row:=none) ⟨a.os,a.tape,a.output,a.size,λk b _=>a.block k b⟩ (by cases v.ownBlock <;> simp)
def Qk (l:List UInt8):Wlx.Res:=if 1024<l.length then Wlx.Res.err 2 0 else Wlx.scan 0 l
def zCd (B:Nat) (r:Wlx.Res) (e:Ending) (w:wW):Prop :=
 match r with
 | .inl ts=>∃ v,e=rX (uX #[v,O J 0,O J 0])/\V0 w B v ts
 | .inr (c,p)=>e=rX (uX #[U none 0 0,O J c,O J p])
theorem zGa {row:Option Nat} (c:w.grownBy w' row) {k:Nat} {s:ByteArray} {pos:Nat} (b:w.heap[k]? = some (.stringIter s pos)) (a:some k ≠ row):w'.heap[k]? = some (.stringIter s pos):=by
 rw [c.block k (Array.getElem?_eq_some_iff.1 b).1 a];exact b
theorem zG3 (b:bL w w') {k:Nat} {s:ByteArray} {pos:Nat} (a:w.heap[k]? = some (.stringIter s pos)):w'.heap[k]? = some (.stringIter s pos):=by
 rw [b.block k (Array.getElem?_eq_some_iff.1 a).1];exact a
theorem zIM {c:UInt8} (h:Wlx.prt c=true):c.toNat<128:=by
 unfold Wlx.prt at h;simp at h;omega
theorem zFn {p:UInt8->Bool}:∀ (l:List UInt8),¬ Wlx.runP p l<l.length->∀ x ∈ l,p x=true
 | [],_,x,hx=>by cases hx
 | c::t,h,x,hx=>by
  cases a:p c with
  | false=>rw [Wlx.runP_neg a] at h;simp at h
  | true =>
   rw [Wlx.runP_pos a] at h;simp only [bZ] at h;rcases List.mem_cons.1 hx with rfl | hx
   ·exact a
   ·exact zFn t oM x hx
end Go.Proofs.YtloponhikiddmaaGreatDoor
namespace Wlx
structure TV where
 k:Int
 t:List UInt8
 p:Int
def tv (t:Tok):TV:=⟨t.k,t.t,t.p⟩
end Wlx
namespace Go.Proofs.YtloponhikiddmaaGreatDoor
open Tryz
open Go.Shelf Go.RowKit
open Go.RowKit
variable {w w' W:wW} {en:Int} {ts:List Wlx.TV}
def PSt (w:wW) (kp:Nat) (ts:List Wlx.TV) (en:Int):Prop :=
 ∃ (a:Option Addr) (cap:Nat),ts.length<=cap/\AtL w kp [U a ts.length cap,O J en] /\
  ∀ i (h:i<ts.length),∃ bb off,a=some ⟨bb,off,none⟩/\bb<kp/\w.cell? ⟨bb,off+i * 3,none⟩=some (O J (ts[i]).k)/\w.cell? ⟨bb,off+i * 3+1,none⟩=some (V ⟨(ts[i]).t.toArray⟩)/\w.cell? ⟨bb,off+i * 3+2,none⟩=some (O J (ts[i]).p)
theorem PSt.below {kp:Nat} (h:PSt w kp ts en) (a:bL w w'):PSt w' kp ts en:=by
 obtain ⟨c,cap,m,o,p⟩:=h;refine ⟨c,cap,m,o.below a,λi q=>?_⟩;obtain ⟨d,b,e,r,f,g,j⟩:=p i q;exact ⟨d,b,e,r,QC a f,QC a g,QC a j⟩
theorem QE (a:bL w w') (row:Option Nat):w.grownBy w' row:=⟨a.os,a.tape,a.output,a.size,λk b _=>a.block k b⟩
theorem QD {e f:wW} {row:Option Nat} (a:w.grownBy e row) (b:e.grownBy f row):w.grownBy f row :=
 ⟨b.os.trans a.os,b.tape.trans a.tape,b.output.trans a.output,gZ a.size b.size,λk c d=>(b.block k (yZ c a.size) d).trans (a.block k c d)⟩
def hd (ts:List Wlx.TV) (en:Int):Wlx.TV:=match ts with
 | []=>⟨0,[],en⟩
 | t::_=>t
def tkV (t:Wlx.TV):vW:=gX #[O J t.k,V ⟨t.t.toArray⟩,O J t.p]
theorem JJ (kp:Nat) (ts:List Wlx.TV) (en:Int) (w:wW) (h:PSt w kp ts en):CR 178 #[pX (some ⟨kp,0,none⟩)] w (tkV (hd ts en)):=by
 obtain ⟨z,cap,D,d,j⟩:=h;have o:=d.lt;obtain ⟨b,A,B,C⟩:=d.two;have x:¬ kp=w.heap.size:=oM;cases ts with
 | nil =>
  simp only [dY] at b;go_enter func178,ntmps178;go_wp2;refine bodyPost_ret (v:=gX #[O J 0,V ⟨#[]⟩,O J en]) (by simp [results,results178,go_sem, *]) rfl ⟨rfl,?_⟩;exact clA
 | cons t r =>
  obtain ⟨f,y,e,E,c,g,i⟩:=j 0 sM;subst e;have a:=iZ _ _ c;have u:¬ f=w.heap.size:=by simp only at a;omega
  simp only [List.getElem_cons_zero,Nat.zero_mul,Nat.add_zero] at c g i;obtain ⟨m,p⟩:=xV (r.length+1)
  simp only [bZ,p] at b;have q:((m:Int) == 0)=false:=by rw [beq_eq_false_iff_ne];omega
  have s:(0:Int)<(m:Int):=oM;go_enter func178,ntmps178;go_wp2;refine bodyPost_ret (v:=tkV t) (by simp [results,results178,go_sem,tkV, *]) rfl ⟨rfl,?_⟩;exact clA
def V6 (t:Wlx.TV) (m:List UInt8):Bool:=(t.k == 5) && (t.t == m)
theorem zA2 (t:Wlx.TV) (m:List UInt8) (w:wW):CR 260 #[tkV t,V ⟨m.toArray⟩] w (Y (V6 t m)):=by
 obtain ⟨k,x,p⟩:=t;unfold V6;show cW _ _ #[gX #[O J k,V ⟨x.toArray⟩,O J p],V ⟨m.toArray⟩] _ _
 simp only;by_cases b:k=5
 ·subst b;go_enter func260,ntmps260;go_wp2;go_ret;exact ⟨Qv sM,clA⟩
 ·have a:(k == 5)=false:=by simp [b]
  rw [a];go_enter func260,ntmps260;go_wp2;go_ret;exact ⟨rfl,clA⟩
def fol (ts:List Wlx.TV) (m:List UInt8):Bool:=match ts with
 | _::t::_=>V6 t m
 | _=>false
theorem zAS (kp:Nat) (ts:List Wlx.TV) (en:Int) (m:List UInt8) (w:wW) (h:PSt w kp ts en) (i:ts.length<=1024):CR 254 #[pX (some ⟨kp,0,none⟩),V ⟨m.toArray⟩] w (Y (fol ts m)):=by
 obtain ⟨o,cap,B,d,f⟩:=h;obtain ⟨r,s,z,A⟩:=d.two;by_cases b:1<ts.length
 ·obtain ⟨p,j,e,D,u,x,y⟩:=f 1 b;subst e;have C:=zA2 (ts[1]) m w;have a:fol ts m=V6 (ts[1]) m:=by
   match ts,b with
   | _::t::_,_=>rfl
  rw [a];clear a f d;have c:(1:Int)<(ts.length:Int):=oM;generalize V6 (ts[1]) m=q at *;unfold tkV at C;go_enter func254,ntmps254;go_wp2_with fail
  refine C.mono ?_;rintro e E ⟨rfl,g⟩;go_wp2;go_ret;exact ⟨rfl,g⟩
 ·have a:fol ts m=false:=by
   match ts,b with
   | [],_=>rfl
   | [_],_=>rfl
   | _::_::_,h=>exact absurd sM h
  rw [a];have c:¬ (1:Int)<(ts.length:Int):=oM;go_enter func254,ntmps254;go_wp2;go_ret;exact ⟨rfl,dZ _ _⟩
theorem Q9 (w:wW) (kp o:Nat) (v:vW):w.grownBy (w.setCell ⟨kp,o,none⟩ v) (some kp):=by
 have a:=(dZ kp w).setCell (p:=⟨kp,o,none⟩) (cZ _) v;refine ⟨a.os,a.tape,a.output,a.size,λk c b=>?_⟩;exact Below.heap_setCell _ _ _ _ (λe=>b (by rw [e]))
theorem PSt.far {kp:Nat} (h:PSt w kp ts en) {b:Nat} (t:kp<b) (o:Nat) (v:vW):PSt (w.setCell ⟨b,o,none⟩ v) kp ts en:=by
 obtain ⟨c,cap,f,g,j⟩:=h;refine ⟨c,cap,f,g.far oM o v,λi m=>?_⟩;obtain ⟨d,a,e,p,q,r,s⟩:=j i m;refine ⟨d,a,e,p,?_,?_,?_⟩ <;> rw [fZ _ _ _ _ (by simp;omega)] <;> assumption
theorem QW {row:Option Nat} (h:w.grownBy W row) {b:Nat} (d:w.heap.size<=b) (o:Nat) (v:vW):w.grownBy (W.setCell ⟨b,o,none⟩ v) row:=by
 have q:=(dZ b W).setCell (p:=⟨b,o,none⟩) (cZ _) v;exact ⟨q.os.trans h.os,q.tape.trans h.tape,q.output.trans h.output,gZ h.size q.size,λk a c=>(q.block k oM).trans (h.block k a c)⟩
theorem PSt.lt {kp:Nat} (h:PSt w kp ts en):kp<w.heap.size:=by
 obtain ⟨b,cap,c,a,d⟩:=h;exact a.lt
theorem PSt.moved {kp n cap:Nat} {d av':Option Addr} {a r:List Wlx.TV} (z:a.length=n) (q:n+r.length<=cap) (s:AtL w kp [U d (a++r).length cap,O J en])
  (u:∀ i (h:i<(a++r).length),∃ c b,d=some ⟨c,b,none⟩/\c<kp/\w.cell? ⟨c,b+i * 3,none⟩=some (O J ((a++r)[i]).k)/\w.cell? ⟨c,b+i * 3+1,none⟩=some (V ⟨((a++r)[i]).t.toArray⟩)/\w.cell? ⟨c,b+i * 3+2,none⟩=some (O J ((a++r)[i]).p))
  (f:0<r.length->av'=d.map (·.add (n * 3))):PSt (w.setCell ⟨kp,0,none⟩ (U av' r.length (cap - n))) kp r en:=by
 refine ⟨av',cap - n,oM,s.set 0 _,λi y=>?_⟩;obtain ⟨c,b,e,g,j,m,o⟩:=u (i+n) (by rw [oZ];omega);have x:(a++r)[i+n]'(by rw [oZ];omega)=r[i]:=by
  rw [List.getElem_append_right oM];congr 1
  omega
 rw [x] at j m o;refine ⟨c,b+n * 3,?_,g,?_,?_,?_⟩
 ·rw [f oM,e];show some ((⟨c,b,none⟩:Addr).add (n * 3))=_
  rw [Addr.add_mid]
 ·rw [fZ _ _ _ _ (by simp;omega),show b+n * 3+i * 3=b+(i+n) * 3 by omega];exact j
 ·rw [fZ _ _ _ _ (by simp;omega),show b+n * 3+i * 3+1=b+(i+n) * 3+1 by omega];exact m
 ·rw [fZ _ _ _ _ (by simp;omega),show b+n * 3+i * 3+2=b+(i+n) * 3+2 by omega];exact o
theorem JG (n:Nat) (kp:Nat) (a r:List Wlx.TV) (en:Int) (w:wW) (h:PSt w kp (a++r) en) (d:a.length=n) (o:n<=2) (f:(a++r).length<=1024):cW prog 203 #[pX (some ⟨kp,0,none⟩),O J n] w λe w'=>e=rX (uX #[])/\PSt w' kp r en/\w.grownBy w' (some kp):=by
 obtain ⟨j,cap,b,c,g⟩:=h;obtain ⟨m,p,u,x⟩:=c.two;have i:(a++r).length=n+r.length:=by rw [oZ,d]
 rw [i] at b f;simp only [i] at m;have s:(0:Int)<=(n:Int):=oM;have t:(n:Int)<=((n+r.length:Nat):Int):=oM;go_enter func203,ntmps203;go_wp2
 ·go_end0
  refine ⟨rfl,?_,Q9 _ _ _ _⟩;have q:=PSt.moved (av':=j) d b c g (λq=>by omega);rw [show cap - n=0 by omega] at q;exact q
 ·go_end0
  exact ⟨rfl,PSt.moved d b c g (λh=>rfl),Q9 _ _ _ _⟩
def pos (ts:List Wlx.TV) (en:Int):Int:=(hd ts en).p
def JY (c p:Int):Ending:=.panicked [{v:=.iface 145 (gX #[O J c,O J p]),recovered:=false}]
theorem zOr (k:Int) (x:ByteArray) (p:Int) (w:wW):(Instr.field 203 (gX #[O J k,V x,O J p]) 2).run prog w=.ok (O J p) w:=kR
theorem zFM (k:Int) (x:ByteArray) (p:Int) (w:wW):(Instr.field 203 (gX #[O J k,V x,O J p]) 0).run prog w=.ok (O J k) w:=kR
theorem zFv (k:Int) (x:ByteArray) (p:Int) (w:wW):(Instr.field 203 (gX #[O J k,V x,O J p]) 1).run prog w=.ok (V x) w:=kR
theorem zCO (kp:Nat) (ts:List Wlx.TV) (en c:Int) (w:wW) (h:PSt w kp ts en):cW prog 148 #[pX (some ⟨kp,0,none⟩),O J c] w λe w'=>e=JY c (pos ts en)/\bL w w':=by
 have N:=JJ kp ts en w h;unfold pos;generalize hd ts en=t at *;obtain ⟨k,x,p⟩:=t;unfold tkV at N;simp only at N ⊢;have b:=zOr;go_enter func148,ntmps148;go_wp2_with fail
 refine N.mono ?_;rintro e d ⟨rfl,a⟩;go_wp2;exact ⟨rfl,rfl,a⟩
theorem Qa (kp:Nat) (w:wW):cW prog 114 #[pX (some ⟨kp,0,none⟩),Y true] w λe w'=>e=rX (uX #[])/\w=w':=by
 go_enter func114,ntmps114;go_wp2;go_end0
 exact ⟨rfl,rfl⟩
theorem Qp (kp:Nat) (ts:List Wlx.TV) (en:Int) (w:wW) (h:PSt w kp ts en):cW prog 114 #[pX (some ⟨kp,0,none⟩),Y false] w λe w'=>e=JY 50 (pos ts en)/\bL w w':=by
 have N:=zCO kp ts en 50 w h;unfold JY at N ⊢;go_enter func114,ntmps114;go_wp2_with fail
 refine N.mono ?_;rintro e b ⟨rfl,a⟩;go_wp2;exact ⟨rfl,rfl,a⟩
def tk (ts:List Wlx.TV) (m:List UInt8):Option (List Wlx.TV):=match ts with
 | []=>none
 | t::r=>if V6 t m then some r else none
theorem Qw (kp:Nat) (ts:List Wlx.TV) (en:Int) (m:List UInt8) (w:wW) (h:PSt w kp ts en) (d:ts.length<=1024):cW prog 258 #[pX (some ⟨kp,0,none⟩),V ⟨m.toArray⟩] w λe w' =>
  match tk ts m with
  | some r=>e=rX (Y true)/\PSt w' kp r en/\w.grownBy w' (some kp)
  | none=>e=rX (Y false)/\PSt w' kp ts en/\w.grownBy w' (some kp):=by
 have N:=JJ kp ts en w h;have M:=λw=>zA2 (hd ts en) m w
 cases ts with
 | nil =>
  have e0:V6 (hd [] en) m=false:=rfl;rw [e0] at M;generalize hd [] en=t at *;simp only [tk];go_enter func258,ntmps258;go_wp2_with fail
  refine N.mono ?_;rintro e i ⟨rfl,a⟩;go_wp2_with fail
  refine (M _).mono ?_;rintro e f ⟨rfl,b⟩;have c:=QA a b;go_wp2;go_ret;exact ⟨rfl,h.below c,QE c _⟩
 | cons t r =>
  have e0:hd (t::r) en=t:=rfl;rw [e0] at M N;simp only [tk];cases g:V6 t m with
  | false =>
   rw [g] at M;rw [if_neg dM];go_enter func258,ntmps258;go_wp2_with fail
   refine N.mono ?_;rintro e i ⟨rfl,a⟩;go_wp2_with fail
   refine (M _).mono ?_;rintro e f ⟨rfl,b⟩;have c:=QA a b;go_wp2;go_ret;exact ⟨rfl,h.below c,QE c _⟩
  | true =>
   rw [g] at M;rw [if_pos rfl];go_enter func258,ntmps258;go_wp2_with fail
   refine N.mono ?_;rintro e i ⟨rfl,a⟩;go_wp2_with fail
   refine (M _).mono ?_;rintro e f ⟨rfl,b⟩;have c:=QA a b;have P:=JG 1 kp [t] r en f (h.below c) rfl dM d;go_wp2_with fail
   refine P.mono ?_;rintro e p ⟨rfl,o,j⟩;go_wp2;go_ret;exact ⟨rfl,o,QD (QE c _) j⟩
theorem AtL.grown {e:wW} {k:Nat} {vs:List vW} {row:Option Nat} (h:AtL W k vs) (g:W.grownBy e row) (d:some k ≠ row):AtL e k vs:=by
 obtain ⟨f,j,m⟩:=h;have b:=g.block k f d;refine ⟨yZ f g.size,λi v c=>?_,λi c=>?_⟩
 ·exact (World.cell?_of_block (a:=⟨k,i,none⟩) b).trans (j i v c)
 ·rw [<-m i c];unfold World.frozen?;simp only [b]
def Jc (k:Int) (ts:List Wlx.TV):Option ((Int × List UInt8 × Int) × List Wlx.TV):=match ts with
 | []=>none
 | t::r=>if t.k=5 then (Wt.opAs t.t k).map λo=>(o,r) else none
def JT (kp:Nat) (en:Int) (ts:List Wlx.TV) (r:Option ((Int × List UInt8 × Int) × List Wlx.TV)) (w:wW) (e:Ending) (w':wW):Prop:=match r with
 | some ((o,m,t),r)=>e=rX (uX #[gX #[O J o,V ⟨m.toArray⟩,O J t],Y true])/\PSt w' kp r en/\w.grownBy w' (some kp)
 | none=>e=rX (uX #[gX #[O J 0,V ⟨#[]⟩,O J 0],Y false])/\PSt w' kp ts en/\w.grownBy w' (some kp)
theorem zAJ (kp:Nat) (ts:List Wlx.TV) (en k:Int) (w:wW) (h:PSt w kp ts en) (ab:ts.length<=1024) (hO:OpsAt w):cW prog 176 #[pX (some ⟨kp,0,none⟩),O J k] w λe w'=>JT kp en ts (Jc k ts) w e w':=by
 have h':PSt (w.alloc (Z #[O J 0,V ⟨#[]⟩,O J 0] 223)) kp ts en:=h.below ((dZ _ _).alloc (cZ _) _);have N:=JJ kp ts en _ h';clear h';have x:=hO.alloc (Z #[O J 0,V ⟨#[]⟩,O J 0] 223);have I:=AtL.new0 w 223 [O J 0,V ⟨#[]⟩,O J 0];have s:=QJ (dZ _ w) (Z #[O J 0,V ⟨#[]⟩,O J 0] 223);obtain ⟨t,H⟩:=xV (hd ts en)
 have A:=λw h=>zHG ⟨t.t.toArray⟩ k w h
 have e1:(⟨t.t.toArray⟩:ByteArray).data.toList=t.t:=rfl;rw [e1] at A;clear e1;rw [H] at N;have K:Jc k ts=if t.k=5 then (Wt.opAs t.t k).map λo=>(o,ts.tail) else none:=by
  cases ts with
  | nil=>subst H;rfl
  | cons a r=>subst H;rfl
 have Q:t.k=5->∃ r,ts=t::r:=by
  intro E;cases ts with
  | nil=>subst H;exact absurd E (by show ¬ (0:Int)=5;decide)
  | cons a r=>subst H;exact ⟨r,rfl⟩
 rw [K];clear H K;obtain ⟨tk,y,z⟩:=t;simp only at A Q ⊢;unfold tkV at N;simp only at N;cases ha:Wt.opAs y k with
 | none =>
  rw [ha] at A;have e2:(if tk=5 then Option.map (λo=>(o,ts.tail)) (none:Option (Int × List UInt8 × Int)) else none)=none:=by split <;> rfl
  rw [e2];simp only [JT];simp only [opV] at A;go_enter func176,ntmps176;go_wp2_with fail
  refine N.mono ?_;rintro e w1 ⟨rfl,b⟩;have j:=AtL.below b I;have f:=QA s b;have i:=x.below b;have D:=A _ (i.alloc (Z #[O J tk,V ⟨y.toArray⟩,O J z] 203));have p:=AtL.alloc j (Z #[O J tk,V ⟨y.toArray⟩,O J z] 203);have g:=QJ f (Z #[O J tk,V ⟨y.toArray⟩,O J z] 203);clear I s x N b j f i A;go_wp2_with fail
  refine D.mono ?_;rintro e B ⟨rfl,c⟩;have d:=AtL.below c p;have u:=QA g c;have L:=d.lt;have hx:¬ w.heap.size=B.heap.size:=oM;have R:¬ B.heap.size=w.heap.size:=oM;obtain ⟨c0,c1,c2,f0,f1,f2⟩:=d.three;clear D p g c;go_wp2;refine bodyPost_ret (v:=uX #[gX #[O J 0,V ⟨#[]⟩,O J 0],Y false]) (by simp [results,results176,go_sem, *]) rfl ?_;have hf:∀ W:wW,bL w W->(rX (uX #[gX #[O J 0,V ⟨#[]⟩,O J 0],Y false])=rX (uX #[gX #[O J 0,V ⟨#[]⟩,O J 0],Y false])/\PSt W kp ts en/\w.grownBy W (some kp)):=λW hW=>⟨rfl,h.below hW,QE hW _⟩
  exact hf _ (clB u)
 | some q =>
  obtain ⟨o,m,X⟩:=q;rw [ha] at A;simp only [opV] at A;by_cases E:tk=5
  ·rw [if_pos E];obtain ⟨r,hr⟩:=Q E;subst hr;simp only [Option.map_some,List.tail_cons,JT];subst E;go_enter func176,ntmps176;go_wp2_with fail
   refine N.mono ?_;rintro e w1 ⟨rfl,b⟩;have j:=AtL.below b I;have f:=QA s b;have i:=x.below b;have D:=A _ (i.alloc (Z #[O J 5,V ⟨y.toArray⟩,O J z] 203));have p:=AtL.alloc j (Z #[O J 5,V ⟨y.toArray⟩,O J z] 203);have g:=QJ f (Z #[O J 5,V ⟨y.toArray⟩,O J z] 203);clear I s x N b j f i A;go_wp2_with fail
   refine D.mono ?_;rintro e B ⟨rfl,c⟩;have C:=c;have d:=AtL.below c p;have u:=QA g c;have L:=d.lt;have hx:¬ w.heap.size=B.heap.size:=oM;have R:¬ B.heap.size=w.heap.size:=oM;obtain ⟨c0,c1,c2,f0,f1,f2⟩:=d.three;clear D p g c;have T:=AtL.below C (AtL.new0 w1 203 [O J 5,V ⟨y.toArray⟩,O J z]);obtain ⟨u0,u1,u2⟩:=T.f3;have M:=T.lt;have ac:=AtL.new0 B 223 [O J o,V ⟨m.toArray⟩,O J X];have P:=JG 1 kp [⟨5,y,z⟩] r en (B.alloc (Z #[O J o,V ⟨m.toArray⟩,O J X] 223)) (h.below (QJ u _)) rfl dM ab;have aa:=QJ u (Z #[O J o,V ⟨m.toArray⟩,O J X] 223);have G:=h.lt;go_wp2_with fail
   refine P.mono ?_;rintro e w3 ⟨rfl,hp,hg⟩;have ae:AtL w3 w.heap.size [O J 0,V ⟨#[]⟩,O J 0]:=AtL.grown (AtL.alloc d _) hg (by intro e;have:=Option.some.inj e;omega);have ad:AtL w3 B.heap.size [O J o,V ⟨m.toArray⟩,O J X]:=AtL.grown ac hg (by intro e;have:=Option.some.inj e;omega);have hG:=QD (QE aa (some kp)) hg;obtain ⟨c0,c1,c2,f0,f1,f2⟩:=ae.three;obtain ⟨d0,d1,d2,g0,g1,g2⟩:=ad.three;go_wp2;refine bodyPost_ret (v:=uX #[gX #[O J o,V ⟨m.toArray⟩,O J X],Y true]) (by simp [results,results176,go_sem, *]) rfl ?_;exact ⟨rfl,((hp.far G _ _).far G _ _).far G _ _,QW (QW (QW hG (cZ _) _ _) (cZ _) _ _) (cZ _) _ _⟩
  ·rw [if_neg E];have af:(tk == 5)=false:=by simp [E]
   simp only [JT];go_enter func176,ntmps176;go_wp2_with fail
   refine N.mono ?_;rintro e w1 ⟨rfl,b⟩;have j:=AtL.below b I;have f:=QA s b;have i:=x.below b;have D:=A _ (i.alloc (Z #[O J tk,V ⟨y.toArray⟩,O J z] 203));have p:=AtL.alloc j (Z #[O J tk,V ⟨y.toArray⟩,O J z] 203);have g:=QJ f (Z #[O J tk,V ⟨y.toArray⟩,O J z] 203);clear I s x N b j f i A;go_wp2_with fail
   refine D.mono ?_;rintro e B ⟨rfl,c⟩;have C:=c;have d:=AtL.below c p;have u:=QA g c;have L:=d.lt;have hx:¬ w.heap.size=B.heap.size:=oM;have R:¬ B.heap.size=w.heap.size:=oM;obtain ⟨c0,c1,c2,f0,f1,f2⟩:=d.three;clear D p g c;have T:=AtL.below C (AtL.new0 w1 203 [O J tk,V ⟨y.toArray⟩,O J z]);obtain ⟨u0,u1,u2⟩:=T.f3;have M:=T.lt;have hy:¬ w1.heap.size=B.heap.size:=oM;go_wp2;refine bodyPost_ret (v:=uX #[gX #[O J 0,V ⟨#[]⟩,O J 0],Y false]) (by simp [results,results176,go_sem, *]) rfl ?_;have hf:∀ W:wW,bL w W->(rX (uX #[gX #[O J 0,V ⟨#[]⟩,O J 0],Y false])=rX (uX #[gX #[O J 0,V ⟨#[]⟩,O J 0],Y false])/\PSt W kp ts en/\w.grownBy W (some kp)):=λW hW=>⟨rfl,h.below hW,QE hW _⟩
   exact hf _ (clB u)
open Go.RowKit Go.Shelf
theorem zGW (v:vW) (w:wW):(Instr.typeAssert (.iface 145 v) 20 145 true).run prog w=.ok (uX #[v,Y true]) w:=kR
theorem zGg (w:wW):(Instr.typeAssert .nilIface 20 145 true).run prog w=.ok (uX #[gX #[O J 0,O J 0],Y false]) w:=kR
theorem zDO (a b c:Nat) (d at':Int) (x y z:vW) (f:List PanicEntry) (w:wW) (r:AtL w a [x]) (s:AtL w b [y]) (u:AtL w c [z]) (i:a ≠ b) (j:a ≠ c) (m:b ≠ c) :
  CallsD prog 80 #[pX (some ⟨a,0,none⟩),pX (some ⟨b,0,none⟩),pX (some ⟨c,0,none⟩)] (.panicking ({v:=.iface 145 (gX #[O J d,O J at']),recovered:=false} :: f)) w λe I w' =>
   e=rX (uX #[])/\I=.panicking ({v:=.iface 145 (gX #[O J d,O J at']),recovered:=true} :: f)/\AtL w' a [U none 0 0]/\AtL w' b [O J d]/\AtL w' c [O J at']/\∀ lo,lo<=a->lo<=b->lo<=c->Below lo w w':=by
 have R:=r.1;have T:=s.1;have X:=u.1;have na:a ≠ w.heap.size:=oM;have nb:b ≠ w.heap.size:=oM;have nc:c ≠ w.heap.size:=oM;have g:∃ W,W=w.alloc (Z #[O J d,O J at'] 145):=⟨_,rfl⟩
 obtain ⟨W,g⟩:=g;have H:AtL W w.heap.size [O J d,O J at']:=by
  rw [g];exact AtL.new0 w 145 [O J d,O J at']
 have o:AtL W a [x]:=by rw [g];exact r.alloc _
 have q:AtL W b [y]:=by rw [g];exact s.alloc _
 have pc:AtL W c [z]:=by rw [g];exact u.alloc _
 have A:bL w W:=by rw [g];exact QJ (dZ _ w) _
 refine callsD_of_wpS func80 rfl λc₀ cs B=>?_
 apply wpS_seq
 apply wpS_region
 simp [wpOpsS,go_sem,recoverD,B,ntmps80,Exit.thenS,zGW,Array.replicate,eY];rw [<-g];apply wpS_seq
 apply wpS_region
 simp [wpOpsS,go_sem,Exit.thenS];refine wpS_cond (t:=true) (by simp [Act.eval]) ?_;simp only [if_true];refine wpS_of_wp ?_;clear g;obtain ⟨r0,r1,q0,q1⟩:=H.two;have K:=o.2.1 0 _ rfl;have L:=q.2.1 0 _ rfl;have M:=pc.2.1 0 _ rfl;have N:=o.2.2 0 sM;have P:=q.2.2 0 sM;have Q:=pc.2.2 0 sM;go_region
 have E:AtL (((W.setCell ⟨a,0,none⟩ (U none 0 0)).setCell ⟨b,0,none⟩ (O J d)).setCell ⟨c,0,none⟩ (O J at')).drew a [U none 0 0]/\AtL (((W.setCell ⟨a,0,none⟩ (U none 0 0)).setCell ⟨b,0,none⟩ (O J d)).setCell ⟨c,0,none⟩ (O J at')).drew b [O J d]/\AtL (((W.setCell ⟨a,0,none⟩ (U none 0 0)).setCell ⟨b,0,none⟩ (O J d)).setCell ⟨c,0,none⟩ (O J at')).drew c [O J at']/\∀ lo,lo<=a->lo<=b->lo<=c->Below lo w (((W.setCell ⟨a,0,none⟩ (U none 0 0)).setCell ⟨b,0,none⟩ (O J d)).setCell ⟨c,0,none⟩ (O J at')).drew:=by
  refine ⟨(((o.set 0 _).far (Ne.symm i) 0 _).far (Ne.symm j) 0 _).drew,(((q.far i 0 _).set 0 _).far (Ne.symm m) 0 _).drew,(((pc.far j 0 _).far m 0 _).set 0 _).drew,λlo C D G=>?_⟩;exact ((((A.mono oM).setCell (p:=⟨a,0,none⟩) C _).setCell (p:=⟨b,0,none⟩) D _).setCell (p:=⟨c,0,none⟩) G _).drew
 simpa [bodyPostS,results,results80] using E
theorem zBX (a b c:Nat) (w:wW) :
  CallsD prog 80 #[pX (some ⟨a,0,none⟩),pX (some ⟨b,0,none⟩),pX (some ⟨c,0,none⟩)] .returning w λe f w'=>e=rX (uX #[])/\f=.returning/\bL w w':=by
 refine callsD_of_wpS func80 rfl λc₀ cs d=>?_
 apply wpS_seq
 apply wpS_region
 simp [wpOpsS,go_sem,recoverD,d,ntmps80,Exit.thenS,zGg,Array.replicate,eY];apply wpS_seq
 apply wpS_region
 simp [wpOpsS,go_sem,Exit.thenS];refine wpS_cond (t:=false) (by simp [Act.eval]) ?_;simp only [Bool.false_eq_true,if_false];refine wpS_of_wp (wp_skip ?_);have g:=QJ (dZ _ w) (Z #[O J 0,O J 0] 145);cases c₀
 simp_all [bodyPostS,results,results80]
end Go.Proofs.YtloponhikiddmaaGreatDoor
namespace Go.Proofs.YtloponhikiddmaaGreatDoor.Wnum
def tenP (k:Nat):Int:=10 ^ k
theorem tenP_succ (k:Nat):tenP (k+1)=tenP k * 10:=by unfold tenP;exact Int.pow_succ 10 k
theorem tenP_pos (k:Nat):1<=tenP k:=by
 induction k with
 | zero=>exact uZ _
 | succ k a=>rw [tenP_succ];omega
theorem zDc (k n:Nat):tenP k<=tenP (k+n):=by
 induction n with
 | zero=>exact uZ _
 | succ n a=>rw [<-Nat.add_assoc,tenP_succ];have:=tenP_pos (k+n);omega
theorem zEI:tenP 12=1000000000000:=dM
theorem zLl:tenP 6=1000000:=dM
theorem tenP_le12 {k:Nat} (h:k<=12):tenP k<=1000000000000:=by
 have:=zDc k (12 - k);rw [show k+(12 - k)=12 by omega,zEI] at this;exact this
theorem tenP_le6 {k:Nat} (h:k<=6):tenP k<=1000000:=by
 have:=zDc k (6 - k);rw [show k+(6 - k)=6 by omega,zLl] at this;exact this
end Go.Proofs.YtloponhikiddmaaGreatDoor.Wnum
namespace Go.Proofs.YtloponhikiddmaaGreatDoor.Wnum
def bt (s:ByteArray) (i:Nat):Int:=((s.data.toList.getD i 0).toNat:Int)
abbrev isD (b:Int):Prop:=48<=b/\b<=57
def cnt (s:ByteArray):Nat->Nat->Nat
 | _,0=>0
 | i,k+1=>if isD (bt s i) then cnt s (i+1) k+1 else 0
def say (s:ByteArray) (i:Nat):Nat->Int
 | 0=>0
 | k+1=>say s i k * 10+(bt s (i+k) - 48)
theorem bt_bd (s:ByteArray) (i:Nat):0<=bt s i/\bt s i<=255:=by
 unfold bt;have:=(s.data.toList.getD i 0).toNat_lt;omega
theorem bt_get {s:ByteArray} {i:Nat} (h:i<s.size):(((s[i]'h).toNat:Nat):Int)=bt s i:=by
 unfold bt;obtain ⟨⟨l⟩⟩:=s;have a:i<l.length:=h;have e:(rZ ⟨l⟩)[i]'h=l.getD i 0:=by
  simp only [List.getD,List.getElem?_eq_getElem a,Option.getD_some];rfl
 rw [e]
theorem zOe (s:ByteArray):∀ k i,cnt s i k<=k:=by
 intro k;induction k with
 | zero=>intro i;exact cZ _
 | succ k a =>
  intro i;show (if isD (bt s i) then cnt s (i+1) k+1 else 0)<=k+1
  split
  ·have:=a (i+1);omega
  ·omega
theorem zNj (s:ByteArray):∀ k i j,j<cnt s i k->isD (bt s (i+j)):=by
 intro k;induction k with
 | zero=>intro i j h;exact absurd h (mZ _)
 | succ k a =>
  intro i j h;have e:cnt s i (k+1)=if isD (bt s i) then cnt s (i+1) k+1 else 0:=rfl
  rw [e] at h;by_cases c:isD (bt s i)
  ·rw [if_pos c] at h;cases j with
   | zero=>exact c
   | succ j =>
    have:=a (i+1) j oM;rw [show i+1+j=i+(j+1) by omega] at this;exact this
  ·rw [if_neg c] at h;omega
theorem zNO (s:ByteArray):∀ k i,cnt s i k<k->¬ isD (bt s (i+cnt s i k)):=by
 intro k;induction k with
 | zero=>intro i h;omega
 | succ k a =>
  intro i h;have e:cnt s i (k+1)=if isD (bt s i) then cnt s (i+1) k+1 else 0:=rfl
  rw [e] at h ⊢;by_cases c:isD (bt s i)
  ·rw [if_pos c] at h ⊢;have:=a (i+1) oM;rw [show i+1+cnt s (i+1) k=i+(cnt s (i+1) k+1) by omega] at this;exact this
  ·rw [if_neg c];exact c
theorem zCC {s:ByteArray} {i:Nat}:∀ k,(∀ m,m<k->isD (bt s (i+m)))->0<=say s i k:=by
 intro k;induction k with
 | zero=>intro _;exact uZ _
 | succ k a =>
  intro h;have b:=a (λm d=>h m oM);have c:=(h k oM).1;show 0<=say s i k * 10+(bt s (i+k) - 48)
  omega
theorem zML {s:ByteArray} {i:Nat}:∀ n k,(∀ m,m<k+n->isD (bt s (i+m)))->say s i k<=say s i (k+n):=by
 intro n;induction n with
 | zero=>intro k _;exact uZ _
 | succ n b =>
  intro k h;have c:=b k (λm a=>h m oM);have d:=(h (k+n) oM).1;have e:=zCC (s:=s) (i:=i) (k+n) (λm a=>h m oM);show say s i k<=say s i (k+n) * 10+(bt s (i+(k+n)) - 48)
  omega
def dk (s:ByteArray) (i:Nat):Nat:=cnt s i (s.size - i)
def dv (s:ByteArray) (i:Nat):Int:=say s i (dk s i)
def dB (s:ByteArray) (i:Nat):Bool:=decide (0<dk s i/\dv s i<=1000000000000000000)
theorem dk_le (s:ByteArray) (i:Nat):dk s i<=s.size - i:=zOe s _ i
theorem dk_all (s:ByteArray) (i:Nat):∀ m,m<dk s i->isD (bt s (i+m)):=λm h=>zNj s _ i m h
theorem zPp {s:ByteArray} {i:Nat} (h:i+dk s i<s.size):¬ isD (bt s (i+dk s i)):=zNO s _ i (by unfold dk at *;omega)
theorem zD4 (s:ByteArray) (i:Nat):0<=dv s i:=zCC _ (dk_all s i)
theorem over_before {s:ByteArray} {i j:Nat} (a:j<=dk s i) (h:1000000000000000000<say s i j):dB s i=false:=by
 have:=zML (s:=s) (i:=i) (dk s i - j) j (by rw [show j+(dk s i - j)=dk s i by omega];exact dk_all s i);rw [show j+(dk s i - j)=dk s i by omega] at this;unfold dB dv;rw [decide_eq_false_iff_not];omega
theorem ten_step {a d:Int}:(1000000000000000000 - d) / 10<a ↔ 1000000000000000000<a * 10+d:=oM
def rdV (s:ByteArray):Int:=if dB s 0=true then dv s 0 else 0
def rdS (s:ByteArray):ByteArray:=if dB s 0=true then s.extract (dk s 0) s.size else ⟨#[]⟩
theorem rd_false {s:ByteArray} (h:dB s 0=false):rdV s=0/\rdS s=⟨#[]⟩:=by unfold rdV rdS;rw [h];exact ⟨rfl,rfl⟩
theorem rd_true {s:ByteArray} (h:dB s 0=true):rdV s=dv s 0/\rdS s=s.extract (dk s 0) s.size:=by unfold rdV rdS;rw [h];exact ⟨rfl,rfl⟩
theorem dk_more {s:ByteArray} {i j:Nat} (c:j<=dk s i) (b:i+j<s.size) (a:isD (bt s (i+j))):j<dk s i:=by
 rcases iY j (dk s i) with h | h
 ·exact h
 ·have e:j=dk s i:=oM;exact absurd (e ▸ a) (zPp oM)
theorem dk_stop {s:ByteArray} {i j:Nat} (a:j<=dk s i) (h:s.size<=i+j \/ ¬ isD (bt s (i+j))):dk s i=j:=by
 rcases iY j (dk s i) with c | c
 ·rcases h with h | h
  ·have:=dk_le s i;omega
  ·exact absurd (dk_all s i j c) h
 ·omega
theorem dB_stop {s:ByteArray} {i j:Nat} (e:dk s i=j) (b:say s i j<=1000000000000000000):dv s i=say s i j/\dB s i=decide (0<j):=by
 have a:dv s i=say s i j:=by unfold dv;rw [e]
 refine ⟨a,?_⟩;unfold dB;rw [a,e];by_cases h:0<j
 ·rw [decide_eq_true h,decide_eq_true ⟨h,b⟩]
 ·rw [decide_eq_false h,decide_eq_false (λx=>h x.1)]
theorem say_succ (s:ByteArray) (i k:Nat):say s i (k+1)=say s i k * 10+(bt s (i+k) - 48):=rfl
end Go.Proofs.YtloponhikiddmaaGreatDoor.Wnum
namespace Go.Proofs.YtloponhikiddmaaGreatDoor
open Tryz
open Go.RowKit
variable {W:wW} {k:Nat} {v0 v1:vW}
theorem zAN (s:ByteArray) (w:wW) (hs:s.size<=9223372036854775807) :
  cW prog 121 #[V s] w λe w'=>e=rX (uX #[O J (Wnum.rdV s),V (Wnum.rdS s),Y (Wnum.dB s 0)])/\∃ n,w'=w.drewN n:=by
 go_enter func121,ntmps121;go_wp2;go_loop [2,5,6] (λx i _=>∃ j:Nat,∃ a:Int,j<=Wnum.dk s 0/\x=O J a/\i=O J j/\0<=a/\a<=1000000000000000000/\Hid (Wnum.say s 0 j=a)) (λ_ i _=>s.size - (intOf i).toNat)
 case atStart=>exact ⟨0,0,eZ _,rfl,rfl,oM,oM,(rfl:Wnum.say s 0 0=0)⟩
 case round =>
  obtain ⟨j,a,M,rfl,rfl,ha,G,u⟩:=hrel;have z:Wnum.dk s 0<=s.size:=by have:=Wnum.dk_le s 0;omega
  have y:=hid M;have P:=hid z;clear M z;by_cases H:j<s.size
  ·have eb:=Wnum.bt_get H;obtain ⟨Q,R⟩:=Wnum.bt_bd s j;obtain ⟨c,E⟩:∃ c,c=Wnum.bt s j:=⟨_,rfl⟩
   have B:Hid (Wnum.bt s (0+j)=c):=by show _=_;rw [hY,E]
   rw [<-E] at eb Q R;clear E;by_cases C:48<=c
   ·by_cases D:c<=57
    ·have lt:=Wnum.dk_more y.out oM (by rw [B.out];exact ⟨C,D⟩);have I:=hid lt;have K:Hid (Wnum.say s 0 (j+1)=a * 10+(c - 48)):=by show _=_;rw [Wnum.say_succ,u.out,B.out]
     clear lt;by_cases N:(1000000000000000000 - (c - 48)) / 10<a
     ·have b:=Wnum.over_before (j:=j+1) I.out (by rw [K.out];exact Wnum.ten_step.1 N);obtain ⟨d,f⟩:=Wnum.rd_false b;have p:=hid b;have q:=hid d;have r:=hid f;clear b d f;go_wp2;go_ret3
      exact ⟨by rw [p.out,q.out,r.out];rfl,0,rfl⟩
     ·have nv:a * 10+(c - 48)<=1000000000000000000:=by
       have:¬ 1000000000000000000<a * 10+(c - 48):=λh=>N (Wnum.ten_step.2 h)
       omega
      have n0:0<=a * 10+(c - 48):=oM;go_wp2;go_round
      case rel=>exact ⟨j+1,a * 10+(c - 48),I.out,by go_num,by go_num,n0,nv,K⟩
      case measure=>simp [intOf];omega
    ·have g:=Wnum.dk_stop y.out (xZ (by rw [B.out];intro h;exact D h.2));have X:=decide_eq_false D;obtain ⟨m,o⟩:=Wnum.dB_stop g (by rw [u.out];exact G);rw [u.out] at m;by_cases A:j=0
     ·have b:Wnum.dB s 0=false:=by rw [o];exact decide_eq_false oM
      have t:((j:Int) == 0)=true:=by rw [beq_iff_eq];omega
      obtain ⟨d,f⟩:=Wnum.rd_false b;have p:=hid b;have q:=hid d;have r:=hid f;clear b d f m o g A;go_wp2;go_ret3
      exact ⟨by rw [p.out,q.out,r.out];rfl,0,rfl⟩
     ·have b:Wnum.dB s 0=true:=by rw [o];exact decide_eq_true oM
      obtain ⟨d,f⟩:=Wnum.rd_true b;rw [m] at d;rw [g] at f;have p:=hid b;have q:=hid d;have r:=hid f;clear b d f m o g;have t:((j:Int) == 0)=false:=by rw [beq_eq_false_iff_ne];omega
      go_wp2;go_quiet (fail)
      go_wp2;go_ret3
      exact ⟨by rw [p.out,q.out,r.out];rfl,_,rfl⟩
   ·have g:=Wnum.dk_stop y.out (xZ (by rw [B.out];intro h;exact C h.1));have T:=decide_eq_false C;obtain ⟨m,o⟩:=Wnum.dB_stop g (by rw [u.out];exact G);rw [u.out] at m;by_cases A:j=0
    ·have b:Wnum.dB s 0=false:=by rw [o];exact decide_eq_false oM
     have t:((j:Int) == 0)=true:=by rw [beq_iff_eq];omega
     obtain ⟨d,f⟩:=Wnum.rd_false b;have p:=hid b;have q:=hid d;have r:=hid f;clear b d f m o g A;go_wp2;go_ret3
     exact ⟨by rw [p.out,q.out,r.out];rfl,0,rfl⟩
    ·have b:Wnum.dB s 0=true:=by rw [o];exact decide_eq_true oM
     obtain ⟨d,f⟩:=Wnum.rd_true b;rw [m] at d;rw [g] at f;have p:=hid b;have q:=hid d;have r:=hid f;clear b d f m o g;have t:((j:Int) == 0)=false:=by rw [beq_eq_false_iff_ne];omega
     go_wp2;go_quiet (fail)
     go_wp2;go_ret3
     exact ⟨by rw [p.out,q.out,r.out];rfl,_,rfl⟩
  ·have g:=Wnum.dk_stop y.out (pZ oM);have L:j=s.size:=by have:=y.out;have:=P.out;omega
   obtain ⟨m,o⟩:=Wnum.dB_stop g (by rw [u.out];exact G);rw [u.out] at m;by_cases A:j=0
   ·have b:Wnum.dB s 0=false:=by rw [o];exact decide_eq_false oM
    have t:((j:Int) == 0)=true:=by rw [beq_iff_eq];omega
    obtain ⟨d,f⟩:=Wnum.rd_false b;have p:=hid b;have q:=hid d;have r:=hid f;clear b d f m o g L A;go_wp2;go_ret3
    exact ⟨by rw [p.out,q.out,r.out];rfl,0,rfl⟩
   ·have b:Wnum.dB s 0=true:=by rw [o];exact decide_eq_true oM
    obtain ⟨d,f⟩:=Wnum.rd_true b;rw [m] at d;rw [g] at f;have p:=hid b;have q:=hid d;have r:=hid f;have jl:j<=s.size:=oM;clear b d f m o g L;have t:((j:Int) == 0)=false:=by rw [beq_eq_false_iff_ne];omega
    go_wp2;go_quiet (fail)
    go_wp2;go_ret3
    exact ⟨by rw [p.out,q.out,r.out];rfl,_,rfl⟩
theorem zLJ (n d:Int) (w:wW) (p:-9223372036854775807<=n) (q:n<=9223372036854775807) (s:1<=d) (H:d<=9223372036854775807) :
  CR 91 #[O J n,O J d] w (uX #[gX #[O J (Wnum.oN (some (Rat.divInt n d))),O J (Wnum.oD (some (Rat.divInt n d)))],Y (Wnum.oB (some (Rat.divInt n d)))]):=by
 obtain ⟨E,m,o,b,c⟩:=Wnum.mk_tdiv s p q;have x:=hid b;have a:d.tdiv ((kZ n d:Nat):Int)=d / ((kZ n d:Nat):Int):=Int.tdiv_eq_ediv_of_nonneg oM;have y:=hid (c.trans a.symm);have f:0<=d / ((kZ n d:Nat):Int):=Int.ediv_nonneg oM oM;have g:d / ((kZ n d:Nat):Int)<=d:=Int.ediv_le_self _ oM;rw [<-a] at f g;have G:d.tdiv ((kZ n d:Nat):Int)<=9223372036854775807:=oM;have j:-9223372036854775807<=d.tdiv ((kZ n d:Nat):Int):=oM;have K:J.wrap (d.tdiv ((kZ n d:Nat):Int))=d.tdiv ((kZ n d:Nat):Int):=IntWalk.i64_in _ oM;have u:J.wrap (n.tdiv ((kZ n d:Nat):Int))=n.tdiv ((kZ n d:Nat):Int):=IntWalk.i64_in _ oM;clear b c a g f;have z:(n == -9223372036854775808)=false:=beq_eq_false_iff_ne.2 oM;have A:(d == -9223372036854775808)=false:=beq_eq_false_iff_ne.2 oM;have B:(d == 0)=false:=beq_eq_false_iff_ne.2 oM;have C:decide (d<0)=false:=by simp;omega
 generalize Rat.divInt n d=r at *;go_enter func91,ntmps91;go_wp2_with (go_at_call 123;refine (zA7 _ _ _ oM oM oM oM).mono ?_;rintro e D ⟨rfl,M,rfl⟩)
 clear z A B C;go_region_with ((go_at_call 124;refine (zB1 _ _ r _ m o x y).mono ?_;rintro e D ⟨rfl,i⟩;obtain ⟨t,I⟩:=zOf i;have L:=bsz (k:=w.heap.size) i sM))
 all_goals
  go_wp2;refine bodyPost_ret (v:=uX #[gX #[O J (Wnum.oN (some r)),O J (Wnum.oD (some r))],Y (Wnum.oB (some r))]) (by simp [results,results91,go_sem,t]) rfl ⟨rfl,?_⟩;exact clA
def At (W:wW) (k:Nat) (v0 v1:vW):Prop :=
 W.cell? ⟨k,0,none⟩=some v0/\W.cell? ⟨k,1,none⟩=some v1/\W.frozen? ⟨k,0,none⟩=false/\W.frozen? ⟨k,1,none⟩=false
theorem At.lt (h:At W k v0 v1):k<W.heap.size:=iZ W ⟨k,0,none⟩ h.1
theorem At.new (W:wW) (t:TypeId) {k:Nat} (a:k=W.heap.size) (v0 v1:vW):At (W.alloc (Z #[v0,v1] t)) k v0 v1:=by
 subst a;exact ⟨by simp [go_sem],by simp [go_sem],by simp [go_sem],by simp [go_sem]⟩
theorem At.below {c:wW} (a:bL W c) {k:Nat} {v0 v1:vW} (h:At W k v0 v1):At c k v0 v1:=by
 have b:=h.lt;obtain ⟨d,e,f,g⟩:=h;exact ⟨(a.cell (p:=⟨k,0,none⟩) b).trans d,(a.cell (p:=⟨k,1,none⟩) b).trans e,(a.frozen (p:=⟨k,0,none⟩) b).trans f,(a.frozen (p:=⟨k,1,none⟩) b).trans g⟩
theorem At.drewN (h:At W k v0 v1) (n:Nat):At (W.drewN n) k v0 v1:=At.below (Ql (dZ _ _) n) h
theorem zDw {w:wW} (b:bL w W) (a:w.heap.size<=k) (u0 u1:vW):bL w ((W.setCell ⟨k,0,none⟩ u0).setCell ⟨k,1,none⟩ u1) :=
 (b.setCell (p:=⟨k,0,none⟩) a u0).setCell (p:=⟨k,1,none⟩) a u1
theorem zJV (k:Int) (w:wW) (b:0<=k) (d:k<=12) :
  cW prog 157 #[O J k] w λe w'=>e=rX (O J (Wnum.tenP k.toNat))/\w=w':=by
 obtain ⟨K,rfl⟩:=Int.eq_ofNat_of_zero_le b;rw [Int.toNat_natCast];go_enter func157,ntmps157;go_wp2;go_loop [3,5] (λr i=>∃ j:Nat,j<=K/\r=O J (Wnum.tenP j)/\i=O J j) (λ_ i=>K - (intOf i).toNat)
 case atStart=>exact ⟨0,eZ _,rfl,rfl⟩
 case round =>
  obtain ⟨j,f,rfl,rfl⟩:=hrel;have b1:=Wnum.tenP_pos j;have b2:=Wnum.tenP_le12 (k:=j) oM;by_cases c:j<K
  ·have E:Hid (Wnum.tenP (j+1)=Wnum.tenP j * 10):=Wnum.tenP_succ j;go_wp2;go_round
   case rel=>exact ⟨j+1,oM,by rw [E.out],by go_num⟩
   case measure=>simp [intOf];omega
  ·have a:j=K:=oM;subst a;go_wp2;go_ret;exact ⟨rfl,rfl⟩
end Go.Proofs.YtloponhikiddmaaGreatDoor
namespace Go.Proofs.YtloponhikiddmaaGreatDoor.Wnum
theorem sub_facts {t:ByteArray} {p:Nat} (h:p<=t.size):(t.extract p t.size).size=t.size - p/\∀ i,bt (t.extract p t.size) i=bt t (p+i):=by
 constructor
 ·rw [tZ];omega
 ·intro i;obtain ⟨⟨l⟩⟩:=t;have a:(rZ ⟨l⟩).size=l.length:=rfl;have e:((rZ ⟨l⟩).extract p (rZ ⟨l⟩).size).data.toList=l.drop p:=by
   rw [a];simp;exact List.take_of_length_le sM
  unfold bt;rw [e];show (((l.drop p).getD i 0).toNat:Int)=((l.getD (p+i) 0).toNat:Int)
  simp [List.getD,List.getElem?_drop]
def plB (t:ByteArray) (n:Int):Bool:=decide (t.size<=6) && decide (n<=1000000000000) && dB t 0 && decide (dk t 0=t.size)
def plN (t:ByteArray) (n:Int):Int:=if plB t n=true then n * tenP t.size+dv t 0 else 0
def plD (t:ByteArray) (n:Int):Int:=if plB t n=true then tenP t.size else 0
theorem pl_false {t:ByteArray} {n:Int} (h:plB t n=false):plN t n=0/\plD t n=0:=by unfold plN plD;rw [h];exact ⟨rfl,rfl⟩
theorem pl_true {t:ByteArray} {n:Int} (h:plB t n=true):plN t n=n * tenP t.size+dv t 0/\plD t n=tenP t.size:=by unfold plN plD;rw [h];exact ⟨rfl,rfl⟩
def fC (t:ByteArray):Int:=bt t (dk t 0)
def fS (t:ByteArray):ByteArray:=(t.extract (dk t 0) t.size).extract 1 (t.extract (dk t 0) t.size).size
def fB (t:ByteArray):Bool :=
 if dB t 0=false then false else if dk t 0=t.size then true else if fC t=46 then plB (fS t) (dv t 0) else if fC t=47 then dB (fS t) 0 && decide (dk (fS t) 0=(fS t).size) else false
def fN (t:ByteArray):Int :=
 if fB t=false then 0 else if dk t 0=t.size then dv t 0 else if fC t=46 then plN (fS t) (dv t 0) else dv t 0
def fD (t:ByteArray):Int :=
 if fB t=false then 0 else if dk t 0=t.size then 1 else if fC t=46 then plD (fS t) (dv t 0) else dv (fS t) 0
theorem f_false {t:ByteArray} (h:fB t=false):fN t=0/\fD t=0:=⟨if_pos h,if_pos h⟩
theorem f_none {t:ByteArray} (h:dB t 0=false):fB t=false:=if_pos h
theorem f_whole {t:ByteArray} (h:dB t 0=true) (e:dk t 0=t.size):fB t=true/\fN t=dv t 0/\fD t=1:=by
 have a:fB t=true:=by unfold fB;rw [if_neg (by rw [h];decide),if_pos e]
 exact ⟨a,by unfold fN;rw [if_neg (by rw [a];decide),if_pos e],by unfold fD;rw [if_neg (by rw [a];decide),if_pos e]⟩
theorem f_point {t:ByteArray} (h:dB t 0=true) (e:¬ dk t 0=t.size) (c:fC t=46):fB t=plB (fS t) (dv t 0)/\fN t=plN (fS t) (dv t 0)/\fD t=plD (fS t) (dv t 0):=by
 have b:fB t=plB (fS t) (dv t 0):=by unfold fB;rw [if_neg (by rw [h];decide),if_neg e,if_pos c]
 refine ⟨b,?_,?_⟩
 ·cases a:plB (fS t) (dv t 0) with
  | false=>rw [(f_false (b.trans a)).1,(pl_false a).1]
  | true=>unfold fN;rw [if_neg (by rw [b,a];decide),if_neg e,if_pos c]
 ·cases a:plB (fS t) (dv t 0) with
  | false=>rw [(f_false (b.trans a)).2,(pl_false a).2]
  | true=>unfold fD;rw [if_neg (by rw [b,a];decide),if_neg e,if_pos c]
theorem f_over {t:ByteArray} (h:dB t 0=true) (e:¬ dk t 0=t.size) (c:fC t=47):fB t=(dB (fS t) 0 && decide (dk (fS t) 0=(fS t).size))/\(fB t=true->fN t=dv t 0/\fD t=dv (fS t) 0):=by
 have a:¬ fC t=46:=oM;have d:fB t=(dB (fS t) 0 && decide (dk (fS t) 0=(fS t).size)):=by unfold fB;rw [if_neg (by rw [h];decide),if_neg e,if_neg a,if_pos c]
 refine ⟨d,λb=>⟨?_,?_⟩⟩
 ·unfold fN;rw [if_neg (by rw [b];decide),if_neg e,if_neg a]
 ·unfold fD;rw [if_neg (by rw [b];decide),if_neg e,if_neg a]
theorem f_other {t:ByteArray} (h:dB t 0=true) (e:¬ dk t 0=t.size) (c:¬ fC t=46) (a:¬ fC t=47):fB t=false:=by
 unfold fB;rw [if_neg (by rw [h];decide),if_neg e,if_neg c,if_neg a]
theorem dB_bd {t:ByteArray} {i:Nat} (h:dB t i=true):0<dk t i/\0<=dv t i/\dv t i<=1000000000000000000:=by
 have:=of_decide_eq_true h;exact ⟨this.1,zD4 t i,this.2⟩
theorem say_small {s:ByteArray} {i:Nat}:∀ k,(∀ m,m<k->isD (bt s (i+m)))->say s i k<tenP k:=by
 intro k;induction k with
 | zero=>intro _;exact (by decide:(0:Int)<1)
 | succ k a =>
  intro h;have b:=a (λm d=>h m oM);have c:=(h k oM).2;rw [say_succ,tenP_succ];omega
end Go.Proofs.YtloponhikiddmaaGreatDoor.Wnum
