/- Lemmas. -/
import Derived.Test.YtloponhikiddmaaGreatDoorQ16
import Derived.Laws.IdiomRangeMap
set_option maxHeartbeats 4000000
set_option maxRecDepth 100000
set_option linter.unusedVariables false
open Go.RowKit.Below renaming refl->bZ
open Nat renaming le_refl->cZ,zero_le->vZ,eq_zero_or_pos->xZ,lt_or_ge->yZ,le_trans->cY
open Or renaming inl->dZ,inr->qZ
open Go.Result renaming andThen_ok->eZ,andThen->bY
open List renaming mem_cons_of_mem->fZ,mem_cons_self->gZ,eq_nil_of_length_eq_zero->hZ,map_toArray->kZ,getElem?_eq_getElem->mZ,length_append->nZ,map_cons->rZ,map_nil->sZ,drop_eq_getElem_cons->tZ,drop_eq_nil_of_le->uZ,getElem?_eq_none->wZ,length_cons->zZ
open Int renaming le_refl->iZ
open Bool renaming and_eq_true->jZ
open Go.Sem renaming run_bind->oZ,run_pure->pZ
open Go renaming World->wW,Value->vW,Calls->cW,Addr->dW
open Go.RowKit renaming Hid->hH
open Go.Value renaming int->O,slice->U,string->V,bool->Y,pointer->pX,agg->gX,tuple->uX
open Go.IntKind renaming i64->J
open Go.Obj renaming cells->Z
open Go.Ending renaming returned->rX
open Go.Operand renaming tmp->mX
namespace Go.Proofs.YtloponhikiddmaaGreatDoor
open Tryz
open Go.RowKit Wf
variable {w w':wW} {v:vW} {ops:Array Oper} {rest:List Oper} {a:Act} {Q:Exit->Act->wW->Prop} {n b k B f mb:Nat} {ts r:List Wlx.TV} {F A:List Wpl.Ar} {G:List (Wpl.Cl × Ce)} {o op:Oper} {S:List Nat} {en:Int} {rs:Ch->List Wf.I ⊕ (Int × Int)}
theorem zHR (s mb lo:Nat) (C:Option dW) (D:Nat) (nm:List ByteArray) (m:Int) (G:List (Wpl.Cl × Ce)) (y:Option dW) (n cap:Nat) (L:List Ch) (rs:Ch->List I ⊕ (Int × Int)) (w:wW) (H:BEnv w) (h:BK w s mb lo C D nm m G) (T:RdH w y L) (P:L.length=n) (hn:n ≠ 0) (K:n<=256) (M:∀ a ∈ L,Jh nm.length a.x=true->VQ nm a.x a.t (rs a)) (q:Int × Int × Int) (R:raP nm.length rs L 0 []=.inl q) :
  cW prog 9 #[pX (some ⟨s,0,none⟩),U y n cap] w (EdQ s mb lo C D nm (q,m,G) w):=by
 have W:=hid h;have d:=QJ (bZ _ w) (Z #[O J 0,O J 0,O J 0] 30);have p:=AtL.new0 w 30 [O J 0,O J 0,O J 0];have h1:¬ (n:Int)=0:=oM;have h2:¬ (256:Int)<(n:Int):=oM;have u:=zCV s mb C D nm m y n cap L rs (w.alloc (Z #[O J 0,O J 0,O J 0] 30)) (H.below d) (AtL.below d h.hd) (RdS.below h.rs d) h.kp (T.below d) P (λ_=>K) M;rw [R] at u;clear H h T P hn K M R;obtain ⟨c,i,l⟩:=q;go_enter func9,ntmps9;go_upto_region 1 with fail
 generalize w.alloc (Z #[O J 0,O J 0,O J 0] 30)=W0 at *;go_wp2_with fail
 refine u.mono ?_;rintro e E ⟨⟨N,rfl⟩,j,_⟩;have X:¬ c=0:=N;have q1:=AtL.new0 E 30 [O J c,O J i,O J l];have z:=QJ (QA d j) (Z #[O J c,O J i,O J l] 30);have g:hH (AtL (E.alloc (Z #[O J c,O J i,O J l] 30)) w.heap.size [O J 0,O J 0,O J 0]):=AtL.alloc (AtL.below j p) _;clear u j N p d;go_upto_region 6 with fail
 generalize E.alloc (Z #[O J c,O J i,O J l] 30)=W2 at *;obtain ⟨j0,j1,j2,_⟩:=q1.three;obtain ⟨_,_,_,z0,z1,z2⟩:=g.out.three;obtain ⟨_,_,_,y0,y1,y2⟩:=(g.out.set 0 (O J c)).three;obtain ⟨_,_,_,x0,x1,x2⟩:=((g.out.set 0 (O J c)).set 1 (O J i)).three;have q2:=((g.out.set 0 (O J c)).set 1 (O J i)).set 2 (O J l);go_wp2;refine bodyPost_ret (Q4 (by rfl) _ _ w.heap.size [O J c,O J i,O J l] _ (by rfl) q2.range underlying30 rfl kR) rfl ?_;exact EdQ.same W.out (Qm z (cZ _) [O J c,O J i,O J l] 0)
theorem zIO (q mb lo:Nat) (C:Option dW) (D:Nat) (nm:List ByteArray) (i:Int) (G:List (Wpl.Cl × Ce)) (s:Option dW) (n cap:Nat) (L:List Ch) (rs:Ch->List I ⊕ (Int × Int)) (w:wW) (T:BEnv w) (h:BK w q mb lo C D nm i G) (M:RdH w s L) (K:L.length=n) (hn:n ≠ 0) (H:n<=256) (hR:∀ a ∈ L,Jh nm.length a.x=true->VQ nm a.x a.t (rs a)) (N:List (Wpl.Cl × Ce)) (hq:raP nm.length rs L 0 []=.inr N) (X:G.length<=1000000) (hs:∀ y,(gtE y G).t.size<=9223372036854775807) (hf:4096<lbE G L (G.length:Int)) :
  cW prog 9 #[pX (some ⟨q,0,none⟩),U s n cap] w (EdQ q mb lo C D nm ((113,0,0),i,G) w):=by
 have HH:=hid h;have c:=QJ (bZ _ w) (Z #[O J 0,O J 0,O J 0] 30);have p:=AtL.new0 w 30 [O J 0,O J 0,O J 0];have h1:¬ (n:Int)=0:=oM;have h2:¬ (256:Int)<(n:Int):=oM;have E:=zCV q mb C D nm i s n cap L rs (w.alloc (Z #[O J 0,O J 0,O J 0] 30)) (T.below c) (AtL.below c h.hd) (RdS.below h.rs c) h.kp (M.below c) K (λ_=>H) hR;rw [hq] at E;obtain ⟨F,m1,z⟩:=h.mp;have j:hH (∀ W,bL w W->CR 20 #[pX (some ⟨q,0,none⟩),U s n cap] W (O J (lbE G L (G.length:Int)))):=λW hb=>by
  have:=zFq q mb (U C nm.length D) i F s n cap L W (AtL.below hb h.hd) (m1.below hb) (M.below hb) K (λ_=>H) (λ_=>by rw [z.len];exact X) (λy=>by rw [(z.get y).1.1];exact hs y);rw [zIF z,z.len] at this;exact this
 obtain ⟨lb,u⟩:=xV (lbE G L (G.length:Int))
 rw [u] at j hf;clear T h M K hn H hR hq X hs u m1 z;go_enter func9,ntmps9;go_upto_region 1 with fail
 generalize w.alloc (Z #[O J 0,O J 0,O J 0] 30)=W0 at *;go_wp2_with fail
 refine E.mono ?_;rintro e P ⟨⟨rfl,_⟩,l,_⟩;have q1:=AtL.new0 P 30 [O J 0,O J 0,O J 0];have g:=QJ (QA c l) (Z #[O J 0,O J 0,O J 0] 30);have p2:AtL (P.alloc (Z #[O J 0,O J 0,O J 0] 30)) w.heap.size [O J 0,O J 0,O J 0]:=AtL.alloc (AtL.below l p) _;clear E l p c;go_upto_region 6 with fail
 generalize P.alloc (Z #[O J 0,O J 0,O J 0] 30)=W2 at *;obtain ⟨j0,j1,j2,_⟩:=q1.three;have R:=j.out W2 g;go_wp2_with fail
 refine R.mono ?_;rintro e w3 ⟨rfl,m⟩;have d:=hid (AtL.below m p2);replace g:=QA g m
 clear R j m p2 q1;go_upto_region 9 with fail
 obtain ⟨_,_,_,z0,z1,z2⟩:=d.out.three;obtain ⟨_,_,_,y0,y1,y2⟩:=(d.out.set 0 (O J 113)).three;obtain ⟨_,_,_,x0,x1,x2⟩:=((d.out.set 0 (O J 113)).set 1 (O J 0)).three;have q2:=((d.out.set 0 (O J 113)).set 1 (O J 0)).set 2 (O J 0);go_wp2;refine bodyPost_ret (Q4 (by rfl) _ _ w.heap.size [O J 113,O J 0,O J 0] _ (by rfl) q2.range underlying30 rfl kR) rfl ?_;exact EdQ.same HH.out (Qm g (cZ _) [O J 113,O J 0,O J 0] 0)
def TyB (w:wW) (k:Nat) (T:TypeId):Prop:=∃ c d,w.heap[k]? = some (Z c T d)
theorem TyB.lt {T:TypeId} (h:TyB w k T):k<w.heap.size:=by
 obtain ⟨c,d,h⟩:=h;exact (Array.getElem?_eq_some_iff.1 h).1
theorem TyB.fr {T:TypeId} (h:TyB w k T) (e:Fr S w w') (i:k ∉ S):TyB w' k T:=by
 have g:=h.lt;obtain ⟨c,d,h⟩:=h;exact ⟨c,d,by rw [e.block k g i];exact h⟩
theorem TyB.new (w:wW) (c:Array vW) (T:TypeId):TyB (w.alloc (Z c T)) w.heap.size T:=⟨c,(0,0),heap_alloc_new _ _⟩
theorem zFx {T j:TypeId} {p:List vW} (h:w.ownsRow B T k v n p) (d:TyB w b j) (m:j ≠ T):∀ g,v.ownBlock=some g->g ∉ [b]:=by
 intro g e i;simp at i;subst i;obtain ⟨c,s,d⟩:=d;rcases h.2 with ⟨q,_⟩ | ⟨a,cap,l,q,_,i,_⟩
 ·rw [q] at e;cases e
 ·rw [q] at e;cases e
  rw [i] at d;simp only [Option.some.injEq,Obj.cells.injEq] at d;exact m d.2.1.symm
theorem CdP.frT {lo:Nat} {T:TypeId} {C:List I} (h:CdP w lo v C) (e:Fr [b] w w') (g:TyB w b T) (l:T ≠ 3) (m:T ≠ 87):CdP w' lo v C:=by
 obtain ⟨P,d,j,c⟩:=h;exact ⟨P,Q2 e d (zFx d g m),j,λi a b=>⟨(c i a b).1,Q2 e (c i a b).2 (zFx (c i a b).2 g l)⟩⟩
theorem Mt.frT {w w':wW} {b lo:Nat} {T:TypeId} (e:Fr [b] w w') (i:TyB w b T) (c:T ≠ 3) (d:T ≠ 87):∀ {F:List (Wpl.Cl × Ct)} {G:List (Wpl.Cl × Ce)},Mt w lo F G->Mt w' lo F G
 | [],[],_=>trivial
 | f::F,g::G,h=>⟨⟨h.1.1,h.1.2.1,h.1.2.2.frT e i c d⟩,Mt.frT e i c d h.2⟩
 | [],_::_,h=>h.elim
 | _::_,[],h=>h.elim
theorem RdH.fr {d:Option dW} {L:List Ch} (h:RdH w d L) (l:Fr S w w') (m:∀ g o,d=some ⟨g,o,none⟩->g ∉ S):RdH w' d L:=λi a ha=>by
 obtain ⟨j,c,e,p⟩:=h i a ha;exact ⟨j,c,e,l.range p (m j c e)⟩
theorem zIz (z mb lo:Nat) (na:Option dW) (nk:Nat) (nm:List ByteArray) (d:Int) (G:List (Wpl.Cl × Ce)) (av:Option dW) (n cap:Nat) (L:List Ch) (rs:Ch->List I ⊕ (Int × Int)) (w:wW) (hE:BEnv w) (h:BK w z mb lo na nk nm d G) (hr:RdH w av L) (hl:L.length=n) (hn:n ≠ 0) (hN:n<=256) (hR:∀ a ∈ L,Jh nm.length a.x=true->VQ nm a.x a.t (rs a)) (N:List (Wpl.Cl × Ce)) (hq:raP nm.length rs L 0 []=.inr N) (hG:G.length<=1000000) (hs:∀ y,(gtE y G).t.size<=9223372036854775807) (aP:∀ y,(gtE y N).t.size<=9223372036854775807) (hf:¬ 4096<lbE G L (G.length:Int)) (hv:0<=d/\d<=1000000000) (aM:∀ g o,av=some ⟨g,o,none⟩->g ≠ mb) :
  cW prog 9 #[pX (some ⟨z,0,none⟩),U av n cap] w (EdQ z mb lo na nk nm ((0,0,0),d+1,VP N L G) w):=by
 have HH:=hid h;have P:=QJ (bZ _ w) (Z #[O J 0,O J 0,O J 0] 30);have p:=AtL.new0 w 30 [O J 0,O J 0,O J 0];have aQ:=TyB.new w #[O J 0,O J 0,O J 0] 30;have h1:¬ (n:Int)=0:=oM;have h2:¬ (256:Int)<(n:Int):=oM;have RA:=zCV z mb na nk nm d av n cap L rs (w.alloc (Z #[O J 0,O J 0,O J 0] 30)) (hE.below P) (AtL.below P h.hd) (RdS.below h.rs P) h.kp (hr.below P) hl (λ_=>hN) hR;rw [hq] at RA;obtain ⟨F,m1,T⟩:=h.mp;have ai:hH (∀ W,bL w W->CR 20 #[pX (some ⟨z,0,none⟩),U av n cap] W (O J (lbE G L (G.length:Int)))):=λW hb=>by
  have:=zFq z mb (U na nm.length nk) d F av n cap L W (AtL.below hb h.hd) (m1.below hb) (hr.below hb) hl (λ_=>hN) (λ_=>by rw [T.len];exact hG) (λy=>by rw [(T.get y).1.1];exact hs y);rw [zIF T,T.len] at this;exact this
 obtain ⟨lb,aN⟩:=xV (lbE G L (G.length:Int))
 rw [aN] at ai hf;have HC:hH (RdH w av L/\L.length=n/\n<=256/\∀ g o,av=some ⟨g,o,none⟩->g ∉ [mb]):=⟨hr,hl,hN,λg o e=>by simpa using aM g o e⟩
 have M:hH (z ≠ mb/\z<w.heap.size):=⟨h.ne,h.hd.lt⟩
 have m:=hid h.lt;have a0:=hid aP;obtain ⟨GE,an⟩:=xV (VP N L G)
 rw [an];have aI:=hid an;have be:J.wrap (d+1)=d+1:=by rw [IntKind.wrap_i64];omega
 clear hE h hr hl hn hN hR hq hG hs aP aN m1 T hv aM an;go_enter func9,ntmps9;go_upto_region 1 with fail
 have aR:(w.alloc (Z #[O J 0,O J 0,O J 0] 30)).heap.size=w.heap.size+1:=sM;generalize w.alloc (Z #[O J 0,O J 0,O J 0] 30)=W0 at *;go_wp2_with fail
 refine RA.mono ?_;rintro e w1 ⟨⟨rfl,H,aq,ar⟩,j,_⟩;rw [aR] at aq ar;have aa:=QJ (bZ _ w1) (Z #[O J 0,O J 0,O J 0] 30);have q1:=AtL.new0 w1 30 [O J 0,O J 0,O J 0];have C:=QJ (QA P j) (Z #[O J 0,O J 0,O J 0] 30);have p2:AtL (w1.alloc (Z #[O J 0,O J 0,O J 0] 30)) w.heap.size [O J 0,O J 0,O J 0]:=AtL.alloc (AtL.below j p) _;have al:hH (MB (w1.alloc (Z #[O J 0,O J 0,O J 0] 30)) (w.heap.size+2) H/\Mt (w1.alloc (Z #[O J 0,O J 0,O J 0] 30)) lo H N):=⟨aq.below aa,(ar.mono (by have:=m.out;omega)).fr (Fr.of_below [] aa) sM⟩
 have af:TyB (w1.alloc (Z #[O J 0,O J 0,O J 0] 30)) w.heap.size 30:=aQ.fr (Fr.of_below [] (QJ j _)) sM;clear RA j p P aq ar aa aQ;go_upto_region 6 with fail
 generalize w1.alloc (Z #[O J 0,O J 0,O J 0] 30)=W2 at *;obtain ⟨j0,j1,j2,_⟩:=q1.three;have LB:=ai.out W2 C;go_wp2_with fail
 refine LB.mono ?_;rintro e w3 ⟨rfl,R⟩;have aF:=hid (AtL.below R p2);have aE:hH (MB w3 (w.heap.size+2) H/\Mt w3 lo H N):=⟨al.out.1.below R,al.out.2.fr (Fr.of_below [] R) sM⟩
 have aJ:=hid (af.fr (Fr.of_below [] R) sM);replace C:=QA C R
 have ay:hH (Fr [mb] w w3):=Fr.of_below _ C;have au:=hid (AtL.below C HH.out.hd);have aC:hH (∃ F,MB w3 mb F/\Mt w3 lo F G):=by
  obtain ⟨F,m1,T⟩:=HH.out.mp;exact ⟨F,m1.below C,T.fr (Fr.of_below [] C) sM⟩
 clear LB ai R p2 q1 al C j0 j1 j2 aR af;go_upto_region 11 with fail
 go_loopg [34] n (λgk x wr=>∃ (i:Nat) (Gi:List (Wpl.Cl × Ce)),x=O J (i:Int)/\gk=n - i/\hH (i<=n)/\hH (VP N (L.drop i) Gi=GE)/\hH (∃ F,MB wr mb F/\Mt wr lo F Gi)/\hH (MB wr (w.heap.size+2) H/\Mt wr lo H N)/\hH (AtL wr z [U na nm.length nk,O J d,.map (some mb)])/\hH (AtL wr w.heap.size [O J 0,O J 0,O J 0])/\hH (Fr [mb] w wr)/\hH (TyB wr w.heap.size 30))
 case atStart=>exact ⟨0,G,rfl,rfl,vZ _,aI,aC,aE,au,aF,ay,aJ⟩
 case round =>
  obtain ⟨i,Gi,rfl,hg,HI,HR,HM,HN,HA,HP,HF,HT⟩:=hrel;generalize a9:wr=W at *;clear a9 aI aC aE au aF ay aJ;by_cases ap:i<n
  ·have a6:(i:Int)<(n:Int):=oM;have bc:(0:Int)<=(i:Int):=oM;have bd:J.wrap ((i:Int)+1)=(i:Int)+1:=by have:=HC.out.2.2.1;rw [IntKind.wrap_i64];omega
   obtain ⟨a,ha⟩:∃ a,L[i]? = some a:=⟨L[i]'(by rw [HC.out.2.1];exact ap),mZ _⟩
   have HD:hH (VP N (L.drop (i+1)) (VY a.x (gtE a.x N) Gi)=GE):=by
    show _=_
    have hl':i<L.length:=by rw [HC.out.2.1];exact ap
    have e1:L[i]'hl'=a:=by
     have:=mZ (l:=L) (i:=i) hl';rw [ha] at this;exact (Option.some.inj this).symm
    have:=HR.out;rwa [tZ hl',e1] at this
   obtain ⟨cb,ae,e,D⟩:=RdH.fr HC.out.1 HF.out HC.out.2.2.2 i a ha;subst e;have k0:W.cell? ⟨cb,ae+i * 4,none⟩=some (O J a.x.s):=D 0 _ rfl;have k1:W.cell? ⟨cb,ae+i * 4+1,none⟩=some (O J a.x.r):=D 1 _ rfl;have k2:W.cell? ⟨cb,ae+i * 4+2,none⟩=some (O J a.x.c):=D 2 _ rfl;have k3:W.cell? ⟨cb,ae+i * 4+3,none⟩=some (V a.t):=D 3 _ rfl;have j:=QJ (bZ _ W) (Z #[O J a.x.s,O J a.x.r,O J a.x.c,V a.t] 38);have q1:=AtL.new0 W 38 [O J a.x.s,O J a.x.r,O J a.x.c,V a.t];have aD:hH (∃ F,MB (W.alloc (Z #[O J a.x.s,O J a.x.r,O J a.x.c,V a.t] 38)) mb F/\Mt (W.alloc (Z #[O J a.x.s,O J a.x.r,O J a.x.c,V a.t] 38)) lo F Gi):=by
    obtain ⟨F,m1,T⟩:=HM.out;exact ⟨F,m1.below j,T.fr (Fr.of_below [] j) sM⟩
   have ak:hH (MB (W.alloc (Z #[O J a.x.s,O J a.x.r,O J a.x.c,V a.t] 38)) (w.heap.size+2) H/\Mt (W.alloc (Z #[O J a.x.s,O J a.x.r,O J a.x.c,V a.t] 38)) lo H N):=⟨HN.out.1.below j,HN.out.2.fr (Fr.of_below [] j) sM⟩
   have aw:=hid (AtL.below j HA.out);have aG:=hid (AtL.below j HP.out);have az:hH (Fr [mb] w (W.alloc (Z #[O J a.x.s,O J a.x.r,O J a.x.c,V a.t] 38))):=HF.out.trans (Fr.of_below _ j);have aK:=hid (HT.out.fr (Fr.of_below [] j) sM);have ah:hH (W.heap.size ∉ [mb]):=by show _ ∉ _;simp;have:=HF.out.size;have:=m.out;omega
   obtain ⟨f,ao⟩:=xV (gtC a.x H)
   have aB:=hid ao;have a2:hH (f.t.size<=9223372036854775807):=by
    show _<=_
    rw [<-ao,(HN.out.2.get a.x).1.1];exact a0.out a.x
   clear ha D j HR HM HN HA HP HF HT ao;go_upto_region 13 with fail
   clear k0 k1 k2 k3;generalize W.alloc (Z #[O J a.x.s,O J a.x.r,O J a.x.c,V a.t] 38)=W1 at *;generalize a5:W.heap.size=eb at *;clear a5;have t3:JI W1 eb (O J a.x.s) (O J a.x.r) (O J a.x.c):=⟨q1.2.1 0 _ rfl,q1.2.1 1 _ rfl,q1.2.1 2 _ rfl⟩
   clear q1;have u:=(bZ W1.heap.size W1).drew;refine wp_region_held_drew (S:=λW=>JI W eb (O J a.x.s) (O J a.x.r) (O J a.x.c)) kR (QH u t3) (λE=>?_);replace t3:=QH u t3
   obtain ⟨Fi,aS,aT⟩:=aD.out;have aj:hH (MB W1.drew mb Fi/\Mt W1.drew lo Fi Gi):=⟨aS.below u,aT.fr (Fr.of_below [] u) sM⟩
   have X:hH (MB W1.drew (w.heap.size+2) H/\Mt W1.drew lo H N):=⟨ak.out.1.below u,ak.out.2.fr (Fr.of_below [] u) sM⟩
   have ag:=hid (AtL.below u aw.out);have aH:=hid (AtL.below u aG.out);have aA:hH (Fr [mb] w W1.drew):=az.out.trans (Fr.of_below _ u);have aL:=hid (aK.out.fr (Fr.of_below [] u) sM);clear u aD ak aw aG az aK aS aT;generalize W1.drew=W4 at *;refine tkQ 0 ?_
   refine tkQ 1 ?_
   refine tkQ 2 ?_
   refine tkQ 3 ?_
   refine tkQ 4 ?_
   refine tkQ 5 ?_
   refine rdQ 6 (λK hK=>?_);have a7:(Instr.lookup 50 (.map (some (w.heap.size+2))) (gX #[O J a.x.s,O J a.x.r,O J a.x.c]) false).run prog W4=.ok (gX #[V f.t,.slice f.a f.n f.k]) W4:=by
    have:=zCz X.out.1 a.x;rw [aB.out] at this;exact this
   go_simp
   refine hkQ hK t3 (λE=>?_);clear hK K a7
   refine rdQ 7 (λK hK=>?_);have LY:=zKf z mb (U na nm.length nk) d Fi a.x f W4 ag.out aj.out.1 M.out.1 a2.out;go_simp
   refine LY.mono ?_;rintro e w5 ⟨rfl,aO,q⟩;have aW:hH (∃ F,MB w5 mb F/\Mt w5 lo F (VY a.x (gtE a.x N) Gi)):=⟨_,aO,(aj.out.2.lay a.x (by have:=(X.out.2.get a.x).1;rw [aB.out] at this;exact this)).fr q (λk hk=>by simp at hk;rw [hk];exact m.out.2.1)⟩
   have aX:hH (MB w5 (w.heap.size+2) H/\Mt w5 lo H N):=⟨X.out.1.fr q (by simp;have:=m.out;omega),X.out.2.fr q (λk hk=>by simp at hk;rw [hk];exact m.out.2.1)⟩
   have aU:=hid (zCe ag.out q (by simpa using M.out.1));have aY:=hid (zCe aH.out q (by simp;have:=m.out;omega));have aV:=hid (aA.out.trans q);have t5:JI w5 eb (O J a.x.s) (O J a.x.r) (O J a.x.c):=⟨q.cell t3.1 ah.out,q.cell t3.2.1 ah.out,q.cell t3.2.2 ah.out⟩
   have a3:=hid (aL.out.fr q (by simp;have:=m.out;omega));clear LY aO q aj X ag aH aA aL t3;go_wp2_with fail
   refine hkQ hK t5 (λE=>?_);clear hK K
   refine wpAnyH_done kR ?_ _;clear E t5;go_wp2_with fail
   go_roundg (n - (i+1))
   case rel=>exact ⟨i+1,_,sM,rfl,ap,HD,aW,aX,aU,aY,aV,a3⟩
   case measure=>omega
  ·have a6:¬ (i:Int)<(n:Int):=oM;have HE:hH (Gi=GE):=by
    show _=_
    rw [<-HR.out,uZ (by rw [HC.out.2.1];omega)];rfl
   have ax:hH (AtL (W.setCell ⟨z,1,none⟩ (O J (d+1))) z [U na nm.length nk,O J (d+1),.map (some mb)]):=HA.out.set 1 _;have aZ:hH (AtL (W.setCell ⟨z,1,none⟩ (O J (d+1))) w.heap.size [O J 0,O J 0,O J 0]):=HP.out.far (by have:=M.out;omega) 1 _;have ab:hH (Fr [z] W (W.setCell ⟨z,1,none⟩ (O J (d+1)))):=Qj z [O J (d+1)] 1 W;obtain ⟨_,a1,_,_,a4,_⟩:=HA.out.three;clear HR;go_upto_region 16 with fail
   have ba:=ax.out;generalize W.setCell ⟨z,1,none⟩ (O J (d+1))=W6 at *;have ac:=aZ;obtain ⟨_,_,_,z0,z1,z2⟩:=ac.out.three;obtain ⟨_,_,_,y0,y1,y2⟩:=(ac.out.set 0 (O J 0)).three;obtain ⟨_,_,_,x0,x1,x2⟩:=((ac.out.set 0 (O J 0)).set 1 (O J 0)).three;have q2:=((ac.out.set 0 (O J 0)).set 1 (O J 0)).set 2 (O J 0);go_wp2;refine bodyPost_ret (Q4 (by rfl) _ _ w.heap.size [O J 0,O J 0,O J 0] _ (by rfl) q2.range underlying30 rfl kR) rfl ?_;have ad:=Qj w.heap.size [O J 0,O J 0,O J 0] 0 W6;have am:Fr [z,mb] w (W6.setCells w.heap.size 0 [O J 0,O J 0,O J 0]):=((HF.out.mono sM).trans (ab.out.mono sM)).new ad (λk hk=>by simp at hk;omega);refine ⟨rfl,⟨zCe ax.out ad (by simp;have:=M.out;omega),RdS.fr HH.out.rs am (λg o e=>by have:=HH.out.nb g o e;simp;omega),HH.out.kp,HH.out.nb,?_,⟨m.out.1,m.out.2.1,cY m.out.2.2 am.size⟩,HH.out.ne⟩,am⟩;obtain ⟨F',m1,T⟩:=HM.out;rw [HE.out] at T;have m3:=T.fr ab.out (λk hk=>by simp at hk;rw [hk];exact m.out.1);have a8:=HT.out.fr ab.out (by simp;have:=M.out;omega);exact ⟨F',(m1.fr ab.out (by simp;have:=M.out;omega)).fr ad (by simp;have:=m.out;omega),m3.frT ad a8 dM dM⟩
def zR1 (t:ByteArray) (C:List I):Prop:=(0<C.length ↔ Wlx.begins [61] t.data.toList=true)/\C.length<=20000/\∀ p ∈ C,TI 1000000 p
def Vr (nm:List ByteArray) (rs:Ch->List I ⊕ (Int × Int)):Prop:=∀ a:Ch,Jh nm.length a.x=true->a.t.size<=1000000000000000->VQ nm a.x a.t (rs a)/\(∀ C,rs a=.inl C->zR1 a.t C)/\∀ q,rs a=.inr q->q.1 ≠ 0/\zOc q.2
theorem zEn (c:n<=16) {x:Wpl.Cl} (h:Jh n x=true):0<=x.s/\x.s<16:=by
 unfold Jh at h;rw [jZ] at h;have:=Wpl.rightC_iff.1 h.1;omega
theorem zQ3 (nm:List ByteArray) (d:nm.length<=16):∃ rs,Vr nm rs:=by
 have c:∀ a:Ch,∃ R,Jh nm.length a.x=true->a.t.size<=1000000000000000->VQ nm a.x a.t R/\(∀ C,R=.inl C->zR1 a.t C)/\∀ q,R=.inr q->q.1 ≠ 0/\zOc q.2:=λa=>by
  by_cases q:Jh nm.length a.x=true/\a.t.size<=1000000000000000
  ·have e:=zEn d q.1;obtain ⟨R,r⟩:=zQm nm a.x a.t oM ⟨oM,oM⟩ oM;exact ⟨R,λ_ _=>r⟩
  ·exact ⟨.inl [],λg i=>absurd ⟨g,i⟩ q⟩
 exact Classical.axiomOfChoice c
def EOk (n:Nat) (rs:Ch->List I ⊕ (Int × Int)) (p:Wpl.Cl × Ce):Prop:=¬ p.2.t=⟨#[]⟩/\p.2.t.size<=1000000000000000/\Jh n p.1=true/\rs ⟨p.1,p.2.t⟩=.inl p.2.c
def GOk (n:Nat) (rs:Ch->List I ⊕ (Int × Int)) (G:List (Wpl.Cl × Ce)):Prop:=KB G/\∀ p ∈ G,EOk n rs p
theorem zN3 {α:Type} (x:Wpl.Cl) (v:α) (F:List (Wpl.Cl × α)):(VU x v F).length<=F.length+1:=by
 unfold VU;split
 ·rw [List.length_set];omega
 ·rw [nZ];simp
theorem zMu {α:Type} (x:Wpl.Cl) (F:List (Wpl.Cl × α)):(V4 x F).length<=F.length:=by
 unfold V4;split
 ·exact List.length_eraseIdx_le _ _
 ·exact cZ _
theorem zMg {x:Wpl.Cl} (h:∀ e,(x,e) ∉ G):gtE x G=ce0:=(J7 (G:=G) (x:=x)).resolve_right (h _)
theorem zJb {H:List (Wpl.Cl × Ce)} (c:KB G) (d:KB H) {x:Wpl.Cl} (h:∀ e,(x,e) ∈ G ↔ (x,e) ∈ H):gtE x G=gtE x H:=by
 rcases J7 (G:=G) (x:=x) with e | e
 ·rcases J7 (G:=H) (x:=x) with f | f
  ·rw [e,f]
  ·exact zCP c ((h _).2 f)
 ·exact (zCP d ((h _).1 e)).symm
theorem zNZ (g:KB G) (x:Wpl.Cl) {f:Ce} (m:f.t=⟨#[]⟩->f=ce0):KB (VY x f G)/\((∀ p ∈ G,¬ p.2.t=⟨#[]⟩)->∀ p ∈ VY x f G,¬ p.2.t=⟨#[]⟩)/\gtE x (VY x f G)=f/\∀ y,y ≠ x->gtE y (VY x f G)=gtE y G:=by
 unfold VY;by_cases i:f.t=⟨#[]⟩
 ·rw [if_pos i];obtain ⟨d,c⟩:=g.del x;exact ⟨d,λh p j=>h p ((c p.1 p.2).1 j).2,by rw [m i];exact zMg (λe l=>((c x e).1 l).1 rfl),λy hy=>zJb d g (λe=>by rw [c];exact ⟨λh=>h.2,λh=>⟨hy,h⟩⟩)⟩
 ·rw [if_neg i];obtain ⟨d,c⟩:=g.put x f;exact ⟨d,λh p j=>((c p.1 p.2).1 j).elim (λq=>by rw [q.2];exact i) (λq=>h p q.2),zCP d ((c x f).2 (dZ ⟨rfl,rfl⟩)),λy hy=>zJb d g (λe=>by rw [c];exact ⟨λh=>h.elim (λq=>absurd q.1 hy) (λq=>q.2),λh=>qZ ⟨hy,h⟩⟩)⟩
theorem zJq (N:List (Wpl.Cl × Ce)):∀ (L:List Ch) (G:List (Wpl.Cl × Ce)),KB G->(∀ a ∈ L,(gtE a.x N).t=a.t/\(a.t=⟨#[]⟩->gtE a.x N=ce0))->KB (VP N L G)/\2 * (VP N L G).length<=2 * G.length+(L.length+szH L)/\((∀ p ∈ G,¬ p.2.t=⟨#[]⟩)->∀ p ∈ VP N L G,¬ p.2.t=⟨#[]⟩)/\(∀ y,(∃ a ∈ L,a.x=y)->gtE y (VP N L G)=gtE y N)/\∀ y,(∀ a ∈ L,a.x ≠ y)->gtE y (VP N L G)=gtE y G
 | [],G,hG,_=>⟨hG,by simp [VP],λh=>h,λy ⟨a,ha,_⟩=>(by cases ha),λy _=>rfl⟩
 | a::r,G,hG,h=>by
  obtain ⟨g,u⟩:=h a (gZ ..);obtain ⟨l,j,m,s⟩:=zNZ hG a.x (f:=gtE a.x N) (λe=>u (by rw [<-g];exact e));obtain ⟨z,E,r0,C,i⟩:=zJq N r _ l (λb hb=>h b (fZ _ hb));have D:2 * (VY a.x (gtE a.x N) G).length<=2 * G.length+(1+a.t.size):=by
   unfold VY;rw [g];by_cases d:a.t=⟨#[]⟩
   ·rw [if_pos d];have:=zMu a.x G;omega
   ·rw [if_neg d];have:=zN3 a.x (gtE a.x N) G;have:0<a.t.size:=by
     rcases xZ a.t.size with q | q
     ·exact absurd (ByteArray.ext (Array.ext' (hZ q))) d
     ·exact q
    omega
  refine ⟨z,?_,λh=>r0 (j h),λy hy=>?_,λy hy=>?_⟩
  ·have e:szH (a::r)=a.t.size+szH r:=by simp [szH]
   show 2 * (VP N r (VY a.x (gtE a.x N) G)).length<=_
   rw [e,zZ];omega
  ·show gtE y (VP N r (VY a.x (gtE a.x N) G))=_
   by_cases c:∃ b ∈ r,b.x=y
   ·exact C y c
   ·obtain ⟨b,hb,e⟩:=hy;rw [i y (λb hb e=>c ⟨b,hb,e⟩)];rcases List.mem_cons.1 hb with rfl | hb
    ·rw [<-e,m]
    ·exact absurd ⟨b,hb,e⟩ c
  ·show gtE y (VP N r (VY a.x (gtE a.x N) G))=_
   rw [i y (λb hb=>hy b (fZ _ hb)),s y (λe=>hy a (gZ ..) e.symm)]
theorem zEM (n:Nat) (rs:Ch->List I ⊕ (Int × Int)):∀ (L:List Ch) (i:Nat) (N c:List (Wpl.Cl × Ce)),KB N->raP n rs L i N=.inr c->KB c/\(∀ p ∈ N,p ∈ c)/\∀ a ∈ L,Jh n a.x=true/\∃ C,rs a=.inl C/\(a.x,(⟨a.t,C⟩:Ce)) ∈ c
 | [],i,N,c,hK,h=>by
  unfold raP at h;simp only [Sum.inr.injEq] at h;subst h;exact ⟨hK,λp d=>d,λa ha=>by cases ha⟩
 | a::r,i,N,c,hK,h=>by
  unfold raP at h;by_cases e:Jh n a.x=false
  ·rw [if_pos e] at h;cases h
  ·rw [if_neg e] at h;by_cases g:(fnB a.x N 0).isSome=true
   ·rw [if_pos g] at h;cases h
   ·rw [if_neg g] at h;cases j:rs a with
    | inr q=>rw [j] at h;cases h
    | inl C =>
     rw [j] at h;obtain ⟨u,l⟩:=hK.put a.x (⟨a.t,C⟩:Ce);obtain ⟨y,m,z⟩:=zEM n rs r (i+1) _ c u h;have s:fnB a.x N 0=none:=by simpa using g
     refine ⟨y,λp d=>m p ((l p.1 p.2).2 (qZ ⟨zAp a.x N 0 s p d,d⟩)),λb hb=>?_⟩;rcases List.mem_cons.1 hb with rfl | hb
     ·exact ⟨by simpa using e,C,j,m _ ((l _ _).2 (dZ ⟨rfl,rfl⟩))⟩
     ·exact z b hb
theorem zMY (n:Nat) (rs:Ch->List I ⊕ (Int × Int)):∀ (L:List Ch) (i:Nat) (N c:List (Wpl.Cl × Ce)),KB N->raP n rs L i N=.inr c->∀ p ∈ c,p ∈ N \/ ∃ a ∈ L,p.2.t=a.t
 | [],i,N,c,hK,h=>by
  unfold raP at h;simp only [Sum.inr.injEq] at h;subst h;exact λp d=>dZ d
 | a::r,i,N,c,hK,h=>by
  unfold raP at h;by_cases e:Jh n a.x=false
  ·rw [if_pos e] at h;cases h
  ·rw [if_neg e] at h;by_cases g:(fnB a.x N 0).isSome=true
   ·rw [if_pos g] at h;cases h
   ·rw [if_neg g] at h;cases j:rs a with
    | inr q=>rw [j] at h;cases h
    | inl C =>
     rw [j] at h;obtain ⟨m,s⟩:=hK.put a.x (⟨a.t,C⟩:Ce);intro p d;rcases zMY n rs r (i+1) _ c m h p d with q | ⟨b,l,q⟩
     ·rcases (s p.1 p.2).1 q with q | q
      ·exact qZ ⟨a,gZ ..,by rw [q.2]⟩
      ·exact dZ q.2
     ·exact qZ ⟨b,fZ _ l,q⟩
theorem zIo (n:Nat) (rs:Ch->List I ⊕ (Int × Int)):∀ (L:List Ch) (i:Nat) (N:List (Wpl.Cl × Ce)) (q:Int × Int × Int),(∀ a ∈ L,Jh n a.x=true->∀ q,rs a=.inr q->q.1 ≠ 0/\zOc q.2)->raP n rs L i N=.inl q->q.1 ≠ 0/\(∃ j:Nat,q.2.1=(i:Int)+(j:Int)/\j<L.length)/\zOc q.2.2
 | [],i,N,q,_,h=>by unfold raP at h;cases h
 | a::r,i,N,q,hL,h=>by
  unfold raP at h;have c:∃ j:Nat,(i:Int)=(i:Int)+(j:Int)/\j<(a::r).length:=⟨0,sM,sM⟩
  by_cases d:Jh n a.x=false
  ·rw [if_pos d] at h;simp only [Sum.inl.injEq] at h;subst h;exact ⟨sM,c,dZ (iZ _)⟩
  ·rw [if_neg d] at h;by_cases l:(fnB a.x N 0).isSome=true
   ·rw [if_pos l] at h;simp only [Sum.inl.injEq] at h;subst h;exact ⟨sM,c,dZ (iZ _)⟩
   ·rw [if_neg l] at h;cases g:rs a with
    | inr e =>
     rw [g] at h;simp only [Sum.inl.injEq] at h;subst h;have:=hL a (gZ ..) (by simpa using d) e g;exact ⟨this.1,c,this.2⟩
    | inl C =>
     rw [g] at h;obtain ⟨m,⟨j,t,p⟩,s⟩:=zIo n rs r (i+1) _ q (λb hb=>hL b (fZ _ hb)) h;exact ⟨m,⟨j+1,oM,by simpa using p⟩,s⟩
structure EdAcc (n:Nat) (rs:Ch->List I ⊕ (Int × Int)) (G:List (Wpl.Cl × Ce)) (L:List Ch) (G':List (Wpl.Cl × Ce)):Prop where
 ok:GOk n rs G'
 len:2 * G'.length<=2 * G.length+(L.length+szH L)
 new:∀ a ∈ L,Jh n a.x=true/\∃ C,rs a=.inl C/\gtE a.x G'=⟨a.t,C⟩
 old:∀ y,(∀ a ∈ L,a.x ≠ y)->gtE y G'=gtE y G
def EdC (n:Nat) (rs:Ch->List I ⊕ (Int × Int)) (c:Int) (G:List (Wpl.Cl × Ce)) (L:List Ch) (r:(Int × Int × Int) × Int × List (Wpl.Cl × Ce)):Prop :=
 (r.1.1 ≠ 0/\r.2=(c,G)/\0<=r.1.2.1/\(0<L.length->r.1.2.1<(L.length:Int))/\zOc r.1.2.2) \/ (r.1=(0,0,0)/\r.2.1=c+1/\0<L.length/\L.length<=256/\EdAcc n rs G L r.2.2)
theorem zMn (h:GOk n rs G) (y:Wpl.Cl):(gtE y G).t.size<=1000000000000000:=by
 rcases J7 (G:=G) (x:=y) with e | e
 ·rw [e];exact vZ _
 ·exact (h.2 _ e).2.1
theorem zH8 (nm:List ByteArray) (rs:Ch->List I ⊕ (Int × Int)) (l:Vr nm rs) (m:Int) (G:List (Wpl.Cl × Ce)) (L:List Ch) (z:GOk nm.length rs G) (E:∀ a ∈ L,a.t.size<=1000000000000000):EdC nm.length rs m G L (edP nm.length rs m G L):=by
 unfold edP;by_cases P:L.length=0
 ·rw [if_pos P];exact dZ ⟨sM,rfl,iZ _,λh=>by omega,dZ (iZ _)⟩
 rw [if_neg P];by_cases R:256<L.length
 ·rw [if_pos R];exact dZ ⟨sM,rfl,iZ _,λh=>by show (0:Int)<_;omega,dZ (iZ _)⟩
 rw [if_neg R];cases hq:raP nm.length rs L 0 [] with
 | inl q =>
  obtain ⟨s,⟨j,K,M⟩,u⟩:=zIo nm.length rs L 0 [] q (λa c hb=>(l a hb (E a c)).2.2) hq;exact dZ ⟨s,rfl,by show (0:Int)<=q.2.1;omega,λ_=>by show q.2.1<_;omega,u⟩
 | inr N =>
  simp only;by_cases X:4096<lbE G L (G.length:Int)
  ·rw [if_pos X];exact dZ ⟨sM,rfl,iZ _,λh=>by show (0:Int)<_;omega,dZ (iZ _)⟩
  ·rw [if_neg X];obtain ⟨kN,_,hA⟩:=zEM nm.length rs L 0 [] N (by simp [KB]) hq;have T:∀ a ∈ L,Jh nm.length a.x=true/\∃ C,rs a=.inl C/\gtE a.x N=⟨a.t,C⟩:=λa c=>by
    obtain ⟨b1,C,b2,b3⟩:=hA a c;exact ⟨b1,C,b2,zCP kN b3⟩
   obtain ⟨s,K,H,M,u⟩:=zJq N L G z.1 (λa c=>by
    obtain ⟨b1,C,b2,b3⟩:=T a c;refine ⟨by rw [b3],λD=>?_⟩;have:=(l a b1 (E a c)).2.1 C b2;have hC:C=[]:=by
     rcases xZ C.length with q | q
     ·exact hZ q
     ·have g:=this.1.1 q;rw [D] at g;cases g
    rw [b3,D,hC])
   have d:∀ a ∈ L,Jh nm.length a.x=true/\∃ C,rs a=.inl C/\gtE a.x (VP N L G)=⟨a.t,C⟩:=λa c=>by
    obtain ⟨b1,C,b2,b3⟩:=T a c;exact ⟨b1,C,b2,by rw [M _ ⟨a,c,rfl⟩,b3]⟩
   refine qZ ⟨rfl,rfl,oM,oM,⟨⟨s,λp i=>?_⟩,K,d,u⟩⟩;obtain ⟨y,e⟩:=p;have W:=zCP s i;by_cases hy:∃ a ∈ L,a.x=y
   ·obtain ⟨a,c,rfl⟩:=hy;obtain ⟨b1,C,b2,b3⟩:=d a c;rw [W] at b3;subst b3;refine ⟨λD=>?_,E a c,b1,b2⟩;exact H (λp i=>(z.2 p i).1) _ i D
   ·have g:=u y (λa c e=>hy ⟨a,c,e⟩);rw [W] at g;rcases J7 (G:=G) (x:=y) with q | q
    ·rw [q] at g;exact absurd (congrArg Ce.t g) (H (λp i=>(z.2 p i).1) _ i)
    ·rw [<-g] at q;exact z.2 _ q
theorem zOL (c:Int) {G:List (Wpl.Cl × Ce)} {a:Ch} {C:List I} (d:Jh n a.x=true) (i:rs a=.inl C) (j:G.length<4096):(edP n rs c G [a]).1.1=0:=by
 have e:raP n rs [a] 0 []=.inr (VU a.x ⟨a.t,C⟩ []):=by
  unfold raP;rw [if_neg (by rw [d];decide),if_neg (by simp [fnB]),i];rfl
 have g:¬ 4096<lbE G [a] (G.length:Int):=by
  simp only [lbE];split <;> split <;> omega
 unfold edP;rw [if_neg sM,if_neg sM,e];simp only;rw [if_neg g]
theorem zFy (d mb lo:Nat) (j:Option dW) (l:Nat) (nm:List ByteArray) (rs:Ch->List I ⊕ (Int × Int)) (p:Vr nm rs) (c:Int) (G:List (Wpl.Cl × Ce)) (i:Option dW) (n cap:Nat) (L:List Ch) (w:wW) (u:BEnv w) (h:BK w d mb lo j l nm c G) (K:RdH w i L) (H:L.length=n) (T:GOk nm.length rs G) (R:G.length<=1000000) (hv:0<=c/\c<=1000000000) (E:∀ g o,i=some ⟨g,o,none⟩->g ≠ mb) (z:∀ a ∈ L,a.t.size<=1000000000000000) :
  cW prog 9 #[pX (some ⟨d,0,none⟩),U i n cap] w λe w'=>∃ r,EdC nm.length rs c G L r/\r=edP nm.length rs c G L/\EdQ d mb lo j l nm r w e w':=by
 have W:=zH8 nm rs p c G L T z;have C:∀ a ∈ L,Jh nm.length a.x=true->VQ nm a.x a.t (rs a):=λa D hh=>(p a hh (z a D)).1
 have X:∀ y,(gtE y G).t.size<=9223372036854775807:=λy=>cY (zMn T y) dM
 refine Calls.mono (?_:cW prog 9 #[pX (some ⟨d,0,none⟩),U i n cap] w (EdQ d mb lo j l nm (edP nm.length rs c G L) w)) (λe w' q=>⟨_,W,rfl,q⟩);clear W;unfold edP;by_cases M:L.length=0
 ·rw [if_pos M];exact zIb d mb lo j l nm c G i n cap w h oM
 rw [if_neg M];by_cases P:256<L.length
 ·rw [if_pos P];exact zIh d mb lo j l nm c G i n cap w h oM
 rw [if_neg P];cases m:raP nm.length rs L 0 [] with
 | inl q=>exact zHR d mb lo j l nm c G i n cap L rs w u h K H oM oM C q m
 | inr N =>
  simp only;by_cases s:4096<lbE G L (G.length:Int)
  ·rw [if_pos s];exact zIO d mb lo j l nm c G i n cap L rs w u h K H oM oM C N m R X s
  ·rw [if_neg s];obtain ⟨kN,_,hA⟩:=zEM nm.length rs L 0 [] N (by simp [KB]) m;refine zIz d mb lo j l nm c G i n cap L rs w u h K H oM oM C N m R X (λy=>?_) s hv E;rcases J7 (G:=N) (x:=y) with e | e
   ·rw [e];exact vZ _
   ·rcases zMY nm.length rs L 0 [] N (by simp [KB]) m _ e with q | ⟨a,D,q⟩
    ·cases q
    ·have:=z a D;rw [show (gtE y N).t=a.t from q];omega
open Go.RowKit
def ndS (s:ByteArray):Wt.Nd:=⟨2,Wt.v0,0,⟨#[]⟩,0,⟨s,0,0,false,false⟩,Wt.r0⟩
abbrev zCB:Array vW:=#[O J 0,O J 0,O J 0,O J 0,V ⟨#[]⟩,Y false,O J 0,O J 0,V ⟨#[]⟩,O J 0,V ⟨#[]⟩,O J 0,O J 0,Y false,Y false,V ⟨#[]⟩,O J 0,O J 0,Y false,Y false]
def ndZ:Wt.Nd:=⟨0,Wt.v0,0,⟨#[]⟩,0,Wt.r0,Wt.r0⟩
theorem zM7:Wt.FitV Wt.v0:=⟨dM,dM,dM⟩
theorem zRo (s:ByteArray) (w:wW):(Instr.build 98 #[(0,O J 2),(5,gX #[V s,O J 0,O J 0,Y false,Y false])]).run prog w=.ok (gX (QN (ndS s)).toArray) w:=kR
theorem evC (a:Act) (v:vW):a.eval (.const v)=v:=rfl
theorem zFA (c:op.guard=none) (y:Operand) (e:op.op=.build 98 #[(0,.const (O J 2)),(5,y)]) (s:ByteArray) (g:a.eval y=gX #[V s,O J 0,O J 0,Y false,Y false])
  (h:wpList prog ops Q rest (a.put op.dst (gX (QN (ndS s)).toArray)) w):wpList prog ops Q (op::rest) a w:=by
 refine wpList_plain c λK d=>?_
 unfold Oper.wp execOp;simp only [e,kZ,rZ,sZ,evC,g,oZ,pZ,eZ,zRo];exact d _ _ h
theorem bsS (x:Wt.Nd) (w:wW):(Instr.buildSlice 100 1 #[(0,gX (QN x).toArray)]).run prog w=.ok (U (some ⟨w.heap.size,0,none⟩) 1 1) (w.alloc (Z (QN x).toArray 98)):=kR
theorem zGN (e:Region.wanted op (yielded ops a.tmps)=true) (y:Operand) (d:op.op=.buildSlice 100 1 #[(0,y)]) (x:Wt.Nd) (g:a.eval y=gX (QN x).toArray)
  (h:wpList prog ops Q rest (a.put op.dst (U (some ⟨w.heap.size,0,none⟩) 1 1)) (w.alloc (Z (QN x).toArray 98))):wpList prog ops Q (op::rest) a w:=by
 refine BigFrame.wpList_want e λK c=>?_
 unfold Oper.wp execOp;simp only [d,kZ,rZ,sZ,g,oZ,pZ,eZ,bsS];exact c _ _ h
theorem zCD (s:ByteArray) (w:wW) (C:OpsAt w) (z:¬ s=⟨#[]⟩) (M:s.size<=1000) (K:Wt.check [ndS s]=0) :
  CR 30 #[V s] w (Y true):=by
 have P:=zL9 z;have y:AtL (w.alloc (Z zCB 98)) w.heap.size (QN ndZ):=AtL.new0 w 98 (QN ndZ);have m:=QJ (bZ _ w) (Z zCB 98);have q:World.there (w.alloc (Z zCB 98)) w.heap.size 0 (QN (ndS s)).toArray.size:=y.there;have E:AtL ((w.alloc (Z zCB 98)).setCells w.heap.size 0 (QN (ndS s))) w.heap.size (QN (ndS s)):=y.setAll rfl;have c:bL w ((w.alloc (Z zCB 98)).setCells w.heap.size 0 (QN (ndS s))):=Qm m (cZ _) _ 0;have j:=C.below c;clear C m y z;go_enter func30,ntmps30;go_upto_region 1 with fail
 go_upto_region 2 with (first | (refine zFA rfl (mX 5) rfl s rfl ?_) | ((with_reducible refine wpList_store_mid ?_ 98 (mX 3) (mX 6) ?_ w.heap.size 0 (QN (ndS s)).toArray ?_ ?_ ?_ ?_ ?_ ?_);rfl;rfl;rfl;rfl;exact q;kernel_rfl;exact Jl _))
 simp only [Act.put];generalize (w.alloc (Z zCB 98)).setCells w.heap.size 0 (QN (ndS s))=l at *;have I:=E.range;have d:=QJ (bZ _ l) (Z (QN (ndS s)).toArray 98);have H:=(AtL.new0 l 98 (QN (ndS s))).range;have t:=zBZ (some ⟨l.heap.size,0,none⟩) 1 [ndS s] (l.alloc (Z (QN (ndS s)).toArray 98)) sM (λx D=>by simp at D;subst D;exact ⟨zM7,by show (0:Nat)<=_;omega,by show s.size<=_;omega,by show (0:Nat)<=_;omega⟩) (j.below d) (λi L=>by
  have:i=0:=by simpa using L
  subst this;exact ⟨l.heap.size,0,rfl,by simpa using H⟩)
 rw [K] at t;have g:=hid (QA c d);clear c d H j E q;go_wp2_with (first | ((with_reducible refine QB (cs:=QN (ndS s)) ?_ 98 (mX 3) ?_ w.heap.size 0 ?_ _ ?_ underlying98 ?_ ?_ ?_);rfl;rfl;rfl;exact I;rfl;kernel_rfl) | (refine zGN (by rfl) (mX 10) rfl (ndS s) rfl ?_))
 refine t.mono ?_;rintro e N ⟨rfl,p⟩;have u:=hid (QA g.out p);clear t p g I;go_wp2;go_ret;exact ⟨rfl,u.out⟩
theorem zPw {s t:ByteArray} (h:¬ s=t):(s.toList == t.toList)=false:=by
 rw [beq_eq_false_iff_ne];intro e;rw [ByteArray.toList_eq,ByteArray.toList_eq] at e;exact h (ByteArray.ext (Array.ext' e))
def ixS (s:ByteArray):List ByteArray->Nat->Int
 | [],_=>-1
 | a::r,i=>if s=a then (i:Int) else ixS s r (i+1)
theorem zIa (L:List ByteArray) (s:ByteArray) (z:Option dW) (n cap:Nat) (w:wW) (E:RdS w z L) (D:L.length=n) (H:True->n<=1000000) :
  cW prog 35 #[U z n cap,V s] w λe w'=>e=rX (O J (ixS s L 0))/\w=w':=by
 obtain ⟨R,t⟩:=xV (ixS s L 0)
 rw [t];have p:=hid t;have d:=hid (And.intro E D);clear E D t;go_enter func35,ntmps35;go_upto_region 2 with fail
 go_loopg [8] n (λgk x wr=>∃ i:Nat,x=O J (i:Int)/\gk=n - i/\hH (i<=n)/\hH (ixS s (L.drop i) i=R)/\wr=w)
 case atStart=>exact ⟨0,rfl,rfl,vZ _,p,rfl⟩
 case round =>
  obtain ⟨i,rfl,W,P,c,rfl⟩:=hrel;by_cases g:i<n
  ·have y:(i:Int)<(n:Int):=oM;have I:(0:Int)<=(i:Int):=oM;have K:J.wrap ((i:Int)+1)=(i:Int)+1:=by have:=H trivial;rw [IntKind.wrap_i64];omega
   have C:i<L.length:=by rw [d.out.2];exact g
   obtain ⟨T,N,e,M⟩:=d.out.1 i C;subst e;obtain ⟨a,u⟩:=xV (L[i])
   rw [u] at M;have j:hH (ixS s (L.drop i) i=if s=a then (i:Int) else ixS s (L.drop (i+1)) (i+1)):=by
    show _=_
    rw [tZ C,u];rfl
   clear u;by_cases l:s=a
   ·subst l;have m:hH (R=(i:Int)):=by show _=_;rw [<-c.out,j.out,if_pos rfl]
    clear j c d;go_wp2;go_ret;exact ⟨by rw [m.out];rfl,rfl⟩
   ·have X:=zPw l;have q:hH (ixS s (L.drop (i+1)) (i+1)=R):=by show _=_;rw [<-c.out,j.out,if_neg l]
    clear j c l;go_wp2_with fail
    go_roundg (n - (i+1))
    case rel=>exact ⟨i+1,sM,rfl,g,q,rfl⟩
    case measure=>omega
  ·have y:¬ (i:Int)<(n:Int):=oM;have m:hH (R = -1):=by
    show _=_
    rw [<-c.out,uZ (by rw [d.out.2];omega)];rfl
   clear c d;go_wp2;go_ret;exact ⟨by rw [m.out];rfl,rfl⟩
theorem zCF (L:List ByteArray) (s:ByteArray) (c:Option dW) (n cap:Nat) (w:wW) (l:RdS w c L) (j:L.length=n) (g:True->n<=1000000) :
  cW prog 31 #[U c n cap,V s] w λe w'=>e=rX (Y (decide (ixS s L 0 ≥ 0)))/\w=w':=by
 have d:=zIa L s c n cap w l j g;obtain ⟨k,i⟩:=xV (ixS s L 0)
 rw [i] at d ⊢;clear l j g i;go_enter func31,ntmps31;go_wp2_with fail
 refine d.mono ?_;rintro e m ⟨rfl,rfl⟩;go_wp2;go_ret;exact ⟨rfl,rfl⟩
theorem zOS (g mb:Nat) (c:Option dW) (l:Nat) (nm:List ByteArray) (d:Int) (s:ByteArray) (w:wW) (h:AtL w g [U c nm.length l,O J d,.map (some mb)]) (j:RdS w c nm) (i:True->nm.length<=1000000) :
  cW prog 18 #[pX (some ⟨g,0,none⟩),V s] w λe w'=>e=rX (O J (ixS s nm 0))/\w=w':=by
 have m:=zIa nm s c nm.length l w j rfl i;obtain ⟨p,_,_,_⟩:=h.three;clear h j i;go_enter func18,ntmps18;go_wp2_with fail
 refine m.mono ?_;rintro e q ⟨rfl,rfl⟩;go_wp2;go_ret;exact ⟨rfl,rfl⟩
theorem zR7:prog.underlying 85=some (.slice 3):=kR
theorem zGk {ops:Array Oper} {rest:List Oper} {a:Act} {Q:Exit->Act->wW->Prop} (l:o.guard=none) (C x:Operand) (N:o.op=.call {callee:=.builtin .append,args:=#[C,x],argTypes:=#[85,85]})
  (w:wW) (B:Nat) (I:B<=w.heap.size) (v:vW) (n:Nat) (y:List vW) (T:a.eval C=v) (d:w.ownsRow B 3 1 v n y) (k m c:Nat) (e:List vW) (M:e.length=m * 1) (W:a.eval x=U (some ⟨k,0,none⟩) m c) (i:∀ j u,e[j]? = some u->w.cell? ⟨k,j,none⟩=some u) (D:∀ u ∈ e,u.oneCell'=true) (hn:n+m<=2000000000)
  (h:∀ g w',w'.ownsRow B 3 1 g (n+m) (y++e)->w.grownBy w' v.ownBlock->wpList prog ops Q rest (a.put o.dst g) w'):wpList prog ops Q (o::rest) a w:=by
 refine wpList_plain l λK L=>?_
 obtain ⟨X,p,q,s,t⟩:=info_parts zI0;obtain ⟨g,w',R,E,H,_,h5⟩:=run_append_own_at (P:=prog) w B 85 o.type 3 X _ 1 8 zR7 p q s t rfl dM v n y d ⟨k,0,none⟩ m c e M (λj z hj=>by
   have:=i j z hj;rw [show (⟨k,0,none⟩:dW).add j=⟨k,j,none⟩ from by
    simp [Addr.add];try (intro h0;omega)]
   exact this) D (by unfold maxLen;omega) oM I
 unfold Oper.wp execOp;simp only [N,resolve,invoke,builtin,oZ,pZ,eZ,kZ,rZ,sZ,T,W,R];exact L _ _ (h g w' E H)
theorem zNl (g n c:Nat) (w:wW):(binOp .eql 85 (U (some ⟨g,0,none⟩) n c) (U none 0 0)).run prog w=.ok (Y false) w:=kR
theorem zO0 (w:wW):(binOp .eql 85 (U none 0 0) (U none 0 0)).run prog w=.ok (Y true) w:=kR
def zNu (n:Nat) (c:List vW) (w:wW) (en:Ending) (w':wW):Prop:=(∃ v,en=rX v/\w'.ownsRow w.heap.size 3 1 v n c)/\bL w w'
theorem zQA (z:vW) (n:Nat) (l:List vW) (B:Nat) (w:wW) (h:w.ownsRow B 3 1 z n l) (d:∀ u ∈ l,u.oneCell'=true) (R:True->n<=1000000000) :
  cW prog 42 #[z] w (zNu n l w):=by
 have c:=h.1;rcases h.2 with ⟨e,K⟩ | ⟨g,cap,I,e,s,W,L,M,N,P⟩
 ·subst e K;have en:=λw=>zO0 w
  have p:hH (zNu 0 l w (rX (U none 0 0)) w):=⟨⟨_,rfl,c,dZ ⟨rfl,rfl⟩⟩,bZ _ _⟩
  clear h c d;go_enter func42,ntmps42;go_wp2;go_ret;exact p.out
 ·subst e;have D:hH (∀ j u,l[j]? = some u->w.cell? ⟨g,j,none⟩=some u):=λj u x=>by
   have T:=h.cells (g:=g) rfl j u x;rwa [show (⟨g,0,none⟩:dW).add j=⟨g,j,none⟩ from by simp [Addr.add];intro h;exact h.symm] at T
  have H:=hid d;have E:=hid c;have q:=QJ (bZ _ w) (Z #[] 3);have X:(w.alloc (Z #[] 3)).ownsRow w.heap.size 3 1 (U (some ⟨w.heap.size,0,none⟩) 0 0) 0 []:=⟨rfl,qZ ⟨w.heap.size,0,#[],rfl,cZ _,(Go.MapKept.heap_alloc w _).1,cZ _,by unfold maxLen;omega,rfl,rfl⟩⟩
  have i:=hid q;have t:w.heap.size<=(w.alloc (Z #[] 3)).heap.size:=q.size;clear h L M N P W s q d c;have en:=λw=>zNl g n cap w
  go_enter func42,ntmps42;go_wp2_with (at_builtin;refine zGk rfl (mX 5) (mX 6) rfl (w.alloc (Z #[] 3)) w.heap.size t (U (some ⟨w.heap.size,0,none⟩) 0 0) 0 [] rfl X g n cap l E.out rfl (λj u x=>QC i.out (D.out j u x)) H.out (by have:=R trivial;omega) ?_;intro C w2 y m)
  have p:hH (zNu n l w (rX C) w2):=by
   refine ⟨⟨C,rfl,by simpa using y⟩,i.out.grown m i.out.size (λk e=>?_)⟩;have:some w.heap.size=some k:=e;simp at this;omega
  clear y m;go_wp2_with fail
  go_ret;exact p.out
theorem zRu:prog.underlying 55=some (.slice 87):=kR
theorem zGS {ops:Array Oper} {rest:List Oper} {a:Act} {Q:Exit->Act->wW->Prop} (l:o.guard=none) (C x:Operand) (N:o.op=.call {callee:=.builtin .append,args:=#[C,x],argTypes:=#[55,55]})
  (w:wW) (B:Nat) (I:B<=w.heap.size) (v:vW) (n:Nat) (y:List vW) (T:a.eval C=v) (d:w.ownsRow B 87 23 v n y) (k m c:Nat) (e:List vW) (M:e.length=m * 23) (W:a.eval x=U (some ⟨k,0,none⟩) m c) (i:∀ j u,e[j]? = some u->w.cell? ⟨k,j,none⟩=some u) (D:∀ u ∈ e,u.oneCell'=true) (hn:n+m<=2000000000)
  (h:∀ g w',w'.ownsRow B 87 23 g (n+m) (y++e)->w.grownBy w' v.ownBlock->wpList prog ops Q rest (a.put o.dst g) w'):wpList prog ops Q (o::rest) a w:=by
 refine wpList_plain l λK L=>?_
 obtain ⟨X,p,q,s,t⟩:=info_parts zH0;obtain ⟨g,w',R,E,H,_,h5⟩:=run_append_own_at (P:=prog) w B 55 o.type 87 X _ 23 208 zRu p q s t rfl dM v n y d ⟨k,0,none⟩ m c e M (λj z hj=>by
   have:=i j z hj;rw [show (⟨k,0,none⟩:dW).add j=⟨k,j,none⟩ from by
    simp [Addr.add];try (intro h0;omega)]
   exact this) D (by unfold maxLen;omega) oM I
 unfold Oper.wp execOp;simp only [N,resolve,invoke,builtin,oZ,pZ,eZ,kZ,rZ,sZ,T,W,R];exact L _ _ (h g w' E H)
theorem zOG (g n c:Nat) (w:wW):(binOp .eql 55 (U (some ⟨g,0,none⟩) n c) (U none 0 0)).run prog w=.ok (Y false) w:=kR
theorem zMv (w:wW):(binOp .eql 55 (U none 0 0) (U none 0 0)).run prog w=.ok (Y true) w:=kR
def zNY (n:Nat) (c:List vW) (w:wW) (en:Ending) (w':wW):Prop:=(∃ v,en=rX v/\w'.ownsRow w.heap.size 87 23 v n c)/\bL w w'
theorem zPn (z:vW) (n:Nat) (l:List vW) (B:Nat) (w:wW) (h:w.ownsRow B 87 23 z n l) (d:∀ u ∈ l,u.oneCell'=true) (R:True->n<=1000000000) :
  cW prog 41 #[z] w (zNY n l w):=by
 have c:=h.1;rcases h.2 with ⟨e,K⟩ | ⟨g,cap,I,e,s,W,L,M,N,P⟩
 ·subst e K;have en:=λw=>zMv w
  have p:hH (zNY 0 l w (rX (U none 0 0)) w):=⟨⟨_,rfl,c,dZ ⟨rfl,rfl⟩⟩,bZ _ _⟩
  clear h c d;go_enter func41,ntmps41;go_wp2;go_ret;exact p.out
 ·subst e;have D:hH (∀ j u,l[j]? = some u->w.cell? ⟨g,j,none⟩=some u):=λj u x=>by
   have T:=h.cells (g:=g) rfl j u x;rwa [show (⟨g,0,none⟩:dW).add j=⟨g,j,none⟩ from by simp [Addr.add];intro h;exact h.symm] at T
  have H:=hid d;have E:=hid c;have q:=QJ (bZ _ w) (Z #[] 87);have X:(w.alloc (Z #[] 87)).ownsRow w.heap.size 87 23 (U (some ⟨w.heap.size,0,none⟩) 0 0) 0 []:=⟨rfl,qZ ⟨w.heap.size,0,#[],rfl,cZ _,(Go.MapKept.heap_alloc w _).1,cZ _,by unfold maxLen;omega,rfl,rfl⟩⟩
  have i:=hid q;have t:w.heap.size<=(w.alloc (Z #[] 87)).heap.size:=q.size;clear h L M N P W s q d c;have en:=λw=>zOG g n cap w
  go_enter func41,ntmps41;go_wp2_with (at_builtin;refine zGS rfl (mX 5) (mX 6) rfl (w.alloc (Z #[] 87)) w.heap.size t (U (some ⟨w.heap.size,0,none⟩) 0 0) 0 [] rfl X g n cap l E.out rfl (λj u x=>QC i.out (D.out j u x)) H.out (by have:=R trivial;omega) ?_;intro C w2 y m)
  have p:hH (zNY n l w (rX C) w2):=by
   refine ⟨⟨C,rfl,by simpa using y⟩,i.out.grown m i.out.size (λk e=>?_)⟩;have:some w.heap.size=some k:=e;simp at this;omega
  clear y m;go_wp2_with fail
  go_ret;exact p.out
theorem zLB:(prog.info? 9).map (λi=>(i.zero,i.size,i.bytes))=some (some (V ⟨#[]⟩),1,16):=kR
theorem zRf:prog.underlying 49=some (.slice 9):=kR
theorem zGH {ops:Array Oper} {rest:List Oper} {a:Act} {Q:Exit->Act->wW->Prop} (p:o.guard=none) (D x:Operand) (R:o.op=.call {callee:=.builtin .append,args:=#[D,x],argTypes:=#[49,49]})
  (w:wW) (B:Nat) (L:B<=w.heap.size) (v:vW) (n:Nat) (C:List vW) (W:a.eval D=v) (e:w.ownsRow B 9 1 v n C) (k d m c:Nat) (g:List vW) (N:g.length=m * 1) (X:a.eval x=U (some ⟨k,d,none⟩) m c) (l:∀ j u,g[j]? = some u->w.cell? ⟨k,d+j,none⟩=some u) (E:∀ u ∈ g,u.oneCell'=true) (hn:n+m<=2000000000)
  (h:∀ i w',w'.ownsRow B 9 1 i (n+m) (C++g)->w.grownBy w' v.ownBlock->wpList prog ops Q rest (a.put o.dst i) w'):wpList prog ops Q (o::rest) a w:=by
 refine wpList_plain p λK M=>?_
 obtain ⟨i0,q,s,t,y⟩:=info_parts zLB;obtain ⟨i,w',T,H,I,_,h5⟩:=run_append_own_at (P:=prog) w B 49 o.type 9 i0 _ 1 16 zRf q s t y rfl dM v n C e ⟨k,d,none⟩ m c g N (λj z hj=>by
   have:=l j z hj;rw [show (⟨k,d,none⟩:dW).add j=⟨k,d+j,none⟩ from by
    simp [Addr.add];try (intro h0;omega)]
   exact this) E (by unfold maxLen;omega) oM L
 unfold Oper.wp execOp;simp only [R,resolve,invoke,builtin,oZ,pZ,eZ,kZ,rZ,sZ,W,X,T];exact M _ _ (h i w' H I)
theorem zO3 (g o n c:Nat) (w:wW):(binOp .eql 49 (U (some ⟨g,o,none⟩) n c) (U none 0 0)).run prog w=.ok (Y false) w:=kR
theorem zNW (w:wW):(binOp .eql 49 (U none 0 0) (U none 0 0)).run prog w=.ok (Y true) w:=kR
def zKc (n:Nat) (c:List vW) (w:wW) (en:Ending) (w':wW):Prop:=(∃ v,en=rX v/\w'.ownsRow w.heap.size 9 1 v n c)/\bL w w'
theorem zGt (g c n cap:Nat) (m:List vW) (w:wW) (d:m.length=n * 1) (p:∀ j u,m[j]? = some u->w.cell? ⟨g,c+j,none⟩=some u) (i:∀ u ∈ m,u.oneCell'=true) (H:True->n<=1000000000) :
  cW prog 32 #[U (some ⟨g,c,none⟩) n cap] w (zKc n m w):=by
 have z:=hid p;have E:=hid i;have D:=hid d;have s:=QJ (bZ _ w) (Z #[] 9);have K:(w.alloc (Z #[] 9)).ownsRow w.heap.size 9 1 (U (some ⟨w.heap.size,0,none⟩) 0 0) 0 []:=⟨rfl,qZ ⟨w.heap.size,0,#[],rfl,cZ _,(Go.MapKept.heap_alloc w _).1,cZ _,by unfold maxLen;omega,rfl,rfl⟩⟩
 have l:=hid s;have t:w.heap.size<=(w.alloc (Z #[] 9)).heap.size:=s.size;clear p s i d;have en:=λw=>zO3 g c n cap w
 go_enter func32,ntmps32;go_wp2_with (at_builtin;refine zGH rfl (mX 5) (mX 6) rfl (w.alloc (Z #[] 9)) w.heap.size t (U (some ⟨w.heap.size,0,none⟩) 0 0) 0 [] rfl K g c n cap m D.out rfl (λj u I=>QC l.out (z.out j u I)) E.out (by have:=H trivial;omega) ?_;intro y L x q)
 have C:hH (zKc n m w (rX y) L):=by
  refine ⟨⟨y,rfl,by simpa using x⟩,l.out.grown q l.out.size (λk e=>?_)⟩;have:some w.heap.size=some k:=e;simp at this;omega
 clear x q;go_wp2_with fail
 go_ret;exact C.out
theorem zPl (l:vW) (n:Nat) (i:List vW) (B:Nat) (w:wW) (h:w.ownsRow B 9 1 l n i) (d:∀ u ∈ i,u.oneCell'=true) (s:True->n<=1000000000) :
  cW prog 32 #[l] w (zKc n i w):=by
 have c:=h.1;rcases h.2 with ⟨e,q⟩ | ⟨g,cap,p,e,t,H,z,C,D,E⟩
 ·subst e q;have en:=λw=>zNW w
  have m:hH (zKc 0 i w (rX (U none 0 0)) w):=⟨⟨_,rfl,c,dZ ⟨rfl,rfl⟩⟩,bZ _ _⟩
  clear h c d;go_enter func32,ntmps32;go_wp2;go_ret;exact m.out
 ·subst e;exact zGt g 0 n cap i w c (λj u y=>by
   have x:=h.cells (g:=g) rfl j u y;rwa [show (⟨g,0,none⟩:dW).add j=⟨g,0+j,none⟩ from by
    simp [Addr.add];try (intro h;exact h.symm)] at x) d s
abbrev sS:ByteArray:=⟨#[83]⟩
abbrev sT:ByteArray:=⟨#[84]⟩
theorem zQY:Wt.check [ndS sS]=0:=by decide +kernel
theorem zRk:Wt.check [ndS sT]=0:=by decide +kernel
theorem zQx:¬ sS=⟨#[]⟩:=by
 intro h;have:=congrArg (λb=>b.data) h;simp at this
theorem zQw:¬ sT=⟨#[]⟩:=by
 intro h;have:=congrArg (λb=>b.data) h;simp at this
theorem sTS:¬ sT=sS:=by
 intro h;have:=congrArg (λb=>b.data) h;simp at this
theorem zK6 {L:List ByteArray} (h:w.ownsRow B 9 1 v L.length (L.map V)):∃ c cap,v=U c L.length cap/\L.length<=cap/\RdS w c L/\∀ g o,c=some ⟨g,o,none⟩->B<=g/\g<w.heap.size:=by
 have p:=λg=>QM (g:=g) h
 rcases h.2 with ⟨e,l⟩ | ⟨g,cap,j,e,q,y,m,t,u,x⟩
 ·subst e;refine ⟨none,0,by rw [l],oM,λi d=>by omega,λg o e=>by cases e⟩
 ·subst e;refine ⟨_,cap,rfl,m,λi d=>⟨g,0,rfl,?_⟩,λg' o e=>?_⟩
  ·have s:=h.cells (g:=g) rfl i (V (L[i])) (by rw [List.getElem?_map,mZ d];rfl);rwa [show (⟨g,0,none⟩:dW).add i=⟨g,0+i,none⟩ from by simp [Addr.add];try (intro h;omega)] at s
  ·simp only [Option.some.injEq,Addr.mk.injEq] at e;rw [<-e.1];exact p g rfl
def zRZ (w:wW) (e:Ending) (w':wW):Prop :=
 ∃ c mb d i,e=rX (uX #[pX (some ⟨c,0,none⟩),O J 0])/\BK w' c mb w'.heap.size d i [sS,sT] 0 []/\bL w w'/\w.heap.size<=c/\w.heap.size<=mb/\∀ g o,d=some ⟨g,o,none⟩->w.heap.size<=g/\g<w'.heap.size
theorem zJd (k:Nat) (w:wW) (R:OpsAt w) (h:w.ownsRow 0 9 1 (U (some ⟨k,0,none⟩) 2 2) 2 [V sS,V sT]) :
  cW prog 14 #[U (some ⟨k,0,none⟩) 2 2] w (zRZ w):=by
 have P:=hid R;have HK:=hid h;clear R h;go_enter func14,ntmps14;go_upto_region 6 with fail
 go_loopg [14] 2 (λgk x wr=>∃ i:Int,x=O J i/\(i=0/\gk=2 \/ i=1/\gk=1 \/ i=2/\gk=0)/\hH (bL w wr))
 case atStart=>exact ⟨0,rfl,dZ ⟨rfl,rfl⟩,bZ _ _⟩
 case round =>
  obtain ⟨i,rfl,C,p⟩:=hrel;generalize K:wr=W at *;clear K;have j:W.ownsRow 0 9 1 (U (some ⟨k,0,none⟩) 2 2) 2 [V sS,V sT]:=Q2 (Fr.of_below [] p.out) HK.out sM;have I:W.cell? ⟨k,0,none⟩=some (V sS):=by
   have:=j.cells (g:=k) rfl 0 _ rfl;rwa [show (⟨k,0,none⟩:dW).add 0=⟨k,0,none⟩ from rfl] at this
  have M:W.cell? ⟨k,1,none⟩=some (V sT):=by
   have:=j.cells (g:=k) rfl 1 _ rfl;rwa [show (⟨k,0,none⟩:dW).add 1=⟨k,1,none⟩ from by simp [Addr.add]] at this
  rcases C with ⟨rfl,rfl⟩ | ⟨rfl,rfl⟩ | ⟨rfl,rfl⟩
  ·have y:=zCD sS W (P.out.below p.out) zQx dM zQY;go_wp2_with fail
   refine y.mono ?_;rintro e d ⟨rfl,c⟩;have q:=hid (QA p.out c);have m:=zCF [] sS (some ⟨k,0,none⟩) 0 2 d (λi C=>by simp at C) rfl (λ_=>by omega);rw [show decide (ixS sS [] 0 ≥ 0)=false from by decide] at m;clear y c I M;go_wp2_with fail
   refine m.mono ?_;rintro e w2 ⟨rfl,rfl⟩;clear m;go_wp2_with fail
   go_roundg 1
   case rel=>exact ⟨1,sM,qZ (dZ ⟨rfl,rfl⟩),q⟩
   case measure=>omega
  ·have y:=zCD sT W (P.out.below p.out) zQw dM zRk;go_wp2_with fail
   refine y.mono ?_;rintro e d ⟨rfl,c⟩;have q:=hid (QA p.out c);have m:=zCF [sS] sT (some ⟨k,0,none⟩) 1 2 d (λi C=>by
    have:i=0:=by simpa using C
    subst this;exact ⟨k,0,rfl,QC c I⟩) rfl (λ_=>by omega)
   rw [show decide (ixS sT [sS] 0 ≥ 0)=false from by unfold ixS;rw [if_neg sTS];decide] at m;clear y c I M;go_wp2_with fail
   refine m.mono ?_;rintro e w2 ⟨rfl,rfl⟩;clear m;go_wp2_with fail
   go_roundg 0
   case rel=>exact ⟨2,sM,qZ (qZ ⟨rfl,rfl⟩),q⟩
   case measure=>omega
  ·have N:=zPl (U (some ⟨k,0,none⟩) 2 2) 2 [V sS,V sT] 0 W j (λu T=>by simp at T;rcases T with rfl | rfl <;> rfl) (λ_=>by omega);clear I M j;go_wp2_with fail
   refine N.mono ?_;rintro e d ⟨⟨v,rfl,ov⟩,c⟩;obtain ⟨E,H,rfl,l,D,t⟩:=zK6 (L:=[sS,sT]) ov;have mm:=zMi d;have z:=QJ (bZ _ d) (.map #[] 0);have s:=QJ z (Z #[U E 2 H,O J 0,.map (some d.heap.size)] 59);have q3:=AtL.new1 d (.map #[] 0) 59 [U E 2 H,O J 0,.map (some d.heap.size)];have X:=(zMj d).below (QJ (bZ _ _) (Z #[U E 2 H,O J 0,.map (some d.heap.size)] 59));have HE:hH (zRZ w (rX (uX #[pX (some ⟨d.heap.size+1,0,none⟩),O J 0])) ((d.alloc (.map #[] 0)).alloc (Z #[U E 2 H,O J 0,.map (some d.heap.size)] 59))):=by
    have hs:=p.out.size;have aa:=c.size;refine ⟨_,d.heap.size,E,H,rfl,⟨q3,RdS.below D s,l,λg o e=>?_,⟨[],X,trivial⟩,⟨sM,by simp;omega,cZ _⟩,oM⟩,QA (QA p.out c) s,oM,oM,λg o e=>?_⟩
    ·have:=(t g o e).2;omega
    ·have:=t g o e;simp only [World.size_alloc];omega
   clear N c z s q3 X D t ov l;go_wp2;go_ret2
   exact HE.out
def zQi:List Wlx.Tok:=[⟨3,[83],0⟩,⟨5,[33],1⟩,⟨3,[65,49],2⟩]
theorem zP6:Qk [83,33,65,49]=Wlx.Res.ok zQi:=by
 unfold Qk;rw [if_neg dM];rw [Wlx.scan_tok (k:=3) (n:=1) dM dM dM dM dM];show Wlx.Res.cons _ (Wlx.scan 1 [33,65,49])=_
 rw [Wlx.scan_tok (k:=5) (n:=1) dM dM dM dM dM];show Wlx.Res.cons _ (Wlx.Res.cons _ (Wlx.scan 2 [65,49]))=_
 rw [Wlx.scan_tok (k:=3) (n:=2) dM dM dM dM dM];show Wlx.Res.cons _ (Wlx.Res.cons _ (Wlx.Res.cons _ (Wlx.scan 4 [])))=_
 rw [Wlx.scan_nil];rfl
theorem zRw:Lib.decDigits 1=[49]:=by rw [Lib.decDigits_one dM];rfl
theorem zRj:Vt [65,49]=Wt.r0:=by
 unfold Vt Wt.r0;have c:Wpl.rdR (Jt [65,49])=0:=dM;have d:Wpl.rdC (Jt [65,49])=0:=dM;rw [c,d];rfl
theorem zRz:cw Wt.r0=[65,49]:=by
 unfold cw;show fx false++Wpl.colS 0++fx false++Lib.decDigits 1=_
 rw [zRw];decide
theorem zRn:rw1 [65,49]=some Wt.r0:=by
 unfold rw1;rw [if_pos dM,zRj,zRz,if_pos rfl]
def b1:Wlx.TV:=⟨3,[83],0⟩
def b2:Wlx.TV:=⟨5,[33],1⟩
def b3:Wlx.TV:=⟨3,[65,49],2⟩
theorem zRB {c:List Wlx.TV->PR} {k:Int} {row:List Wt.Nd} (h:Jc k ts=none):more c k n row ts=.inl (row,ts):=by cases n with
 | zero=>rfl
 | succ n=>simp only [more,h]
theorem zRm {row:List Wt.Nd} (h:Jc 6 ts=none):pct n row ts=.inl (row,ts):=by cases n with
 | zero=>rfl
 | succ n=>simp only [pct,h]
theorem upB {row:List Wt.Nd} (c:k<5) (h:lv en f (k+1) ts=.inl (row,r)) (d:Jc k r=none):lv en (f+1) k ts=.inl (row,r):=by
 rw [zNP _ _ _ c];unfold pbt;rw [h];exact zRB d
theorem zRi {row:List Wt.Nd} (h:lv en f 7 ts=.inl (row,r)) (c:Jc 6 r=none):lv en (f+1) 6 ts=.inl (row,r):=by
 rw [zOE];unfold ppc;rw [h];exact zRm c
theorem zR9 {q:PR} (c:Jc 5 ts=none) (h:lv en f 6 ts=q):lv en (f+1) 5 ts=q:=by
 rw [zNI];unfold psg;rw [c];exact h
theorem lvB (f:Nat):lv 4 (f+8) 0 [b1,b2,b3]=.inl ([ndS sS],[]):=by
 refine upB dM (upB dM (upB dM (upB dM (upB dM (zR9 dM (zRi ?_ dM)) dM) dM) dM) dM) dM;rw [zMy];unfold psi;rw [if_pos dM];unfold VD;rw [if_neg dM,if_pos dM,if_pos (by decide +kernel)];unfold pcs pc;rw [if_pos dM,if_neg dM,if_neg dM];rw [show (hd (List.drop 2 [b1,b2,b3]) 4).t=[65,49] from rfl,zRn];rfl
theorem zQh:V5 [83,33,65,49]=.inl [ndS sS]:=by
 unfold V5;rw [zP6];show Vh 4 [b1,b2,b3]=_
 unfold Vh;show (match Vc (lv 4 39 0) 4 [b1,b2,b3] with | .inr e=>_ | .inl (row,_)=>_)=_
 unfold Vc;rw [lvB 31];simp only;rw [if_pos zQY]
def bTr:Tr 1:=(⟨ndS sS,[]⟩:Br (Tr 0))
theorem zNX:row 1 bTr=[ndS sS]:=rfl
theorem zKW:Jw 1 bTr:=⟨by kernel_rfl,by kernel_rfl,λk c=>by cases c⟩
theorem zRM:flE 1 0 0 [sS,sT] 1 bTr=0:=kR
theorem zRC:flC 1 [sS,sT] 1 bTr=[ins 2 0 0,ins 16 0 0]:=kR
theorem zPk:zQR [sS,sT] ⟨1,0,0⟩ [ndS sS] 0 [ins 2 0 0,ins 16 0 0]:=λw B v q s i j p m l=>by
 obtain ⟨g,cap,rfl,d,c⟩:=zJL p sM;have:=zFR 1 bTr g 0 cap [ndS sS] 1 0 0 q [sS,sT] 2 s w (λx e=>by simp at e;subst e;exact ⟨zM7,by show (0:Nat)<=_;omega,by show (1:Nat)<=_;omega,by show (0:Nat)<=_;omega⟩) j i d m zQY zNX zKW sM c 1 rfl rfl l sM oM;rw [zRM,zRC] at this;exact this
abbrev tF:ByteArray:=⟨#[61,83,33,65,49]⟩
abbrev t2B:ByteArray:=⟨#[50]⟩
theorem zPf:VQ [sS,sT] ⟨1,0,0⟩ tF (.inl [ins 2 0 0,ins 16 0 0]):=zDx [sS,sT] ⟨1,0,0⟩ [83,33,65,49] tF rfl dM dM [ndS sS] zQh 0 _ zPk rfl
theorem zNw:VQ [sS,sT] ⟨0,0,0⟩ t2B (.inl []):=zFr [sS,sT] ⟨0,0,0⟩ t2B dM dM dM
theorem zFc (s r c:Int):Wpl.hullOk (λ_=>⟨s,r,c⟩) 1=Wpl.rightC s r c:=by
 simp [Wpl.hullOk,Wpl.anyN,Wpl.lacks]
def Vg (s r c:Int):Wpl.Ar:=if Wpl.rightC s r c then ⟨s,r,c,r,c⟩ else Wpl.nullA
theorem zNz (s r c:Int):Wpl.hullV (λ_=>⟨s,r,c⟩) 1=Vg s r c:=by
 unfold Wpl.hullV Vg;rw [zFc];rfl
theorem zIZ {W:wW} {s r c:Int} (h:AtL W k [O J s,O J r,O J c]):Cells W k 0 1 (λ_=>⟨s,r,c⟩):=λj hj=>by
 obtain rfl:j=0:=oM;exact ⟨h.2.1 0 _ rfl,h.2.1 1 _ rfl,h.2.1 2 _ rfl⟩
theorem zGc (s r c:Int) (w:wW) :
  CR 76 #[gX #[O J s,O J r,O J c]] w (uX #[gX #[O J (Vg s r c).s,O J (Vg s r c).t,O J (Vg s r c).l,O J (Vg s r c).b,O J (Vg s r c).r],Y (Wpl.rightC s r c)]):=by
 have i:=λ(k:Nat) (w:wW) (j:AtL w k [O J s,O J r,O J c])=>zF7 k 0 1 1 (λ_=>⟨s,r,c⟩) w oM oM oM oM j.lt (zIZ j)
 simp only [zFc,zNz] at i;generalize Vg s r c=g at *;generalize Wpl.rightC s r c=ok at *;obtain ⟨v0,C,D,E,H⟩:=g;go_enter func76,ntmps76;go_wp2_with fail
 refine (i _ _ (by with_reducible first | exact AtL.new0 _ _ _ | exact AtL.new1 _ _ _ _ | exact AtL.new ((w.alloc _).alloc _) _ (by simp only [World.size_alloc]) _)).mono ?_;rintro e m ⟨rfl,d⟩;have q:AtL m (w.heap.size+1) [O J 0,O J 0,O J 0,O J 0,O J 0]:=AtL.below d ((AtL.new1 w _ _ _).alloc _);have p:bL w m:=clA
 clear d;obtain ⟨r0,u,x,y,z,I,K,L,f3,M⟩:=q.five;go_wp2;refine bodyPost_ret (v:=uX #[gX #[O J v0,O J C,O J D,O J E,O J H],Y ok]) (by simp [results,results76,go_sem,r0,u,x,y,z]) rfl ⟨rfl,?_⟩;exact zA3 p oM _ _ _ _ _
open Go.ChangeMaps (setBlock heap_setBlock_same heap_setBlock_other)
open Go.ChangeShapes Go.WideShapes Go.MapKept
abbrev J0 (x:Wpl.Ar):List vW:=[O J x.s,O J x.t,O J x.l,O J x.b,O J x.r]
abbrev arV (x:Wpl.Ar):vW:=gX #[O J x.s,O J x.t,O J x.l,O J x.b,O J x.r]
def rdA (x:Wc.In):List Wpl.Ar:=if x.op=2 then [Vg x.ce.s x.ce.r x.ce.c] else if x.op=8 \/ x.op=11 then [x.ar] else if x.op=9 then [x.ar,x.pr] else []
def ddA (c:List Wpl.Ar):List Wpl.Ar->List Wpl.Ar
 | []=>c
 | a::r=>if c.any (λy=>Ji y a)=true then ddA c r else ddA (c++[a]) r
theorem zO6 (A C:List Wpl.Ar):∀ (c:List Wpl.Ar),ddA c (A++C)=ddA (ddA c A) C:=by
 induction A with
 | nil=>intro c;rfl
 | cons a r d =>
  intro c;simp only [List.cons_append,ddA];split
  ·exact d _
  ·exact d _
theorem zCr:∀ (A c:List Wpl.Ar),(ddA c A).length<=c.length+A.length
 | [],c=>cZ _
 | a::r,c=>by
  simp only [ddA];split
  ·have:=zCr r c;simp;omega
  ·have:=zCr r (c++[a]);simp at this ⊢;omega
def VM (L:List (Wc.In × List Int)):List Wpl.Ar:=L.flatMap λx=>rdA x.1
theorem zHu (x:Wc.In):(rdA x).length<=2:=by
 unfold rdA;repeat' split
 all_goals simp
theorem zCh:∀ (L:List (Wc.In × List Int)),(VM L).length<=2 * L.length
 | []=>cZ _
 | x::r=>by
  have c:=zCh r;have d:=zHu x.1;unfold VM at c ⊢;simp only [List.flatMap_cons,nZ,zZ];omega
theorem zI5 {L:List (Wc.In × List Int)} {i:Nat} (h:i<L.length):VM (L.take (i+1))=VM (L.take i)++rdA (L[i]).1:=by
 unfold VM;rw [List.take_succ_eq_append_getElem h,List.flatMap_append];simp
def Va:Nat->List Wpl.Ar->List MapEntry
 | _,[]=>[]
 | i,x::r=>⟨arV x,gX #[],i⟩::Va (i+1) r
theorem zFz:∀ (F:List Wpl.Ar) (i:Nat) (x:Wpl.Ar),Va i (F++[x])=Va i F++[⟨arV x,gX #[],i+F.length⟩]
 | [],i,x=>rfl
 | y::r,i,x=>by
  show _::Va (i+1) (r++[x])=_::(Va (i+1) r++_)
  rw [zFz r (i+1) x];have e:i+1+r.length=i+(r.length+1):=oM;rw [e];rfl
def AM (w:wW) (b:Nat) (F:List Wpl.Ar):Prop:=∃ c:Array MapEntry,w.heap[b]? = some (.map c F.length)/\c.toList=Va 0 F
theorem AM.lt (h:AM w b F):b<w.heap.size:=by
 obtain ⟨c,h,_⟩:=h;rcases yZ b w.heap.size with g | g
 ·exact g
 ·rw [Array.getElem?_eq_none g] at h;cases h
theorem AM.fr (h:AM w b F) (i:Fr S w w') (j:b ∉ S):AM w' b F:=by
 have c:=h.lt;obtain ⟨d,e,g⟩:=h;exact ⟨d,by rw [i.block b c j];exact e,g⟩
theorem AM.below (h:AM w b F) (c:bL w w'):AM w' b F:=h.fr (Fr.of_below [] c) sM
theorem zRR (c:Bool) (x:Wpl.Ar) (w:wW):(Instr.checkKey c 10000 84 (arV x)).run prog w=.ok () w:=kR
theorem zNt (x y:Wpl.Ar) (w:wW):(Op.equal 84 (arV x) (arV y)).run prog w=.ok (Ji x y) w:=by
 show (Op.equalIn (9998+2) 84 _ _).run _ _=_
 unfold Ji;by_cases c:x.s=y.s
 ·by_cases d:x.t=y.t
  ·by_cases e:x.l=y.l
   ·by_cases g:x.b=y.b
    ·by_cases i:x.r=y.r
     ·simp [go_sem,c,d,e,g,i]
     ·simp [go_sem,c,d,e,g,i]
    ·simp [go_sem,c,d,e,g]
   ·simp [go_sem,c,d,e]
  ·simp [go_sem,c,d]
 ·simp [go_sem,c]
theorem zHW (x y:Wpl.Ar):Ji x y=Ji y x:=by
 rw [Bool.eq_iff_iff,zFh,zFh];exact ⟨λh=>h.symm,λh=>h.symm⟩
theorem zPH (x:Wpl.Ar) (w:wW):∀ (F:List Wpl.Ar) (i:Nat),(Instr.findAsking 84 (arV x) (Va i F) i).run prog w=.ok ((F.findIdx? (λy=>Ji y x)).map λk=>(i+k,gX #[])) w
 | [],i=>rfl
 | y::r,i=>by
  have h:=zPH x w r (i+1);have e:=zNt x y w;rw [zHW] at e;unfold Va;rw [List.findIdx?_cons];cases c:Ji y x with
  | true =>
   rw [c] at e;simp [Instr.findAsking,e,bY]
  | false =>
   rw [c] at e;simp [Instr.findAsking,e,bY,h];cases r.findIdx? (λy=>Ji y x) with
   | none=>rfl
   | some k =>
    simp;omega
theorem zQb (x:Wpl.Ar) (F:List Wpl.Ar) (w:wW):(Instr.findKey 84 (arV x) (Va 0 F)).run prog w=.ok ((F.findIdx? (λy=>Ji y x)).map λk=>(k,gX #[])) w:=by
 have h:=zPH x w F 0;cases F with
 | nil=>simp [Instr.findKey,go_sem,Va,Instr.findNow]
 | cons y r =>
  simp [Instr.findKey,go_sem,Va,Instr.findNow,Instr.sameNow];simpa [Va] using h
theorem zNh:prog.underlying 103=some (.map 84 105):=kR
theorem zCg (F:List Wpl.Ar) (x:Wpl.Ar):F.findIdx? (λy=>Ji y x)=none ↔ F.any (λy=>Ji y x)=false:=by
 rw [List.findIdx?_eq_none_iff,List.any_eq_false];exact ⟨λh y c=>by simp [h y c],λh y c=>by simpa using h y c⟩
theorem zQ2 (h:AM w mb F) (x:Wpl.Ar):(Instr.lookup 103 (.map (some mb)) (arV x) true).run prog w=.ok (uX #[gX #[],Y (F.any (λy=>Ji y x))]) w:=by
 obtain ⟨g,d,e⟩:=h;cases c:F.findIdx? (λy=>Ji y x) with
 | none =>
  rw [(zCg F x).1 c];refine zB8 zNh d (zRR _ _ _) ?_ kR;rw [e,zQb,c];rfl
 | some k =>
  have:F.any (λy=>Ji y x)=true:=by
   cases q:F.any (λy=>Ji y x) with
   | true=>rfl
   | false=>rw [(zCg F x).2 q] at c;cases c
  rw [this];refine zCa (j:=k) zNh d (zRR _ _ _) ?_;rw [e,zQb,c];rfl
theorem zQU (h:AM w mb F) {x:Wpl.Ar} (g:F.any (λy=>Ji y x)=false):∃ w',(Instr.mapUpdate 103 (.map (some mb)) (arV x) (gX #[])).run prog w=.ok () w'/\AM w' mb (F++[x])/\w.grownBy w' (some mb):=by
 obtain ⟨e,c,d⟩:=h;refine ⟨_,zE3 zNh c _ (zRR _ _ _) (by rw [d,zQb,(zCg F x).2 g];rfl),⟨e.push ⟨arV x,gX #[],F.length⟩,?_,?_⟩,zAX c _⟩
 ·rw [heap_setBlock_same c,nZ];rfl
 ·rw [Array.toList_push,d,zFz];simp
theorem zDB (c:op.guard=none) (m x v:Operand) (q:op.op=.mapUpdate 103 m x v) (b:Nat) (p:a.eval m=.map (some b)) (y:Wpl.Ar) (t:a.eval x=arV y) (s:a.eval v=gX #[])
  (F:List Wpl.Ar) (i:AM w b F) (l:F.any (λz=>Ji z y)=false) (h:∀ w',AM w' b (F++[y])->w.grownBy w' (some b)->wpList prog ops Q rest (a.put op.dst (uX #[])) w'):wpList prog ops Q (op::rest) a w:=by
 obtain ⟨w',e,d,j⟩:=zQU i l;refine wpList_plain c λK g=>?_
 unfold Oper.wp execOp;simp only [q,p,t,s,oZ,pZ,eZ,e];exact g _ _ (h w' d j)
def JQ:List Wpl.Ar->List vW
 | []=>[]
 | x::r=>J0 x++JQ r
theorem zBp:∀ A:List Wpl.Ar,(JQ A).length=A.length * 5
 | []=>rfl
 | x::r=>by simp [JQ,zBp r];omega
theorem zDk:∀ (A C:List Wpl.Ar),JQ (A++C)=JQ A++JQ C
 | [],C=>rfl
 | x::r,C=>by simp [JQ,zDk r C]
theorem zDq:∀ (A:List Wpl.Ar),∀ v ∈ JQ A,v.oneCell'=true
 | [],v,h=>by cases h
 | x::r,v,h=>by
  simp only [JQ,J0,List.mem_append,List.mem_cons,List.not_mem_nil,or_false] at h;rcases h with (rfl | rfl | rfl | rfl | rfl) | h
  ·rfl
  ·rfl
  ·rfl
  ·rfl
  ·rfl
  ·exact zDq r v h
theorem zDa:∀ (A:List Wpl.Ar) (i j:Nat) (h:i<A.length),j<5->(JQ A)[i * 5+j]? = (J0 (A[i]))[j]?
 | x::r,0,j,_,hj=>by
  show (J0 x++JQ r)[0 * 5+j]? = _
  rw [List.getElem?_append_left (by simp;omega)];simp
 | x::r,i+1,j,h,hj=>by
  have c:=zDa r i j (by simpa using h) hj;show (J0 x++JQ r)[(i+1) * 5+j]? = _
  rw [List.getElem?_append_right (by simp;omega)];have e:(i+1) * 5+j - (J0 x).length=i * 5+j:=by simp;omega
  rw [e,c];rfl
def OwnA (w:wW) (B:Nat) (v:vW) (A:List Wpl.Ar):Prop:=w.ownsRow B 84 5 v A.length (JQ A)
theorem OwnA.nil (w:wW) (B:Nat):OwnA w B (U none 0 0) []:=⟨rfl,dZ ⟨rfl,rfl⟩⟩
theorem OwnA.blk (h:OwnA w B v A) {g:Nat} (e:v.ownBlock=some g):B<=g/\g<w.heap.size:=QM h e
theorem OwnA.below (h:OwnA w B v A) (c:bL w w'):OwnA w' B v A:=Q2 (Fr.of_below [] c) h sM
def RdA (w:wW) (v:vW) (A:List Wpl.Ar):Prop:=∃ c cap,v=U c A.length cap/\∀ i (h:i<A.length),∃ bb off,c=some ⟨bb,off,none⟩/\w.rangeAt bb (off+i * 5) (J0 (A[i]))
theorem RdA.below (h:RdA w v A) (p:bL w w'):RdA w' v A:=by
 obtain ⟨d,cap,e,h⟩:=h;refine ⟨d,cap,e,λi q=>?_⟩;obtain ⟨g,c,l,m⟩:=h i q;exact ⟨g,c,l,λj v s=>QC p (m j v s)⟩
theorem RdA.nil (w:wW):RdA w (U none 0 0) []:=⟨none,0,rfl,λi c=>absurd c (Nat.not_lt_zero _)⟩
theorem RdA.at0 {cap:Nat} (h:∀ j u,(JQ A)[j]? = some u->w.cell? ⟨b,j,none⟩=some u):RdA w (U (some ⟨b,0,none⟩) A.length cap) A:=by
 refine ⟨_,_,rfl,λi c=>⟨b,0,rfl,λj u hu=>?_⟩⟩;have d:j<5:=by
  rcases yZ j 5 with q | q
  ·exact q
  ·rw [wZ (by simpa using q)] at hu;cases hu
 rw [Nat.zero_add];exact h _ _ (by rw [zDa A i j c d];exact hu)
theorem OwnA.rd (h:OwnA w B v A):RdA w v A:=by
 rcases h.2 with ⟨e,i⟩ | ⟨g,cap,d,e,z,p,t,x,y,l⟩
 ·have m:A=[]:=hZ i;subst m;rw [e];exact RdA.nil w
 ·rw [e];refine RdA.at0 λj u c=>?_
  have s:=zBp A;have C:j<A.length * 5:=by
   rw [<-s];rcases yZ j (JQ A).length with q | q
   ·exact q
   ·rw [wZ q] at c;cases c
  rw [<-l,List.getElem?_take_of_lt oM] at c;unfold World.cell?;simp only [p];simpa using c
theorem zJc:(prog.info? 84).map (λi=>(i.zero,i.size,i.bytes))=some (some (gX #[O J 0,O J 0,O J 0,O J 0,O J 0]),5,40):=kR
theorem zDe {ops:Array Oper} {rest:List Oper} {a:Act} {Q:Exit->Act->wW->Prop} (i:o.guard=none) (s x:Operand) (E:o.op=.call {callee:=.builtin .append,args:=#[s,x],argTypes:=#[46,46]})
  (w:wW) (B:Nat) (t:B<=w.heap.size) (v:vW) (A:List Wpl.Ar) (H:a.eval s=v) (c:OwnA w B v A) (g n:Nat) (L:List Wpl.Ar) (D:n=L.length) (I:a.eval x=U (some ⟨g,0,none⟩) n n) (e:AtL w g (JQ L)) (P:A.length+L.length<=4000000)
  (h:∀ d w',OwnA w' B d (A++L)->w.grownBy w' v.ownBlock->wpList prog ops Q rest (a.put o.dst d) w'):wpList prog ops Q (o::rest) a w:=by
 subst D;obtain ⟨M,l,m,p,q⟩:=info_parts zJc;refine wpList_plain i λK y=>?_
 refine wp_append_own _ s x 46 E B 84 M _ 5 40 underlying46 l m p q rfl dM v A.length (JQ A) H c ⟨g,0,none⟩ L.length L.length (JQ L) I (zBp L) (λj u C=>?_) (zDq L) (by unfold maxLen;omega) oM t ?_
 ·have:=e.2.1 j u C;rw [show (⟨g,0,none⟩:dW).add j=⟨g,j,none⟩ from by
   simp [Addr.add];try (intro N;omega)]
  exact this
 ·intro d w' own z _;refine y _ _ (h d w' ?_ z);unfold OwnA;rw [nZ,zDk];exact own
theorem JC (i:Nat) (x:Wc.In) (c:List Int) (M:List (Option (Int × Nat))) (F:List (Nat × Int)):Wc.spI i (x,c) (M,F)=match M.getD i none with
  | none=>none
  | some (v,m)=>match Vf F x v m with
   | none=>none
   | some (h2,d)=>match Wc.handP h2 (onw x.op x.a x.b c i).1 M with
    | none=>none
    | some e=>match Wc.handP (v,m) (onw x.op x.a x.b c i).2 e with
     | none=>none
     | some g=>some (g,d):=by
 unfold Wc.spI Wc.stepP Vf;simp only;cases M.getD i none with
 | none=>rfl
 | some q =>
  obtain ⟨v,m⟩:=q;simp only;cases Wc.behF F x.op x.a m with
  | none=>rfl
  | some q =>
   obtain ⟨j,d⟩:=q;simp only;split
   ·rfl
   ·rfl
theorem zL4 {F:List (Nat × Int)} {o a:Int} {m d:Nat} {c:List (Nat × Int)} (h:Wc.behF F o a m=some (d,c)):c.length<=F.length+1:=by
 unfold Wc.behF at h;repeat' split at h
 all_goals first
  | cases h;done
  | (cases h;simp)
theorem zPe {F:List (Nat × Int)} (i:Wc.Rows F) {o a:Int} {m j:Nat} {c:List (Nat × Int)} (g:m<=F.length) (h:Wc.behF F o a m=some (j,c)):Wc.Beh F o a m j c:=by
 cases e:Wc.bst o (Wc.rw0 F m) with
 | false=>rw [Wc.beh_none i g e] at h;cases h
 | true =>
  obtain ⟨p,l,d,B⟩:=Wc.beh_some (a:=a) i g e;rw [h] at d;cases d
  exact B
structure PInv (i:Nat) (M:List (Option (Int × Nat))) (F:List (Nat × Int)):Prop where
 len:F.length<=i
 rows:Wc.Rows F
 zero:M.getD 0 none=some (0,0)
 at':∀ (j:Nat) (v:Int) (m:Nat),M.getD j none=some (v,m)->0<=v/\v<=i/\m<=F.length
theorem zDY {α:Type} (l:List (Option α)) (i j:Nat) (x:Option α):(l.set i x).getD j none=if i=j/\i<l.length then x else l.getD j none:=by
 by_cases c:i<l.length
 ·rw [Wc.getD_set l i j x c];by_cases h:i=j
  ·simp [h,h ▸ c]
  ·simp [h]
 ·rw [List.set_eq_of_length_le oM,if_neg oM]
theorem zDh {h:Int × Nat}:∀ (pl:List Int) (M c:List (Option (Int × Nat))),Wc.handP h pl M=some c->(∀ j ∈ pl,0<j)->c.getD 0 none=M.getD 0 none/\∀ (j:Nat) (g:Int × Nat),c.getD j none=some g->g=h \/ M.getD j none=some g:=by
 intro pl;induction pl with
 | nil =>
  intro M c e _;cases e
  exact ⟨rfl,λj g q=>qZ q⟩
 | cons p r u =>
  intro M c e d;have s:=d p (gZ ..);have t:∀ j ∈ r,0<j:=λj hj=>d j (fZ _ hj)
  have key:Wc.handP h r (M.set p.toNat (some h))=some c->c.getD 0 none=M.getD 0 none/\∀ (j:Nat) (g:Int × Nat),c.getD j none=some g->g=h \/ M.getD j none=some g:=by
   intro i;obtain ⟨l,m⟩:=u _ _ i t;refine ⟨by rw [l,zDY,if_neg oM],λj g q=>?_⟩;rcases m j g q with q2 | q2
   ·exact dZ q2
   ·rw [zDY] at q2;split at q2
    ·exact dZ (by cases q2;rfl)
    ·exact qZ q2
  simp only [Wc.handP] at e;split at e
  ·exact key e
  ·split at e
   ·exact key e
   ·cases e
theorem zOz {x:Wc.In} {j:List Int} (h:rgt x j=true):0<=(Wc.swO x.op x.b).1/\(Wc.swO x.op x.b).1<=1000/\0<=(Wc.swO x.op x.b).2/\(Wc.swO x.op x.b).2<=1:=by
 by_cases e:x.op=5
 ·rw [zPx e,jZ] at h;have g:=h.1;unfold apl at g;simp only [jZ,decide_eq_true_eq] at g;have i:0<=(QS x.a).l/\(QS x.a).m<=30:=by
   unfold QS;split
   ·exact ⟨dM,dM⟩
   ·split
    ·unfold zJP;repeat' split
     all_goals exact ⟨dM,dM⟩
    ·split
     ·unfold zJa;repeat' split
      all_goals exact ⟨dM,dM⟩
     ·unfold zIs;repeat' split
      all_goals exact ⟨dM,dM⟩
  have d:Wc.swO x.op x.b=(x.b,1):=by simp [Wc.swO,e]
  rw [d];simp only;omega
 ·by_cases c:x.op=11
  ·rw [zMR c,jZ,jZ] at h;have i:=h.1.2;simp only [Bool.or_eq_true,beq_iff_eq] at i;have d:Wc.swO x.op x.b=(x.b,1):=by simp [Wc.swO,c]
   rw [d];simp only;omega
  ·unfold Wc.swO;rw [if_neg (show ¬ (x.op=5 \/ x.op=11) by omega)];repeat' split
   all_goals exact ⟨dM,dM,dM,dM⟩
