/- Lemmas. -/
import Derived.Test.YtloponhikiddmaaGreatDoorQ18
set_option maxHeartbeats 8000000
set_option maxRecDepth 100000
open Go.RowKit.Below renaming refl->aZ
open List renaming getElem?_eq_getElem->bZ,map_toArray->fZ,map_cons->gZ,mem_of_getElem?->hZ,eq_nil_of_length_eq_zero->iZ,mem_singleton->kZ,perm_ext_iff_of_nodup->mZ,map_nil->pZ,mem_cons_of_mem->qZ,take_add_one->rZ,filter_cons->sZ,not_mem_nil->tZ,mem_filter->uZ,mem_map->wZ
open Go.IntKind renaming wrap_i64->cZ
open Nat renaming zero_le->dZ,le_trans->jZ,le_refl->nZ,zero_add->xZ
open Go.Result renaming andThen_ok->eZ
open Or renaming inr->oZ,inl->vZ
open Go renaming World->wW,Value->vW,Calls->cW,Addr->dW
open Go.Value renaming int->O,slice->U,string->V,bool->Y,pointer->pX,agg->gX,tuple->uX
open Go.IntKind renaming i64->J
open Go.Obj renaming cells->Z
open Go.Ending renaming returned->rX
open Go.Operand renaming tmp->mX
namespace Go.Proofs.YtloponhikiddmaaGreatDoor
open Tryz
variable {rs:Ch->List Wf.I ⊕ (Int × Int)} {w w':wW} {L:List Ch} {G:List (Wpl.Cl × Ce)} {b n:Nat} {ops:Array Oper} {rest:List Oper} {o:Oper} {a:Act} {Q:Exit->Act->wW->Prop} {av:Option dW} {l:List Wpl.Cl}
open Go.RowKit Go.Shelf
set_option linter.unusedVariables false
theorem zNb:(prog.info? 36).map (λi=>(i.zero,i.size,i.bytes))=some (some (gX #[O J 0,O J 0,O J 0]),3,24):=kR
theorem zNi:prog.underlying 39=some (.slice 36):=kR
theorem zB2 {P:Program} {t:TypeId} {z:vW} {s:Nat} (h:(P.info? t).map (λi=>(i.zero,i.size,i.bytes))=some (some z,s,b)):∃ i,P.info? t=some i/\i.zero=some z/\i.size=s/\i.bytes=b:=by
 obtain ⟨i,d,c⟩:=Option.map_eq_some_iff.1 h;simp only [Prod.mk.injEq] at c;exact ⟨i,d,c.1,c.2.1,c.2.2⟩
theorem zFD {ops:Array Oper} {rest:List Oper} {a:Act} {Q:Exit->Act->wW->Prop} (p:o.guard=none) (C x:Operand) (S:o.op=.call {callee:=.builtin .append,args:=#[C,x],argTypes:=#[39,39]})
  (w:wW) (B:Nat) (M:B<=w.heap.size) (v:vW) (n:Nat) (A:List vW) (X:a.eval C=v) (f:w.ownsRow B 36 3 v n A) (k d m c:Nat) (l:List Wpl.Cl) (R:l.length=m) (hx:a.eval x=U (some ⟨k,d,none⟩) m c) (g:∀ j u,(JN l)[j]? = some u->w.cell? ⟨k,d+j,none⟩=some u) (hn:n+m<=2000000000)
  (h:∀ e w',w'.ownsRow B 36 3 e (n+m) (A++JN l)->w.grownBy w' v.ownBlock->(e.ownBlock=v.ownBlock \/ e.ownBlock=some w.heap.size)->wpList prog ops Q rest (a.put o.dst e) w'):wpList prog ops Q (o::rest) a w:=by
 refine wpList_plain p λK N=>?_
 obtain ⟨i0,q,r,t,y⟩:=zB2 zNb;obtain ⟨e,w',T,D,E,_,F⟩:=run_append_own_at (P:=prog) w B 39 o.type 36 i0 _ 3 24 zNi q r t y rfl dM v n A f ⟨k,d,none⟩ m c (JN l) (by rw [zAg,R]) (λj z hj=>by
   have:=g j z hj;rw [show (⟨k,d,none⟩:dW).add j=⟨k,d+j,none⟩ from by
    simp [Addr.add];try (intro h0;omega)]
   exact this) (zR2 l) (by unfold maxLen;omega) oM M
 unfold Oper.wp execOp;simp only [S,resolve,invoke,builtin,Sem.run_bind,Sem.run_pure,eZ,fZ,gZ,pZ,X,hx,T];exact N _ _ (h e w' D E F)
def RdX (w:wW) (av:Option dW) (l:List Wpl.Cl):Prop:=∀ (i:Nat) (x:Wpl.Cl),l[i]? = some x->∃ g,av=some ⟨g,0,none⟩/\w.rangeAt g (i * 3) (clX x)
theorem RdX.below (h:RdX w av l) (c:bL w w'):RdX w' av l:=λi x k=>by
 obtain ⟨g,e,d⟩:=h i x k;exact ⟨g,e,λj v f=>QC c (d j v f)⟩
def clS (s:Int) (K:List Wpl.Cl):List Wpl.Cl:=Wb.srt (K.filter (λx=>decide (x.s=s)))
theorem zMU {T c:List Wpl.Cl} (h:T.Perm c):Wb.srt T=Wb.srt c :=
 List.Perm.eq_of_pairwise (le:=λa b=>Wb.ltC b a=false) (λa b _ _ h1 h2=>Wb.ltC_eq h2 h1) (Wb.srt_pw T) (Wb.srt_pw c) (((Wb.srt_perm T).trans h).trans (Wb.srt_perm c).symm)
def zQO (F:List (Wpl.Cl × Ct)) (s:Int) (w:wW) (en:Ending) (w':wW):Prop :=
 (∃ (av:Option dW) (cap:Nat),en=rX (U av (clS s (F.map (λp=>p.1))).length cap)/\RdX w' av (clS s (F.map (λp=>p.1)))/\∀ g o,av=some ⟨g,o,none⟩->w.heap.size<=g)/\bL w w'
theorem zGK (bb mb:Nat) (nv:vW) (ver s:Int) (F:List (Wpl.Cl × Ct)) (w:wW) (h:AtL w bb [nv,O J ver,.map (some mb)]) (hm:MB w mb F) (hK:KB F) (hF:True->F.length<=1000000) :
  cW prog 13 #[pX (some ⟨bb,0,none⟩),O J s] w (zQO F s w):=by
 obtain ⟨_,_,c2,_⟩:=h.three;obtain ⟨w1,aB,⟨k,aF,hit⟩,ah⟩:=zOP hm;have P:=hid hit;have aa:=hid ah;have HK:=hid hK;have aG:mb<w.heap.size:=hm.lt;clear h hm hit ah hK;go_enter func13,ntmps13;go_upto_region 3 with fail
 clear aB c2;go_loopg [5] k (λgk u wr=>∃ (D T:List Wpl.Cl),Hid (ItB wr w.heap.size mb F D gk)/\Hid (T.Nodup/\(∀ y ∈ T,y ∈ D)/\(∀ y ∈ T,y.s=s/\∃ f,(y,f) ∈ F)/\(T.length<=D.length/\D.length+gk<=k)/\∀ y ∈ D,y.s=s->y ∈ T)/\Hid (wr.ownsRow (w.heap.size+1) 36 3 u T.length (JN T))/\Hid (bL w wr/\w.heap.size+1<=wr.heap.size))
 case atStart=>exact ⟨[],[],P,⟨sM,sM,sM,⟨sM,sM⟩,sM⟩,⟨rfl,vZ ⟨rfl,rfl⟩⟩,⟨aa.out,P.out.lt.1⟩⟩
 case round =>
  obtain ⟨D,T,HI,HT,HO,M⟩:=hrel;generalize aC:wr=W at *;clear aC P aa;rcases HI.out.next HK.out 0 with ⟨an,C⟩ | ⟨x,f,K,ap,am,an,aA,fr2,k',al,E⟩
  ·have aD:=M;have HC:Hid (Wb.srt T=clS s (F.map (λp=>p.1))/\T.length<=1000000):=by
    obtain ⟨t1,t2,t3,⟨t4,t5⟩,t6⟩:=HT.out;refine ⟨zMU ((mZ t1 (List.filter_sublist.nodup HK.out)).2 λy=>?_),by have:=hF trivial;omega⟩;rw [uZ,wZ,decide_eq_true_eq];refine ⟨λhy=>?_,λ⟨⟨p,hp,e⟩,hs⟩=>t6 y (by rw [<-e];exact C p hp) hs⟩;obtain ⟨h1,f,h2⟩:=t3 y hy;exact ⟨⟨_,h2,rfl⟩,h1⟩
   have ac:Hid ((clS s (F.map (λp=>p.1))).length=T.length):=by show _=_;rw [<-HC.out.1,Wb.srt_len]
   clear C;rcases HO.out.2 with ⟨e,h0⟩ | ⟨g,cap,aE,e,ai,_⟩
   ·subst e;have hT:T=[]:=iZ h0;have HE:Hid (zQO F s w (rX (U none 0 0)) W):=⟨⟨none,0,by rw [ac.out,hT];rfl,λi x hx=>(by rw [<-HC.out.1,hT] at hx;simp [Wb.srt] at hx),λg o e=>by cases e⟩,M.out.1⟩
    have SF:=λW=>AnyF.slices_SortFunc_none zRU none 0 (.func (.func 29) #[] #[]) W
    change ∀ W,cW prog 28 _ _ _ at SF
    clear HI HO HT M h0 hT;go_wp2_with fail
    refine (SF _).mono ?_;rintro en K ⟨rfl,rfl⟩;go_wp2;go_ret;exact HE.out
   ·subst e;have SF:=zHT g T.length cap (w.heap.size+1) T W HO.out rfl (λ_=>by have:=HC.out.2;omega);have HG:=hid ai;clear HI ai;go_wp2_with fail
    refine SF.mono ?_;rintro en K ⟨rfl,hc,ak⟩;have HE:Hid (zQO F s w (rX (U (some ⟨g,0,none⟩) T.length cap)) K):=by
     have fr2:Fr [g] W K:=Fr.of_grown ak (λk e=>by cases e;simp);refine ⟨⟨_,_,by rw [ac.out],λi x hx=>⟨g,rfl,λj v hv=>?_⟩,λg' o e=>by cases e;have:=HG.out;omega⟩,(Fr.new (Fr.of_below [] M.out.1) fr2 (λk hk=>oZ (by simp at hk;have:=HG.out;omega))).to_below sM⟩;rw [<-HC.out.1] at hx;obtain ⟨hi,e⟩:=List.getElem?_eq_some_iff.1 hx;have hj:j<3:=by
      have:=(List.getElem?_eq_some_iff.1 hv).1;simpa [clX] using this
     refine hc _ _ ?_;rw [zCS _ i hi j hj,e];exact hv
    clear SF hc ak;go_wp2;go_ret;exact HE.out
  ·have ad:=hid E;have HX:Hid (((x,f) ∈ F/\x ∉ D)/\k' < gk):=⟨⟨ap,am⟩,al⟩
   have af:=hid (Q2 fr2 HO.out (λg e X=>by simp at X;have:=(QM HO.out e).1;omega));have N:=hid (And.intro (((Fr.of_below [w.heap.size] M.out.1).trans fr2).to_below sM) (jZ M.out.2 fr2.size));have d:=QJ (aZ _ K) (Z #[O J x.s,O J x.r,O J x.c] 36);have q3:=AtL.new0 K 36 [O J x.s,O J x.r,O J x.c];have R:=hid (ad.out.fr (Fr.of_below [] d) sM sM);have S:=hid (Q2 (Fr.of_below [] d) af.out sM);have q:=hid (And.intro (QA N.out.1 d) (jZ N.out.2 d.size));clear E ap am al fr2 HI HO M ad af N d;go_upto_region 5 with fail
   clear an aA;generalize K.alloc (Z #[O J x.s,O J x.r,O J x.c] 36)=B at *;generalize az:K.heap.size=eb at *;clear az;obtain ⟨j0,j1,j2,_⟩:=q3.three;by_cases aq:x.s=s
   ·subst aq;have m:=QJ (aZ _ B) (Z #[O J x.s,O J x.r,O J x.c] 36);have q4:=AtL.new0 B 36 [O J x.s,O J x.r,O J x.c];have o4:(B.alloc (Z #[O J x.s,O J x.r,O J x.c] 36)).ownsRow (w.heap.size+1) 36 3 u5 T.length (JN T):=Q2 (Fr.of_below [] m) S.out sM;have ae:=hid (R.out.fr (Fr.of_below [] m) sM sM);have t:=hid (And.intro (QA q.out.1 m) (jZ q.out.2 m.size));have ao:=t.out.2;have ab:Hid (∀ j v,(JN [x])[j]? = some v->(B.alloc (Z #[O J x.s,O J x.r,O J x.c] 36)).cell? ⟨B.heap.size,0+j,none⟩=some v):=λj v hv=>by rw [xZ];exact q4.2.1 j v hv
    have ag:T.length+1<=2000000000:=by have:=HT.out.2.2.2.1;have:=hF trivial;omega
    clear q3 m q4 R S q;go_wp2_with (at_builtin;refine zFD rfl (mX 20) (mX 22) rfl (B.alloc (Z #[O J x.s,O J x.r,O J x.c] 36)) (w.heap.size+1) ao u5 T.length _ rfl o4 B.heap.size 0 1 1 [x] rfl rfl ab.out ag ?_;intro v5 w5 o5 aj _)
    have z:Fr u5.ownBlock.toList (B.alloc (Z #[O J x.s,O J x.r,O J x.c] 36)) w5:=Fr.of_grown aj (λk e=>by rw [e];simp);have A:∀ g,g ∈ u5.ownBlock.toList->w.heap.size+1<=g:=λg X=>(QM o4 (by simpa using X)).1
    have au:=hid (ae.out.fr z (λX=>by have:=A _ X;omega) (λX=>by have:=A _ X;omega));have ar:=hid (And.intro ((Fr.new (Fr.of_below [] t.out.1) z (λk hk=>oZ (by have:=A k hk;omega))).to_below sM) (jZ t.out.2 z.size));have aw:Hid (w5.ownsRow (w.heap.size+1) 36 3 v5 (T++[x]).length (JN (T++[x]))):=by
     show World.ownsRow _ _ _ _ _ _ _
     rw [zDy,List.length_append];exact o5
    have ay:Hid ((T++[x]).Nodup/\(∀ y ∈ T++[x],y ∈ x::D)/\(∀ y ∈ T++[x],y.s=x.s/\∃ f,(y,f) ∈ F)/\((T++[x]).length<=(x::D).length/\(x::D).length+k'<=k)/\∀ y ∈ x::D,y.s=x.s->y ∈ T++[x]):=by
     obtain ⟨t1,t2,t3,⟨t4,t5⟩,t6⟩:=HT.out;obtain ⟨⟨x1,x2⟩,x3⟩:=HX.out;refine ⟨?_,λy hy=>?_,λy hy=>?_,⟨by simp;omega,by simp;omega⟩,λy hy hs=>?_⟩
     ·rw [List.nodup_append];refine ⟨t1,sM,λa ha b hb e=>?_⟩;simp at hb;rw [e,hb] at ha;exact x2 (t2 x ha)
     ·rcases List.mem_append.1 hy with hy | hy
      ·exact qZ _ (t2 y hy)
      ·simp at hy;rw [hy];exact List.mem_cons_self
     ·rcases List.mem_append.1 hy with hy | hy
      ·exact t3 y hy
      ·simp at hy;rw [hy];exact ⟨rfl,f,x1⟩
     ·rcases List.mem_cons.1 hy with rfl | hy
      ·simp
      ·exact List.mem_append_left _ (t6 y hy hs)
    clear o4 o5 aj z A ae t ab ao ag;go_wp2_with fail
    go_roundg k'
    case rel=>exact ⟨x::D,T++[x],au,ay,aw,ar⟩
    case measure=>exact HX.out.2
   ·have ax:Hid (T.Nodup/\(∀ y ∈ T,y ∈ x::D)/\(∀ y ∈ T,y.s=s/\∃ f,(y,f) ∈ F)/\(T.length<=(x::D).length/\(x::D).length+k'<=k)/\∀ y ∈ x::D,y.s=s->y ∈ T):=by
     obtain ⟨t1,t2,t3,⟨t4,t5⟩,t6⟩:=HT.out;have:=HX.out.2;refine ⟨t1,λy hy=>qZ _ (t2 y hy),t3,⟨by simp;omega,by simp;omega⟩,λy hy hs=>?_⟩;rcases List.mem_cons.1 hy with rfl | hy
     ·exact absurd hs aq
     ·exact t6 y hy hs
    go_wp2_with fail
    go_roundg k'
    case rel=>exact ⟨x::D,T,R,ax,S,q⟩
    case measure=>exact HX.out.2
open Go.RowKit Wf
def Jq:List Ch->List vW
 | []=>[]
 | a::r=>chL a++Jq r
theorem zB4:∀ L:List Ch,(Jq L).length=L.length * 4
 | []=>rfl
 | a::r=>by simp [Jq,zB4 r,chL];omega
theorem zCs:∀ (L:List Ch) (i:Nat) (h:i<L.length) (c:Nat),c<4->(Jq L)[i * 4+c]? = (chL (L[i]))[c]?
 | [],i,h,c,hc=>absurd h (Nat.not_lt_zero _)
 | x::r,0,h,c,hc=>by
  show (chL x++Jq r)[0 * 4+c]? = _
  rw [Nat.zero_mul,xZ,List.getElem?_append_left (by simpa [chL] using hc)];rfl
 | x::r,i+1,h,c,hc=>by
  show (chL x++Jq r)[(i+1) * 4+c]? = _
  rw [List.getElem?_append_right (by simp [chL];omega),show (i+1) * 4+c - (chL x).length=i * 4+c from by simp [chL];omega,zCs r i (by simpa using h) c hc];rfl
theorem zRW:∀ (l:List Ch),∀ u ∈ Jq l,u.oneCell'=true
 | [],u,hu=>by cases hu
 | y::r,u,hu=>by
  rcases List.mem_append.1 hu with q | q
  ·simp [chL] at q;rcases q with h | h | h | h <;> (subst h;rfl)
  ·exact zRW r u q
theorem zPu:(prog.info? 38).map (λi=>(i.zero,i.size,i.bytes))=some (some (gX #[O J 0,O J 0,O J 0,V ⟨#[]⟩]),4,40):=kR
theorem zIV:prog.underlying 23=some (.slice 38):=kR
theorem RdH.flat {c:Nat} (h:RdH w (some ⟨b,c,none⟩) L):∀ j u,(Jq L)[j]? = some u->w.cell? ⟨b,c+j,none⟩=some u:=λj u hu=>by
 have k:j<L.length * 4:=by rw [<-zB4];exact (List.getElem?_eq_some_iff.1 hu).1
 have f:j / 4<L.length:=oM;have e:j=j / 4 * 4+j % 4:=oM;rw [e,zCs L (j / 4) f (j % 4) oM] at hu;obtain ⟨bb,o,d,g⟩:=h (j / 4) _ (bZ f);simp only [Option.some.injEq,Addr.mk.injEq] at d;obtain ⟨rfl,rfl,_⟩:=d;have:=g (j % 4) u hu;rwa [show c+j / 4 * 4+j % 4=c+j from by omega] at this
theorem zNv {B:Nat} {v:vW} (h:w.ownsRow B 38 4 v L.length (Jq L)):∃ av cap,v=U av L.length cap/\RdH w av L/\∀ g o,av=some ⟨g,o,none⟩->B<=g:=by
 rcases h.2 with ⟨e,f⟩ | ⟨g,cap,d,e,k,z,r,t,x,y⟩
 ·subst e;exact ⟨none,0,by rw [f],(λi a c=>by have:=(List.getElem?_eq_some_iff.1 c).1;omega),λg o e=>by cases e⟩
 ·subst e;refine ⟨_,cap,rfl,λi a c=>⟨g,0,rfl,λj u hu=>?_⟩,λg' o e=>?_⟩
  ·obtain ⟨p,e⟩:=List.getElem?_eq_some_iff.1 c;have q:j<4:=by
    have:=(List.getElem?_eq_some_iff.1 hu).1;simpa [chL] using this
   have m:=h.cells (g:=g) rfl (i * 4+j) u (by rw [zCs L i p j q,e];exact hu);rwa [show (⟨g,0,none⟩:dW).add (i * 4+j)=⟨g,0+i * 4+j,none⟩ from by simp [Addr.add];try (intro h;omega)] at m
  ·simp only [Option.some.injEq,Addr.mk.injEq] at e;omega
theorem zGR {ops:Array Oper} {rest:List Oper} {a:Act} {Q:Exit->Act->wW->Prop} (M:o.guard=none) (sl x:Operand) (S:o.op=.call {callee:=.builtin .append,args:=#[sl,x],argTypes:=#[23,23]})
  (w:wW) (B:Nat) (hB:B<=w.heap.size) (v:vW) (T:a.eval sl=v) (d:w.ownsRow B 38 4 v 0 []) (p:Option dW) (m k:Nat) (L:List Ch) (hm:L.length=m) (X:a.eval x=U p m k) (hr:RdH w p L) (R:p=none->m=0/\k=0) (hn:m<=1000000000)
  (h:∀ q w',w'.ownsRow B 38 4 q m (Jq L)->w.grownBy w' v.ownBlock->wpList prog ops Q rest (a.put o.dst q) w'):wpList prog ops Q (o::rest) a w:=by
 refine wpList_plain M λK F=>?_
 obtain ⟨i0,f,t,y,A⟩:=zB2 zPu;by_cases C:L=[]
 ·subst C;have N:m=0:=hm.symm;subst N;cases p with
  | none =>
   obtain ⟨_,rfl⟩:=R rfl;have c:=run_append_owned_none (P:=prog) (w:=w) B 23 o.type 38 i0 4 zIV f _ 0 [] d;unfold Oper.wp execOp;simp only [S,resolve,invoke,builtin,Sem.run_bind,Sem.run_pure,eZ,fZ,gZ,pZ,T,X,c];exact F _ _ (h _ _ d (World.grownBy.refl _ _))
  | some ad =>
   obtain ⟨q,w',c,D,E,_,h5⟩:=run_append_own_at (P:=prog) w B 23 o.type 38 i0 _ 4 40 zIV f t y A rfl dM v 0 [] d ad 0 k [] rfl (λj z hj=>by simp at hj) (λu hu=>by cases hu) dM dM hB;unfold Oper.wp execOp;simp only [S,resolve,invoke,builtin,Sem.run_bind,Sem.run_pure,eZ,fZ,gZ,pZ,T,X,c];exact F _ _ (h q w' (by simpa [Jq] using D) E)
 ·have r:0<L.length:=List.length_pos_iff.2 C;obtain ⟨b,g,e,_⟩:=hr 0 _ (bZ r);subst e;obtain ⟨q,w',c,D,E,_,h5⟩:=run_append_own_at (P:=prog) w B 23 o.type 38 i0 _ 4 40 zIV f t y A rfl dM v 0 [] d ⟨b,g,none⟩ m k (Jq L) (by rw [zB4,hm]) (λj z hj=>by
   have:=hr.flat j z hj;rw [show (⟨b,g,none⟩:dW).add j=⟨b,g+j,none⟩ from by
    simp [Addr.add];try (intro C;omega)]
   exact this) (zRW L) (by unfold maxLen;omega) oM hB
  unfold Oper.wp execOp;simp only [S,resolve,invoke,builtin,Sem.run_bind,Sem.run_pure,eZ,fZ,gZ,pZ,T,X,c];exact F _ _ (h q w' (by simpa using D) E)
def mkS (rs:Ch->List I ⊕ (Int × Int)) (E:List (List Ch)):Int × List (Wpl.Cl × Ce):=E.foldl (λs L=>(edP 2 rs s.1 s.2 L).2) (0,[])
theorem zK2 (rs:Ch->List I ⊕ (Int × Int)) {E:List (List Ch)} {i:Nat} {L:List Ch} (h:E[i]? = some L):mkS rs (E.take (i+1))=(edP 2 rs (mkS rs (E.take i)).1 (mkS rs (E.take i)).2 L).2:=by
 unfold mkS;rw [rZ,h,List.foldl_append];rfl
def MkI (rs:Ch->List I ⊕ (Int × Int)) (k:Nat) (n:Nat) (s:Int × List (Wpl.Cl × Ce)):Prop:=GOk 2 rs s.2/\2 * s.2.length<=k/\0<=s.1/\s.1<=(n:Int)
theorem MkI.step {k d:Nat} {s:Int × List (Wpl.Cl × Ce)} (h:MkI rs k n s) {r:(Int × Int × Int) × Int × List (Wpl.Cl × Ce)} (j:EdC 2 rs s.1 s.2 L r) (q:k+(L.length+szH L)<=d):MkI rs d (n+1) r.2:=by
 obtain ⟨f,m,g,p⟩:=h;rcases j with ⟨_,e,_⟩ | ⟨_,e,_,_,c⟩
 ·rw [e];exact ⟨f,by show 2 * s.2.length<=_;omega,g,by show s.1<=_;omega⟩
 ·have:=c.len;exact ⟨c.ok,oM,oM,oM⟩
def MaQ (rs:Ch->List I ⊕ (Int × Int)) (E:List (List Ch)) (w:wW) (e:Ending) (w':wW):Prop :=
 ∃ bb mb lo na nk,e=rX (pX (some ⟨bb,0,none⟩))/\BK w' bb mb lo na nk [sS,sT] (mkS rs E).1 (mkS rs E).2/\MkI rs (wtE E) E.length (mkS rs E)/\bL w w'/\w.heap.size<=bb/\w.heap.size<=mb/\∀ g o,na=some ⟨g,o,none⟩->w.heap.size<=g/\g<w'.heap.size
theorem zIP:∀ {E:List (List Ch)} {L:List Ch},L ∈ E->L.length<=wtE E
 | [],L,h=>by cases h
 | x::r,L,h=>by
  simp only [wtE,gZ,List.sum_cons];rcases List.mem_cons.1 h with rfl | h
  ·omega
  ·have:=zIP h;simp only [wtE] at this;omega
theorem zPS (E:List (List Ch)) (i:Nat):wtE (E.take i)<=wtE E:=by
 have e:wtE E=wtE (E.take i)+wtE (E.drop i):=by
  conv=>lhs;rw [<-List.take_append_drop i E]
  unfold wtE;rw [List.map_append,List.sum_append]
 omega
theorem zPY (rs:Ch->List I ⊕ (Int × Int)) (af:Vr [sS,sT] rs) (E:List (List Ch)) (av:Option dW) (n cap:Nat) (w:wW) (hE:BEnv w) (hr:RdE w av E) (hn:E.length=n) (hw:E.length+wtE E<=6000) (m:∀ L ∈ E,∀ a ∈ L,a.t.size<=1000000000000000) :
  cW prog 8 #[U av n cap] w (MaQ rs E w):=by
 have D:=QJ (aZ _ w) (Z #[V sS,V sT] 9);have NW:=zJd w.heap.size (w.alloc (Z #[V sS,V sT] 9)) (hE.1.1.below D) (zEw w);have am:=hid af;have j:=hid (And.intro hE (And.intro hr (And.intro hn (And.intro hw m))));have A:=hid D;clear hE D hr hn hw m af;go_enter func8,ntmps8;go_wp2_with fail
 refine NW.mono ?_;rintro e w1 ⟨bb,mb,na,nk,rfl,F,T,ao,ar,ac⟩;have B:=hid (QA A.out T);have d:Hid (w.heap.size<=bb/\w.heap.size<=mb/\w.heap.size<=w1.heap.size/\∀ g o,na=some ⟨g,o,none⟩->w.heap.size<=g/\g<w1.heap.size):=by
  have:=A.out.size;exact ⟨oM,oM,B.out.size,λg o e=>by have:=ac g o e;omega⟩
 have M:=hid F;clear NW F T ao ar ac A;go_upto_region 3 with fail
 go_loopg [5] n (λgk x wr=>∃ (i:Nat) (ver:Int) (G:List (Wpl.Cl × Ce)),x=O J (i:Int)/\gk=n - i/\Hid (i<=n)/\Hid (BK wr bb mb w1.heap.size na nk [sS,sT] ver G)/\Hid (mkS rs (E.take i)=(ver,G)/\MkI rs (wtE (E.take i)) i (ver,G))/\Hid (bL w wr))
 case atStart=>exact ⟨0,0,[],rfl,rfl,dZ _,M,⟨rfl,⟨⟨by simp [KB],λp hp=>by cases hp⟩,dZ _,oM,by show (0:Int)<=_;omega⟩⟩,B⟩
 case round =>
  obtain ⟨i,ver,G,rfl,hg,HI,v,f,z⟩:=hrel;generalize aw:wr=W at *;clear aw M B;by_cases ab:i<n
  ·have ap:(i:Int)<(n:Int):=oM;have ax:(0:Int)<=(i:Int):=oM;have az:n<=6000:=by have:=j.out.2.2;omega
   have aA:J.wrap ((i:Int)+1)=(i:Int)+1:=by rw [cZ];omega
   obtain ⟨L,m⟩:∃ L,E[i]? = some L:=⟨E[i]'(by rw [j.out.2.2.1];exact ab),bZ _⟩
   obtain ⟨cb,aB,p,l,kk,e,k0,aq,ae,au⟩:=(j.out.2.1.below z.out) i L m;subst e;have ay:l<=6000:=by
    have P:=zIP (hZ m);have:=j.out.2.2.2.1;omega
   have C:Hid (L.length=l/\(∀ a ∈ L,a.t.size<=1000000000000000)/\wtE (E.take (i+1))=wtE (E.take i)+(L.length+szH L)/\mkS rs (E.take (i+1))=(edP 2 rs ver G L).2):=⟨aq,j.out.2.2.2.2 L (hZ m),zFK m,by rw [zK2 rs m,f.out.1]⟩
   have c:=QJ (aZ _ W) (Z #[] 38);have oE:(W.alloc (Z #[] 38)).ownsRow W.heap.size 38 4 (U (some ⟨W.heap.size,0,none⟩) 0 0) 0 []:=⟨rfl,oZ ⟨W.heap.size,0,#[],rfl,nZ _,(Go.MapKept.heap_alloc W _).1,nZ _,by unfold maxLen;omega,rfl,rfl⟩⟩
   have ah:=hid (QA z.out c);have ak:=hid (v.out.below c);have y:=ae.below c;have k2:=QC c k0;have ag:W.heap.size<=(W.alloc (Z #[] 38)).heap.size:=c.size;have an:=hid v.out.lt.2.2;clear m ae c k0;go_wp2_with (at_builtin;refine zGR rfl (mX 18) (mX 22) rfl (W.alloc (Z #[] 38)) W.heap.size ag (U (some ⟨W.heap.size,0,none⟩) 0 0) rfl oE p l kk L C.out.1 rfl y au oM ?_;intro v3 w3 o3 X)
   have u:bL W w3:=(Fr.new (Fr.of_below [] (QJ (aZ _ W) (Z #[] 38))) (Fr.of_grown (S:=[W.heap.size]) X (λk e=>by cases e;simp)) (λk F=>oZ (by simp at F;omega))).to_below sM;rw [<-C.out.1] at o3;obtain ⟨a3,c3,rfl,ad,R⟩:=zNv o3;rw [C.out.1];have ED:=zFy bb mb w1.heap.size na nk [sS,sT] rs am.out ver G a3 l c3 L w3 (j.out.1.below (QA z.out u)) (v.out.below u) ad C.out.1 f.out.2.1 (by have h:2 * G.length<=_:=f.out.2.2.1;have:=zPS E i;have:=j.out.2.2.2.1;omega) ⟨f.out.2.2.2.1,by have h:ver<=(i:Int):=f.out.2.2.2.2;omega⟩ (λg o e=>by have:=R g o e;have:=v.out.lt;have:=an.out;omega) C.out.2.1;have K:=hid (QA z.out u);clear o3 X ad R u oE ah ak y k2 ag v z;go_wp2_with fail
   refine ED.mono ?_;rintro e w4 ⟨r,hc,hr,rfl,aa,N⟩;have al:=hid aa;have ai:=hid ((Fr.new (Fr.of_below [] K.out) N (λk F=>oZ (by simp at F;have:=d.out;omega))).to_below sM);have aj:Hid (mkS rs (E.take (i+1))=(r.2.1,r.2.2)/\MkI rs (wtE (E.take (i+1))) (i+1) (r.2.1,r.2.2)):=⟨by rw [C.out.2.2.2,hr];rfl,f.out.2.step hc (by rw [C.out.2.2.1];exact nZ _)⟩
   clear ED aa N hc hr f K;go_wp2_with fail
   go_roundg (n - (i+1))
   case rel=>exact ⟨i+1,r.2.1,r.2.2,sM,rfl,ab,al,aj,ai⟩
   case measure=>omega
  ·have ap:¬ (i:Int)<(n:Int):=oM;have HE:Hid (MaQ rs E w (rX (pX (some ⟨bb,0,none⟩))) W):=by
    have hi:i=n:=by have:=HI.out;omega
    have e:E.take i=E:=List.take_of_length_le (by have:=j.out.2.2.1;omega);have P:=f.out;rw [e,hi] at P;refine ⟨bb,mb,w1.heap.size,na,nk,rfl,?_,?_,z.out,d.out.1,d.out.2.1,λg o q=>?_⟩
    ·rw [P.1];exact v.out
    ·rw [P.1,j.out.2.2.1];exact P.2
    ·have:=d.out.2.2.2 g o q;have:=v.out.lt.2.2;omega
   clear v f z;go_wp2;go_ret;exact HE.out
open Go.RowKit
theorem zQ8:(#[O J 0,O J 0,O J 0,V ⟨#[]⟩,Y false,O J 0]:Array vW).all (·.oneCell')=true:=all_oneCell_toArray (λv c=>by simp at c;rcases c with rfl | rfl | rfl | rfl <;> rfl)
theorem zH6 (w:wW):CR 38 #[] w (gX #[O J 0,O J 0,O J 0,V ⟨#[]⟩,Y false,O J 0]):=by
 go_enter func38,ntmps38;go_wp2;refine bodyPost_ret (v:=vlV Wt.v0) (by simp [results,results38,go_sem,vlV,vl6,Wt.v0]) rfl ⟨rfl,?_⟩;exact clA
theorem zAn (b:Bool) (s:ByteArray) (w:wW) (h:s.toList=if b then [84,82,85,69] else [70,65,76,83,69]):cW prog 58 #[V s] w λe w'=>e=rX (uX #[Y b,Y true])/\w=w':=by
 have c:(s.toList == [84,82,85,69])=b:=by rw [h];cases b <;> rfl
 have d:(s.toList == [70,65,76,83,69]) = !b:=by rw [h];cases b <;> rfl
 clear h;cases b
 all_goals
  go_enter func58,ntmps58;go_wp2;go_ret2
  exact ⟨rfl,rfl⟩
theorem zLw (s:ByteArray) (w:wW) (c:0<s.size) (f:s.size<=1000000000000000) (g:((s.extract 0 1).toList == [39])=true) :
  cW prog 52 #[V s,V ⟨#[39]⟩] w λe w'=>e=rX (uX #[V (s.extract 1 s.size),Y true])/\w=w':=by
 have d:(1:Int)<=(s.size:Int):=oM;go_enter func52,ntmps52;go_wp2;go_ret2
 exact ⟨rfl,rfl⟩
def rdV (s:ByteArray):Wt.Vl :=
 if s.size=0 then Wt.v0 else if ((s.extract 0 1).toList == [39])=true then VN (s.extract 1 s.size) else if Wnum.oB (Wnum.rdO s)=true then Vs (Wnum.oN (Wnum.rdO s)) (Wnum.oD (Wnum.rdO s)) else
 if s.toList=[84,82,85,69] then Qc true else if s.toList=[70,65,76,83,69] then Qc false else if fi s.toList 0 fNames=0 then VN s else Jp (fi s.toList 0 fNames:Nat)
theorem zJN (s:ByteArray) (w:wW) (hF:FltAt w) (hs:s.size<=1000000000000000):CR 39 #[V s] w (vlV (rdV s)):=by
 have x:=vlz w;have k:=QJ (aZ _ w) (Z zV0 65);have m:=hF.below k;obtain ⟨N,g⟩:=xV (rdV s)
 rw [g];unfold rdV at g;by_cases D:s.size=0
 rw [if_pos D] at g;have T:s.toList.isEmpty=true:=by
  rw [ByteArray.toList_eq,show s.data.toList=[] from iZ D];rfl
 have j:∀ w,CR 38 #[] w (vlV Wt.v0):=zH6
 rw [g] at j;simp only [vlV,vl6] at j;clear g;focus
  go_enter func39,ntmps39;go_wp2_with fail
  refine (j _).mono ?_;rintro e B ⟨rfl,d⟩;have f:=AtL.below d x;have r:=QA k d
 rotate_left
 rw [if_neg D] at g;have T:s.toList.isEmpty=false:=zC1 (λe=>by subst e;exact D rfl);rcases Bool.eq_false_or_eq_true ((s.extract 0 1).toList == [39]) with hx | hx
 rw [if_pos hx] at g;have z:=λw=>zLw s w oM hs hx
 have hz:(s.extract 1 s.size).size<=1000000000000000:=by rw [ByteArray.size_extract];omega
 have j:=λw=>zAr (s.extract 1 s.size) w oM
 rw [g] at j;simp only [vlV,vl6] at j;clear g;clear hz hx;focus
  go_enter func39,ntmps39;go_wp2_with fail
  refine (z _).mono ?_;rintro e K ⟨rfl,rfl⟩;go_wp2_with fail
  refine (j _).mono ?_;rintro e B ⟨rfl,d⟩;have f:=AtL.below d x;have r:=QA k d
 rotate_left
 rw [if_neg (by rw [hx];decide)] at g;have z:=λw=>zD0 s w oM hx
 have A:=λw=>zCZ s w oM
 have C4:=λw h=>zAk s w h
 obtain ⟨⟨b1,b2⟩,b3,P⟩:=zMS s;generalize Wnum.oN (Wnum.rdO s)=nn at *;generalize Wnum.oD (Wnum.rdO s)=R at *;generalize fi s.toList 0 fNames=c at *;clear hx;rcases Bool.eq_false_or_eq_true (Wnum.oB (Wnum.rdO s)) with hq | hq
 rw [if_pos hq] at g;rw [hq] at A;have j:=λw=>zCv nn R w b1 b2 b3 P
 rw [g] at j;simp only [vlV,vl6] at j;clear g;clear hq b1 b2 b3 P;focus
  go_enter func39,ntmps39;go_wp2_with fail
  refine (z _).mono ?_;rintro e K ⟨rfl,rfl⟩;go_wp2_with fail
  refine (A _).mono ?_;rintro e w2 ⟨rfl,d⟩;have q:=AtL.below d x;have p:=QA k d;have t:=m.below d;clear x k m d;go_wp2_with fail
  refine (j _).mono ?_;rintro e B ⟨rfl,d⟩;have f:=AtL.below d (AtL.alloc q _);have r:=QA (QJ p _) d
 rotate_left
 rw [if_neg (by rw [hq];decide)] at g;rw [hq] at A;clear hq b1 b2 b3 P;by_cases E:s.toList=[84,82,85,69] \/ s.toList=[70,65,76,83,69]
 obtain ⟨F,C,e5⟩:∃ F,(∀ w,cW prog 58 #[V s] w λe w'=>e=rX (uX #[Y F,Y true])/\w=w')/\(if s.toList=[84,82,85,69] then Qc true else if s.toList=[70,65,76,83,69] then Qc false else if c=0 then VN s else Jp (c:Nat))=Qc F:=by
  rcases E with h | h
  ·exact ⟨true,λw=>zAn true s w h,if_pos h⟩
  ·exact ⟨false,λw=>zAn false s w h,by rw [if_neg (by rw [h];decide),if_pos h]⟩
 rw [e5] at g;clear e5 E;have j:=λw=>zAY F w
 rw [g] at j;simp only [vlV,vl6] at j;clear g;focus
  go_enter func39,ntmps39;go_wp2_with fail
  refine (z _).mono ?_;rintro e K ⟨rfl,rfl⟩;go_wp2_with fail
  refine (A _).mono ?_;rintro e w2 ⟨rfl,d⟩;have q:=AtL.below d x;have p:=QA k d;have t:=m.below d;clear x k m d;go_wp2_with fail
  refine (C _).mono ?_;rintro e M ⟨rfl,rfl⟩;go_wp2_with fail
  refine (j _).mono ?_;rintro e B ⟨rfl,d⟩;have f:=AtL.below d (AtL.alloc q _);have r:=QA (QJ p _) d
 rotate_left
 obtain ⟨X,n2⟩:=not_or.1 E;rw [if_neg X,if_neg n2] at g;have C:=λw=>zA6 s w X n2
 clear X n2 E;by_cases u:c=0
 rw [if_pos u] at g;have S:((c:Int) == 0)=true:=by rw [u];rfl
 clear u;have j:=λw=>zAr s w oM
 rw [g] at j;simp only [vlV,vl6] at j;clear g;focus
  go_enter func39,ntmps39;go_wp2_with fail
  refine (z _).mono ?_;rintro e K ⟨rfl,rfl⟩;go_wp2_with fail
  refine (A _).mono ?_;rintro e w2 ⟨rfl,d⟩;have q:=AtL.below d x;have p:=QA k d;have t:=m.below d;clear x k m d;go_wp2_with fail
  refine (C _).mono ?_;rintro e M ⟨rfl,rfl⟩;have y:=t.below ((aZ _ _).alloc (nZ _) (Z #[O J nn,O J R] 63));go_wp2_with fail
  refine (C4 _ y).mono ?_;rintro e M ⟨rfl,rfl⟩;go_wp2_with fail
  refine (j _).mono ?_;rintro e B ⟨rfl,d⟩;have f:=AtL.below d (AtL.alloc q _);have r:=QA (QJ p _) d
 rotate_left
 rw [if_neg u] at g;have S:((c:Int) == 0)=false:=by rw [beq_eq_false_iff_ne];omega
 clear u;have j:=λw=>zA1 (c:Nat) w
 rw [g] at j;simp only [vlV,vl6] at j;clear g;focus
  go_enter func39,ntmps39;go_wp2_with fail
  refine (z _).mono ?_;rintro e K ⟨rfl,rfl⟩;go_wp2_with fail
  refine (A _).mono ?_;rintro e w2 ⟨rfl,d⟩;have q:=AtL.below d x;have p:=QA k d;have t:=m.below d;clear x k m d;go_wp2_with fail
  refine (C _).mono ?_;rintro e M ⟨rfl,rfl⟩;have y:=t.below ((aZ _ _).alloc (nZ _) (Z #[O J nn,O J R] 63));go_wp2_with fail
  refine (C4 _ y).mono ?_;rintro e M ⟨rfl,rfl⟩;go_wp2_with fail
  refine (j _).mono ?_;rintro e B ⟨rfl,d⟩;have f:=AtL.below d (AtL.alloc q _);have r:=QA (QJ p _) d
 rotate_left
 all_goals
  obtain ⟨c0,c1,c2,c3,c4,c5⟩:=f.f6;have g0:=f.2.2 0 dM;have g1:=f.2.2 1 dM;have g2:=f.2.2 2 dM;have g3:=f.2.2 3 dM;have g4:=f.2.2 4 dM;have g5:=f.2.2 5 dM;go_wp2;refine bodyPost_ret (v:=vlV N) (by simp [results,results39,go_sem,vlV,vl6, *]) rfl ⟨rfl,?_⟩;exact (clB r)
def Vi (t:ByteArray):Wt.Vl:=if knd t=1 then rdV t else Wt.v0
theorem zG9 (bb mb:Nat) (nv:vW) (ver:Int) (F:List (Wpl.Cl × Ct)) (x:Wpl.Cl) (w:wW) (h:AtL w bb [nv,O J ver,.map (some mb)]) (hm:MB w mb F) (hs:(gtC x F).t.size<=1000000000000000) (hF:FltAt w) :
  CR 24 #[pX (some ⟨bb,0,none⟩),gX #[O J x.s,O J x.r,O J x.c]] w (vlV (Vi (gtC x F).t)):=by
 have v:=QJ (QJ (aZ _ w) (Z #[O J x.s,O J x.r,O J x.c] 36)) (Z zV0 65);have p:=AtL.f3 ((AtL.new0 w 36 [O J x.s,O J x.r,O J x.c]).alloc (Z zV0 65));have q:AtL ((w.alloc (Z #[O J x.s,O J x.r,O J x.c] 36)).alloc (Z zV0 65)) (w.heap.size+1) (vl6 Wt.v0):=AtL.new1 w (Z #[O J x.s,O J x.r,O J x.c] 36) 65 (vl6 Wt.v0);have X:=zAo bb mb nv ver F x ((w.alloc (Z #[O J x.s,O J x.r,O J x.c] 36)).alloc (Z zV0 65)) (AtL.below v h) (hm.below v) oM;have z:Hid (∀ W,bL w W->CR 12 #[pX (some ⟨bb,0,none⟩),gX #[O J x.s,O J x.r,O J x.c]] W (V (gtC x F).t)):=λW hb=>zBr bb mb nv ver F x W (AtL.below hb h) (hm.below hb)
 have u:Hid (∀ W,bL w W->CR 39 #[V (gtC x F).t] W (vlV (rdV (gtC x F).t))):=λW hb=>zJN _ W (hF.below hb) hs
 generalize (gtC x F).t=t at *;obtain ⟨f,y⟩:=xV (Vi t)
 rw [y];unfold Vi at y;obtain ⟨kd,D⟩:=xV (knd t)
 rw [D] at X y;have S:=hid y;clear h hm hs D hF y;go_enter func24,ntmps24;go_upto_region 1 with fail
 generalize (w.alloc (Z #[O J x.s,O J x.r,O J x.c] 36)).alloc (Z zV0 65)=W0 at *;obtain ⟨K,M,N⟩:=p;have HQ:=hid q;have C:=hid v;clear q v;go_wp2_with fail
 refine X.mono ?_;rintro e w1 ⟨rfl,g⟩;have m:=hid (AtL.below g HQ.out);have j:=hid (QA C.out g);replace K:=QC g K
 replace M:=QC g M
 replace N:=QC g N
 clear X g HQ C;by_cases hk:kd=1
 ·subst hk;have y:rdV t=f:=S.out;rw [y] at u;clear y S;have TX:=z.out w1 j.out;clear z;go_wp2_with fail
  refine TX.mono ?_;rintro e P ⟨rfl,d⟩;have k:=hid (QA j.out d);have RD:=u.out P k.out;simp only [vlV,vl6] at RD;clear TX u K M N;go_wp2_with fail
  refine RD.mono ?_;rintro e w3 ⟨rfl,A⟩;have E:AtL w3 (w.heap.size+1) (vl6 Wt.v0):=AtL.below A (AtL.below d m.out);have R:=hid (QA k.out A);have B:World.there w3 (w.heap.size+1) 0 (vl6 f).toArray.size:=E.there;clear d A m j k RD;have q3:=AtL.setAll E (vs:=vl6 f) rfl;go_wp2_with ((with_reducible refine wpList_store_mid ?_ 65 (mX 4) (mX 13) ?_ (w.heap.size+1) 0 (vl6 f).toArray ?_ ?_ ?_ ?_ ?_ ?_);rfl;rfl;rfl;rfl;exact B;kernel_rfl;simp [vl6,Value.oneCell'])
  (try simp only [Exit.inBlock,Exit.then])
  refine bodyPost_ret (Q4 (by rfl) _ _ (w.heap.size+1) (vl6 f) _ (by rfl) q3.range underlying65 rfl kR) rfl ⟨rfl,Qm R.out (Nat.le_succ _) _ 0⟩
 ·have T:Hid (Wt.v0=f):=by have:=S.out;rwa [if_neg hk] at this
  clear K M N z u;go_wp2_with fail
  refine (zH6 _).mono ?_;rintro e P ⟨rfl,d⟩;have E:AtL P (w.heap.size+1) (vl6 Wt.v0):=AtL.below d m.out;have k:=hid (QA j.out d);have B:World.there P (w.heap.size+1) 0 (vl6 Wt.v0).toArray.size:=E.there;clear d m j;have q3:=AtL.setAll E (vs:=vl6 Wt.v0) rfl;go_wp2_with ((with_reducible refine wpList_store_mid ?_ 65 (mX 4) (mX 9) ?_ (w.heap.size+1) 0 #[O J 0,O J 0,O J 0,V ⟨#[]⟩,Y false,O J 0] ?_ ?_ ?_ ?_ ?_ ?_);rfl;rfl;rfl;rfl;exact B;kernel_rfl;exact zQ8)
  (try simp only [Exit.inBlock,Exit.then])
  refine bodyPost_ret (Q4 (by rfl) _ _ (w.heap.size+1) (vl6 Wt.v0) _ (by rfl) q3.range underlying65 rfl kR) rfl ⟨by rw [<-T.out];rfl,Qm k.out (Nat.le_succ _) _ 0⟩
theorem zKF (bb mb lo:Nat) (na:Option dW) (nk:Nat) (nm:List ByteArray) (ver:Int) (G:List (Wpl.Cl × Ce)) (w:wW) (h:BK w bb mb lo na nk nm ver G) (c:0<nm.length) (p:True->nm.length<=1000000) :
  cW prog 22 #[pX (some ⟨bb,0,none⟩)] w λe w'=>(∃ av cap,e=rX (U av nm.length cap))/\bL w w':=by
 obtain ⟨g,f,rfl,-⟩:=h.rs 0 c;have k:=zGt g f nm.length nk (nm.map V) w sM (λj u d=>by
  obtain ⟨y,e⟩:=List.getElem?_eq_some_iff.1 d;obtain ⟨A,C,m,x⟩:=h.rs j (by simpa using y);simp only [Option.some.injEq,Addr.mk.injEq,and_true] at m;obtain ⟨rfl,rfl⟩:=m;rw [<-e,List.getElem_map];exact x) (λu d=>by obtain ⟨a,_,rfl⟩:=List.mem_map.1 d;rfl) (λ_=>by have:=p trivial;omega)
 obtain ⟨B,-,-,-⟩:=h.hd.three;clear h c p;generalize nm.length=n at *;go_enter func22,ntmps22;go_wp2_with fail
 refine k.mono ?_;rintro e z ⟨⟨v,rfl,r⟩,q⟩;have t:Hid ((∃ av cap,rX v=rX (U av n cap))/\bL w z):=by
  refine ⟨?_,q⟩;rcases r.2 with ⟨e,c⟩ | ⟨_,_,_,e,_⟩
  ·exact ⟨none,0,by rw [e,c]⟩
  ·exact ⟨_,_,by rw [e]⟩
 clear r q k;go_wp2;go_ret;exact t.out
abbrev ksB (G:List (Wpl.Cl × Ce)):List Wpl.Cl:=G.map (λp=>p.1)
theorem zBA (h:GOk n rs G) (x:Wpl.Cl):x ∈ ksB G ↔ gtE x G ≠ ce0:=by
 rw [wZ];refine ⟨λ⟨p,hp,e⟩ he=>?_,λhx=>⟨_,(J7 (G:=G) (x:=x)).resolve_left hx,rfl⟩⟩;obtain ⟨y,f⟩:=p;subst e;rw [zCP h.1 hp] at he;exact (h.2 _ hp).1 (congrArg Ce.t he)
def SmE (G H:List (Wpl.Cl × Ce)):Prop:=∀ x,gtE x G=gtE x H
section
variable {n:Nat} {rs:Ch->List I ⊕ (Int × Int)} {G H:List (Wpl.Cl × Ce)}
theorem SmE.keys (c:GOk n rs G) (d:GOk n rs H) (h:SmE G H):(ksB G).Perm (ksB H):=(mZ c.1 d.1).2 λx=>by rw [zBA c,zBA d,h x]
theorem SmE.len (c:GOk n rs G) (d:GOk n rs H) (h:SmE G H):G.length=H.length:=by
 have:=(SmE.keys c d h).length_eq;simpa using this
theorem SmE.cl (c:GOk n rs G) (d:GOk n rs H) (h:SmE G H) (s:Int):clS s (ksB G)=clS s (ksB H):=zMU ((SmE.keys c d h).filter _)
end
theorem cl_mem {s:Int} {K:List Wpl.Cl} {x:Wpl.Cl}:x ∈ clS s K ↔ x ∈ K/\x.s=s:=by
 unfold clS;rw [(Wb.srt_perm _).mem_iff,uZ,decide_eq_true_eq]
theorem zF1 {α:Type} (f:α->Bool):∀ l:List α,(l.filter f).length+(l.filter (λx=>!f x)).length=l.length
 | []=>rfl
 | a::r=>by
  have:=zF1 f r;rw [sZ,sZ];cases f a <;> simp <;> omega
theorem zM2 (f:GOk 2 rs G):(clS 0 (ksB G)).length+(clS 1 (ksB G)).length=G.length:=by
 unfold clS;rw [Wb.srt_len,Wb.srt_len];have e:(ksB G).filter (λx=>decide (x.s=1))=(ksB G).filter (λx=>!decide (x.s=0)):=List.filter_congr λx hx=>by
  obtain ⟨p,g,e⟩:=List.mem_map.1 hx;have c:=(f.2 p g).2.2.1;have j:=zEn dM c;unfold Jh at c;rw [Bool.and_eq_true,decide_eq_true_eq] at c;rw [<-e];have:p.1.s<2:=c.2;by_cases d:p.1.s=0
  ·simp [d]
  ·have:p.1.s=1:=oM;simp [this]
 rw [e,zF1,List.length_map]
theorem zOH (L:List I) (h:L.length<=1000000):(usA L).length<=2000000:=by
 unfold usA;split
 ·have c:=zCr (VM L) [];have d:=zCh L;simp at c;omega
 ·simp
theorem zPs {nm:List ByteArray} (d:Vr nm rs) {G:List (Wpl.Cl × Ce)} (h:GOk nm.length rs G) (x:Wpl.Cl):(gtE x G).t.size<=1000000000000000/\(gtE x G).c.length<=1000000/\∀ p ∈ (gtE x G).c,TI 1000000 p:=by
 refine ⟨zMn h x,?_⟩;rcases J7 (G:=G) (x:=x) with e | e
 ·rw [e];exact ⟨dZ _,λp k=>by cases k⟩
 ·obtain ⟨m,f,g,j⟩:=h.2 _ e;have:=(d ⟨x,(gtE x G).t⟩ g f).2.1 _ j;exact ⟨jZ this.2.1 dM,this.2.2⟩
section
variable {w:wW} {bb mb lo:Nat} {na:Option dW} {nk:Nat} {nm:List ByteArray} {ver:Int} {G:List (Wpl.Cl × Ce)}
theorem zEC (h:BK w bb mb lo na nk nm ver G) (x:Wpl.Cl) {e:Ce} (d:gtE x G=e):CR 12 #[pX (some ⟨bb,0,none⟩),gX #[O J x.s,O J x.r,O J x.c]] w (V e.t):=by
 obtain ⟨F,m,f⟩:=h.mp;have:=zBr bb mb _ ver F x w h.hd m;rwa [(f.get x).1.1,d] at this
theorem zJY (h:BK w bb mb lo na nk nm ver G) (x:Wpl.Cl) {e:Ce} (d:gtE x G=e) (g:e.t.size<=1000000000000000):CR 16 #[pX (some ⟨bb,0,none⟩),gX #[O J x.s,O J x.r,O J x.c]] w (O J (knd e.t)):=by
 obtain ⟨F,m,f⟩:=h.mp;have:=zAo bb mb _ ver F x w h.hd m (by rw [(f.get x).1.1,d];omega);rwa [(f.get x).1.1,d] at this
theorem zFT (h:BK w bb mb lo na nk nm ver G) (x:Wpl.Cl) {e:Ce} (g:gtE x G=e) (p:e.t.size<=1000000000000000) (j:FltAt w):CR 24 #[pX (some ⟨bb,0,none⟩),gX #[O J x.s,O J x.r,O J x.c]] w (gX #[O J (Vi e.t).k,O J (Vi e.t).n,O J (Vi e.t).d,V (Vi e.t).t,Y (Vi e.t).b,O J (Vi e.t).f]):=by
 obtain ⟨F,m,f⟩:=h.mp;have:=zG9 bb mb _ ver F x w h.hd m (by rw [(f.get x).1.1,g];exact p) j;rw [(f.get x).1.1,g] at this;exact this
theorem zHS (h:BK w bb mb lo na nk nm ver G) (x:Wpl.Cl) {e:Ce} (k:gtE x G=e) (q:e.c.length<=1000000) (g:∀ p ∈ e.c,TI 1000000 p):cW prog 26 #[pX (some ⟨bb,0,none⟩),gX #[O J x.s,O J x.r,O J x.c]] w λen w'=>(∃ v,en=rX v/\RdC w' v e.c)/\bL w w':=by
 obtain ⟨F,m,f⟩:=h.mp;have d:=(f.get x).1.2;rw [k] at d;refine Calls.mono (zHN bb mb lo _ ver F x e.c w h.hd m d (λ_=>q) (λp hp=>(g p hp).1)) ?_;rintro en w' ⟨⟨v,rfl,d⟩,j⟩;exact ⟨⟨v,rfl,d.rdc⟩,j⟩
theorem zHE (h:BK w bb mb lo na nk nm ver G) (x:Wpl.Cl) {e:Ce} (k:gtE x G=e) (g:NmAt w) (q:e.c.length<=1000000) (j:∀ p ∈ e.c,TI 1000000 p):cW prog 17 #[pX (some ⟨bb,0,none⟩),gX #[O J x.s,O J x.r,O J x.c]] w λen w'=>(∃ v,en=rX v/\RdA w' v (usA e.c))/\bL w w':=by
 obtain ⟨F,m,f⟩:=h.mp;have d:=(f.get x).1.2;rw [k] at d;exact zMb bb mb lo _ ver F x e.c w h.hd m d g q j
theorem zIB (h:BK w bb mb lo na nk nm ver G):CR 15 #[pX (some ⟨bb,0,none⟩)] w (O J (G.length:Int)):=by
 obtain ⟨F,m,f⟩:=h.mp;have:=zCo bb mb _ ver F w h.hd m;rwa [f.len] at this
theorem zCT (h:BK w bb mb lo na nk nm ver G) (c:KB G) (d:G.length<=1000000) (s:Int):cW prog 13 #[pX (some ⟨bb,0,none⟩),O J s] w λe w'=>(∃ av cap,e=rX (U av (clS s (ksB G)).length cap)/\RdX w' av (clS s (ksB G))/\∀ g o,av=some ⟨g,o,none⟩->w.heap.size<=g)/\bL w w':=by
 obtain ⟨F,m,f⟩:=h.mp;have:=zGK bb mb _ ver s F w h.hd m (by unfold KB;rw [f.keys];exact c) (λ_=>by rw [f.len];exact d);unfold zQO at this;rwa [f.keys] at this
end
open Go.RowKit
theorem zO5 (l:List Wpl.Cl) (k m:Option dW) (n C D:Nat) (w:wW) (z:RdX w k l) (A:RdX w m l) (B:l.length=n) (K:True->n<=1000000) :
  CR 23 #[U k n C,U m n D] w (Y true):=by
 have j:Hid (RdX w k l/\RdX w m l/\l.length=n):=⟨z,A,B⟩
 clear z A B;go_enter func23,ntmps23;go_wp2_with fail
 go_loopg [5] n (λgk u wr=>∃ i:Nat,u=O J (i:Int)/\gk=n - i/\Hid (i<=n)/\Hid (bL w wr))
 case atStart=>exact ⟨0,rfl,rfl,dZ _,aZ _ _⟩
 case round =>
  obtain ⟨i,rfl,R,P,e⟩:=hrel;generalize v:wr=W at *;clear v;by_cases d:i<n
  ·have t:(i:Int)<(n:Int):=oM;have M:(0:Int)<=(i:Int):=oM;have N:J.wrap ((i:Int)+1)=(i:Int)+1:=by have:=K trivial;rw [cZ];omega
   obtain ⟨x,y⟩:∃ x,l[i]? = some x:=⟨l[i]'(by rw [j.out.2.2];exact d),bZ _⟩
   obtain ⟨p,E,f⟩:=j.out.1.below e.out i x y;obtain ⟨q,F,g⟩:=j.out.2.1.below e.out i x y;subst E F;have S:W.cell? ⟨p,i * 3,none⟩=some (O J x.s):=f 0 _ rfl;have T:W.cell? ⟨p,i * 3+1,none⟩=some (O J x.r):=f 1 _ rfl;have X:W.cell? ⟨p,i * 3+2,none⟩=some (O J x.c):=f 2 _ rfl;have q0:W.cell? ⟨q,i * 3,none⟩=some (O J x.s):=g 0 _ rfl;have q1:W.cell? ⟨q,i * 3+1,none⟩=some (O J x.r):=g 1 _ rfl;have q2:W.cell? ⟨q,i * 3+2,none⟩=some (O J x.c):=g 2 _ rfl;clear f g y;go_upto_region 6 with fail
   go_quiet (fail)
   go_wp2_with fail
   go_roundg (n - (i+1))
   case rel=>exact ⟨i+1,sM,rfl,d,Ql e.out _⟩
   case measure=>omega
  ·have t:¬ (i:Int)<(n:Int):=oM;go_wp2;go_ret;exact ⟨rfl,e.out⟩
theorem zKj (v:Wt.Vl) (w:wW):(binOp .neq 65 (vlV v) (vlV v)).run prog w=.ok (Y false) w:=by
 simp [go_sem,vlV,vl6]
theorem zOu (L:List (Wc.In × List Int)) (v1 v2:vW) (w:wW) (h1:RdC w v1 L) (h2:RdC w v2 L) (hl:L.length<=1000000) (ht:∀ x ∈ L,x.2.length<=1000000) :
  CR 25 #[v1,v2] w (Y true):=by
 obtain ⟨a1,c1,rfl,r1⟩:=h1;obtain ⟨a2,c2,rfl,r2⟩:=h2;have H1:Hid (RdC w (U a1 L.length c1) L):=⟨a1,c1,rfl,r1⟩
 have H2:Hid (RdC w (U a2 L.length c2) L):=⟨a2,c2,rfl,r2⟩
 have HT:=hid ht;obtain ⟨n,hn⟩:=xV L.length
 have HL:Hid (L.length=n/\n<=1000000):=⟨hn,oM⟩
 rw [hn];clear r1 r2 ht hl hn;go_enter func25,ntmps25;go_wp2_with fail
 go_loopg [5] n (λgk x wr=>∃ i:Nat,x=O J (i:Int)/\gk=n - i/\Hid (i<=n)/\Hid (bL w wr))
 case atStart=>exact ⟨0,rfl,rfl,dZ _,aZ _ _⟩
 case round =>
  obtain ⟨i,rfl,hg,HI,HB⟩:=hrel;generalize ah:wr=z at *;clear ah;by_cases ad:i<n
  ·have ag:(i:Int)<(n:Int):=oM;have aN:(0:Int)<=(i:Int):=oM;have aO:J.wrap ((i:Int)+1)=(i:Int)+1:=by have:=HL.out.2;rw [cZ];omega
   obtain ⟨q1,d1,e1,f1⟩:=H1.out.below HB.out;obtain ⟨q2,d2,e2,f2⟩:=H2.out.below HB.out;simp only [U.injEq,true_and] at e1 e2;obtain ⟨rfl,rfl⟩:=e1;obtain ⟨rfl,rfl⟩:=e2;have aa:i<L.length:=by rw [HL.out.1];exact ad
   obtain ⟨b1,o1,N,F,D,rfl,g1,y1,_⟩:=f1 i aa;obtain ⟨b2,o2,P,M,E,rfl,g2,y2,_⟩:=f2 i aa;have ae:=HT.out (L[i]) (List.getElem_mem _);generalize (L[i]).1=x at *;generalize (L[i]).2=tl at *;have T:=hid (And.intro y1 (And.intro y2 ae));clear f1 f2 y1 y2 ae aa;go_upto_region 6 with fail
   go_cut [6,7] (λv6 v7 wx=>∃ p q,v6=pX (some ⟨p,0,none⟩)/\v7=pX (some ⟨q,0,none⟩)/\Hid (AtL wx p (QF x (U N F D)))/\Hid (AtL wx q (QF x (U P M E)))/\Hid (bL z wx))
   case first =>
    have hC:bL z z.drew:=(aZ _ _).drew;refine wp_region_held_drew (S:=λW=>W.rangeAt b1 (o1+i * 23) (QF x (U N F D))/\W.rangeAt b2 (o2+i * 23) (QF x (U P M E))) kR ⟨QG hC g1,QG hC g2⟩ (λu=>?_);generalize z.drew=y at *;refine tkQ 0 ?_
    refine tkQ 1 ?_
    refine tkQ 2 ?_
    refine wpAnyH_take (i:=3) (v:=gX (QF x (U N F D)).toArray) (atQ rfl) kR kR kR (λ_ _ _ h=>h) (yieldsIf_load_mid (by rfl) 87 (mX 21) rfl b1 (o1+i * 23) rfl ((QF x (U N F D))) _ (λ_ h=>h.1) underlying87 rfl kR) (by assumption) ?_;try simp only [Act.put,lA,lZ,lS]
    refine tkQ 4 ?_
    refine tkQ 5 ?_
    refine tkQ 6 ?_
    refine wpAnyH_take (i:=7) (v:=gX (QF x (U P M E)).toArray) (atQ rfl) kR kR kR (λ_ _ _ h=>h) (yieldsIf_load_mid (by rfl) 87 (mX 25) rfl b2 (o2+i * 23) rfl ((QF x (U P M E))) _ (λ_ h=>h.2) underlying87 rfl kR) (by assumption) ?_;try simp only [Act.put,lA,lZ,lS]
    refine wpAnyH_ready (rs:=[8,9]) kR sM ?_;refine AllReadyH.cons (atQ rfl) (λK A=>?_) (AllReadyH.cons (atQ rfl) (λK A=>?_) AllReadyH.nil);have X:=QA hC (QJ (aZ _ y) (Z zeros23 87));have bM:=QJ X (Z zeros23 87);have n6:=(AtL.new0 y 87 zeros23.toList).alloc (Z zeros23 87);have n7:=AtL.new1 y (Z zeros23 87) 87 zeros23.toList;go_simp
    refine hkQ A ⟨QG X g1,QG X g2⟩ (λu=>?_);clear A K X
    refine rdQ 9 (λK A=>?_);go_simp
    refine hkQ A ⟨QG bM g1,QG bM g2⟩ (λu=>?_);clear A K
    have C:=hid hC.size;have B:Hid (y.heap.size ≠ y.heap.size+1/\z.heap.size<=y.heap.size/\z.heap.size<=y.heap.size+1):=by
     have:=C.out;exact ⟨oM,oM,oM⟩
    generalize (y.alloc (Z zeros23 87)).alloc (Z zeros23 87)=WB at *;generalize y.heap.size+1=q at *;generalize y.heap.size=p at *;clear C;rotate_left
    have X:=QA hC (QJ (aZ _ y) (Z zeros23 87));have bM:=QJ X (Z zeros23 87);have n7:=(AtL.new0 y 87 zeros23.toList).alloc (Z zeros23 87);have n6:=AtL.new1 y (Z zeros23 87) 87 zeros23.toList;go_simp
    refine hkQ A ⟨QG X g1,QG X g2⟩ (λu=>?_);clear A K X
    refine rdQ 8 (λK A=>?_);go_simp
    refine hkQ A ⟨QG bM g1,QG bM g2⟩ (λu=>?_);clear A K
    have C:=hid hC.size;have B:Hid (y.heap.size+1 ≠ y.heap.size/\z.heap.size<=y.heap.size+1/\z.heap.size<=y.heap.size):=by
     have:=C.out;exact ⟨oM,oM,oM⟩
    generalize (y.alloc (Z zeros23 87)).alloc (Z zeros23 87)=WB at *;generalize y.heap.size+1=p at *;generalize y.heap.size=q at *;clear C;rotate_left
    all_goals
     have m6:=n6.setAll (vs:=(QF x (U N F D))) rfl;have m7:=n7.farAll (b:=p) B.out.1 0 (QF x (U N F D));have bC:=Qm bM (k:=p) B.out.2.1 (QF x (U N F D)) 0;refine rdQ 10 (λK A=>?_);refine wp_store_mid 87 (mX 6) (mX 22) rfl p 0 (QF x (U N F D)).toArray rfl rfl n6.there kR (JO _ _ _ _) ?_;generalize WB.setCells p 0 (QF x (U N F D)).toArray.toList=WC at *;refine A.out _ _ ⟨QG bC g1,QG bC g2⟩ (λu=>?_);clear A K n6 n7 bM;try simp only [Act.put]
     have q7:=m7.setAll (vs:=(QF x (U P M E))) rfl;have q6:=m6.farAll (b:=q) B.out.1.symm 0 (QF x (U P M E));have bD:=Qm bC (k:=q) B.out.2.2 (QF x (U P M E)) 0;refine rdQ 11 (λK A=>?_);refine wp_store_mid 87 (mX 7) (mX 26) rfl q 0 (QF x (U P M E)).toArray rfl rfl m7.there kR (JO _ _ _ _) ?_;generalize WC.setCells q 0 (QF x (U P M E)).toArray.toList=WT at *;refine A.out _ _ ⟨QG bD g1,QG bD g2⟩ (λu=>?_);clear A K;try simp only [Act.put]
     refine wpAnyH_done kR ?_ _;go_wp2_with fail
     go_meet
     case rel=>exact ⟨p,q,rfl,rfl,q6,q7,bD⟩
   case rest =>
    obtain ⟨p,q,rfl,rfl,g,j,R⟩:=hcut;generalize ai:wc=m at *;clear ai;have a0:m.cell? ⟨p,0,none⟩=some (O J x.op):=g.out.2.1 0 _ rfl;have b0:m.cell? ⟨q,0,none⟩=some (O J x.op):=j.out.2.1 0 _ rfl;have a1:m.cell? ⟨p,1,none⟩=some (O J x.a):=g.out.2.1 1 _ rfl;have b1:m.cell? ⟨q,1,none⟩=some (O J x.a):=j.out.2.1 1 _ rfl;have a2:m.cell? ⟨p,2,none⟩=some (O J x.b):=g.out.2.1 2 _ rfl;have b2:m.cell? ⟨q,2,none⟩=some (O J x.b):=j.out.2.1 2 _ rfl;have a3:m.cell? ⟨p,3,none⟩=some (O J x.v.k):=g.out.2.1 3 _ rfl;have b3:m.cell? ⟨q,3,none⟩=some (O J x.v.k):=j.out.2.1 3 _ rfl;have a4:m.cell? ⟨p,4,none⟩=some (O J x.v.n):=g.out.2.1 4 _ rfl;have b4:m.cell? ⟨q,4,none⟩=some (O J x.v.n):=j.out.2.1 4 _ rfl;have a5:m.cell? ⟨p,5,none⟩=some (O J x.v.d):=g.out.2.1 5 _ rfl;have b5:m.cell? ⟨q,5,none⟩=some (O J x.v.d):=j.out.2.1 5 _ rfl;have a6:m.cell? ⟨p,6,none⟩=some (V x.v.t):=g.out.2.1 6 _ rfl;have b6:m.cell? ⟨q,6,none⟩=some (V x.v.t):=j.out.2.1 6 _ rfl;have a7:m.cell? ⟨p,7,none⟩=some (Y x.v.b):=g.out.2.1 7 _ rfl;have b7:m.cell? ⟨q,7,none⟩=some (Y x.v.b):=j.out.2.1 7 _ rfl;have a8:m.cell? ⟨p,8,none⟩=some (O J x.v.f):=g.out.2.1 8 _ rfl;have b8:m.cell? ⟨q,8,none⟩=some (O J x.v.f):=j.out.2.1 8 _ rfl
    have a9:m.cell? ⟨p,9,none⟩=some (O J x.ce.s):=g.out.2.1 9 _ rfl;have b9:m.cell? ⟨q,9,none⟩=some (O J x.ce.s):=j.out.2.1 9 _ rfl;have aj:m.cell? ⟨p,10,none⟩=some (O J x.ce.r):=g.out.2.1 10 _ rfl;have aA:m.cell? ⟨q,10,none⟩=some (O J x.ce.r):=j.out.2.1 10 _ rfl;have ak:m.cell? ⟨p,11,none⟩=some (O J x.ce.c):=g.out.2.1 11 _ rfl;have aB:m.cell? ⟨q,11,none⟩=some (O J x.ce.c):=j.out.2.1 11 _ rfl;have al:m.cell? ⟨p,12,none⟩=some (O J x.ar.s):=g.out.2.1 12 _ rfl;have aC:m.cell? ⟨q,12,none⟩=some (O J x.ar.s):=j.out.2.1 12 _ rfl;have am:m.cell? ⟨p,13,none⟩=some (O J x.ar.t):=g.out.2.1 13 _ rfl;have aD:m.cell? ⟨q,13,none⟩=some (O J x.ar.t):=j.out.2.1 13 _ rfl;have an:m.cell? ⟨p,14,none⟩=some (O J x.ar.l):=g.out.2.1 14 _ rfl;have aE:m.cell? ⟨q,14,none⟩=some (O J x.ar.l):=j.out.2.1 14 _ rfl;have ao:m.cell? ⟨p,15,none⟩=some (O J x.ar.b):=g.out.2.1 15 _ rfl;have aF:m.cell? ⟨q,15,none⟩=some (O J x.ar.b):=j.out.2.1 15 _ rfl;have ap:m.cell? ⟨p,16,none⟩=some (O J x.ar.r):=g.out.2.1 16 _ rfl;have aG:m.cell? ⟨q,16,none⟩=some (O J x.ar.r):=j.out.2.1 16 _ rfl;have aq:m.cell? ⟨p,17,none⟩=some (O J x.pr.s):=g.out.2.1 17 _ rfl;have aH:m.cell? ⟨q,17,none⟩=some (O J x.pr.s):=j.out.2.1 17 _ rfl
    have au:m.cell? ⟨p,18,none⟩=some (O J x.pr.t):=g.out.2.1 18 _ rfl;have aI:m.cell? ⟨q,18,none⟩=some (O J x.pr.t):=j.out.2.1 18 _ rfl;have aw:m.cell? ⟨p,19,none⟩=some (O J x.pr.l):=g.out.2.1 19 _ rfl;have aJ:m.cell? ⟨q,19,none⟩=some (O J x.pr.l):=j.out.2.1 19 _ rfl;have ax:m.cell? ⟨p,20,none⟩=some (O J x.pr.b):=g.out.2.1 20 _ rfl;have aK:m.cell? ⟨q,20,none⟩=some (O J x.pr.b):=j.out.2.1 20 _ rfl;have ay:m.cell? ⟨p,21,none⟩=some (O J x.pr.r):=g.out.2.1 21 _ rfl;have aL:m.cell? ⟨q,21,none⟩=some (O J x.pr.r):=j.out.2.1 21 _ rfl;have az:m.cell? ⟨p,22,none⟩=some (U N F D):=g.out.2.1 22 _ rfl;have aM:m.cell? ⟨q,22,none⟩=some (U P M E):=j.out.2.1 22 _ rfl;have IZ:=zPC tl (U N F D) (U P M E) m (T.out.1.below R.out) (T.out.2.1.below R.out) T.out.2.2;have ab:=hid (QA HB.out R.out);clear g j R T HB g1 g2;go_upto_region 7 with fail
    go_wp2_with fail
    refine IZ.mono ?_;rintro e w2 ⟨rfl,ac⟩;have af:=hid (QA ab.out ac);clear IZ ac ab;go_wp2_with fail
    go_roundg (n - (i+1))
    case rel=>exact ⟨i+1,sM,rfl,ad,af⟩
    case measure=>omega
  ·have ag:¬ (i:Int)<(n:Int):=oM;go_wp2;go_ret;exact ⟨rfl,HB.out⟩
theorem zMr (A:List Wpl.Ar) (v x:vW) (w:wW) (C:RdA w v A) (D:RdA w x A) (F:A.length<=2000000):CR 27 #[v,x] w (Y true):=by
 obtain ⟨P,S,rfl,r⟩:=C;obtain ⟨R,T,rfl,t⟩:=D;have z:=hid r;have B:=hid t;obtain ⟨n,k⟩:=xV A.length
 have f:Hid (A.length=n/\n<=2000000):=⟨k,oM⟩
 rw [k];clear r t k F;go_enter func27,ntmps27;go_wp2_with fail
 go_loopg [5] n (λgk u wr=>∃ i:Nat,u=O J i/\gk=n - i/\i<=n/\Hid (bL w wr))
 case atStart=>exact ⟨0,rfl,rfl,dZ _,aZ _ _⟩
 case round =>
  obtain ⟨i,rfl,X,hi,g⟩:=hrel;by_cases c:i<n
  ·have j:(i:Int)<(n:Int):=oM;have E:(0:Int)<=(i:Int):=oM;have K:J.wrap ((i:Int)+1)=(i:Int)+1:=by rw [cZ];have:=f.out.2;omega
   obtain ⟨b1,M,rfl,m⟩:=z.out i (by rw [f.out.1];exact c);obtain ⟨b2,N,rfl,p⟩:=B.out i (by rw [f.out.1];exact c);obtain ⟨y,q⟩:∃ y,A[i]'(by rw [f.out.1];exact c)=y:=⟨_,rfl⟩
   rw [q] at m p;have d:=QG g.out m;have e:=QG g.out p;have p0:wr.cell? ⟨b1,M+i * 5,none⟩=some (O J y.s):=d 0 _ rfl;have p1:=d 1 _ rfl;have p2:=d 2 _ rfl;have p3:=d 3 _ rfl;have p4:=d 4 _ rfl;have q0:wr.cell? ⟨b2,N+i * 5,none⟩=some (O J y.s):=e 0 _ rfl;have m:=e 1 _ rfl;have p:=e 2 _ rfl;have q3:=e 3 _ rfl;have q4:=e 4 _ rfl;clear d e q;go_upto_region 6 with fail
   go_quiet (fail)
   go_wp2_with fail
   go_roundg (n - (i+1))
   case rel=>exact ⟨i+1,sM,rfl,c,Ql g.out _⟩
   case measure=>omega
  ·have j:¬ (i:Int)<(n:Int):=oM;go_wp2;go_ret;exact ⟨rfl,g.out⟩
open Go.RowKit Wf
structure AlS (w:wW) (ba ma la:Nat) (na:Option dW) (ka:Nat) (va:Int) (G:List (Wpl.Cl × Ce)) (bb mb lb:Nat) (nb:Option dW) (kb:Nat) (vb:Int) (H:List (Wpl.Cl × Ce)) (W:wW):Prop where
 bl:bL w W
 a:BK W ba ma la na ka [sS,sT] va G
 b:BK W bb mb lb nb kb [sS,sT] vb H
 e:BEnv W
section
variable {w:wW} {ba ma la:Nat} {na:Option dW} {ka:Nat} {va:Int} {G:List (Wpl.Cl × Ce)} {bb mb lb:Nat} {nb:Option dW} {kb:Nat} {vb:Int} {H:List (Wpl.Cl × Ce)}
theorem AlS.below {W d:wW} (h:AlS w ba ma la na ka va G bb mb lb nb kb vb H W) (c:bL W d):AlS w ba ma la na ka va G bb mb lb nb kb vb H d:=⟨QA h.bl c,h.a.below c,h.b.below c,h.e.below c⟩
def Vo (K:List Wpl.Cl) (s:Int):Nat:=if s=0 then 0 else if s=1 then (clS 0 K).length else (clS 0 K).length+(clS 1 K).length
theorem zOX {rs:Ch->List I ⊕ (Int × Int)} (ad:Vr [sS,sT] rs) (h:AlS w ba ma la na ka va G bb mb lb nb kb vb H w) (R:GOk 2 rs G) (hH:GOk 2 rs H) (hS:SmE G H) (hl:G.length<=1000000) :
  CR 10 #[pX (some ⟨ba,0,none⟩),pX (some ⟨bb,0,none⟩)] w (Y true):=by
 have E:Hid (H.length=G.length/\(∀ s,clS s (ksB H)=clS s (ksB G))/\(clS 0 (ksB G)).length+(clS 1 (ksB G)).length=G.length/\G.length<=1000000/\KB G/\KB H):=⟨(hS.len R hH).symm,λs=>(hS.cl R hH s).symm,zM2 R,hl,R.1,hH.1⟩
 have ae:Hid (∀ x,∃ e,gtE x G=e/\gtE x H=e/\e.t.size<=1000000000000000/\e.c.length<=1000000/\(∀ p ∈ e.c,TI 1000000 p)/\(usA e.c).length<=2000000):=λx=>by
  obtain ⟨h1,h2,h3⟩:=zPs ad (nm:=[sS,sT]) R x;exact ⟨_,rfl,(hS x).symm,h1,h2,h3,zOH _ h2⟩
 have d:=h;clear h ad R hH hS hl;go_enter func10,ntmps10;go_wp2_with fail
 refine (zIB d.a).mono ?_;rintro en w1 ⟨rfl,f⟩;replace d:=d.below f
 clear f;go_wp2_with fail
 refine (zIB d.b).mono ?_;rintro en w2 ⟨rfl,f⟩;replace d:=d.below f
 rw [E.out.1];clear f;go_upto_region 5 with fail
 go_loopg [5,6] 2 (λgk y x wr=>∃ s:Int,x=O J s/\y=O J (Vo (ksB G) s:Nat)/\(0<=s/\s<=2/\gk=(2 - s).toNat)/\AlS w ba ma la na ka va G bb mb lb nb kb vb H wr)
 case atStart=>exact ⟨0,rfl,rfl,⟨oM,oM,rfl⟩,d⟩
 case round =>
  clear d;obtain ⟨s,rfl,rfl,hs,d⟩:=hrel;generalize P:wr=W at *;clear P;go_wp2_with fail
  refine (zKF ba ma la na ka [sS,sT] va G W d.a dM (λ_=>by decide)).mono ?_;rintro en w3 ⟨⟨sa,sc,rfl⟩,f⟩;replace d:=d.below f
  clear f;by_cases ab:s<2
  ·have aj:J.wrap (s+1)=s+1:=by rw [cZ];omega
   have ag:s<(([sS,sT]:List ByteArray).length:Int):=ab;go_upto_region 7 with fail
   go_wp2_with fail
   refine (zCT d.a E.out.2.2.2.2.1 E.out.2.2.2.1 s).mono ?_;rintro en w4 ⟨⟨xa,xc,rfl,ac,_⟩,f⟩;replace d:=d.below f
   have A:=hid ac;clear f ac;go_wp2_with fail
   refine (zCT d.b E.out.2.2.2.2.2 (by rw [E.out.1];exact E.out.2.2.2.1) s).mono ?_;rintro en w5 ⟨⟨ya,yc,rfl,N,_⟩,f⟩;replace d:=d.below f
   replace A:=hid (A.out.below f)
   rw [E.out.2.1] at N ⊢;obtain ⟨m,hm⟩:=xV ((clS s (ksB G)).length)
   have HM:Hid ((clS s (ksB G)).length=m/\m<=1000000/\Vo (ksB G) s+m=Vo (ksB G) (s+1)/\Vo (ksB G) s<=1000000):=by
    have h3:=E.out.2.2.1;have h4:=E.out.2.2.2.1;unfold Vo;by_cases h0:s=0
    ·subst h0;rw [if_pos rfl,if_neg dM,if_pos dM];exact ⟨hm,oM,oM,oM⟩
    ·have h1:s=1:=oM;subst h1;rw [if_neg dM,if_pos rfl,if_neg dM,if_neg dM];exact ⟨hm,oM,oM,oM⟩
   rw [hm];have CZ:=zO5 (clS s (ksB G)) xa ya m xc yc w5 A.out N hm (λ_=>HM.out.2.1);clear f N hm;go_wp2_with fail
   refine CZ.mono ?_;rintro en w6 ⟨rfl,f⟩;replace d:=d.below f
   replace A:=hid (A.out.below f)
   clear f CZ;have al:J.wrap (((Vo (ksB G) s:Nat):Int)+(m:Int))=((Vo (ksB G) (s+1):Nat):Int):=by have:=HM.out;rw [cZ];omega
   go_upto_region 12 with fail
   generalize ah:w6=W6 at *;clear ah;have HO:=hid d.bl;replace d:AlS W6 ba ma la na ka va G bb mb lb nb kb vb H W6:=⟨aZ _ _,d.a,d.b,d.e⟩
   go_loopg [9] m (λgk x wr=>∃ i:Nat,x=O J (i:Int)/\gk=m - i/\Hid (i<=m)/\AlS W6 ba ma la na ka va G bb mb lb nb kb vb H wr)
   case atStart=>exact ⟨0,rfl,rfl,dZ _,d⟩
   case round =>
    clear d;obtain ⟨i,rfl,hg,HI,d⟩:=hrel;generalize P:wr=M at *;clear P;by_cases aa:i<m
    ·have af:(i:Int)<(m:Int):=oM;have ai:(0:Int)<=(i:Int):=oM;have ak:J.wrap ((i:Int)+1)=(i:Int)+1:=by have:=HM.out.2.1;rw [cZ];omega
     obtain ⟨x,hx⟩:∃ x,(clS s (ksB G))[i]? = some x:=⟨(clS s (ksB G))[i]'(by rw [HM.out.1];exact aa),bZ _⟩
     obtain ⟨g,e1,z⟩:=A.out.below d.bl i x hx;subst e1;have j0:M.cell? ⟨g,i * 3,none⟩=some (O J x.s):=z 0 _ rfl;have j1:M.cell? ⟨g,i * 3+1,none⟩=some (O J x.r):=z 1 _ rfl;have j2:M.cell? ⟨g,i * 3+2,none⟩=some (O J x.c):=z 2 _ rfl;obtain ⟨e,he⟩:=ae.out x;have u:=hid he;have T:=QJ (aZ _ M) (Z #[O J x.s,O J x.r,O J x.c] 36);have k:=AtL.f3 (AtL.new0 M 36 [O J x.s,O J x.r,O J x.c]);replace d:=d.below T
     clear hx z he T;go_upto_region 15 with fail
     clear j0 j1 j2;generalize M.alloc (Z #[O J x.s,O J x.r,O J x.c] 36)=W5 at *;generalize M.heap.size=kc at *;have k:JI W5 kc (O J x.s) (O J x.r) (O J x.c):=k;have F:=(aZ W5.heap.size W5).drew;have X:=λW=>zKj (Vi e.t) W
     simp only [vlV,vl6] at X;refine wp_region_held_drew (S:=λW=>JI W kc (O J x.s) (O J x.r) (O J x.c)) kR (QH F k) (λj=>?_);replace k:=QH F k
     replace d:=d.below F
     clear F;generalize W5.drew=W6 at *;refine tkQ 0 ?_
     refine tkQ 1 ?_
     refine tkQ 3 ?_
     refine tkQ 4 ?_
     refine rdQ 2 (λK q=>?_);go_simp
     refine (zEC d.a x u.out.1).mono ?_;rintro en w6 ⟨rfl,f⟩;replace k:=QH f k
     replace d:=d.below f
     clear f;go_wp2_with fail
     refine hkQ q k (λj=>?_);clear q K
     refine rdQ 5 (λK q=>?_);go_simp
     refine (zEC d.b x u.out.2.1).mono ?_;rintro en w7 ⟨rfl,f⟩;replace k:=QH f k
     replace d:=d.below f
     clear f;go_wp2_with fail
     refine hkQ q k (λj=>?_);clear q K
     refine tkQ 6 ?_
     refine tkQ 7 ?_
     refine tkQ 8 ?_
     refine tkQ 9 ?_
     refine tkQ 11 ?_
     refine tkQ 12 ?_
     refine rdQ 10 (λK q=>?_);go_simp
     refine (zJY d.a x u.out.1 u.out.2.2.1).mono ?_;rintro en w8 ⟨rfl,f⟩;replace k:=QH f k
     replace d:=d.below f
     clear f;go_wp2_with fail
     refine hkQ q k (λj=>?_);clear q K
     refine rdQ 13 (λK q=>?_);go_simp
     refine (zJY d.b x u.out.2.1 u.out.2.2.1).mono ?_;rintro en w9 ⟨rfl,f⟩;replace k:=QH f k
     replace d:=d.below f
     clear f;go_wp2_with fail
     refine hkQ q k (λj=>?_);clear q K
     refine tkQ 14 ?_
     refine tkQ 15 ?_
     refine tkQ 16 ?_
     refine tkQ 17 ?_
     refine tkQ 18 ?_
     refine tkQ 20 ?_
     refine tkQ 21 ?_
     refine rdQ 19 (λK q=>?_);go_simp
     refine (zFT d.a x u.out.1 u.out.2.2.1 d.e.1.2.1).mono ?_;rintro en am ⟨rfl,f⟩;replace k:=QH f k
     replace d:=d.below f
     clear f;go_wp2_with fail
     refine hkQ q k (λj=>?_);clear q K
     refine rdQ 22 (λK q=>?_);go_simp
     refine (zFT d.b x u.out.2.1 u.out.2.2.1 d.e.1.2.1).mono ?_;rintro en an ⟨rfl,f⟩;replace k:=QH f k
     replace d:=d.below f
     clear f;go_wp2_with fail
     refine hkQ q k (λj=>?_);clear q K
     refine tkQ 23 ?_
     refine tkQ 24 ?_
     refine tkQ 25 ?_
     refine tkQ 26 ?_
     refine tkQ 27 ?_
     refine tkQ 29 ?_
     refine tkQ 30 ?_
     refine rdQ 28 (λK q=>?_);go_simp
     refine (zHS d.a x u.out.1 u.out.2.2.2.1 u.out.2.2.2.2.1).mono ?_;rintro en ao ⟨⟨u1,rfl,C⟩,f⟩;have v:=hid C;clear C;replace k:=QH f k
     replace d:=d.below f
     clear f;go_wp2_with fail
     refine hkQ q k (λj=>?_);clear q K
     refine rdQ 31 (λK q=>?_);go_simp
     refine (zHS d.b x u.out.2.1 u.out.2.2.2.1 u.out.2.2.2.2.1).mono ?_;rintro en ap ⟨⟨u2,rfl,D⟩,f⟩;have B:=hid D;replace v:=hid (v.out.below f)
     clear D;replace k:=QH f k
     replace d:=d.below f
     clear f;go_wp2_with fail
     refine hkQ q k (λj=>?_);clear q K
     refine rdQ 32 (λK q=>?_);go_simp
     refine (zOu _ u1 u2 _ v.out B.out u.out.2.2.2.1 (λp hp=>(u.out.2.2.2.2.1 p hp).1)).mono ?_;rintro en aq ⟨rfl,f⟩;clear v B;replace k:=QH f k
     replace d:=d.below f
     clear f;go_wp2_with fail
     refine hkQ q k (λj=>?_);clear q K
     refine tkQ 33 ?_
     refine tkQ 34 ?_
     refine tkQ 35 ?_
     refine tkQ 36 ?_
     refine tkQ 37 ?_
     refine tkQ 39 ?_
     refine tkQ 40 ?_
     refine rdQ 38 (λK q=>?_);go_simp
     refine (zHE d.a x u.out.1 d.e.2.1 u.out.2.2.2.1 u.out.2.2.2.2.1).mono ?_;rintro en ar ⟨⟨u3,rfl,C⟩,f⟩;have v:=hid C;clear C;replace k:=QH f k
     replace d:=d.below f
     clear f;go_wp2_with fail
     refine hkQ q k (λj=>?_);clear q K
     refine rdQ 41 (λK q=>?_);go_simp
     refine (zHE d.b x u.out.2.1 d.e.2.1 u.out.2.2.2.1 u.out.2.2.2.2.1).mono ?_;rintro en au ⟨⟨u4,rfl,D⟩,f⟩;have B:=hid D;replace v:=hid (v.out.below f)
     clear D;replace k:=QH f k
     replace d:=d.below f
     clear f;go_wp2_with fail
     refine hkQ q k (λj=>?_);clear q K
     refine rdQ 42 (λK q=>?_);go_simp
     refine (zMr _ u3 u4 _ v.out B.out u.out.2.2.2.2.2).mono ?_;rintro en aw ⟨rfl,f⟩;clear v B;replace k:=QH f k
     replace d:=d.below f
     clear f;go_wp2_with fail
     refine hkQ q k (λj=>?_);clear q K
     refine tkQ 43 ?_
     refine tkQ 44 ?_
     refine wpAnyH_done kR ?_ _;clear j k X;go_wp2_with fail
     go_roundg (m - (i+1))
     case rel=>exact ⟨i+1,sM,rfl,aa,d⟩
     case measure=>omega
    ·have af:¬ (i:Int)<(m:Int):=oM;go_wp2_with fail
     go_roundg (2 - (s+1)).toNat
     case rel=>exact ⟨s+1,rfl,rfl,⟨oM,oM,rfl⟩,⟨QA HO.out d.bl,d.a,d.b,d.e⟩⟩
     case measure=>omega
  ·have ag:¬ s<(([sS,sT]:List ByteArray).length:Int):=ab;have e2:s=2:=oM;have hp:Vo (ksB G) s=G.length:=by
    rw [e2];unfold Vo;rw [if_neg dM,if_neg dM];exact E.out.2.2.1
   rw [hp];go_wp2_with fail
   refine (zIB d.a).mono ?_;rintro en w9 ⟨rfl,f⟩;have HE:=hid (QA d.bl f);clear f d;go_wp2;go_ret;exact ⟨sM,HE.out⟩
end
open Go.RowKit Wf
theorem zRA (s r c:Int) (t:ByteArray) (w:wW):(Instr.build 38 #[(0,gX #[O J s,O J r,O J c]),(1,V t)]).run prog w=.ok (gX #[O J s,O J r,O J c,V t]) w:=kR
theorem zRq (s r c:Int) (t:ByteArray) (w:wW):(Instr.buildSlice 23 1 #[(0,gX #[O J s,O J r,O J c,V t])]).run prog w=.ok (U (some ⟨w.heap.size,0,none⟩) 1 1) (w.alloc (Z #[O J s,O J r,O J c,V t] 38)):=kR
theorem Ve (a b c:Int) (w:wW):(Instr.field 30 (gX #[O J a,O J b,O J c]) 0).run prog w=.ok (O J a) w:=kR
theorem zOT (w:wW) (a:Ch):RdH (w.alloc (Z #[O J a.x.s,O J a.x.r,O J a.x.c,V a.t] 38)) (some ⟨w.heap.size,0,none⟩) [a]:=by
 have q:=(AtL.new0 w 38 [O J a.x.s,O J a.x.r,O J a.x.c,V a.t]).range;intro i b d;cases i with
 | zero =>
  simp only [List.getElem?_cons_zero,Option.some.injEq] at d;subst d;exact ⟨w.heap.size,0,rfl,q⟩
 | succ i=>simp at d
theorem zKl (j:Vr [sS,sT] rs) {w:wW} {bb mb lo:Nat} {na:Option dW} {nk:Nat} {ver:Int} {H:List (Wpl.Cl × Ce)} (u:BEnv w) (h:BK w bb mb lo na nk [sS,sT] ver H) {a:Ch} {C:List I} (c:Jh 2 a.x=true) (D:rs a=.inl C) (E:a.t.size<=1000000000000000) (v:GOk 2 rs H) (B:H.length<4096) (F:0<=ver/\ver<=1000000000) {g:Nat} (f:RdH w (some ⟨g,0,none⟩) [a]) (M:g ≠ mb) :
  cW prog 9 #[pX (some ⟨bb,0,none⟩),U (some ⟨g,0,none⟩) 1 1] w λe w'=>∃ H',e=rX (gX #[O J 0,O J 0,O J 0])/\BK w' bb mb lo na nk [sS,sT] (ver+1) H'/\Fr [bb,mb] w w'/\EdAcc 2 rs H [a] H':=by
 refine Calls.mono (zFy bb mb lo na nk [sS,sT] rs j ver H _ 1 1 [a] w u h f rfl v oM F (λK o e=>by simp only [Option.some.injEq,Addr.mk.injEq] at e;omega) (λb c=>by rw [kZ] at c;rw [c];exact E)) ?_;rintro e w' ⟨r,z,d,rfl,m,A⟩;rcases z with ⟨k,_⟩ | ⟨p,q,_,_,y⟩
 ·rw [d] at k;exact absurd (zOL ver c D B) k
 ·rw [q] at m;exact ⟨r.2.2,by rw [p],m,A,y⟩
theorem zRK {H:List (Wpl.Cl × Ce)} (f:GOk 2 rs G) (d:GOk 2 rs H) (h:∀ x,gtE x H=gtE x G \/ gtE x H=ce0):H.length<=G.length:=by
 have:=List.Nodup.length_le_of_subset (l₂:=ksB G) d.1 (λx g=>by
  have c:=(zBA d x).1 g;rw [zBA f];rcases h x with e | e
  ·rw [<-e];exact c
  ·exact absurd e c)
 simpa using this
theorem RdX.fr {S:List Nat} (h:RdX w av l) (c:Fr S w w') (d:∀ g o,av=some ⟨g,o,none⟩->g ∉ S):RdX w' av l:=λi x hx=>by
 obtain ⟨g,e,f⟩:=h i x hx;exact ⟨g,e,c.range f (d g 0 e)⟩
def Dn (K:List Wpl.Cl) (s:Int) (i:Nat) (x:Wpl.Cl):Prop:=(x ∈ K/\x.s<s) \/ x ∈ (clS s K).take i
def LyS (rs:Ch->List I ⊕ (Int × Int)) (G:List (Wpl.Cl × Ce)) (w:wW) (bb mb lo:Nat) (nb:Option dW) (kb:Nat) (s:Int) (i:Nat) (W:wW):Prop :=
 ∃ vb H,bL w W/\BK W bb mb lo nb kb [sS,sT] vb H/\GOk 2 rs H/\(∀ x,(Dn (ksB G) s i x->gtE x H=gtE x G)/\(¬ Dn (ksB G) s i x->gtE x H=ce0))/\0<=vb/\vb<=s * 10000+(i:Int)
section
variable {rs:Ch->List I ⊕ (Int × Int)} {G:List (Wpl.Cl × Ce)} {w W:wW} {bb mb lo:Nat} {nb:Option dW} {kb:Nat} {s:Int} {i:Nat}
theorem LyS.below (h:LyS rs G w bb mb lo nb kb s i W) {c:wW} (d:bL W c):LyS rs G w bb mb lo nb kb s i c:=by
 obtain ⟨vb,H,e,f,g⟩:=h;exact ⟨vb,H,QA e d,f.below d,g⟩
theorem LyS.bl (h:LyS rs G w bb mb lo nb kb s i W):bL w W:=by
 obtain ⟨_,_,h,_⟩:=h;exact h
theorem LyS.lt (h:LyS rs G w bb mb lo nb kb s i W):bb<lo/\mb<lo/\lo<=W.heap.size:=by
 obtain ⟨_,_,_,h,_⟩:=h;exact h.lt
theorem zOg (f:GOk 2 rs G) {x:Wpl.Cl} (j:x ∈ ksB G):0<=x.s/\x.s<2:=by
 obtain ⟨p,g,e⟩:=List.mem_map.1 j;have c:=(f.2 p g).2.2.1;have d:=zEn dM c;unfold Jh at c;rw [Bool.and_eq_true,decide_eq_true_eq] at c;rw [<-e];exact ⟨d.1,c.2⟩
theorem LyS.start (c:GOk 2 rs G) (d:bL w W) (h:BK W bb mb lo nb kb [sS,sT] 0 []):LyS rs G w bb mb lo nb kb 0 0 W :=
 ⟨0,[],d,h,⟨by simp [KB],λp f=>by cases f⟩,λx=>⟨λhd=>by
  rcases hd with ⟨h1,g⟩ | h1
  ·have:=zOg c h1;omega
  ·simp at h1,λ_=>zMg (λe he=>by cases he)⟩,oM,oM⟩
theorem LyS.turn (h:LyS rs G w bb mb lo nb kb s (clS s (ksB G)).length W) (t:(clS s (ksB G)).length<=3000):LyS rs G w bb mb lo nb kb (s+1) 0 W:=by
 obtain ⟨vb,H,f,g,j,k,m,r⟩:=h;refine ⟨vb,H,f,g,j,λx=>?_,m,oM⟩;have e:Dn (ksB G) (s+1) 0 x ↔ Dn (ksB G) s (clS s (ksB G)).length x:=by
  unfold Dn;rw [List.take_length,cl_mem];simp only [List.take_zero,tZ,or_false];refine ⟨λ⟨c,d⟩=>?_,λq=>?_⟩
  ·by_cases p:x.s=s
   ·exact oZ ⟨c,p⟩
   ·exact vZ ⟨c,oM⟩
  ·rcases q with ⟨c,d⟩ | ⟨c,d⟩
   ·exact ⟨c,oM⟩
   ·exact ⟨c,oM⟩
 rw [e];exact k x
theorem LyS.done (f:GOk 2 rs G) (h:LyS rs G w bb mb lo nb kb 2 0 W):∃ vb H,BK W bb mb lo nb kb [sS,sT] vb H/\GOk 2 rs H/\SmE G H:=by
 obtain ⟨vb,H,k,g,j,d,_⟩:=h;refine ⟨vb,H,g,j,λx=>?_⟩;by_cases c:x ∈ ksB G
 ·exact ((d x).1 (vZ ⟨c,(zOg f c).2⟩)).symm
 ·have e:gtE x G=ce0:=Classical.byContradiction (λq=>c ((zBA f x).2 q));rw [e];refine ((d x).2 (λhd=>?_)).symm;rcases hd with ⟨q,_⟩ | q
  ·exact c q
  ·simp at q
theorem LyS.lay (m:Vr [sS,sT] rs) (f:GOk 2 rs G) (hl:G.length<=3000) (h:LyS rs G w bb mb lo nb kb s i W) (S:BEnv W) {x:Wpl.Cl} (F:(clS s (ksB G))[i]? = some x) (hs:0<=s/\s<=2) (hi:i<=3000) {g:Nat} (j:RdH W (some ⟨g,0,none⟩) [⟨x,(gtE x G).t⟩]) (hg:lo<=g) (X:w.heap.size<=bb/\w.heap.size<=mb) :
  cW prog 9 #[pX (some ⟨bb,0,none⟩),U (some ⟨g,0,none⟩) 1 1] W λe w'=>e=rX (gX #[O J 0,O J 0,O J 0])/\LyS rs G w bb mb lo nb kb s (i+1) w'/\Fr [bb,mb] W w':=by
 obtain ⟨vb,H,N,A,B,c,P,h6⟩:=h;have T:=(cl_mem.1 (hZ F)).1;have hm:=(J7 (G:=G) (x:=x)).resolve_left ((zBA f x).1 T);obtain ⟨_,k2,k3,M⟩:=f.2 _ hm;have E:=zRK f B (λy=>(Classical.em (Dn (ksB G) s i y)).elim (λq=>vZ ((c y).1 q)) (λq=>oZ ((c y).2 q)));refine Calls.mono (zKl m S A (a:=⟨x,(gtE x G).t⟩) k3 M k2 B oM ⟨P,oM⟩ j (by have:=A.lt;omega)) ?_;rintro e w' ⟨u,rfl,j1,K,r⟩;refine ⟨rfl,⟨vb+1,u,(Fr.new (Fr.of_below [] N) K (λk hk=>oZ (by simp at hk;omega))).to_below sM,j1,r.ok,λy=>?_,oM,oM⟩,K⟩;obtain ⟨_,C,d,v⟩:=r.new _ (List.mem_singleton.2 rfl);have R:gtE x u=gtE x G:=by
  rw [M] at d;simp only [Sum.inl.injEq] at d;simp only at v;rw [v,<-d]
 have hd:Dn (ksB G) s (i+1) y ↔ Dn (ksB G) s i y \/ y=x:=by
  unfold Dn;rw [rZ,F];simp only [List.mem_append,Option.toList_some,kZ];rw [or_assoc]
 by_cases p:y=x
 ·subst p;exact ⟨λ_=>R,λq=>absurd (hd.2 (oZ rfl)) q⟩
 ·rw [hd,r.old y (λa D=>by rw [kZ] at D;rw [D];exact λe=>p e.symm)];refine ⟨λq=>(c y).1 (q.resolve_right p),λq=>(c y).2 (λz=>q (vZ z))⟩
end
theorem zLS (E:List (List Ch)) (av:Option dW) (n cap:Nat) (w:wW) (hE:BEnv w) (hr:RdE w av E) (hn:E.length=n) (hN:True->n<=1000000000000000) (hL:∀ L ∈ E,L.length<=1000000000000000/\∀ a ∈ L,a.t.size<=1000000000000000) :
  CR 5 #[U av n cap] w (Y true):=by
 obtain ⟨rs,al⟩:=zQ3 [sS,sT] dM;have T:=hid al;have y:=hid (And.intro hE (And.intro hr (And.intro hn hL)));clear hE hr hn hL al;go_enter func5,ntmps5;go_upto_region 1 with fail
 go_wp2_with fail
 refine (zPX w y.out.1).mono ?_;rintro e w1 ⟨rfl,ag⟩;have q:=hid ag;clear ag;go_wp2_with fail
 refine (zPJ E av n cap w1 (y.out.2.1.below q.out) y.out.2.2.1 hN y.out.2.2.2).mono ?_;rintro e w2 ⟨⟨b,rfl,k⟩,rfl⟩;cases b with
 | true =>
  go_wp2;go_ret;exact ⟨rfl,q.out⟩
 | false =>
  have HW:=hid (k rfl);clear k;go_wp2_with fail
  refine (zPY rs T.out E av n cap w1 (y.out.1.below q.out) (y.out.2.1.below q.out) y.out.2.2.1 HW.out (λL hL=>(y.out.2.2.2 L hL).2)).mono ?_;rintro e M ⟨ba,ma,la,na,ka,rfl,hk,hI,ah,_⟩;obtain ⟨hG,aq,_⟩:=hI;generalize (mkS rs E).1=va at *;generalize (mkS rs E).2=G at *;have HA:=hid hk;have C:Hid (GOk 2 rs G/\G.length<=3000/\(clS 0 (ksB G)).length+(clS 1 (ksB G)).length=G.length):=⟨hG,by have:=HW.out;omega,zM2 hG⟩
  have ac:=hid (QA q.out ah);have R:=hid (y.out.1.below ac.out);clear hk hG aq ah q HW y;have aa:=QJ (aZ _ M) (Z #[V sS,V sT] 9);have NW:=zJd M.heap.size (M.alloc (Z #[V sS,V sT] 9)) (R.out.1.1.below aa) (zEw M);have P:=hid aa;clear aa;go_wp2_with fail
  refine NW.mono ?_;rintro e w4 ⟨bb,mb,nb,kb,rfl,hk,f,ar,ay,_⟩;have an:Hid (M.heap.size<=bb/\M.heap.size<=mb):=by
   have:=P.out.size;exact ⟨oM,oM⟩
  have af:=LyS.start C.out.1 (QA P.out f) hk;clear NW hk f ar ay P;generalize w4.heap.size=lo at *;go_upto_region 8 with fail
  go_loopg [6] 2 (λgk x wr=>∃ s:Int,x=O J s/\(0<=s/\s<=2/\gk=(2 - s).toNat)/\LyS rs G M bb mb lo nb kb s 0 wr)
  case atStart=>exact ⟨0,rfl,⟨oM,oM,rfl⟩,af⟩
  case round =>
   clear af;obtain ⟨s,rfl,hs,d⟩:=hrel;generalize ab:wr=W at *;clear ab;by_cases aC:s<2
   ·have aD:J.wrap (s+1)=s+1:=by rw [cZ];omega
    go_wp2_with fail
    refine (zCT (HA.out.below d.bl) C.out.1.1 (by have:=C.out.2.1;omega) s).mono ?_;rintro e w5 ⟨⟨xa,xc,rfl,aj,am⟩,k⟩;have D:Hid (∀ g o,xa=some ⟨g,o,none⟩->g ∉ [bb,mb]):=λg o e=>by
     have:=am g o e;have:=d.lt;simp only [List.mem_cons,tZ,or_false,not_or];omega
    replace d:=d.below k
    have ae:=hid aj;obtain ⟨m,hm⟩:=xV ((clS s (ksB G)).length)
    have HM:Hid ((clS s (ksB G)).length=m/\m<=3000):=by
     refine ⟨hm,?_⟩;have h1:=C.out.2;rcases (by omega:s=0 \/ s=1) with h | h <;> (subst h;omega)
    rw [hm];clear k aj am hm;go_upto_region 12 with fail
    generalize az:w5=W5 at *;clear az;go_loopg [8] m (λgk x wr=>∃ i:Nat,x=O J (i:Int)/\gk=m - i/\Hid (i<=m)/\LyS rs G M bb mb lo nb kb s i wr/\Hid (RdX wr xa (clS s (ksB G))))
    case atStart=>exact ⟨0,rfl,rfl,dZ _,d,ae⟩
    case round =>
     clear d ae;obtain ⟨i,rfl,hg,HI,d,v⟩:=hrel;generalize ab:wr=X at *;clear ab;by_cases ai:i<m
     ·have ax:(i:Int)<(m:Int):=oM;have aB:(0:Int)<=(i:Int):=oM;have aE:J.wrap ((i:Int)+1)=(i:Int)+1:=by have:=HM.out.2;rw [cZ];omega
      obtain ⟨x,hx⟩:∃ x,(clS s (ksB G))[i]? = some x:=⟨(clS s (ksB G))[i]'(by rw [HM.out.1];exact ai),bZ _⟩
      obtain ⟨g,e1,p⟩:=v.out i x hx;subst e1;have HX:=hid hx;have f:=(aZ X.heap.size X).drew;have z:X.drew.cell? ⟨g,i * 3,none⟩=some (O J x.s):=QC f (p 0 _ rfl);have A:X.drew.cell? ⟨g,i * 3+1,none⟩=some (O J x.r):=QC f (p 1 _ rfl);have B:X.drew.cell? ⟨g,i * 3+2,none⟩=some (O J x.c):=QC f (p 2 _ rfl);replace d:=d.below f
      replace v:=hid (v.out.below f)
      clear hx p f;go_upto_region 14 with fail
      refine wp_region_held_drew (S:=λW=>W.cell? ⟨g,i * 3,none⟩=some (O J x.s)/\W.cell? ⟨g,i * 3+1,none⟩=some (O J x.r)/\W.cell? ⟨g,i * 3+2,none⟩=some (O J x.c)) kR ⟨z,A,B⟩ (λj=>?_);generalize X.drew=W7 at *;refine tkQ 0 ?_
      refine tkQ 1 ?_
      refine tkQ 2 ?_
      refine tkQ 3 ?_
      refine tkQ 4 ?_
      refine tkQ 5 ?_
      refine tkQ 6 ?_
      refine tkQ 7 ?_
      refine tkQ 8 ?_
      refine tkQ 9 ?_
      refine rdQ 10 (λK N=>?_);go_simp
      refine (zEC (HA.out.below d.bl) x rfl).mono ?_;rintro e w7 ⟨rfl,k⟩;replace z:=QC k z
      replace A:=QC k A
      replace B:=QC k B
      replace d:=d.below k
      replace v:=hid (v.out.below k)
      clear k;go_wp2_with fail
      refine hkQ N ⟨z,A,B⟩ (λj=>?_);clear N K
      obtain ⟨t,ht⟩:=xV ((gtE x G).t)
      rw [ht];have HT:=hid ht;have au:=λw=>zRA x.s x.r x.c t w
      clear ht;refine tkQ 11 ?_
      have u:=QJ (aZ _ w7) (Z #[O J x.s,O J x.r,O J x.c,V t] 38);have ak:=zOT w7 ⟨x,t⟩;have aw:=λw=>zRq x.s x.r x.c t w
      refine rdQ 12 (λK N=>?_);go_simp
      replace z:=QC u z
      replace A:=QC u A
      replace B:=QC u B
      refine hkQ N ⟨z,A,B⟩ (λj=>?_);clear N K aw au
      have ad:=d.lt.2.2;replace d:=d.below u
      replace v:=hid (v.out.below u)
      have ED:=LyS.lay T.out C.out.1 C.out.2.1 d (R.out.below d.bl) HX.out ⟨oM,oM⟩ (by have:=HM.out;omega) (by rw [HT.out];exact ak) ad an.out;clear ak u ad d;refine rdQ 13 (λK N=>?_);go_simp
      refine ED.mono ?_;rintro e w8 ⟨rfl,d,hf⟩;replace v:=hid (v.out.fr hf D.out)
      replace z:=hf.cell z (D.out _ _ rfl)
      replace A:=hf.cell A (D.out _ _ rfl)
      replace B:=hf.cell B (D.out _ _ rfl)
      clear hf ED;have aA:=λw=>Ve 0 0 0 w
      go_wp2_with fail
      refine hkQ N ⟨z,A,B⟩ (λj=>?_);clear N K
      refine tkQ 14 ?_
      refine tkQ 15 ?_
      refine wpAnyH_done kR ?_ _;go_wp2_with fail
      go_roundg (m - (i+1))
      case rel=>exact ⟨i+1,sM,rfl,ai,d,v⟩
      case measure=>omega
     ·have ax:¬ (i:Int)<(m:Int):=oM;have he:i=m:=by have:=HI.out;omega
      have ap:LyS rs G M bb mb lo nb kb (s+1) 0 X:=LyS.turn (by rw [HM.out.1,<-he];exact d) (by rw [HM.out.1];exact HM.out.2);clear d v;go_wp2_with fail
      go_roundg (2 - (s+1)).toNat
      case rel=>exact ⟨s+1,rfl,⟨oM,oM,rfl⟩,ap⟩
      case measure=>omega
   ·have e2:s=2:=oM;subst e2;have F:=d.bl;obtain ⟨vb,H,h1,h2,h3⟩:=LyS.done C.out.1 d;have AL:=zOX T.out (w:=W) ⟨aZ _ _,HA.out.below F,h1,R.out.below F⟩ C.out.1 h2 h3 (by have:=C.out.2.1;omega);have ao:=hid (QA ac.out F);clear h1 h2 h3 F d;go_wp2_with fail
    refine AL.mono ?_;rintro e w9 ⟨rfl,k⟩;have HE:=hid (QA ao.out k);clear AL k;go_wp2;go_ret;exact ⟨rfl,HE.out⟩
