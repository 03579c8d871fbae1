/- Lemmas. -/
import Derived.Test.YtloponhikiddmaaGreatDoorQ18
import Derived.Deep.Slices
import Derived.Lib.SmallJoins
import Derived.SizedLaws
import Derived.Carry
import Derived.ProofKit
import Derived.Test.YtloponhikiddmaaGreatDoorCards
import Derived.Test.YtloponhikiddmaaGreatDoorTie
import Derived.JoinedCond
set_option maxHeartbeats 400000000
set_option maxRecDepth 100000
open Go.RowKit.Below renaming refl->bZ
open Go.IntKind renaming wrap_i64->cZ
open List renaming getElem?_eq_getElem->dZ,mem_of_getElem?->gZ,map_cons->hZ,range->iZ,getElem?_cons_zero->jZ,map_toArray->mZ,mem_cons->pZ,mem_cons_of_mem->qZ,eq_nil_of_length_eq_zero->rZ,mem_append->sZ,map_nil->tZ,perm_ext_iff_of_nodup->uZ,getElem?_cons_succ->vZ,drop_zero->xZ,take_succ_cons->yZ,drop_succ_cons->zZ,mem_cons_self->bY,mem_singleton->cY,filter_cons->dY,not_mem_nil->eY,length_map->fY,take_zero->gY,mem_map->hY
open Nat renaming zero_le->eZ,le_trans->fZ,le_refl->oZ,zero_add->iY
open Go.Result renaming andThen_ok->kZ
open Or renaming inr->nZ,inl->wZ
open Go renaming World->wW,Value->vW,Calls->cW,Addr->dW
namespace Go.Proofs.YtloponhikiddmaaGreatDoor
open _root_.Go.Proofs.Tryz
variable {w w':wW} {rs:Ch->List Wf.I ⊕ (Int × Int)} {G:List (Wpl.Cl × Ce)} {b:Nat} {ops:Array Oper} {rest:List Oper} {o:Oper} {a:Act} {Q:Exit->Act->wW->Prop} {L:List Ch} {nm:List ByteArray}
open Go.RowKit Go.Shelf
set_option linter.unusedVariables false
theorem zNb:(prog.info? 36).map (λi=>(i.zero,i.size,i.bytes))=some (some (.agg #[.int .i64 0,.int .i64 0,.int .i64 0]),3,24):=kR
theorem zNi:prog.underlying 39=some (.slice 36):=kR
theorem zB2 {P:Program} {t:TypeId} {z:vW} {s:Nat} (h:(P.info? t).map (λi=>(i.zero,i.size,i.bytes))=some (some z,s,b)):∃ i,P.info? t=some i/\i.zero=some z/\i.size=s/\i.bytes=b:=by
 obtain ⟨i,d,c⟩:=Option.map_eq_some_iff.1 h;simp only [Prod.mk.injEq] at c;exact ⟨i,d,c.1,c.2.1,c.2.2⟩
theorem zFD {ops:Array Oper} {rest:List Oper} {a:Act} {Q:Exit->Act->wW->Prop} (p:o.guard=none) (C x:Operand) (T:o.op=.call {callee:=.builtin .append,args:=#[C,x],argTypes:=#[39,39]})
  (w:wW) (B:Nat) (N:B<=w.heap.size) (v:vW) (n:Nat) (A:List vW) (hs:a.eval C=v) (f:w.ownsRow B 36 3 v n A) (k d m c:Nat) (l:List Wpl.Cl) (S:l.length=m) (hx:a.eval x=.slice (some ⟨k,d,none⟩) m c) (g:∀ j u,(JN l)[j]? = some u->w.cell? ⟨k,d+j,none⟩=some u) (hn:n+m<=2000000000)
  (h:∀ e w',w'.ownsRow B 36 3 e (n+m) (A++JN l)->w.grownBy w' v.ownBlock->(e.ownBlock=v.ownBlock \/ e.ownBlock=some w.heap.size)->wpList prog ops Q rest (a.put o.dst e) w'):wpList prog ops Q (o::rest) a w:=by
 refine wpList_plain p λK R=>?_
 obtain ⟨i0,r,s,t,y⟩:=zB2 zNb;obtain ⟨e,w',X,D,F,_,M⟩:=run_append_own_at (P:=prog) w B 39 o.type 36 i0 _ 3 24 zNi r s t y rfl dM v n A f ⟨k,d,none⟩ m c (JN l) (by rw [zAg,S]) (λj z hj=>by
   have:=g j z hj;rw [show (⟨k,d,none⟩:dW).add j=⟨k,d+j,none⟩ from by
    simp [Addr.add];try (intro h0;omega)]
   exact this) (zR2 l) (by unfold maxLen;omega) oM N
 unfold Oper.wp execOp;simp only [T,resolve,invoke,builtin,Sem.run_bind,Sem.run_pure,kZ,mZ,hZ,tZ,hs,hx,X];exact R _ _ (h e w' D F M)
def RdX (w:wW) (c:Option dW) (l:List Wpl.Cl):Prop:=∀ (i:Nat) (x:Wpl.Cl),l[i]? = some x->∃ g,c=some ⟨g,0,none⟩/\w.rangeAt g (i * 3) (clX x)
theorem RdX.below {c:Option dW} {l:List Wpl.Cl} (h:RdX w c l) (d:bL w w'):RdX w' c l:=λi x p=>by
 obtain ⟨g,e,f⟩:=h i x p;exact ⟨g,e,λj v m=>QC d (f j v m)⟩
def clS (s:Int) (K:List Wpl.Cl):List Wpl.Cl:=Wb.srt (K.filter (λx=>decide (x.s=s)))
theorem zMU {T c:List Wpl.Cl} (h:T.Perm c):Wb.srt T=Wb.srt c :=
 List.Perm.eq_of_pairwise (le:=λa b=>Wb.ltC b a=false) (λa b _ _ h1 h2=>Wb.ltC_eq h2 h1) (Wb.srt_pw T) (Wb.srt_pw c) (((Wb.srt_perm T).trans h).trans (Wb.srt_perm c).symm)
def zQO (F:List (Wpl.Cl × Ct)) (s:Int) (w:wW) (en:Ending) (w':wW):Prop :=
 (∃ (c:Option dW) (cap:Nat),en=.returned (.slice c (clS s (F.map (λp=>p.1))).length cap)/\RdX w' c (clS s (F.map (λp=>p.1)))/\∀ g o,c=some ⟨g,o,none⟩->w.heap.size<=g)/\bL w w'
theorem zGK (bb mb:Nat) (nv:vW) (ver s:Int) (F:List (Wpl.Cl × Ct)) (w:wW) (h:AtL w bb [nv,.int .i64 ver,.map (some mb)]) (hm:MB w mb F) (hK:KB F) (hF:True->F.length<=1000000) :
  cW prog 13 #[.pointer (some ⟨bb,0,none⟩),.int .i64 s] w (zQO F s w):=by
 obtain ⟨_,_,c2,_⟩:=h.three;obtain ⟨w1,aA,⟨k,aE,hit⟩,ah⟩:=zOP hm;have R:=hid hit;have aa:=hid ah;have HK:=hid hK;have aF:mb<w.heap.size:=hm.lt;clear h hm hit ah hK;go_enter func13,ntmps13;go_upto_region 3 with fail
 clear aA c2;go_loopg [5] k (λgk u wr=>∃ (D T:List Wpl.Cl),Hid (ItB wr w.heap.size mb F D gk)/\Hid (T.Nodup/\(∀ y ∈ T,y ∈ D)/\(∀ y ∈ T,y.s=s/\∃ f,(y,f) ∈ F)/\(T.length<=D.length/\D.length+gk<=k)/\∀ y ∈ D,y.s=s->y ∈ T)/\Hid (wr.ownsRow (w.heap.size+1) 36 3 u T.length (JN T))/\Hid (bL w wr/\w.heap.size+1<=wr.heap.size))
 case atStart=>exact ⟨[],[],R,⟨sM,sM,sM,⟨sM,sM⟩,sM⟩,⟨rfl,wZ ⟨rfl,rfl⟩⟩,⟨aa.out,R.out.lt.1⟩⟩
 case round =>
  obtain ⟨D,T,HI,HT,HO,N⟩:=hrel;generalize aB:wr=W at *;clear aB R aa;rcases HI.out.next HK.out 0 with ⟨an,C⟩ | ⟨x,f,M,ap,am,an,az,fr2,k',al,K⟩
  ·have aC:=N;have HC:Hid (Wb.srt T=clS s (F.map (λp=>p.1))/\T.length<=1000000):=by
    obtain ⟨t1,t2,t3,⟨t4,t5⟩,t6⟩:=HT.out;refine ⟨zMU ((uZ t1 (List.filter_sublist.nodup HK.out)).2 λy=>?_),by have:=hF trivial;omega⟩;rw [List.mem_filter,hY,decide_eq_true_eq];refine ⟨λhy=>?_,λ⟨⟨p,hp,e⟩,hs⟩=>t6 y (by rw [<-e];exact C p hp) hs⟩;obtain ⟨h1,f,h2⟩:=t3 y hy;exact ⟨⟨_,h2,rfl⟩,h1⟩
   have ac:Hid ((clS s (F.map (λp=>p.1))).length=T.length):=by show _=_;rw [<-HC.out.1,Wb.srt_len]
   clear C;rcases HO.out.2 with ⟨e,h0⟩ | ⟨g,cap,aD,e,ai,_⟩
   ·subst e;have hT:T=[]:=rZ h0;have HE:Hid (zQO F s w (.returned (.slice none 0 0)) W):=⟨⟨none,0,by rw [ac.out,hT];rfl,λi x hx=>(by rw [<-HC.out.1,hT] at hx;simp [Wb.srt] at hx),λg o e=>by cases e⟩,N.out.1⟩
    have SF:=λW=>AnyF.slices_SortFunc_none zRU none 0 (.func (.func 29) #[] #[]) W
    change ∀ W,cW prog 28 _ _ _ at SF
    clear HI HO HT N h0 hT;go_wp2_with fail
    refine (SF _).mono ?_;rintro en M ⟨rfl,rfl⟩;go_wp2;go_ret;exact HE.out
   ·subst e;have SF:=zHT g T.length cap (w.heap.size+1) T W HO.out rfl (λ_=>by have:=HC.out.2;omega);have HG:=hid ai;clear HI ai;go_wp2_with fail
    refine SF.mono ?_;rintro en M ⟨rfl,hc,ak⟩;have HE:Hid (zQO F s w (.returned (.slice (some ⟨g,0,none⟩) T.length cap)) M):=by
     have fr2:Fr [g] W M:=Fr.of_grown ak (λk e=>by cases e;simp);refine ⟨⟨_,_,by rw [ac.out],λi x hx=>⟨g,rfl,λj v hv=>?_⟩,λg' o e=>by cases e;have:=HG.out;omega⟩,(Fr.new (Fr.of_below [] N.out.1) fr2 (λk hk=>nZ (by simp at hk;have:=HG.out;omega))).to_below sM⟩;rw [<-HC.out.1] at hx;obtain ⟨hi,e⟩:=List.getElem?_eq_some_iff.1 hx;have hj:j<3:=by
      have:=(List.getElem?_eq_some_iff.1 hv).1;simpa [clX] using this
     refine hc _ _ ?_;rw [zCS _ i hi j hj,e];exact hv
    clear SF hc ak;go_wp2;go_ret;exact HE.out
  ·have ad:=hid K;have HX:Hid (((x,f) ∈ F/\x ∉ D)/\k' < gk):=⟨⟨ap,am⟩,al⟩
   have af:=hid (Q2 fr2 HO.out (λg e hg=>by simp at hg;have:=(QM HO.out e).1;omega));have P:=hid (And.intro (((Fr.of_below [w.heap.size] N.out.1).trans fr2).to_below sM) (fZ N.out.2 fr2.size));have d:=QJ (bZ _ M) (.cells #[.int .i64 x.s,.int .i64 x.r,.int .i64 x.c] 36);have q3:=AtL.new0 M 36 [.int .i64 x.s,.int .i64 x.r,.int .i64 x.c];have S:=hid (ad.out.fr (Fr.of_below [] d) sM sM);have X:=hid (Q2 (Fr.of_below [] d) af.out sM);have m:=hid (And.intro (QA P.out.1 d) (fZ P.out.2 d.size));clear K ap am al fr2 HI HO N ad af P d;go_upto_region 5 with fail
   clear an az;generalize M.alloc (.cells #[.int .i64 x.s,.int .i64 x.r,.int .i64 x.c] 36)=B at *;generalize ay:M.heap.size=eb at *;clear ay;obtain ⟨j0,j1,j2,_⟩:=q3.three;by_cases aq:x.s=s
   ·subst aq;have l:=QJ (bZ _ B) (.cells #[.int .i64 x.s,.int .i64 x.r,.int .i64 x.c] 36);have q4:=AtL.new0 B 36 [.int .i64 x.s,.int .i64 x.r,.int .i64 x.c];have o4:(B.alloc (.cells #[.int .i64 x.s,.int .i64 x.r,.int .i64 x.c] 36)).ownsRow (w.heap.size+1) 36 3 u5 T.length (JN T):=Q2 (Fr.of_below [] l) X.out sM;have ae:=hid (S.out.fr (Fr.of_below [] l) sM sM);have t:=hid (And.intro (QA m.out.1 l) (fZ m.out.2 l.size));have ao:=t.out.2;have ab:Hid (∀ j v,(JN [x])[j]? = some v->(B.alloc (.cells #[.int .i64 x.s,.int .i64 x.r,.int .i64 x.c] 36)).cell? ⟨B.heap.size,0+j,none⟩=some v):=λj v hv=>by rw [iY];exact q4.2.1 j v hv
    have ag:T.length+1<=2000000000:=by have:=HT.out.2.2.2.1;have:=hF trivial;omega
    clear q3 l q4 S X m;go_wp2_with (at_builtin;refine zFD rfl (.tmp 20) (.tmp 22) rfl (B.alloc (.cells #[.int .i64 x.s,.int .i64 x.r,.int .i64 x.c] 36)) (w.heap.size+1) ao u5 T.length _ rfl o4 B.heap.size 0 1 1 [x] rfl rfl ab.out ag ?_;intro v5 w5 o5 aj _)
    have z:Fr u5.ownBlock.toList (B.alloc (.cells #[.int .i64 x.s,.int .i64 x.r,.int .i64 x.c] 36)) w5:=Fr.of_grown aj (λk e=>by rw [e];simp);have A:∀ g,g ∈ u5.ownBlock.toList->w.heap.size+1<=g:=λg hg=>(QM o4 (by simpa using hg)).1
    have au:=hid (ae.out.fr z (λhg=>by have:=A _ hg;omega) (λhg=>by have:=A _ hg;omega));have ar:=hid (And.intro ((Fr.new (Fr.of_below [] t.out.1) z (λk hk=>nZ (by have:=A k hk;omega))).to_below sM) (fZ t.out.2 z.size));have av:Hid (w5.ownsRow (w.heap.size+1) 36 3 v5 (T++[x]).length (JN (T++[x]))):=by
     show World.ownsRow _ _ _ _ _ _ _
     rw [zDy,List.length_append];exact o5
    have ax:Hid ((T++[x]).Nodup/\(∀ y ∈ T++[x],y ∈ x::D)/\(∀ y ∈ T++[x],y.s=x.s/\∃ f,(y,f) ∈ F)/\((T++[x]).length<=(x::D).length/\(x::D).length+k'<=k)/\∀ y ∈ x::D,y.s=x.s->y ∈ T++[x]):=by
     obtain ⟨t1,t2,t3,⟨t4,t5⟩,t6⟩:=HT.out;obtain ⟨⟨x1,x2⟩,x3⟩:=HX.out;refine ⟨?_,λy hy=>?_,λy hy=>?_,⟨by simp;omega,by simp;omega⟩,λy hy hs=>?_⟩
     ·rw [List.nodup_append];refine ⟨t1,sM,λa ha b hb e=>?_⟩;simp at hb;rw [e,hb] at ha;exact x2 (t2 x ha)
     ·rcases List.mem_append.1 hy with hy | hy
      ·exact qZ _ (t2 y hy)
      ·simp at hy;rw [hy];exact bY
     ·rcases List.mem_append.1 hy with hy | hy
      ·exact t3 y hy
      ·simp at hy;rw [hy];exact ⟨rfl,f,x1⟩
     ·rcases List.mem_cons.1 hy with rfl | hy
      ·simp
      ·exact List.mem_append_left _ (t6 y hy hs)
    clear o4 o5 aj z A ae t ab ao ag;go_wp2_with fail
    go_roundg k'
    case rel=>exact ⟨x::D,T++[x],au,ax,av,ar⟩
    case measure=>exact HX.out.2
   ·have aw:Hid (T.Nodup/\(∀ y ∈ T,y ∈ x::D)/\(∀ y ∈ T,y.s=s/\∃ f,(y,f) ∈ F)/\(T.length<=(x::D).length/\(x::D).length+k'<=k)/\∀ y ∈ x::D,y.s=s->y ∈ T):=by
     obtain ⟨t1,t2,t3,⟨t4,t5⟩,t6⟩:=HT.out;have:=HX.out.2;refine ⟨t1,λy hy=>qZ _ (t2 y hy),t3,⟨by simp;omega,by simp;omega⟩,λy hy hs=>?_⟩;rcases List.mem_cons.1 hy with rfl | hy
     ·exact absurd hs aq
     ·exact t6 y hy hs
    go_wp2_with fail
    go_roundg k'
    case rel=>exact ⟨x::D,T,S,aw,X,m⟩
    case measure=>exact HX.out.2
open Go.RowKit Wf
def Jq:List Ch->List vW
 | []=>[]
 | a::r=>chL a++Jq r
theorem zB4:∀ L:List Ch,(Jq L).length=L.length * 4
 | []=>rfl
 | a::r=>by simp [Jq,zB4 r,chL];omega
theorem zCs:∀ (L:List Ch) (i:Nat) (h:i<L.length) (c:Nat),c<4->(Jq L)[i * 4+c]? = (chL (L[i]))[c]?
 | [],i,h,c,hc=>absurd h (Nat.not_lt_zero _)
 | x::r,0,h,c,hc=>by
  show (chL x++Jq r)[0 * 4+c]? = _
  rw [Nat.zero_mul,iY,List.getElem?_append_left (by simpa [chL] using hc)];rfl
 | x::r,i+1,h,c,hc=>by
  show (chL x++Jq r)[(i+1) * 4+c]? = _
  rw [List.getElem?_append_right (by simp [chL];omega),show (i+1) * 4+c - (chL x).length=i * 4+c from by simp [chL];omega,zCs r i (by simpa using h) c hc];rfl
theorem zRW:∀ (l:List Ch),∀ u ∈ Jq l,u.oneCell'=true
 | [],u,hu=>by cases hu
 | y::r,u,hu=>by
  rcases List.mem_append.1 hu with q | q
  ·simp [chL] at q;rcases q with h | h | h | h <;> (subst h;rfl)
  ·exact zRW r u q
theorem zPu:(prog.info? 38).map (λi=>(i.zero,i.size,i.bytes))=some (some (.agg #[.int .i64 0,.int .i64 0,.int .i64 0,.string ⟨#[]⟩]),4,40):=kR
theorem zIV:prog.underlying 23=some (.slice 38):=kR
theorem RdH.flat {c:Nat} (h:RdH w (some ⟨b,c,none⟩) L):∀ j u,(Jq L)[j]? = some u->w.cell? ⟨b,c+j,none⟩=some u:=λj u hu=>by
 have l:j<L.length * 4:=by rw [<-zB4];exact (List.getElem?_eq_some_iff.1 hu).1
 have f:j / 4<L.length:=oM;have e:j=j / 4 * 4+j % 4:=oM;rw [e,zCs L (j / 4) f (j % 4) oM] at hu;obtain ⟨bb,o,d,g⟩:=h (j / 4) _ (dZ f);simp only [Option.some.injEq,Addr.mk.injEq] at d;obtain ⟨rfl,rfl,_⟩:=d;have:=g (j % 4) u hu;rwa [show c+j / 4 * 4+j % 4=c+j from by omega] at this
theorem zNv {B:Nat} {v:vW} (h:w.ownsRow B 38 4 v L.length (Jq L)):∃ c cap,v=.slice c L.length cap/\RdH w c L/\∀ g o,c=some ⟨g,o,none⟩->B<=g:=by
 rcases h.2 with ⟨e,l⟩ | ⟨g,cap,f,e,m,A,t,x,y,z⟩
 ·subst e;exact ⟨none,0,by rw [l],(λi a d=>by have:=(List.getElem?_eq_some_iff.1 d).1;omega),λg o e=>by cases e⟩
 ·subst e;refine ⟨_,cap,rfl,λi a d=>⟨g,0,rfl,λj u hu=>?_⟩,λg' o e=>?_⟩
  ·obtain ⟨r,e⟩:=List.getElem?_eq_some_iff.1 d;have s:j<4:=by
    have:=(List.getElem?_eq_some_iff.1 hu).1;simpa [chL] using this
   have p:=h.cells (g:=g) rfl (i * 4+j) u (by rw [zCs L i r j s,e];exact hu);rwa [show (⟨g,0,none⟩:dW).add (i * 4+j)=⟨g,0+i * 4+j,none⟩ from by simp [Addr.add];try (intro h;omega)] at p
  ·simp only [Option.some.injEq,Addr.mk.injEq] at e;omega
theorem zGR {ops:Array Oper} {rest:List Oper} {a:Act} {Q:Exit->Act->wW->Prop} (M:o.guard=none) (sl x:Operand) (S:o.op=.call {callee:=.builtin .append,args:=#[sl,x],argTypes:=#[23,23]})
  (w:wW) (B:Nat) (hB:B<=w.heap.size) (v:vW) (T:a.eval sl=v) (d:w.ownsRow B 38 4 v 0 []) (p:Option dW) (m k:Nat) (L:List Ch) (hm:L.length=m) (X:a.eval x=.slice p m k) (hr:RdH w p L) (R:p=none->m=0/\k=0) (hn:m<=1000000000)
  (h:∀ l w',w'.ownsRow B 38 4 l m (Jq L)->w.grownBy w' v.ownBlock->wpList prog ops Q rest (a.put o.dst l) w'):wpList prog ops Q (o::rest) a w:=by
 refine wpList_plain M λK F=>?_
 obtain ⟨i0,f,s,t,y⟩:=zB2 zPu;by_cases A:L=[]
 ·subst A;have N:m=0:=hm.symm;subst N;cases p with
  | none =>
   obtain ⟨_,rfl⟩:=R rfl;have c:=run_append_owned_none (P:=prog) (w:=w) B 23 o.type 38 i0 4 zIV f _ 0 [] d;unfold Oper.wp execOp;simp only [S,resolve,invoke,builtin,Sem.run_bind,Sem.run_pure,kZ,mZ,hZ,tZ,T,X,c];exact F _ _ (h _ _ d (World.grownBy.refl _ _))
  | some ad =>
   obtain ⟨l,w',c,C,D,_,h5⟩:=run_append_own_at (P:=prog) w B 23 o.type 38 i0 _ 4 40 zIV f s t y rfl dM v 0 [] d ad 0 k [] rfl (λj z hj=>by simp at hj) (λu hu=>by cases hu) dM dM hB;unfold Oper.wp execOp;simp only [S,resolve,invoke,builtin,Sem.run_bind,Sem.run_pure,kZ,mZ,hZ,tZ,T,X,c];exact F _ _ (h l w' (by simpa [Jq] using C) D)
 ·have r:0<L.length:=List.length_pos_iff.2 A;obtain ⟨b,g,e,_⟩:=hr 0 _ (dZ r);subst e;obtain ⟨l,w',c,C,D,_,h5⟩:=run_append_own_at (P:=prog) w B 23 o.type 38 i0 _ 4 40 zIV f s t y rfl dM v 0 [] d ⟨b,g,none⟩ m k (Jq L) (by rw [zB4,hm]) (λj z hj=>by
   have:=hr.flat j z hj;rw [show (⟨b,g,none⟩:dW).add j=⟨b,g+j,none⟩ from by
    simp [Addr.add];try (intro A;omega)]
   exact this) (zRW L) (by unfold maxLen;omega) oM hB
  unfold Oper.wp execOp;simp only [S,resolve,invoke,builtin,Sem.run_bind,Sem.run_pure,kZ,mZ,hZ,tZ,T,X,c];exact F _ _ (h l w' (by simpa using C) D)
theorem BK.fr {S:List Nat} {bb mb lo:Nat} {na:Option dW} {nk:Nat} {ver:Int} (h:BK w bb mb lo na nk nm ver G) (c:Fr S w w') (d:∀ k ∈ S,k<lo/\k ≠ bb/\k ≠ mb/\∀ g o,na=some ⟨g,o,none⟩->k ≠ g):BK w' bb mb lo na nk nm ver G:=by
 obtain ⟨F,f,j⟩:=h.mp;exact ⟨zCe h.hd c (λq=>(d _ q).2.1 rfl),h.rs.fr c (λg o e q=>(d _ q).2.2.2 g o e rfl),h.kp,h.nb,⟨F,f.fr c (λq=>(d _ q).2.2.1 rfl),j.fr c (λk q=>(d k q).1)⟩,⟨h.lt.1,h.lt.2.1,fZ h.lt.2.2 c.size⟩,h.ne⟩
theorem zIP:∀ {E:List (List Ch)} {L:List Ch},L ∈ E->L.length<=wtE E
 | [],L,h=>by cases h
 | x::r,L,h=>by
  simp only [wtE,hZ,List.sum_cons];rcases List.mem_cons.1 h with rfl | h
  ·omega
  ·have:=zIP h;simp only [wtE] at this;omega
theorem zPS (E:List (List Ch)) (i:Nat):wtE (E.take i)<=wtE E:=by
 have e:wtE E=wtE (E.take i)+wtE (E.drop i):=by
  conv=>lhs;rw [<-List.take_append_drop i E]
  unfold wtE;rw [List.map_append,List.sum_append]
 omega
open Go.RowKit
theorem zQ8:(#[.int .i64 0,.int .i64 0,.int .i64 0,.string ⟨#[]⟩,.bool false,.int .i64 0]:Array vW).all (·.oneCell')=true:=all_oneCell_toArray (λv c=>by simp at c;rcases c with rfl | rfl | rfl | rfl <;> rfl)
theorem zH6 (w:wW):CR 38 #[] w (.agg #[.int .i64 0,.int .i64 0,.int .i64 0,.string ⟨#[]⟩,.bool false,.int .i64 0]):=by
 go_enter func38,ntmps38;go_wp2;refine bodyPost_ret (v:=vlV Wt.v0) (by simp [results,results38,go_sem,vlV,vl6,Wt.v0]) rfl ⟨rfl,?_⟩;exact clA
theorem zAn (b:Bool) (s:ByteArray) (w:wW) (h:s.toList=if b then [84,82,85,69] else [70,65,76,83,69]):cW prog 58 #[.string s] w λe w'=>e=.returned (.tuple #[.bool b,.bool true])/\w=w':=by
 have c:(s.toList == [84,82,85,69])=b:=by rw [h];cases b <;> rfl
 have d:(s.toList == [70,65,76,83,69]) = !b:=by rw [h];cases b <;> rfl
 clear h;cases b
 all_goals
  go_enter func58,ntmps58;go_wp2;go_ret2
  exact ⟨rfl,rfl⟩
theorem zLw (s:ByteArray) (w:wW) (c:0<s.size) (f:s.size<=1000000000000000) (g:((s.extract 0 1).toList == [39])=true) :
  cW prog 52 #[.string s,.string ⟨#[39]⟩] w λe w'=>e=.returned (.tuple #[.string (s.extract 1 s.size),.bool true])/\w=w':=by
 have d:(1:Int)<=(s.size:Int):=oM;go_enter func52,ntmps52;go_wp2;go_ret2
 exact ⟨rfl,rfl⟩
def rdV (s:ByteArray):Wt.Vl :=
 if s.size=0 then Wt.v0 else if ((s.extract 0 1).toList == [39])=true then VN (s.extract 1 s.size) else if Wnum.oB (Wnum.rdO s)=true then Vs (Wnum.oN (Wnum.rdO s)) (Wnum.oD (Wnum.rdO s)) else
 if s.toList=[84,82,85,69] then Qc true else if s.toList=[70,65,76,83,69] then Qc false else if fi s.toList 0 fNames=0 then VN s else Jp (fi s.toList 0 fNames:Nat)
theorem zJN (s:ByteArray) (w:wW) (hF:FltAt w) (hs:s.size<=1000000000000000):CR 39 #[.string s] w (vlV (rdV s)):=by
 have y:=vlz w;have l:=QJ (bZ _ w) (.cells zV0 65);have m:=hF.below l;obtain ⟨R,g⟩:=xV (rdV s)
 rw [g];unfold rdV at g;by_cases F:s.size=0
 rw [if_pos F] at g;have aa:s.toList.isEmpty=true:=by
  rw [ByteArray.toList_eq,show s.data.toList=[] from rZ F];rfl
 have j:∀ w,CR 38 #[] w (vlV Wt.v0):=zH6
 rw [g] at j;simp only [vlV,vl6] at j;clear g;focus
  go_enter func39,ntmps39;go_wp2_with fail
  refine (j _).mono ?_;rintro e C ⟨rfl,d⟩;have f:=AtL.below d y;have t:=QA l d
 rotate_left
 rw [if_neg F] at g;have aa:s.toList.isEmpty=false:=zC1 (λe=>by subst e;exact F rfl);rcases Bool.eq_false_or_eq_true ((s.extract 0 1).toList == [39]) with hx | hx
 rw [if_pos hx] at g;have A:=λw=>zLw s w oM hs hx
 have hz:(s.extract 1 s.size).size<=1000000000000000:=by rw [ByteArray.size_extract];omega
 have j:=λw=>zAr (s.extract 1 s.size) w oM
 rw [g] at j;simp only [vlV,vl6] at j;clear g;clear hz hx;focus
  go_enter func39,ntmps39;go_wp2_with fail
  refine (A _).mono ?_;rintro e N ⟨rfl,rfl⟩;go_wp2_with fail
  refine (j _).mono ?_;rintro e C ⟨rfl,d⟩;have f:=AtL.below d y;have t:=QA l d
 rotate_left
 rw [if_neg (by rw [hx];decide)] at g;have A:=λw=>zD0 s w oM hx
 have B:=λw=>zCZ s w oM
 have C4:=λw h=>zAk s w h
 obtain ⟨⟨b1,b2⟩,b3,S⟩:=zMS s;generalize Wnum.oN (Wnum.rdO s)=nn at *;generalize Wnum.oD (Wnum.rdO s)=T at *;generalize fi s.toList 0 fNames=c at *;clear hx;rcases Bool.eq_false_or_eq_true (Wnum.oB (Wnum.rdO s)) with hq | hq
 rw [if_pos hq] at g;rw [hq] at B;have j:=λw=>zCv nn T w b1 b2 b3 S
 rw [g] at j;simp only [vlV,vl6] at j;clear g;clear hq b1 b2 b3 S;focus
  go_enter func39,ntmps39;go_wp2_with fail
  refine (A _).mono ?_;rintro e N ⟨rfl,rfl⟩;go_wp2_with fail
  refine (B _).mono ?_;rintro e w2 ⟨rfl,d⟩;have r:=AtL.below d y;have p:=QA l d;have u:=m.below d;clear y l m d;go_wp2_with fail
  refine (j _).mono ?_;rintro e C ⟨rfl,d⟩;have f:=AtL.below d (AtL.alloc r _);have t:=QA (QJ p _) d
 rotate_left
 rw [if_neg (by rw [hq];decide)] at g;rw [hq] at B;clear hq b1 b2 b3 S;by_cases K:s.toList=[84,82,85,69] \/ s.toList=[70,65,76,83,69]
 obtain ⟨M,D,e5⟩:∃ M,(∀ w,cW prog 58 #[.string s] w λe w'=>e=.returned (.tuple #[.bool M,.bool true])/\w=w')/\(if s.toList=[84,82,85,69] then Qc true else if s.toList=[70,65,76,83,69] then Qc false else if c=0 then VN s else Jp (c:Nat))=Qc M:=by
  rcases K with h | h
  ·exact ⟨true,λw=>zAn true s w h,if_pos h⟩
  ·exact ⟨false,λw=>zAn false s w h,by rw [if_neg (by rw [h];decide),if_pos h]⟩
 rw [e5] at g;clear e5 K;have j:=λw=>zAY M w
 rw [g] at j;simp only [vlV,vl6] at j;clear g;focus
  go_enter func39,ntmps39;go_wp2_with fail
  refine (A _).mono ?_;rintro e N ⟨rfl,rfl⟩;go_wp2_with fail
  refine (B _).mono ?_;rintro e w2 ⟨rfl,d⟩;have r:=AtL.below d y;have p:=QA l d;have u:=m.below d;clear y l m d;go_wp2_with fail
  refine (D _).mono ?_;rintro e P ⟨rfl,rfl⟩;go_wp2_with fail
  refine (j _).mono ?_;rintro e C ⟨rfl,d⟩;have f:=AtL.below d (AtL.alloc r _);have t:=QA (QJ p _) d
 rotate_left
 obtain ⟨n1,n2⟩:=not_or.1 K;rw [if_neg n1,if_neg n2] at g;have D:=λw=>zA6 s w n1 n2
 clear n1 n2 K;by_cases x:c=0
 rw [if_pos x] at g;have X:((c:Int) == 0)=true:=by rw [x];rfl
 clear x;have j:=λw=>zAr s w oM
 rw [g] at j;simp only [vlV,vl6] at j;clear g;focus
  go_enter func39,ntmps39;go_wp2_with fail
  refine (A _).mono ?_;rintro e N ⟨rfl,rfl⟩;go_wp2_with fail
  refine (B _).mono ?_;rintro e w2 ⟨rfl,d⟩;have r:=AtL.below d y;have p:=QA l d;have u:=m.below d;clear y l m d;go_wp2_with fail
  refine (D _).mono ?_;rintro e P ⟨rfl,rfl⟩;have z:=u.below ((bZ _ _).alloc (oZ _) (.cells #[.int .i64 nn,.int .i64 T] 63));go_wp2_with fail
  refine (C4 _ z).mono ?_;rintro e P ⟨rfl,rfl⟩;go_wp2_with fail
  refine (j _).mono ?_;rintro e C ⟨rfl,d⟩;have f:=AtL.below d (AtL.alloc r _);have t:=QA (QJ p _) d
 rotate_left
 rw [if_neg x] at g;have X:((c:Int) == 0)=false:=by rw [beq_eq_false_iff_ne];omega
 clear x;have j:=λw=>zA1 (c:Nat) w
 rw [g] at j;simp only [vlV,vl6] at j;clear g;focus
  go_enter func39,ntmps39;go_wp2_with fail
  refine (A _).mono ?_;rintro e N ⟨rfl,rfl⟩;go_wp2_with fail
  refine (B _).mono ?_;rintro e w2 ⟨rfl,d⟩;have r:=AtL.below d y;have p:=QA l d;have u:=m.below d;clear y l m d;go_wp2_with fail
  refine (D _).mono ?_;rintro e P ⟨rfl,rfl⟩;have z:=u.below ((bZ _ _).alloc (oZ _) (.cells #[.int .i64 nn,.int .i64 T] 63));go_wp2_with fail
  refine (C4 _ z).mono ?_;rintro e P ⟨rfl,rfl⟩;go_wp2_with fail
  refine (j _).mono ?_;rintro e C ⟨rfl,d⟩;have f:=AtL.below d (AtL.alloc r _);have t:=QA (QJ p _) d
 rotate_left
 all_goals
  obtain ⟨c0,c1,c2,c3,c4,c5⟩:=f.f6;have g0:=f.2.2 0 dM;have g1:=f.2.2 1 dM;have g2:=f.2.2 2 dM;have g3:=f.2.2 3 dM;have g4:=f.2.2 4 dM;have g5:=f.2.2 5 dM;go_wp2;refine bodyPost_ret (v:=vlV R) (by simp [results,results39,go_sem,vlV,vl6, *]) rfl ⟨rfl,?_⟩;exact (clB t)
def Vi (t:ByteArray):Wt.Vl:=if knd t=1 then rdV t else Wt.v0
theorem zG9 (bb mb:Nat) (nv:vW) (ver:Int) (F:List (Wpl.Cl × Ct)) (x:Wpl.Cl) (w:wW) (h:AtL w bb [nv,.int .i64 ver,.map (some mb)]) (hm:MB w mb F) (hs:(gtC x F).t.size<=1000000000000000) (hF:FltAt w) :
  CR 24 #[.pointer (some ⟨bb,0,none⟩),.agg #[.int .i64 x.s,.int .i64 x.r,.int .i64 x.c]] w (vlV (Vi (gtC x F).t)):=by
 have v:=QJ (QJ (bZ _ w) (.cells #[.int .i64 x.s,.int .i64 x.r,.int .i64 x.c] 36)) (.cells zV0 65);have p:=AtL.f3 ((AtL.new0 w 36 [.int .i64 x.s,.int .i64 x.r,.int .i64 x.c]).alloc (.cells zV0 65));have q:AtL ((w.alloc (.cells #[.int .i64 x.s,.int .i64 x.r,.int .i64 x.c] 36)).alloc (.cells zV0 65)) (w.heap.size+1) (vl6 Wt.v0):=AtL.new1 w (.cells #[.int .i64 x.s,.int .i64 x.r,.int .i64 x.c] 36) 65 (vl6 Wt.v0);have KA:=zAo bb mb nv ver F x ((w.alloc (.cells #[.int .i64 x.s,.int .i64 x.r,.int .i64 x.c] 36)).alloc (.cells zV0 65)) (AtL.below v h) (hm.below v) oM;have z:Hid (∀ W,bL w W->CR 12 #[.pointer (some ⟨bb,0,none⟩),.agg #[.int .i64 x.s,.int .i64 x.r,.int .i64 x.c]] W (.string (gtC x F).t)):=λW hb=>zBr bb mb nv ver F x W (AtL.below hb h) (hm.below hb)
 have u:Hid (∀ W,bL w W->CR 39 #[.string (gtC x F).t] W (vlV (rdV (gtC x F).t))):=λW hb=>zJN _ W (hF.below hb) hs
 generalize (gtC x F).t=t at *;obtain ⟨f,y⟩:=xV (Vi t)
 rw [y];unfold Vi at y;obtain ⟨kd,D⟩:=xV (knd t)
 rw [D] at KA y;have T:=hid y;clear h hm hs D hF y;go_enter func24,ntmps24;go_upto_region 1 with fail
 generalize (w.alloc (.cells #[.int .i64 x.s,.int .i64 x.r,.int .i64 x.c] 36)).alloc (.cells zV0 65)=W0 at *;obtain ⟨M,N,P⟩:=p;have HQ:=hid q;have C:=hid v;clear q v;go_wp2_with fail
 refine KA.mono ?_;rintro e w1 ⟨rfl,g⟩;have m:=hid (AtL.below g HQ.out);have j:=hid (QA C.out g);replace M:=QC g M
 replace N:=QC g N
 replace P:=QC g P
 clear KA g HQ C;by_cases hk:kd=1
 ·subst hk;have y:rdV t=f:=T.out;rw [y] at u;clear y T;have TX:=z.out w1 j.out;clear z;go_wp2_with fail
  refine TX.mono ?_;rintro e R ⟨rfl,d⟩;have l:=hid (QA j.out d);have RD:=u.out R l.out;simp only [vlV,vl6] at RD;clear TX u M N P;go_wp2_with fail
  refine RD.mono ?_;rintro e w3 ⟨rfl,A⟩;have K:AtL w3 (w.heap.size+1) (vl6 Wt.v0):=AtL.below A (AtL.below d m.out);have S:=hid (QA l.out A);have B:World.there w3 (w.heap.size+1) 0 (vl6 f).toArray.size:=K.there;clear d A m j l RD;have q3:=AtL.setAll K (vs:=vl6 f) rfl;go_wp2_with ((with_reducible refine wpList_store_mid ?_ 65 (.tmp 4) (.tmp 13) ?_ (w.heap.size+1) 0 (vl6 f).toArray ?_ ?_ ?_ ?_ ?_ ?_);rfl;rfl;rfl;rfl;exact B;kernel_rfl;simp [vl6,Value.oneCell'])
  (try simp only [Exit.inBlock,Exit.then])
  refine bodyPost_ret (Q4 (by rfl) _ _ (w.heap.size+1) (vl6 f) _ (by rfl) q3.range underlying65 rfl kR) rfl ⟨rfl,Qm S.out (Nat.le_succ _) _ 0⟩
 ·have X:Hid (Wt.v0=f):=by have:=T.out;rwa [if_neg hk] at this
  clear M N P z u;go_wp2_with fail
  refine (zH6 _).mono ?_;rintro e R ⟨rfl,d⟩;have K:AtL R (w.heap.size+1) (vl6 Wt.v0):=AtL.below d m.out;have l:=hid (QA j.out d);have B:World.there R (w.heap.size+1) 0 (vl6 Wt.v0).toArray.size:=K.there;clear d m j;have q3:=AtL.setAll K (vs:=vl6 Wt.v0) rfl;go_wp2_with ((with_reducible refine wpList_store_mid ?_ 65 (.tmp 4) (.tmp 9) ?_ (w.heap.size+1) 0 #[.int .i64 0,.int .i64 0,.int .i64 0,.string ⟨#[]⟩,.bool false,.int .i64 0] ?_ ?_ ?_ ?_ ?_ ?_);rfl;rfl;rfl;rfl;exact B;kernel_rfl;exact zQ8)
  (try simp only [Exit.inBlock,Exit.then])
  refine bodyPost_ret (Q4 (by rfl) _ _ (w.heap.size+1) (vl6 Wt.v0) _ (by rfl) q3.range underlying65 rfl kR) rfl ⟨by rw [<-X.out];rfl,Qm l.out (Nat.le_succ _) _ 0⟩
theorem zKF (bb mb lo:Nat) (na:Option dW) (nk:Nat) (nm:List ByteArray) (ver:Int) (G:List (Wpl.Cl × Ce)) (w:wW) (h:BK w bb mb lo na nk nm ver G) (c:0<nm.length) (r:True->nm.length<=1000000) :
  cW prog 22 #[.pointer (some ⟨bb,0,none⟩)] w λe w'=>(∃ d cap,e=.returned (.slice d nm.length cap))/\bL w w':=by
 obtain ⟨g,l,rfl,-⟩:=h.rs 0 c;have m:=zGt g l nm.length nk (nm.map Value.string) w sM (λj u f=>by
  obtain ⟨z,e⟩:=List.getElem?_eq_some_iff.1 f;obtain ⟨B,D,p,y⟩:=h.rs j (by simpa using z);simp only [Option.some.injEq,Addr.mk.injEq,and_true] at p;obtain ⟨rfl,rfl⟩:=p;rw [<-e,List.getElem_map];exact y) (λu f=>by obtain ⟨a,_,rfl⟩:=List.mem_map.1 f;rfl) (λ_=>by have:=r trivial;omega)
 obtain ⟨C,-,-,-⟩:=h.hd.three;clear h c r;generalize nm.length=n at *;go_enter func22,ntmps22;go_wp2_with fail
 refine m.mono ?_;rintro e A ⟨⟨v,rfl,t⟩,s⟩;have x:Hid ((∃ d cap,Ending.returned v=.returned (.slice d n cap))/\bL w A):=by
  refine ⟨?_,s⟩;rcases t.2 with ⟨e,c⟩ | ⟨_,_,_,e,_⟩
  ·exact ⟨none,0,by rw [e,c]⟩
  ·exact ⟨_,_,by rw [e]⟩
 clear t s m;go_wp2;go_ret;exact x.out
abbrev ksB (G:List (Wpl.Cl × Ce)):List Wpl.Cl:=G.map (λp=>p.1)
theorem zBA {n:Nat} (h:GOk n rs G) (x:Wpl.Cl):x ∈ ksB G ↔ gtE x G ≠ ce0:=by
 rw [hY];refine ⟨λ⟨p,hp,e⟩ he=>?_,λhx=>⟨_,(J7 (G:=G) (x:=x)).resolve_left hx,rfl⟩⟩;obtain ⟨y,f⟩:=p;subst e;rw [zCP h.1 hp] at he;exact (h.2 _ hp).1 (congrArg Ce.t he)
def SmE (G H:List (Wpl.Cl × Ce)):Prop:=∀ x,gtE x G=gtE x H
section
variable {n:Nat} {rs:Ch->List I ⊕ (Int × Int)} {G H:List (Wpl.Cl × Ce)}
theorem SmE.keys (c:GOk n rs G) (d:GOk n rs H) (h:SmE G H):(ksB G).Perm (ksB H):=(uZ c.1 d.1).2 λx=>by rw [zBA c,zBA d,h x]
theorem SmE.len (c:GOk n rs G) (d:GOk n rs H) (h:SmE G H):G.length=H.length:=by
 have:=(SmE.keys c d h).length_eq;simpa using this
theorem SmE.cl (c:GOk n rs G) (d:GOk n rs H) (h:SmE G H) (s:Int):clS s (ksB G)=clS s (ksB H):=zMU ((SmE.keys c d h).filter _)
end
theorem zF1 {α:Type} (f:α->Bool):∀ l:List α,(l.filter f).length+(l.filter (λx=>!f x)).length=l.length
 | []=>rfl
 | a::r=>by
  have:=zF1 f r;rw [dY,dY];cases f a <;> simp <;> omega
theorem zM2 (f:GOk 2 rs G):(clS 0 (ksB G)).length+(clS 1 (ksB G)).length=G.length:=by
 unfold clS;rw [Wb.srt_len,Wb.srt_len];have e:(ksB G).filter (λx=>decide (x.s=1))=(ksB G).filter (λx=>!decide (x.s=0)):=List.filter_congr λx hx=>by
  obtain ⟨p,g,e⟩:=List.mem_map.1 hx;have c:=(f.2 p g).2.2.1;have j:=zEn dM c;unfold Jh at c;rw [Bool.and_eq_true,decide_eq_true_eq] at c;rw [<-e];have:p.1.s<2:=c.2;by_cases d:p.1.s=0
  ·simp [d]
  ·have:p.1.s=1:=oM;simp [this]
 rw [e,zF1,fY]
theorem zOH (L:List I) (h:L.length<=1000000):(usA L).length<=2000000:=by
 unfold usA;split
 ·have c:=zCr (VM L) [];have d:=zCh L;simp at c;omega
 ·simp
theorem zPs (d:Vr nm rs) {G:List (Wpl.Cl × Ce)} (h:GOk nm.length rs G) (x:Wpl.Cl):(gtE x G).t.size<=1000000000000000/\(gtE x G).c.length<=1000000/\∀ p ∈ (gtE x G).c,TI 1000000 p:=by
 refine ⟨zMn h x,?_⟩;rcases J7 (G:=G) (x:=x) with e | e
 ·rw [e];exact ⟨eZ _,λp l=>by cases l⟩
 ·obtain ⟨m,f,g,j⟩:=h.2 _ e;have:=(d ⟨x,(gtE x G).t⟩ g f).2.1 _ j;exact ⟨fZ this.2.1 dM,this.2.2⟩
section
variable {w:wW} {bb mb lo:Nat} {na:Option dW} {nk:Nat} {nm:List ByteArray} {ver:Int} {G:List (Wpl.Cl × Ce)}
theorem zEC (h:BK w bb mb lo na nk nm ver G) (x:Wpl.Cl) {e:Ce} (d:gtE x G=e):CR 12 #[.pointer (some ⟨bb,0,none⟩),.agg #[.int .i64 x.s,.int .i64 x.r,.int .i64 x.c]] w (.string e.t):=by
 obtain ⟨F,m,f⟩:=h.mp;have:=zBr bb mb _ ver F x w h.hd m;rwa [(f.get x).1.1,d] at this
theorem zJY (h:BK w bb mb lo na nk nm ver G) (x:Wpl.Cl) {e:Ce} (d:gtE x G=e) (g:e.t.size<=1000000000000000):CR 16 #[.pointer (some ⟨bb,0,none⟩),.agg #[.int .i64 x.s,.int .i64 x.r,.int .i64 x.c]] w (.int .i64 (knd e.t)):=by
 obtain ⟨F,m,f⟩:=h.mp;have:=zAo bb mb _ ver F x w h.hd m (by rw [(f.get x).1.1,d];omega);rwa [(f.get x).1.1,d] at this
theorem zFT (h:BK w bb mb lo na nk nm ver G) (x:Wpl.Cl) {e:Ce} (g:gtE x G=e) (l:e.t.size<=1000000000000000) (j:FltAt w):CR 24 #[.pointer (some ⟨bb,0,none⟩),.agg #[.int .i64 x.s,.int .i64 x.r,.int .i64 x.c]] w (.agg #[.int .i64 (Vi e.t).k,.int .i64 (Vi e.t).n,.int .i64 (Vi e.t).d,.string (Vi e.t).t,.bool (Vi e.t).b,.int .i64 (Vi e.t).f]):=by
 obtain ⟨F,m,f⟩:=h.mp;have:=zG9 bb mb _ ver F x w h.hd m (by rw [(f.get x).1.1,g];exact l) j;rw [(f.get x).1.1,g] at this;exact this
theorem zHS (h:BK w bb mb lo na nk nm ver G) (x:Wpl.Cl) {e:Ce} (l:gtE x G=e) (t:e.c.length<=1000000) (g:∀ p ∈ e.c,TI 1000000 p):cW prog 26 #[.pointer (some ⟨bb,0,none⟩),.agg #[.int .i64 x.s,.int .i64 x.r,.int .i64 x.c]] w λen w'=>(∃ v,en=.returned v/\RdC w' v e.c)/\bL w w':=by
 obtain ⟨F,m,f⟩:=h.mp;have d:=(f.get x).1.2;rw [l] at d;refine Calls.mono (zHN bb mb lo _ ver F x e.c w h.hd m d (λ_=>t) (λp hp=>(g p hp).1)) ?_;rintro en w' ⟨⟨v,rfl,d⟩,j⟩;exact ⟨⟨v,rfl,d.rdc⟩,j⟩
theorem zHE (h:BK w bb mb lo na nk nm ver G) (x:Wpl.Cl) {e:Ce} (l:gtE x G=e) (g:NmAt w) (t:e.c.length<=1000000) (j:∀ p ∈ e.c,TI 1000000 p):cW prog 17 #[.pointer (some ⟨bb,0,none⟩),.agg #[.int .i64 x.s,.int .i64 x.r,.int .i64 x.c]] w λen w'=>(∃ v,en=.returned v/\RdA w' v (usA e.c))/\bL w w':=by
 obtain ⟨F,m,f⟩:=h.mp;have d:=(f.get x).1.2;rw [l] at d;exact zMb bb mb lo _ ver F x e.c w h.hd m d g t j
theorem zIB (h:BK w bb mb lo na nk nm ver G):CR 15 #[.pointer (some ⟨bb,0,none⟩)] w (.int .i64 (G.length:Int)):=by
 obtain ⟨F,m,f⟩:=h.mp;have:=zCo bb mb _ ver F w h.hd m;rwa [f.len] at this
theorem zCT (h:BK w bb mb lo na nk nm ver G) (c:KB G) (d:G.length<=1000000) (s:Int):cW prog 13 #[.pointer (some ⟨bb,0,none⟩),.int .i64 s] w λe w'=>(∃ av cap,e=.returned (.slice av (clS s (ksB G)).length cap)/\RdX w' av (clS s (ksB G))/\∀ g o,av=some ⟨g,o,none⟩->w.heap.size<=g)/\bL w w':=by
 obtain ⟨F,m,f⟩:=h.mp;have:=zGK bb mb _ ver s F w h.hd m (by unfold KB;rw [f.keys];exact c) (λ_=>by rw [f.len];exact d);unfold zQO at this;rwa [f.keys] at this
end
open Go.RowKit
theorem zO5 (l:List Wpl.Cl) (m p:Option dW) (n F K:Nat) (w:wW) (B:RdX w m l) (C:RdX w p l) (D:l.length=n) (P:True->n<=1000000) :
  CR 23 #[.slice m n F,.slice p n K] w (.bool true):=by
 have j:Hid (RdX w m l/\RdX w p l/\l.length=n):=⟨B,C,D⟩
 clear B C D;go_enter func23,ntmps23;go_wp2_with fail
 go_loopg [5] n (λgk u wr=>∃ i:Nat,u=.int .i64 (i:Int)/\gk=n - i/\Hid (i<=n)/\Hid (bL w wr))
 case atStart=>exact ⟨0,rfl,rfl,eZ _,bZ _ _⟩
 case round =>
  obtain ⟨i,rfl,X,T,e⟩:=hrel;generalize z:wr=W at *;clear z;by_cases d:i<n
  ·have y:(i:Int)<(n:Int):=oM;have R:(0:Int)<=(i:Int):=oM;have S:IntKind.i64.wrap ((i:Int)+1)=(i:Int)+1:=by have:=P trivial;rw [cZ];omega
   obtain ⟨x,A⟩:∃ x,l[i]? = some x:=⟨l[i]'(by rw [j.out.2.2];exact d),dZ _⟩
   obtain ⟨t,M,f⟩:=j.out.1.below e.out i x A;obtain ⟨v,N,g⟩:=j.out.2.1.below e.out i x A;subst M N;have p0:W.cell? ⟨t,i * 3,none⟩=some (.int .i64 x.s):=f 0 _ rfl;have p1:W.cell? ⟨t,i * 3+1,none⟩=some (.int .i64 x.r):=f 1 _ rfl;have p2:W.cell? ⟨t,i * 3+2,none⟩=some (.int .i64 x.c):=f 2 _ rfl;have q0:W.cell? ⟨v,i * 3,none⟩=some (.int .i64 x.s):=g 0 _ rfl;have q1:W.cell? ⟨v,i * 3+1,none⟩=some (.int .i64 x.r):=g 1 _ rfl;have q2:W.cell? ⟨v,i * 3+2,none⟩=some (.int .i64 x.c):=g 2 _ rfl;clear f g A;go_upto_region 6 with fail
   go_quiet (fail)
   go_wp2_with fail
   go_roundg (n - (i+1))
   case rel=>exact ⟨i+1,sM,rfl,d,Ql e.out _⟩
   case measure=>omega
  ·have y:¬ (i:Int)<(n:Int):=oM;go_wp2;go_ret;exact ⟨rfl,e.out⟩
theorem zKj (v:Wt.Vl) (w:wW):(binOp .neq 65 (vlV v) (vlV v)).run prog w=.ok (.bool false) w:=by
 simp [go_sem,vlV,vl6]
theorem zOu (L:List (Wc.In × List Int)) (v1 v2:vW) (w:wW) (h1:RdC w v1 L) (h2:RdC w v2 L) (hl:L.length<=1000000) (ht:∀ x ∈ L,x.2.length<=1000000) :
  CR 25 #[v1,v2] w (.bool true):=by
 obtain ⟨a1,c1,rfl,r1⟩:=h1;obtain ⟨a2,c2,rfl,r2⟩:=h2;have H1:Hid (RdC w (.slice a1 L.length c1) L):=⟨a1,c1,rfl,r1⟩
 have H2:Hid (RdC w (.slice a2 L.length c2) L):=⟨a2,c2,rfl,r2⟩
 have HT:=hid ht;obtain ⟨n,hn⟩:=xV L.length
 have HL:Hid (L.length=n/\n<=1000000):=⟨hn,oM⟩
 rw [hn];clear r1 r2 ht hl hn;go_enter func25,ntmps25;go_wp2_with fail
 go_loopg [5] n (λgk x wr=>∃ i:Nat,x=.int .i64 (i:Int)/\gk=n - i/\Hid (i<=n)/\Hid (bL w wr))
 case atStart=>exact ⟨0,rfl,rfl,eZ _,bZ _ _⟩
 case round =>
  obtain ⟨i,rfl,hg,HI,HB⟩:=hrel;generalize ai:wr=A at *;clear ai;by_cases ae:i<n
  ·have ah:(i:Int)<(n:Int):=oM;have aN:(0:Int)<=(i:Int):=oM;have aO:IntKind.i64.wrap ((i:Int)+1)=(i:Int)+1:=by have:=HL.out.2;rw [cZ];omega
   obtain ⟨q1,d1,e1,f1⟩:=H1.out.below HB.out;obtain ⟨q2,d2,e2,f2⟩:=H2.out.below HB.out;simp only [Value.slice.injEq,true_and] at e1 e2;obtain ⟨rfl,rfl⟩:=e1;obtain ⟨rfl,rfl⟩:=e2;have ab:i<L.length:=by rw [HL.out.1];exact ae
   obtain ⟨b1,o1,R,N,F,rfl,g1,y1,_⟩:=f1 i ab;obtain ⟨b2,o2,T,P,M,rfl,g2,y2,_⟩:=f2 i ab;have af:=HT.out (L[i]) (List.getElem_mem _);generalize (L[i]).1=x at *;generalize (L[i]).2=tl at *;have aa:=hid (And.intro y1 (And.intro y2 af));clear f1 f2 y1 y2 af ab;go_upto_region 6 with fail
   go_cut [6,7] (λv6 v7 wx=>∃ p u,v6=.pointer (some ⟨p,0,none⟩)/\v7=.pointer (some ⟨u,0,none⟩)/\Hid (AtL wx p (QF x (.slice R N F)))/\Hid (AtL wx u (QF x (.slice T P M)))/\Hid (bL A wx))
   case first =>
    have hC:bL A A.drew:=(bZ _ _).drew;refine wp_region_held_drew (S:=λW=>W.rangeAt b1 (o1+i * 23) (QF x (.slice R N F))/\W.rangeAt b2 (o2+i * 23) (QF x (.slice T P M))) kR ⟨QG hC g1,QG hC g2⟩ (λy=>?_);generalize A.drew=z at *;refine tkQ 0 ?_
    refine tkQ 1 ?_
    refine tkQ 2 ?_
    refine wpAnyH_take (i:=3) (v:=.agg (QF x (.slice R N F)).toArray) (atQ rfl) kR kR kR (λ_ _ _ h=>h) (yieldsIf_load_mid (by rfl) 87 (.tmp 21) rfl b1 (o1+i * 23) rfl ((QF x (.slice R N F))) _ (λ_ h=>h.1) underlying87 rfl kR) (by assumption) ?_;try simp only [Act.put,lA,lZ,lS]
    refine tkQ 4 ?_
    refine tkQ 5 ?_
    refine tkQ 6 ?_
    refine wpAnyH_take (i:=7) (v:=.agg (QF x (.slice T P M)).toArray) (atQ rfl) kR kR kR (λ_ _ _ h=>h) (yieldsIf_load_mid (by rfl) 87 (.tmp 25) rfl b2 (o2+i * 23) rfl ((QF x (.slice T P M))) _ (λ_ h=>h.2) underlying87 rfl kR) (by assumption) ?_;try simp only [Act.put,lA,lZ,lS]
    refine wpAnyH_ready (rs:=[8,9]) kR sM ?_;refine AllReadyH.cons (atQ rfl) (λK B=>?_) (AllReadyH.cons (atQ rfl) (λK B=>?_) AllReadyH.nil);have bN:=QA hC (QJ (bZ _ z) (.cells zeros23 87));have bM:=QJ bN (.cells zeros23 87);have n6:=(AtL.new0 z 87 zeros23.toList).alloc (.cells zeros23 87);have n7:=AtL.new1 z (.cells zeros23 87) 87 zeros23.toList;go_simp
    refine hkQ B ⟨QG bN g1,QG bN g2⟩ (λy=>?_);clear B K bN
    refine rdQ 9 (λK B=>?_);go_simp
    refine hkQ B ⟨QG bM g1,QG bM g2⟩ (λy=>?_);clear B K
    have D:=hid hC.size;have C:Hid (z.heap.size ≠ z.heap.size+1/\A.heap.size<=z.heap.size/\A.heap.size<=z.heap.size+1):=by
     have:=D.out;exact ⟨oM,oM,oM⟩
    generalize (z.alloc (.cells zeros23 87)).alloc (.cells zeros23 87)=WB at *;generalize z.heap.size+1=u at *;generalize z.heap.size=p at *;clear D;rotate_left
    have bN:=QA hC (QJ (bZ _ z) (.cells zeros23 87));have bM:=QJ bN (.cells zeros23 87);have n7:=(AtL.new0 z 87 zeros23.toList).alloc (.cells zeros23 87);have n6:=AtL.new1 z (.cells zeros23 87) 87 zeros23.toList;go_simp
    refine hkQ B ⟨QG bN g1,QG bN g2⟩ (λy=>?_);clear B K bN
    refine rdQ 8 (λK B=>?_);go_simp
    refine hkQ B ⟨QG bM g1,QG bM g2⟩ (λy=>?_);clear B K
    have D:=hid hC.size;have C:Hid (z.heap.size+1 ≠ z.heap.size/\A.heap.size<=z.heap.size+1/\A.heap.size<=z.heap.size):=by
     have:=D.out;exact ⟨oM,oM,oM⟩
    generalize (z.alloc (.cells zeros23 87)).alloc (.cells zeros23 87)=WB at *;generalize z.heap.size+1=p at *;generalize z.heap.size=u at *;clear D;rotate_left
    all_goals
     have m6:=n6.setAll (vs:=(QF x (.slice R N F))) rfl;have m7:=n7.farAll (b:=p) C.out.1 0 (QF x (.slice R N F));have bC:=Qm bM (k:=p) C.out.2.1 (QF x (.slice R N F)) 0;refine rdQ 10 (λK B=>?_);refine wp_store_mid 87 (.tmp 6) (.tmp 22) rfl p 0 (QF x (.slice R N F)).toArray rfl rfl n6.there kR (JO _ _ _ _) ?_;generalize WB.setCells p 0 (QF x (.slice R N F)).toArray.toList=WC at *;refine B.out _ _ ⟨QG bC g1,QG bC g2⟩ (λy=>?_);clear B K n6 n7 bM;try simp only [Act.put]
     have q7:=m7.setAll (vs:=(QF x (.slice T P M))) rfl;have q6:=m6.farAll (b:=u) C.out.1.symm 0 (QF x (.slice T P M));have bD:=Qm bC (k:=u) C.out.2.2 (QF x (.slice T P M)) 0;refine rdQ 11 (λK B=>?_);refine wp_store_mid 87 (.tmp 7) (.tmp 26) rfl u 0 (QF x (.slice T P M)).toArray rfl rfl m7.there kR (JO _ _ _ _) ?_;generalize WC.setCells u 0 (QF x (.slice T P M)).toArray.toList=WT at *;refine B.out _ _ ⟨QG bD g1,QG bD g2⟩ (λy=>?_);clear B K;try simp only [Act.put]
     refine wpAnyH_done kR ?_ _;go_wp2_with fail
     go_meet
     case rel=>exact ⟨p,u,rfl,rfl,q6,q7,bD⟩
   case rest =>
    obtain ⟨p,u,rfl,rfl,g,j,X⟩:=hcut;generalize aj:wc=m at *;clear aj;have a0:m.cell? ⟨p,0,none⟩=some (.int .i64 x.op):=g.out.2.1 0 _ rfl;have b0:m.cell? ⟨u,0,none⟩=some (.int .i64 x.op):=j.out.2.1 0 _ rfl;have a1:m.cell? ⟨p,1,none⟩=some (.int .i64 x.a):=g.out.2.1 1 _ rfl;have b1:m.cell? ⟨u,1,none⟩=some (.int .i64 x.a):=j.out.2.1 1 _ rfl;have a2:m.cell? ⟨p,2,none⟩=some (.int .i64 x.b):=g.out.2.1 2 _ rfl;have b2:m.cell? ⟨u,2,none⟩=some (.int .i64 x.b):=j.out.2.1 2 _ rfl;have a3:m.cell? ⟨p,3,none⟩=some (.int .i64 x.v.k):=g.out.2.1 3 _ rfl;have b3:m.cell? ⟨u,3,none⟩=some (.int .i64 x.v.k):=j.out.2.1 3 _ rfl;have a4:m.cell? ⟨p,4,none⟩=some (.int .i64 x.v.n):=g.out.2.1 4 _ rfl;have b4:m.cell? ⟨u,4,none⟩=some (.int .i64 x.v.n):=j.out.2.1 4 _ rfl;have a5:m.cell? ⟨p,5,none⟩=some (.int .i64 x.v.d):=g.out.2.1 5 _ rfl;have b5:m.cell? ⟨u,5,none⟩=some (.int .i64 x.v.d):=j.out.2.1 5 _ rfl;have a6:m.cell? ⟨p,6,none⟩=some (.string x.v.t):=g.out.2.1 6 _ rfl;have b6:m.cell? ⟨u,6,none⟩=some (.string x.v.t):=j.out.2.1 6 _ rfl;have a7:m.cell? ⟨p,7,none⟩=some (.bool x.v.b):=g.out.2.1 7 _ rfl;have b7:m.cell? ⟨u,7,none⟩=some (.bool x.v.b):=j.out.2.1 7 _ rfl;have a8:m.cell? ⟨p,8,none⟩=some (.int .i64 x.v.f):=g.out.2.1 8 _ rfl;have b8:m.cell? ⟨u,8,none⟩=some (.int .i64 x.v.f):=j.out.2.1 8 _ rfl
    have a9:m.cell? ⟨p,9,none⟩=some (.int .i64 x.ce.s):=g.out.2.1 9 _ rfl;have b9:m.cell? ⟨u,9,none⟩=some (.int .i64 x.ce.s):=j.out.2.1 9 _ rfl;have ak:m.cell? ⟨p,10,none⟩=some (.int .i64 x.ce.r):=g.out.2.1 10 _ rfl;have aA:m.cell? ⟨u,10,none⟩=some (.int .i64 x.ce.r):=j.out.2.1 10 _ rfl;have al:m.cell? ⟨p,11,none⟩=some (.int .i64 x.ce.c):=g.out.2.1 11 _ rfl;have aB:m.cell? ⟨u,11,none⟩=some (.int .i64 x.ce.c):=j.out.2.1 11 _ rfl;have am:m.cell? ⟨p,12,none⟩=some (.int .i64 x.ar.s):=g.out.2.1 12 _ rfl;have aC:m.cell? ⟨u,12,none⟩=some (.int .i64 x.ar.s):=j.out.2.1 12 _ rfl;have an:m.cell? ⟨p,13,none⟩=some (.int .i64 x.ar.t):=g.out.2.1 13 _ rfl;have aD:m.cell? ⟨u,13,none⟩=some (.int .i64 x.ar.t):=j.out.2.1 13 _ rfl;have ao:m.cell? ⟨p,14,none⟩=some (.int .i64 x.ar.l):=g.out.2.1 14 _ rfl;have aE:m.cell? ⟨u,14,none⟩=some (.int .i64 x.ar.l):=j.out.2.1 14 _ rfl;have ap:m.cell? ⟨p,15,none⟩=some (.int .i64 x.ar.b):=g.out.2.1 15 _ rfl;have aF:m.cell? ⟨u,15,none⟩=some (.int .i64 x.ar.b):=j.out.2.1 15 _ rfl;have aq:m.cell? ⟨p,16,none⟩=some (.int .i64 x.ar.r):=g.out.2.1 16 _ rfl;have aG:m.cell? ⟨u,16,none⟩=some (.int .i64 x.ar.r):=j.out.2.1 16 _ rfl;have au:m.cell? ⟨p,17,none⟩=some (.int .i64 x.pr.s):=g.out.2.1 17 _ rfl;have aH:m.cell? ⟨u,17,none⟩=some (.int .i64 x.pr.s):=j.out.2.1 17 _ rfl
    have av:m.cell? ⟨p,18,none⟩=some (.int .i64 x.pr.t):=g.out.2.1 18 _ rfl;have aI:m.cell? ⟨u,18,none⟩=some (.int .i64 x.pr.t):=j.out.2.1 18 _ rfl;have aw:m.cell? ⟨p,19,none⟩=some (.int .i64 x.pr.l):=g.out.2.1 19 _ rfl;have aJ:m.cell? ⟨u,19,none⟩=some (.int .i64 x.pr.l):=j.out.2.1 19 _ rfl;have ax:m.cell? ⟨p,20,none⟩=some (.int .i64 x.pr.b):=g.out.2.1 20 _ rfl;have aK:m.cell? ⟨u,20,none⟩=some (.int .i64 x.pr.b):=j.out.2.1 20 _ rfl;have ay:m.cell? ⟨p,21,none⟩=some (.int .i64 x.pr.r):=g.out.2.1 21 _ rfl;have aL:m.cell? ⟨u,21,none⟩=some (.int .i64 x.pr.r):=j.out.2.1 21 _ rfl;have az:m.cell? ⟨p,22,none⟩=some (.slice R N F):=g.out.2.1 22 _ rfl;have aM:m.cell? ⟨u,22,none⟩=some (.slice T P M):=j.out.2.1 22 _ rfl;have IZ:=zPC tl (.slice R N F) (.slice T P M) m (aa.out.1.below X.out) (aa.out.2.1.below X.out) aa.out.2.2;have ac:=hid (QA HB.out X.out);clear g j X aa HB g1 g2;go_upto_region 7 with fail
    go_wp2_with fail
    refine IZ.mono ?_;rintro e w2 ⟨rfl,ad⟩;have ag:=hid (QA ac.out ad);clear IZ ad ac;go_wp2_with fail
    go_roundg (n - (i+1))
    case rel=>exact ⟨i+1,sM,rfl,ae,ag⟩
    case measure=>omega
  ·have ah:¬ (i:Int)<(n:Int):=oM;go_wp2;go_ret;exact ⟨rfl,HB.out⟩
theorem zMr (A:List Wpl.Ar) (x z:vW) (w:wW) (D:RdA w x A) (F:RdA w z A) (M:A.length<=2000000):CR 27 #[x,z] w (.bool true):=by
 obtain ⟨S,X,rfl,t⟩:=D;obtain ⟨T,c2,rfl,v⟩:=F;have B:=hid t;have C:=hid v;obtain ⟨n,l⟩:=xV A.length
 have f:Hid (A.length=n/\n<=2000000):=⟨l,oM⟩
 rw [l];clear t v l M;go_enter func27,ntmps27;go_wp2_with fail
 go_loopg [5] n (λgk u wr=>∃ i:Nat,u=.int .i64 i/\gk=n - i/\i<=n/\Hid (bL w wr))
 case atStart=>exact ⟨0,rfl,rfl,eZ _,bZ _ _⟩
 case round =>
  obtain ⟨i,rfl,hg,hi,g⟩:=hrel;by_cases c:i<n
  ·have j:(i:Int)<(n:Int):=oM;have K:(0:Int)<=(i:Int):=oM;have N:IntKind.i64.wrap ((i:Int)+1)=(i:Int)+1:=by rw [cZ];have:=f.out.2;omega
   obtain ⟨b1,P,rfl,m⟩:=B.out i (by rw [f.out.1];exact c);obtain ⟨b2,R,rfl,p⟩:=C.out i (by rw [f.out.1];exact c);obtain ⟨y,r⟩:∃ y,A[i]'(by rw [f.out.1];exact c)=y:=⟨_,rfl⟩
   rw [r] at m p;have d:=QG g.out m;have e:=QG g.out p;have p0:wr.cell? ⟨b1,P+i * 5,none⟩=some (.int .i64 y.s):=d 0 _ rfl;have p1:=d 1 _ rfl;have p2:=d 2 _ rfl;have p3:=d 3 _ rfl;have p4:=d 4 _ rfl;have q0:wr.cell? ⟨b2,R+i * 5,none⟩=some (.int .i64 y.s):=e 0 _ rfl;have m:=e 1 _ rfl;have p:=e 2 _ rfl;have q3:=e 3 _ rfl;have q4:=e 4 _ rfl;clear d e r;go_upto_region 6 with fail
   go_quiet (fail)
   go_wp2_with fail
   go_roundg (n - (i+1))
   case rel=>exact ⟨i+1,sM,rfl,c,Ql g.out _⟩
   case measure=>omega
  ·have j:¬ (i:Int)<(n:Int):=oM;go_wp2;go_ret;exact ⟨rfl,g.out⟩
open Go.RowKit Wf
structure AlS (w:wW) (ba ma la:Nat) (na:Option dW) (ka:Nat) (va:Int) (G:List (Wpl.Cl × Ce)) (bb mb lb:Nat) (nb:Option dW) (kb:Nat) (vb:Int) (H:List (Wpl.Cl × Ce)) (W:wW):Prop where
 bl:bL w W
 a:BK W ba ma la na ka [sS,sT] va G
 b:BK W bb mb lb nb kb [sS,sT] vb H
 e:BEnv W
section
variable {w:wW} {ba ma la:Nat} {na:Option dW} {ka:Nat} {va:Int} {G:List (Wpl.Cl × Ce)} {bb mb lb:Nat} {nb:Option dW} {kb:Nat} {vb:Int} {H:List (Wpl.Cl × Ce)}
theorem AlS.below {W d:wW} (h:AlS w ba ma la na ka va G bb mb lb nb kb vb H W) (c:bL W d):AlS w ba ma la na ka va G bb mb lb nb kb vb H d:=⟨QA h.bl c,h.a.below c,h.b.below c,h.e.below c⟩
def Vo (K:List Wpl.Cl) (s:Int):Nat:=if s=0 then 0 else if s=1 then (clS 0 K).length else (clS 0 K).length+(clS 1 K).length
theorem zOX {rs:Ch->List I ⊕ (Int × Int)} (af:Vr [sS,sT] rs) (h:AlS w ba ma la na ka va G bb mb lb nb kb vb H w) (X:GOk 2 rs G) (hH:GOk 2 rs H) (hS:SmE G H) (hl:G.length<=1000000) :
  CR 10 #[.pointer (some ⟨ba,0,none⟩),.pointer (some ⟨bb,0,none⟩)] w (.bool true):=by
 have M:Hid (H.length=G.length/\(∀ s,clS s (ksB H)=clS s (ksB G))/\(clS 0 (ksB G)).length+(clS 1 (ksB G)).length=G.length/\G.length<=1000000/\KB G/\KB H):=⟨(hS.len X hH).symm,λs=>(hS.cl X hH s).symm,zM2 X,hl,X.1,hH.1⟩
 have ag:Hid (∀ x,∃ e,gtE x G=e/\gtE x H=e/\e.t.size<=1000000000000000/\e.c.length<=1000000/\(∀ p ∈ e.c,TI 1000000 p)/\(usA e.c).length<=2000000):=λx=>by
  obtain ⟨h1,h2,h3⟩:=zPs af (nm:=[sS,sT]) X x;exact ⟨_,rfl,(hS x).symm,h1,h2,h3,zOH _ h2⟩
 have d:=h;clear h af X hH hS hl;go_enter func10,ntmps10;go_wp2_with fail
 refine (zIB d.a).mono ?_;rintro en w1 ⟨rfl,f⟩;replace d:=d.below f
 clear f;go_wp2_with fail
 refine (zIB d.b).mono ?_;rintro en w2 ⟨rfl,f⟩;replace d:=d.below f
 rw [M.out.1];clear f;go_upto_region 5 with fail
 go_loopg [5,6] 2 (λgk y x wr=>∃ s:Int,x=.int .i64 s/\y=.int .i64 (Vo (ksB G) s:Nat)/\(0<=s/\s<=2/\gk=(2 - s).toNat)/\AlS w ba ma la na ka va G bb mb lb nb kb vb H wr)
 case atStart=>exact ⟨0,rfl,rfl,⟨oM,oM,rfl⟩,d⟩
 case round =>
  clear d;obtain ⟨s,rfl,rfl,hs,d⟩:=hrel;generalize T:wr=W at *;clear T;go_wp2_with fail
  refine (zKF ba ma la na ka [sS,sT] va G W d.a dM (λ_=>by decide)).mono ?_;rintro en w3 ⟨⟨sa,sc,rfl⟩,f⟩;replace d:=d.below f
  clear f;by_cases ad:s<2
  ·have al:IntKind.i64.wrap (s+1)=s+1:=by rw [cZ];omega
   have ai:s<(([sS,sT]:List ByteArray).length:Int):=ad;go_upto_region 7 with fail
   go_wp2_with fail
   refine (zCT d.a M.out.2.2.2.2.1 M.out.2.2.2.1 s).mono ?_;rintro en w4 ⟨⟨xa,xc,rfl,ae,_⟩,f⟩;replace d:=d.below f
   have B:=hid ae;clear f ae;go_wp2_with fail
   refine (zCT d.b M.out.2.2.2.2.2 (by rw [M.out.1];exact M.out.2.2.2.1) s).mono ?_;rintro en w5 ⟨⟨ya,yc,rfl,R,_⟩,f⟩;replace d:=d.below f
   replace B:=hid (B.out.below f)
   rw [M.out.2.1] at R ⊢;obtain ⟨m,hm⟩:=xV ((clS s (ksB G)).length)
   have HM:Hid ((clS s (ksB G)).length=m/\m<=1000000/\Vo (ksB G) s+m=Vo (ksB G) (s+1)/\Vo (ksB G) s<=1000000):=by
    have h3:=M.out.2.2.1;have h4:=M.out.2.2.2.1;unfold Vo;by_cases h0:s=0
    ·subst h0;rw [if_pos rfl,if_neg dM,if_pos dM];exact ⟨hm,oM,oM,oM⟩
    ·have h1:s=1:=oM;subst h1;rw [if_neg dM,if_pos rfl,if_neg dM,if_neg dM];exact ⟨hm,oM,oM,oM⟩
   rw [hm];have CZ:=zO5 (clS s (ksB G)) xa ya m xc yc w5 B.out R hm (λ_=>HM.out.2.1);clear f R hm;go_wp2_with fail
   refine CZ.mono ?_;rintro en w6 ⟨rfl,f⟩;replace d:=d.below f
   replace B:=hid (B.out.below f)
   clear f CZ;have an:IntKind.i64.wrap (((Vo (ksB G) s:Nat):Int)+(m:Int))=((Vo (ksB G) (s+1):Nat):Int):=by have:=HM.out;rw [cZ];omega
   go_upto_region 12 with fail
   generalize aj:w6=W6 at *;clear aj;have HO:=hid d.bl;replace d:AlS W6 ba ma la na ka va G bb mb lb nb kb vb H W6:=⟨bZ _ _,d.a,d.b,d.e⟩
   go_loopg [9] m (λgk x wr=>∃ i:Nat,x=.int .i64 (i:Int)/\gk=m - i/\Hid (i<=m)/\AlS W6 ba ma la na ka va G bb mb lb nb kb vb H wr)
   case atStart=>exact ⟨0,rfl,rfl,eZ _,d⟩
   case round =>
    clear d;obtain ⟨i,rfl,hg,HI,d⟩:=hrel;generalize T:wr=P at *;clear T;by_cases ac:i<m
    ·have ah:(i:Int)<(m:Int):=oM;have ak:(0:Int)<=(i:Int):=oM;have am:IntKind.i64.wrap ((i:Int)+1)=(i:Int)+1:=by have:=HM.out.2.1;rw [cZ];omega
     obtain ⟨x,hx⟩:∃ x,(clS s (ksB G))[i]? = some x:=⟨(clS s (ksB G))[i]'(by rw [HM.out.1];exact ac),dZ _⟩
     obtain ⟨g,e1,A⟩:=B.out.below d.bl i x hx;subst e1;have j0:P.cell? ⟨g,i * 3,none⟩=some (.int .i64 x.s):=A 0 _ rfl;have j1:P.cell? ⟨g,i * 3+1,none⟩=some (.int .i64 x.r):=A 1 _ rfl;have j2:P.cell? ⟨g,i * 3+2,none⟩=some (.int .i64 x.c):=A 2 _ rfl;obtain ⟨e,he⟩:=ag.out x;have v:=hid he;have aa:=QJ (bZ _ P) (.cells #[.int .i64 x.s,.int .i64 x.r,.int .i64 x.c] 36);have l:=AtL.f3 (AtL.new0 P 36 [.int .i64 x.s,.int .i64 x.r,.int .i64 x.c]);replace d:=d.below aa
     clear hx A he aa;go_upto_region 15 with fail
     clear j0 j1 j2;generalize P.alloc (.cells #[.int .i64 x.s,.int .i64 x.r,.int .i64 x.c] 36)=W5 at *;generalize P.heap.size=kc at *;have l:JI W5 kc (.int .i64 x.s) (.int .i64 x.r) (.int .i64 x.c):=l;have N:=(bZ W5.heap.size W5).drew;have ab:=λW=>zKj (Vi e.t) W
     simp only [vlV,vl6] at ab;refine wp_region_held_drew (S:=λW=>JI W kc (.int .i64 x.s) (.int .i64 x.r) (.int .i64 x.c)) kR (QH N l) (λj=>?_);replace l:=QH N l
     replace d:=d.below N
     clear N;generalize W5.drew=W6 at *;refine tkQ 0 ?_
     refine tkQ 1 ?_
     refine tkQ 3 ?_
     refine tkQ 4 ?_
     refine rdQ 2 (λK u=>?_);go_simp
     refine (zEC d.a x v.out.1).mono ?_;rintro en w6 ⟨rfl,f⟩;replace l:=QH f l
     replace d:=d.below f
     clear f;go_wp2_with fail
     refine hkQ u l (λj=>?_);clear u K
     refine rdQ 5 (λK u=>?_);go_simp
     refine (zEC d.b x v.out.2.1).mono ?_;rintro en w7 ⟨rfl,f⟩;replace l:=QH f l
     replace d:=d.below f
     clear f;go_wp2_with fail
     refine hkQ u l (λj=>?_);clear u K
     refine tkQ 6 ?_
     refine tkQ 7 ?_
     refine tkQ 8 ?_
     refine tkQ 9 ?_
     refine tkQ 11 ?_
     refine tkQ 12 ?_
     refine rdQ 10 (λK u=>?_);go_simp
     refine (zJY d.a x v.out.1 v.out.2.2.1).mono ?_;rintro en w8 ⟨rfl,f⟩;replace l:=QH f l
     replace d:=d.below f
     clear f;go_wp2_with fail
     refine hkQ u l (λj=>?_);clear u K
     refine rdQ 13 (λK u=>?_);go_simp
     refine (zJY d.b x v.out.2.1 v.out.2.2.1).mono ?_;rintro en w9 ⟨rfl,f⟩;replace l:=QH f l
     replace d:=d.below f
     clear f;go_wp2_with fail
     refine hkQ u l (λj=>?_);clear u K
     refine tkQ 14 ?_
     refine tkQ 15 ?_
     refine tkQ 16 ?_
     refine tkQ 17 ?_
     refine tkQ 18 ?_
     refine tkQ 20 ?_
     refine tkQ 21 ?_
     refine rdQ 19 (λK u=>?_);go_simp
     refine (zFT d.a x v.out.1 v.out.2.2.1 d.e.1.2.1).mono ?_;rintro en ao ⟨rfl,f⟩;replace l:=QH f l
     replace d:=d.below f
     clear f;go_wp2_with fail
     refine hkQ u l (λj=>?_);clear u K
     refine rdQ 22 (λK u=>?_);go_simp
     refine (zFT d.b x v.out.2.1 v.out.2.2.1 d.e.1.2.1).mono ?_;rintro en ap ⟨rfl,f⟩;replace l:=QH f l
     replace d:=d.below f
     clear f;go_wp2_with fail
     refine hkQ u l (λj=>?_);clear u K
     refine tkQ 23 ?_
     refine tkQ 24 ?_
     refine tkQ 25 ?_
     refine tkQ 26 ?_
     refine tkQ 27 ?_
     refine tkQ 29 ?_
     refine tkQ 30 ?_
     refine rdQ 28 (λK u=>?_);go_simp
     refine (zHS d.a x v.out.1 v.out.2.2.2.1 v.out.2.2.2.2.1).mono ?_;rintro en aq ⟨⟨u1,rfl,D⟩,f⟩;have z:=hid D;clear D;replace l:=QH f l
     replace d:=d.below f
     clear f;go_wp2_with fail
     refine hkQ u l (λj=>?_);clear u K
     refine rdQ 31 (λK u=>?_);go_simp
     refine (zHS d.b x v.out.2.1 v.out.2.2.2.1 v.out.2.2.2.2.1).mono ?_;rintro en ar ⟨⟨u2,rfl,F⟩,f⟩;have C:=hid F;replace z:=hid (z.out.below f)
     clear F;replace l:=QH f l
     replace d:=d.below f
     clear f;go_wp2_with fail
     refine hkQ u l (λj=>?_);clear u K
     refine rdQ 32 (λK u=>?_);go_simp
     refine (zOu _ u1 u2 _ z.out C.out v.out.2.2.2.1 (λp hp=>(v.out.2.2.2.2.1 p hp).1)).mono ?_;rintro en au ⟨rfl,f⟩;clear z C;replace l:=QH f l
     replace d:=d.below f
     clear f;go_wp2_with fail
     refine hkQ u l (λj=>?_);clear u K
     refine tkQ 33 ?_
     refine tkQ 34 ?_
     refine tkQ 35 ?_
     refine tkQ 36 ?_
     refine tkQ 37 ?_
     refine tkQ 39 ?_
     refine tkQ 40 ?_
     refine rdQ 38 (λK u=>?_);go_simp
     refine (zHE d.a x v.out.1 d.e.2.1 v.out.2.2.2.1 v.out.2.2.2.2.1).mono ?_;rintro en av ⟨⟨u3,rfl,D⟩,f⟩;have z:=hid D;clear D;replace l:=QH f l
     replace d:=d.below f
     clear f;go_wp2_with fail
     refine hkQ u l (λj=>?_);clear u K
     refine rdQ 41 (λK u=>?_);go_simp
     refine (zHE d.b x v.out.2.1 d.e.2.1 v.out.2.2.2.1 v.out.2.2.2.2.1).mono ?_;rintro en aw ⟨⟨u4,rfl,F⟩,f⟩;have C:=hid F;replace z:=hid (z.out.below f)
     clear F;replace l:=QH f l
     replace d:=d.below f
     clear f;go_wp2_with fail
     refine hkQ u l (λj=>?_);clear u K
     refine rdQ 42 (λK u=>?_);go_simp
     refine (zMr _ u3 u4 _ z.out C.out v.out.2.2.2.2.2).mono ?_;rintro en ax ⟨rfl,f⟩;clear z C;replace l:=QH f l
     replace d:=d.below f
     clear f;go_wp2_with fail
     refine hkQ u l (λj=>?_);clear u K
     refine tkQ 43 ?_
     refine tkQ 44 ?_
     refine wpAnyH_done kR ?_ _;clear j l ab;go_wp2_with fail
     go_roundg (m - (i+1))
     case rel=>exact ⟨i+1,sM,rfl,ac,d⟩
     case measure=>omega
    ·have ah:¬ (i:Int)<(m:Int):=oM;go_wp2_with fail
     go_roundg (2 - (s+1)).toNat
     case rel=>exact ⟨s+1,rfl,rfl,⟨oM,oM,rfl⟩,⟨QA HO.out d.bl,d.a,d.b,d.e⟩⟩
     case measure=>omega
  ·have ai:¬ s<(([sS,sT]:List ByteArray).length:Int):=ad;have e2:s=2:=oM;have hp:Vo (ksB G) s=G.length:=by
    rw [e2];unfold Vo;rw [if_neg dM,if_neg dM];exact M.out.2.2.1
   rw [hp];go_wp2_with fail
   refine (zIB d.a).mono ?_;rintro en w9 ⟨rfl,f⟩;have HE:=hid (QA d.bl f);clear f d;go_wp2;go_ret;exact ⟨sM,HE.out⟩
end
open Go.RowKit Wf
theorem Ve (a b c:Int) (w:wW):(Instr.field 30 (.agg #[.int .i64 a,.int .i64 b,.int .i64 c]) 0).run prog w=.ok (.int .i64 a) w:=kR
theorem zOT (w:wW) (a:Ch):RdH (w.alloc (.cells #[.int .i64 a.x.s,.int .i64 a.x.r,.int .i64 a.x.c,.string a.t] 38)) (some ⟨w.heap.size,0,none⟩) [a]:=by
 have q:=(AtL.new0 w 38 [.int .i64 a.x.s,.int .i64 a.x.r,.int .i64 a.x.c,.string a.t]).range;intro i b d;cases i with
 | zero =>
  simp only [jZ,Option.some.injEq] at d;subst d;exact ⟨w.heap.size,0,rfl,q⟩
 | succ i=>simp at d
theorem zKl (j:Vr [sS,sT] rs) {w:wW} {bb mb lo:Nat} {na:Option dW} {nk:Nat} {ver:Int} {H:List (Wpl.Cl × Ce)} (u:BEnv w) (h:BK w bb mb lo na nk [sS,sT] ver H) {a:Ch} {C:List I} (c:Jh 2 a.x=true) (D:rs a=.inl C) (F:a.t.size<=1000000000000000) (v:GOk 2 rs H) (B:H.length<4096) (K:0<=ver/\ver<=1000000000) {g:Nat} (f:RdH w (some ⟨g,0,none⟩) [a]) (N:g ≠ mb) :
  cW prog 9 #[.pointer (some ⟨bb,0,none⟩),.slice (some ⟨g,0,none⟩) 1 1] w λe w'=>∃ H',e=.returned (.agg #[.int .i64 0,.int .i64 0,.int .i64 0])/\BK w' bb mb lo na nk [sS,sT] (ver+1) H'/\Fr [bb,mb] w w'/\EdAcc 2 rs H [a] H':=by
 refine Calls.mono (zFy bb mb lo na nk [sS,sT] rs j ver H _ 1 1 [a] w u h f rfl v oM K (λM o e=>by simp only [Option.some.injEq,Addr.mk.injEq] at e;omega) (λb c=>by rw [cY] at c;rw [c];exact F)) ?_;rintro e w' ⟨r,z,d,rfl,m,A⟩;rcases z with ⟨l,_⟩ | ⟨p,s,_,_,y⟩
 ·rw [d] at l;exact absurd (zOL ver c D B) l
 ·rw [s] at m;exact ⟨r.2.2,by rw [p],m,A,y⟩
def DsB (w:wW) (ba ma:Nat) (na:Option dW) (bb mb:Nat) (nb:Option dW) (lo:Nat):Prop:=(w.heap.size<=ba/\w.heap.size<=ma/\w.heap.size<=bb/\w.heap.size<=mb)/\(∀ k ∈ [ba,ma],k<lo/\k ≠ bb/\k ≠ mb/\∀ g o,nb=some ⟨g,o,none⟩->k ≠ g)/\∀ k ∈ [bb,mb],k<lo/\k ≠ ba/\k ≠ ma/\∀ g o,na=some ⟨g,o,none⟩->k ≠ g
def PaS (rs:Ch->List I ⊕ (Int × Int)) (E:List (List Ch)) (w:wW) (ba ma:Nat) (na:Option dW) (ka bb mb:Nat) (nb:Option dW) (kb lo i q:Nat) (W:wW):Prop :=
 ∃ va G H,bL w W/\(BK W ba ma lo na ka [sS,sT] va G/\BK W bb mb lo nb kb [sS,sT] (q:Int) H)/\(GOk 2 rs G/\GOk 2 rs H/\SmE G H)/\2 * G.length<=wtE (E.take i)/\(0<=va/\va<=(i:Int))/\q<=wtE (E.take i)
def PaT (rs:Ch->List I ⊕ (Int × Int)) (G G':List (Wpl.Cl × Ce)) (L:List Ch) (Q:Nat) (va:Int) (w:wW) (ba ma:Nat) (na:Option dW) (ka bb mb:Nat) (nb:Option dW) (kb lo k q:Nat) (W:wW):Prop :=
 ∃ H,bL w W/\(BK W ba ma lo na ka [sS,sT] va G'/\BK W bb mb lo nb kb [sS,sT] (q:Int) H)/\GOk 2 rs H/\(∀ a ∈ L.drop k,gtE a.x H=gtE a.x G')/\(∀ y,(∀ a ∈ L.drop k,a.x ≠ y)->gtE y H=gtE y G)/\2 * H.length+(k+szH (L.take k))<=Q/\q+k<=Q
section
variable {rs:Ch->List I ⊕ (Int × Int)} {E:List (List Ch)} {G G':List (Wpl.Cl × Ce)} {L:List Ch} {Q:Nat} {va:Int} {w W:wW} {ba ma:Nat} {na:Option dW} {ka bb mb:Nat} {nb:Option dW} {kb lo k q i:Nat}
theorem PaS.below (h:PaS rs E w ba ma na ka bb mb nb kb lo i q W) {d:wW} (c:bL W d):PaS rs E w ba ma na ka bb mb nb kb lo i q d:=by
 obtain ⟨va,G,H,f,e,g⟩:=h;exact ⟨va,G,H,QA f c,⟨e.1.below c,e.2.below c⟩,g⟩
theorem PaT.below (h:PaT rs G G' L Q va w ba ma na ka bb mb nb kb lo k q W) {d:wW} (c:bL W d):PaT rs G G' L Q va w ba ma na ka bb mb nb kb lo k q d:=by
 obtain ⟨H,f,e,g⟩:=h;exact ⟨H,QA f c,⟨e.1.below c,e.2.below c⟩,g⟩
theorem PaT.bl (h:PaT rs G G' L Q va w ba ma na ka bb mb nb kb lo k q W):bL w W/\lo<=W.heap.size/\q+k<=Q:=by
 obtain ⟨_,c,⟨d,_⟩,_,_,_,_,e⟩:=h;exact ⟨c,d.lt.2.2,e⟩
theorem PaT.lay (s:Vr [sS,sT] rs) (d:EdAcc 2 rs G L G') (hQ:Q<=6000) (v:DsB w ba ma na bb mb nb lo) (h:PaT rs G G' L Q va w ba ma na ka bb mb nb kb lo (k+1) q W) (T:BEnv W) {a:Ch} (m:L[k]? = some a) (X:a.t.size<=1000000000000000) {g:Nat} (r:RdH W (some ⟨g,0,none⟩) [a]) (hg:lo<=g) :
  cW prog 9 #[.pointer (some ⟨bb,0,none⟩),.slice (some ⟨g,0,none⟩) 1 1] W λe w'=>e=.returned (.agg #[.int .i64 0,.int .i64 0,.int .i64 0])/\PaT rs G G' L Q va w ba ma na ka bb mb nb kb lo k (q+1) w':=by
 obtain ⟨H,K,⟨M,c⟩,N,P,R,h6,h7⟩:=h;obtain ⟨n1,C,B,n3⟩:=d.new a (gZ m);refine Calls.mono (zKl s T c n1 B X N oM ⟨oM,oM⟩ r (by have:=c.lt;omega)) ?_;rintro e w' ⟨j,rfl,j1,A,f⟩;have hd:L.drop k=a::L.drop (k+1):=by
  obtain ⟨p,e⟩:=List.getElem?_eq_some_iff.1 m;rw [List.drop_eq_getElem_cons p,e]
 obtain ⟨_,C',l,D⟩:=f.new a (List.mem_singleton.2 rfl);have S:gtE a.x j=gtE a.x G':=by
  rw [B] at l;simp only [Sum.inl.injEq] at l;rw [D,n3,l]
 have z:∀ y,a.x ≠ y->gtE y j=gtE y H:=λy hy=>f.old y (λb hb=>by rw [cY] at hb;rw [hb];exact hy)
 refine ⟨rfl,j,(Fr.new (Fr.of_below [] K) A (λk p=>nZ (by have:=v.1;simp at p;omega))).to_below sM,⟨M.fr A v.2.2,?_⟩,f.ok,λb hb=>?_,λy hy=>?_,?_,oM⟩
 ·have e:((q+1:Nat):Int)=(q:Int)+1:=oM;rw [e];exact j1
 ·rw [hd] at hb;by_cases u:a.x=b.x
  ·rw [<-u];exact S
  ·rw [z _ u];rcases List.mem_cons.1 hb with rfl | hb
   ·exact absurd rfl u
   ·exact P b hb
 ·rw [hd] at hy;rw [z y (hy a (bY ..))];exact R y (λb hb=>hy b (qZ _ hb))
 ·have:=f.len;have e:=zLQ m;have F:szH [a]=a.t.size:=by simp [szH]
  rw [F] at this;simp only [List.length_cons,List.length_nil] at this;omega
theorem PaT.done (c:EdAcc 2 rs G L G') (h:PaT rs G G' L (wtE (E.take (i+1))) va w ba ma na ka bb mb nb kb lo 0 q W) (s:2 * G'.length<=wtE (E.take (i+1))) (t:0<=va/\va<=((i+1:Nat):Int)):PaS rs E w ba ma na ka bb mb nb kb lo (i+1) q W:=by
 obtain ⟨H,m,p,r,f,g,u,v⟩:=h;refine ⟨va,G',H,m,p,⟨c.ok,r,λy=>?_⟩,s,t,oM⟩;rw [xZ] at f g;by_cases l:∃ a ∈ L,a.x=y
 ·obtain ⟨a,d,rfl⟩:=l;exact (f a d).symm
 ·have j:∀ a ∈ L,a.x ≠ y:=λa d e=>l ⟨a,d,e⟩
  rw [g y j,c.old y j]
theorem PaS.edit (C:Vr [sS,sT] rs) (z:DsB w ba ma na bb mb nb lo) (h:PaS rs E w ba ma na ka bb mb nb kb lo i q W) (X:BEnv W) (M:E[i]? = some L) (hw:E.length+wtE E<=6000) {j:Option dW} {l cap:Nat} (hl:L.length=l) (hr:RdH W j L) (A:∀ g o,j=some ⟨g,o,none⟩->lo<=g) (hs:∀ a ∈ L,a.t.size<=1000000000000000) :
  cW prog 9 #[.pointer (some ⟨ba,0,none⟩),.slice j l cap] W λe w'=>∃ c x y,e=.returned (.agg #[.int .i64 c,.int .i64 x,.int .i64 y])/\((c ≠ 0/\PaS rs E w ba ma na ka bb mb nb kb lo (i+1) q w') \/ (c=0/\∃ va G G',EdAcc 2 rs G L G'/\PaT rs G G' L (wtE (E.take (i+1))) va w ba ma na ka bb mb nb kb lo l q w'/\2 * G'.length<=wtE (E.take (i+1))/\0<=va/\va<=((i+1:Nat):Int))):=by
 obtain ⟨va,G,H,S,⟨F,f⟩,⟨s,u,v⟩,h6,K,h8⟩:=h;have h9:=zPS E i;have T:=zFK M;have hi:i<E.length:=(List.getElem?_eq_some_iff.1 M).1;refine Calls.mono (zFy ba ma lo na ka [sS,sT] rs C va G j l cap L W X F hr hl s oM ⟨K.1,oM⟩ (λg o e=>by have:=A g o e;have:=F.lt;omega) hs) ?_;rintro e w' ⟨r,hc,_,rfl,d,B⟩;have P:=(Fr.new (Fr.of_below [] S) B (λk d=>nZ (by have:=z.1;simp at d;omega))).to_below sM;refine ⟨_,_,_,rfl,?_⟩;rcases hc with ⟨m,p,_⟩ | ⟨m,p,_,_,D⟩
 ·rw [p] at d;exact wZ ⟨m,va,G,H,P,⟨d,f.fr B z.2.1⟩,⟨s,u,v⟩,oM,⟨K.1,oM⟩,oM⟩
 ·rw [p] at d;have R:=D.len;have aa:=v.len s u;refine nZ ⟨by rw [m],va+1,G,r.2.2,D,⟨H,P,⟨d,f.fr B z.2.1⟩,u,λa N=>?_,λy _=>(v y).symm,?_,oM⟩,oM,oM,oM⟩
  ·rw [List.drop_eq_nil_of_le oM] at N;cases N
  ·rw [List.take_of_length_le oM];omega
end
theorem zq0 (E:List (List Ch)) (av:Option dW) (n cap:Nat) (w:wW) (hE:BEnv w) (hr:RdE w av E) (hn:E.length=n) (hN:True->n<=1000000000000000) (hL:∀ L ∈ E,L.length<=1000000000000000/\∀ a ∈ L,a.t.size<=1000000000000000) :
  CR 4 #[.slice av n cap] w (.bool true):=by
 obtain ⟨rs,aD⟩:=zQ3 [sS,sT] dM;have ad:=hid aD;have A:=hid (And.intro hE (And.intro hr (And.intro hn hL)));clear hE hr hn hL aD;go_enter func4,ntmps4;go_upto_region 1 with fail
 go_wp2_with fail
 refine (zPX w A.out.1).mono ?_;rintro e w1 ⟨rfl,ar⟩;have D:=hid ar;clear ar;go_wp2_with fail
 refine (zPJ E av n cap w1 (A.out.2.1.below D.out) A.out.2.2.1 hN A.out.2.2.2).mono ?_;rintro e w2 ⟨⟨b,rfl,hb⟩,rfl⟩;cases b with
 | true =>
  go_wp2;go_ret;exact ⟨rfl,D.out⟩
 | false =>
  have HW:=hid (hb rfl);have d:=QJ (bZ _ w1) (.cells #[.string sS,.string sT] 9);have NW:=zJd w1.heap.size (w1.alloc (.cells #[.string sS,.string sT] 9)) ((A.out.1.below D.out).1.1.below d) (zEw w1);have C:=hid (QA D.out d);have B:=hid d.size;clear hb d;go_wp2_with fail
  refine NW.mono ?_;rintro e w3 ⟨ba,ma,na,ka,rfl,ax,au,aJ,aN,aA⟩;have ac:=hid (QA C.out au);have HA:=hid ax;have an:Hid (w1.heap.size<=ba/\w1.heap.size<=ma/\∀ g o,na=some ⟨g,o,none⟩->g<w3.heap.size):=⟨by have:=B.out;omega,by have:=B.out;omega,λg o e=>(aA g o e).2⟩
  have d:=QJ (bZ _ w3) (.cells #[.string sS,.string sT] 9);clear NW ax au aJ aN aA C B;have NW:=zJd w3.heap.size (w3.alloc (.cells #[.string sS,.string sT] 9)) ((A.out.1.below ac.out).1.1.below d) (zEw w3);have C:=hid (QA ac.out d);have al:=hid (HA.out.below d);have B:=hid d.size;clear d;go_wp2_with fail
  refine NW.mono ?_;rintro e w4 ⟨bb,mb,nb,kb,rfl,ai,P,aK,aO,aB⟩;have HD:Hid (DsB w ba ma na bb mb nb w4.heap.size):=by
   obtain ⟨d1,d2,d3⟩:=an.out;have d4:=B.out;have d5:=HA.out.lt;have d6:=ai.lt;have d7:=D.out.size;have d8:=P.size;refine ⟨⟨oM,oM,oM,oM⟩,λk hk=>?_,λk hk=>?_⟩
   ·simp only [pZ,eY,or_false] at hk;exact ⟨oM,oM,oM,λg o e=>by have:=aB g o e;omega⟩
   ·simp only [pZ,eY,or_false] at hk;exact ⟨oM,oM,oM,λg o e=>by have:=d3 g o e;omega⟩
  have hP:PaS rs E w ba ma na ka bb mb nb kb w4.heap.size 0 0 w4:=by
   have K:=al.out.below P;have h0:GOk 2 rs []:=⟨by simp [KB],λp hp=>by cases hp⟩
   exact ⟨0,[],[],QA C.out P,⟨⟨K.hd,K.rs,K.kp,K.nb,by obtain ⟨F,m1,m2⟩:=K.mp;cases F with
    | nil=>exact ⟨[],m1,trivial⟩
    | cons _ _=>exact m2.elim,⟨(by have:=HD.out.2.1 ba sM;omega),(by have:=HD.out.2.1 ma sM;omega),oZ _⟩,K.ne⟩,ai⟩,⟨h0,h0,λ_=>rfl⟩,eZ _,⟨oM,oM⟩,eZ _⟩
  clear NW ai P aK aO aB C al B an HA ac;generalize w4.heap.size=lo at *;go_upto_region 9 with fail
  go_loopg [7,8] n (λgk y x wr=>∃ i q:Nat,x=.int .i64 (i:Int)/\y=.int .i64 (q:Int)/\gk=n - i/\Hid (i<=n)/\PaS rs E w ba ma na ka bb mb nb kb lo i q wr)
  case atStart=>exact ⟨0,0,rfl,rfl,rfl,eZ _,hP⟩
  case round =>
   clear hP;obtain ⟨i,q,rfl,rfl,hg,HI,HP⟩:=hrel;generalize ak:wr=W at *;clear ak;by_cases aj:i<n
   ·have aL:(i:Int)<(n:Int):=oM;have aT:(0:Int)<=(i:Int):=oM;have aX:n<=6000:=by have:=HW.out;have:=A.out.2.2.1;omega
    have aY:IntKind.i64.wrap ((i:Int)+1)=(i:Int)+1:=by rw [cZ];omega
    obtain ⟨L,hL⟩:∃ L,E[i]? = some L:=⟨E[i]'(by rw [A.out.2.2.1];exact aj),dZ _⟩
    have u:bL w W:=by
     obtain ⟨_,_,_,h,_⟩:=HP;exact h
    have aG:lo<=W.heap.size:=by
     obtain ⟨_,_,_,_,⟨h,_⟩,_⟩:=HP;exact h.lt.2.2
    obtain ⟨cb,a4,p,l,kk,e,T,aM,M,aP⟩:=A.out.2.1 i L hL;subst e;have aI:=hid M;have ao:=hid T;replace T:=QC u T
    replace M:=M.below u
    have aW:l<=6000:=by
     have h1:=zIP (gZ hL);have:=HW.out;omega
    have f:=hid (And.intro hL (And.intro aM ((A.out.2.2.2 L (gZ hL)).2)));have v:=QJ (bZ _ W) (.cells #[] 38);have oE:(W.alloc (.cells #[] 38)).ownsRow W.heap.size 38 4 (.slice (some ⟨W.heap.size,0,none⟩) 0 0) 0 []:=⟨rfl,nZ ⟨W.heap.size,0,#[],rfl,oZ _,(Go.MapKept.heap_alloc W _).1,oZ _,by unfold maxLen;omega,rfl,rfl⟩⟩
    have ab:=M.below v;have k2:=QC v T;have aE:W.heap.size<=(W.alloc (.cells #[] 38)).heap.size:=v.size;clear hL v T M;go_wp2_with (at_builtin;refine zGR rfl (.tmp 32) (.tmp 36) rfl (W.alloc (.cells #[] 38)) W.heap.size aE (.slice (some ⟨W.heap.size,0,none⟩) 0 0) rfl oE p l kk L f.out.2.1 rfl ab aP oM ?_;intro v3 w3 o3 aw)
    have ah:bL W w3:=(Fr.new (Fr.of_below [] (QJ (bZ _ W) (.cells #[] 38))) (Fr.of_grown (S:=[W.heap.size]) aw (λk e=>by cases e;simp)) (λk hk=>nZ (by simp at hk;omega))).to_below sM;rw [<-f.out.2.1] at o3;obtain ⟨a3,c3,rfl,aC,aq⟩:=zNv o3;rw [f.out.2.1];replace HP:=HP.below ah
    have ED:=PaS.edit (cap:=c3) ad.out HD.out HP (A.out.1.below (QA u ah)) f.out.1 HW.out f.out.2.1 aC (λg o e=>by have:=aq g o e;omega) f.out.2.2;clear o3 aw aC aq ah oE ab k2 aE HP aG u;go_wp2_with fail
    refine ED.mono ?_;rintro e w5 ⟨c,x,y,rfl,hc⟩;have af:=QJ (bZ _ w5) (.cells #[.int .i64 c,.int .i64 x,.int .i64 y] 30);have q6:=AtL.new0 w5 30 [.int .i64 c,.int .i64 x,.int .i64 y];have HC:Hid ((c ≠ 0/\PaS rs E w ba ma na ka bb mb nb kb lo (i+1) q (w5.alloc (.cells #[.int .i64 c,.int .i64 x,.int .i64 y] 30))) \/ (c=0/\∃ va G G',EdAcc 2 rs G L G'/\PaT rs G G' L (wtE (E.take (i+1))) va w ba ma na ka bb mb nb kb lo l q (w5.alloc (.cells #[.int .i64 c,.int .i64 x,.int .i64 y] 30))/\2 * G'.length<=wtE (E.take (i+1))/\0<=va/\va<=((i+1:Nat):Int))):=hc.imp (λ⟨h1,h2⟩=>⟨h1,h2.below af⟩) (λ⟨h1,va,G,G',h2,h3,h4⟩=>⟨h1,va,G,G',h2,h3.below af,h4⟩);clear ED hc af;go_upto_region 12 with fail
    generalize w5.alloc (.cells #[.int .i64 c,.int .i64 x,.int .i64 y] 30)=W6 at *;generalize w5.heap.size=rb at *;obtain ⟨j0,-,-,-⟩:=q6.three;clear q6;rcases HC.out with ⟨hc,hP⟩ | ⟨hc,va,G,G',aa,hT,ap,hv⟩
    ·clear HC;go_wp2_with fail
     go_roundg (n - (i+1))
     case rel=>exact ⟨i+1,q,sM,rfl,rfl,aj,hP⟩
     case measure=>omega
    ·subst hc;have N:=hid (And.intro aa (And.intro ap hv));have HQ:=hid (show wtE (E.take (i+1))<=6000 by have:=zPS E (i+1);have:=HW.out;omega);have T:=QC hT.bl.1 ao.out;have a0:IntKind.i64.wrap ((l:Int) - 1)=(l:Int) - 1:=by rw [cZ];omega
     clear HC aa ap hv;go_upto_region 14 with fail
     clear T j0;go_loopg [7,10] l (λgk y x wr=>∃ (k q':Nat) (z:Int),x=.int .i64 z/\y=.int .i64 (q':Int)/\gk=k/\Hid (k<=l/\z=(k:Int) - 1)/\PaT rs G G' L (wtE (E.take (i+1))) va w ba ma na ka bb mb nb kb lo k q' wr)
     case atStart=>exact ⟨l,q,_,rfl,rfl,rfl,⟨oZ _,rfl⟩,hT⟩
     case round =>
      clear hT;obtain ⟨k,q',z,rfl,rfl,aS,HK,X⟩:=hrel;generalize ak:wr=W7 at *;clear ak;by_cases hk:k=0
      ·have hz:z = -1:=by have:=HK.out.2;omega
       subst hz;have a2:¬ (0:Int) <= -1:=dM;have aH:=PaT.done N.out.1 (by rw [hk] at X;exact X) N.out.2.1 N.out.2.2;clear X;go_wp2_with fail
       go_roundg (n - (i+1))
       case rel=>exact ⟨i+1,q',sM,rfl,rfl,aj,aH⟩
       case measure=>omega
      ·obtain ⟨m,rfl⟩:∃ m,k=m+1:=⟨k - 1,oM⟩
       have hz:z=(m:Int):=by have:=HK.out.2;omega
       subst hz;have ay:m < l:=by have:=HK.out.1;omega
       have aU:(m:Int)<(l:Int):=oM;have aV:(0:Int)<=(m:Int):=oM;obtain ⟨R,az,aQ⟩:=X.bl;have a1:IntKind.i64.wrap ((q':Int)+1)=(q':Int)+1:=by have:=HQ.out;rw [cZ];omega
       have aZ:IntKind.i64.wrap ((m:Int) - 1)=(m:Int) - 1:=by rw [cZ];omega
       obtain ⟨a,K⟩:∃ a,L[m]? = some a:=⟨L[m]'(by rw [f.out.2.1];exact ay),dZ _⟩
       have T:=QC R ao.out;obtain ⟨pb,po,e,j⟩:=aI.out.below R m a K;subst e;have c0:W7.cell? ⟨pb,po+m * 4,none⟩=some (.int .i64 a.x.s):=j 0 _ rfl;have c1:W7.cell? ⟨pb,po+m * 4+1,none⟩=some (.int .i64 a.x.r):=j 1 _ rfl;have c2:W7.cell? ⟨pb,po+m * 4+2,none⟩=some (.int .i64 a.x.c):=j 2 _ rfl;have c3:W7.cell? ⟨pb,po+m * 4+3,none⟩=some (.string a.t):=j 3 _ rfl;have ag:=QJ (bZ _ W7) (.cells #[.int .i64 a.x.s,.int .i64 a.x.r,.int .i64 a.x.c,.string a.t] 38);have ED:=PaT.lay ad.out N.out.1 HQ.out HD.out (X.below ag) ((A.out.1.below R).below ag) K (f.out.2.2 a (gZ K)) (zOT W7 a) az;clear X R az aQ K j ag;go_wp2_with fail
       refine ED.mono ?_;rintro e w8 ⟨rfl,X⟩;have aR:=λw=>Ve 0 0 0 w
       clear ED T c0 c1 c2 c3;go_wp2_with fail
       go_roundg m
       case rel=>exact ⟨m,q'+1,_,rfl,sM,rfl,⟨by have:=HK.out.1;omega,rfl⟩,X⟩
       case measure=>omega
   ·have aL:¬ (i:Int)<(n:Int):=oM;obtain ⟨va,G,H,h1,⟨h2,ae⟩,⟨h3,h4,h5⟩,h6,_⟩:=HP;have AL:=zOX ad.out (w:=W) ⟨bZ _ _,h2,ae,A.out.1.below h1⟩ h3 h4 h5 (by have:=zPS E i;have:=HW.out;omega);have am:=hid ae;have u:=hid h1;clear h1 h2 ae h3 h4 h5 h6;go_wp2_with fail
    refine AL.mono ?_;rintro e w9 ⟨rfl,hb⟩;have VE:=zDP bb mb _ (q:Int) w9 (AtL.below hb am.out.hd);have aF:=hid (QA u.out hb);clear AL hb am u;go_wp2_with fail
    refine VE.mono ?_;rintro e a5 ⟨rfl,v⟩;have HE:=hid (QA aF.out v);clear VE v;go_wp2;go_ret;exact ⟨sM,HE.out⟩
open Go.ChangeShapes Go.WideShapes Go.ChangeAt Go.RowKit Go.Joins Go.Deep
theorem zPD:prog.cellsOf 36=3:=kR
theorem zRe:prog.cellsOf 38=4:=kR
theorem zQ0:prog.cellsOf 23=1:=kR
theorem zNs:prog.cellsOf 3=1:=kR
theorem zRE:prog.cellsOf 9=1:=kR
theorem zQ1:prog.bytesOf 38=40:=kR
theorem zP5:prog.bytesOf 23=24:=kR
section
variable {H:Type} {enc:TypeId × vW->H} {w:wW} {base:Nat} {spare:Nat->Bool} {held:Bool}
theorem zMG {f g j:Field} (D:prog.underlying 36=some (.struct #[f,g,j])) (N:f.offset=0) (S:f.type=3) (P:g.offset=1) (T:g.type=3) (R:j.offset=2) (X:j.type=3) {e:Nat} {u v z:vW} {x:DataW H × List MemPlace}
  (h:DataW.trod enc prog w base spare held e 36 [u,v,z]=some x):∃ y:Wpl.Cl,[u,v,z]=[Value.int .i64 y.s,.int .i64 y.r,.int .i64 y.c]:=by
 obtain ⟨C,q,_,hD,_,d,t⟩:=DataW.trod_struct D h;have d:C.length=3:=d;have l:=t 0 f rfl;rw [N,S,zNs] at l;have m:=t 1 g rfl;rw [P,T,zNs] at m;have p:=t 2 j rfl;rw [R,X,zNs] at p;match C,d with
 | [x0,x1,x2],_ =>
  simp only [xZ,yZ,gY,zZ,jZ,vZ] at l m p;obtain ⟨F,e0,_,_⟩:=DataW.trod_int underlying3 l;obtain ⟨K,A,_,_⟩:=DataW.trod_int underlying3 m;obtain ⟨M,B,_,_⟩:=DataW.trod_int underlying3 p;simp only [List.cons.injEq,and_true] at e0 A B;exact ⟨⟨F,K,M⟩,by rw [e0,A,B]⟩
theorem zKQ {e f:Field} (m:prog.underlying 38=some (.struct #[e,f])) (D:e.offset=0) (P:e.type=36) (F:f.offset=3) (r:f.type=9) {d:Nat} {cs:List vW} (C:cs.length=4) {x:DataW H × List MemPlace}
  (h:DataW.trod enc prog w base spare held d 38 cs=some x):∃ y:Ch,cs=chL y/\y.t.size ∈ x.1.weights prog 38:=by
 match cs,C with
 | [a0,a1,a2,a3],_ =>
  obtain ⟨u,q,_,B,_,c,p⟩:=DataW.trod_struct m h;have c:u.length=2:=c;have g:=p 0 e rfl;rw [D,P,zPD] at g;have j:=p 1 f rfl;rw [F,r,zRE] at j;match u,c with
  | [x0,x1],_ =>
   simp only [xZ,yZ,gY,zZ,jZ,vZ] at g j;obtain ⟨v,e0⟩:=zMG underlying36 rfl rfl rfl rfl rfl rfl g;obtain ⟨s,l,A,_⟩:=DataW.trod_string underlying9 j;simp only [List.cons.injEq,and_true] at e0 l;obtain ⟨K,M,N⟩:=e0;refine ⟨⟨v,s⟩,by rw [K,M,N,l];rfl,?_⟩;rw [B];simp only [hZ,tZ,DataW.weights,m,DataW.weightsEach,sZ,r];have z:x1.1=.lit (.string s.data.toList):=congrArg Prod.fst A;rw [z];simp only [DataW.weights,pZ];exact nZ (wZ (wZ rfl))
theorem zMN {α:Type} [Inhabited α] {m:Nat} {p:Nat->α->Prop} (h:∀ i,i<m->∃ v,p i v):∃ G:Nat->α,∀ i,i<m->p i (G i):=by
 classical
 refine ⟨λi=>if hi:i<m then Classical.choose (h i hi) else default,λi hi=>?_⟩;dsimp only;rw [dif_pos hi];exact Classical.choose_spec (h i hi)
theorem zBI (e:TypeId):∀ (l:List (DataW H)) (x:DataW H),x ∈ l->∀ n ∈ x.weights prog e,n ∈ DataW.weightsAll prog e l:=by
 intro l;induction l with
 | nil=>intro x hx;cases hx
 | cons y r d =>
  intro x hx n c;simp only [DataW.weightsAll,sZ];rcases List.mem_cons.1 hx with rfl | hx
  ·exact wZ c
  ·exact nZ (d x hx n c)
abbrev zRh:Inhabited Ch:=⟨⟨⟨0,0,0⟩,⟨#[]⟩⟩⟩
theorem zHx {s:Nat} {c:vW} {x:DataW H × List MemPlace} (h:DataW.trod enc prog w 0 (λ_=>true) true s 23 [c]=some x) :
  ∃ (p:Option dW) (m k:Nat) (L:List Ch),c=.slice p m k/\L.length=m/\RdH w p L/\(p=none->m=0/\k=0)/\(m=0 \/ ∃ n ∈ x.1.weights prog 23,m<=n)/\∀ a ∈ L,a.t.size ∈ x.1.weights prog 23:=by
 rcases open_slice underlying23 h with ⟨f,M⟩ | ⟨a,len,cap,m,n,D,Pl,f,hb,hl,hm,z,M,v⟩
 ·simp only [List.cons.injEq,and_true] at f;exact ⟨none,0,0,[],f,rfl,(λi a F=>by simp at F),λ_=>⟨rfl,rfl⟩,wZ rfl,λa F=>by cases F⟩
 ·simp only [List.cons.injEq,and_true] at f;simp only [if_true] at z;subst z;have r:∀ i,i<m->∃ y:Ch,(∀ j u,(chL y)[j]? = some u->w.cell? (a.add (i * 4+j))=some u)/\y.t.size ∈ (D i).weights prog 38:=by
   intro i g;obtain ⟨T,S,h2⟩:=v i g;rw [zRe] at S;obtain ⟨_,d,l⟩:=World.cells?_some S;obtain ⟨y,rfl,K⟩:=zKQ underlying38 rfl rfl rfl rfl d h2;refine ⟨y,λj u B=>?_,K⟩;have hj:j<4:=by
    have:=(List.getElem?_eq_some_iff.1 B).1;rw [d] at this;exact this
   have:=l j hj;rw [add_add] at this;rw [this,B]
  letI:=zRh
  obtain ⟨G,C⟩:=zMN r;have d:((iZ len).map G).length=len:=sM;have N:∀ i,i<len->∀ n ∈ (D i).weights prog 38,n ∈ x.1.weights prog 23:=λi g n hn=>by
   rw [M];simp only [DataW.weights,underlying23,pZ,sZ];exact nZ (wZ (zBI _ _ (D i) (List.mem_map.2 ⟨i,by simpa using g,rfl⟩) _ hn))
  refine ⟨some a,len,m,(iZ len).map G,f,d,λi y P=>?_,(λe=>by cases e),nZ ⟨(len+(m - len)) * 40,?_,oM⟩,λy P=>?_⟩
  ·obtain ⟨g,e⟩:=List.getElem?_eq_some_iff.1 P;rw [d] at g;have X:G i=y:=by simpa using e
   have s1:(a.add 0).spot=none:=World.cell?_spot ((C 0 oM).1 0 _ rfl);obtain ⟨b,R,A⟩:=a;obtain rfl:A=none:=s1;refine ⟨b,R,rfl,λj u B=>?_⟩;have:=(C i oM).1 j u (by rw [X];exact B);rw [add_plain] at this;rw [Nat.add_assoc];exact this
  ·rw [M];simp [DataW.weights,underlying23,zQ1]
  ·obtain ⟨i,g,rfl⟩:=List.mem_map.1 P;have g:=List.mem_range.1 g;exact N i g _ (C i oM).2
abbrev zRG:Inhabited (List Ch):=⟨[]⟩
theorem zIy {W:wW} {r:Reach} {b0:Nat} {v:vW} {d:DataW H} {p:List MemPlace}
  (hv:Value.okWide prog W r b0 22 v) (h:DataW.Trod enc prog W 0 (λ_=>true) true 22 v d p) :
  ∃ (E:List (List Ch)) (av:Option dW) (n cap:Nat),v=.slice av n cap/\RdE W av E/\E.length=n /\
   ∀ (C:List TypeId) (R:List (DataW H)) (j:Nat),(DataW.weightsEach prog C R).all (· <= reachBytes)=true->C[j]? = some 22->R[j]? = some d->n<=reachBytes/\∀ L ∈ E,L.length<=reachBytes/\∀ a ∈ L,a.t.size<=reachBytes:=by
 obtain ⟨a0,len,cap,rfl⟩:=okWide_slice underlying22 hv;obtain ⟨ad,hg⟩:=h;rcases open_slice underlying22 hg with ⟨g,F⟩ | ⟨a,ae,ac,m,n,D,Pl,g,hb,hl,hm,N,F,M⟩
 ·simp [Value.cells] at g;obtain ⟨rfl,rfl,rfl⟩:=g;exact ⟨[],none,0,0,rfl,(λi a ha=>by simp at ha),rfl,λ_ _ _ _ _ _=>⟨sM,λx F=>by cases F⟩⟩
 ·simp [Value.cells] at g;obtain ⟨rfl,rfl,rfl⟩:=g;simp only [if_true] at N;subst N;have K:∀ i,i<m->∃ L:List Ch,(∃ p u k,W.cell? (a.add i)=some (.slice p u k)/\L.length=u/\RdH W p L/\(p=none->u=0/\k=0))/\(L.length=0 \/ ∃ n ∈ (D i).weights prog 23,L.length<=n)/\∀ y ∈ L,y.t.size ∈ (D i).weights prog 23:=by
   intro i B;obtain ⟨T,z,X⟩:=M i B;rw [zQ0] at z;obtain ⟨_,f,A⟩:=World.cells?_some z;match T,f with
   | [c],_ =>
    obtain ⟨p,u,k,L,rfl,hL,hr,S,s,ht⟩:=zHx X;refine ⟨L,⟨p,u,k,?_,hL,hr,S⟩,by rw [hL];exact s,ht⟩;have:=A 0 oM;rw [add_add,Nat.mul_one,Nat.add_zero] at this;exact this
  letI:=zRG
  obtain ⟨G,hG⟩:=zMN K;have f:((iZ len).map G).length=len:=sM;have ab:0<len->∃ b l,a=⟨b,l,none⟩:=by
   intro h0;obtain ⟨⟨p,u,k,z,_⟩,_⟩:=hG 0 oM;have s1:(a.add 0).spot=none:=World.cell?_spot z;obtain ⟨b,l,P⟩:=a;obtain rfl:P=none:=s1;exact ⟨b,l,rfl⟩
  refine ⟨(iZ len).map G,some a,len,m,rfl,λi y hy=>?_,f,λC R j S z X=>?_⟩
  ·obtain ⟨B,e⟩:=List.getElem?_eq_some_iff.1 hy;rw [f] at B;have eG:G i=y:=by simpa using e
   obtain ⟨b,l,rfl⟩:=ab oM;obtain ⟨⟨p,u,k,q1,q2,q3,q4⟩,_⟩:=hG i oM;rw [eG] at q2 q3;rw [add_plain] at q1;exact ⟨b,l,p,u,k,rfl,q1,q2,q3,q4⟩
  ·have h3:R[j]? = some (.slice ((iZ len).map D) ((iZ (m - len)).map λj=>D (len+j))):=by rw [X];exact congrArg some (congrArg Prod.fst F)
   have q:=sized_slice S z h3 underlying22;rw [zP5] at q;simp only [fY,List.length_range] at q;refine ⟨oM,λx F=>?_⟩;obtain ⟨i,B,rfl⟩:=List.mem_map.1 F;have B:=List.mem_range.1 B;obtain ⟨_,s,ht⟩:=hG i oM;have key:∀ n ∈ (D i).weights prog 23,n<=reachBytes:=by
    intro n s;have hm:n ∈ (DataW.slice ((iZ len).map D) ((iZ (m - len)).map λj=>D (len+j)):DataW H).weights prog 22:=by
     simp only [DataW.weights,underlying22,pZ,sZ];exact nZ (wZ (zBI _ _ (D i) (List.mem_map.2 ⟨i,by simpa using B,rfl⟩) _ s))
    have:=List.all_eq_true.1 S _ (DataW.weights_mem_each z h3 _ hm);simpa using this
   refine ⟨?_,λy hy=>key _ (ht y hy)⟩;rcases s with s | ⟨n,s,aa⟩
   ·rw [s];exact eZ _
   ·exact fZ aa (key n s)
end
end Go.Proofs.YtloponhikiddmaaGreatDoor
namespace Go.Proofs.YtloponhikiddmaaGreatDoor.bookParts
theorem J9 {a b:Bool} (c:a=true) (d:b=true):(a && b)=true:=by rw [c,d];rfl
theorem zOp:Tryz.pinned.checked.prog.funcNamed Rows.bookPartsRow.func=some 4:=kR
theorem zLF:joinedFacts Tryz.pinned.checked.prog 4 Tryz.f4 (OpenSpec.ofChange Rows.bookPartsSpec).bare Rows.bookPartsRow=true:=by
 unfold joinedFacts;refine J9 (J9 (J9 (J9 (J9 (J9 (J9 (J9 (J9 (J9 (J9 (J9 (J9 (J9 (J9 (J9 (J9 (J9 (J9 (J9 (J9 (J9 (J9 (J9 (J9 (J9 (J9 (J9 (J9 (J9 (J9 ?_ ?_) ?_) ?_) ?_) ?_) ?_) ?_) ?_) ?_) ?_) ?_) ?_) ?_) ?_) ?_) ?_) ?_) ?_) ?_) ?_) ?_) ?_) ?_) ?_) ?_) ?_) ?_) ?_) ?_) ?_) ?_;all_goals as_aux_lemma=>kernel_rfl
theorem zPr:Tryz.f4.isInstance Tryz.pinned.checked.prog Rows.bookPartsRow.origin Rows.bookPartsRow.targs:=of_decide_eq_true kR
theorem zOd:Tryz.f4.isWrapper Tryz.pinned.checked.prog Rows.bookPartsRow.wrapper Rows.bookPartsRow.mainSum:=by
 unfold Func.isWrapper;first | (rw [if_pos (by decide +kernel)];kernel_rfl) | (rw [if_neg (by decide +kernel)];exact ⟨rfl,rfl⟩)
theorem zNT:true=Tryz.pinned.checked.prog.looks []:=kR
end Go.Proofs.YtloponhikiddmaaGreatDoor.bookParts
