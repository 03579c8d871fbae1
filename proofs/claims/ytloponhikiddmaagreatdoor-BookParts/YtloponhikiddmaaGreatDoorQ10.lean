/- Lemmas. -/
import Derived.Test.YtloponhikiddmaaGreatDoorQ09
set_option maxHeartbeats 3200000
set_option maxRecDepth 100000
open List renaming length_append->dZ,append_assoc->eZ,length_cons->fZ,cons_append->gZ,getElem_append_left->hZ,take_succ_eq_append_getElem->iZ,mem_cons_of_mem->kZ,getElem_map->mZ,getElem_mem->nZ,getElem?_eq_getElem->pZ,getElem?_cons_zero->qZ,take_of_length_le->rZ,length_take->tZ,getElem?_append_right->uZ,foldl_cons->vZ,length_map->wZ,take_append_drop->xZ,mem_append_right->yZ,mem_of_mem_take->zZ,mem_append_left->dY,map_cons->eY,mem_cons_self->fY,map_append->hY
open Nat renaming le_trans->jZ,le_refl->sZ,zero_le->gY,sub_self->iY,add_zero->jY
open Go.RowKit.Below renaming refl->oZ
open Go renaming World->wW,Value->vW,Addr->dW
open Go.RowKit renaming Hid->hH
open Go.Value renaming int->O,slice->U,pointer->pX,agg->gX,tuple->uX
open Go.IntKind renaming i64->J
open Go.Obj renaming cells->Z
open Go.Ending renaming returned->rX
open Go.Operand renaming tmp->mX
namespace Go.Proofs.YtloponhikiddmaaGreatDoor
open Tryz
open Go.RowKit Wf
set_option linter.unusedVariables false
variable {w w':wW} {k B f at' bi bw ba m2 cap2 hi:Nat} {lv s0 s1 lv' tv:vW} {T:Nat->Nat} {L:List Wf.I} {own:Int} {nm:List ByteArray} {av2:Option dW} {P:List (Wc.In × vW)} {a:Act} {ops:Array Oper} {rest:List Oper} {Q:Exit->Act->wW->Prop} {S:List Nat} {es:List (Nat × Nat)} {cs:List (Nat × Nat × Nat)} {op:Oper}
structure En (own:Int) (nm:List ByteArray) (av2:Option dW) (m2 cap2 k B:Nat) (T:Nat->Nat) (hi:Nat) (w:wW):Prop where
 na:NmAt w
 rs:RdS w av2 nm
 hm:m2=nm.length
 hl:nm.length<=16
 rk:∀ bb off,av2=some ⟨bb,off,none⟩->bb<k
 gk:2<k
 hk:hi<=k
 kB:k<B
 hB:B<=w.heap.size
 tl:∀ i,T i<=w.heap.size
theorem En.fr (h:En own nm av2 m2 cap2 k B T hi w) {S:List Nat} (f:Fr S w w') (l:∀ j ∈ S,k<=j):En own nm av2 m2 cap2 k B T hi w' :=
 ⟨λj v o=>f.cell (h.na j v o) (λd=>by have:=l _ d;have:=h.gk;omega),λi c=>by
  obtain ⟨g,b,e,m⟩:=h.rs i c;exact ⟨g,b,e,f.cell m (λd=>by have:=l _ d;have:=h.rk g b e;omega)⟩,h.hm,h.hl,h.rk,h.gk,h.hk,h.kB,jZ h.hB f.size,λi=>jZ (h.tl i) f.size⟩
theorem En.below (h:En own nm av2 m2 cap2 k B T hi w) (b:bL w w'):En own nm av2 m2 cap2 k B T hi w':=h.fr (Fr.of_below [] b) sM
theorem zNr (h:WS k B T w s0 s1 L lv P) (b:k<B):∀ j ∈ k::lv.ownBlock.toList,k<=j:=λj hj=>by
 rcases List.mem_cons.1 hj with q | q
 ·omega
 ·have:=(QM h.own (show lv.ownBlock=some j by simpa using q)).1;omega
theorem zC9 {α:Type} (f:α->Nat->List I):∀ (l m:List α) (a:Nat),Qb f (l++m) a=Qb f l a++Qb f m (a+(Qb f l a).length)
 | [],m,a=>by simp [Qb]
 | x::l,m,a=>by
  simp only [gZ,Qb,zC9 f l m,eZ,dZ];rw [Nat.add_assoc]
theorem zB7 {α:Type} (f:α->Nat->List I) (l:List α) (i:Nat) (h:i<l.length) (a:Nat):Qb f (l.take (i+1)) a=Qb f (l.take i) a++f l[i] (a+(Qb f (l.take i) a).length):=by
 rw [iZ h,zC9];simp [Qb]
theorem zEd {α:Type} (f:α->Nat->List I) (l:List α) (i:Nat) (a:Nat):(Qb f (l.take i) a).length<=(Qb f l a).length:=by
 have h:Qb f l a=Qb f (l.take i++l.drop i) a:=by rw [xZ]
 rw [h,zC9,dZ];omega
section
open Tryz
variable (own:Int) (nm:List ByteArray) (av2:Option dW) (m2 cap2:Nat)
def Wr (n:Nat) (t:Tr n):Prop:=Jw n t/\Jv own nm n t=0/\isA (hd n t)=false
def PtC (n:Nat):Prop:=∀ (t:Tr n) (b:vW) (lo hi k B:Nat) (T:Nat->Nat) (w:wW) (L:List I) (lv:vW) (P:List (Wc.In × vW)),Wr own nm n t->PA n lo hi w t b->En own nm av2 m2 cap2 k B T hi w->WS k B T w (O J own) (U av2 m2 cap2) L lv P->L.length+(cod own nm n t L.length).length<=900000 ->
 Calls prog 87 #[pX (some ⟨k,0,none⟩),gX (QP (hd n t) b).toArray] w (WP k B T (O J own) (U av2 m2 cap2) (L++cod own nm n t L.length) lv w)
def AlC (n:Nat):Prop:=∀ (b:List (Tr n × vW)) (c:Option dW) (m cap lo hi k B:Nat) (T:Nat->Nat) (w:wW) (L:List I) (lv:vW) (P:List (Wc.In × vW)),m=b.length->b.length<=30->(∀ p ∈ b,Wr own nm n p.1)->(∀ p ∈ b,PA n lo hi w p.1 p.2)->RdQ w c (b.map λp=>(hd n p.1,p.2))->(0<b.length->∀ bb off,c=some ⟨bb,off,none⟩->∀ j,lv.ownBlock=some j->bb ≠ j)->(0<b.length->∀ bb off,c=some ⟨bb,off,none⟩->bb ≠ k/\bb<w.heap.size)->En own nm av2 m2 cap2 k B T hi w->WS k B T w (O J own) (U av2 m2 cap2) L lv P->L.length+(Qb (cod own nm n) (b.map (·.1)) L.length).length<=900000 ->
 Calls prog 119 #[pX (some ⟨k,0,none⟩),U c m cap] w (WP k B T (O J own) (U av2 m2 cap2) (L++Qb (cod own nm n) (b.map (·.1)) L.length) lv w)
end
theorem zFm (own:Int) (nm:List ByteArray) (av2:Option dW) (m2 cap2 n:Nat) (ih:PtC own nm av2 m2 cap2 n):AlC own nm av2 m2 cap2 n:=by
 intro b av m cap lo hi k B T w L lv P hm hl hw o al ag s l M ah;have HM:hH (m=b.length/\b.length<=30):=⟨hm,hl⟩
 have HW:hH _:=hw;have ay:hH _:=o;have az:hH _:=al;have N:hH ((0<b.length->∀ p d,av=some ⟨p,d,none⟩->∀ j,lv.ownBlock=some j->p ≠ j)/\(0<b.length->∀ p d,av=some ⟨p,d,none⟩->p ≠ k/\p<w.heap.size)):=⟨ag,s⟩
 have R:hH (En own nm av2 m2 cap2 k B T hi w):=l;have ar:hH (L.length+(Qb (cod own nm n) (b.map (·.1)) L.length).length<=900000):=ah;have aw:hH (PtC own nm av2 m2 cap2 n):=ih;have X:hH (∀ j ∈ k::lv.ownBlock.toList,k<=j):=zNr M l.kB;have ad:hH (WS k B T w (O J own) (U av2 m2 cap2) (L++Qb (cod own nm n) ((b.map (·.1)).take 0) L.length) lv P):=by show WS _ _ _ _ _ _ _ _ _;simpa [Qb] using M
 obtain ⟨LF,F⟩:=xV (L++Qb (cod own nm n) (b.map (·.1)) L.length)
 rw [F];have ax:hH (L++Qb (cod own nm n) (b.map (·.1)) L.length=LF):=F;clear hm hl hw o al ag s l M ah ih F;go_enter func119,ntmps119;go_wp2_with fail
 go_loopg [5,8] m (λgk u x wr=>∃ (i:Nat),x=O J (i:Int)/\gk=m - i/\i<=m/\hH (∃ lvi Pi,WS k B T wr (O J own) (U av2 m2 cap2) (L++Qb (cod own nm n) ((b.map (·.1)).take i) L.length) lvi Pi/\Nx w lv lvi)/\hH (Fr (k::lv.ownBlock.toList) w wr))
 case atStart=>exact ⟨0,rfl,rfl,gY _,⟨lv,P,ad.out,Nx.refl _ _⟩,Fr.refl _ _⟩
 case round =>
  clear ad;obtain ⟨i,rfl,hg,aF,HS,A⟩:=hrel;by_cases aD:i<m
  ·have aC:(i:Int)<(m:Int):=oM;have aG:(0:Int)<=(i:Int):=oM;have aH:J.wrap ((i:Int)+1)=(i:Int)+1:=by have:=HM.out;rw [IntKind.wrap_i64];omega
   have r:i<b.length:=by have:=HM.out;omega
   obtain ⟨p,d,rfl,H⟩:=az.out i (by simpa using r);simp only [mZ] at H;have ai:p ∉ k::lv.ownBlock.toList:=λhm=>by
    rcases List.mem_cons.1 hm with q | q
    ·exact (N.out.2 oM p d rfl).1 q
    ·exact N.out.1 oM p d rfl p (by simpa using q) rfl
   have hr:=A.out.range H ai;have G:=nZ r;have aj:Kept lo hi w wr:=Kept.of_fr A.out (λj hj=>by have:=X.out j hj;have:=R.out.hk;omega);have o:=PA.kept aj n _ _ (ay.out _ G);obtain ⟨t,v,z,am⟩:=o.slice;have l:=R.out.fr A.out X.out;obtain ⟨lvi,Pi,aq,ao⟩:=HS.out;have c:=zB7 (cod own nm n) (b.map (·.1)) i (by simpa using r) L.length;have ak:=zEd (cod own nm n) (b.map (·.1)) (i+1) L.length;rw [c,dZ,mZ] at ak;rw [mZ] at c;have g:=λ(W:wW) (hb:bL wr W)=>aw.out (b[i]).1 (b[i]).2 lo hi k B T W _ lvi Pi (HW.out _ G) (PA.kept (Kept.of_below hb) n _ _ o) (l.below hb) (aq.below hb) (by rw [dZ];have:=ar.out;omega)
   have K:World.there (wr.alloc (Z zeros21 159)) wr.heap.size 0 (QP (hd n (b[i]).1) (U t v z)).toArray.size:=(AtL.new0 wr _ _:AtL (wr.alloc (Z zeros21 159)) wr.heap.size zeros21.toList).there;rw [am] at g hr;rw [dZ] at g;have D:hH (L++Qb (cod own nm n) ((b.map (·.1)).take (i+1)) L.length=(L++Qb (cod own nm n) ((b.map (·.1)).take i) L.length)++cod own nm n (b[i]).1 (L.length+(Qb (cod own nm n) ((b.map (·.1)).take i) L.length).length)):=by show _=_;rw [c,eZ]
   obtain ⟨y,hy⟩:=xV (hd n (b[i]).1)
   rw [hy] at g hr K;obtain ⟨LN,af⟩:=xV ((L++Qb (cod own nm n) ((b.map (·.1)).take i) L.length)++cod own nm n (b[i]).1 (L.length+(Qb (cod own nm n) ((b.map (·.1)).take i) L.length).length))
   rw [af] at g D;have C:hH (Nx w lv lvi):=ao;clear c ak am hy af o aj H ai G r ao aq l HS;have ab:hH (AtL ((wr.alloc (Z zeros21 159)).setCells wr.heap.size 0 (QP y (U t v z))) wr.heap.size (QP y (U t v z))):=(AtL.new0 wr _ _:AtL (wr.alloc (Z zeros21 159)) wr.heap.size zeros21.toList).setAll rfl;have E:bL wr ((wr.alloc (Z zeros21 159)).setCells wr.heap.size 0 (QP y (U t v z))):=Qm (QJ (oZ _ wr) _) (sZ _) _ 0;have PT:=g _ E;have aa:hH _:=E;clear g E;go_upto_region 3 with (first | (refine QB (by rfl) 159 (mX 10) rfl p (d+i * 21) rfl (QP y (U t v z)) _ hr underlying159 rfl kR ?_) | ((with_reducible refine wpList_store_mid ?_ 159 (mX 5) (mX 11) ?_ wr.heap.size 0 (QP y (U t v z)).toArray ?_ ?_ ?_ ?_ ?_ ?_);rfl;rfl;rfl;rfl;exact K;kernel_rfl;exact Qt _ _ _ _))
   clear K hr;generalize ((wr.alloc (Z zeros21 159)).setCells wr.heap.size 0 (QP y (U t v z)))=W2 at *;have rI:=ab.out.range;go_wp2_with (first | (refine QB (by rfl) 159 (mX 5) rfl wr.heap.size 0 rfl (QP y (U t v z)) _ rI underlying159 rfl kR ?_))
   refine PT.mono ?_;rintro e w3 h3;obtain ⟨⟨aE,P3,rfl,ap,an⟩,ae⟩:=h3.from aa.out
   have aA:hH (∃ lvi Pi,WS k B T w3 (O J own) (U av2 m2 cap2) (L++Qb (cod own nm n) ((b.map (·.1)).take (i+1)) L.length) lvi Pi/\Nx w lv lvi):=by
    rw [D.out];exact ⟨aE,P3,ap,C.out.trans an A.out.size⟩
   have au:hH _:=zMA A.out ae C.out;clear PT rI ab aa h3 ap an ae C A D;go_wp2_with fail
   go_roundg (m - (i+1))
   case rel=>exact ⟨i+1,sM,rfl,aD,aA,au⟩
   case measure=>omega
  ·have aC:¬ (i:Int)<(m:Int):=oM;have ac:hH (∃ lvi Pi,WS k B T wr (O J own) (U av2 m2 cap2) LF lvi Pi/\Nx w lv lvi):=by
    have aB:(b.map (·.1)).length<=i:=by have:=HM.out;simp;omega
    have:=HS.out;rw [rZ aB,ax.out] at this;exact this
   have HR:hH (WP k B T (O J own) (U av2 m2 cap2) LF lv w (rX (uX #[])) wr):=by
    obtain ⟨lvi,Pi,r1,r2⟩:=ac.out;exact ⟨⟨lvi,Pi,rfl,r1,r2⟩,A.out⟩
   clear HS ac;go_wp2;go_end0
   exact HR.out
open Go.RowKit Wf
theorem WP.then {L1 m:List I} {c:vW} {o p:wW} {P1:List (Wc.In × vW)} (b:Fr (k::lv.ownBlock.toList) w o) (d:Nx w lv c) {e:Ending} (h:WP k B T s0 s1 m c o e p):WP k B T s0 s1 m lv w e p:=by
 obtain ⟨⟨g,q,r,l,j⟩,fr2⟩:=h;exact ⟨⟨g,q,r,l,d.trans j b.size⟩,zMA b fr2 d⟩
theorem WP.ret {e:Ending} (h:WP k B T s0 s1 L lv w e w'):e=rX (uX #[]):=by
 obtain ⟨⟨c,d,b,_⟩,_⟩:=h;exact b
section
variable (own:Int) (nm:List ByteArray) (av2:Option dW) (m2 cap2:Nat)
def FdC (n:Nat):Prop:=∀ (t:Tr n) (b:vW) (lo hi k B:Nat) (T:Nat->Nat) (w:wW) (L:List I) (lv:vW) (P:List (Wc.In × vW)),Wr own nm n t->PA n lo hi w t b->En own nm av2 m2 cap2 k B T hi w->WS k B T w (O J own) (U av2 m2 cap2) L lv P->L.length+(JE (cod own nm n) t L.length).length<=900000 ->
 Calls prog 183 #[pX (some ⟨k,0,none⟩),gX (QP (hd n t) b).toArray] w (WP k B T (O J own) (U av2 m2 cap2) (L++JE (cod own nm n) t L.length) lv w)
end
theorem zHa (own:Int) (nm:List ByteArray) (av2:Option dW) (m2 cap2 n:Nat) (M:PtC own nm av2 m2 cap2 n):FdC own nm av2 m2 cap2 n:=by
 intro t sl lo hi k B T w L lv P K j c r o;have q:(JE (cod own nm n) t L.length).length=(cod own nm n t L.length).length+1:=by simp [JE]
 have p:L++JE (cod own nm n) t L.length=(L++cod own nm n t L.length)++[((ins 7 0 0).1,[])]:=by rw [eZ];rfl
 rw [q] at o;rw [p];obtain ⟨u,v,x,rfl⟩:=j.slice;have b:=QJ (oZ _ w) (Z (QP (hd n t) (U u v x)).toArray 159);have N:=(AtL.new0 w 159 (QP (hd n t) (U u v x))).range;have F:=M t (U u v x) lo hi k B T _ L lv P K (PA.kept (Kept.of_below b) n _ _ j) (c.below b) (r.below b) oM;have m:=hid (And.intro c.kB c.hB);have A:hH ((L++cod own nm n t L.length).length<=1000000):=by show _<=_;rw [dZ];omega
 generalize L++cod own nm n t L.length=L1 at *;generalize hd n t=y at *;have l:=hid b;clear q p o K j c r M b;go_enter func183,ntmps183;go_upto_region 1 with fail
 generalize (w.alloc (Z (QP y (U u v x)).toArray 159))=W at *;go_wp2_with (first | (refine QB (by rfl) 159 (mX 3) rfl w.heap.size 0 rfl (QP y (U u v x)) _ N underlying159 rfl kR ?_))
 refine F.mono ?_;rintro e X G;obtain ⟨⟨D,P1,rfl,z,s⟩,g⟩:=G.from l.out
 have E:=Qy k B T (ins 7 0 0).1 _ _ L1 D P1 X z m.out.1 (jZ m.out.2 g.size) A.out;have d:=hid (And.intro g s);clear F N G z s g l;go_wp2_with (first | (refine Qo rfl 7 rfl ?_))
 refine E.mono ?_;rintro e w2 H;have C:=WP.then (P1:=P1) (L1:=L1) d.out.1 d.out.2 H;obtain rfl:=C.ret;have R:=hid C;clear H C E d;go_wp2;go_end0
 exact R.out
theorem zAK {α:Type} (a:List α) (x y:α) (b:List α) (i:Nat) (h:i=a.length):(a++x::b).set i y=a++y::b:=by
 subst h;simp
theorem zNd {α:Type} (a:List α) (x:α) (b:List α) (i:Nat) (h:i=a.length) (hi:i<(a++x::b).length):(a++x::b)[i]=x:=by
 subst h;simp
section
variable (own:Int) (nm:List ByteArray) (av2:Option dW) (m2 cap2:Nat)
def Vv (n:Nat) (t:Tr n) (a:Nat):List I:=ins 14 (a+1+(cod own nm n t (a+1)).length:Nat) 0::cod own nm n t (a+1)
def GdC (n:Nat):Prop:=∀ (t:Tr n) (b:vW) (lo hi k B:Nat) (T:Nat->Nat) (w:wW) (L:List I) (lv:vW) (P:List (Wc.In × vW)),Wr own nm n t->PA n lo hi w t b->En own nm av2 m2 cap2 k B T hi w->WS k B T w (O J own) (U av2 m2 cap2) L lv P->L.length+(Vv own nm n t L.length).length<=900000 ->
 Calls prog 188 #[pX (some ⟨k,0,none⟩),gX (QP (hd n t) b).toArray] w (WP k B T (O J own) (U av2 m2 cap2) (L++Vv own nm n t L.length) lv w)
end
theorem zKi (own:Int) (nm:List ByteArray) (av2:Option dW) (m2 cap2 n:Nat) (ih:PtC own nm av2 m2 cap2 n):GdC own nm av2 m2 cap2 n:=by
 intro t sl lo hi k B T w L lv P hw K d v G;have ap:(Vv own nm n t L.length).length=(cod own nm n t (L.length+1)).length+1:=by simp [Vv]
 rw [ap] at G;obtain ⟨M,N,R,rfl⟩:=K.slice;have s:=QJ (oZ _ w) (Z (QP (hd n t) (U M N R)).toArray 159);have ag:=hid ((AtL.new0 w 159 (QP (hd n t) (U M N R))).range);have LA:=Qy k B T (ins 14 0 0).1 _ _ L lv P _ (v.below s) d.kB (jZ d.hB s.size) oM;have ac:=hid (zNr v d.kB);have ad:hH (∀ j,lv.ownBlock=some j->B<=j/\j<w.heap.size):=λj e=>QM v.own e
 have ae:hH (∀ (W:wW) (c:vW) (P1:List (Wc.In × vW)) (S:List Nat),Fr S w W->(∀ j ∈ S,k<=j)->WS k B T W (O J own) (U av2 m2 cap2) (L++[ins 14 0 0]) c P1->Calls prog 87 #[pX (some ⟨k,0,none⟩),gX (QP (hd n t) (U M N R)).toArray] W (WP k B T (O J own) (U av2 m2 cap2) (L++ins 14 0 0::cod own nm n t (L.length+1)) c W)):=λW c P1 S f hs o=>by
  have:=ih t (U M N R) lo hi k B T W (L++[ins 14 0 0]) c P1 hw (PA.kept (Kept.of_fr f (λj hj=>by have:=hs j hj;have:=d.hk;omega)) n _ _ K) (d.fr f hs) o (by simp;omega);rw [show (L++[ins 14 0 0]).length=L.length+1 from by simp,eZ] at this;exact this
 have D:=hid (And.intro d.kB d.hB);have C:=hid G;have E:hH (L++Vv own nm n t L.length=L++({(ins 14 0 0).1 with a:=((L.length+1+(cod own nm n t (L.length+1)).length:Nat):Int)},[])::cod own nm n t (L.length+1)):=rfl;obtain ⟨LF,g⟩:=xV (L++Vv own nm n t L.length)
 rw [g];rw [g] at E;generalize cod own nm n t (L.length+1)=X at *;generalize hd n t=y at *;have aa:=hid s;clear ap G hw K d v ih s g;go_enter func188,ntmps188;go_upto_region 1 with fail
 generalize (w.alloc (Z (QP y (U M N R)).toArray 159))=W at *;go_wp2_with (first | (refine Qo rfl 14 rfl ?_))
 refine LA.mono ?_;rintro e w1 h1;obtain ⟨⟨c,P1,rfl,o,ar⟩,ai⟩:=h1.from aa.out
 have LT:=zBf k B 206 T _ _ _ c P1 w1 o sM (by have:=C.out;simp;omega);rw [show (L++[((ins 14 0 0).1,([]:List Int))]).length - 1=L.length from by simp] at LT;have ah:=hid (And.intro o (And.intro ar ai));have z:hH (w1.rangeAt w.heap.size 0 (QP y (U M N R))):=by
  obtain ⟨⟨lv0,P0,_,_,_⟩,f0⟩:=h1;exact f0.range ag.out (λhm=>by
   rcases List.mem_cons.1 hm with q | q
   ·have:=D.out;omega
   ·have:=(ad.out w.heap.size (by simpa using q)).2;omega)
 clear LA h1 o ar ai aa ag;go_wp2_with fail
 refine LT.mono ?_;rintro e w2 ⟨⟨cl,bs,rfl,am,ak⟩,u⟩;obtain ⟨q1,q2,q3⟩:=ah.out;have rP:=QG u z.out;have H:=q3.trans (Fr.of_below _ u);have PT:=ae.out w2 c P1 _ H ac.out (q1.below u);have ab:hH (Cl k w2 206 L.length bs cl/\(∀ b ∈ bs,w1.heap.size<=b/\b<w2.heap.size)/\(∀ j,c.ownBlock=some j->B<=j/\j<w1.heap.size)/\Fr (k::lv.ownBlock.toList) w w2/\Nx w lv c/\w.heap.size<=w1.heap.size):=⟨am,ak,λj e=>QM q1.own e,H,q2,q3.size⟩
 obtain ⟨bi,bw,ba,al,rfl,av,aw,ax⟩:=am;clear av aw ax ak u q1 q2 q3 H ah z LT ae;go_wp2_with (first | (refine QB (by rfl) 159 (mX 3) rfl w.heap.size 0 rfl (QP y (U M N R)) _ rP underlying159 rfl kR ?_))
 refine PT.mono ?_;rintro e w3 ⟨⟨m,P3,rfl,au,x⟩,F⟩;obtain ⟨c1,c2,c3,c4,c5,c6⟩:=ab.out;have an:=c1.fr F (λb hb hm=>by
  have h9:=c2 b hb;rcases List.mem_cons.1 hm with q | q
  ·have:=D.out;omega
  ·have:=(c3 b (by simpa using q)).2;omega)
 have l:∀ b ∈ bs,∀ j,m.ownBlock=some j->b ≠ j:=λb hb j e=>by
  have h9:=c2 b hb;rcases x j e with q | q
  ·have:=(c3 j q).2;omega
  ·omega
 obtain ⟨az,aA,ay,A,ao,d1,d2,d3⟩:=an;simp only [Value.func.injEq,true_and,Array.mk.injEq,List.cons.injEq,pX.injEq,Option.some.injEq,Addr.mk.injEq,and_true] at ao;obtain ⟨rfl,rfl,rfl⟩:=ao;rw [A] at l;have CA:=zE7 k B T _ _ _ m P3 w3 L.length bi bw ba au D.out.1 (by have:=C.out;simp;omega) sM d1 d2 d3 (λj e=>⟨l bi sM j e,l bw sM j e,l ba sM j e⟩);rw [zAK L _ _ X L.length rfl] at CA;simp only [zNd L _ X L.length rfl] at CA;have eg:∀ args w,(callFunc 222 args).run prog w=.ok (.enter 222 args) w:=λ_ _=>by kernel_rfl
 have af:hH (∀ w4:wW,(∃ P',WS k B T w4 (O J own) (U av2 m2 cap2) (L++({(ins 14 0 0).1 with a:=((L++ins 14 0 0::X).length:Int)},(ins 14 0 0).2)::X) m P')->Fr m.ownBlock.toList w3 w4->WP k B T (O J own) (U av2 m2 cap2) LF lv w (rX (uX #[])) w4):=by
  intro w4 hP hf;obtain ⟨P4,p⟩:=hP;have aq:(((L++ins 14 0 0::X).length:Nat):Int)=((L.length+1+X.length:Nat):Int):=by simp;omega
  rw [aq] at p;have g:=E.out;refine ⟨⟨m,P4,rfl,by rw [g];exact p,c5.trans x c4.size⟩,?_⟩;have f3:=zMA c4 F (λj e=>(c5 j e));exact f3.new hf (λj hj=>by
   rcases x j (by simpa using hj) with q | q
   ·rcases c5 j q with r | r
    ·exact Or.inl (kZ _ (by simp [r]))
    ·exact Or.inr r
   ·exact Or.inr (jZ c4.size q))
 clear PT rP ab c1 c2 c3 c4 c5 c6 l d1 d2 d3 au x F A al E ac ad C;go_wp2_with (first | (go_at_call 222;refine CA.mono ?_;rintro e w4 ⟨⟨P4,rfl,p⟩,aj⟩))
 have HR:=hid (af.out w4 ⟨P4,p⟩ aj);clear CA af p aj;go_end0
 exact HR.out
open Go.RowKit Wf
abbrev clV (bi bw ba:Nat):vW:=.func (.func 222) #[] #[pX (some ⟨bi,0,none⟩),pX (some ⟨bw,0,none⟩),pX (some ⟨ba,0,none⟩)]
structure Pd (k:Nat) (w:wW) (lv:vW) (f at' bi bw ba:Nat):Prop where
 c1:w.cell? ⟨bi,0,none⟩=some (.func (.func f) #[] #[])
 c2:w.cell? ⟨bw,0,none⟩=some (pX (some ⟨k,0,none⟩))
 c3:w.cell? ⟨ba,0,none⟩=some (O J (at':Int))
 bd:∀ b ∈ [bi,bw,ba],k<b/\b<w.heap.size/\¬ lv.ownBlock=some b
theorem Pd.fr (h:Pd k w lv f at' bi bw ba) {S:List Nat} (c:Fr S w w') (e:∀ b ∈ [bi,bw,ba],b ∉ S) (g:∀ b ∈ [bi,bw,ba],¬ lv'.ownBlock=some b):Pd k w' lv' f at' bi bw ba :=
 ⟨c.cell h.c1 (e _ sM),c.cell h.c2 (e _ sM),c.cell h.c3 (e _ sM),λb d=>⟨(h.bd b d).1,Nat.lt_of_lt_of_le (h.bd b d).2.1 c.size,g b d⟩⟩
theorem Pd.below (h:Pd k w lv f at' bi bw ba) (c:bL w w'):Pd k w' lv f at' bi bw ba:=h.fr (Fr.of_below [] c) (λb _=>by simp) (λb c=>(h.bd b c).2.2)
theorem Pd.step (h:Pd k w lv f at' bi bw ba) (g:Fr (k::lv.ownBlock.toList) w w') (l:Nx w lv lv'):Pd k w' lv' f at' bi bw ba :=
 h.fr g (λb d j=>by
  have c:=h.bd b d;rcases List.mem_cons.1 j with q | q
  ·omega
  ·exact c.2.2 (by simpa using q)) (λb d e=>by
  have c:=h.bd b d;rcases l b e with q | q
  ·exact c.2.2 q
  ·omega)
theorem Pd.patch (h:Pd k w lv f at' bi bw ba) (d:Fr lv.ownBlock.toList w w'):Pd k w' lv f at' bi bw ba :=
 h.fr d (λb c e=>(h.bd b c).2.2 (by simpa using e)) (λb c=>(h.bd b c).2.2)
theorem zBO (k B f:Nat) (T:Nat->Nat) (s0 s1:vW) (L:List I) (lv:vW) (P:List (Wc.In × vW)) (w:wW) (h:WS k B T w s0 s1 L lv P) (m:0<L.length) (q:L.length<=1000000) :
  Calls prog 205 #[pX (some ⟨k,0,none⟩),.func (.func f) #[] #[]] w λe w'=>(∃ bi bw ba,e=rX (clV bi bw ba)/\Pd k w' lv f (L.length - 1) bi bw ba)/\bL w w':=by
 refine (zBf k B f T s0 s1 L lv P w h m q).mono ?_;rintro e w' ⟨⟨cl,r,rfl,⟨bi,bw,ba,rfl,rfl,g,j,l⟩,d⟩,p⟩;refine ⟨⟨bi,bw,ba,rfl,g,j,l,λb c=>?_⟩,p⟩;have o:=d b c;have:=h.at'.lt;exact ⟨oM,o.2,λe=>by have:=(QM h.own e).2;omega⟩
def JPd (k B:Nat) (T:Nat->Nat) (s0 s1:vW) (L:List I) (lv:vW) (w:wW) (e:Ending) (w':wW):Prop :=
 (∃ bi bw ba lv' c,e=rX (clV bi bw ba)/\Pd k w' lv' 206 L.length bi bw ba/\(∀ b ∈ [bi,bw,ba],w.heap.size<=b)/\WS k B T w' s0 s1 (L++[ins 13 0 0]) lv' c/\Nx w lv lv')/\Fr (k::lv.ownBlock.toList) w w'
theorem zHd (k B:Nat) (T:Nat->Nat) (s0 s1:vW) (L:List I) (lv:vW) (P:List (Wc.In × vW)) (w:wW) (h:WS k B T w s0 s1 L lv P) (g:k<B) (q:B<=w.heap.size) (s:L.length<=999999) :
  Calls prog 208 #[pX (some ⟨k,0,none⟩)] w (JPd k B T s0 s1 L lv w):=by
 refine (zMz k B T s0 s1 L lv P w h g q s).mono ?_;rintro e w' ⟨⟨cl,v,lv',l,rfl,⟨bi,bw,ba,rfl,rfl,m,o,p⟩,d,u,t⟩,r⟩;refine ⟨⟨bi,bw,ba,lv',l,rfl,⟨m,o,p,λb c=>?_⟩,λb c=>(d b c).1,u,t⟩,r⟩;have j:=d b c;exact ⟨oM,j.2.1,j.2.2⟩
theorem pdA (k B:Nat) (T:Nat->Nat) (s0 s1:vW) (L j:List I) (lv:vW) (P:List (Wc.In × vW)) (w:wW) (at':Nat) (bi bw ba:Nat) (h:WS k B T w s0 s1 L lv P) (p:k<B) (s:L.length<=1000000) (d:Pd k w lv 206 at' bi bw ba) (X c:List I) (x:I) (l:L=X++x::c) (r:at'=X.length) (v:Int) (t:(L.length:Int)=v) (m:j=X++({x.1 with a:=v},x.2)::c) :
  Calls prog 222 #[pX (some ⟨bi,0,none⟩),pX (some ⟨bw,0,none⟩),pX (some ⟨ba,0,none⟩)] w λe w'=>(∃ P',e=rX (uX #[])/\WS k B T w' s0 s1 j lv P')/\Fr lv.ownBlock.toList w w':=by
 subst r;have o:X.length<L.length:=by rw [l];simp
 have:=zE7 k B T s0 s1 L lv P w X.length bi bw ba h p s o d.c1 d.c2 d.c3 (λb e=>⟨λq=>(d.bd bi sM).2.2 (by rw [q];exact e),λq=>(d.bd bw sM).2.2 (by rw [q];exact e),λq=>(d.bd ba sM).2.2 (by rw [q];exact e)⟩);rw [t] at this;have u:L[X.length]=x:=by subst l;simp
 have g:L.set X.length ({(L[X.length]).1 with a:=v},(L[X.length]).2)=j:=by rw [u,m,l,zAK X _ _ c X.length rfl]
 rw [g] at this;exact this
theorem pdB (k B:Nat) (T:Nat->Nat) (s0 s1:vW) (L j:List I) (lv:vW) (P:List (Wc.In × vW)) (w:wW) (at':Nat) (bi bw ba:Nat) (h:WS k B T w s0 s1 L lv P) (p:k<B) (s:L.length<=1000000) (d:Pd k w lv 207 at' bi bw ba) (X c:List I) (x:I) (l:L=X++x::c) (r:at'=X.length) (v:Int) (t:(L.length:Int)=v) (m:j=X++({x.1 with b:=v},x.2)::c) :
  Calls prog 222 #[pX (some ⟨bi,0,none⟩),pX (some ⟨bw,0,none⟩),pX (some ⟨ba,0,none⟩)] w λe w'=>(∃ P',e=rX (uX #[])/\WS k B T w' s0 s1 j lv P')/\Fr lv.ownBlock.toList w w':=by
 subst r;have o:X.length<L.length:=by rw [l];simp
 have:=zHq k B T s0 s1 L lv P w X.length bi bw ba h p s o d.c1 d.c2 d.c3 (λb e=>⟨λq=>(d.bd bi sM).2.2 (by rw [q];exact e),λq=>(d.bd bw sM).2.2 (by rw [q];exact e),λq=>(d.bd ba sM).2.2 (by rw [q];exact e)⟩);rw [t] at this;have u:L[X.length]=x:=by subst l;simp
 have g:L.set X.length ({(L[X.length]).1 with b:=v},(L[X.length]).2)=j:=by rw [u,m,l,zAK X _ _ c X.length rfl]
 rw [g] at this;exact this
theorem zMV:∀ args w,(callFunc 222 args).run prog w=.ok (.enter 222 args) w:=λ_ _=>by kernel_rfl
structure St (own:Int) (nm:List ByteArray) (av2:Option dW) (m2 cap2 k B:Nat) (T:Nat->Nat) (hi:Nat) (w0:wW) (lv0:vW) (w:wW) (L:List I) (lv:vW) (P:List (Wc.In × vW)):Prop where
 en:En own nm av2 m2 cap2 k B T hi w
 ws:WS k B T w (O J own) (U av2 m2 cap2) L lv P
 nx:Nx w0 lv0 lv
 fr:Fr (k::lv0.ownBlock.toList) w0 w
section
variable {own:Int} {nm:List ByteArray} {av2:Option dW} {m2 cap2 k B hi:Nat} {T:Nat->Nat} {w0:wW} {lv0:vW} {w:wW} {L:List I} {lv:vW} {P:List (Wc.In × vW)}
theorem St.init (b:En own nm av2 m2 cap2 k B T hi w) (c:WS k B T w (O J own) (U av2 m2 cap2) L lv P):St own nm av2 m2 cap2 k B T hi w lv w L lv P:=⟨b,c,Nx.refl _ _,Fr.refl _ _⟩
theorem St.below {w':wW} (h:St own nm av2 m2 cap2 k B T hi w0 lv0 w L lv P) (b:bL w w'):St own nm av2 m2 cap2 k B T hi w0 lv0 w' L lv P:=⟨h.en.below b,h.ws.below b,h.nx,h.fr.trans (Fr.of_below _ b)⟩
theorem St.step {w':wW} {b:List I} {lv':vW} {c:List (Wc.In × vW)} (h:St own nm av2 m2 cap2 k B T hi w0 lv0 w L lv P) (d:Fr (k::lv.ownBlock.toList) w w') (e:Nx w lv lv') (g:WS k B T w' (O J own) (U av2 m2 cap2) b lv' c):St own nm av2 m2 cap2 k B T hi w0 lv0 w' b lv' c :=
 ⟨h.en.fr d (zNr h.ws h.en.kB),g,h.nx.trans e h.fr.size,zMA h.fr d h.nx⟩
theorem St.patch {w':wW} {b:List I} {c:List (Wc.In × vW)} (h:St own nm av2 m2 cap2 k B T hi w0 lv0 w L lv P) (d:Fr lv.ownBlock.toList w w') (g:WS k B T w' (O J own) (U av2 m2 cap2) b lv c):St own nm av2 m2 cap2 k B T hi w0 lv0 w' b lv c :=
 h.step (d.mono (λj e=>kZ _ e)) (Nx.refl _ _) g
theorem St.wp (h:St own nm av2 m2 cap2 k B T hi w0 lv0 w L lv P):WP k B T (O J own) (U av2 m2 cap2) L lv0 w0 (rX (uX #[])) w:=⟨⟨lv,P,rfl,h.ws,h.nx⟩,h.fr⟩
theorem St.kept (h:St own nm av2 m2 cap2 k B T hi w0 lv0 w L lv P) {lo:Nat} (b:∀ j,lv0.ownBlock=some j->B<=j):Kept lo hi w0 w:=Kept.of_fr h.fr (λj hj=>by
 have:=h.en.hk;have:=h.en.kB;rcases List.mem_cons.1 hj with q | q
 ·omega
 ·have:=b j (by simpa using q);omega)
end
open Go.RowKit Wf
section
variable {α:Type} (f:α->Nat->List I)
def QY (e:Int):List α->Nat->List I
 | [],_=>[]
 | k::r,a=>f k a++chB f e r (a+(f k a).length)
def toC:List α->Nat->List Int
 | [],_=>[]
 | k::r,a=>(a:Int)::chT f r (a+(f k a).length)
def jr:List α->Nat->List Nat
 | [],_=>[]
 | k::r,m=>m::jr r (m+1+(f k (m+1)).length)
def jx:List α->Nat->List Nat
 | [],_=>[]
 | k::r,a=>jr f r (a+(f k a).length)
theorem zFb (l:List α) (a:Nat):Ju f l a=(⟨15,0,(a+1+(QY f 0 l (a+1)).length:Nat),v0I,c0I,a0I,a0I⟩,toC f l (a+1))::QY f (a+1+(QY f 0 l (a+1)).length:Nat) l (a+1):=by
 cases l with
 | nil=>rfl
 | cons k r =>
  simp only [Ju,QY,toC,dZ];rw [show a+1+((f k (a+1)).length+(chB f 0 r (a+1+(f k (a+1)).length)).length)=a+1+(f k (a+1)).length+(chB f 0 r (a+1+(f k (a+1)).length)).length from by omega]
theorem zJn (e b:Int):∀ (r:List α) (m:Nat),(chB f e r m).length=(chB f b r m).length
 | [],m=>rfl
 | k::r,m=>by simp [chB,zJn e b r]
theorem zJO (e b:Int) (l:List α) (a:Nat):(QY f e l a).length=(QY f b l a).length:=by
 cases l with
 | nil=>rfl
 | cons k r=>simp [QY,zJn f e b]
theorem zFN (e:Int) (x:α):∀ (r:List α) (m:Nat),chB f e (r++[x]) m=chB f e r m++(ins 13 e 0::f x (m+(chB f e r m).length+1))
 | [],m=>by simp [chB]
 | k::r,m=>by
  simp only [gZ,chB,zFN e x r,eZ,fZ,dZ];rw [show m+1+(f k (m+1)).length+(chB f e r (m+1+(f k (m+1)).length)).length+1=m+((f k (m+1)).length+(chB f e r (m+1+(f k (m+1)).length)).length+1)+1 from by omega]
theorem zFU (x:α):∀ (r:List α) (m:Nat),chT f (r++[x]) m=chT f r m++[((m+(chB f 0 r m).length+1:Nat):Int)]
 | [],m=>by simp [chT,chB]
 | k::r,m=>by
  simp only [gZ,chT,zFU x r,chB,fZ,dZ];rw [show m+1+(f k (m+1)).length+(chB f 0 r (m+1+(f k (m+1)).length)).length+1=m+((f k (m+1)).length+(chB f 0 r (m+1+(f k (m+1)).length)).length+1)+1 from by omega]
theorem zI7 (x:α):∀ (r:List α) (m:Nat),jr f (r++[x]) m=jr f r m++[m+(chB f 0 r m).length]
 | [],m=>by simp [jr,chB]
 | k::r,m=>by
  simp only [gZ,jr,zI7 x r,chB,fZ,dZ];rw [show m+1+(f k (m+1)).length+(chB f 0 r (m+1+(f k (m+1)).length)).length=m+((f k (m+1)).length+(chB f 0 r (m+1+(f k (m+1)).length)).length+1) from by omega]
theorem zLd (e:Int) (x:α) (a:Nat):QY f e [x] a=f x a:=by simp [QY,chB]
theorem zDD (e:Int) (x:α) (l:List α) (b:l ≠ []) (a:Nat):QY f e (l++[x]) a=QY f e l a++(ins 13 e 0::f x (a+(QY f e l a).length+1)):=by
 cases l with
 | nil=>exact absurd rfl b
 | cons k r =>
  simp only [gZ,QY,zFN,eZ,dZ];rw [show a+(f k a).length+(chB f e r (a+(f k a).length)).length+1=a+((f k a).length+(chB f e r (a+(f k a).length)).length)+1 from by omega]
theorem zNC (x:α) (l:List α) (b:l ≠ []) (a:Nat):toC f (l++[x]) a=toC f l a++[((a+(QY f 0 l a).length+1:Nat):Int)]:=by
 cases l with
 | nil=>exact absurd rfl b
 | cons k r =>
  simp only [gZ,toC,zFU,QY,dZ];rw [show a+(f k a).length+(chB f 0 r (a+(f k a).length)).length+1=a+((f k a).length+(chB f 0 r (a+(f k a).length)).length)+1 from by omega]
theorem zN2 (x:α) (l:List α) (b:l ≠ []) (a:Nat):jx f (l++[x]) a=jx f l a++[a+(QY f 0 l a).length]:=by
 cases l with
 | nil=>exact absurd rfl b
 | cons k r =>
  simp only [gZ,jx,zI7,QY,dZ];rw [show a+(f k a).length+(chB f 0 r (a+(f k a).length)).length=a+((f k a).length+(chB f 0 r (a+(f k a).length)).length) from by omega]
theorem zP1:∀ (r:List α) (m:Nat),∀ p ∈ jr f r m,m<=p/\p<m+(chB f 0 r m).length
 | [],m,p,h=>by cases h
 | k::r,m,p,h=>by
  simp only [chB,fZ,dZ];rcases List.mem_cons.1 h with rfl | h
  ·omega
  ·have:=zP1 r _ p h;omega
end
def pA (v:Int) (L:List I) (p:Nat):List I:=match L[p]? with
 | some x=>L.set p ({x.1 with a:=v},x.2)
 | none=>L
def pB (v:Int) (L:List I) (p:Nat):List I:=match L[p]? with
 | some x=>L.set p ({x.1 with b:=v},x.2)
 | none=>L
theorem zOk (v:Int) (L:List I) (p:Nat):(pA v L p).length=L.length:=by unfold pA;split <;> simp
theorem zPF (v:Int) (L:List I) (p:Nat):(pB v L p).length=L.length:=by unfold pB;split <;> simp
theorem zQC (v:Int) (X b:List I) (x:I) (p:Nat) (h:p=X.length):pA v (X++x::b) p=X++({x.1 with a:=v},x.2)::b:=by
 subst h;unfold pA;rw [uZ (sZ _),iY,qZ];exact zAK X _ _ b X.length rfl
theorem zPo (v:Int) (X c:List I) (x:I) (p:Nat) (h:p=X.length):pB v (X++x::c) p=X++({x.1 with b:=v},x.2)::c:=by
 subst h;unfold pB;rw [uZ (sZ _),iY,qZ];exact zAK X _ _ c X.length rfl
theorem zQg (v:Int) (L:List I) (p:Nat) (h:p<L.length):pA v L p=L.set p ({(L[p]).1 with a:=v},(L[p]).2):=by unfold pA;rw [pZ h]
theorem zRQ (v:Int) (L:List I) (p:Nat) (h:p<L.length):pB v L p=L.set p ({(L[p]).1 with b:=v},(L[p]).2):=by unfold pB;rw [pZ h]
theorem zCM {α:Type} (f:α->Nat->List I) (e:Int):∀ (r:List α) (X:List I) (m:Nat),m=X.length->(jr f r m).foldl (pA e) (X++chB f 0 r m)=X++chB f e r m
 | [],X,m,h=>rfl
 | k::r,X,m,h=>by
  simp only [jr,chB,vZ];rw [zQC e X _ _ m h];have b:(X++ins 13 e 0::f k (m+1))++chB f 0 r (m+1+(f k (m+1)).length)=X++({(ins 13 0 0).1 with a:=e},(ins 13 0 0).2)::(f k (m+1)++chB f 0 r (m+1+(f k (m+1)).length)):=by
   rw [eZ];rfl
  rw [<-b,zCM f e r _ _ (by simp;omega),eZ];rfl
theorem zKw {α:Type} (f:α->Nat->List I) (e:Int) (l:List α) (L:List I) (c:I):(jx f l (L.length+1)).foldl (pA e) (pB e (L++c::QY f 0 l (L.length+1)) L.length)=L++({c.1 with b:=e},c.2)::QY f e l (L.length+1):=by
 rw [zPo e L _ c L.length rfl];cases l with
 | nil=>rfl
 | cons k r =>
  simp only [jx,QY];have d:(L++({c.1 with b:=e},c.2)::f k (L.length+1))++chB f 0 r (L.length+1+(f k (L.length+1)).length)=L++({c.1 with b:=e},c.2)::(f k (L.length+1)++chB f 0 r (L.length+1+(f k (L.length+1)).length)):=sM;rw [<-d,zCM f e r _ _ (by simp;omega)];simp
def OwnC (w:wW) (B:Nat) (v:vW) (cs:List (Nat × Nat × Nat)):Prop:=w.ownsRow B 1 1 v cs.length (cs.map λc=>clV c.1 c.2.1 c.2.2)
theorem zOs:(prog.info? 1).map (λi=>(i.zero,i.size,i.bytes))=some (some Value.nilFunc,1,8):=kR
theorem zEl {ops:Array Oper} {rest:List Oper} {o:Oper} {a:Act} {Q:Exit->Act->wW->Prop} (m:o.guard=none) (s x:Operand) (G:o.op=.call {callee:=.builtin .append,args:=#[s,x],argTypes:=#[297,297]})
  (w:wW) (B:Nat) (C:B<=w.heap.size) (v:vW) (A:List (Nat × Nat × Nat)) (M:a.eval s=v) (e:OwnC w B v A) (g:Nat) (y:Nat × Nat × Nat) (N:a.eval x=U (some ⟨g,0,none⟩) 1 1) (l:w.cell? ⟨g,0,none⟩=some (clV y.1 y.2.1 y.2.2)) (z:True->A.length<=1000)
  (h:∀ d w',OwnC w' B d (A++[y])->w.grownBy w' v.ownBlock->(d.ownBlock=v.ownBlock \/ d.ownBlock=some w.heap.size)->wpList prog ops Q rest (a.put o.dst d) w'):wpList prog ops Q (o::rest) a w:=by
 obtain ⟨R,p,q,r,t⟩:=info_parts zOs;have z:=z trivial;refine wpList_plain m λK D=>?_
 have b:∀ j u,([clV y.1 y.2.1 y.2.2])[j]? = some u->w.cell? ((⟨g,0,none⟩:dW).add j)=some u:=λj u hj=>by
  cases j with
  | zero=>simp only [qZ,Option.some.injEq] at hj;subst hj;exact l
  | succ j=>simp at hj
 obtain ⟨d,w',H,own,F,_,E⟩:=run_append_own_at (P:=prog) w B 297 o.type 1 R _ 1 8 underlying297 p q r t rfl dM v A.length (A.map λc:Nat × Nat × Nat=>clV c.1 c.2.1 c.2.2) e ⟨g,0,none⟩ 1 1 [clV y.1 y.2.1 y.2.2] rfl b (λu hu=>by simp at hu;subst hu;rfl) (by unfold maxLen;omega) oM C;unfold Oper.wp execOp;simp only [G,resolve,invoke,builtin,Sem.run_bind,Sem.run_pure,Result.andThen_ok,List.map_toArray,eY,List.map_nil,M,N,H];refine D _ _ (h d w' ?_ F E);unfold OwnC;rw [dZ,hY];exact own
theorem zMx (w:wW) (y:Nat × Nat × Nat) (B:Nat) (b:B<=w.heap.size):OwnC (w.alloc (Z #[clV y.1 y.2.1 y.2.2] 1)) B (U (some ⟨w.heap.size,0,none⟩) 1 1) [y]:=by
 refine ⟨rfl,.inr ⟨w.heap.size,1,#[clV y.1 y.2.1 y.2.2],rfl,b,heap_alloc_new w _,sZ _,by unfold maxLen;omega,rfl,rfl⟩⟩
theorem OwnC.slice {v:vW} {A:List (Nat × Nat × Nat)} (h:OwnC w B v A):∃ a c,v=U a A.length c:=by
 rcases h.2 with ⟨e,d⟩ | ⟨g,cap,b,e,_⟩
 ·exact ⟨none,0,by rw [e,d]⟩
 ·exact ⟨_,_,e⟩
open Go.RowKit Wf
section
variable (own:Int) (nm:List ByteArray) (av2:Option dW) (m2 cap2:Nat)
def BrC (n:Nat):Prop:=∀ (t:Tr n) (d:vW) (b:List (Tr n × vW)) (c:Option dW) (m cap lo hi k B:Nat) (T:Nat->Nat) (w:wW) (L:List I) (lv:vW) (P:List (Wc.In × vW)),Wr own nm n t->PA n lo hi w t d->m=b.length->b.length<=30->(∀ p ∈ b,Wr own nm n p.1)->(∀ p ∈ b,PA n lo hi w p.1 p.2)->RdQ w c (b.map λp=>(hd n p.1,p.2))->(∀ bb off,c=some ⟨bb,off,none⟩->bb<hi)->En own nm av2 m2 cap2 k B T hi w->WS k B T w (O J own) (U av2 m2 cap2) L lv P->L.length+(VC (cod own nm n) t (b.map (·.1)) L.length).length<=900000 ->
 Calls prog 187 #[pX (some ⟨k,0,none⟩),gX (QP (hd n t) d).toArray,U c m cap] w (WP k B T (O J own) (U av2 m2 cap2) (L++VC (cod own nm n) t (b.map (·.1)) L.length) lv w)
end
theorem RdQ.frq {d:Option dW} {L:List (Wt.Nd × vW)} (h:RdQ w d L) (g:Fr S w w') (j:∀ c b,d=some ⟨c,b,none⟩->c ∉ S):RdQ w' d L:=λi hi=>by
 obtain ⟨c,b,e,l⟩:=h i hi;exact ⟨c,b,e,g.range l (j c b e)⟩
theorem zIR (own:Int) (nm:List ByteArray) (av2:Option dW) (m2 cap2 n:Nat) (ih:PtC own nm av2 m2 cap2 n):BrC own nm av2 m2 cap2 n:=by
 intro t sl N av m cap lo hi k B T w L lv P hw aS hm hl a4 aH a2 aq v aw bp;have al:=zFm own nm av2 m2 cap2 n ih;obtain ⟨sa,sb,sc,rfl⟩:=aS.slice;obtain ⟨y,hy⟩:=xV (cod own nm n t (L.length+1))
 obtain ⟨z,hz⟩:=xV (if N.isEmpty then [Jn zO9] else Qb (cod own nm n) (N.map (·.1)) (L.length+1+y.length+1))
 have aQ:L++VC (cod own nm n) t (N.map (·.1)) L.length=L++ins 12 (L.length+1+y.length+1:Nat) (L.length+1+y.length+1+z.length:Nat)::(y++ins 13 (L.length+1+y.length+1+z.length:Nat) 0::z):=by
  have he:(N.map (·.1)).isEmpty=N.isEmpty:=by cases N <;> rfl
  simp only [VC,hy,he,hz]
 have aG:L.length+1+y.length+1+z.length<=900000:=by
  have:=congrArg List.length aQ;simp only [dZ,fZ] at this;omega
 rw [aQ];have a1:=QJ (oZ _ w) (Z (QP (hd n t) (U sa sb sc)).toArray 159);have bc:=(AtL.new0 w 159 (QP (hd n t) (U sa sb sc))).range;have ap:∀ j,lv.ownBlock=some j->B<=j:=λj e=>(QM aw.own e).1
 have a0:∀ j,lv.ownBlock=some j->j<w.heap.size:=λj e=>(QM aw.own e).2
 have bd:=(St.init v aw).below a1;have aX:hH (∀ (W:wW) (d:vW) (P1:List (Wc.In × vW)),St own nm av2 m2 cap2 k B T hi w lv W (L++[ins 12 0 0]) d P1->Calls prog 87 #[pX (some ⟨k,0,none⟩),gX (QP (hd n t) (U sa sb sc)).toArray] W (WP k B T (O J own) (U av2 m2 cap2) (L++ins 12 0 0::y) d W)):=λW d P1 st=>by
  have hc:cod own nm n t (L++[ins 12 0 0]).length=y:=by rw [<-hy];simp
  have:=ih t (U sa sb sc) lo hi k B T W (L++[ins 12 0 0]) d P1 hw (PA.kept (st.kept ap) n _ _ aS) st.en st.ws (by rw [hc];simp;omega);rw [hc,eZ] at this;exact this
 have aV:hH (∀ (W:wW) (L3:List I) (d:vW) (P1:List (Wc.In × vW)),L3.length=L.length+1+y.length+1->St own nm av2 m2 cap2 k B T hi w lv W L3 d P1->Calls prog 119 #[pX (some ⟨k,0,none⟩),U av m cap] W (WP k B T (O J own) (U av2 m2 cap2) (L3++Qb (cod own nm n) (N.map (·.1)) (L.length+1+y.length+1)) d W)):=λW L3 d P1 hL3 st=>by
  have bt:(Qb (cod own nm n) (N.map (·.1)) (L.length+1+y.length+1)).length<=z.length:=by
   rw [<-hz];cases N with
   | nil=>simp [Qb]
   | cons p r=>simp
  have:=al N av m cap lo hi k B T W L3 d P1 hm hl a4 (λp hp=>PA.kept (st.kept ap) n _ _ (aH p hp)) (a2.frq st.fr (λbb ai e hmm=>by
   have h9:=aq bb ai e;have:=v.hk;have:=v.kB;rcases List.mem_cons.1 hmm with q | q
   ·omega
   ·have:=ap bb (by simpa using q);omega)) (λ_ bb ai e j ej=>by have:=aq bb ai e;have:=v.hk;have:=v.kB;have:=(QM st.ws.own ej).1;omega) (λ_ bb ai e=>by have:=aq bb ai e;have:=v.hk;have:=v.kB;have:=st.en.hB;omega) st.en st.ws (by rw [hL3];omega)
  rw [hL3] at this;exact this
 have HZ:hH ((m=0->N=[]/\z=[Jn zO9]/\Qb (cod own nm n) (N.map (·.1)) (L.length+1+y.length+1)=[])/\(m ≠ 0->Qb (cod own nm n) (N.map (·.1)) (L.length+1+y.length+1)=z)):=by
  refine ⟨λh=>?_,λh=>?_⟩
  ·have hp:N=[]:=List.eq_nil_of_length_eq_zero oM;subst hp;exact ⟨rfl,hz.symm,rfl⟩
  ·rw [<-hz];cases N with
   | nil=>simp at hm;omega
   | cons p r=>simp
 have A:=hid aG;generalize Qb (cod own nm n) (N.map (·.1)) (L.length+1+y.length+1)=sq at *;generalize hd n t=x at *;have E:=hid bd;have aD:=hid bc;have aW:hH (k<w.heap.size/\∀ j,lv.ownBlock=some j->j<w.heap.size):=⟨by have:=v.kB;have:=v.hB;omega,a0⟩
 clear hy hz aQ bp aG hw aS hm hl a4 aH a2 aq v aw ih al a1 ap a0 bd bc;go_enter func187,ntmps187;go_upto_region 1 with fail
 generalize (w.alloc (Z (QP x (U sa sb sc)).toArray 159))=W at *;have LA:=Qy k B T (ins 12 0 0).1 _ _ L lv P W E.out.ws E.out.en.kB E.out.en.hB (by have:=A.out;omega);go_wp2_with (first | (refine Qo rfl 12 rfl ?_))
 refine LA.mono ?_;rintro e w1 ⟨⟨d,P1,rfl,be,a6⟩,aP⟩;have ac:hH (St own nm av2 m2 cap2 k B T hi w lv w1 (L++[ins 12 0 0]) d P1):=E.out.step aP a6 be;have aE:=hid (aP.range aD.out (λhm=>by
  rcases List.mem_cons.1 hm with q | q
  ·have:=aW.out.1;omega
  ·have:=aW.out.2 w.heap.size (by simpa using q);omega))
 clear LA be a6 aP E aD;have LT:=zBO k B 206 T _ _ _ d P1 w1 ac.out.ws sM (by have:=A.out;simp;omega);rw [show (L++[ins 12 0 0]).length - 1=L.length from by simp] at LT;go_wp2_with fail
 refine LT.mono ?_;rintro e w2 ⟨⟨bn,bo,bm,rfl,a7⟩,aR⟩;have ad:=hid (ac.out.below aR);have aF:=hid (QG aR aE.out);have ab:=hid a7;clear LT a7 aR ac aE;have LT:=zBO k B 207 T _ _ _ d P1 w2 ad.out.ws sM (by have:=A.out;simp;omega);rw [show (L++[ins 12 0 0]).length - 1=L.length from by simp] at LT;go_wp2_with fail
 refine LT.mono ?_;rintro e w3 ⟨⟨aL,aN,aJ,rfl,a8⟩,ar⟩;have ae:=hid (ad.out.below ar);have rP:=QG ar aF.out;have C:=hid (ab.out.below ar);have g:=hid a8;clear LT a8 ar ad aF ab;have PT:=aX.out w3 d P1 ae.out;go_wp2_with (first | (refine QB (by rfl) 159 (mX 4) rfl w.heap.size 0 rfl (QP x (U sa sb sc)) _ rP underlying159 rfl kR ?_))
 refine PT.mono ?_;rintro e w4 ⟨⟨bq,P4,rfl,bf,ax⟩,aj⟩;have F:=hid (ae.out.step aj ax bf);have ab:=hid (C.out.step aj ax);have b:=hid (g.out.step aj ax);clear PT rP bf ax aj ae C g aX;have JU:=zHd k B T _ _ _ bq P4 w4 F.out.ws F.out.en.kB F.out.en.hB (by have:=A.out;simp;omega);go_wp2_with fail
 refine JU.mono ?_;rintro e w5 ⟨⟨aM,aO,aK,a5,P5,rfl,a9,_,bg,ay⟩,ak⟩;have X:=hid (F.out.step ak ay bg);have C:=hid (ab.out.step ak ay);have g:=hid (b.out.step ak ay);have u:=hid a9;clear JU a9 bg ay ak F ab b;have CA:=pdA k B T _ _ _ (L++ins 12 (L.length+1+y.length+1:Nat) 0::(y++[ins 13 0 0])) a5 P5 w5 L.length bn bo bm X.out.ws X.out.en.kB (by have:=A.out;simp;omega) C.out L (y++[ins 13 0 0]) (ins 12 0 0) sM rfl ((L.length+1+y.length+1:Nat):Int) (by simp;omega) rfl;have eg:=zMV;go_wp2_with (first | (go_at_call 222;refine CA.mono ?_;rintro e w6 ⟨⟨P6,rfl,bh⟩,am⟩;clear CA))
 have af:=hid (X.out.patch am bh);have b:=hid (g.out.patch am);have D:=hid (u.out.patch am);clear bh am X C g u;have AL:=aV.out w6 _ a5 P6 (by simp;omega) af.out;refine AL.mono ?_;rintro e w7 ⟨⟨ah,P7,rfl,bj,az⟩,an⟩;have aa:=hid (af.out.step an az bj);have g:=hid (b.out.step an az);have u:=hid (D.out.step an az);clear AL bj az an af b D aV;have aC:hH (∀ (R:wW) (l:vW) (P8:List (Wc.In × vW)),St own nm av2 m2 cap2 k B T hi w lv R (L++ins 12 (L.length+1+y.length+1:Nat) 0::(y++ins 13 0 0::z)) l P8->Pd k R l 206 (L++ins 12 0 0::y).length aM aO aK->Calls prog 222 #[pX (some ⟨aM,0,none⟩),pX (some ⟨aO,0,none⟩),pX (some ⟨aK,0,none⟩)] R λe w'=>(∃ P',e=rX (uX #[])/\WS k B T w' (O J own) (U av2 m2 cap2) (L++ins 12 (L.length+1+y.length+1:Nat) 0::(y++ins 13 (L.length+1+y.length+1+z.length:Nat) 0::z)) l P')/\Fr l.ownBlock.toList R w'):=λR l P8 st pd =>
  pdA k B T _ _ _ _ l P8 R _ aM aO aK st.ws st.en.kB (by have:=A.out;simp;omega) pd (L++ins 12 (L.length+1+y.length+1:Nat) 0::y) z (ins 13 0 0) sM sM ((L.length+1+y.length+1+z.length:Nat):Int) (by simp;omega) (by simp [ins])
 have aB:hH (∀ (R:wW) (l:vW) (P8:List (Wc.In × vW)),St own nm av2 m2 cap2 k B T hi w lv R (L++ins 12 (L.length+1+y.length+1:Nat) 0::(y++ins 13 (L.length+1+y.length+1+z.length:Nat) 0::z)) l P8->Pd k R l 207 L.length aL aN aJ->Calls prog 222 #[pX (some ⟨aL,0,none⟩),pX (some ⟨aN,0,none⟩),pX (some ⟨aJ,0,none⟩)] R λe w'=>(∃ P',e=rX (uX #[])/\WS k B T w' (O J own) (U av2 m2 cap2) (L++ins 12 (L.length+1+y.length+1:Nat) (L.length+1+y.length+1+z.length:Nat)::(y++ins 13 (L.length+1+y.length+1+z.length:Nat) 0::z)) l P')/\Fr l.ownBlock.toList R w'):=λR l P8 st pd =>
  pdB k B T _ _ _ _ l P8 R _ aL aN aJ st.ws st.en.kB (by have:=A.out;simp;omega) pd L (y++ins 13 (L.length+1+y.length+1+z.length:Nat) 0::z) (ins 12 (L.length+1+y.length+1:Nat) 0) rfl rfl ((L.length+1+y.length+1+z.length:Nat):Int) (by simp;omega) rfl
 by_cases h0:m=0
 ·subst h0;obtain ⟨_,z1,z2⟩:=HZ.out.1 rfl;have ag:hH (St own nm av2 m2 cap2 k B T hi w lv w7 (L++ins 12 (L.length+1+y.length+1:Nat) 0::(y++[ins 13 0 0])) ah P7):=by
   have:=aa.out;rw [z2,List.append_nil] at this;exact this
  have aZ:=hid z1;have TR:=zAY false w7;unfold vlV at TR;clear z1 z2 aa HZ;go_wp2_with fail
  refine TR.mono ?_;rintro e R ⟨rfl,au⟩;have G:=hid (ag.out.below au);have b:=hid (g.out.below au);have D:=hid (u.out.below au);have PU:=zEp k B T (Qc false) _ _ _ ah P7 R G.out.ws G.out.en.kB G.out.en.hB (by have:=A.out;simp;omega);clear TR au ag g u;generalize a3:Qc false=vt at *;have aY:=hid a3;clear a3;go_wp2_with fail
  refine PU.mono ?_;rintro e w9 ⟨⟨aT,P9,rfl,bk,aA⟩,ao⟩;have o:hH (St own nm av2 m2 cap2 k B T hi w lv w9 (L++ins 12 (L.length+1+y.length+1:Nat) 0::(y++ins 13 0 0::z)) aT P9):=by
   have h9:=G.out.step ao aA bk;rw [<-aY.out,show Qc false=zO9 from rfl] at h9;rw [aZ.out];have e9:(L++ins 12 (L.length+1+y.length+1:Nat) 0::(y++[ins 13 0 0]))++[Jn zO9]=L++ins 12 (L.length+1+y.length+1:Nat) 0::(y++ins 13 0 0::[Jn zO9]):=sM;rw [e9] at h9;exact h9
  have g:=hid (b.out.step ao aA);have u:=hid (D.out.step ao aA);clear PU bk aA ao G b D aZ aY;have CA:=aC.out w9 aT P9 o.out u.out;go_upto_region 10 with (first | (go_at_call 222;refine CA.mono ?_;rintro e aU ⟨⟨aI,rfl,K⟩,s⟩;clear CA))
  have c:=hid (o.out.patch s K);have b:=hid (g.out.patch s);clear K s o g u;have CB:=aB.out aU aT aI c.out b.out;go_wp2_with (first | (go_at_call 222;refine CB.mono ?_;rintro e br ⟨⟨bl,rfl,M⟩,H⟩;clear CB))
  have HR:=hid ((c.out.patch H M).wp);clear M H c b;go_end0
  exact HR.out
 ·have o:hH (St own nm av2 m2 cap2 k B T hi w lv w7 (L++ins 12 (L.length+1+y.length+1:Nat) 0::(y++ins 13 0 0::z)) ah P7):=by
   have h9:=aa.out;rw [HZ.out.2 h0] at h9;have e9:(L++ins 12 (L.length+1+y.length+1:Nat) 0::(y++[ins 13 0 0]))++z=L++ins 12 (L.length+1+y.length+1:Nat) 0::(y++ins 13 0 0::z):=sM;rw [e9] at h9;exact h9
  have bs:¬ (m:Int)=0:=oM;clear aa HZ;have CA:=aC.out w7 ah P7 o.out u.out;go_upto_region 10 with (first | (go_at_call 222;refine CA.mono ?_;rintro e aU ⟨⟨aI,rfl,K⟩,s⟩;clear CA))
  have c:=hid (o.out.patch s K);have b:=hid (g.out.patch s);clear K s o g u;have CB:=aB.out aU ah aI c.out b.out;go_wp2_with (first | (go_at_call 222;refine CB.mono ?_;rintro e br ⟨⟨bl,rfl,M⟩,H⟩;clear CB))
  have HR:=hid ((c.out.patch H M).wp);clear M H c b;go_end0
  exact HR.out
open Go.RowKit Wf
def PdL (k:Nat) (w:wW) (lv:vW) (es:List (Nat × Nat)) (cs:List (Nat × Nat × Nat)):Prop:=es.length=cs.length/\∀ j (h:j<es.length) (b:j<cs.length),Pd k w lv (es[j]).1 (es[j]).2 (cs[j]).1 (cs[j]).2.1 (cs[j]).2.2
def V7 (cs:List (Nat × Nat × Nat)):List Nat:=cs.flatMap λc=>[c.1,c.2.1,c.2.2]
theorem PdL.mapP (h:PdL k w lv es cs) (b:∀ f a b1 b2 b3,(b1,b2,b3) ∈ cs->Pd k w lv f a b1 b2 b3->Pd k w' lv' f a b1 b2 b3):PdL k w' lv' es cs:=⟨h.1,λj h1 h2=>b _ _ _ _ _ (nZ h2) (h.2 j h1 h2)⟩
theorem PdL.snoc (h:PdL k w lv es cs) {q:Nat × Nat} {c:Nat × Nat × Nat} (m:Pd k w lv q.1 q.2 c.1 c.2.1 c.2.2):PdL k w lv (es++[q]) (cs++[c]):=by
 refine ⟨by simp [h.1],λj l o=>?_⟩;by_cases b:j<es.length
 ·rw [hZ b,hZ (by rw [<-h.1];exact b)];exact h.2 j b _
 ·have e:j=es.length:=by simp at l;omega
  subst e;have d:(es++[q])[es.length]=q:=sM;have g:(cs++[c])[es.length]=c:=by simp [h.1]
  rw [d,g];exact m
theorem zNV {c:Int} {j:List Int} (h:OwnZ w B tv (c::j)) {b:Nat} {u:vW} (d:w.cell? ⟨b,0,none⟩=some u) (g:u ≠ O J c):¬ tv.ownBlock=some b:=λe=>by
 have:=h.cells e 0 (O J c) rfl;have e0:(⟨b,0,none⟩:dW).add 0=⟨b,0,none⟩:=rfl;rw [e0,d] at this;exact g (by simpa using this)
theorem Pd.ne_to {a b1 b2 b3:Nat} (h:Pd k w lv f a b1 b2 b3) {B:Nat} {tv:vW} {d:Int} {j:List Int} (c:OwnZ w B tv (d::j)) (g:d ≠ (a:Int)):∀ b ∈ [b1,b2,b3],¬ tv.ownBlock=some b:=λb hb=>by
 simp at hb;rcases hb with rfl | rfl | rfl
 ·exact zNV c h.c1 sM
 ·exact zNV c h.c2 sM
 ·exact zNV c h.c3 (by simpa using λe=>g e.symm)
theorem zMw (k B:Nat) (T:Nat->Nat) (x:Wc.In) (s0 s1:vW) (L:List I) (lv:vW) (P:List (Wc.In × vW)) (w:wW) (h:WS k B T w s0 s1 L lv P) (m:k<B) (t:B<=w.heap.size) (v:L.length<=1000000) :
  Calls prog 88 #[pX (some ⟨k,0,none⟩),gX (QF x QO).toArray] w λe w'=>(∃ lv' P',e=rX (uX #[])/\WS k B T w' s0 s1 (L++[(x,[])]) lv' P'/\Nx w lv lv'/\∀ h:L.length<P'.length,(P'[L.length]).2=QO)/\Fr (k::lv.ownBlock.toList) w w':=by
 have d:=zJu k B x s0 s1 lv P w h.at' h.own m t (by rw [h.len];exact v);have o:=Qy k B T x s0 s1 L lv P w h m t v;refine d.mono ?_;rintro e w' ⟨⟨lv',rfl,A,E,D⟩,u⟩;have p:WS k B T w' s0 s1 (L++[(x,[])]) lv' (P++[(x,QO)]):=by
  refine ⟨A,E,by simp [h.len],λi d o=>?_,h.tb,λi j d o b l g=>?_⟩
  ·by_cases hi:i<P.length
   ·have c:i<L.length:=by rw [<-h.len];exact hi
    rw [hZ hi,hZ c];refine ⟨(h.ins i hi c).1,Q2 u (h.ins i hi c).2 (λb e C=>?_)⟩;rcases List.mem_cons.1 C with q | q
    ·have:=(QM (h.ins i hi c).2 e).1;have:=h.tb i;omega
    ·exact JR (h.ins i hi c).2 h.own dM e (by simpa using q)
   ·have l:i=P.length:=by simp at d;omega
    subst l;have g:(P++[(x,QO)])[P.length]=(x,QO):=sM;have z:(L++[(x,([]:List Int))])[P.length]=(x,[]):=by simp [h.len]
    rw [g,z];exact ⟨rfl,OwnZ.nil _ _⟩
  ·have y:∀ i (d:i<(P++[(x,QO)]).length),((P++[(x,QO)])[i]).2.ownBlock=some b->i<P.length:=λi d e=>by
    rcases Nat.lt_or_ge i P.length with q | q
    ·exact q
    ·have e0:i=P.length:=by simp at d;omega
     subst e0;have g:(P++[(x,QO)])[P.length]=(x,QO):=sM;rw [g] at e;cases e
   have r:=y i d l;have s:=y j o g;rw [hZ r] at l;rw [hZ s] at g;exact h.dis i j r s b l g
 exact ⟨⟨lv',P++[(x,QO)],rfl,p,D,λ_=>by simp [<-h.len]⟩,u⟩
theorem St.other {w0:wW} {lv0:vW} (h:St own nm av2 m2 cap2 k B T hi w0 lv0 w L lv P) {S:List Nat} (f:Fr S w w') (d:∀ j ∈ S,w0.heap.size<=j/\k<j) (e:∀ j,lv.ownBlock=some j->j ∉ S) (g:∀ i (h:i<P.length) b,(P[i]).2.ownBlock=some b->b ∉ S):St own nm av2 m2 cap2 k B T hi w0 lv0 w' L lv P :=
 ⟨h.en.fr f (λj c=>Nat.le_of_lt (d j c).2),h.ws.fr f (λhm=>by have:=(d k hm).2;omega) e g,h.nx,h.fr.new f (λj c=>Or.inr (d j c).1)⟩
abbrev C0:Wc.In:=⟨15,0,0,v0I,c0I,a0I,a0I⟩
structure ChS (own:Int) (nm:List ByteArray) (av2:Option dW) (m2 cap2 k B:Nat) (T:Nat->Nat) (hi n:Nat) (w:wW) (lv:vW) (L:List I) (ks:List (Tr n)) (b1 b2 b3 i:Nat) (wr:wW) (ev lvi:vW) (Pi:List (Wc.In × vW)) (cs:List (Nat × Nat × Nat)):Prop where
 st:St own nm av2 m2 cap2 k B T hi w lv wr (L++(C0,toC (cod own nm n) (ks.take i) (L.length+1))::QY (cod own nm n) 0 (ks.take i) (L.length+1)) lvi Pi
 oc:OwnC wr B ev cs
 pb:Pd k wr lvi 209 L.length b1 b2 b3
 pl:PdL k wr lvi ((207,L.length)::(jx (cod own nm n) (ks.take i) (L.length+1)).map (λp=>(206,p))) cs
 ne:∀ b ∈ [b1,b2,b3]++V7 cs,¬ ev.ownBlock=some b
 eb:∀ j,ev.ownBlock=some j->w.heap.size<=j
 nl:i=0->∀ h:L.length<Pi.length,(Pi[L.length]).2=QO
section
variable {own:Int} {nm:List ByteArray} {av2:Option dW} {m2 cap2 k B hi n:Nat} {T:Nat->Nat} {w:wW} {lv:vW} {L:List I} {ks:List (Tr n)} {b1 b2 b3 i:Nat} {wr:wW} {ev lvi:vW} {Pi:List (Wc.In × vW)} {cs:List (Nat × Nat × Nat)}
theorem zLL {cs:List (Nat × Nat × Nat)} {c d e b:Nat} (h:(c,d,e) ∈ cs) (g:b ∈ [c,d,e]):b ∈ V7 cs:=List.mem_flatMap.2 ⟨(c,d,e),h,g⟩
theorem ChS.below {w':wW} (h:ChS own nm av2 m2 cap2 k B T hi n w lv L ks b1 b2 b3 i wr ev lvi Pi cs) (b:bL wr w'):ChS own nm av2 m2 cap2 k B T hi n w lv L ks b1 b2 b3 i w' ev lvi Pi cs :=
 ⟨h.st.below b,Q2 (Fr.of_below [] b) h.oc sM,h.pb.below b,h.pl.mapP (λf a c d e _ p=>p.below b),h.ne,h.eb,h.nl⟩
theorem zEG {w':wW} (b:OwnC wr B ev cs) (g:WS k B T wr (O J own) (U av2 m2 cap2) L lvi Pi) (c:k<B) (f:Fr (k::lvi.ownBlock.toList) wr w'):OwnC w' B ev cs :=
 Q2 f b (λj e d=>by
  rcases List.mem_cons.1 d with q | q
  ·have:=(QM b e).1;omega
  ·exact JR b g.own dM e (by simpa using q))
end
theorem zFX (own:Int) (nm:List ByteArray) (av2:Option dW) (m2 cap2 k B:Nat) (T:Nat->Nat) (hi:Nat) (w:wW) (lv:vW) (L c:List I) (m:List Int) (b1 b2 b3:Nat) (wr:wW) (ev lvi:vW) (Pi:List (Wc.In × vW)) (es:List (Nat × Nat)) (cs:List (Nat × Nat × Nat))
  (d:St own nm av2 m2 cap2 k B T hi w lv wr (L++(C0,m)::c) lvi Pi) (N:OwnC wr B ev cs) (A:Pd k wr lvi 209 L.length b1 b2 b3) (pl:PdL k wr lvi es cs) (ne:∀ b ∈ [b1,b2,b3]++V7 cs,¬ ev.ownBlock=some b) (hl:(L++(C0,m)::c).length<=900000) (aa:m.length<=1000)
  (K:(m=[]/\∀ h:L.length<Pi.length,(Pi[L.length]).2=QO) \/ ∃ r,m=((L.length+1:Nat):Int)::r) (F:∀ q ∈ es,q.2 ≠ L.length+1) (E:w.heap.size<=T L.length) :
  Calls prog 222 #[pX (some ⟨b1,0,none⟩),pX (some ⟨b2,0,none⟩),pX (some ⟨b3,0,none⟩)] wr λe w'=>(∃ P',e=rX (uX #[])/\St own nm av2 m2 cap2 k B T hi w lv w' (L++(C0,m++[((L++(C0,m)::c).length:Int)])::c) lvi P'/\OwnC w' B ev cs/\Pd k w' lvi 209 L.length b1 b2 b3/\PdL k w' lvi es cs)/\Fr (lvi.ownBlock.toList++(Pi[L.length]'(by rw [d.ws.len];simp)).2.ownBlock.toList) wr w':=by
 have u:L.length<(L++(C0,m)::c).length:=sM;have l:L.length<Pi.length:=by rw [d.ws.len];exact u
 have M:(L++(C0,m)::c)[L.length]=(C0,m):=sM;have v:=(d.ws.ins L.length l u).2;rw [M] at v;have y:∀ (f a o s t:Nat),Pd k wr lvi f a o s t->a ≠ L.length+1->∀ b ∈ [o,s,t],b ∉ lvi.ownBlock.toList++(Pi[L.length]).2.ownBlock.toList:=λf a o s t p ha b hb H=>by
  rcases List.mem_append.1 H with q | q
  ·exact (p.bd b hb).2.2 (by simpa using q)
  ·have R:(Pi[L.length]).2.ownBlock=some b:=by simpa using q
   rcases K with ⟨_,D⟩ | ⟨r,D⟩
   ·rw [D l] at R;cases R
   ·rw [D] at v;exact p.ne_to v oM b hb R
 have hT:=zOV k B T _ _ _ lvi Pi wr L.length b1 b2 b3 d.ws d.en.kB (d.en.tl _) oM u l (by rw [M];simp only;omega) A.c1 A.c2 A.c3 (y _ _ _ _ _ A oM);refine hT.mono ?_;rintro e w' ⟨⟨ac,rfl,C,ab⟩,g⟩;rw [M,zAK L _ _ c L.length rfl] at C;have G:∀ j ∈ lvi.ownBlock.toList++(Pi[L.length]).2.ownBlock.toList,B<=j:=λj x=>by
  rcases List.mem_append.1 x with q | q
  ·exact (QM d.ws.own (show lvi.ownBlock=some j by simpa using q)).1
  ·have:=(QM v (show (Pi[L.length]).2.ownBlock=some j by simpa using q)).1;have:=d.ws.tb L.length;omega
 have z:∀ (f a o s t:Nat),Pd k wr lvi f a o s t->a ≠ L.length+1->Pd k w' lvi f a o s t:=λf a o s t p ha=>p.fr g (y f a o s t p ha) (λb hb=>(p.bd b hb).2.2)
 refine ⟨⟨_,rfl,⟨d.en.fr g (λj x=>by have:=G j x;have:=d.en.kB;omega),C,d.nx,?_⟩,Q2 g N (λj e H=>?_),z _ _ _ _ _ A oM,?_⟩,g⟩
 ·refine d.fr.new g (λj x=>?_);rcases List.mem_append.1 x with q | q
  ·rcases d.nx j (by simpa using q) with r | r
   ·exact Or.inl (kZ _ (by simp [r]))
   ·exact Or.inr r
  ·exact Or.inr (jZ E (QM v (show (Pi[L.length]).2.ownBlock=some j by simpa using q)).1)
 ·rcases List.mem_append.1 H with q | q
  ·exact JR N d.ws.own dM e (by simpa using q)
  ·exact JR N v dM e (by simpa using q)
 ·refine ⟨pl.1,λj W X=>z _ _ _ _ _ (pl.2 j W X) (F _ (nZ W))⟩
open Go.RowKit Wf
section
variable (own:Int) (nm:List ByteArray) (av2:Option dW) (m2 cap2:Nat)
def ChC (n:Nat):Prop:=∀ (b:List (Tr n × vW)) (c:Option dW) (m cap lo hi k B:Nat) (T:Nat->Nat) (w:wW) (L:List I) (lv:vW) (P:List (Wc.In × vW)),m=b.length->b.length<=30->(∀ p ∈ b,Wr own nm n p.1)->(∀ p ∈ b,PA n lo hi w p.1 p.2)->RdQ w c (b.map λp=>(hd n p.1,p.2))->(∀ bb off,c=some ⟨bb,off,none⟩->bb<hi)->En own nm av2 m2 cap2 k B T hi w->WS k B T w (O J own) (U av2 m2 cap2) L lv P->L.length+(Ju (cod own nm n) (b.map (·.1)) L.length).length<=900000 ->
 Calls prog 189 #[pX (some ⟨k,0,none⟩),U c m cap] w (WP k B T (O J own) (U av2 m2 cap2) (L++Ju (cod own nm n) (b.map (·.1)) L.length) lv w)
end
theorem zFP {b:Nat->Nat} (h:WS k B T w s0 s1 L lv P) (m:∀ i,B<=b i) (p:∀ i,i<L.length->b i<=T i):WS k B b w s0 s1 L lv P :=
 ⟨h.at',h.own,h.len,λi j d=>⟨(h.ins i j d).1,by
  have l:=(h.ins i j d).2;refine ⟨l.1,?_⟩;rcases l.2 with q | ⟨g,cap,c,e,o,q⟩
  ·exact Or.inl q
  ·exact Or.inr ⟨g,cap,c,e,jZ (p i d) o,q⟩⟩,m,h.dis⟩
theorem zNa {α:Type} (f:α->Nat->List I) (l:List α) (i:Nat) (h:i<l.length) (a:Nat):(QY f 0 (l.take i) a).length+(f l[i] (a+(QY f 0 (l.take i) a).length+(if i=0 then 0 else 1))).length+(if i=0 then 0 else 1)<=(QY f 0 l a).length:=by
 have mono:∀ (p q:List α),(QY f 0 p a).length<=(QY f 0 (p++q) a).length:=by
  intro p q;cases p with
  | nil=>simp [QY]
  | cons k r =>
   simp only [gZ,QY,dZ];have:∀ (r q:List α) (m:Nat),(chB f 0 r m).length<=(chB f 0 (r++q) m).length:=by
    intro r;induction r with
    | nil=>intro q m;simp [chB]
    | cons x r j =>
     intro q m;simp only [gZ,chB,fZ,dZ];have:=j q (m+1+(f x (m+1)).length);omega
   have:=this r q (a+(f k a).length);omega
 have d:l=l.take (i+1)++l.drop (i+1):=(xZ _ _).symm;have c:=mono (l.take (i+1)) (l.drop (i+1));rw [<-d] at c;refine jZ ?_ c;rw [iZ h];by_cases hi:i=0
 ·subst hi;simp [QY]
 ·have b:l.take i ≠ []:=λe=>by
   have g:(l.take i).length=0:=by rw [e];rfl
   rw [tZ] at g;omega
  rw [zDD f 0 _ _ b,if_neg hi];simp only [dZ,fZ];omega
theorem zJ8 {t:TypeId} {b:Nat}:∀ (vs:List vW) (o:Nat) (W:wW) (c:Array vW),W.heap[b]? = some (Z c t)->∃ cur',(W.setCells b o vs).heap[b]? = some (Z cur' t)
 | [],o,W,c,h=>⟨c,h⟩
 | v::r,o,W,c,h=>zJ8 r (o+1) _ _ (heap_setCell_same W b o c t v h)
theorem zIu {g n:Nat} {s:List vW} (h:w.ownsRow B g k tv n s) (o:¬ 159=g) {b:Nat} {c:Array vW} (p:w.heap[b]? = some (Z c 159)):¬ tv.ownBlock=some b:=λe=>by
 rcases h.2 with ⟨q,_⟩ | ⟨m,t,j,r,_,d,_⟩
 ·rw [q] at e;cases e
 ·rw [r] at e;have l:m=b:=by simpa [Value.ownBlock] using e
  rw [l,p] at d;simp only [Option.some.injEq,Obj.cells.injEq] at d;exact o d.2.1
theorem zI8 (f:Fr S w w') {b:Nat} {c:Array vW} (d:w.heap[b]? = some (Z c 159)) (e:b ∉ S):w'.heap[b]? = some (Z c 159):=by
 rw [f.block b (Array.getElem?_eq_some_iff.1 d).1 e];exact d
def pXpX0 (v:Int) (L:List I) (q:Nat × Nat):List I:=if q.1=207 then pB v L q.2 else pA v L q.2
theorem zPj (v:Int) (L:List I) (q:Nat × Nat):(pXpX0 v L q).length=L.length:=by
 unfold pXpX0;split
 ·exact zPF v L q.2
 ·exact zOk v L q.2
theorem zJt (v:Int):∀ (es:List (Nat × Nat)) (L:List I),(es.foldl (pXpX0 v) L).length=L.length
 | [],L=>rfl
 | q::r,L=>by rw [vZ,zJt v r,zPj]
theorem zMt (k B:Nat) (T:Nat->Nat) (s0 s1:vW) (L:List I) (lv:vW) (P:List (Wc.In × vW)) (w:wW) (q:Nat × Nat) (o:q.1=206 \/ q.1=207) (bi bw ba:Nat) (h:WS k B T w s0 s1 L lv P) (g:k<B) (m:L.length<=1000000) (d:Pd k w lv q.1 q.2 bi bw ba) (c:q.2<L.length) :
  Calls prog 222 #[pX (some ⟨bi,0,none⟩),pX (some ⟨bw,0,none⟩),pX (some ⟨ba,0,none⟩)] w λe w'=>(∃ P',e=rX (uX #[])/\WS k B T w' s0 s1 (pXpX0 (L.length:Int) L q) lv P')/\Fr lv.ownBlock.toList w w':=by
 obtain ⟨p,l⟩:=q;simp only at o d c;have j:∀ b,lv.ownBlock=some b->bi ≠ b/\bw ≠ b/\ba ≠ b:=λb e=>⟨λq=>(d.bd bi sM).2.2 (by rw [q];exact e),λq=>(d.bd bw sM).2.2 (by rw [q];exact e),λq=>(d.bd ba sM).2.2 (by rw [q];exact e)⟩
 rcases o with rfl | rfl
 ·have:=zE7 k B T s0 s1 L lv P w l bi bw ba h g m c d.c1 d.c2 d.c3 j;rw [<-zQg _ L l c] at this;exact this
 ·have:=zHq k B T s0 s1 L lv P w l bi bw ba h g m c d.c1 d.c2 d.c3 j;rw [<-zRQ _ L l c] at this;exact this
theorem zMT {α:Type} (f:α->Nat->List I):∀ (r:List α) (m:Nat),(jr f r m).length=r.length
 | [],m=>rfl
 | k::r,m=>by simp [jr,zMT f r]
theorem zMc {α:Type} (f:α->Nat->List I) (l:List α) (a:Nat):(jx f l a).length<=l.length:=by
 cases l with
 | nil=>simp [jx]
 | cons k r=>simp [jx,zMT]
theorem zHF (own:Int) (nm:List ByteArray) (av2:Option dW) (m2 cap2 n:Nat) (ih:PtC own nm av2 m2 cap2 n) (aL:∀ (t:Tr n) (a:Nat),Wr own nm n t->0<(cod own nm n t a).length):ChC own nm av2 m2 cap2 n:=by
 intro ps av m cap lo hi k B T0 w L lv P D hl a7 bn cl ca l ap ar;obtain ⟨T,aE⟩:∃ T:Nat->Nat,T=λi=>if i=L.length then w.heap.size else T0 i:=⟨_,rfl⟩
 have b9:T L.length=w.heap.size:=by rw [aE];simp
 have bA:∀ i,T0 i<=T i:=λi=>by
  rw [aE];by_cases h:i=L.length
  ·simp only [h,if_true];exact l.tl _
  ·simp [h]
 have b8:∀ i,B<=T i:=λi=>jZ (ap.tb i) (bA i)
 have af:En own nm av2 m2 cap2 k B T hi w:=⟨l.na,l.rs,l.hm,l.hl,l.rk,l.gk,l.hk,l.kB,l.hB,λi=>by
  rw [aE];by_cases h:i=L.length
  ·simp [h]
  ·simp [h];exact l.tl i⟩
 have a8:=zFP ap b8 (λi hi=>by rw [aE];simp [show ¬ i=L.length from by omega]);obtain ⟨ks,ag⟩:=xV (ps.map (·.1))
 have ci:ks.length=ps.length:=by rw [<-ag,wZ]
 rw [ag] at ar;rw [ag,zFb];rw [zFb] at ar;simp only [fZ] at ar;rw [zJO (cod own nm n) _ 0] at ar;have bl:∀ (w':wW) (lv':vW) (P':List (Wc.In × vW)),St own nm av2 m2 cap2 k B T hi w lv w' (L++(⟨15,0,(L.length+1+(QY (cod own nm n) 0 ks (L.length+1)).length:Nat),v0I,c0I,a0I,a0I⟩,toC (cod own nm n) ks (L.length+1))::QY (cod own nm n) (L.length+1+(QY (cod own nm n) 0 ks (L.length+1)).length:Nat) ks (L.length+1)) lv' P'->WP k B T0 (O J own) (U av2 m2 cap2) (L++(⟨15,0,(L.length+1+(QY (cod own nm n) 0 ks (L.length+1)).length:Nat),v0I,c0I,a0I,a0I⟩,toC (cod own nm n) ks (L.length+1))::QY (cod own nm n) (L.length+1+(QY (cod own nm n) 0 ks (L.length+1)).length:Nat) ks (L.length+1)) lv w (rX (uX #[])) w':=λw' lv' P' N=>⟨⟨lv',P',rfl,zFP N.ws ap.tb (λi _=>bA i),N.nx⟩,N.fr⟩
 generalize b7:L++(⟨15,0,(L.length+1+(QY (cod own nm n) 0 ks (L.length+1)).length:Nat),v0I,c0I,a0I,a0I⟩,toC (cod own nm n) ks (L.length+1))::QY (cod own nm n) (L.length+1+(QY (cod own nm n) 0 ks (L.length+1)).length:Nat) ks (L.length+1)=LF at *;have bT:hH _:=bl;have cN:hH _:=b7;have R:hH _:=ar;have HM:hH (m=ps.length/\ps.length<=30/\ks.length=ps.length):=⟨D,hl,ci⟩
 have cL:hH (∀ (i:Nat) (h:i<ps.length) (h':i<ks.length),ks[i]=(ps[i]).1):=λi h h'=>by subst ag;rw [mZ]
 have cX:hH _:=a7;have bY:hH _:=bn;have cP:hH _:=cl;have bx:∀ j,lv.ownBlock=some j->B<=j:=λj e=>(QM a8.own e).1
 have cI:hH (∀ bb au,av=some ⟨bb,au,none⟩->bb ∉ k::lv.ownBlock.toList):=λbb au e hmm=>by
  have A:=ca bb au e;have:=af.hk;have:=af.kB;rcases List.mem_cons.1 hmm with q | q
  ·omega
  ·have:=bx bb (by simpa using q);omega
 have HK:hH ((∀ j,lv.ownBlock=some j->B<=j)/\w.heap.size<=T L.length/\B<=w.heap.size):=⟨bx,by rw [b9];exact sZ _,af.hB⟩
 have cK:hH (PtC own nm av2 m2 cap2 n):=ih;have bU:hH (∀ (i:Nat),∀ p ∈ jx (cod own nm n) (ks.take i) (L.length+1),p ≠ L.length+1/\p<L.length+1+(QY (cod own nm n) 0 (ks.take i) (L.length+1)).length):=λi p hp=>by
  cases hk:ks.take i with
  | nil=>rw [hk] at hp;cases hp
  | cons x r =>
   rw [hk] at hp;have hx:Wr own nm n x:=by
    have aI:x ∈ ks:=zZ (by rw [hk];exact fY ..);rw [<-ag] at aI;obtain ⟨p2,aK,rfl⟩:=List.mem_map.1 aI;exact a7 p2 aK
   have h1:=zP1 (cod own nm n) r _ p hp;have h2:=aL x (L.length+1) hx;simp only [QY,dZ];omega
 have cO:hH (∀ (i:Nat),ks.take i ≠ []->0<(QY (cod own nm n) 0 (ks.take i) (L.length+1)).length):=λi hne=>by
  cases hk:ks.take i with
  | nil=>exact absurd hk hne
  | cons x r =>
   have hx:Wr own nm n x:=by
    have aI:x ∈ ks:=zZ (by rw [hk];exact fY ..);rw [<-ag] at aI;obtain ⟨p2,aK,rfl⟩:=List.mem_map.1 aI;exact a7 p2 aK
   have h2:=aL x (L.length+1) hx;simp only [QY,dZ];omega
 have LA:=zMw k B T (ins 15 0 0).1 _ _ L lv P w a8 af.kB af.hB oM;have bj:hH (St own nm av2 m2 cap2 k B T hi w lv w L lv P):=St.init af a8;clear D hl a7 bn cl ca l ap af a8 ar ih aL aE b9 bA b8 ag ci bl b7 bx;go_enter func189,ntmps189;go_wp2_with (first | (refine Qo rfl 15 rfl ?_))
 refine LA.mono ?_;rintro e w1 ⟨⟨aj,P1,rfl,cD,co,cn⟩,b4⟩;have al:hH (St own nm av2 m2 cap2 k B T hi w lv w1 (L++[(C0,[])]) aj P1/\∀ h:L.length<P1.length,(P1[L.length]).2=QO):=⟨bj.out.step b4 co cD,cn⟩
 clear LA cD co b4 cn bj;have LT:=zBO k B 209 T _ _ _ aj P1 w1 al.out.1.ws sM (by have:=R.out;simp;omega);rw [show (L++[(C0,([]:List Int))]).length - 1=L.length from by simp] at LT;go_wp2_with fail
 refine LT.mono ?_;rintro e w2 ⟨⟨b1,b2,b3,rfl,cu⟩,cb⟩;have K:hH (St own nm av2 m2 cap2 k B T hi w lv w2 (L++[(C0,[])]) aj P1/\∀ h:L.length<P1.length,(P1[L.length]).2=QO):=⟨al.out.1.below cb,al.out.2⟩
 have bt:hH (Pd k w2 aj 209 L.length b1 b2 b3):=cu;clear LT cu cb al;have LT:=zBO k B 207 T _ _ _ aj P1 w2 K.out.1.ws sM (by have:=R.out;simp;omega);rw [show (L++[(C0,([]:List Int))]).length - 1=L.length from by simp] at LT;go_wp2_with fail
 refine LT.mono ?_;rintro e w3 ⟨⟨c1,c2,c3,rfl,bO⟩,aF⟩;have bB:=QJ (oZ _ w3) (Z #[clV c1 c2 c3] 1);have bS:hH (ChS own nm av2 m2 cap2 k B T hi n w lv L ks b1 b2 b3 0 (w3.alloc (Z #[clV c1 c2 c3] 1)) (U (some ⟨w3.heap.size,0,none⟩) 1 1) aj P1 [(c1,c2,c3)]):=by
  have cc:=QA aF bB;have da:=bt.out.below cc;have aK:=bO.below bB;have hs:=K.out.1.below cc;refine ⟨by simpa [toC,QY] using hs,zMx w3 (c1,c2,c3) B (K.out.1.below aF).en.hB,da,⟨rfl,λj h1 h2=>?_⟩,λb C e=>?_,λj e=>by cases e;exact (K.out.1.below aF).fr.size,λ_=>K.out.2⟩
  ·have e:j=0:=by simp at h2;omega
   subst e;exact aK
  ·have e2:w3.heap.size=b:=by simpa [Value.ownBlock] using e
   rcases List.mem_append.1 C with q | q
   ·have:=((bt.out.below aF).bd b q).2.1;omega
   ·have q2:b ∈ [c1,c2,c3]:=by simpa [V7] using q
    have:=(bO.bd b q2).2.1;omega
 clear LT bO aF bB K bt;go_upto_region 3 with fail
 generalize (w3.alloc (Z #[clV c1 c2 c3] 1))=W4 at *;generalize a1:(U (some ⟨w3.heap.size,0,none⟩) 1 1)=df at *;clear a1;have eg:=zMV;go_wp2_with fail
 go_loopg [6,7,8,22] m (λgk u6 u7 u8 x wr=>∃ (i:Nat) (ev:vW),ev=u6/\x=O J (i:Int)/\gk=m - i/\i<=m/\hH (∃ lvi Pi cs,ChS own nm av2 m2 cap2 k B T hi n w lv L ks b1 b2 b3 i wr ev lvi Pi cs))
 case atStart=>exact ⟨0,_,rfl,rfl,rfl,gY _,⟨aj,P1,[(c1,c2,c3)],bS.out⟩⟩
 case round =>
  clear bS;obtain ⟨i,ev,rfl,rfl,hg,di,HS⟩:=hrel;by_cases cj:i<m
  ·have c9:(i:Int)<(m:Int):=oM;have dj:(0:Int)<=(i:Int):=oM;have dl:J.wrap ((i:Int)+1)=(i:Int)+1:=by have:=HM.out;rw [IntKind.wrap_i64];omega
   have a3:i<ps.length:=by have:=HM.out;omega
   have a2:i<ks.length:=by have:=HM.out;omega
   obtain ⟨lvi,Pi,cs,o⟩:=HS.out;obtain ⟨bb,au,rfl,bJ⟩:=cP.out i (by simpa using a3);simp only [mZ] at bJ;have hr:=o.st.fr.range bJ (cI.out bb au rfl);have a5:=nZ a3;obtain ⟨sa,sb,sc,bK⟩:=(bY.out _ a5).slice;have bH:=zNa (cod own nm n) ks i a2 (L.length+1);have bF:=cL.out i a3 a2;have aX:hH (ks.take (i+1)=ks.take i++[(ps[i]).1]):=by show _=_;rw [iZ a2,bF]
   rw [bF] at bH;have bu:hH (∀ (W:wW) (Lx:List I) (a9:vW) (Px:List (Wc.In × vW)),St own nm av2 m2 cap2 k B T hi w lv W Lx a9 Px->Lx.length+(cod own nm n (ps[i]).1 Lx.length).length<=900000->Calls prog 87 #[pX (some ⟨k,0,none⟩),gX (QP (hd n (ps[i]).1) (U sa sb sc)).toArray] W (WP k B T (O J own) (U av2 m2 cap2) (Lx++cod own nm n (ps[i]).1 Lx.length) a9 W)):=λW Lx a9 Px N C=>by
    have:=cK.out (ps[i]).1 (ps[i]).2 lo hi k B T W Lx a9 Px (cX.out _ a5) (PA.kept (N.kept HK.out.1) n _ _ (bY.out _ a5)) N.en N.ws C;rw [bK] at this;exact this
   rw [bK] at hr;have aR:hH ((QY (cod own nm n) 0 (ks.take i) (L.length+1)).length+(cod own nm n (ps[i]).1 (L.length+1+(QY (cod own nm n) 0 (ks.take i) (L.length+1)).length+(if i=0 then 0 else 1))).length+(if i=0 then 0 else 1)<=(QY (cod own nm n) 0 ks (L.length+1)).length):=bH;obtain ⟨tk,ai⟩:∃ t,(ps[i]).1=t:=⟨_,rfl⟩
   rw [ai] at aX bu aR hr;generalize hd n tk=y at *;have cm:World.there (wr.alloc (Z zeros21 159)) wr.heap.size 0 (QP y (U sa sb sc)).toArray.size:=(AtL.new0 wr _ _:AtL (wr.alloc (Z zeros21 159)) wr.heap.size zeros21.toList).there;have aW:hH (AtL ((wr.alloc (Z zeros21 159)).setCells wr.heap.size 0 (QP y (U sa sb sc))) wr.heap.size (QP y (U sa sb sc))):=(AtL.new0 wr _ _:AtL (wr.alloc (Z zeros21 159)) wr.heap.size zeros21.toList).setAll rfl;have bv:hH (∃ aY,((wr.alloc (Z zeros21 159)).setCells wr.heap.size 0 (QP y (U sa sb sc))).heap[wr.heap.size]? = some (Z aY 159)):=zJ8 _ 0 _ _ (heap_alloc_new wr _);have b6:bL wr ((wr.alloc (Z zeros21 159)).setCells wr.heap.size 0 (QP y (U sa sb sc))):=Qm (QJ (oZ _ wr) _) (sZ _) _ 0;have ax:hH (ChS own nm av2 m2 cap2 k B T hi n w lv L ks b1 b2 b3 i ((wr.alloc (Z zeros21 159)).setCells wr.heap.size 0 (QP y (U sa sb sc))) ev lvi Pi cs/\k<wr.heap.size/\wr.heap.size<((wr.alloc (Z zeros21 159)).setCells wr.heap.size 0 (QP y (U sa sb sc))).heap.size/\(∀ j,lvi.ownBlock=some j->j<wr.heap.size)/\cs.length<=31):=⟨o.below b6,by have:=o.st.en.kB;have:=o.st.en.hB;omega,aW.out.lt,λj e=>(QM o.st.ws.own e).2,by
    have A:=o.pl.1;have h8:=zMc (cod own nm n) (ks.take i) (L.length+1);have h7:=HM.out;rw [tZ] at h8;simp only [fZ,wZ] at A;omega⟩
   clear bH bF bK bJ a5 ai a3 a2 o HS b6;go_upto_region 6 with (first | (refine QB (by rfl) 159 (mX 25) rfl bb (au+i * 21) rfl (QP y (U sa sb sc)) _ hr underlying159 rfl kR ?_) | ((with_reducible refine wpList_store_mid ?_ 159 (mX 8) (mX 26) ?_ wr.heap.size 0 (QP y (U sa sb sc)).toArray ?_ ?_ ?_ ?_ ?_ ?_);rfl;rfl;rfl;rfl;exact cm;kernel_rfl;exact Qt _ _ _ _))
   clear cm hr;generalize ((wr.alloc (Z zeros21 159)).setCells wr.heap.size 0 (QP y (U sa sb sc)))=W2 at *;obtain ⟨o,bG,aM,an,bD⟩:=ax.out;obtain ⟨aY,ao⟩:=bv.out;have a6:=aW.out.range;by_cases h0:i=0
   ·subst h0;have bf:St own nm av2 m2 cap2 k B T hi w lv W2 (L++(C0,[])::[]) lvi Pi:=by simpa [toC,QY] using o.st
    have cx:PdL k W2 lvi [(207,L.length)] cs:=by simpa [jx] using o.pl
    have bk:hH (ks.take 1=[tk]):=by show _=_;have:=aX.out;simpa using this
    have cM:hH ((cod own nm n tk (L.length+1)).length<=(QY (cod own nm n) 0 ks (L.length+1)).length):=by
     show _<=_
     have A:=aR.out;rw [List.take_zero,show QY (cod own nm n) 0 ([]:List (Tr n)) (L.length+1)=[] from rfl] at A;simpa using A
    have BG:=zFX own nm av2 m2 cap2 k B T hi w lv L [] [] b1 b2 b3 W2 ev lvi Pi _ cs bf o.oc o.pb cx o.ne (by have:=R.out;simp;omega) sM (Or.inl ⟨rfl,o.nl rfl⟩) sM HK.out.2.1;have ad:L.length<(L++[(C0,([]:List Int))]).length:=sM;have aN:=(bf.ws.ins L.length (by rw [bf.ws.len];exact ad) ad).2;have az:hH (wr.heap.size ∉ lvi.ownBlock.toList++(Pi[L.length]'(by rw [bf.ws.len];exact ad)).2.ownBlock.toList):=λD=>by
     rcases List.mem_append.1 D with q | q
     ·have:=an wr.heap.size (by simpa using q);omega
     ·exact zIu aN dM ao (by simpa using q)
    have bs:hH ((∀ b ∈ [b1,b2,b3]++V7 cs,¬ ev.ownBlock=some b)/\∀ j,ev.ownBlock=some j->w.heap.size<=j):=⟨o.ne,o.eb⟩
    have aq:hH _:=a6;clear cx aN o bG aM an bD ao a6 ax bv aW;go_upto_region 9 with (first | (go_at_call 222;refine BG.mono ?_;rintro e E ⟨⟨P5,rfl,aw,aP,cq,cy⟩,F⟩;clear BG))
    have rI:=F.range aq.out az.out;have aA:hH _:=(by simpa using aw:St own nm av2 m2 cap2 k B T hi w lv E (L++[(C0,[((L.length+1:Nat):Int)])]) lvi P5)
    have aU:hH (OwnC E B ev cs/\Pd k E lvi 209 L.length b1 b2 b3/\PdL k E lvi [(207,L.length)] cs):=⟨aP,cq,cy⟩
    clear aw aP cq cy F az aq;have PT:=bu.out E _ lvi P5 aA.out (by have:=R.out;have:=cM.out;simp;omega);go_wp2_with (first | (refine QB (by rfl) 159 (mX 8) rfl wr.heap.size 0 rfl (QP y (U sa sb sc)) _ rI underlying159 rfl kR ?_))
    refine PT.mono ?_;rintro e w6 ⟨⟨db,P6,rfl,cG,bc⟩,aC⟩;have cR:hH (∃ lvi Pi cs,ChS own nm av2 m2 cap2 k B T hi n w lv L ks b1 b2 b3 1 w6 ev lvi Pi cs):=by
     refine ⟨db,P6,cs,?_,zEG aU.out.1 aA.out.ws aA.out.en.kB aC,aU.out.2.1.step aC bc,?_,bs.out.1,bs.out.2,λh=>by omega⟩
     ·have A:=aA.out.step aC bc cG;rw [bk.out];have e9:(L++[(C0,[((L.length+1:Nat):Int)])])++cod own nm n tk (L++[(C0,[((L.length+1:Nat):Int)])]).length=L++(C0,toC (cod own nm n) [tk] (L.length+1))::QY (cod own nm n) 0 [tk] (L.length+1):=by
       simp [toC,chT,zLd]
      rw [e9] at A;exact A
     ·rw [bk.out];simpa [jx,jr] using aU.out.2.2.mapP (λf a q1 q2 q3 _ p=>p.step aC bc)
    clear PT rI cG bc aC aA aU bs;go_wp2_with fail
    go_roundg (m - (0+1))
    case rel=>exact ⟨1,_,rfl,sM,rfl,cj,cR⟩
    case measure=>omega
   ·have ab:ks.take i ≠ []:=λe=>by
     have A:(ks.take i).length=0:=by rw [e];rfl
     have:=HM.out;rw [tZ] at A;omega
    have ay:hH ((QY (cod own nm n) 0 (ks.take i) (L.length+1)).length+(cod own nm n tk (L.length+1+(QY (cod own nm n) 0 (ks.take i) (L.length+1)).length+1)).length+1<=(QY (cod own nm n) 0 ks (L.length+1)).length):=by
     show _<=_
     have A:=aR.out;rw [if_neg h0] at A;exact A
    have cV:hH (∃ r,toC (cod own nm n) (ks.take i) (L.length+1)=((L.length+1:Nat):Int)::r):=by
     cases hk:ks.take i with
     | nil=>exact absurd hk ab
     | cons x r=>exact ⟨_,rfl⟩
    have cW:hH ((toC (cod own nm n) (ks.take i) (L.length+1)).length<=1000):=by
     show _<=_
     have c5:∀ (r:List (Tr n)) (q:Nat),(chT (cod own nm n) r q).length=r.length:=by
      intro r;induction r with
      | nil=>intro q;rfl
      | cons x r ih=>intro q;simp [chT,ih]
     have h7:=HM.out;have h6:(ks.take i).length<=30:=by rw [tZ];omega
     cases hk:ks.take i with
     | nil=>simp [toC]
     | cons x r=>rw [hk] at h6;simp only [toC,fZ,c5];simp at h6;omega
    have bV:hH (∀ p ∈ jx (cod own nm n) (ks.take i) (L.length+1),p ≠ L.length+1):=λp hp=>(bU.out i p hp).1
    have cU:hH (toC (cod own nm n) (ks.take i++[tk]) (L.length+1)=toC (cod own nm n) (ks.take i) (L.length+1)++[((L.length+1+(QY (cod own nm n) 0 (ks.take i) (L.length+1)).length+1:Nat):Int)]/\QY (cod own nm n) 0 (ks.take i++[tk]) (L.length+1)=QY (cod own nm n) 0 (ks.take i) (L.length+1)++(ins 13 0 0::cod own nm n tk (L.length+1+(QY (cod own nm n) 0 (ks.take i) (L.length+1)).length+1))/\jx (cod own nm n) (ks.take i++[tk]) (L.length+1)=jx (cod own nm n) (ks.take i) (L.length+1)++[L.length+1+(QY (cod own nm n) 0 (ks.take i) (L.length+1)).length]):=⟨zNC _ _ _ ab _,zDD _ _ _ _ ab _,zN2 _ _ _ ab _⟩
    have cY:hH _:=cO.out i ab;have H:=o.st;have G:=o.pl;generalize toC (cod own nm n) (ks.take i) (L.length+1)=tl at *;generalize QY (cod own nm n) 0 (ks.take i) (L.length+1)=d at *;generalize jx (cod own nm n) (ks.take i) (L.length+1)=js at *;have HC:hH (St own nm av2 m2 cap2 k B T hi w lv W2 (L++(C0,tl)::d) lvi Pi/\OwnC W2 B ev cs/\Pd k W2 lvi 209 L.length b1 b2 b3/\PdL k W2 lvi ((207,L.length)::js.map (λp=>(206,p))) cs/\(∀ b ∈ [b1,b2,b3]++V7 cs,¬ ev.ownBlock=some b)/\(∀ j,ev.ownBlock=some j->w.heap.size<=j)/\k<wr.heap.size/\wr.heap.size<W2.heap.size/\(∀ j,lvi.ownBlock=some j->j<wr.heap.size)/\cs.length<=31):=⟨H,o.oc,o.pb,G,o.ne,o.eb,bG,aM,an,bD⟩
    have aq:hH (W2.rangeAt wr.heap.size 0 (QP y (U sa sb sc))/\W2.heap[wr.heap.size]? = some (Z aY 159)):=⟨a6,ao⟩
    have JU:=zHd k B T _ _ _ lvi Pi W2 H.ws H.en.kB H.en.hB (by have:=R.out;have:=ay.out;simp;omega);have dh:(0:Int)<(i:Int):=oM;clear o bG aM an bD ao a6 ax bv aW H G aR;go_wp2_with fail
    refine JU.mono ?_;rintro e E ⟨⟨s,u,v,z,P5,rfl,cv,cd,cF,aO⟩,F⟩;obtain ⟨q1,q2,q3,q4,q5,q6,q7,q8,q9,cA⟩:=HC.out;have aw:=q1.step F aO cF;have bI:wr.heap.size ∉ k::lvi.ownBlock.toList:=λD=>by
     rcases List.mem_cons.1 D with q | q
     ·omega
     ·have:=q9 wr.heap.size (by simpa using q);omega
    have M:=QJ (oZ _ E) (Z #[clV s u v] 1);have aP:=zEG q2 q1.ws q1.en.kB F;have bp:hH (St own nm av2 m2 cap2 k B T hi w lv (E.alloc (Z #[clV s u v] 1)) (L++(C0,tl)::(d++[ins 13 0 0])) z P5/\OwnC (E.alloc (Z #[clV s u v] 1)) B ev cs/\Pd k (E.alloc (Z #[clV s u v] 1)) z 209 L.length b1 b2 b3/\PdL k (E.alloc (Z #[clV s u v] 1)) z ((207,L.length)::js.map (λp=>(206,p))) cs/\Pd k (E.alloc (Z #[clV s u v] 1)) z 206 (L.length+1+d.length) s u v/\(∀ b ∈ [s,u,v],¬ ev.ownBlock=some b)):=by
     refine ⟨?_,Q2 (Fr.of_below [] M) aP sM,(q3.step F aO).below M,q4.mapP (λf a p1 p2 p3 _ p=>(p.step F aO).below M),?_,λb C e=>?_⟩
     ·have A:=aw.below M;rw [eZ,gZ] at A;exact A
     ·have A:=cv.below M;rw [show (L++(C0,tl)::d).length=L.length+1+d.length from by simp;omega] at A;exact A
     ·have:=cd b C;have:=(QM q2 e).2;omega
    have bW:hH (¬ z.ownBlock=some wr.heap.size):=λe=>by
     rcases aO _ e with q | q
     ·have:=q9 _ q;omega
     ·omega
    have ak:hH ((E.alloc (Z #[clV s u v] 1)).rangeAt wr.heap.size 0 (QP y (U sa sb sc))/\(E.alloc (Z #[clV s u v] 1)).heap[wr.heap.size]? = some (Z aY 159)):=⟨QG M (F.range aq.out.1 bI),zI8 (Fr.of_below [] M) (zI8 F aq.out.2 bI) sM⟩
    have bR:hH ((E.alloc (Z #[clV s u v] 1)).cell? ⟨E.heap.size,0,none⟩=some (clV s u v)):=(AtL.new0 E 1 [clV s u v]).2.1 0 _ rfl;have aT:hH ((∀ b ∈ [b1,b2,b3]++V7 cs,¬ ev.ownBlock=some b)/\(∀ j,ev.ownBlock=some j->w.heap.size<=j)/\cs.length<=31/\B<=(E.alloc (Z #[clV s u v] 1)).heap.size):=⟨q5,q6,cA,jZ aw.en.hB M.size⟩
    clear JU cv cd cF aO F q1 q2 q3 q4 q5 q6 q7 q8 q9 cA aw bI aP M HC aq;go_upto_region 8 with (first
     | (
       refine zEl rfl (mX 29) (mX 32) rfl (E.alloc (Z #[clV s u v] 1)) B aT.out.2.2.2 ev cs rfl bp.out.2.1 E.heap.size (s,u,v) rfl bR.out (λ_=>by have:=aT.out.2.2.1;omega) ?_;intro ac w7 bo cf bM))
    obtain ⟨r1,r2,r3,r4,r5,r6⟩:=bp.out;obtain ⟨n1,n2,n3,n4⟩:=aT.out;have f7:Fr ev.ownBlock.toList (E.alloc (Z #[clV s u v] 1)) w7:=Fr.of_grown cf (λj e=>by simp [e]);have bg:=r1.other f7 (λj hj=>⟨n2 j (by simpa using hj),by have:=(QM r2 (show ev.ownBlock=some j by simpa using hj)).1;have:=r1.en.kB;omega⟩) (λj e D=>JR r1.ws.own r2 dM e (by simpa using D)) (λa ha b e D=>JR (r1.ws.ins a ha (by rw [<-r1.ws.len];exact ha)).2 r2 dM e (by simpa using D));have cr:=r3.fr (lv':=z) f7 (λb C D=>n1 b (dY _ C) (by simpa using D)) (λb C=>(r3.bd b C).2.2);have cz:=r4.mapP (λf a p1 p2 p3 D p=>p.fr f7 (λb C hq=>n1 b (yZ _ (zLL D C)) (by simpa using hq)) (λb C=>(p.bd b C).2.2));have cw:=r5.fr (lv':=z) f7 (λb C D=>r6 b C (by simpa using D)) (λb C=>(r5.bd b C).2.2);have aQ:=cz.snoc (q:=(206,L.length+1+d.length)) (c:=(s,u,v)) cw;have bC:V7 (cs++[(s,u,v)])=V7 cs++[s,u,v]:=by simp [V7]
    have bm:∀ b ∈ [b1,b2,b3]++V7 (cs++[(s,u,v)]),b<(E.alloc (Z #[clV s u v] 1)).heap.size:=λb C=>by
     rw [bC] at C;rcases List.mem_append.1 C with q | q
     ·exact (r3.bd b q).2.1
     ·rcases List.mem_append.1 q with q | q
      ·obtain ⟨c,hc,c0⟩:=List.mem_flatMap.1 q;obtain ⟨j,hj,rfl⟩:=List.getElem_of_mem hc;exact ((r4.2 j (by rw [r4.1];exact hj) hj).bd b c0).2.1
      ·exact (r5.bd b q).2.1
    have bN:∀ b ∈ [b1,b2,b3]++V7 (cs++[(s,u,v)]),¬ ac.ownBlock=some b:=λb C e=>by
     rcases bM with h | h
     ·rw [h] at e;rw [bC] at C;rcases List.mem_append.1 C with q | q
      ·exact n1 b (dY _ q) e
      ·rcases List.mem_append.1 q with q | q
       ·exact n1 b (yZ _ q) e
       ·exact r6 b q e
     ·rw [h] at e;cases e
      have:=bm _ C;omega
    have b0:∀ j,ac.ownBlock=some j->w.heap.size<=j:=λj e=>by
     rcases bM with h | h
     ·exact n2 j (by rw [<-h];exact e)
     ·rw [h] at e;cases e;exact r1.fr.size
    have aJ:wr.heap.size ∉ ev.ownBlock.toList:=λD=>zIu r2 dM ak.out.2 (by simpa using D)
    have cB:=f7.range ak.out.1 aJ;have cC:=zI8 f7 ak.out.2 aJ;have BG:=zFX own nm av2 m2 cap2 k B T hi w lv L (d++[ins 13 0 0]) tl b1 b2 b3 w7 ac z P5 _ (cs++[(s,u,v)]) bg bo cr aQ bN (by have:=R.out;have:=ay.out;simp;omega) cW.out (Or.inr cV.out) (λq hq=>by
     rcases List.mem_append.1 hq with h | h
     ·rcases List.mem_cons.1 h with rfl | h
      ·simp
      ·obtain ⟨p,hp,rfl⟩:=List.mem_map.1 h;exact bV.out p hp
     ·simp only [List.mem_singleton] at h;subst h;have:=cY.out;simp only;omega) HK.out.2.1
    have ad:L.length<(L++(C0,tl)::(d++[ins 13 0 0])).length:=sM;have aN:=(bg.ws.ins L.length (by rw [bg.ws.len];exact ad) ad).2;have az:hH (wr.heap.size ∉ z.ownBlock.toList++(P5[L.length]'(by rw [bg.ws.len];exact ad)).2.ownBlock.toList):=λD=>by
     rcases List.mem_append.1 D with q | q
     ·exact bW.out (by simpa using q)
     ·exact zIu aN dM cC (by simpa using q)
    have br:hH ((∀ b ∈ [b1,b2,b3]++V7 (cs++[(s,u,v)]),¬ ac.ownBlock=some b)/\∀ j,ac.ownBlock=some j->w.heap.size<=j):=⟨bN,b0⟩
    have bh:hH _:=cB;clear r1 r2 r3 r4 r5 r6 n1 n2 n3 n4 f7 cr cz cw aQ bC bm bN b0 aJ cB cC aN bo cf bM bp ak bR aT bW;go_upto_region 9 with (first | (go_at_call 222;refine BG.mono ?_;rintro e w8 ⟨⟨P8,rfl,bP,cp,ct,aQ⟩,b5⟩;clear BG))
    have rI:=b5.range bh.out az.out;have aB:hH (St own nm av2 m2 cap2 k B T hi w lv w8 (L++(C0,tl++[((L.length+1+d.length+1:Nat):Int)])::(d++[ins 13 0 0])) z P8):=by
     have e9:(((L++(C0,tl)::(d++[ins 13 0 0])).length:Nat):Int)=((L.length+1+d.length+1:Nat):Int):=by simp;omega
     rw [e9] at bP;exact bP
    have aV:hH (OwnC w8 B ac (cs++[(s,u,v)])/\Pd k w8 z 209 L.length b1 b2 b3/\PdL k w8 z (((207,L.length)::js.map (λp=>(206,p)))++[(206,L.length+1+d.length)]) (cs++[(s,u,v)])):=⟨cp,ct,aQ⟩
    clear bP cp ct aQ b5 az bh;have ah:(L++(C0,tl++[((L.length+1+d.length+1:Nat):Int)])::(d++[ins 13 0 0])).length=L.length+1+d.length+1:=by simp;omega
    have PT:=bu.out w8 _ z P8 aB.out (by rw [ah];have:=R.out;have:=ay.out;omega);rw [ah] at PT;clear ah;go_wp2_with (first | (refine QB (by rfl) 159 (mX 8) rfl wr.heap.size 0 rfl (QP y (U sa sb sc)) _ rI underlying159 rfl kR ?_))
    refine PT.mono ?_;rintro e w9 ⟨⟨dc,P9,rfl,cH,be⟩,aD⟩;have cS:hH (∃ lvi Pi cs,ChS own nm av2 m2 cap2 k B T hi n w lv L ks b1 b2 b3 (i+1) w9 ac lvi Pi cs):=by
     obtain ⟨s1,s2,s3⟩:=cU.out;refine ⟨dc,P9,cs++[(s,u,v)],?_,zEG aV.out.1 aB.out.ws aB.out.en.kB aD,aV.out.2.1.step aD be,?_,br.out.1,br.out.2,λh=>by omega⟩
     ·have A:=aB.out.step aD be cH;rw [aX.out,s1,s2];have e9:(L++(C0,tl++[((L.length+1+d.length+1:Nat):Int)])::(d++[ins 13 0 0]))++cod own nm n tk (L.length+1+d.length+1)=L++(C0,tl++[((L.length+1+d.length+1:Nat):Int)])::(d++(ins 13 0 0::cod own nm n tk (L.length+1+d.length+1))):=sM;rw [e9] at A;exact A
     ·rw [aX.out,s3,hY];exact aV.out.2.2.mapP (λf a p1 p2 p3 _ p=>p.step aD be)
    clear PT rI cH be aD aB aV br;go_wp2_with fail
    go_roundg (m - (i+1))
    case rel=>exact ⟨i+1,_,rfl,sM,rfl,cj,cS⟩
    case measure=>omega
  ·have c9:¬ (i:Int)<(m:Int):=oM;obtain ⟨lvi,Pi,cs,o⟩:=HS.out;have ai:ks.take i=ks:=rZ (by have:=HM.out;omega);have H:=o.st;have G:=o.pl;rw [ai] at H G;have ck:∀ p ∈ jx (cod own nm n) ks (L.length+1),p<L.length+1+(QY (cod own nm n) 0 ks (L.length+1)).length:=λp hp=>by
    have:=(bU.out i p (by rw [ai];exact hp)).2;rw [ai] at this;exact this
   have aa:((207,L.length)::(jx (cod own nm n) ks (L.length+1)).map (λp=>(206,p))).foldl (pXpX0 ((L.length+1+(QY (cod own nm n) 0 ks (L.length+1)).length:Nat):Int)) (L++(C0,toC (cod own nm n) ks (L.length+1))::QY (cod own nm n) 0 ks (L.length+1))=LF:=by
    rw [<-cN.out,vZ,List.foldl_map];have e1:pXpX0 ((L.length+1+(QY (cod own nm n) 0 ks (L.length+1)).length:Nat):Int) (L++(C0,toC (cod own nm n) ks (L.length+1))::QY (cod own nm n) 0 ks (L.length+1)) (207,L.length)=pB ((L.length+1+(QY (cod own nm n) 0 ks (L.length+1)).length:Nat):Int) (L++(C0,toC (cod own nm n) ks (L.length+1))::QY (cod own nm n) 0 ks (L.length+1)) L.length:=rfl;rw [e1];exact zKw (cod own nm n) _ ks L _
   have a0:(L++(C0,toC (cod own nm n) ks (L.length+1))::QY (cod own nm n) 0 ks (L.length+1)).length=L.length+1+(QY (cod own nm n) 0 ks (L.length+1)).length:=by simp;omega
   obtain ⟨X,bz⟩:=xV (L++(C0,toC (cod own nm n) ks (L.length+1))::QY (cod own nm n) 0 ks (L.length+1))
   obtain ⟨es,aH⟩:=xV ((207,L.length)::(jx (cod own nm n) ks (L.length+1)).map (λp=>(206,p)))
   have HQ:hH (∀ q ∈ es,(q.1=206 \/ q.1=207)/\q.2<X.length):=λq hq=>by
    rw [<-aH] at hq;rw [<-bz,a0];rcases List.mem_cons.1 hq with rfl | hq
    ·exact ⟨Or.inr rfl,by simp only;omega⟩
    ·obtain ⟨p,hp,rfl⟩:=List.mem_map.1 hq;exact ⟨Or.inl rfl,ck p hp⟩
   rw [<-a0] at aa;rw [bz] at H aa a0;rw [aH] at G aa;have cJ:hH _:=aa;have bX:hH (X.length<=900000/\cs.length<=31):=⟨by have:=R.out;omega,by
    have A:=G.1;have h8:=zMc (cod own nm n) ks (L.length+1);have h7:=HM.out;rw [<-aH] at A;simp only [fZ,wZ] at A;omega⟩
   obtain ⟨ae,ce,a1⟩:=o.oc.slice;have c4:0<cs.length:=by rw [<-G.1,<-aH];simp
   obtain ⟨ge,c6⟩:∃ ge,ae=some ⟨ge,0,none⟩:=by
    rcases o.oc.2 with ⟨q,A⟩ | ⟨g,dd,de,q,_⟩
    ·omega
    ·rw [a1] at q;simp only [U.injEq] at q;exact ⟨g,q.1⟩
   subst c6;subst a1;have bq:hH (∃ Pj,St own nm av2 m2 cap2 k B T hi w lv wr ((es.take 0).foldl (pXpX0 (X.length:Int)) X) lvi Pj/\OwnC wr B (U (some ⟨ge,0,none⟩) cs.length ce) cs/\PdL k wr lvi es cs):=⟨Pi,H,o.oc,G⟩
   obtain ⟨mc,a4⟩:=xV cs.length
   have aS:hH (cs.length=mc/\es.length=mc):=⟨a4,by rw [G.1,a4]⟩
   rw [a4] at bq ⊢;clear HS o H G ck aa a0 bz aH ai c4 a4;go_wp2_with fail
   go_loopg [10,42] mc (λcZ u10 x2 bQ=>∃ (j:Nat),x2=O J (j:Int)/\cZ=mc - j/\j<=mc/\hH (∃ Pj,St own nm av2 m2 cap2 k B T hi w lv bQ ((es.take j).foldl (pXpX0 (X.length:Int)) X) lvi Pj/\OwnC bQ B (U (some ⟨ge,0,none⟩) mc ce) cs/\PdL k bQ lvi es cs))
   case atStart=>exact ⟨0,rfl,rfl,gY _,bq⟩
   case round =>
    clear bq;obtain ⟨j,rfl,dg,hj,HS⟩:=hrel;by_cases c8:j<mc
    ·have c7:(j:Int)<(mc:Int):=oM;have dk:(0:Int)<=(j:Int):=oM;have dm:J.wrap ((j:Int)+1)=(j:Int)+1:=by have:=bX.out;have:=aS.out;rw [IntKind.wrap_i64];omega
     obtain ⟨Pj,N,oc,pl⟩:=HS.out;have cg:j<cs.length:=by have:=aS.out;omega
     have bE:j<es.length:=by have:=aS.out;omega
     have aG:=oc.cells (show Value.ownBlock (U (some ⟨ge,0,none⟩) mc ce)=some ge from rfl) j (clV (cs[j]).1 (cs[j]).2.1 (cs[j]).2.2) (by rw [List.getElem?_map,pZ cg];rfl);rw [show (⟨ge,0,none⟩:dW).add j=⟨ge,j,none⟩ from by
      simp [Addr.add];try (intro h0;omega)] at aG
     have hq:=HQ.out _ (nZ bE);have am:=zJt (X.length:Int) (es.take j) X;have CJ:=zMt k B T _ _ _ lvi Pj wr es[j] hq.1 _ _ _ N.ws N.en.kB (by rw [am];have:=bX.out;omega) (pl.2 j bE cg) (by rw [am];exact hq.2);rw [am] at CJ;have cT:hH ((es.take (j+1)).foldl (pXpX0 (X.length:Int)) X=pXpX0 (X.length:Int) ((es.take j).foldl (pXpX0 (X.length:Int)) X) es[j]):=by show _=_;rw [iZ bE,List.foldl_append];rfl
     have bZ:hH (St own nm av2 m2 cap2 k B T hi w lv wr ((es.take j).foldl (pXpX0 (X.length:Int)) X) lvi Pj/\OwnC wr B (U (some ⟨ge,0,none⟩) mc ce) cs/\PdL k wr lvi es cs):=⟨N,oc,pl⟩
     generalize (cs[j]).1=x1 at *;generalize (cs[j]).2.1=x2 at *;generalize (cs[j]).2.2=x3 at *;clear N oc pl am hq HS;go_wp2_with (first | (go_at_call 222;refine CJ.mono ?_;rintro e w3 ⟨⟨P3,rfl,cE⟩,aZ⟩;clear CJ))
     have cQ:hH (∃ Pj,St own nm av2 m2 cap2 k B T hi w lv w3 ((es.take (j+1)).foldl (pXpX0 (X.length:Int)) X) lvi Pj/\OwnC w3 B (U (some ⟨ge,0,none⟩) mc ce) cs/\PdL k w3 lvi es cs):=by
      obtain ⟨N,oc,pl⟩:=bZ.out;refine ⟨P3,by rw [cT.out];exact N.patch aZ cE,Q2 aZ oc (λb e D=>JR oc N.ws.own dM e (by simpa using D)),pl.mapP (λf a p1 p2 p3 _ p=>p.patch aZ)⟩
     clear cE aZ bZ aG;go_roundg (mc - (j+1))
     case rel=>exact ⟨j+1,sM,rfl,c8,cQ⟩
     case measure=>omega
    ·have c7:¬ (j:Int)<(mc:Int):=oM;have HR:hH (WP k B T0 (O J own) (U av2 m2 cap2) LF lv w (rX (uX #[])) wr):=by
      obtain ⟨Pj,N,oc,pl⟩:=HS.out;rw [rZ (by have:=aS.out;omega),cJ.out] at N;exact bT.out wr lvi Pj N
     clear HS;go_wp2;go_end0
     exact HR.out
open Go.RowKit Wf
theorem zIT (w:wW) (g o m cap:Nat) (j:Nat) (q:j<=m) (p:m<=cap):(Instr.sliceAt 157 (U (some ⟨g,o,none⟩) m cap) (some (O J (j:Int))) none none).run prog w=.ok (U (some ⟨g,(if cap=j then o else o+21 * j),none⟩) (m - j) (cap - j)) w:=by
 have d:prog.underlying 157=some (.slice (prog.elem 157)):=kR
 have l:(sizeOf (prog.elem 157)).run prog w=.ok 21 w:=kR
 rw [run_sliceAt_slice w _ _ _ _ _ d,run_slice_l w _ _ _ _ d _ (j:Int) oM oM,l];have e:sliced (some ⟨g,o,none⟩) j m cap 21=U (some ⟨g,(if cap=j then o else o+21 * j),none⟩) (m - j) (cap - j):=by
  unfold sliced;by_cases b:cap=j
  ·rw [if_pos b,if_pos b]
  ·rw [if_neg b,if_neg b];simp [Addr.add];rw [Nat.mul_comm];by_cases c:21 * j=0
   ·rw [if_pos c,c,jY]
   ·rw [if_neg c]
 rw [<-e];rfl
theorem zGG (b:op.guard=none) (s:Operand) (j:Nat) (l:op.op=.slice 157 s (some (.const (O J (j:Int)))) none none) (g o m cap:Nat) (p:a.eval s=U (some ⟨g,o,none⟩) m cap) (e:j<=m) (d:m<=cap)
  (h:wpList prog ops Q rest (a.put op.dst (U (some ⟨g,(if cap=j then o else o+21 * j),none⟩) (m - j) (cap - j))) w):wpList prog ops Q (op::rest) a w:=by
 refine wpList_plain b λK c=>?_
 unfold Oper.wp execOp;have q:a.eval (.const (O J (j:Int)))=O J (j:Int):=rfl;simp only [l,p,q,Option.map_some,Option.map_none,Sem.run_bind,Sem.run_pure,Result.andThen_ok,zIT w g o m cap j e d];exact c _ _ h
theorem zJy (s:Operand) (j:Nat) (d:op.op=.slice 157 s (some (.const (O J (j:Int)))) none none) (g o m cap:Nat) (e:a.eval s=U (some ⟨g,o,none⟩) m cap) (c:j<=m) (b:m<=cap) (W:wW):(execOp a.eval op).run prog W=.ok (.value (U (some ⟨g,(if cap=j then o else o+21 * j),none⟩) (m - j) (cap - j))) W:=by
 unfold execOp;have l:a.eval (.const (O J (j:Int)))=O J (j:Int):=rfl;simp only [d,e,l,Option.map_some,Option.map_none,Sem.run_bind,Sem.run_pure,Result.andThen_ok,zIT W g o m cap j c b]
theorem RdQ.drop {c b X:Nat} {L:List (Wt.Nd × vW)} (h:RdQ w (some ⟨c,b,none⟩) L) (j:Nat) (d:j<L.length->X=b+21 * j):RdQ w (some ⟨c,X,none⟩) (L.drop j):=λi hi=>by
 rw [List.length_drop] at hi;obtain ⟨b2,l,e,g⟩:=h (j+i) oM;cases e
 refine ⟨c,X,rfl,?_⟩;rw [d oM,List.getElem_drop,show b+21 * j+i * 21=b+(j+i) * 21 from by omega];exact g
section
variable (own:Int) (nm:List ByteArray) (av2:Option dW) (m2 cap2:Nat)
def LzC (n:Nat):Prop:=∀ (id:Int) (b:List (Tr n × vW)) (c:Option dW) (m cap lo hi k B:Nat) (T:Nat->Nat) (w:wW) (L:List I) (lv:vW) (P:List (Wc.In × vW)),(id=30 \/ id=31 \/ id=32)->m=b.length->m<=cap->2<=b.length->b.length<=30->(∀ p ∈ b,Wr own nm n p.1)->(∀ p ∈ b,PA n lo hi w p.1 p.2)->RdQ w c (b.map λp=>(hd n p.1,p.2))->(∀ bb off,c=some ⟨bb,off,none⟩->bb<hi)->En own nm av2 m2 cap2 k B T hi w->WS k B T w (O J own) (U av2 m2 cap2) L lv P->L.length+(Jx (cod own nm n) id (b.map (·.1)) L.length).length<=900000 ->
 Calls prog 156 #[pX (some ⟨k,0,none⟩),O J id,U c m cap] w (WP k B T (O J own) (U av2 m2 cap2) (L++Jx (cod own nm n) id (b.map (·.1)) L.length) lv w)
end
theorem zN7 (own:Int) (nm:List ByteArray) (av2:Option dW) (m2 cap2 n:Nat) (ih:PtC own nm av2 m2 cap2 n) (ao:∀ (t:Tr n) (a:Nat),Wr own nm n t->0<(cod own nm n t a).length):LzC own nm av2 m2 cap2 n:=by
 intro id ps av mm cap lo hi k B T w L lv P hid hm ae h2 hl R g ai aD H ak ad;have br:=zIR own nm av2 m2 cap2 n ih;have gd:=zKi own nm av2 m2 cap2 n ih;have ch:=zHF own nm av2 m2 cap2 n ih ao;obtain ⟨p0,r,rest,rfl⟩:∃ p0 r rest,ps=p0::r::rest:=by
  match ps,h2 with
  | p0::r::rest,_=>exact ⟨p0,r,rest,rfl⟩
 obtain ⟨l,d,rfl,af⟩:=ai 0 sM;obtain ⟨b2,o2,e2,al⟩:=ai 1 sM;cases e2
 simp only [eY,List.getElem_cons_zero,List.getElem_cons_succ,Nat.zero_mul,Nat.one_mul,jY] at af al;have au:=aD l d rfl;obtain ⟨aP,aQ,aR,ay⟩:=(g p0 sM).slice;obtain ⟨D,E,F,aj⟩:=(g r sM).slice;rw [ay] at af;rw [aj] at al;obtain ⟨y,hy⟩:=xV (cod own nm n p0.1 L.length)
 have ar:Jx (cod own nm n) id ((p0::r::rest).map (·.1)) L.length=y++(if id=30 then VC (cod own nm n) r.1 (rest.map (·.1)) (L.length+y.length) else if id=31 then Vv own nm n r.1 (L.length+y.length) else Ju (cod own nm n) ((r::rest).map (·.1)) (L.length+y.length)):=by
  simp only [eY,Jx,hy];rfl
 obtain ⟨LF,A⟩:=xV (L++Jx (cod own nm n) id ((p0::r::rest).map (·.1)) L.length)
 rw [ar,dZ] at ad;rw [A];rw [ar,<-eZ] at A;have N:∀ j,lv.ownBlock=some j->B<=j:=λj e=>(QM ak.own e).1
 have u:(L++y).length=L.length+y.length:=sM;have ah:l ∉ k::lv.ownBlock.toList:=λM=>by
  have:=H.hk;have:=H.kB;rcases List.mem_cons.1 M with q | q
  ·omega
  ·have:=N l (by simpa using q);omega
 have ax:∀ (W:wW) (c:vW) (P1:List (Wc.In × vW)),St own nm av2 m2 cap2 k B T hi w lv W (L++y) c P1->RdQ W (some ⟨l,d,none⟩) ((p0::r::rest).map λp=>(hd n p.1,p.2)):=λW c P1 x=>ai.frq x.fr (λb o e M=>by cases e;exact ah M)
 have PT:=ih p0.1 p0.2 lo hi k B T w L lv P (R p0 sM) (g p0 sM) H ak (by rw [hy];omega);rw [hy,ay] at PT;have aa:hH (id=30->∀ (W:wW) (c:vW) (P1:List (Wc.In × vW)) (X:Nat),(0<rest.length->X=d+42)->St own nm av2 m2 cap2 k B T hi w lv W (L++y) c P1->Calls prog 187 #[pX (some ⟨k,0,none⟩),gX (QP (hd n r.1) (U D E F)).toArray,U (some ⟨l,X,none⟩) rest.length (cap - 2)] W (WP k B T (O J own) (U av2 m2 cap2) LF c W)):=λh30 W c P1 X hX x=>by
  rw [if_pos h30] at ad A;have:=br r.1 r.2 rest (some ⟨l,X,none⟩) rest.length (cap - 2) lo hi k B T W (L++y) c P1 (R r sM) (PA.kept (x.kept N) n _ _ (g r sM)) rfl (by simp at hl;omega) (λp hp=>R p (by simp [hp])) (λp hp=>PA.kept (x.kept N) n _ _ (g p (by simp [hp]))) (by
   have h9:=(ax W c P1 x).drop 2 (X:=X) (λhh=>hX (by simpa using hh));simpa using h9) (λb o e=>by cases e;exact au) x.en x.ws (by rw [u];omega)
  rw [aj,u,A] at this;exact this
 have ag:hH (id=31->∀ (W:wW) (c:vW) (P1:List (Wc.In × vW)),St own nm av2 m2 cap2 k B T hi w lv W (L++y) c P1->Calls prog 188 #[pX (some ⟨k,0,none⟩),gX (QP (hd n r.1) (U D E F)).toArray] W (WP k B T (O J own) (U av2 m2 cap2) LF c W)):=λh31 W c P1 x=>by
  rw [if_neg oM,if_pos h31] at ad A;have:=gd r.1 r.2 lo hi k B T W (L++y) c P1 (R r sM) (PA.kept (x.kept N) n _ _ (g r sM)) x.en x.ws (by rw [u];omega);rw [aj,u,A] at this;exact this
 have ab:hH (id=32->∀ (W:wW) (c:vW) (P1:List (Wc.In × vW)) (X:Nat),X=d+21->St own nm av2 m2 cap2 k B T hi w lv W (L++y) c P1->Calls prog 189 #[pX (some ⟨k,0,none⟩),U (some ⟨l,X,none⟩) (rest.length+1) (cap - 1)] W (WP k B T (O J own) (U av2 m2 cap2) LF c W)):=λh32 W c P1 X hX x=>by
  rw [if_neg oM,if_neg oM] at ad A;have:=ch (r::rest) (some ⟨l,X,none⟩) (rest.length+1) (cap - 1) lo hi k B T W (L++y) c P1 sM (by simp at hl ⊢;omega) (λp hp=>R p (by simp at hp ⊢;rcases hp with h | h <;> simp [h])) (λp hp=>PA.kept (x.kept N) n _ _ (g p (by simp at hp ⊢;rcases hp with h | h <;> simp [h]))) (by
   have h9:=(ax W c P1 x).drop 1 (X:=X) (λ_=>by omega);simpa using h9) (λb o e=>by cases e;exact au) x.en x.ws (by rw [u];omega)
  rw [u,A] at this;exact this
 have am:hH (St own nm av2 m2 cap2 k B T hi w lv w L lv P):=St.init H ak;have aM:hH (l ∉ k::lv.ownBlock.toList):=ah;have aS:hH (∀ j,lv.ownBlock=some j->l ≠ j):=λj e q=>ah (kZ _ (by simp [e,q]))
 have aK:hH (l<w.heap.size/\∀ (W:wW) (c:vW) (P1:List (Wc.In × vW)),St own nm av2 m2 cap2 k B T hi w lv W (L++y) c P1->l ∉ k::c.ownBlock.toList):=⟨Q8 (af 0 _ rfl),λW c P1 x M=>by
  have:=H.hk;have:=H.kB;rcases List.mem_cons.1 M with q | q
  ·omega
  ·have:=(QM x.ws.own (show c.ownBlock=some l by simpa using q)).1;omega⟩
 obtain ⟨m,aw⟩:=xV rest.length
 have M:mm=m+2:=by rw [hm,<-aw];rfl
 subst M;rw [aw] at aa ab;have aA:hH (w.rangeAt l (d+21) (QP (hd n r.1) (U D E F))):=al;generalize hd n p0.1=y0 at *;generalize hd n r.1=y1 at *;clear hm h2 hl R g ai aD H ak ad ih ao br gd ch ay aj hy ar A N u ah ax au al aw;have aT:(0:Int)<((m+2:Nat):Int):=oM;have aU:(1:Int)<((m+2:Nat):Int):=oM;go_enter func156,ntmps156;go_wp2_with (first | (refine QB (by rfl) 159 (mX 8) rfl l d rfl (QP y0 (U aP aQ aR)) _ af underlying159 rfl kR ?_))
 refine PT.mono ?_;rintro e w1 ⟨⟨c,P1,rfl,aJ,aH⟩,aq⟩;have z:hH (St own nm av2 m2 cap2 k B T hi w lv w1 (L++y) c P1):=am.out.step aq aH aJ;have r1:=aq.range aA.out aM.out;clear PT aJ aH aq am af aA;rcases hid with rfl | rfl | rfl
 ·have aB:hH (∃ X2,(0<m->X2=d+42)/\∀ (a:Act) (op:Oper) (s:Operand),op.op=.slice 157 s (some (.const (O J 2))) none none->a.eval s=U (some ⟨l,d,none⟩) (m+2) cap->∀ W:wW,(execOp a.eval op).run prog W=.ok (.value (U (some ⟨l,X2,none⟩) m (cap - 2))) W):=⟨(if cap=2 then d else d+21 * 2),λh=>by rw [if_neg oM],λa op s ho hs W=>zJy (a:=a) s 2 ho l d (m+2) cap hs oM ae W⟩
  obtain ⟨X2,aC,aF⟩:=aB.out;have aL:=hid aF;have BR:=λ(W:wW) (x:St own nm av2 m2 cap2 k B T hi w lv W (L++y) c P1)=>aa.out rfl W c P1 X2 aC x
  have aE:=(oZ w1.heap.size w1).drew;have ap:=hid (z.out.below aE);replace r1:w1.drew.rangeAt l (d+21) (QP y1 (U D E F)):=r1
  have aN:=hid (aK.out.2 w1 c P1 z.out);clear aa ag ab aC aF aB aE z ae;go_upto_region 3 with fail
  refine wp_region_held_drew (S:=λW=>W.rangeAt l (d+21) (QP y1 (U D E F))) kR r1 (λac=>?_);generalize w1.drew=WD at *;refine tkQ 0 ?_
  refine tkQ 1 ?_
  refine wpAnyH_take (i:=2) (v:=?_) (atQ rfl) kR kR kR (λ_ _ _ h=>h) (Or.inl ⟨by rfl,?_⟩) (by assumption) ?_;rotate_left
  ·intro w aO
   (try dsimp only at aO)
   go_simp
   try rw [if_pos oM]
   try with_reducible rfl
  try simp only [Act.put,lA,lZ,lS]
  refine wpAnyH_take (i:=3) (v:=gX (QP y1 (U D E F)).toArray) (atQ rfl) kR kR kR (λ_ _ _ h=>h) (yieldsIf_load_mid (by rfl) 159 (mX 16) rfl (l) (d+21) rfl (QP y1 (U D E F)) _ (λ_ h=>h) underlying159 rfl kR) (by assumption) ?_;try simp only [Act.put,lA,lZ,lS]
  refine tkQ 4 ?_
  refine wpAnyH_take (i:=5) (v:=U (some ⟨l,X2,none⟩) m (cap - 2)) (atQ rfl) kR kR kR (λ_ _ _ h=>h) (Or.inl ⟨by rfl,λW _=>aL.out _ _ (mX 18) rfl rfl W⟩) (by assumption) ?_;try simp only [Act.put,lA,lZ,lS]
  refine rdQ 6 (λK hK=>?_);go_simp
  refine (BR WD ap.out).mono ?_;rintro e w2 h2;obtain ⟨⟨aG,P2,rfl,G,C⟩,fr2⟩:=h2;go_wp2_with fail
  have aI:=fr2.range r1 aN.out;refine hkQ hK aI (λac=>?_);clear hK K
  refine wpAnyH_done kR ?_ _;have HR:=hid ((ap.out.step fr2 C G).wp);clear ac r1 aI BR G C fr2 ap;go_wp2;go_end0
  exact HR.out
 ·have GD:=ag.out rfl w1 c P1 z.out;clear aa ag ab ae;go_wp2_with (first | (refine QB (by rfl) 159 (mX 25) rfl l (d+21) rfl (QP y1 (U D E F)) _ r1 underlying159 rfl kR ?_))
  refine GD.mono ?_;rintro e w2 ⟨⟨aG,P2,rfl,G,C⟩,fr2⟩;have HR:=hid ((z.out.step fr2 C G).wp);clear GD r1 G C fr2 z;go_wp2;go_end0
  exact HR.out
 ·have az:=ab.out rfl w1 c P1 (d+21) rfl z.out;clear aa ag ab;have an:¬ cap=1:=oM;go_wp2_with (first | (refine zGG rfl (mX 31) 1 rfl l d (m+2) cap rfl oM ae ?_;rw [if_neg an,show m+2 - 1=m+1 from by omega,show d+21 * 1=d+21 from by omega];clear an ae))
  refine az.mono ?_;rintro e w2 ⟨⟨aG,P2,rfl,G,C⟩,fr2⟩;have HR:=hid ((z.out.step fr2 C G).wp);clear az r1 G C fr2 z;go_wp2;go_end0
  exact HR.out
