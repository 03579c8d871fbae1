/- Lemmas. -/
import Derived.Test.YtefkclbaflkheaaGreatDoorQ25
set_option maxHeartbeats 3200000
set_option maxRecDepth 100000
namespace Go.Proofs.YtefkclbaflkheaaGreatDoor
open Tryz
open Go.RowKit Wf
set_option linter.unusedVariables false
variable {w:World} {k B:Nat} {op:Oper} {a:Act}
section
open Tryz
variable (own:Int) (nm:List ByteArray) (av2:Option Addr) (m2 cap2:Nat)
def ChC (n:Nat):Prop:=∀ (ps:List (Tr n × Value)) (av:Option Addr) (m cap lo hi k B:Nat) (T:Nat->Nat) (w:World) (L:List I) (lv:Value) (P:List (Wc.In × Value)),m=ps.length->ps.length<=30->(∀ p ∈ ps,Wr own nm n p.1)->(∀ p ∈ ps,PA n lo hi w p.1 p.2)->RdQ w av (ps.map λp=>(hd n p.1,p.2))->(∀ bb off,av=some ⟨bb,off,none⟩->bb<hi)->En own nm av2 m2 cap2 k B T hi w->WS k B T w (.int .i64 own) (.slice av2 m2 cap2) L lv P->L.length+(zCW (cod own nm n) (ps.map (·.1)) L.length).length<=900000 ->
 Calls prog 128 #[.pointer (some ⟨k,0,none⟩),.slice av m cap] w (WP k B T (.int .i64 own) (.slice av2 m2 cap2) (L++zCW (cod own nm n) (ps.map (·.1)) L.length) lv w)
end
theorem zFr {T T':Nat->Nat} {s0 s1:Value} {L:List I} {lv:Value} {P:List (Wc.In × Value)} (h:WS k B T w s0 s1 L lv P) (hb:∀ i,B<=T' i) (ht:∀ i,i<L.length->T' i<=T i):WS k B T' w s0 s1 L lv P :=
 ⟨h.at',h.own,h.len,λi h1 h2=>⟨(h.ins i h1 h2).1,by
  have h9:=(h.ins i h1 h2).2;refine ⟨h9.1,?_⟩;rcases h9.2 with q | ⟨g,cap,cur,e,hg,q⟩
  ·exact Or.inl q
  ·exact Or.inr ⟨g,cap,cur,e,Nat.le_trans (ht i h2) hg,q⟩⟩,hb,h.dis⟩
theorem zEx {α:Type} (f:α->Nat->List I) (l:List α) (i:Nat) (h:i<l.length) (a:Nat):(zAO f 0 (l.take i) a).length+(f l[i] (a+(zAO f 0 (l.take i) a).length+(if i=0 then 0 else 1))).length+(if i=0 then 0 else 1)<=(zAO f 0 l a).length:=by
 have mono:∀ (p q:List α),(zAO f 0 p a).length<=(zAO f 0 (p++q) a).length:=by
  intro p q;cases p with
  | nil=>simp [zAO]
  | cons k r =>
   simp only [List.cons_append,zAO,List.length_append];have:∀ (r q:List α) (m:Nat),(chB f 0 r m).length<=(chB f 0 (r++q) m).length:=by
    intro r;induction r with
    | nil=>intro q m;simp [chB]
    | cons x r ih =>
     intro q m;simp only [List.cons_append,chB,List.length_cons,List.length_append];have:=ih q (m+1+(f x (m+1)).length);omega
   have:=this r q (a+(f k a).length);omega
 have h1:l=l.take (i+1)++l.drop (i+1):=(List.take_append_drop _ _).symm;have h2:=mono (l.take (i+1)) (l.drop (i+1));rw [<-h1] at h2;refine Nat.le_trans ?_ h2;rw [List.take_succ_eq_append_getElem h];by_cases hi:i=0
 ·subst hi;simp [zAO]
 ·have hne:l.take i ≠ []:=λe=>by
   have h9:(l.take i).length=0:=by rw [e];rfl
   rw [List.length_take] at h9;omega
  rw [zCe f 0 _ _ hne,if_neg hi];simp only [List.length_append,List.length_cons];omega
theorem zIy {t:TypeId} {b:Nat}:∀ (vs:List Value) (o:Nat) (W:World) (cur:Array Value),W.heap[b]? = some (.cells cur t)->∃ cur',(W.setCells b o vs).heap[b]? = some (.cells cur' t)
 | [],o,W,cur,h=>⟨cur,h⟩
 | v::r,o,W,cur,h=>zIy r (o+1) _ _ (heap_setCell_same W b o cur t v h)
theorem zIX {T0 n:Nat} {tv:Value} {xs:List Value} (h:w.ownsRow B T0 k tv n xs) (hT:¬ 64=T0) {b:Nat} {cur:Array Value} (hc:w.heap[b]? = some (.cells cur 64)):¬ tv.ownBlock=some b:=λe=>by
 rcases h.2 with ⟨q,_⟩ | ⟨g1,c1,cur1,q1,_,r1,_⟩
 ·rw [q] at e;cases e
 ·rw [q1] at e;have a1:g1=b:=by simpa [Value.ownBlock] using e
  rw [a1,hc] at r1;simp only [Option.some.injEq,Obj.cells.injEq] at r1;exact hT r1.2.1
theorem zIS {S:List Nat} {w':World} (f:Fr S w w') {b:Nat} {cur:Array Value} (hc:w.heap[b]? = some (.cells cur 64)) (hn:b ∉ S):w'.heap[b]? = some (.cells cur 64):=by
 rw [f.block b (Array.getElem?_eq_some_iff.1 hc).1 hn];exact hc
def pX (v:Int) (L:List I) (q:Nat × Nat):List I:=if q.1=158 then pB v L q.2 else pA v L q.2
theorem zNp (v:Int) (L:List I) (q:Nat × Nat):(pX v L q).length=L.length:=by
 unfold pX;split
 ·exact zNz v L q.2
 ·exact zLq v L q.2
theorem zIP (v:Int):∀ (es:List (Nat × Nat)) (L:List I),(es.foldl (pX v) L).length=L.length
 | [],L=>rfl
 | q::r,L=>by rw [List.foldl_cons,zIP v r,zNp]
theorem zMq (k B:Nat) (T:Nat->Nat) (s0 s1:Value) (L:List I) (lv:Value) (P:List (Wc.In × Value)) (w:World) (q:Nat × Nat) (hq:q.1=157 \/ q.1=158) (bi bw ba:Nat) (h:WS k B T w s0 s1 L lv P) (hkB:k<B) (hl:L.length<=1000000) (hp:Pd k w lv q.1 q.2 bi bw ba) (hat:q.2<L.length) :
  Calls prog 174 #[.pointer (some ⟨bi,0,none⟩),.pointer (some ⟨bw,0,none⟩),.pointer (some ⟨ba,0,none⟩)] w λe w'=>(∃ P',e=.returned (.tuple #[])/\WS k B T w' s0 s1 (pX (L.length:Int) L q) lv P')/\Fr lv.ownBlock.toList w w':=by
 obtain ⟨q1,q2⟩:=q;simp only at hq hp hat;have hne:∀ b,lv.ownBlock=some b->bi ≠ b/\bw ≠ b/\ba ≠ b:=λb e=>⟨λq=>(hp.bd bi (by simp)).2.2 (by rw [q];exact e),λq=>(hp.bd bw (by simp)).2.2 (by rw [q];exact e),λq=>(hp.bd ba (by simp)).2.2 (by rw [q];exact e)⟩
 rcases hq with rfl | rfl
 ·have:=zFH k B T s0 s1 L lv P w q2 bi bw ba h hkB hl hat hp.c1 hp.c2 hp.c3 hne;rw [<-zOA _ L q2 hat] at this;exact this
 ·have:=zHo k B T s0 s1 L lv P w q2 bi bw ba h hkB hl hat hp.c1 hp.c2 hp.c3 hne;rw [<-zOn _ L q2 hat] at this;exact this
theorem zLk {α:Type} (f:α->Nat->List I):∀ (r:List α) (m:Nat),(jr f r m).length=r.length
 | [],m=>rfl
 | k::r,m=>by simp [jr,zLk f r]
theorem zGO {α:Type} (f:α->Nat->List I) (l:List α) (a:Nat):(jx f l a).length<=l.length:=by
 cases l with
 | nil=>simp [jx]
 | cons k r=>simp [jx,zLk]
theorem zH2 (own:Int) (nm:List ByteArray) (av2:Option Addr) (m2 cap2 n:Nat) (ih:PtC own nm av2 m2 cap2 n) (hpos:∀ (t:Tr n) (a:Nat),Wr own nm n t->0<(cod own nm n t a).length):ChC own nm av2 m2 cap2 n:=by
 intro ps av m cap lo hi k B T0 w L lv P hm hl hwp hpap hrd hav hen0 hws0 hbd;obtain ⟨T,hTd⟩:∃ T:Nat->Nat,T=λi=>if i=L.length then w.heap.size else T0 i:=⟨_,rfl⟩
 have hTL:T L.length=w.heap.size:=by rw [hTd];simp
 have hTo:∀ i,T0 i<=T i:=λi=>by
  rw [hTd];by_cases h:i=L.length
  ·simp only [h,if_true];exact hen0.tl _
  ·simp [h]
 have hTB:∀ i,B<=T i:=λi=>Nat.le_trans (hws0.tb i) (hTo i)
 have hen:En own nm av2 m2 cap2 k B T hi w:=⟨hen0.na,hen0.rs,hen0.hm,hen0.hl,hen0.rk,hen0.gk,hen0.hk,hen0.kB,hen0.hB,λi=>by
  rw [hTd];by_cases h:i=L.length
  ·simp [h]
  ·simp [h];exact hen0.tl i⟩
 have hws:WS k B T w (.int .i64 own) (.slice av2 m2 cap2) L lv P:=zFr hws0 hTB (λi hi=>by rw [hTd];simp [show ¬ i=L.length from by omega]);obtain ⟨ks,hks⟩:∃ ks,ps.map (·.1)=ks:=⟨_,rfl⟩
 have hkl:ks.length=ps.length:=by rw [<-hks,List.length_map]
 rw [hks] at hbd;rw [hks,zCG];rw [zCG] at hbd;simp only [List.length_cons] at hbd;rw [zCz (cod own nm n) _ 0] at hbd;have hEnd:∀ (w':World) (lv':Value) (P':List (Wc.In × Value)),St own nm av2 m2 cap2 k B T hi w lv w' (L++(⟨15,0,(L.length+1+(zAO (cod own nm n) 0 ks (L.length+1)).length:Nat),v0I,c0I,a0I,a0I⟩,toC (cod own nm n) ks (L.length+1))::zAO (cod own nm n) (L.length+1+(zAO (cod own nm n) 0 ks (L.length+1)).length:Nat) ks (L.length+1)) lv' P'->WP k B T0 (.int .i64 own) (.slice av2 m2 cap2) (L++(⟨15,0,(L.length+1+(zAO (cod own nm n) 0 ks (L.length+1)).length:Nat),v0I,c0I,a0I,a0I⟩,toC (cod own nm n) ks (L.length+1))::zAO (cod own nm n) (L.length+1+(zAO (cod own nm n) 0 ks (L.length+1)).length:Nat) ks (L.length+1)) lv w (.returned (.tuple #[])) w':=λw' lv' P' st=>⟨⟨lv',P',rfl,zFr st.ws hws0.tb (λi _=>hTo i),st.nx⟩,st.fr⟩
 generalize hLF:L++(⟨15,0,(L.length+1+(zAO (cod own nm n) 0 ks (L.length+1)).length:Nat),v0I,c0I,a0I,a0I⟩,toC (cod own nm n) ks (L.length+1))::zAO (cod own nm n) (L.length+1+(zAO (cod own nm n) 0 ks (L.length+1)).length:Nat) ks (L.length+1)=LF at *;have HEND:Hid (∀ (w':World) (lv':Value) (P':List (Wc.In × Value)),St own nm av2 m2 cap2 k B T hi w lv w' LF lv' P'->WP k B T0 (.int .i64 own) (.slice av2 m2 cap2) LF lv w (.returned (.tuple #[])) w'):=hEnd;have HLF:Hid (L++(⟨15,0,(L.length+1+(zAO (cod own nm n) 0 ks (L.length+1)).length:Nat),v0I,c0I,a0I,a0I⟩,toC (cod own nm n) ks (L.length+1))::zAO (cod own nm n) (L.length+1+(zAO (cod own nm n) 0 ks (L.length+1)).length:Nat) ks (L.length+1)=LF):=hLF;have HBD:Hid (L.length+((zAO (cod own nm n) 0 ks (L.length+1)).length+1)<=900000):=hbd;have HM:Hid (m=ps.length/\ps.length<=30/\ks.length=ps.length):=⟨hm,hl,hkl⟩
 have HKS:Hid (∀ (i:Nat) (h:i<ps.length) (h':i<ks.length),ks[i]=(ps[i]).1):=λi h h'=>by subst hks;rw [List.getElem_map]
 have HWP:Hid (∀ p ∈ ps,Wr own nm n p.1):=hwp;have HPA:Hid (∀ p ∈ ps,PA n lo hi w p.1 p.2):=hpap;have HRD:Hid (RdQ w av (ps.map λp=>(hd n p.1,p.2))):=hrd;have h0B:∀ j,lv.ownBlock=some j->B<=j:=λj e=>(zAK hws.own e).1
 have HAV:Hid (∀ bb off,av=some ⟨bb,off,none⟩->bb ∉ k::lv.ownBlock.toList):=λbb off e hmm=>by
  have h9:=hav bb off e;have:=hen.hk;have:=hen.kB;rcases List.mem_cons.1 hmm with q | q
  ·omega
  ·have:=h0B bb (by simpa using q);omega
 have HK:Hid ((∀ j,lv.ownBlock=some j->B<=j)/\w.heap.size<=T L.length/\B<=w.heap.size):=⟨h0B,by rw [hTL];exact Nat.le_refl _,hen.hB⟩
 have HIH:Hid (PtC own nm av2 m2 cap2 n):=ih;have HES:Hid (∀ (i:Nat),∀ p ∈ jx (cod own nm n) (ks.take i) (L.length+1),p ≠ L.length+1/\p<L.length+1+(zAO (cod own nm n) 0 (ks.take i) (L.length+1)).length):=λi p hp=>by
  cases hk:ks.take i with
  | nil=>rw [hk] at hp;cases hp
  | cons x r =>
   rw [hk] at hp;have hx:Wr own nm n x:=by
    have hm2:x ∈ ks:=List.mem_of_mem_take (by rw [hk];exact List.mem_cons_self ..);rw [<-hks] at hm2;obtain ⟨p2,hp2,rfl⟩:=List.mem_map.1 hm2;exact hwp p2 hp2
   have h1:=zM5 (cod own nm n) r _ p hp;have h2:=hpos x (L.length+1) hx;simp only [zAO,List.length_append];omega
 have HPB:Hid (∀ (i:Nat),ks.take i ≠ []->0<(zAO (cod own nm n) 0 (ks.take i) (L.length+1)).length):=λi hne=>by
  cases hk:ks.take i with
  | nil=>exact absurd hk hne
  | cons x r =>
   have hx:Wr own nm n x:=by
    have hm2:x ∈ ks:=List.mem_of_mem_take (by rw [hk];exact List.mem_cons_self ..);rw [<-hks] at hm2;obtain ⟨p2,hp2,rfl⟩:=List.mem_map.1 hm2;exact hwp p2 hp2
   have h2:=hpos x (L.length+1) hx;simp only [zAO,List.length_append];omega
 have LA:=zNI k B T (ins 15 0 0).1 _ _ L lv P w hws hen.kB hen.hB (by omega);have HST0:Hid (St own nm av2 m2 cap2 k B T hi w lv w L lv P):=St.init hen hws;clear hm hl hwp hpap hrd hav hen0 hws0 hen hws hbd ih hpos hTd hTL hTo hTB hks hkl hEnd hLF h0B;go_enter func128,ntmps128;go_wp2_with (first | (refine zAQ rfl 15 rfl ?_))
 refine LA.mono ?_;rintro e w1 ⟨⟨lv1,P1,rfl,ws1,nx1,nl1⟩,fr1⟩;have HST1:Hid (St own nm av2 m2 cap2 k B T hi w lv w1 (L++[(C0,[])]) lv1 P1/\∀ h:L.length<P1.length,(P1[L.length]).2=zAH):=⟨HST0.out.step fr1 nx1 ws1,nl1⟩
 clear LA ws1 nx1 fr1 nl1 HST0;have LT:=zC9 k B 161 T _ _ _ lv1 P1 w1 HST1.out.1.ws (by simp) (by have:=HBD.out;simp;omega);rw [show (L++[(C0,([]:List Int))]).length - 1=L.length from by simp] at LT;go_wp2_with fail
 refine LT.mono ?_;rintro e w2 ⟨⟨b1,b2,b3,rfl,pd1⟩,hb2⟩;have HST2:Hid (St own nm av2 m2 cap2 k B T hi w lv w2 (L++[(C0,[])]) lv1 P1/\∀ h:L.length<P1.length,(P1[L.length]).2=zAH):=⟨HST1.out.1.below hb2,HST1.out.2⟩
 have HP1:Hid (Pd k w2 lv1 161 L.length b1 b2 b3):=pd1;clear LT pd1 hb2 HST1;have LT:=zC9 k B 158 T _ _ _ lv1 P1 w2 HST2.out.1.ws (by simp) (by have:=HBD.out;simp;omega);rw [show (L++[(C0,([]:List Int))]).length - 1=L.length from by simp] at LT;go_wp2_with fail
 refine LT.mono ?_;rintro e w3 ⟨⟨c1,c2,c3,rfl,pd2⟩,hb3⟩;have hb4:=zAM (Below.refl _ w3) (.cells #[clV c1 c2 c3] 1);have HCH:Hid (ChS own nm av2 m2 cap2 k B T hi n w lv L ks b1 b2 b3 0 (w3.alloc (.cells #[clV c1 c2 c3] 1)) (.slice (some ⟨w3.heap.size,0,none⟩) 1 1) lv1 P1 [(c1,c2,c3)]):=by
  have hbb:=zAB hb3 hb4;have hp1:=HP1.out.below hbb;have hp2:=pd2.below hb4;have hs:=HST2.out.1.below hbb;refine ⟨by simpa [toC,zAO] using hs,zMh w3 (c1,c2,c3) B (HST2.out.1.below hb3).en.hB,hp1,⟨rfl,λj h1 h2=>?_⟩,λb hb e=>?_,λj e=>by cases e;exact (HST2.out.1.below hb3).fr.size,λ_=>HST2.out.2⟩
  ·have e:j=0:=by simp at h2;omega
   subst e;exact hp2
  ·have e2:w3.heap.size=b:=by simpa [Value.ownBlock] using e
   rcases List.mem_append.1 hb with q | q
   ·have:=((HP1.out.below hb3).bd b q).2.1;omega
   ·have q2:b ∈ [c1,c2,c3]:=by simpa [zGr] using q
    have:=(pd2.bd b q2).2.1;omega
 clear LT pd2 hb3 hb4 HST2 HP1;go_upto_region 3 with fail
 generalize (w3.alloc (.cells #[clV c1 c2 c3] 1))=W4 at *;generalize hev:(Value.slice (some ⟨w3.heap.size,0,none⟩) 1 1)=ev0 at *;clear hev;have eg:=zL9;go_wp2_with fail
 go_loopg [6,7,8,22] m (λgk u6 u7 u8 x wr=>∃ (i:Nat) (ev:Value),ev=u6/\x=.int .i64 (i:Int)/\gk=m - i/\i<=m/\Hid (∃ lvi Pi cs,ChS own nm av2 m2 cap2 k B T hi n w lv L ks b1 b2 b3 i wr ev lvi Pi cs))
 case atStart=>exact ⟨0,_,rfl,rfl,rfl,Nat.zero_le _,⟨lv1,P1,[(c1,c2,c3)],HCH.out⟩⟩
 case round =>
  clear HCH;obtain ⟨i,ev,rfl,rfl,hg,him,HS⟩:=hrel;by_cases hlt:i<m
  ·have hli:(i:Int)<(m:Int):=by omega
   have hiz:(0:Int)<=(i:Int):=by omega
   have hwi:IntKind.i64.wrap ((i:Int)+1)=(i:Int)+1:=by have:=HM.out;rw [IntKind.wrap_i64];omega
   have hln:i<ps.length:=by have:=HM.out;omega
   have hlk:i<ks.length:=by have:=HM.out;omega
   obtain ⟨lvi,Pi,cs,ch⟩:=HS.out;obtain ⟨bb,off,rfl,hr0⟩:=HRD.out i (by simpa using hln);simp only [List.getElem_map] at hr0;have hr:=ch.st.fr.range hr0 (HAV.out bb off rfl);have hpi:=List.getElem_mem hln;obtain ⟨sa,sb,sc,hsl⟩:=(HPA.out _ hpi).slice;have hle:=zEx (cod own nm n) ks i hlk (L.length+1);have hki:=HKS.out i hln hlk;have HTK:Hid (ks.take (i+1)=ks.take i++[(ps[i]).1]):=by show _=_;rw [List.take_succ_eq_append_getElem hlk,hki]
   rw [hki] at hle;have HPT:Hid (∀ (W:World) (Lx:List I) (lvx:Value) (Px:List (Wc.In × Value)),St own nm av2 m2 cap2 k B T hi w lv W Lx lvx Px->Lx.length+(cod own nm n (ps[i]).1 Lx.length).length<=900000->Calls prog 27 #[.pointer (some ⟨k,0,none⟩),.agg (zAN (hd n (ps[i]).1) (.slice sa sb sc)).toArray] W (WP k B T (.int .i64 own) (.slice av2 m2 cap2) (Lx++cod own nm n (ps[i]).1 Lx.length) lvx W)):=λW Lx lvx Px st hb=>by
    have:=HIH.out (ps[i]).1 (ps[i]).2 lo hi k B T W Lx lvx Px (HWP.out _ hpi) (PA.kept (st.kept HK.out.1) n _ _ (HPA.out _ hpi)) st.en st.ws hb;rw [hsl] at this;exact this
   rw [hsl] at hr;have HLE:Hid ((zAO (cod own nm n) 0 (ks.take i) (L.length+1)).length+(cod own nm n (ps[i]).1 (L.length+1+(zAO (cod own nm n) 0 (ks.take i) (L.length+1)).length+(if i=0 then 0 else 1))).length+(if i=0 then 0 else 1)<=(zAO (cod own nm n) 0 ks (L.length+1)).length):=hle;obtain ⟨tk,htk⟩:∃ t,(ps[i]).1=t:=⟨_,rfl⟩
   rw [htk] at HTK HPT HLE hr;generalize hd n tk=y at *;have hth:World.there (wr.alloc (.cells zeros21 64)) wr.heap.size 0 (zAN y (.slice sa sb sc)).toArray.size:=(AtL.new0 wr _ _:AtL (wr.alloc (.cells zeros21 64)) wr.heap.size zeros21.toList).there;have HPI:Hid (AtL ((wr.alloc (.cells zeros21 64)).setCells wr.heap.size 0 (zAN y (.slice sa sb sc))) wr.heap.size (zAN y (.slice sa sb sc))):=(AtL.new0 wr _ _:AtL (wr.alloc (.cells zeros21 64)) wr.heap.size zeros21.toList).setAll rfl;have HTG:Hid (∃ cur,((wr.alloc (.cells zeros21 64)).setCells wr.heap.size 0 (zAN y (.slice sa sb sc))).heap[wr.heap.size]? = some (.cells cur 64)):=zIy _ 0 _ _ (heap_alloc_new wr _);have hHB:Below wr.heap.size wr ((wr.alloc (.cells zeros21 64)).setCells wr.heap.size 0 (zAN y (.slice sa sb sc))):=zAv (zAM (Below.refl _ wr) _) (Nat.le_refl _) _ 0;have HCH2:Hid (ChS own nm av2 m2 cap2 k B T hi n w lv L ks b1 b2 b3 i ((wr.alloc (.cells zeros21 64)).setCells wr.heap.size 0 (zAN y (.slice sa sb sc))) ev lvi Pi cs/\k<wr.heap.size/\wr.heap.size<((wr.alloc (.cells zeros21 64)).setCells wr.heap.size 0 (zAN y (.slice sa sb sc))).heap.size/\(∀ j,lvi.ownBlock=some j->j<wr.heap.size)/\cs.length<=31):=⟨ch.below hHB,by have:=ch.st.en.kB;have:=ch.st.en.hB;omega,HPI.out.lt,λj e=>(zAK ch.st.ws.own e).2,by
    have h9:=ch.pl.1;have h8:=zGO (cod own nm n) (ks.take i) (L.length+1);have h7:=HM.out;rw [List.length_take] at h8;simp only [List.length_cons,List.length_map] at h9;omega⟩
   clear hle hki hsl hr0 hpi htk hln hlk ch HS hHB;go_upto_region 6 with (first | (refine zAA (by rfl) 64 (.tmp 25) rfl bb (off+i * 21) rfl (zAN y (.slice sa sb sc)) _ hr underlying64 rfl (by kernel_rfl) ?_) | ((with_reducible refine wpList_store_mid ?_ 64 (.tmp 8) (.tmp 26) ?_ wr.heap.size 0 (zAN y (.slice sa sb sc)).toArray ?_ ?_ ?_ ?_ ?_ ?_);rfl;rfl;rfl;rfl;exact hth;kernel_rfl;exact zAk _ _ _ _))
   clear hth hr;generalize ((wr.alloc (.cells zeros21 64)).setCells wr.heap.size 0 (zAN y (.slice sa sb sc)))=W2 at *;obtain ⟨ch,hkw,hws2,hlvs,hcs⟩:=HCH2.out;obtain ⟨cur,htag⟩:=HTG.out;have hrI:=HPI.out.range;by_cases h0:i=0
   ·subst h0;have st0:St own nm av2 m2 cap2 k B T hi w lv W2 (L++(C0,[])::[]) lvi Pi:=by simpa [toC,zAO] using ch.st
    have pl0:PdL k W2 lvi [(158,L.length)] cs:=by simpa [jx] using ch.pl
    have HTK2:Hid (ks.take 1=[tk]):=by show _=_;have:=HTK.out;simpa using this
    have HL2:Hid ((cod own nm n tk (L.length+1)).length<=(zAO (cod own nm n) 0 ks (L.length+1)).length):=by
     show _<=_
     have h9:=HLE.out;rw [List.take_zero,show zAO (cod own nm n) 0 ([]:List (Tr n)) (L.length+1)=[] from rfl] at h9;simpa using h9
    have BG:=zFf own nm av2 m2 cap2 k B T hi w lv L [] [] b1 b2 b3 W2 ev lvi Pi _ cs st0 ch.oc ch.pb pl0 ch.ne (by have:=HBD.out;simp;omega) (by simp) (Or.inl ⟨rfl,ch.nl rfl⟩) (by simp) HK.out.2.1;have hat:L.length<(L++[(C0,([]:List Int))]).length:=by simp
    have hzz:=(st0.ws.ins L.length (by rw [st0.ws.len];exact hat) hat).2;have HNI:Hid (wr.heap.size ∉ lvi.ownBlock.toList++(Pi[L.length]'(by rw [st0.ws.len];exact hat)).2.ownBlock.toList):=λhm=>by
     rcases List.mem_append.1 hm with q | q
     ·have:=hlvs wr.heap.size (by simpa using q);omega
     ·exact zIX hzz (by decide) htag (by simpa using q)
    have HNE:Hid ((∀ b ∈ [b1,b2,b3]++zGr cs,¬ ev.ownBlock=some b)/\∀ j,ev.ownBlock=some j->w.heap.size<=j):=⟨ch.ne,ch.eb⟩
    have HRI:Hid (W2.rangeAt wr.heap.size 0 (zAN y (.slice sa sb sc))):=hrI;clear pl0 hzz ch hkw hws2 hlvs hcs htag hrI HCH2 HTG HPI;go_upto_region 9 with (first | (go_at_call 174;refine BG.mono ?_;rintro e w5 ⟨⟨P5,rfl,st5,oc5,pb5,pl5⟩,fr5⟩;clear BG))
    have rI:=fr5.range HRI.out HNI.out;have HS5:Hid (St own nm av2 m2 cap2 k B T hi w lv w5 (L++[(C0,[((L.length+1:Nat):Int)])]) lvi P5):=(by simpa using st5:St own nm av2 m2 cap2 k B T hi w lv w5 (L++[(C0,[((L.length+1:Nat):Int)])]) lvi P5)
    have HO5:Hid (OwnC w5 B ev cs/\Pd k w5 lvi 161 L.length b1 b2 b3/\PdL k w5 lvi [(158,L.length)] cs):=⟨oc5,pb5,pl5⟩
    clear st5 oc5 pb5 pl5 fr5 HNI HRI;have PT:=HPT.out w5 _ lvi P5 HS5.out (by have:=HBD.out;have:=HL2.out;simp;omega);go_wp2_with (first | (refine zAA (by rfl) 64 (.tmp 8) rfl wr.heap.size 0 rfl (zAN y (.slice sa sb sc)) _ rI underlying64 rfl (by kernel_rfl) ?_))
    refine PT.mono ?_;rintro e w6 ⟨⟨lv6,P6,rfl,ws6,nx6⟩,fr6⟩;have HS6:Hid (∃ lvi Pi cs,ChS own nm av2 m2 cap2 k B T hi n w lv L ks b1 b2 b3 1 w6 ev lvi Pi cs):=by
     refine ⟨lv6,P6,cs,?_,zEc HO5.out.1 HS5.out.ws HS5.out.en.kB fr6,HO5.out.2.1.step fr6 nx6,?_,HNE.out.1,HNE.out.2,λh=>by omega⟩
     ·have h9:=HS5.out.step fr6 nx6 ws6;rw [HTK2.out];have e9:(L++[(C0,[((L.length+1:Nat):Int)])])++cod own nm n tk (L++[(C0,[((L.length+1:Nat):Int)])]).length=L++(C0,toC (cod own nm n) [tk] (L.length+1))::zAO (cod own nm n) 0 [tk] (L.length+1):=by
       simp [toC,chT,zJ7]
      rw [e9] at h9;exact h9
     ·rw [HTK2.out];simpa [jx,jr] using HO5.out.2.2.mapP (λf a q1 q2 q3 _ p=>p.step fr6 nx6)
    clear PT rI ws6 nx6 fr6 HS5 HO5 HNE;go_wp2_with fail
    go_roundg (m - (0+1))
    case rel=>exact ⟨1,_,rfl,by simp,rfl,hlt,HS6⟩
    case measure=>omega
   ·have hne0:ks.take i ≠ []:=λe=>by
     have h9:(ks.take i).length=0:=by rw [e];rfl
     have:=HM.out;rw [List.length_take] at h9;omega
    have HLE2:Hid ((zAO (cod own nm n) 0 (ks.take i) (L.length+1)).length+(cod own nm n tk (L.length+1+(zAO (cod own nm n) 0 (ks.take i) (L.length+1)).length+1)).length+1<=(zAO (cod own nm n) 0 ks (L.length+1)).length):=by
     show _<=_
     have h9:=HLE.out;rw [if_neg h0] at h9;exact h9
    have HTL:Hid (∃ r,toC (cod own nm n) (ks.take i) (L.length+1)=((L.length+1:Nat):Int)::r):=by
     cases hk:ks.take i with
     | nil=>exact absurd hk hne0
     | cons x r=>exact ⟨_,rfl⟩
    have HTN:Hid ((toC (cod own nm n) (ks.take i) (L.length+1)).length<=1000):=by
     show _<=_
     have hct:∀ (r:List (Tr n)) (q:Nat),(chT (cod own nm n) r q).length=r.length:=by
      intro r;induction r with
      | nil=>intro q;rfl
      | cons x r ih=>intro q;simp [chT,ih]
     have h7:=HM.out;have h6:(ks.take i).length<=30:=by rw [List.length_take];omega
     cases hk:ks.take i with
     | nil=>simp [toC]
     | cons x r=>rw [hk] at h6;simp only [toC,List.length_cons,hct];simp at h6;omega
    have HES2:Hid (∀ p ∈ jx (cod own nm n) (ks.take i) (L.length+1),p ≠ L.length+1):=λp hp=>(HES.out i p hp).1
    have HSN:Hid (toC (cod own nm n) (ks.take i++[tk]) (L.length+1)=toC (cod own nm n) (ks.take i) (L.length+1)++[((L.length+1+(zAO (cod own nm n) 0 (ks.take i) (L.length+1)).length+1:Nat):Int)]/\zAO (cod own nm n) 0 (ks.take i++[tk]) (L.length+1)=zAO (cod own nm n) 0 (ks.take i) (L.length+1)++(ins 13 0 0::cod own nm n tk (L.length+1+(zAO (cod own nm n) 0 (ks.take i) (L.length+1)).length+1))/\jx (cod own nm n) (ks.take i++[tk]) (L.length+1)=jx (cod own nm n) (ks.take i) (L.length+1)++[L.length+1+(zAO (cod own nm n) 0 (ks.take i) (L.length+1)).length]):=⟨zHw _ _ _ hne0 _,zCe _ _ _ _ hne0 _,zJT _ _ _ hne0 _⟩
    have HY0:Hid (0<(zAO (cod own nm n) 0 (ks.take i) (L.length+1)).length):=HPB.out i hne0;have hst:=ch.st;have hpl:=ch.pl;generalize toC (cod own nm n) (ks.take i) (L.length+1)=tl at *;generalize zAO (cod own nm n) 0 (ks.take i) (L.length+1)=Y at *;generalize jx (cod own nm n) (ks.take i) (L.length+1)=js at *;have HC:Hid (St own nm av2 m2 cap2 k B T hi w lv W2 (L++(C0,tl)::Y) lvi Pi/\OwnC W2 B ev cs/\Pd k W2 lvi 161 L.length b1 b2 b3/\PdL k W2 lvi ((158,L.length)::js.map (λp=>(157,p))) cs/\(∀ b ∈ [b1,b2,b3]++zGr cs,¬ ev.ownBlock=some b)/\(∀ j,ev.ownBlock=some j->w.heap.size<=j)/\k<wr.heap.size/\wr.heap.size<W2.heap.size/\(∀ j,lvi.ownBlock=some j->j<wr.heap.size)/\cs.length<=31):=⟨hst,ch.oc,ch.pb,hpl,ch.ne,ch.eb,hkw,hws2,hlvs,hcs⟩
    have HRI:Hid (W2.rangeAt wr.heap.size 0 (zAN y (.slice sa sb sc))/\W2.heap[wr.heap.size]? = some (.cells cur 64)):=⟨hrI,htag⟩
    have JU:=zIu k B T _ _ _ lvi Pi W2 hst.ws hst.en.kB hst.en.hB (by have:=HBD.out;have:=HLE2.out;simp;omega);have hi0:(0:Int)<(i:Int):=by omega
    clear ch hkw hws2 hlvs hcs htag hrI HCH2 HTG HPI hst hpl HLE;go_wp2_with fail
    refine JU.mono ?_;rintro e w5 ⟨⟨d1,d2,d3,lv5,P5,rfl,pd3,hdn,ws5,nx5⟩,fr5⟩;obtain ⟨q1,q2,q3,q4,q5,q6,q7,q8,q9,q10⟩:=HC.out;have st5:=q1.step fr5 nx5 ws5;have hni:wr.heap.size ∉ k::lvi.ownBlock.toList:=λhm=>by
     rcases List.mem_cons.1 hm with q | q
     ·omega
     ·have:=q9 wr.heap.size (by simpa using q);omega
    have hb6:=zAM (Below.refl _ w5) (.cells #[clV d1 d2 d3] 1);have oc5:=zEc q2 q1.ws q1.en.kB fr5;have HC5:Hid (St own nm av2 m2 cap2 k B T hi w lv (w5.alloc (.cells #[clV d1 d2 d3] 1)) (L++(C0,tl)::(Y++[ins 13 0 0])) lv5 P5/\OwnC (w5.alloc (.cells #[clV d1 d2 d3] 1)) B ev cs/\Pd k (w5.alloc (.cells #[clV d1 d2 d3] 1)) lv5 161 L.length b1 b2 b3/\PdL k (w5.alloc (.cells #[clV d1 d2 d3] 1)) lv5 ((158,L.length)::js.map (λp=>(157,p))) cs/\Pd k (w5.alloc (.cells #[clV d1 d2 d3] 1)) lv5 157 (L.length+1+Y.length) d1 d2 d3/\(∀ b ∈ [d1,d2,d3],¬ ev.ownBlock=some b)):=by
     refine ⟨?_,zAW (Fr.of_below [] hb6) oc5 (by simp),(q3.step fr5 nx5).below hb6,q4.mapP (λf a p1 p2 p3 _ p=>(p.step fr5 nx5).below hb6),?_,λb hb e=>?_⟩
     ·have h9:=st5.below hb6;rw [List.append_assoc,List.cons_append] at h9;exact h9
     ·have h9:=pd3.below hb6;rw [show (L++(C0,tl)::Y).length=L.length+1+Y.length from by simp;omega] at h9;exact h9
     ·have:=hdn b hb;have:=(zAK q2 e).2;omega
    have HL5:Hid (¬ lv5.ownBlock=some wr.heap.size):=λe=>by
     rcases nx5 _ e with q | q
     ·have:=q9 _ q;omega
     ·omega
    have HRI5:Hid ((w5.alloc (.cells #[clV d1 d2 d3] 1)).rangeAt wr.heap.size 0 (zAN y (.slice sa sb sc))/\(w5.alloc (.cells #[clV d1 d2 d3] 1)).heap[wr.heap.size]? = some (.cells cur 64)):=⟨zAF hb6 (fr5.range HRI.out.1 hni),zIS (Fr.of_below [] hb6) (zIS fr5 HRI.out.2 hni) (by simp)⟩
    have HAT:Hid ((w5.alloc (.cells #[clV d1 d2 d3] 1)).cell? ⟨w5.heap.size,0,none⟩=some (clV d1 d2 d3)):=(AtL.new0 w5 1 [clV d1 d2 d3]).2.1 0 _ rfl;have HNV:Hid ((∀ b ∈ [b1,b2,b3]++zGr cs,¬ ev.ownBlock=some b)/\(∀ j,ev.ownBlock=some j->w.heap.size<=j)/\cs.length<=31/\B<=(w5.alloc (.cells #[clV d1 d2 d3] 1)).heap.size):=⟨q5,q6,q10,Nat.le_trans st5.en.hB hb6.size⟩
    clear JU pd3 hdn ws5 nx5 fr5 q1 q2 q3 q4 q5 q6 q7 q8 q9 q10 st5 hni oc5 hb6 HC HRI;go_upto_region 8 with (first
     | (
       refine zEm rfl (.tmp 29) (.tmp 32) rfl (w5.alloc (.cells #[clV d1 d2 d3] 1)) B HNV.out.2.2.2 ev cs rfl HC5.out.2.1 w5.heap.size (d1,d2,d3) rfl HAT.out (λ_=>by have:=HNV.out.2.2.1;omega) ?_;intro ev7 w7 own7 hg7 hv7))
    obtain ⟨r1,r2,r3,r4,r5,r6⟩:=HC5.out;obtain ⟨n1,n2,n3,n4⟩:=HNV.out;have f7:Fr ev.ownBlock.toList (w5.alloc (.cells #[clV d1 d2 d3] 1)) w7:=Fr.of_grown hg7 (λj e=>by simp [e]);have st7:=r1.other f7 (λj hj=>⟨n2 j (by simpa using hj),by have:=(zAK r2 (show ev.ownBlock=some j by simpa using hj)).1;have:=r1.en.kB;omega⟩) (λj e hm=>zAi r1.ws.own r2 (by decide) e (by simpa using hm)) (λa ha b e hm=>zAi (r1.ws.ins a ha (by rw [<-r1.ws.len];exact ha)).2 r2 (by decide) e (by simpa using hm));have pb7:=r3.fr (lv':=lv5) f7 (λb hb hm=>n1 b (List.mem_append_left _ hb) (by simpa using hm)) (λb hb=>(r3.bd b hb).2.2);have pl7:PdL k w7 lv5 ((158,L.length)::js.map (λp=>(157,p))) cs:=r4.mapP (λf a p1 p2 p3 hm p=>p.fr f7 (λb hb hq=>n1 b (List.mem_append_right _ (zLF hm hb)) (by simpa using hq)) (λb hb=>(p.bd b hb).2.2));have pd7:=r5.fr (lv':=lv5) f7 (λb hb hm=>r6 b hb (by simpa using hm)) (λb hb=>(r5.bd b hb).2.2);have pl8:=pl7.snoc (q:=(157,L.length+1+Y.length)) (c:=(d1,d2,d3)) pd7;have hbl:zGr (cs++[(d1,d2,d3)])=zGr cs++[d1,d2,d3]:=by simp [zGr]
    have hlt6:∀ b ∈ [b1,b2,b3]++zGr (cs++[(d1,d2,d3)]),b<(w5.alloc (.cells #[clV d1 d2 d3] 1)).heap.size:=λb hb=>by
     rw [hbl] at hb;rcases List.mem_append.1 hb with q | q
     ·exact (r3.bd b q).2.1
     ·rcases List.mem_append.1 q with q | q
      ·obtain ⟨c,hc,hbc⟩:=List.mem_flatMap.1 q;obtain ⟨j,hj,rfl⟩:=List.getElem_of_mem hc;exact ((r4.2 j (by rw [r4.1];exact hj) hj).bd b hbc).2.1
      ·exact (r5.bd b q).2.1
    have ne8:∀ b ∈ [b1,b2,b3]++zGr (cs++[(d1,d2,d3)]),¬ ev7.ownBlock=some b:=λb hb e=>by
     rcases hv7 with h | h
     ·rw [h] at e;rw [hbl] at hb;rcases List.mem_append.1 hb with q | q
      ·exact n1 b (List.mem_append_left _ q) e
      ·rcases List.mem_append.1 q with q | q
       ·exact n1 b (List.mem_append_right _ q) e
       ·exact r6 b q e
     ·rw [h] at e;cases e
      have:=hlt6 _ hb;omega
    have eb8:∀ j,ev7.ownBlock=some j->w.heap.size<=j:=λj e=>by
     rcases hv7 with h | h
     ·exact n2 j (by rw [<-h];exact e)
     ·rw [h] at e;cases e;exact r1.fr.size
    have hnev:wr.heap.size ∉ ev.ownBlock.toList:=λhm=>zIX r2 (by decide) HRI5.out.2 (by simpa using hm)
    have rI7:=f7.range HRI5.out.1 hnev;have tg7:=zIS f7 HRI5.out.2 hnev;have BG:=zFf own nm av2 m2 cap2 k B T hi w lv L (Y++[ins 13 0 0]) tl b1 b2 b3 w7 ev7 lv5 P5 _ (cs++[(d1,d2,d3)]) st7 own7 pb7 pl8 ne8 (by have:=HBD.out;have:=HLE2.out;simp;omega) HTN.out (Or.inr HTL.out) (λq hq=>by
     rcases List.mem_append.1 hq with h | h
     ·rcases List.mem_cons.1 h with rfl | h
      ·simp
      ·obtain ⟨p,hp,rfl⟩:=List.mem_map.1 h;exact HES2.out p hp
     ·simp only [List.mem_singleton] at h;subst h;have:=HY0.out;simp only;omega) HK.out.2.1
    have hat:L.length<(L++(C0,tl)::(Y++[ins 13 0 0])).length:=by simp
    have hzz:=(st7.ws.ins L.length (by rw [st7.ws.len];exact hat) hat).2;have HNI:Hid (wr.heap.size ∉ lv5.ownBlock.toList++(P5[L.length]'(by rw [st7.ws.len];exact hat)).2.ownBlock.toList):=λhm=>by
     rcases List.mem_append.1 hm with q | q
     ·exact HL5.out (by simpa using q)
     ·exact zIX hzz (by decide) tg7 (by simpa using q)
    have HN8:Hid ((∀ b ∈ [b1,b2,b3]++zGr (cs++[(d1,d2,d3)]),¬ ev7.ownBlock=some b)/\∀ j,ev7.ownBlock=some j->w.heap.size<=j):=⟨ne8,eb8⟩
    have HRI7:Hid (w7.rangeAt wr.heap.size 0 (zAN y (.slice sa sb sc))):=rI7;clear r1 r2 r3 r4 r5 r6 n1 n2 n3 n4 f7 pb7 pl7 pd7 pl8 hbl hlt6 ne8 eb8 hnev rI7 tg7 hzz own7 hg7 hv7 HC5 HRI5 HAT HNV HL5;go_upto_region 9 with (first | (go_at_call 174;refine BG.mono ?_;rintro e w8 ⟨⟨P8,rfl,st8,oc8,pb8,pl8⟩,fr8⟩;clear BG))
    have rI:=fr8.range HRI7.out HNI.out;have HS8:Hid (St own nm av2 m2 cap2 k B T hi w lv w8 (L++(C0,tl++[((L.length+1+Y.length+1:Nat):Int)])::(Y++[ins 13 0 0])) lv5 P8):=by
     have e9:(((L++(C0,tl)::(Y++[ins 13 0 0])).length:Nat):Int)=((L.length+1+Y.length+1:Nat):Int):=by simp;omega
     rw [e9] at st8;exact st8
    have HO8:Hid (OwnC w8 B ev7 (cs++[(d1,d2,d3)])/\Pd k w8 lv5 161 L.length b1 b2 b3/\PdL k w8 lv5 (((158,L.length)::js.map (λp=>(157,p)))++[(157,L.length+1+Y.length)]) (cs++[(d1,d2,d3)])):=⟨oc8,pb8,pl8⟩
    clear st8 oc8 pb8 pl8 fr8 HNI HRI7;have hlen8:(L++(C0,tl++[((L.length+1+Y.length+1:Nat):Int)])::(Y++[ins 13 0 0])).length=L.length+1+Y.length+1:=by simp;omega
    have PT:=HPT.out w8 _ lv5 P8 HS8.out (by rw [hlen8];have:=HBD.out;have:=HLE2.out;omega);rw [hlen8] at PT;clear hlen8;go_wp2_with (first | (refine zAA (by rfl) 64 (.tmp 8) rfl wr.heap.size 0 rfl (zAN y (.slice sa sb sc)) _ rI underlying64 rfl (by kernel_rfl) ?_))
    refine PT.mono ?_;rintro e w9 ⟨⟨lv9,P9,rfl,ws9,nx9⟩,fr9⟩;have HS9:Hid (∃ lvi Pi cs,ChS own nm av2 m2 cap2 k B T hi n w lv L ks b1 b2 b3 (i+1) w9 ev7 lvi Pi cs):=by
     obtain ⟨s1,s2,s3⟩:=HSN.out;refine ⟨lv9,P9,cs++[(d1,d2,d3)],?_,zEc HO8.out.1 HS8.out.ws HS8.out.en.kB fr9,HO8.out.2.1.step fr9 nx9,?_,HN8.out.1,HN8.out.2,λh=>by omega⟩
     ·have h9:=HS8.out.step fr9 nx9 ws9;rw [HTK.out,s1,s2];have e9:(L++(C0,tl++[((L.length+1+Y.length+1:Nat):Int)])::(Y++[ins 13 0 0]))++cod own nm n tk (L.length+1+Y.length+1)=L++(C0,tl++[((L.length+1+Y.length+1:Nat):Int)])::(Y++(ins 13 0 0::cod own nm n tk (L.length+1+Y.length+1))):=by simp
      rw [e9] at h9;exact h9
     ·rw [HTK.out,s3,List.map_append];exact HO8.out.2.2.mapP (λf a p1 p2 p3 _ p=>p.step fr9 nx9)
    clear PT rI ws9 nx9 fr9 HS8 HO8 HN8;go_wp2_with fail
    go_roundg (m - (i+1))
    case rel=>exact ⟨i+1,_,rfl,by simp,rfl,hlt,HS9⟩
    case measure=>omega
  ·have hli:¬ (i:Int)<(m:Int):=by omega
   obtain ⟨lvi,Pi,cs,ch⟩:=HS.out;have htk:ks.take i=ks:=List.take_of_length_le (by have:=HM.out;omega);have hst:=ch.st;have hpl:=ch.pl;rw [htk] at hst hpl;have hpp:∀ p ∈ jx (cod own nm n) ks (L.length+1),p<L.length+1+(zAO (cod own nm n) 0 ks (L.length+1)).length:=λp hp=>by
    have:=(HES.out i p (by rw [htk];exact hp)).2;rw [htk] at this;exact this
   have hfin:((158,L.length)::(jx (cod own nm n) ks (L.length+1)).map (λp=>(157,p))).foldl (pX ((L.length+1+(zAO (cod own nm n) 0 ks (L.length+1)).length:Nat):Int)) (L++(C0,toC (cod own nm n) ks (L.length+1))::zAO (cod own nm n) 0 ks (L.length+1))=LF:=by
    rw [<-HLF.out,List.foldl_cons,List.foldl_map];have e1:pX ((L.length+1+(zAO (cod own nm n) 0 ks (L.length+1)).length:Nat):Int) (L++(C0,toC (cod own nm n) ks (L.length+1))::zAO (cod own nm n) 0 ks (L.length+1)) (158,L.length)=pB ((L.length+1+(zAO (cod own nm n) 0 ks (L.length+1)).length:Nat):Int) (L++(C0,toC (cod own nm n) ks (L.length+1))::zAO (cod own nm n) 0 ks (L.length+1)) L.length:=rfl;rw [e1];exact zKW (cod own nm n) _ ks L _
   have hLl:(L++(C0,toC (cod own nm n) ks (L.length+1))::zAO (cod own nm n) 0 ks (L.length+1)).length=L.length+1+(zAO (cod own nm n) 0 ks (L.length+1)).length:=by simp;omega
   obtain ⟨LE,hLE⟩:∃ LE,L++(C0,toC (cod own nm n) ks (L.length+1))::zAO (cod own nm n) 0 ks (L.length+1)=LE:=⟨_,rfl⟩
   obtain ⟨es,hes⟩:∃ es,(158,L.length)::(jx (cod own nm n) ks (L.length+1)).map (λp=>(157,p))=es:=⟨_,rfl⟩
   have HQ:Hid (∀ q ∈ es,(q.1=157 \/ q.1=158)/\q.2<LE.length):=λq hq=>by
    rw [<-hes] at hq;rw [<-hLE,hLl];rcases List.mem_cons.1 hq with rfl | hq
    ·exact ⟨Or.inr rfl,by simp only;omega⟩
    ·obtain ⟨p,hp,rfl⟩:=List.mem_map.1 hq;exact ⟨Or.inl rfl,hpp p hp⟩
   rw [<-hLl] at hfin;rw [hLE] at hst hfin hLl;rw [hes] at hpl hfin;have HFI:Hid (es.foldl (pX (LE.length:Int)) LE=LF):=hfin;have HLB:Hid (LE.length<=900000/\cs.length<=31):=⟨by have:=HBD.out;omega,by
    have h9:=hpl.1;have h8:=zGO (cod own nm n) ks (L.length+1);have h7:=HM.out;rw [<-hes] at h9;simp only [List.length_cons,List.length_map] at h9;omega⟩
   obtain ⟨ae,ce,hev⟩:=ch.oc.slice;have hc0:0<cs.length:=by rw [<-hpl.1,<-hes];simp
   obtain ⟨ge,hge⟩:∃ ge,ae=some ⟨ge,0,none⟩:=by
    rcases ch.oc.2 with ⟨q,h9⟩ | ⟨g,cap9,cur9,q,_⟩
    ·omega
    ·rw [hev] at q;simp only [Value.slice.injEq] at q;exact ⟨g,q.1⟩
   subst hge;subst hev;have HL0:Hid (∃ Pj,St own nm av2 m2 cap2 k B T hi w lv wr ((es.take 0).foldl (pX (LE.length:Int)) LE) lvi Pj/\OwnC wr B (.slice (some ⟨ge,0,none⟩) cs.length ce) cs/\PdL k wr lvi es cs):=⟨Pi,hst,ch.oc,hpl⟩
   obtain ⟨mc,hmc⟩:∃ mc,cs.length=mc:=⟨_,rfl⟩
   have HMC:Hid (cs.length=mc/\es.length=mc):=⟨hmc,by rw [hpl.1,hmc]⟩
   rw [hmc] at HL0 ⊢;clear HS ch hst hpl hpp hfin hLl hLE hes htk hc0 hmc;go_wp2_with fail
   go_loopg [10,42] mc (λgk2 u10 x2 wr2=>∃ (j:Nat),x2=.int .i64 (j:Int)/\gk2=mc - j/\j<=mc/\Hid (∃ Pj,St own nm av2 m2 cap2 k B T hi w lv wr2 ((es.take j).foldl (pX (LE.length:Int)) LE) lvi Pj/\OwnC wr2 B (.slice (some ⟨ge,0,none⟩) mc ce) cs/\PdL k wr2 lvi es cs))
   case atStart=>exact ⟨0,rfl,rfl,Nat.zero_le _,HL0⟩
   case round =>
    clear HL0;obtain ⟨j,rfl,hg2,hj,HS⟩:=hrel;by_cases hjt:j<mc
    ·have hji:(j:Int)<(mc:Int):=by omega
     have hjz:(0:Int)<=(j:Int):=by omega
     have hwj:IntKind.i64.wrap ((j:Int)+1)=(j:Int)+1:=by have:=HLB.out;have:=HMC.out;rw [IntKind.wrap_i64];omega
     obtain ⟨Pj,st,oc,pl⟩:=HS.out;have hjc:j<cs.length:=by have:=HMC.out;omega
     have hje:j<es.length:=by have:=HMC.out;omega
     have hcell:=oc.cells (show Value.ownBlock (.slice (some ⟨ge,0,none⟩) mc ce)=some ge from rfl) j (clV (cs[j]).1 (cs[j]).2.1 (cs[j]).2.2) (by rw [List.getElem?_map,List.getElem?_eq_getElem hjc];rfl);rw [show (⟨ge,0,none⟩:Addr).add j=⟨ge,j,none⟩ from by
      simp [Addr.add];try (intro h0;omega)] at hcell
     have hq:=HQ.out _ (List.getElem_mem hje);have hlen:=zIP (LE.length:Int) (es.take j) LE;have CJ:=zMq k B T _ _ _ lvi Pj wr es[j] hq.1 _ _ _ st.ws st.en.kB (by rw [hlen];have:=HLB.out;omega) (pl.2 j hje hjc) (by rw [hlen];exact hq.2);rw [hlen] at CJ;have HSJ:Hid ((es.take (j+1)).foldl (pX (LE.length:Int)) LE=pX (LE.length:Int) ((es.take j).foldl (pX (LE.length:Int)) LE) es[j]):=by show _=_;rw [List.take_succ_eq_append_getElem hje,List.foldl_append];rfl
     have HSB:Hid (St own nm av2 m2 cap2 k B T hi w lv wr ((es.take j).foldl (pX (LE.length:Int)) LE) lvi Pj/\OwnC wr B (.slice (some ⟨ge,0,none⟩) mc ce) cs/\PdL k wr lvi es cs):=⟨st,oc,pl⟩
     generalize (cs[j]).1=x1 at *;generalize (cs[j]).2.1=x2 at *;generalize (cs[j]).2.2=x3 at *;clear st oc pl hlen hq HS;go_wp2_with (first | (go_at_call 174;refine CJ.mono ?_;rintro e w3 ⟨⟨P3,rfl,ws3⟩,fr3⟩;clear CJ))
     have HS3:Hid (∃ Pj,St own nm av2 m2 cap2 k B T hi w lv w3 ((es.take (j+1)).foldl (pX (LE.length:Int)) LE) lvi Pj/\OwnC w3 B (.slice (some ⟨ge,0,none⟩) mc ce) cs/\PdL k w3 lvi es cs):=by
      obtain ⟨st,oc,pl⟩:=HSB.out;refine ⟨P3,by rw [HSJ.out];exact st.patch fr3 ws3,zAW fr3 oc (λb e hm=>zAi oc st.ws.own (by decide) e (by simpa using hm)),pl.mapP (λf a p1 p2 p3 _ p=>p.patch fr3)⟩
     clear ws3 fr3 HSB hcell;go_roundg (mc - (j+1))
     case rel=>exact ⟨j+1,by simp,rfl,hjt,HS3⟩
     case measure=>omega
    ·have hji:¬ (j:Int)<(mc:Int):=by omega
     have HR:Hid (WP k B T0 (.int .i64 own) (.slice av2 m2 cap2) LF lv w (.returned (.tuple #[])) wr):=by
      obtain ⟨Pj,st,oc,pl⟩:=HS.out;rw [List.take_of_length_le (by have:=HMC.out;omega),HFI.out] at st;exact HEND.out wr lvi Pj st
     clear HS;go_wp2;go_end0
     exact HR.out
open Go.RowKit Wf
theorem zHm (w:World) (g o m cap:Nat) (j:Nat) (hj:j<=m) (hc:m<=cap):(Instr.sliceAt 62 (.slice (some ⟨g,o,none⟩) m cap) (some (.int .i64 (j:Int))) none none).run prog w=.ok (.slice (some ⟨g,(if cap=j then o else o+21 * j),none⟩) (m - j) (cap - j)) w:=by
 have hu:prog.underlying 62=some (.slice (prog.elem 62)):=by kernel_rfl
 have hz:(sizeOf (prog.elem 62)).run prog w=.ok 21 w:=by kernel_rfl
 rw [run_sliceAt_slice w _ _ _ _ _ hu,run_slice_l w _ _ _ _ hu _ (j:Int) (by omega) (by omega),hz];have he:sliced (some ⟨g,o,none⟩) j m cap 21=.slice (some ⟨g,(if cap=j then o else o+21 * j),none⟩) (m - j) (cap - j):=by
  unfold sliced;by_cases hc1:cap=j
  ·rw [if_pos hc1,if_pos hc1]
  ·rw [if_neg hc1,if_neg hc1];simp [Addr.add];rw [Nat.mul_comm];by_cases h0:21 * j=0
   ·rw [if_pos h0,h0,Nat.add_zero]
   ·rw [if_neg h0]
 rw [<-he];rfl
theorem zGd {ops:Array Oper} {rest:List Oper} {Q:Exit->Act->World->Prop} (hgd:op.guard=none) (s:Operand) (j:Nat) (ho:op.op=.slice 62 s (some (.const (.int .i64 (j:Int)))) none none) (g o m cap:Nat) (hs:a.eval s=.slice (some ⟨g,o,none⟩) m cap) (hj:j<=m) (hc:m<=cap)
  (h:wpList prog ops Q rest (a.put op.dst (.slice (some ⟨g,(if cap=j then o else o+21 * j),none⟩) (m - j) (cap - j))) w):wpList prog ops Q (op::rest) a w:=by
 refine wpList_plain hgd λK hK=>?_
 unfold Oper.wp execOp;have hv:a.eval (.const (.int .i64 (j:Int)))=.int .i64 (j:Int):=rfl;simp only [ho,hs,hv,Option.map_some,Option.map_none,Sem.run_bind,Sem.run_pure,Result.andThen_ok,zHm w g o m cap j hj hc];exact hK _ _ h
theorem zLU (s:Operand) (j:Nat) (ho:op.op=.slice 62 s (some (.const (.int .i64 (j:Int)))) none none) (g o m cap:Nat) (hs:a.eval s=.slice (some ⟨g,o,none⟩) m cap) (hj:j<=m) (hc:m<=cap) (W:World):(execOp a.eval op).run prog W=.ok (.value (.slice (some ⟨g,(if cap=j then o else o+21 * j),none⟩) (m - j) (cap - j))) W:=by
 unfold execOp;have hv:a.eval (.const (.int .i64 (j:Int)))=.int .i64 (j:Int):=rfl;simp only [ho,hs,hv,Option.map_some,Option.map_none,Sem.run_bind,Sem.run_pure,Result.andThen_ok,zHm W g o m cap j hj hc]
theorem RdQ.drop {bb off X:Nat} {L:List (Wt.Nd × Value)} (h:RdQ w (some ⟨bb,off,none⟩) L) (j:Nat) (hX:j<L.length->X=off+21 * j):RdQ w (some ⟨bb,X,none⟩) (L.drop j):=λi hi=>by
 rw [List.length_drop] at hi;obtain ⟨b2,o2,e,hr⟩:=h (j+i) (by omega);cases e
 refine ⟨bb,X,rfl,?_⟩;rw [hX (by omega),List.getElem_drop,show off+21 * j+i * 21=off+(j+i) * 21 from by omega];exact hr
section
variable (own:Int) (nm:List ByteArray) (av2:Option Addr) (m2 cap2:Nat)
def LzC (n:Nat):Prop:=∀ (id:Int) (ps:List (Tr n × Value)) (av:Option Addr) (m cap lo hi k B:Nat) (T:Nat->Nat) (w:World) (L:List I) (lv:Value) (P:List (Wc.In × Value)),(id=30 \/ id=31 \/ id=32)->m=ps.length->m<=cap->2<=ps.length->ps.length<=30->(∀ p ∈ ps,Wr own nm n p.1)->(∀ p ∈ ps,PA n lo hi w p.1 p.2)->RdQ w av (ps.map λp=>(hd n p.1,p.2))->(∀ bb off,av=some ⟨bb,off,none⟩->bb<hi)->En own nm av2 m2 cap2 k B T hi w->WS k B T w (.int .i64 own) (.slice av2 m2 cap2) L lv P->L.length+(zAr (cod own nm n) id (ps.map (·.1)) L.length).length<=900000 ->
 Calls prog 84 #[.pointer (some ⟨k,0,none⟩),.int .i64 id,.slice av m cap] w (WP k B T (.int .i64 own) (.slice av2 m2 cap2) (L++zAr (cod own nm n) id (ps.map (·.1)) L.length) lv w)
end
theorem zM0 (own:Int) (nm:List ByteArray) (av2:Option Addr) (m2 cap2 n:Nat) (ih:PtC own nm av2 m2 cap2 n) (hpos:∀ (t:Tr n) (a:Nat),Wr own nm n t->0<(cod own nm n t a).length):LzC own nm av2 m2 cap2 n:=by
 intro id ps av mm cap lo hi k B T w L lv P hid hm hmc h2 hl hwp hpap hrd hav hen hws hbd;have br:=zIZ own nm av2 m2 cap2 n ih;have gd:=zJk own nm av2 m2 cap2 n ih;have ch:=zH2 own nm av2 m2 cap2 n ih hpos;obtain ⟨p0,p1,rest,rfl⟩:∃ p0 p1 rest,ps=p0::p1::rest:=by
  match ps,h2 with
  | p0::p1::rest,_=>exact ⟨p0,p1,rest,rfl⟩
 obtain ⟨bb,off,rfl,r00⟩:=hrd 0 (by simp);obtain ⟨b2,o2,e2,r01⟩:=hrd 1 (by simp);cases e2
 simp only [List.map_cons,List.getElem_cons_zero,List.getElem_cons_succ,Nat.zero_mul,Nat.one_mul,Nat.add_zero] at r00 r01;have hbb:=hav bb off rfl;obtain ⟨sa0,sb0,sc0,hs0⟩:=(hpap p0 (by simp)).slice;obtain ⟨sa1,sb1,sc1,hs1⟩:=(hpap p1 (by simp)).slice;rw [hs0] at r00;rw [hs1] at r01;obtain ⟨y,hy⟩:∃ y,cod own nm n p0.1 L.length=y:=⟨_,rfl⟩
 have hLz:zAr (cod own nm n) id ((p0::p1::rest).map (·.1)) L.length=y++(if id=30 then zC5 (cod own nm n) p1.1 (rest.map (·.1)) (L.length+y.length) else if id=31 then zMo own nm n p1.1 (L.length+y.length) else zCW (cod own nm n) ((p1::rest).map (·.1)) (L.length+y.length)):=by
  simp only [List.map_cons,zAr,hy];rfl
 obtain ⟨LF,hLF⟩:∃ LF,L++zAr (cod own nm n) id ((p0::p1::rest).map (·.1)) L.length=LF:=⟨_,rfl⟩
 rw [hLz,List.length_append] at hbd;rw [hLF];rw [hLz,<-List.append_assoc] at hLF;have h0B:∀ j,lv.ownBlock=some j->B<=j:=λj e=>(zAK hws.own e).1
 have hlen:(L++y).length=L.length+y.length:=by simp
 have hnb:bb ∉ k::lv.ownBlock.toList:=λhmm=>by
  have:=hen.hk;have:=hen.kB;rcases List.mem_cons.1 hmm with q | q
  ·omega
  ·have:=h0B bb (by simpa using q);omega
 have hrq:∀ (W:World) (lv1:Value) (P1:List (Wc.In × Value)),St own nm av2 m2 cap2 k B T hi w lv W (L++y) lv1 P1->RdQ W (some ⟨bb,off,none⟩) ((p0::p1::rest).map λp=>(hd n p.1,p.2)):=λW lv1 P1 st=>hrd.frq st.fr (λb o e hmm=>by cases e;exact hnb hmm)
 have PT:=ih p0.1 p0.2 lo hi k B T w L lv P (hwp p0 (by simp)) (hpap p0 (by simp)) hen hws (by rw [hy];omega);rw [hy,hs0] at PT;have HBR:Hid (id=30->∀ (W:World) (lv1:Value) (P1:List (Wc.In × Value)) (X:Nat),(0<rest.length->X=off+42)->St own nm av2 m2 cap2 k B T hi w lv W (L++y) lv1 P1->Calls prog 126 #[.pointer (some ⟨k,0,none⟩),.agg (zAN (hd n p1.1) (.slice sa1 sb1 sc1)).toArray,.slice (some ⟨bb,X,none⟩) rest.length (cap - 2)] W (WP k B T (.int .i64 own) (.slice av2 m2 cap2) LF lv1 W)):=λh30 W lv1 P1 X hX st=>by
  rw [if_pos h30] at hbd hLF;have:=br p1.1 p1.2 rest (some ⟨bb,X,none⟩) rest.length (cap - 2) lo hi k B T W (L++y) lv1 P1 (hwp p1 (by simp)) (PA.kept (st.kept h0B) n _ _ (hpap p1 (by simp))) rfl (by simp at hl;omega) (λp hp=>hwp p (by simp [hp])) (λp hp=>PA.kept (st.kept h0B) n _ _ (hpap p (by simp [hp]))) (by
   have h9:=(hrq W lv1 P1 st).drop 2 (X:=X) (λhh=>hX (by simpa using hh));simpa using h9) (λb o e=>by cases e;exact hbb) st.en st.ws (by rw [hlen];omega)
  rw [hs1,hlen,hLF] at this;exact this
 have HGD:Hid (id=31->∀ (W:World) (lv1:Value) (P1:List (Wc.In × Value)),St own nm av2 m2 cap2 k B T hi w lv W (L++y) lv1 P1->Calls prog 127 #[.pointer (some ⟨k,0,none⟩),.agg (zAN (hd n p1.1) (.slice sa1 sb1 sc1)).toArray] W (WP k B T (.int .i64 own) (.slice av2 m2 cap2) LF lv1 W)):=λh31 W lv1 P1 st=>by
  rw [if_neg (by omega),if_pos h31] at hbd hLF;have:=gd p1.1 p1.2 lo hi k B T W (L++y) lv1 P1 (hwp p1 (by simp)) (PA.kept (st.kept h0B) n _ _ (hpap p1 (by simp))) st.en st.ws (by rw [hlen];omega);rw [hs1,hlen,hLF] at this;exact this
 have HCH:Hid (id=32->∀ (W:World) (lv1:Value) (P1:List (Wc.In × Value)) (X:Nat),X=off+21->St own nm av2 m2 cap2 k B T hi w lv W (L++y) lv1 P1->Calls prog 128 #[.pointer (some ⟨k,0,none⟩),.slice (some ⟨bb,X,none⟩) (rest.length+1) (cap - 1)] W (WP k B T (.int .i64 own) (.slice av2 m2 cap2) LF lv1 W)):=λh32 W lv1 P1 X hX st=>by
  rw [if_neg (by omega),if_neg (by omega)] at hbd hLF;have:=ch (p1::rest) (some ⟨bb,X,none⟩) (rest.length+1) (cap - 1) lo hi k B T W (L++y) lv1 P1 (by simp) (by simp at hl ⊢;omega) (λp hp=>hwp p (by simp at hp ⊢;rcases hp with h | h <;> simp [h])) (λp hp=>PA.kept (st.kept h0B) n _ _ (hpap p (by simp at hp ⊢;rcases hp with h | h <;> simp [h]))) (by
   have h9:=(hrq W lv1 P1 st).drop 1 (X:=X) (λ_=>by omega);simpa using h9) (λb o e=>by cases e;exact hbb) st.en st.ws (by rw [hlen];omega)
  rw [hlen,hLF] at this;exact this
 have HST0:Hid (St own nm av2 m2 cap2 k B T hi w lv w L lv P):=St.init hen hws;have HN1:Hid (bb ∉ k::lv.ownBlock.toList):=hnb;have HN2:Hid (∀ j,lv.ownBlock=some j->bb ≠ j):=λj e q=>hnb (List.mem_cons_of_mem _ (by simp [e,q]))
 have HBB:Hid (bb<w.heap.size/\∀ (W:World) (lv1:Value) (P1:List (Wc.In × Value)),St own nm av2 m2 cap2 k B T hi w lv W (L++y) lv1 P1->bb ∉ k::lv1.ownBlock.toList):=⟨zA5 (r00 0 _ rfl),λW lv1 P1 st hmm=>by
  have:=hen.hk;have:=hen.kB;rcases List.mem_cons.1 hmm with q | q
  ·omega
  ·have:=(zAK st.ws.own (show lv1.ownBlock=some bb by simpa using q)).1;omega⟩
 obtain ⟨m,hmr⟩:∃ m,rest.length=m:=⟨_,rfl⟩
 have hmm:mm=m+2:=by rw [hm,<-hmr];rfl
 subst hmm;rw [hmr] at HBR HCH;have HR1:Hid (w.rangeAt bb (off+21) (zAN (hd n p1.1) (.slice sa1 sb1 sc1))):=r01;generalize hd n p0.1=y0 at *;generalize hd n p1.1=y1 at *;clear hm h2 hl hwp hpap hrd hav hen hws hbd ih hpos br gd ch hs0 hs1 hy hLz hLF h0B hlen hnb hrq hbb r01 hmr;have hm0:(0:Int)<((m+2:Nat):Int):=by omega
 have hm1:(1:Int)<((m+2:Nat):Int):=by omega
 go_enter func84,ntmps84;go_wp2_with (first | (refine zAA (by rfl) 64 (.tmp 8) rfl bb off rfl (zAN y0 (.slice sa0 sb0 sc0)) _ r00 underlying64 rfl (by kernel_rfl) ?_))
 refine PT.mono ?_;rintro e w1 ⟨⟨lv1,P1,rfl,ws1,nx1⟩,fr1⟩;have HS1:Hid (St own nm av2 m2 cap2 k B T hi w lv w1 (L++y) lv1 P1):=HST0.out.step fr1 nx1 ws1;have r1:=fr1.range HR1.out HN1.out;clear PT ws1 nx1 fr1 HST0 r00 HR1;rcases hid with rfl | rfl | rfl
 ·have HX2:Hid (∃ X2,(0<m->X2=off+42)/\∀ (a:Act) (op:Oper) (s:Operand),op.op=.slice 62 s (some (.const (.int .i64 2))) none none->a.eval s=.slice (some ⟨bb,off,none⟩) (m+2) cap->∀ W:World,(execOp a.eval op).run prog W=.ok (.value (.slice (some ⟨bb,X2,none⟩) m (cap - 2))) W):=⟨(if cap=2 then off else off+21 * 2),λh=>by rw [if_neg (by omega)],λa op s ho hs W=>zLU (a:=a) s 2 ho bb off (m+2) cap hs (by omega) hmc W⟩
  obtain ⟨X2,hX2,hex⟩:=HX2.out;have HEX:Hid (∀ (a:Act) (op:Oper) (s:Operand),op.op=.slice 62 s (some (.const (.int .i64 2))) none none->a.eval s=.slice (some ⟨bb,off,none⟩) (m+2) cap->∀ W:World,(execOp a.eval op).run prog W=.ok (.value (.slice (some ⟨bb,X2,none⟩) m (cap - 2))) W):=hex;have BR:=λ(W:World) (st:St own nm av2 m2 cap2 k B T hi w lv W (L++y) lv1 P1)=>HBR.out rfl W lv1 P1 X2 hX2 st
  have hdr:=(Below.refl w1.heap.size w1).drew;have HSD:Hid (St own nm av2 m2 cap2 k B T hi w lv w1.drew (L++y) lv1 P1):=HS1.out.below hdr;replace r1:w1.drew.rangeAt bb (off+21) (zAN y1 (.slice sa1 sb1 sc1)):=r1
  have HNX:Hid (bb ∉ k::lv1.ownBlock.toList):=HBB.out.2 w1 lv1 P1 HS1.out;clear HBR HGD HCH hX2 hex HX2 hdr HS1 hmc;go_upto_region 3 with fail
  refine wp_region_held_drew (S:=λW=>W.rangeAt bb (off+21) (zAN y1 (.slice sa1 sb1 sc1))) (by kernel_rfl) r1 (λhHeld=>?_);generalize w1.drew=WD at *;refine tkQ 0 ?_
  refine tkQ 1 ?_
  refine wpAnyH_take (i:=2) (v:=?_) (atQ rfl) (by kernel_rfl) (by kernel_rfl) (by kernel_rfl) (λ_ _ _ h=>h) (Or.inl ⟨by rfl,?_⟩) (by assumption) ?_;rotate_left
  ·intro w hSw
   (try dsimp only at hSw)
   go_simp
   try rw [if_pos (by omega)]
   try with_reducible rfl
  try simp only [Act.put,lA,lZ,lS]
  refine wpAnyH_take (i:=3) (v:=.agg (zAN y1 (.slice sa1 sb1 sc1)).toArray) (atQ rfl) (by kernel_rfl) (by kernel_rfl) (by kernel_rfl) (λ_ _ _ h=>h) (yieldsIf_load_mid (by rfl) 64 (.tmp 16) rfl (bb) (off+21) rfl (zAN y1 (.slice sa1 sb1 sc1)) _ (λ_ h=>h) underlying64 rfl (by kernel_rfl)) (by assumption) ?_;try simp only [Act.put,lA,lZ,lS]
  refine tkQ 4 ?_
  refine wpAnyH_take (i:=5) (v:=.slice (some ⟨bb,X2,none⟩) m (cap - 2)) (atQ rfl) (by kernel_rfl) (by kernel_rfl) (by kernel_rfl) (λ_ _ _ h=>h) (Or.inl ⟨by rfl,λW _=>HEX.out _ _ (.tmp 18) rfl rfl W⟩) (by assumption) ?_;try simp only [Act.put,lA,lZ,lS]
  refine rdQ 6 (λK hK=>?_);go_simp
  refine (BR WD HSD.out).mono ?_;rintro e w2 h2;obtain ⟨⟨lv2,P2,rfl,ws2,nx2⟩,fr2⟩:=h2;go_wp2_with fail
  have r1b:=fr2.range r1 HNX.out;refine hkQ hK r1b (λhHeld=>?_);clear hK K
  refine wpAnyH_done (by kernel_rfl) ?_ _;have HR:Hid (WP k B T (.int .i64 own) (.slice av2 m2 cap2) LF lv w (.returned (.tuple #[])) w2):=(HSD.out.step fr2 nx2 ws2).wp;clear hHeld r1 r1b BR ws2 nx2 fr2 HSD;go_wp2;go_end0
  exact HR.out
 ·have GD:=HGD.out rfl w1 lv1 P1 HS1.out;clear HBR HGD HCH hmc;go_wp2_with (first | (refine zAA (by rfl) 64 (.tmp 25) rfl bb (off+21) rfl (zAN y1 (.slice sa1 sb1 sc1)) _ r1 underlying64 rfl (by kernel_rfl) ?_))
  refine GD.mono ?_;rintro e w2 ⟨⟨lv2,P2,rfl,ws2,nx2⟩,fr2⟩;have HR:Hid (WP k B T (.int .i64 own) (.slice av2 m2 cap2) LF lv w (.returned (.tuple #[])) w2):=(HS1.out.step fr2 nx2 ws2).wp;clear GD r1 ws2 nx2 fr2 HS1;go_wp2;go_end0
  exact HR.out
 ·have HCC:=HCH.out rfl w1 lv1 P1 (off+21) rfl HS1.out;clear HBR HGD HCH;have hcap:¬ cap=1:=by omega
  go_wp2_with (first | (refine zGd rfl (.tmp 31) 1 rfl bb off (m+2) cap rfl (by omega) hmc ?_;rw [if_neg hcap,show m+2 - 1=m+1 from by omega,show off+21 * 1=off+21 from by omega];clear hcap hmc))
  refine HCC.mono ?_;rintro e w2 ⟨⟨lv2,P2,rfl,ws2,nx2⟩,fr2⟩;have HR:Hid (WP k B T (.int .i64 own) (.slice av2 m2 cap2) LF lv w (.returned (.tuple #[])) w2):=(HS1.out.step fr2 nx2 ws2).wp;clear HCC r1 ws2 nx2 fr2 HS1;go_wp2;go_end0
  exact HR.out
