/- Lemmas. -/
import Derived.Test.YtefkclbaflkheaaGreatDoorQ20
set_option maxHeartbeats 1600000
set_option maxRecDepth 100000
namespace Go.Proofs.YtefkclbaflkheaaGreatDoor
open Tryz
variable {w w1 w':World} {k n B:Nat} {a:Act} {K:Act->World->Prop} {Q:Exit->Act->World->Prop} {b s0 s1 lv:Value} {T:Nat->Nat} {L:List Wf.I} {P:List (Wc.In × Value)}
open Go.RowKit Wf
set_option linter.unusedVariables false
def go0 (c:Int) (l:List Int):Int:=if c=0 then zBz l else c
theorem zHj {lo hi:Nat} {ps:List (Tr n × Value)} (h:∀ p ∈ ps,PA n lo hi w p.1 p.2):∀ q ∈ (ps.map λp=>(hd n p.1,p.2)),∃ a b c,q.2=Value.slice a b c:=λq hq=>by
 obtain ⟨p,hp,rfl⟩:=List.mem_map.1 hq;exact (h p hp).slice
theorem zFR:∀ {n:Nat} {t:Tr n},zAz n t->Wt.right (hd n t)=true
 | 0,t,_=>Empty.elim t
 | n+1,t,h=>h.1
theorem zND {ps:List (Tr n × Value)} (h:∀ p ∈ ps,zAz n p.1):∀ q ∈ (ps.map λp=>(hd n p.1,p.2)),isA q.1=true->RtN q.1:=λq hq ha=>by
 obtain ⟨p,hp,rfl⟩:=List.mem_map.1 hq;exact zBr (zFR (h p hp)) (by simpa [isA] using ha)
def RfC (own:Int) (nm:List ByteArray) (av2:Option Addr) (m2 cap2 n:Nat):Prop:=∀ (t:Tr n) (sl:Value) (lo hi:Nat) (w:World),zAz n t->PA n lo hi w t sl->NmAt w->RdS w av2 nm ->
 CR 25 #[.agg (zAN (hd n t) sl).toArray,zCS own av2 m2 cap2] w (.int .i64 (zBB own nm n t))
def RfT (own:Int) (nm:List ByteArray) (av2:Option Addr) (m2 cap2 n:Nat) (t:Tr n):Prop:=∀ (sl:Value) (lo hi:Nat) (w:World),zAz n t->PA n lo hi w t sl->NmAt w->RdS w av2 nm ->
 CR 25 #[.agg (zAN (hd n t) sl).toArray,zCS own av2 m2 cap2] w (.int .i64 (zBB own nm n t))
def RcC (x:Wt.Nd):Prop:=x.k=6->∀ (L:List (Wt.Nd × Value)) (av:Option Addr) (m cap:Nat) (w:World),NmAt w->m=L.length->L.length<=30->x.ar=(L.length:Int)->(∀ q ∈ L,∃ a b c,q.2=.slice a b c)->RdQ w av L->(∀ q ∈ L,isA q.1=true->RtN q.1)->CR 80 #[.agg (zAN x (.slice av m cap)).toArray] w (.int .i64 (zDC x (L.map (·.1))))
theorem zHD (own:Int) (nm:List ByteArray) (av2:Option Addr) (m2 cap2:Nat) (hm2:m2=nm.length) (hl2:nm.length<=16) (n:Nat) (ih:RfC own nm av2 m2 cap2 n) (t:Tr (n+1)) (hC:RcC (hd (n+1) t)):RfT own nm av2 m2 cap2 (n+1) t:=by
 intro sl lo hi w hF hP hN hS;obtain ⟨x,ks⟩:Br (Tr n):=t;obtain ⟨hx,hp,hks⟩:=hF;replace hx:Wt.right x=true:=hx
 replace hp:Wt.parts x=(ks.length:Int):=hp
 replace hks:∀ k ∈ ks,zAz n k:=hks
 obtain ⟨av,cap,ps,q1,rfl,q2c,q3,q4⟩:=hP;replace q1:ps.map (·.1)=ks:=q1
 have hhd:hd (n+1) (⟨x,ks⟩:Br (Tr n))=x:=rfl;rw [hhd];replace hC:RcC x:=hC
 have hlen:ps.length=ks.length:=by rw [<-q1,List.length_map]
 have hl30:ps.length<=30:=by have:=(Wt.parts_le hx).2;omega
 have hfp:∀ p ∈ ps,zAz n p.1:=λp hp=>hks p.1 (by rw [<-q1];exact List.mem_map.2 ⟨p,hp,rfl⟩)
 have har:x.k=6->x.ar=((ps.map λp=>(hd n p.1,p.2)).length:Int):=λh6=>by
  rw [List.length_map,hlen,<-hp];unfold Wt.parts;rw [if_neg (by omega),if_neg (by omega)]
 have hb:=zAM (zAM (Below.refl _ w) (.cells (zAN x (.slice av ps.length cap)).toArray 64)) (.cells #[.int .i64 own,.slice av2 m2 cap2] 60);have pP:=(AtL.new0 w 64 (zAN x (.slice av ps.length cap))).alloc (.cells #[.int .i64 own,.slice av2 m2 cap2] 60);have pS:=AtL.new1 w (.cells (zAN x (.slice av ps.length cap)).toArray 64) 60 [.int .i64 own,.slice av2 m2 cap2];have RN:=zKX own nm av2 m2 cap2 x (ps.map λp=>(hd n p.1,p.2)) av ps.length cap _ (hN.below hb) (hS.below hb) hm2 hl2 (by rw [List.length_map]) (by rw [List.length_map];exact hl30) (q3.q.below hb) λh6 W hNW hRW=>hC h6 (ps.map λp=>(hd n p.1,p.2)) av ps.length cap W hNW (by rw [List.length_map]) (by rw [List.length_map];exact hl30) (har h6) (zHj q4) hRW (zND hfp)
 have hmap:(ps.map λp=>(hd n p.1,p.2)).map (·.1)=ks.map (hd n):=by rw [<-q1,List.map_map,List.map_map];rfl
 rw [hmap] at RN;have hq:zBB own nm (n+1) (⟨x,ks⟩:Br (Tr n))=go0 (zB2 own nm x (ks.map (hd n))) (ps.map λp=>zBB own nm n p.1):=by
  have e1:(ps.map λp=>zBB own nm n p.1)=ks.map (zBB own nm n):=by rw [<-q1,List.map_map];rfl
  rw [e1];rfl
 rw [hq];generalize zB2 own nm x (ks.map (hd n))=r0 at *;obtain ⟨q,hqq⟩:∃ q,go0 r0 (ps.map λp=>zBB own nm n p.1)=q:=⟨_,rfl⟩
 rw [hqq];have HQ0:Hid (go0 r0 ((ps.drop 0).map λp=>zBB own nm n p.1)=q):=hqq;have HFP:Hid (∀ p ∈ ps,zAz n p.1):=hfp;have HPA:Hid (∀ p ∈ ps,PA n lo hi w p.1 p.2):=q4;have HRT:Hid (RdT n lo hi w av ps):=q3;have HNS:Hid (NmAt w/\RdS w av2 nm):=⟨hN,hS⟩
 have HIH:Hid (RfC own nm av2 m2 cap2 n):=ih;clear hx hp hks q1 q2c q3 q4 hhd hlen hfp har hmap hq hqq hN hS ih hm2 hl2 hC;have HML:Hid (ps.length<=30):=hl30;clear hl30;have HPS:Hid (∀ (i:Nat) (h:i<ps.length),ps.drop i=ps[i]::ps.drop (i+1)):=λi h=>List.drop_eq_getElem_cons h
 obtain ⟨m,hm⟩:∃ m,ps.length=m:=⟨_,rfl⟩
 have HMM:Hid (ps.length=m):=hm;rw [hm] at pP RN hb pS ⊢;clear hm;have c20':=pP.2.1 20 (.slice av m cap) rfl;have rP:=pP.range;have s0:=pS.2.1 0 _ rfl;have s1:=pS.2.1 1 _ rfl;go_enter func25,ntmps25;go_upto_region 1 with fail
 have HBW:Hid (Below w.heap.size w ((w.alloc (.cells (zAN x (.slice av m cap)).toArray 64)).alloc (.cells [.int .i64 own,.slice av2 m2 cap2].toArray 60))):=hb;clear hb;generalize ((w.alloc (.cells (zAN x (.slice av m cap)).toArray 64)).alloc (.cells [.int .i64 own,.slice av2 m2 cap2].toArray 60))=W at *;go_wp2_with (first | (refine zAA (by rfl) 64 (.tmp 2) rfl w.heap.size 0 rfl (zAN x (.slice av m cap)) _ rP underlying64 rfl (by kernel_rfl) ?_))
 refine RN.mono ?_;rintro e W1 ⟨rfl,hb1⟩;have HC20:Hid (W1.cell? ⟨w.heap.size,20,none⟩=some (.slice av m cap)):=zAC hb1 c20';have HRS:Hid (W1.rangeAt (w.heap.size+1) 0 [.int .i64 own,.slice av2 m2 cap2]):=zAF hb1 pS.range;have HB1:Hid (Below w.heap.size w W1):=zAB HBW.out hb1;clear RN c20' rP s0 s1 pP pS hb1 HBW;go_wp2_with fail
 go_loopg [5,6] m (λgk u5 u6 wr=>∃ (i:Nat) (c:Int),u5=.int .i64 c/\u6=.int .i64 (i:Int)/\gk=m - i/\i<=m/\Hid (go0 c ((ps.drop i).map λp=>zBB own nm n p.1)=q)/\Hid (Below W1.heap.size W1 wr))
 case atStart=>exact ⟨0,r0,rfl,rfl,rfl,Nat.zero_le _,HQ0,Below.refl _ _⟩
 case round =>
  clear HQ0;obtain ⟨i,c,rfl,rfl,hg,him,HQ,HB⟩:=hrel;have c20:=zAC HB.out HC20.out;by_cases hlt:i<m
  ·have hli:(i:Int)<(m:Int):=by omega
   by_cases hc:c=0
   ·subst hc;have hiz:(0:Int)<=(i:Int):=by omega
    have hwi:IntKind.i64.wrap ((i:Int)+1)=(i:Int)+1:=by have:=HML.out;have:=HMM.out;rw [IntKind.wrap_i64];omega
    have hln:i<ps.length:=by have:=HMM.out;omega
    obtain ⟨bb,off,_,_,rfl,hr⟩:=HRT.out i hln;have hbW:=zAB HB1.out HB.out;have ry:=zAF hbW hr;have rs:=zAF HB.out HRS.out;have hd1:=HPS.out i hln;have KC0:=λ(W2:World) (h:Below W1.heap.size W1 W2)=>HIH.out (ps[i]).1 (ps[i]).2 lo hi W2 (HFP.out _ (List.getElem_mem hln)) (PA.kept (Kept.of_below (zAB HB1.out h)) n _ _ (HPA.out _ (List.getElem_mem hln))) (HNS.out.1.below (zAB HB1.out h)) (HNS.out.2.below (zAB HB1.out h))
    obtain ⟨sa,sb,sc,hsl⟩:=(HPA.out _ (List.getElem_mem hln)).slice;have HQ2:Hid (go0 (zBB own nm n (ps[i]).1) ((ps.drop (i+1)).map λp=>zBB own nm n p.1)=q):=by
     show _=_
     rw [<-HQ.out,hd1];rfl
    obtain ⟨rt,hrt⟩:∃ r,zBB own nm n (ps[i]).1=r:=⟨_,rfl⟩
    obtain ⟨y,hy⟩:∃ y,hd n (ps[i]).1=y:=⟨_,rfl⟩
    rw [hsl,hy] at ry;rw [hrt] at HQ2;have KC:∀ (W2:World),Below W1.heap.size W1 W2->Calls prog 25 #[.agg (zAN y (.slice sa sb sc)).toArray,zCS own av2 m2 cap2] W2 λe w'=>e=.returned (.int .i64 rt)/\Below W2.heap.size W2 w':=by
     intro W2 h;have:=KC0 W2 h;rw [hsl,hy,hrt] at this;exact this
    clear KC0 hsl hy hrt hd1 hr hbW hln HQ;go_upto_region 5 with fail
    have HBD:Hid (Below W1.heap.size W1 wr.drew):=HB.out.drew;replace c20:wr.drew.cell? ⟨w.heap.size,20,none⟩=some (.slice (some ⟨bb,off,none⟩) m cap):=c20
    replace ry:wr.drew.rangeAt bb (off+i * 21) (zAN y (.slice sa sb sc)):=ry
    replace rs:wr.drew.rangeAt (w.heap.size+1) 0 [.int .i64 own,.slice av2 m2 cap2]:=rs
    refine wp_region_held_drew (S:=λW=>W.cell? ⟨w.heap.size,20,none⟩=some (.slice (some ⟨bb,off,none⟩) m cap)/\W.rangeAt bb (off+i * 21) (zAN y (.slice sa sb sc))/\W.rangeAt (w.heap.size+1) 0 [.int .i64 own,.slice av2 m2 cap2]) (by kernel_rfl) ⟨c20,ry,rs⟩ (λhHeld=>?_);generalize wr.drew=WD at *;refine tkQ 0 ?_
    refine tkQ 1 ?_
    refine tkQ 2 ?_
    refine tkQ 3 ?_
    refine wpAnyH_take (i:=4) (v:=.agg (zAN y (.slice sa sb sc)).toArray) (atQ rfl) (by kernel_rfl) (by kernel_rfl) (by kernel_rfl) (λ_ _ _ h=>h) (yieldsIf_load_mid (by rfl) 64 (.tmp 24) rfl (bb) (off+i * 21) rfl (zAN y (.slice sa sb sc)) _ (λ_ h=>h.2.1) underlying64 rfl (by kernel_rfl)) (by assumption) ?_;try simp only [Act.put,lA,lZ,lS]
    refine wpAnyH_take (i:=5) (v:=.agg ([.int .i64 own,.slice av2 m2 cap2]).toArray) (atQ rfl) (by kernel_rfl) (by kernel_rfl) (by kernel_rfl) (λ_ _ _ h=>h) (yieldsIf_load_mid (by rfl) 60 (.tmp 3) rfl (w.heap.size+1) (0) rfl ([.int .i64 own,.slice av2 m2 cap2]) _ (λ_ h=>h.2.2) underlying60 rfl (by kernel_rfl)) (by assumption) ?_;try simp only [Act.put,lA,lZ,lS]
    refine rdQ 6 (λK hK=>?_);go_simp
    refine (KC _ HBD.out).mono ?_;rintro e w2 ⟨rfl,hb2⟩;go_wp2_with fail
    have HB2:Hid (Below W1.heap.size W1 w2):=zAB HBD.out hb2;replace c20:=zAC hb2 c20
    replace ry:=zAF hb2 ry
    replace rs:=zAF hb2 rs
    refine hkQ hK ⟨c20,ry,rs⟩ (λhHeld=>?_);clear hK K
    refine rdQ 7 (λK hK=>?_);go_simp
    refine hkQ hK ⟨c20,ry,rs⟩ (λhHeld=>?_);clear hK K
    refine wpAnyH_done (by kernel_rfl) ?_ _;clear hHeld ry rs c20;go_wp2_with fail
    go_roundg (m - (i+1))
    case rel=>exact ⟨i+1,rt,rfl,by simp,rfl,hlt,HQ2,HB2⟩
    case measure=>omega
   ·have hq:q=c:=by rw [<-HQ.out];unfold go0;rw [if_neg hc]
    subst hq;have hB:=zAB HB1.out HB.out;go_wp2;go_ret;exact ⟨rfl,hB⟩
  ·have hli:¬ (i:Int)<(m:Int):=by omega
   have hq:q=c:=by
    have hie:ps.length<=i:=by have:=HMM.out;omega
    rw [<-HQ.out,List.drop_eq_nil_of_le hie];unfold go0;by_cases h0:c=0
    ·rw [if_pos h0,h0];rfl
    ·rw [if_neg h0]
   subst hq;have hB:=zAB HB1.out HB.out;go_wp2;go_ret;exact ⟨rfl,hB⟩
theorem zLK (own:Int) (nm:List ByteArray) (av2:Option Addr) (m2 cap2:Nat) (hm2:m2=nm.length) (hl2:nm.length<=16) (n:Nat) (ih:RfC own nm av2 m2 cap2 n):RfC own nm av2 m2 cap2 (n+1):=λt =>
 zHD own nm av2 m2 cap2 hm2 hl2 n ih t λh6 L av m cap w hN hm hl har hsl hR hrt=>zJp _ L av m cap w hN hm hl har hsl hR hrt
theorem zCq (own:Int) (nm:List ByteArray) (av2:Option Addr) (m2 cap2:Nat) (hm2:m2=nm.length) (hl2:nm.length<=16):∀ n,RfC own nm av2 m2 cap2 n
 | 0=>λt=>Empty.elim t
 | n+1=>zLK own nm av2 m2 cap2 hm2 hl2 n (zCq own nm av2 m2 cap2 hm2 hl2 n)
open Go.RowKit
theorem zD5 {op:Oper} (y:Operand) (ho:op.op=.buildSlice 36 1 #[(0,y)]) (x:Wc.In) (av:Option Addr) (n c:Nat) (hy:a.eval y=.agg (zAD x (.slice av n c)).toArray)
  (h:K (a.put op.dst (.slice (some ⟨w.heap.size,0,none⟩) 1 1)) (w.alloc (.cells (zAD x (.slice av n c)).toArray 56))):op.wp prog a w K Q:=by
 unfold Oper.wp execOp;simp only [ho,List.map_toArray,List.map_cons,List.map_nil,hy,Sem.run_bind,Sem.run_pure,Result.andThen_ok,zP9];exact h
theorem zD4 {o:Oper} {a:Act} {K:Act->World->Prop} {Q:Exit->Act->World->Prop} (s x:Operand) (ho:o.op=.call {callee:=.builtin .append,args:=#[s,x],argTypes:=#[36,36]})
  (w:World) (B:Nat) (hB:B<=w.heap.size) (v:Value) (A:List (Wc.In × Value)) (hs:a.eval s=v) (hown:OwnI w B v A) (g n:Nat) (L:List (Wc.In × Value)) (hn:n=L.length) (hx:a.eval x=.slice (some ⟨g,0,none⟩) n n) (hat:AtL w g (zAc L)) (hsl:∀ p ∈ L,∃ av n c,p.2=.slice av n c) (hl:A.length+L.length<=2000000)
  (h:∀ v' w',OwnI w' B v' (A++L)->w.grownBy w' v.ownBlock->(v'.ownBlock=v.ownBlock \/ v'.ownBlock=some w.heap.size)->K (a.put o.dst v') w'):o.wp prog a w K Q:=by
 subst hn;obtain ⟨i0,hi0,hz0,hz1,hz2⟩:=info_parts zM9;have hnews:∀ j u,(zAc L)[j]? = some u->w.cell? ((⟨g,0,none⟩:Addr).add j)=some u:=λj u hj=>by
  have:=hat.2.1 j u hj;rw [show (⟨g,0,none⟩:Addr).add j=⟨g,j,none⟩ from by
   simp [Addr.add];try (intro h0;omega)]
  exact this
 obtain ⟨v',w',hr,own,hg,_,hb⟩:=run_append_own_at (P:=prog) w B 36 o.type 56 i0 _ 23 208 underlying36 hi0 hz0 hz1 hz2 rfl (by decide) v A.length (zAc A) hown ⟨g,0,none⟩ L.length L.length (zAc L) (zE4 L) hnews (zDo L hsl) (by unfold maxLen;omega) (by omega) hB;unfold Oper.wp execOp;simp only [ho,resolve,invoke,builtin,Sem.run_bind,Sem.run_pure,Result.andThen_ok,List.map_toArray,List.map_cons,List.map_nil,hs,hx,hr];refine h v' w' ?_ hg hb;unfold OwnI;rw [List.length_append,zDt];exact own
theorem zJL (k B:Nat) (x:Wc.In) (s0 s1 lv:Value) (A:List (Wc.In × Value)) (w:World) (hw:AtL w k [s0,s1,lv]) (ho:OwnI w B lv A) (hkB:k<B) (hB:B<=w.heap.size) (hl:A.length<=1000000) :
  Calls prog 28 #[.pointer (some ⟨k,0,none⟩),.agg (zAD x zAH).toArray] w λe w'=>(∃ lv',e=.returned (.tuple #[])/\AtL w' k [s0,s1,lv']/\OwnI w' B lv' (A++[(x,zAH)])/\∀ j,lv'.ownBlock=some j->lv.ownBlock=some j \/ w.heap.size<=j)/\Fr (k::lv.ownBlock.toList) w w':=by
 have pI0:=AtL.new0 w 56 (zAD x zAH);have hb0:=zAM (Below.refl _ w) (.cells (zAD x zAH).toArray 56);have pW0:=AtL.below hb0 hw;have HO0:Hid (OwnI (w.alloc (.cells (zAD x zAH).toArray 56)) B lv A):=ho.below hb0;have HF0:Hid (Fr (k::lv.ownBlock.toList) w (w.alloc (.cells (zAD x zAH).toArray 56))):=Fr.of_below _ hb0;have HS0:Hid (B<=(w.alloc (.cells (zAD x zAH).toArray 56)).heap.size/\w.heap.size<(w.alloc (.cells (zAD x zAH).toArray 56)).heap.size):=⟨Nat.le_trans hB hb0.size,pI0.1⟩
 have HL:Hid (A.length<=1000000):=hl;have HKB:Hid (k<B/\B<=w.heap.size):=⟨hkB,hB⟩
 have HLB:Hid (∀ j,lv.ownBlock=some j->B<=j/\j<w.heap.size):=λj e=>zAK ho e
 clear hw ho hl hb0 hkB hB;go_enter func28,ntmps28;go_upto_region 1 with fail
 generalize (w.alloc (.cells (zAD x zAH).toArray 56))=W1 at *;have rb:=(Below.refl W1.heap.size W1).drew;have sI:=zAF rb pI0.range;have pW:=AtL.below rb pW0;have sW:=pW.2.1 2 _ rfl;have HO1:Hid (OwnI W1.drew B lv A):=HO0.out.below rb;have HF1:Hid (Fr (k::lv.ownBlock.toList) w W1.drew):=HF0.out.trans (Fr.of_below _ rb);have HS1:Hid (B<=W1.drew.heap.size/\w.heap.size<W1.drew.heap.size):=HS0.out;clear rb pI0 pW0 HO0 HF0 HS0;refine wp_region_held_drew (S:=λW=>W.rangeAt w.heap.size 0 (zAD x zAH)) (by kernel_rfl) sI (λhHeld=>?_);generalize W1.drew=WD at *;refine tkQ 0 ?_
 refine tkQ 1 ?_
 refine tkQ 2 ?_
 refine tkQ 3 ?_
 refine wpAnyH_take (i:=5) (v:=.agg (zAD x zAH).toArray) (atQ rfl) (by kernel_rfl) (by kernel_rfl) (by kernel_rfl) (λ_ _ _ h=>h) (yieldsIf_load_mid (by rfl) 56 (.tmp 3) rfl w.heap.size 0 rfl (zAD x zAH) _ (λ_ h=>h) underlying56 rfl (by kernel_rfl)) (by assumption) ?_;try simp only [Act.put,lA,lZ,lS]
 refine wpAnyH_ready (rs:=[4,6]) (by kernel_rfl) (by simp) ?_;refine AllReadyH.cons (atQ rfl) (λK hK=>?_) (AllReadyH.cons (atQ rfl) (λK hK=>?_) AllReadyH.nil)
 ·go_simp
  refine hkQ hK sI (λhHeld=>?_);clear hK K
  refine rdQ 6 (λK hK=>?_);refine zD5 (.tmp 9) rfl x none 0 0 rfl ?_;have hb2:=zAM (Below.refl _ WD) (.cells (zAD x zAH).toArray 56);have HA2:Hid (AtL (WD.alloc (.cells (zAD x zAH).toArray 56)) WD.heap.size (zAc [(x,zAH)])):=by show AtL _ _ _;rw [show zAc [(x,zAH)]=(zAD x zAH) from by simp [zAc]];exact AtL.new0 WD _ _
  have HO2:Hid (OwnI (WD.alloc (.cells (zAD x zAH).toArray 56)) B lv A):=HO1.out.below hb2;have HF2:Hid (Fr (k::lv.ownBlock.toList) w (WD.alloc (.cells (zAD x zAH).toArray 56))):=HF1.out.trans (Fr.of_below _ hb2);have HS2:Hid (B<=(WD.alloc (.cells (zAD x zAH).toArray 56)).heap.size/\w.heap.size<WD.heap.size):=⟨Nat.le_trans HS1.out.1 hb2.size,HS1.out.2⟩
  have sI2:=zAF hb2 sI;have pW2:=AtL.below hb2 pW;have sW2:=zAC hb2 sW;clear hb2 HO1 HF1 HS1 sI pW sW;refine hkQ hK sI2 (λhHeld=>?_);clear hK K
  generalize (WD.alloc (.cells (zAD x zAH).toArray 56))=W2 at *;obtain ⟨g,hg⟩:∃ g,WD.heap.size=g:=⟨_,rfl⟩
  rw [hg] at HA2 HS2;try simp only [hg]
  clear hg;refine rdQ 7 (λK hK=>?_);refine zD4 (.tmp 8) (.tmp 10) rfl W2 B HS2.out.1 lv A rfl HO2.out g 1 [(x,zAH)] rfl rfl HA2.out (λp hp=>by simp at hp;subst hp;exact ⟨_,_,_,rfl⟩) (by have:=HL.out;simp;omega) ?_;intro v3 W3 own3 hg3 hv3;have HNX:Hid (∀ j,v3.ownBlock=some j->lv.ownBlock=some j \/ w.heap.size<=j):=(λj e=>by
   rcases hv3 with hv3 | hv3
   ·exact Or.inl (by rw [<-hv3];exact e)
   ·rw [hv3] at e;cases e;exact Or.inr HF2.out.size:∀ j,v3.ownBlock=some j->lv.ownBlock=some j \/ w.heap.size<=j)
  clear hv3;obtain ⟨g3,cap3,ev,hcp⟩:∃ g cap,v3=.slice (some ⟨g,0,none⟩) (A.length+1) cap/\B<=g:=by
   rcases own3.2 with ⟨_,h0⟩ | ⟨g,cap,cur,e,hbb,_,hc,_⟩
   ·simp at h0
   ·exact ⟨g,cap,by rw [e];simp,hbb⟩
  subst ev;have fr3:Fr lv.ownBlock.toList W2 W3:=Fr.of_grown hg3 (λk e=>by simp [e]);have hbk:∀ j,lv.ownBlock=some j->B<=j/\j<W2.heap.size:=λj e=>zAK HO2.out e
  have sI3:=fr3.range sI2 (λe=>by have:=(HLB.out w.heap.size (by simpa using e)).2;omega);have pW3:=pW2.fr fr3 (λe=>by have:=(hbk k (by simpa using e)).1;have:=HKB.out;omega);have HF3:Hid (Fr (k::lv.ownBlock.toList) w W3):=HF2.out.trans (fr3.mono (λj hj=>List.mem_cons_of_mem _ hj));have HO3:Hid (OwnI W3 B (.slice (some ⟨g3,0,none⟩) (A.length+1) cap3) (A++[(x,zAH)])):=own3;clear own3 hg3 fr3 hbk HF2 HO2 HA2 pW2 sI2 sW2;have sW3:=pW3.2.1 2 _ rfl;have zW3:=pW3.2.2 2 (by simp);refine hkQ hK sI3 (λhHeld=>?_);clear hK K
  refine tkQ 8 ?_
  refine tkQ 9 ?_
  refine rdQ 10 (λK hK=>?_);go_simp
  have pW4:=pW3.set 2 (.slice (some ⟨g3,0,none⟩) (A.length+1) cap3);have fr4:Fr [k] W3 (W3.setCell ⟨k,2,none⟩ (.slice (some ⟨g3,0,none⟩) (A.length+1) cap3)):=Fr.of_grown (zAP _ _ _ _) (λj e=>by cases e;simp);have HF4:Hid (Fr (k::lv.ownBlock.toList) w (W3.setCell ⟨k,2,none⟩ (.slice (some ⟨g3,0,none⟩) (A.length+1) cap3))):=HF3.out.trans (fr4.mono (λj hj=>by simp at hj;subst hj;exact List.mem_cons_self ..));have HO4:Hid (OwnI (W3.setCell ⟨k,2,none⟩ (.slice (some ⟨g3,0,none⟩) (A.length+1) cap3)) B (.slice (some ⟨g3,0,none⟩) (A.length+1) cap3) (A++[(x,zAH)])):=zAW fr4 HO3.out (λj e=>by have:=(zAK HO3.out e).1;have:=HKB.out;simp;omega);have sI4:=fr4.range sI3 (by have:=HKB.out;simp;omega);have HP4:Hid (AtL (W3.setCell ⟨k,2,none⟩ (.slice (some ⟨g3,0,none⟩) (A.length+1) cap3)) k [s0,s1,.slice (some ⟨g3,0,none⟩) (A.length+1) cap3]):=pW4;generalize (W3.setCell ⟨k,2,none⟩ (.slice (some ⟨g3,0,none⟩) (A.length+1) cap3))=W4 at *;refine hkQ hK sI4 (λhHeld=>?_);clear hK K
  refine wpAnyH_done (by kernel_rfl) ?_ _;clear hHeld sI4 sI3 pW4 fr4;go_wp2;go_end0
  exact ⟨⟨_,rfl,HP4.out,HO4.out,HNX.out⟩,HF4.out⟩
 ·refine zD5 (.tmp 9) rfl x none 0 0 rfl ?_;have hb2:=zAM (Below.refl _ WD) (.cells (zAD x zAH).toArray 56);have HA2:Hid (AtL (WD.alloc (.cells (zAD x zAH).toArray 56)) WD.heap.size (zAc [(x,zAH)])):=by show AtL _ _ _;rw [show zAc [(x,zAH)]=(zAD x zAH) from by simp [zAc]];exact AtL.new0 WD _ _
  have HO2:Hid (OwnI (WD.alloc (.cells (zAD x zAH).toArray 56)) B lv A):=HO1.out.below hb2;have HF2:Hid (Fr (k::lv.ownBlock.toList) w (WD.alloc (.cells (zAD x zAH).toArray 56))):=HF1.out.trans (Fr.of_below _ hb2);have HS2:Hid (B<=(WD.alloc (.cells (zAD x zAH).toArray 56)).heap.size/\w.heap.size<WD.heap.size):=⟨Nat.le_trans HS1.out.1 hb2.size,HS1.out.2⟩
  have sI2:=zAF hb2 sI;have pW2:=AtL.below hb2 pW;have sW2:=zAC hb2 sW;clear hb2 HO1 HF1 HS1 sI pW sW;refine hkQ hK sI2 (λhHeld=>?_);clear hK K
  generalize (WD.alloc (.cells (zAD x zAH).toArray 56))=W2 at *;obtain ⟨g,hg⟩:∃ g,WD.heap.size=g:=⟨_,rfl⟩
  rw [hg] at HA2 HS2;try simp only [hg]
  clear hg;refine rdQ 4 (λK hK=>?_);try clear hHeld
  go_simp
  refine hkQ hK sI2 (λhHeld=>?_);clear hK K
  refine rdQ 7 (λK hK=>?_);refine zD4 (.tmp 8) (.tmp 10) rfl W2 B HS2.out.1 lv A rfl HO2.out g 1 [(x,zAH)] rfl rfl HA2.out (λp hp=>by simp at hp;subst hp;exact ⟨_,_,_,rfl⟩) (by have:=HL.out;simp;omega) ?_;intro v3 W3 own3 hg3 hv3;have HNX:Hid (∀ j,v3.ownBlock=some j->lv.ownBlock=some j \/ w.heap.size<=j):=(λj e=>by
   rcases hv3 with hv3 | hv3
   ·exact Or.inl (by rw [<-hv3];exact e)
   ·rw [hv3] at e;cases e;exact Or.inr HF2.out.size:∀ j,v3.ownBlock=some j->lv.ownBlock=some j \/ w.heap.size<=j)
  clear hv3;obtain ⟨g3,cap3,ev,hcp⟩:∃ g cap,v3=.slice (some ⟨g,0,none⟩) (A.length+1) cap/\B<=g:=by
   rcases own3.2 with ⟨_,h0⟩ | ⟨g,cap,cur,e,hbb,_,hc,_⟩
   ·simp at h0
   ·exact ⟨g,cap,by rw [e];simp,hbb⟩
  subst ev;have fr3:Fr lv.ownBlock.toList W2 W3:=Fr.of_grown hg3 (λk e=>by simp [e]);have hbk:∀ j,lv.ownBlock=some j->B<=j/\j<W2.heap.size:=λj e=>zAK HO2.out e
  have sI3:=fr3.range sI2 (λe=>by have:=(HLB.out w.heap.size (by simpa using e)).2;omega);have pW3:=pW2.fr fr3 (λe=>by have:=(hbk k (by simpa using e)).1;have:=HKB.out;omega);have HF3:Hid (Fr (k::lv.ownBlock.toList) w W3):=HF2.out.trans (fr3.mono (λj hj=>List.mem_cons_of_mem _ hj));have HO3:Hid (OwnI W3 B (.slice (some ⟨g3,0,none⟩) (A.length+1) cap3) (A++[(x,zAH)])):=own3;clear own3 hg3 fr3 hbk HF2 HO2 HA2 pW2 sI2 sW2;have sW3:=pW3.2.1 2 _ rfl;have zW3:=pW3.2.2 2 (by simp);refine hkQ hK sI3 (λhHeld=>?_);clear hK K
  refine tkQ 8 ?_
  refine tkQ 9 ?_
  refine rdQ 10 (λK hK=>?_);go_simp
  have pW4:=pW3.set 2 (.slice (some ⟨g3,0,none⟩) (A.length+1) cap3);have fr4:Fr [k] W3 (W3.setCell ⟨k,2,none⟩ (.slice (some ⟨g3,0,none⟩) (A.length+1) cap3)):=Fr.of_grown (zAP _ _ _ _) (λj e=>by cases e;simp);have HF4:Hid (Fr (k::lv.ownBlock.toList) w (W3.setCell ⟨k,2,none⟩ (.slice (some ⟨g3,0,none⟩) (A.length+1) cap3))):=HF3.out.trans (fr4.mono (λj hj=>by simp at hj;subst hj;exact List.mem_cons_self ..));have HO4:Hid (OwnI (W3.setCell ⟨k,2,none⟩ (.slice (some ⟨g3,0,none⟩) (A.length+1) cap3)) B (.slice (some ⟨g3,0,none⟩) (A.length+1) cap3) (A++[(x,zAH)])):=zAW fr4 HO3.out (λj e=>by have:=(zAK HO3.out e).1;have:=HKB.out;simp;omega);have sI4:=fr4.range sI3 (by have:=HKB.out;simp;omega);have HP4:Hid (AtL (W3.setCell ⟨k,2,none⟩ (.slice (some ⟨g3,0,none⟩) (A.length+1) cap3)) k [s0,s1,.slice (some ⟨g3,0,none⟩) (A.length+1) cap3]):=pW4;generalize (W3.setCell ⟨k,2,none⟩ (.slice (some ⟨g3,0,none⟩) (A.length+1) cap3))=W4 at *;refine hkQ hK sI4 (λhHeld=>?_);clear hK K
  refine wpAnyH_done (by kernel_rfl) ?_ _;clear hHeld sI4 sI3 pW4 fr4;go_wp2;go_end0
  exact ⟨⟨_,rfl,HP4.out,HO4.out,HNX.out⟩,HF4.out⟩
structure WS (k B:Nat) (T:Nat->Nat) (w:World) (s0 s1:Value) (L:List I) (lv:Value) (P:List (Wc.In × Value)):Prop where
 at':AtL w k [s0,s1,lv]
 own:OwnI w B lv P
 len:P.length=L.length
 ins:∀ i (h:i<P.length) (h':i<L.length),(P[i]).1=(L[i]).1/\OwnZ w (T i) (P[i]).2 (L[i]).2
 tb:∀ i,B<=T i
 dis:∀ i j (h:i<P.length) (h':j<P.length) b,(P[i]).2.ownBlock=some b->(P[j]).2.ownBlock=some b->i=j
def Nx (w:World) (lv lv':Value):Prop:=∀ j,lv'.ownBlock=some j->lv.ownBlock=some j \/ w.heap.size<=j
theorem Nx.refl (w:World) (lv:Value):Nx w lv lv:=λj e=>Or.inl e
theorem Nx.trans {a c:Value} (h:Nx w a b) (h':Nx w1 b c) (hs:w.heap.size<=w1.heap.size):Nx w a c:=λj e=>by
 rcases h' j e with q | q
 ·exact h j q
 ·exact Or.inr (Nat.le_trans hs q)
theorem zIW {w2:World} {a:Value} (h:Fr (k::a.ownBlock.toList) w w1) (h':Fr (k::b.ownBlock.toList) w1 w2) (hn:Nx w a b):Fr (k::a.ownBlock.toList) w w2 :=
 h.new h' (λj hj=>by
  rcases List.mem_cons.1 hj with q | q
  ·exact Or.inl (by rw [q];exact List.mem_cons_self ..)
  ·rcases hn j (by simpa using q) with e | e
   ·exact Or.inl (List.mem_cons_of_mem _ (by simp [e]))
   ·exact Or.inr e)
def WP (k B:Nat) (T:Nat->Nat) (s0 s1:Value) (L:List I) (lv:Value) (w:World) (e:Ending) (w':World):Prop :=
 (∃ lv' P',e=.returned (.tuple #[])/\WS k B T w' s0 s1 L lv' P'/\Nx w lv lv')/\Fr (k::lv.ownBlock.toList) w w'
theorem zAi {C T U m:Nat} {u v:Value} {n':Nat} {xs ys:List Value} (h:w.ownsRow B T k u n xs) (h':w.ownsRow C U m v n' ys) (hne:¬ T=U) {b:Nat} (e:u.ownBlock=some b):¬ v.ownBlock=some b:=λe2=>by
 rcases h.2 with ⟨q,_⟩ | ⟨g1,c1,cur1,q1,_,r1,_⟩
 ·rw [q] at e;cases e
 ·rcases h'.2 with ⟨q,_⟩ | ⟨g2,c2,cur2,q2,_,r2,_⟩
  ·rw [q] at e2;cases e2
  ·rw [q1] at e;rw [q2] at e2;have a1:g1=b:=by simpa [Value.ownBlock] using e
   have a2:g2=b:=by simpa [Value.ownBlock] using e2
   rw [a1] at r1;rw [a2,r1] at r2;simp only [Option.some.injEq,Obj.cells.injEq] at r2;exact hne r2.2.1
theorem WS.fr (h:WS k B T w s0 s1 L lv P) {S:List Nat} (f:Fr S w w') (hk:k ∉ S) (hl:∀ j,lv.ownBlock=some j->j ∉ S) (ht:∀ i (h:i<P.length) b,(P[i]).2.ownBlock=some b->b ∉ S):WS k B T w' s0 s1 L lv P :=
 ⟨h.at'.fr f hk,zAW f h.own hl,h.len,λi h1 h2=>⟨(h.ins i h1 h2).1,zAW f (h.ins i h1 h2).2 (λj e=>ht i h1 j e)⟩,h.tb,h.dis⟩
theorem WS.below (h:WS k B T w s0 s1 L lv P) (hb:Below w.heap.size w w'):WS k B T w' s0 s1 L lv P :=
 h.fr (Fr.of_below [] hb) (by simp) (λj _=>by simp) (λi _ b _=>by simp)
theorem zAp (k B:Nat) (T:Nat->Nat) (x:Wc.In) (s0 s1:Value) (L:List I) (lv:Value) (P:List (Wc.In × Value)) (w:World) (h:WS k B T w s0 s1 L lv P) (hkB:k<B) (hB:B<=w.heap.size) (hl:L.length<=1000000) :
  Calls prog 28 #[.pointer (some ⟨k,0,none⟩),.agg (zAD x zAH).toArray] w (WP k B T s0 s1 (L++[(x,[])]) lv w):=by
 refine (zJL k B x s0 s1 lv P w h.at' h.own hkB hB (by rw [h.len];exact hl)).mono ?_;rintro e w' ⟨⟨lv',rfl,ha,ho,hn⟩,hf⟩;refine ⟨⟨lv',P++[(x,zAH)],rfl,⟨ha,ho,by simp [h.len],λi h1 h2=>?_,h.tb,λi j h1 h2 b e1 e2=>?_⟩,hn⟩,hf⟩
 ·by_cases hi:i<P.length
  ·have hi2:i<L.length:=by rw [<-h.len];exact hi
   rw [List.getElem_append_left hi,List.getElem_append_left hi2];refine ⟨(h.ins i hi hi2).1,zAW hf (h.ins i hi hi2).2 (λb e hm=>?_)⟩;rcases List.mem_cons.1 hm with q | q
   ·have:=(zAK (h.ins i hi hi2).2 e).1;have:=h.tb i;omega
   ·exact zAi (h.ins i hi hi2).2 h.own (by decide) e (by simpa using q)
  ·have e1:i=P.length:=by simp at h1;omega
   subst e1;have e2:(P++[(x,zAH)])[P.length]=(x,zAH):=by simp
   have e3:(L++[(x,([]:List Int))])[P.length]=(x,[]):=by simp [h.len]
   rw [e2,e3];exact ⟨rfl,OwnZ.nil _ _⟩
 ·have hx:∀ i (h1:i<(P++[(x,zAH)]).length),((P++[(x,zAH)])[i]).2.ownBlock=some b->i<P.length:=λi h1 e=>by
   rcases Nat.lt_or_ge i P.length with q | q
   ·exact q
   ·have e0:i=P.length:=by simp at h1;omega
    subst e0;have e2:(P++[(x,zAH)])[P.length]=(x,zAH):=by simp
    rw [e2] at e;cases e
  have a1:=hx i h1 e1;have a2:=hx j h2 e2;rw [List.getElem_append_left a1] at e1;rw [List.getElem_append_left a2] at e2;exact h.dis i j a1 a2 b e1 e2
structure YS (k:Nat) (w:World) (s0 s1 s2:Value) (L:List I) (lv:Value) (P:List (Wc.In × Value)):Prop where
 at':AtL w k [s0,s1,s2,lv]
 own:OwnI w (k+1) lv P
 len:P.length=L.length
 ins:∀ i (h:i<P.length) (h':i<L.length),(P[i]).1=(L[i]).1/\OwnZ w (k+1) (P[i]).2 (L[i]).2
 dis:∀ i j (h:i<P.length) (h':j<P.length) b,(P[i]).2.ownBlock=some b->(P[j]).2.ownBlock=some b->i=j
 tos:∀ i (h:i<P.length) (h':i<L.length),(P[i]).2=zAH \/ ∃ tl,(L[i]).2=((i+1:Nat):Int)::tl
section
variable {k:Nat} {w w':World} {s0 s1 s2:Value} {L:List I} {lv:Value} {P:List (Wc.In × Value)}
theorem YS.fr (h:YS k w s0 s1 s2 L lv P) {S:List Nat} (f:Fr S w w') (hk:k ∉ S) (hl:∀ j,lv.ownBlock=some j->j ∉ S) (ht:∀ i (h:i<P.length) b,(P[i]).2.ownBlock=some b->b ∉ S):YS k w' s0 s1 s2 L lv P :=
 ⟨h.at'.fr f hk,zAW f h.own hl,h.len,λi h1 h2=>⟨(h.ins i h1 h2).1,zAW f (h.ins i h1 h2).2 (λj e=>ht i h1 j e)⟩,h.dis,h.tos⟩
theorem YS.below (h:YS k w s0 s1 s2 L lv P) (hb:Below w.heap.size w w'):YS k w' s0 s1 s2 L lv P :=
 h.fr (Fr.of_below [] hb) (by simp) (λj _=>by simp) (λi _ b _=>by simp)
theorem YS.ge (h:YS k w s0 s1 s2 L lv P):∀ j ∈ k::lv.ownBlock.toList,k<=j:=λj hj=>by
 rcases List.mem_cons.1 hj with q | q
 ·omega
 ·have:=(zAK h.own (show lv.ownBlock=some j by simpa using q)).1;omega
theorem YS.push (h:YS k w s0 s1 s2 L lv P) (x:Wc.In) {lv':Value} (hf:Fr (k::lv.ownBlock.toList) w w') (ha:AtL w' k [s0,s1,s2,lv']) (ho:OwnI w' (k+1) lv' (P++[(x,zAH)])):YS k w' s0 s1 s2 (L++[(x,[])]) lv' (P++[(x,zAH)]):=by
 refine ⟨ha,ho,by simp [h.len],λi h1 h2=>?_,λi j h1 h2 b e1 e2=>?_,λi h1 h2=>?_⟩
 ·by_cases hi:i<P.length
  ·have hi2:i<L.length:=by rw [<-h.len];exact hi
   rw [List.getElem_append_left hi,List.getElem_append_left hi2];refine ⟨(h.ins i hi hi2).1,zAW hf (h.ins i hi hi2).2 (λb e hm=>?_)⟩;rcases List.mem_cons.1 hm with q | q
   ·have:=(zAK (h.ins i hi hi2).2 e).1;omega
   ·exact zAi (h.ins i hi hi2).2 h.own (by decide) e (by simpa using q)
  ·have e1:i=P.length:=by simp at h1;omega
   subst e1;have e2:(P++[(x,zAH)])[P.length]=(x,zAH):=by simp
   have e3:(L++[(x,([]:List Int))])[P.length]=(x,[]):=by simp [h.len]
   rw [e2,e3];exact ⟨rfl,OwnZ.nil _ _⟩
 ·have hx:∀ i (h1:i<(P++[(x,zAH)]).length),((P++[(x,zAH)])[i]).2.ownBlock=some b->i<P.length:=λi h1 e=>by
   rcases Nat.lt_or_ge i P.length with q | q
   ·exact q
   ·have e0:i=P.length:=by simp at h1;omega
    subst e0;have e2:(P++[(x,zAH)])[P.length]=(x,zAH):=by simp
    rw [e2] at e;cases e
  have a1:=hx i h1 e1;have a2:=hx j h2 e2;rw [List.getElem_append_left a1] at e1;rw [List.getElem_append_left a2] at e2;exact h.dis i j a1 a2 b e1 e2
 ·by_cases hi:i<P.length
  ·have hi2:i<L.length:=by rw [<-h.len];exact hi
   rw [List.getElem_append_left hi,List.getElem_append_left hi2];exact h.tos i hi hi2
  ·have e1:i=P.length:=by simp at h1;omega
   subst e1;have e2:(P++[(x,zAH)])[P.length]=(x,zAH):=by simp
   rw [e2];exact Or.inl rfl
end
def YP (k:Nat) (r s0 s1 s2:Value) (L:List I) (lv:Value) (w:World) (e:Ending) (w':World):Prop :=
 (∃ lv' P',e=.returned r/\YS k w' s0 s1 s2 L lv' P'/\Nx w lv lv')/\Fr (k::lv.ownBlock.toList) w w'
open Go.RowKit Wf
theorem zJz (k B:Nat) (x:Wc.In) (s0 s1 s2 lv:Value) (A:List (Wc.In × Value)) (w:World) (hw:AtL w k [s0,s1,s2,lv]) (ho:OwnI w B lv A) (hkB:k<B) (hB:B<=w.heap.size) (hl:A.length<=1000000) :
  Calls prog 33 #[.pointer (some ⟨k,0,none⟩),.agg (zAD x zAH).toArray] w λe w'=>(∃ lv',e=.returned (.int .i64 (A.length:Int))/\AtL w' k [s0,s1,s2,lv']/\OwnI w' B lv' (A++[(x,zAH)])/\∀ j,lv'.ownBlock=some j->lv.ownBlock=some j \/ w.heap.size<=j)/\Fr (k::lv.ownBlock.toList) w w':=by
 have pI0:=AtL.new0 w 56 (zAD x zAH);have hb0:=zAM (Below.refl _ w) (.cells (zAD x zAH).toArray 56);have pW0:=AtL.below hb0 hw;have HO0:Hid (OwnI (w.alloc (.cells (zAD x zAH).toArray 56)) B lv A):=ho.below hb0;have HF0:Hid (Fr (k::lv.ownBlock.toList) w (w.alloc (.cells (zAD x zAH).toArray 56))):=Fr.of_below _ hb0;have HS0:Hid (B<=(w.alloc (.cells (zAD x zAH).toArray 56)).heap.size/\w.heap.size<(w.alloc (.cells (zAD x zAH).toArray 56)).heap.size):=⟨Nat.le_trans hB hb0.size,pI0.1⟩
 have HL:Hid (A.length<=1000000):=hl;have HKB:Hid (k<B/\B<=w.heap.size):=⟨hkB,hB⟩
 have HLB:Hid (∀ j,lv.ownBlock=some j->B<=j/\j<w.heap.size):=λj e=>zAK ho e
 clear hw ho hl hb0 hkB hB;go_enter func33,ntmps33;go_upto_region 1 with fail
 generalize (w.alloc (.cells (zAD x zAH).toArray 56))=W1 at *;have rb:=(Below.refl W1.heap.size W1).drew;have sI:=zAF rb pI0.range;have pW:=AtL.below rb pW0;have sW:=pW.2.1 3 _ rfl;have HO1:Hid (OwnI W1.drew B lv A):=HO0.out.below rb;have HF1:Hid (Fr (k::lv.ownBlock.toList) w W1.drew):=HF0.out.trans (Fr.of_below _ rb);have HS1:Hid (B<=W1.drew.heap.size/\w.heap.size<W1.drew.heap.size):=HS0.out;clear rb pI0 pW0 HO0 HF0 HS0;refine wp_region_held_drew (S:=λW=>W.rangeAt w.heap.size 0 (zAD x zAH)) (by kernel_rfl) sI (λhHeld=>?_);generalize W1.drew=WD at *;refine tkQ 0 ?_
 refine tkQ 1 ?_
 refine tkQ 2 ?_
 refine tkQ 3 ?_
 refine wpAnyH_take (i:=5) (v:=.agg (zAD x zAH).toArray) (atQ rfl) (by kernel_rfl) (by kernel_rfl) (by kernel_rfl) (λ_ _ _ h=>h) (yieldsIf_load_mid (by rfl) 56 (.tmp 3) rfl w.heap.size 0 rfl (zAD x zAH) _ (λ_ h=>h) underlying56 rfl (by kernel_rfl)) (by assumption) ?_;try simp only [Act.put,lA,lZ,lS]
 refine wpAnyH_ready (rs:=[4,6]) (by kernel_rfl) (by simp) ?_;refine AllReadyH.cons (atQ rfl) (λK hK=>?_) (AllReadyH.cons (atQ rfl) (λK hK=>?_) AllReadyH.nil)
 ·go_simp
  refine hkQ hK sI (λhHeld=>?_);clear hK K
  refine rdQ 6 (λK hK=>?_);refine zD5 (.tmp 10) rfl x none 0 0 rfl ?_;have hb2:=zAM (Below.refl _ WD) (.cells (zAD x zAH).toArray 56);have HA2:Hid (AtL (WD.alloc (.cells (zAD x zAH).toArray 56)) WD.heap.size (zAc [(x,zAH)])):=by show AtL _ _ _;rw [show zAc [(x,zAH)]=(zAD x zAH) from by simp [zAc]];exact AtL.new0 WD _ _
  have HO2:Hid (OwnI (WD.alloc (.cells (zAD x zAH).toArray 56)) B lv A):=HO1.out.below hb2;have HF2:Hid (Fr (k::lv.ownBlock.toList) w (WD.alloc (.cells (zAD x zAH).toArray 56))):=HF1.out.trans (Fr.of_below _ hb2);have HS2:Hid (B<=(WD.alloc (.cells (zAD x zAH).toArray 56)).heap.size/\w.heap.size<WD.heap.size):=⟨Nat.le_trans HS1.out.1 hb2.size,HS1.out.2⟩
  have sI2:=zAF hb2 sI;have pW2:=AtL.below hb2 pW;have sW2:=zAC hb2 sW;clear hb2 HO1 HF1 HS1 sI pW sW;refine hkQ hK sI2 (λhHeld=>?_);clear hK K
  generalize (WD.alloc (.cells (zAD x zAH).toArray 56))=W2 at *;obtain ⟨g,hg⟩:∃ g,WD.heap.size=g:=⟨_,rfl⟩
  rw [hg] at HA2 HS2;try simp only [hg]
  clear hg;refine rdQ 7 (λK hK=>?_);refine zD4 (.tmp 9) (.tmp 11) rfl W2 B HS2.out.1 lv A rfl HO2.out g 1 [(x,zAH)] rfl rfl HA2.out (λp hp=>by simp at hp;subst hp;exact ⟨_,_,_,rfl⟩) (by have:=HL.out;simp;omega) ?_;intro v3 W3 own3 hg3 hv3;have HNX:Hid (∀ j,v3.ownBlock=some j->lv.ownBlock=some j \/ w.heap.size<=j):=(λj e=>by
   rcases hv3 with hv3 | hv3
   ·exact Or.inl (by rw [<-hv3];exact e)
   ·rw [hv3] at e;cases e;exact Or.inr HF2.out.size:∀ j,v3.ownBlock=some j->lv.ownBlock=some j \/ w.heap.size<=j)
  clear hv3;obtain ⟨g3,cap3,ev,hcp⟩:∃ g cap,v3=.slice (some ⟨g,0,none⟩) (A.length+1) cap/\B<=g:=by
   rcases own3.2 with ⟨_,h0⟩ | ⟨g,cap,cur,e,hbb,_,hc,_⟩
   ·simp at h0
   ·exact ⟨g,cap,by rw [e];simp,hbb⟩
  subst ev;have fr3:Fr lv.ownBlock.toList W2 W3:=Fr.of_grown hg3 (λk e=>by simp [e]);have hbk:∀ j,lv.ownBlock=some j->B<=j/\j<W2.heap.size:=λj e=>zAK HO2.out e
  have sI3:=fr3.range sI2 (λe=>by have:=(HLB.out w.heap.size (by simpa using e)).2;omega);have pW3:=pW2.fr fr3 (λe=>by have:=(hbk k (by simpa using e)).1;have:=HKB.out;omega);have HF3:Hid (Fr (k::lv.ownBlock.toList) w W3):=HF2.out.trans (fr3.mono (λj hj=>List.mem_cons_of_mem _ hj));have HO3:Hid (OwnI W3 B (.slice (some ⟨g3,0,none⟩) (A.length+1) cap3) (A++[(x,zAH)])):=own3;clear own3 hg3 fr3 hbk HF2 HO2 HA2 pW2 sI2 sW2;have sW3:=pW3.2.1 3 _ rfl;have zW3:=pW3.2.2 3 (by simp);refine hkQ hK sI3 (λhHeld=>?_);clear hK K
  refine tkQ 8 ?_
  refine tkQ 9 ?_
  refine rdQ 10 (λK hK=>?_);go_simp
  have pW4:=pW3.set 3 (.slice (some ⟨g3,0,none⟩) (A.length+1) cap3);have fr4:Fr [k] W3 (W3.setCell ⟨k,3,none⟩ (.slice (some ⟨g3,0,none⟩) (A.length+1) cap3)):=Fr.of_grown (zAP _ _ _ _) (λj e=>by cases e;simp);have HF4:Hid (Fr (k::lv.ownBlock.toList) w (W3.setCell ⟨k,3,none⟩ (.slice (some ⟨g3,0,none⟩) (A.length+1) cap3))):=HF3.out.trans (fr4.mono (λj hj=>by simp at hj;subst hj;exact List.mem_cons_self ..));have HO4:Hid (OwnI (W3.setCell ⟨k,3,none⟩ (.slice (some ⟨g3,0,none⟩) (A.length+1) cap3)) B (.slice (some ⟨g3,0,none⟩) (A.length+1) cap3) (A++[(x,zAH)])):=zAW fr4 HO3.out (λj e=>by have:=(zAK HO3.out e).1;have:=HKB.out;simp;omega);have sI4:=fr4.range sI3 (by have:=HKB.out;simp;omega);have HP4:Hid (AtL (W3.setCell ⟨k,3,none⟩ (.slice (some ⟨g3,0,none⟩) (A.length+1) cap3)) k [s0,s1,s2,.slice (some ⟨g3,0,none⟩) (A.length+1) cap3]):=pW4;generalize (W3.setCell ⟨k,3,none⟩ (.slice (some ⟨g3,0,none⟩) (A.length+1) cap3))=W4 at *;refine hkQ hK sI4 (λhHeld=>?_);clear hK K
  refine wpAnyH_done (by kernel_rfl) ?_ _;clear hHeld sI4 sI3 pW4 fr4;have sW4:=HP4.out.2.1 3 _ rfl;have hs1:IntKind.i64.wrap (((A.length+1:Nat):Int) - 1)=(A.length:Int):=by have:=HL.out;rw [IntKind.wrap_i64];omega
  have hs2:IntKind.i64.wrap ((A.length:Int)+1 - 1)=(A.length:Int):=by have:=HL.out;rw [IntKind.wrap_i64];omega
  go_wp2;go_ret;refine ⟨⟨_,?_,HP4.out,HO4.out,HNX.out⟩,HF4.out⟩;simp;have:=HL.out;first | omega | (unfold wrap64;omega)
 ·refine zD5 (.tmp 10) rfl x none 0 0 rfl ?_;have hb2:=zAM (Below.refl _ WD) (.cells (zAD x zAH).toArray 56);have HA2:Hid (AtL (WD.alloc (.cells (zAD x zAH).toArray 56)) WD.heap.size (zAc [(x,zAH)])):=by show AtL _ _ _;rw [show zAc [(x,zAH)]=(zAD x zAH) from by simp [zAc]];exact AtL.new0 WD _ _
  have HO2:Hid (OwnI (WD.alloc (.cells (zAD x zAH).toArray 56)) B lv A):=HO1.out.below hb2;have HF2:Hid (Fr (k::lv.ownBlock.toList) w (WD.alloc (.cells (zAD x zAH).toArray 56))):=HF1.out.trans (Fr.of_below _ hb2);have HS2:Hid (B<=(WD.alloc (.cells (zAD x zAH).toArray 56)).heap.size/\w.heap.size<WD.heap.size):=⟨Nat.le_trans HS1.out.1 hb2.size,HS1.out.2⟩
  have sI2:=zAF hb2 sI;have pW2:=AtL.below hb2 pW;have sW2:=zAC hb2 sW;clear hb2 HO1 HF1 HS1 sI pW sW;refine hkQ hK sI2 (λhHeld=>?_);clear hK K
  generalize (WD.alloc (.cells (zAD x zAH).toArray 56))=W2 at *;obtain ⟨g,hg⟩:∃ g,WD.heap.size=g:=⟨_,rfl⟩
  rw [hg] at HA2 HS2;try simp only [hg]
  clear hg;refine rdQ 4 (λK hK=>?_);try clear hHeld
  go_simp
  refine hkQ hK sI2 (λhHeld=>?_);clear hK K
  refine rdQ 7 (λK hK=>?_);refine zD4 (.tmp 9) (.tmp 11) rfl W2 B HS2.out.1 lv A rfl HO2.out g 1 [(x,zAH)] rfl rfl HA2.out (λp hp=>by simp at hp;subst hp;exact ⟨_,_,_,rfl⟩) (by have:=HL.out;simp;omega) ?_;intro v3 W3 own3 hg3 hv3;have HNX:Hid (∀ j,v3.ownBlock=some j->lv.ownBlock=some j \/ w.heap.size<=j):=(λj e=>by
   rcases hv3 with hv3 | hv3
   ·exact Or.inl (by rw [<-hv3];exact e)
   ·rw [hv3] at e;cases e;exact Or.inr HF2.out.size:∀ j,v3.ownBlock=some j->lv.ownBlock=some j \/ w.heap.size<=j)
  clear hv3;obtain ⟨g3,cap3,ev,hcp⟩:∃ g cap,v3=.slice (some ⟨g,0,none⟩) (A.length+1) cap/\B<=g:=by
   rcases own3.2 with ⟨_,h0⟩ | ⟨g,cap,cur,e,hbb,_,hc,_⟩
   ·simp at h0
   ·exact ⟨g,cap,by rw [e];simp,hbb⟩
  subst ev;have fr3:Fr lv.ownBlock.toList W2 W3:=Fr.of_grown hg3 (λk e=>by simp [e]);have hbk:∀ j,lv.ownBlock=some j->B<=j/\j<W2.heap.size:=λj e=>zAK HO2.out e
  have sI3:=fr3.range sI2 (λe=>by have:=(HLB.out w.heap.size (by simpa using e)).2;omega);have pW3:=pW2.fr fr3 (λe=>by have:=(hbk k (by simpa using e)).1;have:=HKB.out;omega);have HF3:Hid (Fr (k::lv.ownBlock.toList) w W3):=HF2.out.trans (fr3.mono (λj hj=>List.mem_cons_of_mem _ hj));have HO3:Hid (OwnI W3 B (.slice (some ⟨g3,0,none⟩) (A.length+1) cap3) (A++[(x,zAH)])):=own3;clear own3 hg3 fr3 hbk HF2 HO2 HA2 pW2 sI2 sW2;have sW3:=pW3.2.1 3 _ rfl;have zW3:=pW3.2.2 3 (by simp);refine hkQ hK sI3 (λhHeld=>?_);clear hK K
  refine tkQ 8 ?_
  refine tkQ 9 ?_
  refine rdQ 10 (λK hK=>?_);go_simp
  have pW4:=pW3.set 3 (.slice (some ⟨g3,0,none⟩) (A.length+1) cap3);have fr4:Fr [k] W3 (W3.setCell ⟨k,3,none⟩ (.slice (some ⟨g3,0,none⟩) (A.length+1) cap3)):=Fr.of_grown (zAP _ _ _ _) (λj e=>by cases e;simp);have HF4:Hid (Fr (k::lv.ownBlock.toList) w (W3.setCell ⟨k,3,none⟩ (.slice (some ⟨g3,0,none⟩) (A.length+1) cap3))):=HF3.out.trans (fr4.mono (λj hj=>by simp at hj;subst hj;exact List.mem_cons_self ..));have HO4:Hid (OwnI (W3.setCell ⟨k,3,none⟩ (.slice (some ⟨g3,0,none⟩) (A.length+1) cap3)) B (.slice (some ⟨g3,0,none⟩) (A.length+1) cap3) (A++[(x,zAH)])):=zAW fr4 HO3.out (λj e=>by have:=(zAK HO3.out e).1;have:=HKB.out;simp;omega);have sI4:=fr4.range sI3 (by have:=HKB.out;simp;omega);have HP4:Hid (AtL (W3.setCell ⟨k,3,none⟩ (.slice (some ⟨g3,0,none⟩) (A.length+1) cap3)) k [s0,s1,s2,.slice (some ⟨g3,0,none⟩) (A.length+1) cap3]):=pW4;generalize (W3.setCell ⟨k,3,none⟩ (.slice (some ⟨g3,0,none⟩) (A.length+1) cap3))=W4 at *;refine hkQ hK sI4 (λhHeld=>?_);clear hK K
  refine wpAnyH_done (by kernel_rfl) ?_ _;clear hHeld sI4 sI3 pW4 fr4;have sW4:=HP4.out.2.1 3 _ rfl;have hs1:IntKind.i64.wrap (((A.length+1:Nat):Int) - 1)=(A.length:Int):=by have:=HL.out;rw [IntKind.wrap_i64];omega
  have hs2:IntKind.i64.wrap ((A.length:Int)+1 - 1)=(A.length:Int):=by have:=HL.out;rw [IntKind.wrap_i64];omega
  go_wp2;go_ret;refine ⟨⟨_,?_,HP4.out,HO4.out,HNX.out⟩,HF4.out⟩;simp;have:=HL.out;first | omega | (unfold wrap64;omega)
theorem zGY (L:List Wt.Nd) (bb off cap i:Nat) (own:Int) (nm:List ByteArray) (av2:Option Addr) (m2 cap2:Nat) (w:World) (hi:i<L.length) (hc:Wt.check L=0) (hF:∀ x ∈ L,Wt.FitN x) (hr:RdN w (some ⟨bb,off,none⟩) L) (hS:RdS w av2 nm) (hm2:m2=nm.length) (hl2:nm.length<=1000000) :
  CR 31 #[.slice (some ⟨bb,off,none⟩) L.length cap,.int .i64 (i:Int),.int .i64 own,.slice av2 m2 cap2] w (.int .i64 (wrN own (nm.take 16) L i)):=by
 have hgD:L.getD i zn=L[i]:=by rw [List.getD_eq_getElem?_getD,List.getElem?_eq_getElem hi];rfl
 have hwv:wrN own (nm.take 16) L i=wv own (nm.take 16) L[i] (kidN L i) i:=by unfold wrN wv;rw [hgD]
 rw [hwv];have hat:∀ q (hq:q<L.length),w.rangeAt bb (off+q * 20) (zAG L[q]):=λq hq=>by
  obtain ⟨b2,o2,e,h⟩:=hr q hq;cases e
  exact h
 have hcn:=zF3 hc hi;have hKA:∀ j (hj:j<(zBa L i).length) (hj2:j<(kidN L i).length),(zBa L i)[j] < L.length/\w.rangeAt bb (off+(zBa L i)[j] * 20) (zAG (kidN L i)[j]):=λj hj hj2=>by
  obtain ⟨h1,h2⟩:=zIs hc hi hj hj2;exact ⟨h1,by rw [<-h2];exact hat _ h1⟩
 by_cases h6:(L[i]).k=6
 ·rw [wv6 h6];refine zLC L.length bb off cap i own (.slice av2 m2 cap2) w L[i] (kidN L i) (zBa L i) h6 hi (hat i hi) av2 m2 cap2 rfl (λW hb=>zBy _ cap L i W hF (hr.below hb) hi hc) ⟨?_,hcn.2.1⟩ (zDS L i) (λy hy=>?_) hKA
  ·rw [hcn.1];unfold Wt.parts;rw [if_neg (by omega),if_neg (by omega)]
  ·obtain ⟨j,hj,rfl⟩:=List.getElem_of_mem hy;have hj':j<(zBa L i).length:=by rw [<-zDS];exact hj
   obtain ⟨h1,h2⟩:=zIs hc hi hj' hj;rw [<-h2];exact (zF3 hc h1).2.2
 ·exact zLB L.length bb off cap i own nm av2 m2 cap2 w L[i] (kidN L i) (zBa L i) hi (hat i hi) hS hm2 hl2 (λW hb=>zBy _ cap L i W hF (hr.below hb) hi hc) h6 hcn (zDS L i) hKA
structure MEn (L:List Wt.Nd) (bb off:Nat) (nm:List ByteArray) (av2:Option Addr) (k:Nat) (w:World):Prop where
 rn:RdN w (some ⟨bb,off,none⟩) L
 rs:RdS w av2 nm
 nk:bb<k
 sk:∀ b o,av2=some ⟨b,o,none⟩->b<k
 hc:Wt.check L=0
 hF:∀ x ∈ L,Wt.FitN x
 hl:nm.length<=1000000
section
variable {L:List Wt.Nd} {bb off:Nat} {nm:List ByteArray} {av2:Option Addr} {k:Nat} {w w':World}
theorem MEn.fr (h:MEn L bb off nm av2 k w) {S:List Nat} (f:Fr S w w') (hs:∀ j ∈ S,k<=j):MEn L bb off nm av2 k w' :=
 ⟨h.rn.fr f (λhm=>by have:=hs _ hm;have:=h.nk;omega),λi hi=>by
  obtain ⟨b,o,e,hc⟩:=h.rs i hi;exact ⟨b,o,e,f.cell hc (λhm=>by have:=hs _ hm;have:=h.sk b o e;omega)⟩,h.nk,h.sk,h.hc,h.hF,h.hl⟩
theorem MEn.below (h:MEn L bb off nm av2 k w) (hb:Below w.heap.size w w'):MEn L bb off nm av2 k w':=h.fr (Fr.of_below [] hb) (by simp)
theorem MEn.at (h:MEn L bb off nm av2 k w) {q:Nat} (hq:q<L.length):w.rangeAt bb (off+q * 20) (zAG L[q]):=by
 obtain ⟨b2,o2,e,h⟩:=h.rn q hq;cases e
 exact h
end
