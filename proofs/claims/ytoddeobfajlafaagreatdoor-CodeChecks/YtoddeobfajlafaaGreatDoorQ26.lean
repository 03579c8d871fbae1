/- KClU, KSiteB, KPush, KEn. -/
import Derived.Test.YtoddeobfajlafaaGreatDoorQ25
set_option maxHeartbeats 1600000
set_option maxRecDepth 100000
namespace Go.Proofs.YtoddeobfajlafaaGreatDoor
open Tryz
open Go.RowKit Wf
set_option linter.unusedVariables false
variable {w w1 w':World} {k B m2 cap2 hi:Nat} {T:Nat->Nat} {ops:Array Oper} {rest:List Oper} {op:Oper} {a:Act} {Q:Exit->Act->World->Prop} {s0 s1 lv:Value} {L:List Wf.I} {P:List (Wc.In × Value)} {own:Int} {nm:List ByteArray} {av2:Option Addr}
theorem zMU (h:WS k B T w s0 s1 L lv P) (hkB:k<B) {g cap i:Nat} (hlv:lv=.slice (some ⟨g,0,none⟩) P.length cap) (hi:i<P.length) (hi2:i<L.length) (v:Int) {tv':Value} (f1:Fr (P[i]).2.ownBlock.toList w w1) (ho:OwnZ w1 (T i) tv' ((L[i]).2++[v])) (hn:Nx w (P[i]).2 tv') :
  WS k B T (w1.setCell ⟨g,i * 23+22,none⟩ tv') s0 s1 (L.set i ((L[i]).1,(L[i]).2++[v])) lv (P.set i ((P[i]).1,tv'))/\Fr (lv.ownBlock.toList++(P[i]).2.ownBlock.toList) w (w1.setCell ⟨g,i * 23+22,none⟩ tv'):=by
 have hTi:=(h.ins i hi hi2).2;have hlT:∀ j,lv.ownBlock=some j->j ∉ (P[i]).2.ownBlock.toList:=λj e hm=>zBE h.own hTi (by decide) e (by simpa using hm)
 have hg0:=λ(e:lv.ownBlock=some g)=>(zAN h.own e).1
 subst hlv;have hg:=hg0 rfl;have own1:=zA2 f1 h.own hlT;have hst:=own1.stored (i * 23+22) tv';have f2:Fr [g] w1 (w1.setCell ⟨g,i * 23+22,none⟩ tv'):=Fr.of_grown hst.2 (λj e=>by cases e;simp);refine ⟨⟨(h.at'.fr f1 (λhm=>by have:=(zAN hTi (show (P[i]).2.ownBlock=some k by simpa using hm)).1;have:=h.tb i;omega)).fr f2 (by simp;omega),?_,by simp [h.len],λj h1 h2=>?_,h.tb,λa b h1 h2 c e1 e2=>?_⟩,?_⟩
 ·have:=hst.1;rw [zC2 P i hi ((P[i]).1,tv') 22 _ rfl (by omega)] at this;unfold OwnI;rw [List.length_set];exact this
 ·rw [List.length_set] at h1 h2;by_cases e:i=j
  ·subst e;rw [List.getElem_set_self,List.getElem_set_self];exact ⟨(h.ins i h1 h2).1,zA2 f2 ho (λb e hm=>by
    simp at hm;subst hm;exact zBE ho own1 (by decide) e rfl)⟩
  ·rw [List.getElem_set_ne e,List.getElem_set_ne e];have hj:=(h.ins j h1 h2).2;have hj1:=zA2 f1 hj (λb eb hm=>e (h.dis i j hi h1 b (by simpa using hm) eb));exact ⟨(h.ins j h1 h2).1,zA2 f2 hj1 (λb eb hm=>by
    simp at hm;subst hm;exact zBE hj1 own1 (by decide) eb rfl)⟩
 ·rw [List.length_set] at h1 h2;have hne:∀ d (hd:d<P.length),¬ i=d->(P[d]).2.ownBlock=some c->tv'.ownBlock=some c->False:=λd hd hid ed et=>by
   rcases hn c et with q | q
   ·exact hid (h.dis i d hi hd c q ed)
   ·have:=(zAN (h.ins d hd (by rw [<-h.len];exact hd)).2 ed).2;omega
  by_cases ea:i=a
  ·by_cases eb:i=b
   ·omega
   ·subst ea;rw [List.getElem_set_self] at e1;rw [List.getElem_set_ne eb] at e2;exact (hne b h2 eb e2 e1).elim
  ·by_cases eb:i=b
   ·subst eb;rw [List.getElem_set_self] at e2;rw [List.getElem_set_ne ea] at e1;exact (hne a h1 ea e1 e2).elim
   ·rw [List.getElem_set_ne ea] at e1;rw [List.getElem_set_ne eb] at e2;exact h.dis a b h1 h2 c e1 e2
 ·exact (f1.mono (λj hj=>List.mem_append_right _ hj)).trans (f2.mono (λj hj=>by simp at hj;subst hj;exact List.mem_append_left _ (by simp [Value.ownBlock])))
theorem zOR (k B:Nat) (T:Nat->Nat) (s0 s1:Value) (L:List I) (lv:Value) (P:List (Wc.In × Value)) (w:World) (at':Nat) (bi bw ba:Nat) (h:WS k B T w s0 s1 L lv P) (hkB:k<B) (hB:T at'<=w.heap.size) (hl:L.length<=1000000) (hat:at' < L.length) (hatP:at' < P.length) (htl:(L[at']).2.length<=1000000)
  (h1:w.cell? ⟨bi,0,none⟩=some (.func (.func 161) #[] #[])) (h2:w.cell? ⟨bw,0,none⟩=some (.pointer (some ⟨k,0,none⟩))) (h3:w.cell? ⟨ba,0,none⟩=some (.int .i64 (at':Int))) (hn:∀ b ∈ [bi,bw,ba],b ∉ lv.ownBlock.toList++(P[at']).2.ownBlock.toList) :
  Calls prog 174 #[.pointer (some ⟨bi,0,none⟩),.pointer (some ⟨bw,0,none⟩),.pointer (some ⟨ba,0,none⟩)] w λe w'=>(∃ tv',e=.returned (.tuple #[])/\WS k B T w' s0 s1 (L.set at' ((L[at']).1,(L[at']).2++[(L.length:Int)])) lv (P.set at' ((P[at']).1,tv'))/\Nx w (P[at']).2 tv')/\Fr (lv.ownBlock.toList++(P[at']).2.ownBlock.toList) w w':=by
 have hPl:=h.len;rcases h.own.2 with ⟨e,h9⟩ | ⟨g,cap,cur,e,hgB,_⟩
 ·rw [hPl] at h9;omega
 have hWD:=(Below.refl w.heap.size w).drew;have hd:=h.below hWD;have HSET:Hid (∀ (tv':Value) (w1:World),Fr (P[at']).2.ownBlock.toList w.drew w1->OwnZ w1 (T at') tv' ((L[at']).2++[(L.length:Int)])->Nx w.drew (P[at']).2 tv'->WS k B T (w1.setCell ⟨g,at' * 23+22,none⟩ tv') s0 s1 (L.set at' ((L[at']).1,(L[at']).2++[(L.length:Int)])) lv (P.set at' ((P[at']).1,tv'))/\Fr (lv.ownBlock.toList++(P[at']).2.ownBlock.toList) w.drew (w1.setCell ⟨g,at' * 23+22,none⟩ tv')):=λtv' w1 f1 ho hnx=>zMU hd hkB e hatP hat _ f1 ho hnx
 have HOZ:Hid (OwnZ w.drew (T at') (P[at']).2 (L[at']).2):=(hd.ins at' hatP hat).2;have HBZ:Hid (T at'<=w.drew.heap.size):=hB;have HLZ:Hid ((L[at']).2.length<=1000000):=htl;have HKN:Hid (k ∉ lv.ownBlock.toList++(P[at']).2.ownBlock.toList):=λhm=>by
  rcases List.mem_append.1 hm with q | q
  ·have:=(zAN h.own (show lv.ownBlock=some k by simpa using q)).1;omega
  ·have:=(zAN (h.ins at' hatP hat).2 (show (P[at']).2.ownBlock=some k by simpa using q)).1;have:=h.tb at';omega
 have HGZ:Hid (¬ (P[at']).2.ownBlock=some g):=λee=>zBE (h.ins at' hatP hat).2 h.own (by decide) ee (by rw [e];rfl)
 have HNE:Hid (∀ b ∈ [bi,bw,ba],b ∉ lv.ownBlock.toList++(P[at']).2.ownBlock.toList):=hn;have HWD:Hid (Fr (lv.ownBlock.toList++(P[at']).2.ownBlock.toList) w w.drew):=Fr.of_below _ hWD;have hown:OwnI w.drew B (.slice (some ⟨g,0,none⟩) P.length cap) P:=by rw [<-e];exact hd.own
 have hcc:=hown.cellAt (at' * 23+22) (by omega);have hzz:=hown.frozenAt (at' * 23+22);rw [zCN P at' hatP 22 (P[at']).2 rfl] at hcc;have c2:=hd.at'.2.1 2 _ rfl;rw [e,hPl] at c2;replace h1:w.drew.cell? ⟨bi,0,none⟩=some (.func (.func 161) #[] #[]):=h1
 replace h2:w.drew.cell? ⟨bw,0,none⟩=some (.pointer (some ⟨k,0,none⟩)):=h2
 replace h3:w.drew.cell? ⟨ba,0,none⟩=some (.int .i64 (at':Int)):=h3
 have IN:=λ(W:World) (q1:W.cell? ⟨g,at' * 23+22,none⟩=some (P[at']).2) (q2:W.frozen? ⟨g,at' * 23+22,none⟩=false) (q3:OwnZ W (T at') (P[at']).2 (L[at']).2) (q4:T at'<=W.heap.size) (q5:(L[at']).2.length<=1000000) (q6:¬ (P[at']).2.ownBlock=some g)=>zG7 g (at' * 23) (T at') (L.length:Int) (P[at']).2 (L[at']).2 W q1 q2 q3 q4 q5 q6
 obtain ⟨m,hm⟩:∃ m,L.length=m:=⟨_,rfl⟩
 have HAT:Hid (at' < m/\m<=1000000):=by rw [hm] at hat hl;exact ⟨hat,hl⟩
 rw [hm] at c2;have HM:Hid (L.length=m):=hm;simp only [hm] at IN HSET ⊢;have ha1:(at':Int)<(m:Int):=by have:=HAT.out;omega
 have ha0:(0:Int)<=(at':Int):=by omega
 obtain ⟨tv,htv⟩:∃ tv,(P[at']).2=tv:=⟨_,rfl⟩
 obtain ⟨tl,htl2⟩:∃ tl,(L[at']).2=tl:=⟨_,rfl⟩
 obtain ⟨xi,hxi⟩:∃ x,(P[at']).1=x:=⟨_,rfl⟩
 obtain ⟨xl,hxl⟩:∃ x,(L[at']).1=x:=⟨_,rfl⟩
 simp only [htv,htl2,hxi,hxl] at IN HSET HOZ HLZ HKN HGZ HNE HWD hcc ⊢;clear htv htl2 hxi hxl hown hd hWD h hPl hm hn e hat hl htl hatP hB;go_enter func174,ntmps174;refine wp_region_held_drew (S:=λW=>W.cell? ⟨bi,0,none⟩=some (.func (.func 161) #[] #[])/\W.cell? ⟨bw,0,none⟩=some (.pointer (some ⟨k,0,none⟩))/\W.cell? ⟨ba,0,none⟩=some (.int .i64 (at':Int))/\W.cell? ⟨k,2,none⟩=some (.slice (some ⟨g,0,none⟩) m cap)) (by kernel_rfl) ⟨h1,h2,h3,c2⟩ (λhHeld=>?_);generalize w.drew=WD at *;refine tkQ 0 ⟨some 3,.load 209 (.tmp 0),209,"writer.go:23",#[],none⟩ ?_
 refine tkQ 1 ⟨some 4,.load 101 (.tmp 1),101,"writer.go:23",#[],none⟩ ?_
 refine tkQ 2 ⟨some 5,.nilCheck (.tmp 4),0,"writer.go:23",#[⟨1,.data⟩],none⟩ ?_
 refine tkQ 3 ⟨some 6,.fieldAddr 68 (.tmp 5) 1,0,"writer.go:23",#[⟨2,.data⟩],none⟩ ?_
 refine tkQ 4 ⟨some 7,.load 36 (.tmp 6),36,"writer.go:23",#[⟨3,.data⟩],none⟩ ?_
 refine tkQ 5 ⟨some 8,.load 3 (.tmp 2),3,"writer.go:23",#[],none⟩ ?_
 refine tkQ 6 ⟨some 9,.indexAddr 36 (.tmp 7) (.tmp 8),0,"writer.go:23",#[⟨4,.data⟩,⟨5,.data⟩],none⟩ ?_
 refine tkQ 7 ⟨some 10,.load 101 (.tmp 1),101,"writer.go:23",#[],none⟩ ?_
 refine tkQ 8 ⟨some 11,.nilCheck (.tmp 10),0,"writer.go:23",#[⟨7,.data⟩],none⟩ ?_
 refine tkQ 9 ⟨some 12,.fieldAddr 68 (.tmp 11) 1,0,"writer.go:23",#[⟨8,.data⟩],none⟩ ?_
 refine tkQ 10 ⟨some 13,.load 36 (.tmp 12),36,"writer.go:23",#[⟨9,.data⟩],none⟩ ?_
 refine tkQ 11 ⟨some 14,.call {callee:=Callee.builtin Builtin.len,args:=#[.tmp 13],argTypes:=#[36]},3,"writer.go:23",#[⟨10,.data⟩],none⟩ ?_
 refine rdQ 12 ⟨some 15,.call {callee:=Callee.value (.tmp 3),args:=#[.tmp 9,.tmp 14],argTypes:=#[220,3]},0,"writer.go:23",#[⟨0,.data⟩,⟨6,.data⟩,⟨11,.data⟩],none⟩ (λK hK=>?_);go_simp
 refine (IN WD hcc hzz HOZ.out HBZ.out HLZ.out HGZ.out).mono ?_;rintro e w2 ⟨rfl,tv1,w1,own1,f1,hn1,rfl⟩;have HST:=HSET.out tv1 w1 f1 own1 hn1;have hfr:=HST.2;go_wp2_with fail
 refine hkQ hK ⟨hfr.cell h1 (HNE.out bi (by simp)),hfr.cell h2 (HNE.out bw (by simp)),hfr.cell h3 (HNE.out ba (by simp)),hfr.cell c2 HKN.out⟩ (λhHeld=>?_);clear hK K
 refine wpAnyH_done (by kernel_rfl) ?_ _;have HRS:Hid (WS k B T (w1.setCell ⟨g,at' * 23+22,none⟩ tv1) s0 s1 (L.set at' (xl,tl++[(m:Int)])) lv (P.set at' (xi,tv1))/\Nx w tv tv1):=⟨HST.1,λj e=>(hn1 j e).imp id (Nat.le_trans HWD.out.size)⟩
 have HFS:=HWD.out.trans HST.2;clear hHeld h1 h2 h3 c2 hcc hzz hfr IN HST own1 f1 hn1;go_wp2;go_end0
 exact ⟨⟨_,rfl,HRS.out.1,HRS.out.2⟩,HFS⟩
theorem zEe (own:Int) (nm:List ByteArray) (av:Option Addr) (m cap:Nat) (r:Wt.Rf) (w:World) (hm:m=nm.length) (hl:nm.length<=16) (hR:RdS w av nm):CR 48 #[zCJ own av m cap,.agg (rf5 r).toArray] w (.agg #[.int .i64 (shN own nm r.s),.int .i64 r.r,.int .i64 r.c]):=by
 have SH:=λ(W:World) (h:RdS W av nm)=>zCU own nm r.s av m cap W hm hl h
 generalize shN own nm r.s=sn at *;have hB:=zAJ (zAJ (zAJ (Below.refl _ w) (.cells #[.int .i64 own,.slice av m cap] 60)) (.cells #[.string r.s,.int .i64 r.r,.int .i64 r.c,.bool r.fr,.bool r.fc] 33)) (.cells #[.int .i64 0,.int .i64 0,.int .i64 0] 24);have pS:=((AtL.new0 w 60 [.int .i64 own,.slice av m cap]).alloc (.cells #[.string r.s,.int .i64 r.r,.int .i64 r.c,.bool r.fr,.bool r.fc] 33)).alloc (.cells #[.int .i64 0,.int .i64 0,.int .i64 0] 24);have pR:=(AtL.new1 w (.cells #[.int .i64 own,.slice av m cap] 60) 33 [.string r.s,.int .i64 r.r,.int .i64 r.c,.bool r.fr,.bool r.fc]).alloc (.cells #[.int .i64 0,.int .i64 0,.int .i64 0] 24);have pC:AtL (((w.alloc (.cells #[.int .i64 own,.slice av m cap] 60)).alloc (.cells #[.string r.s,.int .i64 r.r,.int .i64 r.c,.bool r.fr,.bool r.fc] 33)).alloc (.cells #[.int .i64 0,.int .i64 0,.int .i64 0] 24)) (w.heap.size+2) [.int .i64 0,.int .i64 0,.int .i64 0]:=AtL.new _ _ (by simp) _;have HR3:Hid (RdS (((w.alloc (.cells #[.int .i64 own,.slice av m cap] 60)).alloc (.cells #[.string r.s,.int .i64 r.r,.int .i64 r.c,.bool r.fr,.bool r.fc] 33)).alloc (.cells #[.int .i64 0,.int .i64 0,.int .i64 0] 24)) av nm):=hR.below hB;clear hm hl hR;unfold rf5;go_enter func48,ntmps48;go_upto_region 1 with fail
 generalize (((w.alloc (.cells #[.int .i64 own,.slice av m cap] 60)).alloc (.cells #[.string r.s,.int .i64 r.r,.int .i64 r.c,.bool r.fr,.bool r.fc] 33)).alloc (.cells #[.int .i64 0,.int .i64 0,.int .i64 0] 24))=W3 at *;have rb:=(Below.refl W3.heap.size W3).drew;have pS1:=AtL.below rb pS;have pR1:=AtL.below rb pR;have pC1:=AtL.below rb pC;have hB1:=zAB hB rb;have HRD:Hid (RdS W3.drew av nm):=HR3.out.below rb;have s0:=pS1.2.1 0 _ rfl;have s1:=pS1.2.1 1 _ rfl;have r0:=pR1.2.1 0 _ rfl;have r1:=pR1.2.1 1 _ rfl;have r2:=pR1.2.1 2 _ rfl;clear rb pS pR pC pS1 pR1 hB HR3;refine wp_region_held_drew (S:=λW=>W.cell? ⟨w.heap.size,0,none⟩=some (.int .i64 own)/\W.cell? ⟨w.heap.size,1,none⟩=some (.slice av m cap)/\W.cell? ⟨w.heap.size+1,0,none⟩=some (.string r.s)/\W.cell? ⟨w.heap.size+1,1,none⟩=some (.int .i64 r.r)/\W.cell? ⟨w.heap.size+1,2,none⟩=some (.int .i64 r.c)) (by kernel_rfl) ⟨s0,s1,r0,r1,r2⟩ (λhHeld=>?_);generalize W3.drew=WD at *;refine tkQ 0 ⟨some 5,.load 60 (.tmp 2),60,"site.go:31",#[],none⟩ ?_
 refine tkQ 1 ⟨some 6,.fieldAddr 33 (.tmp 3) 0,0,"site.go:31",#[],none⟩ ?_
 refine tkQ 2 ⟨some 7,.load 9 (.tmp 6),9,"site.go:31",#[⟨1,.data⟩],none⟩ ?_
 refine tkQ 4 ⟨some 9,.fieldAddr 33 (.tmp 3) 1,0,"site.go:31",#[],none⟩ ?_
 refine tkQ 5 ⟨some 10,.load 3 (.tmp 9),3,"site.go:31",#[⟨4,.data⟩],none⟩ ?_
 refine tkQ 6 ⟨some 11,.fieldAddr 33 (.tmp 3) 2,0,"site.go:31",#[],none⟩ ?_
 refine tkQ 7 ⟨some 12,.load 3 (.tmp 11),3,"site.go:31",#[⟨6,.data⟩],none⟩ ?_
 refine rdQ 3 ⟨some 8,.call {callee:=Callee.value (Operand.func 78),args:=#[.tmp 5,.tmp 7],argTypes:=#[60,9]},3,"site.go:31",#[⟨0,.data⟩,⟨2,.data⟩],none⟩ (λK hK=>?_);go_simp
 refine (SH WD HRD.out).mono ?_;rintro e w6 ⟨rfl,hb6⟩;go_wp2_with fail
 refine hkQ hK ⟨zAC hb6 s0,zAC hb6 s1,zAC hb6 r0,zAC hb6 r1,zAC hb6 r2⟩ (λhHeld=>?_);clear hK K
 have hB6:=zAB hB1 hb6;have pC6:=AtL.below hb6 pC1;refine tkQ 8 ⟨some 13,.build 24 #[(0,.tmp 8),(1,.tmp 10),(2,.tmp 12)],24,"site.go:31",#[⟨3,.data⟩,⟨5,.data⟩,⟨7,.data⟩],none⟩ ?_
 have k0:=pC6.2.1 0 _ rfl;have k1:=pC6.2.1 1 _ rfl;have k2:=pC6.2.1 2 _ rfl;have z0:=pC6.2.2 0 (by simp);have z1:=pC6.2.2 1 (by simp);have z2:=pC6.2.2 2 (by simp);refine rdQ 9 ⟨none,.store 24 (.tmp 4) (.tmp 13),0,"site.go:31",#[⟨8,.data⟩,⟨3,.chain⟩,⟨0,.phase⟩,⟨1,.phase⟩,⟨2,.phase⟩,⟨3,.phase⟩,⟨4,.phase⟩,⟨5,.phase⟩,⟨6,.phase⟩,⟨7,.phase⟩,⟨8,.phase⟩],none⟩ (λK hK=>?_);go_simp
 have fr:Fr [w.heap.size+2] w6 (((w6.setCell ⟨w.heap.size+2,0,none⟩ (.int .i64 sn)).setCell ⟨w.heap.size+2,1,none⟩ (.int .i64 r.r)).setCell ⟨w.heap.size+2,2,none⟩ (.int .i64 r.c)):=zCt;have pF:AtL (w6.setCells (w.heap.size+2) 0 [.int .i64 sn,.int .i64 r.r,.int .i64 r.c]) (w.heap.size+2) [.int .i64 sn,.int .i64 r.r,.int .i64 r.c]:=pC6.setAll rfl;have HPF:Hid ((((w6.setCell ⟨w.heap.size+2,0,none⟩ (.int .i64 sn)).setCell ⟨w.heap.size+2,1,none⟩ (.int .i64 r.r)).setCell ⟨w.heap.size+2,2,none⟩ (.int .i64 r.c)).rangeAt (w.heap.size+2) 0 [.int .i64 sn,.int .i64 r.r,.int .i64 r.c]):=pF.range;have HBF:Hid (Below w.heap.size w (((w6.setCell ⟨w.heap.size+2,0,none⟩ (.int .i64 sn)).setCell ⟨w.heap.size+2,1,none⟩ (.int .i64 r.r)).setCell ⟨w.heap.size+2,2,none⟩ (.int .i64 r.c))):=zCe hB6 fr (λk hk=>by simp at hk;omega);refine hkQ hK ⟨fr.cell (zAC hb6 s0) (by simp),fr.cell (zAC hb6 s1) (by simp),fr.cell (zAC hb6 r0) (by simp),fr.cell (zAC hb6 r1) (by simp),fr.cell (zAC hb6 r2) (by simp)⟩ (λhHeld=>?_);clear hK K
 refine wpAnyH_done (by kernel_rfl) ?_ _;clear hHeld fr pF k0 k1 k2 z0 z1 z2 pC6 pC1 hB6 hB1 hb6 s0 s1 r0 r1 r2;generalize (((w6.setCell ⟨w.heap.size+2,0,none⟩ (.int .i64 sn)).setCell ⟨w.heap.size+2,1,none⟩ (.int .i64 r.r)).setCell ⟨w.heap.size+2,2,none⟩ (.int .i64 r.c))=WF at *;go_wp2;refine bodyPost_ret (zB2 (by rfl) _ _ (w.heap.size+2) [.int .i64 sn,.int .i64 r.r,.int .i64 r.c] _ (by rfl) HPF.out underlying24 rfl (by kernel_rfl)) rfl ⟨rfl,HBF.out⟩
theorem zCy (own:Int) (nm:List ByteArray) (av:Option Addr) (m cap:Nat) (x:Wt.Nd) (w:World) (hx:RtN x) (hm:m=nm.length) (hl:nm.length<=16) (hR:RdS w av nm):CR 119 #[zCJ own av m cap,.agg (zAO x).toArray] w (.agg (ar5 (zAe own nm x)).toArray):=by
 have HSH:Hid (∀ (W:World),RdS W av nm->Calls prog 78 #[zCJ own av m cap,.string x.a.s] W λe w'=>e=.returned (.int .i64 (shN own nm x.a.s))/\Below W.heap.size W w'):=λW h=>zCU own nm x.a.s av m cap W hm hl h
 have RE:=λW=>zCw x W hx
 have har:zAe own nm x = {zBz x with s:=shN own nm x.a.s}:=rfl;rw [har];generalize shN own nm x.a.s=sn at *;generalize zBz x=rc at *;have hB:=zAJ (zAJ (zAJ (Below.refl _ w) (.cells #[.int .i64 own,.slice av m cap] 60)) (.cells (zAO x).toArray 35)) (.cells #[.int .i64 0,.int .i64 0,.int .i64 0,.int .i64 0,.int .i64 0] 53);have pS:=((AtL.new0 w 60 [.int .i64 own,.slice av m cap]).alloc (.cells (zAO x).toArray 35)).alloc (.cells #[.int .i64 0,.int .i64 0,.int .i64 0,.int .i64 0,.int .i64 0] 53);have pN:=(AtL.new1 w (.cells #[.int .i64 own,.slice av m cap] 60) 35 (zAO x)).alloc (.cells #[.int .i64 0,.int .i64 0,.int .i64 0,.int .i64 0,.int .i64 0] 53);have pA:AtL (((w.alloc (.cells #[.int .i64 own,.slice av m cap] 60)).alloc (.cells (zAO x).toArray 35)).alloc (.cells #[.int .i64 0,.int .i64 0,.int .i64 0,.int .i64 0,.int .i64 0] 53)) (w.heap.size+2) [.int .i64 0,.int .i64 0,.int .i64 0,.int .i64 0,.int .i64 0]:=AtL.new _ _ (by simp) _;have HR3:Hid (RdS (((w.alloc (.cells #[.int .i64 own,.slice av m cap] 60)).alloc (.cells (zAO x).toArray 35)).alloc (.cells #[.int .i64 0,.int .i64 0,.int .i64 0,.int .i64 0,.int .i64 0] 53)) av nm):=hR.below hB;clear hm hl hR hx har;go_enter func119,ntmps119;go_upto_region 1 with fail
 generalize (((w.alloc (.cells #[.int .i64 own,.slice av m cap] 60)).alloc (.cells (zAO x).toArray 35)).alloc (.cells #[.int .i64 0,.int .i64 0,.int .i64 0,.int .i64 0,.int .i64 0] 53))=W3 at *;have rN:=pN.range;go_wp2_with (first | (refine zAA (by rfl) 35 (.tmp 3) rfl (w.heap.size+1) 0 rfl (zAO x) _ rN underlying35 rfl (by kernel_rfl) ?_))
 refine (RE _).mono ?_;rintro e w1 ⟨rfl,hb1⟩;replace hB:=zAB hB hb1
 replace pS:=AtL.below hb1 pS
 replace pN:=AtL.below hb1 pN
 replace pA:=AtL.below hb1 pA
 have HR4:Hid (RdS w1 av nm):=HR3.out.below hb1;have HW1:Hid (w.heap.size<=w1.heap.size/\w.heap.size+2<w1.heap.size):=⟨hB.size,pA.lt⟩
 clear RE rN hb1 HR3;have hb2:=zAJ (Below.refl _ w1) (.cells (ar5 rc).toArray 53);have pR:=AtL.new0 w1 53 (ar5 rc);replace hB:=zAB hB hb2
 replace pS:=AtL.below hb2 pS
 replace pN:=AtL.below hb2 pN
 replace pA:=AtL.below hb2 pA
 have HR5:Hid (RdS (w1.alloc (.cells (ar5 rc).toArray 53)) av nm):=HR4.out.below hb2;clear hb2 HR4;go_upto_region 2 with fail
 generalize (w1.alloc (.cells (ar5 rc).toArray 53))=W4 at *;obtain ⟨rb,hrb⟩:∃ k,w1.heap.size=k:=⟨_,rfl⟩
 rw [hrb] at pR HW1;simp only [hrb];clear hrb;have s0:=pS.2.1 0 _ rfl;have s1:=pS.2.1 1 _ rfl;have n10:=pN.2.1 10 (.string x.a.s) rfl;have SH:=HSH.out W4 HR5.out;go_wp2_with fail
 refine SH.mono ?_;rintro e w5 ⟨rfl,hb5⟩;replace hB:=zAB hB hb5
 replace pA:=AtL.below hb5 pA
 replace pR:=AtL.below hb5 pR
 clear SH s0 s1 n10 pS pN hb5 HR5 HSH;obtain ⟨b0,b1,b2,b3,b4,k0,k1,k2,k3,k4⟩:=pA.five;obtain ⟨r0,r1,r2,r3,r4,q0,_,_,_,_⟩:=pR.five;have hne:¬ rb=w.heap.size+2:=by have:=HW1.out;omega
 have hne2:¬ w.heap.size+2=rb:=by have:=HW1.out;omega
 have hle:=HW1.out.1;go_wp2;refine bodyPost_ret (v:=.agg (ar5 {rc with s:=sn}).toArray) (by simp [results,results119,go_sem,b0,b1,b2,b3,b4]) rfl ⟨rfl,(clB hB)⟩
theorem zR3 (o:Int) (w:World):(Instr.build 56 #[(0,.int .i64 o)]).run prog w=.ok (.agg (zAD (ins o 0 0).1 zAG).toArray) w:=by kernel_rfl
theorem zRU (o a:Int) (w:World):(Instr.build 56 #[(0,.int .i64 o),(1,.int .i64 a)]).run prog w=.ok (.agg (zAD (ins o a 0).1 zAG).toArray) w:=by kernel_rfl
theorem zRY (o a b:Int) (w:World):(Instr.build 56 #[(0,.int .i64 o),(1,.int .i64 a),(2,.int .i64 b)]).run prog w=.ok (.agg (zAD (ins o a b).1 zAG).toArray) w:=by kernel_rfl
theorem zRc (v:Wt.Vl) (w:World):(Instr.build 56 #[(0,.int .i64 1),(3,.agg (vl6 v).toArray)]).run prog w=.ok (.agg (zAD (zCC v).1 zAG).toArray) w:=by kernel_rfl
theorem zRe (c:Wpl.Cl) (w:World):(Instr.build 56 #[(0,.int .i64 2),(4,.agg #[.int .i64 c.s,.int .i64 c.r,.int .i64 c.c])]).run prog w=.ok (.agg (zAD (zOT c).1 zAG).toArray) w:=by kernel_rfl
theorem zQf (a:Wpl.Ar) (w:World):(Instr.build 56 #[(0,.int .i64 8),(5,.agg (ar5 a).toArray)]).run prog w=.ok (.agg (zAD (zBr 8 0 a a0I).1 zAG).toArray) w:=by kernel_rfl
theorem zRW (a b:Wpl.Ar) (w:World):(Instr.build 56 #[(0,.int .i64 9),(5,.agg (ar5 a).toArray),(6,.agg (ar5 b).toArray)]).run prog w=.ok (.agg (zAD (zBr 9 0 a b).1 zAG).toArray) w:=by kernel_rfl
theorem zR8 (a:Wpl.Ar) (b:Int) (w:World):(Instr.build 56 #[(0,.int .i64 11),(5,.agg (ar5 a).toArray),(2,.int .i64 b)]).run prog w=.ok (.agg (zAD (zBr 11 b a a0I).1 zAG).toArray) w:=by kernel_rfl
theorem zAc (hgd:op.guard=none) (o:Int) (ho:op.op=.build 56 #[(0,.const (.int .i64 o))])
  (h:wpList prog ops Q rest (a.put op.dst (.agg (zAD (ins o 0 0).1 zAG).toArray)) w):wpList prog ops Q (op::rest) a w:=by
 refine wpList_plain hgd λK hK=>?_
 unfold Oper.wp execOp;have hv:a.eval (.const (.int .i64 o))=.int .i64 o:=rfl;simp only [ho,List.map_toArray,List.map_cons,List.map_nil,hv,Sem.run_bind,Sem.run_pure,Result.andThen_ok,zR3];exact hK _ _ h
theorem zB1 (hgd:op.guard=none) (o:Int) (y:Operand) (ho:op.op=.build 56 #[(0,.const (.int .i64 o)),(1,y)]) (v:Int) (hy:a.eval y=.int .i64 v)
  (h:wpList prog ops Q rest (a.put op.dst (.agg (zAD (ins o v 0).1 zAG).toArray)) w):wpList prog ops Q (op::rest) a w:=by
 refine wpList_plain hgd λK hK=>?_
 unfold Oper.wp execOp;have hv:a.eval (.const (.int .i64 o))=.int .i64 o:=rfl;simp only [ho,List.map_toArray,List.map_cons,List.map_nil,hv,hy,Sem.run_bind,Sem.run_pure,Result.andThen_ok,zRU];exact hK _ _ h
theorem zEm (hgd:op.guard=none) (o:Int) (y z:Operand) (ho:op.op=.build 56 #[(0,.const (.int .i64 o)),(1,y),(2,z)]) (v u:Int) (hy:a.eval y=.int .i64 v) (hz:a.eval z=.int .i64 u)
  (h:wpList prog ops Q rest (a.put op.dst (.agg (zAD (ins o v u).1 zAG).toArray)) w):wpList prog ops Q (op::rest) a w:=by
 refine wpList_plain hgd λK hK=>?_
 unfold Oper.wp execOp;have hv:a.eval (.const (.int .i64 o))=.int .i64 o:=rfl;simp only [ho,List.map_toArray,List.map_cons,List.map_nil,hv,hy,hz,Sem.run_bind,Sem.run_pure,Result.andThen_ok,zRY];exact hK _ _ h
theorem zEw (hgd:op.guard=none) (y:Operand) (ho:op.op=.build 56 #[(0,.const (.int .i64 1)),(3,y)]) (v:Wt.Vl) (hy:a.eval y=.agg (vl6 v).toArray)
  (h:wpList prog ops Q rest (a.put op.dst (.agg (zAD (zCC v).1 zAG).toArray)) w):wpList prog ops Q (op::rest) a w:=by
 refine wpList_plain hgd λK hK=>?_
 unfold Oper.wp execOp;have hv:a.eval (.const (.int .i64 1))=.int .i64 1:=rfl;simp only [ho,List.map_toArray,List.map_cons,List.map_nil,hv,hy,Sem.run_bind,Sem.run_pure,Result.andThen_ok,zRc];exact hK _ _ h
theorem WP.from (hb:Below w.heap.size w w1) {e:Ending} {w':World} (h:WP k B T s0 s1 L lv w1 e w'):WP k B T s0 s1 L lv w e w':=by
 obtain ⟨⟨lv',P',rfl,h1,h2⟩,h3⟩:=h;exact ⟨⟨lv',P',rfl,h1,λj e=>(h2 j e).imp id (Nat.le_trans hb.size)⟩,(Fr.of_below _ hb).trans h3⟩
theorem zEX (k B:Nat) (T:Nat->Nat) (v:Wt.Vl) (s0 s1:Value) (L:List I) (lv:Value) (P:List (Wc.In × Value)) (w:World) (h:WS k B T w s0 s1 L lv P) (hkB:k<B) (hB:B<=w.heap.size) (hl:L.length<=1000000) :
  Calls prog 47 #[.pointer (some ⟨k,0,none⟩),.agg (vl6 v).toArray] w (WP k B T s0 s1 (L++[zCC v]) lv w):=by
 have hb0:=zAJ (Below.refl _ w) (.cells (vl6 v).toArray 31);have pV:=AtL.new0 w 31 (vl6 v);have LA:=zAk k B T (zCC v).1 s0 s1 L lv P _ (h.below hb0) hkB (Nat.le_trans hB hb0.size) hl;have HW:Hid (∀ e w',WP k B T s0 s1 (L++[zCC v]) lv (w.alloc (.cells (vl6 v).toArray 31)) e w'->WP k B T s0 s1 (L++[zCC v]) lv w e w'):=λe w' q=>q.from hb0
 have rV:=pV.range;clear h hkB hB hl hb0 pV;go_enter func47,ntmps47;go_upto_region 1 with fail
 generalize (w.alloc (.cells (vl6 v).toArray 31))=W at *;go_wp2_with (first | (refine zAA (by rfl) 31 (.tmp 3) rfl w.heap.size 0 rfl (vl6 v) _ rV underlying31 rfl (by kernel_rfl) ?_) | (refine zEw rfl (.tmp 5) rfl v rfl ?_))
 refine LA.mono ?_;rintro e w1 h1;have HF:=HW.out e w1 h1;obtain ⟨⟨lv',P',rfl,h2,h3⟩,h4⟩:=HF;clear h1 LA rV;have HR:Hid (WP k B T s0 s1 (L++[zCC v]) lv w (.returned (.tuple #[])) w1):=⟨⟨lv',P',rfl,h2,h3⟩,h4⟩
 clear h2 h3 h4;go_wp2;go_end0
 exact HR.out
theorem zFg (k B:Nat) (T:Nat->Nat) (n:Int) (hn:0<=n/\n<=65536) (s0 s1:Value) (L:List I) (lv:Value) (P:List (Wc.In × Value)) (w:World) (h:WS k B T w s0 s1 L lv P) (hkB:k<B) (hB:B<=w.heap.size) (hl:L.length<=1000000) :
  Calls prog 122 #[.pointer (some ⟨k,0,none⟩),.int .i64 n] w (WP k B T s0 s1 (L++[zCC (zEz n)]) lv w):=by
 have NU:=zKP n 1 w (by omega) (by omega) (by omega) (by omega);have hvn:zPv n 1=zEz n:=by
  have hr:Wnum.rightB n 1=true:=by
   unfold Wnum.rightB;simp;omega
  simp [zPv,zEz,Wnum.cN,Wnum.cD,hr]
 rw [hvn] at NU;have HPU:Hid (∀ w1:World,Below w.heap.size w w1->Calls prog 47 #[.pointer (some ⟨k,0,none⟩),.agg (vl6 (zEz n)).toArray] w1 (WP k B T s0 s1 (L++[zCC (zEz n)]) lv w1)):=λw1 hb=>zEX k B T (zEz n) s0 s1 L lv P w1 (h.below hb) hkB (Nat.le_trans hB hb.size) hl
 clear h hkB hB hl hvn hn;unfold vlV at NU;go_enter func122,ntmps122;go_wp2_with fail
 refine NU.mono ?_;rintro e w1 ⟨rfl,hb1⟩;have PU:=HPU.out w1 hb1;clear NU HPU;generalize zEz n=nv at *;go_wp2_with fail
 refine PU.mono ?_;rintro e w2 h2;have HF:=h2.from hb1
 obtain ⟨⟨lv',P',rfl,h2,h3⟩,h4⟩:=HF;have HR:Hid (WP k B T s0 s1 (L++[zCC nv]) lv w (.returned (.tuple #[])) w2):=⟨⟨lv',P',rfl,h2,h3⟩,h4⟩
 clear h2 h3 h4 PU hb1;go_wp2;go_end0
 exact HR.out
def JP (k B:Nat) (T:Nat->Nat) (s0 s1:Value) (L:List I) (lv:Value) (w:World) (e:Ending) (w':World):Prop :=
 (∃ cl bs lv' P',e=.returned cl/\Cl k w' 157 L.length bs cl/\(∀ b ∈ bs,w.heap.size<=b/\b<w'.heap.size/\¬ lv'.ownBlock=some b)/\WS k B T w' s0 s1 (L++[ins 13 0 0]) lv' P'/\Nx w lv lv')/\Fr (k::lv.ownBlock.toList) w w'
theorem zNE (k B:Nat) (T:Nat->Nat) (s0 s1:Value) (L:List I) (lv:Value) (P:List (Wc.In × Value)) (w:World) (h:WS k B T w s0 s1 L lv P) (hkB:k<B) (hB:B<=w.heap.size) (hl:L.length<=999999) :
  Calls prog 159 #[.pointer (some ⟨k,0,none⟩)] w (JP k B T s0 s1 L lv w):=by
 have LA:=zAk k B T (ins 13 0 0).1 s0 s1 L lv P w h hkB hB (by omega);have HLL:Hid (L.length<=999999):=hl;unfold JP;clear h hkB hB hl;go_enter func159,ntmps159;go_wp2_with (first | (refine zAc rfl 13 rfl ?_))
 refine LA.mono ?_;rintro e w1 ⟨⟨lv1,P1,rfl,ws1,nx1⟩,fr1⟩;have LT:=zCY k B 157 T s0 s1 _ lv1 P1 w1 ws1 (by simp) (by have:=HLL.out;simp;omega);rw [show (L++[((ins 13 0 0).1,([]:List Int))]).length - 1=L.length from by simp] at LT;have HW:Hid (WS k B T w1 s0 s1 (L++[ins 13 0 0]) lv1 P1/\Nx w lv lv1/\Fr (k::lv.ownBlock.toList) w w1):=⟨ws1,nx1,fr1⟩
 clear LA ws1 nx1 fr1;go_wp2_with fail
 refine LT.mono ?_;rintro e w2 ⟨⟨cl,bs,rfl,hcl,hbs⟩,hb2⟩;have hsl:∃ bi bw ba,cl=.func (.func 174) #[] #[.pointer (some ⟨bi,0,none⟩),.pointer (some ⟨bw,0,none⟩),.pointer (some ⟨ba,0,none⟩)]:=by
  obtain ⟨bi,bw,ba,_,e,_⟩:=hcl;exact ⟨bi,bw,ba,e⟩
 have HR:Hid ((∃ bs lv' P',Cl k w2 157 L.length bs cl/\(∀ b ∈ bs,w.heap.size<=b/\b<w2.heap.size/\¬ lv'.ownBlock=some b)/\WS k B T w2 s0 s1 (L++[ins 13 0 0]) lv' P'/\Nx w lv lv')/\Fr (k::lv.ownBlock.toList) w w2):=by
  obtain ⟨q1,q2,q3⟩:=HW.out;refine ⟨⟨bs,lv1,P1,hcl,λb hb=>⟨Nat.le_trans q3.size (hbs b hb).1,(hbs b hb).2,λe=>?_⟩,q1.below hb2,q2⟩,q3.trans (Fr.of_below _ hb2)⟩;have:=(zAN q1.own e).2;have:=(hbs b hb).1;omega
 obtain ⟨bi,bw,ba,rfl⟩:=hsl;clear LT HW hcl hbs hb2;go_wp2;go_ret;obtain ⟨⟨bs,lv',P',r1,r2,r3,r4⟩,r5⟩:=HR.out;exact ⟨⟨_,bs,lv',P',rfl,r1,r2,r3,r4⟩,r5⟩
structure En (own:Int) (nm:List ByteArray) (av2:Option Addr) (m2 cap2 k B:Nat) (T:Nat->Nat) (hi:Nat) (w:World):Prop where
 na:NmAt w
 rs:RdS w av2 nm
 hm:m2=nm.length
 hl:nm.length<=16
 rk:∀ bb off,av2=some ⟨bb,off,none⟩->bb<k
 gk:0<k
 hk:hi<=k
 kB:k<B
 hB:B<=w.heap.size
 tl:∀ i,T i<=w.heap.size
theorem En.fr (h:En own nm av2 m2 cap2 k B T hi w) {S:List Nat} (f:Fr S w w') (hs:∀ j ∈ S,k<=j):En own nm av2 m2 cap2 k B T hi w' :=
 ⟨λj v hv=>f.cell (h.na j v hv) (λhm=>by have:=hs _ hm;have:=h.gk;omega),λi hi'=>by
  obtain ⟨bb,off,e,hc⟩:=h.rs i hi';exact ⟨bb,off,e,f.cell hc (λhm=>by have:=hs _ hm;have:=h.rk bb off e;omega)⟩,h.hm,h.hl,h.rk,h.gk,h.hk,h.kB,Nat.le_trans h.hB f.size,λi=>Nat.le_trans (h.tl i) f.size⟩
theorem En.below (h:En own nm av2 m2 cap2 k B T hi w) (hb:Below w.heap.size w w'):En own nm av2 m2 cap2 k B T hi w':=h.fr (Fr.of_below [] hb) (by simp)
theorem zMK (h:WS k B T w s0 s1 L lv P) (hkB:k<B):∀ j ∈ k::lv.ownBlock.toList,k<=j:=λj hj=>by
 rcases List.mem_cons.1 hj with q | q
 ·omega
 ·have:=(zAN h.own (show lv.ownBlock=some j by simpa using q)).1;omega
theorem zDB {α:Type} (f:α->Nat->List I):∀ (l m:List α) (a:Nat),zA4 f (l++m) a=zA4 f l a++zA4 f m (a+(zA4 f l a).length)
 | [],m,a=>by simp [zA4]
 | x::l,m,a=>by
  simp only [List.cons_append,zA4,zDB f l m,List.append_assoc,List.length_append];rw [Nat.add_assoc]
theorem zC5 {α:Type} (f:α->Nat->List I) (l:List α) (i:Nat) (h:i<l.length) (a:Nat):zA4 f (l.take (i+1)) a=zA4 f (l.take i) a++f l[i] (a+(zA4 f (l.take i) a).length):=by
 rw [List.take_succ_eq_append_getElem h,zDB];simp [zA4]
theorem zE1 {α:Type} (f:α->Nat->List I) (l:List α) (i:Nat) (a:Nat):(zA4 f (l.take i) a).length<=(zA4 f l a).length:=by
 have h:zA4 f l a=zA4 f (l.take i++l.drop i) a:=by rw [List.take_append_drop]
 rw [h,zDB,List.length_append];omega
section
variable (own:Int) (nm:List ByteArray) (av2:Option Addr) (m2 cap2:Nat)
def Wr (n:Nat) (t:Tr n):Prop:=zDJ n t/\zCK own nm n t=0/\isA (hd n t)=false
def PtC (n:Nat):Prop:=∀ (t:Tr n) (sl:Value) (lo hi k B:Nat) (T:Nat->Nat) (w:World) (L:List I) (lv:Value) (P:List (Wc.In × Value)),Wr own nm n t->PA n lo hi w t sl->En own nm av2 m2 cap2 k B T hi w->WS k B T w (.int .i64 own) (.slice av2 m2 cap2) L lv P->L.length+(cod own nm n t L.length).length<=900000 ->
 Calls prog 27 #[.pointer (some ⟨k,0,none⟩),.agg (zAL (hd n t) sl).toArray] w (WP k B T (.int .i64 own) (.slice av2 m2 cap2) (L++cod own nm n t L.length) lv w)
def AlC (n:Nat):Prop:=∀ (ps:List (Tr n × Value)) (av:Option Addr) (m cap lo hi k B:Nat) (T:Nat->Nat) (w:World) (L:List I) (lv:Value) (P:List (Wc.In × Value)),m=ps.length->ps.length<=30->(∀ p ∈ ps,Wr own nm n p.1)->(∀ p ∈ ps,PA n lo hi w p.1 p.2)->RdQ w av (ps.map λp=>(hd n p.1,p.2))->(0<ps.length->∀ bb off,av=some ⟨bb,off,none⟩->∀ j,lv.ownBlock=some j->bb ≠ j)->(0<ps.length->∀ bb off,av=some ⟨bb,off,none⟩->bb ≠ k/\bb<w.heap.size)->En own nm av2 m2 cap2 k B T hi w->WS k B T w (.int .i64 own) (.slice av2 m2 cap2) L lv P->L.length+(zA4 (cod own nm n) (ps.map (·.1)) L.length).length<=900000 ->
 Calls prog 49 #[.pointer (some ⟨k,0,none⟩),.slice av m cap] w (WP k B T (.int .i64 own) (.slice av2 m2 cap2) (L++zA4 (cod own nm n) (ps.map (·.1)) L.length) lv w)
end
theorem zGF (own:Int) (nm:List ByteArray) (av2:Option Addr) (m2 cap2 n:Nat) (ih:PtC own nm av2 m2 cap2 n):AlC own nm av2 m2 cap2 n:=by
 intro ps av m cap lo hi k B T w L lv P hm hl hw hpa hrd hav havk hen hws hbd;have HM:Hid (m=ps.length/\ps.length<=30):=⟨hm,hl⟩
 have HW:Hid (∀ p ∈ ps,Wr own nm n p.1):=hw;have HPA:Hid (∀ p ∈ ps,PA n lo hi w p.1 p.2):=hpa;have HRD:Hid (RdQ w av (ps.map λp=>(hd n p.1,p.2))):=hrd;have HAV:Hid ((0<ps.length->∀ bb off,av=some ⟨bb,off,none⟩->∀ j,lv.ownBlock=some j->bb ≠ j)/\(0<ps.length->∀ bb off,av=some ⟨bb,off,none⟩->bb ≠ k/\bb<w.heap.size)):=⟨hav,havk⟩
 have HEN:Hid (En own nm av2 m2 cap2 k B T hi w):=hen;have HBD:Hid (L.length+(zA4 (cod own nm n) (ps.map (·.1)) L.length).length<=900000):=hbd;have HIH:Hid (PtC own nm av2 m2 cap2 n):=ih;have HGE:Hid (∀ j ∈ k::lv.ownBlock.toList,k<=j):=zMK hws hen.kB;have HW0:Hid (WS k B T w (.int .i64 own) (.slice av2 m2 cap2) (L++zA4 (cod own nm n) ((ps.map (·.1)).take 0) L.length) lv P):=by show WS _ _ _ _ _ _ _ _ _;simpa [zA4] using hws
 obtain ⟨LF,hLF⟩:∃ LF,L++zA4 (cod own nm n) (ps.map (·.1)) L.length=LF:=⟨_,rfl⟩
 rw [hLF];have HLF:Hid (L++zA4 (cod own nm n) (ps.map (·.1)) L.length=LF):=hLF;clear hm hl hw hpa hrd hav havk hen hws hbd ih hLF;go_enter func49,ntmps49;go_wp2_with fail
 go_loopg [5,8] m (λgk u x wr=>∃ (i:Nat),x=.int .i64 (i:Int)/\gk=m - i/\i<=m/\Hid (∃ lvi Pi,WS k B T wr (.int .i64 own) (.slice av2 m2 cap2) (L++zA4 (cod own nm n) ((ps.map (·.1)).take i) L.length) lvi Pi/\Nx w lv lvi)/\Hid (Fr (k::lv.ownBlock.toList) w wr))
 case atStart=>exact ⟨0,rfl,rfl,Nat.zero_le _,⟨lv,P,HW0.out,Nx.refl _ _⟩,Fr.refl _ _⟩
 case round =>
  clear HW0;obtain ⟨i,rfl,hg,him,HS,HF⟩:=hrel;by_cases hlt:i<m
  ·have hli:(i:Int)<(m:Int):=by omega
   have hiz:(0:Int)<=(i:Int):=by omega
   have hwi:IntKind.i64.wrap ((i:Int)+1)=(i:Int)+1:=by have:=HM.out;rw [IntKind.wrap_i64];omega
   have hln:i<ps.length:=by have:=HM.out;omega
   obtain ⟨bb,off,rfl,hr0⟩:=HRD.out i (by simpa using hln);simp only [List.getElem_map] at hr0;have hbn:bb ∉ k::lv.ownBlock.toList:=λhm=>by
    rcases List.mem_cons.1 hm with q | q
    ·exact (HAV.out.2 (by omega) bb off rfl).1 q
    ·exact HAV.out.1 (by omega) bb off rfl bb (by simpa using q) rfl
   have hr:=HF.out.range hr0 hbn;have hpi:=List.getElem_mem hln;have hkp:Kept lo hi w wr:=Kept.of_fr HF.out (λj hj=>by have:=HGE.out j hj;have:=HEN.out.hk;omega);have hpa:=PA.kept hkp n _ _ (HPA.out _ hpi);obtain ⟨sa,sb,sc,hsl⟩:=hpa.slice;have hen:=HEN.out.fr HF.out HGE.out;obtain ⟨lvi,Pi,wsi,nxi⟩:=HS.out;have hstep:=zC5 (cod own nm n) (ps.map (·.1)) i (by simpa using hln) L.length;have hle:=zE1 (cod own nm n) (ps.map (·.1)) (i+1) L.length;rw [hstep,List.length_append,List.getElem_map] at hle;rw [List.getElem_map] at hstep;have PT0:=λ(W:World) (hb:Below wr.heap.size wr W)=>HIH.out (ps[i]).1 (ps[i]).2 lo hi k B T W _ lvi Pi (HW.out _ hpi) (PA.kept (Kept.of_below hb) n _ _ hpa) (hen.below hb) (wsi.below hb) (by rw [List.length_append];have:=HBD.out;omega)
   have hth:World.there (wr.alloc (.cells zeros21 64)) wr.heap.size 0 (zAL (hd n (ps[i]).1) (.slice sa sb sc)).toArray.size:=(AtL.new0 wr _ _:AtL (wr.alloc (.cells zeros21 64)) wr.heap.size zeros21.toList).there;rw [hsl] at PT0 hr;rw [List.length_append] at PT0;have HST:Hid (L++zA4 (cod own nm n) ((ps.map (·.1)).take (i+1)) L.length=(L++zA4 (cod own nm n) ((ps.map (·.1)).take i) L.length)++cod own nm n (ps[i]).1 (L.length+(zA4 (cod own nm n) ((ps.map (·.1)).take i) L.length).length)):=by show _=_;rw [hstep,List.append_assoc]
   obtain ⟨y,hy⟩:∃ y,hd n (ps[i]).1=y:=⟨_,rfl⟩
   rw [hy] at PT0 hr hth;obtain ⟨LN,hLN⟩:∃ LN,(L++zA4 (cod own nm n) ((ps.map (·.1)).take i) L.length)++cod own nm n (ps[i]).1 (L.length+(zA4 (cod own nm n) ((ps.map (·.1)).take i) L.length).length)=LN:=⟨_,rfl⟩
   rw [hLN] at PT0 HST;have HNI:Hid (Nx w lv lvi):=nxi;clear hstep hle hsl hy hLN hpa hkp hr0 hbn hpi hln nxi wsi hen HS;have HPI:Hid (AtL ((wr.alloc (.cells zeros21 64)).setCells wr.heap.size 0 (zAL y (.slice sa sb sc))) wr.heap.size (zAL y (.slice sa sb sc))):=(AtL.new0 wr _ _:AtL (wr.alloc (.cells zeros21 64)) wr.heap.size zeros21.toList).setAll rfl;have hHB:Below wr.heap.size wr ((wr.alloc (.cells zeros21 64)).setCells wr.heap.size 0 (zAL y (.slice sa sb sc))):=zAb (zAJ (Below.refl _ wr) _) (Nat.le_refl _) _ 0;have PT:=PT0 _ hHB;have HHB:Hid (Below wr.heap.size wr ((wr.alloc (.cells zeros21 64)).setCells wr.heap.size 0 (zAL y (.slice sa sb sc)))):=hHB;clear PT0 hHB;go_upto_region 3 with (first | (refine zAA (by rfl) 64 (.tmp 10) rfl bb (off+i * 21) rfl (zAL y (.slice sa sb sc)) _ hr underlying64 rfl (by kernel_rfl) ?_) | ((with_reducible refine wpList_store_mid ?_ 64 (.tmp 5) (.tmp 11) ?_ wr.heap.size 0 (zAL y (.slice sa sb sc)).toArray ?_ ?_ ?_ ?_ ?_ ?_);rfl;rfl;rfl;rfl;exact hth;kernel_rfl;exact zAh _ _ _ _))
   clear hth hr;generalize ((wr.alloc (.cells zeros21 64)).setCells wr.heap.size 0 (zAL y (.slice sa sb sc)))=W2 at *;have rI:=HPI.out.range;go_wp2_with (first | (refine zAA (by rfl) 64 (.tmp 5) rfl wr.heap.size 0 rfl (zAL y (.slice sa sb sc)) _ rI underlying64 rfl (by kernel_rfl) ?_))
   refine PT.mono ?_;rintro e w3 h3;obtain ⟨⟨lv3,P3,rfl,ws3,nx3⟩,fr3⟩:=h3.from HHB.out
   have HS3:Hid (∃ lvi Pi,WS k B T w3 (.int .i64 own) (.slice av2 m2 cap2) (L++zA4 (cod own nm n) ((ps.map (·.1)).take (i+1)) L.length) lvi Pi/\Nx w lv lvi):=by
    rw [HST.out];exact ⟨lv3,P3,ws3,HNI.out.trans nx3 HF.out.size⟩
   have HF3:Hid (Fr (k::lv.ownBlock.toList) w w3):=zKA HF.out fr3 HNI.out;clear PT rI HPI HHB h3 ws3 nx3 fr3 HNI HF HST;go_wp2_with fail
   go_roundg (m - (i+1))
   case rel=>exact ⟨i+1,by simp,rfl,hlt,HS3,HF3⟩
   case measure=>omega
  ·have hli:¬ (i:Int)<(m:Int):=by omega
   have HS2:Hid (∃ lvi Pi,WS k B T wr (.int .i64 own) (.slice av2 m2 cap2) LF lvi Pi/\Nx w lv lvi):=by
    have hie:(ps.map (·.1)).length<=i:=by have:=HM.out;simp;omega
    have:=HS.out;rw [List.take_of_length_le hie,HLF.out] at this;exact this
   have HR:Hid (WP k B T (.int .i64 own) (.slice av2 m2 cap2) LF lv w (.returned (.tuple #[])) wr):=by
    obtain ⟨lvi,Pi,r1,r2⟩:=HS2.out;exact ⟨⟨lvi,Pi,rfl,r1,r2⟩,HF.out⟩
   clear HS HS2;go_wp2;go_end0
   exact HR.out
