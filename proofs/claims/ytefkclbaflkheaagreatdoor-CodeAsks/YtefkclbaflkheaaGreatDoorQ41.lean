/- KRBnd. -/
import Derived.Test.YtefkclbaflkheaaGreatDoorQ40
set_option maxHeartbeats 8000000
set_option maxRecDepth 100000
namespace Go.Proofs.YtefkclbaflkheaaGreatDoor
open Tryz
open Go.RowKit
set_option linter.unusedVariables false
theorem zLR (x:Wc.In) (tl:List Int) (i j:Int) (h:j ∈ aP x tl i):j ∈ (onw x.op x.a x.b tl i).1 \/ j ∈ (onw x.op x.a x.b tl i).2:=by
 by_cases h12:x.op=12
 ·simp [onw,aP,Wc.ahd,h12] at h ⊢;omega
 by_cases h13:x.op=13
 ·simpa [onw,aP,Wc.ahd,h13] using h
 by_cases h14:x.op=14
 ·simp [onw,aP,Wc.ahd,h14] at h ⊢;omega
 by_cases h15:x.op=15
 ·have e2:aP x tl i=tl++[x.b]:=by simp [aP,Wc.ahd,h15,Function.comp_def]
  rw [e2] at h;have e1:onw x.op x.a x.b tl i=(tl,[x.b]):=by simp [onw,h15]
  rw [e1];exact List.mem_append.1 h
 by_cases h16:x.op=16
 ·simp [aP,Wc.ahd,h16] at h
 ·simpa [onw,aP,Wc.ahd,h12,h13,h14,h15,h16] using h
theorem zNB {w1 w2 w3:World} {n:Nat} (hb3:Below w2.heap.size w2 w3) (hk2:w1.heap.size<w2.heap.size) (hk3:w2.heap.size<w3.heap.size) (va:∀ j:Nat,j<n->w2.cell? ⟨w1.heap.size,j,none⟩=some (.int .i64 0)) (vz:∀ j:Nat,j<n->w2.frozen? ⟨w1.heap.size,j,none⟩=false) (fa:∀ j:Nat,j<n->w3.cell? ⟨w2.heap.size,j,none⟩=some (.int .i64 0)) (fz:∀ j:Nat,j<n->w3.frozen? ⟨w2.heap.size,j,none⟩=false):AtR w3 w1.heap.size w2.heap.size n (List.replicate n (0,0)) :=
 ⟨by simp,λj hj=>by rw [zD4];exact ⟨zAC hb3 (va j hj),fa j hj⟩,λj hj=>⟨by rw [(Fr.of_below [] hb3).frozen hk2 (by simp)];exact vz j hj,fz j hj⟩,by omega⟩
theorem zDw (L:List (Wc.In × List Int)) (v:Value) (w:World) (h:RdC w v L) (hl:L.length<=1000000) (ht:∀ x ∈ L,x.2.length<=1000000/\Wt.FitV x.1.v) :
  CR 18 #[v] w (.tuple #[.int .i64 (zHL L).1,.int .i64 (zHL L).2]):=by
 have CK:=zCU L v w h hl ht;have hbn:zHL L=if Wc.chkP rgt L=true then bat (bkL (stA L) L.length L.length) 0 else (0,0):=rfl
 have hpl:Wc.chkP rgt L=true->Wc.plcs rgt L.length 0 L=true/\0<L.length:=λq=>by
  unfold Wc.chkP at q;simp only [Bool.and_eq_true,decide_eq_true_eq] at q;exact ⟨q.1,q.2.1⟩
 obtain ⟨B,hB⟩:∃ B,zHL L=B:=⟨_,rfl⟩
 rw [hB] at hbn ⊢;clear hB;obtain ⟨a1,c1,rfl,r1⟩:=h;have HR:Hid (RdC w (.slice a1 L.length c1) L):=⟨a1,c1,rfl,r1⟩
 have HT:Hid (∀ x ∈ L,x.2.length<=1000000):=λx hx=>(ht x hx).1
 clear r1 ht;cases hq:Wc.chkP rgt L with
 | false =>
  rw [hq] at CK hbn;simp only [Bool.false_eq_true,if_false] at CK hbn;subst hbn;have HCK:Hid (CR 14 #[.slice a1 L.length c1] w (.int .i64 85)):=CK;clear CK hpl HR HT hq;go_enter func18,ntmps18;go_wp2_with fail
  refine HCK.out.mono ?_;rintro e w1 ⟨rfl,hb1⟩;go_wp2;go_ret2
  exact ⟨rfl,hb1⟩
 | true =>
  obtain ⟨hp,h0⟩:=hpl hq;rw [hq] at CK hbn;simp only [if_true] at CK hbn;have HPL:Hid (∀ (k:Nat) (hk:k<L.length),Wc.plc rgt L.length k (L[k])=true):=λk hk=>by have:=(Wc.plcs_iff rgt L.length L 0).1 hp k hk;rwa [Nat.zero_add] at this
  have HCK:Hid (CR 14 #[.slice a1 L.length c1] w (.int .i64 0)):=CK;clear CK hpl hp hq;obtain ⟨n,hn⟩:∃ n,L.length=n:=⟨_,rfl⟩
  have HL:Hid (L.length=n):=hn;rw [hn] at hl h0 HR HCK hbn ⊢;have HBN:Hid (B=bat (bkL (stA L) n n) ((0:Nat):Int)):=hbn;have HN:Hid (0<n/\n<=1000000):=⟨h0,hl⟩
  obtain ⟨i0,hi0,hz0,hz1,hz2⟩:=info_parts zC9;have hw0:IntKind.i64.wrap ((n:Int) - 1)=(n:Int) - 1:=by rw [IntKind.wrap_i64];omega
  clear hn hbn;go_enter func18,ntmps18;go_wp2_with fail
  refine HCK.out.mono ?_;rintro e w1 ⟨rfl,hb1⟩;go_upto_region 4 with (refine wpList_make_full w1 rfl (.tmp 13) (.tmp 13) 54 rfl w1.heap.size 3 i0 _ 1 underlying54 hi0 hz0 hz1 .i64 .i64 _ _ n rfl rfl rfl rfl (by rw [hz2];omega) (by unfold maxLen;omega) (Nat.le_refl _) ?_;intro w2 own2 hg2)
  go_upto_region 5 with (refine wpList_make_full w2 rfl (.tmp 16) (.tmp 16) 54 rfl w2.heap.size 3 i0 _ 1 underlying54 hi0 hz0 hz1 .i64 .i64 _ _ n rfl rfl rfl rfl (by rw [hz2];omega) (by unfold maxLen;omega) (Nat.le_refl _) ?_;intro w3 own3 hg3)
  have hb2:Below w1.heap.size w1 w2:=⟨hg2.os,hg2.tape,hg2.output,hg2.size,λk hk=>hg2.block k hk (by simp)⟩
  have hb3:Below w2.heap.size w2 w3:=⟨hg3.os,hg3.tape,hg3.output,hg3.size,λk hk=>hg3.block k hk (by simp)⟩
  have hk2:w1.heap.size<w2.heap.size:=(zAT own2 (g:=w1.heap.size) rfl).2;have hk3:w2.heap.size<w3.heap.size:=(zAT own3 (g:=w2.heap.size) rfl).2;obtain ⟨va,vz⟩:=zGf rfl own2 (Or.inl hk2);obtain ⟨fa,fz⟩:=zGf rfl own3 (Or.inl hk3);have HW0:Hid (AtR w3 w1.heap.size w2.heap.size n (bkL (stA L) n 0)):=zNB hb3 hk2 hk3 va vz fa fz;have HB0:Hid (Below w.heap.size w w3):=zAB (zAB hb1 hb2) hb3;have HAB:Hid (w.heap.size<=w1.heap.size/\w.heap.size<=w2.heap.size):=⟨hb1.size,by have:=hb1.size;omega⟩
  clear hk2 hk3 va vz fa fz own2 own3 hg2 hg3 hi0 hz0 hz1 hz2 i0 hb1 hb2 hb3 HCK;obtain ⟨lb,hlb⟩:∃ b,w1.heap.size=b:=⟨_,rfl⟩
  obtain ⟨mb,hmb⟩:∃ b,w2.heap.size=b:=⟨_,rfl⟩
  rw [hlb,hmb] at HW0 HAB;simp only [hlb,hmb];clear hlb hmb;go_wp2_with fail
  go_loopg [6] n (λgk u wr=>∃ (d:Nat) (z:Int),u=.int .i64 z/\z+1=(d:Int)/\gk=d/\d<=n/\Hid (AtR wr lb mb n (bkL (stA L) n (n - d)))/\Hid (Below w.heap.size w wr))
  case atStart=>exact ⟨n,(n:Int) - 1,rfl,by omega,rfl,Nat.le_refl _,by rw [Nat.sub_self];exact HW0,HB0⟩
  case round =>
   clear HW0 HB0 hw0;obtain ⟨d,z,rfl,hz,hg,hd,HW,HB⟩:=hrel;cases d with
   | zero =>
    obtain rfl:z = -1:=by simp at hz;omega
    have hn0:(0:Int)<(n:Int):=by have:=HN.out;omega
    have hnz:¬ ((n:Int)=0):=by omega
    go_upto_region 22 with fail
    have rb:=(Below.refl wr.heap.size wr).drew;have W1:=HW.out.below rb;have HB1:Hid (Below w.heap.size w wr.drew):=zAB HB.out rb;obtain ⟨s0,s1⟩:=W1.at' 0 HN.out.1;rw [Nat.sub_zero,<-HBN.out] at s0 s1;clear rb HW HB W1;refine wp_region_held_drew (S:=λW=>W.cell? ⟨lb,0,none⟩=some (.int .i64 B.1)/\W.cell? ⟨mb,0,none⟩=some (.int .i64 B.2)) (by kernel_rfl) ⟨s0,s1⟩ (λhHeld=>?_);generalize wr.drew=WD at *;refine tkQ 0 ?_
    refine tkQ 1 ?_
    refine tkQ 2 ?_
    refine tkQ 3 ?_
    refine tkQ 4 ?_
    refine tkQ 5 ?_
    refine rdQ 6 (λK hK=>?_);go_simp
    refine hkQ hK (⟨s0,s1⟩) (λhHeld=>?_);clear hK K
    refine rdQ 7 (λK hK=>?_);go_simp
    refine hkQ hK (⟨s0,s1⟩) (λhHeld=>?_);clear hK K
    refine wpAnyH_done (by kernel_rfl) ?_ _;clear hHeld s0 s1;go_wp2;go_ret2
    exact ⟨rfl,HB1.out⟩
   | succ i =>
    obtain rfl:z=(i:Int):=by omega
    have hiz:(0:Int)<=(i:Int):=by omega
    have hin:(i:Int)<(n:Int):=by omega
    have hwi:IntKind.i64.wrap ((i:Int) - 1)=(i:Int) - 1:=by rw [IntKind.wrap_i64];have:=HN.out;omega
    have hil:i<L.length:=by rw [HL.out];omega
    have H0:=HR.out.below HB.out;have AH:=zDC L (.slice a1 n c1) wr H0 i hil (by rw [HL.out];exact HN.out.2) HT.out;obtain ⟨q1,d1,e1,f1⟩:=id HR.out;simp only [Value.slice.injEq] at e1;obtain ⟨ex1,ex2,ex3⟩:=e1;obtain ⟨bb,off,p,mm,kk,ee,t1,t2,t3⟩:=f1 i hil;rw [ee] at ex1;subst ex1;have HBW:Hid (bb<w.heap.size):=zAV (t1 0 _ rfl);replace t1:=zAI HB.out t1
    have HNX:=zFY L HL.out (by omega:i<n);have HPI:=(Wc.plc_iff rgt L.length i (L[i])).1 (HPL.out i hil);have HTI:=HT.out (L[i]) (List.getElem_mem hil);obtain ⟨y,tl,hyt⟩:∃ y tl,L[i]=(y,tl):=⟨_,_,rfl⟩
    simp only [hyt] at t1 HNX HPI HTI AH;obtain ⟨D,hD⟩:∃ D,bkL (stA L) n (n - (i+1))=D:=⟨_,rfl⟩
    have HIV:Hid (BInv (n - (i+1)) D):=by rw [<-hD];exact zC3 L HL.out (n - (i+1)) (by omega)
    have HZ:bat D (i:Int)=(0,0):=by rw [<-hD];exact zET _ _ _ _ (by omega)
    rw [hD] at HW HNX;have hle:=zGh y tl i;have HRG:∀ j ∈ aP y tl i,(i:Int)<j/\j<(n:Int):=λj hj=>by
     have h1:=HL.out;have h2:=zLR y tl i j hj;rcases h2 with h2 | h2
     ·have:=HPI.2.2.1 j h2;omega
     ·have:=HPI.2.2.2 j h2;omega
    obtain ⟨nx,hnx⟩:∃ l,aP y tl i=l:=⟨_,rfl⟩
    rw [hnx] at HNX AH HRG hle;have HRG2:Hid (∀ j ∈ nx,(i:Int)<j/\j<(n:Int)):=HRG;obtain ⟨tot,htot⟩:∃ t,zBY D 0 (0,0) nx=t:=⟨_,rfl⟩
    have HTO:Hid (zBY D 0 (0,0) (nx.drop 0)=tot):=htot;have HNX2:Hid (bkL (stA L) n (n - i)=D.set i (tot.1+1,tot.2+lng y)):=by rw [<-htot];exact HNX
    have HTB:Hid (nx.length<=1000003):=by show _<=_;omega
    have HW2:Hid (AtR wr lb mb n (D.set i (0,0))):=HW.out.start (by omega) HZ;have HAH:Hid (Calls prog 40 #[.slice (some ⟨bb,off,none⟩) n c1,.int .i64 (i:Int)] wr λe w'=>HndP nx wr e w'/\Below wr.heap.size wr w'):=AH;clear AH HNX HPI HTI hyt hD HZ hle HRG hnx htot t2 t3 f1 ee ex2 ex3 H0 HW;go_wp2_with fail
    refine HAH.out.mono ?_;rintro e w5 ⟨⟨r5,rfl,z5,n5,g5⟩,hb5⟩;obtain ⟨a5,c5,e5,_⟩:=zBo z5;subst e5;have HW5:Hid (AtR w5 lb mb n (D.set i (0,0))):=HW2.out.below hb5;have HB5:Hid (Below w.heap.size w w5):=zAB HB.out hb5;have HZ5:Hid (RdZ w5 (.slice a5 nx.length c5) nx):=z5;have HI5:Hid (w5.rangeAt bb (off+i * 23) (zAD y (.slice p mm kk))):=zAI hb5 t1;have HG5:Hid (∀ g,(Value.slice a5 nx.length c5).ownBlock=some g->wr.heap.size<=g):=g5;have HLT:Hid (lb<wr.heap.size/\mb<wr.heap.size/\bb<wr.heap.size):=⟨zAV (HW2.out.at' i (by omega)).1,zAV (HW2.out.at' i (by omega)).2,zAV (t1 0 _ rfl)⟩
    clear HAH z5 n5 g5 hb5 t1 HW2 HB;obtain ⟨m,hm⟩:∃ m,nx.length=m:=⟨_,rfl⟩
    have HM:Hid (nx.length=m):=hm;rw [hm] at HZ5 HTB HG5 ⊢;clear hm;go_wp2_with fail
    go_loopg [8] m (λgk u wr2=>∃ (k:Nat) (b1 b2:Int),u=.int .i64 k/\gk=m - k/\k<=m/\Hid (zBY D k (b1,b2) (nx.drop k)=tot)/\Hid (0<=b1/\b1<=((n - (i+1):Nat):Int)/\0<=b2/\b2<=((n - (i+1):Nat):Int) * 33554432)/\Hid (AtR wr2 lb mb n (D.set i (b1,b2)))/\Hid (Fr [lb,mb] w5 wr2))
    case atStart=>exact ⟨0,0,0,rfl,rfl,Nat.zero_le _,HTO,(by show _/\_/\_/\_;omega),HW5,Fr.refl _ _⟩
    case round =>
     clear HTO HW5;obtain ⟨k,b1,b2,rfl,hg2,hk,HT2,HB2,HW,HF⟩:=hrel;by_cases hkm:k<m
     ·have hkl:(k:Int)<(m:Int):=by omega
      have hkz:(0:Int)<=(k:Int):=by omega
      have hwk:IntKind.i64.wrap ((k:Int)+1)=(k:Int)+1:=by rw [IntKind.wrap_i64];have:=HTB.out;omega
      have hkx:k<nx.length:=by rw [HM.out];exact hkm
      obtain ⟨ti,hti⟩:∃ t,nx[k]=t:=⟨_,rfl⟩
      have htr:=HRG2.out ti (hti ▸ List.getElem_mem hkx);obtain ⟨tn,rfl⟩:∃ tn:Nat,ti=(tn:Int):=⟨ti.toNat,by omega⟩
      have htl:(tn:Int)<(n:Int):=htr.2;have htz:(0:Int)<=(tn:Int):=by omega
      have hit:i<tn:=by omega
      have cJ0:∃ bq oq,a5=some ⟨bq,oq,none⟩/\w5.cell? ⟨bq,oq+k,none⟩=some (.int .i64 (tn:Int)):=by
       obtain ⟨y1,y2,y3,y4⟩:=HZ5.out;obtain ⟨y5,y6,y7,y8⟩:=y4 k hkx;simp only [Value.slice.injEq] at y3;rw [hti] at y8;exact ⟨y5,y6,by rw [y3.1];exact y7,y8⟩
      obtain ⟨bq,oq,rfl,ck0⟩:=cJ0;have hbq:=HG5.out bq (by simp [Value.ownBlock]);have hlt:=HLT.out;have hql:bq ≠ lb:=by omega
      have hqm:bq ≠ mb:=by omega
      have hml:mb ≠ lb:=HW.out.ne.symm;have ck:=HF.out.cell ck0 (by simp;exact ⟨hql,hqm⟩);have hDl:D.length=n:=by have:=HW.out.len;simpa using this
      obtain ⟨x0,x1⟩:=HW.out.at' tn (by omega);obtain ⟨y0,y1⟩:=HW.out.at' i (by omega);rw [zBP (by omega),if_neg (by omega)] at x0 x1;rw [zBP (by omega),if_pos rfl] at y0 y1;have HB3:=zGD HIV.out k (tn:Int) HB2.out;have HT3:zBY D k (b1,b2) ((tn:Int)::nx.drop (k+1))=tot:=by rw [<-HT2.out,List.drop_eq_getElem_cons hkx,hti]
      have HT5:zBY D (k+1) ((if k=0 \/ (bat D (tn:Int)).1<b1 then (bat D (tn:Int)).1 else b1),max b2 (bat D (tn:Int)).2) (nx.drop (k+1))=tot:=HT3;obtain ⟨ea,hea⟩:∃ a,(bat D (tn:Int)).1=a:=⟨_,rfl⟩
      obtain ⟨eb,heb⟩:∃ a,(bat D (tn:Int)).2=a:=⟨_,rfl⟩
      rw [hea,heb] at HT5 HB3;rw [hea] at x0;rw [heb] at x1;clear hea heb htr hti HT3 HT2 ck0 hbq hlt hDl hkx HB2;by_cases hk0:k=0
      ·have hkb:((k:Int) == 0)=true:=by simp [hk0]
       rw [if_pos (Or.inl hk0)] at HT5 HB3;have HT4:Hid (zBY D (k+1) (ea,max b2 eb) (nx.drop (k+1))=tot):=HT5;have HB4:Hid (0<=ea/\ea<=((n - (i+1):Nat):Int)/\0<=max b2 eb/\max b2 eb<=((n - (i+1):Nat):Int) * 33554432):=HB3;clear HT5 HB3 hk0;go_upto_region 12 with fail
       have rb:=(Below.refl wr.heap.size wr).drew;have A1:=HW.out.below rb;have F1:Fr [lb,mb] w5 wr.drew:=HF.out.trans (Fr.of_below _ rb);replace ck:=zAC rb ck
       replace x0:=zAC rb x0
       replace x1:=zAC rb x1
       replace y0:=zAC rb y0
       replace y1:=zAC rb y1
       have z0:=(A1.fz i (by omega)).1;clear rb HW HF;refine wp_region_held_drew (S:=λW=>W.cell? ⟨bq,oq+k,none⟩=some (.int .i64 (tn:Int))/\W.cell? ⟨lb,tn,none⟩=some (.int .i64 ea)/\W.cell? ⟨lb,i,none⟩=some (.int .i64 b1)) (by kernel_rfl) ⟨ck,x0,y0⟩ (λhHeld=>?_);generalize wr.drew=WD at *;refine tkQ 0 ?_
       refine tkQ 1 ?_
       refine tkQ 2 ?_
       refine tnQ 3 ?_
       refine tnQ 4 ?_
       refine tnQ 5 ?_
       refine tnQ 6 ?_
       refine tnQ 7 ?_
       refine tnQ 8 ?_
       refine tnQ 9 ?_
       refine tnQ 10 ?_
       refine tnQ 11 ?_
       refine tnQ 12 ?_
       refine tnQ 13 ?_
       refine tnQ 14 ?_
       refine tkQ 15 ?_
       refine wpAnyH_done (by kernel_rfl) ?_ _;clear hHeld;have fr:Fr [lb] WD (WD.setCell ⟨lb,i,none⟩ (.int .i64 ea)):=fr_one;have A3:=A1.setL (i:=i) (by omega) ea;have HF:Hid (Fr [lb,mb] w5 (WD.setCell ⟨lb,i,none⟩ (.int .i64 ea))):=F1.trans (fr.mono (by simp));have ckn:=fr.cell ck (by simpa using hql);have x1n:=fr.cell x1 (by simpa using hml);have y1n:=fr.cell y1 (by simpa using hml);go_upto_region 14 with fail
       clear F1 A1 fr x0 y0 z0 ck x1 y1;generalize (WD.setCell ⟨lb,i,none⟩ (.int .i64 ea))=wr at *;have A1:=A3;have ck:=ckn;have x1:=x1n;have y1:=y1n;clear A3 ckn x1n y1n;have rb:=(Below.refl wr.heap.size wr).drew;have A2:=A1.below rb;have F2:Fr [lb,mb] w5 wr.drew:=HF.out.trans (Fr.of_below _ rb);replace ck:=zAC rb ck
       replace x1:=zAC rb x1
       replace y1:=zAC rb y1
       have z1:=(A2.fz i (by omega)).2;clear rb A1 HF;refine wp_region_held_drew (S:=λW=>W.cell? ⟨bq,oq+k,none⟩=some (.int .i64 (tn:Int))/\W.cell? ⟨mb,tn,none⟩=some (.int .i64 eb)) (by kernel_rfl) ⟨ck,x1⟩ (λhHeld=>?_);generalize wr.drew=WD at *;refine tkQ 0 ?_
       refine tkQ 1 ?_
       refine tkQ 2 ?_
       refine tkQ 3 ?_
       refine tkQ 4 ?_
       refine tkQ 6 ?_
       refine tkQ 7 ?_
       refine tkQ 8 ?_
       refine tkQ 9 ?_
       refine tkQ 10 ?_
       refine tkQ 11 ?_
       refine tkQ 12 ?_
       refine rdQ 5 (λK hK=>?_);go_simp
       refine hkQ hK (⟨ck,x1⟩) (λhHeld=>?_);clear hK K
       refine tkQ 13 ?_
       refine tkQ 14 ?_
       refine rdQ 15 (λK hK=>?_);go_simp
       have fr:Fr [mb] WD (WD.setCell ⟨mb,i,none⟩ (.int .i64 (if b2<eb then eb else b2))):=fr_one;have A5:=A2.setM (i:=i) (by omega) (if b2<eb then eb else b2);replace ck:=fr.cell ck (by simpa using hqm)
       replace x1:(WD.setCell ⟨mb,i,none⟩ (.int .i64 (if b2<eb then eb else b2))).cell? ⟨mb,tn,none⟩=some (.int .i64 eb):=by rw [zAM _ _ _ (by omega)];exact x1
       have HF:Hid (Fr [lb,mb] w5 (WD.setCell ⟨mb,i,none⟩ (.int .i64 (if b2<eb then eb else b2)))):=F2.trans (fr.mono (by simp));refine hkQ hK (⟨ck,x1⟩) (λhHeld=>?_);clear hK K
       refine wpAnyH_done (by kernel_rfl) ?_ _;clear hHeld z1 F2 A2 fr;generalize (WD.setCell ⟨mb,i,none⟩ (.int .i64 (if b2<eb then eb else b2)))=wr at *;have hm2:(if b2<eb then eb else b2)=max b2 eb:=by split <;> omega
       rw [hm2] at A5;simp only [hm2];have HA6:Hid (AtR wr lb mb n (D.set i (ea,max b2 eb))):=A5;clear hm2 A5 x1 y1 ck;generalize max b2 eb=m2 at *;go_wp2_with fail
       go_roundg (m - (k+1))
       case rel=>exact ⟨k+1,ea,m2,by simp,rfl,by omega,HT4,HB4,HA6,HF⟩
       case measure=>omega
      ·have hkb:((k:Int) == 0)=false:=by simp [hk0]
       by_cases hlt:ea<b1
       ·rw [if_pos (Or.inr hlt)] at HT5 HB3;have HT4:Hid (zBY D (k+1) (ea,max b2 eb) (nx.drop (k+1))=tot):=HT5;have HB4:Hid (0<=ea/\ea<=((n - (i+1):Nat):Int)/\0<=max b2 eb/\max b2 eb<=((n - (i+1):Nat):Int) * 33554432):=HB3;clear HT5 HB3 hk0;go_upto_region 12 with fail
        have rb:=(Below.refl wr.heap.size wr).drew;have A1:=HW.out.below rb;have F1:Fr [lb,mb] w5 wr.drew:=HF.out.trans (Fr.of_below _ rb);replace ck:=zAC rb ck
        replace x0:=zAC rb x0
        replace x1:=zAC rb x1
        replace y0:=zAC rb y0
        replace y1:=zAC rb y1
        have z0:=(A1.fz i (by omega)).1;clear rb HW HF;refine wp_region_held_drew (S:=λW=>W.cell? ⟨bq,oq+k,none⟩=some (.int .i64 (tn:Int))/\W.cell? ⟨lb,tn,none⟩=some (.int .i64 ea)/\W.cell? ⟨lb,i,none⟩=some (.int .i64 b1)) (by kernel_rfl) ⟨ck,x0,y0⟩ (λhHeld=>?_);generalize wr.drew=WD at *;refine tkQ 0 ?_
        refine tkQ 1 ?_
        refine tkQ 2 ?_
        refine tkQ 3 ?_
        refine tkQ 4 ?_
        refine tkQ 5 ?_
        refine tkQ 6 ?_
        refine tkQ 7 ?_
        refine tkQ 8 ?_
        refine tkQ 9 ?_
        refine tkQ 10 ?_
        refine tkQ 11 ?_
        refine tkQ 12 ?_
        refine tkQ 13 ?_
        refine tkQ 14 ?_
        refine tkQ 15 ?_
        refine wpAnyH_done (by kernel_rfl) ?_ _;clear hHeld;have fr:Fr [lb] WD (WD.setCell ⟨lb,i,none⟩ (.int .i64 ea)):=fr_one;have A3:=A1.setL (i:=i) (by omega) ea;have HF:Hid (Fr [lb,mb] w5 (WD.setCell ⟨lb,i,none⟩ (.int .i64 ea))):=F1.trans (fr.mono (by simp));have ckn:=fr.cell ck (by simpa using hql);have x1n:=fr.cell x1 (by simpa using hml);have y1n:=fr.cell y1 (by simpa using hml);go_upto_region 14 with fail
        clear F1 A1 fr x0 y0 z0 ck x1 y1;generalize (WD.setCell ⟨lb,i,none⟩ (.int .i64 ea))=wr at *;have A1:=A3;have ck:=ckn;have x1:=x1n;have y1:=y1n;clear A3 ckn x1n y1n;have rb:=(Below.refl wr.heap.size wr).drew;have A2:=A1.below rb;have F2:Fr [lb,mb] w5 wr.drew:=HF.out.trans (Fr.of_below _ rb);replace ck:=zAC rb ck
        replace x1:=zAC rb x1
        replace y1:=zAC rb y1
        have z1:=(A2.fz i (by omega)).2;clear rb A1 HF;refine wp_region_held_drew (S:=λW=>W.cell? ⟨bq,oq+k,none⟩=some (.int .i64 (tn:Int))/\W.cell? ⟨mb,tn,none⟩=some (.int .i64 eb)) (by kernel_rfl) ⟨ck,x1⟩ (λhHeld=>?_);generalize wr.drew=WD at *;refine tkQ 0 ?_
        refine tkQ 1 ?_
        refine tkQ 2 ?_
        refine tkQ 3 ?_
        refine tkQ 4 ?_
        refine tkQ 6 ?_
        refine tkQ 7 ?_
        refine tkQ 8 ?_
        refine tkQ 9 ?_
        refine tkQ 10 ?_
        refine tkQ 11 ?_
        refine tkQ 12 ?_
        refine rdQ 5 (λK hK=>?_);go_simp
        refine hkQ hK (⟨ck,x1⟩) (λhHeld=>?_);clear hK K
        refine tkQ 13 ?_
        refine tkQ 14 ?_
        refine rdQ 15 (λK hK=>?_);go_simp
        have fr:Fr [mb] WD (WD.setCell ⟨mb,i,none⟩ (.int .i64 (if b2<eb then eb else b2))):=fr_one;have A5:=A2.setM (i:=i) (by omega) (if b2<eb then eb else b2);replace ck:=fr.cell ck (by simpa using hqm)
        replace x1:(WD.setCell ⟨mb,i,none⟩ (.int .i64 (if b2<eb then eb else b2))).cell? ⟨mb,tn,none⟩=some (.int .i64 eb):=by rw [zAM _ _ _ (by omega)];exact x1
        have HF:Hid (Fr [lb,mb] w5 (WD.setCell ⟨mb,i,none⟩ (.int .i64 (if b2<eb then eb else b2)))):=F2.trans (fr.mono (by simp));refine hkQ hK (⟨ck,x1⟩) (λhHeld=>?_);clear hK K
        refine wpAnyH_done (by kernel_rfl) ?_ _;clear hHeld z1 F2 A2 fr;generalize (WD.setCell ⟨mb,i,none⟩ (.int .i64 (if b2<eb then eb else b2)))=wr at *;have hm2:(if b2<eb then eb else b2)=max b2 eb:=by split <;> omega
        rw [hm2] at A5;simp only [hm2];have HA6:Hid (AtR wr lb mb n (D.set i (ea,max b2 eb))):=A5;clear hm2 A5 x1 y1 ck;generalize max b2 eb=m2 at *;go_wp2_with fail
        go_roundg (m - (k+1))
        case rel=>exact ⟨k+1,ea,m2,by simp,rfl,by omega,HT4,HB4,HA6,HF⟩
        case measure=>omega
       ·rw [if_neg (by omega)] at HT5 HB3;have HT4:Hid (zBY D (k+1) (b1,max b2 eb) (nx.drop (k+1))=tot):=HT5;have HB4:Hid (0<=b1/\b1<=((n - (i+1):Nat):Int)/\0<=max b2 eb/\max b2 eb<=((n - (i+1):Nat):Int) * 33554432):=HB3;clear HT5 HB3 hk0;go_upto_region 12 with fail
        have rb:=(Below.refl wr.heap.size wr).drew;have A1:=HW.out.below rb;have F1:Fr [lb,mb] w5 wr.drew:=HF.out.trans (Fr.of_below _ rb);replace ck:=zAC rb ck
        replace x0:=zAC rb x0
        replace x1:=zAC rb x1
        replace y0:=zAC rb y0
        replace y1:=zAC rb y1
        have z0:=(A1.fz i (by omega)).1;clear rb HW HF;refine wp_region_held_drew (S:=λW=>W.cell? ⟨bq,oq+k,none⟩=some (.int .i64 (tn:Int))/\W.cell? ⟨lb,tn,none⟩=some (.int .i64 ea)/\W.cell? ⟨lb,i,none⟩=some (.int .i64 b1)) (by kernel_rfl) ⟨ck,x0,y0⟩ (λhHeld=>?_);generalize wr.drew=WD at *;refine tkQ 0 ?_
        refine tkQ 1 ?_
        refine tkQ 2 ?_
        refine tkQ 3 ?_
        refine tkQ 4 ?_
        refine tkQ 5 ?_
        refine tkQ 6 ?_
        refine tkQ 7 ?_
        refine tkQ 8 ?_
        refine tkQ 9 ?_
        refine tkQ 10 ?_
        refine tkQ 11 ?_
        refine tkQ 12 ?_
        refine tkQ 13 ?_
        refine tkQ 14 ?_
        refine tkQ 15 ?_
        refine wpAnyH_done (by kernel_rfl) ?_ _;clear hHeld;have HF:Hid (Fr [lb,mb] w5 WD):=F1;clear x0 y0 z0 F1;go_upto_region 14 with fail
        generalize WD=wr at *;have rb:=(Below.refl wr.heap.size wr).drew;have A2:=A1.below rb;have F2:Fr [lb,mb] w5 wr.drew:=HF.out.trans (Fr.of_below _ rb);replace ck:=zAC rb ck
        replace x1:=zAC rb x1
        replace y1:=zAC rb y1
        have z1:=(A2.fz i (by omega)).2;clear rb A1 HF;refine wp_region_held_drew (S:=λW=>W.cell? ⟨bq,oq+k,none⟩=some (.int .i64 (tn:Int))/\W.cell? ⟨mb,tn,none⟩=some (.int .i64 eb)) (by kernel_rfl) ⟨ck,x1⟩ (λhHeld=>?_);generalize wr.drew=WD at *;refine tkQ 0 ?_
        refine tkQ 1 ?_
        refine tkQ 2 ?_
        refine tkQ 3 ?_
        refine tkQ 4 ?_
        refine tkQ 6 ?_
        refine tkQ 7 ?_
        refine tkQ 8 ?_
        refine tkQ 9 ?_
        refine tkQ 10 ?_
        refine tkQ 11 ?_
        refine tkQ 12 ?_
        refine rdQ 5 (λK hK=>?_);go_simp
        refine hkQ hK (⟨ck,x1⟩) (λhHeld=>?_);clear hK K
        refine tkQ 13 ?_
        refine tkQ 14 ?_
        refine rdQ 15 (λK hK=>?_);go_simp
        have fr:Fr [mb] WD (WD.setCell ⟨mb,i,none⟩ (.int .i64 (if b2<eb then eb else b2))):=fr_one;have A5:=A2.setM (i:=i) (by omega) (if b2<eb then eb else b2);replace ck:=fr.cell ck (by simpa using hqm)
        replace x1:(WD.setCell ⟨mb,i,none⟩ (.int .i64 (if b2<eb then eb else b2))).cell? ⟨mb,tn,none⟩=some (.int .i64 eb):=by rw [zAM _ _ _ (by omega)];exact x1
        have HF:Hid (Fr [lb,mb] w5 (WD.setCell ⟨mb,i,none⟩ (.int .i64 (if b2<eb then eb else b2)))):=F2.trans (fr.mono (by simp));refine hkQ hK (⟨ck,x1⟩) (λhHeld=>?_);clear hK K
        refine wpAnyH_done (by kernel_rfl) ?_ _;clear hHeld z1 F2 A2 fr;generalize (WD.setCell ⟨mb,i,none⟩ (.int .i64 (if b2<eb then eb else b2)))=wr at *;have hm2:(if b2<eb then eb else b2)=max b2 eb:=by split <;> omega
        rw [hm2] at A5;simp only [hm2];have HA6:Hid (AtR wr lb mb n (D.set i (b1,max b2 eb))):=A5;clear hm2 A5 x1 y1 ck;generalize max b2 eb=m2 at *;go_wp2_with fail
        go_roundg (m - (k+1))
        case rel=>exact ⟨k+1,b1,m2,by simp,rfl,by omega,HT4,HB4,HA6,HF⟩
        case measure=>omega
     ·have hkn:¬ ((k:Int)<(m:Int)):=by omega
      have hT:tot=(b1,b2):=by
       have h1:=HT2.out;rw [List.drop_of_length_le (by rw [HM.out];omega)] at h1;exact h1.symm
      have HN3:Hid (bkL (stA L) n (n - i)=D.set i (b1+1,b2+lng y)):=by show _=_;rw [HNX2.out,hT]
      have hw1:IntKind.i64.wrap (b1+1)=b1+1:=by rw [IntKind.wrap_i64];have:=HB2.out;have:=HN.out;omega
      have hlt:=HLT.out;have hbw:=HBW.out;have hab:=HAB.out;have rI:=HF.out.range HI5.out (show bb ∉ [lb,mb] by simp;omega);have cI:=rI 0 _ rfl;rw [Nat.add_zero] at cI;have hDl:D.length=n:=by have:=HW.out.len;simpa using this
      obtain ⟨y0,y1⟩:=HW.out.at' i (by omega);rw [zBP (by omega),if_pos rfl] at y0 y1;have z0:=(HW.out.fz i (by omega)).1;have hml:mb ≠ lb:=HW.out.ne.symm;have fr:Fr [lb] wr (wr.setCell ⟨lb,i,none⟩ (.int .i64 (b1+1))):=fr_one;have A2:=HW.out.setL (i:=i) (by omega) (b1+1);have F2:Fr [lb,mb] w5 (wr.setCell ⟨lb,i,none⟩ (.int .i64 (b1+1))):=HF.out.trans (fr.mono (by simp));have rI2:=fr.range rI (show bb ∉ [lb] by simp;omega);have cI2:=fr.cell cI (show bb ∉ [lb] by simp;omega);have y2:=fr.cell y1 (by simpa using hml);have z2:=(A2.fz i (by omega)).2;have HB3:=HB2.out;clear HT2 HB2 HNX2 hT HI5 HG5 HZ5 HRG2 HTB HM HIV hDl;go_upto_region 16 with fail
      clear rI cI y0 y1 z0 fr HW HF HLT HBW;generalize (wr.setCell ⟨lb,i,none⟩ (.int .i64 (b1+1)))=wr at *;have hsz:=zD5 y.ar.s y.ar.t y.ar.l y.ar.b y.ar.r;have HLN:lng y=if y.op=8 then Wpl.sizeA y.ar.s y.ar.t y.ar.l y.ar.b y.ar.r else if y.op=9 then 2 * Wpl.sizeA y.ar.s y.ar.t y.ar.l y.ar.b y.ar.r else 1:=rfl
      have SZ:=λW=>zFZ y.ar.s y.ar.t y.ar.l y.ar.b y.ar.r W
      obtain ⟨sz,hszz⟩:∃ z,Wpl.sizeA y.ar.s y.ar.t y.ar.l y.ar.b y.ar.r=z:=⟨_,rfl⟩
      rw [hszz] at hsz HLN;simp only [hszz] at SZ;have HSZ:Hid (∀ W:World,Calls prog 41 #[.agg #[.int .i64 y.ar.s,.int .i64 y.ar.t,.int .i64 y.ar.l,.int .i64 y.ar.b,.int .i64 y.ar.r]] W λe w'=>e=.returned (.int .i64 sz)/\Below W.heap.size W w'):=SZ;have hnn:=HN.out;clear SZ hszz;by_cases h8:y.op=8
      ·have h8b:(y.op == 8)=true:=by simp [h8]
       rw [if_pos h8] at HLN;have hw2:IntKind.i64.wrap (b2+sz)=b2+sz:=by rw [IntKind.wrap_i64];omega
       rw [HLN] at HN3;clear h8 HLN hsz HB3 hnn;go_upto_region 19 with fail
       have rb:=(Below.refl wr.heap.size wr).drew;have A3:=A2.below rb;have F3:Fr [lb,mb] w5 wr.drew:=F2.trans (Fr.of_below _ rb);have rI3:=zAI rb rI2;have y3:=zAC rb y2;have sI:wr.drew.rangeAt bb (off+i * 23+12) [.int .i64 y.ar.s,.int .i64 y.ar.t,.int .i64 y.ar.l,.int .i64 y.ar.b,.int .i64 y.ar.r]:=by
        intro j u hu;match j,hu with
        | 0,hu=>cases hu;exact rI3 12 _ rfl
        | 1,hu=>cases hu;exact rI3 13 _ rfl
        | 2,hu=>cases hu;exact rI3 14 _ rfl
        | 3,hu=>cases hu;exact rI3 15 _ rfl
        | 4,hu=>cases hu;exact rI3 16 _ rfl
        | j+5,hu=>simp at hu
       clear rb A2 F2 rI2 y2 z2 cI2 rI3;refine wp_region_held_drew (S:=λW=>W.rangeAt bb (off+i * 23+12) [.int .i64 y.ar.s,.int .i64 y.ar.t,.int .i64 y.ar.l,.int .i64 y.ar.b,.int .i64 y.ar.r]) (by kernel_rfl) sI (λhHeld=>?_);generalize wr.drew=WD at *;refine tkQ 0 ?_
       refine tkQ 1 ?_
       refine tkQ 2 ?_
       refine tkQ 3 ?_
       refine tkQ 4 ?_
       refine tkQ 6 ?_
       refine tkQ 7 ?_
       refine tkQ 8 ?_
       refine tkQ 9 ?_
       refine wpAnyH_take (i:=10) (v:=.agg [.int .i64 y.ar.s,.int .i64 y.ar.t,.int .i64 y.ar.l,.int .i64 y.ar.b,.int .i64 y.ar.r].toArray) (atQ rfl) (by kernel_rfl) (by kernel_rfl) (by kernel_rfl) (λ_ _ _ h=>h) (yieldsIf_load_mid (by rfl) 53 (.tmp 103) rfl bb (off+i * 23+12) rfl [.int .i64 y.ar.s,.int .i64 y.ar.t,.int .i64 y.ar.l,.int .i64 y.ar.b,.int .i64 y.ar.r] _ (λ_ h=>h) underlying53 rfl (by kernel_rfl)) (by assumption) ?_;try simp only [Act.put,lA,lZ,lS]
       refine wpAnyH_ready (rs:=[5,11]) (by kernel_rfl) (by simp) ?_;refine AllReadyH.cons (atQ rfl) (λK hK=>?_) (AllReadyH.cons (atQ rfl) (λK hK=>?_) AllReadyH.nil)
       ·go_simp
        refine hkQ hK (sI) (λhHeld=>?_);clear hK K
        refine rdQ 11 (λK hK=>?_);go_simp
        refine (HSZ.out _).mono ?_;rintro e w6 ⟨rfl,hb6⟩;go_wp2_with fail
        have sI6:=zAI hb6 sI;have y6:=zAC hb6 y3;have A6:=A3.below hb6;have F6:Fr [lb,mb] w5 w6:=F3.trans (Fr.of_below _ hb6);have z6:=(A6.fz i (by omega)).2;refine hkQ hK (sI6) (λhHeld=>?_);clear hK K
        refine tkQ 12 ?_
        refine tkQ 13 ?_
        refine rdQ 14 (λK hK=>?_);go_simp
        have fr:Fr [mb] w6 (w6.setCell ⟨mb,i,none⟩ (.int .i64 (b2+sz))):=fr_one;have A7:=A6.setM (i:=i) (by omega) (b2+sz);have sI7:=fr.range sI6 (show bb ∉ [mb] by simp;omega);have HW7:Hid (AtR (w6.setCell ⟨mb,i,none⟩ (.int .i64 (b2+sz))) lb mb n (bkL (stA L) n (n - i))):=by rw [HN3.out];exact A7
        have HB7:Hid (Below w.heap.size w (w6.setCell ⟨mb,i,none⟩ (.int .i64 (b2+sz)))):=zAO HB5.out (F6.trans (fr.mono (by simp))) (λq hq=>by simp at hq;omega);refine hkQ hK (sI7) (λhHeld=>?_);clear hK K
        refine wpAnyH_done (by kernel_rfl) ?_ _;clear hHeld sI sI6 sI7 A3 A6 A7 F3 F6 fr hb6 y3 y6 z6 HSZ;generalize (w6.setCell ⟨mb,i,none⟩ (.int .i64 (b2+sz)))=wr at *;go_wp2_with fail
        go_roundg i
        case rel=>exact ⟨i,(i:Int) - 1,by simp,by omega,rfl,by omega,HW7,HB7⟩
        case measure=>omega
       ·go_simp
        refine (HSZ.out _).mono ?_;rintro e w6 ⟨rfl,hb6⟩;go_wp2_with fail
        have sI6:=zAI hb6 sI;have y6:=zAC hb6 y3;have A6:=A3.below hb6;have F6:Fr [lb,mb] w5 w6:=F3.trans (Fr.of_below _ hb6);have z6:=(A6.fz i (by omega)).2;refine hkQ hK (sI6) (λhHeld=>?_);clear hK K
        refine rdQ 5 (λK hK=>?_);go_simp
        refine hkQ hK (sI6) (λhHeld=>?_);clear hK K
        refine tkQ 12 ?_
        refine tkQ 13 ?_
        refine rdQ 14 (λK hK=>?_);go_simp
        have fr:Fr [mb] w6 (w6.setCell ⟨mb,i,none⟩ (.int .i64 (b2+sz))):=fr_one;have A7:=A6.setM (i:=i) (by omega) (b2+sz);have sI7:=fr.range sI6 (show bb ∉ [mb] by simp;omega);have HW7:Hid (AtR (w6.setCell ⟨mb,i,none⟩ (.int .i64 (b2+sz))) lb mb n (bkL (stA L) n (n - i))):=by rw [HN3.out];exact A7
        have HB7:Hid (Below w.heap.size w (w6.setCell ⟨mb,i,none⟩ (.int .i64 (b2+sz)))):=zAO HB5.out (F6.trans (fr.mono (by simp))) (λq hq=>by simp at hq;omega);refine hkQ hK (sI7) (λhHeld=>?_);clear hK K
        refine wpAnyH_done (by kernel_rfl) ?_ _;clear hHeld sI sI6 sI7 A3 A6 A7 F3 F6 fr hb6 y3 y6 z6 HSZ;generalize (w6.setCell ⟨mb,i,none⟩ (.int .i64 (b2+sz)))=wr at *;go_wp2_with fail
        go_roundg i
        case rel=>exact ⟨i,(i:Int) - 1,by simp,by omega,rfl,by omega,HW7,HB7⟩
        case measure=>omega
      ·have h8b:(y.op == 8)=false:=by simp [h8]
       rw [if_neg h8] at HLN;by_cases h9:y.op=9
       ·have h9b:(y.op == 9)=true:=by simp [h9]
        rw [if_pos h9] at HLN;have hw2:IntKind.i64.wrap (2 * sz)=2 * sz:=by rw [IntKind.wrap_i64];omega
        have hw3:IntKind.i64.wrap (b2+2 * sz)=b2+2 * sz:=by rw [IntKind.wrap_i64];omega
        rw [HLN] at HN3;clear h8 h9 HLN hsz HB3 hnn;go_upto_region 21 with fail
        have rb:=(Below.refl wr.heap.size wr).drew;have A3:=A2.below rb;have F3:Fr [lb,mb] w5 wr.drew:=F2.trans (Fr.of_below _ rb);have rI3:=zAI rb rI2;have y3:=zAC rb y2;have sI:wr.drew.rangeAt bb (off+i * 23+12) [.int .i64 y.ar.s,.int .i64 y.ar.t,.int .i64 y.ar.l,.int .i64 y.ar.b,.int .i64 y.ar.r]:=by
         intro j u hu;match j,hu with
         | 0,hu=>cases hu;exact rI3 12 _ rfl
         | 1,hu=>cases hu;exact rI3 13 _ rfl
         | 2,hu=>cases hu;exact rI3 14 _ rfl
         | 3,hu=>cases hu;exact rI3 15 _ rfl
         | 4,hu=>cases hu;exact rI3 16 _ rfl
         | j+5,hu=>simp at hu
        clear rb A2 F2 rI2 y2 z2 cI2 rI3;refine wp_region_held_drew (S:=λW=>W.rangeAt bb (off+i * 23+12) [.int .i64 y.ar.s,.int .i64 y.ar.t,.int .i64 y.ar.l,.int .i64 y.ar.b,.int .i64 y.ar.r]) (by kernel_rfl) sI (λhHeld=>?_);generalize wr.drew=WD at *;refine tkQ 0 ?_
        refine tkQ 1 ?_
        refine tkQ 2 ?_
        refine tkQ 3 ?_
        refine tkQ 4 ?_
        refine tkQ 6 ?_
        refine tkQ 7 ?_
        refine tkQ 8 ?_
        refine tkQ 9 ?_
        refine wpAnyH_take (i:=10) (v:=.agg [.int .i64 y.ar.s,.int .i64 y.ar.t,.int .i64 y.ar.l,.int .i64 y.ar.b,.int .i64 y.ar.r].toArray) (atQ rfl) (by kernel_rfl) (by kernel_rfl) (by kernel_rfl) (λ_ _ _ h=>h) (yieldsIf_load_mid (by rfl) 53 (.tmp 119) rfl bb (off+i * 23+12) rfl [.int .i64 y.ar.s,.int .i64 y.ar.t,.int .i64 y.ar.l,.int .i64 y.ar.b,.int .i64 y.ar.r] _ (λ_ h=>h) underlying53 rfl (by kernel_rfl)) (by assumption) ?_;try simp only [Act.put,lA,lZ,lS]
        refine wpAnyH_ready (rs:=[5,11]) (by kernel_rfl) (by simp) ?_;refine AllReadyH.cons (atQ rfl) (λK hK=>?_) (AllReadyH.cons (atQ rfl) (λK hK=>?_) AllReadyH.nil)
        ·go_simp
         refine hkQ hK (sI) (λhHeld=>?_);clear hK K
         refine rdQ 11 (λK hK=>?_);go_simp
         refine (HSZ.out _).mono ?_;rintro e w6 ⟨rfl,hb6⟩;go_wp2_with fail
         have sI6:=zAI hb6 sI;have y6:=zAC hb6 y3;have A6:=A3.below hb6;have F6:Fr [lb,mb] w5 w6:=F3.trans (Fr.of_below _ hb6);have z6:=(A6.fz i (by omega)).2;refine hkQ hK (sI6) (λhHeld=>?_);clear hK K
         refine tkQ 12 ?_
         refine tkQ 13 ?_
         refine tkQ 14 ?_
         refine rdQ 15 (λK hK=>?_);go_simp
         have fr:Fr [mb] w6 (w6.setCell ⟨mb,i,none⟩ (.int .i64 (b2+2 * sz))):=fr_one;have A7:=A6.setM (i:=i) (by omega) (b2+2 * sz);have sI7:=fr.range sI6 (show bb ∉ [mb] by simp;omega);have HW7:Hid (AtR (w6.setCell ⟨mb,i,none⟩ (.int .i64 (b2+2 * sz))) lb mb n (bkL (stA L) n (n - i))):=by rw [HN3.out];exact A7
         have HB7:Hid (Below w.heap.size w (w6.setCell ⟨mb,i,none⟩ (.int .i64 (b2+2 * sz)))):=zAO HB5.out (F6.trans (fr.mono (by simp))) (λq hq=>by simp at hq;omega);refine hkQ hK (sI7) (λhHeld=>?_);clear hK K
         refine wpAnyH_done (by kernel_rfl) ?_ _;clear hHeld sI sI6 sI7 A3 A6 A7 F3 F6 fr hb6 y3 y6 z6 HSZ;generalize (w6.setCell ⟨mb,i,none⟩ (.int .i64 (b2+2 * sz)))=wr at *;go_wp2_with fail
         go_roundg i
         case rel=>exact ⟨i,(i:Int) - 1,by simp,by omega,rfl,by omega,HW7,HB7⟩
         case measure=>omega
        ·go_simp
         refine (HSZ.out _).mono ?_;rintro e w6 ⟨rfl,hb6⟩;go_wp2_with fail
         have sI6:=zAI hb6 sI;have y6:=zAC hb6 y3;have A6:=A3.below hb6;have F6:Fr [lb,mb] w5 w6:=F3.trans (Fr.of_below _ hb6);have z6:=(A6.fz i (by omega)).2;refine hkQ hK (sI6) (λhHeld=>?_);clear hK K
         refine tkQ 12 ?_
         refine rdQ 5 (λK hK=>?_);go_simp
         refine hkQ hK (sI6) (λhHeld=>?_);clear hK K
         refine tkQ 13 ?_
         refine tkQ 14 ?_
         refine rdQ 15 (λK hK=>?_);go_simp
         have fr:Fr [mb] w6 (w6.setCell ⟨mb,i,none⟩ (.int .i64 (b2+2 * sz))):=fr_one;have A7:=A6.setM (i:=i) (by omega) (b2+2 * sz);have sI7:=fr.range sI6 (show bb ∉ [mb] by simp;omega);have HW7:Hid (AtR (w6.setCell ⟨mb,i,none⟩ (.int .i64 (b2+2 * sz))) lb mb n (bkL (stA L) n (n - i))):=by rw [HN3.out];exact A7
         have HB7:Hid (Below w.heap.size w (w6.setCell ⟨mb,i,none⟩ (.int .i64 (b2+2 * sz)))):=zAO HB5.out (F6.trans (fr.mono (by simp))) (λq hq=>by simp at hq;omega);refine hkQ hK (sI7) (λhHeld=>?_);clear hK K
         refine wpAnyH_done (by kernel_rfl) ?_ _;clear hHeld sI sI6 sI7 A3 A6 A7 F3 F6 fr hb6 y3 y6 z6 HSZ;generalize (w6.setCell ⟨mb,i,none⟩ (.int .i64 (b2+2 * sz)))=wr at *;go_wp2_with fail
         go_roundg i
         case rel=>exact ⟨i,(i:Int) - 1,by simp,by omega,rfl,by omega,HW7,HB7⟩
         case measure=>omega
       ·have h9b:(y.op == 9)=false:=by simp [h9]
        rw [if_neg h9] at HLN;have hw2:IntKind.i64.wrap (b2+1)=b2+1:=by rw [IntKind.wrap_i64];omega
        rw [HLN] at HN3;have A5:=A2.setM (i:=i) (by omega) (b2+1);have HW7:Hid (AtR (wr.setCell ⟨mb,i,none⟩ (.int .i64 (b2+1))) lb mb n (bkL (stA L) n (n - i))):=by rw [HN3.out];exact A5
        have HB7:Hid (Below w.heap.size w (wr.setCell ⟨mb,i,none⟩ (.int .i64 (b2+1)))):=zAO HB5.out (F2.trans (fr_one.mono (S:=[mb]) (by simp))) (λq hq=>by simp at hq;omega);clear h8 h9 HLN hsz HB3 hnn A2 A5 F2 rI2 HSZ HB5;go_wp2_with fail
        go_roundg i
        case rel=>exact ⟨i,(i:Int) - 1,by simp,by omega,rfl,by omega,HW7,HB7⟩
        case measure=>omega
