/- KTwinW. -/
import Derived.Test.YtefkclbaflkheaaGreatDoorQ29
set_option maxHeartbeats 4000000
set_option maxRecDepth 100000
namespace Go.Proofs.YtefkclbaflkheaaGreatDoor
open Tryz
variable {w:World} {B:Nat} {v:Value}
open Go.RowKit
set_option linter.unusedVariables false
theorem OwnZ.weak {C:Nat} {A:List Int} (h:OwnZ w C v A) (hb:B<=C):OwnZ w B v A:=by
 refine ⟨h.1,?_⟩;rcases h.2 with q | ⟨g,cap,cur,e,h1,r⟩
 ·exact Or.inl q
 ·exact Or.inr ⟨g,cap,cur,e,Nat.le_trans hb h1,r⟩
theorem zFr {n:Nat} {P:List (Wc.In × Value)} {x y:Wc.In × Value} (hn:P.length=n) (h:OwnI w B v (P++[x,y])):∃ G cap,v=.slice (some ⟨G,0,none⟩) (n+2) cap/\n+2<=cap:=by
 rcases h.2 with ⟨_,h0⟩ | ⟨g,cap,cur,e,_,_,hc,_⟩
 ·simp at h0
 ·refine ⟨g,cap,by rw [e];simp [hn],?_⟩;have:(P++[x,y]).length=n+2:=by simp [hn]
  omega
theorem zA1 {k:Nat} (h:k<=2000000):wrap64 (k:Int)=(k:Int)/\IntKind.i64.wrap (k:Int)=(k:Int):=⟨by unfold wrap64;omega,by rw [IntKind.wrap_i64];omega⟩
theorem zId (L:List (Wc.In × List Int)) (v:Value) (w:World) (h:RdC w v L) (hl:L.length<=1000000) (ht:∀ x ∈ L,x.2.length<=1000000) :
  Calls prog 12 #[v] w λe w'=>TwP L w e w'/\Below w.heap.size w w':=by
 obtain ⟨a1,c1,rfl,r1⟩:=h;have HR:Hid (RdC w (.slice a1 L.length c1) L):=⟨a1,c1,rfl,r1⟩
 have HT:Hid (∀ x ∈ L,x.2.length<=1000000):=ht;obtain ⟨n,hn⟩:∃ n,L.length=n:=⟨_,rfl⟩
 have HL:Hid (L.length=n):=hn;have HN:Hid (n<=1000000):=by rw [<-hn];exact hl
 rw [hn];clear r1 ht hn hl;go_enter func12,ntmps12;go_wp2_with fail
 go_loopg [3,4] n (λgk u3 x wr=>∃ (i:Nat) (va:Value) (P:List (Wc.In × Value)),va=u3/\x=.int .i64 i/\gk=n - i/\i<=n/\Hid (OwnI wr w.heap.size va P)/\Hid (Tw wr w.heap.size P (L.take i))/\Hid (Below w.heap.size w wr))
 case atStart=>exact ⟨0,_,[],rfl,rfl,rfl,Nat.zero_le _,OwnI.nil _ _,(trivial:Tw w w.heap.size [] []),Below.refl _ _⟩
 case round =>
  obtain ⟨i,va,P,rfl,rfl,hg,hi,HO,HTW,HB⟩:=hrel;by_cases hlt:i<n
  ·have hli:(i:Int)<(n:Int):=by omega
   have hwi:IntKind.i64.wrap ((i:Int)+1)=(i:Int)+1:=by rw [IntKind.wrap_i64];have:=HN.out;omega
   have hil:i<L.length:=by rw [HL.out];exact hlt
   have H0:=HR.out;rw [HL.out] at H0;obtain ⟨q1,d1,e1,f1⟩:=H0;simp only [Value.slice.injEq] at e1;obtain ⟨ex1,ex2,ex3⟩:=e1;subst ex1;subst ex3;clear ex2;obtain ⟨bb,off,p,mm,kk,rfl,t1w,y1w,hnk⟩:=f1 i hil;obtain ⟨y,tl,hyt⟩:∃ y tl,L[i]=(y,tl):=⟨_,_,rfl⟩
   have htl:=HT.out L[i] (List.getElem_mem _);rw [hyt] at htl t1w y1w;have HTL:Hid (tl.length<=1000000):=htl;have HYT:Hid (L.take (i+1)=L.take i++[(y,tl)]):=by show _=_;rw [List.take_succ_eq_append_getElem hil,hyt]
   have HY:Hid (RdZ w (.slice p mm kk) tl):=y1w;have HMM:Hid (mm=tl.length):=by
    obtain ⟨_,_,e,_⟩:=y1w;simp only [Value.slice.injEq] at e;exact e.2.1
   have HNP:Hid (Np (.slice p mm kk)):=by
    intro l c e;simp only [Value.slice.injEq] at e;obtain ⟨e1,_,e2⟩:=e;rw [<-e2];exact hnk e1
   have HBB:Hid (bb<w.heap.size):=zAV (t1w 0 _ rfl);have hB:=HB.out;have HBR:Hid (w.heap.size<=wr.heap.size):=hB.size;have t1:=zAI hB t1w;have pI0:AtL (wr.alloc (.cells zeros23 56)) wr.heap.size zeros23.toList:=AtL.new0 wr _ _;have hth:World.there (wr.alloc (.cells zeros23 56)) wr.heap.size 0 (zAD y (.slice p mm kk)).toArray.size:=pI0.there;clear pI0 f1 hyt hil hB y1w t1w htl hnk;go_upto_region 6 with (first | (refine zAA (by rfl) 56 (.tmp 14) rfl bb (off+i * 23) rfl (zAD y (.slice p mm kk)) _ t1 underlying56 rfl (by kernel_rfl) ?_) | ((with_reducible refine wpList_store_mid ?_ 56 (.tmp 5) (.tmp 15) ?_ wr.heap.size 0 (zAD y (.slice p mm kk)).toArray ?_ ?_ ?_ ?_ ?_ ?_);rfl;rfl;rfl;rfl;exact hth;kernel_rfl;exact zAZ _ _ _ _))
   have pI0:AtL (wr.alloc (.cells zeros23 56)) wr.heap.size zeros23.toList:=AtL.new0 wr _ _;have pI:AtL ((wr.alloc (.cells zeros23 56)).setCells wr.heap.size 0 (zAD y (.slice p mm kk))) wr.heap.size (zAD y (.slice p mm kk)):=pI0.setAll rfl;have hBw:Below wr.heap.size wr ((wr.alloc (.cells zeros23 56)).setCells wr.heap.size 0 (zAD y (.slice p mm kk))):=zAa (zAK (Below.refl _ wr) _) (Nat.le_refl _) _ 0;have cb:=zAI hBw t1 22 _ rfl;have hC:=hBw;clear pI0 hth t1 hBw;generalize (wr.alloc (.cells zeros23 56)).setCells wr.heap.size 0 (zAD y (.slice p mm kk))=W5 at *;have HK5:Hid (wr.heap.size<W5.heap.size):=pI.1;have HW5:Hid (w.heap.size<=W5.heap.size):=Nat.le_trans HBR.out hC.size;have hbd:=(Below.refl W5.heap.size W5).drew;replace cb:=zAC hbd cb
   replace pI:=AtL.below hbd pI
   replace hC:=zAB hC hbd
   have HSZ:Hid (W5.heap.size<=W5.drew.heap.size):=hbd.size;clear hbd;refine wp_region_held_drew (S:=λW=>W.cell? ⟨bb,off+i * 23+22,none⟩=some (.slice p mm kk)) (by kernel_rfl) cb (λhHeld=>?_);generalize hwd:W5.drew=wd at *;clear hwd;refine tkQ 1 ?_
   refine tkQ 2 ?_
   refine tkQ 3 ?_
   refine tkQ 4 ?_
   refine tkQ 5 ?_
   refine tkQ 9 ?_
   refine tkQ 10 ?_
   refine tkQ 11 ?_
   refine tkQ 12 ?_
   refine tkQ 13 ?_
   refine tkQ 14 ?_
   refine wpAnyH_ready (rs:=[0,7]) (by kernel_rfl) (by simp) ?_;refine AllReadyH.cons (atQ rfl) (λK hK=>?_) (AllReadyH.cons (atQ rfl) (λK hK=>?_) AllReadyH.nil)
   ·have hba:=zAK (Below.refl _ wd) (.cells #[] 3);have ow:OwnZ (wd.alloc (.cells #[] 3)) W5.heap.size (.slice (some ⟨wd.heap.size,0,none⟩) 0 0) []:=⟨rfl,Or.inr ⟨wd.heap.size,0,#[],rfl,HSZ.out,zAq _ _ _ rfl,Nat.le_refl _,Nat.zero_le _,rfl,rfl⟩⟩
    have HG0:Hid (W5.heap.size<=wd.heap.size):=HSZ.out;replace cb:=zAC hba cb
    replace pI:=AtL.below hba pI
    replace hC:=zAB hC hba
    have HSN:Hid (W5.heap.size<=(wd.alloc (.cells #[] 3)).heap.size):=Nat.le_trans HSZ.out hba.size;clear hba HSZ;go_simp
    refine hkQ hK cb (λhHeld=>?_);clear hK K
    obtain ⟨g0,hg0⟩:∃ g,wd.heap.size=g:=⟨_,rfl⟩
    rw [hg0] at ow HG0;simp only [hg0];generalize hgw:(wd.alloc (.cells #[] 3))=wa at *;have HSZ:=HSN;clear hgw HSN;refine wpAnyH_ready (rs:=[6,7]) (by kernel_rfl) (by simp) ?_;refine AllReadyH.cons (atQ rfl) (λK hK=>?_) (AllReadyH.cons (atQ rfl) (λK hK=>?_) AllReadyH.nil)
    ·refine zB3 (.tmp 16) (.tmp 21) rfl wa W5.heap.size HSZ.out (.slice (some ⟨g0,0,none⟩) 0 0) [] rfl ow (.slice p mm kk) tl rfl (HY.out.below (zAB HB.out hC)) HNP.out (by have:=HTL.out;simp;omega) ?_;intro v1 wb own1 hg1;rw [List.nil_append] at own1;have fr1:Fr [g0] wa wb:=Fr.of_grown hg1 (λk e=>by cases e;simp);replace cb:=fr1.cell cb (by have:=HBB.out;have:=HG0.out;have:=HW5.out;simp;omega)
     replace pI:=pI.fr fr1 (by have:=HK5.out;have:=HG0.out;simp;omega)
     replace hC:=zAO hC fr1 (λk hk=>by have:=HG0.out;have:=HK5.out;simp at hk;omega)
     have HSN:Hid (W5.heap.size<=wb.heap.size):=Nat.le_trans HSZ.out fr1.size;clear HSZ ow hg1 fr1;have HSZ:=HSN;clear HSN;refine hkQ hK cb (λhHeld=>?_);clear hK K
     refine rdQ 7 (λK hK=>?_);have hba:=zAK (Below.refl _ wb) (.cells #[.int .i64 771,.int .i64 772] 3);have p7:=AtL.new0 wb 3 [.int .i64 771,.int .i64 772];have HG7:Hid (W5.heap.size<=wb.heap.size):=HSZ.out;replace cb:=zAC hba cb
     replace pI:=AtL.below hba pI
     replace hC:=zAB hC hba
     have HSN:Hid (W5.heap.size<=(wb.alloc (.cells #[.int .i64 771,.int .i64 772] 3)).heap.size):=Nat.le_trans HSZ.out hba.size;have own1x:=own1.below hba;clear hba HSZ;go_simp
     refine hkQ hK cb (λhHeld=>?_);clear hK K
     obtain ⟨k7,hk7⟩:∃ g,wb.heap.size=g:=⟨_,rfl⟩
     replace own1:=own1x
     clear own1x;rw [hk7] at p7 HG7;simp only [hk7];generalize hgw:(wb.alloc (.cells #[.int .i64 771,.int .i64 772] 3))=wq at *;have HSZ:=HSN;clear hgw HSN;refine rdQ 8 (λK hK=>?_);refine zB3 (.tmp 22) (.tmp 23) rfl wq W5.heap.size HSZ.out v1 tl rfl own1 (.slice (some ⟨k7,0,none⟩) 2 2) [771,772] rfl (RdZ.lits (l:=[771,772]) p7) zAd (by have:=HTL.out;simp;omega) ?_;intro v2 w2 own2 hg2;obtain ⟨g2,cap2,ev,hcp⟩:∃ g cap,v2=.slice (some ⟨g,0,none⟩) (tl.length+2) cap/\tl.length+2<=cap:=by
      rcases own2.2 with ⟨_,h0⟩ | ⟨g,cap,cur,e,_,_,hc,_⟩
      ·simp at h0
      ·exact ⟨g,cap,by rw [e];simp,by simpa using hc⟩
     subst ev;have fr2:Fr v1.ownBlock.toList wq w2:=Fr.of_grown hg2 (λk e=>by simp [e]);replace cb:=fr2.cell cb (λe=>by have:=(own1.blk (g:=bb) (by simpa using e)).1;have:=HBB.out;have:=HW5.out;omega)
     replace pI:=pI.fr fr2 (λe=>by have:=(own1.blk (g:=wr.heap.size) (by simpa using e)).1;have:=HK5.out;omega)
     replace hC:=zAO hC fr2 (λk hk=>by have:=(own1.blk (g:=k) (by simpa using hk)).1;have:=HK5.out;omega)
     have HO2:Hid (OwnZ w2 W5.heap.size (.slice (some ⟨g2,0,none⟩) (tl.length+2) cap2) (tl++[771,772])):=own2;have hm2:mm<=cap2:=Nat.le_trans (by rw [HMM.out];exact Nat.le_add_right _ 2) hcp;have hmw:=zA1 (k:=mm) (by rw [HMM.out];exact Nat.le_trans HTL.out (by decide));have hm1:(0:Int)<=(mm:Int):=Int.natCast_nonneg _;have hm3:(mm:Int)<=(cap2:Int):=Int.ofNat_le.2 hm2;have hw1:=hmw.1;have hw2:=hmw.2;clear hmw;clear own1 own2 hg2 fr2 p7 hcp;refine hkQ hK cb (λhHeld=>?_);clear hK K
     refine tkQ 15 ?_
     refine tkQ 16 ?_
     refine rdQ 17 (λK hK=>?_);have o22:=pI.2.1 22 _ rfl;have f22:=pI.2.2 22 (by show 22<23;decide);have cb3:(w2.setCell ⟨wr.heap.size,22,none⟩ (.slice (some ⟨g2,0,none⟩) mm cap2)).cell? ⟨bb,off+i * 23+22,none⟩=some (.slice p mm kk):=by rw [World.cell?_setCell_far _ _ _ _ (by have:=HBB.out;have:=HBR.out;simp;omega)];exact cb
     have HTR:Hid (TwR (w2.setCell ⟨wr.heap.size,22,none⟩ (.slice (some ⟨g2,0,none⟩) mm cap2)) w.heap.size (.slice (some ⟨g2,0,none⟩) mm cap2) tl):=by
      refine ⟨g2,cap2,by rw [HMM.out],OwnZ.weak (zAc (Fr.of_grown (S:=[wr.heap.size]) (zAL _ _ _ _) (λk e=>by cases e;simp)) HO2.out (λg e=>?_)) HW5.out⟩;have hg:g2=g:=by simpa [Value.ownBlock] using e
      have:=(HO2.out.blk (g:=g2) rfl).1;have:=HK5.out;simp;omega
     have pI3:AtL (w2.setCell ⟨wr.heap.size,22,none⟩ (.slice (some ⟨g2,0,none⟩) mm cap2)) wr.heap.size (zAD y (.slice (some ⟨g2,0,none⟩) mm cap2)):=pI.set 22 (.slice (some ⟨g2,0,none⟩) mm cap2);have hC3:Below wr.heap.size wr (w2.setCell ⟨wr.heap.size,22,none⟩ (.slice (some ⟨g2,0,none⟩) mm cap2)):=zAO hC (Fr.of_grown (S:=[wr.heap.size]) (zAL _ _ _ _) (λk e=>by cases e;simp)) (λk hk=>by simp at hk;omega);go_simp
     refine hkQ hK cb3 (λhHeld=>?_);clear hK K
     refine wpAnyH_done (by kernel_rfl) ?_ _;clear hHeld cb cb3 o22 f22 pI hC HO2;generalize (w2.setCell ⟨wr.heap.size,22,none⟩ (.slice (some ⟨g2,0,none⟩) mm cap2))=w3 at *;have rI:=pI3.range;have hba:=zAK (Below.refl _ w3) (.cells (zAD y (.slice (some ⟨g2,0,none⟩) mm cap2)).toArray 56);have HA:Hid (AtL (w3.alloc (.cells (zAD y (.slice (some ⟨g2,0,none⟩) mm cap2)).toArray 56)) w3.heap.size (zA9 [(y,(.slice (some ⟨g2,0,none⟩) mm cap2))])):=by show AtL _ _ (zAD y (.slice (some ⟨g2,0,none⟩) mm cap2)++[]);rw [List.append_nil];exact AtL.new0 w3 56 (zAD y (.slice (some ⟨g2,0,none⟩) mm cap2))
     have HO3:Hid (OwnI (w3.alloc (.cells (zAD y (.slice (some ⟨g2,0,none⟩) mm cap2)).toArray 56)) w.heap.size va P):=(HO.out.below hC3).below hba;have HC4:Hid (Below wr.heap.size wr (w3.alloc (.cells (zAD y (.slice (some ⟨g2,0,none⟩) mm cap2)).toArray 56))):=zAB hC3 hba;have HT3:Hid (Tw (w3.alloc (.cells (zAD y (.slice (some ⟨g2,0,none⟩) mm cap2)).toArray 56)) w.heap.size (P++[(y,(.slice (some ⟨g2,0,none⟩) mm cap2))]) (L.take (i+1))):=by
      show Tw _ _ _ _
      rw [HYT.out];exact Tw.app (HTR.out.below hba) _ _ (Tw.turn (λ_ _ h=>(h.below hC3).below hba) _ _ HTW.out)
     clear hba pI3 hC3 hm1 hm2 hm3 hw1 hw2;go_wp2_with (first | (refine zAA (by rfl) 56 (.tmp 5) rfl wr.heap.size 0 rfl (zAD y (.slice (some ⟨g2,0,none⟩) mm cap2)) _ rI underlying56 rfl (by kernel_rfl) ?_) | (refine zB4 rfl (.tmp 34) rfl y _ _ _ rfl ?_) | (refine zBE rfl (.tmp 33) (.tmp 35) rfl (w3.alloc (.cells (zAD y (.slice (some ⟨g2,0,none⟩) mm cap2)).toArray 56)) w.heap.size (Nat.le_trans HBR.out HC4.out.size) va P rfl HO3.out w3.heap.size 1 [(y,(.slice (some ⟨g2,0,none⟩) mm cap2))] rfl rfl HA.out (λq hq=>by simp at hq;subst hq;exact ⟨_,_,_,rfl⟩) (by have h1:=Tw.len _ _ HTW.out;have:=HN.out;simp at h1;simp;omega) ?_;intro v5 w5 own5 hg5))
     have HO6:Hid (OwnI w5 w.heap.size v5 (P++[(y,(.slice (some ⟨g2,0,none⟩) mm cap2))])):=own5;have HT6:Hid (Tw w5 w.heap.size (P++[(y,(.slice (some ⟨g2,0,none⟩) mm cap2))]) (L.take (i+1))):=Tw.turn (λ_ _ h=>h.app HO3.out hg5) _ _ HT3.out;have HB6:Hid (Below w.heap.size w w5):=zAO (zAB HB.out HC4.out) (Fr.of_grown (S:=va.ownBlock.toList) hg5 (λk e=>by simp [e])) (λk hk=>(zAT HO3.out (g:=k) (by simpa using hk)).1);clear own5 hg5 rI HA HO3 HC4 HT3 HTR;go_roundg (n - (i+1))
     case rel=>exact ⟨i+1,_,_,rfl,by simp,rfl,hlt,HO6,HT6,HB6⟩
     case measure=>omega
    ·have hba:=zAK (Below.refl _ wa) (.cells #[.int .i64 771,.int .i64 772] 3);have p7:=AtL.new0 wa 3 [.int .i64 771,.int .i64 772];have HG7:Hid (W5.heap.size<=wa.heap.size):=HSZ.out;replace cb:=zAC hba cb
     replace pI:=AtL.below hba pI
     replace hC:=zAB hC hba
     have HSN:Hid (W5.heap.size<=(wa.alloc (.cells #[.int .i64 771,.int .i64 772] 3)).heap.size):=Nat.le_trans HSZ.out hba.size;have owx:=ow.below hba;have HGK:Hid (g0<wa.heap.size):=(ow.blk (g:=g0) rfl).2;clear hba HSZ;go_simp
     refine hkQ hK cb (λhHeld=>?_);clear hK K
     obtain ⟨k7,hk7⟩:∃ g,wa.heap.size=g:=⟨_,rfl⟩
     replace ow:=owx
     clear owx;rw [hk7] at HGK;rw [hk7] at p7 HG7;simp only [hk7];generalize hgw:(wa.alloc (.cells #[.int .i64 771,.int .i64 772] 3))=wb at *;have HSZ:=HSN;clear hgw HSN;refine rdQ 6 (λK hK=>?_);refine zB3 (.tmp 16) (.tmp 21) rfl wb W5.heap.size HSZ.out (.slice (some ⟨g0,0,none⟩) 0 0) [] rfl ow (.slice p mm kk) tl rfl (HY.out.below (zAB HB.out hC)) HNP.out (by have:=HTL.out;simp;omega) ?_;intro v1 wq own1 hg1;rw [List.nil_append] at own1;have fr1:Fr [g0] wb wq:=Fr.of_grown hg1 (λk e=>by cases e;simp);replace cb:=fr1.cell cb (by have:=HBB.out;have:=HG0.out;have:=HW5.out;simp;omega)
     replace pI:=pI.fr fr1 (by have:=HK5.out;have:=HG0.out;simp;omega)
     replace hC:=zAO hC fr1 (λk hk=>by have:=HG0.out;have:=HK5.out;simp at hk;omega)
     have HSN:Hid (W5.heap.size<=wq.heap.size):=Nat.le_trans HSZ.out fr1.size;replace p7:=p7.fr fr1 (by have:=HGK.out;simp;omega)
     clear HSZ ow hg1 fr1;have HSZ:=HSN;clear HSN;refine hkQ hK cb (λhHeld=>?_);clear hK K
     refine rdQ 8 (λK hK=>?_);refine zB3 (.tmp 22) (.tmp 23) rfl wq W5.heap.size HSZ.out v1 tl rfl own1 (.slice (some ⟨k7,0,none⟩) 2 2) [771,772] rfl (RdZ.lits (l:=[771,772]) p7) zAd (by have:=HTL.out;simp;omega) ?_;intro v2 w2 own2 hg2;obtain ⟨g2,cap2,ev,hcp⟩:∃ g cap,v2=.slice (some ⟨g,0,none⟩) (tl.length+2) cap/\tl.length+2<=cap:=by
      rcases own2.2 with ⟨_,h0⟩ | ⟨g,cap,cur,e,_,_,hc,_⟩
      ·simp at h0
      ·exact ⟨g,cap,by rw [e];simp,by simpa using hc⟩
     subst ev;have fr2:Fr v1.ownBlock.toList wq w2:=Fr.of_grown hg2 (λk e=>by simp [e]);replace cb:=fr2.cell cb (λe=>by have:=(own1.blk (g:=bb) (by simpa using e)).1;have:=HBB.out;have:=HW5.out;omega)
     replace pI:=pI.fr fr2 (λe=>by have:=(own1.blk (g:=wr.heap.size) (by simpa using e)).1;have:=HK5.out;omega)
     replace hC:=zAO hC fr2 (λk hk=>by have:=(own1.blk (g:=k) (by simpa using hk)).1;have:=HK5.out;omega)
     have HO2:Hid (OwnZ w2 W5.heap.size (.slice (some ⟨g2,0,none⟩) (tl.length+2) cap2) (tl++[771,772])):=own2;have hm2:mm<=cap2:=Nat.le_trans (by rw [HMM.out];exact Nat.le_add_right _ 2) hcp;have hmw:=zA1 (k:=mm) (by rw [HMM.out];exact Nat.le_trans HTL.out (by decide));have hm1:(0:Int)<=(mm:Int):=Int.natCast_nonneg _;have hm3:(mm:Int)<=(cap2:Int):=Int.ofNat_le.2 hm2;have hw1:=hmw.1;have hw2:=hmw.2;clear hmw;clear own1 own2 hg2 fr2 p7 hcp;refine hkQ hK cb (λhHeld=>?_);clear hK K
     refine tkQ 15 ?_
     refine tkQ 16 ?_
     refine rdQ 17 (λK hK=>?_);have o22:=pI.2.1 22 _ rfl;have f22:=pI.2.2 22 (by show 22<23;decide);have cb3:(w2.setCell ⟨wr.heap.size,22,none⟩ (.slice (some ⟨g2,0,none⟩) mm cap2)).cell? ⟨bb,off+i * 23+22,none⟩=some (.slice p mm kk):=by rw [World.cell?_setCell_far _ _ _ _ (by have:=HBB.out;have:=HBR.out;simp;omega)];exact cb
     have HTR:Hid (TwR (w2.setCell ⟨wr.heap.size,22,none⟩ (.slice (some ⟨g2,0,none⟩) mm cap2)) w.heap.size (.slice (some ⟨g2,0,none⟩) mm cap2) tl):=by
      refine ⟨g2,cap2,by rw [HMM.out],OwnZ.weak (zAc (Fr.of_grown (S:=[wr.heap.size]) (zAL _ _ _ _) (λk e=>by cases e;simp)) HO2.out (λg e=>?_)) HW5.out⟩;have hg:g2=g:=by simpa [Value.ownBlock] using e
      have:=(HO2.out.blk (g:=g2) rfl).1;have:=HK5.out;simp;omega
     have pI3:AtL (w2.setCell ⟨wr.heap.size,22,none⟩ (.slice (some ⟨g2,0,none⟩) mm cap2)) wr.heap.size (zAD y (.slice (some ⟨g2,0,none⟩) mm cap2)):=pI.set 22 (.slice (some ⟨g2,0,none⟩) mm cap2);have hC3:Below wr.heap.size wr (w2.setCell ⟨wr.heap.size,22,none⟩ (.slice (some ⟨g2,0,none⟩) mm cap2)):=zAO hC (Fr.of_grown (S:=[wr.heap.size]) (zAL _ _ _ _) (λk e=>by cases e;simp)) (λk hk=>by simp at hk;omega);go_simp
     refine hkQ hK cb3 (λhHeld=>?_);clear hK K
     refine wpAnyH_done (by kernel_rfl) ?_ _;clear hHeld cb cb3 o22 f22 pI hC HO2;generalize (w2.setCell ⟨wr.heap.size,22,none⟩ (.slice (some ⟨g2,0,none⟩) mm cap2))=w3 at *;have rI:=pI3.range;have hba:=zAK (Below.refl _ w3) (.cells (zAD y (.slice (some ⟨g2,0,none⟩) mm cap2)).toArray 56);have HA:Hid (AtL (w3.alloc (.cells (zAD y (.slice (some ⟨g2,0,none⟩) mm cap2)).toArray 56)) w3.heap.size (zA9 [(y,(.slice (some ⟨g2,0,none⟩) mm cap2))])):=by show AtL _ _ (zAD y (.slice (some ⟨g2,0,none⟩) mm cap2)++[]);rw [List.append_nil];exact AtL.new0 w3 56 (zAD y (.slice (some ⟨g2,0,none⟩) mm cap2))
     have HO3:Hid (OwnI (w3.alloc (.cells (zAD y (.slice (some ⟨g2,0,none⟩) mm cap2)).toArray 56)) w.heap.size va P):=(HO.out.below hC3).below hba;have HC4:Hid (Below wr.heap.size wr (w3.alloc (.cells (zAD y (.slice (some ⟨g2,0,none⟩) mm cap2)).toArray 56))):=zAB hC3 hba;have HT3:Hid (Tw (w3.alloc (.cells (zAD y (.slice (some ⟨g2,0,none⟩) mm cap2)).toArray 56)) w.heap.size (P++[(y,(.slice (some ⟨g2,0,none⟩) mm cap2))]) (L.take (i+1))):=by
      show Tw _ _ _ _
      rw [HYT.out];exact Tw.app (HTR.out.below hba) _ _ (Tw.turn (λ_ _ h=>(h.below hC3).below hba) _ _ HTW.out)
     clear hba pI3 hC3 hm1 hm2 hm3 hw1 hw2;go_wp2_with (first | (refine zAA (by rfl) 56 (.tmp 5) rfl wr.heap.size 0 rfl (zAD y (.slice (some ⟨g2,0,none⟩) mm cap2)) _ rI underlying56 rfl (by kernel_rfl) ?_) | (refine zB4 rfl (.tmp 34) rfl y _ _ _ rfl ?_) | (refine zBE rfl (.tmp 33) (.tmp 35) rfl (w3.alloc (.cells (zAD y (.slice (some ⟨g2,0,none⟩) mm cap2)).toArray 56)) w.heap.size (Nat.le_trans HBR.out HC4.out.size) va P rfl HO3.out w3.heap.size 1 [(y,(.slice (some ⟨g2,0,none⟩) mm cap2))] rfl rfl HA.out (λq hq=>by simp at hq;subst hq;exact ⟨_,_,_,rfl⟩) (by have h1:=Tw.len _ _ HTW.out;have:=HN.out;simp at h1;simp;omega) ?_;intro v5 w5 own5 hg5))
     have HO6:Hid (OwnI w5 w.heap.size v5 (P++[(y,(.slice (some ⟨g2,0,none⟩) mm cap2))])):=own5;have HT6:Hid (Tw w5 w.heap.size (P++[(y,(.slice (some ⟨g2,0,none⟩) mm cap2))]) (L.take (i+1))):=Tw.turn (λ_ _ h=>h.app HO3.out hg5) _ _ HT3.out;have HB6:Hid (Below w.heap.size w w5):=zAO (zAB HB.out HC4.out) (Fr.of_grown (S:=va.ownBlock.toList) hg5 (λk e=>by simp [e])) (λk hk=>(zAT HO3.out (g:=k) (by simpa using hk)).1);clear own5 hg5 rI HA HO3 HC4 HT3 HTR;go_roundg (n - (i+1))
     case rel=>exact ⟨i+1,_,_,rfl,by simp,rfl,hlt,HO6,HT6,HB6⟩
     case measure=>omega
   ·have hba:=zAK (Below.refl _ wd) (.cells #[.int .i64 771,.int .i64 772] 3);have p7:=AtL.new0 wd 3 [.int .i64 771,.int .i64 772];have HG7:Hid (W5.heap.size<=wd.heap.size):=HSZ.out;replace cb:=zAC hba cb
    replace pI:=AtL.below hba pI
    replace hC:=zAB hC hba
    have HSN:Hid (W5.heap.size<=(wd.alloc (.cells #[.int .i64 771,.int .i64 772] 3)).heap.size):=Nat.le_trans HSZ.out hba.size;clear hba HSZ;go_simp
    refine hkQ hK cb (λhHeld=>?_);clear hK K
    obtain ⟨k7,hk7⟩:∃ g,wd.heap.size=g:=⟨_,rfl⟩
    rw [hk7] at p7 HG7;simp only [hk7];generalize hgw:(wd.alloc (.cells #[.int .i64 771,.int .i64 772] 3))=wa at *;have HSZ:=HSN;clear hgw HSN;refine rdQ 0 (λK hK=>?_);have hba:=zAK (Below.refl _ wa) (.cells #[] 3);have ow:OwnZ (wa.alloc (.cells #[] 3)) W5.heap.size (.slice (some ⟨wa.heap.size,0,none⟩) 0 0) []:=⟨rfl,Or.inr ⟨wa.heap.size,0,#[],rfl,HSZ.out,zAq _ _ _ rfl,Nat.le_refl _,Nat.zero_le _,rfl,rfl⟩⟩
    have HG0:Hid (W5.heap.size<=wa.heap.size):=HSZ.out;replace cb:=zAC hba cb
    replace pI:=AtL.below hba pI
    replace hC:=zAB hC hba
    have HSN:Hid (W5.heap.size<=(wa.alloc (.cells #[] 3)).heap.size):=Nat.le_trans HSZ.out hba.size;have HGK:Hid (k7<wa.heap.size):=p7.1;replace p7:=AtL.below hba p7
    clear hba HSZ;go_simp
    refine hkQ hK cb (λhHeld=>?_);clear hK K
    obtain ⟨g0,hg0⟩:∃ g,wa.heap.size=g:=⟨_,rfl⟩
    rw [hg0] at ow HG0;rw [hg0] at HGK;simp only [hg0];generalize hgw:(wa.alloc (.cells #[] 3))=wb at *;have HSZ:=HSN;clear hgw HSN;refine rdQ 6 (λK hK=>?_);refine zB3 (.tmp 16) (.tmp 21) rfl wb W5.heap.size HSZ.out (.slice (some ⟨g0,0,none⟩) 0 0) [] rfl ow (.slice p mm kk) tl rfl (HY.out.below (zAB HB.out hC)) HNP.out (by have:=HTL.out;simp;omega) ?_;intro v1 wq own1 hg1;rw [List.nil_append] at own1;have fr1:Fr [g0] wb wq:=Fr.of_grown hg1 (λk e=>by cases e;simp);replace cb:=fr1.cell cb (by have:=HBB.out;have:=HG0.out;have:=HW5.out;simp;omega)
    replace pI:=pI.fr fr1 (by have:=HK5.out;have:=HG0.out;simp;omega)
    replace hC:=zAO hC fr1 (λk hk=>by have:=HG0.out;have:=HK5.out;simp at hk;omega)
    have HSN:Hid (W5.heap.size<=wq.heap.size):=Nat.le_trans HSZ.out fr1.size;replace p7:=p7.fr fr1 (by have:=HGK.out;simp;omega)
    clear HSZ ow hg1 fr1;have HSZ:=HSN;clear HSN;refine hkQ hK cb (λhHeld=>?_);clear hK K
    refine rdQ 8 (λK hK=>?_);refine zB3 (.tmp 22) (.tmp 23) rfl wq W5.heap.size HSZ.out v1 tl rfl own1 (.slice (some ⟨k7,0,none⟩) 2 2) [771,772] rfl (RdZ.lits (l:=[771,772]) p7) zAd (by have:=HTL.out;simp;omega) ?_;intro v2 w2 own2 hg2;obtain ⟨g2,cap2,ev,hcp⟩:∃ g cap,v2=.slice (some ⟨g,0,none⟩) (tl.length+2) cap/\tl.length+2<=cap:=by
     rcases own2.2 with ⟨_,h0⟩ | ⟨g,cap,cur,e,_,_,hc,_⟩
     ·simp at h0
     ·exact ⟨g,cap,by rw [e];simp,by simpa using hc⟩
    subst ev;have fr2:Fr v1.ownBlock.toList wq w2:=Fr.of_grown hg2 (λk e=>by simp [e]);replace cb:=fr2.cell cb (λe=>by have:=(own1.blk (g:=bb) (by simpa using e)).1;have:=HBB.out;have:=HW5.out;omega)
    replace pI:=pI.fr fr2 (λe=>by have:=(own1.blk (g:=wr.heap.size) (by simpa using e)).1;have:=HK5.out;omega)
    replace hC:=zAO hC fr2 (λk hk=>by have:=(own1.blk (g:=k) (by simpa using hk)).1;have:=HK5.out;omega)
    have HO2:Hid (OwnZ w2 W5.heap.size (.slice (some ⟨g2,0,none⟩) (tl.length+2) cap2) (tl++[771,772])):=own2;have hm2:mm<=cap2:=Nat.le_trans (by rw [HMM.out];exact Nat.le_add_right _ 2) hcp;have hmw:=zA1 (k:=mm) (by rw [HMM.out];exact Nat.le_trans HTL.out (by decide));have hm1:(0:Int)<=(mm:Int):=Int.natCast_nonneg _;have hm3:(mm:Int)<=(cap2:Int):=Int.ofNat_le.2 hm2;have hw1:=hmw.1;have hw2:=hmw.2;clear hmw;clear own1 own2 hg2 fr2 p7 hcp;refine hkQ hK cb (λhHeld=>?_);clear hK K
    refine tkQ 15 ?_
    refine tkQ 16 ?_
    refine rdQ 17 (λK hK=>?_);have o22:=pI.2.1 22 _ rfl;have f22:=pI.2.2 22 (by show 22<23;decide);have cb3:(w2.setCell ⟨wr.heap.size,22,none⟩ (.slice (some ⟨g2,0,none⟩) mm cap2)).cell? ⟨bb,off+i * 23+22,none⟩=some (.slice p mm kk):=by rw [World.cell?_setCell_far _ _ _ _ (by have:=HBB.out;have:=HBR.out;simp;omega)];exact cb
    have HTR:Hid (TwR (w2.setCell ⟨wr.heap.size,22,none⟩ (.slice (some ⟨g2,0,none⟩) mm cap2)) w.heap.size (.slice (some ⟨g2,0,none⟩) mm cap2) tl):=by
     refine ⟨g2,cap2,by rw [HMM.out],OwnZ.weak (zAc (Fr.of_grown (S:=[wr.heap.size]) (zAL _ _ _ _) (λk e=>by cases e;simp)) HO2.out (λg e=>?_)) HW5.out⟩;have hg:g2=g:=by simpa [Value.ownBlock] using e
     have:=(HO2.out.blk (g:=g2) rfl).1;have:=HK5.out;simp;omega
    have pI3:AtL (w2.setCell ⟨wr.heap.size,22,none⟩ (.slice (some ⟨g2,0,none⟩) mm cap2)) wr.heap.size (zAD y (.slice (some ⟨g2,0,none⟩) mm cap2)):=pI.set 22 (.slice (some ⟨g2,0,none⟩) mm cap2);have hC3:Below wr.heap.size wr (w2.setCell ⟨wr.heap.size,22,none⟩ (.slice (some ⟨g2,0,none⟩) mm cap2)):=zAO hC (Fr.of_grown (S:=[wr.heap.size]) (zAL _ _ _ _) (λk e=>by cases e;simp)) (λk hk=>by simp at hk;omega);go_simp
    refine hkQ hK cb3 (λhHeld=>?_);clear hK K
    refine wpAnyH_done (by kernel_rfl) ?_ _;clear hHeld cb cb3 o22 f22 pI hC HO2;generalize (w2.setCell ⟨wr.heap.size,22,none⟩ (.slice (some ⟨g2,0,none⟩) mm cap2))=w3 at *;have rI:=pI3.range;have hba:=zAK (Below.refl _ w3) (.cells (zAD y (.slice (some ⟨g2,0,none⟩) mm cap2)).toArray 56);have HA:Hid (AtL (w3.alloc (.cells (zAD y (.slice (some ⟨g2,0,none⟩) mm cap2)).toArray 56)) w3.heap.size (zA9 [(y,(.slice (some ⟨g2,0,none⟩) mm cap2))])):=by show AtL _ _ (zAD y (.slice (some ⟨g2,0,none⟩) mm cap2)++[]);rw [List.append_nil];exact AtL.new0 w3 56 (zAD y (.slice (some ⟨g2,0,none⟩) mm cap2))
    have HO3:Hid (OwnI (w3.alloc (.cells (zAD y (.slice (some ⟨g2,0,none⟩) mm cap2)).toArray 56)) w.heap.size va P):=(HO.out.below hC3).below hba;have HC4:Hid (Below wr.heap.size wr (w3.alloc (.cells (zAD y (.slice (some ⟨g2,0,none⟩) mm cap2)).toArray 56))):=zAB hC3 hba;have HT3:Hid (Tw (w3.alloc (.cells (zAD y (.slice (some ⟨g2,0,none⟩) mm cap2)).toArray 56)) w.heap.size (P++[(y,(.slice (some ⟨g2,0,none⟩) mm cap2))]) (L.take (i+1))):=by
     show Tw _ _ _ _
     rw [HYT.out];exact Tw.app (HTR.out.below hba) _ _ (Tw.turn (λ_ _ h=>(h.below hC3).below hba) _ _ HTW.out)
    clear hba pI3 hC3 hm1 hm2 hm3 hw1 hw2;go_wp2_with (first | (refine zAA (by rfl) 56 (.tmp 5) rfl wr.heap.size 0 rfl (zAD y (.slice (some ⟨g2,0,none⟩) mm cap2)) _ rI underlying56 rfl (by kernel_rfl) ?_) | (refine zB4 rfl (.tmp 34) rfl y _ _ _ rfl ?_) | (refine zBE rfl (.tmp 33) (.tmp 35) rfl (w3.alloc (.cells (zAD y (.slice (some ⟨g2,0,none⟩) mm cap2)).toArray 56)) w.heap.size (Nat.le_trans HBR.out HC4.out.size) va P rfl HO3.out w3.heap.size 1 [(y,(.slice (some ⟨g2,0,none⟩) mm cap2))] rfl rfl HA.out (λq hq=>by simp at hq;subst hq;exact ⟨_,_,_,rfl⟩) (by have h1:=Tw.len _ _ HTW.out;have:=HN.out;simp at h1;simp;omega) ?_;intro v5 w5 own5 hg5))
    have HO6:Hid (OwnI w5 w.heap.size v5 (P++[(y,(.slice (some ⟨g2,0,none⟩) mm cap2))])):=own5;have HT6:Hid (Tw w5 w.heap.size (P++[(y,(.slice (some ⟨g2,0,none⟩) mm cap2))]) (L.take (i+1))):=Tw.turn (λ_ _ h=>h.app HO3.out hg5) _ _ HT3.out;have HB6:Hid (Below w.heap.size w w5):=zAO (zAB HB.out HC4.out) (Fr.of_grown (S:=va.ownBlock.toList) hg5 (λk e=>by simp [e])) (λk hk=>(zAT HO3.out (g:=k) (by simpa using hk)).1);clear own5 hg5 rI HA HO3 HC4 HT3 HTR;go_roundg (n - (i+1))
    case rel=>exact ⟨i+1,_,_,rfl,by simp,rfl,hlt,HO6,HT6,HB6⟩
    case measure=>omega
  ·have hli:¬ (i:Int)<(n:Int):=by omega
   have hin:i=n:=by omega
   subst hin;have hTW:Tw wr w.heap.size P L:=by have:=HTW.out;rwa [List.take_of_length_le (by rw [HL.out];exact Nat.le_refl _)] at this
   have HPL:Hid (P.length=i):=by rw [<-HL.out];exact Tw.len _ _ hTW
   have hba:=zAK (Below.refl _ wr) (.cells (zA9 [(zAE 771,zAG),(zAE 772,zAG)]).toArray 56);have HA:Hid (AtL (wr.alloc (.cells (zA9 [(zAE 771,zAG),(zAE 772,zAG)]).toArray 56)) wr.heap.size (zA9 [(zAE 771,zAG),(zAE 772,zAG)])):=AtL.new0 wr 56 _;have HO3:Hid (OwnI (wr.alloc (.cells (zA9 [(zAE 771,zAG),(zAE 772,zAG)]).toArray 56)) w.heap.size va P):=HO.out.below hba;have HT3:Hid (Tw (wr.alloc (.cells (zA9 [(zAE 771,zAG),(zAE 772,zAG)]).toArray 56)) w.heap.size P L):=Tw.turn (λ_ _ h=>h.below hba) _ _ hTW;have HB3:Hid (Below w.heap.size w (wr.alloc (.cells (zA9 [(zAE 771,zAG),(zAE 772,zAG)]).toArray 56))):=zAB HB.out hba;have hsz:w.heap.size<=(wr.alloc (.cells (zA9 [(zAE 771,zAG),(zAE 772,zAG)]).toArray 56)).heap.size:=HB3.out.size;have HSZ:Hid _:=hsz;have hmw:=zA1 (k:=i) (Nat.le_trans HN.out (by decide));have hw1:=hmw.1;have hw2:=hmw.2;have hm1:(0:Int)<=(i:Int):=Int.natCast_nonneg _;clear hba hTW hsz hmw HO HTW HB;go_wp2_with (first | (refine zAH rfl 56 _ rfl (.int .i64 771) rfl (zAD (zAE 771) zAG) (by kernel_rfl) ?_) | (refine zAH rfl 56 _ rfl (.int .i64 772) rfl (zAD (zAE 772) zAG) (by kernel_rfl) ?_) | (refine zDb rfl (.tmp 38) (.tmp 39) rfl (zAE 771) (zAE 772) rfl rfl ?_) | (refine zBE rfl (.tmp 37) (.tmp 40) rfl (wr.alloc (.cells (zA9 [(zAE 771,zAG),(zAE 772,zAG)]).toArray 56)) w.heap.size HSZ.out va P rfl HO3.out wr.heap.size 2 [(zAE 771,zAG),(zAE 772,zAG)] rfl rfl HA.out (λq hq=>by simp at hq;rcases hq with rfl | rfl <;> exact ⟨_,_,_,rfl⟩) (by have:=HPL.out;have:=HN.out;simp;omega) ?_;intro v5 w5 own5 hg5;obtain ⟨G,cap,ev,hcp⟩:=zFr HPL.out own5;subst ev;have HO5:Hid _:=own5;have hm2:i<=cap:=Nat.le_trans (Nat.le_add_right _ 2) hcp;have hm3:(i:Int)<=(cap:Int):=Int.ofNat_le.2 hm2;have HT5:Hid (Tw w5 w.heap.size P L):=Tw.turn (λ_ _ h=>h.app HO3.out hg5) _ _ HT3.out;have HB5:Hid (Below w.heap.size w w5):=zAO HB3.out (Fr.of_grown (S:=va.ownBlock.toList) hg5 (λk e=>by simp [e])) (λk hk=>(zAT HO3.out (g:=k) (by simpa using hk)).1);clear own5 hg5 hcp))
   go_ret;refine ⟨⟨G,cap,w.heap.size,P,?_,Nat.le_refl _,?_,HT5.out⟩,HB5.out⟩
   ·rw [HL.out];first
    | rfl
    | simp [hw1]
   ·rw [HL.out];exact HO5.out
