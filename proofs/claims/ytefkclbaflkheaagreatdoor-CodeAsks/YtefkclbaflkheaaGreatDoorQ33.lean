/- KHgt. -/
import Derived.Test.YtefkclbaflkheaaGreatDoorQ32
import Derived.Deep.CutRange
set_option maxHeartbeats 8000000
set_option maxRecDepth 100000
namespace Go.Proofs.YtefkclbaflkheaaGreatDoor
open Tryz
open Go.RowKit
set_option linter.unusedVariables false
theorem zGp (FORM:∀ (x:Wc.In) (p:Option Addr) (m k:Nat) (tl:List Int) (w:World),RdZ w (.slice p m k) tl->tl.length<=1000000->Wt.FitV x.v->CR 67 #[inV x (.slice p m k)] w (.bool (rgt x tl))) (L:List (Wc.In × List Int)) (v:Value) (w:World) (h:RdC w v L) (hl:L.length<=1000000) (ht:∀ x ∈ L,x.2.length<=1000000/\Wt.FitV x.1.v) :
  Calls prog 37 #[v] w λe w'=>(∃ a b,e=.returned (.tuple #[a,b,.bool (Wc.chkR rgt L)]))/\Below w.heap.size w w':=by
 obtain ⟨a1,c1,rfl,r1⟩:=h;have HR:Hid (RdC w (.slice a1 L.length c1) L):=⟨a1,c1,rfl,r1⟩
 have HFO:Hid (∀ (x:Wc.In) (p:Option Addr) (m k:Nat) (tl:List Int) (w:World),RdZ w (.slice p m k) tl->tl.length<=1000000->Wt.FitV x.v->CR 67 #[inV x (.slice p m k)] w (.bool (rgt x tl))):=FORM;have HT:Hid (∀ x ∈ L,x.2.length<=1000000/\Wt.FitV x.1.v):=ht;obtain ⟨n,hn⟩:∃ n,L.length=n:=⟨_,rfl⟩
 have HL:Hid (L.length=n):=hn;obtain ⟨q,hq⟩:∃ q,Wc.chkR rgt L=q:=⟨_,rfl⟩
 have HQ0:Hid (Wc.chkR rgt L=q):=hq;rw [hn] at hl ⊢;rw [hq];have HN:Hid (n<=1000000):=hl;clear ht hq FORM;by_cases h0:n=0
 ·subst h0;have HQF:Hid (q=false):=by
   show q=false
   rw [<-HQ0.out,List.eq_nil_of_length_eq_zero hn];rfl
  clear HR HFO HT HL HN hl r1 hn HQ0;go_enter func37,ntmps37;go_wp2;go_ret3
  exact ⟨⟨.slice none 0 0,.slice none 0 0,by rw [HQF.out];rfl⟩,Below.refl _ _⟩
 ·have hz:(n == 0)=false:=by simp [h0]
  have hnz:¬ (n:Int)=0:=by omega
  have hwn:IntKind.i64.wrap ((n:Int) - 1)=((n - 1:Nat):Int):=by rw [IntKind.wrap_i64];omega
  have hlt1:((n - 1:Nat):Int)<(n:Int):=by omega
  have hlt2:(0:Int)<=((n - 1:Nat):Int):=by omega
  have hpos:0<n:=by omega
  obtain ⟨bb,off,pl,ml,kl,rfl,tL,_,_⟩:=r1 (n - 1) (by omega);obtain ⟨yl,hyl⟩:∃ y,(L[n - 1]'(by omega)).1=y:=⟨_,rfl⟩
  have HLO:=zK1 hn hpos;rw [hyl] at tL;have cl:w.cell? ⟨bb,off+(n - 1) * 23,none⟩=some (.int .i64 yl.op):=by have:=tL 0 _ rfl;simpa using this
  have HQ1:Hid (q=(yl.op == 16 && Wc.runR (Wc.srI rgt n) 0 L (Wc.sR n))):=by show q=_;rw [<-HQ0.out,HLO,hyl]
  clear HLO hyl tL HQ0;rename_i gj1 gj2
  clear gj1 gj2 r1 hn;by_cases h16:yl.op=16
  ·have h16b:(yl.op != 16)=false:=by simp [h16]
   have HQ2:Hid (Wc.runR (Wc.srI rgt n) 0 (L.drop 0) (Wc.sR n)=q):=by show _=q;rw [HQ1.out,h16];rfl
   obtain ⟨i0,hi0,hz0,hz1,hz2⟩:=info_parts zC9;obtain ⟨j0,hj0,jz0,jz1,jz2⟩:=info_parts zKb;obtain ⟨k0,hk0,kz0,kz1,kz2⟩:=info_parts zIl;have HP:Hid (0<n):=hpos;clear HQ1;go_enter func37,ntmps37;go_upto_region 4 with fail
   clear hwn hlt1 hlt2 cl;go_upto_region 5 with (refine wpList_make_full w rfl (.tmp 34) (.tmp 34) 54 rfl w.heap.size 3 i0 _ 1 underlying54 hi0 hz0 hz1 .i64 .i64 _ _ n rfl rfl rfl rfl (by rw [hz2];omega) (by unfold maxLen;omega) (Nat.le_refl _) ?_;intro w2 own2 hg2)
   go_upto_region 6 with (refine wpList_make_full w2 rfl (.tmp 36) (.tmp 36) 81 rfl w2.heap.size 54 j0 _ 1 underlying81 hj0 jz0 jz1 .i64 .i64 _ _ n rfl rfl rfl rfl (by rw [jz2];omega) (by unfold maxLen;omega) (Nat.le_refl _) ?_;intro w3 own3 hg3)
   go_upto_region 7 with (refine wpList_make_full w3 rfl (.tmp 38) (.tmp 38) 136 rfl w3.heap.size 4 k0 _ 1 underlying136 hk0 kz0 kz1 .i64 .i64 _ _ n rfl rfl rfl rfl (by rw [kz2];omega) (by unfold maxLen;omega) (Nat.le_refl _) ?_;intro w4 own4 hg4)
   have hb2:Below w.heap.size w w2:=⟨hg2.os,hg2.tape,hg2.output,hg2.size,λk hk=>hg2.block k hk (by simp)⟩
   have hb3:Below w2.heap.size w2 w3:=⟨hg3.os,hg3.tape,hg3.output,hg3.size,λk hk=>hg3.block k hk (by simp)⟩
   have hb4:Below w3.heap.size w3 w4:=⟨hg4.os,hg4.tape,hg4.output,hg4.size,λk hk=>hg4.block k hk (by simp)⟩
   have hk2:w.heap.size<w2.heap.size:=(zAT own2 (g:=w.heap.size) rfl).2;have hk3:w2.heap.size<w3.heap.size:=(zAT own3 (g:=w2.heap.size) rfl).2;have hk4:w3.heap.size<w4.heap.size:=(zAT own4 (g:=w3.heap.size) rfl).2;obtain ⟨va,vz⟩:=zGf rfl own2 (Or.inl hk2);obtain ⟨fa,fz⟩:=zGf rfl own3 (Or.inl hk3);obtain ⟨ea,ez⟩:=zGf rfl own4 (Or.inl hk4);have hb34:Below w2.heap.size w2 w4:=zAB hb3 hb4;have HG0:Hid (HgS (w4.setCell ⟨w3.heap.size,0,none⟩ (.bool true)) w4.heap.size w.heap.size w2.heap.size w3.heap.size n (Wc.sR n)) :=
    zMv hpos (λj hj=>zAC hb34 (va j hj)) (λj hj=>by rw [(Fr.of_below [] hb34).frozen hk2 (by simp)];exact vz j hj) (λj hj=>zAC hb4 (fa j hj)) (λj hj=>by rw [(Fr.of_below [] hb4).frozen hk3 (by simp)];exact fz j hj) ea ez hk2 hk3 hk4
   have HB0:Hid (Below w.heap.size w (w4.setCell ⟨w3.heap.size,0,none⟩ (.bool true))):=(zAB hb2 hb34).setCell (p:=⟨w3.heap.size,0,none⟩) (by show w.heap.size<=w3.heap.size;omega) _;have e0:=ea 0 hpos;have z0:=ez 0 hpos;have HVB:Hid (w.heap.size<=w.heap.size/\w.heap.size<=w2.heap.size/\w.heap.size<=w3.heap.size):=⟨Nat.le_refl _,by omega,by omega⟩
   clear own2 own3 own4 hg2 hg3 hg4 hb2 hb3 hb4 va vz fa fz ea ez hb34 hi0 hz0 hz1 hz2 hj0 jz0 jz1 jz2 hk0 kz0 kz1 kz2 i0 j0 k0;have hpi:(0:Int)<(n:Int):=by omega
   go_upto_region 8 with fail
   obtain ⟨vb,hvb⟩:∃ b,w.heap.size=b:=⟨_,rfl⟩
   obtain ⟨fb,hfb⟩:∃ b,w2.heap.size=b:=⟨_,rfl⟩
   obtain ⟨eb,heb⟩:∃ b,w3.heap.size=b:=⟨_,rfl⟩
   obtain ⟨BB,hBB⟩:∃ b,w4.heap.size=b:=⟨_,rfl⟩
   have HWV:Hid (w.heap.size=vb):=hvb;generalize (w4.setCell ⟨w3.heap.size,0,none⟩ (.bool true))=w0 at *;rw [hvb,hfb,heb,hBB] at HG0;rw [hvb,hfb,heb] at HVB;simp only [hvb,hfb,heb];clear e0 z0 hk2 hk3 hk4 hBB hfb heb;have HI0:Hid (RInv 0 (Wc.sR n)):=zMK n hpos;go_wp2_with fail
   go_loopg [9] n (λgk x wr=>∃ (i:Nat) (S:Wc.RS),x=.int .i64 i/\gk=n - i/\i<=n/\Hid (Wc.runR (Wc.srI rgt n) i (L.drop i) S=q)/\Hid (HgS wr BB vb fb eb n S)/\Hid (RInv i S)/\Hid (Below w.heap.size w wr))
   case atStart=>exact ⟨0,_,rfl,rfl,Nat.zero_le _,HQ2,HG0,HI0,(by first | exact HB0 | (rw [HWV.out] at HB0 ⊢;exact HB0) | (rw [<-HWV.out] at HB0;exact HB0))⟩
   case round =>
    clear HQ2 HG0 HI0 HB0;obtain ⟨i,S,rfl,hg,hi,HQ,HG,HI,HB⟩:=hrel;by_cases hlt:i<n
    ·have hli:(i:Int)<(n:Int):=by omega
     have hiz:(0:Int)<=(i:Int):=by omega
     have hwi:IntKind.i64.wrap ((i:Int)+1)=(i:Int)+1:=by rw [IntKind.wrap_i64];have:=HN.out;omega
     have hil:i<L.length:=by rw [HL.out];exact hlt
     have hB:=HB.out;have H0:=HR.out;obtain ⟨q1,d1,e1,f1⟩:=H0;simp only [Value.slice.injEq] at e1;obtain ⟨ex1,ex2,ex3⟩:=e1;obtain ⟨b2,o2,p,mm,kk,ee,t1w,y1w,hkn⟩:=f1 i hil;rw [ee] at ex1;cases ex1
     obtain ⟨y,tl,hyt⟩:∃ y tl,L[i]=(y,tl):=⟨_,_,rfl⟩
     have htl:=HT.out L[i] (List.getElem_mem _);rw [hyt] at htl t1w y1w;have HD:Hid (L.drop i=(y,tl)::L.drop (i+1)):=by show _=_;rw [List.drop_eq_getElem_cons hil,hyt]
     have t1:=zAI hB t1w;have HAH:Hid (∀ (W:World) (hb:Below w.heap.size w W),Calls prog 40 #[.slice (some ⟨bb,off,none⟩) n c1,.int .i64 (i:Int)] W λe w'=>HndP (aP y tl i) W e w'/\Below W.heap.size W w'):=by
      intro W hb;have:=zDC L _ W (HR.out.below hb) i hil (by rw [HL.out];exact HN.out) (λx hx=>(HT.out x hx).1);rw [hyt,HL.out] at this;exact this
     have HFO2:Hid (∀ (W:World) (hb:Below w.heap.size w W),Calls prog 67 #[.agg (zAD y (.slice p mm kk)).toArray] W λe w'=>e=.returned (.bool (rgt y tl))/\Below W.heap.size W w'):=λW hb=>HFO.out y p mm kk tl W (y1w.below hb) htl.1 htl.2
     have HTL:Hid (tl.length<=1000000):=htl.1;have hth:World.there (wr.alloc (.cells zeros23 56)) wr.heap.size 0 (zAD y (.slice p mm kk)).toArray.size:=(AtL.new0 wr _ _:AtL (wr.alloc (.cells zeros23 56)) wr.heap.size zeros23.toList).there;clear f1 hyt y1w htl t1w hkn ee ex2 ex3 HFO;go_upto_region 12 with (first | (refine zAA (by rfl) 56 (.tmp 49) rfl bb (off+i * 23) rfl (zAD y (.slice p mm kk)) _ t1 underlying56 rfl (by kernel_rfl) ?_) | ((with_reducible refine wpList_store_mid ?_ 56 (.tmp 10) (.tmp 50) ?_ wr.heap.size 0 (zAD y (.slice p mm kk)).toArray ?_ ?_ ?_ ?_ ?_ ?_);rfl;rfl;rfl;rfl;exact hth;kernel_rfl;exact zAZ _ _ _ _))
     have pI:AtL ((wr.alloc (.cells zeros23 56)).setCells wr.heap.size 0 (zAD y (.slice p mm kk))) wr.heap.size (zAD y (.slice p mm kk)):=(AtL.new0 wr _ _:AtL (wr.alloc (.cells zeros23 56)) wr.heap.size zeros23.toList).setAll rfl;have hb1:Below wr.heap.size wr ((wr.alloc (.cells zeros23 56)).setCells wr.heap.size 0 (zAD y (.slice p mm kk))):=zAa (zAK (Below.refl _ wr) _) (Nat.le_refl _) _ 0;have HG1:Hid (HgS ((wr.alloc (.cells zeros23 56)).setCells wr.heap.size 0 (zAD y (.slice p mm kk))) BB vb fb eb n S):=HG.out.below hb1;replace hB:=zAB hB hb1
     have HXB:Hid (BB<=wr.heap.size):=HG.out.hb;clear hth t1 hb1;generalize ((wr.alloc (.cells zeros23 56)).setCells wr.heap.size 0 (zAD y (.slice p mm kk)))=W1 at *;obtain ⟨X,hX⟩:∃ X,wr.heap.size=X:=⟨_,rfl⟩
     rw [hX] at pI HXB;simp only [hX];have cE:=HG1.out.bn i hlt;cases hgi:S.getD i none with
     | none =>
      rw [hgi] at cE;have cE2:W1.cell? ⟨eb,i,none⟩=some (.bool false):=cE;have HQF:Hid (q=false):=by
       show q=false
       rw [<-HQ.out,HD.out];exact zJD hgi
      go_wp2;go_ret3
      exact ⟨⟨.slice none 0 0,.slice none 0 0,by rw [HQF.out];rfl⟩,by first | exact hB | (rw [<-HWV.out];exact hB)⟩
     | some g0 =>
      obtain ⟨v,f⟩:=g0;rw [hgi] at cE;have cE2:W1.cell? ⟨eb,i,none⟩=some (.bool true):=cE;have HGI0:Hid (S.getD i none=some (v,f)):=hgi;have HIV:Hid (0<=v/\v<=(i:Int)/\f.length<=i):=HI.out i v f hgi;clear cE hgi;have rI:=pI.range;have FO:=HFO2.out W1 hB;obtain ⟨qf,hqf⟩:∃ b,rgt y tl=b:=⟨_,rfl⟩
      have HRG:Hid (rgt y tl=qf):=hqf;rw [hqf] at FO;clear hqf HFO2;go_wp2_with (first | (refine zAA (by rfl) 56 (.tmp 10) rfl X 0 rfl (zAD y (.slice p mm kk)) _ rI underlying56 rfl (by kernel_rfl) ?_))
      refine FO.mono ?_;rintro e w2 ⟨rfl,hb2⟩;have pI2:=AtL.below hb2 pI;have HG2:Hid (HgS w2 BB vb fb eb n S):=HG1.out.below hb2;have hB2:=zAB hB hb2;clear FO rI cE2 HG1 hB pI hb2;cases qf with
      | false =>
       have HQF:Hid (q=false):=by
        show q=false
        rw [<-HQ.out,HD.out];exact zKR HRG.out
       go_wp2;go_ret3
       exact ⟨⟨.slice none 0 0,.slice none 0 0,by rw [HQF.out];rfl⟩,by first | exact hB2 | (rw [<-HWV.out];exact hB2)⟩
      | true =>
       have c0:=pI2.2.1 0 _ rfl;have rI:=pI2.range;have HNO:=zL3 HRG.out;have NE:=λW=>zGY y (.slice p mm kk) W HNO.1
       obtain ⟨nd,hnd⟩:∃ nd,Wc.nds y.op y.b=nd:=⟨_,rfl⟩
       obtain ⟨n1,n2,n3⟩:=nd;have HND:Hid (Wc.nds y.op y.b=(n1,n2,n3)):=hnd;rw [hnd] at HNO NE;simp only at HNO NE;have HNE:Hid (∀ W:World,Calls prog 68 #[.agg (zAD y (.slice p mm kk)).toArray] W λe w'=>e=.returned (.tuple #[.int .i64 n1,.int .i64 n2,.int .i64 n3])/\Below W.heap.size W w'):=NE;have HNO2:Hid _:=HNO.2;clear hnd NE HNO;have HSP:Hid ((y.op=16/\i+1<n) \/ (y.op=16/\i+1=n) \/ ¬ y.op=16):=by
        by_cases h:y.op=16
        ·by_cases h2:i+1<n
         ·exact Or.inl ⟨h,h2⟩
         ·exact Or.inr (Or.inl ⟨h,by omega⟩)
        ·exact Or.inr (Or.inr h)
       rcases HSP.out with ⟨h16,hin⟩ | ⟨h16,hin⟩ | h16
       ·have h16b:(y.op == 16)=true:=by simp [h16]
        have hinI:(i:Int)+1<(n:Int):=by omega
        have H16:Hid (y.op=16):=h16;clear h16;have HQF:Hid (q=false):=by
         show q=false
         rw [<-HQ.out,HD.out];exact zBI HGI0.out (λhs=>by
          obtain ⟨s1,s2,s3,s4,s5⟩:=stand_iff.1 hs;rw [HND.out] at s2 s3;simp only at s2 s3;exact s1 ⟨H16.out,hin⟩)
        go_wp2;go_ret3
        exact ⟨⟨.slice none 0 0,.slice none 0 0,by rw [HQF.out];rfl⟩,by first | exact hB2 | (rw [<-HWV.out];exact hB2)⟩
       ·have hin':¬ (i:Int)+1<(n:Int):=by omega
        have h16b:(y.op == 16)=true:=by simp [h16]
        have h8b:(y.op == 8)=false:=by simp [h16]
        have h9b:(y.op == 9)=false:=by simp [h16]
        have H16:Hid (y.op=16):=h16;clear h16;have NE:=HNE.out w2;go_wp2_with (first | (refine zAA (by rfl) 56 (.tmp 10) rfl X 0 rfl (zAD y (.slice p mm kk)) _ rI underlying56 rfl (by kernel_rfl) ?_))
        refine NE.mono ?_;rintro e w3 ⟨rfl,hb3⟩;have HX3:Hid (AtL w3 X (zAD y (.slice p mm kk))):=AtL.below hb3 pI2;have HG3:Hid (HgS w3 BB vb fb eb n S):=HG2.out.below hb3;have hB3:=zAB hB2 hb3;clear NE HNE rI c0 HG2 hB2 pI2 hb3;have cV:=HG3.out.vl i v f HGI0.out;obtain ⟨r,cF,hr,hnp,hbl⟩:=HG3.out.fd i v f HGI0.out;obtain ⟨av,cf,er,hav⟩:=zBo hr;subst er;by_cases hv:v<n1
        ·have hvb:decide (v<n1)=true:=by simp [hv]
         have HQF:Hid (q=false):=by
          show q=false
          rw [<-HQ.out,HD.out];exact zBI HGI0.out (λhs=>by
           obtain ⟨s1,s2,s3,s4,s5⟩:=stand_iff.1 hs;rw [HND.out] at s2 s3;simp only at s2 s3;omega)
         go_wp2;go_ret3
         exact ⟨⟨.slice none 0 0,.slice none 0 0,by rw [HQF.out];rfl⟩,by first | exact hB3 | (rw [<-HWV.out];exact hB3)⟩
        ·have hvb:decide (v<n1)=false:=by simp [hv]
         by_cases hf:(f.length:Int)<n2
         ·have hfb:decide ((f.length:Int)<n2)=true:=by simp [hf]
          have HQF:Hid (q=false):=by
           show q=false
           rw [<-HQ.out,HD.out];exact zBI HGI0.out (λhs=>by
            obtain ⟨s1,s2,s3,s4,s5⟩:=stand_iff.1 hs;rw [HND.out] at s2 s3;simp only at s2 s3;omega)
          go_wp2;go_ret3
          exact ⟨⟨.slice none 0 0,.slice none 0 0,by rw [HQF.out];rfl⟩,by first | exact hB3 | (rw [<-HWV.out];exact hB3)⟩
         ·have hfb:decide ((f.length:Int)<n2)=false:=by simp [hf]
          have HVF:Hid (n1<=v/\n2<=(f.length:Int)):=⟨by omega,by omega⟩
          have HND2:Hid (0<=v+n3/\n3<=1 /\ -1000<=n3):=⟨HNO2.out.1 v (by omega) HIV.out.1,HNO2.out.2.1,HNO2.out.2.2.1⟩
          have hwa:IntKind.i64.wrap (v+n3)=v+n3:=by rw [IntKind.wrap_i64];have:=HND2.out;have:=HIV.out;have:=HN.out;omega
          have HFI:Hid (f.length<=i):=HIV.out.2.2;have c0:=HX3.out.2.1 0 _ rfl;by_cases hv1:v=1
          ·have hv1b:(v != 1)=false:=by simp [hv1]
           by_cases hf0:f.length=0
           ·have hf0b:((f.length:Int) != 0)=false:=by simp [hf0]
            have HSD:Hid (Wc.stand n i y.op y.b v f=true):=by
             refine stand_iff.2 ⟨λh=>by omega,?_,?_,λ_=>⟨hv1,hf0⟩,λh=>by have:=H16.out;omega⟩
             ·rw [HND.out];exact HVF.out.1
             ·rw [HND.out];exact HVF.out.2
            have HV1:Hid (v=1/\f.length=0):=⟨hv1,hf0⟩
            clear hv1 hf0;go_upto_region 24 with fail
            have HX24:=HX3;have HG24:=HG3;have hB24:=hB3;clear HX3 HG3 hB3 c0 cV cF hr hnp hbl;generalize w3=W24 at *;have AH:=HAH.out W24 hB24;go_wp2_with fail
            refine AH.mono ?_;rintro e w3 ⟨⟨r2,rfl,hr2,hnp2,hbl2⟩,hb3⟩;have HB4:Hid (Below w.heap.size w w3):=zAB hB24 hb3;have HG4:Hid (HgS w3 BB vb fb eb n S):=HG24.out.below hb3;have HX4:Hid (AtL w3 X (zAD y (.slice p mm kk))):=AtL.below hb3 HX24.out;obtain ⟨AA,hAA⟩:∃ A,aP y tl i=A:=⟨_,rfl⟩
            have HAA:Hid (aP y tl i=AA):=hAA;rw [hAA] at hr2;obtain ⟨m,hm⟩:∃ m,AA.length=m:=⟨_,rfl⟩
            have HML:Hid (AA.length=m):=hm;have HM:Hid (m<=1000003):=by show m<=_;rw [<-hm,<-hAA];have:=zGh y tl i;have:=HTL.out;omega
            have HR40:Hid (RdZ w3 r2 AA):=hr2;obtain ⟨a2,c2,e2,_⟩:=hr2;rw [hm] at e2;subst e2;have HR4:Hid (RdZ w3 (.slice a2 m c2) AA):=HR40.out;have HA2:Hid (∀ g,(Value.slice a2 m c2).ownBlock=some g->BB<=g):=λg e=>Nat.le_trans HG24.out.hb (hbl2 g e)
            have HQ4:Hid (goR n i (L.drop (i+1)) ((ahF y tl i v f).drop 0) S=q):=by show _=q;rw [<-HQ.out,HD.out,zJV HRG.out HGI0.out HSD.out];rfl
            have HI4:Hid (RInv (i+1) S):=HI.out.mono (Nat.le_succ _);have HGI0':Hid (S.getD i none=some (v,f)):=HGI0;have HF10:Hid (y.op=10->f ≠ []):=by
             intro h10 hf0;have:=(stand_iff.1 HSD.out).2.2.1;rw [h10,hf0] at this;simp [Wc.nds] at this
            have HFL:Hid (f.length<=1000000):=by show f.length<=_;have:=HFI.out;have:=HN.out;omega
            clear AH HAH hAA hm hnp2 hbl2 HR40 hb3 hB24 HG24 HX24;have hm0:m=0:=by
             rw [<-HML.out,<-HAA.out];unfold aP Wc.ahd;rw [if_pos H16.out];rfl
            subst hm0;go_wp2_with fail
            go_loopg [17] 0 (λgk x wr2=>x=.int .i64 0/\gk=0/\w3=wr2)
            case atStart=>exact ⟨rfl,rfl,rfl⟩
            case round =>
             as_aux_lemma =>
              obtain ⟨rfl,hg2,rfl⟩:=hrel;have HQ9:Hid (Wc.runR (Wc.srI rgt n) (i+1) (L.drop (i+1)) S=q):=by
               show _=q
               have e:(ahF y tl i v f).drop 0=[]:=List.drop_eq_nil_of_le (by rw [zC0,HAA.out,HML.out];omega);rw [<-HQ4.out,e];rfl
              clear HQ4;go_wp2_with fail
              go_roundg (n - (i+1))
              case rel=>exact ⟨i+1,S,by simp,rfl,hlt,HQ9,HG4,HI4,HB4⟩
              case measure=>omega
           ·have hf0b:((f.length:Int) != 0)=true:=by simp [hf0]
            have HQF:Hid (q=false):=by
             show q=false
             rw [<-HQ.out,HD.out];exact zBI HGI0.out (λhs=>by
              obtain ⟨s1,s2,s3,s4,s5⟩:=stand_iff.1 hs;rw [HND.out] at s2 s3;simp only at s2 s3;exact hf0 (s4 H16.out).2)
            go_wp2;go_ret3
            exact ⟨⟨.slice none 0 0,.slice none 0 0,by rw [HQF.out];rfl⟩,by first | exact hB3 | (rw [<-HWV.out];exact hB3)⟩
          ·have hv1b:(v != 1)=true:=by simp [hv1]
           have HQF:Hid (q=false):=by
            show q=false
            rw [<-HQ.out,HD.out];exact zBI HGI0.out (λhs=>by
             obtain ⟨s1,s2,s3,s4,s5⟩:=stand_iff.1 hs;rw [HND.out] at s2 s3;simp only at s2 s3;exact hv1 (s4 H16.out).1)
           go_wp2;go_ret3
           exact ⟨⟨.slice none 0 0,.slice none 0 0,by rw [HQF.out];rfl⟩,by first | exact hB3 | (rw [<-HWV.out];exact hB3)⟩
       ·have h16b:(y.op == 16)=false:=by simp [h16]
        have H16:Hid (¬ y.op=16):=h16;clear h16;have NE:=HNE.out w2;go_wp2_with (first | (refine zAA (by rfl) 56 (.tmp 10) rfl X 0 rfl (zAD y (.slice p mm kk)) _ rI underlying56 rfl (by kernel_rfl) ?_))
        refine NE.mono ?_;rintro e w3 ⟨rfl,hb3⟩;have HX3:Hid (AtL w3 X (zAD y (.slice p mm kk))):=AtL.below hb3 pI2;have HG3:Hid (HgS w3 BB vb fb eb n S):=HG2.out.below hb3;have hB3:=zAB hB2 hb3;clear NE HNE rI c0 HG2 hB2 pI2 hb3;have cV:=HG3.out.vl i v f HGI0.out;obtain ⟨r,cF,hr,hnp,hbl⟩:=HG3.out.fd i v f HGI0.out;obtain ⟨av,cf,er,hav⟩:=zBo hr;subst er;by_cases hv:v<n1
        ·have hvb:decide (v<n1)=true:=by simp [hv]
         have HQF:Hid (q=false):=by
          show q=false
          rw [<-HQ.out,HD.out];exact zBI HGI0.out (λhs=>by
           obtain ⟨s1,s2,s3,s4,s5⟩:=stand_iff.1 hs;rw [HND.out] at s2 s3;simp only at s2 s3;omega)
         go_wp2;go_ret3
         exact ⟨⟨.slice none 0 0,.slice none 0 0,by rw [HQF.out];rfl⟩,by first | exact hB3 | (rw [<-HWV.out];exact hB3)⟩
        ·have hvb:decide (v<n1)=false:=by simp [hv]
         by_cases hf:(f.length:Int)<n2
         ·have hfb:decide ((f.length:Int)<n2)=true:=by simp [hf]
          have HQF:Hid (q=false):=by
           show q=false
           rw [<-HQ.out,HD.out];exact zBI HGI0.out (λhs=>by
            obtain ⟨s1,s2,s3,s4,s5⟩:=stand_iff.1 hs;rw [HND.out] at s2 s3;simp only at s2 s3;omega)
          go_wp2;go_ret3
          exact ⟨⟨.slice none 0 0,.slice none 0 0,by rw [HQF.out];rfl⟩,by first | exact hB3 | (rw [<-HWV.out];exact hB3)⟩
         ·have hfb:decide ((f.length:Int)<n2)=false:=by simp [hf]
          have HVF:Hid (n1<=v/\n2<=(f.length:Int)):=⟨by omega,by omega⟩
          have HND2:Hid (0<=v+n3/\n3<=1 /\ -1000<=n3):=⟨HNO2.out.1 v (by omega) HIV.out.1,HNO2.out.2.1,HNO2.out.2.2.1⟩
          have hwa:IntKind.i64.wrap (v+n3)=v+n3:=by rw [IntKind.wrap_i64];have:=HND2.out;have:=HIV.out;have:=HN.out;omega
          have HFI:Hid (f.length<=i):=HIV.out.2.2;have c0:=HX3.out.2.1 0 _ rfl;have HOC:Hid (((y.op == 8)=true/\(y.op == 9)=false) \/ ((y.op == 8)=false/\(y.op == 9)=true) \/ ((y.op == 8)=false/\(y.op == 9)=false)):=by
           show _ \/ _
           by_cases h8:y.op=8
           ·simp [h8]
           ·by_cases h9:y.op=9
            ·simp [h9]
            ·simp [h8,h9]
          obtain ⟨q8,hq8⟩:∃ b,(y.op == 8)=b:=⟨_,rfl⟩
          obtain ⟨q9,hq9⟩:∃ b,(y.op == 9)=b:=⟨_,rfl⟩
          go_upto_region 19 with fail
          go_cut [118] (λs wx=>s=.bool (q8 || q9)/\w3=wx)
          case first =>
           cases q8
           ·cases q9
            all_goals
             go_wp2_with fail
             go_meet
             case rel=>exact ⟨rfl,rfl⟩
           ·go_wp2_with fail
            go_meet
            case rel=>exact ⟨by simp,rfl⟩
          case rest =>
           obtain ⟨rfl,rfl⟩:=hcut;have HSO:Hid (((q8 || q9)=true->Wc.pairs (f.getLastD 0)=q9)->Wc.stand n i y.op y.b v f=true):=by
            intro hs;refine stand_iff.2 ⟨λh=>H16.out h.1,?_,?_,λh=>absurd h H16.out,λh=>?_⟩
            ·rw [HND.out];exact HVF.out.1
            ·rw [HND.out];exact HVF.out.2
            ·have e9:decide (y.op=9)=q9:=by rw [<-hq9];rw [Bool.eq_iff_iff];simp
             rw [e9];refine hs ?_;rw [<-hq8,<-hq9];rcases h with h | h <;> simp [h]
           have HS8:Hid ((q8 || q9)=true->Wc.pairs (f.getLastD 0) ≠ q9->¬ Wc.stand n i y.op y.b v f=true):=by
            intro h1 h2 hs;have h5:=(stand_iff.1 hs).2.2.2.2;have e9:decide (y.op=9)=q9:=by rw [<-hq9];rw [Bool.eq_iff_iff];simp
            rw [e9] at h5;refine h2 (h5 ?_);rw [<-hq8,<-hq9] at h1;simpa using h1
           have HN2:Hid ((q8 || q9)=true->n2=1):=by
            intro h1;have e:=HND.out;rw [<-hq8,<-hq9] at h1;have h3:y.op=8 \/ y.op=9:=by simpa using h1
            rcases h3 with h3 | h3
            ·rw [h3] at e;simp [Wc.nds] at e;omega
            ·rw [h3] at e;simp [Wc.nds] at e;omega
           go_upto_if 118 with fail
           go_cut [14,15] (λs14 s15 wx=>Below w3.heap.size w3 wx/\Hid (Wc.stand n i y.op y.b v f=true))
           case first =>
            as_aux_lemma =>
             cases q8
             ·cases q9
              ·have HSD:Hid (Wc.stand n i y.op y.b v f=true):=HSO.out (λh=>by simp at h);go_wp2_with fail
               go_meet
               case rel=>exact ⟨Below.refl _ _,HSD⟩
              ·have hn2:=HN2.out (by simp);have hfp:0<f.length:=by have:=HVF.out.2;omega
               obtain ⟨g,of,eav⟩:=hav hfp;subst eav;have cT:=zDL hr hfp;obtain ⟨tp,htp⟩:∃ t,f.getLastD 0=t:=⟨_,rfl⟩
               rw [htp] at cT HSO HS8;obtain ⟨fl,hfl⟩:∃ k,f.length - 1=k:=⟨_,rfl⟩
               have hwf:IntKind.i64.wrap ((f.length:Int) - 1)=(fl:Int):=by rw [IntKind.wrap_i64];have:=HFI.out;have:=HN.out;omega
               have hf1:(fl:Int)<(f.length:Int):=by omega
               have hf2:(0:Int)<=(fl:Int):=by omega
               rw [hfl] at cT;clear hn2 htp hfl hfp hvb hfb hv hf;go_upto_region 20 with fail
               go_quiet (fail)
               have hb9:Below w3.heap.size w3 (w3.drewN nq):=zAo (Below.refl _ _) nq;have c09:=zAC hb9 c0;have hB9:=zAB hB3 hb9;have HB9:Hid (Below w3.heap.size w3 (w3.drewN nq)):=hb9;clear cT cF cV c0 hb9;generalize w3.drewN nq=W9 at *;go_upto_region 21 with fail
               obtain ⟨qp,hqp⟩:∃ b,Wc.pairs tp=b:=⟨_,rfl⟩
               rw [hqp] at HSO HS8;go_cut [15] (λs wx=>s=.bool qp/\W9=wx)
               case first =>
                have hpc:((tp == 22)=true/\qp=true) \/ ((tp == 22)=false/\(tp == 23)=true/\qp=true) \/ ((tp == 22)=false/\(tp == 23)=false/\(tp == 24)=qp):=by
                 rw [<-hqp];unfold Wc.pairs;cases (tp == 22) <;> cases (tp == 23) <;> simp
                clear hqp;rcases hpc with ⟨t1,rfl⟩ | ⟨t1,t2,rfl⟩ | ⟨t1,t2,t3⟩
                all_goals
                 go_wp2_with fail
                 go_meet
                 case rel=>exact ⟨by simp [*],rfl⟩
               case rest =>
                obtain ⟨rfl,rfl⟩:=hcut;clear hqp;cases qp
                ·have HQF:Hid (q=false):=by
                  show q=false
                  rw [<-HQ.out,HD.out];exact zBI HGI0.out (HS8.out (by simp) (by simp))
                 go_wp2;go_ret3
                 exact ⟨⟨.slice none 0 0,.slice none 0 0,by rw [HQF.out];rfl⟩,by first | exact hB9 | (rw [<-HWV.out];exact hB9)⟩
                ·have HSD:Hid (Wc.stand n i y.op y.b v f=true):=HSO.out (λ_=>rfl);go_wp2_with fail
                 go_meet
                 case rel=>exact ⟨HB9.out,HSD⟩
             ·cases q9
              ·have hn2:=HN2.out (by simp);have hfp:0<f.length:=by have:=HVF.out.2;omega
               obtain ⟨g,of,eav⟩:=hav hfp;subst eav;have cT:=zDL hr hfp;obtain ⟨tp,htp⟩:∃ t,f.getLastD 0=t:=⟨_,rfl⟩
               rw [htp] at cT HSO HS8;obtain ⟨fl,hfl⟩:∃ k,f.length - 1=k:=⟨_,rfl⟩
               have hwf:IntKind.i64.wrap ((f.length:Int) - 1)=(fl:Int):=by rw [IntKind.wrap_i64];have:=HFI.out;have:=HN.out;omega
               have hf1:(fl:Int)<(f.length:Int):=by omega
               have hf2:(0:Int)<=(fl:Int):=by omega
               rw [hfl] at cT;clear hn2 htp hfl hfp hvb hfb hv hf;go_upto_region 20 with fail
               go_quiet (fail)
               have hb9:Below w3.heap.size w3 (w3.drewN nq):=zAo (Below.refl _ _) nq;have c09:=zAC hb9 c0;have hB9:=zAB hB3 hb9;have HB9:Hid (Below w3.heap.size w3 (w3.drewN nq)):=hb9;clear cT cF cV c0 hb9;generalize w3.drewN nq=W9 at *;go_upto_region 21 with fail
               obtain ⟨qp,hqp⟩:∃ b,Wc.pairs tp=b:=⟨_,rfl⟩
               rw [hqp] at HSO HS8;go_cut [15] (λs wx=>s=.bool qp/\W9=wx)
               case first =>
                have hpc:((tp == 22)=true/\qp=true) \/ ((tp == 22)=false/\(tp == 23)=true/\qp=true) \/ ((tp == 22)=false/\(tp == 23)=false/\(tp == 24)=qp):=by
                 rw [<-hqp];unfold Wc.pairs;cases (tp == 22) <;> cases (tp == 23) <;> simp
                clear hqp;rcases hpc with ⟨t1,rfl⟩ | ⟨t1,t2,rfl⟩ | ⟨t1,t2,t3⟩
                all_goals
                 go_wp2_with fail
                 go_meet
                 case rel=>exact ⟨by simp [*],rfl⟩
               case rest =>
                obtain ⟨rfl,rfl⟩:=hcut;clear hqp;cases qp
                ·have HSD:Hid (Wc.stand n i y.op y.b v f=true):=HSO.out (λ_=>rfl);go_wp2_with fail
                 go_meet
                 case rel=>exact ⟨HB9.out,HSD⟩
                ·have HQF:Hid (q=false):=by
                  show q=false
                  rw [<-HQ.out,HD.out];exact zBI HGI0.out (HS8.out (by simp) (by simp))
                 go_wp2;go_ret3
                 exact ⟨⟨.slice none 0 0,.slice none 0 0,by rw [HQF.out];rfl⟩,by first | exact hB9 | (rw [<-HWV.out];exact hB9)⟩
              ·exact absurd (And.intro hq8 hq9) (by intro h;have h1:=h.1;have h2:=h.2;simp at h1 h2;omega)
           case rest =>
            obtain ⟨hb24,HSD⟩:=hcut;generalize wc=W24 at *;have HX24:Hid (AtL W24 X (zAD y (.slice p mm kk))):=AtL.below hb24 HX3.out;have HG24:Hid (HgS W24 BB vb fb eb n S):=HG3.out.below hb24;have hB24:=zAB hB3 hb24;clear HX3 HG3 hB3 c0 cV cF hr hnp hbl hb24 HSO HS8 HN2 hq8 hq9 HOC;have AH:=HAH.out W24 hB24;go_wp2_with fail
            refine AH.mono ?_;rintro e w3 ⟨⟨r2,rfl,hr2,hnp2,hbl2⟩,hb3⟩;have HB4:Hid (Below w.heap.size w w3):=zAB hB24 hb3;have HG4:Hid (HgS w3 BB vb fb eb n S):=HG24.out.below hb3;have HX4:Hid (AtL w3 X (zAD y (.slice p mm kk))):=AtL.below hb3 HX24.out;obtain ⟨AA,hAA⟩:∃ A,aP y tl i=A:=⟨_,rfl⟩
            have HAA:Hid (aP y tl i=AA):=hAA;rw [hAA] at hr2;obtain ⟨m,hm⟩:∃ m,AA.length=m:=⟨_,rfl⟩
            have HML:Hid (AA.length=m):=hm;have HM:Hid (m<=1000003):=by show m<=_;rw [<-hm,<-hAA];have:=zGh y tl i;have:=HTL.out;omega
            have HR40:Hid (RdZ w3 r2 AA):=hr2;obtain ⟨a2,c2,e2,_⟩:=hr2;rw [hm] at e2;subst e2;have HR4:Hid (RdZ w3 (.slice a2 m c2) AA):=HR40.out;have HA2:Hid (∀ g,(Value.slice a2 m c2).ownBlock=some g->BB<=g):=λg e=>Nat.le_trans HG24.out.hb (hbl2 g e)
            have HQ4:Hid (goR n i (L.drop (i+1)) ((ahF y tl i v f).drop 0) S=q):=by show _=q;rw [<-HQ.out,HD.out,zJV HRG.out HGI0.out HSD.out];rfl
            have HI4:Hid (RInv (i+1) S):=HI.out.mono (Nat.le_succ _);have HGI0':Hid (S.getD i none=some (v,f)):=HGI0;have HF10:Hid (y.op=10->f ≠ []):=by
             intro h10 hf0;have:=(stand_iff.1 HSD.out).2.2.1;rw [h10,hf0] at this;simp [Wc.nds] at this
            have HFL:Hid (f.length<=1000000):=by show f.length<=_;have:=HFI.out;have:=HN.out;omega
            clear AH HAH hAA hm hnp2 hbl2 HR40 hb3 hB24 HG24 HX24;go_wp2_with fail
            go_loopg [17] m (λgk x wr2=>∃ (k:Nat) (S2:Wc.RS),x=.int .i64 k/\gk=m - k/\k<=m/\Hid (goR n i (L.drop (i+1)) ((ahF y tl i v f).drop k) S2=q)/\Hid (HgS wr2 BB vb fb eb n S2)/\Hid (S2.getD i none=some (v,f))/\Hid (RInv (i+1) S2)/\Hid (AtL wr2 X (zAD y (.slice p mm kk)))/\Hid (RdZ wr2 (.slice a2 m c2) AA)/\Hid (Below w.heap.size w wr2))
            case atStart=>exact ⟨0,S,rfl,rfl,Nat.zero_le _,HQ4,HG4,HGI0,HI4,HX4,HR4,HB4⟩
            case round =>
             as_aux_lemma =>
              clear HQ4 HG4 HGI0 HI4 HX4 HR4 HB4;obtain ⟨k,S2,rfl,hg2,hk,HQ5,HG5,HGI,HI5,HX5,HR5,HB5⟩:=hrel;by_cases hkm:k<m
              ·have hkl:(k:Int)<(m:Int):=by omega
               have hkz:(0:Int)<=(k:Int):=by omega
               have hwk:IntKind.i64.wrap ((k:Int)+1)=(k:Int)+1:=by rw [IntKind.wrap_i64];have:=HM.out;omega
               have hwm:IntKind.i64.wrap ((m:Int) - 1)=(m:Int) - 1:=by rw [IntKind.wrap_i64];have:=HM.out;omega
               have hkA:k<AA.length:=by rw [HML.out];exact hkm
               obtain ⟨j,hj⟩:∃ j,AA[k]=j:=⟨_,rfl⟩
               have HDR:Hid ((ahF y tl i v f).drop k=(j,((if zBK y.op k m=true then v else v+n3),Wc.fldR y.op y.a f))::(ahF y tl i v f).drop (k+1)):=by
                have:=zJ8 y tl i v f k (by rw [HAA.out];exact hkA);simp only [HAA.out,HML.out,HND.out,hj] at this;exact this
               have cJ0:∃ bq oq,a2=some ⟨bq,oq,none⟩/\wr.cell? ⟨bq,oq+k,none⟩=some (.int .i64 j):=by
                obtain ⟨x1,x2,x3,x4⟩:=HR5.out;obtain ⟨x5,x6,x7,x8⟩:=x4 k hkA;simp only [Value.slice.injEq] at x3;rw [hj] at x8;exact ⟨x5,x6,by rw [x3.1];exact x7,x8⟩
               obtain ⟨bq,oq,rfl,cJ⟩:=cJ0;rw [HDR.out] at HQ5;clear hj hkA;by_cases h1:j<=(i:Int)
               ·have h1b:decide (j<=(i:Int))=true:=by simp [h1]
                have HQF:Hid (q=false):=by
                 show q=false
                 rw [<-HQ5.out];exact zFa (Or.inl h1)
                go_wp2;go_ret3
                exact ⟨⟨.slice none 0 0,.slice none 0 0,by rw [HQF.out];rfl⟩,by first | exact HB5.out | (rw [<-HWV.out];exact HB5.out)⟩
               ·by_cases h2:(n:Int)<=j
                ·have h1b:decide (j<=(i:Int))=false:=by simp [h1]
                 have HQF:Hid (q=false):=by
                  show q=false
                  rw [<-HQ5.out];exact zFa (Or.inr h2)
                 go_wp2;go_ret3
                 exact ⟨⟨.slice none 0 0,.slice none 0 0,by rw [HQF.out];rfl⟩,by first | exact HB5.out | (rw [<-HWV.out];exact HB5.out)⟩
                ·obtain ⟨jn,rfl⟩:∃ jn:Nat,j=(jn:Int):=⟨j.toNat,by omega⟩
                 have hjl:(jn:Int)<(n:Int):=by omega
                 have hjz:(0:Int)<=(jn:Int):=by omega
                 have hjn:jn<n:=by omega
                 have HJO:Hid (¬ ((jn:Int)<=(i:Int) \/ (n:Int)<=(jn:Int))):=by show ¬ _;omega
                 have cV:=HG5.out.vl i v f HGI.out;go_upto_region 32 with fail
                 have c0:=HX5.out.2.1 0 _ rfl;obtain ⟨qc,hqc⟩:∃ b,zBK y.op k m=b:=⟨_,rfl⟩
                 have HST:=zK4 (o:=y.op) hkm;rw [hqc] at HST HDR HQ5;clear hqc;have HST2:Hid _:=HST;clear HST cJ;go_cut [196] (λs wx=>s=.bool qc/\wr=wx)
                 case first =>
                  rcases HST2.out with ⟨s1,s2,s3,⟨s4,rfl⟩ | ⟨s4,rfl⟩⟩ | ⟨s1,s2,s3,⟨s4,rfl⟩ | ⟨s4,rfl⟩⟩ | ⟨s1,s2,s3,⟨s4,rfl⟩ | ⟨s4,rfl⟩⟩ | ⟨s1,s2,s3,rfl⟩
                  all_goals
                   go_wp2_with fail
                   go_meet
                   case rel=>exact ⟨rfl,rfl⟩
                 case rest =>
                  obtain ⟨rfl,rfl⟩:=hcut;clear HST2 c0;go_upto_if 196 with fail
                  go_cut [19] (λs wx=>s=.int .i64 (if qc=true then v else v+n3)/\wr=wx)
                  case first =>
                   cases qc
                   all_goals
                    go_wp2_with fail
                    go_meet
                    case rel=>exact ⟨by simp,rfl⟩
                  case rest =>
                   as_aux_lemma =>
                    obtain ⟨rfl,rfl⟩:=hcut;obtain ⟨av,hav⟩:∃ a:Int,(if qc=true then v else v+n3)=a:=⟨_,rfl⟩
                    have HAV:Hid (0<=av/\av<=(i:Int)+1):=by
                     obtain ⟨x1,x2,x3⟩:=HI.out i v f HGI0'.out;show _/\_
                     rw [<-hav];have:=HND2.out;split <;> omega
                    rw [hav] at HDR HQ5 ⊢;clear hav cV;obtain ⟨r,cF,hr,hnp,hbl⟩:=HG5.out.fd i v f HGI.out;go_upto_region 34 with fail
                    have rI:=HX5.out.range;have rb:=(Below.refl wr.heap.size wr).drew;have s1:=zAI rb rI;have s2:=zAC rb cF;have hbd:Below w.heap.size w wr.drew:=zAB HB5.out rb;have HG6:Hid (HgS wr.drew BB vb fb eb n S2):=HG5.out.below rb;have HX6:Hid (AtL wr.drew X (zAD y (.slice p mm kk))):=AtL.below rb HX5.out;have HR6:Hid (RdZ wr.drew (.slice (some ⟨bq,oq,none⟩) m c2) AA):=HR5.out.below rb;have hz6:=hr.below rb;clear cF rI hr rb;refine wp_region_held_drew (S:=λW=>W.rangeAt X 0 (zAD y (.slice p mm kk))/\W.cell? ⟨fb,i,none⟩=some r) (by kernel_rfl) ⟨s1,s2⟩ (λhHeld=>?_);generalize wr.drew=WD at *;refine wpAnyH_take (i:=0) (v:=.agg (zAD y (.slice p mm kk)).toArray) (atQ rfl) (by kernel_rfl) (by kernel_rfl) (by kernel_rfl) (λ_ _ _ h=>h) (yieldsIf_load_mid (by rfl) 56 (.tmp 10) rfl X 0 rfl (zAD y (.slice p mm kk)) _ (λ_ h=>h.1) underlying56 rfl (by kernel_rfl)) (by assumption) ?_;try simp only [Act.put,lA,lZ,lS]
                    refine tkQ 1 ?_
                    refine tkQ 2 ?_
                    refine tkQ 3 ?_
                    refine tkQ 4 ?_
                    refine rdQ 5 (λK hK=>?_);go_simp
                    refine (zDa y (.slice p mm kk) r f WD hz6 hnp HFL.out HF10.out).mono ?_;rintro e w6 ⟨⟨r3,rfl,hr3,hnp3,hbl3⟩,hb6⟩;have hB6:=zAB hbd hb6;go_wp2_with fail
                    refine hkQ hK ⟨zAI hb6 s1,zAC hb6 s2⟩ (λhHeld=>?_);clear hK K
                    refine rdQ 6 (λK hK=>?_);go_simp
                    refine hkQ hK ⟨zAI hb6 s1,zAC hb6 s2⟩ (λhHeld=>?_);clear hK K
                    refine wpAnyH_done (by kernel_rfl) ?_ _;clear hHeld s1 s2 hz6 hnp;have HG7:Hid (HgS w6 BB vb fb eb n S2):=HG6.out.below hb6;have HX7:Hid (AtL w6 X (zAD y (.slice p mm kk))):=AtL.below hb6 HX6.out;have HR7:Hid (RdZ w6 (.slice (some ⟨bq,oq,none⟩) m c2) AA):=HR6.out.below hb6;obtain ⟨f3,hf3⟩:∃ f3,Wc.fldR y.op y.a f=f3:=⟨_,rfl⟩
                    have HF3:Hid (f3.length<=i+1):=by show _<=_;rw [<-hf3];have:=zIU y.op y.a f;have:=HFI.out;omega
                    rw [hf3] at hr3 HDR HQ5;obtain ⟨a3,c3,e3,_⟩:=zBo hr3;subst e3;have HR3:Hid (RdZ w6 (.slice a3 f3.length c3) f3):=hr3;have HN3:Hid (Np (.slice a3 f3.length c3)/\∀ g,(Value.slice a3 f3.length c3).ownBlock=some g->BB<=g):=⟨hnp3,λg e=>Nat.le_trans HG6.out.hb (hbl3 g e)⟩
                    have HB7:Hid (Below w.heap.size w w6):=hB6;clear hf3 hr3 hnp3 hbl3 hbl HG6 HX6 HR6 hbd hb6 hB6 HG5 HX5 HR5 HB5;have cE:=HG7.out.bn jn hjn;go_upto_region 35 with fail
                    go_cut [227] (λs wx=>∃ qd:Bool,s=.bool qd/\Below w6.heap.size w6 wx/\Hid (q=if qd=true then false else goR n i (L.drop (i+1)) ((ahF y tl i v f).drop (k+1)) (S2.set jn (some (av,f3)))))
                    case first =>
                     as_aux_lemma =>
                      cases hgj:S2.getD jn none with
                      | none =>
                       rw [hgj] at cE;have cE2:w6.cell? ⟨eb,jn,none⟩=some (.bool false):=cE;have HQ6:Hid (q=goR n i (L.drop (i+1)) ((ahF y tl i v f).drop (k+1)) (S2.set jn (some (av,f3)))):=by show q=_;rw [<-HQ5.out];exact zJc HJO.out hgj
                       clear cE hgj;go_wp2_with fail
                       go_meet
                       case rel=>exact ⟨false,rfl,Below.refl _ _,by show q=_;rw [HQ6.out];rfl⟩
                      | some g0 =>
                       obtain ⟨v0,f0⟩:=g0;rw [hgj] at cE;have cE2:w6.cell? ⟨eb,jn,none⟩=some (.bool true):=cE;have cV0:=HG7.out.vl jn v0 f0 hgj;clear cE;by_cases hva:v0=av
                       ·have hvb:(v0 != av)=false:=by simp [hva]
                        obtain ⟨r0,cF0,hr0,_,_⟩:=HG7.out.fd jn v0 f0 hgj;have hl0:=(HI5.out jn v0 f0 hgj).2.2;have SF:=zFO f0 f3 r0 (.slice a3 f3.length c3) w6 hr0 HR3.out (by have:=HN.out;omega) (by have:=HF3.out;have:=HN.out;omega);obtain ⟨qs,hqs⟩:∃ b,decide (f0=f3)=b:=⟨_,rfl⟩
                        rw [hqs] at SF;have HQ6:Hid (q=if (!qs)=true then false else goR n i (L.drop (i+1)) ((ahF y tl i v f).drop (k+1)) (S2.set jn (some (av,f3)))):=by
                         show q=_
                         rw [<-HQ5.out];cases qs with
                         | false =>
                          have hne:¬ f0=f3:=by simpa using hqs
                          exact zGZ HJO.out hgj (λe=>hne (Prod.mk.inj e).2)
                         | true =>
                          have he:f0=f3:=by simpa using hqs
                          rw [hva,he] at hgj;exact zKe HJO.out hgj
                        have HVA:Hid (v0=av):=hva;clear hva hqs hgj hr0 hl0;go_wp2_with fail
                        refine SF.mono ?_;rintro e w7 ⟨rfl,hb7⟩;go_wp2_with fail
                        go_meet
                        case rel=>exact ⟨!qs,by simp,hb7,HQ6⟩
                       ·have hvb:(v0 != av)=true:=by simp [hva]
                        have HQ6:Hid (q=if true=true then false else goR n i (L.drop (i+1)) ((ahF y tl i v f).drop (k+1)) (S2.set jn (some (av,f3)))):=by
                         show q=_
                         rw [<-HQ5.out];exact zGZ HJO.out hgj (λe=>hva (Prod.mk.inj e).1)
                        clear hgj;go_wp2_with fail
                        go_meet
                        case rel=>exact ⟨true,rfl,Below.refl _ _,HQ6⟩
                    case rest =>
                     as_aux_lemma =>
                      obtain ⟨qd,rfl,hb8,HQ6⟩:=hcut;clear cE HQ5;generalize wc=w8 at *;have HG8:Hid (HgS w8 BB vb fb eb n S2):=HG7.out.below hb8;have HX8:Hid (AtL w8 X (zAD y (.slice p mm kk))):=AtL.below hb8 HX7.out;have HR8:Hid (RdZ w8 (.slice (some ⟨bq,oq,none⟩) m c2) AA):=HR7.out.below hb8;have HR38:Hid (RdZ w8 (.slice a3 f3.length c3) f3):=HR3.out.below hb8;have HB8:Hid (Below w.heap.size w w8):=zAB HB7.out hb8;clear HG7 HX7 HR7 HR3 HB7 hb8;cases qd with
                      | true =>
                       have HQF:Hid (q=false):=HQ6;go_wp2;go_ret3
                       exact ⟨⟨.slice none 0 0,.slice none 0 0,by rw [HQF.out];rfl⟩,by first | exact HB8.out | (rw [<-HWV.out];exact HB8.out)⟩
                      | false =>
                       have HG9:Hid _:=HG8.out.set hjn av f3 (.slice a3 f3.length c3) HR38.out HN3.out.1 HN3.out.2;have frA:Fr [eb,vb,fb] w8 (((w8.setCell ⟨eb,jn,none⟩ (.bool true)).setCell ⟨vb,jn,none⟩ (.int .i64 av)).setCell ⟨fb,jn,none⟩ (.slice a3 f3.length c3)) :=
                        ((Fr.of_grown (zAL _ _ _ _) (λk e=>by cases e;simp)).trans (Fr.of_grown (zAL _ _ _ _) (λk e=>by cases e;simp))).trans (Fr.of_grown (zAL _ _ _ _) (λk e=>by cases e;simp))
                       have HX9:Hid (AtL (((w8.setCell ⟨eb,jn,none⟩ (.bool true)).setCell ⟨vb,jn,none⟩ (.int .i64 av)).setCell ⟨fb,jn,none⟩ (.slice a3 f3.length c3)) X (zAD y (.slice p mm kk))):=HX8.out.fr frA (by have:=HG8.out.lv;have:=HG8.out.lf;have:=HG8.out.le;have:=HXB.out;simp;omega);have HR9:Hid (RdZ (((w8.setCell ⟨eb,jn,none⟩ (.bool true)).setCell ⟨vb,jn,none⟩ (.int .i64 av)).setCell ⟨fb,jn,none⟩ (.slice a3 f3.length c3)) (.slice (some ⟨bq,oq,none⟩) m c2) AA):=zCs HR8.out frA (λ_ g e=>by have:=HG8.out.lv;have:=HG8.out.lf;have:=HG8.out.le;have:=HA2.out g e;simp;omega);have HB9:Hid (Below w.heap.size w (((w8.setCell ⟨eb,jn,none⟩ (.bool true)).setCell ⟨vb,jn,none⟩ (.int .i64 av)).setCell ⟨fb,jn,none⟩ (.slice a3 f3.length c3))):=zAO HB8.out frA (λk hk=>by have:=HVB.out;have:=HWV.out;simp at hk;omega);have HGI9:Hid ((S2.set jn (some (av,f3))).getD i none=some (v,f)):=by
                        show _=_
                        rw [Wc.getD_set S2 jn i _ (by rw [HG8.out.len];exact hjn),if_neg (by have:=HJO.out;omega)];exact HGI.out
                       have HI9:Hid (RInv (i+1) (S2.set jn (some (av,f3)))):=HI5.out.set (by rw [HG8.out.len];exact hjn) HAV.out.1 (by have:=HAV.out.2;omega) HF3.out;have HQ9:Hid (goR n i (L.drop (i+1)) ((ahF y tl i v f).drop (k+1)) (S2.set jn (some (av,f3)))=q):=by show _=q;rw [HQ6.out];rfl
                       have cE8:=HG8.out.bn jn hjn;obtain ⟨xv,cV8⟩:=HG8.out.vt jn hjn;obtain ⟨xf,cF8⟩:=HG8.out.ft jn hjn;have zE:=HG8.out.ze jn hjn;have zV:=HG8.out.zv jn hjn;have zF:=HG8.out.zf jn hjn;have xvf:=HG8.out.vf;have xve:=HG8.out.ve;have xfe:=HG8.out.fe;have xvf2:fb ≠ vb:=λe=>xvf e.symm
                       have xve2:eb ≠ vb:=λe=>xve e.symm
                       have xfe2:eb ≠ fb:=λe=>xfe e.symm
                       generalize (S2.getD jn none).isSome=qz at *;clear frA HQ6 HG8 HX8 HR8 HB8 HR38;go_upto_region 38 with fail
                       have cV9:(w8.setCell ⟨eb,jn,none⟩ (.bool true)).cell? ⟨vb,jn,none⟩=some (.int .i64 xv):=by rw [World.cell?_setCell_far _ _ _ _ (by exact xve2)];exact cV8
                       have zV9:(w8.setCell ⟨eb,jn,none⟩ (.bool true)).frozen? ⟨vb,jn,none⟩=false:=by rw [World.frozen?_setCell];exact zV
                       have cF9:(w8.setCell ⟨eb,jn,none⟩ (.bool true)).cell? ⟨fb,jn,none⟩=some xf:=by rw [World.cell?_setCell_far _ _ _ _ (by exact xfe2)];exact cF8
                       have zF9:(w8.setCell ⟨eb,jn,none⟩ (.bool true)).frozen? ⟨fb,jn,none⟩=false:=by rw [World.frozen?_setCell];exact zF
                       clear cE8 cV8 cF8 zE zV zF;generalize (w8.setCell ⟨eb,jn,none⟩ (.bool true))=w9 at *;go_upto_region 39 with fail
                       have cF10:(w9.setCell ⟨vb,jn,none⟩ (.int .i64 av)).cell? ⟨fb,jn,none⟩=some xf:=by rw [World.cell?_setCell_far _ _ _ _ (by exact xvf)];exact cF9
                       have zF10:(w9.setCell ⟨vb,jn,none⟩ (.int .i64 av)).frozen? ⟨fb,jn,none⟩=false:=by rw [World.frozen?_setCell];exact zF9
                       clear cV9 zV9 cF9 zF9;generalize (w9.setCell ⟨vb,jn,none⟩ (.int .i64 av))=w10 at *;go_wp2_with fail
                       go_roundg (m - (k+1))
                       case rel=>exact ⟨k+1,_,by simp,rfl,hkm,HQ9,HG9,HGI9,HI9,HX9,HR9,HB9⟩
                       case measure=>omega
              ·have hkl:¬ (k:Int)<(m:Int):=by omega
               have hkE:k=m:=by omega
               have HQ9:Hid (Wc.runR (Wc.srI rgt n) (i+1) (L.drop (i+1)) S2=q):=by
                show _=q
                have e:(ahF y tl i v f).drop k=[]:=List.drop_eq_nil_of_le (by rw [zC0,HAA.out,HML.out];omega);rw [<-HQ5.out,e];rfl
               clear HQ5 HGI HX5 HR5;go_wp2_with fail
               go_roundg (n - (i+1))
               case rel=>exact ⟨i+1,S2,by simp,rfl,hlt,HQ9,HG5,HI5,HB5⟩
               case measure=>omega
    ·have hli:¬ (i:Int)<(n:Int):=by omega
     have HQT:Hid (true=q):=by
      show true=q
      rw [<-HQ.out,List.drop_eq_nil_of_le (by rw [HL.out];omega)];rfl
     go_wp2;go_ret3
     exact ⟨⟨_,_,by rw [<-HQT.out];rfl⟩,by first | exact HB.out | (rw [<-HWV.out];exact HB.out)⟩
  ·have h16b:(yl.op != 16)=true:=by simp [h16]
   have HQF:Hid (q=false):=by
    show q=false
    rw [HQ1.out];simp [h16]
   clear HR HFO HT HL HN HQ1;go_enter func37,ntmps37;go_wp2;go_ret3
   exact ⟨⟨.slice none 0 0,.slice none 0 0,by rw [HQF.out];rfl⟩,Below.refl _ _⟩
