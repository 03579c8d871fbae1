/- KLawHom, KLaid, KLaidO. -/
import Derived.Test.YtpjadajhinghbaaGreatDoorQ42
import Derived.Lib.LaidTab
import Derived.Deep.Strs
import Derived.Stop.LaidErr
set_option maxHeartbeats 8000000
set_option maxRecDepth 100000
namespace Go.Proofs.YtpjadajhinghbaaGreatDoor
open Tryz
variable {W w:World} {rest:List (String × DataW Unit)}
abbrev zq11:Oper:=⟨some 15,.alloc 48,0,"outright.go:194",#[],none⟩
abbrev zq14:Oper:=⟨some 16,.alloc 48,0,"outright.go:194",#[],none⟩
abbrev zq12:Oper:=⟨none,.store 48 (.tmp 15) (.tmp 95),0,"outright.go:194",#[⟨8,.data⟩,⟨3,.data⟩,⟨0,.phase⟩,⟨1,.phase⟩,⟨2,.phase⟩,⟨3,.phase⟩,⟨4,.textOnly .lateStores⟩,⟨5,.textOnly .lateStores⟩,⟨6,.textOnly .lateStores⟩,⟨7,.textOnly .lateStores⟩,⟨8,.phase⟩,⟨9,.phase⟩],none⟩
abbrev zq13:Oper:=⟨none,.store 48 (.tmp 16) (.tmp 99),0,"outright.go:194",#[⟨9,.data⟩,⟨7,.data⟩,⟨10,.chain⟩,⟨0,.phase⟩,⟨1,.phase⟩,⟨2,.phase⟩,⟨3,.phase⟩,⟨4,.phase⟩,⟨5,.phase⟩,⟨6,.phase⟩,⟨7,.phase⟩,⟨8,.phase⟩,⟨9,.phase⟩,⟨10,.phase⟩],none⟩
open Go.RowKit Wf
set_option linter.unusedVariables false
theorem zq4 (a:Int) (n:Nat) (h0:0<n) (h1:n<=16):∃ ra xa:Int,a.tmod (n:Int)=ra/\IntKind.i64.wrap ra=ra/\IntKind.i64.wrap (ra+(n:Int))=ra+(n:Int)/\(ra+(n:Int)).tmod (n:Int)=xa/\IntKind.i64.wrap xa=xa/\0<=xa/\xa<(n:Int):=by
 have hn:(0:Int)<(n:Int):=by omega
 have b1:=Int.tmod_lt_of_pos a hn;have b2:-(n:Int)<a.tmod n:=by
  have h2:=Int.tmod_lt_of_pos (-a) hn;rw [Int.neg_tmod] at h2;omega
 have b3:=Int.tmod_lt_of_pos (a.tmod n+n) hn;have b4:0<=(a.tmod n+n).tmod n:=Int.tmod_nonneg _ (by omega);exact ⟨_,_,rfl,by rw [IntKind.wrap_i64];omega,by rw [IntKind.wrap_i64];omega,rfl,by rw [IntKind.wrap_i64];omega,b4,b3⟩
theorem zq9 {k:Nat} (hb:Below w.heap.size w W) (hk:w.heap.size<=k) (o:Nat) (v:Value):Below w.heap.size w (W.setCell ⟨k,o,none⟩ v):=zAo hb hk [v] o
theorem zq8 {E1 E2 h1 h2:Int} {C1 C2:List I} (hE:E1=E2) (h:HmL h1 h2 C1 C2):HmL h1 h2 (cdE E1 C1) (cdE E2 C2):=by
 unfold cdE;rw [hE];split
 ·exact h
 ·exact HmL.nil
theorem zq7 (l:List Wt.Nd) (nm:List ByteArray) (av:Option Addr) (m cap:Nat) (av3:Option Addr) (m3 cap3:Nat) (a b:Int) (w:World) (hm:m=l.length) (hm3:m3=nm.length) (hl:True->l.length<=9223372036854775807) (hl3:True->nm.length<=9223372036854775807) (hF:∀ x ∈ l,Wt.FitN x) (hr:RdN w av l) (hr3:RdS w av3 nm) (hno:av=none->m=0/\cap=0) (hno3:av3=none->m3=0/\cap3=0) (hN:NmAt w) (hO:OpsAt w) :
  CR 8 #[.slice av m cap,.int .i64 a,.int .i64 b,.slice av3 m3 cap3] w (.bool true):=by
 have AB:=zKZ w hN hO;have HNA:Hid (∀ W:World,Below w.heap.size w W->Calls prog 10 #[.slice av3 m3 cap3] W (NaP m3 W)):=λW hb=>zHP nm av3 m3 cap3 W hm3 (hl3 trivial) (hr3.below hb)
 have HALL:Hid (m<=20000->m3<=20000->∃ E C,FlC l nm E C):=λh1 h2=>zJd l nm (by omega) hF (by omega)
 have HTM:Hid (∀ a:Int,0<m3->m3<=16->∃ ra xa:Int,a.tmod (m3:Int)=ra/\IntKind.i64.wrap ra=ra/\IntKind.i64.wrap (ra+(m3:Int))=ra+(m3:Int)/\(ra+(m3:Int)).tmod (m3:Int)=xa/\IntKind.i64.wrap xa=xa/\0<=xa/\xa<(m3:Int)):=λa h0 h1=>zq4 a m3 h0 h1
 have HRN0:Hid (RdN w av l):=hr;have HRS0:Hid (RdS w av3 nm):=hr3;have HNO:Hid (av=none->m=0/\cap=0):=hno;have HNO3:Hid (av3=none->m3=0/\cap3=0):=hno3;have HMM:Hid (m=l.length/\m3=nm.length):=⟨hm,hm3⟩
 have HNM0:Hid (NmAt w/\OpsAt w):=⟨hN,hO⟩
 clear hm hm3 hl hl3 hF hr hr3 hno hno3 hN hO;go_enter func8,ntmps8;go_wp2_with fail
 refine AB.mono ?_;rintro e w1 ⟨rfl,hb1⟩;have HB1:Hid (Below w.heap.size w w1):=hb1;have NA:=HNA.out w1 HB1.out;clear AB HNA hb1;by_cases hm20:(20000:Int)<(m:Int)
 ·go_wp2;go_ret;exact ⟨rfl,HB1.out⟩
 have HM20:Hid (m<=20000):=by show _<=_;omega
 go_wp2_with fail
 refine NA.mono ?_;rintro e w2 ⟨⟨q,rfl,hq⟩,hb2⟩;have HB2:Hid (Below w.heap.size w w2):=zAB HB1.out hb2;have HQ:Hid (q=false->m3<=20000):=hq;clear NA HB1 hb2 hq;cases q with
 | true =>
  go_wp2;go_ret;exact ⟨rfl,HB2.out⟩
 | false =>
 by_cases hz:m3=0
 ·have hz1:((m3:Int) == 0)=true:=by simp [hz]
  clear hz;go_wp2;go_ret;exact ⟨rfl,HB2.out⟩
 have hz1:((m3:Int) == 0)=false:=by simp [hz]
 have hz2:¬ (m3:Int)=0:=by omega
 have HZ:Hid (0<m3):=by show _<_;omega
 clear hz;by_cases h16:(16:Int)<(m3:Int)
 ·go_wp2;go_ret;exact ⟨rfl,HB2.out⟩
 have H16:Hid (m3<=16):=by show _<=_;omega
 have h3:=HQ.out rfl;obtain ⟨E,C,hFL⟩:=HALL.out HM20.out h3;obtain ⟨ra,xa,ea1,ea2,ea3,ea4,ea5,ea6,ea7⟩:=HTM.out a HZ.out H16.out;obtain ⟨rb,xb,eb1,eb2,eb3,eb4,eb5,eb6,eb7⟩:=HTM.out b HZ.out H16.out;have HFL:Hid (FlC l nm E C):=hFL;have HM:Hid (m=l.length/\l.length<=20000):=⟨HMM.out.1,by have:=HM20.out;have:=HMM.out.1;omega⟩
 have HM3:Hid (m3=nm.length/\nm.length<=20000):=⟨HMM.out.2,by have:=HMM.out.2;omega⟩
 have HXA:Hid ((0<=xa/\xa<(m3:Int))/\0<=xb/\xb<(m3:Int)):=⟨⟨ea6,ea7⟩,eb6,eb7⟩
 clear hFL h3 HQ HALL HM20 HTM ea6 ea7 eb6 eb7;go_upto_region 6 with fail
 go_quiet (fail)
 have HBW1:Hid (Below w.heap.size w (w2.drewN nq)):=zBU HB2.out nq;generalize w2.drewN nq=W0 at *;clear HB2 ea1 ea2 ea3 ea4 ea5 eb1 eb2 eb3 eb4 eb5 hm20 hz1 hz2 h16;have HRN:Hid (RdN W0 av l):=HRN0.out.below HBW1.out;have HRS:Hid (RdS w av3 nm):=HRS0.out;have hA1:W0.heap.size<=(W0.alloc (.cells #[] 56)).heap.size:=by rw [World.size_alloc];exact Nat.le_succ _
 have hAb1:=zAK (Below.refl _ W0) (.cells #[] 56);go_wp2_with (first | (refine zq3 (by rfl) (.tmp 53) (.tmp 54) rfl W0.heap.size (W0.alloc (.cells #[] 56)) hA1 (.slice (some ⟨W0.heap.size,0,none⟩) 0 0) rfl (zBx W0 56 20) av l m cap HM.out.1 rfl (HRN.out.below hAb1) HNO.out (λ_=>Nat.le_trans HM.out.2 (by decide)) ?_;intro vN1 wn1 oN1 hg;have hC1:=zq1 (Below.refl _ W0) hg;have hD1:W0.heap.size<=(wn1.alloc (.cells #[] 9)).heap.size:=Nat.le_trans hC1.size (by rw [World.size_alloc];exact Nat.le_succ _);have hE1:=zAK hC1 (.cells #[] 9);clear hg hA1 hAb1) | (refine zq2 (by rfl) (.tmp 58) (.tmp 59) rfl W0.heap.size (wn1.alloc (.cells #[] 9)) hD1 (.slice (some ⟨wn1.heap.size,0,none⟩) 0 0) rfl (zBZ (zBx wn1 9 1) hC1.size) av3 nm m3 cap3 HM3.out.1 rfl (HRS.out.below (zAB HBW1.out hE1)) HNO3.out (λ_=>HM3.out.2) ?_;intro vS1 wt1 oS1 hg;have oM1:=zq6 oN1 hg;have hF1:=zq1 hC1 hg;clear hg hC1 hD1 hE1 oN1))
 have FL:=HFL.out.run xa 0 0 wt1 _ _ vN1 vS1 (by have:=HXA.out;have:=H16.out;omega) (HNM0.out.1.below (zAB HBW1.out hF1)) (HNM0.out.2.below (zAB HBW1.out hF1)) oM1 oS1;have HBX1:Hid (Below w.heap.size w wt1):=zAB HBW1.out hF1;clear oM1 oS1 hF1;refine FL.mono ?_;intro e W1 hfl;obtain ⟨fa,fc,rfl,hR1,hbf⟩:=zq5 hfl;have HR1:Hid (RdC W1 (.slice fa (cdE (E xa 0 0) (C xa)).length fc) (cdE (E xa 0 0) (C xa))):=hR1;have HBW2:Hid (Below w.heap.size w W1):=zAB HBX1.out hbf;clear FL hfl hR1 hbf HBX1 HBW1 HRN;obtain ⟨e1,he1⟩:∃ e1,E xa 0 0=e1:=⟨_,rfl⟩
 obtain ⟨L1,hL1⟩:∃ L1,cdE (E xa 0 0) (C xa)=L1:=⟨_,rfl⟩
 rw [hL1] at HR1;rw [hL1,he1];obtain ⟨n1,hn1⟩:∃ n1,L1.length=n1:=⟨_,rfl⟩
 rw [hn1] at HR1;rw [hn1];have HL1:Hid (cdE (E xa 0 0) (C xa)=L1/\E xa 0 0=e1/\L1.length=n1):=⟨hL1,he1,hn1⟩
 clear hL1 he1 hn1;have HRN:Hid (RdN W1 av l):=HRN0.out.below HBW2.out;have hA2:W1.heap.size<=(W1.alloc (.cells #[] 56)).heap.size:=by rw [World.size_alloc];exact Nat.le_succ _
 have hAb2:=zAK (Below.refl _ W1) (.cells #[] 56);go_wp2_with (first | (refine zq3 (by rfl) (.tmp 65) (.tmp 66) rfl W1.heap.size (W1.alloc (.cells #[] 56)) hA2 (.slice (some ⟨W1.heap.size,0,none⟩) 0 0) rfl (zBx W1 56 20) av l m cap HM.out.1 rfl (HRN.out.below hAb2) HNO.out (λ_=>Nat.le_trans HM.out.2 (by decide)) ?_;intro vN2 wn2 oN2 hg;have hC2:=zq1 (Below.refl _ W1) hg;have hD2:W1.heap.size<=(wn2.alloc (.cells #[] 9)).heap.size:=Nat.le_trans hC2.size (by rw [World.size_alloc];exact Nat.le_succ _);have hE2:=zAK hC2 (.cells #[] 9);clear hg hA2 hAb2) | (refine zq2 (by rfl) (.tmp 70) (.tmp 71) rfl W1.heap.size (wn2.alloc (.cells #[] 9)) hD2 (.slice (some ⟨wn2.heap.size,0,none⟩) 0 0) rfl (zBZ (zBx wn2 9 1) hC2.size) av3 nm m3 cap3 HM3.out.1 rfl (HRS.out.below (zAB HBW2.out hE2)) HNO3.out (λ_=>HM3.out.2) ?_;intro vS2 wt2 oS2 hg;have oM2:=zq6 oN2 hg;have hF2:=zq1 hC2 hg;clear hg hC2 hD2 hE2 oN2))
 have FL:=HFL.out.run xb 9 9 wt2 _ _ vN2 vS2 (by have:=HXA.out;have:=H16.out;omega) (HNM0.out.1.below (zAB HBW2.out hF2)) (HNM0.out.2.below (zAB HBW2.out hF2)) oM2 oS2;have HBX2:Hid (Below W1.heap.size W1 wt2):=hF2;clear oM2 oS2 hF2;refine FL.mono ?_;intro e W2 hfl;obtain ⟨ga,gc,rfl,hR2,hbf⟩:=zq5 hfl;have HBY:Hid (Below W1.heap.size W1 W2):=zAB HBX2.out hbf;have hHM:=HFL.out.hom xa xb HXA.out.1.1 (by have:=HXA.out.1.2;rw [<-HM3.out.1];exact this) HXA.out.2.1 (by have:=HXA.out.2.2;rw [<-HM3.out.1];exact this) (by rw [<-HM3.out.1];exact H16.out);have hHL:=zq8 hHM.1 hHM.2;rw [HL1.out.1] at hHL;have hE2:E xb 9 9=e1:=hHM.1.symm.trans HL1.out.2.1;have hfit:∀ x ∈ L1,x.2.length<=1000000:=λx hx=>by
  rw [<-HL1.out.1] at hx;unfold cdE at hx;split at hx
  ·rename_i q
   exact (zNu (HFL.out.right xa 0 0 q).1 x hx).1
  ·cases hx
 have hlen:n1<=20000:=by
  have h1:=HFL.out.len xa;rw [<-HL1.out.2.2,<-HL1.out.1];unfold cdE;split
  ·exact h1
  ·simp
 generalize cdE (E xb 9 9) (C xb)=L2 at *;have hn2:L2.length=n1:=hHL.len.symm.trans HL1.out.2.2;rw [hn2] at hR2;rw [hE2,hn2];have HR2:Hid (RdC W2 (.slice ga n1 gc) L2):=hR2;have HR1':Hid (RdC W2 (.slice fa n1 fc) L1):=HR1.out.below HBY.out;have HHL:Hid (HmL xa xb L1 L2):=hHL;have HFT:Hid (∀ x ∈ L1,x.2.length<=1000000):=hfit;have HNN:Hid (L1.length=n1/\L2.length=n1/\n1<=20000):=⟨HL1.out.2.2,hn2,hlen⟩
 have HBW3:Hid (Below w.heap.size w W2):=zAB HBW2.out HBY.out;clear FL hfl hR2 hbf HBX2 HBY hHM hHL hE2 hfit hlen hn2 HR1 HL1 HBW2 HRN HRN0 HRS0 HRS HNM0 HFL HM HM3 HNO HNO3 HMM HZ H16;have hne1:(e1 != e1)=false:=by simp
 have hne2:((n1:Int) != (n1:Int))=false:=by simp
 go_upto_region 12 with fail
 go_loopg [14] n1 (λgk u wr=>∃ i:Nat,u=.int .i64 (i:Int)/\gk=n1 - i/\i<=n1/\Hid (Below W2.heap.size W2 wr))
 case atStart=>exact ⟨0,rfl,rfl,Nat.zero_le _,Below.refl _ _⟩
 case round =>
  obtain ⟨i,rfl,hg,hi,HB⟩:=hrel;by_cases hlt:i<n1
  ·have hli:(i:Int)<(n1:Int):=by omega
   have hi0:(0:Int)<=(i:Int):=by omega
   have hwi:IntKind.i64.wrap ((i:Int)+1)=(i:Int)+1:=by rw [IntKind.wrap_i64];have:=HNN.out.2.2;omega
   have i1:i<L1.length:=by rw [HNN.out.1];exact hlt
   have i2:i<L2.length:=by rw [HNN.out.2.1];exact hlt
   obtain ⟨av1,k1,e1',r1⟩:=HR1'.out.below HB.out;obtain ⟨av2,k2,e2',r2⟩:=HR2.out.below HB.out;obtain ⟨b1,o1,p1,m1,c1,rfl,g1,z1,_⟩:=r1 i i1;obtain ⟨b2,o2,p2,m2,c2,rfl,g2,z2,_⟩:=r2 i i2;obtain ⟨ea,ex1,ec⟩:=Value.slice.inj e1';obtain ⟨ea2,ex2,ec2⟩:=Value.slice.inj e2';clear ex1 ex2 e1' e2';subst ea ec ea2 ec2;have hHI:=HHL.out.get i i1 i2;have hft:=HFT.out (L1[i]) (List.getElem_mem i1);obtain ⟨X,hX⟩:∃ X,L1[i]=X:=⟨_,rfl⟩
   obtain ⟨Y,hY⟩:∃ Y,L2[i]=Y:=⟨_,rfl⟩
   rw [hX] at g1 z1 hHI hft;rw [hY] at g2 z2 hHI;obtain ⟨x,tl⟩:=X;obtain ⟨y,tl2⟩:=Y;obtain ⟨ht,cc,ca,cp,ey,hce,har,hpr⟩:=hHI;replace ht:tl=tl2:=ht
   subst ht;simp only at g1 z1 g2 z2 ey hce har hpr hft;have HZZ:Hid (RdZ wr (.slice p1 m1 c1) tl/\RdZ wr (.slice p2 m2 c2) tl/\tl.length<=1000000):=⟨z1,z2,hft⟩
   have HEY:Hid (y = {x with ce:=cc,ar:=ca,pr:=cp}):=ey;have HHC:Hid (HmC xa xb x.ce cc/\HmA xa xb x.ar ca/\HmA xa xb x.pr cp):=⟨hce,har,hpr⟩
   clear r1 r2 i1 i2 hX hY z1 z2 hft ey hce har hpr;go_upto_region 14 with fail
   generalize hwr:wr=Wr0 at *;clear hwr;go_cut [15,16] (λv15 v16 wx=>∃ k15 k16,v15=.pointer (some ⟨k15,0,none⟩)/\v16=.pointer (some ⟨k16,0,none⟩)/\Hid (k15 ≠ k16/\Wr0.heap.size<=k15/\Wr0.heap.size<=k16)/\Hid (AtL wx k15 (zAD x (.slice p1 m1 c1)))/\Hid (AtL wx k16 (zAD y (.slice p2 m2 c2)))/\Hid (Below Wr0.heap.size Wr0 wx))
   case first =>
    have hC:Below Wr0.heap.size Wr0 Wr0.drew:=(Below.refl _ _).drew;refine wp_region_held_drew (S:=λW=>W.rangeAt b1 (o1+i * 23) (zAD x (.slice p1 m1 c1))/\W.rangeAt b2 (o2+i * 23) (zAD y (.slice p2 m2 c2))) (by kernel_rfl) ⟨zAG hC g1,zAG hC g2⟩ (λhHeld=>?_);generalize Wr0.drew=WD at *;refine tkQ 0 ⟨some 92,.move (.tmp 10),30,"outright.go:194",#[],none⟩ ?_
    refine tkQ 1 ⟨some 93,.move (.tmp 14),3,"outright.go:194",#[],none⟩ ?_
    refine tkQ 2 ⟨some 94,.indexAddr 30 (.tmp 92) (.tmp 93),0,"outright.go:194",#[⟨0,.data⟩,⟨1,.data⟩],none⟩ ?_
    refine wpAnyH_take (i:=3) (oi:=⟨some 95,.load 48 (.tmp 94),48,"outright.go:194",#[⟨2,.data⟩],none⟩) (v:=.agg (zAD x (.slice p1 m1 c1)).toArray) rfl (by kernel_rfl) (by kernel_rfl) (by kernel_rfl) (λ_ _ _ h=>h) (yieldsIf_load_mid (by rfl) 48 (.tmp 94) rfl b1 (o1+i * 23) rfl (zAD x (.slice p1 m1 c1)) _ (λ_ h=>h.1) underlying48 rfl (by kernel_rfl)) (by assumption) ?_;try simp only [Act.put,lA,lZ,lS]
    refine tkQ 4 ⟨some 96,.move (.tmp 12),30,"outright.go:194",#[⟨10,.gcOnly .lateStores⟩],none⟩ ?_
    refine tkQ 5 ⟨some 97,.move (.tmp 14),3,"outright.go:194",#[⟨10,.gcOnly .lateStores⟩],none⟩ ?_
    refine tkQ 6 ⟨some 98,.indexAddr 30 (.tmp 96) (.tmp 97),0,"outright.go:194",#[⟨4,.data⟩,⟨5,.data⟩,⟨10,.gcOnly .lateStores⟩],none⟩ ?_
    refine wpAnyH_take (i:=7) (oi:=⟨some 99,.load 48 (.tmp 98),48,"outright.go:194",#[⟨6,.data⟩,⟨10,.gcOnly .lateStores⟩],none⟩) (v:=.agg (zAD y (.slice p2 m2 c2)).toArray) rfl (by kernel_rfl) (by kernel_rfl) (by kernel_rfl) (λ_ _ _ h=>h) (yieldsIf_load_mid (by rfl) 48 (.tmp 98) rfl b2 (o2+i * 23) rfl (zAD y (.slice p2 m2 c2)) _ (λ_ h=>h.2) underlying48 rfl (by kernel_rfl)) (by assumption) ?_;try simp only [Act.put,lA,lZ,lS]
    refine wpAnyH_ready (rs:=[8,9]) (by kernel_rfl) (by simp) ?_;refine AllReadyH.cons (o:=zq11) rfl (λK hK=>?_) (AllReadyH.cons (o:=zq14) rfl (λK hK=>?_) AllReadyH.nil)
    ·have n0:=(AtL.new0 WD 48 zeros23.toList).alloc (.cells zeros23 48);have n1':=AtL.new1 WD (.cells zeros23 48) 48 zeros23.toList;have bA:=zAK (Below.refl _ WD) (.cells zeros23 48);have bB:=zAK bA (.cells zeros23 48);have sz1:=hC.size;go_simp
     refine hkQ hK ⟨zAG (zAB hC bA) g1,zAG (zAB hC bA) g2⟩ (λhHeld=>?_);clear hK K
     refine rdQ 9 zq14 (λK hK=>?_);go_simp
     refine hkQ hK ⟨zAG (zAB hC bB) g1,zAG (zAB hC bB) g2⟩ (λhHeld=>?_);clear hK K
     generalize (WD.alloc (.cells zeros23 48)).alloc (.cells zeros23 48)=WB at *;clear bA;have m15:=n0.setAll (vs:=zAD x (.slice p1 m1 c1)) rfl;have m16:=n1'.farAll (b:=WD.heap.size) (by omega) 0 (zAD x (.slice p1 m1 c1));have bC:=zAo bB (k:=WD.heap.size) (by omega) (zAD x (.slice p1 m1 c1)) 0;refine rdQ 10 zq12 (λK hK=>?_);refine wp_store_mid 48 (.tmp 15) (.tmp 95) rfl WD.heap.size 0 (zAD x (.slice p1 m1 c1)).toArray rfl rfl n0.there (by kernel_rfl) (zAa _ _ _ _) ?_;generalize WB.setCells WD.heap.size 0 (zAD x (.slice p1 m1 c1)).toArray.toList=WC at *;refine hK.out _ _ ⟨zAG (zAB hC bC) g1,zAG (zAB hC bC) g2⟩ (λhHeld=>?_);clear hK K n0 n1' bB;try simp only [Act.put]
     have q16:=m16.setAll (vs:=zAD y (.slice p2 m2 c2)) rfl;have q15:=m15.farAll (b:=(WD.heap.size+1)) (by omega) 0 (zAD y (.slice p2 m2 c2));have bD:=zAo bC (k:=(WD.heap.size+1)) (by omega) (zAD y (.slice p2 m2 c2)) 0;refine rdQ 11 zq13 (λK hK=>?_);refine wp_store_mid 48 (.tmp 16) (.tmp 99) rfl (WD.heap.size+1) 0 (zAD y (.slice p2 m2 c2)).toArray rfl rfl m16.there (by kernel_rfl) (zAa _ _ _ _) ?_;generalize WC.setCells (WD.heap.size+1) 0 (zAD y (.slice p2 m2 c2)).toArray.toList=WT at *;refine hK.out _ _ ⟨zAG (zAB hC bD) g1,zAG (zAB hC bD) g2⟩ (λhHeld=>?_);clear hK K;try simp only [Act.put]
     refine wpAnyH_done (by kernel_rfl) ?_ _;go_wp2_with fail
     go_meet
     case rel=>exact ⟨WD.heap.size,(WD.heap.size+1),rfl,rfl,⟨by omega,by omega,by omega⟩,q15,q16,zAB hC bD⟩
    ·have n0:=(AtL.new0 WD 48 zeros23.toList).alloc (.cells zeros23 48);have n1':=AtL.new1 WD (.cells zeros23 48) 48 zeros23.toList;have bA:=zAK (Below.refl _ WD) (.cells zeros23 48);have bB:=zAK bA (.cells zeros23 48);have sz1:=hC.size;go_simp
     refine hkQ hK ⟨zAG (zAB hC bA) g1,zAG (zAB hC bA) g2⟩ (λhHeld=>?_);clear hK K
     refine rdQ 8 zq11 (λK hK=>?_);go_simp
     refine hkQ hK ⟨zAG (zAB hC bB) g1,zAG (zAB hC bB) g2⟩ (λhHeld=>?_);clear hK K
     generalize (WD.alloc (.cells zeros23 48)).alloc (.cells zeros23 48)=WB at *;clear bA;have m15:=n1'.setAll (vs:=zAD x (.slice p1 m1 c1)) rfl;have m16:=n0.farAll (b:=(WD.heap.size+1)) (by omega) 0 (zAD x (.slice p1 m1 c1));have bC:=zAo bB (k:=(WD.heap.size+1)) (by omega) (zAD x (.slice p1 m1 c1)) 0;refine rdQ 10 zq12 (λK hK=>?_);refine wp_store_mid 48 (.tmp 15) (.tmp 95) rfl (WD.heap.size+1) 0 (zAD x (.slice p1 m1 c1)).toArray rfl rfl n1'.there (by kernel_rfl) (zAa _ _ _ _) ?_;generalize WB.setCells (WD.heap.size+1) 0 (zAD x (.slice p1 m1 c1)).toArray.toList=WC at *;refine hK.out _ _ ⟨zAG (zAB hC bC) g1,zAG (zAB hC bC) g2⟩ (λhHeld=>?_);clear hK K n0 n1' bB;try simp only [Act.put]
     have q16:=m16.setAll (vs:=zAD y (.slice p2 m2 c2)) rfl;have q15:=m15.farAll (b:=WD.heap.size) (by omega) 0 (zAD y (.slice p2 m2 c2));have bD:=zAo bC (k:=WD.heap.size) (by omega) (zAD y (.slice p2 m2 c2)) 0;refine rdQ 11 zq13 (λK hK=>?_);refine wp_store_mid 48 (.tmp 16) (.tmp 99) rfl WD.heap.size 0 (zAD y (.slice p2 m2 c2)).toArray rfl rfl m16.there (by kernel_rfl) (zAa _ _ _ _) ?_;generalize WC.setCells WD.heap.size 0 (zAD y (.slice p2 m2 c2)).toArray.toList=WT at *;refine hK.out _ _ ⟨zAG (zAB hC bD) g1,zAG (zAB hC bD) g2⟩ (λhHeld=>?_);clear hK K;try simp only [Act.put]
     refine wpAnyH_done (by kernel_rfl) ?_ _;go_wp2_with fail
     go_meet
     case rel=>exact ⟨(WD.heap.size+1),WD.heap.size,rfl,rfl,⟨by omega,by omega,by omega⟩,q15,q16,zAB hC bD⟩
   case rest =>
    obtain ⟨k15,k16,rfl,rfl,HKK,HA15,HA16,HBC⟩:=hcut;generalize hwc:wc=Wc1 at *;clear hwc;have a15:=HA15.out;have a16:=HA16.out;rw [HEY.out] at a16;obtain ⟨⟨sc,rfl,hc⟩,⟨sa,rfl,ha⟩,⟨sp,rfl,hp⟩⟩:=HHC.out;have c9:Wc1.cell? ⟨k15,9,none⟩=some (.int .i64 x.ce.s):=a15.2.1 9 _ rfl;have c12:Wc1.cell? ⟨k15,12,none⟩=some (.int .i64 x.ar.s):=a15.2.1 12 _ rfl;have c17:Wc1.cell? ⟨k15,17,none⟩=some (.int .i64 x.pr.s):=a15.2.1 17 _ rfl;have d9:Wc1.cell? ⟨k16,9,none⟩=some (.int .i64 sc):=a16.2.1 9 _ rfl;have d12:Wc1.cell? ⟨k16,12,none⟩=some (.int .i64 sa):=a16.2.1 12 _ rfl;have d17:Wc1.cell? ⟨k16,17,none⟩=some (.int .i64 sp):=a16.2.1 17 _ rfl;have HA16':Hid (AtL Wc1 k16 (zAD {x with ce:={x.ce with s:=sc},ar:={x.ar with s:=sa},pr:={x.pr with s:=sp}} (.slice p2 m2 c2))):=a16;clear a15 a16 HA16 HHC HEY;obtain ⟨s1,hs1⟩:∃ s,x.ce.s=s:=⟨_,rfl⟩
    obtain ⟨s2,hs2⟩:∃ s,x.ar.s=s:=⟨_,rfl⟩
    obtain ⟨s3,hs3⟩:∃ s,x.pr.s=s:=⟨_,rfl⟩
    rw [hs1] at c9 hc;rw [hs2] at c12 ha;rw [hs3] at c17 hp;have HSS:Hid (x.ce.s=s1/\x.ar.s=s2/\x.pr.s=s3):=⟨hs1,hs2,hs3⟩
    clear hs1 hs2 hs3;obtain ⟨b1',F1⟩:∃ u,(s1 != sc)=u:=⟨_,rfl⟩
    have G1:Hid (b1'=true->(s1 != xa)=false/\(sc != xb)=false):=λq=>by
     rw [q] at F1;rcases hc with z | z
     ·rw [z] at F1;simp at F1
     ·exact ⟨by rw [z.1];simp,by rw [z.2];simp⟩
    obtain ⟨b2',F2⟩:∃ u,(s2 != sa)=u:=⟨_,rfl⟩
    have G2:Hid (b2'=true->(s2 != xa)=false/\(sa != xb)=false):=λq=>by
     rw [q] at F2;rcases ha with z | z
     ·rw [z] at F2;simp at F2
     ·exact ⟨by rw [z.1];simp,by rw [z.2];simp⟩
    obtain ⟨b3',F3⟩:∃ u,(s3 != sp)=u:=⟨_,rfl⟩
    have G3:Hid (b3'=true->(s3 != xa)=false/\(sp != xb)=false):=λq=>by
     rw [q] at F3;rcases hp with z | z
     ·rw [z] at F3;simp at F3
     ·exact ⟨by rw [z.1];simp,by rw [z.2];simp⟩
    clear hc ha hp;go_upto_region 15 with fail
    go_cut [166] (λs wx=>s=.bool false/\Wc1=wx)
    case first =>
     clear HKK HA15 HA16' HBC HSS HZZ hne1 hne2 hwi hi0 hli hlt hg hi HB g1 g2 HR1' HR2 HHL HFT HNN HBW3 HXA;refine wp_region_lit ?_;refine zq0 ?_ (Or.inl ⟨by rfl,?_⟩) ?_;rotate_left
     ·go_simp
      try with_reducible rfl
     try simp only [Act.put,lA,lZ,lS]
     refine zq0 ?_ (Or.inl ⟨by rfl,?_⟩) ?_;rotate_left
     ·go_simp
      try with_reducible rfl
     try simp only [Act.put,lA,lZ,lS]
     refine zq0 ?_ (Or.inl ⟨by rfl,?_⟩) ?_;rotate_left
     ·go_simp
      try with_reducible rfl
     try simp only [Act.put,lA,lZ,lS]
     refine zq0 ?_ (Or.inl ⟨by rfl,?_⟩) ?_;rotate_left
     ·go_simp
      try with_reducible rfl
     try simp only [Act.put,lA,lZ,lS]
     refine zq0 ?_ (Or.inl ⟨by rfl,?_⟩) ?_;rotate_left
     ·go_simp
      try with_reducible rfl
     try simp only [Act.put,lA,lZ,lS]
     refine zq0 ?_ (Or.inl ⟨by rfl,?_⟩) ?_;rotate_left
     ·go_simp
      try with_reducible rfl
     try simp only [Act.put,lA,lZ,lS]
     refine zq0 (.bool b1') (Or.inl ⟨by rfl,by go_simp⟩) ?_;try simp only [Act.put,lA,lZ,lS]
     refine zq0 (.bool b1') (Or.inl ⟨by rfl,by go_simp⟩) ?_;try simp only [Act.put,lA,lZ,lS]
     refine zq0 (bif b1' then .pointer (some ⟨k15,9,none⟩) else undef) (by
      cases b1' with
      | false=>exact Or.inr ⟨by rfl,rfl⟩
      | true =>
       obtain ⟨y1,y2⟩:=G1.out rfl;refine Or.inl ⟨by rfl,?_⟩;simp only [cond_true];go_simp) ?_
     try simp only [Act.put,lA,lZ,lS]
     refine zq0 (bif b1' then .pointer (some ⟨k15,9,none⟩) else undef) (by
      cases b1' with
      | false=>exact Or.inr ⟨by rfl,rfl⟩
      | true =>
       obtain ⟨y1,y2⟩:=G1.out rfl;refine Or.inl ⟨by rfl,?_⟩;simp only [cond_true];go_simp) ?_
     try simp only [Act.put,lA,lZ,lS]
     refine zq0 (bif b1' then .int .i64 s1 else undef) (by
      cases b1' with
      | false=>exact Or.inr ⟨by rfl,rfl⟩
      | true =>
       obtain ⟨y1,y2⟩:=G1.out rfl;refine Or.inl ⟨by rfl,?_⟩;simp only [cond_true];go_simp) ?_
     try simp only [Act.put,lA,lZ,lS]
     refine zq0 (bif b1' then .int .i64 xa else undef) (by
      cases b1' with
      | false=>exact Or.inr ⟨by rfl,rfl⟩
      | true =>
       obtain ⟨y1,y2⟩:=G1.out rfl;refine Or.inl ⟨by rfl,?_⟩;simp only [cond_true];go_simp) ?_
     try simp only [Act.put,lA,lZ,lS]
     refine zq0 (bif b1' then .bool false else undef) (by
      cases b1' with
      | false=>exact Or.inr ⟨by rfl,rfl⟩
      | true =>
       obtain ⟨y1,y2⟩:=G1.out rfl;refine Or.inl ⟨by rfl,?_⟩;simp only [cond_true];go_simp) ?_
     try simp only [Act.put,lA,lZ,lS]
     refine zq0 (bif b1' then .bool false else undef) (by
      cases b1' with
      | false=>exact Or.inr ⟨by rfl,rfl⟩
      | true =>
       obtain ⟨y1,y2⟩:=G1.out rfl;refine Or.inl ⟨by rfl,?_⟩;simp only [cond_true];go_simp) ?_
     try simp only [Act.put,lA,lZ,lS]
     refine zq0 (bif b1' then .pointer (some ⟨k16,9,none⟩) else undef) (by
      cases b1' with
      | false=>exact Or.inr ⟨by rfl,rfl⟩
      | true =>
       obtain ⟨y1,y2⟩:=G1.out rfl;refine Or.inl ⟨by rfl,?_⟩;simp only [cond_true];go_simp) ?_
     try simp only [Act.put,lA,lZ,lS]
     refine zq0 (bif b1' then .pointer (some ⟨k16,9,none⟩) else undef) (by
      cases b1' with
      | false=>exact Or.inr ⟨by rfl,rfl⟩
      | true =>
       obtain ⟨y1,y2⟩:=G1.out rfl;refine Or.inl ⟨by rfl,?_⟩;simp only [cond_true];go_simp) ?_
     try simp only [Act.put,lA,lZ,lS]
     refine zq0 (bif b1' then .int .i64 sc else undef) (by
      cases b1' with
      | false=>exact Or.inr ⟨by rfl,rfl⟩
      | true =>
       obtain ⟨y1,y2⟩:=G1.out rfl;refine Or.inl ⟨by rfl,?_⟩;simp only [cond_true];go_simp) ?_
     try simp only [Act.put,lA,lZ,lS]
     refine zq0 (bif b1' then .int .i64 xb else undef) (by
      cases b1' with
      | false=>exact Or.inr ⟨by rfl,rfl⟩
      | true =>
       obtain ⟨y1,y2⟩:=G1.out rfl;refine Or.inl ⟨by rfl,?_⟩;simp only [cond_true];go_simp) ?_
     try simp only [Act.put,lA,lZ,lS]
     refine zq0 (bif b1' then .bool false else undef) (by
      cases b1' with
      | false=>exact Or.inr ⟨by rfl,rfl⟩
      | true =>
       obtain ⟨y1,y2⟩:=G1.out rfl;refine Or.inl ⟨by rfl,?_⟩;simp only [cond_true];go_simp) ?_
     try simp only [Act.put,lA,lZ,lS]
     refine zq0 (bif b1' then .bool false else undef) (by
      cases b1' with
      | false=>exact Or.inr ⟨by rfl,rfl⟩
      | true =>
       obtain ⟨y1,y2⟩:=G1.out rfl;refine Or.inl ⟨by rfl,?_⟩;simp only [cond_true];go_simp) ?_
     try simp only [Act.put,lA,lZ,lS]
     refine zq0 (.bool false) (by
      cases b1' with
      | false=>exact Or.inl ⟨by rfl,by (try simp only [cond_false]);go_simp⟩
      | true=>exact Or.inl ⟨by rfl,by (try simp only [cond_true]);go_simp⟩) ?_
     try simp only [Act.put,lA,lZ,lS]
     refine zq0 (.bool false) (Or.inl ⟨by rfl,by go_simp⟩) ?_;try simp only [Act.put,lA,lZ,lS]
     refine zq0 ?_ (Or.inl ⟨by rfl,?_⟩) ?_;rotate_left
     ·go_simp
      try with_reducible rfl
     try simp only [Act.put,lA,lZ,lS]
     refine zq0 ?_ (Or.inl ⟨by rfl,?_⟩) ?_;rotate_left
     ·go_simp
      try with_reducible rfl
     try simp only [Act.put,lA,lZ,lS]
     refine zq0 ?_ (Or.inl ⟨by rfl,?_⟩) ?_;rotate_left
     ·go_simp
      try with_reducible rfl
     try simp only [Act.put,lA,lZ,lS]
     refine zq0 ?_ (Or.inl ⟨by rfl,?_⟩) ?_;rotate_left
     ·go_simp
      try with_reducible rfl
     try simp only [Act.put,lA,lZ,lS]
     refine zq0 ?_ (Or.inl ⟨by rfl,?_⟩) ?_;rotate_left
     ·go_simp
      try with_reducible rfl
     try simp only [Act.put,lA,lZ,lS]
     refine zq0 ?_ (Or.inl ⟨by rfl,?_⟩) ?_;rotate_left
     ·go_simp
      try with_reducible rfl
     try simp only [Act.put,lA,lZ,lS]
     refine zq0 (.bool b2') (Or.inl ⟨by rfl,by go_simp⟩) ?_;try simp only [Act.put,lA,lZ,lS]
     refine zq0 (.bool b2') (Or.inl ⟨by rfl,by go_simp⟩) ?_;try simp only [Act.put,lA,lZ,lS]
     refine zq0 (bif b2' then .pointer (some ⟨k15,12,none⟩) else undef) (by
      cases b2' with
      | false=>exact Or.inr ⟨by rfl,rfl⟩
      | true =>
       obtain ⟨y1,y2⟩:=G2.out rfl;refine Or.inl ⟨by rfl,?_⟩;simp only [cond_true];go_simp) ?_
     try simp only [Act.put,lA,lZ,lS]
     refine zq0 (bif b2' then .pointer (some ⟨k15,12,none⟩) else undef) (by
      cases b2' with
      | false=>exact Or.inr ⟨by rfl,rfl⟩
      | true =>
       obtain ⟨y1,y2⟩:=G2.out rfl;refine Or.inl ⟨by rfl,?_⟩;simp only [cond_true];go_simp) ?_
     try simp only [Act.put,lA,lZ,lS]
     refine zq0 (bif b2' then .int .i64 s2 else undef) (by
      cases b2' with
      | false=>exact Or.inr ⟨by rfl,rfl⟩
      | true =>
       obtain ⟨y1,y2⟩:=G2.out rfl;refine Or.inl ⟨by rfl,?_⟩;simp only [cond_true];go_simp) ?_
     try simp only [Act.put,lA,lZ,lS]
     refine zq0 (bif b2' then .int .i64 xa else undef) (by
      cases b2' with
      | false=>exact Or.inr ⟨by rfl,rfl⟩
      | true =>
       obtain ⟨y1,y2⟩:=G2.out rfl;refine Or.inl ⟨by rfl,?_⟩;simp only [cond_true];go_simp) ?_
     try simp only [Act.put,lA,lZ,lS]
     refine zq0 (bif b2' then .bool false else undef) (by
      cases b2' with
      | false=>exact Or.inr ⟨by rfl,rfl⟩
      | true =>
       obtain ⟨y1,y2⟩:=G2.out rfl;refine Or.inl ⟨by rfl,?_⟩;simp only [cond_true];go_simp) ?_
     try simp only [Act.put,lA,lZ,lS]
     refine zq0 (bif b2' then .bool false else undef) (by
      cases b2' with
      | false=>exact Or.inr ⟨by rfl,rfl⟩
      | true =>
       obtain ⟨y1,y2⟩:=G2.out rfl;refine Or.inl ⟨by rfl,?_⟩;simp only [cond_true];go_simp) ?_
     try simp only [Act.put,lA,lZ,lS]
     refine zq0 (bif b2' then .pointer (some ⟨k16,12,none⟩) else undef) (by
      cases b2' with
      | false=>exact Or.inr ⟨by rfl,rfl⟩
      | true =>
       obtain ⟨y1,y2⟩:=G2.out rfl;refine Or.inl ⟨by rfl,?_⟩;simp only [cond_true];go_simp) ?_
     try simp only [Act.put,lA,lZ,lS]
     refine zq0 (bif b2' then .pointer (some ⟨k16,12,none⟩) else undef) (by
      cases b2' with
      | false=>exact Or.inr ⟨by rfl,rfl⟩
      | true =>
       obtain ⟨y1,y2⟩:=G2.out rfl;refine Or.inl ⟨by rfl,?_⟩;simp only [cond_true];go_simp) ?_
     try simp only [Act.put,lA,lZ,lS]
     refine zq0 (bif b2' then .int .i64 sa else undef) (by
      cases b2' with
      | false=>exact Or.inr ⟨by rfl,rfl⟩
      | true =>
       obtain ⟨y1,y2⟩:=G2.out rfl;refine Or.inl ⟨by rfl,?_⟩;simp only [cond_true];go_simp) ?_
     try simp only [Act.put,lA,lZ,lS]
     refine zq0 (bif b2' then .int .i64 xb else undef) (by
      cases b2' with
      | false=>exact Or.inr ⟨by rfl,rfl⟩
      | true =>
       obtain ⟨y1,y2⟩:=G2.out rfl;refine Or.inl ⟨by rfl,?_⟩;simp only [cond_true];go_simp) ?_
     try simp only [Act.put,lA,lZ,lS]
     refine zq0 (bif b2' then .bool false else undef) (by
      cases b2' with
      | false=>exact Or.inr ⟨by rfl,rfl⟩
      | true =>
       obtain ⟨y1,y2⟩:=G2.out rfl;refine Or.inl ⟨by rfl,?_⟩;simp only [cond_true];go_simp) ?_
     try simp only [Act.put,lA,lZ,lS]
     refine zq0 (bif b2' then .bool false else undef) (by
      cases b2' with
      | false=>exact Or.inr ⟨by rfl,rfl⟩
      | true =>
       obtain ⟨y1,y2⟩:=G2.out rfl;refine Or.inl ⟨by rfl,?_⟩;simp only [cond_true];go_simp) ?_
     try simp only [Act.put,lA,lZ,lS]
     refine zq0 (.bool false) (by
      cases b2' with
      | false=>exact Or.inl ⟨by rfl,by (try simp only [cond_false]);go_simp⟩
      | true=>exact Or.inl ⟨by rfl,by (try simp only [cond_true]);go_simp⟩) ?_
     try simp only [Act.put,lA,lZ,lS]
     refine zq0 (.bool false) (Or.inl ⟨by rfl,by go_simp⟩) ?_;try simp only [Act.put,lA,lZ,lS]
     refine zq0 (.bool false) (Or.inl ⟨by rfl,by go_simp⟩) ?_;try simp only [Act.put,lA,lZ,lS]
     refine zq0 ?_ (Or.inl ⟨by rfl,?_⟩) ?_;rotate_left
     ·go_simp
      try with_reducible rfl
     try simp only [Act.put,lA,lZ,lS]
     refine zq0 ?_ (Or.inl ⟨by rfl,?_⟩) ?_;rotate_left
     ·go_simp
      try with_reducible rfl
     try simp only [Act.put,lA,lZ,lS]
     refine zq0 ?_ (Or.inl ⟨by rfl,?_⟩) ?_;rotate_left
     ·go_simp
      try with_reducible rfl
     try simp only [Act.put,lA,lZ,lS]
     refine zq0 ?_ (Or.inl ⟨by rfl,?_⟩) ?_;rotate_left
     ·go_simp
      try with_reducible rfl
     try simp only [Act.put,lA,lZ,lS]
     refine zq0 ?_ (Or.inl ⟨by rfl,?_⟩) ?_;rotate_left
     ·go_simp
      try with_reducible rfl
     try simp only [Act.put,lA,lZ,lS]
     refine zq0 ?_ (Or.inl ⟨by rfl,?_⟩) ?_;rotate_left
     ·go_simp
      try with_reducible rfl
     try simp only [Act.put,lA,lZ,lS]
     refine zq0 (.bool b3') (Or.inl ⟨by rfl,by go_simp⟩) ?_;try simp only [Act.put,lA,lZ,lS]
     refine zq0 (.bool b3') (Or.inl ⟨by rfl,by go_simp⟩) ?_;try simp only [Act.put,lA,lZ,lS]
     refine zq0 (bif b3' then .pointer (some ⟨k15,17,none⟩) else undef) (by
      cases b3' with
      | false=>exact Or.inr ⟨by rfl,rfl⟩
      | true =>
       obtain ⟨y1,y2⟩:=G3.out rfl;refine Or.inl ⟨by rfl,?_⟩;simp only [cond_true];go_simp) ?_
     try simp only [Act.put,lA,lZ,lS]
     refine zq0 (bif b3' then .pointer (some ⟨k15,17,none⟩) else undef) (by
      cases b3' with
      | false=>exact Or.inr ⟨by rfl,rfl⟩
      | true =>
       obtain ⟨y1,y2⟩:=G3.out rfl;refine Or.inl ⟨by rfl,?_⟩;simp only [cond_true];go_simp) ?_
     try simp only [Act.put,lA,lZ,lS]
     refine zq0 (bif b3' then .int .i64 s3 else undef) (by
      cases b3' with
      | false=>exact Or.inr ⟨by rfl,rfl⟩
      | true =>
       obtain ⟨y1,y2⟩:=G3.out rfl;refine Or.inl ⟨by rfl,?_⟩;simp only [cond_true];go_simp) ?_
     try simp only [Act.put,lA,lZ,lS]
     refine zq0 (bif b3' then .int .i64 xa else undef) (by
      cases b3' with
      | false=>exact Or.inr ⟨by rfl,rfl⟩
      | true =>
       obtain ⟨y1,y2⟩:=G3.out rfl;refine Or.inl ⟨by rfl,?_⟩;simp only [cond_true];go_simp) ?_
     try simp only [Act.put,lA,lZ,lS]
     refine zq0 (bif b3' then .bool false else undef) (by
      cases b3' with
      | false=>exact Or.inr ⟨by rfl,rfl⟩
      | true =>
       obtain ⟨y1,y2⟩:=G3.out rfl;refine Or.inl ⟨by rfl,?_⟩;simp only [cond_true];go_simp) ?_
     try simp only [Act.put,lA,lZ,lS]
     refine zq0 (bif b3' then .bool false else undef) (by
      cases b3' with
      | false=>exact Or.inr ⟨by rfl,rfl⟩
      | true =>
       obtain ⟨y1,y2⟩:=G3.out rfl;refine Or.inl ⟨by rfl,?_⟩;simp only [cond_true];go_simp) ?_
     try simp only [Act.put,lA,lZ,lS]
     refine zq0 (bif b3' then .pointer (some ⟨k16,17,none⟩) else undef) (by
      cases b3' with
      | false=>exact Or.inr ⟨by rfl,rfl⟩
      | true =>
       obtain ⟨y1,y2⟩:=G3.out rfl;refine Or.inl ⟨by rfl,?_⟩;simp only [cond_true];go_simp) ?_
     try simp only [Act.put,lA,lZ,lS]
     refine zq0 (bif b3' then .pointer (some ⟨k16,17,none⟩) else undef) (by
      cases b3' with
      | false=>exact Or.inr ⟨by rfl,rfl⟩
      | true =>
       obtain ⟨y1,y2⟩:=G3.out rfl;refine Or.inl ⟨by rfl,?_⟩;simp only [cond_true];go_simp) ?_
     try simp only [Act.put,lA,lZ,lS]
     refine zq0 (bif b3' then .int .i64 sp else undef) (by
      cases b3' with
      | false=>exact Or.inr ⟨by rfl,rfl⟩
      | true =>
       obtain ⟨y1,y2⟩:=G3.out rfl;refine Or.inl ⟨by rfl,?_⟩;simp only [cond_true];go_simp) ?_
     try simp only [Act.put,lA,lZ,lS]
     refine zq0 (bif b3' then .int .i64 xb else undef) (by
      cases b3' with
      | false=>exact Or.inr ⟨by rfl,rfl⟩
      | true =>
       obtain ⟨y1,y2⟩:=G3.out rfl;refine Or.inl ⟨by rfl,?_⟩;simp only [cond_true];go_simp) ?_
     try simp only [Act.put,lA,lZ,lS]
     refine zq0 (bif b3' then .bool false else undef) (by
      cases b3' with
      | false=>exact Or.inr ⟨by rfl,rfl⟩
      | true =>
       obtain ⟨y1,y2⟩:=G3.out rfl;refine Or.inl ⟨by rfl,?_⟩;simp only [cond_true];go_simp) ?_
     try simp only [Act.put,lA,lZ,lS]
     refine zq0 (bif b3' then .bool false else undef) (by
      cases b3' with
      | false=>exact Or.inr ⟨by rfl,rfl⟩
      | true =>
       obtain ⟨y1,y2⟩:=G3.out rfl;refine Or.inl ⟨by rfl,?_⟩;simp only [cond_true];go_simp) ?_
     try simp only [Act.put,lA,lZ,lS]
     refine zq0 (.bool false) (by
      cases b3' with
      | false=>exact Or.inl ⟨by rfl,by (try simp only [cond_false]);go_simp⟩
      | true=>exact Or.inl ⟨by rfl,by (try simp only [cond_true]);go_simp⟩) ?_
     try simp only [Act.put,lA,lZ,lS]
     refine zq0 (.bool false) (Or.inl ⟨by rfl,by go_simp⟩) ?_;try simp only [Act.put,lA,lZ,lS]
     go_wp2_with fail
     go_meet
     case rel=>exact ⟨rfl,rfl⟩
    case rest =>
     obtain ⟨rfl,rfl⟩:=hcut;clear c9 c12 c17 d9 d12 d17 F1 F2 F3 G1 G2 G3;have p15:AtL Wc1.drew k15 ((zAD x (.slice p1 m1 c1)).set 9 (.int .i64 s1) |>.set 12 (.int .i64 s2) |>.set 17 (.int .i64 s3)):=by
      have e:((zAD x (.slice p1 m1 c1)).set 9 (.int .i64 s1) |>.set 12 (.int .i64 s2) |>.set 17 (.int .i64 s3))=zAD x (.slice p1 m1 c1):=by rw [<-HSS.out.1,<-HSS.out.2.1,<-HSS.out.2.2];rfl
      rw [e];exact HA15.out.drew
     have p16:=HA16'.out.drew;have hC:Below Wr0.heap.size Wr0 Wc1.drew:=HBC.out.drew;have hK1:=HKK.out;clear HA15 HA16' HBC HKK;go_upto_region 17 with fail
     refine wp_region_held_drew (S:=λW=>W.cell? ⟨k15,9,none⟩=some (.int .i64 s1)/\W.cell? ⟨k15,12,none⟩=some (.int .i64 s2)/\W.cell? ⟨k15,17,none⟩=some (.int .i64 s3)) (by kernel_rfl) ⟨p15.2.1 9 _ rfl,p15.2.1 12 _ rfl,p15.2.1 17 _ rfl⟩ (λhHeld=>?_);generalize Wc1.drew=WE at *;refine tkQ 0 ⟨some 167,.fieldAddr 48 (.tmp 15) 4,0,"outright.go:198",#[],none⟩ ?_
     refine tkQ 1 ⟨some 168,.fieldAddr 24 (.tmp 167) 0,0,"outright.go:198",#[⟨0,.data⟩],none⟩ ?_
     refine tkQ 2 ⟨some 169,.load 3 (.tmp 168),3,"outright.go:198",#[⟨1,.data⟩],none⟩ ?_
     refine tkQ 3 ⟨some 170,.fieldAddr 48 (.tmp 15) 5,0,"outright.go:198",#[⟨11,.gcOnly .lateStores⟩],none⟩ ?_
     refine tkQ 4 ⟨some 171,.fieldAddr 45 (.tmp 170) 0,0,"outright.go:198",#[⟨3,.data⟩,⟨11,.gcOnly .lateStores⟩],none⟩ ?_
     refine tkQ 5 ⟨some 172,.load 3 (.tmp 171),3,"outright.go:198",#[⟨4,.data⟩,⟨11,.gcOnly .lateStores⟩],none⟩ ?_
     refine tkQ 6 ⟨some 173,.fieldAddr 48 (.tmp 15) 6,0,"outright.go:198",#[⟨14,.gcOnly .lateStores⟩],none⟩ ?_
     refine tkQ 7 ⟨some 174,.fieldAddr 45 (.tmp 173) 0,0,"outright.go:198",#[⟨6,.data⟩,⟨14,.gcOnly .lateStores⟩],none⟩ ?_
     refine tkQ 8 ⟨some 175,.load 3 (.tmp 174),3,"outright.go:198",#[⟨7,.data⟩,⟨14,.gcOnly .lateStores⟩],none⟩ ?_
     refine tkQ 9 ⟨some 176,.fieldAddr 48 (.tmp 16) 4,0,"outright.go:198",#[⟨0,.phase⟩,⟨1,.phase⟩,⟨2,.phase⟩,⟨3,.textOnly .lateStores⟩,⟨4,.textOnly .lateStores⟩,⟨5,.textOnly .lateStores⟩,⟨6,.textOnly .lateStores⟩,⟨7,.textOnly .lateStores⟩,⟨8,.textOnly .lateStores⟩],none⟩ ?_
     refine tkQ 10 ⟨some 177,.fieldAddr 24 (.tmp 176) 0,0,"outright.go:198",#[⟨9,.data⟩,⟨0,.phase⟩,⟨1,.phase⟩,⟨2,.phase⟩,⟨3,.textOnly .lateStores⟩,⟨4,.textOnly .lateStores⟩,⟨5,.textOnly .lateStores⟩,⟨6,.textOnly .lateStores⟩,⟨7,.textOnly .lateStores⟩,⟨8,.textOnly .lateStores⟩],none⟩ ?_
     refine rdQ 11 ⟨none,.store 3 (.tmp 177) (.tmp 169),0,"outright.go:198",#[⟨10,.data⟩,⟨2,.data⟩,⟨0,.phase⟩,⟨1,.phase⟩,⟨2,.phase⟩,⟨3,.textOnly .lateStores⟩,⟨4,.textOnly .lateStores⟩,⟨5,.textOnly .lateStores⟩,⟨6,.textOnly .lateStores⟩,⟨7,.textOnly .lateStores⟩,⟨8,.textOnly .lateStores⟩],none⟩ (λK hK=>?_);have z0:WE.frozen? ⟨k16,9,none⟩=false:=p16.2.2 9 (by show 9<23;decide);obtain ⟨zv,z1⟩:∃ v,WE.cell? ⟨k16,9,none⟩=some v:=⟨_,p16.2.1 9 _ rfl⟩
     replace p15:=p15.far (j:=k16) hK1.1.symm 9 (.int .i64 s1)
     replace p16:=p16.set 9 (.int .i64 s1)
     replace hC:=zq9 hC hK1.2.2 9 (.int .i64 s1)
     go_simp
     refine hK.out _ _ ⟨p15.2.1 9 _ rfl,p15.2.1 12 _ rfl,p15.2.1 17 _ rfl⟩ (λhHeld=>?_);clear hK K z0 z1;try simp only [Act.put]
     generalize WE.setCell ⟨k16,9,none⟩ (.int .i64 s1)=WE1 at *;refine tkQ 12 ⟨some 178,.fieldAddr 48 (.tmp 16) 5,0,"outright.go:198",#[⟨0,.phase⟩,⟨1,.phase⟩,⟨2,.phase⟩,⟨3,.phase⟩,⟨4,.phase⟩,⟨5,.phase⟩,⟨6,.textOnly .lateStores⟩,⟨7,.textOnly .lateStores⟩,⟨8,.textOnly .lateStores⟩,⟨9,.phase⟩,⟨10,.phase⟩,⟨11,.phase⟩],none⟩ ?_
     refine tkQ 13 ⟨some 179,.fieldAddr 45 (.tmp 178) 0,0,"outright.go:198",#[⟨12,.data⟩,⟨0,.phase⟩,⟨1,.phase⟩,⟨2,.phase⟩,⟨3,.phase⟩,⟨4,.phase⟩,⟨5,.phase⟩,⟨6,.textOnly .lateStores⟩,⟨7,.textOnly .lateStores⟩,⟨8,.textOnly .lateStores⟩,⟨9,.phase⟩,⟨10,.phase⟩,⟨11,.phase⟩],none⟩ ?_
     refine rdQ 14 ⟨none,.store 3 (.tmp 179) (.tmp 172),0,"outright.go:198",#[⟨13,.data⟩,⟨5,.data⟩,⟨11,.chain⟩,⟨0,.phase⟩,⟨1,.phase⟩,⟨2,.phase⟩,⟨3,.phase⟩,⟨4,.phase⟩,⟨5,.phase⟩,⟨6,.textOnly .lateStores⟩,⟨7,.textOnly .lateStores⟩,⟨8,.textOnly .lateStores⟩,⟨9,.phase⟩,⟨10,.phase⟩,⟨11,.phase⟩],none⟩ (λK hK=>?_);have z0:WE1.frozen? ⟨k16,12,none⟩=false:=p16.2.2 12 (by show 12<23;decide);obtain ⟨zv,z1⟩:∃ v,WE1.cell? ⟨k16,12,none⟩=some v:=⟨_,p16.2.1 12 _ rfl⟩
     replace p15:=p15.far (j:=k16) hK1.1.symm 12 (.int .i64 s2)
     replace p16:=p16.set 12 (.int .i64 s2)
     replace hC:=zq9 hC hK1.2.2 12 (.int .i64 s2)
     go_simp
     refine hK.out _ _ ⟨p15.2.1 9 _ rfl,p15.2.1 12 _ rfl,p15.2.1 17 _ rfl⟩ (λhHeld=>?_);clear hK K z0 z1;try simp only [Act.put]
     generalize WE1.setCell ⟨k16,12,none⟩ (.int .i64 s2)=WE2 at *;refine tkQ 15 ⟨some 180,.fieldAddr 48 (.tmp 16) 6,0,"outright.go:198",#[⟨0,.phase⟩,⟨1,.phase⟩,⟨2,.phase⟩,⟨3,.phase⟩,⟨4,.phase⟩,⟨5,.phase⟩,⟨6,.phase⟩,⟨7,.phase⟩,⟨8,.phase⟩,⟨9,.phase⟩,⟨10,.phase⟩,⟨11,.phase⟩,⟨12,.phase⟩,⟨13,.phase⟩,⟨14,.phase⟩],none⟩ ?_
     refine tkQ 16 ⟨some 181,.fieldAddr 45 (.tmp 180) 0,0,"outright.go:198",#[⟨15,.data⟩,⟨0,.phase⟩,⟨1,.phase⟩,⟨2,.phase⟩,⟨3,.phase⟩,⟨4,.phase⟩,⟨5,.phase⟩,⟨6,.phase⟩,⟨7,.phase⟩,⟨8,.phase⟩,⟨9,.phase⟩,⟨10,.phase⟩,⟨11,.phase⟩,⟨12,.phase⟩,⟨13,.phase⟩,⟨14,.phase⟩],none⟩ ?_
     refine rdQ 17 ⟨none,.store 3 (.tmp 181) (.tmp 175),0,"outright.go:198",#[⟨16,.data⟩,⟨8,.data⟩,⟨14,.chain⟩,⟨0,.phase⟩,⟨1,.phase⟩,⟨2,.phase⟩,⟨3,.phase⟩,⟨4,.phase⟩,⟨5,.phase⟩,⟨6,.phase⟩,⟨7,.phase⟩,⟨8,.phase⟩,⟨9,.phase⟩,⟨10,.phase⟩,⟨11,.phase⟩,⟨12,.phase⟩,⟨13,.phase⟩,⟨14,.phase⟩],none⟩ (λK hK=>?_);have z0:WE2.frozen? ⟨k16,17,none⟩=false:=p16.2.2 17 (by show 17<23;decide);obtain ⟨zv,z1⟩:∃ v,WE2.cell? ⟨k16,17,none⟩=some v:=⟨_,p16.2.1 17 _ rfl⟩
     replace p15:=p15.far (j:=k16) hK1.1.symm 17 (.int .i64 s3)
     replace p16:=p16.set 17 (.int .i64 s3)
     replace hC:=zq9 hC hK1.2.2 17 (.int .i64 s3)
     go_simp
     refine hK.out _ _ ⟨p15.2.1 9 _ rfl,p15.2.1 12 _ rfl,p15.2.1 17 _ rfl⟩ (λhHeld=>?_);clear hK K z0 z1;try simp only [Act.put]
     generalize WE2.setCell ⟨k16,17,none⟩ (.int .i64 s3)=WE3 at *;refine wpAnyH_done (by kernel_rfl) ?_ _;have q15:AtL WE3 k15 (zAD x (.slice p1 m1 c1)):=by
      have e:((zAD x (.slice p1 m1 c1)).set 9 (.int .i64 s1) |>.set 12 (.int .i64 s2) |>.set 17 (.int .i64 s3))=zAD x (.slice p1 m1 c1):=by rw [<-HSS.out.1,<-HSS.out.2.1,<-HSS.out.2.2];rfl
      rw [e] at p15;exact p15
     have q16:AtL WE3 k16 (zAD x (.slice p2 m2 c2)):=by
      rw [<-HSS.out.1,<-HSS.out.2.1,<-HSS.out.2.2] at p16;exact p16
     have r15:=q15.range;have r16:=q16.range;have ON:=zq15 x tl p1 p2 m1 m2 c1 c2 WE3 (HZZ.out.1.below hC) (HZZ.out.2.1.below hC) HZZ.out.2.2;have HCC:Hid (Below Wr0.heap.size Wr0 WE3):=hC;clear p15 p16 q15 q16 hC hK1 HSS HZZ;go_wp2_with (first | (refine zAA (by rfl) 48 (.tmp 15) rfl k15 0 rfl (zAD x (.slice p1 m1 c1)) _ r15 underlying48 rfl (by kernel_rfl) ?_) | (refine zAA (by rfl) 48 (.tmp 16) rfl k16 0 rfl (zAD x (.slice p2 m2 c2)) _ r16 underlying48 rfl (by kernel_rfl) ?_))
     refine ON.mono ?_;rintro e wz ⟨rfl,hbz⟩;have HB':Hid (Below W2.heap.size W2 wz):=zAB HB.out (zAB HCC.out hbz);clear ON hbz r15 r16 HCC HB;go_wp2_with fail
     go_roundg (n1 - (i+1))
     case rel=>exact ⟨i+1,by simp,rfl,hlt,HB'⟩
     case measure=>omega
  ·have hli:¬ (i:Int)<(n1:Int):=by omega
   go_wp2;go_ret;exact ⟨rfl,zAB HBW3.out HB.out⟩
open Go.RowKit
theorem zCo {H:Type} {enc:TypeId × Value->H} {P:Program} {base:Nat} {sp:Nat->Bool} {held:Bool} {fuel:Nat} {t e:TypeId} {n c:Nat} {cs:List Value} {ds:List (DataW H)} {p:List MemPlace}
  (ht:P.underlying t=some (.array n e)) (hce:P.cellsOf e=c) (hct:P.cellsOf t=n * c)
  (h:DataW.trod enc P w base sp held fuel t cs=some (.agg ds,p)):cs.length=n * c/\ds.length=n/\∀ i d,ds[i]? = some d->∃ fuel' p',DataW.trod enc P w base sp held fuel' e ((cs.drop (i * c)).take c)=some (d,p'):=by
 cases fuel with
 | zero=>simp [DataW.trod] at h
 | succ fuel =>
  simp only [DataW.trod,ht,hce,hct] at h;split at h
  ·rename_i hl
   obtain ⟨xs,hm,hx⟩:=Option.map_eq_some_iff.1 h;have hxs:xs.map (·.1)=ds:=by
    have:=congrArg Prod.fst hx;simpa using this
   have hxl:xs.length=n:=by simpa using Lib.mapM_length hm
   refine ⟨by simpa using hl,by rw [<-hxs];simpa using hxl,λi d hd=>?_⟩;have hi:i<n:=by
    have:=(List.getElem?_eq_some_iff.1 hd).1;rw [<-hxs,List.length_map] at this;omega
   obtain ⟨b,hb,hf⟩:=Lib.mapM_at hm i i (by simp [hi]);have:(xs.map (·.1))[i]? = some b.1:=by simp [hb]
   rw [hxs,hd] at this;obtain rfl:=Option.some.inj this;exact ⟨fuel,b.2,hf⟩
  ·cases h
theorem zRI (h:laidMet prog (("whittle/funcs.names",.agg (fnN.map λx=>.lit (.string x)))::rest) W):NmAt W:=by
 obtain ⟨ps,⟨g',t',cs,fuel,p,q,hg',ht',hvar,hd,_,_⟩,_⟩:=h;have hg:prog.globalNamed "whittle/funcs.names" = some 0:=by kernel_rfl
 have hty:(prog.globals[0]?).map (·.type)=some 100:=by kernel_rfl
 obtain rfl:=Option.some.inj (hg.symm.trans hg');obtain rfl:=Option.some.inj (hty.symm.trans ht');obtain ⟨h1,h2,h3⟩:=zCo (n:=63) (c:=1) (e:=9) underlying100 (by kernel_rfl) (by kernel_rfl) hd;intro j v hv;unfold nmR at hv;rw [List.getElem?_map] at hv;obtain ⟨x,hx,rfl⟩:=Option.map_eq_some_iff.1 hv;obtain ⟨fu,p',ht⟩:=h3 j (.lit (.string x)) (by rw [List.getElem?_map,hx];rfl);obtain ⟨s,e1,e2,_⟩:=DataW.trod_string underlying9 ht;simp only [Prod.mk.injEq,DataW.lit.injEq,Lit.string.injEq] at e2;rw [Nat.zero_add,World.var?_cell hg hvar j];have:cs.toList[j]? = some (.string s):=by
  have:=congrArg (·[0]?) e1;simpa [List.getElem?_take,List.getElem?_drop] using this
 rw [Array.getElem?_toList] at this;have es:s=⟨x.toArray⟩:=by
  apply ByteArray.ext
  apply Array.ext'
  exact e2.1.symm
 rw [this,es]
theorem zRA {s:ByteArray} {l:List UInt8} (h:s.data.toList=l):s=⟨l.toArray⟩:=by
 apply ByteArray.ext
 apply Array.ext'
 rw [h]
theorem zPT {α β:Type} (f:α->List β) (hf:∀ x,(f x).length=3):∀ (l:List α) (i:Nat) (hi:i<l.length) (r:Nat),r<3->(l.flatMap f)[i * 3+r]? = (f l[i])[r]?
 | [],i,hi,r,hr=>absurd hi (Nat.not_lt_zero _)
 | x::l,0,hi,r,hr=>by
  rw [List.flatMap_cons,List.getElem?_append_left (by rw [hf];omega)];simp
 | x::l,i+1,hi,r,hr=>by
  rw [List.flatMap_cons,List.getElem?_append_right (by rw [hf];omega),hf,show (i+1) * 3+r - 3=i * 3+r by omega];rw [zPT f hf l i (by simpa using hi) r hr];simp
theorem zPq (h:laidMet prog (("whittle/tree.operators",.agg (Wt.opsT.map λx=>.agg [.lit (.int .i64 x.1),.lit (.string x.2.1),.lit (.int .i64 x.2.2)]))::rest) W):OpsAt W:=by
 obtain ⟨ps,⟨g',t',cs,fuel,p,q,hg',ht',hvar,hd,_,_⟩,_⟩:=h;have hg:prog.globalNamed "whittle/tree.operators" = some 1:=by kernel_rfl
 have hty:(prog.globals[1]?).map (·.type)=some 181:=by kernel_rfl
 obtain rfl:=Option.some.inj (hg.symm.trans hg');obtain rfl:=Option.some.inj (hty.symm.trans ht');obtain ⟨h1,h2,h3⟩:=zCo (n:=15) (c:=3) (e:=155) underlying181 (by kernel_rfl) (by kernel_rfl) hd;have c3:prog.cellsOf 3=1:=by kernel_rfl
 have c9:prog.cellsOf 9=1:=by kernel_rfl
 have key:∀ i x,Wt.opsT[i]? = some x->cs.toList[i * 3]? = some (.int .i64 x.1)/\cs.toList[i * 3+1]? = some (.string ⟨x.2.1.toArray⟩)/\cs.toList[i * 3+2]? = some (.int .i64 x.2.2):=by
  intro i x hx;obtain ⟨fu,p',ht⟩:=h3 i _ (by rw [List.getElem?_map,hx];rfl);obtain ⟨y0,y1,y2,n,e,-,t0,t1,t2⟩:=Deep.trod_struct3 underlying155 ht;simp only [Prod.mk.injEq,DataW.agg.injEq,List.cons.injEq,and_true] at e;obtain ⟨z0,f0,g0,_⟩:=DataW.trod_int underlying3 t0;obtain ⟨z1,f1,g1,_⟩:=DataW.trod_string underlying9 t1;obtain ⟨z2,f2,g2,_⟩:=DataW.trod_int underlying3 t2;subst g0 g1 g2;simp only [DataW.lit.injEq,Lit.int.injEq,Lit.string.injEq,true_and] at e;obtain ⟨⟨rfl,e1,rfl⟩,-⟩:=e;simp only [c3] at f0 f2;simp only [c9] at f1;have q0:=congrArg (·[0]?) f0;have q1:=congrArg (·[0]?) f1;have q2:=congrArg (·[0]?) f2;simp [List.getElem?_drop] at q0 q1 q2;refine ⟨?_,?_,?_⟩
  ·rw [Array.getElem?_toList];exact q0
  ·rw [Array.getElem?_toList,q1,zRA e1.symm]
  ·rw [Array.getElem?_toList];exact q2
 intro j v hv;rw [Nat.zero_add,World.var?_cell hg hvar j];have hj:j<45:=by
  have:=(List.getElem?_eq_some_iff.1 hv).1;have e:opsR.length=45:=rfl;omega
 have hi:j / 3<Wt.opsT.length:=by show j / 3<15;omega
 obtain ⟨k0,k1,k2⟩:=key (j / 3) _ (List.getElem?_eq_getElem hi);have hf:=zPT (λx:Int × List UInt8 × Int=>([.int .i64 x.1,.string ⟨x.2.1.toArray⟩,.int .i64 x.2.2]:List Value)) (λ_=>rfl) Wt.opsT (j / 3) hi;have hm:j % 3=0 \/ j % 3=1 \/ j % 3=2:=by omega
 rcases hm with hm | hm | hm
 ·have e:j=j / 3 * 3+0:=by omega
  have:=hf 0 (by decide);rw [<-e] at this;rw [show opsR[j]? = _ from this] at hv;rw [show j=j / 3 * 3 by omega,<-Array.getElem?_toList,k0];exact hv
 ·have e:j=j / 3 * 3+1:=by omega
  have:=hf 1 (by decide);rw [<-e] at this;rw [show opsR[j]? = _ from this] at hv;rw [e,<-Array.getElem?_toList,k1];exact hv
 ·have e:j=j / 3 * 3+2:=by omega
  have:=hf 2 (by decide);rw [<-e] at this;rw [show opsR[j]? = _ from this] at hv;rw [e,<-Array.getElem?_toList,k2];exact hv
