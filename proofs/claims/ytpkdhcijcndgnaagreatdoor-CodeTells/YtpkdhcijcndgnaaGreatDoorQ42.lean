/- KLawTel. -/
import Derived.Test.YtpkdhcijcndgnaaGreatDoorQ41
set_option maxHeartbeats 40000000
set_option maxRecDepth 100000
namespace Go.Proofs.YtpkdhcijcndgnaaGreatDoor
open Tryz
abbrev zq66:Oper:=⟨some 32,.buildSlice 22 0 #[],22,"outright.go:95",#[],none⟩
abbrev zq49:Oper:=⟨some 36,.buildSlice 25 0 #[],25,"outright.go:95",#[],none⟩
abbrev zq56:Oper:=⟨some 34,.call {callee:=Callee.builtin Builtin.append,args:=#[.tmp 32,.tmp 33],argTypes:=#[22,22]},22,"outright.go:95",#[⟨0,.data⟩,⟨1,.data⟩],none⟩
abbrev zq57:Oper:=⟨some 38,.call {callee:=Callee.builtin Builtin.append,args:=#[.tmp 36,.tmp 37],argTypes:=#[25,25]},25,"outright.go:95",#[⟨4,.data⟩,⟨5,.data⟩,⟨2,.chain⟩],none⟩
abbrev zq52:Oper:=⟨some 39,.call {callee:=Callee.value (Operand.func 11),args:=#[.tmp 34,.tmp 35,.tmp 38],argTypes:=#[22,24,25]},32,"outright.go:95",#[⟨2,.data⟩,⟨3,.data⟩,⟨6,.data⟩,⟨6,.chain⟩],none⟩
abbrev zq59:Oper:=⟨some 31,.move (.tmp 39),32,"outright.go:95",#[⟨7,.data⟩],none⟩
abbrev zq51:Oper:=⟨some 40,.extract (.tmp 31) 0,30,"outright.go:95",#[⟨8,.data⟩],none⟩
abbrev zq61:Oper:=⟨some 41,.extract (.tmp 31) 1,31,"outright.go:95",#[⟨8,.data⟩,⟨11,.gcOnly .lateStores⟩],none⟩
abbrev zq54:Oper:=⟨some 7,.assign (.tmp 40),30,"outright.go:95",#[⟨9,.data⟩,⟨7,.chain⟩,⟨0,.phase⟩,⟨1,.phase⟩,⟨2,.phase⟩,⟨3,.phase⟩,⟨4,.phase⟩,⟨5,.phase⟩,⟨6,.phase⟩,⟨7,.phase⟩,⟨8,.phase⟩,⟨9,.phase⟩,⟨10,.textOnly .lateStores⟩],none⟩
abbrev zq47:Oper:=⟨some 8,.assign (.tmp 41),31,"outright.go:95",#[⟨10,.data⟩,⟨11,.chain⟩,⟨0,.phase⟩,⟨1,.phase⟩,⟨2,.phase⟩,⟨3,.phase⟩,⟨4,.phase⟩,⟨5,.phase⟩,⟨6,.phase⟩,⟨7,.phase⟩,⟨8,.phase⟩,⟨9,.phase⟩,⟨10,.phase⟩,⟨11,.phase⟩],none⟩
open Go.RowKit Wf
set_option linter.unusedVariables false
theorem zq58 (l:List Wt.Nd) (nm:List ByteArray) (av:Option Addr) (m cap:Nat) (av3:Option Addr) (m3 cap3:Nat) (own r c:Int) (w:World) (hm:m=l.length) (hm3:m3=nm.length) (hl:True->l.length<=9223372036854775807) (hl3:True->nm.length<=9223372036854775807) (hF:∀ x ∈ l,Wt.FitN x) (hr:RdN w av l) (hr3:RdS w av3 nm) (hno:av=none->m=0/\cap=0) (hno3:av3=none->m3=0/\cap3=0) (how:-9223372036854775808<=own/\own<=9223372036854775807) (hN:NmAt w) (hO:OpsAt w) :
  CR 6 #[.slice av m cap,.agg #[.int .i64 own,.int .i64 r,.int .i64 c],.slice av3 m3 cap3] w (.bool true):=by
 have hb0:=zAJ (Below.refl _ w) (.cells #[.int .i64 own,.int .i64 r,.int .i64 c] 24);have pC:=AtL.new0 w 24 [.int .i64 own,.int .i64 r,.int .i64 c];have AB:=zMu _ (hN.below hb0) (hO.below hb0);have HNA:Hid (∀ W:World,Below w.heap.size w W->Calls prog 10 #[.slice av3 m3 cap3] W (NaP m3 W)):=λW hb=>zJH nm av3 m3 cap3 W hm3 (hl3 trivial) (hr3.below hb)
 have HALL:Hid (m<=20000->m3<=20000->∃ E C,FlC l nm E C/\∀ own r c,E own r c=0->Tld own (nm.take 16) l (usA (C own))):=λh1 h2=>zq38 l nm (by omega) hF (by omega)
 have HB0:Hid (Below w.heap.size w (w.alloc (.cells #[.int .i64 own,.int .i64 r,.int .i64 c] 24))):=hb0;have HPC:Hid (AtL (w.alloc (.cells #[.int .i64 own,.int .i64 r,.int .i64 c] 24)) w.heap.size [.int .i64 own,.int .i64 r,.int .i64 c]):=pC;have HRN0:Hid (RdN w av l):=hr;have HRS0:Hid (RdS w av3 nm):=hr3;have HNO:Hid (av=none->m=0/\cap=0):=hno;have HNO3:Hid (av3=none->m3=0/\cap3=0):=hno3;have HOW:Hid (-9223372036854775808<=own/\own<=9223372036854775807):=how;have HMM:Hid (m=l.length/\m3=nm.length):=⟨hm,hm3⟩
 have HNM0:Hid (NmAt w/\OpsAt w):=⟨hN,hO⟩
 clear hb0 pC hm hm3 hl hl3 hF hr hr3 hno hno3 how hN hO;go_enter func6,ntmps6;go_upto_region 1 with fail
 generalize (w.alloc (.cells #[.int .i64 own,.int .i64 r,.int .i64 c] 24))=W at *;go_wp2_with fail
 refine AB.mono ?_;rintro e w1 ⟨rfl,hb1⟩;have HB1:Hid (Below w.heap.size w w1):=zAB HB0.out hb1;have HPC1:Hid (AtL w1 w.heap.size [.int .i64 own,.int .i64 r,.int .i64 c]):=AtL.below hb1 HPC.out;have NA:=HNA.out w1 HB1.out;clear AB HB0 HPC HNA hb1;by_cases hm20:(20000:Int)<(m:Int)
 ·go_wp2;go_ret;exact ⟨rfl,HB1.out⟩
 have HM20:Hid (m<=20000):=by show _<=_;omega
 go_wp2_with fail
 refine NA.mono ?_;rintro e w2 ⟨⟨q,rfl,hq⟩,hb2⟩;have HB2:Hid (Below w.heap.size w w2):=zAB HB1.out hb2;have HPC2:Hid (AtL w2 w.heap.size [.int .i64 own,.int .i64 r,.int .i64 c]):=AtL.below hb2 HPC1.out;have HQ:Hid (q=false->m3<=20000):=hq;clear NA HB1 HPC1 hb2 hq;cases q with
 | true =>
  go_wp2;go_ret;exact ⟨rfl,HB2.out⟩
 | false =>
 have h3:=HQ.out rfl;obtain ⟨E,C,hFL,hTL⟩:=HALL.out HM20.out h3;have HTL:Hid (∀ own r c,E own r c=0->Tld own (nm.take 16) l (usA (C own))):=hTL;have HFL:Hid (FlC l nm E C):=hFL;have HM:Hid (m=l.length/\l.length<=20000):=⟨HMM.out.1,by have:=HM20.out;have:=HMM.out.1;omega⟩
 have HM3:Hid (m3=nm.length/\nm.length<=20000):=⟨HMM.out.2,by have:=HMM.out.2;omega⟩
 have HRN:Hid (RdN w2 av l):=HRN0.out.below HB2.out;have HRS:Hid (RdS w2 av3 nm):=HRS0.out.below HB2.out;have HNM:Hid (NmAt w2/\OpsAt w2):=⟨HNM0.out.1.below HB2.out,HNM0.out.2.below HB2.out⟩
 clear hFL hTL h3 HQ HALL HRN0 HRS0 HMM HNM0 HM20;obtain ⟨c0,c1,c2,_,_,_⟩:=HPC2.out.three;go_upto_region 5 with fail
 clear hm20;generalize w2=W0 at *;go_cut [7,8] (λs7 s8 wx=>∃ fa fm fc,s7=.slice fa fm fc/\s8=.int .i64 (E own r c)/\Hid (E own r c ≠ 0->fm=0)/\Hid (E own r c=0->RdC wx (.slice fa fm fc) (C own))/\Hid (Below W0.heap.size W0 wx))
 case first =>
  have hC:Below W0.heap.size W0 W0.drew:=(Below.refl _ _).drew;refine wp_region_held_drew (S:=λW=>W.cell? ⟨w.heap.size,0,none⟩=some (.int .i64 own)/\W.cell? ⟨w.heap.size,1,none⟩=some (.int .i64 r)/\W.cell? ⟨w.heap.size,2,none⟩=some (.int .i64 c)) (by kernel_rfl) ⟨zAC hC c0,zAC hC c1,zAC hC c2⟩ (λhHeld=>?_);generalize W0.drew=WD at *;refine tkQ 1 ⟨some 33,.move (.tmp 0),22,"outright.go:95",#[],none⟩ ?_
  refine tkQ 3 ⟨some 35,.load 24 (.tmp 4),24,"outright.go:95",#[],none⟩ ?_
  refine tkQ 5 ⟨some 37,.move (.tmp 2),25,"outright.go:95",#[],none⟩ ?_
  refine wpAnyH_ready (rs:=[0,4]) (by kernel_rfl) (by simp) ?_;refine AllReadyH.cons (o:=zq66) rfl (λK hK=>?_) (AllReadyH.cons (o:=zq49) rfl (λK hK=>?_) AllReadyH.nil)
  ·have hba:=zAJ (Below.refl _ WD) (.cells #[] 56);have oN:=zA7 (zAj WD 56 20) hC.size;replace hC:=zAB hC hba
   clear hba;go_simp
   refine hkQ hK ⟨zAC hC c0,zAC hC c1,zAC hC c2⟩ (λhHeld=>?_);clear hK K
   obtain ⟨gN,hgN⟩:∃ g,WD.heap.size=g:=⟨_,rfl⟩
   rw [hgN] at oN;simp only [hgN];generalize hgw:(WD.alloc (.cells #[] 56))=wa at *;clear hgw hgN;refine wpAnyH_ready (rs:=[2,4]) (by kernel_rfl) (by simp) ?_;refine AllReadyH.cons (o:=zq56) rfl (λK hK=>?_) (AllReadyH.cons (o:=zq49) rfl (λK hK=>?_) AllReadyH.nil)
   ·refine zD1 (.tmp 32) (.tmp 33) rfl W0.heap.size wa hC.size (.slice (some ⟨gN,0,none⟩) 0 0) rfl oN av l m cap HM.out.1 rfl (HRN.out.below hC) HNO.out (λ_=>Nat.le_trans HM.out.2 (by decide)) ?_;intro vN wb oNN hg1;have fr1:Fr [gN] wa wb:=Fr.of_grown hg1 (λk e=>by cases e;simp);have hgb:W0.heap.size<=gN:=zAb oN;replace hC:=zA6 hC fr1 (λk hk=>by simp at hk;subst hk;exact hgb)
    clear fr1 hg1 oN hgb;refine hkQ hK ⟨zAC hC c0,zAC hC c1,zAC hC c2⟩ (λhHeld=>?_);clear hK K
    refine rdQ 4 zq49 (λK hK=>?_);have hba:=zAJ (Below.refl _ wb) (.cells #[] 9);have oS:=zA7 (zAj wb 9 1) hC.size;replace oNN:OwnN _ W0.heap.size vN l:=OwnN.below oNN hba
    replace hC:=zAB hC hba
    clear hba;go_simp
    refine hkQ hK ⟨zAC hC c0,zAC hC c1,zAC hC c2⟩ (λhHeld=>?_);clear hK K
    obtain ⟨gS,hgS⟩:∃ g,wb.heap.size=g:=⟨_,rfl⟩
    rw [hgS] at oS;simp only [hgS];generalize hgw:(wb.alloc (.cells #[] 9))=wc2 at *;clear hgw hgS;refine rdQ 6 zq57 (λK hK=>?_);refine zC9 (.tmp 36) (.tmp 37) rfl W0.heap.size wc2 hC.size (.slice (some ⟨gS,0,none⟩) 0 0) rfl oS av3 nm m3 cap3 HM3.out.1 rfl (HRS.out.below hC) HNO3.out (λ_=>HM3.out.2) ?_;intro vS wt oSS hg2;have fr2:Fr [gS] wc2 wt:=Fr.of_grown hg2 (λk e=>by cases e;simp);have hgb:W0.heap.size<=gS:=zAb oS;replace oNN:OwnN wt W0.heap.size vN l:=zAP fr2 oNN (λg e=>by have:=zAf oNN oS (by decide) g e;simp [Value.ownBlock] at this ⊢;exact λq=>this q.symm)
    replace hC:=zA6 hC fr2 (λk hk=>by simp at hk;subst hk;exact hgb)
    clear fr2 hg2 oS hgb;refine hkQ hK ⟨zAC hC c0,zAC hC c1,zAC hC c2⟩ (λhHeld=>?_);clear hK K
    refine rdQ 7 zq52 (λK hK=>?_);have FL:=HFL.out.run own r c wt _ _ vN vS HOW.out (HNM.out.1.below hC) (HNM.out.2.below hC) oNN oSS;go_simp
    refine FL.mono ?_;clear FL;rintro e wf ⟨⟨fa,fm,fc,rfl,hf1,hf2⟩,hbf⟩;replace hC:=zAB hC hbf
    have HF1:Hid (E own r c ≠ 0->fm=0):=hf1;have HF2:Hid (E own r c=0->RdC wf (.slice fa fm fc) (C own)):=λq=>by
     obtain ⟨P,p1,p2,p3,p4⟩:=hf2 q;exact zB7 p1 p2 p3
    clear hf1 hf2 hbf oNN oSS;go_wp2_with fail
    refine hkQ hK ⟨zAC hC c0,zAC hC c1,zAC hC c2⟩ (λhHeld=>?_);clear hK K
    refine tkQ 8 zq59 ?_
    refine tkQ 9 zq51 ?_
    refine tkQ 10 zq61 ?_
    refine rdQ 11 zq54 (λK hK=>?_);go_simp
    refine hkQ hK ⟨zAC hC c0,zAC hC c1,zAC hC c2⟩ (λhHeld=>?_);clear hK K
    refine rdQ 12 zq47 (λK hK=>?_);go_simp
    refine hkQ hK ⟨zAC hC c0,zAC hC c1,zAC hC c2⟩ (λhHeld=>?_);clear hK K
    refine wpAnyH_done (by kernel_rfl) ?_ _;go_wp2_with fail
    go_meet
    case rel=>exact ⟨fa,fm,fc,rfl,rfl,HF1,HF2,hC⟩
   ·have hba:=zAJ (Below.refl _ wa) (.cells #[] 9);have oS:=zA7 (zAj wa 9 1) hC.size;replace oN:=zAP (Fr.of_below [] hba) oN (by simp)
    replace hC:=zAB hC hba
    clear hba;go_simp
    refine hkQ hK ⟨zAC hC c0,zAC hC c1,zAC hC c2⟩ (λhHeld=>?_);clear hK K
    obtain ⟨gS,hgS⟩:∃ g,wa.heap.size=g:=⟨_,rfl⟩
    rw [hgS] at oS;simp only [hgS];generalize hgw:(wa.alloc (.cells #[] 9))=wb at *;clear hgw hgS;refine rdQ 2 zq56 (λK hK=>?_);refine zD1 (.tmp 32) (.tmp 33) rfl W0.heap.size wb hC.size (.slice (some ⟨gN,0,none⟩) 0 0) rfl oN av l m cap HM.out.1 rfl (HRN.out.below hC) HNO.out (λ_=>Nat.le_trans HM.out.2 (by decide)) ?_;intro vN wc2 oNN hg1;have fr1:Fr [gN] wb wc2:=Fr.of_grown hg1 (λk e=>by cases e;simp);have hgb:W0.heap.size<=gN:=zAb oN;replace oS:=zAP fr1 oS (λg e=>by have:=zAf oS oN (by decide) g e;simp [Value.ownBlock] at this ⊢;exact λq=>this q.symm)
    replace hC:=zA6 hC fr1 (λk hk=>by simp at hk;subst hk;exact hgb)
    clear fr1 hg1 oN hgb;refine hkQ hK ⟨zAC hC c0,zAC hC c1,zAC hC c2⟩ (λhHeld=>?_);clear hK K
    refine rdQ 6 zq57 (λK hK=>?_);refine zC9 (.tmp 36) (.tmp 37) rfl W0.heap.size wc2 hC.size (.slice (some ⟨gS,0,none⟩) 0 0) rfl oS av3 nm m3 cap3 HM3.out.1 rfl (HRS.out.below hC) HNO3.out (λ_=>HM3.out.2) ?_;intro vS wt oSS hg2;have fr2:Fr [gS] wc2 wt:=Fr.of_grown hg2 (λk e=>by cases e;simp);have hgb:W0.heap.size<=gS:=zAb oS;replace oNN:OwnN wt W0.heap.size vN l:=zAP fr2 oNN (λg e=>by have:=zAf oNN oS (by decide) g e;simp [Value.ownBlock] at this ⊢;exact λq=>this q.symm)
    replace hC:=zA6 hC fr2 (λk hk=>by simp at hk;subst hk;exact hgb)
    clear fr2 hg2 oS hgb;refine hkQ hK ⟨zAC hC c0,zAC hC c1,zAC hC c2⟩ (λhHeld=>?_);clear hK K
    refine rdQ 7 zq52 (λK hK=>?_);have FL:=HFL.out.run own r c wt _ _ vN vS HOW.out (HNM.out.1.below hC) (HNM.out.2.below hC) oNN oSS;go_simp
    refine FL.mono ?_;clear FL;rintro e wf ⟨⟨fa,fm,fc,rfl,hf1,hf2⟩,hbf⟩;replace hC:=zAB hC hbf
    have HF1:Hid (E own r c ≠ 0->fm=0):=hf1;have HF2:Hid (E own r c=0->RdC wf (.slice fa fm fc) (C own)):=λq=>by
     obtain ⟨P,p1,p2,p3,p4⟩:=hf2 q;exact zB7 p1 p2 p3
    clear hf1 hf2 hbf oNN oSS;go_wp2_with fail
    refine hkQ hK ⟨zAC hC c0,zAC hC c1,zAC hC c2⟩ (λhHeld=>?_);clear hK K
    refine tkQ 8 zq59 ?_
    refine tkQ 9 zq51 ?_
    refine tkQ 10 zq61 ?_
    refine rdQ 11 zq54 (λK hK=>?_);go_simp
    refine hkQ hK ⟨zAC hC c0,zAC hC c1,zAC hC c2⟩ (λhHeld=>?_);clear hK K
    refine rdQ 12 zq47 (λK hK=>?_);go_simp
    refine hkQ hK ⟨zAC hC c0,zAC hC c1,zAC hC c2⟩ (λhHeld=>?_);clear hK K
    refine wpAnyH_done (by kernel_rfl) ?_ _;go_wp2_with fail
    go_meet
    case rel=>exact ⟨fa,fm,fc,rfl,rfl,HF1,HF2,hC⟩
  ·have hba:=zAJ (Below.refl _ WD) (.cells #[] 9);have oS:=zA7 (zAj WD 9 1) hC.size;replace hC:=zAB hC hba
   clear hba;go_simp
   refine hkQ hK ⟨zAC hC c0,zAC hC c1,zAC hC c2⟩ (λhHeld=>?_);clear hK K
   obtain ⟨gS,hgS⟩:∃ g,WD.heap.size=g:=⟨_,rfl⟩
   rw [hgS] at oS;simp only [hgS];generalize hgw:(WD.alloc (.cells #[] 9))=wa at *;clear hgw hgS;refine rdQ 0 zq66 (λK hK=>?_);have hba:=zAJ (Below.refl _ wa) (.cells #[] 56);have oN:=zA7 (zAj wa 56 20) hC.size;replace oS:=zAP (Fr.of_below [] hba) oS (by simp)
   replace hC:=zAB hC hba
   clear hba;go_simp
   refine hkQ hK ⟨zAC hC c0,zAC hC c1,zAC hC c2⟩ (λhHeld=>?_);clear hK K
   obtain ⟨gN,hgN⟩:∃ g,wa.heap.size=g:=⟨_,rfl⟩
   rw [hgN] at oN;simp only [hgN];generalize hgw:(wa.alloc (.cells #[] 56))=wb at *;clear hgw hgN;refine rdQ 2 zq56 (λK hK=>?_);refine zD1 (.tmp 32) (.tmp 33) rfl W0.heap.size wb hC.size (.slice (some ⟨gN,0,none⟩) 0 0) rfl oN av l m cap HM.out.1 rfl (HRN.out.below hC) HNO.out (λ_=>Nat.le_trans HM.out.2 (by decide)) ?_;intro vN wc2 oNN hg1;have fr1:Fr [gN] wb wc2:=Fr.of_grown hg1 (λk e=>by cases e;simp);have hgb:W0.heap.size<=gN:=zAb oN;replace oS:=zAP fr1 oS (λg e=>by have:=zAf oS oN (by decide) g e;simp [Value.ownBlock] at this ⊢;exact λq=>this q.symm)
   replace hC:=zA6 hC fr1 (λk hk=>by simp at hk;subst hk;exact hgb)
   clear fr1 hg1 oN hgb;refine hkQ hK ⟨zAC hC c0,zAC hC c1,zAC hC c2⟩ (λhHeld=>?_);clear hK K
   refine rdQ 6 zq57 (λK hK=>?_);refine zC9 (.tmp 36) (.tmp 37) rfl W0.heap.size wc2 hC.size (.slice (some ⟨gS,0,none⟩) 0 0) rfl oS av3 nm m3 cap3 HM3.out.1 rfl (HRS.out.below hC) HNO3.out (λ_=>HM3.out.2) ?_;intro vS wt oSS hg2;have fr2:Fr [gS] wc2 wt:=Fr.of_grown hg2 (λk e=>by cases e;simp);have hgb:W0.heap.size<=gS:=zAb oS;replace oNN:OwnN wt W0.heap.size vN l:=zAP fr2 oNN (λg e=>by have:=zAf oNN oS (by decide) g e;simp [Value.ownBlock] at this ⊢;exact λq=>this q.symm)
   replace hC:=zA6 hC fr2 (λk hk=>by simp at hk;subst hk;exact hgb)
   clear fr2 hg2 oS hgb;refine hkQ hK ⟨zAC hC c0,zAC hC c1,zAC hC c2⟩ (λhHeld=>?_);clear hK K
   refine rdQ 7 zq52 (λK hK=>?_);have FL:=HFL.out.run own r c wt _ _ vN vS HOW.out (HNM.out.1.below hC) (HNM.out.2.below hC) oNN oSS;go_simp
   refine FL.mono ?_;clear FL;rintro e wf ⟨⟨fa,fm,fc,rfl,hf1,hf2⟩,hbf⟩;replace hC:=zAB hC hbf
   have HF1:Hid (E own r c ≠ 0->fm=0):=hf1;have HF2:Hid (E own r c=0->RdC wf (.slice fa fm fc) (C own)):=λq=>by
    obtain ⟨P,p1,p2,p3,p4⟩:=hf2 q;exact zB7 p1 p2 p3
   clear hf1 hf2 hbf oNN oSS;go_wp2_with fail
   refine hkQ hK ⟨zAC hC c0,zAC hC c1,zAC hC c2⟩ (λhHeld=>?_);clear hK K
   refine tkQ 8 zq59 ?_
   refine tkQ 9 zq51 ?_
   refine tkQ 10 zq61 ?_
   refine rdQ 11 zq54 (λK hK=>?_);go_simp
   refine hkQ hK ⟨zAC hC c0,zAC hC c1,zAC hC c2⟩ (λhHeld=>?_);clear hK K
   refine rdQ 12 zq47 (λK hK=>?_);go_simp
   refine hkQ hK ⟨zAC hC c0,zAC hC c1,zAC hC c2⟩ (λhHeld=>?_);clear hK K
   refine wpAnyH_done (by kernel_rfl) ?_ _;go_wp2_with fail
   go_meet
   case rel=>exact ⟨fa,fm,fc,rfl,rfl,HF1,HF2,hC⟩
 case rest =>
  obtain ⟨fa,fm,fc,rfl,rfl,HF1,HF2,HBC⟩:=hcut;clear c0 c1 c2;have HBW:Hid (Below w.heap.size w wc):=zAB HB2.out HBC.out;have HNC:Hid (NmAt wc):=HNM.out.1.below HBC.out;have HRNc:Hid (RdN wc av l):=HRN.out.below HBC.out;have HRSc:Hid (RdS wc av3 nm):=HRS.out.below HBC.out;have HPCc:Hid (AtL wc w.heap.size [.int .i64 own,.int .i64 r,.int .i64 c]):=AtL.below HBC.out HPC2.out;obtain ⟨ee,hee⟩:∃ ee,E own r c=ee:=⟨_,rfl⟩
  have HEE:Hid (E own r c=ee):=hee;rw [hee] at HF1 HF2;simp only [hee];clear hee HRN HRS HPC2 HNM HB2 HBC HNO HNO3;by_cases he:ee=0
  ·have rc:=HF2.out he;obtain ⟨ck,cl⟩:=HFL.out.right own r c (by rw [HEE.out];exact he);have cn:=HFL.out.len own;have fit:=zDq ck;have tld:=HTL.out own r c (by rw [HEE.out];exact he);obtain ⟨L,hL⟩:∃ L,C own=L:=⟨_,rfl⟩
   rw [hL] at rc ck cl cn fit tld;have hl1:L.length<=1000000:=by omega
   have TW:=zLh L _ wc rc hl1 (λx hx=>(fit x hx).1);have HUS:Hid (∀ (W:World) (v:Value),Below wc.heap.size wc W->RdC W v L->Calls prog 12 #[v] W λe w'=>(∃ r B,e=.returned r/\OwnA w' B r (usA L)/\W.heap.size<=B)/\Below W.heap.size W w'):=λW v hb h=>zLn L v W h hl1 fit (HNC.out.below hb)
   have hul:(usA L).length<=40000:=by have:=zq63 L;omega
   have HTD:Hid (Tld own (nm.take 16) l (usA L)):=tld;obtain ⟨U,hU⟩:∃ U,usA L=U:=⟨_,rfl⟩
   rw [hU] at HTD HUS hul;have HLU:Hid (U.length<=40000):=hul;subst he;clear HF1 HF2 rc ck cl cn fit tld hl1 hL hU hul HEE HFL HTL HNC;go_wp2_with fail
   refine TW.mono ?_;rintro e w3 ⟨⟨G,cap3',B,P,rfl,hBw,own3,tw⟩,hb3⟩;have rc3:=(⟨own3,tw⟩:TwS w3 B G cap3' P L).rd;have US:=HUS.out w3 _ hb3 rc3;have HB3:Hid (Below wc.heap.size wc w3):=hb3;clear TW own3 tw hBw rc3 hb3 HUS;go_wp2_with fail
   refine US.mono ?_;rintro e w4 ⟨⟨rv,B4,rfl,oA,hB4⟩,hb4⟩;obtain ⟨ua,uc,rfl,hu⟩:=oA.rd;have HB4:Hid (Below wc.heap.size wc w4):=zAB HB3.out hb4;have HRU:Hid (∀ i (h:i<U.length),∃ bb off,ua=some ⟨bb,off,none⟩/\w4.rangeAt bb (off+i * 5) (zB6 (U[i]))):=hu;have HRN4:Hid (RdN w4 av l):=HRNc.out.below HB4.out;have HRS4:Hid (RdS w4 av3 nm):=HRSc.out.below HB4.out;have HPC4:Hid (AtL w4 w.heap.size [.int .i64 own,.int .i64 r,.int .i64 c]):=AtL.below HB4.out HPCc.out;have HBW4:Hid (Below w.heap.size w w4):=zAB HBW.out HB4.out;clear US oA hu hB4 hb4 HB3 HB4 HRNc HRSc HPCc HBW;obtain ⟨n,hn⟩:∃ n,U.length=n:=⟨_,rfl⟩
   have HN:Hid (U.length=n/\n<=40000):=⟨hn,by rw [<-hn];exact HLU.out⟩
   simp only [hn];clear HLU hn;obtain ⟨i0,hi0,hz0,hz1,hz2⟩:=info_parts zq18;have hb1:i0.bytes * n<=281474976710656:=by rw [hz2];have:=HN.out.2;omega
   have hb2:n<=maxLen:=by have:=HN.out.2;unfold maxLen;omega
   go_upto_region 10 with (refine wpList_make_full w4 rfl (.tmp 48) (.tmp 48) 60 rfl w4.heap.size 4 i0 _ 1 underlying60 hi0 hz0 hz1 .i64 .i64 _ _ n rfl rfl rfl rfl hb1 hb2 (Nat.le_refl _) ?_;intro w5 own5 hg5)
   have HB5:Hid (Below w4.heap.size w4 w5):=⟨hg5.os,hg5.tape,hg5.output,hg5.size,λk hk=>hg5.block k hk (by simp)⟩
   have HF5:Hid (AtL w5 w4.heap.size (U.map (λA=>Value.bool (dT (tel own (nm.take 16) false (l.take 0)) A)))):=by
    have h1:=zq71 rfl own5;have h2:U.map (λA=>Value.bool (dT (tel own (nm.take 16) false (l.take 0)) A))=List.replicate n (.bool false):=by
     rw [<-HN.out.1];refine List.eq_replicate_iff.2 ⟨by simp,λb hb=>?_⟩;obtain ⟨A,_,e⟩:=List.mem_map.1 hb;rw [<-e];rfl
    show AtL _ _ _
    rw [h2];exact h1
   clear own5 hg5 hi0 hz0 hz1 hz2 hb1 hb2 i0;obtain ⟨fb,hfb⟩:∃ b,w4.heap.size=b:=⟨_,rfl⟩
   rw [hfb] at HF5 HB5;have HFB:Hid (w4.heap.size=fb):=hfb;simp only [hfb];clear hfb;go_upto_region 11 with fail
   go_loopg [11] m (λgk u11 wr=>∃ (i:Nat),u11=.int .i64 (i:Int)/\gk=m - i/\i<=m/\Hid (Below fb w4 wr)/\Hid (AtL wr fb (U.map (λA=>Value.bool (dT (tel own (nm.take 16) false (l.take i)) A)))))
   case atStart=>exact ⟨0,rfl,rfl,Nat.zero_le _,HB5,HF5⟩
   case round =>
    clear HB5 HF5;obtain ⟨i,rfl,hg,hi,HB,HF⟩:=hrel;generalize hw9:wr=W1 at *;clear hw9;by_cases hlt:i<m
    ·have hli:(i:Int)<(m:Int):=by omega
     have hiz:(0:Int)<=(i:Int):=by omega
     have hwi:IntKind.i64.wrap ((i:Int)+1)=(i:Int)+1:=by rw [IntKind.wrap_i64];have:=HM.out;omega
     have hil:i<l.length:=by have:=HM.out;omega
     obtain ⟨bb,off,rfl,hR⟩:=HRN4.out i hil;have hBq:Below w4.heap.size w4 W1:=by rw [HFB.out];exact HB.out
     obtain ⟨x,hx⟩:∃ x,l[i]=x:=⟨_,rfl⟩
     have HX:Hid (∃ h:i<l.length,l[i]=x):=⟨hil,hx⟩
     rw [hx] at hR;have gr:=zAF hBq hR;have k0:W1.cell? ⟨bb,off+i * 20,none⟩=some (.int .i64 x.k):=gr 0 _ rfl;have k10:W1.cell? ⟨bb,off+i * 20+10,none⟩=some (.string x.a.s):=gr 10 _ rfl;have k11:W1.cell? ⟨bb,off+i * 20+11,none⟩=some (.int .i64 x.a.r):=gr 11 _ rfl;have k12:W1.cell? ⟨bb,off+i * 20+12,none⟩=some (.int .i64 x.a.c):=gr 12 _ rfl;have k16:W1.cell? ⟨bb,off+i * 20+16,none⟩=some (.int .i64 x.b.r):=gr 16 _ rfl;have k17:W1.cell? ⟨bb,off+i * 20+17,none⟩=some (.int .i64 x.b.c):=gr 17 _ rfl;obtain ⟨ct,hct⟩:∃ b,(!zq6 (lst false (l.take i)) x)=b:=⟨_,rfl⟩
     have HCT:Hid ((!zq6 (lst false (l.take i)) x)=ct):=hct;have HBQ:Hid (Below w4.heap.size w4 W1):=hBq;clear hx hil hR gr hct hBq;go_upto_region 13 with fail
     go_cut [100] (λs wx=>s=.bool ct/\W1=wx)
     case first =>
      as_aux_lemma =>
       clear k10 k11 k12 k16 k17 HF HB hwi;obtain ⟨b2,hb2⟩:∃ b,(x.k != 2)=b:=⟨_,rfl⟩
       obtain ⟨b3,hb3⟩:∃ b,(x.k != 3)=b:=⟨_,rfl⟩
       obtain ⟨c1,hc1⟩:∃ b,(b2 && b3)=b:=⟨_,rfl⟩
       obtain ⟨bz,hbz⟩:∃ b,decide ((0:Int)<(i:Int))=b:=⟨_,rfl⟩
       have hbzN:decide (0<i)=bz:=by rw [<-hbz];simp
       obtain ⟨j,hj⟩:∃ j,i - 1=j:=⟨_,rfl⟩
       have HC1:Hid (c1=true->ct=true):=λe=>by
        rw [<-HCT.out];rw [<-hc1,<-hb2,<-hb3] at e;simp at e;simp [zq6,e.1,e.2]
       have HC3:Hid ((b2 && b3)=c1):=hc1;have HB3:Hid (c1=false->b2=true->b3=false):=λe e2=>by
        rw [<-hc1,e2] at e;simpa using e
       have HS1:Hid (c1=false->ct=lst false (l.take i)):=λe=>by
        rw [<-HCT.out];rw [<-hc1,<-hb2,<-hb3] at e;simp at e;have q:x.k=2 \/ x.k=3:=by
         by_cases q2:x.k=2
         ·exact Or.inl q2
         ·exact Or.inr (e q2)
        rcases q with q | q <;> simp [zq6,q]
       have HC2:Hid (bz=false->c1=false->ct=false):=λe e1=>by
        rw [HS1.out e1];rw [<-hbz] at e;simp at e;rw [show i=0 by omega];rfl
       have HY0:Hid (bz=true->∃ h:j<l.length,IntKind.i64.wrap ((i:Int) - 1)=(j:Int)/\i=j+1):=λe=>by
        rw [<-hbz] at e;simp at e;obtain ⟨q,_⟩:=HX.out;refine ⟨by omega,?_,by omega⟩;rw [IntKind.wrap_i64];have:=HM.out;omega
       obtain ⟨y,hy⟩:∃ y:Wt.Nd,bz=true->∃ h:j<l.length,l[j]=y:=by
        cases bz with
        | false=>exact ⟨x,λe=>by cases e⟩
        | true=>obtain ⟨h,_⟩:=HY0.out rfl;exact ⟨l[j],λ_=>⟨h,rfl⟩⟩
       obtain ⟨b6,hb6⟩:∃ b,(y.k == 6)=b:=⟨_,rfl⟩
       obtain ⟨br,hbr⟩:∃ b,(y.nm.toList == [82,79,87,83])=b:=⟨_,rfl⟩
       obtain ⟨bc,hbc⟩:∃ b,(y.nm.toList == [67,79,76,85,77,78,83])=b:=⟨_,rfl⟩
       have hbr2:decide (y.nm=⟨#[82,79,87,83]⟩)=br:=by rw [<-hbr,zq28]
       have hbc2:decide (y.nm=⟨#[67,79,76,85,77,78,83]⟩)=bc:=by rw [<-hbc,zq28]
       have HY:Hid (bz=true->IntKind.i64.wrap ((i:Int) - 1)=(j:Int)/\(0:Int)<=(j:Int)/\(j:Int)<(m:Int)/\W1.cell? ⟨bb,off+j * 20,none⟩=some (.int .i64 y.k)/\W1.cell? ⟨bb,off+j * 20+8,none⟩=some (.string y.nm)):=λe=>by
        obtain ⟨h1,h2,h3⟩:=HY0.out e;obtain ⟨_,h4⟩:=hy e;have gj:=zAF HBQ.out (zq65 HRN4.out j h1);rw [h4] at gj;have hm8:=HM.out;exact ⟨h2,by omega,by omega,gj 0 _ rfl,gj 8 _ rfl⟩
       have HE:Hid (ct=(c1 || (bz && (b6 && (br || bc))))):=by
        show _=_
        cases hc:c1 with
        | true=>rw [HC1.out hc];rfl
        | false =>
         cases hz:bz with
         | false=>rw [HC2.out hz hc];rfl
         | true =>
          obtain ⟨h1,h2,h3⟩:=HY0.out hz;obtain ⟨_,h4⟩:=hy hz;rw [HS1.out hc,h3,zq31 h1,h4];unfold rcN zq23 zq21;rw [hb6,hbr2,hbc2];rfl
       clear hj hy HY0 HS1 HX HCT HBQ HC1 HC2 HC3 HB3;refine wp_region_lit ?_;refine zFo ?_ (Or.inl ⟨by rfl,?_⟩) ?_;rotate_left
       ·go_simp
        try with_reducible rfl
       try simp only [Act.put,lA,lZ,lS]
       refine zFo ?_ (Or.inl ⟨by rfl,?_⟩) ?_;rotate_left
       ·go_simp
        try with_reducible rfl
       try simp only [Act.put,lA,lZ,lS]
       refine zFo ?_ (Or.inl ⟨by rfl,?_⟩) ?_;rotate_left
       ·go_simp
        try with_reducible rfl
       try simp only [Act.put,lA,lZ,lS]
       refine zFo ?_ (Or.inl ⟨by rfl,?_⟩) ?_;rotate_left
       ·go_simp
        try with_reducible rfl
       try simp only [Act.put,lA,lZ,lS]
       refine zFo ?_ (Or.inl ⟨by rfl,?_⟩) ?_;rotate_left
       ·go_simp
        try with_reducible rfl
       try simp only [Act.put,lA,lZ,lS]
       refine zFo (.bool b2) (Or.inl ⟨by rfl,by go_simp⟩) ?_;try simp only [Act.put,lA,lZ,lS]
       refine zFo (.bool b2) (Or.inl ⟨by rfl,by go_simp⟩) ?_;try simp only [Act.put,lA,lZ,lS]
       refine zFo (bif b2 then .slice (some ⟨bb,off,none⟩) m cap else undef) (by
        cases b2 with
        | false=>exact Or.inr ⟨by rfl,rfl⟩
        | true =>
         refine Or.inl ⟨by rfl,?_⟩;simp only [cond_true];go_simp) ?_
       try simp only [Act.put,lA,lZ,lS]
       refine zFo (bif b2 then .int .i64 (i:Int) else undef) (by
        cases b2 with
        | false=>exact Or.inr ⟨by rfl,rfl⟩
        | true =>
         refine Or.inl ⟨by rfl,?_⟩;simp only [cond_true];go_simp) ?_
       try simp only [Act.put,lA,lZ,lS]
       refine zFo (bif b2 then .pointer (some ⟨bb,off+i * 20,none⟩) else undef) (by
        cases b2 with
        | false=>exact Or.inr ⟨by rfl,rfl⟩
        | true =>
         refine Or.inl ⟨by rfl,?_⟩;simp only [cond_true];go_simp) ?_
       try simp only [Act.put,lA,lZ,lS]
       refine zFo (bif b2 then .pointer (some ⟨bb,off+i * 20,none⟩) else undef) (by
        cases b2 with
        | false=>exact Or.inr ⟨by rfl,rfl⟩
        | true =>
         refine Or.inl ⟨by rfl,?_⟩;simp only [cond_true];go_simp) ?_
       try simp only [Act.put,lA,lZ,lS]
       refine zFo (bif b2 then .int .i64 x.k else undef) (by
        cases b2 with
        | false=>exact Or.inr ⟨by rfl,rfl⟩
        | true =>
         refine Or.inl ⟨by rfl,?_⟩;simp only [cond_true];go_simp) ?_
       try simp only [Act.put,lA,lZ,lS]
       refine zFo (bif b2 then .bool b3 else undef) (by
        cases b2 with
        | false=>exact Or.inr ⟨by rfl,rfl⟩
        | true =>
         refine Or.inl ⟨by rfl,?_⟩;simp only [cond_true];go_simp) ?_
       try simp only [Act.put,lA,lZ,lS]
       refine zFo (.bool c1) (by
        cases b2 with
        | false=>exact Or.inl ⟨by rfl,by (try simp only [cond_false]);go_simp;try (simp at hc1;simp [hc1])⟩
        | true=>exact Or.inl ⟨by rfl,by (try simp only [cond_true]);go_simp;try (simp at hc1;simp [hc1])⟩) ?_
       try simp only [Act.put,lA,lZ,lS]
       refine zFo (.bool c1) (Or.inl ⟨by rfl,by go_simp⟩) ?_;try simp only [Act.put,lA,lZ,lS]
       refine zFo (bif c1 then undef else .int .i64 (i:Int)) (by
        cases c1 with
        | true =>
         exact Or.inr ⟨by rfl,rfl⟩
        | false =>
         exact Or.inl ⟨by rfl,by (try simp only [cond_false]);go_simp⟩) ?_
       try simp only [Act.put,lA,lZ,lS]
       refine zFo (bif c1 then undef else .bool bz) (by
        cases c1 with
        | true =>
         exact Or.inr ⟨by rfl,rfl⟩
        | false =>
         exact Or.inl ⟨by rfl,by (try simp only [cond_false]);go_simp⟩) ?_
       try simp only [Act.put,lA,lZ,lS]
       refine zFo (bif c1 then undef else .bool bz) (by
        cases c1 with
        | true =>
         exact Or.inr ⟨by rfl,rfl⟩
        | false =>
         exact Or.inl ⟨by rfl,by (try simp only [cond_false]);go_simp⟩) ?_
       try simp only [Act.put,lA,lZ,lS]
       refine zFo (bif c1 then undef else (bif bz then .slice (some ⟨bb,off,none⟩) m cap else undef)) (by
        cases c1 with
        | true =>
         exact Or.inr ⟨by rfl,rfl⟩
        | false =>
         cases bz with
         | true =>
          obtain ⟨hwj,hjz,hjm,y0,y8⟩:=HY.out rfl;exact Or.inl ⟨by rfl,by (try simp only [cond_false,cond_true]);go_simp⟩
         | false =>
          exact Or.inr ⟨by rfl,rfl⟩) ?_
       try simp only [Act.put,lA,lZ,lS]
       refine zFo (bif c1 then undef else (bif bz then .int .i64 (i:Int) else undef)) (by
        cases c1 with
        | true =>
         exact Or.inr ⟨by rfl,rfl⟩
        | false =>
         cases bz with
         | true =>
          obtain ⟨hwj,hjz,hjm,y0,y8⟩:=HY.out rfl;exact Or.inl ⟨by rfl,by (try simp only [cond_false,cond_true]);go_simp⟩
         | false =>
          exact Or.inr ⟨by rfl,rfl⟩) ?_
       try simp only [Act.put,lA,lZ,lS]
       refine zFo (bif c1 then undef else (bif bz then .int .i64 (j:Int) else undef)) (by
        cases c1 with
        | true =>
         exact Or.inr ⟨by rfl,rfl⟩
        | false =>
         cases bz with
         | true =>
          obtain ⟨hwj,hjz,hjm,y0,y8⟩:=HY.out rfl;exact Or.inl ⟨by rfl,by (try simp only [cond_false,cond_true]);go_simp⟩
         | false =>
          exact Or.inr ⟨by rfl,rfl⟩) ?_
       try simp only [Act.put,lA,lZ,lS]
       refine zFo (bif c1 then undef else (bif bz then .pointer (some ⟨bb,off+j * 20,none⟩) else undef)) (by
        cases c1 with
        | true =>
         exact Or.inr ⟨by rfl,rfl⟩
        | false =>
         cases bz with
         | true =>
          obtain ⟨hwj,hjz,hjm,y0,y8⟩:=HY.out rfl;exact Or.inl ⟨by rfl,by (try simp only [cond_false,cond_true]);go_simp⟩
         | false =>
          exact Or.inr ⟨by rfl,rfl⟩) ?_
       try simp only [Act.put,lA,lZ,lS]
       refine zFo (bif c1 then undef else (bif bz then .pointer (some ⟨bb,off+j * 20,none⟩) else undef)) (by
        cases c1 with
        | true =>
         exact Or.inr ⟨by rfl,rfl⟩
        | false =>
         cases bz with
         | true =>
          obtain ⟨hwj,hjz,hjm,y0,y8⟩:=HY.out rfl;exact Or.inl ⟨by rfl,by (try simp only [cond_false,cond_true]);go_simp⟩
         | false =>
          exact Or.inr ⟨by rfl,rfl⟩) ?_
       try simp only [Act.put,lA,lZ,lS]
       refine zFo (bif c1 then undef else (bif bz then .int .i64 y.k else undef)) (by
        cases c1 with
        | true =>
         exact Or.inr ⟨by rfl,rfl⟩
        | false =>
         cases bz with
         | true =>
          obtain ⟨hwj,hjz,hjm,y0,y8⟩:=HY.out rfl;exact Or.inl ⟨by rfl,by (try simp only [cond_false,cond_true]);go_simp⟩
         | false =>
          exact Or.inr ⟨by rfl,rfl⟩) ?_
       try simp only [Act.put,lA,lZ,lS]
       refine zFo (bif c1 then undef else (bif bz then .bool b6 else undef)) (by
        cases c1 with
        | true =>
         exact Or.inr ⟨by rfl,rfl⟩
        | false =>
         cases bz with
         | true =>
          obtain ⟨hwj,hjz,hjm,y0,y8⟩:=HY.out rfl;exact Or.inl ⟨by rfl,by (try simp only [cond_false,cond_true]);go_simp⟩
         | false =>
          exact Or.inr ⟨by rfl,rfl⟩) ?_
       try simp only [Act.put,lA,lZ,lS]
       refine zFo (bif c1 then undef else .bool (bz && b6)) (by
        cases c1 with
        | true =>
         exact Or.inr ⟨by rfl,rfl⟩
        | false =>
         cases bz with
         | true =>
          cases b6 with
          | true =>
           exact Or.inl ⟨by rfl,by (try simp only [cond_false,cond_true]);go_simp⟩
          | false =>
           exact Or.inl ⟨by rfl,by (try simp only [cond_false,cond_true]);go_simp⟩
         | false =>
          exact Or.inl ⟨by rfl,by (try simp only [cond_false]);go_simp⟩) ?_
       try simp only [Act.put,lA,lZ,lS]
       refine zFo (bif c1 then undef else .bool (bz && b6)) (by
        cases c1 with
        | true =>
         exact Or.inr ⟨by rfl,rfl⟩
        | false =>
         cases bz with
         | true =>
          cases b6 with
          | true =>
           exact Or.inl ⟨by rfl,by (try simp only [cond_false,cond_true]);go_simp⟩
          | false =>
           exact Or.inl ⟨by rfl,by (try simp only [cond_false,cond_true]);go_simp⟩
         | false =>
          exact Or.inl ⟨by rfl,by (try simp only [cond_false]);go_simp⟩) ?_
       try simp only [Act.put,lA,lZ,lS]
       refine zFo (bif c1 then undef else (bif bz then (bif b6 then .slice (some ⟨bb,off,none⟩) m cap else undef) else undef)) (by
        cases c1 with
        | true =>
         exact Or.inr ⟨by rfl,rfl⟩
        | false =>
         cases bz with
         | true =>
          cases b6 with
          | true =>
           obtain ⟨hwj,hjz,hjm,y0,y8⟩:=HY.out rfl;exact Or.inl ⟨by rfl,by (try simp only [cond_false,cond_true]);go_simp⟩
          | false =>
           exact Or.inr ⟨by rfl,rfl⟩
         | false =>
          exact Or.inr ⟨by rfl,rfl⟩) ?_
       try simp only [Act.put,lA,lZ,lS]
       refine zFo (bif c1 then undef else (bif bz then (bif b6 then .int .i64 (i:Int) else undef) else undef)) (by
        cases c1 with
        | true =>
         exact Or.inr ⟨by rfl,rfl⟩
        | false =>
         cases bz with
         | true =>
          cases b6 with
          | true =>
           obtain ⟨hwj,hjz,hjm,y0,y8⟩:=HY.out rfl;exact Or.inl ⟨by rfl,by (try simp only [cond_false,cond_true]);go_simp⟩
          | false =>
           exact Or.inr ⟨by rfl,rfl⟩
         | false =>
          exact Or.inr ⟨by rfl,rfl⟩) ?_
       try simp only [Act.put,lA,lZ,lS]
       refine zFo (bif c1 then undef else (bif bz then (bif b6 then .int .i64 (j:Int) else undef) else undef)) (by
        cases c1 with
        | true =>
         exact Or.inr ⟨by rfl,rfl⟩
        | false =>
         cases bz with
         | true =>
          cases b6 with
          | true =>
           obtain ⟨hwj,hjz,hjm,y0,y8⟩:=HY.out rfl;exact Or.inl ⟨by rfl,by (try simp only [cond_false,cond_true]);go_simp⟩
          | false =>
           exact Or.inr ⟨by rfl,rfl⟩
         | false =>
          exact Or.inr ⟨by rfl,rfl⟩) ?_
       try simp only [Act.put,lA,lZ,lS]
       refine zFo (bif c1 then undef else (bif bz then (bif b6 then .pointer (some ⟨bb,off+j * 20,none⟩) else undef) else undef)) (by
        cases c1 with
        | true =>
         exact Or.inr ⟨by rfl,rfl⟩
        | false =>
         cases bz with
         | true =>
          cases b6 with
          | true =>
           obtain ⟨hwj,hjz,hjm,y0,y8⟩:=HY.out rfl;exact Or.inl ⟨by rfl,by (try simp only [cond_false,cond_true]);go_simp⟩
          | false =>
           exact Or.inr ⟨by rfl,rfl⟩
         | false =>
          exact Or.inr ⟨by rfl,rfl⟩) ?_
       try simp only [Act.put,lA,lZ,lS]
       refine zFo (bif c1 then undef else (bif bz then (bif b6 then .pointer (some ⟨bb,off+j * 20+8,none⟩) else undef) else undef)) (by
        cases c1 with
        | true =>
         exact Or.inr ⟨by rfl,rfl⟩
        | false =>
         cases bz with
         | true =>
          cases b6 with
          | true =>
           obtain ⟨hwj,hjz,hjm,y0,y8⟩:=HY.out rfl;exact Or.inl ⟨by rfl,by (try simp only [cond_false,cond_true]);go_simp⟩
          | false =>
           exact Or.inr ⟨by rfl,rfl⟩
         | false =>
          exact Or.inr ⟨by rfl,rfl⟩) ?_
       try simp only [Act.put,lA,lZ,lS]
       refine zFo (bif c1 then undef else (bif bz then (bif b6 then .string y.nm else undef) else undef)) (by
        cases c1 with
        | true =>
         exact Or.inr ⟨by rfl,rfl⟩
        | false =>
         cases bz with
         | true =>
          cases b6 with
          | true =>
           obtain ⟨hwj,hjz,hjm,y0,y8⟩:=HY.out rfl;exact Or.inl ⟨by rfl,by (try simp only [cond_false,cond_true]);go_simp⟩
          | false =>
           exact Or.inr ⟨by rfl,rfl⟩
         | false =>
          exact Or.inr ⟨by rfl,rfl⟩) ?_
       try simp only [Act.put,lA,lZ,lS]
       refine zFo (bif c1 then undef else (bif bz then (bif b6 then .bool br else undef) else undef)) (by
        cases c1 with
        | true =>
         exact Or.inr ⟨by rfl,rfl⟩
        | false =>
         cases bz with
         | true =>
          cases b6 with
          | true =>
           obtain ⟨hwj,hjz,hjm,y0,y8⟩:=HY.out rfl;exact Or.inl ⟨by rfl,by (try simp only [cond_false,cond_true]);go_simp⟩
          | false =>
           exact Or.inr ⟨by rfl,rfl⟩
         | false =>
          exact Or.inr ⟨by rfl,rfl⟩) ?_
       try simp only [Act.put,lA,lZ,lS]
       refine zFo (bif c1 then undef else (bif bz then (bif b6 then .bool br else undef) else undef)) (by
        cases c1 with
        | true =>
         exact Or.inr ⟨by rfl,rfl⟩
        | false =>
         cases bz with
         | true =>
          cases b6 with
          | true =>
           obtain ⟨hwj,hjz,hjm,y0,y8⟩:=HY.out rfl;exact Or.inl ⟨by rfl,by (try simp only [cond_false,cond_true]);go_simp⟩
          | false =>
           exact Or.inr ⟨by rfl,rfl⟩
         | false =>
          exact Or.inr ⟨by rfl,rfl⟩) ?_
       try simp only [Act.put,lA,lZ,lS]
       refine zFo (bif c1 then undef else (bif bz then (bif b6 then (bif br then undef else .slice (some ⟨bb,off,none⟩) m cap) else undef) else undef)) (by
        cases c1 with
        | true =>
         exact Or.inr ⟨by rfl,rfl⟩
        | false =>
         cases bz with
         | true =>
          cases b6 with
          | true =>
           cases br with
           | true =>
            exact Or.inr ⟨by rfl,rfl⟩
           | false =>
            obtain ⟨hwj,hjz,hjm,y0,y8⟩:=HY.out rfl;exact Or.inl ⟨by rfl,by (try simp only [cond_false,cond_true]);go_simp⟩
          | false =>
           exact Or.inr ⟨by rfl,rfl⟩
         | false =>
          exact Or.inr ⟨by rfl,rfl⟩) ?_
       try simp only [Act.put,lA,lZ,lS]
       refine zFo (bif c1 then undef else (bif bz then (bif b6 then (bif br then undef else .int .i64 (i:Int)) else undef) else undef)) (by
        cases c1 with
        | true =>
         exact Or.inr ⟨by rfl,rfl⟩
        | false =>
         cases bz with
         | true =>
          cases b6 with
          | true =>
           cases br with
           | true =>
            exact Or.inr ⟨by rfl,rfl⟩
           | false =>
            obtain ⟨hwj,hjz,hjm,y0,y8⟩:=HY.out rfl;exact Or.inl ⟨by rfl,by (try simp only [cond_false,cond_true]);go_simp⟩
          | false =>
           exact Or.inr ⟨by rfl,rfl⟩
         | false =>
          exact Or.inr ⟨by rfl,rfl⟩) ?_
       try simp only [Act.put,lA,lZ,lS]
       refine zFo (bif c1 then undef else (bif bz then (bif b6 then (bif br then undef else .int .i64 (j:Int)) else undef) else undef)) (by
        cases c1 with
        | true =>
         exact Or.inr ⟨by rfl,rfl⟩
        | false =>
         cases bz with
         | true =>
          cases b6 with
          | true =>
           cases br with
           | true =>
            exact Or.inr ⟨by rfl,rfl⟩
           | false =>
            obtain ⟨hwj,hjz,hjm,y0,y8⟩:=HY.out rfl;exact Or.inl ⟨by rfl,by (try simp only [cond_false,cond_true]);go_simp⟩
          | false =>
           exact Or.inr ⟨by rfl,rfl⟩
         | false =>
          exact Or.inr ⟨by rfl,rfl⟩) ?_
       try simp only [Act.put,lA,lZ,lS]
       refine zFo (bif c1 then undef else (bif bz then (bif b6 then (bif br then undef else .pointer (some ⟨bb,off+j * 20,none⟩)) else undef) else undef)) (by
        cases c1 with
        | true =>
         exact Or.inr ⟨by rfl,rfl⟩
        | false =>
         cases bz with
         | true =>
          cases b6 with
          | true =>
           cases br with
           | true =>
            exact Or.inr ⟨by rfl,rfl⟩
           | false =>
            obtain ⟨hwj,hjz,hjm,y0,y8⟩:=HY.out rfl;exact Or.inl ⟨by rfl,by (try simp only [cond_false,cond_true]);go_simp⟩
          | false =>
           exact Or.inr ⟨by rfl,rfl⟩
         | false =>
          exact Or.inr ⟨by rfl,rfl⟩) ?_
       try simp only [Act.put,lA,lZ,lS]
       refine zFo (bif c1 then undef else (bif bz then (bif b6 then (bif br then undef else .pointer (some ⟨bb,off+j * 20+8,none⟩)) else undef) else undef)) (by
        cases c1 with
        | true =>
         exact Or.inr ⟨by rfl,rfl⟩
        | false =>
         cases bz with
         | true =>
          cases b6 with
          | true =>
           cases br with
           | true =>
            exact Or.inr ⟨by rfl,rfl⟩
           | false =>
            obtain ⟨hwj,hjz,hjm,y0,y8⟩:=HY.out rfl;exact Or.inl ⟨by rfl,by (try simp only [cond_false,cond_true]);go_simp⟩
          | false =>
           exact Or.inr ⟨by rfl,rfl⟩
         | false =>
          exact Or.inr ⟨by rfl,rfl⟩) ?_
       try simp only [Act.put,lA,lZ,lS]
       refine zFo (bif c1 then undef else (bif bz then (bif b6 then (bif br then undef else .string y.nm) else undef) else undef)) (by
        cases c1 with
        | true =>
         exact Or.inr ⟨by rfl,rfl⟩
        | false =>
         cases bz with
         | true =>
          cases b6 with
          | true =>
           cases br with
           | true =>
            exact Or.inr ⟨by rfl,rfl⟩
           | false =>
            obtain ⟨hwj,hjz,hjm,y0,y8⟩:=HY.out rfl;exact Or.inl ⟨by rfl,by (try simp only [cond_false,cond_true]);go_simp⟩
          | false =>
           exact Or.inr ⟨by rfl,rfl⟩
         | false =>
          exact Or.inr ⟨by rfl,rfl⟩) ?_
       try simp only [Act.put,lA,lZ,lS]
       refine zFo (bif c1 then undef else (bif bz then (bif b6 then (bif br then undef else .bool bc) else undef) else undef)) (by
        cases c1 with
        | true =>
         exact Or.inr ⟨by rfl,rfl⟩
        | false =>
         cases bz with
         | true =>
          cases b6 with
          | true =>
           cases br with
           | true =>
            exact Or.inr ⟨by rfl,rfl⟩
           | false =>
            obtain ⟨hwj,hjz,hjm,y0,y8⟩:=HY.out rfl;exact Or.inl ⟨by rfl,by (try simp only [cond_false,cond_true]);go_simp⟩
          | false =>
           exact Or.inr ⟨by rfl,rfl⟩
         | false =>
          exact Or.inr ⟨by rfl,rfl⟩) ?_
       try simp only [Act.put,lA,lZ,lS]
       refine zFo (bif c1 then undef else (bif bz then (bif b6 then .bool (br || bc) else undef) else undef)) (by
        cases c1 with
        | true =>
         exact Or.inr ⟨by rfl,rfl⟩
        | false =>
         cases bz with
         | true =>
          cases b6 with
          | true =>
           cases br with
           | true =>
            exact Or.inl ⟨by rfl,by (try simp only [cond_false,cond_true]);go_simp⟩
           | false =>
            exact Or.inl ⟨by rfl,by (try simp only [cond_false,cond_true]);go_simp⟩
          | false =>
           exact Or.inr ⟨by rfl,rfl⟩
         | false =>
          exact Or.inr ⟨by rfl,rfl⟩) ?_
       try simp only [Act.put,lA,lZ,lS]
       refine zFo (bif c1 then undef else .bool (bz && (b6 && (br || bc)))) (by
        cases c1 with
        | true =>
         exact Or.inr ⟨by rfl,rfl⟩
        | false =>
         cases bz with
         | true =>
          cases b6 with
          | true =>
           cases br with
           | true =>
            exact Or.inl ⟨by rfl,by (try simp only [cond_false,cond_true]);go_simp⟩
           | false =>
            exact Or.inl ⟨by rfl,by (try simp only [cond_false,cond_true]);go_simp⟩
          | false =>
           exact Or.inl ⟨by rfl,by (try simp only [cond_false,cond_true]);go_simp⟩
         | false =>
          exact Or.inl ⟨by rfl,by (try simp only [cond_false]);go_simp⟩) ?_
       try simp only [Act.put,lA,lZ,lS]
       refine zFo (.bool ct) (by
        cases c1 with
        | true =>
         obtain rfl:ct=true:=by rw [HE.out];rfl
         exact Or.inl ⟨by rfl,by (try simp only [cond_true]);go_simp⟩
        | false =>
         cases bz with
         | true =>
          cases b6 with
          | true =>
           cases br with
           | true =>
            obtain rfl:ct=true:=by rw [HE.out];rfl
            exact Or.inl ⟨by rfl,by (try simp only [cond_false,cond_true]);go_simp⟩
           | false =>
            obtain rfl:ct=bc:=by rw [HE.out];rfl
            exact Or.inl ⟨by rfl,by (try simp only [cond_false,cond_true]);go_simp⟩
          | false =>
           obtain rfl:ct=false:=by rw [HE.out];rfl
           exact Or.inl ⟨by rfl,by (try simp only [cond_false,cond_true]);go_simp⟩
         | false =>
          obtain rfl:ct=false:=by rw [HE.out];rfl
          exact Or.inl ⟨by rfl,by (try simp only [cond_false]);go_simp⟩) ?_
       try simp only [Act.put,lA,lZ,lS]
       go_wp2_with fail
       go_meet
       case rel=>exact ⟨rfl,rfl⟩
     case rest =>
     obtain ⟨rfl,rfl⟩:=hcut;cases ct with
     | true =>
      have HF':Hid (AtL W1 fb (U.map (λA=>Value.bool (dT (tel own (nm.take 16) false (l.take (i+1))) A)))):=by
       obtain ⟨h1,h2⟩:=HX.out;have h3:zq6 (lst false (l.take i)) x=false:=by simpa using HCT.out
       show AtL _ _ _
       rw [zq12 h1,h2,h3];simpa using HF.out
      clear k0 k10 k11 k12 k16 k17 HF HX HCT;go_wp2_with fail
      go_roundg (m - (i+1))
      case rel=>exact ⟨i+1,by simp,rfl,hlt,HB,HF'⟩
      case measure=>omega
     | false =>
     have HK:Hid (x.k=2 \/ x.k=3):=by
      have h3:zq6 (lst false (l.take i)) x=true:=by simpa using HCT.out
      show _ \/ _
      simp [zq6] at h3;exact h3.1
     obtain ⟨c0,c1,c2,_,_,_⟩:=(AtL.below HBQ.out HPC4.out).three;obtain ⟨N,hN⟩:∃ N,(nm.take 16).length=N:=⟨_,rfl⟩
     have HNN:Hid ((nm.take 16).length=N/\N<=16/\N<=nm.length):=⟨hN,by rw [<-hN,List.length_take];omega,by rw [<-hN,List.length_take];omega⟩
     have hmn:(if (16:Int)<(m3:Int) then (16:Int) else (m3:Int))=(N:Int):=by
      have:=HM3.out.1;rw [List.length_take] at hN;split <;> omega
     have hwn:IntKind.i64.wrap ((N:Int) - 1)=(N:Int) - 1:=by rw [IntKind.wrap_i64];have:=HNN.out;omega
     have HSE:Hid (own=shF own (nm.take 16) x.a.s N):=by show _=_;rw [<-HNN.out.1,zq48]
     clear hN;go_upto_region 16 with fail
     go_loopg [12,13] N (λgk u12 u13 wx=>∃ (j:Nat) (z y:Int),u12=.int .i64 y/\u13=.int .i64 z/\Hid (y=shF own (nm.take 16) x.a.s j)/\Hid (z=(j:Int) - 1)/\gk=j/\j<=N/\Hid (Below W1.heap.size W1 wx))
     case atStart=>exact ⟨N,_,_,rfl,rfl,HSE,(rfl:(N:Int) - 1=(N:Int) - 1),rfl,Nat.le_refl _,Below.refl _ _⟩
     case round =>
      obtain ⟨j,z,s,rfl,rfl,HJ,HJZ,hgj,hjN,HBx⟩:=hrel;generalize hw9:wr=wx at *;clear hw9;cases j with
      | succ q =>
       have hzq:z=(q:Int):=by have:=HJZ.out;omega
       subst hzq;have hqz:(0:Int)<=(q:Int):=by omega
       have hq3:(q:Int)<(m3:Int):=by have:=HNN.out;have:=HM3.out.1;omega
       have hwq:IntKind.i64.wrap ((q:Int) - 1)=(q:Int) - 1:=by rw [IntKind.wrap_i64];have:=HNN.out;omega
       have hqn:q<nm.length:=by have:=HNN.out;omega
       have hqt:q<(nm.take 16).length:=by have:=HNN.out;omega
       obtain ⟨b3,o3,rfl,hc3⟩:=HRS4.out q hqn;have d3:=zAC HBx.out (zAC HBQ.out hc3);have e10:=zAC HBx.out k10;have hst:=zq34 own (nm.take 16) x.a.s q hqt;rw [List.getElem_take] at hst;obtain ⟨t,ht⟩:∃ t,nm[q]=t:=⟨_,rfl⟩
       rw [ht] at d3 hst;have HST:Hid (shF own (nm.take 16) x.a.s q=if x.a.s=t/\x.a.s ≠ ⟨#[]⟩ then (q:Int) else shF own (nm.take 16) x.a.s (q+1)):=hst;clear hc3 ht hst hqn hqt;by_cases hs:x.a.s=t
       ·subst hs;by_cases he:x.a.s=⟨#[]⟩
        ·have HJ':Hid (s=shF own (nm.take 16) x.a.s q):=by show _=_;rw [HST.out,if_neg (λe=>e.2 he)];exact HJ.out
         rw [he] at e10 d3;go_upto_region 18 with fail
         go_quiet (fail)
         go_wp2_with fail
         go_roundg q
         case rel=>exact ⟨q,(q:Int) - 1,s,rfl,rfl,HJ',(rfl:(q:Int) - 1=(q:Int) - 1),rfl,by omega,zBd HBx.out _⟩
         case measure=>omega
        ·have he3:x.a.s.toList.isEmpty=false:=zMk he;have he4:¬ x.a.s.toList=[]:=λh=>by rw [h] at he3;cases he3
         have HJ':Hid ((q:Int)=shF own (nm.take 16) x.a.s q):=by show _=_;rw [HST.out,if_pos ⟨rfl,he⟩]
         go_upto_region 18 with fail
         go_quiet (fail)
         go_wp2_with fail
         go_roundg q
         case rel=>exact ⟨q,(q:Int) - 1,(q:Int),rfl,rfl,HJ',(rfl:(q:Int) - 1=(q:Int) - 1),rfl,by omega,zBd HBx.out _⟩
         case measure=>omega
       ·have hs3:(x.a.s.toList == t.toList)=false:=zMx hs;have hs4:¬ x.a.s.toList=t.toList:=λh=>hs (str_eqb.1 h)
        have HJ':Hid (s=shF own (nm.take 16) x.a.s q):=by show _=_;rw [HST.out,if_neg (λe=>hs e.1)];exact HJ.out
        go_upto_region 18 with fail
        go_quiet (fail)
        go_wp2_with fail
        go_roundg q
        case rel=>exact ⟨q,(q:Int) - 1,s,rfl,rfl,HJ',(rfl:(q:Int) - 1=(q:Int) - 1),rfl,by omega,zBd HBx.out _⟩
        case measure=>omega
      | zero =>
      have hzq:z = -1:=by have:=HJZ.out;omega
      subst hzq;have HS:Hid (s=shN own (nm.take 16) x.a.s):=by
       obtain ⟨h1,h2⟩:=HX.out;have hm9:x ∈ l:=by rw [<-h2];exact List.getElem_mem h1
       show _=_
       rw [HJ.out,zq40 (HTD.out.sh x hm9 HK.out)]
      have HBQ2:Hid (Below w4.heap.size w4 wx):=zAB HBQ.out HBx.out;have HF2:Hid (AtL wx fb (U.map (λA=>Value.bool (dT (tel own (nm.take 16) false (l.take i)) A)))):=AtL.below HBx.out HF.out;replace k0:=zAC HBx.out k0
      replace k11:=zAC HBx.out k11
      replace k12:=zAC HBx.out k12
      replace k16:=zAC HBx.out k16
      replace k17:=zAC HBx.out k17
      clear HJ HJZ hgj hjN HSE HNN hmn hwn c0 c1 c2 k10 HBx HBQ HF HB;go_upto_region 20 with fail
      go_cut [14] (λv14 wy=>∃ kc,v14=.pointer (some ⟨kc,0,none⟩)/\Hid (wx.heap.size<=kc)/\Hid (AtL wy kc [.int .i64 s,.int .i64 x.a.r,.int .i64 x.a.c])/\Hid (Below wx.heap.size wx wy))
      case first =>
       as_aux_lemma =>
        clear HBQ2 HF2 k16 k17 HTD HRU HRN4 HRS4 HPC4 HX HCT;have hC:Below wx.heap.size wx wx.drew:=(Below.refl _ _).drew;refine wp_region_held_drew (S:=λW=>W.cell? ⟨bb,off+i * 20+11,none⟩=some (.int .i64 x.a.r)/\W.cell? ⟨bb,off+i * 20+12,none⟩=some (.int .i64 x.a.c)) (by kernel_rfl) ⟨zAC hC k11,zAC hC k12⟩ (λhHeld=>?_);generalize wx.drew=WD at *;refine tkQ 0 ⟨some 132,.move (.tmp 12),3,"outright.go:111",#[],none⟩ ?_
        refine tkQ 1 ⟨some 133,.move (.tmp 0),22,"outright.go:111",#[],none⟩ ?_
        refine tkQ 2 ⟨some 134,.move (.tmp 11),3,"outright.go:111",#[],none⟩ ?_
        refine tkQ 3 ⟨some 135,.indexAddr 22 (.tmp 133) (.tmp 134),0,"outright.go:111",#[⟨1,.data⟩,⟨2,.data⟩],none⟩ ?_
        refine tkQ 4 ⟨some 136,.fieldAddr 56 (.tmp 135) 5,0,"outright.go:111",#[⟨3,.data⟩],none⟩ ?_
        refine tkQ 5 ⟨some 137,.fieldAddr 54 (.tmp 136) 1,0,"outright.go:111",#[⟨4,.data⟩],none⟩ ?_
        refine tkQ 6 ⟨some 138,.load 3 (.tmp 137),3,"outright.go:111",#[⟨5,.data⟩],none⟩ ?_
        refine tkQ 7 ⟨some 139,.move (.tmp 0),22,"outright.go:111",#[],none⟩ ?_
        refine tkQ 8 ⟨some 140,.move (.tmp 11),3,"outright.go:111",#[],none⟩ ?_
        refine tkQ 9 ⟨some 141,.indexAddr 22 (.tmp 139) (.tmp 140),0,"outright.go:111",#[⟨7,.data⟩,⟨8,.data⟩],none⟩ ?_
        refine tkQ 10 ⟨some 142,.fieldAddr 56 (.tmp 141) 5,0,"outright.go:111",#[⟨9,.data⟩],none⟩ ?_
        refine tkQ 11 ⟨some 143,.fieldAddr 54 (.tmp 142) 2,0,"outright.go:111",#[⟨10,.data⟩],none⟩ ?_
        refine tkQ 12 ⟨some 144,.load 3 (.tmp 143),3,"outright.go:111",#[⟨11,.data⟩],none⟩ ?_
        refine tkQ 13 ⟨some 145,.build 24 #[(0,.tmp 132),(1,.tmp 138),(2,.tmp 144)],24,"outright.go:111",#[⟨0,.data⟩,⟨6,.data⟩,⟨12,.data⟩],none⟩ ?_
        refine rdQ 14 ⟨some 14,.alloc 24,0,"outright.go:111",#[],none⟩ (λK hK=>?_);have n0:=AtL.new0 WD 24 [.int .i64 0,.int .i64 0,.int .i64 0];have bA:=zAJ (Below.refl _ WD) (.cells #[.int .i64 0,.int .i64 0,.int .i64 0] 24);have sz1:=hC.size;go_simp
        refine hkQ hK ⟨zAC (zAB hC bA) k11,zAC (zAB hC bA) k12⟩ (λhHeld=>?_);clear hK K
        obtain ⟨kc,hkc⟩:∃ g,WD.heap.size=g:=⟨_,rfl⟩
        have hCA:=zAB hC bA;rw [hkc] at n0 sz1;simp only [hkc];generalize WD.alloc (.cells #[.int .i64 0,.int .i64 0,.int .i64 0] 24)=WB at *;clear hkc bA hC;have m0:=((n0.set 0 (.int .i64 s)).set 1 (.int .i64 x.a.r)).set 2 (.int .i64 x.a.c);have bC:=zq11 (zq11 (zq11 hCA sz1 0 (.int .i64 s)) sz1 1 (.int .i64 x.a.r)) sz1 2 (.int .i64 x.a.c);obtain ⟨n0a,n0b,n0c,n0d,n0e,n0f⟩:=n0.three;refine rdQ 15 ⟨none,.store 24 (.tmp 14) (.tmp 145),0,"outright.go:111",#[⟨14,.data⟩,⟨13,.data⟩,⟨0,.phase⟩,⟨1,.phase⟩,⟨2,.phase⟩,⟨3,.phase⟩,⟨4,.phase⟩,⟨5,.phase⟩,⟨6,.phase⟩,⟨7,.phase⟩,⟨8,.phase⟩,⟨9,.phase⟩,⟨10,.phase⟩,⟨11,.phase⟩,⟨12,.phase⟩,⟨13,.phase⟩,⟨14,.phase⟩],none⟩ (λK hK=>?_);go_simp
        refine hK.out _ _ ⟨zAC bC k11,zAC bC k12⟩ (λhHeld=>?_);clear hK K;try simp only [Act.put]
        refine wpAnyH_done (by kernel_rfl) ?_ _;clear n0a n0b n0c n0d n0e n0f n0 hCA;go_wp2_with fail
        go_meet
        case rel=>exact ⟨kc,rfl,sz1,m0,bC⟩
      case rest =>
      obtain ⟨kc,rfl,HKC,HKc,HBc⟩:=hcut;generalize hwc:wc=Wc at *;clear hwc;obtain ⟨d0,d1,d2,_,_,_⟩:=HKc.out.three;have HKd:Hid (AtL (Wc.alloc (.cells #[.int .i64 s,.int .i64 x.a.r,.int .i64 x.a.c] 24)) Wc.heap.size [.int .i64 s,.int .i64 x.a.r,.int .i64 x.a.c]):=AtL.new0 Wc 24 [.int .i64 s,.int .i64 x.a.r,.int .i64 x.a.c];have HKc2:Hid (AtL (Wc.alloc (.cells #[.int .i64 s,.int .i64 x.a.r,.int .i64 x.a.c] 24)) kc [.int .i64 s,.int .i64 x.a.r,.int .i64 x.a.c]):=HKc.out.alloc _;have HBd:Hid (Below wx.heap.size wx (Wc.alloc (.cells #[.int .i64 s,.int .i64 x.a.r,.int .i64 x.a.c] 24))):=zAJ HBc.out _;have HKK:Hid (kc ≠ Wc.heap.size/\wx.heap.size<=Wc.heap.size):=⟨Nat.ne_of_lt HKc.out.lt,HBc.out.size⟩
      have k0d:=zAC HBd.out k0;obtain ⟨q3,hq3⟩:∃ b,(x.k == 3)=b:=⟨_,rfl⟩
      have HQ3:Hid ((x.k == 3)=q3):=hq3;clear HKc HBc HKC;go_upto_if 152 with fail
      generalize (Wc.alloc (.cells #[.int .i64 s,.int .i64 x.a.r,.int .i64 x.a.c] 24))=Wd at *;generalize Wc.heap.size=kd at *;clear hq3 d0 d1 d2 k0d;go_cut [] (λwy=>∃ r2 c2:Int,Hid (AtL wy kc [.int .i64 s,.int .i64 x.a.r,.int .i64 x.a.c])/\Hid (AtL wy kd [.int .i64 s,.int .i64 r2,.int .i64 c2])/\Hid (x.k=3->r2=x.b.r/\c2=x.b.c)/\Hid (x.k=2->r2=x.a.r/\c2=x.a.c)/\Hid (Below wx.heap.size wx wy))
      case first =>
       cases q3 with
       | false =>
        go_wp2_with fail
        go_meet
        case rel=>exact ⟨x.a.r,x.a.c,HKc2,HKd,(λq=>absurd q (by have:=HQ3.out;simpa using this):x.k=3->_),(λ_=>⟨rfl,rfl⟩:x.k=2->_),HBd⟩
       | true =>
        have hk3:x.k=3:=by have:=HQ3.out;simpa using this
        as_aux_lemma =>
         clear HBQ2 HF2 HTD HRU HRN4 HRS4 HPC4 HX HCT;go_upto_region 23 with fail
         have hC:Below wx.heap.size wx Wd.drew:=HBd.out.drew;have pc:=HKc2.out.drew;have pd:=HKd.out.drew;have hkd:=HKK.out;refine wp_region_held_drew (S:=λW=>W.cell? ⟨bb,off+i * 20+16,none⟩=some (.int .i64 x.b.r)/\W.cell? ⟨bb,off+i * 20+17,none⟩=some (.int .i64 x.b.c)) (by kernel_rfl) ⟨zAC hC k16,zAC hC k17⟩ (λhHeld=>?_);generalize Wd.drew=WD at *;refine tkQ 0 ⟨some 153,.move (.tmp 12),3,"outright.go:114",#[],none⟩ ?_
         refine tkQ 1 ⟨some 154,.move (.tmp 0),22,"outright.go:114",#[],none⟩ ?_
         refine tkQ 2 ⟨some 155,.move (.tmp 11),3,"outright.go:114",#[],none⟩ ?_
         refine tkQ 3 ⟨some 156,.indexAddr 22 (.tmp 154) (.tmp 155),0,"outright.go:114",#[⟨1,.data⟩,⟨2,.data⟩],none⟩ ?_
         refine tkQ 4 ⟨some 157,.fieldAddr 56 (.tmp 156) 6,0,"outright.go:114",#[⟨3,.data⟩],none⟩ ?_
         refine tkQ 5 ⟨some 158,.fieldAddr 54 (.tmp 157) 1,0,"outright.go:114",#[⟨4,.data⟩],none⟩ ?_
         refine tkQ 6 ⟨some 159,.load 3 (.tmp 158),3,"outright.go:114",#[⟨5,.data⟩],none⟩ ?_
         refine tkQ 7 ⟨some 160,.move (.tmp 0),22,"outright.go:114",#[],none⟩ ?_
         refine tkQ 8 ⟨some 161,.move (.tmp 11),3,"outright.go:114",#[],none⟩ ?_
         refine tkQ 9 ⟨some 162,.indexAddr 22 (.tmp 160) (.tmp 161),0,"outright.go:114",#[⟨7,.data⟩,⟨8,.data⟩],none⟩ ?_
         refine tkQ 10 ⟨some 163,.fieldAddr 56 (.tmp 162) 6,0,"outright.go:114",#[⟨9,.data⟩],none⟩ ?_
         refine tkQ 11 ⟨some 164,.fieldAddr 54 (.tmp 163) 2,0,"outright.go:114",#[⟨10,.data⟩],none⟩ ?_
         refine tkQ 12 ⟨some 165,.load 3 (.tmp 164),3,"outright.go:114",#[⟨11,.data⟩],none⟩ ?_
         refine tkQ 13 ⟨some 166,.build 24 #[(0,.tmp 153),(1,.tmp 159),(2,.tmp 165)],24,"outright.go:114",#[⟨0,.data⟩,⟨6,.data⟩,⟨12,.data⟩],none⟩ ?_
         have m0:=((pd.set 0 (.int .i64 s)).set 1 (.int .i64 x.b.r)).set 2 (.int .i64 x.b.c);have mc:=((pc.far (j:=kd) (λe=>hkd.1 e.symm) 0 (.int .i64 s)).far (j:=kd) (λe=>hkd.1 e.symm) 1 (.int .i64 x.b.r)).far (j:=kd) (λe=>hkd.1 e.symm) 2 (.int .i64 x.b.c);have bC:=zq11 (zq11 (zq11 hC hkd.2 0 (.int .i64 s)) hkd.2 1 (.int .i64 x.b.r)) hkd.2 2 (.int .i64 x.b.c);obtain ⟨n0a,n0b,n0c,n0d,n0e,n0f⟩:=pd.three;refine rdQ 14 ⟨none,.store 24 (.tmp 15) (.tmp 166),0,"outright.go:114",#[⟨13,.data⟩,⟨0,.phase⟩,⟨1,.phase⟩,⟨2,.phase⟩,⟨3,.phase⟩,⟨4,.phase⟩,⟨5,.phase⟩,⟨6,.phase⟩,⟨7,.phase⟩,⟨8,.phase⟩,⟨9,.phase⟩,⟨10,.phase⟩,⟨11,.phase⟩,⟨12,.phase⟩,⟨13,.phase⟩],none⟩ (λK hK=>?_);go_simp
         refine hK.out _ _ ⟨zAC bC k16,zAC bC k17⟩ (λhHeld=>?_);clear hK K;try simp only [Act.put]
         refine wpAnyH_done (by kernel_rfl) ?_ _;clear n0a n0b n0c n0d n0e n0f pc pd hC;go_wp2_with fail
         go_meet
         case rel=>exact ⟨x.b.r,x.b.c,mc,m0,(λ_=>⟨rfl,rfl⟩:x.k=3->_),(λq=>absurd q (by omega):x.k=2->_),bC⟩
      case rest =>
      obtain ⟨r2,c2,HKc,HKe,HR3,HR2,HBe⟩:=hcut;generalize hwc:wc=We at *;clear hwc HKc2 HKd HBd HKK HQ3 k0 k11 k12 k16 k17;have hm9:x ∈ l:=by obtain ⟨h1,h2⟩:=HX.out;rw [<-h2];exact List.getElem_mem h1
      obtain ⟨ok,hv⟩:=zq35 HTD.out hm9 HS.out HK.out HR3.out HR2.out (F:=λj=>if j=0 then ⟨s,x.a.r,x.a.c⟩ else ⟨s,r2,c2⟩) rfl rfl;have pn:=AtL.new0 We 24 [.int .i64 s,.int .i64 x.a.r,.int .i64 x.a.c,.int .i64 s,.int .i64 r2,.int .i64 c2];have hC:Cells (We.alloc (.cells #[.int .i64 s,.int .i64 x.a.r,.int .i64 x.a.c,.int .i64 s,.int .i64 r2,.int .i64 c2] 24)) We.heap.size 0 2 (λj=>if j=0 then ⟨s,x.a.r,x.a.c⟩ else ⟨s,r2,c2⟩):=λj hj=>by
       rcases (show j=0 \/ j=1 by omega) with rfl | rfl
       ·exact ⟨pn.2.1 0 _ rfl,pn.2.1 1 _ rfl,pn.2.1 2 _ rfl⟩
       ·exact ⟨pn.2.1 3 _ rfl,pn.2.1 4 _ rfl,pn.2.1 5 _ rfl⟩
      have HU2:=zGv We.heap.size 0 2 2 _ _ (by omega) (by omega) (by omega) (by omega) pn.lt hC;rw [ok,hv] at HU2;have HTI:Hid (tel own (nm.take 16) false (l.take (i+1))=(tel own (nm.take 16) false (l.take i))++[arN own (nm.take 16) x]/\arN own (nm.take 16) x ∈ U):=by
       obtain ⟨h1,h2⟩:=HX.out;have h3:zq6 (lst false (l.take i)) x=true:=by simpa using HCT.out
       have e:tel own (nm.take 16) false (l.take (i+1))=(tel own (nm.take 16) false (l.take i))++[arN own (nm.take 16) x]:=by rw [zq12 h1,h2,h3];rfl
       refine ⟨e,(HTD.out.mem _).2 ?_⟩;rw [<-List.take_append_drop (i+1) l,zq8,e];simp
      obtain ⟨a,ha⟩:∃ a,arN own (nm.take 16) x=a:=⟨_,rfl⟩
      rw [ha] at HU2 HTI;have hbn:=zAJ HBe.out (.cells #[.int .i64 s,.int .i64 x.a.r,.int .i64 x.a.c,.int .i64 s,.int .i64 r2,.int .i64 c2] 24);have HBn:Hid (Below wx.heap.size wx (We.alloc (.cells #[.int .i64 s,.int .i64 x.a.r,.int .i64 x.a.c,.int .i64 s,.int .i64 r2,.int .i64 c2] 24))):=hbn;obtain ⟨d0,d1,d2,_,_,_⟩:=HKc.out.three;obtain ⟨g0,g1,g2,_,_,_⟩:=HKe.out.three;clear ok hv pn hC ha hm9 hbn HKc HKe HR3 HR2 HBe HS HK HX HCT;go_wp2_with fail
      refine HU2.mono ?_;rintro e W8 ⟨rfl,hb8⟩;have HB8:Hid (Below wx.heap.size wx W8):=zAB HBn.out hb8;have HAk:Hid (AtL (W8.alloc (.cells #[.int .i64 a.s,.int .i64 a.t,.int .i64 a.l,.int .i64 a.b,.int .i64 a.r] 45)) W8.heap.size (zB6 a)):=AtL.new0 W8 45 (zB6 a);have hb9:=zAJ HB8.out (.cells #[.int .i64 a.s,.int .i64 a.t,.int .i64 a.l,.int .i64 a.b,.int .i64 a.r] 45);have HBk:Hid (Below w4.heap.size w4 (W8.alloc (.cells #[.int .i64 a.s,.int .i64 a.t,.int .i64 a.l,.int .i64 a.b,.int .i64 a.r] 45))):=zAB HBQ2.out hb9;have HFk:Hid (AtL (W8.alloc (.cells #[.int .i64 a.s,.int .i64 a.t,.int .i64 a.l,.int .i64 a.b,.int .i64 a.r] 45)) fb (foL (tel own (nm.take 16) false (l.take i)) a U 0)):=by
       show AtL _ _ _
       rw [zq36];exact AtL.below hb9 HF2.out
      have HKF:Hid (fb ≠ W8.heap.size):=by
       have h1:=HF2.out.lt;have h2:=HB8.out.size;show fb ≠ _
       omega
      clear HU2 hb8 hb9 HBn d0 d1 d2 g0 g1 g2 HB8 HF2 HBQ2;go_upto_region 27 with fail
      generalize (W8.alloc (.cells #[.int .i64 a.s,.int .i64 a.t,.int .i64 a.l,.int .i64 a.b,.int .i64 a.r] 45))=Wk at *;generalize W8.heap.size=ka at *;go_loopg [18,19] n (λgk u18 u19 wy=>∃ (k:Nat),u18=.bool (anyT U a k)/\u19=.int .i64 (k:Int)/\gk=n - k/\k<=n/\Hid (Below w4.heap.size w4 wy)/\Hid (AtL wy ka (zB6 a))/\Hid (AtL wy fb (foL (tel own (nm.take 16) false (l.take i)) a U k)))
      case atStart=>exact ⟨0,rfl,rfl,rfl,Nat.zero_le _,HBk,HAk,HFk⟩
      case round =>
       clear HBk HAk HFk;obtain ⟨k,rfl,rfl,hgk,hkn,HBy,HAy,HFy⟩:=hrel;generalize hw9:wr=wy at *;clear hw9;by_cases hkl:k<n
       ·have hki:(k:Int)<(n:Int):=by omega
        have hkz:(0:Int)<=(k:Int):=by omega
        have hwk:IntKind.i64.wrap ((k:Int)+1)=(k:Int)+1:=by rw [IntKind.wrap_i64];have:=HN.out.2;omega
        have hkU:k<U.length:=by rw [HN.out.1];exact hkl
        obtain ⟨ub,uo,rfl,hRu⟩:=HRU.out k hkU;obtain ⟨q,hq⟩:∃ q,zCJ U[k] a=q:=⟨_,rfl⟩
        have HAN:Hid (anyT U a (k+1)=(anyT U a k || q)):=by show _=_;rw [zq17 hkU,hq]
        have HFH:Hid (q=true->(foL (tel own (nm.take 16) false (l.take i)) a U k).set k (.bool true)=foL (tel own (nm.take 16) false (l.take i)) a U (k+1)):=λe=>zq46 hkU (by rw [hq];exact e)
        have HFM:Hid (q=false->foL (tel own (nm.take 16) false (l.take i)) a U k=foL (tel own (nm.take 16) false (l.take i)) a U (k+1)):=λe=>zq30 hkU (by rw [hq];exact e)
        have fk:=HFy.out.2.1 k _ (zq60 (tel own (nm.take 16) false (l.take i)) a U k hkU);have fz:=HFy.out.2.2 k (by rw [zq24];exact hkU);obtain ⟨dv,hdv⟩:∃ v,dT (tel own (nm.take 16) false (l.take i)) U[k]=v:=⟨_,rfl⟩
        rw [hdv] at fk;obtain ⟨y,hy⟩:∃ y,U[k]=y:=⟨_,rfl⟩
        rw [hy] at hRu hq;have heq:∀ W,(binOp .eql 45 (.agg #[.int .i64 y.s,.int .i64 y.t,.int .i64 y.l,.int .i64 y.b,.int .i64 y.r]) (.agg #[.int .i64 a.s,.int .i64 a.t,.int .i64 a.l,.int .i64 a.b,.int .i64 a.r])).run prog W=.ok (.bool q) W:=λW=>by rw [zq13,hq]
        have sp:=zAF HBy.out hRu;clear hdv hy hq hRu hkU;go_upto_region 29 with fail
        have hC:Below wy.heap.size wy wy.drew:=(Below.refl _ _).drew;have sp2:=zAF hC sp;have sq2:=(AtL.below hC HAy.out).2.1;have p0:wy.drew.cell? ⟨ub,uo+k * 5,none⟩=some (.int .i64 y.s):=sp2 0 _ rfl;have a0:wy.drew.cell? ⟨ka,0,none⟩=some (.int .i64 a.s):=sq2 0 _ rfl;have p1:wy.drew.cell? ⟨ub,uo+k * 5+1,none⟩=some (.int .i64 y.t):=sp2 1 _ rfl;have a1:wy.drew.cell? ⟨ka,1,none⟩=some (.int .i64 a.t):=sq2 1 _ rfl;have p2:wy.drew.cell? ⟨ub,uo+k * 5+2,none⟩=some (.int .i64 y.l):=sp2 2 _ rfl;have a2:wy.drew.cell? ⟨ka,2,none⟩=some (.int .i64 a.l):=sq2 2 _ rfl;have p3:wy.drew.cell? ⟨ub,uo+k * 5+3,none⟩=some (.int .i64 y.b):=sp2 3 _ rfl;have a3:wy.drew.cell? ⟨ka,3,none⟩=some (.int .i64 a.b):=sq2 3 _ rfl;have p4:wy.drew.cell? ⟨ub,uo+k * 5+4,none⟩=some (.int .i64 y.r):=sp2 4 _ rfl;have a4:wy.drew.cell? ⟨ka,4,none⟩=some (.int .i64 a.r):=sq2 4 _ rfl;clear sp sp2 sq2;refine wp_region_held_drew (S:=λW=>(W.cell? ⟨ub,uo+k * 5,none⟩=some (.int .i64 y.s)/\W.cell? ⟨ub,uo+k * 5+1,none⟩=some (.int .i64 y.t)/\W.cell? ⟨ub,uo+k * 5+2,none⟩=some (.int .i64 y.l)/\W.cell? ⟨ub,uo+k * 5+3,none⟩=some (.int .i64 y.b)/\W.cell? ⟨ub,uo+k * 5+4,none⟩=some (.int .i64 y.r))/\W.cell? ⟨ka,0,none⟩=some (.int .i64 a.s)/\W.cell? ⟨ka,1,none⟩=some (.int .i64 a.t)/\W.cell? ⟨ka,2,none⟩=some (.int .i64 a.l)/\W.cell? ⟨ka,3,none⟩=some (.int .i64 a.b)/\W.cell? ⟨ka,4,none⟩=some (.int .i64 a.r)) (by kernel_rfl) ⟨⟨p0,p1,p2,p3,p4⟩,a0,a1,a2,a3,a4⟩ (λhHeld=>?_)
        generalize wy.drew=WD at *;refine tkQ 0 ⟨some 180,.move (.tmp 9),34,"outright.go:119",#[],none⟩ ?_
        refine tkQ 1 ⟨some 181,.move (.tmp 19),3,"outright.go:119",#[],none⟩ ?_
        refine tkQ 2 ⟨some 182,.indexAddr 34 (.tmp 180) (.tmp 181),0,"outright.go:119",#[⟨0,.data⟩,⟨1,.data⟩],none⟩ ?_
        refine tkQ 3 ⟨some 183,.load 45 (.tmp 182),45,"outright.go:119",#[⟨2,.data⟩],none⟩ ?_
        refine tkQ 4 ⟨some 184,.load 45 (.tmp 16),45,"outright.go:119",#[],none⟩ ?_
        refine tkQ 5 ⟨some 185,.binOp BinOp.eql 45 (.tmp 183) (.tmp 184) 45,4,"outright.go:119",#[⟨3,.data⟩,⟨4,.data⟩],none⟩ ?_
        refine wpAnyH_done (by kernel_rfl) ?_ _;have HBz:Hid (Below w4.heap.size w4 WD):=zAB HBy.out hC;have HAz:Hid (AtL WD ka (zB6 a)):=AtL.below hC HAy.out;have HFz:Hid (AtL WD fb (foL (tel own (nm.take 16) false (l.take i)) a U k)):=AtL.below hC HFy.out;have fk2:=zAC hC fk;have fz2:=HFz.out.2.2 k (by rw [zq24];rw [HN.out.1];exact hkl);clear hC HBy HAy HFy fk fz heq p0 p1 p2 p3 p4 a0 a1 a2 a3 a4 hHeld;cases q with
        | false =>
         have HG:Hid (AtL WD fb (foL (tel own (nm.take 16) false (l.take i)) a U (k+1))):=by
          have h9:=HFz.out;rw [HFM.out rfl] at h9;exact h9
         have HAN2:Hid (anyT U a (k+1)=anyT U a k):=by
          show _=_
          rw [HAN.out];simp
         clear HFz HFM HFH HAN;go_wp2_with fail
         go_roundg (n - (k+1))
         case rel=>exact ⟨k+1,by rw [HAN2.out],by simp,rfl,hkl,HBz,HAz,HG⟩
         case measure=>omega
        | true =>
         have HG:Hid (AtL (WD.setCell ⟨fb,k,none⟩ (.bool true)) fb (foL (tel own (nm.take 16) false (l.take i)) a U (k+1))):=by
          have h9:=HFz.out.set k (.bool true);rw [HFH.out rfl] at h9;exact h9
         have HBG:Hid (Below w4.heap.size w4 (WD.setCell ⟨fb,k,none⟩ (.bool true))):=zq11 HBz.out (by rw [HFB.out];exact Nat.le_refl _) k (.bool true);have HAG:Hid (AtL (WD.setCell ⟨fb,k,none⟩ (.bool true)) ka (zB6 a)):=HAz.out.far HKF.out k (.bool true);have HAN2:Hid (anyT U a (k+1)=true):=by
          show _=_
          rw [HAN.out];simp
         clear HFz HFM HFH HAN HBz HAz;go_wp2_with fail
         go_roundg (n - (k+1))
         case rel=>exact ⟨k+1,by rw [HAN2.out],by simp,rfl,hkl,HBG,HAG,HG⟩
         case measure=>omega
       ·have hki:¬ (k:Int)<(n:Int):=by omega
        have hkn2:k=n:=by omega
        have hat:anyT U a k=true:=by rw [hkn2,<-HN.out.1];exact zq32 HTI.out.2
        have HF9:Hid (AtL wy fb (U.map (λA=>Value.bool (dT (tel own (nm.take 16) false (l.take (i+1))) A)))):=by
         have h9:=HFy.out;rw [hkn2,<-HN.out.1,zq45,<-HTI.out.1] at h9;exact h9
        have HB9:Hid (Below fb w4 wy):=by rw [<-HFB.out];exact HBy.out
        clear HBy HAy HFy HTI hkn2 hgk hkn;go_wp2_with fail
        go_roundg (m - (i+1))
        case rel=>exact ⟨i+1,by simp,rfl,hlt,HB9,HF9⟩
        case measure=>omega
    ·have hli:¬ (i:Int)<(m:Int):=by omega
     have hin:i=m:=by omega
     have HFE:Hid (AtL W1 fb (List.replicate n (.bool true))):=by
      have h1:=HF.out;have h2:l.take i=l:=by rw [hin,HM.out.1,List.take_length]
      have h3:U.map (λA=>Value.bool (dT (tel own (nm.take 16) false (l.take i)) A))=List.replicate n (.bool true):=by
       rw [<-HN.out.1,h2];refine List.eq_replicate_iff.2 ⟨by simp,λb hb=>?_⟩;obtain ⟨A,hA,e⟩:=List.mem_map.1 hb;rw [<-e,dT_iff.2 ((HTD.out.mem A).1 hA)]
      rw [h3] at h1;exact h1
     have HBE:Hid (Below w4.heap.size w4 W1):=by rw [HFB.out];exact HB.out
     clear HF HB hg hi hlt HRN4 HRS4 HPC4 hin;go_upto_region 35 with fail
     go_loopg [20] n (λgk u20 wx=>∃ (k:Nat),u20=.int .i64 (k:Int)/\gk=n - k/\k<=n/\Hid (Below W1.heap.size W1 wx))
     case atStart=>exact ⟨0,rfl,rfl,Nat.zero_le _,Below.refl _ _⟩
     case round =>
      obtain ⟨k,rfl,hgk,hkn,HBx⟩:=hrel;generalize hw9:wr=wx at *;clear hw9;by_cases hkl:k<n
      ·have hki:(k:Int)<(n:Int):=by omega
       have hkz:(0:Int)<=(k:Int):=by omega
       have hwk:IntKind.i64.wrap ((k:Int)+1)=(k:Int)+1:=by rw [IntKind.wrap_i64];have:=HN.out.2;omega
       have fk:=zAC HBx.out (HFE.out.2.1 k (.bool true) (by rw [List.getElem?_replicate,if_pos hkl]));go_upto_region 40 with fail
       go_loopg [21] k (λgk u21 wy=>∃ (j:Nat),u21=.int .i64 (j:Int)/\gk=k - j/\j<=k/\Hid (Below W1.heap.size W1 wy))
       case atStart=>exact ⟨0,rfl,rfl,Nat.zero_le _,HBx⟩
       case round =>
        obtain ⟨j,rfl,hgj,hjk,HBy⟩:=hrel;generalize hw9:wr=wy at *;clear hw9;by_cases hjl:j<k
        ·have hji:(j:Int)<(k:Int):=by omega
         have hjz:(0:Int)<=(j:Int):=by omega
         have hjn:(j:Int)<(n:Int):=by omega
         have hwj:IntKind.i64.wrap ((j:Int)+1)=(j:Int)+1:=by rw [IntKind.wrap_i64];have:=HN.out.2;omega
         have hkU:k<U.length:=by rw [HN.out.1];exact hkl
         have hjU:j<U.length:=by omega
         obtain ⟨ub,uo,rfl,hRu⟩:=HRU.out k hkU;obtain ⟨ub',uo',e9,hRj⟩:=HRU.out j hjU;simp only [Option.some.injEq,Addr.mk.injEq] at e9;obtain ⟨e91,e92,_⟩:=e9;subst e91 e92;have hne:=zq64 HTD.out.nod hjl hkU;obtain ⟨y,hy⟩:∃ y,U[k]=y:=⟨_,rfl⟩
         obtain ⟨a,ha⟩:∃ y,U[j]=y:=⟨_,rfl⟩
         rw [hy] at hRu hne;rw [ha] at hRj hne;have heq:∀ W,(binOp .eql 45 (.agg #[.int .i64 a.s,.int .i64 a.t,.int .i64 a.l,.int .i64 a.b,.int .i64 a.r]) (.agg #[.int .i64 y.s,.int .i64 y.t,.int .i64 y.l,.int .i64 y.b,.int .i64 y.r])).run prog W=.ok (.bool false) W:=λW=>by rw [zq13,hne]
         have sp:=zAF (zAB HBE.out HBy.out) hRu;have sq:=zAF (zAB HBE.out HBy.out) hRj;clear hy ha hne hRu hRj hkU hjU;go_upto_region 42 with fail
         have hC:Below wy.heap.size wy wy.drew:=(Below.refl _ _).drew;have sp2:=zAF hC sp;have sq2:=zAF hC sq;have p0:wy.drew.cell? ⟨ub,uo+k * 5,none⟩=some (.int .i64 y.s):=sp2 0 _ rfl;have a0:wy.drew.cell? ⟨ub,uo+j * 5,none⟩=some (.int .i64 a.s):=sq2 0 _ rfl;have p1:wy.drew.cell? ⟨ub,uo+k * 5+1,none⟩=some (.int .i64 y.t):=sp2 1 _ rfl;have a1:wy.drew.cell? ⟨ub,uo+j * 5+1,none⟩=some (.int .i64 a.t):=sq2 1 _ rfl;have p2:wy.drew.cell? ⟨ub,uo+k * 5+2,none⟩=some (.int .i64 y.l):=sp2 2 _ rfl;have a2:wy.drew.cell? ⟨ub,uo+j * 5+2,none⟩=some (.int .i64 a.l):=sq2 2 _ rfl;have p3:wy.drew.cell? ⟨ub,uo+k * 5+3,none⟩=some (.int .i64 y.b):=sp2 3 _ rfl;have a3:wy.drew.cell? ⟨ub,uo+j * 5+3,none⟩=some (.int .i64 a.b):=sq2 3 _ rfl;have p4:wy.drew.cell? ⟨ub,uo+k * 5+4,none⟩=some (.int .i64 y.r):=sp2 4 _ rfl;have a4:wy.drew.cell? ⟨ub,uo+j * 5+4,none⟩=some (.int .i64 a.r):=sq2 4 _ rfl;clear sp sp2 sq2 sq;refine wp_region_held_drew (S:=λW=>(W.cell? ⟨ub,uo+k * 5,none⟩=some (.int .i64 y.s)/\W.cell? ⟨ub,uo+k * 5+1,none⟩=some (.int .i64 y.t)/\W.cell? ⟨ub,uo+k * 5+2,none⟩=some (.int .i64 y.l)/\W.cell? ⟨ub,uo+k * 5+3,none⟩=some (.int .i64 y.b)/\W.cell? ⟨ub,uo+k * 5+4,none⟩=some (.int .i64 y.r))/\W.cell? ⟨ub,uo+j * 5,none⟩=some (.int .i64 a.s)/\W.cell? ⟨ub,uo+j * 5+1,none⟩=some (.int .i64 a.t)/\W.cell? ⟨ub,uo+j * 5+2,none⟩=some (.int .i64 a.l)/\W.cell? ⟨ub,uo+j * 5+3,none⟩=some (.int .i64 a.b)/\W.cell? ⟨ub,uo+j * 5+4,none⟩=some (.int .i64 a.r)) (by kernel_rfl) ⟨⟨p0,p1,p2,p3,p4⟩,a0,a1,a2,a3,a4⟩ (λhHeld=>?_)
         generalize wy.drew=WD at *;refine tkQ 0 ⟨some 211,.move (.tmp 9),34,"outright.go:133",#[],none⟩ ?_
         refine tkQ 1 ⟨some 212,.move (.tmp 21),3,"outright.go:133",#[],none⟩ ?_
         refine tkQ 2 ⟨some 213,.indexAddr 34 (.tmp 211) (.tmp 212),0,"outright.go:133",#[⟨0,.data⟩,⟨1,.data⟩],none⟩ ?_
         refine tkQ 3 ⟨some 214,.load 45 (.tmp 213),45,"outright.go:133",#[⟨2,.data⟩],none⟩ ?_
         refine tkQ 4 ⟨some 215,.move (.tmp 9),34,"outright.go:133",#[],none⟩ ?_
         refine tkQ 5 ⟨some 216,.move (.tmp 20),3,"outright.go:133",#[],none⟩ ?_
         refine tkQ 6 ⟨some 217,.indexAddr 34 (.tmp 215) (.tmp 216),0,"outright.go:133",#[⟨4,.data⟩,⟨5,.data⟩],none⟩ ?_
         refine tkQ 7 ⟨some 218,.load 45 (.tmp 217),45,"outright.go:133",#[⟨6,.data⟩],none⟩ ?_
         refine tkQ 8 ⟨some 219,.binOp BinOp.eql 45 (.tmp 214) (.tmp 218) 45,4,"outright.go:133",#[⟨3,.data⟩,⟨7,.data⟩],none⟩ ?_
         refine wpAnyH_done (by kernel_rfl) ?_ _;have HBz:Hid (Below W1.heap.size W1 WD):=zAB HBy.out hC;clear hC HBy heq p0 p1 p2 p3 p4 a0 a1 a2 a3 a4 hHeld;go_wp2_with fail
         go_roundg (k - (j+1))
         case rel=>exact ⟨j+1,by simp,rfl,hjl,HBz⟩
         case measure=>omega
        ·have hji:¬ (j:Int)<(k:Int):=by omega
         go_wp2_with fail
         go_roundg (n - (k+1))
         case rel=>exact ⟨k+1,by simp,rfl,hkl,HBy⟩
         case measure=>omega
      ·have hki:¬ (k:Int)<(n:Int):=by omega
       go_wp2;go_ret;exact ⟨rfl,zAB HBW4.out (zAB HBE.out HBx.out)⟩
  ·have hne:(ee != 0)=true:=by simp [he]
   clear HF1 HF2;go_wp2;go_ret;exact ⟨rfl,HBW.out⟩
