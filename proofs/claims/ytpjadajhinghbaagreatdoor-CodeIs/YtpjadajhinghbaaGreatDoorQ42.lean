/- KLawIs, KLaid, KLaidO, TNArg. -/
import Derived.Test.YtpjadajhinghbaaGreatDoorQ41
import Derived.Lib.LaidTab
import Derived.Deep.Strs
import Derived.Stop.LaidErr
import Derived.Deep.Slices
import Derived.Lib.SmallJoins
import Derived.SizedLaws
import Derived.Carry
import Derived.ProofKit
set_option maxHeartbeats 4000000
set_option maxRecDepth 100000
namespace Go.Proofs.YtpjadajhinghbaaGreatDoor
open Tryz
variable {W:World} {rest:List (String × DataW Unit)}
abbrev zP1:Oper:=⟨some 21,.buildSlice 22 0 #[],22,"outright.go:21",#[],none⟩
abbrev zNf:Oper:=⟨some 25,.buildSlice 25 0 #[],25,"outright.go:21",#[],none⟩
abbrev zOJ:Oper:=⟨some 23,.call {callee:=Callee.builtin Builtin.append,args:=#[.tmp 21,.tmp 22],argTypes:=#[22,22]},22,"outright.go:21",#[⟨0,.data⟩,⟨1,.data⟩],none⟩
abbrev zM1:Oper:=⟨some 27,.call {callee:=Callee.builtin Builtin.append,args:=#[.tmp 25,.tmp 26],argTypes:=#[25,25]},25,"outright.go:21",#[⟨4,.data⟩,⟨5,.data⟩,⟨2,.chain⟩],none⟩
abbrev zNL:Oper:=⟨some 28,.call {callee:=Callee.value (Operand.func 11),args:=#[.tmp 23,.tmp 24,.tmp 27],argTypes:=#[22,24,25]},32,"outright.go:21",#[⟨2,.data⟩,⟨3,.data⟩,⟨6,.data⟩,⟨6,.chain⟩],none⟩
abbrev zO4:Oper:=⟨some 20,.move (.tmp 28),32,"outright.go:21",#[⟨7,.data⟩],none⟩
abbrev zMW:Oper:=⟨some 29,.extract (.tmp 20) 0,30,"outright.go:21",#[⟨8,.data⟩],none⟩
abbrev zO9:Oper:=⟨some 30,.extract (.tmp 20) 1,31,"outright.go:21",#[⟨8,.data⟩,⟨11,.gcOnly .lateStores⟩],none⟩
abbrev zNE:Oper:=⟨some 7,.assign (.tmp 29),30,"outright.go:21",#[⟨9,.data⟩,⟨7,.chain⟩,⟨0,.phase⟩,⟨1,.phase⟩,⟨2,.phase⟩,⟨3,.phase⟩,⟨4,.phase⟩,⟨5,.phase⟩,⟨6,.phase⟩,⟨7,.phase⟩,⟨8,.phase⟩,⟨9,.phase⟩,⟨10,.textOnly .lateStores⟩],none⟩
abbrev zMm:Oper:=⟨some 8,.assign (.tmp 30),31,"outright.go:21",#[⟨10,.data⟩,⟨11,.chain⟩,⟨0,.phase⟩,⟨1,.phase⟩,⟨2,.phase⟩,⟨3,.phase⟩,⟨4,.phase⟩,⟨5,.phase⟩,⟨6,.phase⟩,⟨7,.phase⟩,⟨8,.phase⟩,⟨9,.phase⟩,⟨10,.phase⟩,⟨11,.phase⟩],none⟩
open Go.RowKit Wf
set_option linter.unusedVariables false
theorem zPO (l:List Wt.Nd) (nm:List ByteArray) (av:Option Addr) (m cap:Nat) (av3:Option Addr) (m3 cap3:Nat) (own r c:Int) (w:World) (hm:m=l.length) (hm3:m3=nm.length) (hl:True->l.length<=9223372036854775807) (hl3:True->nm.length<=9223372036854775807) (hF:∀ x ∈ l,Wt.FitN x) (hr:RdN w av l) (hr3:RdS w av3 nm) (hno:av=none->m=0/\cap=0) (hno3:av3=none->m3=0/\cap3=0) (how:-9223372036854775808<=own/\own<=9223372036854775807) (hN:NmAt w) (hO:OpsAt w) :
  CR 4 #[.slice av m cap,.agg #[.int .i64 own,.int .i64 r,.int .i64 c],.slice av3 m3 cap3] w (.bool true):=by
 have hb0:=zAK (Below.refl _ w) (.cells #[.int .i64 own,.int .i64 r,.int .i64 c] 24);have pC:=AtL.new0 w 24 [.int .i64 own,.int .i64 r,.int .i64 c];have AB:=zKZ _ (hN.below hb0) (hO.below hb0);have HNA:Hid (∀ W:World,Below w.heap.size w W->Calls prog 10 #[.slice av3 m3 cap3] W (NaP m3 W)):=λW hb=>zHP nm av3 m3 cap3 W hm3 (hl3 trivial) (hr3.below hb)
 have HALL:Hid (m<=20000->m3<=20000->∃ E C,FlC l nm E C):=λh1 h2=>zJd l nm (by omega) hF (by omega)
 have HB0:Hid (Below w.heap.size w (w.alloc (.cells #[.int .i64 own,.int .i64 r,.int .i64 c] 24))):=hb0;have HPC:Hid (AtL (w.alloc (.cells #[.int .i64 own,.int .i64 r,.int .i64 c] 24)) w.heap.size [.int .i64 own,.int .i64 r,.int .i64 c]):=pC;have HRN0:Hid (RdN w av l):=hr;have HRS0:Hid (RdS w av3 nm):=hr3;have HNO:Hid (av=none->m=0/\cap=0):=hno;have HNO3:Hid (av3=none->m3=0/\cap3=0):=hno3;have HOW:Hid (-9223372036854775808<=own/\own<=9223372036854775807):=how;have HMM:Hid (m=l.length/\m3=nm.length):=⟨hm,hm3⟩
 have HNM0:Hid (NmAt w/\OpsAt w):=⟨hN,hO⟩
 clear hb0 pC hm hm3 hl hl3 hF hr hr3 hno hno3 how hN hO;go_enter func4,ntmps4;go_upto_region 1 with fail
 generalize (w.alloc (.cells #[.int .i64 own,.int .i64 r,.int .i64 c] 24))=W at *;go_wp2_with fail
 refine AB.mono ?_;rintro e w1 ⟨rfl,hb1⟩;have HB1:Hid (Below w.heap.size w w1):=zAB HB0.out hb1;have HPC1:Hid (AtL w1 w.heap.size [.int .i64 own,.int .i64 r,.int .i64 c]):=AtL.below hb1 HPC.out;have NA:=HNA.out w1 HB1.out;clear AB HB0 HPC HNA hb1;by_cases hm20:(20000:Int)<(m:Int)
 ·go_wp2;go_ret;exact ⟨rfl,HB1.out⟩
 have HM20:Hid (m<=20000):=by show _<=_;omega
 go_wp2_with fail
 refine NA.mono ?_;rintro e w2 ⟨⟨q,rfl,hq⟩,hb2⟩;have HB2:Hid (Below w.heap.size w w2):=zAB HB1.out hb2;have HPC2:Hid (AtL w2 w.heap.size [.int .i64 own,.int .i64 r,.int .i64 c]):=AtL.below hb2 HPC1.out;have HQ:Hid (q=false->m3<=20000):=hq;clear NA HB1 HPC1 hb2 hq;cases q with
 | true =>
  go_wp2;go_ret;exact ⟨rfl,HB2.out⟩
 | false =>
 have h3:=HQ.out rfl;obtain ⟨E,C,hFL⟩:=HALL.out HM20.out h3;have HFL:Hid (FlC l nm E C):=hFL;have HM:Hid (m=l.length/\l.length<=20000):=⟨HMM.out.1,by have:=HM20.out;have:=HMM.out.1;omega⟩
 have HM3:Hid (m3=nm.length/\nm.length<=20000):=⟨HMM.out.2,by have:=HMM.out.2;omega⟩
 have HRN:Hid (RdN w2 av l):=HRN0.out.below HB2.out;have HRS:Hid (RdS w2 av3 nm):=HRS0.out.below HB2.out;have HNM:Hid (NmAt w2/\OpsAt w2):=⟨HNM0.out.1.below HB2.out,HNM0.out.2.below HB2.out⟩
 clear hFL h3 HQ HALL HRN0 HRS0 HMM HNM0 HM20;obtain ⟨c0,c1,c2,_,_,_⟩:=HPC2.out.three;clear HPC2;go_upto_region 5 with fail
 generalize w2=W0 at *;go_cut [7,8] (λs7 s8 wx=>∃ fa fm fc,s7=.slice fa fm fc/\s8=.int .i64 (E own r c)/\Hid (E own r c ≠ 0->fm=0)/\Hid (E own r c=0->RdC wx (.slice fa fm fc) (C own))/\Hid (Below W0.heap.size W0 wx))
 case first =>
  have hC:Below W0.heap.size W0 W0.drew:=(Below.refl _ _).drew;refine wp_region_held_drew (S:=λW=>W.cell? ⟨w.heap.size,0,none⟩=some (.int .i64 own)/\W.cell? ⟨w.heap.size,1,none⟩=some (.int .i64 r)/\W.cell? ⟨w.heap.size,2,none⟩=some (.int .i64 c)) (by kernel_rfl) ⟨zAC hC c0,zAC hC c1,zAC hC c2⟩ (λhHeld=>?_);generalize W0.drew=WD at *;refine tkQ 1 ⟨some 22,.move (.tmp 0),22,"outright.go:21",#[],none⟩ ?_
  refine tkQ 3 ⟨some 24,.load 24 (.tmp 4),24,"outright.go:21",#[],none⟩ ?_
  refine tkQ 5 ⟨some 26,.move (.tmp 2),25,"outright.go:21",#[],none⟩ ?_
  refine wpAnyH_ready (rs:=[0,4]) (by kernel_rfl) (by simp) ?_;refine AllReadyH.cons (o:=zP1) rfl (λK hK=>?_) (AllReadyH.cons (o:=zNf) rfl (λK hK=>?_) AllReadyH.nil)
  ·have hba:=zAK (Below.refl _ WD) (.cells #[] 56);have oN:=zBZ (zBx WD 56 20) hC.size;replace hC:=zAB hC hba
   clear hba;go_simp
   refine hkQ hK ⟨zAC hC c0,zAC hC c1,zAC hC c2⟩ (λhHeld=>?_);clear hK K
   obtain ⟨gN,hgN⟩:∃ g,WD.heap.size=g:=⟨_,rfl⟩
   rw [hgN] at oN;simp only [hgN];generalize hgw:(WD.alloc (.cells #[] 56))=wa at *;clear hgw hgN;refine wpAnyH_ready (rs:=[2,4]) (by kernel_rfl) (by simp) ?_;refine AllReadyH.cons (o:=zOJ) rfl (λK hK=>?_) (AllReadyH.cons (o:=zNf) rfl (λK hK=>?_) AllReadyH.nil)
   ·refine zJB (.tmp 21) (.tmp 22) rfl W0.heap.size wa hC.size (.slice (some ⟨gN,0,none⟩) 0 0) rfl oN av l m cap HM.out.1 rfl (HRN.out.below hC) HNO.out (λ_=>Nat.le_trans HM.out.2 (by decide)) ?_;intro vN wb oNN hg1;have fr1:Fr [gN] wa wb:=Fr.of_grown hg1 (λk e=>by cases e;simp);have hgb:W0.heap.size<=gN:=zBg oN;replace hC:=zAp hC fr1 (λk hk=>by simp at hk;subst hk;exact hgb)
    clear fr1 hg1 oN hgb;refine hkQ hK ⟨zAC hC c0,zAC hC c1,zAC hC c2⟩ (λhHeld=>?_);clear hK K
    refine rdQ 4 zNf (λK hK=>?_);have hba:=zAK (Below.refl _ wb) (.cells #[] 9);have oS:=zBZ (zBx wb 9 1) hC.size;replace oNN:OwnN _ W0.heap.size vN l:=OwnN.below oNN hba
    replace hC:=zAB hC hba
    clear hba;go_simp
    refine hkQ hK ⟨zAC hC c0,zAC hC c1,zAC hC c2⟩ (λhHeld=>?_);clear hK K
    obtain ⟨gS,hgS⟩:∃ g,wb.heap.size=g:=⟨_,rfl⟩
    rw [hgS] at oS;simp only [hgS];generalize hgw:(wb.alloc (.cells #[] 9))=wc2 at *;clear hgw hgS;refine rdQ 6 zM1 (λK hK=>?_);refine zI5 (.tmp 25) (.tmp 26) rfl W0.heap.size wc2 hC.size (.slice (some ⟨gS,0,none⟩) 0 0) rfl oS av3 nm m3 cap3 HM3.out.1 rfl (HRS.out.below hC) HNO3.out (λ_=>HM3.out.2) ?_;intro vS wt oSS hg2;have fr2:Fr [gS] wc2 wt:=Fr.of_grown hg2 (λk e=>by cases e;simp);have hgb:W0.heap.size<=gS:=zBg oS;replace oNN:OwnN wt W0.heap.size vN l:=zAX fr2 oNN (λg e=>by have:=zB5 oNN oS (by decide) g e;simp [Value.ownBlock] at this ⊢;exact λq=>this q.symm)
    replace hC:=zAp hC fr2 (λk hk=>by simp at hk;subst hk;exact hgb)
    clear fr2 hg2 oS hgb;refine hkQ hK ⟨zAC hC c0,zAC hC c1,zAC hC c2⟩ (λhHeld=>?_);clear hK K
    refine rdQ 7 zNL (λK hK=>?_);have FL:=HFL.out.run own r c wt _ _ vN vS HOW.out (HNM.out.1.below hC) (HNM.out.2.below hC) oNN oSS;go_simp
    refine FL.mono ?_;clear FL;rintro e wf ⟨⟨fa,fm,fc,rfl,hf1,hf2⟩,hbf⟩;replace hC:=zAB hC hbf
    have HF1:Hid (E own r c ≠ 0->fm=0):=hf1;have HF2:Hid (E own r c=0->RdC wf (.slice fa fm fc) (C own)):=λq=>by
     obtain ⟨P,p1,p2,p3,p4⟩:=hf2 q;exact zDZ p1 p2 p3
    clear hf1 hf2 hbf oNN oSS;go_wp2_with fail
    refine hkQ hK ⟨zAC hC c0,zAC hC c1,zAC hC c2⟩ (λhHeld=>?_);clear hK K
    refine tkQ 8 zO4 ?_
    refine tkQ 9 zMW ?_
    refine tkQ 10 zO9 ?_
    refine rdQ 11 zNE (λK hK=>?_);go_simp
    refine hkQ hK ⟨zAC hC c0,zAC hC c1,zAC hC c2⟩ (λhHeld=>?_);clear hK K
    refine rdQ 12 zMm (λK hK=>?_);go_simp
    refine hkQ hK ⟨zAC hC c0,zAC hC c1,zAC hC c2⟩ (λhHeld=>?_);clear hK K
    refine wpAnyH_done (by kernel_rfl) ?_ _;go_wp2_with fail
    go_meet
    case rel=>exact ⟨fa,fm,fc,rfl,rfl,HF1,HF2,hC⟩
   ·have hba:=zAK (Below.refl _ wa) (.cells #[] 9);have oS:=zBZ (zBx wa 9 1) hC.size;replace oN:=zAX (Fr.of_below [] hba) oN (by simp)
    replace hC:=zAB hC hba
    clear hba;go_simp
    refine hkQ hK ⟨zAC hC c0,zAC hC c1,zAC hC c2⟩ (λhHeld=>?_);clear hK K
    obtain ⟨gS,hgS⟩:∃ g,wa.heap.size=g:=⟨_,rfl⟩
    rw [hgS] at oS;simp only [hgS];generalize hgw:(wa.alloc (.cells #[] 9))=wb at *;clear hgw hgS;refine rdQ 2 zOJ (λK hK=>?_);refine zJB (.tmp 21) (.tmp 22) rfl W0.heap.size wb hC.size (.slice (some ⟨gN,0,none⟩) 0 0) rfl oN av l m cap HM.out.1 rfl (HRN.out.below hC) HNO.out (λ_=>Nat.le_trans HM.out.2 (by decide)) ?_;intro vN wc2 oNN hg1;have fr1:Fr [gN] wb wc2:=Fr.of_grown hg1 (λk e=>by cases e;simp);have hgb:W0.heap.size<=gN:=zBg oN;replace oS:=zAX fr1 oS (λg e=>by have:=zB5 oS oN (by decide) g e;simp [Value.ownBlock] at this ⊢;exact λq=>this q.symm)
    replace hC:=zAp hC fr1 (λk hk=>by simp at hk;subst hk;exact hgb)
    clear fr1 hg1 oN hgb;refine hkQ hK ⟨zAC hC c0,zAC hC c1,zAC hC c2⟩ (λhHeld=>?_);clear hK K
    refine rdQ 6 zM1 (λK hK=>?_);refine zI5 (.tmp 25) (.tmp 26) rfl W0.heap.size wc2 hC.size (.slice (some ⟨gS,0,none⟩) 0 0) rfl oS av3 nm m3 cap3 HM3.out.1 rfl (HRS.out.below hC) HNO3.out (λ_=>HM3.out.2) ?_;intro vS wt oSS hg2;have fr2:Fr [gS] wc2 wt:=Fr.of_grown hg2 (λk e=>by cases e;simp);have hgb:W0.heap.size<=gS:=zBg oS;replace oNN:OwnN wt W0.heap.size vN l:=zAX fr2 oNN (λg e=>by have:=zB5 oNN oS (by decide) g e;simp [Value.ownBlock] at this ⊢;exact λq=>this q.symm)
    replace hC:=zAp hC fr2 (λk hk=>by simp at hk;subst hk;exact hgb)
    clear fr2 hg2 oS hgb;refine hkQ hK ⟨zAC hC c0,zAC hC c1,zAC hC c2⟩ (λhHeld=>?_);clear hK K
    refine rdQ 7 zNL (λK hK=>?_);have FL:=HFL.out.run own r c wt _ _ vN vS HOW.out (HNM.out.1.below hC) (HNM.out.2.below hC) oNN oSS;go_simp
    refine FL.mono ?_;clear FL;rintro e wf ⟨⟨fa,fm,fc,rfl,hf1,hf2⟩,hbf⟩;replace hC:=zAB hC hbf
    have HF1:Hid (E own r c ≠ 0->fm=0):=hf1;have HF2:Hid (E own r c=0->RdC wf (.slice fa fm fc) (C own)):=λq=>by
     obtain ⟨P,p1,p2,p3,p4⟩:=hf2 q;exact zDZ p1 p2 p3
    clear hf1 hf2 hbf oNN oSS;go_wp2_with fail
    refine hkQ hK ⟨zAC hC c0,zAC hC c1,zAC hC c2⟩ (λhHeld=>?_);clear hK K
    refine tkQ 8 zO4 ?_
    refine tkQ 9 zMW ?_
    refine tkQ 10 zO9 ?_
    refine rdQ 11 zNE (λK hK=>?_);go_simp
    refine hkQ hK ⟨zAC hC c0,zAC hC c1,zAC hC c2⟩ (λhHeld=>?_);clear hK K
    refine rdQ 12 zMm (λK hK=>?_);go_simp
    refine hkQ hK ⟨zAC hC c0,zAC hC c1,zAC hC c2⟩ (λhHeld=>?_);clear hK K
    refine wpAnyH_done (by kernel_rfl) ?_ _;go_wp2_with fail
    go_meet
    case rel=>exact ⟨fa,fm,fc,rfl,rfl,HF1,HF2,hC⟩
  ·have hba:=zAK (Below.refl _ WD) (.cells #[] 9);have oS:=zBZ (zBx WD 9 1) hC.size;replace hC:=zAB hC hba
   clear hba;go_simp
   refine hkQ hK ⟨zAC hC c0,zAC hC c1,zAC hC c2⟩ (λhHeld=>?_);clear hK K
   obtain ⟨gS,hgS⟩:∃ g,WD.heap.size=g:=⟨_,rfl⟩
   rw [hgS] at oS;simp only [hgS];generalize hgw:(WD.alloc (.cells #[] 9))=wa at *;clear hgw hgS;refine rdQ 0 zP1 (λK hK=>?_);have hba:=zAK (Below.refl _ wa) (.cells #[] 56);have oN:=zBZ (zBx wa 56 20) hC.size;replace oS:=zAX (Fr.of_below [] hba) oS (by simp)
   replace hC:=zAB hC hba
   clear hba;go_simp
   refine hkQ hK ⟨zAC hC c0,zAC hC c1,zAC hC c2⟩ (λhHeld=>?_);clear hK K
   obtain ⟨gN,hgN⟩:∃ g,wa.heap.size=g:=⟨_,rfl⟩
   rw [hgN] at oN;simp only [hgN];generalize hgw:(wa.alloc (.cells #[] 56))=wb at *;clear hgw hgN;refine rdQ 2 zOJ (λK hK=>?_);refine zJB (.tmp 21) (.tmp 22) rfl W0.heap.size wb hC.size (.slice (some ⟨gN,0,none⟩) 0 0) rfl oN av l m cap HM.out.1 rfl (HRN.out.below hC) HNO.out (λ_=>Nat.le_trans HM.out.2 (by decide)) ?_;intro vN wc2 oNN hg1;have fr1:Fr [gN] wb wc2:=Fr.of_grown hg1 (λk e=>by cases e;simp);have hgb:W0.heap.size<=gN:=zBg oN;replace oS:=zAX fr1 oS (λg e=>by have:=zB5 oS oN (by decide) g e;simp [Value.ownBlock] at this ⊢;exact λq=>this q.symm)
   replace hC:=zAp hC fr1 (λk hk=>by simp at hk;subst hk;exact hgb)
   clear fr1 hg1 oN hgb;refine hkQ hK ⟨zAC hC c0,zAC hC c1,zAC hC c2⟩ (λhHeld=>?_);clear hK K
   refine rdQ 6 zM1 (λK hK=>?_);refine zI5 (.tmp 25) (.tmp 26) rfl W0.heap.size wc2 hC.size (.slice (some ⟨gS,0,none⟩) 0 0) rfl oS av3 nm m3 cap3 HM3.out.1 rfl (HRS.out.below hC) HNO3.out (λ_=>HM3.out.2) ?_;intro vS wt oSS hg2;have fr2:Fr [gS] wc2 wt:=Fr.of_grown hg2 (λk e=>by cases e;simp);have hgb:W0.heap.size<=gS:=zBg oS;replace oNN:OwnN wt W0.heap.size vN l:=zAX fr2 oNN (λg e=>by have:=zB5 oNN oS (by decide) g e;simp [Value.ownBlock] at this ⊢;exact λq=>this q.symm)
   replace hC:=zAp hC fr2 (λk hk=>by simp at hk;subst hk;exact hgb)
   clear fr2 hg2 oS hgb;refine hkQ hK ⟨zAC hC c0,zAC hC c1,zAC hC c2⟩ (λhHeld=>?_);clear hK K
   refine rdQ 7 zNL (λK hK=>?_);have FL:=HFL.out.run own r c wt _ _ vN vS HOW.out (HNM.out.1.below hC) (HNM.out.2.below hC) oNN oSS;go_simp
   refine FL.mono ?_;clear FL;rintro e wf ⟨⟨fa,fm,fc,rfl,hf1,hf2⟩,hbf⟩;replace hC:=zAB hC hbf
   have HF1:Hid (E own r c ≠ 0->fm=0):=hf1;have HF2:Hid (E own r c=0->RdC wf (.slice fa fm fc) (C own)):=λq=>by
    obtain ⟨P,p1,p2,p3,p4⟩:=hf2 q;exact zDZ p1 p2 p3
   clear hf1 hf2 hbf oNN oSS;go_wp2_with fail
   refine hkQ hK ⟨zAC hC c0,zAC hC c1,zAC hC c2⟩ (λhHeld=>?_);clear hK K
   refine tkQ 8 zO4 ?_
   refine tkQ 9 zMW ?_
   refine tkQ 10 zO9 ?_
   refine rdQ 11 zNE (λK hK=>?_);go_simp
   refine hkQ hK ⟨zAC hC c0,zAC hC c1,zAC hC c2⟩ (λhHeld=>?_);clear hK K
   refine rdQ 12 zMm (λK hK=>?_);go_simp
   refine hkQ hK ⟨zAC hC c0,zAC hC c1,zAC hC c2⟩ (λhHeld=>?_);clear hK K
   refine wpAnyH_done (by kernel_rfl) ?_ _;go_wp2_with fail
   go_meet
   case rel=>exact ⟨fa,fm,fc,rfl,rfl,HF1,HF2,hC⟩
 case rest =>
  obtain ⟨fa,fm,fc,rfl,rfl,HF1,HF2,HBC⟩:=hcut;clear c0 c1 c2;have HBW:Hid (Below w.heap.size w wc):=zAB HB2.out HBC.out;have HNC:Hid (NmAt wc):=HNM.out.1.below HBC.out;obtain ⟨ee,hee⟩:∃ ee,E own r c=ee:=⟨_,rfl⟩
  have HEE:Hid (E own r c=ee):=hee;rw [hee] at HF1 HF2;simp only [hee];clear hee;by_cases he:ee=0
  ·have rc:=HF2.out he;obtain ⟨ck,cl⟩:=HFL.out.right own r c (by rw [HEE.out];exact he);have cn:=HFL.out.len own;have fit:=zNu ck;have bd:=zNo ck cl;generalize C own=L at *;have hl1:L.length<=1000000:=by omega
   have hto:∀ x ∈ L,x.2.length<=1000000:=λx hx=>(fit x hx).1
   have HRC:Hid (RdC wc (.slice fa fm fc) L):=rc;have HTW:Hid (∀ W:World,Below wc.heap.size wc W->Calls prog 13 #[.slice fa fm fc] W λe w'=>TwP L W e w'/\Below W.heap.size W w'):=λW hb=>zK9 L _ W (HRC.out.below hb) hl1 hto
   have HBD:Hid (∀ (W:World) (v:Value),Below wc.heap.size wc W->RdC W v L->Calls prog 16 #[v] W λe w'=>e=.returned (.tuple #[.int .i64 (zJM L).1,.int .i64 (zJM L).2])/\Below W.heap.size W w'):=λW v hb h=>zGg L v W h hl1 fit (HNC.out.below hb)
   have HCK:Hid (∀ (W:World) (v:Value),Below wc.heap.size wc W->RdC W v L->Calls prog 17 #[v] W λe w'=>e=.returned (.int .i64 0)/\Below W.heap.size W w'):=λW v hb h=>by
    have:=zBe L v W h hl1 fit (HNC.out.below hb);rw [ck,if_pos rfl] at this;exact this
   have hfm:fm=L.length:=by
    obtain ⟨a1,k1,e1,_⟩:=rc;cases e1
    rfl
   have h2fm:(2:Int)<=(fm:Int):=by omega
   have TW:=HTW.out wc (Below.refl _ _);obtain ⟨b1,b2⟩:=bd;generalize zJM L=bn at *;subst he;clear HF1 HF2 rc ck cl cn fit hl1 hto hfm HEE HRC;go_wp2_with fail
   refine TW.mono ?_;rintro e w3 ⟨⟨G,cap3',B,P,rfl,hBw,own3,tw⟩,hb3⟩;have rc3:=(⟨own3,tw⟩:TwS w3 B G cap3' P L).rd;have BD:=HBD.out w3 _ hb3 rc3;have HB3:Hid (Below wc.heap.size wc w3):=hb3;clear TW own3 tw hBw rc3 hb3 HBD;go_wp2_with fail
   refine BD.mono ?_;rintro e w4 ⟨rfl,hb4⟩;have HB4:Hid (Below wc.heap.size wc w4):=zAB HB3.out hb4;have TW:=HTW.out w4 HB4.out;clear BD hb4 HB3 HTW;go_wp2_with fail
   refine TW.mono ?_;rintro e w5 ⟨⟨G2,cap4',B2,P2,rfl,hBw,own3,tw⟩,hb5⟩;have rc5:=(⟨own3,tw⟩:TwS w5 B2 G2 cap4' P2 L).rd;have HB5:Hid (Below wc.heap.size wc w5):=zAB HB4.out hb5;have CK:=HCK.out w5 _ HB5.out rc5;clear TW own3 tw hBw rc5 hb5 HB4 HCK;go_wp2_with fail
   refine CK.mono ?_;rintro e w6 ⟨rfl,hb6⟩;have HB6:Hid (Below w.heap.size w w6):=zAB HBW.out (zAB HB5.out hb6);clear CK hb6 HB5 HBW;go_wp2;go_ret;exact ⟨rfl,HB6.out⟩
  ·have hfm:=HF1.out he;subst hfm;clear HF1 HF2;go_wp2;go_ret;exact ⟨rfl,HBW.out⟩
open Go.RowKit
theorem zCo {H:Type} {enc:TypeId × Value->H} {P:Program} {w:World} {base:Nat} {sp:Nat->Bool} {held:Bool} {fuel:Nat} {t e:TypeId} {n c:Nat} {cs:List Value} {ds:List (DataW H)} {p:List MemPlace}
  (ht:P.underlying t=some (.array n e)) (hce:P.cellsOf e=c) (hct:P.cellsOf t=n * c)
  (h:DataW.trod enc P w base sp held fuel t cs=some (.agg ds,p)):cs.length=n * c/\ds.length=n/\∀ i d,ds[i]? = some d->∃ fuel' p',DataW.trod enc P w base sp held fuel' e ((cs.drop (i * c)).take c)=some (d,p'):=by
 cases fuel with
 | zero=>simp [DataW.trod] at h
 | succ fuel =>
  simp only [DataW.trod,ht,hce,hct] at h;split at h
  ·rename_i hl
   obtain ⟨xs,hm,hx⟩:=Option.map_eq_some_iff.1 h;have hxs:xs.map (·.1)=ds:=by
    have:=congrArg Prod.fst hx;simpa using this
   have hxl:xs.length=n:=by simpa using Lib.mapM_length hm
   refine ⟨by simpa using hl,by rw [<-hxs];simpa using hxl,λi d hd=>?_⟩;have hi:i<n:=by
    have:=(List.getElem?_eq_some_iff.1 hd).1;rw [<-hxs,List.length_map] at this;omega
   obtain ⟨b,hb,hf⟩:=Lib.mapM_at hm i i (by simp [hi]);have:(xs.map (·.1))[i]? = some b.1:=by simp [hb]
   rw [hxs,hd] at this;obtain rfl:=Option.some.inj this;exact ⟨fuel,b.2,hf⟩
  ·cases h
theorem zRI (h:laidMet prog (("whittle/funcs.names",.agg (fnN.map λx=>.lit (.string x)))::rest) W):NmAt W:=by
 obtain ⟨ps,⟨g',t',cs,fuel,p,q,hg',ht',hvar,hd,_,_⟩,_⟩:=h;have hg:prog.globalNamed "whittle/funcs.names" = some 0:=by kernel_rfl
 have hty:(prog.globals[0]?).map (·.type)=some 100:=by kernel_rfl
 obtain rfl:=Option.some.inj (hg.symm.trans hg');obtain rfl:=Option.some.inj (hty.symm.trans ht');obtain ⟨h1,h2,h3⟩:=zCo (n:=63) (c:=1) (e:=9) underlying100 (by kernel_rfl) (by kernel_rfl) hd;intro j v hv;unfold nmR at hv;rw [List.getElem?_map] at hv;obtain ⟨x,hx,rfl⟩:=Option.map_eq_some_iff.1 hv;obtain ⟨fu,p',ht⟩:=h3 j (.lit (.string x)) (by rw [List.getElem?_map,hx];rfl);obtain ⟨s,e1,e2,_⟩:=DataW.trod_string underlying9 ht;simp only [Prod.mk.injEq,DataW.lit.injEq,Lit.string.injEq] at e2;rw [Nat.zero_add,World.var?_cell hg hvar j];have:cs.toList[j]? = some (.string s):=by
  have:=congrArg (·[0]?) e1;simpa [List.getElem?_take,List.getElem?_drop] using this
 rw [Array.getElem?_toList] at this;have es:s=⟨x.toArray⟩:=by
  apply ByteArray.ext
  apply Array.ext'
  exact e2.1.symm
 rw [this,es]
theorem zRA {s:ByteArray} {l:List UInt8} (h:s.data.toList=l):s=⟨l.toArray⟩:=by
 apply ByteArray.ext
 apply Array.ext'
 rw [h]
theorem zPT {α β:Type} (f:α->List β) (hf:∀ x,(f x).length=3):∀ (l:List α) (i:Nat) (hi:i<l.length) (r:Nat),r<3->(l.flatMap f)[i * 3+r]? = (f l[i])[r]?
 | [],i,hi,r,hr=>absurd hi (Nat.not_lt_zero _)
 | x::l,0,hi,r,hr=>by
  rw [List.flatMap_cons,List.getElem?_append_left (by rw [hf];omega)];simp
 | x::l,i+1,hi,r,hr=>by
  rw [List.flatMap_cons,List.getElem?_append_right (by rw [hf];omega),hf,show (i+1) * 3+r - 3=i * 3+r by omega];rw [zPT f hf l i (by simpa using hi) r hr];simp
theorem zPq (h:laidMet prog (("whittle/tree.operators",.agg (Wt.opsT.map λx=>.agg [.lit (.int .i64 x.1),.lit (.string x.2.1),.lit (.int .i64 x.2.2)]))::rest) W):OpsAt W:=by
 obtain ⟨ps,⟨g',t',cs,fuel,p,q,hg',ht',hvar,hd,_,_⟩,_⟩:=h;have hg:prog.globalNamed "whittle/tree.operators" = some 1:=by kernel_rfl
 have hty:(prog.globals[1]?).map (·.type)=some 181:=by kernel_rfl
 obtain rfl:=Option.some.inj (hg.symm.trans hg');obtain rfl:=Option.some.inj (hty.symm.trans ht');obtain ⟨h1,h2,h3⟩:=zCo (n:=15) (c:=3) (e:=155) underlying181 (by kernel_rfl) (by kernel_rfl) hd;have c3:prog.cellsOf 3=1:=by kernel_rfl
 have c9:prog.cellsOf 9=1:=by kernel_rfl
 have key:∀ i x,Wt.opsT[i]? = some x->cs.toList[i * 3]? = some (.int .i64 x.1)/\cs.toList[i * 3+1]? = some (.string ⟨x.2.1.toArray⟩)/\cs.toList[i * 3+2]? = some (.int .i64 x.2.2):=by
  intro i x hx;obtain ⟨fu,p',ht⟩:=h3 i _ (by rw [List.getElem?_map,hx];rfl);obtain ⟨y0,y1,y2,n,e,-,t0,t1,t2⟩:=Deep.trod_struct3 underlying155 ht;simp only [Prod.mk.injEq,DataW.agg.injEq,List.cons.injEq,and_true] at e;obtain ⟨z0,f0,g0,_⟩:=DataW.trod_int underlying3 t0;obtain ⟨z1,f1,g1,_⟩:=DataW.trod_string underlying9 t1;obtain ⟨z2,f2,g2,_⟩:=DataW.trod_int underlying3 t2;subst g0 g1 g2;simp only [DataW.lit.injEq,Lit.int.injEq,Lit.string.injEq,true_and] at e;obtain ⟨⟨rfl,e1,rfl⟩,-⟩:=e;simp only [c3] at f0 f2;simp only [c9] at f1;have q0:=congrArg (·[0]?) f0;have q1:=congrArg (·[0]?) f1;have q2:=congrArg (·[0]?) f2;simp [List.getElem?_drop] at q0 q1 q2;refine ⟨?_,?_,?_⟩
  ·rw [Array.getElem?_toList];exact q0
  ·rw [Array.getElem?_toList,q1,zRA e1.symm]
  ·rw [Array.getElem?_toList];exact q2
 intro j v hv;rw [Nat.zero_add,World.var?_cell hg hvar j];have hj:j<45:=by
  have:=(List.getElem?_eq_some_iff.1 hv).1;have e:opsR.length=45:=rfl;omega
 have hi:j / 3<Wt.opsT.length:=by show j / 3<15;omega
 obtain ⟨k0,k1,k2⟩:=key (j / 3) _ (List.getElem?_eq_getElem hi);have hf:=zPT (λx:Int × List UInt8 × Int=>([.int .i64 x.1,.string ⟨x.2.1.toArray⟩,.int .i64 x.2.2]:List Value)) (λ_=>rfl) Wt.opsT (j / 3) hi;have hm:j % 3=0 \/ j % 3=1 \/ j % 3=2:=by omega
 rcases hm with hm | hm | hm
 ·have e:j=j / 3 * 3+0:=by omega
  have:=hf 0 (by decide);rw [<-e] at this;rw [show opsR[j]? = _ from this] at hv;rw [show j=j / 3 * 3 by omega,<-Array.getElem?_toList,k0];exact hv
 ·have e:j=j / 3 * 3+1:=by omega
  have:=hf 1 (by decide);rw [<-e] at this;rw [show opsR[j]? = _ from this] at hv;rw [e,<-Array.getElem?_toList,k1];exact hv
 ·have e:j=j / 3 * 3+2:=by omega
  have:=hf 2 (by decide);rw [<-e] at this;rw [show opsR[j]? = _ from this] at hv;rw [e,<-Array.getElem?_toList,k2];exact hv
open Go.ChangeShapes Go.WideShapes Go.ChangeAt Go.RowKit Go.Joins Go.Deep
theorem zSE:prog.cellsOf 43=6:=by kernel_rfl
theorem zR6:prog.cellsOf 54=5:=by kernel_rfl
theorem zSO:prog.cellsOf 41=2:=by kernel_rfl
theorem zRL:prog.cellsOf 56=20:=by kernel_rfl
theorem zQ7:prog.bytesOf 56=176:=by kernel_rfl
theorem zL0:prog.cellsOf 3=1:=by kernel_rfl
theorem zOB:prog.cellsOf 4=1:=by kernel_rfl
theorem zRC:prog.cellsOf 9=1:=by kernel_rfl
section
variable {H:Type} {enc:TypeId × Value->H} {w:World} {base:Nat} {spare:Nat->Bool} {held:Bool}
theorem zMD {n:Int} (h:(Lit.int .i64 n).wf=true):-9223372036854775808<=n/\n<=9223372036854775807:=bounds_i64 h
theorem zKK {f0 f1:Field} (he:prog.underlying 41=some (.struct #[f0,f1])) (o0:f0.offset=0) (t0:f0.type=3) (o1:f1.offset=1) (t1:f1.type=3) {fuel:Nat} {c0 c1:Value} {x:DataW H × List MemPlace} (h:DataW.trod enc prog w base spare held fuel 41 [c0,c1]=some x):∃ n d:Int,c0=.int .i64 n/\c1=.int .i64 d/\(-9223372036854775808<=n/\n<=9223372036854775807)/\(-9223372036854775808<=d/\d<=9223372036854775807):=by
 obtain ⟨xs,q,_,hD,_,hxl,hg⟩:=DataW.trod_struct he h;have hxl:xs.length=2:=hxl;have g0:=hg 0 f0 rfl;rw [o0,t0,zL0] at g0;have g1:=hg 1 f1 rfl;rw [o1,t1,zL0] at g1;match xs,hxl with
 | [x0,x1],_ =>
  simp only [List.drop_zero,List.take_succ_cons,List.take_zero,List.drop_succ_cons,List.getElem?_cons_zero,List.getElem?_cons_succ] at g0 g1;obtain ⟨n,e1,_,k1⟩:=DataW.trod_int underlying3 g0;obtain ⟨d,e2,_,k2⟩:=DataW.trod_int underlying3 g1;simp only [List.cons.injEq,and_true] at e1 e2;exact ⟨n,d,e1,e2,zMD k1,zMD k2⟩
theorem zNh {f0 f1 f2 f3 f4:Field} (he:prog.underlying 43=some (.struct #[f0,f1,f2,f3,f4])) (o0:f0.offset=0) (t0:f0.type=3) (o1:f1.offset=1) (t1:f1.type=41) (o2:f2.offset=3) (t2:f2.type=9) (o3:f3.offset=4) (t3:f3.type=4) (o4:f4.offset=5) (t4:f4.type=3) {fuel:Nat} {c0 c1 c2 c3 c4 c5:Value} {x:DataW H × List MemPlace} (h:DataW.trod enc prog w base spare held fuel 43 [c0,c1,c2,c3,c4,c5]=some x):∃ v:Wt.Vl,[c0,c1,c2,c3,c4,c5]=vl6 v/\Wt.FitV v:=by
 obtain ⟨xs,q,_,hD,_,hxl,hg⟩:=DataW.trod_struct he h;have hxl:xs.length=5:=hxl;have g0:=hg 0 f0 rfl;rw [o0,t0,zL0] at g0;have g1:=hg 1 f1 rfl;rw [o1,t1,zSO] at g1;have g2:=hg 2 f2 rfl;rw [o2,t2,zRC] at g2;have g3:=hg 3 f3 rfl;rw [o3,t3,zOB] at g3;have g4:=hg 4 f4 rfl;rw [o4,t4,zL0] at g4;match xs,hxl with
 | [x0,x1,x2,x3,x4],_ =>
  simp only [List.drop_zero,List.take_succ_cons,List.take_zero,List.drop_succ_cons,List.getElem?_cons_zero,List.getElem?_cons_succ] at g0 g1 g2 g3 g4;obtain ⟨k,e0,_,_⟩:=DataW.trod_int underlying3 g0;obtain ⟨n,d,e1,e2,k1,k2⟩:=zKK underlying41 rfl rfl rfl rfl g1;obtain ⟨s,e3,_,k3⟩:=DataW.trod_string underlying9 g2;obtain ⟨b,e4,_⟩:=DataW.trod_bool underlying4 g3;obtain ⟨f,e5,_,_⟩:=DataW.trod_int underlying3 g4;simp only [List.cons.injEq,and_true] at e0 e3 e4 e5;refine ⟨⟨k,n,d,s,b,f⟩,by rw [e0,e1,e2,e3,e4,e5];rfl,k1,k2,?_⟩;unfold maxLen at k3;show s.size<=_
  omega
theorem zHD {f0 f1 f2 f3 f4:Field} (he:prog.underlying 54=some (.struct #[f0,f1,f2,f3,f4])) (o0:f0.offset=0) (t0:f0.type=9) (o1:f1.offset=1) (t1:f1.type=3) (o2:f2.offset=2) (t2:f2.type=3) (o3:f3.offset=3) (t3:f3.type=4) (o4:f4.offset=4) (t4:f4.type=4) {fuel:Nat} {c0 c1 c2 c3 c4:Value} {x:DataW H × List MemPlace} (h:DataW.trod enc prog w base spare held fuel 54 [c0,c1,c2,c3,c4]=some x):∃ a:Wt.Rf,[c0,c1,c2,c3,c4]=rf5 a/\a.s.size<=9223372036854775807:=by
 obtain ⟨xs,q,_,hD,_,hxl,hg⟩:=DataW.trod_struct he h;have hxl:xs.length=5:=hxl;have g0:=hg 0 f0 rfl;rw [o0,t0,zRC] at g0;have g1:=hg 1 f1 rfl;rw [o1,t1,zL0] at g1;have g2:=hg 2 f2 rfl;rw [o2,t2,zL0] at g2;have g3:=hg 3 f3 rfl;rw [o3,t3,zOB] at g3;have g4:=hg 4 f4 rfl;rw [o4,t4,zOB] at g4;match xs,hxl with
 | [x0,x1,x2,x3,x4],_ =>
  simp only [List.drop_zero,List.take_succ_cons,List.take_zero,List.drop_succ_cons,List.getElem?_cons_zero,List.getElem?_cons_succ] at g0 g1 g2 g3 g4;obtain ⟨s,e0,_,k3⟩:=DataW.trod_string underlying9 g0;obtain ⟨r,e1,_,_⟩:=DataW.trod_int underlying3 g1;obtain ⟨c,e2,_,_⟩:=DataW.trod_int underlying3 g2;obtain ⟨fr,e3,_⟩:=DataW.trod_bool underlying4 g3;obtain ⟨fc,e4,_⟩:=DataW.trod_bool underlying4 g4;simp only [List.cons.injEq,and_true] at e0 e1 e2 e3 e4;refine ⟨⟨s,r,c,fr,fc⟩,by rw [e0,e1,e2,e3,e4];rfl,?_⟩;unfold maxLen at k3;show s.size<=_
  omega
theorem zMc {f0 f1 f2 f3 f4 f5 f6:Field} (he:prog.underlying 56=some (.struct #[f0,f1,f2,f3,f4,f5,f6])) (o0:f0.offset=0) (t0:f0.type=3) (o1:f1.offset=1) (t1:f1.type=43) (o2:f2.offset=7) (t2:f2.type=3) (o3:f3.offset=8) (t3:f3.type=9) (o4:f4.offset=9) (t4:f4.type=3) (o5:f5.offset=10) (t5:f5.type=54) (o6:f6.offset=15) (t6:f6.type=54) {fuel:Nat} {cs:List Value} {x:DataW H × List MemPlace} (hl:cs.length=20) (h:DataW.trod enc prog w base spare held fuel 56 cs=some x):∃ y:Wt.Nd,cs=zAM y/\Wt.FitN y:=by
 match cs,hl with
 | [a0,a1,a2,a3,a4,a5,a6,a7,a8,a9,b0,b1,b2,b3,b4,b5,b6,b7,b8,b9],_ =>
  obtain ⟨xs,q,_,hD,_,hxl,hg⟩:=DataW.trod_struct he h;have hxl:xs.length=7:=hxl;have g0:=hg 0 f0 rfl;rw [o0,t0,zL0] at g0;have g1:=hg 1 f1 rfl;rw [o1,t1,zSE] at g1;have g2:=hg 2 f2 rfl;rw [o2,t2,zL0] at g2;have g3:=hg 3 f3 rfl;rw [o3,t3,zRC] at g3;have g4:=hg 4 f4 rfl;rw [o4,t4,zL0] at g4;have g5:=hg 5 f5 rfl;rw [o5,t5,zR6] at g5;have g6:=hg 6 f6 rfl;rw [o6,t6,zR6] at g6;match xs,hxl with
  | [x0,x1,x2,x3,x4,x5,x6],_ =>
   simp only [List.drop_zero,List.take_succ_cons,List.take_zero,List.drop_succ_cons,List.getElem?_cons_zero,List.getElem?_cons_succ] at g0 g1 g2 g3 g4 g5 g6;obtain ⟨k,e0,_,_⟩:=DataW.trod_int underlying3 g0;obtain ⟨v,e1,hv⟩:=zNh underlying43 rfl rfl rfl rfl rfl rfl rfl rfl rfl rfl g1;obtain ⟨op,e2,_,_⟩:=DataW.trod_int underlying3 g2;obtain ⟨nm,e3,_,k3⟩:=DataW.trod_string underlying9 g3;obtain ⟨ar,e4,_,_⟩:=DataW.trod_int underlying3 g4;obtain ⟨a,e5,ha⟩:=zHD underlying54 rfl rfl rfl rfl rfl rfl rfl rfl rfl rfl g5;obtain ⟨b,e6,hb⟩:=zHD underlying54 rfl rfl rfl rfl rfl rfl rfl rfl rfl rfl g6;unfold vl6 at e1;unfold rf5 at e5 e6;simp only [List.cons.injEq,and_true] at e0 e1 e2 e3 e4 e5 e6;obtain ⟨v0,v1,v2,v3,v4,v5⟩:=e1;obtain ⟨p0,p1,p2,p3,p4⟩:=e5;obtain ⟨q0,q1,q2,q3,q4⟩:=e6;refine ⟨⟨k,v,op,nm,ar,a,b⟩,by rw [e0,v0,v1,v2,v3,v4,v5,e2,e3,e4,p0,p1,p2,p3,p4,q0,q1,q2,q3,q4];rfl,hv,?_,ha,hb⟩;unfold maxLen at k3;show nm.size<=_
   omega
theorem zNw {m:Nat} {p:Nat->Wt.Nd->Prop} (h:∀ i,i<m->∃ v,p i v):∃ G:Nat->Wt.Nd,∀ i,i<m->p i (G i):=by
 classical
 refine ⟨λi=>if hi:i<m then Classical.choose (h i hi) else ⟨0,Wt.v0,0,⟨#[]⟩,0,Wt.r0,Wt.r0⟩,λi hi=>?_⟩;dsimp only;rw [dif_pos hi];exact Classical.choose_spec (h i hi)
theorem zIO {W:World} {r:Reach} {b0:Nat} {v:Value} {d:DataW H} {p:List MemPlace}
  (hv:Value.okWide prog W r b0 22 v) (h:DataW.Trod enc prog W 0 (λ_=>true) true 22 v d p) :
  ∃ (L:List Wt.Nd) (av:Option Addr) (cap:Nat),v=.slice av L.length cap/\RdN W av L/\(∀ x ∈ L,Wt.FitN x)/\(av=none->L.length=0/\cap=0)/\L.length<=cap/\(∀ ad,av=some ad->0<L.length->ad.block<W.heap.size) /\
   ∀ (ts0:List TypeId) (ds:List (DataW H)) (j:Nat),(DataW.weightsEach prog ts0 ds).all (· <= reachBytes)=true->ts0[j]? = some 22->ds[j]? = some d->L.length * 176<=reachBytes:=by
 obtain ⟨a0,len,cap,rfl⟩:=okWide_slice underlying22 hv;obtain ⟨fuel,hg⟩:=h;rcases open_slice underlying22 hg with ⟨hcs,hx⟩ | ⟨a,len',cap',m,n,D,Pl,hcs,hb,hl,hm,hmm,hx,hall⟩
 ·simp [Value.cells] at hcs;obtain ⟨rfl,rfl,rfl⟩:=hcs;exact ⟨[],none,0,rfl,λi hi=>absurd hi (Nat.not_lt_zero _),(λx hx=>by cases hx),λ_=>⟨rfl,rfl⟩,Nat.le_refl _,(λ_ e=>by cases e),(λ_ _ _ _ _ _=>by simp)⟩
 ·simp [Value.cells] at hcs;obtain ⟨rfl,rfl,rfl⟩:=hcs;simp only [if_true] at hmm;subst hmm;have each:∀ i,i<m->∃ y:Wt.Nd,(∀ j u,(zAM y)[j]? = some u->W.cell? (a.add (i * 20+j))=some u)/\Wt.FitN y:=by
   intro i hi;obtain ⟨cs',h1,h2⟩:=hall i hi;rw [zRL] at h1;obtain ⟨_,hlen,hcell⟩:=World.cells?_some h1;obtain ⟨y,rfl,hy⟩:=zMc underlying56 rfl rfl rfl rfl rfl rfl rfl rfl rfl rfl rfl rfl rfl rfl hlen h2;refine ⟨y,λj u hu=>?_,hy⟩;have hj:j<20:=by
    have:=(List.getElem?_eq_some_iff.1 hu).1;rw [hlen] at this;exact this
   have:=hcell j hj;rw [add_add] at this;rw [this,hu]
  obtain ⟨G,hG⟩:=zNw each;have hlen:((List.range len).map G).length=len:=by simp
  have hsp:0<len->∃ b off,a=⟨b,off,none⟩/\b<W.heap.size:=by
   intro h0;have h1:=(hG 0 (by omega)).1 0 _ rfl;rw [Nat.zero_mul,Nat.zero_add] at h1;have s1:(a.add 0).spot=none:=World.cell?_spot h1;have l1:(a.add 0).block<W.heap.size:=World.block_lt_of_cell? W _ h1;obtain ⟨b,off,spot⟩:=a;obtain rfl:spot=none:=s1;exact ⟨b,off,rfl,l1⟩
  refine ⟨(List.range len).map G,some a,m,by rw [hlen],λi hi=>?_,λx hx=>?_,(λh=>by cases h),by rw [hlen];exact hl,λad e h0=>?_,λts0 ds j hz h1 h2=>?_⟩
  ·rw [hlen] at hi;obtain ⟨b,off,rfl,hbw⟩:=hsp (by omega);refine ⟨b,off,rfl,λj u hu=>?_⟩;have eG:((List.range len).map G)[i]'(by rw [hlen];exact hi)=G i:=by simp
   rw [eG] at hu;have:=(hG i (by omega)).1 j u hu;rw [add_plain] at this;rw [Nat.add_assoc];exact this
  ·obtain ⟨i,hi,rfl⟩:=List.mem_map.1 hx;exact (hG i (by have:=List.mem_range.1 hi;omega)).2
  ·rw [hlen] at h0;obtain ⟨b,off,rfl,hbw⟩:=hsp h0;obtain rfl:=Option.some.inj e;exact hbw
  ·have q:=sized_slice hz h1 (by rw [h2];exact congrArg some (congrArg Prod.fst hx)) underlying22;rw [zQ7] at q;simp only [List.length_map,List.length_range] at q;rw [hlen];exact Nat.le_trans (Nat.mul_le_mul_right _ (by omega)) q
end
