/- KLawFre. -/
import Derived.Test.YtnloiaoogofklaaGreatDoorQ40
set_option maxHeartbeats 40000000
set_option maxRecDepth 100000
namespace Go.Proofs.YtnloiaoogofklaaGreatDoor
open Tryz
abbrev zPB:Oper:=⟨some 48,.buildSlice 22 0 #[],22,"law.go:171",#[],none⟩
abbrev zNs:Oper:=⟨some 52,.buildSlice 25 0 #[],25,"law.go:171",#[],none⟩
abbrev zNg:Oper:=⟨some 50,.call {callee:=Callee.builtin Builtin.append,args:=#[.tmp 48,.tmp 49],argTypes:=#[22,22]},22,"law.go:171",#[⟨0,.data⟩,⟨1,.data⟩],none⟩
abbrev zNx:Oper:=⟨some 54,.call {callee:=Callee.builtin Builtin.append,args:=#[.tmp 52,.tmp 53],argTypes:=#[25,25]},25,"law.go:171",#[⟨4,.data⟩,⟨5,.data⟩,⟨2,.chain⟩],none⟩
abbrev zOO:Oper:=⟨some 55,.call {callee:=Callee.value (Operand.func 11),args:=#[.tmp 50,.tmp 51,.tmp 54],argTypes:=#[22,24,25]},32,"law.go:171",#[⟨2,.data⟩,⟨3,.data⟩,⟨6,.data⟩,⟨6,.chain⟩],none⟩
abbrev zMR:Oper:=⟨some 47,.move (.tmp 55),32,"law.go:171",#[⟨7,.data⟩],none⟩
abbrev zMy:Oper:=⟨some 56,.extract (.tmp 47) 0,30,"law.go:171",#[⟨8,.data⟩],none⟩
abbrev zOF:Oper:=⟨some 57,.extract (.tmp 47) 1,31,"law.go:171",#[⟨8,.data⟩,⟨11,.gcOnly .lateStores⟩],none⟩
abbrev zM4:Oper:=⟨some 10,.assign (.tmp 56),30,"law.go:171",#[⟨9,.data⟩,⟨7,.chain⟩,⟨0,.phase⟩,⟨1,.phase⟩,⟨2,.phase⟩,⟨3,.phase⟩,⟨4,.phase⟩,⟨5,.phase⟩,⟨6,.phase⟩,⟨7,.phase⟩,⟨8,.phase⟩,⟨9,.phase⟩,⟨10,.textOnly .lateStores⟩],none⟩
abbrev zNy:Oper:=⟨some 11,.assign (.tmp 57),31,"law.go:171",#[⟨10,.data⟩,⟨11,.chain⟩,⟨0,.phase⟩,⟨1,.phase⟩,⟨2,.phase⟩,⟨3,.phase⟩,⟨4,.phase⟩,⟨5,.phase⟩,⟨6,.phase⟩,⟨7,.phase⟩,⟨8,.phase⟩,⟨9,.phase⟩,⟨10,.phase⟩,⟨11,.phase⟩],none⟩
open Go.RowKit Wf
set_option linter.unusedVariables false
theorem zMd (l:List Wt.Nd) (nm:List ByteArray) (av:Option Addr) (m cap:Nat) (av3:Option Addr) (m3 cap3:Nat) (own r c:Int) (w:World) (hm:m=l.length) (hm3:m3=nm.length) (hl:True->l.length<=9223372036854775807) (hl3:True->nm.length<=9223372036854775807) (hF:∀ x ∈ l,Wt.FitN x) (hr:RdN w av l) (hr3:RdS w av3 nm) (hno:av=none->m=0/\cap=0) (hno3:av3=none->m3=0/\cap3=0) (how:-9223372036854775808<=own/\own<=9223372036854775807) (hN:NmAt w) (hO:OpsAt w) :
  CR 3 #[.slice av m cap,.agg #[.int .i64 own,.int .i64 r,.int .i64 c],.slice av3 m3 cap3] w (.bool true):=by
 have hb0:=zAL (Below.refl _ w) (.cells #[.int .i64 own,.int .i64 r,.int .i64 c] 24);have pC:=AtL.new0 w 24 [.int .i64 own,.int .i64 r,.int .i64 c];have AB:=zLX _ (hN.below hb0) (hO.below hb0);have HNA:Hid (∀ W:World,Below w.heap.size w W->Calls prog 10 #[.slice av3 m3 cap3] W (NaP m3 W)):=λW hb=>zHM nm av3 m3 cap3 W hm3 (hl3 trivial) (hr3.below hb)
 have HALL:Hid (m<=20000->m3<=20000->∃ E L,FlO l nm E L):=λh1 h2=>zLI l nm (by omega) hF (by omega)
 have HB0:Hid (Below w.heap.size w (w.alloc (.cells #[.int .i64 own,.int .i64 r,.int .i64 c] 24))):=hb0;have HPC:Hid (AtL (w.alloc (.cells #[.int .i64 own,.int .i64 r,.int .i64 c] 24)) w.heap.size [.int .i64 own,.int .i64 r,.int .i64 c]):=pC;have HRN0:Hid (RdN w av l):=hr;have HRS0:Hid (RdS w av3 nm):=hr3;have HNO:Hid (av=none->m=0/\cap=0):=hno;have HNO3:Hid (av3=none->m3=0/\cap3=0):=hno3;have HOW:Hid (-9223372036854775808<=own/\own<=9223372036854775807):=how;have HMM:Hid (m=l.length/\m3=nm.length):=⟨hm,hm3⟩
 have HNM0:Hid (NmAt w/\OpsAt w):=⟨hN,hO⟩
 clear hb0 pC hm hm3 hl hl3 hF hr hr3 hno hno3 how hN hO;go_enter func3,ntmps3;go_upto_region 1 with fail
 generalize (w.alloc (.cells #[.int .i64 own,.int .i64 r,.int .i64 c] 24))=W at *;go_wp2_with fail
 refine AB.mono ?_;rintro e w1 ⟨rfl,hb1⟩;have HB1:Hid (Below w.heap.size w w1):=zAB HB0.out hb1;have HPC1:Hid (AtL w1 w.heap.size [.int .i64 own,.int .i64 r,.int .i64 c]):=AtL.below hb1 HPC.out;have NA:=HNA.out w1 HB1.out;clear AB HB0 HPC HNA hb1;by_cases hm20:(20000:Int)<(m:Int)
 ·go_wp2;go_ret;exact ⟨rfl,HB1.out⟩
 have HM20:Hid (m<=20000):=by show _<=_;omega
 go_wp2_with fail
 refine NA.mono ?_;rintro e w2 ⟨⟨q,rfl,hq⟩,hb2⟩;have HB2:Hid (Below w.heap.size w w2):=zAB HB1.out hb2;have HPC2:Hid (AtL w2 w.heap.size [.int .i64 own,.int .i64 r,.int .i64 c]):=AtL.below hb2 HPC1.out;have HQ:Hid (q=false->m3<=20000):=hq;clear NA HB1 HPC1 hb2 hq;cases q with
 | true =>
  go_wp2;go_ret;exact ⟨rfl,HB2.out⟩
 | false =>
 have h3:=HQ.out rfl;obtain ⟨E,L0,hFL⟩:=HALL.out HM20.out h3;have HFL:Hid (FlO l nm E L0):=hFL;have HM:Hid (m=l.length/\l.length<=20000):=⟨HMM.out.1,by have:=HM20.out;have:=HMM.out.1;omega⟩
 have HM3:Hid (m3=nm.length/\nm.length<=20000):=⟨HMM.out.2,by have:=HMM.out.2;omega⟩
 have HRN:Hid (RdN w2 av l):=HRN0.out.below HB2.out;have HRS:Hid (RdS w2 av3 nm):=HRS0.out.below HB2.out;have HNM:Hid (NmAt w2/\OpsAt w2):=⟨HNM0.out.1.below HB2.out,HNM0.out.2.below HB2.out⟩
 clear hFL h3 HQ HALL HRN0 HRS0 HMM HNM0 HM20;go_upto_region 8 with fail
 clear hm20;obtain ⟨L,hL⟩:∃ x,L0 own r c=x:=⟨_,rfl⟩
 have HLL:Hid (L0 own r c=L/\L.length<=20000/\(∀ x ∈ L,x.2.length<=1000000/\Wt.FitV x.1.v)):=⟨hL,by rw [<-hL];exact HFL.out.len own r c,λx hx=>by
  rcases HFL.out.right own r c with q | q
  ·rw [hL] at q;rw [q] at hx;cases hx
  ·rw [hL] at q;exact zOY q x hx⟩
 clear hL;generalize w2=WB at *;go_loopg [7,8,9] 2 (λgk u7 u8 u9 wr=>∃ (k:Nat) (lv uv:Value),lv=u7/\uv=u8/\u9=.int .i64 (k:Int)/\gk=2 - k/\k<=2/\Hid (Below WB.heap.size WB wr)/\Hid (StF WB.heap.size L (usA L) k wr lv uv))
 case atStart=>exact ⟨0,_,_,rfl,rfl,rfl,rfl,by omega,Below.refl _ _,⟨rfl,rfl⟩⟩
 case round =>
  obtain ⟨k,lv,uv,rfl,rfl,rfl,hg,hk2,HB,HST⟩:=hrel;generalize hw9:wr=W0 at *;clear hw9;by_cases hlt:k<2
  ·have hki:(k:Int)<2:=by omega
   have hwk:IntKind.i64.wrap ((k:Int)+1)=(k:Int)+1:=by rw [IntKind.wrap_i64];omega
   have HRN':Hid (RdN W0 av l):=HRN.out.below HB.out;have HRS':Hid (RdS W0 av3 nm):=HRS.out.below HB.out;have HNM':Hid (NmAt W0/\OpsAt W0):=⟨HNM.out.1.below HB.out,HNM.out.2.below HB.out⟩
   obtain ⟨c0,c1,c2,_,_,_⟩:=(AtL.below HB.out HPC2.out).three;go_upto_region 10 with fail
   go_cut [10,11] (λs10 s11 wx=>∃ xa xm xc,s10=.slice xa xm xc/\Hid (FxO wx W0.heap.size (Value.slice xa xm xc) L)/\Hid (Below W0.heap.size W0 wx))
   case first =>
    as_aux_lemma =>
     clear HRN HRS HNM HST HB HPC2;rename Hid (RdN W0 av l)=>HRN
     rename Hid (RdS W0 av3 nm)=>HRS
     rename Hid (NmAt W0/\OpsAt W0)=>HNM
     have hC:Below W0.heap.size W0 W0.drew:=(Below.refl _ _).drew;refine wp_region_held_drew (S:=λW=>W.cell? ⟨w.heap.size,0,none⟩=some (.int .i64 own)/\W.cell? ⟨w.heap.size,1,none⟩=some (.int .i64 r)/\W.cell? ⟨w.heap.size,2,none⟩=some (.int .i64 c)) (by kernel_rfl) ⟨zAC hC c0,zAC hC c1,zAC hC c2⟩ (λhHeld=>?_);generalize W0.drew=WD at *;refine tkQ 1 ⟨some 49,.move (.tmp 0),22,"law.go:171",#[],none⟩ ?_
     refine tkQ 3 ⟨some 51,.load 24 (.tmp 4),24,"law.go:171",#[],none⟩ ?_
     refine tkQ 5 ⟨some 53,.move (.tmp 2),25,"law.go:171",#[],none⟩ ?_
     refine wpAnyH_ready (rs:=[0,4]) (by kernel_rfl) (by simp) ?_;refine AllReadyH.cons (o:=zPB) rfl (λK hK=>?_) (AllReadyH.cons (o:=zNs) rfl (λK hK=>?_) AllReadyH.nil)
     ·have hba:=zAL (Below.refl _ WD) (.cells #[] 56);have oN:=zAd (zCI WD 56 20) hC.size;replace hC:=zAB hC hba
      clear hba;go_simp
      refine hkQ hK ⟨zAC hC c0,zAC hC c1,zAC hC c2⟩ (λhHeld=>?_);clear hK K
      obtain ⟨gN,hgN⟩:∃ g,WD.heap.size=g:=⟨_,rfl⟩
      rw [hgN] at oN;simp only [hgN];generalize hgw:(WD.alloc (.cells #[] 56))=wa at *;clear hgw hgN;refine wpAnyH_ready (rs:=[2,4]) (by kernel_rfl) (by simp) ?_;refine AllReadyH.cons (o:=zNg) rfl (λK hK=>?_) (AllReadyH.cons (o:=zNs) rfl (λK hK=>?_) AllReadyH.nil)
      ·refine zIV (.tmp 48) (.tmp 49) rfl W0.heap.size wa hC.size (.slice (some ⟨gN,0,none⟩) 0 0) rfl oN av l m cap HM.out.1 rfl (HRN.out.below hC) HNO.out (λ_=>Nat.le_trans HM.out.2 (by decide)) ?_;intro vN wb oNN hg1;have fr1:Fr [gN] wa wb:=Fr.of_grown hg1 (λk e=>by cases e;simp);have hgb:W0.heap.size<=gN:=zBh oN;replace hC:=zAu hC fr1 (λk hk=>by simp at hk;subst hk;exact hgb)
       clear fr1 hg1 oN hgb;refine hkQ hK ⟨zAC hC c0,zAC hC c1,zAC hC c2⟩ (λhHeld=>?_);clear hK K
       refine rdQ 4 zNs (λK hK=>?_);have hba:=zAL (Below.refl _ wb) (.cells #[] 9);have oS:=zAd (zCI wb 9 1) hC.size;replace oNN:OwnN _ W0.heap.size vN l:=OwnN.below oNN hba
       replace hC:=zAB hC hba
       clear hba;go_simp
       refine hkQ hK ⟨zAC hC c0,zAC hC c1,zAC hC c2⟩ (λhHeld=>?_);clear hK K
       obtain ⟨gS,hgS⟩:∃ g,wb.heap.size=g:=⟨_,rfl⟩
       rw [hgS] at oS;simp only [hgS];generalize hgw:(wb.alloc (.cells #[] 9))=wc2 at *;clear hgw hgS;refine rdQ 6 zNx (λK hK=>?_);refine zI1 (.tmp 52) (.tmp 53) rfl W0.heap.size wc2 hC.size (.slice (some ⟨gS,0,none⟩) 0 0) rfl oS av3 nm m3 cap3 HM3.out.1 rfl (HRS.out.below hC) HNO3.out (λ_=>HM3.out.2) ?_;intro vS wt oSS hg2;have fr2:Fr [gS] wc2 wt:=Fr.of_grown hg2 (λk e=>by cases e;simp);have hgb:W0.heap.size<=gS:=zBh oS;replace oNN:OwnN wt W0.heap.size vN l:=zAR fr2 oNN (λg e=>by have:=zAc oNN oS (by decide) g e;simp [Value.ownBlock] at this ⊢;exact λq=>this q.symm)
       replace hC:=zAu hC fr2 (λk hk=>by simp at hk;subst hk;exact hgb)
       clear fr2 hg2 oS hgb;refine hkQ hK ⟨zAC hC c0,zAC hC c1,zAC hC c2⟩ (λhHeld=>?_);clear hK K
       refine rdQ 7 zOO (λK hK=>?_);have FL:=HFL.out.run own r c wt _ _ vN vS HOW.out (HNM.out.1.below hC) (HNM.out.2.below hC) oNN oSS;go_simp
       refine FL.mono ?_;clear FL;rintro e wf ⟨⟨xv,rfl,hx⟩,hbf⟩;have HF1:Hid (FxO wf W0.heap.size xv L):=by rw [HLL.out.1] at hx;exact hx.weak hC.size
       replace hC:=zAB hC hbf
       clear hx hbf oNN oSS;go_wp2_with fail
       refine hkQ hK ⟨zAC hC c0,zAC hC c1,zAC hC c2⟩ (λhHeld=>?_);clear hK K
       refine tkQ 8 zMR ?_
       refine tkQ 9 zMy ?_
       refine tkQ 10 zOF ?_
       refine rdQ 11 zM4 (λK hK=>?_);go_simp
       refine hkQ hK ⟨zAC hC c0,zAC hC c1,zAC hC c2⟩ (λhHeld=>?_);clear hK K
       refine rdQ 12 zNy (λK hK=>?_);go_simp
       refine hkQ hK ⟨zAC hC c0,zAC hC c1,zAC hC c2⟩ (λhHeld=>?_);clear hK K
       refine wpAnyH_done (by kernel_rfl) ?_ _;go_wp2_with fail
       go_meet
       case rel=>exact (by obtain ⟨xa,xc,e,_⟩:=HF1.out.rd;subst e;exact ⟨xa,_,xc,rfl,HF1,hC⟩)
      ·have hba:=zAL (Below.refl _ wa) (.cells #[] 9);have oS:=zAd (zCI wa 9 1) hC.size;replace oN:=zAR (Fr.of_below [] hba) oN (by simp)
       replace hC:=zAB hC hba
       clear hba;go_simp
       refine hkQ hK ⟨zAC hC c0,zAC hC c1,zAC hC c2⟩ (λhHeld=>?_);clear hK K
       obtain ⟨gS,hgS⟩:∃ g,wa.heap.size=g:=⟨_,rfl⟩
       rw [hgS] at oS;simp only [hgS];generalize hgw:(wa.alloc (.cells #[] 9))=wb at *;clear hgw hgS;refine rdQ 2 zNg (λK hK=>?_);refine zIV (.tmp 48) (.tmp 49) rfl W0.heap.size wb hC.size (.slice (some ⟨gN,0,none⟩) 0 0) rfl oN av l m cap HM.out.1 rfl (HRN.out.below hC) HNO.out (λ_=>Nat.le_trans HM.out.2 (by decide)) ?_;intro vN wc2 oNN hg1;have fr1:Fr [gN] wb wc2:=Fr.of_grown hg1 (λk e=>by cases e;simp);have hgb:W0.heap.size<=gN:=zBh oN;replace oS:=zAR fr1 oS (λg e=>by have:=zAc oS oN (by decide) g e;simp [Value.ownBlock] at this ⊢;exact λq=>this q.symm)
       replace hC:=zAu hC fr1 (λk hk=>by simp at hk;subst hk;exact hgb)
       clear fr1 hg1 oN hgb;refine hkQ hK ⟨zAC hC c0,zAC hC c1,zAC hC c2⟩ (λhHeld=>?_);clear hK K
       refine rdQ 6 zNx (λK hK=>?_);refine zI1 (.tmp 52) (.tmp 53) rfl W0.heap.size wc2 hC.size (.slice (some ⟨gS,0,none⟩) 0 0) rfl oS av3 nm m3 cap3 HM3.out.1 rfl (HRS.out.below hC) HNO3.out (λ_=>HM3.out.2) ?_;intro vS wt oSS hg2;have fr2:Fr [gS] wc2 wt:=Fr.of_grown hg2 (λk e=>by cases e;simp);have hgb:W0.heap.size<=gS:=zBh oS;replace oNN:OwnN wt W0.heap.size vN l:=zAR fr2 oNN (λg e=>by have:=zAc oNN oS (by decide) g e;simp [Value.ownBlock] at this ⊢;exact λq=>this q.symm)
       replace hC:=zAu hC fr2 (λk hk=>by simp at hk;subst hk;exact hgb)
       clear fr2 hg2 oS hgb;refine hkQ hK ⟨zAC hC c0,zAC hC c1,zAC hC c2⟩ (λhHeld=>?_);clear hK K
       refine rdQ 7 zOO (λK hK=>?_);have FL:=HFL.out.run own r c wt _ _ vN vS HOW.out (HNM.out.1.below hC) (HNM.out.2.below hC) oNN oSS;go_simp
       refine FL.mono ?_;clear FL;rintro e wf ⟨⟨xv,rfl,hx⟩,hbf⟩;have HF1:Hid (FxO wf W0.heap.size xv L):=by rw [HLL.out.1] at hx;exact hx.weak hC.size
       replace hC:=zAB hC hbf
       clear hx hbf oNN oSS;go_wp2_with fail
       refine hkQ hK ⟨zAC hC c0,zAC hC c1,zAC hC c2⟩ (λhHeld=>?_);clear hK K
       refine tkQ 8 zMR ?_
       refine tkQ 9 zMy ?_
       refine tkQ 10 zOF ?_
       refine rdQ 11 zM4 (λK hK=>?_);go_simp
       refine hkQ hK ⟨zAC hC c0,zAC hC c1,zAC hC c2⟩ (λhHeld=>?_);clear hK K
       refine rdQ 12 zNy (λK hK=>?_);go_simp
       refine hkQ hK ⟨zAC hC c0,zAC hC c1,zAC hC c2⟩ (λhHeld=>?_);clear hK K
       refine wpAnyH_done (by kernel_rfl) ?_ _;go_wp2_with fail
       go_meet
       case rel=>exact (by obtain ⟨xa,xc,e,_⟩:=HF1.out.rd;subst e;exact ⟨xa,_,xc,rfl,HF1,hC⟩)
     ·have hba:=zAL (Below.refl _ WD) (.cells #[] 9);have oS:=zAd (zCI WD 9 1) hC.size;replace hC:=zAB hC hba
      clear hba;go_simp
      refine hkQ hK ⟨zAC hC c0,zAC hC c1,zAC hC c2⟩ (λhHeld=>?_);clear hK K
      obtain ⟨gS,hgS⟩:∃ g,WD.heap.size=g:=⟨_,rfl⟩
      rw [hgS] at oS;simp only [hgS];generalize hgw:(WD.alloc (.cells #[] 9))=wa at *;clear hgw hgS;refine rdQ 0 zPB (λK hK=>?_);have hba:=zAL (Below.refl _ wa) (.cells #[] 56);have oN:=zAd (zCI wa 56 20) hC.size;replace oS:=zAR (Fr.of_below [] hba) oS (by simp)
      replace hC:=zAB hC hba
      clear hba;go_simp
      refine hkQ hK ⟨zAC hC c0,zAC hC c1,zAC hC c2⟩ (λhHeld=>?_);clear hK K
      obtain ⟨gN,hgN⟩:∃ g,wa.heap.size=g:=⟨_,rfl⟩
      rw [hgN] at oN;simp only [hgN];generalize hgw:(wa.alloc (.cells #[] 56))=wb at *;clear hgw hgN;refine rdQ 2 zNg (λK hK=>?_);refine zIV (.tmp 48) (.tmp 49) rfl W0.heap.size wb hC.size (.slice (some ⟨gN,0,none⟩) 0 0) rfl oN av l m cap HM.out.1 rfl (HRN.out.below hC) HNO.out (λ_=>Nat.le_trans HM.out.2 (by decide)) ?_;intro vN wc2 oNN hg1;have fr1:Fr [gN] wb wc2:=Fr.of_grown hg1 (λk e=>by cases e;simp);have hgb:W0.heap.size<=gN:=zBh oN;replace oS:=zAR fr1 oS (λg e=>by have:=zAc oS oN (by decide) g e;simp [Value.ownBlock] at this ⊢;exact λq=>this q.symm)
      replace hC:=zAu hC fr1 (λk hk=>by simp at hk;subst hk;exact hgb)
      clear fr1 hg1 oN hgb;refine hkQ hK ⟨zAC hC c0,zAC hC c1,zAC hC c2⟩ (λhHeld=>?_);clear hK K
      refine rdQ 6 zNx (λK hK=>?_);refine zI1 (.tmp 52) (.tmp 53) rfl W0.heap.size wc2 hC.size (.slice (some ⟨gS,0,none⟩) 0 0) rfl oS av3 nm m3 cap3 HM3.out.1 rfl (HRS.out.below hC) HNO3.out (λ_=>HM3.out.2) ?_;intro vS wt oSS hg2;have fr2:Fr [gS] wc2 wt:=Fr.of_grown hg2 (λk e=>by cases e;simp);have hgb:W0.heap.size<=gS:=zBh oS;replace oNN:OwnN wt W0.heap.size vN l:=zAR fr2 oNN (λg e=>by have:=zAc oNN oS (by decide) g e;simp [Value.ownBlock] at this ⊢;exact λq=>this q.symm)
      replace hC:=zAu hC fr2 (λk hk=>by simp at hk;subst hk;exact hgb)
      clear fr2 hg2 oS hgb;refine hkQ hK ⟨zAC hC c0,zAC hC c1,zAC hC c2⟩ (λhHeld=>?_);clear hK K
      refine rdQ 7 zOO (λK hK=>?_);have FL:=HFL.out.run own r c wt _ _ vN vS HOW.out (HNM.out.1.below hC) (HNM.out.2.below hC) oNN oSS;go_simp
      refine FL.mono ?_;clear FL;rintro e wf ⟨⟨xv,rfl,hx⟩,hbf⟩;have HF1:Hid (FxO wf W0.heap.size xv L):=by rw [HLL.out.1] at hx;exact hx.weak hC.size
      replace hC:=zAB hC hbf
      clear hx hbf oNN oSS;go_wp2_with fail
      refine hkQ hK ⟨zAC hC c0,zAC hC c1,zAC hC c2⟩ (λhHeld=>?_);clear hK K
      refine tkQ 8 zMR ?_
      refine tkQ 9 zMy ?_
      refine tkQ 10 zOF ?_
      refine rdQ 11 zM4 (λK hK=>?_);go_simp
      refine hkQ hK ⟨zAC hC c0,zAC hC c1,zAC hC c2⟩ (λhHeld=>?_);clear hK K
      refine rdQ 12 zNy (λK hK=>?_);go_simp
      refine hkQ hK ⟨zAC hC c0,zAC hC c1,zAC hC c2⟩ (λhHeld=>?_);clear hK K
      refine wpAnyH_done (by kernel_rfl) ?_ _;go_wp2_with fail
      go_meet
      case rel=>exact (by obtain ⟨xa,xc,e,_⟩:=HF1.out.rd;subst e;exact ⟨xa,_,xc,rfl,HF1,hC⟩)
   case rest =>
   obtain ⟨xa,xm,xc,rfl,HX,HBC⟩:=hcut;generalize hwc:wc=W1 at *;clear hwc c0 c1 c2 HRN' HRS' HNM';have HB1:Hid (Below WB.heap.size WB W1):=zAB HB.out HBC.out;obtain ⟨P,hP⟩:=HX.out.c;have HXC:Hid (FxC W1 W0.heap.size W1.heap.size (Value.slice xa xm xc) L P):=hP;have hone:(Value.slice xa xm xc).oneCell'=true:=rfl;obtain ⟨vs,hvk,hov,hold⟩:=OldF.of hlt HST.out;have bA:=zAL (Below.refl _ W1) (.cells #[(Value.slice xa xm xc)] 30);have oV:=zAR (Fr.of_below [] (zAB HBC.out bA)) hov (by simp);have HOV:Hid ((W1.alloc (.cells #[(Value.slice xa xm xc)] 30)).ownsRow WB.heap.size 30 1 lv vs.length vs):=oV;have HOLD:Hid (OldF WB.heap.size W0.heap.size L (usA L) k (W1.alloc (.cells #[(Value.slice xa xm xc)] 30)) uv vs):=(hold.below HBC.out).below bA;have aX:=AtL.new0 W1 30 [(Value.slice xa xm xc)];have sX:WB.heap.size<=(W1.alloc (.cells #[(Value.slice xa xm xc)] 30)).heap.size:=(zAB HB1.out bA).size;have nV:True->vs.length+1<=4000000:=λ_=>by omega
   have HBA:Hid (Below W1.heap.size W1 (W1.alloc (.cells #[(Value.slice xa xm xc)] 30))):=bA;have HW01:Hid (WB.heap.size<=W0.heap.size/\W0.heap.size<=W1.heap.size):=⟨HB.out.size,HBC.out.size⟩
   clear hP hov hold bA hvk HX HST HBC HB;go_upto_region 12 with (refine zBp zQe zKE rfl (.tmp 58) (.tmp 60) rfl (W1.alloc (.cells #[(Value.slice xa xm xc)] 30)) WB.heap.size sX lv vs rfl oV W1.heap.size (Value.slice xa xm xc) rfl aX hone (nV trivial) ?_;intro lv2 w6 oL hgL)
   have HB6:Hid (Below WB.heap.size WB w6):=(zAB HB1.out HBA.out).grown hgL (zAB HB1.out HBA.out).size (λk e=>(zAI HOV.out e).1);have HX6:Hid (FxC w6 W0.heap.size W1.heap.size (Value.slice xa xm xc) L P):=(HXC.out.below HBA.out).other HOV.out (by decide) (by decide) hgL;have HO6:Hid (OldF WB.heap.size W0.heap.size L (usA L) k w6 uv vs):=HOLD.out.row HOV.out hgL;have HL6:Hid (w6.ownsRow WB.heap.size 30 1 lv2 (vs++[(Value.slice xa xm xc)]).length (vs++[(Value.slice xa xm xc)])):=oL;have HS6:Hid (W1.heap.size<=w6.heap.size):=Nat.le_trans HBA.out.size hgL.size;have TW:=zLY L (Value.slice xa xm xc) w6 HX6.out.rd (by have:=HLL.out.2.1;omega) (λx hx=>(HLL.out.2.2 x hx).1);clear HOV HOLD HBA aX sX nV oV oL hgL HXC hone HB1;go_wp2_with fail
   refine TW.mono ?_;rintro e w7 ⟨⟨G,cp,B7,P7,rfl,hBw,own7,tw7⟩,hb7⟩;have US:=zFj L _ w7 (⟨own7,tw7⟩:TwS w7 B7 G cp P7 L).rd (by have:=HLL.out.2.1;omega) HLL.out.2.2 (HNM.out.1.below (zAB HB6.out hb7));have HB7:Hid (Below w6.heap.size w6 w7):=hb7;clear TW own7 tw7 hBw hb7;go_wp2_with fail
   refine US.mono ?_;rintro e w8 ⟨⟨rv,B8,rfl,oA,hB8⟩,hb8⟩;have HB8:Hid (Below w6.heap.size w6 w8):=zAB HB7.out hb8;obtain ⟨ra,rc',er,_⟩:=oA.rd;obtain ⟨rm,hrm⟩:∃ n,(usA L).length=n:=⟨_,rfl⟩
   rw [hrm] at er;subst er;clear hrm;have rone:(Value.slice ra rm rc').oneCell'=true:=rfl;obtain ⟨us,huk,hou,hu0⟩:∃ us,us.length=k/\w6.ownsRow WB.heap.size 34 1 uv us.length us/\(k=0->us=[]):=by
    rcases HO6.out with ⟨q,e,_⟩ | ⟨q,x,P',u,_,h1,_⟩
    ·exact ⟨[],by rw [q];rfl,by rw [e];exact ⟨rfl,Or.inl ⟨rfl,rfl⟩⟩,λ_=>rfl⟩
    ·exact ⟨[u],by rw [q];rfl,h1,λz=>by omega⟩
   have bA:=zAL (Below.refl _ w8) (.cells #[(Value.slice ra rm rc')] 34);have bB:=zAB HB8.out bA;have oU:=zAR (Fr.of_below [] bB) hou (by simp);have HOU:Hid ((w8.alloc (.cells #[(Value.slice ra rm rc')] 34)).ownsRow WB.heap.size 34 1 uv us.length us):=oU;have HOA:Hid (OldF WB.heap.size W0.heap.size L (usA L) k (w8.alloc (.cells #[(Value.slice ra rm rc')] 34)) uv vs):=HO6.out.below bB;have HLA:Hid ((w8.alloc (.cells #[(Value.slice ra rm rc')] 34)).ownsRow WB.heap.size 30 1 lv2 (vs++[(Value.slice xa xm xc)]).length (vs++[(Value.slice xa xm xc)])):=zAR (Fr.of_below [] bB) HL6.out (by simp);have HXA:Hid (FxC (w8.alloc (.cells #[(Value.slice ra rm rc')] 34)) W0.heap.size W1.heap.size (Value.slice xa xm xc) L P):=HX6.out.below bB;have HUA:Hid (OwnA (w8.alloc (.cells #[(Value.slice ra rm rc')] 34)) W0.heap.size (Value.slice ra rm rc') (usA L)):=zAd (oA.below bA) (by have:=HW01.out.2;have:=HS6.out;have:=HB7.out.size;omega);have HBB:Hid (Below WB.heap.size WB (w8.alloc (.cells #[(Value.slice ra rm rc')] 34))/\W1.heap.size<=(w8.alloc (.cells #[(Value.slice ra rm rc')] 34)).heap.size/\(k=0->us=[])):=⟨zAB HB6.out bB,Nat.le_trans HS6.out bB.size,hu0⟩
   have aU:=AtL.new0 w8 34 [(Value.slice ra rm rc')];have sU:WB.heap.size<=(w8.alloc (.cells #[(Value.slice ra rm rc')] 34)).heap.size:=(zAB HB6.out bB).size;have nU:True->us.length+1<=4000000:=λ_=>by omega
   clear US oA hB8 hb8 HB7 HB8 hou hu0 huk bA bB HO6 HL6 HX6 HS6 HB6;go_upto_region 9 with (refine zBp zRI zNj rfl (.tmp 62) (.tmp 66) rfl (w8.alloc (.cells #[(Value.slice ra rm rc')] 34)) WB.heap.size sU uv us rfl oU w8.heap.size (Value.slice ra rm rc') rfl aU rone (nU trivial) ?_;intro uv2 w9 oN hgN)
   have HN9:Hid (StF WB.heap.size L (usA L) (k+1) w9 lv2 uv2):=HOA.out.next HW01.out.1 (Nat.le_trans HBB.out.2.1 hgN.size) HLA.out HXA.out HUA.out HOU.out HBB.out.2.2 hgN oN;have HB9:Hid (Below WB.heap.size WB w9):=HBB.out.1.grown hgN HBB.out.1.size (λk e=>(zAI HOU.out e).1);clear HOU HOA HLA HXA HUA HBB aU sU nU oU rone oN hgN HW01;go_wp2_with fail
   go_roundg (2 - (k+1))
   case rel=>exact ⟨k+1,lv2,uv2,rfl,rfl,by simp,rfl,by omega,HB9,HN9⟩
   case measure=>omega
  ·have hki:¬ (k:Int)<2:=by omega
   have hk:k=2:=by omega
   subst hk;obtain ⟨x,P,u,x',P',u',C,D,hl,hu,X0,X1,hBC,A0,A1,hub⟩:=HST.out;obtain ⟨xa,xc,ex,_⟩:=X0.rd;obtain ⟨ya,yc,ey,_⟩:=X1.rd;obtain ⟨ua,uc,eu,_⟩:=A0.rd;obtain ⟨va,vc,ev,_⟩:=A1.rd;obtain ⟨n,hn⟩:∃ n,L.length=n:=⟨_,rfl⟩
   obtain ⟨q,hq⟩:∃ q,(usA L).length=q:=⟨_,rfl⟩
   rw [hn] at ex ey;rw [hq] at eu ev;subst ex ey eu ev;obtain ⟨gl,cl,rfl,hcl,l0,l1⟩:=zIf hl;obtain ⟨gu,cu,rfl,hcu,v0,v1⟩:=zIf hu;have HTW:Hid (W0.ownsRow WB.heap.size 30 1 (.slice (some ⟨gl,0,none⟩) 2 cl) 2 [Value.slice xa n xc,Value.slice ya n yc]/\W0.ownsRow WB.heap.size 34 1 (.slice (some ⟨gu,0,none⟩) 2 cu) 2 [Value.slice ua q uc,Value.slice va q vc]):=⟨hl,hu⟩
   have HXX:Hid (FxC W0 WB.heap.size C (Value.slice xa n xc) L P/\FxC W0 C D (Value.slice ya n yc) L P'/\WB.heap.size<=C):=⟨X0,X1,hBC⟩
   have HAA:Hid (OwnA W0 WB.heap.size (Value.slice ua q uc) (usA L)/\OwnA W0 C (Value.slice va q vc) (usA L)/\∀ g,(Value.slice ua q uc).ownBlock=some g->g<C):=⟨A0,A1,hub⟩
   have HNQ:Hid (L.length=n/\(usA L).length=q):=⟨hn,hq⟩
   clear HST hl hu X0 X1 hBC A0 A1 hub hn hq;go_upto_region 13 with fail
   have hC:Below W0.heap.size W0 W0.drew:=(Below.refl _ _).drew;refine wp_region_held_drew (S:=λW=>(W.cell? ⟨gl,0,none⟩=some (Value.slice xa n xc)/\W.cell? ⟨gl,1,none⟩=some (Value.slice ya n yc))/\W.cell? ⟨gu,0,none⟩=some (Value.slice ua q uc)/\W.cell? ⟨gu,1,none⟩=some (Value.slice va q vc)) (by kernel_rfl) ⟨⟨zAC hC l0,zAC hC l1⟩,zAC hC v0,zAC hC v1⟩ (λhHeld=>?_);generalize W0.drew=WD at *;refine tkQ 0 ⟨some 68,.move (.tmp 7),28,"law.go:175",#[],none⟩ ?_
   refine tkQ 1 ⟨some 69,.indexAddr 28 (.tmp 68) (Operand.const (Value.int IntKind.i64 0)),0,"law.go:175",#[⟨0,.data⟩],none⟩ ?_
   refine tkQ 2 ⟨some 70,.load 30 (.tmp 69),30,"law.go:175",#[⟨1,.data⟩],none⟩ ?_
   refine tkQ 3 ⟨some 71,.move (.tmp 7),28,"law.go:175",#[],none⟩ ?_
   refine tkQ 4 ⟨some 72,.indexAddr 28 (.tmp 71) (Operand.const (Value.int IntKind.i64 1)),0,"law.go:175",#[⟨3,.data⟩],none⟩ ?_
   refine tkQ 5 ⟨some 73,.load 30 (.tmp 72),30,"law.go:175",#[⟨4,.data⟩],none⟩ ?_
   refine rdQ 6 ⟨some 74,.call {callee:=Callee.value (Operand.func 14),args:=#[.tmp 70,.tmp 73],argTypes:=#[30,30]},4,"law.go:175",#[⟨2,.data⟩,⟨5,.data⟩],none⟩ (λK hK=>?_);have SM:=zOv L (Value.slice xa n xc) (Value.slice ya n yc) WD (HXX.out.1.below hC).rd (HXX.out.2.1.below hC).rd (by have:=HLL.out.2.1;omega) (λx hx=>(HLL.out.2.2 x hx).1);go_simp
   refine SM.mono ?_;clear SM;rintro e ws ⟨rfl,hbs⟩;replace hC:=zAB hC hbs
   clear hbs;go_wp2_with fail
   refine hkQ hK ⟨⟨zAC hC l0,zAC hC l1⟩,zAC hC v0,zAC hC v1⟩ (λhHeld=>?_);clear hK K
   refine tkQ 7 ⟨some 75,.unOp UnOp.not 4 (.tmp 74),4,"law.go:175",#[⟨6,.data⟩],none⟩ ?_
   refine tkQ 8 ⟨some 76,.move (.tmp 75),4,"law.go:175",#[⟨7,.data⟩,⟨6,.chain⟩],none⟩ ?_
   refine tkQ 9 ⟨some 77,.move (.tmp 8),29,"law.go:175",#[⟨8,.guard⟩],some (8,Bool.false)⟩ ?_
   refine tkQ 10 ⟨some 78,.indexAddr 29 (.tmp 77) (Operand.const (Value.int IntKind.i64 0)),0,"law.go:175",#[⟨9,.data⟩,⟨8,.guard⟩],some (8,Bool.false)⟩ ?_
   refine tkQ 11 ⟨some 79,.load 34 (.tmp 78),34,"law.go:175",#[⟨10,.data⟩,⟨8,.guard⟩],some (8,Bool.false)⟩ ?_
   refine tkQ 12 ⟨some 80,.move (.tmp 8),29,"law.go:175",#[⟨8,.guard⟩],some (8,Bool.false)⟩ ?_
   refine tkQ 13 ⟨some 81,.indexAddr 29 (.tmp 80) (Operand.const (Value.int IntKind.i64 1)),0,"law.go:175",#[⟨12,.data⟩,⟨8,.guard⟩],some (8,Bool.false)⟩ ?_
   refine tkQ 14 ⟨some 82,.load 34 (.tmp 81),34,"law.go:175",#[⟨13,.data⟩,⟨8,.guard⟩],some (8,Bool.false)⟩ ?_
   refine rdQ 15 ⟨some 83,.call {callee:=Callee.value (Operand.func 15),args:=#[.tmp 79,.tmp 82],argTypes:=#[34,34]},4,"law.go:175",#[⟨11,.data⟩,⟨14,.data⟩,⟨8,.chain⟩,⟨8,.guard⟩],some (8,Bool.false)⟩ (λK hK=>?_);have AR:=zJJ (usA L) (Value.slice ua q uc) (Value.slice va q vc) ws (HAA.out.1.below hC).rd (HAA.out.2.1.below hC).rd (by have:=zFt L;have:=HLL.out.2.1;omega);go_simp
   refine AR.mono ?_;clear AR;rintro e wv ⟨rfl,hbs⟩;replace hC:=zAB hC hbs
   clear hbs;go_wp2_with fail
   refine hkQ hK ⟨⟨zAC hC l0,zAC hC l1⟩,zAC hC v0,zAC hC v1⟩ (λhHeld=>?_);clear hK K
   refine tkQ 16 ⟨some 84,.unOp UnOp.not 4 (.tmp 83),4,"law.go:175",#[⟨15,.data⟩,⟨8,.guard⟩],some (8,Bool.false)⟩ ?_
   refine tkQ 17 ⟨some 85,.pick (.tmp 76) (Operand.const (Value.bool Bool.true)) (.tmp 84),4,"law.go:175",#[⟨8,.data⟩,⟨16,.data⟩],none⟩ ?_
   refine wpAnyH_done (by kernel_rfl) ?_ _;generalize hwv:wv=WD at *;clear hwv;have HBD:Hid (Below WB.heap.size WB WD):=zAB HB.out hC;obtain ⟨zs,hzs⟩:∃ zs,zrs P L++zrs P' L=zs:=⟨_,rfl⟩
   have HM0:Hid (M3 WB.heap.size (.slice (some ⟨gl,0,none⟩) 2 cl) (.slice (some ⟨gu,0,none⟩) 2 cu) (Value.slice xa n xc) (Value.slice ya n yc) (Value.slice ua q uc) (Value.slice va q vc) (.slice none 0 0) P P' (usA L) (usA L) zs [] WD):=by
    show M3 _ _ _ _ _ _ _ _ _ _ _ _ _ _ _
    rw [<-hzs];exact (M3.start HTW.out.1 HTW.out.2 HXX.out.1 HXX.out.2.1 HXX.out.2.2 HAA.out.1 HAA.out.2.1 HAA.out.2.2).below hC
   have HZS:Hid (zrs P L++zrs P' L=zs/\P.length=n/\P'.length=n):=⟨hzs,by rw [<-HNQ.out.1];exact HXX.out.1.1.2.1,by rw [<-HNQ.out.1];exact HXX.out.2.1.1.2.1⟩
   clear hC hHeld l0 l1 v0 v1 hzs HTW HXX HAA HB;have HR0:Hid (Rk WB.heap.size n q (.slice (some ⟨gl,0,none⟩) 2 cl) (.slice (some ⟨gu,0,none⟩) 2 cu) (Value.slice xa n xc) (Value.slice ya n yc) (Value.slice ua q uc) (Value.slice va q vc) P P' (usA L) zs 0 0 0 (0 * n) (.slice none 0 0) WD):=by show Rk _ _ _ _ _ _ _ _ _ _ _ _ _ _ _ _ _ _ _;rw [Nat.zero_mul];exact Rk.start HM0.out
   have HN2:Hid (n<=20000/\q<=40000):=⟨by rw [<-HNQ.out.1];exact HLL.out.2.1,by rw [<-HNQ.out.2];have:=zFt L;have:=HLL.out.2.1;omega⟩
   clear HM0;go_upto_region 17 with fail
   go_loopg [12,13] 2 (λgk u12 u13 wr=>∃ (k:Nat) (tv:Value),tv=u12/\u13=.int .i64 (k:Int)/\gk=2 - k/\k<=2/\Hid (Below WB.heap.size WB wr)/\Hid (Rk WB.heap.size n q (.slice (some ⟨gl,0,none⟩) 2 cl) (.slice (some ⟨gu,0,none⟩) 2 cu) (Value.slice xa n xc) (Value.slice ya n yc) (Value.slice ua q uc) (Value.slice va q vc) P P' (usA L) zs k 0 0 (k * n) tv wr))
   case atStart=>exact ⟨0,_,rfl,rfl,rfl,by omega,HBD,HR0⟩
   case round =>
    clear HR0 HBD;obtain ⟨k,tv,rfl,rfl,hg2,hk2',HB,HM⟩:=hrel;generalize hw9:wr=W0 at *;clear hw9;by_cases hlt:k<2
    ·as_aux_lemma =>
      have hki':(k:Int)<2:=by omega
      have hkz:(0:Int)<=(k:Int):=by omega
      have hwk':IntKind.i64.wrap ((k:Int)+1)=(k:Int)+1:=by rw [IntKind.wrap_i64];omega
      have hw100:IntKind.i64.wrap (100+(k:Int))=100+(k:Int):=by rw [IntKind.wrap_i64];omega
      obtain ⟨pa,pc,hpa⟩:∃ pa pc,(if k=0 then Value.slice xa n xc else Value.slice ya n yc)=.slice pa n pc:=by
       split
       ·exact ⟨_,_,rfl⟩
       ·exact ⟨_,_,rfl⟩
      obtain ⟨ra,rc,hra⟩:∃ pa pc,(if k=0 then Value.slice ua q uc else Value.slice va q vc)=.slice pa q pc:=by
       split
       ·exact ⟨_,_,rfl⟩
       ·exact ⟨_,_,rfl⟩
      have HPA:Hid ((if k=0 then Value.slice xa n xc else Value.slice ya n yc)=.slice pa n pc):=hpa;have HRA:Hid ((if k=0 then Value.slice ua q uc else Value.slice va q vc)=.slice ra q rc):=hra;clear hpa hra;go_upto_region 20 with fail
      go_loopg [12,14] n (λgk u12 u14 wr=>∃ (i:Nat) (tv:Value),tv=u12/\u14=.int .i64 (i:Int)/\gk=n - i/\i<=n/\Hid (Below WB.heap.size WB wr)/\Hid (Rk WB.heap.size n q (.slice (some ⟨gl,0,none⟩) 2 cl) (.slice (some ⟨gu,0,none⟩) 2 cu) (Value.slice xa n xc) (Value.slice ya n yc) (Value.slice ua q uc) (Value.slice va q vc) P P' (usA L) zs k i 0 (k * n+i) tv wr))
      case atStart=>exact ⟨0,_,rfl,rfl,rfl,by omega,HB,HM⟩
      case round =>
       clear HB HM;obtain ⟨i,tv,rfl,rfl,hgi,hin,HB,HM⟩:=hrel;generalize hw9:wr=W1 at *;clear hw9;have hl0:W1.cell? ⟨gl,k,none⟩=some (.slice pa n pc):=by rw [<-HPA.out];exact HM.out.list hlt rfl
       by_cases hil:i<n
       ·have hii:(i:Int)<(n:Int):=by omega
        have hwi:IntKind.i64.wrap ((i:Int)+1)=(i:Int)+1:=by rw [IntKind.wrap_i64];have:=HN2.out;omega
        obtain ⟨g,z,e,hBg,hth,hc22,hz⟩:=HM.out.code hlt hil HZS.out.2.1 HZS.out.2.2 HNQ.out.1 HZS.out.1 HPA.out;subst e;obtain ⟨za,zm,zc,e⟩:∃ za zm zc,z=.slice za zm zc:=by
         rw [List.getElem?_map] at hz;obtain ⟨z1,q1,rfl⟩:=Option.map_eq_some_iff.1 hz;obtain ⟨hq,rfl⟩:=List.getElem?_eq_some_iff.1 q1;obtain ⟨a,c,e,_⟩:=zA9 ((M3.zr HM.out).1 _ hq);exact ⟨a,_,c,e⟩
        subst e;have HZ:Hid ((zs.map (λz=>z.1))[k * n+i]? = some (.slice za zm zc)):=hz;obtain ⟨TS,hTS⟩:∃ l,(zs.map (λz=>z.1)).take (k * n+i)=l:=⟨_,rfl⟩
        have HTS:Hid ((zs.map (λz=>z.1)).take (k * n+i)=TS/\TS.length<=50000):=⟨hTS,by rw [<-hTS,List.length_take];have:=HN2.out;have:k * n<=1 * n:=Nat.mul_le_mul_right _ (by omega);omega⟩
        have bA:=zAL (Below.refl _ W1) (.cells #[Value.slice za zm zc] 46);have HMA:Hid (Rk WB.heap.size n q (.slice (some ⟨gl,0,none⟩) 2 cl) (.slice (some ⟨gu,0,none⟩) 2 cu) (Value.slice xa n xc) (Value.slice ya n yc) (Value.slice ua q uc) (Value.slice va q vc) P P' (usA L) zs k i 0 (k * n+i) tv (W1.alloc (.cells #[Value.slice za zm zc] 46))):=HM.out.below bA;have oT:(W1.alloc (.cells #[Value.slice za zm zc] 46)).ownsRow WB.heap.size 46 1 tv TS.length TS:=by rw [<-hTS];exact M3.t HMA.out
        have HOT:Hid ((W1.alloc (.cells #[Value.slice za zm zc] 46)).ownsRow WB.heap.size 46 1 tv TS.length TS):=oT;have aT:=AtL.new0 W1 46 [Value.slice za zm zc];have HBA:Hid (Below WB.heap.size WB (W1.alloc (.cells #[Value.slice za zm zc] 46))):=zAB HB.out bA;have sT:WB.heap.size<=(W1.alloc (.cells #[Value.slice za zm zc] 46)).heap.size:=HBA.out.size;have nT:True->TS.length+1<=4000000:=λ_=>by have:=HTS.out.2;omega
        clear hTS bA hz HB HM hth;go_upto_region 23 with (refine zBp zQJ zFe rfl (.tmp 99) (.tmp 108) rfl (W1.alloc (.cells #[Value.slice za zm zc] 46)) WB.heap.size sT tv TS rfl oT W1.heap.size (Value.slice za zm zc) rfl aT rfl (nT trivial) ?_;intro tv2 w6 oT6 hgT)
        have HM6:Hid (Rk WB.heap.size n q (.slice (some ⟨gl,0,none⟩) 2 cl) (.slice (some ⟨gu,0,none⟩) 2 cu) (Value.slice xa n xc) (Value.slice ya n yc) (Value.slice ua q uc) (Value.slice va q vc) P P' (usA L) zs k i 0 (k * n+i+1) tv2 w6):=HMA.out.grow HZ.out hgT (by rw [HTS.out.1];exact oT6);have HB6:Hid (Below WB.heap.size WB w6):=HBA.out.grown hgT HBA.out.size (λk e=>(zAI HOT.out e).1);clear HMA oT HOT aT HBA sT nT oT6 hgT HTS HZ hl0 hc22;have hl6:w6.cell? ⟨gl,k,none⟩=some (.slice (some ⟨g,0,none⟩) n pc):=by rw [<-HPA.out];exact HM6.out.list hlt rfl
        have hth:w6.there g (i * 23) 23:=by
         obtain ⟨g',z,e,_,hth,_⟩:=HM6.out.code hlt hil HZS.out.2.1 HZS.out.2.2 HNQ.out.1 HZS.out.1 HPA.out;simp only [Option.some.injEq,Addr.mk.injEq,and_true] at e;rw [e];exact hth
        have HM7:Hid (Rk WB.heap.size n q (.slice (some ⟨gl,0,none⟩) 2 cl) (.slice (some ⟨gu,0,none⟩) 2 cu) (Value.slice xa n xc) (Value.slice ya n yc) (Value.slice ua q uc) (Value.slice va q vc) P P' (usA L) zs k (i+1) 0 (k * n+i+1) tv2 (w6.setCells g (i * 23) (zAD (ins (100+(k:Int)) (i:Int) 0).1 zAH))):=HM6.out.mark hlt hil HZS.out.2.1 HZS.out.2.2 HPA.out;have HB7:Hid (Below WB.heap.size WB (w6.setCells g (i * 23) (zAD (ins (100+(k:Int)) (i:Int) 0).1 zAH))):=zAs HB6.out hBg _ _;clear HM6 HB6;go_upto_region 21 with (first | (refine zEr rfl (.tmp 116) (.tmp 117) rfl (100+(k:Int)) (i:Int) rfl rfl ?_) | ((with_reducible refine wpList_store_mid ?_ 48 (.tmp 119) (.tmp 118) ?_ g (i * 23) (zAD (ins (100+(k:Int)) (i:Int) 0).1 zAH).toArray ?_ ?_ ?_ ?_ ?_ ?_);rfl;rfl;rfl;rfl;exact hth;kernel_rfl;exact zAf _ _ _ _))
        generalize w6.setCells g (i * 23) (zAD (ins (100+(k:Int)) (i:Int) 0).1 zAH)=w7 at *;clear hth hl6;go_wp2_with fail
        go_roundg (n - (i+1))
        case rel=>exact ⟨i+1,tv2,rfl,by simp,rfl,hil,HB7,HM7⟩
        case measure=>omega
       ·have hii:¬ (i:Int)<(n:Int):=by omega
        have hie:i=n:=by omega
        subst hie;go_upto_region 25 with fail
        clear hl0;go_loopg [15] q (λgk u15 wr=>∃ (j:Nat),u15=.int .i64 (j:Int)/\gk=q - j/\j<=q/\Hid (Below WB.heap.size WB wr)/\Hid (Rk WB.heap.size i q (.slice (some ⟨gl,0,none⟩) 2 cl) (.slice (some ⟨gu,0,none⟩) 2 cu) (Value.slice xa i xc) (Value.slice ya i yc) (Value.slice ua q uc) (Value.slice va q vc) P P' (usA L) zs k i j (k * i+i) tv wr))
        case atStart=>exact ⟨0,rfl,rfl,by omega,HB,HM⟩
        case round =>
         clear HB HM;obtain ⟨j,rfl,hgj,hjq,HB,HM⟩:=hrel;generalize hw9:wr=W2 at *;clear hw9;have hl0:W2.cell? ⟨gu,k,none⟩=some (.slice ra q rc):=by rw [<-HRA.out];exact HM.out.uses hlt rfl
         by_cases hjl:j<q
         ·have hji:(j:Int)<(q:Int):=by omega
          have hwj:IntKind.i64.wrap ((j:Int)+1)=(j:Int)+1:=by rw [IntKind.wrap_i64];have:=HN2.out;omega
          obtain ⟨g,e,hBg,hth,hm⟩:=HM.out.area hlt hjl HNQ.out.2 HRA.out;subst e;have HM7:Hid (Rk WB.heap.size i q (.slice (some ⟨gl,0,none⟩) 2 cl) (.slice (some ⟨gu,0,none⟩) 2 cu) (Value.slice xa i xc) (Value.slice ya i yc) (Value.slice ua q uc) (Value.slice va q vc) P P' (usA L) zs k i (j+1) (k * i+i) tv (W2.setCells g (j * 5) (zA7 ⟨100+(k:Int),(j:Int),0,0,0⟩))):=hm;have HB7:Hid (Below WB.heap.size WB (W2.setCells g (j * 5) (zA7 ⟨100+(k:Int),(j:Int),0,0,0⟩))):=zAs HB.out hBg _ _;clear hm HM HB;go_upto_region 26 with (first | (refine zFH rfl (.tmp 135) (.tmp 136) rfl (100+(k:Int)) (j:Int) rfl rfl ?_) | ((with_reducible refine wpList_store_mid ?_ 45 (.tmp 138) (.tmp 137) ?_ g (j * 5) (zA7 ⟨100+(k:Int),(j:Int),0,0,0⟩).toArray ?_ ?_ ?_ ?_ ?_ ?_);rfl;rfl;rfl;rfl;exact hth;kernel_rfl;exact zSA _))
          generalize W2.setCells g (j * 5) (zA7 ⟨100+(k:Int),(j:Int),0,0,0⟩)=w7 at *;clear hth hl0;go_wp2_with fail
          go_roundg (q - (j+1))
          case rel=>exact ⟨j+1,by simp,rfl,hjl,HB7,HM7⟩
          case measure=>omega
         ·have hji:¬ (j:Int)<(q:Int):=by omega
          have hje:j=q:=by omega
          subst hje;have HM8:Hid (Rk WB.heap.size i j (.slice (some ⟨gl,0,none⟩) 2 cl) (.slice (some ⟨gu,0,none⟩) 2 cu) (Value.slice xa i xc) (Value.slice ya i yc) (Value.slice ua j uc) (Value.slice va j vc) P P' (usA L) zs (k+1) 0 0 ((k+1) * i) tv W2):=by
           show Rk _ _ _ _ _ _ _ _ _ _ _ _ _ _ _ _ _ _ _
           rw [Nat.succ_mul];exact HM.out.next hlt
          clear HM;go_wp2_with fail
          go_roundg (2 - (k+1))
          case rel=>exact ⟨k+1,tv,rfl,by simp,rfl,by omega,HB,HM8⟩
          case measure=>omega
    ·have hki':¬ (k:Int)<2:=by omega
     have hke:k=2:=by omega
     subst hke;obtain ⟨A,hA⟩:∃ A,pM 0 n P=A:=⟨_,rfl⟩
     obtain ⟨D,hD⟩:∃ A,pM 1 n P'=A:=⟨_,rfl⟩
     obtain ⟨U1,hU1⟩:∃ A,aM 0 q (usA L)=A:=⟨_,rfl⟩
     obtain ⟨U2,hU2⟩:∃ A,aM 1 q (usA L)=A:=⟨_,rfl⟩
     have HAD:Hid ((pM 0 n P=A/\pM 1 n P'=D)/\aM 0 q (usA L)=U1/\aM 1 q (usA L)=U2):=⟨⟨hA,hD⟩,hU1,hU2⟩
     obtain ⟨N,hN⟩:∃ N,zs.length=N:=⟨_,rfl⟩
     have HNZ:Hid (zs.length=N/\N<=40000/\2 * n=N):=by
      have h1:=HZS.out;have h2:=HNQ.out.1;have h3:=HN2.out.1;have e:2 * n=N:=by
       rw [<-hN,<-h1.1,List.length_append,zBQ (by omega),zBQ (by omega)];omega
      exact ⟨hN,by omega,e⟩
     have HM5:Hid (M3 WB.heap.size (.slice (some ⟨gl,0,none⟩) 2 cl) (.slice (some ⟨gu,0,none⟩) 2 cu) (Value.slice xa n xc) (Value.slice ya n yc) (Value.slice ua q uc) (Value.slice va q vc) tv A D U1 U2 (flZ 0 zs) (zs.map (λz=>z.1)) W0):=by
      have h:=HM.out.last;rw [hA,hD,hU1,hU2,List.take_of_length_le (by rw [List.length_map,hN];have:=HNZ.out;omega)] at h;show M3 _ _ _ _ _ _ _ _ _ _ _ _ _ _ _
      rw [zK6];exact h
     have HZO:Hid (ZOk zs):=ZOk.of (M3.zr HM.out) (by rw [<-HZS.out.1];exact zPi (by have:=HZS.out;have:=HNQ.out;omega) (by have:=HZS.out;have:=HNQ.out;omega) (λx hx=>(HLL.out.2.2 x hx).1));obtain ⟨ta,tc,e,_,htr⟩:=zA9 (M3.t HM5.out);rw [List.length_map,hN] at e;have HTA:Hid (0<N->∃ g,ta=some ⟨g,0,none⟩):=λh=>by
      obtain ⟨g,e,_⟩:=htr (by rw [List.length_map,hN];exact h);exact ⟨g,e⟩
     subst e;clear HM htr hA hD hU1 hU2 hN;go_upto_region 29 with fail
     go_loopg [16] N (λgk u16 wr=>∃ (i:Nat),u16=.int .i64 (i:Int)/\gk=N - i/\i<=N/\Hid (Below WB.heap.size WB wr)/\Hid (M3 WB.heap.size (.slice (some ⟨gl,0,none⟩) 2 cl) (.slice (some ⟨gu,0,none⟩) 2 cu) (Value.slice xa n xc) (Value.slice ya n yc) (Value.slice ua q uc) (Value.slice va q vc) (.slice ta N tc) A D U1 U2 (flZ i zs) (zs.map (λz=>z.1)) wr))
     case atStart=>exact ⟨0,rfl,rfl,Nat.zero_le _,HB,HM5⟩
     case round =>
      clear HB HM5;obtain ⟨i,rfl,hgi,hiN,HB,HM5⟩:=hrel;generalize hw9:wr=W1 at *;clear hw9;by_cases hil:i<N
      ·as_aux_lemma =>
        have hii:(i:Int)<(N:Int):=by omega
        have hiz0:(0:Int)<=(i:Int):=by omega
        have hwi:IntKind.i64.wrap ((i:Int)+1)=(i:Int)+1:=by rw [IntKind.wrap_i64];have:=HNZ.out;omega
        have hw1000:IntKind.i64.wrap (1000+(i:Int))=1000+(i:Int):=by rw [IntKind.wrap_i64];have:=HNZ.out;omega
        have hiz:i<zs.length:=by rw [HNZ.out.1];exact hil
        obtain ⟨gt,e⟩:=HTA.out (by omega);subst e;obtain ⟨z,hz⟩:∃ z,zs[i]=z:=⟨_,rfl⟩
        obtain ⟨zn,zb,za,zc,ez,zg⟩:=HZO.out z (by rw [<-hz];exact List.getElem_mem hiz);obtain ⟨z1,zm,zl⟩:=z;have ez':z1=Value.slice za zm zc:=ez;subst ez';have HZI:Hid (∃ h:i<zs.length,zs[i]=(Value.slice za zm zc,zm,zl)):=⟨hiz,hz⟩
        have HZL:Hid (zl.length=zm/\zm<=1000000/\(0<zm->∃ g,za=some ⟨g,0,none⟩)):=⟨zn,zb,zg⟩
        have HM6:Hid (M3 WB.heap.size (.slice (some ⟨gl,0,none⟩) 2 cl) (.slice (some ⟨gu,0,none⟩) 2 cu) (Value.slice xa n xc) (Value.slice ya n yc) (Value.slice ua q uc) (Value.slice va q vc) (.slice (some ⟨gt,0,none⟩) N tc) A D U1 U2 ((flZ i zs).set i (rwZ (Value.slice za zm zc,zm,zl) i 0)) (zs.map (λz=>z.1)) W1):=by
         show M3 _ _ _ _ _ _ _ _ _ _ _ _ _ _ _
         rw [<-hz,<-zJv i zs hiz];exact HM5.out
        clear HM5 hz zn zb zg ez hiz;go_upto_region 32 with fail
        go_loopg [17] zm (λgk u17 wr=>∃ (k:Nat),u17=.int .i64 (k:Int)/\gk=zm - k/\k<=zm/\Hid (Below WB.heap.size WB wr)/\Hid (M3 WB.heap.size (.slice (some ⟨gl,0,none⟩) 2 cl) (.slice (some ⟨gu,0,none⟩) 2 cu) (Value.slice xa n xc) (Value.slice ya n yc) (Value.slice ua q uc) (Value.slice va q vc) (.slice (some ⟨gt,0,none⟩) N tc) A D U1 U2 ((flZ i zs).set i (rwZ (Value.slice za zm zc,zm,zl) i k)) (zs.map (λz=>z.1)) wr))
        case atStart=>exact ⟨0,rfl,rfl,Nat.zero_le _,HB,HM6⟩
        case round =>
         clear HB HM6;obtain ⟨k,rfl,hgk,hkm,HB,HM6⟩:=hrel;generalize hw9:wr=W2 at *;clear hw9;have ht0:W2.cell? ⟨gt,i,none⟩=some (.slice za zm zc):=by
          obtain ⟨h,e⟩:=HZI.out;have:=M3.tos HM6.out (N:=N) rfl h;rw [e] at this;exact this
         by_cases hkl:k<zm
         ·have hki2:(k:Int)<(zm:Int):=by omega
          have hkz2:(0:Int)<=(k:Int):=by omega
          have hwk2:IntKind.i64.wrap ((k:Int)+1)=(k:Int)+1:=by rw [IntKind.wrap_i64];have:=HZL.out;omega
          obtain ⟨g,e⟩:=HZL.out.2.2 (by omega);subst e;obtain ⟨hBg,⟨c0,hc0⟩,hfz,hm⟩:=M3.put HM6.out (by obtain ⟨h,_⟩:=HZI.out;exact h) HZL.out.1 hkl rfl;have HM7:Hid (M3 WB.heap.size (.slice (some ⟨gl,0,none⟩) 2 cl) (.slice (some ⟨gu,0,none⟩) 2 cu) (Value.slice xa n xc) (Value.slice ya n yc) (Value.slice ua q uc) (Value.slice va q vc) (.slice (some ⟨gt,0,none⟩) N tc) A D U1 U2 ((flZ i zs).set i (rwZ (Value.slice (some ⟨g,0,none⟩) zm zc,zm,zl) i (k+1))) (zs.map (λz=>z.1)) (W2.setCell ⟨g,k,none⟩ (.int .i64 (1000+(i:Int))))):=hm;have HB7:Hid (Below WB.heap.size WB (W2.setCell ⟨g,k,none⟩ (.int .i64 (1000+(i:Int))))):=zAs HB.out hBg [_] k;clear hm HM6 HB;go_upto_region 33 with fail
          generalize W2.setCell ⟨g,k,none⟩ (.int .i64 (1000+(i:Int)))=w7 at *;clear hc0 hfz ht0;go_wp2_with fail
          go_roundg (zm - (k+1))
          case rel=>exact ⟨k+1,by simp,rfl,hkl,HB7,HM7⟩
          case measure=>omega
         ·have hki2:¬ (k:Int)<(zm:Int):=by omega
          have HM8:Hid (M3 WB.heap.size (.slice (some ⟨gl,0,none⟩) 2 cl) (.slice (some ⟨gu,0,none⟩) 2 cu) (Value.slice xa n xc) (Value.slice ya n yc) (Value.slice ua q uc) (Value.slice va q vc) (.slice (some ⟨gt,0,none⟩) N tc) A D U1 U2 (flZ (i+1) zs) (zs.map (λz=>z.1)) W2):=by
           have hke:k=zm:=by omega
           obtain ⟨h,e⟩:=HZI.out;show M3 _ _ _ _ _ _ _ _ _ _ _ _ _ _ _
           rw [<-zKd i zs h (by rw [e];exact HZL.out.1),e];have h6:=HM6.out;rw [hke] at h6;exact h6
          clear HM6;go_wp2_with fail
          go_roundg (N - (i+1))
          case rel=>exact ⟨i+1,by simp,rfl,hil,HB,HM8⟩
          case measure=>omega
      ·have hii:¬ (i:Int)<(N:Int):=by omega
       have hie:N=i:=by omega
       subst hie;obtain ⟨C,hC⟩:∃ C,W1.heap.size=C:=⟨_,rfl⟩
       obtain ⟨os,hos⟩:∃ os,flZ N zs=os:=⟨_,rfl⟩
       have HM8:Hid (M8 WB.heap.size C (.slice (some ⟨gl,0,none⟩) 2 cl) (.slice (some ⟨gu,0,none⟩) 2 cu) (Value.slice xa n xc) (Value.slice ya n yc) (Value.slice ua q uc) (Value.slice va q vc) (.slice ta N tc) (.slice none 0 0) A D U1 U2 os os (zs.map (λz=>z.1)) [] W1):=by
        have h:=M8.start HM5.out;rw [hC,hos] at h;exact h
       have HOQ:Hid (∀ i,i<N->∃ za zm zc,(∃ h:i<os.length,os[i]=(Value.slice za zm zc,zm,List.replicate zm (Value.int .i64 (1000+(i:Int)))))/\zm<=1000000/\∃ h:i<zs.length,(zs[i]).1=Value.slice za zm zc):=λi hi=>by
        have hz:i<zs.length:=by rw [HNZ.out.1];exact hi
        obtain ⟨zn,zb,za,zc,ez,zg⟩:=HZO.out _ (List.getElem_mem hz);refine ⟨za,(zs[i]).2.1,zc,⟨by rw [<-hos,zBv];exact hz,?_⟩,zb,hz,ez⟩;have h1:=zD4 N zs i hz;rw [if_pos hi,ez] at h1;rw [<-h1];simp only [<-hos]
       have HOL:Hid (os.length=N/\WB.heap.size<=C):=⟨by rw [<-hos,zBv];exact HNZ.out.1,by rw [<-hC];exact HB.out.size⟩
       have HCC:Hid (Below WB.heap.size WB W1/\C<=W1.heap.size):=⟨HB.out,by omega⟩
       clear HM5 hC hos HB;go_upto_region 37 with fail
       go_loopg [18,19] N (λgk u18 u19 wr=>∃ (i:Nat) (fv:Value) (ys:List Rg) (fs:List Value),fv=u18/\u19=.int .i64 (i:Int)/\gk=N - i/\i<=N/\Hid (Below WB.heap.size WB wr/\C<=wr.heap.size)/\Hid (M8 WB.heap.size C (.slice (some ⟨gl,0,none⟩) 2 cl) (.slice (some ⟨gu,0,none⟩) 2 cu) (Value.slice xa n xc) (Value.slice ya n yc) (Value.slice ua q uc) (Value.slice va q vc) (.slice ta N tc) fv A D U1 U2 os ys (zs.map (λz=>z.1)) fs wr)/\Hid (Ful os ys i/\(ys.take i).map (λz=>z.1)=fs))
       case atStart=>exact ⟨0,_,os,[],rfl,rfl,rfl,Nat.zero_le _,HCC,HM8,⟨Ful.start os,rfl⟩⟩
       case round =>
        clear HM8 HCC;obtain ⟨i,fv,ys,fs,rfl,rfl,hgi,hiN,HB,HM8,HFU⟩:=hrel;generalize hw9:wr=W2 at *;clear hw9;by_cases hil:i<N
        ·as_aux_lemma =>
          have hii:(i:Int)<(N:Int):=by omega
          have hiz0:(0:Int)<=(i:Int):=by omega
          have hwi:IntKind.i64.wrap ((i:Int)+1)=(i:Int)+1:=by rw [IntKind.wrap_i64];have:=HNZ.out;omega
          have hw1000:IntKind.i64.wrap (1000+(i:Int))=1000+(i:Int):=by rw [IntKind.wrap_i64];have:=HNZ.out;omega
          obtain ⟨gt,e⟩:=HTA.out (by omega);subst e;obtain ⟨za,zm,zc,ho,hzm,hz1⟩:=HOQ.out i hil;have HO1:Hid (∃ h:i<os.length,os[i]=(Value.slice za zm zc,zm,List.replicate zm (Value.int .i64 (1000+(i:Int))))):=ho;have ht0:W2.cell? ⟨gt,i,none⟩=some (.slice za zm zc):=by
           obtain ⟨h,e⟩:=hz1;have:=M8.tos HM8.out (N:=N) rfl h;rw [e] at this;exact this
          have HYI:Hid (i<ys.length/\zm<=1000000):=⟨by rw [HFU.out.1.1,HOL.out.1];exact hil,hzm⟩
          have HM9:Hid (M8 WB.heap.size C (.slice (some ⟨gl,0,none⟩) 2 cl) (.slice (some ⟨gu,0,none⟩) 2 cu) (Value.slice xa n xc) (Value.slice ya n yc) (Value.slice ua q uc) (Value.slice va q vc) (.slice (some ⟨gt,0,none⟩) N tc) fv A D U1 U2 os (ys.set i (Value.slice za zm zc,zm+0,List.replicate (zm+0) (Value.int .i64 (1000+(i:Int))))) (zs.map (λz=>z.1)) fs W2):=by
           obtain ⟨h,e⟩:=ho;have h2:=(HFU.out.1.2 i HYI.out.1 h).2 (Nat.le_refl _);rw [e] at h2;show M8 _ _ _ _ _ _ _ _ _ _ _ _ _ _ _ _ _ _ _
           rw [Nat.add_zero,<-h2,List.set_getElem_self];exact HM8.out
          clear HM8 ho hzm hz1;go_upto_region 41 with fail
          clear ht0;go_loopg [20,21] 40 (λgk u20 u21 wr=>∃ (k:Nat) (gv:Value),gv=u20/\u21=.int .i64 (k:Int)/\gk=40 - k/\k<=40/\Hid (Below WB.heap.size WB wr/\C<=wr.heap.size)/\Hid (M8 WB.heap.size C (.slice (some ⟨gl,0,none⟩) 2 cl) (.slice (some ⟨gu,0,none⟩) 2 cu) (Value.slice xa n xc) (Value.slice ya n yc) (Value.slice ua q uc) (Value.slice va q vc) (.slice (some ⟨gt,0,none⟩) N tc) fv A D U1 U2 os (ys.set i (gv,zm+k,List.replicate (zm+k) (Value.int .i64 (1000+(i:Int))))) (zs.map (λz=>z.1)) fs wr))
          case atStart=>exact ⟨0,_,rfl,rfl,rfl,Nat.zero_le _,HB,HM9⟩
          case round =>
           clear HB HM9;obtain ⟨k,gv,rfl,rfl,hgk,hk40,HB,HM9⟩:=hrel;generalize hw9:wr=W3 at *;clear hw9;by_cases hkl:k<40
           ·have hki2:(k:Int)<40:=by omega
            have hwk2:IntKind.i64.wrap ((k:Int)+1)=(k:Int)+1:=by rw [IntKind.wrap_i64];omega
            have bA:=zAL (Below.refl _ W3) (.cells #[Value.int .i64 (1000+(i:Int))] 3);have HMA:=HM9.out.below bA;have HMA':Hid (M8 WB.heap.size C (.slice (some ⟨gl,0,none⟩) 2 cl) (.slice (some ⟨gu,0,none⟩) 2 cu) (Value.slice xa n xc) (Value.slice ya n yc) (Value.slice ua q uc) (Value.slice va q vc) (.slice (some ⟨gt,0,none⟩) N tc) fv A D U1 U2 os (ys.set i (gv,zm+k,List.replicate (zm+k) (Value.int .i64 (1000+(i:Int))))) (zs.map (λz=>z.1)) fs (W3.alloc (.cells #[Value.int .i64 (1000+(i:Int))] 3))):=HMA;have oG:=M8.row HMA HYI.out.1;obtain ⟨mk,hmk⟩:∃ m,zm+k=m:=⟨_,rfl⟩
            obtain ⟨rl,hrl⟩:∃ l,List.replicate mk (Value.int .i64 (1000+(i:Int)))=l:=⟨_,rfl⟩
            have HMK:Hid (zm+k=mk/\List.replicate mk (Value.int .i64 (1000+(i:Int)))=rl):=⟨hmk,hrl⟩
            rw [hmk,hrl] at oG;have HOG:Hid ((W3.alloc (.cells #[Value.int .i64 (1000+(i:Int))] 3)).ownsRow WB.heap.size 3 1 gv mk rl):=oG;have aG:=AtL.new0 W3 3 [Value.int .i64 (1000+(i:Int))];have HBA:Hid (Below WB.heap.size WB (W3.alloc (.cells #[Value.int .i64 (1000+(i:Int))] 3))/\C<=(W3.alloc (.cells #[Value.int .i64 (1000+(i:Int))] 3)).heap.size):=⟨zAB HB.out.1 bA,Nat.le_trans HB.out.2 bA.size⟩
            have sG:WB.heap.size<=(W3.alloc (.cells #[Value.int .i64 (1000+(i:Int))] 3)).heap.size:=HBA.out.1.size;have nG:True->mk+1<=4000000:=λ_=>by have:=HYI.out.2;omega
            clear bA HMA hmk hrl HB HM9;go_upto_region 42 with (refine zBU zQf zFC rfl (by decide) (by decide) rfl (.tmp 176) (.tmp 179) rfl (W3.alloc (.cells #[Value.int .i64 (1000+(i:Int))] 3)) WB.heap.size sG gv mk rl rfl oG W3.heap.size [Value.int .i64 (1000+(i:Int))] rfl rfl aG (zNA _) (nG trivial) ?_;intro gv2 w6 oG6 hg6 hz6 hk6)
            have HM10:Hid (M8 WB.heap.size C (.slice (some ⟨gl,0,none⟩) 2 cl) (.slice (some ⟨gu,0,none⟩) 2 cu) (Value.slice xa n xc) (Value.slice ya n yc) (Value.slice ua q uc) (Value.slice va q vc) (.slice (some ⟨gt,0,none⟩) N tc) fv A D U1 U2 os (ys.set i (gv2,zm+(k+1),List.replicate (zm+(k+1)) (Value.int .i64 (1000+(i:Int))))) (zs.map (λz=>z.1)) fs w6):=by
             rw [<-HMK.out.2,<-HMK.out.1] at oG6;rw [<-HMK.out.1] at hk6;exact M8.grow1 HMA'.out HYI.out.1 oG6 hg6 hz6 hk6
            have HB10:Hid (Below WB.heap.size WB w6/\C<=w6.heap.size):=⟨HBA.out.1.grown hg6 HBA.out.1.size (λk e=>(zAI HOG.out e).1),Nat.le_trans HBA.out.2 hg6.size⟩
            clear HMA' oG HMK HOG aG HBA sG nG oG6 hg6 hz6 hk6;go_wp2_with fail
            go_roundg (40 - (k+1))
            case rel=>exact ⟨k+1,gv2,rfl,by simp,rfl,by omega,HB10,HM10⟩
            case measure=>omega
           ·have hki2:¬ (k:Int)<40:=by omega
            have hke:40=k:=by omega
            subst hke;obtain ⟨ga,gc,e,_⟩:=zA9 (M8.row HM9.out HYI.out.1);obtain ⟨mk,hmk⟩:∃ m,zm+40=m:=⟨_,rfl⟩
            have HMK:Hid (zm+40=mk):=hmk;rw [hmk] at e;subst e;have bA:=zAL (Below.refl _ W3) (.cells #[Value.slice ga mk gc] 46);have HMA:=HM9.out.below bA;have HMA':Hid (M8 WB.heap.size C (.slice (some ⟨gl,0,none⟩) 2 cl) (.slice (some ⟨gu,0,none⟩) 2 cu) (Value.slice xa n xc) (Value.slice ya n yc) (Value.slice ua q uc) (Value.slice va q vc) (.slice (some ⟨gt,0,none⟩) N tc) fv A D U1 U2 os (ys.set i (Value.slice ga mk gc,zm+40,List.replicate (zm+40) (Value.int .i64 (1000+(i:Int))))) (zs.map (λz=>z.1)) fs (W3.alloc (.cells #[Value.slice ga mk gc] 46))):=HMA;have oF:=M8.f HMA;have HOF:Hid ((W3.alloc (.cells #[Value.slice ga mk gc] 46)).ownsRow C 46 1 fv fs.length fs):=oF;have aF:=AtL.new0 W3 46 [Value.slice ga mk gc];have HBA:Hid (Below WB.heap.size WB (W3.alloc (.cells #[Value.slice ga mk gc] 46))/\C<=(W3.alloc (.cells #[Value.slice ga mk gc] 46)).heap.size):=⟨zAB HB.out.1 bA,Nat.le_trans HB.out.2 bA.size⟩
            have sF:C<=(W3.alloc (.cells #[Value.slice ga mk gc] 46)).heap.size:=HBA.out.2;have nF:True->fs.length+1<=4000000:=λ_=>by
             rw [<-HFU.out.2,List.length_map,List.length_take];have:=HNZ.out;omega
            clear bA HMA hmk HB HM9;go_upto_region 38 with (refine zBp zQJ zFe rfl (.tmp 181) (.tmp 183) rfl (W3.alloc (.cells #[Value.slice ga mk gc] 46)) C sF fv fs rfl oF W3.heap.size (Value.slice ga mk gc) rfl aF rfl (nF trivial) ?_;intro fv2 w6 oF6 hgF)
            have HM11:Hid (M8 WB.heap.size C (.slice (some ⟨gl,0,none⟩) 2 cl) (.slice (some ⟨gu,0,none⟩) 2 cu) (Value.slice xa n xc) (Value.slice ya n yc) (Value.slice ua q uc) (Value.slice va q vc) (.slice (some ⟨gt,0,none⟩) N tc) fv2 A D U1 U2 os (ys.set i (Value.slice ga mk gc,zm+40,List.replicate (zm+40) (Value.int .i64 (1000+(i:Int))))) (zs.map (λz=>z.1)) (fs++[Value.slice ga mk gc]) w6):=M8.growF HMA'.out hgF oF6;have HFU2:Hid (Ful os (ys.set i (Value.slice ga mk gc,zm+40,List.replicate (zm+40) (Value.int .i64 (1000+(i:Int))))) (i+1)/\((ys.set i (Value.slice ga mk gc,zm+40,List.replicate (zm+40) (Value.int .i64 (1000+(i:Int))))).take (i+1)).map (λz=>z.1)=fs++[Value.slice ga mk gc]):=by
             obtain ⟨h,e⟩:=HO1.out;have h2:=HFU.out.1.next h (Value.slice ga mk gc);rw [e] at h2;refine ⟨h2,?_⟩;rw [Ful.fst HYI.out.1,HFU.out.2]
            have HB11:Hid (Below WB.heap.size WB w6/\C<=w6.heap.size):=⟨HBA.out.1.grown hgF HBA.out.1.size (λk e=>Nat.le_trans HOL.out.2 (zAI HOF.out e).1),Nat.le_trans HBA.out.2 hgF.size⟩
            clear HMA' oF HMK HOF aF HBA sF nF oF6 hgF;go_wp2_with fail
            go_roundg (N - (i+1))
            case rel=>exact ⟨i+1,fv2,_,_,rfl,by simp,rfl,hil,HB11,HM11,HFU2⟩
            case measure=>omega
        ·have hii:¬ (i:Int)<(N:Int):=by omega
         have hie:N=i:=by omega
         subst hie;have HLX:Hid ((A.length=n/\D.length=n)/\U1.length=q/\U2.length=q):=by
          have h:=HAD.out;have h2:=HZS.out;have h3:=HNQ.out;exact ⟨⟨by rw [<-h.1.1,zB9 0 n P (by omega)];omega,by rw [<-h.1.2,zB9 1 n P' (by omega)];omega⟩,by rw [<-h.2.1,zBq 0 q (usA L) (by omega)];omega,by rw [<-h.2.2,zBq 1 q (usA L) (by omega)];omega⟩
         have HFL2:Hid (ys.length=N/\fs.length=N):=by
          have h1:ys.length=N:=by rw [HFU.out.1.1,HOL.out.1]
          exact ⟨h1,by rw [<-HFU.out.2,List.length_map,List.length_take,h1,Nat.min_self]⟩
         obtain ⟨fa,fc,e,_,hfr⟩:=zA9 (M8.f HM8.out);rw [HFL2.out.2] at e;have HFA:Hid (0<N->∃ g,fa=some ⟨g,0,none⟩):=λh=>by
          obtain ⟨g,e,_⟩:=hfr (by rw [HFL2.out.2];exact h);exact ⟨g,e⟩
         subst e;obtain ⟨R,hR⟩:∃ R,rdR (.slice (some ⟨gl,0,none⟩) 2 cl) (.slice (some ⟨gu,0,none⟩) 2 cu) (Value.slice xa n xc) (Value.slice ya n yc) (Value.slice ua q uc) (Value.slice va q vc) (.slice ta N tc) (.slice fa N fc) os ys (zs.map (λz=>z.1)) fs=R:=⟨_,rfl⟩
         have HRR:Hid (rdR (.slice (some ⟨gl,0,none⟩) 2 cl) (.slice (some ⟨gu,0,none⟩) 2 cu) (Value.slice xa n xc) (Value.slice ya n yc) (Value.slice ua q uc) (Value.slice va q vc) (.slice ta N tc) (.slice fa N fc) os ys (zs.map (λz=>z.1)) fs=R):=hR;have h9:=M8.m9 HM8.out;rw [hR] at h9;have HM9:Hid (M9 WB.heap.size R (xR (Value.slice xa n xc) (Value.slice ya n yc) A D) [((Value.slice xa n xc),n+0,zAN (A++List.replicate 0 (mkm (-1)))),((Value.slice ya n yc),n,zAN D)] (aR (Value.slice ua q uc) (Value.slice va q vc) U1 U2) [((Value.slice ua q uc),q+0,zAQ (U1++List.replicate 0 (arm (-1)))),((Value.slice va q vc),q,zAQ U2)] W2):=by
          have e1:xR (Value.slice xa n xc) (Value.slice ya n yc) A D=[((Value.slice xa n xc),n+0,zAN (A++List.replicate 0 (mkm (-1)))),((Value.slice ya n yc),n,zAN D)]:=by
           simp [xR,HLX.out.1.1,HLX.out.1.2]
          have e2:aR (Value.slice ua q uc) (Value.slice va q vc) U1 U2=[((Value.slice ua q uc),q+0,zAQ (U1++List.replicate 0 (arm (-1)))),((Value.slice va q vc),q,zAQ U2)]:=by
           simp [aR,HLX.out.2.1,HLX.out.2.2]
          show M9 _ _ _ _ _ _ _
          rw [<-e1,<-e2];exact h9
         obtain ⟨l0,l1⟩:=zRi (M8.l HM8.out);obtain ⟨v0,v1⟩:=zRi (M8.s HM8.out);have HB9:Hid (Below WB.heap.size WB W2):=HB.out.1;clear h9 hR hfr HM8 HB;go_upto_region 45 with fail
         go_quiet (fail)
         have HBq:Hid (Below W2.heap.size W2 (W2.drewN nq)):=zAq (Below.refl _ _) nq;have HM9b:=HM9.out.below HBq.out;have HM9:Hid (M9 WB.heap.size R (xR (Value.slice xa n xc) (Value.slice ya n yc) A D) [((Value.slice xa n xc),n+0,zAN (A++List.replicate 0 (mkm (-1)))),((Value.slice ya n yc),n,zAN D)] (aR (Value.slice ua q uc) (Value.slice va q vc) U1 U2) [((Value.slice ua q uc),q+0,zAQ (U1++List.replicate 0 (arm (-1)))),((Value.slice va q vc),q,zAQ U2)] (W2.drewN nq)):=HM9b;replace HB9:=zAB HB9.out HBq.out
         replace l0:=zAC HBq.out l0
         replace l1:=zAC HBq.out l1
         replace v0:=zAC HBq.out v0
         replace v1:=zAC HBq.out v1
         clear HM9b HBq;generalize W2.drewN nq=W3 at *;go_upto_region 46 with fail
         go_quiet (fail)
         have HBq:Hid (Below W3.heap.size W3 (W3.drewN nq)):=zAq (Below.refl _ _) nq;have HM9b:=HM9.out.below HBq.out;have HM9:Hid (M9 WB.heap.size R (xR (Value.slice xa n xc) (Value.slice ya n yc) A D) [((Value.slice xa n xc),n+0,zAN (A++List.replicate 0 (mkm (-1)))),((Value.slice ya n yc),n,zAN D)] (aR (Value.slice ua q uc) (Value.slice va q vc) U1 U2) [((Value.slice ua q uc),q+0,zAQ (U1++List.replicate 0 (arm (-1)))),((Value.slice va q vc),q,zAQ U2)] (W3.drewN nq)):=HM9b;have HB10:Hid (Below WB.heap.size WB (W3.drewN nq)):=zAB HB9 HBq.out;clear HM9b HBq l0 l1 v0 v1 HB9;generalize W3.drewN nq=W4 at *;go_upto_region 48 with fail
         go_loopg [22,24,26] 40 (λgk u22 u24 u26 wr=>∃ (i:Nat) (av cv:Value),av=u22/\cv=u24/\u26=.int .i64 (i:Int)/\gk=40 - i/\i<=40/\Hid (Below WB.heap.size WB wr)/\Hid (M9 WB.heap.size R (xR (Value.slice xa n xc) (Value.slice ya n yc) A D) [(av,n+i,zAN (A++List.replicate i (mkm (-1)))),((Value.slice ya n yc),n,zAN D)] (aR (Value.slice ua q uc) (Value.slice va q vc) U1 U2) [(cv,q+i,zAQ (U1++List.replicate i (arm (-1)))),((Value.slice va q vc),q,zAQ U2)] wr))
         case atStart=>exact ⟨0,_,_,rfl,rfl,rfl,rfl,Nat.zero_le _,HB10,HM9⟩
         case round =>
          clear HB10 HM9;obtain ⟨i,av,cv,rfl,rfl,rfl,hgi,hi40,HB,HM⟩:=hrel;generalize hw9:wr=W5 at *;clear hw9;by_cases hil:i<40
          ·as_aux_lemma =>
            have hii:(i:Int)<40:=by omega
            have hwi:IntKind.i64.wrap ((i:Int)+1)=(i:Int)+1:=by rw [IntKind.wrap_i64];omega
            have bA:=zAL (Below.refl _ W5) (.cells (zAD (mkm (-1)).1 (.slice none 0 0)).toArray 48);have HMA:=HM.out.below bA;have HMA':Hid (M9 WB.heap.size R (xR (Value.slice xa n xc) (Value.slice ya n yc) A D) [(av,n+i,zAN (A++List.replicate i (mkm (-1)))),((Value.slice ya n yc),n,zAN D)] (aR (Value.slice ua q uc) (Value.slice va q vc) U1 U2) [(cv,q+i,zAQ (U1++List.replicate i (arm (-1)))),((Value.slice va q vc),q,zAQ U2)] (W5.alloc (.cells (zAD (mkm (-1)).1 (.slice none 0 0)).toArray 48))):=HMA;have oX0:=HMA.x.z.1 0 (by simp);obtain ⟨mx,hmx⟩:∃ m,n+i=m:=⟨_,rfl⟩
            obtain ⟨fx,hfx⟩:∃ l,zAN (A++List.replicate i (mkm (-1)))=l:=⟨_,rfl⟩
            have HMX:Hid (n+i=mx/\zAN (A++List.replicate i (mkm (-1)))=fx):=⟨hmx,hfx⟩
            have oX:(W5.alloc (.cells (zAD (mkm (-1)).1 (.slice none 0 0)).toArray 48)).ownsRow WB.heap.size 48 23 av mx fx:=by rw [<-hmx,<-hfx];exact oX0
            have HOX:Hid ((W5.alloc (.cells (zAD (mkm (-1)).1 (.slice none 0 0)).toArray 48)).ownsRow WB.heap.size 48 23 av mx fx):=oX;have aX:=AtL.new0 W5 48 (zAD (mkm (-1)).1 (.slice none 0 0));have HBA:Hid (Below WB.heap.size WB (W5.alloc (.cells (zAD (mkm (-1)).1 (.slice none 0 0)).toArray 48))):=zAB HB.out bA;have sX:WB.heap.size<=(W5.alloc (.cells (zAD (mkm (-1)).1 (.slice none 0 0)).toArray 48)).heap.size:=HBA.out.size;have nX:True->mx+1<=4000000:=λ_=>by have:=HN2.out;omega
            clear bA HMA oX0 hmx hfx HB HM;go_upto_region 50 with fail
            refine wp_region_lit ?_;refine zD1 (av) (Or.inl ⟨by rfl,by go_simp⟩) ?_;try simp only [Act.put,lA,lZ,lS]
            refine zCY rfl (-1) rfl ?_;try simp only [Act.put,lA,lZ,lS]
            refine zBE rfl (.tmp 202) rfl (mkm (-1)).1 none 0 0 rfl ?_;try simp only [Act.put,lA,lZ,lS]
            refine zBU zPp zD2 rfl (by decide) (by decide) rfl (.tmp 201) (.tmp 203) rfl (W5.alloc (.cells (zAD (mkm (-1)).1 (.slice none 0 0)).toArray 48)) WB.heap.size sX av mx fx rfl oX W5.heap.size (zAD (mkm (-1)).1 (.slice none 0 0)) rfl rfl aX (zG6 _ _ _ _) (nX trivial) ?_;intro av2 w6 oX6 hg6 hz6 hk6;try simp only [Act.put,lA,lZ,lS]
            have HM6:Hid (M9 WB.heap.size R (xR (Value.slice xa n xc) (Value.slice ya n yc) A D) [(av2,n+(i+1),zAN (A++List.replicate (i+1) (mkm (-1)))),((Value.slice ya n yc),n,zAN D)] (aR (Value.slice ua q uc) (Value.slice va q vc) U1 U2) [(cv,q+i,zAQ (U1++List.replicate i (arm (-1)))),((Value.slice va q vc),q,zAQ U2)] w6):=by
             rw [<-HMX.out.2,<-HMX.out.1] at oX6;rw [<-HMX.out.1] at hk6;exact M9.x0 HMA'.out oX6 hg6 hz6 hk6
            have HB6:Hid (Below WB.heap.size WB w6):=HBA.out.grown hg6 HBA.out.size (λk e=>(zAI HOX.out e).1);clear HMA' oX HMX HOX aX HBA sX nX oX6 hg6 hz6 hk6;have bA:=zAL (Below.refl _ w6) (.cells (zA7 (arm (-1))).toArray 45);have HMA:=HM6.out.below bA;have HMA':Hid (M9 WB.heap.size R (xR (Value.slice xa n xc) (Value.slice ya n yc) A D) [(av2,n+(i+1),zAN (A++List.replicate (i+1) (mkm (-1)))),((Value.slice ya n yc),n,zAN D)] (aR (Value.slice ua q uc) (Value.slice va q vc) U1 U2) [(cv,q+i,zAQ (U1++List.replicate i (arm (-1)))),((Value.slice va q vc),q,zAQ U2)] (w6.alloc (.cells (zA7 (arm (-1))).toArray 45))):=HMA;have oX0:=HMA.a.z.1 0 (by simp);obtain ⟨mx,hmx⟩:∃ m,q+i=m:=⟨_,rfl⟩
            obtain ⟨fx,hfx⟩:∃ l,zAQ (U1++List.replicate i (arm (-1)))=l:=⟨_,rfl⟩
            have HMX:Hid (q+i=mx/\zAQ (U1++List.replicate i (arm (-1)))=fx):=⟨hmx,hfx⟩
            have oX:(w6.alloc (.cells (zA7 (arm (-1))).toArray 45)).ownsRow WB.heap.size 45 5 cv mx fx:=by rw [<-hmx,<-hfx];exact oX0
            have HOX:Hid ((w6.alloc (.cells (zA7 (arm (-1))).toArray 45)).ownsRow WB.heap.size 45 5 cv mx fx):=oX;have aX:=AtL.new0 w6 45 (zA7 (arm (-1)));have HBA:Hid (Below WB.heap.size WB (w6.alloc (.cells (zA7 (arm (-1))).toArray 45))):=zAB HB6.out bA;have sX:WB.heap.size<=(w6.alloc (.cells (zA7 (arm (-1))).toArray 45)).heap.size:=HBA.out.size;have nX:True->mx+1<=4000000:=λ_=>by have:=HN2.out;omega
            clear bA HMA oX0 hmx hfx HB6 HM6;go_upto_region 51 with fail
            refine wp_region_lit ?_;refine zD1 (cv) (Or.inl ⟨by rfl,by go_simp⟩) ?_;try simp only [Act.put,lA,lZ,lS]
            refine zCW rfl (-1) rfl ?_;try simp only [Act.put,lA,lZ,lS]
            refine zCr rfl (.tmp 206) rfl (arm (-1)) rfl ?_;try simp only [Act.put,lA,lZ,lS]
            refine zBU zPZ zCh rfl (by decide) (by decide) rfl (.tmp 205) (.tmp 207) rfl (w6.alloc (.cells (zA7 (arm (-1))).toArray 45)) WB.heap.size sX cv mx fx rfl oX w6.heap.size (zA7 (arm (-1))) rfl rfl aX (zNF _) (nX trivial) ?_;intro cv2 w7 oX6 hg6 hz6 hk6;try simp only [Act.put,lA,lZ,lS]
            have HM7:Hid (M9 WB.heap.size R (xR (Value.slice xa n xc) (Value.slice ya n yc) A D) [(av2,n+(i+1),zAN (A++List.replicate (i+1) (mkm (-1)))),((Value.slice ya n yc),n,zAN D)] (aR (Value.slice ua q uc) (Value.slice va q vc) U1 U2) [(cv2,q+(i+1),zAQ (U1++List.replicate (i+1) (arm (-1)))),((Value.slice va q vc),q,zAQ U2)] w7):=by
             rw [<-HMX.out.2,<-HMX.out.1] at oX6;rw [<-HMX.out.1] at hk6;exact M9.a0 HMA'.out oX6 hg6 hz6 hk6
            have HB7:Hid (Below WB.heap.size WB w7):=HBA.out.grown hg6 HBA.out.size (λk e=>(zAI HOX.out e).1);clear HMA' oX HMX HOX aX HBA sX nX oX6 hg6 hz6 hk6;go_wp2_with fail
            go_roundg (40 - (i+1))
            case rel=>exact ⟨i+1,av2,cv2,rfl,rfl,by simp,rfl,by omega,HB7,HM7⟩
            case measure=>omega
          ·have hii:¬ (i:Int)<40:=by omega
           have hie:40=i:=by omega
           subst hie;have HM9:Hid (M9 WB.heap.size R (xR (Value.slice xa n xc) (Value.slice ya n yc) A D) [(av,n+40,zAN (A++List.replicate 40 (mkm (-1)))),((Value.slice ya n yc),n+0,zAN (D++List.replicate 0 (mkm (-2))))] (aR (Value.slice ua q uc) (Value.slice va q vc) U1 U2) [(cv,q+40,zAQ (U1++List.replicate 40 (arm (-1)))),((Value.slice va q vc),q+0,zAQ (U2++List.replicate 0 (arm (-2))))] W5):=by
            have h9:=HM.out;show M9 _ _ _ _ _ _ _
            simpa using h9
           have HB10:Hid (Below WB.heap.size WB W5):=HB;clear HM HB;generalize hw9:W5=W6 at *;clear hw9;generalize ha9:av=a9 at *;clear ha9;generalize hc9:cv=c9 at *;clear hc9;go_upto_region 53 with fail
           go_loopg [23,25,27] 40 (λgk u23 u25 u27 wr=>∃ (i:Nat) (av cv:Value),av=u23/\cv=u25/\u27=.int .i64 (i:Int)/\gk=40 - i/\i<=40/\Hid (Below WB.heap.size WB wr)/\Hid (M9 WB.heap.size R (xR (Value.slice xa n xc) (Value.slice ya n yc) A D) [(a9,n+40,zAN (A++List.replicate 40 (mkm (-1)))),(av,n+i,zAN (D++List.replicate i (mkm (-2))))] (aR (Value.slice ua q uc) (Value.slice va q vc) U1 U2) [(c9,q+40,zAQ (U1++List.replicate 40 (arm (-1)))),(cv,q+i,zAQ (U2++List.replicate i (arm (-2))))] wr))
           case atStart=>exact ⟨0,_,_,rfl,rfl,rfl,rfl,Nat.zero_le _,HB10,HM9⟩
           case round =>
            clear HB10 HM9;obtain ⟨i,av,cv,rfl,rfl,rfl,hgi,hi40,HB,HM⟩:=hrel;generalize hw9:wr=W5 at *;clear hw9;by_cases hil:i<40
            ·as_aux_lemma =>
              have hii:(i:Int)<40:=by omega
              have hwi:IntKind.i64.wrap ((i:Int)+1)=(i:Int)+1:=by rw [IntKind.wrap_i64];omega
              have bA:=zAL (Below.refl _ W5) (.cells (zAD (mkm (-2)).1 (.slice none 0 0)).toArray 48);have HMA:=HM.out.below bA;have HMA':Hid (M9 WB.heap.size R (xR (Value.slice xa n xc) (Value.slice ya n yc) A D) [(a9,n+40,zAN (A++List.replicate 40 (mkm (-1)))),(av,n+i,zAN (D++List.replicate i (mkm (-2))))] (aR (Value.slice ua q uc) (Value.slice va q vc) U1 U2) [(c9,q+40,zAQ (U1++List.replicate 40 (arm (-1)))),(cv,q+i,zAQ (U2++List.replicate i (arm (-2))))] (W5.alloc (.cells (zAD (mkm (-2)).1 (.slice none 0 0)).toArray 48))):=HMA;have oX0:=HMA.x.z.1 1 (by simp);obtain ⟨mx,hmx⟩:∃ m,n+i=m:=⟨_,rfl⟩
              obtain ⟨fx,hfx⟩:∃ l,zAN (D++List.replicate i (mkm (-2)))=l:=⟨_,rfl⟩
              have HMX:Hid (n+i=mx/\zAN (D++List.replicate i (mkm (-2)))=fx):=⟨hmx,hfx⟩
              have oX:(W5.alloc (.cells (zAD (mkm (-2)).1 (.slice none 0 0)).toArray 48)).ownsRow WB.heap.size 48 23 av mx fx:=by rw [<-hmx,<-hfx];exact oX0
              have HOX:Hid ((W5.alloc (.cells (zAD (mkm (-2)).1 (.slice none 0 0)).toArray 48)).ownsRow WB.heap.size 48 23 av mx fx):=oX;have aX:=AtL.new0 W5 48 (zAD (mkm (-2)).1 (.slice none 0 0));have HBA:Hid (Below WB.heap.size WB (W5.alloc (.cells (zAD (mkm (-2)).1 (.slice none 0 0)).toArray 48))):=zAB HB.out bA;have sX:WB.heap.size<=(W5.alloc (.cells (zAD (mkm (-2)).1 (.slice none 0 0)).toArray 48)).heap.size:=HBA.out.size;have nX:True->mx+1<=4000000:=λ_=>by have:=HN2.out;omega
              clear bA HMA oX0 hmx hfx HB HM;go_upto_region 55 with fail
              refine wp_region_lit ?_;refine zD1 (av) (Or.inl ⟨by rfl,by go_simp⟩) ?_;try simp only [Act.put,lA,lZ,lS]
              refine zCY rfl (-2) rfl ?_;try simp only [Act.put,lA,lZ,lS]
              refine zBE rfl (.tmp 214) rfl (mkm (-2)).1 none 0 0 rfl ?_;try simp only [Act.put,lA,lZ,lS]
              refine zBU zPp zD2 rfl (by decide) (by decide) rfl (.tmp 213) (.tmp 215) rfl (W5.alloc (.cells (zAD (mkm (-2)).1 (.slice none 0 0)).toArray 48)) WB.heap.size sX av mx fx rfl oX W5.heap.size (zAD (mkm (-2)).1 (.slice none 0 0)) rfl rfl aX (zG6 _ _ _ _) (nX trivial) ?_;intro av2 w6 oX6 hg6 hz6 hk6;try simp only [Act.put,lA,lZ,lS]
              have HM6:Hid (M9 WB.heap.size R (xR (Value.slice xa n xc) (Value.slice ya n yc) A D) [(a9,n+40,zAN (A++List.replicate 40 (mkm (-1)))),(av2,n+(i+1),zAN (D++List.replicate (i+1) (mkm (-2))))] (aR (Value.slice ua q uc) (Value.slice va q vc) U1 U2) [(c9,q+40,zAQ (U1++List.replicate 40 (arm (-1)))),(cv,q+i,zAQ (U2++List.replicate i (arm (-2))))] w6):=by
               rw [<-HMX.out.2,<-HMX.out.1] at oX6;rw [<-HMX.out.1] at hk6;exact M9.x1 HMA'.out oX6 hg6 hz6 hk6
              have HB6:Hid (Below WB.heap.size WB w6):=HBA.out.grown hg6 HBA.out.size (λk e=>(zAI HOX.out e).1);clear HMA' oX HMX HOX aX HBA sX nX oX6 hg6 hz6 hk6;have bA:=zAL (Below.refl _ w6) (.cells (zA7 (arm (-2))).toArray 45);have HMA:=HM6.out.below bA;have HMA':Hid (M9 WB.heap.size R (xR (Value.slice xa n xc) (Value.slice ya n yc) A D) [(a9,n+40,zAN (A++List.replicate 40 (mkm (-1)))),(av2,n+(i+1),zAN (D++List.replicate (i+1) (mkm (-2))))] (aR (Value.slice ua q uc) (Value.slice va q vc) U1 U2) [(c9,q+40,zAQ (U1++List.replicate 40 (arm (-1)))),(cv,q+i,zAQ (U2++List.replicate i (arm (-2))))] (w6.alloc (.cells (zA7 (arm (-2))).toArray 45))):=HMA;have oX0:=HMA.a.z.1 1 (by simp);obtain ⟨mx,hmx⟩:∃ m,q+i=m:=⟨_,rfl⟩
              obtain ⟨fx,hfx⟩:∃ l,zAQ (U2++List.replicate i (arm (-2)))=l:=⟨_,rfl⟩
              have HMX:Hid (q+i=mx/\zAQ (U2++List.replicate i (arm (-2)))=fx):=⟨hmx,hfx⟩
              have oX:(w6.alloc (.cells (zA7 (arm (-2))).toArray 45)).ownsRow WB.heap.size 45 5 cv mx fx:=by rw [<-hmx,<-hfx];exact oX0
              have HOX:Hid ((w6.alloc (.cells (zA7 (arm (-2))).toArray 45)).ownsRow WB.heap.size 45 5 cv mx fx):=oX;have aX:=AtL.new0 w6 45 (zA7 (arm (-2)));have HBA:Hid (Below WB.heap.size WB (w6.alloc (.cells (zA7 (arm (-2))).toArray 45))):=zAB HB6.out bA;have sX:WB.heap.size<=(w6.alloc (.cells (zA7 (arm (-2))).toArray 45)).heap.size:=HBA.out.size;have nX:True->mx+1<=4000000:=λ_=>by have:=HN2.out;omega
              clear bA HMA oX0 hmx hfx HB6 HM6;go_upto_region 56 with fail
              refine wp_region_lit ?_;refine zD1 (cv) (Or.inl ⟨by rfl,by go_simp⟩) ?_;try simp only [Act.put,lA,lZ,lS]
              refine zCW rfl (-2) rfl ?_;try simp only [Act.put,lA,lZ,lS]
              refine zCr rfl (.tmp 218) rfl (arm (-2)) rfl ?_;try simp only [Act.put,lA,lZ,lS]
              refine zBU zPZ zCh rfl (by decide) (by decide) rfl (.tmp 217) (.tmp 219) rfl (w6.alloc (.cells (zA7 (arm (-2))).toArray 45)) WB.heap.size sX cv mx fx rfl oX w6.heap.size (zA7 (arm (-2))) rfl rfl aX (zNF _) (nX trivial) ?_;intro cv2 w7 oX6 hg6 hz6 hk6;try simp only [Act.put,lA,lZ,lS]
              have HM7:Hid (M9 WB.heap.size R (xR (Value.slice xa n xc) (Value.slice ya n yc) A D) [(a9,n+40,zAN (A++List.replicate 40 (mkm (-1)))),(av2,n+(i+1),zAN (D++List.replicate (i+1) (mkm (-2))))] (aR (Value.slice ua q uc) (Value.slice va q vc) U1 U2) [(c9,q+40,zAQ (U1++List.replicate 40 (arm (-1)))),(cv2,q+(i+1),zAQ (U2++List.replicate (i+1) (arm (-2))))] w7):=by
               rw [<-HMX.out.2,<-HMX.out.1] at oX6;rw [<-HMX.out.1] at hk6;exact M9.a1 HMA'.out oX6 hg6 hz6 hk6
              have HB7:Hid (Below WB.heap.size WB w7):=HBA.out.grown hg6 HBA.out.size (λk e=>(zAI HOX.out e).1);clear HMA' oX HMX HOX aX HBA sX nX oX6 hg6 hz6 hk6;go_wp2_with fail
              go_roundg (40 - (i+1))
              case rel=>exact ⟨i+1,av2,cv2,rfl,rfl,by simp,rfl,by omega,HB7,HM7⟩
              case measure=>omega
            ·have hii:¬ (i:Int)<40:=by omega
             have hie:40=i:=by omega
             subst hie;have H3:=HM.out;obtain ⟨MX,hMX⟩:∃ m,n+40=m:=⟨_,rfl⟩
             obtain ⟨MA,hMA⟩:∃ m,q+40=m:=⟨_,rfl⟩
             rw [hMX,hMA] at H3;obtain ⟨⟨l0,l1⟩,v0,v1⟩:=zO9 H3.r HRR.out;obtain ⟨ga,ca,gb,cb,ea,eb,hq1,hq2⟩:=H3.codes hMX HAD.out.1.1 HAD.out.1.2 HZS.out.2.1 HZS.out.2.2;obtain ⟨gc,cc,gd,cd,ec,ed,hq3,hq4⟩:=H3.areas hMA HAD.out.2.1 HAD.out.2.2 HNQ.out.2;have HQ1:Hid _:=hq1;have HQ2:Hid _:=hq2;have HQ3:Hid _:=hq3;have HQ4:Hid _:=hq4;have HRD:Hid (Rds W5 R):=H3.r;have HMM:Hid (n+40=MX/\q+40=MA):=⟨hMX,hMA⟩
             subst ea eb ec ed;clear hq1 hq2 hq3 hq4 H3 HM hMX hMA;generalize hw9:W5=W7 at *;clear hw9;go_upto_region 58 with fail
             go_loopg [28] MX (λgk u28 wr=>∃ (i:Nat),u28=.int .i64 (i:Int)/\gk=MX - i/\i<=MX/\W7=wr)
             case atStart=>exact ⟨0,rfl,rfl,Nat.zero_le _,rfl⟩
             case round =>
              obtain ⟨i,rfl,hgi,hiM,rfl⟩:=hrel;by_cases hil:i<MX
              ·have hii:(i:Int)<(MX:Int):=by omega
               have hiz0:(0:Int)<=(i:Int):=by omega
               have hwi:IntKind.i64.wrap ((i:Int)+1)=(i:Int)+1:=by rw [IntKind.wrap_i64];have:=HMM.out;have:=HN2.out;omega
               by_cases hin:i<n
               ·as_aux_lemma =>
                 have hlt:(i:Int)<(n:Int):=by omega
                 have hdl:decide ((i:Int)<(n:Int))=true:=by simp;omega
                 have hge:¬ (n:Int)<=(i:Int):=by omega
                 have hdg:decide ((n:Int)<=(i:Int))=false:=by simp;omega
                 obtain ⟨gx,gy,⟨e1,e2⟩,x0,x1,y0,a0,b0⟩:=HQ1.out i hin;subst e1 e2;clear HQ1 HQ2 HQ3 HQ4 HRD HRR HAD HZS HNQ HLL HFU HOQ HOL HFA HTA HZO HNZ;go_wp2_with fail
                 go_roundg (MX - (i+1))
                 case rel=>exact ⟨i+1,by simp,rfl,hil,rfl⟩
                 case measure=>omega
               ·as_aux_lemma =>
                 have hlt:¬ (i:Int)<(n:Int):=by omega
                 have hdl:decide ((i:Int)<(n:Int))=false:=by simp;omega
                 have hge:(n:Int)<=(i:Int):=by omega
                 have hdg:decide ((n:Int)<=(i:Int))=true:=by simp;omega
                 obtain ⟨a0,b0⟩:=HQ2.out i (by omega) hil;clear HQ1 HQ2 HQ3 HQ4 HRD HRR HAD HZS HNQ HLL HFU HOQ HOL HFA HTA HZO HNZ;go_wp2_with fail
                 go_roundg (MX - (i+1))
                 case rel=>exact ⟨i+1,by simp,rfl,hil,rfl⟩
                 case measure=>omega
              ·have hii:¬ (i:Int)<(MX:Int):=by omega
               clear hgi hiM hil;go_upto_region 64 with fail
               go_loopg [30] MA (λgk u30 wr=>∃ (i:Nat),u30=.int .i64 (i:Int)/\gk=MA - i/\i<=MA/\W7=wr)
               case atStart=>exact ⟨0,rfl,rfl,Nat.zero_le _,rfl⟩
               case round =>
                obtain ⟨i,rfl,hgi,hiM,rfl⟩:=hrel;by_cases hil:i<MA
                ·have hii:(i:Int)<(MA:Int):=by omega
                 have hiz0:(0:Int)<=(i:Int):=by omega
                 have hwi:IntKind.i64.wrap ((i:Int)+1)=(i:Int)+1:=by rw [IntKind.wrap_i64];have:=HMM.out;have:=HN2.out;omega
                 by_cases hin:i<q
                 ·as_aux_lemma =>
                   have hlt:(i:Int)<(q:Int):=by omega
                   have hdl:decide ((i:Int)<(q:Int))=true:=by simp;omega
                   have hge:¬ (q:Int)<=(i:Int):=by omega
                   have hdg:decide ((q:Int)<=(i:Int))=false:=by simp;omega
                   obtain ⟨gx,gy,⟨e1,e2⟩,x0,y0,a0,b0⟩:=HQ3.out i hin;subst e1 e2;clear HQ1 HQ2 HQ3 HQ4 HRD HRR HAD HZS HNQ HLL HFU HOQ HOL HFA HTA HZO HNZ;go_wp2_with fail
                   go_roundg (MA - (i+1))
                   case rel=>exact ⟨i+1,by simp,rfl,hil,rfl⟩
                   case measure=>omega
                 ·as_aux_lemma =>
                   have hlt:¬ (i:Int)<(q:Int):=by omega
                   have hdl:decide ((i:Int)<(q:Int))=false:=by simp;omega
                   have hge:(q:Int)<=(i:Int):=by omega
                   have hdg:decide ((q:Int)<=(i:Int))=true:=by simp;omega
                   obtain ⟨a0,b0⟩:=HQ4.out i (by omega) hil;clear HQ1 HQ2 HQ3 HQ4 HRD HRR HAD HZS HNQ HLL HFU HOQ HOL HFA HTA HZO HNZ;go_wp2_with fail
                   go_roundg (MA - (i+1))
                   case rel=>exact ⟨i+1,by simp,rfl,hil,rfl⟩
                   case measure=>omega
                ·have hii:¬ (i:Int)<(MA:Int):=by omega
                 clear hgi hiM hil;go_upto_region 70 with fail
                 clear l0 l1 v0 v1;go_loopg [32] N (λgk u32 wr=>∃ (i:Nat),u32=.int .i64 (i:Int)/\gk=N - i/\i<=N/\W7=wr)
                 case atStart=>exact ⟨0,rfl,rfl,Nat.zero_le _,rfl⟩
                 case round =>
                  obtain ⟨i,rfl,hgi,hiM,rfl⟩:=hrel;by_cases hil:i<N
                  ·as_aux_lemma =>
                    have hii:(i:Int)<(N:Int):=by omega
                    have hiz0:(0:Int)<=(i:Int):=by omega
                    have hwi:IntKind.i64.wrap ((i:Int)+1)=(i:Int)+1:=by rw [IntKind.wrap_i64];have:=HNZ.out;omega
                    have hw1000:IntKind.i64.wrap (1000+(i:Int))=1000+(i:Int):=by rw [IntKind.wrap_i64];have:=HNZ.out;omega
                    obtain ⟨gt,e1⟩:=HTA.out (by omega);obtain ⟨gf,e2⟩:=HFA.out (by omega);subst e1 e2;obtain ⟨za,zm,zc,ho,hzm,hz1⟩:=HOQ.out i hil;obtain ⟨ct,⟨gz,fz,cf,hzf⟩,hzt⟩:=zO3 HRD.out HRR.out rfl rfl ho hz1 HFU.out hil;obtain ⟨mz,hmz⟩:∃ m,zm+40=m:=⟨_,rfl⟩
                    rw [hmz] at cf hzf;have HZF:Hid (∀ k,k<mz->W7.cell? ⟨gz,k,none⟩=some (.int .i64 (1000+(i:Int)))):=hzf;have HZT:Hid (∀ k,k<zm->∃ g,za=some ⟨g,0,none⟩/\W7.cell? ⟨g,k,none⟩=some (.int .i64 (1000+(i:Int)))):=hzt;have HZM:Hid (zm+40=mz/\zm<=1000000):=⟨hmz,hzm⟩
                    clear ho hz1 hzf hzt hmz hzm HQ1 HQ2 HQ3 HQ4 HRD HRR HAD HZS HNQ HLL HFU HOQ HOL HFA HTA HZO;go_upto_region 73 with fail
                    go_loopg [33] mz (λgk u33 wr=>∃ (k:Nat),u33=.int .i64 (k:Int)/\gk=mz - k/\k<=mz/\W7=wr)
                    case atStart=>exact ⟨0,rfl,rfl,Nat.zero_le _,rfl⟩
                    case round =>
                     obtain ⟨k,rfl,hgk,hkM,rfl⟩:=hrel;by_cases hkl:k<mz
                     ·have hki:(k:Int)<(mz:Int):=by omega
                      have hkz0:(0:Int)<=(k:Int):=by omega
                      have hwk:IntKind.i64.wrap ((k:Int)+1)=(k:Int)+1:=by rw [IntKind.wrap_i64];have:=HZM.out;omega
                      have cz:=HZF.out k hkl;by_cases hkm:k<zm
                      ·have hlt:(k:Int)<(zm:Int):=by omega
                       have hdl:decide ((k:Int)<(zm:Int))=true:=by simp;omega
                       obtain ⟨g,e1,cy⟩:=HZT.out k hkm;subst e1;clear HZF HZT;go_wp2_with fail
                       go_roundg (mz - (k+1))
                       case rel=>exact ⟨k+1,by simp,rfl,hkl,rfl⟩
                       case measure=>omega
                      ·have hlt:¬ (k:Int)<(zm:Int):=by omega
                       have hdl:decide ((k:Int)<(zm:Int))=false:=by simp;omega
                       clear HZF HZT;go_wp2_with fail
                       go_roundg (mz - (k+1))
                       case rel=>exact ⟨k+1,by simp,rfl,hkl,rfl⟩
                       case measure=>omega
                     ·have hki:¬ (k:Int)<(mz:Int):=by omega
                      go_wp2_with fail
                      go_roundg (N - (i+1))
                      case rel=>exact ⟨i+1,by simp,rfl,hil,rfl⟩
                      case measure=>omega
                  ·have hii:¬ (i:Int)<(N:Int):=by omega
                   go_wp2_with fail
                   go_ret;exact ⟨rfl,zAB HB2.out HB.out⟩
