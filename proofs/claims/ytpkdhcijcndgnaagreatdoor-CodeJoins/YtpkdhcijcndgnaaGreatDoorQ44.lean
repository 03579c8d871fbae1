/- KLawJn. -/
import Derived.Test.YtpkdhcijcndgnaaGreatDoorQ43
set_option maxHeartbeats 40000000
set_option maxRecDepth 100000
namespace Go.Proofs.YtpkdhcijcndgnaaGreatDoor
open Tryz
abbrev zQz:Oper:=⟨some 47,.buildSlice 22 0 #[],22,"outright.go:53",#[],none⟩
abbrev zNn:Oper:=⟨some 51,.buildSlice 25 0 #[],25,"outright.go:53",#[],none⟩
abbrev zP4:Oper:=⟨some 49,.call {callee:=Callee.builtin Builtin.append,args:=#[.tmp 47,.tmp 48],argTypes:=#[22,22]},22,"outright.go:53",#[⟨0,.data⟩,⟨1,.data⟩],none⟩
abbrev zPj:Oper:=⟨some 53,.call {callee:=Callee.builtin Builtin.append,args:=#[.tmp 51,.tmp 52],argTypes:=#[25,25]},25,"outright.go:53",#[⟨4,.data⟩,⟨5,.data⟩,⟨2,.chain⟩],none⟩
abbrev zO9:Oper:=⟨some 54,.call {callee:=Callee.value (Operand.func 11),args:=#[.tmp 49,.tmp 50,.tmp 53],argTypes:=#[22,24,25]},32,"outright.go:53",#[⟨2,.data⟩,⟨3,.data⟩,⟨6,.data⟩,⟨6,.chain⟩],none⟩
abbrev zPU:Oper:=⟨some 46,.move (.tmp 54),32,"outright.go:53",#[⟨7,.data⟩],none⟩
abbrev zOb:Oper:=⟨some 55,.extract (.tmp 46) 0,30,"outright.go:53",#[⟨8,.data⟩],none⟩
abbrev zOn:Oper:=⟨some 56,.extract (.tmp 46) 1,31,"outright.go:53",#[⟨8,.data⟩,⟨11,.gcOnly .lateStores⟩],none⟩
abbrev zO5:Oper:=⟨some 11,.assign (.tmp 55),30,"outright.go:53",#[⟨9,.data⟩,⟨7,.chain⟩,⟨0,.phase⟩,⟨1,.phase⟩,⟨2,.phase⟩,⟨3,.phase⟩,⟨4,.phase⟩,⟨5,.phase⟩,⟨6,.phase⟩,⟨7,.phase⟩,⟨8,.phase⟩,⟨9,.phase⟩,⟨10,.textOnly .lateStores⟩],none⟩
abbrev zNz:Oper:=⟨some 12,.assign (.tmp 56),31,"outright.go:53",#[⟨10,.data⟩,⟨11,.chain⟩,⟨0,.phase⟩,⟨1,.phase⟩,⟨2,.phase⟩,⟨3,.phase⟩,⟨4,.phase⟩,⟨5,.phase⟩,⟨6,.phase⟩,⟨7,.phase⟩,⟨8,.phase⟩,⟨9,.phase⟩,⟨10,.phase⟩,⟨11,.phase⟩],none⟩
abbrev zNJ:Oper:=⟨some 58,.buildSlice 22 0 #[],22,"outright.go:54",#[],none⟩
abbrev zIm:Oper:=⟨some 62,.buildSlice 25 0 #[],25,"outright.go:54",#[],none⟩
abbrev zKA:Oper:=⟨some 60,.call {callee:=Callee.builtin Builtin.append,args:=#[.tmp 58,.tmp 59],argTypes:=#[22,22]},22,"outright.go:54",#[⟨0,.data⟩,⟨1,.data⟩],none⟩
abbrev zHy:Oper:=⟨some 64,.call {callee:=Callee.builtin Builtin.append,args:=#[.tmp 62,.tmp 63],argTypes:=#[25,25]},25,"outright.go:54",#[⟨4,.data⟩,⟨5,.data⟩,⟨2,.chain⟩],none⟩
abbrev zIr:Oper:=⟨some 65,.call {callee:=Callee.value (Operand.func 11),args:=#[.tmp 60,.tmp 61,.tmp 64],argTypes:=#[22,24,25]},32,"outright.go:54",#[⟨2,.data⟩,⟨3,.data⟩,⟨6,.data⟩,⟨6,.chain⟩],none⟩
abbrev zKU:Oper:=⟨some 57,.move (.tmp 65),32,"outright.go:54",#[⟨7,.data⟩],none⟩
abbrev zIX:Oper:=⟨some 66,.extract (.tmp 57) 0,30,"outright.go:54",#[⟨8,.data⟩],none⟩
abbrev zI0:Oper:=⟨some 67,.extract (.tmp 57) 1,31,"outright.go:54",#[⟨8,.data⟩,⟨11,.gcOnly .lateStores⟩],none⟩
abbrev zJ3:Oper:=⟨some 13,.assign (.tmp 66),30,"outright.go:54",#[⟨9,.data⟩,⟨7,.chain⟩,⟨0,.phase⟩,⟨1,.phase⟩,⟨2,.phase⟩,⟨3,.phase⟩,⟨4,.phase⟩,⟨5,.phase⟩,⟨6,.phase⟩,⟨7,.phase⟩,⟨8,.phase⟩,⟨9,.phase⟩,⟨10,.textOnly .lateStores⟩],none⟩
abbrev zIS:Oper:=⟨some 14,.assign (.tmp 67),31,"outright.go:54",#[⟨10,.data⟩,⟨11,.chain⟩,⟨0,.phase⟩,⟨1,.phase⟩,⟨2,.phase⟩,⟨3,.phase⟩,⟨4,.phase⟩,⟨5,.phase⟩,⟨6,.phase⟩,⟨7,.phase⟩,⟨8,.phase⟩,⟨9,.phase⟩,⟨10,.phase⟩,⟨11,.phase⟩],none⟩
open Go.RowKit Wf
set_option linter.unusedVariables false
theorem zPu (l l2:List Wt.Nd) (nm:List ByteArray) (av:Option Addr) (m cap:Nat) (av2:Option Addr) (m2 cap2:Nat) (av3:Option Addr) (m3 cap3:Nat) (own r c which:Int) (w:World) (hm:m=l.length) (hm2:m2=l2.length) (hm3:m3=nm.length) (hl:True->l.length<=1000000000000) (hl2:True->l2.length<=1000000000000) (hl3:True->nm.length<=9223372036854775807) (hF:∀ x ∈ l,Wt.FitN x) (hF2:∀ x ∈ l2,Wt.FitN x) (hr:RdN w av l) (hr2:RdN w av2 l2) (hr3:RdS w av3 nm) (hno:av=none->m=0/\cap=0) (hno2:av2=none->m2=0/\cap2=0) (hno3:av3=none->m3=0/\cap3=0) (how:-9223372036854775808<=own/\own<=9223372036854775807) (hN:NmAt w) (hO:OpsAt w) :
  CR 5 #[.slice av m cap,.slice av2 m2 cap2,.agg #[.int .i64 own,.int .i64 r,.int .i64 c],.slice av3 m3 cap3,.int .i64 which] w (.bool true):=by
 have hb0:=zAJ (Below.refl _ w) (.cells #[.int .i64 own,.int .i64 r,.int .i64 c] 24);have pC:=AtL.new0 w 24 [.int .i64 own,.int .i64 r,.int .i64 c];have AB:=zMu _ (hN.below hb0) (hO.below hb0);have HNA:Hid (∀ W:World,Below w.heap.size w W->Calls prog 10 #[.slice av3 m3 cap3] W (NaP m3 W)):=λW hb=>zJH nm av3 m3 cap3 W hm3 (hl3 trivial) (hr3.below hb)
 have hwl:IntKind.i64.wrap ((m:Int)+(m2:Int))=(m:Int)+(m2:Int):=by have:=hl trivial;have:=hl2 trivial;rw [IntKind.wrap_i64];omega
 have HB0:Hid (Below w.heap.size w (w.alloc (.cells #[.int .i64 own,.int .i64 r,.int .i64 c] 24))):=hb0;have HPC:Hid (AtL (w.alloc (.cells #[.int .i64 own,.int .i64 r,.int .i64 c] 24)) w.heap.size [.int .i64 own,.int .i64 r,.int .i64 c]):=pC;have HRN0:Hid (RdN w av l/\RdN w av2 l2):=⟨hr,hr2⟩
 have HRS0:Hid (RdS w av3 nm):=hr3;have HNO:Hid (av=none->m=0/\cap=0):=hno;have HNO2:Hid (av2=none->m2=0/\cap2=0):=hno2;have HNO3:Hid (av3=none->m3=0/\cap3=0):=hno3;have HOW:Hid (-9223372036854775808<=own/\own<=9223372036854775807):=how;have HMM:Hid (m=l.length/\m2=l2.length/\m3=nm.length):=⟨hm,hm2,hm3⟩
 have HNM0:Hid (NmAt w/\OpsAt w):=⟨hN,hO⟩
 have HFF:Hid ((∀ x ∈ l,Wt.FitN x)/\(∀ x ∈ l2,Wt.FitN x)):=⟨hF,hF2⟩
 obtain ⟨ra,j,e1,e2,e3,e4,e5,hj⟩:=zMm which 12 (by omega) (by omega);rw [show ((12:Nat):Int)=12 from rfl] at e1 e3 e4;clear hb0 pC hm hm2 hm3 hl hl2 hl3 hF hF2 hr hr2 hr3 hno hno2 hno3 how hN hO;go_enter func5,ntmps5;go_upto_region 1 with fail
 generalize (w.alloc (.cells #[.int .i64 own,.int .i64 r,.int .i64 c] 24))=W at *;go_wp2_with fail
 refine AB.mono ?_;rintro e w1 ⟨rfl,hb1⟩;have HB1:Hid (Below w.heap.size w w1):=zAB HB0.out hb1;have HPC1:Hid (AtL w1 w.heap.size [.int .i64 own,.int .i64 r,.int .i64 c]):=AtL.below hb1 HPC.out;have NA:=HNA.out w1 HB1.out;clear AB HB0 HPC HNA hb1;by_cases hm20:(20000:Int)<(m:Int)+(m2:Int)
 ·go_wp2;go_ret;exact ⟨rfl,HB1.out⟩
 have HM20:Hid (m+m2<=20000):=by show _<=_;omega
 go_wp2_with fail
 refine NA.mono ?_;rintro e w2 ⟨⟨q,rfl,hq⟩,hb2⟩;have HB2:Hid (Below w.heap.size w w2):=zAB HB1.out hb2;have HPC2:Hid (AtL w2 w.heap.size [.int .i64 own,.int .i64 r,.int .i64 c]):=AtL.below hb2 HPC1.out;have HQ:Hid (q=false->m3<=20000):=hq;clear NA HB1 HPC1 hb2 hq hwl;cases q with
 | true =>
  go_wp2;go_ret;exact ⟨rfl,HB2.out⟩
 | false =>
 have h3:=HQ.out rfl;have hn3:nm.length<=20000:=by have:=HMM.out.2.2;omega
 have hls:l.length+l2.length<=20000:=by have:=HM20.out;have:=HMM.out;omega
 have hJ:∃ E1 C1 E2 C2,FlC l nm E1 C1/\FlC l2 nm E2 C2/\∀ op ∈ opL,E1 own r c=0->E2 own r c=0->Wt.check (opN op::(l++l2))=0->∃ E3 E4 C3 C4,Jn l l2 nm op C1 C2 own r c E3 E4 C3 C4:=by
  by_cases q1:Wt.check l=0
  ·by_cases q2:Wt.check l2=0
   ·obtain ⟨t1,r1,f1⟩:=zEk q1 (l.length+l2.length+1) (by omega);obtain ⟨t2,r2,f2⟩:=zEk q2 (l.length+l2.length+1) (by omega);exact ⟨_,_,_,_,zDy l nm HFF.out.1 hn3 q1 _ t1 r1 f1,zDy l2 nm HFF.out.2 hn3 q2 _ t2 r2 f2,λop ho z1 z2 z3=>zSP ho HFF.out.1 HFF.out.2 hn3 r1 r2 f1 f2 z1 z2 z3⟩
   ·obtain ⟨E,C,h⟩:=zGa l nm (by omega) HFF.out.1 hn3;exact ⟨_,_,_,_,h,zJA l2 nm (by omega) HFF.out.2 q2,λop ho z1 z2 z3=>absurd z2 q2⟩
  ·obtain ⟨E,C,h⟩:=zGa l2 nm (by omega) HFF.out.2 hn3;exact ⟨_,_,_,_,zJA l nm (by omega) HFF.out.1 q1,h,λop ho z1 z2 z3=>absurd z1 q1⟩
 obtain ⟨E1,C1,E2,C2,hFL1,hFL2,hJJ⟩:=hJ;have HFL1:Hid (FlC l nm E1 C1):=hFL1;have HFL2:Hid (FlC l2 nm E2 C2):=hFL2;have HJJ:Hid (∀ op ∈ opL,E1 own r c=0->E2 own r c=0->Wt.check (opN op::(l++l2))=0->∃ E3 E4 C3 C4,Jn l l2 nm op C1 C2 own r c E3 E4 C3 C4):=hJJ;have HM:Hid (m=l.length/\l.length<=20000):=⟨HMM.out.1,by omega⟩
 have HM2:Hid (m2=l2.length/\l2.length<=20000):=⟨HMM.out.2.1,by omega⟩
 have HM3:Hid (m3=nm.length/\nm.length<=20000):=⟨HMM.out.2.2,hn3⟩
 have HRN:Hid (RdN w2 av l):=HRN0.out.1.below HB2.out;have HRS:Hid (RdS w2 av3 nm):=HRS0.out.below HB2.out;have HNM:Hid (NmAt w2/\OpsAt w2):=⟨HNM0.out.1.below HB2.out,HNM0.out.2.below HB2.out⟩
 clear hFL1 hFL2 hJJ h3 HQ HMM HM20 hn3 hls;obtain ⟨c0,c1,c2,_,_,_⟩:=HPC2.out.three;go_upto_region 5 with fail
 clear hm20;generalize w2=W0 at *;go_cut [11,12] (λs7 s8 wx=>∃ fa fm fc,s7=.slice fa fm fc/\s8=.int .i64 (E1 own r c)/\Hid (E1 own r c=0->RdC wx (.slice fa fm fc) (C1 own))/\Hid (Below W0.heap.size W0 wx))
 case first =>
  as_aux_lemma =>
   have hC:Below W0.heap.size W0 W0.drew:=(Below.refl _ _).drew;refine wp_region_held_drew (S:=λW=>W.cell? ⟨w.heap.size,0,none⟩=some (.int .i64 own)/\W.cell? ⟨w.heap.size,1,none⟩=some (.int .i64 r)/\W.cell? ⟨w.heap.size,2,none⟩=some (.int .i64 c)) (by kernel_rfl) ⟨zAC hC c0,zAC hC c1,zAC hC c2⟩ (λhHeld=>?_);generalize W0.drew=WD at *;refine tkQ 1 ⟨some 48,.move (.tmp 0),22,"outright.go:53",#[],none⟩ ?_
   refine tkQ 3 ⟨some 50,.load 24 (.tmp 7),24,"outright.go:53",#[],none⟩ ?_
   refine tkQ 5 ⟨some 52,.move (.tmp 3),25,"outright.go:53",#[],none⟩ ?_
   refine wpAnyH_ready (rs:=[0,4]) (by kernel_rfl) (by simp) ?_;refine AllReadyH.cons (o:=zQz) rfl (λK hK=>?_) (AllReadyH.cons (o:=zNn) rfl (λK hK=>?_) AllReadyH.nil)
   ·have hba:=zAJ (Below.refl _ WD) (.cells #[] 56);have oN:=zA7 (zAj WD 56 20) hC.size;replace hC:=zAB hC hba
    clear hba;go_simp
    refine hkQ hK ⟨zAC hC c0,zAC hC c1,zAC hC c2⟩ (λhHeld=>?_);clear hK K
    obtain ⟨gN,hgN⟩:∃ g,WD.heap.size=g:=⟨_,rfl⟩
    rw [hgN] at oN;simp only [hgN];generalize hgw:(WD.alloc (.cells #[] 56))=wa at *;clear hgw hgN;refine wpAnyH_ready (rs:=[2,4]) (by kernel_rfl) (by simp) ?_;refine AllReadyH.cons (o:=zP4) rfl (λK hK=>?_) (AllReadyH.cons (o:=zNn) rfl (λK hK=>?_) AllReadyH.nil)
    ·refine zD1 (.tmp 47) (.tmp 48) rfl W0.heap.size wa hC.size (.slice (some ⟨gN,0,none⟩) 0 0) rfl oN av l m cap HM.out.1 rfl (HRN.out.below hC) HNO.out (λ_=>Nat.le_trans HM.out.2 (by decide)) ?_;intro vN wb oNN hg1;have fr1:Fr [gN] wa wb:=Fr.of_grown hg1 (λk e=>by cases e;simp);have hgb:W0.heap.size<=gN:=zAb oN;replace hC:=zA6 hC fr1 (λk hk=>by simp at hk;subst hk;exact hgb)
     clear fr1 hg1 oN hgb;refine hkQ hK ⟨zAC hC c0,zAC hC c1,zAC hC c2⟩ (λhHeld=>?_);clear hK K
     refine rdQ 4 zNn (λK hK=>?_);have hba:=zAJ (Below.refl _ wb) (.cells #[] 9);have oS:=zA7 (zAj wb 9 1) hC.size;replace oNN:OwnN _ W0.heap.size vN l:=OwnN.below oNN hba
     replace hC:=zAB hC hba
     clear hba;go_simp
     refine hkQ hK ⟨zAC hC c0,zAC hC c1,zAC hC c2⟩ (λhHeld=>?_);clear hK K
     obtain ⟨gS,hgS⟩:∃ g,wb.heap.size=g:=⟨_,rfl⟩
     rw [hgS] at oS;simp only [hgS];generalize hgw:(wb.alloc (.cells #[] 9))=wc2 at *;clear hgw hgS;refine rdQ 6 zPj (λK hK=>?_);refine zC9 (.tmp 51) (.tmp 52) rfl W0.heap.size wc2 hC.size (.slice (some ⟨gS,0,none⟩) 0 0) rfl oS av3 nm m3 cap3 HM3.out.1 rfl (HRS.out.below hC) HNO3.out (λ_=>HM3.out.2) ?_;intro vS wt oSS hg2;have fr2:Fr [gS] wc2 wt:=Fr.of_grown hg2 (λk e=>by cases e;simp);have hgb:W0.heap.size<=gS:=zAb oS;replace oNN:OwnN wt W0.heap.size vN l:=zAP fr2 oNN (λg e=>by have:=zAf oNN oS (by decide) g e;simp [Value.ownBlock] at this ⊢;exact λq=>this q.symm)
     replace hC:=zA6 hC fr2 (λk hk=>by simp at hk;subst hk;exact hgb)
     clear fr2 hg2 oS hgb;refine hkQ hK ⟨zAC hC c0,zAC hC c1,zAC hC c2⟩ (λhHeld=>?_);clear hK K
     refine rdQ 7 zO9 (λK hK=>?_);have FL:=HFL1.out.run own r c wt _ _ vN vS HOW.out (HNM.out.1.below hC) (HNM.out.2.below hC) oNN oSS;go_simp
     refine FL.mono ?_;clear FL;rintro e wf ⟨⟨fa,fm,fc,rfl,hf1,hf2⟩,hbf⟩;replace hC:=zAB hC hbf
     have HF1:Hid (E1 own r c ≠ 0->fm=0):=hf1;have HF2:Hid (E1 own r c=0->RdC wf (.slice fa fm fc) (C1 own)):=λq=>by
      obtain ⟨P,p1,p2,p3,p4⟩:=hf2 q;exact zB7 p1 p2 p3
     clear hf1 hf2 hbf oNN oSS;go_wp2_with fail
     refine hkQ hK ⟨zAC hC c0,zAC hC c1,zAC hC c2⟩ (λhHeld=>?_);clear hK K
     refine tkQ 8 zPU ?_
     refine tkQ 9 zOb ?_
     refine tkQ 10 zOn ?_
     refine rdQ 11 zO5 (λK hK=>?_);go_simp
     refine hkQ hK ⟨zAC hC c0,zAC hC c1,zAC hC c2⟩ (λhHeld=>?_);clear hK K
     refine rdQ 12 zNz (λK hK=>?_);go_simp
     refine hkQ hK ⟨zAC hC c0,zAC hC c1,zAC hC c2⟩ (λhHeld=>?_);clear hK K
     refine wpAnyH_done (by kernel_rfl) ?_ _;go_wp2_with fail
     go_meet
     case rel=>exact ⟨fa,fm,fc,rfl,rfl,HF2,hC⟩
    ·have hba:=zAJ (Below.refl _ wa) (.cells #[] 9);have oS:=zA7 (zAj wa 9 1) hC.size;replace oN:=zAP (Fr.of_below [] hba) oN (by simp)
     replace hC:=zAB hC hba
     clear hba;go_simp
     refine hkQ hK ⟨zAC hC c0,zAC hC c1,zAC hC c2⟩ (λhHeld=>?_);clear hK K
     obtain ⟨gS,hgS⟩:∃ g,wa.heap.size=g:=⟨_,rfl⟩
     rw [hgS] at oS;simp only [hgS];generalize hgw:(wa.alloc (.cells #[] 9))=wb at *;clear hgw hgS;refine rdQ 2 zP4 (λK hK=>?_);refine zD1 (.tmp 47) (.tmp 48) rfl W0.heap.size wb hC.size (.slice (some ⟨gN,0,none⟩) 0 0) rfl oN av l m cap HM.out.1 rfl (HRN.out.below hC) HNO.out (λ_=>Nat.le_trans HM.out.2 (by decide)) ?_;intro vN wc2 oNN hg1;have fr1:Fr [gN] wb wc2:=Fr.of_grown hg1 (λk e=>by cases e;simp);have hgb:W0.heap.size<=gN:=zAb oN;replace oS:=zAP fr1 oS (λg e=>by have:=zAf oS oN (by decide) g e;simp [Value.ownBlock] at this ⊢;exact λq=>this q.symm)
     replace hC:=zA6 hC fr1 (λk hk=>by simp at hk;subst hk;exact hgb)
     clear fr1 hg1 oN hgb;refine hkQ hK ⟨zAC hC c0,zAC hC c1,zAC hC c2⟩ (λhHeld=>?_);clear hK K
     refine rdQ 6 zPj (λK hK=>?_);refine zC9 (.tmp 51) (.tmp 52) rfl W0.heap.size wc2 hC.size (.slice (some ⟨gS,0,none⟩) 0 0) rfl oS av3 nm m3 cap3 HM3.out.1 rfl (HRS.out.below hC) HNO3.out (λ_=>HM3.out.2) ?_;intro vS wt oSS hg2;have fr2:Fr [gS] wc2 wt:=Fr.of_grown hg2 (λk e=>by cases e;simp);have hgb:W0.heap.size<=gS:=zAb oS;replace oNN:OwnN wt W0.heap.size vN l:=zAP fr2 oNN (λg e=>by have:=zAf oNN oS (by decide) g e;simp [Value.ownBlock] at this ⊢;exact λq=>this q.symm)
     replace hC:=zA6 hC fr2 (λk hk=>by simp at hk;subst hk;exact hgb)
     clear fr2 hg2 oS hgb;refine hkQ hK ⟨zAC hC c0,zAC hC c1,zAC hC c2⟩ (λhHeld=>?_);clear hK K
     refine rdQ 7 zO9 (λK hK=>?_);have FL:=HFL1.out.run own r c wt _ _ vN vS HOW.out (HNM.out.1.below hC) (HNM.out.2.below hC) oNN oSS;go_simp
     refine FL.mono ?_;clear FL;rintro e wf ⟨⟨fa,fm,fc,rfl,hf1,hf2⟩,hbf⟩;replace hC:=zAB hC hbf
     have HF1:Hid (E1 own r c ≠ 0->fm=0):=hf1;have HF2:Hid (E1 own r c=0->RdC wf (.slice fa fm fc) (C1 own)):=λq=>by
      obtain ⟨P,p1,p2,p3,p4⟩:=hf2 q;exact zB7 p1 p2 p3
     clear hf1 hf2 hbf oNN oSS;go_wp2_with fail
     refine hkQ hK ⟨zAC hC c0,zAC hC c1,zAC hC c2⟩ (λhHeld=>?_);clear hK K
     refine tkQ 8 zPU ?_
     refine tkQ 9 zOb ?_
     refine tkQ 10 zOn ?_
     refine rdQ 11 zO5 (λK hK=>?_);go_simp
     refine hkQ hK ⟨zAC hC c0,zAC hC c1,zAC hC c2⟩ (λhHeld=>?_);clear hK K
     refine rdQ 12 zNz (λK hK=>?_);go_simp
     refine hkQ hK ⟨zAC hC c0,zAC hC c1,zAC hC c2⟩ (λhHeld=>?_);clear hK K
     refine wpAnyH_done (by kernel_rfl) ?_ _;go_wp2_with fail
     go_meet
     case rel=>exact ⟨fa,fm,fc,rfl,rfl,HF2,hC⟩
   ·have hba:=zAJ (Below.refl _ WD) (.cells #[] 9);have oS:=zA7 (zAj WD 9 1) hC.size;replace hC:=zAB hC hba
    clear hba;go_simp
    refine hkQ hK ⟨zAC hC c0,zAC hC c1,zAC hC c2⟩ (λhHeld=>?_);clear hK K
    obtain ⟨gS,hgS⟩:∃ g,WD.heap.size=g:=⟨_,rfl⟩
    rw [hgS] at oS;simp only [hgS];generalize hgw:(WD.alloc (.cells #[] 9))=wa at *;clear hgw hgS;refine rdQ 0 zQz (λK hK=>?_);have hba:=zAJ (Below.refl _ wa) (.cells #[] 56);have oN:=zA7 (zAj wa 56 20) hC.size;replace oS:=zAP (Fr.of_below [] hba) oS (by simp)
    replace hC:=zAB hC hba
    clear hba;go_simp
    refine hkQ hK ⟨zAC hC c0,zAC hC c1,zAC hC c2⟩ (λhHeld=>?_);clear hK K
    obtain ⟨gN,hgN⟩:∃ g,wa.heap.size=g:=⟨_,rfl⟩
    rw [hgN] at oN;simp only [hgN];generalize hgw:(wa.alloc (.cells #[] 56))=wb at *;clear hgw hgN;refine rdQ 2 zP4 (λK hK=>?_);refine zD1 (.tmp 47) (.tmp 48) rfl W0.heap.size wb hC.size (.slice (some ⟨gN,0,none⟩) 0 0) rfl oN av l m cap HM.out.1 rfl (HRN.out.below hC) HNO.out (λ_=>Nat.le_trans HM.out.2 (by decide)) ?_;intro vN wc2 oNN hg1;have fr1:Fr [gN] wb wc2:=Fr.of_grown hg1 (λk e=>by cases e;simp);have hgb:W0.heap.size<=gN:=zAb oN;replace oS:=zAP fr1 oS (λg e=>by have:=zAf oS oN (by decide) g e;simp [Value.ownBlock] at this ⊢;exact λq=>this q.symm)
    replace hC:=zA6 hC fr1 (λk hk=>by simp at hk;subst hk;exact hgb)
    clear fr1 hg1 oN hgb;refine hkQ hK ⟨zAC hC c0,zAC hC c1,zAC hC c2⟩ (λhHeld=>?_);clear hK K
    refine rdQ 6 zPj (λK hK=>?_);refine zC9 (.tmp 51) (.tmp 52) rfl W0.heap.size wc2 hC.size (.slice (some ⟨gS,0,none⟩) 0 0) rfl oS av3 nm m3 cap3 HM3.out.1 rfl (HRS.out.below hC) HNO3.out (λ_=>HM3.out.2) ?_;intro vS wt oSS hg2;have fr2:Fr [gS] wc2 wt:=Fr.of_grown hg2 (λk e=>by cases e;simp);have hgb:W0.heap.size<=gS:=zAb oS;replace oNN:OwnN wt W0.heap.size vN l:=zAP fr2 oNN (λg e=>by have:=zAf oNN oS (by decide) g e;simp [Value.ownBlock] at this ⊢;exact λq=>this q.symm)
    replace hC:=zA6 hC fr2 (λk hk=>by simp at hk;subst hk;exact hgb)
    clear fr2 hg2 oS hgb;refine hkQ hK ⟨zAC hC c0,zAC hC c1,zAC hC c2⟩ (λhHeld=>?_);clear hK K
    refine rdQ 7 zO9 (λK hK=>?_);have FL:=HFL1.out.run own r c wt _ _ vN vS HOW.out (HNM.out.1.below hC) (HNM.out.2.below hC) oNN oSS;go_simp
    refine FL.mono ?_;clear FL;rintro e wf ⟨⟨fa,fm,fc,rfl,hf1,hf2⟩,hbf⟩;replace hC:=zAB hC hbf
    have HF1:Hid (E1 own r c ≠ 0->fm=0):=hf1;have HF2:Hid (E1 own r c=0->RdC wf (.slice fa fm fc) (C1 own)):=λq=>by
     obtain ⟨P,p1,p2,p3,p4⟩:=hf2 q;exact zB7 p1 p2 p3
    clear hf1 hf2 hbf oNN oSS;go_wp2_with fail
    refine hkQ hK ⟨zAC hC c0,zAC hC c1,zAC hC c2⟩ (λhHeld=>?_);clear hK K
    refine tkQ 8 zPU ?_
    refine tkQ 9 zOb ?_
    refine tkQ 10 zOn ?_
    refine rdQ 11 zO5 (λK hK=>?_);go_simp
    refine hkQ hK ⟨zAC hC c0,zAC hC c1,zAC hC c2⟩ (λhHeld=>?_);clear hK K
    refine rdQ 12 zNz (λK hK=>?_);go_simp
    refine hkQ hK ⟨zAC hC c0,zAC hC c1,zAC hC c2⟩ (λhHeld=>?_);clear hK K
    refine wpAnyH_done (by kernel_rfl) ?_ _;go_wp2_with fail
    go_meet
    case rel=>exact ⟨fa,fm,fc,rfl,rfl,HF2,hC⟩
 case rest =>
 obtain ⟨fa,fm,fc,rfl,rfl,HFX,HBC⟩:=hcut;generalize hwc:wc=Wa at *;have HBa:Hid (Below w.heap.size w Wa):=zAB HB2.out HBC.out;have HPCa:Hid (AtL Wa w.heap.size [.int .i64 own,.int .i64 r,.int .i64 c]):=AtL.below HBC.out HPC2.out;have HRN2:Hid (RdN Wa av2 l2):=HRN0.out.2.below HBa.out;have HRS':Hid (RdS Wa av3 nm):=HRS0.out.below HBa.out;have HNM':Hid (NmAt Wa/\OpsAt Wa):=⟨HNM0.out.1.below HBa.out,HNM0.out.2.below HBa.out⟩
 clear hwc c0 c1 c2 HRN HRS HNM HBC HPC2 HB2;rename Hid (RdS Wa av3 nm)=>HRS
 rename Hid (NmAt Wa/\OpsAt Wa)=>HNM
 obtain ⟨c0,c1,c2,_,_,_⟩:=HPCa.out.three;go_upto_region 6 with fail
 generalize hW0:Wa=W0 at *;clear hW0;go_cut [13,14] (λs7 s8 wx=>∃ fa fm fc,s7=.slice fa fm fc/\s8=.int .i64 (E2 own r c)/\Hid (E2 own r c=0->RdC wx (.slice fa fm fc) (C2 own))/\Hid (Below W0.heap.size W0 wx))
 case first =>
  as_aux_lemma =>
   have hC:Below W0.heap.size W0 W0.drew:=(Below.refl _ _).drew;refine wp_region_held_drew (S:=λW=>W.cell? ⟨w.heap.size,0,none⟩=some (.int .i64 own)/\W.cell? ⟨w.heap.size,1,none⟩=some (.int .i64 r)/\W.cell? ⟨w.heap.size,2,none⟩=some (.int .i64 c)) (by kernel_rfl) ⟨zAC hC c0,zAC hC c1,zAC hC c2⟩ (λhHeld=>?_);generalize W0.drew=WD at *;refine tkQ 1 ⟨some 59,.move (.tmp 1),22,"outright.go:54",#[],none⟩ ?_
   refine tkQ 3 ⟨some 61,.load 24 (.tmp 7),24,"outright.go:54",#[],none⟩ ?_
   refine tkQ 5 ⟨some 63,.move (.tmp 3),25,"outright.go:54",#[],none⟩ ?_
   refine wpAnyH_ready (rs:=[0,4]) (by kernel_rfl) (by simp) ?_;refine AllReadyH.cons (o:=zNJ) rfl (λK hK=>?_) (AllReadyH.cons (o:=zIm) rfl (λK hK=>?_) AllReadyH.nil)
   ·have hba:=zAJ (Below.refl _ WD) (.cells #[] 56);have oN:=zA7 (zAj WD 56 20) hC.size;replace hC:=zAB hC hba
    clear hba;go_simp
    refine hkQ hK ⟨zAC hC c0,zAC hC c1,zAC hC c2⟩ (λhHeld=>?_);clear hK K
    obtain ⟨gN,hgN⟩:∃ g,WD.heap.size=g:=⟨_,rfl⟩
    rw [hgN] at oN;simp only [hgN];generalize hgw:(WD.alloc (.cells #[] 56))=wa at *;clear hgw hgN;refine wpAnyH_ready (rs:=[2,4]) (by kernel_rfl) (by simp) ?_;refine AllReadyH.cons (o:=zKA) rfl (λK hK=>?_) (AllReadyH.cons (o:=zIm) rfl (λK hK=>?_) AllReadyH.nil)
    ·refine zD1 (.tmp 58) (.tmp 59) rfl W0.heap.size wa hC.size (.slice (some ⟨gN,0,none⟩) 0 0) rfl oN av2 l2 m2 cap2 HM2.out.1 rfl (HRN2.out.below hC) HNO2.out (λ_=>Nat.le_trans HM2.out.2 (by decide)) ?_;intro vN wb oNN hg1;have fr1:Fr [gN] wa wb:=Fr.of_grown hg1 (λk e=>by cases e;simp);have hgb:W0.heap.size<=gN:=zAb oN;replace hC:=zA6 hC fr1 (λk hk=>by simp at hk;subst hk;exact hgb)
     clear fr1 hg1 oN hgb;refine hkQ hK ⟨zAC hC c0,zAC hC c1,zAC hC c2⟩ (λhHeld=>?_);clear hK K
     refine rdQ 4 zIm (λK hK=>?_);have hba:=zAJ (Below.refl _ wb) (.cells #[] 9);have oS:=zA7 (zAj wb 9 1) hC.size;replace oNN:OwnN _ W0.heap.size vN l2:=OwnN.below oNN hba
     replace hC:=zAB hC hba
     clear hba;go_simp
     refine hkQ hK ⟨zAC hC c0,zAC hC c1,zAC hC c2⟩ (λhHeld=>?_);clear hK K
     obtain ⟨gS,hgS⟩:∃ g,wb.heap.size=g:=⟨_,rfl⟩
     rw [hgS] at oS;simp only [hgS];generalize hgw:(wb.alloc (.cells #[] 9))=wc2 at *;clear hgw hgS;refine rdQ 6 zHy (λK hK=>?_);refine zC9 (.tmp 62) (.tmp 63) rfl W0.heap.size wc2 hC.size (.slice (some ⟨gS,0,none⟩) 0 0) rfl oS av3 nm m3 cap3 HM3.out.1 rfl (HRS.out.below hC) HNO3.out (λ_=>HM3.out.2) ?_;intro vS wt oSS hg2;have fr2:Fr [gS] wc2 wt:=Fr.of_grown hg2 (λk e=>by cases e;simp);have hgb:W0.heap.size<=gS:=zAb oS;replace oNN:OwnN wt W0.heap.size vN l2:=zAP fr2 oNN (λg e=>by have:=zAf oNN oS (by decide) g e;simp [Value.ownBlock] at this ⊢;exact λq=>this q.symm)
     replace hC:=zA6 hC fr2 (λk hk=>by simp at hk;subst hk;exact hgb)
     clear fr2 hg2 oS hgb;refine hkQ hK ⟨zAC hC c0,zAC hC c1,zAC hC c2⟩ (λhHeld=>?_);clear hK K
     refine rdQ 7 zIr (λK hK=>?_);have FL:=HFL2.out.run own r c wt _ _ vN vS HOW.out (HNM.out.1.below hC) (HNM.out.2.below hC) oNN oSS;go_simp
     refine FL.mono ?_;clear FL;rintro e wf ⟨⟨fa,fm,fc,rfl,hf1,hf2⟩,hbf⟩;replace hC:=zAB hC hbf
     have HF1:Hid (E2 own r c ≠ 0->fm=0):=hf1;have HF2:Hid (E2 own r c=0->RdC wf (.slice fa fm fc) (C2 own)):=λq=>by
      obtain ⟨P,p1,p2,p3,p4⟩:=hf2 q;exact zB7 p1 p2 p3
     clear hf1 hf2 hbf oNN oSS;go_wp2_with fail
     refine hkQ hK ⟨zAC hC c0,zAC hC c1,zAC hC c2⟩ (λhHeld=>?_);clear hK K
     refine tkQ 8 zKU ?_
     refine tkQ 9 zIX ?_
     refine tkQ 10 zI0 ?_
     refine rdQ 11 zJ3 (λK hK=>?_);go_simp
     refine hkQ hK ⟨zAC hC c0,zAC hC c1,zAC hC c2⟩ (λhHeld=>?_);clear hK K
     refine rdQ 12 zIS (λK hK=>?_);go_simp
     refine hkQ hK ⟨zAC hC c0,zAC hC c1,zAC hC c2⟩ (λhHeld=>?_);clear hK K
     refine wpAnyH_done (by kernel_rfl) ?_ _;go_wp2_with fail
     go_meet
     case rel=>exact ⟨fa,fm,fc,rfl,rfl,HF2,hC⟩
    ·have hba:=zAJ (Below.refl _ wa) (.cells #[] 9);have oS:=zA7 (zAj wa 9 1) hC.size;replace oN:=zAP (Fr.of_below [] hba) oN (by simp)
     replace hC:=zAB hC hba
     clear hba;go_simp
     refine hkQ hK ⟨zAC hC c0,zAC hC c1,zAC hC c2⟩ (λhHeld=>?_);clear hK K
     obtain ⟨gS,hgS⟩:∃ g,wa.heap.size=g:=⟨_,rfl⟩
     rw [hgS] at oS;simp only [hgS];generalize hgw:(wa.alloc (.cells #[] 9))=wb at *;clear hgw hgS;refine rdQ 2 zKA (λK hK=>?_);refine zD1 (.tmp 58) (.tmp 59) rfl W0.heap.size wb hC.size (.slice (some ⟨gN,0,none⟩) 0 0) rfl oN av2 l2 m2 cap2 HM2.out.1 rfl (HRN2.out.below hC) HNO2.out (λ_=>Nat.le_trans HM2.out.2 (by decide)) ?_;intro vN wc2 oNN hg1;have fr1:Fr [gN] wb wc2:=Fr.of_grown hg1 (λk e=>by cases e;simp);have hgb:W0.heap.size<=gN:=zAb oN;replace oS:=zAP fr1 oS (λg e=>by have:=zAf oS oN (by decide) g e;simp [Value.ownBlock] at this ⊢;exact λq=>this q.symm)
     replace hC:=zA6 hC fr1 (λk hk=>by simp at hk;subst hk;exact hgb)
     clear fr1 hg1 oN hgb;refine hkQ hK ⟨zAC hC c0,zAC hC c1,zAC hC c2⟩ (λhHeld=>?_);clear hK K
     refine rdQ 6 zHy (λK hK=>?_);refine zC9 (.tmp 62) (.tmp 63) rfl W0.heap.size wc2 hC.size (.slice (some ⟨gS,0,none⟩) 0 0) rfl oS av3 nm m3 cap3 HM3.out.1 rfl (HRS.out.below hC) HNO3.out (λ_=>HM3.out.2) ?_;intro vS wt oSS hg2;have fr2:Fr [gS] wc2 wt:=Fr.of_grown hg2 (λk e=>by cases e;simp);have hgb:W0.heap.size<=gS:=zAb oS;replace oNN:OwnN wt W0.heap.size vN l2:=zAP fr2 oNN (λg e=>by have:=zAf oNN oS (by decide) g e;simp [Value.ownBlock] at this ⊢;exact λq=>this q.symm)
     replace hC:=zA6 hC fr2 (λk hk=>by simp at hk;subst hk;exact hgb)
     clear fr2 hg2 oS hgb;refine hkQ hK ⟨zAC hC c0,zAC hC c1,zAC hC c2⟩ (λhHeld=>?_);clear hK K
     refine rdQ 7 zIr (λK hK=>?_);have FL:=HFL2.out.run own r c wt _ _ vN vS HOW.out (HNM.out.1.below hC) (HNM.out.2.below hC) oNN oSS;go_simp
     refine FL.mono ?_;clear FL;rintro e wf ⟨⟨fa,fm,fc,rfl,hf1,hf2⟩,hbf⟩;replace hC:=zAB hC hbf
     have HF1:Hid (E2 own r c ≠ 0->fm=0):=hf1;have HF2:Hid (E2 own r c=0->RdC wf (.slice fa fm fc) (C2 own)):=λq=>by
      obtain ⟨P,p1,p2,p3,p4⟩:=hf2 q;exact zB7 p1 p2 p3
     clear hf1 hf2 hbf oNN oSS;go_wp2_with fail
     refine hkQ hK ⟨zAC hC c0,zAC hC c1,zAC hC c2⟩ (λhHeld=>?_);clear hK K
     refine tkQ 8 zKU ?_
     refine tkQ 9 zIX ?_
     refine tkQ 10 zI0 ?_
     refine rdQ 11 zJ3 (λK hK=>?_);go_simp
     refine hkQ hK ⟨zAC hC c0,zAC hC c1,zAC hC c2⟩ (λhHeld=>?_);clear hK K
     refine rdQ 12 zIS (λK hK=>?_);go_simp
     refine hkQ hK ⟨zAC hC c0,zAC hC c1,zAC hC c2⟩ (λhHeld=>?_);clear hK K
     refine wpAnyH_done (by kernel_rfl) ?_ _;go_wp2_with fail
     go_meet
     case rel=>exact ⟨fa,fm,fc,rfl,rfl,HF2,hC⟩
   ·have hba:=zAJ (Below.refl _ WD) (.cells #[] 9);have oS:=zA7 (zAj WD 9 1) hC.size;replace hC:=zAB hC hba
    clear hba;go_simp
    refine hkQ hK ⟨zAC hC c0,zAC hC c1,zAC hC c2⟩ (λhHeld=>?_);clear hK K
    obtain ⟨gS,hgS⟩:∃ g,WD.heap.size=g:=⟨_,rfl⟩
    rw [hgS] at oS;simp only [hgS];generalize hgw:(WD.alloc (.cells #[] 9))=wa at *;clear hgw hgS;refine rdQ 0 zNJ (λK hK=>?_);have hba:=zAJ (Below.refl _ wa) (.cells #[] 56);have oN:=zA7 (zAj wa 56 20) hC.size;replace oS:=zAP (Fr.of_below [] hba) oS (by simp)
    replace hC:=zAB hC hba
    clear hba;go_simp
    refine hkQ hK ⟨zAC hC c0,zAC hC c1,zAC hC c2⟩ (λhHeld=>?_);clear hK K
    obtain ⟨gN,hgN⟩:∃ g,wa.heap.size=g:=⟨_,rfl⟩
    rw [hgN] at oN;simp only [hgN];generalize hgw:(wa.alloc (.cells #[] 56))=wb at *;clear hgw hgN;refine rdQ 2 zKA (λK hK=>?_);refine zD1 (.tmp 58) (.tmp 59) rfl W0.heap.size wb hC.size (.slice (some ⟨gN,0,none⟩) 0 0) rfl oN av2 l2 m2 cap2 HM2.out.1 rfl (HRN2.out.below hC) HNO2.out (λ_=>Nat.le_trans HM2.out.2 (by decide)) ?_;intro vN wc2 oNN hg1;have fr1:Fr [gN] wb wc2:=Fr.of_grown hg1 (λk e=>by cases e;simp);have hgb:W0.heap.size<=gN:=zAb oN;replace oS:=zAP fr1 oS (λg e=>by have:=zAf oS oN (by decide) g e;simp [Value.ownBlock] at this ⊢;exact λq=>this q.symm)
    replace hC:=zA6 hC fr1 (λk hk=>by simp at hk;subst hk;exact hgb)
    clear fr1 hg1 oN hgb;refine hkQ hK ⟨zAC hC c0,zAC hC c1,zAC hC c2⟩ (λhHeld=>?_);clear hK K
    refine rdQ 6 zHy (λK hK=>?_);refine zC9 (.tmp 62) (.tmp 63) rfl W0.heap.size wc2 hC.size (.slice (some ⟨gS,0,none⟩) 0 0) rfl oS av3 nm m3 cap3 HM3.out.1 rfl (HRS.out.below hC) HNO3.out (λ_=>HM3.out.2) ?_;intro vS wt oSS hg2;have fr2:Fr [gS] wc2 wt:=Fr.of_grown hg2 (λk e=>by cases e;simp);have hgb:W0.heap.size<=gS:=zAb oS;replace oNN:OwnN wt W0.heap.size vN l2:=zAP fr2 oNN (λg e=>by have:=zAf oNN oS (by decide) g e;simp [Value.ownBlock] at this ⊢;exact λq=>this q.symm)
    replace hC:=zA6 hC fr2 (λk hk=>by simp at hk;subst hk;exact hgb)
    clear fr2 hg2 oS hgb;refine hkQ hK ⟨zAC hC c0,zAC hC c1,zAC hC c2⟩ (λhHeld=>?_);clear hK K
    refine rdQ 7 zIr (λK hK=>?_);have FL:=HFL2.out.run own r c wt _ _ vN vS HOW.out (HNM.out.1.below hC) (HNM.out.2.below hC) oNN oSS;go_simp
    refine FL.mono ?_;clear FL;rintro e wf ⟨⟨fa,fm,fc,rfl,hf1,hf2⟩,hbf⟩;replace hC:=zAB hC hbf
    have HF1:Hid (E2 own r c ≠ 0->fm=0):=hf1;have HF2:Hid (E2 own r c=0->RdC wf (.slice fa fm fc) (C2 own)):=λq=>by
     obtain ⟨P,p1,p2,p3,p4⟩:=hf2 q;exact zB7 p1 p2 p3
    clear hf1 hf2 hbf oNN oSS;go_wp2_with fail
    refine hkQ hK ⟨zAC hC c0,zAC hC c1,zAC hC c2⟩ (λhHeld=>?_);clear hK K
    refine tkQ 8 zKU ?_
    refine tkQ 9 zIX ?_
    refine tkQ 10 zI0 ?_
    refine rdQ 11 zJ3 (λK hK=>?_);go_simp
    refine hkQ hK ⟨zAC hC c0,zAC hC c1,zAC hC c2⟩ (λhHeld=>?_);clear hK K
    refine rdQ 12 zIS (λK hK=>?_);go_simp
    refine hkQ hK ⟨zAC hC c0,zAC hC c1,zAC hC c2⟩ (λhHeld=>?_);clear hK K
    refine wpAnyH_done (by kernel_rfl) ?_ _;go_wp2_with fail
    go_meet
    case rel=>exact ⟨fa,fm,fc,rfl,rfl,HF2,hC⟩
 case rest =>
 obtain ⟨ga,gm,gc,rfl,rfl,HGX,HBC⟩:=hcut;generalize hwc:wc=Wb at *;have HBb:Hid (Below w.heap.size w Wb):=zAB HBa.out HBC.out;have HPCb:Hid (AtL Wb w.heap.size [.int .i64 own,.int .i64 r,.int .i64 c]):=AtL.below HBC.out HPCa.out;have HFY:Hid (E1 own r c=0->RdC Wb (.slice fa fm fc) (C1 own)):=λq=>(HFX.out q).below HBC.out
 clear hwc c0 c1 c2 HRN2 HRS HNM HBC HPCa HBa HFX;obtain ⟨v1,hv1⟩:∃ v,E1 own r c=v:=⟨_,rfl⟩
 obtain ⟨v2,hv2⟩:∃ v,E2 own r c=v:=⟨_,rfl⟩
 rw [hv1] at HFY;rw [hv2] at HGX;simp only [hv1,hv2];have HV:Hid (E1 own r c=v1/\E2 own r c=v2):=⟨hv1,hv2⟩
 clear hv1 hv2;obtain ⟨op,hop⟩:∃ op,opL[j]'hj=op:=⟨_,rfl⟩
 have HOP:Hid (op ∈ opL):=by rw [<-hop];exact List.getElem_mem hj
 have hat:=AtL.new0 Wb 3 (opL.map (Value.int .i64));have hco:(Wb.alloc (.cells (opL.map (Value.int .i64)).toArray 3)).cell? ⟨Wb.heap.size,j,none⟩=some (.int .i64 op):=hat.2.1 j _ (by rw [List.getElem?_map,List.getElem?_eq_getElem hj,hop];rfl);have hbo:=zAJ (Below.refl _ Wb) (.cells (opL.map (Value.int .i64)).toArray 3);simp only [opL,List.map_cons,List.map_nil] at hco hbo;have HBc:Hid (Below w.heap.size w (Wb.alloc (.cells #[.int .i64 11,.int .i64 12,.int .i64 13,.int .i64 14,.int .i64 15,.int .i64 16,.int .i64 21,.int .i64 22,.int .i64 23,.int .i64 24,.int .i64 25,.int .i64 26] 3))):=zAB HBb.out hbo;have HBo:Hid (Below Wb.heap.size Wb (Wb.alloc (.cells #[.int .i64 11,.int .i64 12,.int .i64 13,.int .i64 14,.int .i64 15,.int .i64 16,.int .i64 21,.int .i64 22,.int .i64 23,.int .i64 24,.int .i64 25,.int .i64 26] 3))):=hbo;have hj0:(0:Int)<=(j:Int):=by omega
 have hj12:(j:Int)<12:=by have h9:opL.length=12:=rfl;omega
 clear hat hbo hop;go_upto_region 9 with fail
 generalize (Wb.alloc (.cells #[.int .i64 11,.int .i64 12,.int .i64 13,.int .i64 14,.int .i64 15,.int .i64 16,.int .i64 21,.int .i64 22,.int .i64 23,.int .i64 24,.int .i64 25,.int .i64 26] 3))=Wd at *;clear hco e1 e2 e3 e4 e5 hj0 hj12 hj;have hLL:l.length+l2.length<=20000+20000:=by have:=HM.out.2;have:=HM2.out.2;omega
 have bA:=zAJ (Below.refl _ Wd) (.cells (zAM (opN op)).toArray 56);have HbA:Hid (Below Wd.heap.size Wd (Wd.alloc (.cells (zAM (opN op)).toArray 56))):=bA;have sA:=bA.size;have oA:=zG9 Wd (opN op);have HOA:Hid (OwnN (Wd.alloc (.cells (zAM (opN op)).toArray 56)) Wd.heap.size (.slice (some ⟨Wd.heap.size,0,none⟩) 1 1) [opN op]):=oA;have rA:=HRN0.out.1.below (zAB HBc.out bA);have nA:True->[opN op].length+l.length<=100000:=λ_=>by simp;omega
 have nB:True->([opN op]++l).length+l2.length<=100000:=λ_=>by simp;omega
 clear bA;go_upto_region 10 with (first | (refine zE6 rfl (.tmp 76) rfl op rfl ?_) | (refine zCK rfl (.tmp 77) rfl (opN op) rfl ?_) | (refine zBw rfl (.tmp 78) (.tmp 79) rfl Wd.heap.size (Wd.alloc (.cells (zAM (opN op)).toArray 56)) sA (.slice (some ⟨Wd.heap.size,0,none⟩) 1 1) [opN op] rfl oA av l m cap HM.out.1 rfl rA HNO.out nA ?_;intro vb1 wb1 ob1 hgb1;have HbB:Hid (Below Wd.heap.size Wd wb1):=HbA.out.grown hgb1 HbA.out.size (λk e=>(zAK HOA.out e).1);have sB:=HbB.out.size;have rB:=HRN0.out.2.below (zAB HBc.out HbB.out)) | (refine zBw rfl (.tmp 80) (.tmp 81) rfl Wd.heap.size wb1 sB vb1 ([opN op]++l) rfl ob1 av2 l2 m2 cap2 HM2.out.1 rfl rB HNO2.out nB ?_;intro vb wb2 ob2 hgb2))
 have HbC:Hid (Below Wd.heap.size Wd wb2):=HbB.out.grown hgb2 HbB.out.size (λk e=>(zAK ob1 e).1);have HOB0:Hid (OwnN wb2 Wd.heap.size vb (opN op::(l++l2))):=ob2;have HBe:Hid (Below w.heap.size w wb2):=zAB HBc.out HbC.out;have HBoe:Hid (Below Wb.heap.size Wb wb2):=zAB HBo.out HbC.out;clear HbA HOA HbB HbC ob1 ob2 hgb1 hgb2 sA sB oA rA rB nA nB HBc HBo;generalize wb2=We at *;have bA:=zAJ (Below.refl _ We) (.cells (zAM suN).toArray 56);have HbA:Hid (Below We.heap.size We (We.alloc (.cells (zAM suN).toArray 56))):=bA;have sA:=bA.size;have oA:=zG9 We suN;have HOA:Hid (OwnN (We.alloc (.cells (zAM suN).toArray 56)) We.heap.size (.slice (some ⟨We.heap.size,0,none⟩) 1 1) [suN]):=oA;have rA:=HRN0.out.1.below (zAB HBe.out bA);have nA:True->[suN].length+l.length<=100000:=λ_=>by simp;omega
 have nB:True->([suN]++l).length+l2.length<=100000:=λ_=>by simp;omega
 clear bA;go_upto_region 11 with (first | (refine zEU rfl rfl ?_) | (refine zCK rfl (.tmp 83) rfl suN rfl ?_) | (refine zBw rfl (.tmp 84) (.tmp 85) rfl We.heap.size (We.alloc (.cells (zAM suN).toArray 56)) sA (.slice (some ⟨We.heap.size,0,none⟩) 1 1) [suN] rfl oA av l m cap HM.out.1 rfl rA HNO.out nA ?_;intro vb1 wb1 ob1 hgb1;have HbB:Hid (Below We.heap.size We wb1):=HbA.out.grown hgb1 HbA.out.size (λk e=>(zAK HOA.out e).1);have sB:=HbB.out.size;have rB:=HRN0.out.2.below (zAB HBe.out HbB.out)) | (refine zBw rfl (.tmp 86) (.tmp 87) rfl We.heap.size wb1 sB vb1 ([suN]++l) rfl ob1 av2 l2 m2 cap2 HM2.out.1 rfl rB HNO2.out nB ?_;intro vs wb2 ob2 hgb2))
 have HbC:Hid (Below We.heap.size We wb2):=HbB.out.grown hgb2 HbB.out.size (λk e=>(zAK ob1 e).1);have HOS0:Hid (OwnN wb2 We.heap.size vs (suN::(l++l2))):=ob2;have HOB1:Hid (OwnN wb2 Wd.heap.size vb (opN op::(l++l2))):=HOB0.out.below HbC.out;have HBf:Hid (Below w.heap.size w wb2):=zAB HBe.out HbC.out;have HBof:Hid (Below Wb.heap.size Wb wb2):=zAB HBoe.out HbC.out;clear HbA HOA HbB HbC ob1 ob2 hgb1 hgb2 sA sB oA rA rB nA nB HBe HBoe HOB0 hLL;generalize wb2=Wf at *;generalize hBD:Wd.heap.size=BD at *;generalize hBE:We.heap.size=BE at *;clear hBD hBE;by_cases q1:v1=0
 ·by_cases q2:v2=0
  ·subst q1;subst q2;obtain ⟨avb,capb,rfl,hcb,hrb,_⟩:=zC7 HOB1.out;obtain ⟨avs,caps,rfl,hcs,hrs,_⟩:=zC7 HOS0.out;have hfit:∀ x ∈ opN op::(l++l2),Wt.FitN x:=zFe (by
    unfold Wt.FitN Wt.FitV opN;exact ⟨(by decide:(-9223372036854775808<=Wt.v0.n/\Wt.v0.n<=9223372036854775807)/\(-9223372036854775808<=Wt.v0.d/\Wt.v0.d<=9223372036854775807)/\Wt.v0.t.size<=9223372036854775807),(by decide:(⟨#[]⟩:ByteArray).size<=9223372036854775807),(by decide:Wt.r0.s.size<=9223372036854775807),(by decide:Wt.r0.s.size<=9223372036854775807)⟩) HFF.out.1 HFF.out.2
   have CK:=zCq avb capb (opN op::(l++l2)) Wf (by simp;have:=HM.out.2;have:=HM2.out.2;omega) hfit (HNM0.out.2.below HBf.out) hrb;have HJ0:Hid (Wt.check (opN op::(l++l2))=0->∃ E3 E4 C3 C4,Jn l l2 nm op C1 C2 own r c E3 E4 C3 C4):=λq=>HJJ.out op HOP.out HV.out.1 HV.out.2 q
   obtain ⟨ck,hck⟩:∃ x,Wt.check (opN op::(l++l2))=x:=⟨_,rfl⟩
   rw [hck] at CK HJ0;obtain ⟨nb,hnb⟩:∃ x,(opN op::(l++l2)).length=x:=⟨_,rfl⟩
   obtain ⟨ns,hns⟩:∃ x,(suN::(l++l2)).length=x:=⟨_,rfl⟩
   rw [hnb] at CK HOB1 ⊢;rw [hns] at HOS0 ⊢;clear hfit hck hcb hrb hcs hrs hnb hns HJJ HFF;go_wp2_with fail
   refine CK.mono ?_;rintro e wg ⟨rfl,hbg⟩;have HBg:Hid (Below w.heap.size w wg):=zAB HBf.out hbg;have HBog:Hid (Below Wb.heap.size Wb wg):=zAB HBof.out hbg;have HOB:Hid (OwnN wg BD (.slice avb nb capb) (opN op::(l++l2))):=HOB1.out.below hbg;have HOS1:Hid (OwnN wg BE (.slice avs ns caps) (suN::(l++l2))):=HOS0.out.below hbg;clear CK hbg HBf HBof HOB1 HOS0;by_cases q3:ck=0
   ·subst q3;obtain ⟨E3,E4,C3,C4,hJ⟩:=HJ0.out rfl;have HJ:Hid (Jn l l2 nm op C1 C2 own r c E3 E4 C3 C4):=hJ;have HPCg:Hid (AtL wg w.heap.size [.int .i64 own,.int .i64 r,.int .i64 c]):=AtL.below HBog.out HPCb.out;have HRS:Hid (RdS wg av3 nm):=HRS0.out.below HBg.out;have HNM:Hid (NmAt wg/\OpsAt wg):=⟨HNM0.out.1.below HBg.out,HNM0.out.2.below HBg.out⟩
    clear hJ HJ0;obtain ⟨c0,c1,c2,_,_,_⟩:=HPCg.out.three;go_upto_region 13 with fail
    generalize hW0:wg=W0 at *;clear hW0;go_cut [19,20] (λs7 s8 wx=>∃ fa fm fc,s7=.slice fa fm fc/\s8=.int .i64 (E3 own r c)/\Hid (E3 own r c=0->RdC wx (.slice fa fm fc) (C3 own))/\Hid (Below W0.heap.size W0 wx))
    case first =>
     as_aux_lemma =>
      have hC:Below W0.heap.size W0 W0.drew:=(Below.refl _ _).drew;refine wp_region_held_drew (S:=λW=>W.cell? ⟨w.heap.size,0,none⟩=some (.int .i64 own)/\W.cell? ⟨w.heap.size,1,none⟩=some (.int .i64 r)/\W.cell? ⟨w.heap.size,2,none⟩=some (.int .i64 c)) (by kernel_rfl) ⟨zAC hC c0,zAC hC c1,zAC hC c2⟩ (λhHeld=>?_);generalize W0.drew=WD at *;refine tkQ 0 ⟨some 101,.move (.tmp 17),22,"outright.go:62",#[],none⟩ ?_
      refine tkQ 1 ⟨some 102,.load 24 (.tmp 7),24,"outright.go:62",#[],none⟩ ?_
      refine tkQ 3 ⟨some 104,.move (.tmp 3),25,"outright.go:62",#[],none⟩ ?_
      refine rdQ 2 ⟨some 103,.buildSlice 25 0 #[],25,"outright.go:62",#[],none⟩ (λK hK=>?_);have hba:=zAJ (Below.refl _ WD) (.cells #[] 9);have oS:=zA7 (zAj WD 9 1) hC.size;replace hC:=zAB hC hba
      clear hba;go_simp
      refine hkQ hK ⟨zAC hC c0,zAC hC c1,zAC hC c2⟩ (λhHeld=>?_);clear hK K
      obtain ⟨gS,hgS⟩:∃ g,WD.heap.size=g:=⟨_,rfl⟩
      rw [hgS] at oS;simp only [hgS];generalize hgw:(WD.alloc (.cells #[] 9))=wa at *;clear hgw hgS;refine rdQ 4 ⟨some 105,.call {callee:=Callee.builtin Builtin.append,args:=#[.tmp 103,.tmp 104],argTypes:=#[25,25]},25,"outright.go:62",#[⟨2,.data⟩,⟨3,.data⟩],none⟩ (λK hK=>?_);refine zC9 (.tmp 103) (.tmp 104) rfl W0.heap.size wa hC.size (.slice (some ⟨gS,0,none⟩) 0 0) rfl oS av3 nm m3 cap3 HM3.out.1 rfl (HRS.out.below hC) HNO3.out (λ_=>HM3.out.2) ?_;intro vS wt oSS hg2;have fr2:Fr [gS] wa wt:=Fr.of_grown hg2 (λk e=>by cases e;simp);have hgb:W0.heap.size<=gS:=zAb oS;replace hC:=zA6 hC fr2 (λk hk=>by simp at hk;subst hk;exact hgb)
      clear fr2 hg2 oS hgb;refine hkQ hK ⟨zAC hC c0,zAC hC c1,zAC hC c2⟩ (λhHeld=>?_);clear hK K
      refine rdQ 5 ⟨some 106,.call {callee:=Callee.value (Operand.func 11),args:=#[.tmp 101,.tmp 102,.tmp 105],argTypes:=#[22,24,25]},32,"outright.go:62",#[⟨0,.data⟩,⟨1,.data⟩,⟨4,.data⟩,⟨4,.chain⟩],none⟩ (λK hK=>?_);have FL:=HJ.out.b.run own r c wt _ _ (.slice avb nb capb) vS HOW.out (HNM.out.1.below hC) (HNM.out.2.below hC) (OwnN.below HOB.out hC) oSS;go_simp
      refine FL.mono ?_;clear FL;rintro e wf ⟨⟨fa',fm',fc',rfl,hf1,hf2⟩,hbf⟩;replace hC:=zAB hC hbf
      have HF2:Hid (E3 own r c=0->RdC wf (.slice fa' fm' fc') (C3 own)):=λq=>by
       obtain ⟨P,p1,p2,p3,p4⟩:=hf2 q;exact zB7 p1 p2 p3
      clear hf1 hf2 hbf oSS;go_wp2_with fail
      refine hkQ hK ⟨zAC hC c0,zAC hC c1,zAC hC c2⟩ (λhHeld=>?_);clear hK K
      refine tkQ 6 ⟨some 100,.move (.tmp 106),32,"outright.go:62",#[⟨5,.data⟩],none⟩ ?_
      refine tkQ 7 ⟨some 107,.extract (.tmp 100) 0,30,"outright.go:62",#[⟨6,.data⟩],none⟩ ?_
      refine tkQ 8 ⟨some 108,.extract (.tmp 100) 1,31,"outright.go:62",#[⟨6,.data⟩,⟨9,.gcOnly .lateStores⟩],none⟩ ?_
      refine rdQ 9 ⟨some 19,.assign (.tmp 107),30,"outright.go:62",#[⟨7,.data⟩,⟨5,.chain⟩,⟨0,.phase⟩,⟨1,.phase⟩,⟨2,.phase⟩,⟨3,.phase⟩,⟨4,.phase⟩,⟨5,.phase⟩,⟨6,.phase⟩,⟨7,.phase⟩,⟨8,.textOnly .lateStores⟩],none⟩ (λK hK=>?_);go_simp
      refine hkQ hK ⟨zAC hC c0,zAC hC c1,zAC hC c2⟩ (λhHeld=>?_);clear hK K
      refine rdQ 10 ⟨some 20,.assign (.tmp 108),31,"outright.go:62",#[⟨8,.data⟩,⟨9,.chain⟩,⟨0,.phase⟩,⟨1,.phase⟩,⟨2,.phase⟩,⟨3,.phase⟩,⟨4,.phase⟩,⟨5,.phase⟩,⟨6,.phase⟩,⟨7,.phase⟩,⟨8,.phase⟩,⟨9,.phase⟩],none⟩ (λK hK=>?_);go_simp
      refine hkQ hK ⟨zAC hC c0,zAC hC c1,zAC hC c2⟩ (λhHeld=>?_);clear hK K
      refine wpAnyH_done (by kernel_rfl) ?_ _;go_wp2_with fail
      go_meet
      case rel=>exact ⟨fa',fm',fc',rfl,rfl,HF2,hC⟩
    case rest =>
    obtain ⟨ha,hm',hc',rfl,rfl,HHX,HBC⟩:=hcut;rw [HJ.out.eb] at HHX;simp only [HJ.out.eb];generalize hwc:wc=Wh at *;have HBh:Hid (Below w.heap.size w Wh):=zAB HBg.out HBC.out;have HBoh:Hid (Below Wb.heap.size Wb Wh):=zAB HBog.out HBC.out;have HPCh:Hid (AtL Wh w.heap.size [.int .i64 own,.int .i64 r,.int .i64 c]):=AtL.below HBC.out HPCg.out;have HOS:Hid (OwnN Wh BE (.slice avs ns caps) (suN::(l++l2))):=HOS1.out.below HBC.out;have HRS':Hid (RdS Wh av3 nm):=HRS0.out.below HBh.out;have HNM':Hid (NmAt Wh/\OpsAt Wh):=⟨HNM0.out.1.below HBh.out,HNM0.out.2.below HBh.out⟩
    clear hwc c0 c1 c2 HRS HNM HBC HPCg HBg HBog HOB HOS1;rename Hid (RdS Wh av3 nm)=>HRS
    rename Hid (NmAt Wh/\OpsAt Wh)=>HNM
    obtain ⟨c0,c1,c2,_,_,_⟩:=HPCh.out.three;go_upto_region 14 with fail
    generalize hW0:Wh=W0 at *;clear hW0;go_cut [21,22] (λs7 s8 wx=>∃ fa fm fc,s7=.slice fa fm fc/\s8=.int .i64 (E4 own r c)/\Hid (E4 own r c=0->RdC wx (.slice fa fm fc) (C4 own))/\Hid (Below W0.heap.size W0 wx))
    case first =>
     as_aux_lemma =>
      have hC:Below W0.heap.size W0 W0.drew:=(Below.refl _ _).drew;refine wp_region_held_drew (S:=λW=>W.cell? ⟨w.heap.size,0,none⟩=some (.int .i64 own)/\W.cell? ⟨w.heap.size,1,none⟩=some (.int .i64 r)/\W.cell? ⟨w.heap.size,2,none⟩=some (.int .i64 c)) (by kernel_rfl) ⟨zAC hC c0,zAC hC c1,zAC hC c2⟩ (λhHeld=>?_);generalize W0.drew=WD at *;refine tkQ 0 ⟨some 110,.move (.tmp 18),22,"outright.go:63",#[],none⟩ ?_
      refine tkQ 1 ⟨some 111,.load 24 (.tmp 7),24,"outright.go:63",#[],none⟩ ?_
      refine tkQ 3 ⟨some 113,.move (.tmp 3),25,"outright.go:63",#[],none⟩ ?_
      refine rdQ 2 ⟨some 112,.buildSlice 25 0 #[],25,"outright.go:63",#[],none⟩ (λK hK=>?_);have hba:=zAJ (Below.refl _ WD) (.cells #[] 9);have oS:=zA7 (zAj WD 9 1) hC.size;replace hC:=zAB hC hba
      clear hba;go_simp
      refine hkQ hK ⟨zAC hC c0,zAC hC c1,zAC hC c2⟩ (λhHeld=>?_);clear hK K
      obtain ⟨gS,hgS⟩:∃ g,WD.heap.size=g:=⟨_,rfl⟩
      rw [hgS] at oS;simp only [hgS];generalize hgw:(WD.alloc (.cells #[] 9))=wa at *;clear hgw hgS;refine rdQ 4 ⟨some 114,.call {callee:=Callee.builtin Builtin.append,args:=#[.tmp 112,.tmp 113],argTypes:=#[25,25]},25,"outright.go:63",#[⟨2,.data⟩,⟨3,.data⟩],none⟩ (λK hK=>?_);refine zC9 (.tmp 112) (.tmp 113) rfl W0.heap.size wa hC.size (.slice (some ⟨gS,0,none⟩) 0 0) rfl oS av3 nm m3 cap3 HM3.out.1 rfl (HRS.out.below hC) HNO3.out (λ_=>HM3.out.2) ?_;intro vS wt oSS hg2;have fr2:Fr [gS] wa wt:=Fr.of_grown hg2 (λk e=>by cases e;simp);have hgb:W0.heap.size<=gS:=zAb oS;replace hC:=zA6 hC fr2 (λk hk=>by simp at hk;subst hk;exact hgb)
      clear fr2 hg2 oS hgb;refine hkQ hK ⟨zAC hC c0,zAC hC c1,zAC hC c2⟩ (λhHeld=>?_);clear hK K
      refine rdQ 5 ⟨some 115,.call {callee:=Callee.value (Operand.func 11),args:=#[.tmp 110,.tmp 111,.tmp 114],argTypes:=#[22,24,25]},32,"outright.go:63",#[⟨0,.data⟩,⟨1,.data⟩,⟨4,.data⟩,⟨4,.chain⟩],none⟩ (λK hK=>?_);have FL:=HJ.out.s.run own r c wt _ _ (.slice avs ns caps) vS HOW.out (HNM.out.1.below hC) (HNM.out.2.below hC) (OwnN.below HOS.out hC) oSS;go_simp
      refine FL.mono ?_;clear FL;rintro e wf ⟨⟨fa',fm',fc',rfl,hf1,hf2⟩,hbf⟩;replace hC:=zAB hC hbf
      have HF2:Hid (E4 own r c=0->RdC wf (.slice fa' fm' fc') (C4 own)):=λq=>by
       obtain ⟨P,p1,p2,p3,p4⟩:=hf2 q;exact zB7 p1 p2 p3
      clear hf1 hf2 hbf oSS;go_wp2_with fail
      refine hkQ hK ⟨zAC hC c0,zAC hC c1,zAC hC c2⟩ (λhHeld=>?_);clear hK K
      refine tkQ 6 ⟨some 109,.move (.tmp 115),32,"outright.go:63",#[⟨5,.data⟩],none⟩ ?_
      refine tkQ 7 ⟨some 116,.extract (.tmp 109) 0,30,"outright.go:63",#[⟨6,.data⟩],none⟩ ?_
      refine tkQ 8 ⟨some 117,.extract (.tmp 109) 1,31,"outright.go:63",#[⟨6,.data⟩,⟨9,.gcOnly .lateStores⟩],none⟩ ?_
      refine rdQ 9 ⟨some 21,.assign (.tmp 116),30,"outright.go:63",#[⟨7,.data⟩,⟨5,.chain⟩,⟨0,.phase⟩,⟨1,.phase⟩,⟨2,.phase⟩,⟨3,.phase⟩,⟨4,.phase⟩,⟨5,.phase⟩,⟨6,.phase⟩,⟨7,.phase⟩,⟨8,.textOnly .lateStores⟩],none⟩ (λK hK=>?_);go_simp
      refine hkQ hK ⟨zAC hC c0,zAC hC c1,zAC hC c2⟩ (λhHeld=>?_);clear hK K
      refine rdQ 10 ⟨some 22,.assign (.tmp 117),31,"outright.go:63",#[⟨8,.data⟩,⟨9,.chain⟩,⟨0,.phase⟩,⟨1,.phase⟩,⟨2,.phase⟩,⟨3,.phase⟩,⟨4,.phase⟩,⟨5,.phase⟩,⟨6,.phase⟩,⟨7,.phase⟩,⟨8,.phase⟩,⟨9,.phase⟩],none⟩ (λK hK=>?_);go_simp
      refine hkQ hK ⟨zAC hC c0,zAC hC c1,zAC hC c2⟩ (λhHeld=>?_);clear hK K
      refine wpAnyH_done (by kernel_rfl) ?_ _;go_wp2_with fail
      go_meet
      case rel=>exact ⟨fa',fm',fc',rfl,rfl,HF2,hC⟩
    case rest =>
    obtain ⟨ka,km,kc,rfl,rfl,HKX,HBC⟩:=hcut;rw [HJ.out.es] at HKX;simp only [HJ.out.es];generalize hwc:wc=W5 at *;have HB5:Hid (Below w.heap.size w W5):=zAB HBh.out HBC.out;have HX5:Hid (RdC W5 (.slice fa fm fc) (C1 own)):=(HFY.out (by first | trivial | rfl)).below (zAB HBoh.out HBC.out);have HY5:Hid (RdC W5 (.slice ga gm gc) (C2 own)):=(HGX.out (by first | trivial | rfl)).below (zAB HBoh.out HBC.out);have HZ5:Hid (RdC W5 (.slice ha hm' hc') (C3 own)):=(HHX.out (by first | trivial | rfl)).below HBC.out;have HW5:Hid (RdC W5 (.slice ka km kc) (C4 own)):=HKX.out (by first | trivial | rfl);have HN5:Hid (NmAt W5):=HNM0.out.1.below HB5.out;clear hwc c0 c1 c2 HRS HNM HBC HPCh HBh HBoh HOS HFY HGX HHX HKX HPCb HBb HNM0 HRS0 HRN0 HNO HNO2 HNO3 HM HM2 HM3 HOW;obtain ⟨ckX,lX⟩:=HFL1.out.right own r c HV.out.1;obtain ⟨ckY,lY⟩:=HFL2.out.right own r c HV.out.2;have hZr:Wc.chkP rgt (C3 own)=true/\2<=(C3 own).length:=HJ.out.b.right own r c HJ.out.eb;have hWr:Wc.chkP rgt (C4 own)=true/\2<=(C4 own).length:=HJ.out.s.right own r c HJ.out.es;have nX:=HFL1.out.len own;have nY:=HFL2.out.len own;have nZ:=HJ.out.b.len own;have nW:=HJ.out.s.len own;have cbE:=HJ.out.cb;have csE:=HJ.out.cs;have bdE:=HJ.out.bd;obtain ⟨X,hX⟩:∃ X,C1 own=X:=⟨_,rfl⟩
    obtain ⟨Y,hY⟩:∃ Y,C2 own=Y:=⟨_,rfl⟩
    obtain ⟨Z,hZ⟩:∃ Z,C3 own=Z:=⟨_,rfl⟩
    obtain ⟨V,hVV⟩:∃ V,C4 own=V:=⟨_,rfl⟩
    rw [hX] at HX5 ckX lX nX cbE csE bdE;rw [hY] at HY5 ckY lY nY cbE csE bdE;rw [hZ] at HZ5 hZr nZ cbE bdE;rw [hVV] at HW5 hWr nW csE;have efm:fm=X.length:=by obtain ⟨_,_,q,_⟩:=HX5.out;cases q;rfl
    have egm:gm=Y.length:=by obtain ⟨_,_,q,_⟩:=HY5.out;cases q;rfl
    obtain ⟨n,hn⟩:∃ n,X.length=n+1:=⟨X.length - 1,by omega⟩
    obtain ⟨ny,hny⟩:∃ n,Y.length=n+1:=⟨Y.length - 1,by omega⟩
    have smX:=zJ7 ckX nX;have smY:=zJ7 ckY nY;have HPL:Hid (X.length=n+1/\Y.length=ny+1/\n<=20000/\ny<=20000/\fm=n+1/\gm=ny+1):=⟨hn,hny,by omega,by omega,by omega,by omega⟩
    have HSM:Hid ((∀ x ∈ X,Sml x.1 x.2)/\(∀ x ∈ Y,Sml x.1 x.2)):=⟨smX,smY⟩
    have HFT:Hid ((∀ x ∈ X,x.2.length<=1000000/\Wt.FitV x.1.v)/\(∀ x ∈ Y,x.2.length<=1000000/\Wt.FitV x.1.v)/\(∀ x ∈ Z,x.2.length<=1000000/\Wt.FitV x.1.v)/\(∀ x ∈ V,x.2.length<=1000000/\Wt.FitV x.1.v)):=⟨zDq ckX,zDq ckY,zDq hZr.1,zDq hWr.1⟩
    have HLN:Hid (X.length<=20000/\Y.length<=20000/\Z.length<=20000/\V.length<=20000):=⟨nX,nY,nZ,nW⟩
    have HCB:Hid (Z=X.dropLast++Y.dropLast.map (shf (n:Int))++[ins 4 op 0,ins 16 0 0]/\V=ins 6 1 0::(X.dropLast.map (shf 1)++ins 7 0 0::(Y.dropLast.map (shf ((n:Int)+2))++[ins 7 0 0,ins 10 0 0,ins 16 0 0]))):=by
     refine ⟨?_,?_⟩
     ·rw [cbE];unfold jnB;rw [hn];rfl
     ·rw [csE];unfold jnS;rw [hn];rfl
    have HBD:Hid ((zB3 Z).1=(zB3 X).1+(zB3 Y).1/\(zB3 Z).2=(zB3 X).2+(zB3 Y).2):=bdE;have hwf:IntKind.i64.wrap ((fm:Int) - 1)=(n:Int):=by rw [IntKind.wrap_i64];omega
    have hwn2:IntKind.i64.wrap ((n:Int)+2)=(n:Int)+2:=by rw [IntKind.wrap_i64];omega
    clear ckX lX ckY lY hZr hWr nX nY nZ nW cbE csE bdE hX hY hZ hVV efm egm hn hny smX smY HJ HFL1 HFL2 HV;have bA:=zAJ (Below.refl _ W5) (.cells (zAD (ins 6 1 0).1 zAH).toArray 48);have SA:SJ W5 (W5.alloc (.cells (zAD (ins 6 1 0).1 zAH).toArray 48)) (.slice none 0 0) (.slice none 0 0) [] []:=⟨RowJ.nil _ _,RowJ.nil _ _,λg e=>(by cases e),bA⟩
    have aA:=zD5 W5 (ins 6 1 0).1 zAH;clear bA;go_upto_region 20 with (first | (refine zCd rfl 6 (.const (.int .i64 1)) rfl 1 rfl ?_) | (refine zAa rfl (.tmp 128) rfl (ins 6 1 0).1 none 0 0 rfl ?_) | (refine zBG rfl (.tmp 127) (.tmp 129) rfl W5 (W5.alloc (.cells (zAD (ins 6 1 0).1 zAH).toArray 48)) (.slice none 0 0) (.slice none 0 0) [] [] SA rfl W5.heap.size 1 [((ins 6 1 0).1,zAH)] [ins 6 1 0] rfl rfl aA (zBg 6 1 0) (by simp) ?_;intro vf0 w6 s6))
    have HS6:Hid (SJ W5 w6 (.slice none 0 0) vf0 (X.take 0) (ins 6 1 0::(X.take 0).map (shf 1))):=s6;clear SA aA s6;go_upto_region 21 with fail
    go_loopg [24,25,26] n (λgk u24 u25 u26 wr=>∃ (i:Nat) (vw vf:Value),vw=u24/\vf=u25/\u26=.int .i64 (i:Int)/\gk=n - i/\i<=n/\Hid (SJ W5 wr vw vf (X.take i) (ins 6 1 0::(X.take i).map (shf 1))))
    case atStart=>exact ⟨0,_,_,rfl,rfl,rfl,rfl,Nat.zero_le _,HS6⟩
    case round =>
     clear HS6;obtain ⟨i,vw,vf,rfl,rfl,rfl,hg,hi,HS⟩:=hrel;by_cases hlt:i<n
     ·have hli:(i:Int)<(n:Int):=by omega
      as_aux_lemma =>
       have hlf:(i:Int)<(fm:Int):=by have:=HPL.out;omega
       have hiz:(0:Int)<=(i:Int):=by omega
       have hwi:IntKind.i64.wrap ((i:Int)+1)=(i:Int)+1:=by rw [IntKind.wrap_i64];have:=HPL.out;omega
       have hil:i<X.length:=by have:=HPL.out;omega
       obtain ⟨av0,k0,e0,r0⟩:=HX5.out;obtain ⟨bb,off,p,mm,kk,rfl,g0,z0,nn0⟩:=r0 i hil;obtain ⟨ea,ex1,ec⟩:=Value.slice.inj e0;clear ex1 e0 r0;subst ea ec;have hsm:=HSM.out.1 _ (List.getElem_mem hil);have htk:X.take (i+1)=X.take i++[X[i]]:=List.take_succ_eq_append_getElem hil;obtain ⟨x,hx⟩:∃ x,X[i]=x:=⟨_,rfl⟩
       rw [hx] at g0 z0 hsm htk;have mz:mm=x.2.length:=by obtain ⟨_,_,q,_⟩:=z0;cases q;rfl
       have HTK:Hid (X.take (i+1)=X.take i++[x]):=htk;have HZ0:Hid (RdZ W5 (.slice p mm kk) x.2/\Sml x.1 x.2/\mm=x.2.length/\(p=none->kk=0)):=⟨z0,hsm,mz,nn0⟩
       have HG0:Hid (W5.rangeAt bb (off+i * 23) (zAD x.1 (.slice p mm kk))):=g0;have hlw:True->(X.take i).length+1<=1000000:=λ_=>by rw [List.length_take];have:=HPL.out;omega
       have hlf2:True->(ins 6 1 0::(X.take i).map (shf 1)).length+1<=1000000:=λ_=>by simp only [List.length_cons,List.length_map,List.length_take];have:=HPL.out;omega
       clear hx z0 hsm mz htk hil;have gr:=zAF HS.out.b HG0.out;have bB:=zAJ (Below.refl _ wr) (.cells (zAD x.1 (.slice p mm kk)).toArray 48);have SB:=HS.out.below bB;have aB:=zD5 wr x.1 (.slice p mm kk);have tB:TosJ W5 (wr.alloc (.cells (zAD x.1 (.slice p mm kk)).toArray 48)) [(x.1,.slice p mm kk)] [x]:=zCQ HZ0.out.2.2.2 (Or.inl HZ0.out.1);clear bB;go_upto_region 24 with (first | (refine zAA (by rfl) 48 (.tmp 139) rfl bb (off+i * 23) rfl (zAD x.1 (.slice p mm kk)) _ gr underlying48 rfl (by kernel_rfl) ?_) | (refine zAa rfl (.tmp 140) rfl x.1 p mm kk rfl ?_) | (refine zBf rfl (.tmp 136) (.tmp 141) rfl W5 (wr.alloc (.cells (zAD x.1 (.slice p mm kk)).toArray 48)) vw vf (X.take i) (ins 6 1 0::(X.take i).map (shf 1)) SB rfl wr.heap.size 1 [(x.1,.slice p mm kk)] [x] rfl rfl aB tB (hlw trivial) ?_;intro vw' wA sA))
       have HSA:Hid (SJ W5 wA vw' vf (X.take (i+1)) (ins 6 1 0::(X.take i).map (shf 1))):=by rw [HTK.out];exact sA
       clear SB aB tB sA HS gr;have gr:=zAF HSA.out.b HG0.out;have FU:=zFS x.1 x.2 p mm kk 1 wA (HZ0.out.1.below HSA.out.b) HZ0.out.2.2.1 HZ0.out.2.1 (by omega);go_wp2_with (first | (refine zAA (by rfl) 48 (.tmp 146) rfl bb (off+i * 23) rfl (zAD x.1 (.slice p mm kk)) _ gr underlying48 rfl (by kernel_rfl) ?_))
       refine FU.mono ?_;rintro e wB ⟨⟨a',m',c',rfl,oz⟩,hbB⟩;have HSB:=HSA.out.below hbB;have bC:=zAJ (Below.refl _ wB) (.cells (zAD (shf 1 x).1 (.slice a' m' c')).toArray 48);have SC:=HSB.below bC;have aC:=zD5 wB (shf 1 x).1 (.slice a' m' c');have tC:TosJ W5 (wB.alloc (.cells (zAD (shf 1 x).1 (.slice a' m' c')).toArray 48)) [((shf 1 x).1,.slice a' m' c')] [shf 1 x]:=zCQ (zJp oz) (Or.inr (zA7 (zAP (Fr.of_below [] bC) oz (by simp)) HSA.out.b.size));clear FU oz hbB bC HSB gr;go_wp2_with (first | (refine zAa rfl (.tmp 148) rfl (shf 1 x).1 a' m' c' rfl ?_) | (refine zBG rfl (.tmp 143) (.tmp 149) rfl W5 (wB.alloc (.cells (zAD (shf 1 x).1 (.slice a' m' c')).toArray 48)) vw' vf (X.take (i+1)) (ins 6 1 0::(X.take i).map (shf 1)) SC rfl wB.heap.size 1 [((shf 1 x).1,.slice a' m' c')] [shf 1 x] rfl rfl aC tC (hlf2 trivial) ?_;intro vf' wD sD))
       have HSD:Hid (SJ W5 wD vw' vf' (X.take (i+1)) (ins 6 1 0::(X.take (i+1)).map (shf 1))):=by
        have e:(ins 6 1 0::(X.take i).map (shf 1))++[shf 1 x]=ins 6 1 0::(X.take (i+1)).map (shf 1):=by rw [HTK.out];simp
        rw [e] at sD;exact sD
       go_roundg (n - (i+1))
       case rel=>exact ⟨i+1,vw',vf',rfl,rfl,by simp,rfl,hlt,HSD⟩
       case measure=>omega
     ·have hli:¬ (i:Int)<(n:Int):=by omega
      have hin:i=n:=by omega
      subst hin;have hwn:IntKind.i64.wrap ((i:Int)+2)=(i:Int)+2:=hwn2;have bA:=zAJ (Below.refl _ wr) (.cells (zAD (ins 7 0 0).1 zAH).toArray 48);have SA:=HS.out.below bA;have aA:=zD5 wr (ins 7 0 0).1 zAH;have hl7:True->(ins 6 1 0::(X.take i).map (shf 1)).length+1<=1000000:=λ_=>by simp only [List.length_cons,List.length_map,List.length_take];have:=HPL.out;omega
      clear bA;go_upto_region 26 with (first | (refine zAy rfl 7 rfl ?_) | (refine zAa rfl (.tmp 152) rfl (ins 7 0 0).1 none 0 0 rfl ?_) | (refine zBG rfl (.tmp 151) (.tmp 153) rfl W5 (wr.alloc (.cells (zAD (ins 7 0 0).1 zAH).toArray 48)) vw vf (X.take i) (ins 6 1 0::(X.take i).map (shf 1)) SA rfl wr.heap.size 1 [((ins 7 0 0).1,zAH)] [ins 7 0 0] rfl rfl aA (zBg 7 0 0) (hl7 trivial) ?_;intro vf7 w7 s7))
      have htx:X.take i=X.dropLast:=zNK HPL.out.1;have HS7:Hid (SJ W5 w7 vw vf7 (X.dropLast++(Y.take 0).map (shf (i:Int))) (ins 6 1 0::(X.dropLast.map (shf 1)++ins 7 0 0::(Y.take 0).map (shf ((i:Int)+2))))):=by
       rw [htx] at s7;have e1:X.dropLast++(Y.take 0).map (shf (i:Int))=X.dropLast:=by simp
       have e2:(ins 6 1 0::X.dropLast.map (shf 1))++[ins 7 0 0]=ins 6 1 0::(X.dropLast.map (shf 1)++ins 7 0 0::(Y.take 0).map (shf ((i:Int)+2))):=by simp
       rw [e2] at s7;show SJ _ _ _ _ _ _
       rw [e1];exact s7
      have HDX:Hid (X.dropLast.length=i):=by show _=_;rw [List.length_dropLast,HPL.out.1];rfl
      clear SA aA s7 htx HS hl7 hlt hi hg hli hwf hwn2;go_upto_region 27 with fail
      go_loopg [24,25,27] ny (λgk u24 u25 u27 wr2=>∃ (k:Nat) (vw vf:Value),vw=u24/\vf=u25/\u27=.int .i64 (k:Int)/\gk=ny - k/\k<=ny/\Hid (SJ W5 wr2 vw vf (X.dropLast++(Y.take k).map (shf (i:Int))) (ins 6 1 0::(X.dropLast.map (shf 1)++ins 7 0 0::(Y.take k).map (shf ((i:Int)+2))))))
      case atStart=>exact ⟨0,_,_,rfl,rfl,rfl,rfl,Nat.zero_le _,HS7⟩
      case round =>
       clear HS7;obtain ⟨k,vw,vf,rfl,rfl,rfl,hg,hi,HS⟩:=hrel;have hwk:IntKind.i64.wrap ((k:Int)+1)=(k:Int)+1:=by rw [IntKind.wrap_i64];have:=HPL.out;omega
       by_cases hlt:k<ny
       ·have hli:(k:Int)+1<(gm:Int):=by have:=HPL.out;omega
        as_aux_lemma =>
         have hlf:(k:Int)<(gm:Int):=by have:=HPL.out;omega
         have hiz:(0:Int)<=(k:Int):=by omega
         have hil:k<Y.length:=by have:=HPL.out;omega
         obtain ⟨av0,k0,e0,r0⟩:=HY5.out;obtain ⟨bb,off,p,mm,kk,rfl,g0,z0,nn0⟩:=r0 k hil;obtain ⟨ea,ex1,ec⟩:=Value.slice.inj e0;clear ex1 e0 r0;subst ea ec;have hsm:=HSM.out.2 _ (List.getElem_mem hil);have htk:Y.take (k+1)=Y.take k++[Y[k]]:=List.take_succ_eq_append_getElem hil;obtain ⟨x,hx⟩:∃ x,Y[k]=x:=⟨_,rfl⟩
         rw [hx] at g0 z0 hsm htk;have mz:mm=x.2.length:=by obtain ⟨_,_,q,_⟩:=z0;cases q;rfl
         have HTK:Hid (Y.take (k+1)=Y.take k++[x]):=htk;have HZ0:Hid (RdZ W5 (.slice p mm kk) x.2/\Sml x.1 x.2/\mm=x.2.length/\(p=none->kk=0)):=⟨z0,hsm,mz,nn0⟩
         have HG0:Hid (W5.rangeAt bb (off+k * 23) (zAD x.1 (.slice p mm kk))):=g0;have hlw:True->(X.dropLast++(Y.take k).map (shf (i:Int))).length+1<=1000000:=λ_=>by simp only [List.length_append,List.length_map,List.length_take,HDX.out];have:=HPL.out;omega
         have hlf2:True->(ins 6 1 0::(X.dropLast.map (shf 1)++ins 7 0 0::(Y.take k).map (shf ((i:Int)+2)))).length+1<=1000000:=λ_=>by simp only [List.length_cons,List.length_append,List.length_map,List.length_take,HDX.out];have:=HPL.out;omega
         clear hx z0 hsm mz htk hil;have gr:=zAF HS.out.b HG0.out;have FU:=zFS x.1 x.2 p mm kk (i:Int) wr (HZ0.out.1.below HS.out.b) HZ0.out.2.2.1 HZ0.out.2.1 (by have:=HPL.out;omega);go_wp2_with (first | (refine zAA (by rfl) 48 (.tmp 165) rfl bb (off+k * 23) rfl (zAD x.1 (.slice p mm kk)) _ gr underlying48 rfl (by kernel_rfl) ?_))
         refine FU.mono ?_;rintro e wB ⟨⟨a',m',c',rfl,oz⟩,hbB⟩;have HSB:=HS.out.below hbB;have bC:=zAJ (Below.refl _ wB) (.cells (zAD (shf (i:Int) x).1 (.slice a' m' c')).toArray 48);have SC:=HSB.below bC;have aC:=zD5 wB (shf (i:Int) x).1 (.slice a' m' c');have tC:TosJ W5 (wB.alloc (.cells (zAD (shf (i:Int) x).1 (.slice a' m' c')).toArray 48)) [((shf (i:Int) x).1,.slice a' m' c')] [shf (i:Int) x]:=zCQ (zJp oz) (Or.inr (zA7 (zAP (Fr.of_below [] bC) oz (by simp)) HS.out.b.size));clear FU oz hbB bC HSB gr;go_upto_region 30 with (first | (refine zAa rfl (.tmp 168) rfl (shf (i:Int) x).1 a' m' c' rfl ?_) | (refine zBf rfl (.tmp 162) (.tmp 169) rfl W5 (wB.alloc (.cells (zAD (shf (i:Int) x).1 (.slice a' m' c')).toArray 48)) vw vf (X.dropLast++(Y.take k).map (shf (i:Int))) (ins 6 1 0::(X.dropLast.map (shf 1)++ins 7 0 0::(Y.take k).map (shf ((i:Int)+2)))) SC rfl wB.heap.size 1 [((shf (i:Int) x).1,.slice a' m' c')] [shf (i:Int) x] rfl rfl aC tC (hlw trivial) ?_;intro vw' wA sA))
         have HSA:Hid (SJ W5 wA vw' vf (X.dropLast++(Y.take (k+1)).map (shf (i:Int))) (ins 6 1 0::(X.dropLast.map (shf 1)++ins 7 0 0::(Y.take k).map (shf ((i:Int)+2))))):=by
          have e:(X.dropLast++(Y.take k).map (shf (i:Int)))++[shf (i:Int) x]=X.dropLast++(Y.take (k+1)).map (shf (i:Int)):=by rw [HTK.out];simp
          rw [e] at sA;exact sA
         clear SC aC tC sA HS;have gr:=zAF HSA.out.b HG0.out;have FU:=zFS x.1 x.2 p mm kk ((i:Int)+2) wA (HZ0.out.1.below HSA.out.b) HZ0.out.2.2.1 HZ0.out.2.1 (by have:=HPL.out;omega);go_wp2_with (first | (refine zAA (by rfl) 48 (.tmp 174) rfl bb (off+k * 23) rfl (zAD x.1 (.slice p mm kk)) _ gr underlying48 rfl (by kernel_rfl) ?_))
         refine FU.mono ?_;rintro e wB2 ⟨⟨a2',m2',c2',rfl,oz⟩,hbB⟩;have HSB:=HSA.out.below hbB;have bC:=zAJ (Below.refl _ wB2) (.cells (zAD (shf ((i:Int)+2) x).1 (.slice a2' m2' c2')).toArray 48);have SC:=HSB.below bC;have aC:=zD5 wB2 (shf ((i:Int)+2) x).1 (.slice a2' m2' c2');have tC:TosJ W5 (wB2.alloc (.cells (zAD (shf ((i:Int)+2) x).1 (.slice a2' m2' c2')).toArray 48)) [((shf ((i:Int)+2) x).1,.slice a2' m2' c2')] [shf ((i:Int)+2) x]:=zCQ (zJp oz) (Or.inr (zA7 (zAP (Fr.of_below [] bC) oz (by simp)) HSA.out.b.size));clear FU oz hbB bC HSB gr;go_wp2_with (first | (refine zAa rfl (.tmp 178) rfl (shf ((i:Int)+2) x).1 a2' m2' c2' rfl ?_) | (refine zBG rfl (.tmp 171) (.tmp 179) rfl W5 (wB2.alloc (.cells (zAD (shf ((i:Int)+2) x).1 (.slice a2' m2' c2')).toArray 48)) vw' vf (X.dropLast++(Y.take (k+1)).map (shf (i:Int))) (ins 6 1 0::(X.dropLast.map (shf 1)++ins 7 0 0::(Y.take k).map (shf ((i:Int)+2)))) SC rfl wB2.heap.size 1 [((shf ((i:Int)+2) x).1,.slice a2' m2' c2')] [shf ((i:Int)+2) x] rfl rfl aC tC (hlf2 trivial) ?_;intro vf' wD sD))
         have HSD:Hid (SJ W5 wD vw' vf' (X.dropLast++(Y.take (k+1)).map (shf (i:Int))) (ins 6 1 0::(X.dropLast.map (shf 1)++ins 7 0 0::(Y.take (k+1)).map (shf ((i:Int)+2))))):=by
          have e:(ins 6 1 0::(X.dropLast.map (shf 1)++ins 7 0 0::(Y.take k).map (shf ((i:Int)+2))))++[shf ((i:Int)+2) x]=ins 6 1 0::(X.dropLast.map (shf 1)++ins 7 0 0::(Y.take (k+1)).map (shf ((i:Int)+2))):=by rw [HTK.out];simp
          rw [e] at sD;exact sD
         go_roundg (ny - (k+1))
         case rel=>exact ⟨k+1,vw',vf',rfl,rfl,by simp,rfl,hlt,HSD⟩
         case measure=>omega
       ·have hli:¬ (k:Int)+1<(gm:Int):=by have:=HPL.out;omega
        have hin:k=ny:=by omega
        subst hin;as_aux_lemma =>
         have hty:Y.take k=Y.dropLast:=zNK HPL.out.2.1;have hS:=HS.out;rw [hty] at hS;have hdy:Y.dropLast.length=k:=by rw [List.length_dropLast,HPL.out.2.1];rfl
         have HS8:Hid (SJ W5 wr vw vf (X.dropLast++Y.dropLast.map (shf (i:Int))) (ins 6 1 0::(X.dropLast.map (shf 1)++ins 7 0 0::Y.dropLast.map (shf ((i:Int)+2))))):=hS;obtain ⟨fl2,hf2⟩:∃ fl,zAY [((ins 4 op 0).1,zAH),((ins 16 0 0).1,zAH)]=fl:=⟨_,rfl⟩
         obtain ⟨fl3,hf3⟩:∃ fl,zAY [((ins 7 0 0).1,zAH),((ins 10 0 0).1,zAH),((ins 16 0 0).1,zAH)]=fl:=⟨_,rfl⟩
         have HL2:Hid (zAY [((ins 4 op 0).1,zAH),((ins 16 0 0).1,zAH)]=fl2):=hf2;have HL3:Hid (zAY [((ins 7 0 0).1,zAH),((ins 10 0 0).1,zAH),((ins 16 0 0).1,zAH)]=fl3):=hf3;clear hf2 hf3;have bA:=zAJ (Below.refl _ wr) (.cells fl2.toArray 48);have SA:=HS8.out.below bA;have aA:=zQD (w:=wr) HL2.out;have tA:TosJ W5 (wr.alloc (.cells fl2.toArray 48)) [((ins 4 op 0).1,zAH),((ins 16 0 0).1,zAH)] [ins 4 op 0,ins 16 0 0]:=(zBg 4 op 0).app (zBg 16 0 0);have qnA:True->(X.dropLast++Y.dropLast.map (shf (i:Int))).length+2<=1000000:=λ_=>by simp only [List.length_append,List.length_map,HDX.out,hdy];have:=HPL.out;omega
         have qnB:True->(ins 6 1 0::(X.dropLast.map (shf 1)++ins 7 0 0::Y.dropLast.map (shf ((i:Int)+2)))).length+3<=1000000:=λ_=>by simp only [List.length_cons,List.length_append,List.length_map,HDX.out,hdy];have:=HPL.out;omega
         clear bA hS hty hdy HS;go_upto_region 31 with fail
         refine wp_region_lit ?_;refine zFo ?_ (Or.inl ⟨by rfl,?_⟩) ?_;rotate_left
         ·go_simp
          try with_reducible rfl
         try simp only [Act.put,lA,lZ,lS]
         refine zFo ?_ (Or.inl ⟨by rfl,?_⟩) ?_;rotate_left
         ·go_simp
          try with_reducible rfl
         try simp only [Act.put,lA,lZ,lS]
         refine zCd rfl 4 (.tmp 182) rfl op rfl ?_;try simp only [Act.put,lA,lZ,lS]
         refine zAy rfl 16 rfl ?_;try simp only [Act.put,lA,lZ,lS]
         refine zEd rfl (.tmp 183) (.tmp 184) rfl (ins 4 op 0).1 (ins 16 0 0).1 rfl rfl fl2 HL2.out ?_;try simp only [Act.put,lA,lZ,lS]
         refine zBf rfl (.tmp 181) (.tmp 185) rfl W5 (wr.alloc (.cells fl2.toArray 48)) vw vf (X.dropLast++Y.dropLast.map (shf (i:Int))) (ins 6 1 0::(X.dropLast.map (shf 1)++ins 7 0 0::Y.dropLast.map (shf ((i:Int)+2)))) SA rfl wr.heap.size 2 [((ins 4 op 0).1,zAH),((ins 16 0 0).1,zAH)] [ins 4 op 0,ins 16 0 0] rfl rfl aA tA (qnA trivial) ?_;intro vw9 w9 s9;try simp only [Act.put,lA,lZ,lS]
         go_upto_region 32 with fail
         have HS9:Hid (SJ W5 w9 vw9 vf Z (ins 6 1 0::(X.dropLast.map (shf 1)++ins 7 0 0::Y.dropLast.map (shf ((i:Int)+2))))):=by rw [HCB.out.1];exact s9
         clear SA aA tA s9 HS8 qnA;have bA:=zAJ (Below.refl _ w9) (.cells fl3.toArray 48);have SA:=HS9.out.below bA;have aA:=zQD (w:=w9) HL3.out;have tA:TosJ W5 (w9.alloc (.cells fl3.toArray 48)) [((ins 7 0 0).1,zAH),((ins 10 0 0).1,zAH),((ins 16 0 0).1,zAH)] [ins 7 0 0,ins 10 0 0,ins 16 0 0]:=((zBg 7 0 0).app (zBg 10 0 0)).app (zBg 16 0 0);clear bA;go_upto_region 32 with fail
         refine wp_region_lit ?_;refine zFo ?_ (Or.inl ⟨by rfl,?_⟩) ?_;rotate_left
         ·go_simp
          try with_reducible rfl
         try simp only [Act.put,lA,lZ,lS]
         refine zAy rfl 7 rfl ?_;try simp only [Act.put,lA,lZ,lS]
         refine zAy rfl 10 rfl ?_;try simp only [Act.put,lA,lZ,lS]
         refine zAy rfl 16 rfl ?_;try simp only [Act.put,lA,lZ,lS]
         refine zFE rfl (.tmp 188) (.tmp 189) (.tmp 190) rfl (ins 7 0 0).1 (ins 10 0 0).1 (ins 16 0 0).1 rfl rfl rfl fl3 HL3.out ?_;try simp only [Act.put,lA,lZ,lS]
         refine zBG rfl (.tmp 187) (.tmp 191) rfl W5 (w9.alloc (.cells fl3.toArray 48)) vw9 vf Z (ins 6 1 0::(X.dropLast.map (shf 1)++ins 7 0 0::Y.dropLast.map (shf ((i:Int)+2)))) SA rfl w9.heap.size 3 [((ins 7 0 0).1,zAH),((ins 10 0 0).1,zAH),((ins 16 0 0).1,zAH)] [ins 7 0 0,ins 10 0 0,ins 16 0 0] rfl rfl aA tA (qnB trivial) ?_;intro vf9 wJ s9;try simp only [Act.put,lA,lZ,lS]
         go_upto_region 33 with fail
         have HSJ:Hid (SJ W5 wJ vw9 vf9 Z V):=by
          have e:(ins 6 1 0::(X.dropLast.map (shf 1)++ins 7 0 0::Y.dropLast.map (shf ((i:Int)+2))))++[ins 7 0 0,ins 10 0 0,ins 16 0 0]=V:=by rw [HCB.out.2];simp
          rw [e] at s9;exact s9
         clear SA aA tA s9 HS9 qnB HCB HSM HDX;have HTW:Hid (∀ (W:World) (v:Value) (L:List I),RdC W v L->L.length<=20000->(∀ x ∈ L,x.2.length<=1000000/\Wt.FitV x.1.v)->Calls prog 13 #[v] W λe w'=>TwP L W e w'/\Below W.heap.size W w'):=λW v L h1 h2 h3=>zLh L v W h1 (by omega) (λx hx=>(h3 x hx).1)
         have HBN:Hid (∀ (W:World) (v:Value) (L:List I),Below W5.heap.size W5 W->RdC W v L->L.length<=20000->(∀ x ∈ L,x.2.length<=1000000/\Wt.FitV x.1.v)->Calls prog 16 #[v] W λe w'=>e=.returned (.tuple #[.int .i64 (zB3 L).1,.int .i64 (zB3 L).2])/\Below W.heap.size W w'):=λW v L hb h1 h2 h3=>zHX L v W h1 (by omega) h3 (HN5.out.below hb)
         have TW:=HTW.out wJ _ X (HX5.out.below HSJ.out.b) HLN.out.1 HFT.out.1;go_wp2_with fail
         refine TW.mono ?_;rintro e u1 ⟨⟨G,cp1,B1,P1,rfl,_,own1,tw1⟩,hb1⟩;have BN:=HBN.out u1 _ X (zAB HSJ.out.b hb1) (⟨own1,tw1⟩:TwS u1 B1 G cp1 P1 X).rd HLN.out.1 HFT.out.1;have HU1:=HSJ.out.below hb1;clear TW own1 tw1 hb1;go_wp2_with fail
         refine BN.mono ?_;rintro e u2 ⟨rfl,hb2⟩;have HU2:=HU1.below hb2;have TW:=HTW.out u2 _ Y (HY5.out.below HU2.b) HLN.out.2.1 HFT.out.2.1;clear BN HU1 hb2;go_wp2_with fail
         refine TW.mono ?_;rintro e u3 ⟨⟨G2,cp2,B2,P2,rfl,_,own1,tw1⟩,hb1⟩;have BN:=HBN.out u3 _ Y (zAB HU2.b hb1) (⟨own1,tw1⟩:TwS u3 B2 G2 cp2 P2 Y).rd HLN.out.2.1 HFT.out.2.1;have HU3:=HU2.below hb1;clear TW own1 tw1 hb1 HU2;go_wp2_with fail
         refine BN.mono ?_;rintro e u4 ⟨rfl,hb2⟩;have HU4:=HU3.below hb2;have TW:=HTW.out u4 _ Z (HZ5.out.below HU4.b) HLN.out.2.2.1 HFT.out.2.2.1;clear BN HU3 hb2;go_wp2_with fail
         refine TW.mono ?_;rintro e u5 ⟨⟨G3,cp3,B3,P3,rfl,_,own1,tw1⟩,hb1⟩;have BN:=HBN.out u5 _ Z (zAB HU4.b hb1) (⟨own1,tw1⟩:TwS u5 B3 G3 cp3 P3 Z).rd HLN.out.2.2.1 HFT.out.2.2.1;have HU5:=HU4.below hb1;clear TW own1 tw1 hb1 HU4 HTW HBN;go_wp2_with fail
         refine BN.mono ?_;rintro e u6 ⟨rfl,hb2⟩;have HU6:=HU5.below hb2;have SM:=zNF Z _ vw9 u6 (HZ5.out.below HU6.b) (HU6.rw.rd HU6.b) (by have:=HLN.out.2.2.1;omega) (λx hx=>(HFT.out.2.2.1 x hx).1);clear BN HU5 hb2;go_wp2_with fail
         refine SM.mono ?_;rintro e u7 ⟨rfl,hb3⟩;have HU7:=HU6.below hb3;have SM:=zNF V _ vf9 u7 (HW5.out.below HU7.b) (HU7.rf.rd HU7.b) (by have:=HLN.out.2.2.2;omega) (λx hx=>(HFT.out.2.2.2 x hx).1);have bX:=zNP X HLN.out.1;have bY:=zNP Y HLN.out.2.1;obtain ⟨d1,d2⟩:=HBD.out;obtain ⟨x1,hx1⟩:∃ z,(zB3 X).1=z:=⟨_,rfl⟩
         obtain ⟨x2,hx2⟩:∃ z,(zB3 X).2=z:=⟨_,rfl⟩
         obtain ⟨y1,hy1⟩:∃ z,(zB3 Y).1=z:=⟨_,rfl⟩
         obtain ⟨y2,hy2⟩:∃ z,(zB3 Y).2=z:=⟨_,rfl⟩
         rw [hx1,hx2] at bX;rw [hy1,hy2] at bY;rw [hx1,hy1] at d1;rw [hx2,hy2] at d2;rw [d1,d2];simp only [hx1,hx2,hy1,hy2];have hw1:IntKind.i64.wrap (x1+y1)=x1+y1:=by rw [IntKind.wrap_i64];omega
         have hw2:IntKind.i64.wrap (x2+y2)=x2+y2:=by rw [IntKind.wrap_i64];omega
         have HBZ:Hid (Below W5.heap.size W5 u7):=HU7.b;clear HU6 HU7 hb3 bX bY d1 d2 hx1 hx2 hy1 hy2;go_wp2_with fail
         refine SM.mono ?_;rintro e u8 ⟨rfl,hb4⟩;have HBE:Hid (Below w.heap.size w u8):=zAB HB5.out (zAB HBZ.out hb4);clear SM hb4 HBZ;go_wp2;go_ret;exact ⟨rfl,HBE.out⟩
   ·have hq3:(ck != 0)=true:=by simp [q3]
    go_wp2;go_ret;exact ⟨rfl,HBg.out⟩
  ·have hq2:(v2 != 0)=true:=by simp [q2]
   subst q1;go_wp2;go_ret;exact ⟨rfl,HBf.out⟩
 ·have hq1:(v1 != 0)=true:=by simp [q1]
  go_wp2;go_ret;exact ⟨rfl,HBf.out⟩
