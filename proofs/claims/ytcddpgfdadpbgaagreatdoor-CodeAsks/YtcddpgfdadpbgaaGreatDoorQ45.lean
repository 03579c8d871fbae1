/- KLawAsk. -/
import Derived.Test.YtcddpgfdadpbgaaGreatDoorQ44
set_option maxHeartbeats 4000000
set_option maxRecDepth 100000
namespace Go.Proofs.YtcddpgfdadpbgaaGreatDoor
open Tryz
open Go.RowKit
set_option linter.unusedVariables false
theorem zq107 (L:List (Wc.In × List Int)) (h:L.length<=1000000):(usA L).length<=2000000:=by
 unfold usA;split
 ·have h1:=zq10 (zq3 L) [];have h2:=zq7 L;simp at h1;omega
 ·simp
theorem zq75 (L:List (Wc.In × List Int)) (v:Value) (w:World) (h:RdC w v L) (hl:True->L.length<=2000000000000000000) (ht:∀ x ∈ L,x.2.length<=2000000000000000000/\x.1.v.t.size<=2000000000000000000) (hF:∀ x ∈ L,Wt.FitV x.1.v) (hN:NmAt w) :
  CR 4 #[v] w (.bool true):=by
 have AB:=zHu w hN;have HWE:Hid (∀ W:World,Below w.heap.size w W->Calls prog 6 #[v] W λe w'=>e=.returned (.int .i64 (wgt L.length L))/\Below W.heap.size W w'):=λW hb=>zEa L v W (h.below hb) hl ht
 have HR:Hid (RdC w v L):=h;have HF:Hid (∀ x ∈ L,Wt.FitV x.1.v):=hF;have HN:Hid (NmAt w):=hN;have HLE:Hid (wgt L.length L<=20000->L.length<=1000000/\∀ x ∈ L,x.2.length<=1000000):=λhw=>by
  obtain ⟨a,b⟩:=zIS L L.length (by omega) hw;exact ⟨by omega,λx hx=>by have:=b x hx;omega⟩
 obtain ⟨q,hq⟩:∃ q,wgt L.length L=q:=⟨_,rfl⟩
 rw [hq] at HWE HLE;clear hq h hl ht hF hN;go_enter func4,ntmps4;go_wp2_with fail
 refine AB.mono ?_;rintro e w1 ⟨rfl,hb1⟩;have WE:=HWE.out w1 hb1;clear AB HWE;go_wp2_with fail
 refine WE.mono ?_;rintro e w2 ⟨rfl,hb2⟩;have hB2:=zAB hb1 hb2;clear WE hb1 hb2;by_cases hw:20000<q
 ·have hwb:decide (20000<q)=true:=by simp [hw]
  go_wp2;go_ret;exact ⟨rfl,hB2⟩
 ·have hwb:decide (20000<q)=false:=by simp [hw]
  obtain ⟨hlen,hto⟩:=HLE.out (by omega);have HLN:Hid (L.length<=1000000/\∀ x ∈ L,x.2.length<=1000000):=⟨hlen,hto⟩
  have TW:=zGb L v w2 (HR.out.below hB2) hlen hto;clear hlen hto HLE;go_wp2_with fail
  refine TW.mono ?_;rintro e w3 ⟨⟨G,cap,B,P,rfl,hBw,own,tw⟩,hb3⟩;have hB3:=zAB hB2 hb3;have HTS:Hid (TwS w3 B G cap P L):=⟨own,tw⟩
  have UA:=zq77 L (.slice (some ⟨G,0,none⟩) L.length cap) w3 HTS.out.rd HLN.out.1 (λx hx=>⟨HLN.out.2 x hx,HF.out x hx⟩) (HN.out.below hB3);clear TW own tw hBw hb3 hB2;go_wp2_with fail
  refine UA.mono ?_;rintro e w4 ⟨⟨r4,B4,rfl,own4,hB4w⟩,hb4⟩;have hB4:=zAB hB3 hb4;have HTS4:Hid (TwS w4 B G cap P L):=HTS.out.below hb4;have HR4:Hid (RdA w4 r4 (usA L)):=own4.rd;have BA:=zq34 L (.slice (some ⟨G,0,none⟩) L.length cap) w4 HTS4.out.rd HLN.out.1 (λx hx=>⟨HLN.out.2 x hx,HF.out x hx⟩) (HN.out.below hB4);obtain ⟨bn,hbn⟩:∃ b,bndA L=b:=⟨_,rfl⟩
  have HBN:Hid (bndA L=bn):=hbn;rw [hbn] at BA;obtain ⟨a4,c4,e4,_⟩:=id HR4.out;subst e4;clear UA HTS hb4 hB3 own4 hB4w hbn;go_wp2_with fail
  refine BA.mono ?_;rintro e w5 ⟨rfl,hb5⟩;have hB5:=zAB hB4 hb5;have HTS5:Hid (TwS w5 B G cap P L):=HTS4.out.below hb5;have HR5:Hid (RdA w5 (.slice a4 (usA L).length c4) (usA L)):=HR4.out.below hb5;have RB:=zq25 L v w5 (HR.out.below hB5) HLN.out.1 (λx hx=>⟨HLN.out.2 x hx,HF.out x hx⟩);rw [HBN.out] at RB;clear BA HTS4 HR4 hb5 hB4 HBN;go_wp2_with fail
  refine RB.mono ?_;rintro e w6 ⟨rfl,hb6⟩;have hB6:=zAB hB5 hb6;have HTS6:Hid (TwS w6 B G cap P L):=HTS5.out.below hb6;have HR6:Hid (RdA w6 (.slice a4 (usA L).length c4) (usA L)):=HR5.out.below hb6;have RU:=zq60 L v w6 (HR.out.below hB6) HLN.out.1 (λx hx=>⟨HLN.out.2 x hx,HF.out x hx⟩);clear RB HTS5 HR5 hb6 hB5;go_wp2_with fail
  refine RU.mono ?_;rintro e w7 ⟨⟨r7,B7,rfl,own7,hB7w⟩,hb7⟩;have hB7:=zAB hB6 hb7;have HTS7:Hid (TwS w7 B G cap P L):=HTS6.out.below hb7;have AR:=zq37 (usA L) (.slice a4 (usA L).length c4) r7 w7 (HR6.out.below hb7) own7.rd (zq107 L HLN.out.1);obtain ⟨a7,c7,e7,_⟩:=own7.rd;subst e7;clear RU HTS6 HR6 hb7 hB6 own7 hB7w;go_wp2_with fail
  refine AR.mono ?_;rintro e w8 ⟨rfl,hb8⟩;have hB8:=zAB hB7 hb8;have WH:=zFn L B G cap P v w8 (HTS7.out.below hb8) (HR.out.below hB8) HLN.out.1 HLN.out.2;have h11:(bn.1 == bn.1)=true:=by simp
  have h22:(bn.2 == bn.2)=true:=by simp
  clear AR HTS7 hb8 hB7;go_wp2_with fail
  refine WH.mono ?_;rintro e w9 ⟨rfl,hb9⟩;have hB9:=zAB hB8 hb9;go_wp2;go_ret;exact ⟨rfl,hB9⟩
