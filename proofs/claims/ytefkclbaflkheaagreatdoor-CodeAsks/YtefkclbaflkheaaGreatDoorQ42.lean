/- KLawAsk, KLaid, KLaidO, KArg. -/
import Derived.Test.YtefkclbaflkheaaGreatDoorQ41
import Derived.Lib.LaidTab
import Derived.Deep.Strs
import Derived.Stop.LaidErr
import Derived.Deep.Slices
import Derived.Lib.SmallJoins
import Derived.SizedLaws
import Derived.Carry
import Derived.ProofKit
set_option maxHeartbeats 4000000
set_option maxRecDepth 100000
namespace Go.Proofs.YtefkclbaflkheaaGreatDoor
open Tryz
open Go.RowKit
set_option linter.unusedVariables false
variable {W:World} {rest:List (String × DataW Unit)}
theorem zL8 (L:List (Wc.In × List Int)) (h:L.length<=1000000):(usA L).length<=2000000:=by
 unfold usA;split
 ·have h1:=zBz (zBM L) [];have h2:=zB8 L;simp at h1;omega
 ·simp
theorem zIX (L:List (Wc.In × List Int)) (v:Value) (w:World) (h:RdC w v L) (hl:True->L.length<=2000000000000000000) (ht:∀ x ∈ L,x.2.length<=2000000000000000000/\x.1.v.t.size<=2000000000000000000) (hF:∀ x ∈ L,Wt.FitV x.1.v) (hN:NmAt w) (hO:OpsAt w) :
  CR 5 #[v] w (.bool true):=by
 have AB:=zI0 w hN hO;have HWE:Hid (∀ W:World,Below w.heap.size w W->Calls prog 11 #[v] W λe w'=>e=.returned (.int .i64 (wgt L.length L))/\Below W.heap.size W w'):=λW hb=>zEo L v W (h.below hb) hl ht
 have HR:Hid (RdC w v L):=h;have HF:Hid (∀ x ∈ L,Wt.FitV x.1.v):=hF;have HN:Hid (NmAt w):=hN;have HLE:Hid (wgt L.length L<=20000->L.length<=1000000/\∀ x ∈ L,x.2.length<=1000000):=λhw=>by
  obtain ⟨a,b⟩:=zJ1 L L.length (by omega) hw;exact ⟨by omega,λx hx=>by have:=b x hx;omega⟩
 obtain ⟨q,hq⟩:∃ q,wgt L.length L=q:=⟨_,rfl⟩
 rw [hq] at HWE HLE;clear hq h hl ht hF hN hO;go_enter func5,ntmps5;go_wp2_with fail
 refine AB.mono ?_;rintro e w1 ⟨rfl,hb1⟩;have WE:=HWE.out w1 hb1;clear AB HWE;go_wp2_with fail
 refine WE.mono ?_;rintro e w2 ⟨rfl,hb2⟩;have hB2:=zAB hb1 hb2;clear WE hb1 hb2;by_cases hw:20000<q
 ·have hwb:decide (20000<q)=true:=by simp [hw]
  go_wp2;go_ret;exact ⟨rfl,hB2⟩
 ·have hwb:decide (20000<q)=false:=by simp [hw]
  obtain ⟨hlen,hto⟩:=HLE.out (by omega);have HLN:Hid (L.length<=1000000/\∀ x ∈ L,x.2.length<=1000000):=⟨hlen,hto⟩
  have TW:=zId L v w2 (HR.out.below hB2) hlen hto;clear hlen hto HLE;go_wp2_with fail
  refine TW.mono ?_;rintro e w3 ⟨⟨G,cap,B,P,rfl,hBw,own,tw⟩,hb3⟩;have hB3:=zAB hB2 hb3;have HTS:Hid (TwS w3 B G cap P L):=⟨own,tw⟩
  have UA:=zEf L (.slice (some ⟨G,0,none⟩) L.length cap) w3 HTS.out.rd HLN.out.1 (λx hx=>⟨HLN.out.2 x hx,HF.out x hx⟩) (HN.out.below hB3);clear TW own tw hBw hb3 hB2;go_wp2_with fail
  refine UA.mono ?_;rintro e w4 ⟨⟨r4,B4,rfl,own4,hB4w⟩,hb4⟩;have hB4:=zAB hB3 hb4;have HTS4:Hid (TwS w4 B G cap P L):=HTS.out.below hb4;have HR4:Hid (RdA w4 r4 (usA L)):=own4.rd;have BA:=zFK L (.slice (some ⟨G,0,none⟩) L.length cap) w4 HTS4.out.rd HLN.out.1 (λx hx=>⟨HLN.out.2 x hx,HF.out x hx⟩) (HN.out.below hB4);obtain ⟨bn,hbn⟩:∃ b,zHL L=b:=⟨_,rfl⟩
  have HBN:Hid (zHL L=bn):=hbn;rw [hbn] at BA;obtain ⟨a4,c4,e4,_⟩:=id HR4.out;subst e4;clear UA HTS hb4 hB3 own4 hB4w hbn;go_wp2_with fail
  refine BA.mono ?_;rintro e w5 ⟨rfl,hb5⟩;have hB5:=zAB hB4 hb5;have HTS5:Hid (TwS w5 B G cap P L):=HTS4.out.below hb5;have HR5:Hid (RdA w5 (.slice a4 (usA L).length c4) (usA L)):=HR4.out.below hb5;have RB:=zDw L v w5 (HR.out.below hB5) HLN.out.1 (λx hx=>⟨HLN.out.2 x hx,HF.out x hx⟩);rw [HBN.out] at RB;clear BA HTS4 HR4 hb5 hB4 HBN;go_wp2_with fail
  refine RB.mono ?_;rintro e w6 ⟨rfl,hb6⟩;have hB6:=zAB hB5 hb6;have HTS6:Hid (TwS w6 B G cap P L):=HTS5.out.below hb6;have HR6:Hid (RdA w6 (.slice a4 (usA L).length c4) (usA L)):=HR5.out.below hb6;have RU:=zGL L v w6 (HR.out.below hB6) HLN.out.1 (λx hx=>⟨HLN.out.2 x hx,HF.out x hx⟩);clear RB HTS5 HR5 hb6 hB5;go_wp2_with fail
  refine RU.mono ?_;rintro e w7 ⟨⟨r7,B7,rfl,own7,hB7w⟩,hb7⟩;have hB7:=zAB hB6 hb7;have HTS7:Hid (TwS w7 B G cap P L):=HTS6.out.below hb7;have AR:=zG5 (usA L) (.slice a4 (usA L).length c4) r7 w7 (HR6.out.below hb7) own7.rd (zL8 L HLN.out.1);obtain ⟨a7,c7,e7,_⟩:=own7.rd;subst e7;clear RU HTS6 HR6 hb7 hB6 own7 hB7w;go_wp2_with fail
  refine AR.mono ?_;rintro e w8 ⟨rfl,hb8⟩;have hB8:=zAB hB7 hb8;have WH:=zGs L B G cap P v w8 (HTS7.out.below hb8) (HR.out.below hB8) HLN.out.1 HLN.out.2;have h11:(bn.1 == bn.1)=true:=by simp
  have h22:(bn.2 == bn.2)=true:=by simp
  clear AR HTS7 hb8 hB7;go_wp2_with fail
  refine WH.mono ?_;rintro e w9 ⟨rfl,hb9⟩;have hB9:=zAB hB8 hb9;go_wp2;go_ret;exact ⟨rfl,hB9⟩
theorem zCI {H:Type} {enc:TypeId × Value->H} {P:Program} {w:World} {base:Nat} {sp:Nat->Bool} {held:Bool} {fuel:Nat} {t e:TypeId} {n c:Nat} {cs:List Value} {ds:List (DataW H)} {p:List MemPlace}
  (ht:P.underlying t=some (.array n e)) (hce:P.cellsOf e=c) (hct:P.cellsOf t=n * c)
  (h:DataW.trod enc P w base sp held fuel t cs=some (.agg ds,p)):cs.length=n * c/\ds.length=n/\∀ i d,ds[i]? = some d->∃ fuel' p',DataW.trod enc P w base sp held fuel' e ((cs.drop (i * c)).take c)=some (d,p'):=by
 cases fuel with
 | zero=>simp [DataW.trod] at h
 | succ fuel =>
  simp only [DataW.trod,ht,hce,hct] at h;split at h
  ·rename_i hl
   obtain ⟨xs,hm,hx⟩:=Option.map_eq_some_iff.1 h;have hxs:xs.map (·.1)=ds:=by
    have:=congrArg Prod.fst hx;simpa using this
   have hxl:xs.length=n:=by simpa using Lib.mapM_length hm
   refine ⟨by simpa using hl,by rw [<-hxs];simpa using hxl,λi d hd=>?_⟩;have hi:i<n:=by
    have:=(List.getElem?_eq_some_iff.1 hd).1;rw [<-hxs,List.length_map] at this;omega
   obtain ⟨b,hb,hf⟩:=Lib.mapM_at hm i i (by simp [hi]);have:(xs.map (·.1))[i]? = some b.1:=by simp [hb]
   rw [hxs,hd] at this;obtain rfl:=Option.some.inj this;exact ⟨fuel,b.2,hf⟩
  ·cases h
theorem zMS (h:laidMet prog (("whittle/funcs.names",.agg (fnN.map λx=>.lit (.string x)))::rest) W):NmAt W:=by
 obtain ⟨ps,⟨g',t',cs,fuel,p,q,hg',ht',hvar,hd,_,_⟩,_⟩:=h;have hg:prog.globalNamed "whittle/funcs.names" = some 0:=by kernel_rfl
 have hty:(prog.globals[0]?).map (·.type)=some 178:=by kernel_rfl
 obtain rfl:=Option.some.inj (hg.symm.trans hg');obtain rfl:=Option.some.inj (hty.symm.trans ht');obtain ⟨h1,h2,h3⟩:=zCI (n:=63) (c:=1) (e:=9) underlying178 (by kernel_rfl) (by kernel_rfl) hd;intro j v hv;unfold nmR at hv;rw [List.getElem?_map] at hv;obtain ⟨x,hx,rfl⟩:=Option.map_eq_some_iff.1 hv;obtain ⟨fu,p',ht⟩:=h3 j (.lit (.string x)) (by rw [List.getElem?_map,hx];rfl);obtain ⟨s,e1,e2,_⟩:=DataW.trod_string underlying9 ht;simp only [Prod.mk.injEq,DataW.lit.injEq,Lit.string.injEq] at e2;rw [Nat.zero_add,World.var?_cell hg hvar j];have:cs.toList[j]? = some (.string s):=by
  have:=congrArg (·[0]?) e1;simpa [List.getElem?_take,List.getElem?_drop] using this
 rw [Array.getElem?_toList] at this;have es:s=⟨x.toArray⟩:=by
  apply ByteArray.ext
  apply Array.ext'
  exact e2.1.symm
 rw [this,es]
theorem zMM {s:ByteArray} {l:List UInt8} (h:s.data.toList=l):s=⟨l.toArray⟩:=by
 apply ByteArray.ext
 apply Array.ext'
 rw [h]
theorem zLU {α β:Type} (f:α->List β) (hf:∀ x,(f x).length=3):∀ (l:List α) (i:Nat) (hi:i<l.length) (r:Nat),r<3->(l.flatMap f)[i * 3+r]? = (f l[i])[r]?
 | [],i,hi,r,hr=>absurd hi (Nat.not_lt_zero _)
 | x::l,0,hi,r,hr=>by
  rw [List.flatMap_cons,List.getElem?_append_left (by rw [hf];omega)];simp
 | x::l,i+1,hi,r,hr=>by
  rw [List.flatMap_cons,List.getElem?_append_right (by rw [hf];omega),hf,show (i+1) * 3+r - 3=i * 3+r by omega];rw [zLU f hf l i (by simpa using hi) r hr];simp
theorem zL5 (h:laidMet prog (("whittle/tree.operators",.agg (Wt.opsT.map λx=>.agg [.lit (.int .i64 x.1),.lit (.string x.2.1),.lit (.int .i64 x.2.2)]))::rest) W):OpsAt W:=by
 obtain ⟨ps,⟨g',t',cs,fuel,p,q,hg',ht',hvar,hd,_,_⟩,_⟩:=h;have hg:prog.globalNamed "whittle/tree.operators" = some 1:=by kernel_rfl
 have hty:(prog.globals[1]?).map (·.type)=some 204:=by kernel_rfl
 obtain rfl:=Option.some.inj (hg.symm.trans hg');obtain rfl:=Option.some.inj (hty.symm.trans ht');obtain ⟨h1,h2,h3⟩:=zCI (n:=15) (c:=3) (e:=169) underlying204 (by kernel_rfl) (by kernel_rfl) hd;have c3:prog.cellsOf 3=1:=by kernel_rfl
 have c9:prog.cellsOf 9=1:=by kernel_rfl
 have key:∀ i x,Wt.opsT[i]? = some x->cs.toList[i * 3]? = some (.int .i64 x.1)/\cs.toList[i * 3+1]? = some (.string ⟨x.2.1.toArray⟩)/\cs.toList[i * 3+2]? = some (.int .i64 x.2.2):=by
  intro i x hx;obtain ⟨fu,p',ht⟩:=h3 i _ (by rw [List.getElem?_map,hx];rfl);obtain ⟨y0,y1,y2,n,e,-,t0,t1,t2⟩:=Deep.trod_struct3 underlying169 ht;simp only [Prod.mk.injEq,DataW.agg.injEq,List.cons.injEq,and_true] at e;obtain ⟨z0,f0,g0,_⟩:=DataW.trod_int underlying3 t0;obtain ⟨z1,f1,g1,_⟩:=DataW.trod_string underlying9 t1;obtain ⟨z2,f2,g2,_⟩:=DataW.trod_int underlying3 t2;subst g0 g1 g2;simp only [DataW.lit.injEq,Lit.int.injEq,Lit.string.injEq,true_and] at e;obtain ⟨⟨rfl,e1,rfl⟩,-⟩:=e;simp only [c3] at f0 f2;simp only [c9] at f1;have q0:=congrArg (·[0]?) f0;have q1:=congrArg (·[0]?) f1;have q2:=congrArg (·[0]?) f2;simp [List.getElem?_drop] at q0 q1 q2;refine ⟨?_,?_,?_⟩
  ·rw [Array.getElem?_toList];exact q0
  ·rw [Array.getElem?_toList,q1,zMM e1.symm]
  ·rw [Array.getElem?_toList];exact q2
 intro j v hv;rw [Nat.zero_add,World.var?_cell hg hvar j];have hj:j<45:=by
  have:=(List.getElem?_eq_some_iff.1 hv).1;have e:opsR.length=45:=rfl;omega
 have hi:j / 3<Wt.opsT.length:=by show j / 3<15;omega
 obtain ⟨k0,k1,k2⟩:=key (j / 3) _ (List.getElem?_eq_getElem hi);have hf:=zLU (λx:Int × List UInt8 × Int=>([.int .i64 x.1,.string ⟨x.2.1.toArray⟩,.int .i64 x.2.2]:List Value)) (λ_=>rfl) Wt.opsT (j / 3) hi;have hm:j % 3=0 \/ j % 3=1 \/ j % 3=2:=by omega
 rcases hm with hm | hm | hm
 ·have e:j=j / 3 * 3+0:=by omega
  have:=hf 0 (by decide);rw [<-e] at this;rw [show opsR[j]? = _ from this] at hv;rw [show j=j / 3 * 3 by omega,<-Array.getElem?_toList,k0];exact hv
 ·have e:j=j / 3 * 3+1:=by omega
  have:=hf 1 (by decide);rw [<-e] at this;rw [show opsR[j]? = _ from this] at hv;rw [e,<-Array.getElem?_toList,k1];exact hv
 ·have e:j=j / 3 * 3+2:=by omega
  have:=hf 2 (by decide);rw [<-e] at this;rw [show opsR[j]? = _ from this] at hv;rw [e,<-Array.getElem?_toList,k2];exact hv
open Go.ChangeShapes Go.WideShapes Go.ChangeAt Go.RowKit Go.Joins Go.Deep
theorem zMx:prog.cellsOf 31=6:=by kernel_rfl
theorem zMn:prog.cellsOf 29=2:=by kernel_rfl
theorem zMJ:prog.cellsOf 24=3:=by kernel_rfl
theorem zLo:prog.cellsOf 53=5:=by kernel_rfl
theorem zMQ:prog.cellsOf 54=1:=by kernel_rfl
theorem zMk:prog.cellsOf 56=23:=by kernel_rfl
theorem zM1:prog.bytesOf 56=208:=by kernel_rfl
theorem zMb:prog.bytesOf 3=8:=by kernel_rfl
theorem zDY:prog.cellsOf 3=1:=by kernel_rfl
theorem zM6:prog.cellsOf 4=1:=by kernel_rfl
theorem zMo:prog.cellsOf 9=1:=by kernel_rfl
abbrev zMt (v:Wt.Vl):List Value:=[.int .i64 v.k,.int .i64 v.n,.int .i64 v.d,.string v.t,.bool v.b,.int .i64 v.f]
section
variable {H:Type} {enc:TypeId × Value->H} {w:World} {base:Nat} {spare:Nat->Bool} {held:Bool}
theorem zG3 {f0 f1:Field} (he:prog.underlying 29=some (.struct #[f0,f1])) (o0:f0.offset=0) (t0:f0.type=3) (o1:f1.offset=1) (t1:f1.type=3) {fuel:Nat} {c0 c1:Value} {x:DataW H × List MemPlace} (h:DataW.trod enc prog w base spare held fuel 29 [c0,c1]=some x):∃ n d:Int,c0=.int .i64 n/\c1=.int .i64 d/\(-9223372036854775808<=n/\n<=9223372036854775807)/\(-9223372036854775808<=d/\d<=9223372036854775807):=by
 obtain ⟨xs,q,_,hD,_,hxl,hg⟩:=DataW.trod_struct he h;have hxl:xs.length=2:=hxl;have g0:=hg 0 f0 rfl;rw [o0,t0,zDY] at g0;have g1:=hg 1 f1 rfl;rw [o1,t1,zDY] at g1;match xs,hxl with
 | [x0,x1],_ =>
  simp only [List.drop_zero,List.take_succ_cons,List.take_zero,List.drop_succ_cons,List.getElem?_cons_zero,List.getElem?_cons_succ] at g0 g1;obtain ⟨n,e1,_,k1⟩:=DataW.trod_int underlying3 g0;obtain ⟨d,e2,_,k2⟩:=DataW.trod_int underlying3 g1;simp only [List.cons.injEq,and_true] at e1 e2;exact ⟨n,d,e1,e2,bounds_i64 k1,bounds_i64 k2⟩
theorem zIB {f0 f1 f2 f3 f4:Field} (he:prog.underlying 31=some (.struct #[f0,f1,f2,f3,f4])) (o0:f0.offset=0) (t0:f0.type=3) (o1:f1.offset=1) (t1:f1.type=29) (o2:f2.offset=3) (t2:f2.type=9) (o3:f3.offset=4) (t3:f3.type=4) (o4:f4.offset=5) (t4:f4.type=3) {fuel:Nat} {c0 c1 c2 c3 c4 c5:Value} {x:DataW H × List MemPlace}
  (h:DataW.trod enc prog w base spare held fuel 31 [c0,c1,c2,c3,c4,c5]=some x):∃ v:Wt.Vl,[c0,c1,c2,c3,c4,c5]=zMt v/\Wt.FitV v/\v.t.size ∈ x.1.weights prog 31:=by
 obtain ⟨xs,q,_,hD,_,hxl,hg⟩:=DataW.trod_struct he h;have hxl:xs.length=5:=hxl;have g0:=hg 0 f0 rfl;rw [o0,t0,zDY] at g0;have g1:=hg 1 f1 rfl;rw [o1,t1,zMn] at g1;have g2:=hg 2 f2 rfl;rw [o2,t2,zMo] at g2;have g3:=hg 3 f3 rfl;rw [o3,t3,zM6] at g3;have g4:=hg 4 f4 rfl;rw [o4,t4,zDY] at g4;match xs,hxl with
 | [x0,x1,x2,x3,x4],_ =>
  simp only [List.drop_zero,List.take_succ_cons,List.take_zero,List.drop_succ_cons,List.getElem?_cons_zero,List.getElem?_cons_succ] at g0 g1 g2 g3 g4;obtain ⟨k,e0,_,_⟩:=DataW.trod_int underlying3 g0;obtain ⟨n,d,e1,e2,k1,k2⟩:=zG3 underlying29 rfl rfl rfl rfl g1;obtain ⟨s,e3,e3d,k3⟩:=DataW.trod_string underlying9 g2;obtain ⟨b,e4,_⟩:=DataW.trod_bool underlying4 g3;obtain ⟨f,e5,_,_⟩:=DataW.trod_int underlying3 g4;simp only [List.cons.injEq,and_true] at e0 e3 e4 e5;refine ⟨⟨k,n,d,s,b,f⟩,by rw [e0,e1,e2,e3,e4,e5],⟨k1,k2,?_⟩,?_⟩
  ·unfold maxLen at k3;show s.size<=_
   omega
  ·rw [hD,e3d];simp only [List.map_cons,List.map_nil,DataW.weights,he,DataW.weightsEach,List.mem_append];exact Or.inr (Or.inr (Or.inl (by simp)))
theorem zIc {f0 f1 f2:Field} (he:prog.underlying 24=some (.struct #[f0,f1,f2])) (o0:f0.offset=0) (t0:f0.type=3) (o1:f1.offset=1) (t1:f1.type=3) (o2:f2.offset=2) (t2:f2.type=3) {fuel:Nat} {c0 c1 c2:Value} {x:DataW H × List MemPlace}
  (h:DataW.trod enc prog w base spare held fuel 24 [c0,c1,c2]=some x):∃ y:Wpl.Cl,[c0,c1,c2]=[Value.int .i64 y.s,.int .i64 y.r,.int .i64 y.c]:=by
 obtain ⟨xs,q,_,hD,_,hxl,hg⟩:=DataW.trod_struct he h;have hxl:xs.length=3:=hxl;have g0:=hg 0 f0 rfl;rw [o0,t0,zDY] at g0;have g1:=hg 1 f1 rfl;rw [o1,t1,zDY] at g1;have g2:=hg 2 f2 rfl;rw [o2,t2,zDY] at g2;match xs,hxl with
 | [x0,x1,x2],_ =>
  simp only [List.drop_zero,List.take_succ_cons,List.take_zero,List.drop_succ_cons,List.getElem?_cons_zero,List.getElem?_cons_succ] at g0 g1 g2;obtain ⟨n0,e0,_,_⟩:=DataW.trod_int underlying3 g0;obtain ⟨n1,e1,_,_⟩:=DataW.trod_int underlying3 g1;obtain ⟨n2,e2,_,_⟩:=DataW.trod_int underlying3 g2;simp only [List.cons.injEq,and_true] at e0 e1 e2;exact ⟨⟨n0,n1,n2⟩,by rw [e0,e1,e2]⟩
theorem zEc {f0 f1 f2 f3 f4:Field} (he:prog.underlying 53=some (.struct #[f0,f1,f2,f3,f4])) (o0:f0.offset=0) (t0:f0.type=3) (o1:f1.offset=1) (t1:f1.type=3) (o2:f2.offset=2) (t2:f2.type=3) (o3:f3.offset=3) (t3:f3.type=3) (o4:f4.offset=4) (t4:f4.type=3) {fuel:Nat} {c0 c1 c2 c3 c4:Value} {x:DataW H × List MemPlace}
  (h:DataW.trod enc prog w base spare held fuel 53 [c0,c1,c2,c3,c4]=some x):∃ y:Wpl.Ar,[c0,c1,c2,c3,c4]=[Value.int .i64 y.s,.int .i64 y.t,.int .i64 y.l,.int .i64 y.b,.int .i64 y.r]:=by
 obtain ⟨xs,q,_,hD,_,hxl,hg⟩:=DataW.trod_struct he h;have hxl:xs.length=5:=hxl;have g0:=hg 0 f0 rfl;rw [o0,t0,zDY] at g0;have g1:=hg 1 f1 rfl;rw [o1,t1,zDY] at g1;have g2:=hg 2 f2 rfl;rw [o2,t2,zDY] at g2;have g3:=hg 3 f3 rfl;rw [o3,t3,zDY] at g3;have g4:=hg 4 f4 rfl;rw [o4,t4,zDY] at g4;match xs,hxl with
 | [x0,x1,x2,x3,x4],_ =>
  simp only [List.drop_zero,List.take_succ_cons,List.take_zero,List.drop_succ_cons,List.getElem?_cons_zero,List.getElem?_cons_succ] at g0 g1 g2 g3 g4;obtain ⟨n0,e0,_,_⟩:=DataW.trod_int underlying3 g0;obtain ⟨n1,e1,_,_⟩:=DataW.trod_int underlying3 g1;obtain ⟨n2,e2,_,_⟩:=DataW.trod_int underlying3 g2;obtain ⟨n3,e3,_,_⟩:=DataW.trod_int underlying3 g3;obtain ⟨n4,e4,_,_⟩:=DataW.trod_int underlying3 g4;simp only [List.cons.injEq,and_true] at e0 e1 e2 e3 e4;exact ⟨⟨n0,n1,n2,n3,n4⟩,by rw [e0,e1,e2,e3,e4]⟩
theorem zIr {m:Nat} {p:Nat->Int->Prop} (h:∀ i,i<m->∃ v,p i v):∃ G:Nat->Int,∀ i,i<m->p i (G i):=by
 classical
 refine ⟨λi=>if hi:i<m then Classical.choose (h i hi) else 0,λi hi=>?_⟩;dsimp only;rw [dif_pos hi];exact Classical.choose_spec (h i hi)
theorem zFC {fuel:Nat} {c:Value} {x:DataW H × List MemPlace} (h:DataW.trod enc prog w 0 (λ_=>true) true fuel 54 [c]=some x) :
  ∃ (p:Option Addr) (m k:Nat) (tl:List Int),c=.slice p m k/\RdZ w (.slice p m k) tl/\(p=none->k=0)/\(tl.length=0 \/ ∃ n ∈ x.1.weights prog 54,tl.length<=n):=by
 rcases open_slice underlying54 h with ⟨hcs,hx⟩ | ⟨a,len,cap,m,n,D,Pl,hcs,hb,hl,hm,hmm,hx,hall⟩
 ·simp only [List.cons.injEq,and_true] at hcs;exact ⟨none,0,0,[],hcs,RdZ.nil w,λ_=>rfl,Or.inl rfl⟩
 ·simp only [List.cons.injEq,and_true] at hcs;simp only [if_true] at hmm;subst hmm;have each:∀ i,i<m->∃ z:Int,w.cell? (a.add i)=some (.int .i64 z):=by
   intro i hi;obtain ⟨cs',h1,h2⟩:=hall i hi;rw [zDY] at h1;obtain ⟨_,hlen,hcell⟩:=World.cells?_some h1;obtain ⟨z,rfl,_,_⟩:=DataW.trod_int underlying3 h2;have:=hcell 0 (by omega);rw [add_add] at this;refine ⟨z,?_⟩;simpa using this
  obtain ⟨G,hG⟩:=zIr each;have hlen:((List.range len).map G).length=len:=by simp
  refine ⟨some a,len,m,(List.range len).map G,hcs,⟨some a,m,by rw [hlen],λi hi=>?_⟩,(λe=>by cases e),Or.inr ⟨(len+(m - len)) * 8,?_,by rw [hlen];omega⟩⟩
  ·rw [hlen] at hi;have h1:=hG i (by omega);have s1:(a.add 0).spot=none:=World.cell?_spot (hG 0 (by omega));obtain ⟨b,off,spot⟩:=a;obtain rfl:spot=none:=s1;refine ⟨b,off,rfl,?_⟩;rw [add_plain] at h1;rw [h1];simp
  ·rw [hx];simp [DataW.weights,underlying54,zMb]
theorem zGk {f0 f1 f2 f3 f4 f5 f6 f7:Field} (he:prog.underlying 56=some (.struct #[f0,f1,f2,f3,f4,f5,f6,f7])) (o0:f0.offset=0) (t0:f0.type=3) (o1:f1.offset=1) (t1:f1.type=3) (o2:f2.offset=2) (t2:f2.type=3) (o3:f3.offset=3) (t3:f3.type=31) (o4:f4.offset=9) (t4:f4.type=24) (o5:f5.offset=12) (t5:f5.type=53) (o6:f6.offset=17) (t6:f6.type=53) (o7:f7.offset=22) (t7:f7.type=54) {fuel:Nat} {cs:List Value} {x:DataW H × List MemPlace} (hl:cs.length=23)
  (h:DataW.trod enc prog w 0 (λ_=>true) true fuel 56 cs=some x):∃ (y:Wc.In) (p:Option Addr) (m k:Nat) (tl:List Int),cs=zAD y (.slice p m k)/\RdZ w (.slice p m k) tl/\(p=none->k=0)/\Wt.FitV y.v/\y.v.t.size ∈ x.1.weights prog 56/\(tl.length=0 \/ ∃ n ∈ x.1.weights prog 56,tl.length<=n):=by
 match cs,hl with
 | [a0,a1,a2,a3,a4,a5,a6,a7,a8,a9,b0,b1,b2,b3,b4,b5,b6,b7,b8,b9,c0,c1,c2],_ =>
  obtain ⟨xs,q,_,hD,_,hxl,hg⟩:=DataW.trod_struct he h;have hxl:xs.length=8:=hxl;have g0:=hg 0 f0 rfl;rw [o0,t0,zDY] at g0;have g1:=hg 1 f1 rfl;rw [o1,t1,zDY] at g1;have g2:=hg 2 f2 rfl;rw [o2,t2,zDY] at g2;have g3:=hg 3 f3 rfl;rw [o3,t3,zMx] at g3;have g4:=hg 4 f4 rfl;rw [o4,t4,zMJ] at g4;have g5:=hg 5 f5 rfl;rw [o5,t5,zLo] at g5;have g6:=hg 6 f6 rfl;rw [o6,t6,zLo] at g6;have g7:=hg 7 f7 rfl;rw [o7,t7,zMQ] at g7;match xs,hxl with
  | [x0,x1,x2,x3,x4,x5,x6,x7],_ =>
   simp only [List.drop_zero,List.take_succ_cons,List.take_zero,List.drop_succ_cons,List.getElem?_cons_zero,List.getElem?_cons_succ] at g0 g1 g2 g3 g4 g5 g6 g7;obtain ⟨n0,e0,_,_⟩:=DataW.trod_int underlying3 g0;obtain ⟨n1,e1,_,_⟩:=DataW.trod_int underlying3 g1;obtain ⟨n2,e2,_,_⟩:=DataW.trod_int underlying3 g2;obtain ⟨v,e3,hv,hvt⟩:=zIB underlying31 rfl rfl rfl rfl rfl rfl rfl rfl rfl rfl g3;obtain ⟨ce,e4⟩:=zIc underlying24 rfl rfl rfl rfl rfl rfl g4;obtain ⟨ar,e5⟩:=zEc underlying53 rfl rfl rfl rfl rfl rfl rfl rfl rfl rfl g5;obtain ⟨pr,e6⟩:=zEc underlying53 rfl rfl rfl rfl rfl rfl rfl rfl rfl rfl g6;obtain ⟨p,m,k,tl,e7,hz,hnp,hn⟩:=zFC g7;simp only [List.cons.injEq,and_true] at e0 e1 e2 e3 e4 e5 e6;obtain ⟨v0,v1,v2,v3,v4,v5⟩:=e3;obtain ⟨p0,p1,p2⟩:=e4;obtain ⟨q0,q1,q2,q3,q4⟩:=e5;obtain ⟨r0,r1,r2,r3,r4⟩:=e6;have hw:∀ n,(n ∈ x3.1.weights prog 31 \/ n ∈ x7.1.weights prog 54)->n ∈ x.1.weights prog 56:=by
    intro n hn;rw [hD];simp only [List.map_cons,List.map_nil,DataW.weights,he,DataW.weightsEach,List.mem_append,t3,t7];rcases hn with hn | hn
    ·exact Or.inr (Or.inr (Or.inr (Or.inl hn)))
    ·exact Or.inr (Or.inr (Or.inr (Or.inr (Or.inr (Or.inr (Or.inr (Or.inl hn)))))))
   refine ⟨⟨n0,n1,n2,v,ce,ar,pr⟩,p,m,k,tl,by rw [e0,e1,e2,v0,v1,v2,v3,v4,v5,p0,p1,p2,q0,q1,q2,q3,q4,r0,r1,r2,r3,r4,e7];rfl,hz,hnp,hv,hw _ (Or.inl hvt),?_⟩;rcases hn with hn | ⟨n,hn,hle⟩
   ·exact Or.inl hn
   ·exact Or.inr ⟨n,hw _ (Or.inr hn),hle⟩
theorem zH7 {m:Nat} {p:Nat->(Wc.In × List Int)->Prop} (h:∀ i,i<m->∃ v,p i v):∃ G:Nat->(Wc.In × List Int),∀ i,i<m->p i (G i):=by
 classical
 refine ⟨λi=>if hi:i<m then Classical.choose (h i hi) else (⟨0,0,0,Wt.v0,⟨0,0,0⟩,⟨0,0,0,0,0⟩,⟨0,0,0,0,0⟩⟩,[]),λi hi=>?_⟩;dsimp only;rw [dif_pos hi];exact Classical.choose_spec (h i hi)
theorem zD0 (e:TypeId):∀ (l:List (DataW H)) (x:DataW H),x ∈ l->∀ n ∈ x.weights prog e,n ∈ DataW.weightsAll prog e l:=by
 intro l;induction l with
 | nil=>intro x hx;cases hx
 | cons y r ih =>
  intro x hx n hn;simp only [DataW.weightsAll,List.mem_append];rcases List.mem_cons.1 hx with rfl | hx
  ·exact Or.inl hn
  ·exact Or.inr (ih x hx n hn)
theorem zHz {W:World} {r:Reach} {b0:Nat} {v:Value} {d:DataW H} {p:List MemPlace}
  (hv:Value.okWide prog W r b0 36 v) (h:DataW.Trod enc prog W 0 (λ_=>true) true 36 v d p) :
  ∃ (L:List (Wc.In × List Int)),RdC W v L/\(∀ x ∈ L,Wt.FitV x.1.v) /\
   ∀ (ts0:List TypeId) (ds:List (DataW H)) (j:Nat),(DataW.weightsEach prog ts0 ds).all (· <= reachBytes)=true->ts0[j]? = some 36->ds[j]? = some d->L.length<=reachBytes/\∀ x ∈ L,x.2.length<=reachBytes/\x.1.v.t.size<=reachBytes:=by
 obtain ⟨a0,len,cap,rfl⟩:=okWide_slice underlying36 hv;obtain ⟨fuel,hg⟩:=h;rcases open_slice underlying36 hg with ⟨hcs,hx⟩ | ⟨a,len',cap',m,n,D,Pl,hcs,hb,hl,hm,hmm,hx,hall⟩
 ·simp [Value.cells] at hcs;obtain ⟨rfl,rfl,rfl⟩:=hcs;exact ⟨[],⟨none,0,rfl,λi hi=>absurd hi (Nat.not_lt_zero _)⟩,(λx hx=>by cases hx),λ_ _ _ _ _ _=>⟨by simp,λx hx=>by cases hx⟩⟩
 ·simp [Value.cells] at hcs;obtain ⟨rfl,rfl,rfl⟩:=hcs;simp only [if_true] at hmm;subst hmm;have each:∀ i,i<m->∃ y:Wc.In × List Int,(∃ p mm k,(∀ j u,(zAD y.1 (.slice p mm k))[j]? = some u->W.cell? (a.add (i * 23+j))=some u)/\RdZ W (.slice p mm k) y.2/\(p=none->k=0))/\Wt.FitV y.1.v/\y.1.v.t.size ∈ (D i).weights prog 56/\(y.2.length=0 \/ ∃ n ∈ (D i).weights prog 56,y.2.length<=n):=by
   intro i hi;obtain ⟨cs',h1,h2⟩:=hall i hi;rw [zMk] at h1;obtain ⟨_,hlen,hcell⟩:=World.cells?_some h1;obtain ⟨y,p,mm,k,tl,rfl,hz,hnp,hf,ht,hn⟩:=zGk underlying56 rfl rfl rfl rfl rfl rfl rfl rfl rfl rfl rfl rfl rfl rfl rfl rfl hlen h2;refine ⟨(y,tl),⟨p,mm,k,λj u hu=>?_,hz,hnp⟩,hf,ht,hn⟩;have hj:j<23:=by
    have:=(List.getElem?_eq_some_iff.1 hu).1;rw [hlen] at this;exact this
   have:=hcell j hj;rw [add_add] at this;rw [this,hu]
  obtain ⟨G,hG⟩:=zH7 each;have hlen:((List.range len).map G).length=len:=by simp
  have hsp:0<len->∃ b off,a=⟨b,off,none⟩:=by
   intro h0;obtain ⟨⟨p,mm,k,h1,_⟩,_⟩:=hG 0 (by omega);have h1:=h1 0 _ rfl;rw [Nat.zero_mul,Nat.zero_add] at h1;have s1:(a.add 0).spot=none:=World.cell?_spot h1;obtain ⟨b,off,spot⟩:=a;obtain rfl:spot=none:=s1;exact ⟨b,off,rfl⟩
  refine ⟨(List.range len).map G,⟨some a,m,by rw [hlen],λi hi=>?_⟩,λx hx=>?_,λts0 ds j hz h1 h2=>?_⟩
  ·rw [hlen] at hi;obtain ⟨b,off,rfl⟩:=hsp (by omega);have eG:((List.range len).map G)[i]'(by rw [hlen];exact hi)=G i:=by simp
   rw [eG];obtain ⟨⟨p,mm,k,q1,q2,q3⟩,_⟩:=hG i (by omega);refine ⟨b,off,p,mm,k,rfl,λj u hu=>?_,q2,q3⟩;have:=q1 j u hu;rw [add_plain] at this;rw [Nat.add_assoc];exact this
  ·obtain ⟨i,hi,rfl⟩:=List.mem_map.1 hx;exact (hG i (by have:=List.mem_range.1 hi;omega)).2.1
  ·have h3:ds[j]? = some (.slice ((List.range len).map D) ((List.range (m - len)).map λj=>D (len+j))):=by rw [h2];exact congrArg some (congrArg Prod.fst hx)
   have q:=sized_slice hz h1 h3 underlying36;rw [zM1] at q;simp only [List.length_map,List.length_range] at q;refine ⟨by rw [hlen];omega,λx hx=>?_⟩;obtain ⟨i,hi,rfl⟩:=List.mem_map.1 hx;have hi:=List.mem_range.1 hi;obtain ⟨_,_,ht,hn⟩:=hG i (by omega);have key:∀ n ∈ (D i).weights prog 56,n<=reachBytes:=by
    intro n hn;have hm:n ∈ (DataW.slice ((List.range len).map D) ((List.range (m - len)).map λj=>D (len+j)):DataW H).weights prog 36:=by
     simp only [DataW.weights,underlying36,List.mem_cons,List.mem_append];exact Or.inr (Or.inl (zD0 _ _ (D i) (List.mem_map.2 ⟨i,by simpa using hi,rfl⟩) _ hn))
    have:=List.all_eq_true.1 hz _ (DataW.weights_mem_each h1 h3 _ hm);simpa using this
   refine ⟨?_,key _ ht⟩;rcases hn with hn | ⟨n,hn,hle⟩
   ·rw [hn];exact Nat.zero_le _
   ·exact Nat.le_trans hle (key n hn)
end
