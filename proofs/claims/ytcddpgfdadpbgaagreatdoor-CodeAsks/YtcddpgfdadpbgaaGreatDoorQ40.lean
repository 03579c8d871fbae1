/- KWholeW, KWalkO, KLawChk, KLaid, KArg. -/
import Derived.Test.YtcddpgfdadpbgaaGreatDoorQ39
import Derived.Lib.LaidTab
import Derived.Deep.Strs
import Derived.Stop.LaidErr
import Derived.Deep.Slices
import Derived.Lib.SmallJoins
import Derived.SizedLaws
import Derived.Carry
import Derived.ProofKit
set_option maxHeartbeats 4000000
set_option maxRecDepth 100000
namespace Go.Proofs.YtcddpgfdadpbgaaGreatDoor
open Tryz
open Go.RowKit
set_option linter.unusedVariables false
theorem zDs {k:Nat} (h:k<=1000000):IntKind.i64.wrap ((k:Int)+2)=((k+2:Nat):Int)/\IntKind.i64.wrap ((k:Int)+1)=((k+1:Nat):Int):=⟨by rw [IntKind.wrap_i64];omega,by rw [IntKind.wrap_i64];omega⟩
theorem zFn (L:List (Wc.In × List Int)) (B G cap:Nat) (P:List (Wc.In × Value)) (vl:Value) (w:World) (hT:TwS w B G cap P L) (hR:RdC w vl L) (hl:L.length<=1000000) (ht:∀ x ∈ L,x.2.length<=1000000) :
  CR 10 #[.slice (some ⟨G,0,none⟩) L.length cap,vl] w (.bool true):=by
 have SZ:=zLP L _ vl w hT.rd hR hl ht;obtain ⟨a1,c1,rfl,r1⟩:=hR;have HR:Hid (RdC w (.slice a1 L.length c1) L):=⟨a1,c1,rfl,r1⟩
 have HTS:Hid (TwS w B G cap P L):=hT;have HTL:Hid (∀ x ∈ L,x.2.length<=1000000):=ht;obtain ⟨m1,m2⟩:=hT.marks;have hcp:=hT.cap;obtain ⟨n,hn⟩:∃ n,L.length=n:=⟨_,rfl⟩
 have HL:Hid (L.length=n):=hn;rw [hn] at m1 m2 hcp hl SZ ⊢;have HM1:Hid (w.cell? ⟨G,n * 23,none⟩=some (.int .i64 771)):=m1;have HM2:Hid (w.cell? ⟨G,(n+1) * 23,none⟩=some (.int .i64 772)):=m2;have HN:Hid (n<=1000000):=hl;have w1:IntKind.i64.wrap ((n:Int)+2)=((n+2:Nat):Int):=by rw [IntKind.wrap_i64];omega
 have w2:IntKind.i64.wrap ((n:Int)+1)=((n+1:Nat):Int):=by rw [IntKind.wrap_i64];omega
 have x1:=zAX (k:=n+2) (by omega);have x2:=zAX (k:=n+1) (by omega);have x3:=zAX (k:=n) (by omega);have y1:=x1.1;have y2:=x1.2;have y3:=x2.1;have y4:=x2.2;have y5:=x3.1;have y6:=x3.2;have k1:n+2<=cap:=hcp;have k2:((n+2:Nat):Int)<=(cap:Int):=Int.ofNat_le.2 hcp;have k3:(0:Int)<=((n+2:Nat):Int):=Int.natCast_nonneg _;have k4:(n:Int)<((n+2:Nat):Int):=by omega
 have k5:((n+1:Nat):Int)<((n+2:Nat):Int):=by omega
 have k6:(0:Int)<=(n:Int):=Int.natCast_nonneg _;have k7:(0:Int)<=((n+1:Nat):Int):=Int.natCast_nonneg _;clear r1 hT ht hn m1 m2 hcp hl x1 x2 x3;go_enter func10,ntmps10;go_wp2_with fail
 refine SZ.mono ?_;rintro e w1' ⟨rfl,hb1⟩;have m1:=zAC hb1 HM1.out;have m2:=zAC hb1 HM2.out;have HB1:Hid (Below w.heap.size w w1'):=hb1;clear SZ hb1;go_upto_region 4 with fail
 clear m1 m2 w1 w2 y1 y2 y3 y4 y5 y6 k1 k2 k3 k4 k5 k6 k7 HM1 HM2;go_wp2_with fail
 go_loopg [6] n (λgk x wr=>∃ i:Nat,x=.int .i64 i/\gk=n - i/\i<=n/\Hid (Below w.heap.size w wr))
 case atStart=>exact ⟨0,rfl,rfl,Nat.zero_le _,HB1⟩
 case round =>
  clear HB1;obtain ⟨i,rfl,hg,hi,HB⟩:=hrel;by_cases hlt:i<n
  ·have hli:(i:Int)<(n:Int):=by omega
   have hiz:(0:Int)<=(i:Int):=Int.natCast_nonneg _;have hil:i<L.length:=by rw [HL.out];exact hlt
   have hwi:IntKind.i64.wrap ((i:Int)+1)=(i:Int)+1:=by rw [IntKind.wrap_i64];have:=HN.out;omega
   have H0:=HR.out;rw [HL.out] at H0;obtain ⟨q1,d1,e1,f1⟩:=H0;simp only [Value.slice.injEq] at e1;obtain ⟨ex1,ex2,ex3⟩:=e1;subst ex1;subst ex3;clear ex2;obtain ⟨bb,off,p,mm,kk,rfl,t1,z1,_⟩:=f1 i hil;obtain ⟨g,c,hr,ho⟩:=HTS.out.at' hil;obtain ⟨y,tl,hyt⟩:∃ y tl,L[i]=(y,tl):=⟨_,_,rfl⟩
   have htl:=HTL.out L[i] (List.getElem_mem _);rw [hyt] at t1 z1 hr ho htl;simp only at t1 z1 hr ho htl;have hmm:mm=tl.length:=by
    obtain ⟨_,_,e,_⟩:=z1;simp only [Value.slice.injEq] at e;exact e.2.1
   obtain ⟨c1',c2',hcap⟩:=zET ho;rw [<-hmm] at c1' c2' hcap htl hr;have b1:=zAC HB.out (t1 22 _ rfl);have b2:=zAC HB.out (hr 22 _ rfl);have HB3:Hid (wr.cell? ⟨g,mm,none⟩=some (.int .i64 771)):=zAC HB.out c1';have HB4:Hid (wr.cell? ⟨g,mm+1,none⟩=some (.int .i64 772)):=zAC HB.out c2';have HTM:Hid (mm<=1000000):=htl;have HCP:Hid (mm+2<=c):=hcap;clear f1 hyt hil htl t1 z1 hr ho hmm c1' c2' hcap;go_upto_region 8 with fail
   clear b1;have k0:mm+2<=c:=HCP.out;have k1:((mm+2:Nat):Int)<=(c:Int):=Int.ofNat_le.2 k0;have k3:(0:Int)<=((mm+2:Nat):Int):=Int.natCast_nonneg _;have y1:=(zAX (k:=mm+2) (Nat.le_trans (Nat.add_le_add_right HTM.out 2) (by decide))).1;have y2:=(zAX (k:=mm+2) (Nat.le_trans (Nat.add_le_add_right HTM.out 2) (by decide))).2;have w1:=(zDs HTM.out).1;go_upto_region 9 with fail
   clear b2 k0 k1 k3 y1 y2 w1;have b3:=HB3.out;have b4:=HB4.out;have k4:(mm:Int)<((mm+2:Nat):Int):=by omega
   have k5:((mm+1:Nat):Int)<((mm+2:Nat):Int):=by omega
   have k6:(0:Int)<=(mm:Int):=Int.natCast_nonneg _;have k7:(0:Int)<=((mm+1:Nat):Int):=Int.natCast_nonneg _;have y3:=(zAX (k:=mm+1) (Nat.le_trans (Nat.add_le_add_right HTM.out 1) (by decide))).1;have y4:=(zAX (k:=mm+1) (Nat.le_trans (Nat.add_le_add_right HTM.out 1) (by decide))).2;have y5:=(zAX (k:=mm) (Nat.le_trans HTM.out (by decide))).1;have y6:=(zAX (k:=mm) (Nat.le_trans HTM.out (by decide))).2;have w2:=(zDs HTM.out).2;go_wp2_with fail
   go_roundg (n - (i+1))
   case rel=>exact ⟨i+1,by simp,rfl,hlt,HB⟩
   case measure=>omega
  ·have hli:¬ (i:Int)<(n:Int):=by omega
   go_wp2;go_ret;exact ⟨rfl,HB.out⟩
def wgt:Int->List (Wc.In × List Int)->Int
 | n,[]=>n
 | n,x::r=>if n<=20000 then wgt (n+((x.2.length:Int)+(x.1.v.t.size:Int))) r else n
theorem zEa (L:List (Wc.In × List Int)) (v:Value) (w:World) (h:RdC w v L) (hl:True->L.length<=2000000000000000000) (ht:∀ x ∈ L,x.2.length<=2000000000000000000/\x.1.v.t.size<=2000000000000000000) :
  CR 6 #[v] w (.int .i64 (wgt L.length L)):=by
 obtain ⟨a1,c1,rfl,r1⟩:=h;have H1:Hid (RdC w (.slice a1 L.length c1) L):=⟨a1,c1,rfl,r1⟩
 have HT:Hid (∀ x ∈ L,x.2.length<=2000000000000000000/\x.1.v.t.size<=2000000000000000000):=ht;obtain ⟨q,hq⟩:∃ q,wgt L.length L=q:=⟨_,rfl⟩
 have HQ:Hid (wgt L.length (L.drop 0)=q):=by show _=_;rw [List.drop_zero];exact hq
 rw [hq];obtain ⟨n,hn⟩:∃ n,L.length=n:=⟨_,rfl⟩
 rw [hn] at hl HQ ⊢;clear r1 ht hq;go_enter func6,ntmps6;go_wp2_with fail
 go_loopg [3,4] n (λgk y x wr=>∃ (i:Nat) (m:Int),x=.int .i64 i/\y=.int .i64 m/\gk=n - i/\i<=n/\0<=m/\Hid (wgt m (L.drop i)=q)/\Below w.heap.size w wr)
 case atStart=>exact ⟨0,(n:Int),rfl,rfl,rfl,Nat.zero_le _,by omega,HQ,Below.refl _ _⟩
 case round =>
  clear HQ;obtain ⟨i,m,rfl,rfl,hg,hi,hm0,HM,hb⟩:=hrel;by_cases hlt:i<n
  ·have hli:(i:Int)<(n:Int):=by omega
   have ed:L.drop i=L[i]::L.drop (i+1):=List.drop_eq_getElem_cons (by omega);by_cases hm:m<=20000
   ·have hwi:IntKind.i64.wrap ((i:Int)+1)=(i:Int)+1:=by rw [IntKind.wrap_i64];have:=hl trivial;omega
    obtain ⟨q1,d1,e1,f1⟩:=H1.out.below hb;simp only [Value.slice.injEq,true_and] at e1;obtain ⟨rfl,rfl⟩:=e1;obtain ⟨b1,o1,p1,m1,k1,rfl,t1,y1,_⟩:=f1 i (by omega);obtain ⟨hs1,hs2⟩:=HT.out (L[i]) (List.getElem_mem _);have HM2:Hid (wgt (m+(((L[i]).2.length:Int)+((L[i]).1.v.t.size:Int))) (L.drop (i+1))=q):=by
     have:=HM.out;rw [ed,wgt,if_pos hm] at this;exact this
    obtain ⟨p3,k3,e3,-⟩:=y1;simp only [Value.slice.injEq] at e3;obtain ⟨-,rfl,-⟩:=e3;have x22:wr.cell? ⟨b1,o1+i * 23+22,none⟩=some (.slice p1 (L[i]).2.length k1):=t1 22 _ rfl;have x6:wr.cell? ⟨b1,o1+i * 23+6,none⟩=some (.string (L[i]).1.v.t):=t1 6 _ rfl;have x33:wr.cell? ⟨b1,o1+i * 23+3+3,none⟩=some (.string (L[i]).1.v.t):=x6;generalize (L[i]).2.length=u at *;generalize (L[i]).1.v.t=s at *;have w1:IntKind.i64.wrap ((u:Int)+(s.size:Int))=(u:Int)+(s.size:Int):=by rw [IntKind.wrap_i64];omega
    have w2:IntKind.i64.wrap (m+((u:Int)+(s.size:Int)))=m+((u:Int)+(s.size:Int)):=by rw [IntKind.wrap_i64];omega
    have hp:0<=m+((u:Int)+(s.size:Int)):=by omega
    clear f1 t1 hs1 hs2 HM ed;go_upto_region 5 with fail
    go_quiet (fail)
    go_wp2_with fail
    go_roundg (n - (i+1))
    case rel=>exact ⟨i+1,_,by simp,rfl,rfl,hlt,hp,HM2,(clB hb)⟩
    case measure=>omega
   ·have e:m=q:=by
     have:=HM.out;rw [ed,wgt,if_neg hm] at this;exact this
    subst e;clear HM ed;go_wp2;go_ret;exact ⟨rfl,hb⟩
  ·have hli:¬ (i:Int)<(n:Int):=by omega
   have e:m=q:=by
    have:=HM.out;rw [List.drop_eq_nil_of_le (by omega)] at this;exact this
   subst e;clear HM;go_wp2;go_ret;exact ⟨rfl,hb⟩
theorem zIO:∀ (L:List (Wc.In × List Int)) (n:Int),n<=wgt n L
 | [],n=>Int.le_refl _
 | x::r,n=>by
  unfold wgt;split
  ·have:=zIO r (n+((x.2.length:Int)+(x.1.v.t.size:Int)));omega
  ·exact Int.le_refl _
theorem zIS:∀ (L:List (Wc.In × List Int)) (n:Int),0<=n->wgt n L<=20000->n<=20000/\∀ x ∈ L,x.2.length<=20000
 | [],n,_,h=>⟨h,λx hx=>by cases hx⟩
 | x::r,n,h0,h=>by
  unfold wgt at h;split at h
  ·rename_i hn
   have hg:=zIO r (n+((x.2.length:Int)+(x.1.v.t.size:Int)));obtain ⟨_,h2⟩:=zIS r _ (by omega) h;refine ⟨hn,λz hz=>?_⟩;rcases List.mem_cons.1 hz with rfl | hz
   ·omega
   ·exact h2 z hz
  ·rename_i hn
   exact absurd h hn
theorem zEL (L:List (Wc.In × List Int)) (v:Value) (w:World) (h:RdC w v L) (hl:True->L.length<=2000000000000000000) (ht:∀ x ∈ L,x.2.length<=2000000000000000000/\x.1.v.t.size<=2000000000000000000) (hF:∀ x ∈ L,Wt.FitV x.1.v) (hN:NmAt w) :
  CR 3 #[v] w (.bool true):=by
 have AB:=zHu w hN;have HWE:Hid (∀ W:World,Below w.heap.size w W->Calls prog 6 #[v] W λe w'=>e=.returned (.int .i64 (wgt L.length L))/\Below W.heap.size W w'):=λW hb=>zEa L v W (h.below hb) hl ht
 have HR:Hid (RdC w v L):=h;have HF:Hid (∀ x ∈ L,Wt.FitV x.1.v):=hF;have HN:Hid (NmAt w):=hN;have HLE:Hid (wgt L.length L<=20000->L.length<=1000000/\∀ x ∈ L,x.2.length<=1000000):=λhw=>by
  obtain ⟨a,b⟩:=zIS L L.length (by omega) hw;exact ⟨by omega,λx hx=>by have:=b x hx;omega⟩
 obtain ⟨q,hq⟩:∃ q,wgt L.length L=q:=⟨_,rfl⟩
 rw [hq] at HWE HLE;clear hq h hl ht hF hN;go_enter func3,ntmps3;go_wp2_with fail
 refine AB.mono ?_;rintro e w1 ⟨rfl,hb1⟩;have WE:=HWE.out w1 hb1;clear AB HWE;go_wp2_with fail
 refine WE.mono ?_;rintro e w2 ⟨rfl,hb2⟩;have hB2:=zAB hb1 hb2;clear WE hb1 hb2;by_cases hw:20000<q
 ·have hwb:decide (20000<q)=true:=by simp [hw]
  go_wp2;go_ret;exact ⟨rfl,hB2⟩
 ·have hwb:decide (20000<q)=false:=by simp [hw]
  obtain ⟨hlen,hto⟩:=HLE.out (by omega);have HLN:Hid (L.length<=1000000/\∀ x ∈ L,x.2.length<=1000000):=⟨hlen,hto⟩
  have TW:=zGb L v w2 (HR.out.below hB2) hlen hto;clear hlen hto HLE;go_wp2_with fail
  refine TW.mono ?_;rintro e w3 ⟨⟨G,cap,B,P,rfl,hBw,own,tw⟩,hb3⟩;have hB3:=zAB hB2 hb3;have HTS:Hid (TwS w3 B G cap P L):=⟨own,tw⟩
  have CK:=zB5 L (.slice (some ⟨G,0,none⟩) L.length cap) w3 HTS.out.rd HLN.out.1 (λx hx=>⟨HLN.out.2 x hx,HF.out x hx⟩) (HN.out.below hB3);clear TW own tw hBw hb3 hB2;obtain ⟨c,hc⟩:∃ c:Int,(if Wc.chkP rgt L=true then 0 else 85)=c:=⟨_,rfl⟩
  have HC:Hid ((if Wc.chkP rgt L=true then (0:Int) else 85)=c):=hc;rw [hc] at CK;clear hc;go_wp2_with fail
  refine CK.mono ?_;rintro e w4 ⟨rfl,hb4⟩;have hB4:=zAB hB3 hb4;have HTS4:Hid (TwS w4 B G cap P L):=HTS.out.below hb4;have RC:=zEK L v w4 (HR.out.below hB4) HLN.out.1 (λx hx=>⟨HLN.out.2 x hx,HF.out x hx⟩);rw [HC.out] at RC;clear CK HTS hb4 hB3 HC;go_wp2_with fail
  refine RC.mono ?_;rintro e w5 ⟨rfl,hb5⟩;have hB5:=zAB hB4 hb5;have WH:=zFn L B G cap P v w5 (HTS4.out.below hb5) (HR.out.below hB5) HLN.out.1 HLN.out.2;have hcc:(c == c)=true:=by simp
  clear RC HTS4 hb5 hB4;go_wp2_with fail
  refine WH.mono ?_;rintro e w6 ⟨rfl,hb6⟩;have hB6:=zAB hB5 hb6;go_wp2;go_ret;exact ⟨rfl,hB6⟩
theorem zDW {H:Type} {enc:TypeId × Value->H} {P:Program} {w:World} {base:Nat} {sp:Nat->Bool} {held:Bool} {fuel:Nat} {t e:TypeId} {n c:Nat} {cs:List Value} {ds:List (DataW H)} {p:List MemPlace}
  (ht:P.underlying t=some (.array n e)) (hce:P.cellsOf e=c) (hct:P.cellsOf t=n * c)
  (h:DataW.trod enc P w base sp held fuel t cs=some (.agg ds,p)):cs.length=n * c/\ds.length=n/\∀ i d,ds[i]? = some d->∃ fuel' p',DataW.trod enc P w base sp held fuel' e ((cs.drop (i * c)).take c)=some (d,p'):=by
 cases fuel with
 | zero=>simp [DataW.trod] at h
 | succ fuel =>
  simp only [DataW.trod,ht,hce,hct] at h;split at h
  ·rename_i hl
   obtain ⟨xs,hm,hx⟩:=Option.map_eq_some_iff.1 h;have hxs:xs.map (·.1)=ds:=by
    have:=congrArg Prod.fst hx;simpa using this
   have hxl:xs.length=n:=by simpa using Lib.mapM_length hm
   refine ⟨by simpa using hl,by rw [<-hxs];simpa using hxl,λi d hd=>?_⟩;have hi:i<n:=by
    have:=(List.getElem?_eq_some_iff.1 hd).1;rw [<-hxs,List.length_map] at this;omega
   obtain ⟨b,hb,hf⟩:=Lib.mapM_at hm i i (by simp [hi]);have:(xs.map (·.1))[i]? = some b.1:=by simp [hb]
   rw [hxs,hd] at this;obtain rfl:=Option.some.inj this;exact ⟨fuel,b.2,hf⟩
  ·cases h
theorem zL8 {W:World} {rest:List (String × DataW Unit)} (h:laidMet prog (("whittle/funcs.names",.agg (fnN.map λx=>.lit (.string x)))::rest) W):NmAt W:=by
 obtain ⟨ps,⟨g',t',cs,fuel,p,q,hg',ht',hvar,hd,_,_⟩,_⟩:=h;have hg:prog.globalNamed "whittle/funcs.names" = some 0:=by kernel_rfl
 have hty:(prog.globals[0]?).map (·.type)=some 174:=by kernel_rfl
 obtain rfl:=Option.some.inj (hg.symm.trans hg');obtain rfl:=Option.some.inj (hty.symm.trans ht');obtain ⟨h1,h2,h3⟩:=zDW (n:=63) (c:=1) (e:=9) underlying174 (by kernel_rfl) (by kernel_rfl) hd;intro j v hv;unfold nmR at hv;rw [List.getElem?_map] at hv;obtain ⟨x,hx,rfl⟩:=Option.map_eq_some_iff.1 hv;obtain ⟨fu,p',ht⟩:=h3 j (.lit (.string x)) (by rw [List.getElem?_map,hx];rfl);obtain ⟨s,e1,e2,_⟩:=DataW.trod_string underlying9 ht;simp only [Prod.mk.injEq,DataW.lit.injEq,Lit.string.injEq] at e2;rw [Nat.zero_add,World.var?_cell hg hvar j];have:cs.toList[j]? = some (.string s):=by
  have:=congrArg (·[0]?) e1;simpa [List.getElem?_take,List.getElem?_drop] using this
 rw [Array.getElem?_toList] at this;have es:s=⟨x.toArray⟩:=by
  apply ByteArray.ext
  apply Array.ext'
  exact e2.1.symm
 rw [this,es]
open Go.ChangeShapes Go.WideShapes Go.ChangeAt Go.RowKit Go.Joins Go.Deep
theorem zMG:prog.cellsOf 40=6:=by kernel_rfl
theorem zML:prog.cellsOf 38=2:=by kernel_rfl
theorem zL2:prog.cellsOf 47=3:=by kernel_rfl
theorem zLB:prog.cellsOf 49=5:=by kernel_rfl
theorem zL4:prog.cellsOf 50=1:=by kernel_rfl
theorem zMN:prog.cellsOf 52=23:=by kernel_rfl
theorem zLZ:prog.bytesOf 52=208:=by kernel_rfl
theorem zL6:prog.bytesOf 3=8:=by kernel_rfl
theorem zDC:prog.cellsOf 3=1:=by kernel_rfl
theorem zL9:prog.cellsOf 4=1:=by kernel_rfl
theorem zMD:prog.cellsOf 9=1:=by kernel_rfl
abbrev zMJ (v:Wt.Vl):List Value:=[.int .i64 v.k,.int .i64 v.n,.int .i64 v.d,.string v.t,.bool v.b,.int .i64 v.f]
section
variable {H:Type} {enc:TypeId × Value->H} {w:World} {base:Nat} {spare:Nat->Bool} {held:Bool}
theorem zFW {f0 f1:Field} (he:prog.underlying 38=some (.struct #[f0,f1])) (o0:f0.offset=0) (t0:f0.type=3) (o1:f1.offset=1) (t1:f1.type=3) {fuel:Nat} {c0 c1:Value} {x:DataW H × List MemPlace} (h:DataW.trod enc prog w base spare held fuel 38 [c0,c1]=some x):∃ n d:Int,c0=.int .i64 n/\c1=.int .i64 d/\(-9223372036854775808<=n/\n<=9223372036854775807)/\(-9223372036854775808<=d/\d<=9223372036854775807):=by
 obtain ⟨xs,q,_,hD,_,hxl,hg⟩:=DataW.trod_struct he h;have hxl:xs.length=2:=hxl;have g0:=hg 0 f0 rfl;rw [o0,t0,zDC] at g0;have g1:=hg 1 f1 rfl;rw [o1,t1,zDC] at g1;match xs,hxl with
 | [x0,x1],_ =>
  simp only [List.drop_zero,List.take_succ_cons,List.take_zero,List.drop_succ_cons,List.getElem?_cons_zero,List.getElem?_cons_succ] at g0 g1;obtain ⟨n,e1,_,k1⟩:=DataW.trod_int underlying3 g0;obtain ⟨d,e2,_,k2⟩:=DataW.trod_int underlying3 g1;simp only [List.cons.injEq,and_true] at e1 e2;exact ⟨n,d,e1,e2,bounds_i64 k1,bounds_i64 k2⟩
theorem zGX {f0 f1 f2 f3 f4:Field} (he:prog.underlying 40=some (.struct #[f0,f1,f2,f3,f4])) (o0:f0.offset=0) (t0:f0.type=3) (o1:f1.offset=1) (t1:f1.type=38) (o2:f2.offset=3) (t2:f2.type=9) (o3:f3.offset=4) (t3:f3.type=4) (o4:f4.offset=5) (t4:f4.type=3) {fuel:Nat} {c0 c1 c2 c3 c4 c5:Value} {x:DataW H × List MemPlace}
  (h:DataW.trod enc prog w base spare held fuel 40 [c0,c1,c2,c3,c4,c5]=some x):∃ v:Wt.Vl,[c0,c1,c2,c3,c4,c5]=zMJ v/\Wt.FitV v/\v.t.size ∈ x.1.weights prog 40:=by
 obtain ⟨xs,q,_,hD,_,hxl,hg⟩:=DataW.trod_struct he h;have hxl:xs.length=5:=hxl;have g0:=hg 0 f0 rfl;rw [o0,t0,zDC] at g0;have g1:=hg 1 f1 rfl;rw [o1,t1,zML] at g1;have g2:=hg 2 f2 rfl;rw [o2,t2,zMD] at g2;have g3:=hg 3 f3 rfl;rw [o3,t3,zL9] at g3;have g4:=hg 4 f4 rfl;rw [o4,t4,zDC] at g4;match xs,hxl with
 | [x0,x1,x2,x3,x4],_ =>
  simp only [List.drop_zero,List.take_succ_cons,List.take_zero,List.drop_succ_cons,List.getElem?_cons_zero,List.getElem?_cons_succ] at g0 g1 g2 g3 g4;obtain ⟨k,e0,_,_⟩:=DataW.trod_int underlying3 g0;obtain ⟨n,d,e1,e2,k1,k2⟩:=zFW underlying38 rfl rfl rfl rfl g1;obtain ⟨s,e3,e3d,k3⟩:=DataW.trod_string underlying9 g2;obtain ⟨b,e4,_⟩:=DataW.trod_bool underlying4 g3;obtain ⟨f,e5,_,_⟩:=DataW.trod_int underlying3 g4;simp only [List.cons.injEq,and_true] at e0 e3 e4 e5;refine ⟨⟨k,n,d,s,b,f⟩,by rw [e0,e1,e2,e3,e4,e5],⟨k1,k2,?_⟩,?_⟩
  ·unfold maxLen at k3;show s.size<=_
   omega
  ·rw [hD,e3d];simp only [List.map_cons,List.map_nil,DataW.weights,he,DataW.weightsEach,List.mem_append];exact Or.inr (Or.inr (Or.inl (by simp)))
theorem zGn {f0 f1 f2:Field} (he:prog.underlying 47=some (.struct #[f0,f1,f2])) (o0:f0.offset=0) (t0:f0.type=3) (o1:f1.offset=1) (t1:f1.type=3) (o2:f2.offset=2) (t2:f2.type=3) {fuel:Nat} {c0 c1 c2:Value} {x:DataW H × List MemPlace}
  (h:DataW.trod enc prog w base spare held fuel 47 [c0,c1,c2]=some x):∃ y:Wpl.Cl,[c0,c1,c2]=[Value.int .i64 y.s,.int .i64 y.r,.int .i64 y.c]:=by
 obtain ⟨xs,q,_,hD,_,hxl,hg⟩:=DataW.trod_struct he h;have hxl:xs.length=3:=hxl;have g0:=hg 0 f0 rfl;rw [o0,t0,zDC] at g0;have g1:=hg 1 f1 rfl;rw [o1,t1,zDC] at g1;have g2:=hg 2 f2 rfl;rw [o2,t2,zDC] at g2;match xs,hxl with
 | [x0,x1,x2],_ =>
  simp only [List.drop_zero,List.take_succ_cons,List.take_zero,List.drop_succ_cons,List.getElem?_cons_zero,List.getElem?_cons_succ] at g0 g1 g2;obtain ⟨n0,e0,_,_⟩:=DataW.trod_int underlying3 g0;obtain ⟨n1,e1,_,_⟩:=DataW.trod_int underlying3 g1;obtain ⟨n2,e2,_,_⟩:=DataW.trod_int underlying3 g2;simp only [List.cons.injEq,and_true] at e0 e1 e2;exact ⟨⟨n0,n1,n2⟩,by rw [e0,e1,e2]⟩
theorem zDt {f0 f1 f2 f3 f4:Field} (he:prog.underlying 49=some (.struct #[f0,f1,f2,f3,f4])) (o0:f0.offset=0) (t0:f0.type=3) (o1:f1.offset=1) (t1:f1.type=3) (o2:f2.offset=2) (t2:f2.type=3) (o3:f3.offset=3) (t3:f3.type=3) (o4:f4.offset=4) (t4:f4.type=3) {fuel:Nat} {c0 c1 c2 c3 c4:Value} {x:DataW H × List MemPlace}
  (h:DataW.trod enc prog w base spare held fuel 49 [c0,c1,c2,c3,c4]=some x):∃ y:Wpl.Ar,[c0,c1,c2,c3,c4]=[Value.int .i64 y.s,.int .i64 y.t,.int .i64 y.l,.int .i64 y.b,.int .i64 y.r]:=by
 obtain ⟨xs,q,_,hD,_,hxl,hg⟩:=DataW.trod_struct he h;have hxl:xs.length=5:=hxl;have g0:=hg 0 f0 rfl;rw [o0,t0,zDC] at g0;have g1:=hg 1 f1 rfl;rw [o1,t1,zDC] at g1;have g2:=hg 2 f2 rfl;rw [o2,t2,zDC] at g2;have g3:=hg 3 f3 rfl;rw [o3,t3,zDC] at g3;have g4:=hg 4 f4 rfl;rw [o4,t4,zDC] at g4;match xs,hxl with
 | [x0,x1,x2,x3,x4],_ =>
  simp only [List.drop_zero,List.take_succ_cons,List.take_zero,List.drop_succ_cons,List.getElem?_cons_zero,List.getElem?_cons_succ] at g0 g1 g2 g3 g4;obtain ⟨n0,e0,_,_⟩:=DataW.trod_int underlying3 g0;obtain ⟨n1,e1,_,_⟩:=DataW.trod_int underlying3 g1;obtain ⟨n2,e2,_,_⟩:=DataW.trod_int underlying3 g2;obtain ⟨n3,e3,_,_⟩:=DataW.trod_int underlying3 g3;obtain ⟨n4,e4,_,_⟩:=DataW.trod_int underlying3 g4;simp only [List.cons.injEq,and_true] at e0 e1 e2 e3 e4;exact ⟨⟨n0,n1,n2,n3,n4⟩,by rw [e0,e1,e2,e3,e4]⟩
theorem zHD {m:Nat} {p:Nat->Int->Prop} (h:∀ i,i<m->∃ v,p i v):∃ G:Nat->Int,∀ i,i<m->p i (G i):=by
 classical
 refine ⟨λi=>if hi:i<m then Classical.choose (h i hi) else 0,λi hi=>?_⟩;dsimp only;rw [dif_pos hi];exact Classical.choose_spec (h i hi)
theorem zEU {fuel:Nat} {c:Value} {x:DataW H × List MemPlace} (h:DataW.trod enc prog w 0 (λ_=>true) true fuel 50 [c]=some x) :
  ∃ (p:Option Addr) (m k:Nat) (tl:List Int),c=.slice p m k/\RdZ w (.slice p m k) tl/\(p=none->k=0)/\(tl.length=0 \/ ∃ n ∈ x.1.weights prog 50,tl.length<=n):=by
 rcases open_slice underlying50 h with ⟨hcs,hx⟩ | ⟨a,len,cap,m,n,D,Pl,hcs,hb,hl,hm,hmm,hx,hall⟩
 ·simp only [List.cons.injEq,and_true] at hcs;exact ⟨none,0,0,[],hcs,RdZ.nil w,λ_=>rfl,Or.inl rfl⟩
 ·simp only [List.cons.injEq,and_true] at hcs;simp only [if_true] at hmm;subst hmm;have each:∀ i,i<m->∃ z:Int,w.cell? (a.add i)=some (.int .i64 z):=by
   intro i hi;obtain ⟨cs',h1,h2⟩:=hall i hi;rw [zDC] at h1;obtain ⟨_,hlen,hcell⟩:=World.cells?_some h1;obtain ⟨z,rfl,_,_⟩:=DataW.trod_int underlying3 h2;have:=hcell 0 (by omega);rw [add_add] at this;refine ⟨z,?_⟩;simpa using this
  obtain ⟨G,hG⟩:=zHD each;have hlen:((List.range len).map G).length=len:=by simp
  refine ⟨some a,len,m,(List.range len).map G,hcs,⟨some a,m,by rw [hlen],λi hi=>?_⟩,(λe=>by cases e),Or.inr ⟨(len+(m - len)) * 8,?_,by rw [hlen];omega⟩⟩
  ·rw [hlen] at hi;have h1:=hG i (by omega);have s1:(a.add 0).spot=none:=World.cell?_spot (hG 0 (by omega));obtain ⟨b,off,spot⟩:=a;obtain rfl:spot=none:=s1;refine ⟨b,off,rfl,?_⟩;rw [add_plain] at h1;rw [h1];simp
  ·rw [hx];simp [DataW.weights,underlying50,zL6]
theorem zFg {f0 f1 f2 f3 f4 f5 f6 f7:Field} (he:prog.underlying 52=some (.struct #[f0,f1,f2,f3,f4,f5,f6,f7])) (o0:f0.offset=0) (t0:f0.type=3) (o1:f1.offset=1) (t1:f1.type=3) (o2:f2.offset=2) (t2:f2.type=3) (o3:f3.offset=3) (t3:f3.type=40) (o4:f4.offset=9) (t4:f4.type=47) (o5:f5.offset=12) (t5:f5.type=49) (o6:f6.offset=17) (t6:f6.type=49) (o7:f7.offset=22) (t7:f7.type=50) {fuel:Nat} {cs:List Value} {x:DataW H × List MemPlace} (hl:cs.length=23)
  (h:DataW.trod enc prog w 0 (λ_=>true) true fuel 52 cs=some x):∃ (y:Wc.In) (p:Option Addr) (m k:Nat) (tl:List Int),cs=zAD y (.slice p m k)/\RdZ w (.slice p m k) tl/\(p=none->k=0)/\Wt.FitV y.v/\y.v.t.size ∈ x.1.weights prog 52/\(tl.length=0 \/ ∃ n ∈ x.1.weights prog 52,tl.length<=n):=by
 match cs,hl with
 | [a0,a1,a2,a3,a4,a5,a6,a7,a8,a9,b0,b1,b2,b3,b4,b5,b6,b7,b8,b9,c0,c1,c2],_ =>
  obtain ⟨xs,q,_,hD,_,hxl,hg⟩:=DataW.trod_struct he h;have hxl:xs.length=8:=hxl;have g0:=hg 0 f0 rfl;rw [o0,t0,zDC] at g0;have g1:=hg 1 f1 rfl;rw [o1,t1,zDC] at g1;have g2:=hg 2 f2 rfl;rw [o2,t2,zDC] at g2;have g3:=hg 3 f3 rfl;rw [o3,t3,zMG] at g3;have g4:=hg 4 f4 rfl;rw [o4,t4,zL2] at g4;have g5:=hg 5 f5 rfl;rw [o5,t5,zLB] at g5;have g6:=hg 6 f6 rfl;rw [o6,t6,zLB] at g6;have g7:=hg 7 f7 rfl;rw [o7,t7,zL4] at g7;match xs,hxl with
  | [x0,x1,x2,x3,x4,x5,x6,x7],_ =>
   simp only [List.drop_zero,List.take_succ_cons,List.take_zero,List.drop_succ_cons,List.getElem?_cons_zero,List.getElem?_cons_succ] at g0 g1 g2 g3 g4 g5 g6 g7;obtain ⟨n0,e0,_,_⟩:=DataW.trod_int underlying3 g0;obtain ⟨n1,e1,_,_⟩:=DataW.trod_int underlying3 g1;obtain ⟨n2,e2,_,_⟩:=DataW.trod_int underlying3 g2;obtain ⟨v,e3,hv,hvt⟩:=zGX underlying40 rfl rfl rfl rfl rfl rfl rfl rfl rfl rfl g3;obtain ⟨ce,e4⟩:=zGn underlying47 rfl rfl rfl rfl rfl rfl g4;obtain ⟨ar,e5⟩:=zDt underlying49 rfl rfl rfl rfl rfl rfl rfl rfl rfl rfl g5;obtain ⟨pr,e6⟩:=zDt underlying49 rfl rfl rfl rfl rfl rfl rfl rfl rfl rfl g6;obtain ⟨p,m,k,tl,e7,hz,hnp,hn⟩:=zEU g7;simp only [List.cons.injEq,and_true] at e0 e1 e2 e3 e4 e5 e6;obtain ⟨v0,v1,v2,v3,v4,v5⟩:=e3;obtain ⟨p0,p1,p2⟩:=e4;obtain ⟨q0,q1,q2,q3,q4⟩:=e5;obtain ⟨r0,r1,r2,r3,r4⟩:=e6;have hw:∀ n,(n ∈ x3.1.weights prog 40 \/ n ∈ x7.1.weights prog 50)->n ∈ x.1.weights prog 52:=by
    intro n hn;rw [hD];simp only [List.map_cons,List.map_nil,DataW.weights,he,DataW.weightsEach,List.mem_append,t3,t7];rcases hn with hn | hn
    ·exact Or.inr (Or.inr (Or.inr (Or.inl hn)))
    ·exact Or.inr (Or.inr (Or.inr (Or.inr (Or.inr (Or.inr (Or.inr (Or.inl hn)))))))
   refine ⟨⟨n0,n1,n2,v,ce,ar,pr⟩,p,m,k,tl,by rw [e0,e1,e2,v0,v1,v2,v3,v4,v5,p0,p1,p2,q0,q1,q2,q3,q4,r0,r1,r2,r3,r4,e7];rfl,hz,hnp,hv,hw _ (Or.inl hvt),?_⟩;rcases hn with hn | ⟨n,hn,hle⟩
   ·exact Or.inl hn
   ·exact Or.inr ⟨n,hw _ (Or.inr hn),hle⟩
theorem zIA {m:Nat} {p:Nat->(Wc.In × List Int)->Prop} (h:∀ i,i<m->∃ v,p i v):∃ G:Nat->(Wc.In × List Int),∀ i,i<m->p i (G i):=by
 classical
 refine ⟨λi=>if hi:i<m then Classical.choose (h i hi) else (⟨0,0,0,Wt.v0,⟨0,0,0⟩,⟨0,0,0,0,0⟩,⟨0,0,0,0,0⟩⟩,[]),λi hi=>?_⟩;dsimp only;rw [dif_pos hi];exact Classical.choose_spec (h i hi)
theorem zDE (e:TypeId):∀ (l:List (DataW H)) (x:DataW H),x ∈ l->∀ n ∈ x.weights prog e,n ∈ DataW.weightsAll prog e l:=by
 intro l;induction l with
 | nil=>intro x hx;cases hx
 | cons y r ih =>
  intro x hx n hn;simp only [DataW.weightsAll,List.mem_append];rcases List.mem_cons.1 hx with rfl | hx
  ·exact Or.inl hn
  ·exact Or.inr (ih x hx n hn)
theorem zH3 {W:World} {r:Reach} {b0:Nat} {v:Value} {d:DataW H} {p:List MemPlace}
  (hv:Value.okWide prog W r b0 22 v) (h:DataW.Trod enc prog W 0 (λ_=>true) true 22 v d p) :
  ∃ (L:List (Wc.In × List Int)),RdC W v L/\(∀ x ∈ L,Wt.FitV x.1.v) /\
   ∀ (ts0:List TypeId) (ds:List (DataW H)) (j:Nat),(DataW.weightsEach prog ts0 ds).all (· <= reachBytes)=true->ts0[j]? = some 22->ds[j]? = some d->L.length<=reachBytes/\∀ x ∈ L,x.2.length<=reachBytes/\x.1.v.t.size<=reachBytes:=by
 obtain ⟨a0,len,cap,rfl⟩:=okWide_slice underlying22 hv;obtain ⟨fuel,hg⟩:=h;rcases open_slice underlying22 hg with ⟨hcs,hx⟩ | ⟨a,len',cap',m,n,D,Pl,hcs,hb,hl,hm,hmm,hx,hall⟩
 ·simp [Value.cells] at hcs;obtain ⟨rfl,rfl,rfl⟩:=hcs;exact ⟨[],⟨none,0,rfl,λi hi=>absurd hi (Nat.not_lt_zero _)⟩,(λx hx=>by cases hx),λ_ _ _ _ _ _=>⟨by simp,λx hx=>by cases hx⟩⟩
 ·simp [Value.cells] at hcs;obtain ⟨rfl,rfl,rfl⟩:=hcs;simp only [if_true] at hmm;subst hmm;have each:∀ i,i<m->∃ y:Wc.In × List Int,(∃ p mm k,(∀ j u,(zAD y.1 (.slice p mm k))[j]? = some u->W.cell? (a.add (i * 23+j))=some u)/\RdZ W (.slice p mm k) y.2/\(p=none->k=0))/\Wt.FitV y.1.v/\y.1.v.t.size ∈ (D i).weights prog 52/\(y.2.length=0 \/ ∃ n ∈ (D i).weights prog 52,y.2.length<=n):=by
   intro i hi;obtain ⟨cs',h1,h2⟩:=hall i hi;rw [zMN] at h1;obtain ⟨_,hlen,hcell⟩:=World.cells?_some h1;obtain ⟨y,p,mm,k,tl,rfl,hz,hnp,hf,ht,hn⟩:=zFg underlying52 rfl rfl rfl rfl rfl rfl rfl rfl rfl rfl rfl rfl rfl rfl rfl rfl hlen h2;refine ⟨(y,tl),⟨p,mm,k,λj u hu=>?_,hz,hnp⟩,hf,ht,hn⟩;have hj:j<23:=by
    have:=(List.getElem?_eq_some_iff.1 hu).1;rw [hlen] at this;exact this
   have:=hcell j hj;rw [add_add] at this;rw [this,hu]
  obtain ⟨G,hG⟩:=zIA each;have hlen:((List.range len).map G).length=len:=by simp
  have hsp:0<len->∃ b off,a=⟨b,off,none⟩:=by
   intro h0;obtain ⟨⟨p,mm,k,h1,_⟩,_⟩:=hG 0 (by omega);have h1:=h1 0 _ rfl;rw [Nat.zero_mul,Nat.zero_add] at h1;have s1:(a.add 0).spot=none:=World.cell?_spot h1;obtain ⟨b,off,spot⟩:=a;obtain rfl:spot=none:=s1;exact ⟨b,off,rfl⟩
  refine ⟨(List.range len).map G,⟨some a,m,by rw [hlen],λi hi=>?_⟩,λx hx=>?_,λts0 ds j hz h1 h2=>?_⟩
  ·rw [hlen] at hi;obtain ⟨b,off,rfl⟩:=hsp (by omega);have eG:((List.range len).map G)[i]'(by rw [hlen];exact hi)=G i:=by simp
   rw [eG];obtain ⟨⟨p,mm,k,q1,q2,q3⟩,_⟩:=hG i (by omega);refine ⟨b,off,p,mm,k,rfl,λj u hu=>?_,q2,q3⟩;have:=q1 j u hu;rw [add_plain] at this;rw [Nat.add_assoc];exact this
  ·obtain ⟨i,hi,rfl⟩:=List.mem_map.1 hx;exact (hG i (by have:=List.mem_range.1 hi;omega)).2.1
  ·have h3:ds[j]? = some (.slice ((List.range len).map D) ((List.range (m - len)).map λj=>D (len+j))):=by rw [h2];exact congrArg some (congrArg Prod.fst hx)
   have q:=sized_slice hz h1 h3 underlying22;rw [zLZ] at q;simp only [List.length_map,List.length_range] at q;refine ⟨by rw [hlen];omega,λx hx=>?_⟩;obtain ⟨i,hi,rfl⟩:=List.mem_map.1 hx;have hi:=List.mem_range.1 hi;obtain ⟨_,_,ht,hn⟩:=hG i (by omega);have key:∀ n ∈ (D i).weights prog 52,n<=reachBytes:=by
    intro n hn;have hm:n ∈ (DataW.slice ((List.range len).map D) ((List.range (m - len)).map λj=>D (len+j)):DataW H).weights prog 22:=by
     simp only [DataW.weights,underlying22,List.mem_cons,List.mem_append];exact Or.inr (Or.inl (zDE _ _ (D i) (List.mem_map.2 ⟨i,by simpa using hi,rfl⟩) _ hn))
    have:=List.all_eq_true.1 hz _ (DataW.weights_mem_each h1 h3 _ hm);simpa using this
   refine ⟨?_,key _ ht⟩;rcases hn with hn | ⟨n,hn,hle⟩
   ·rw [hn];exact Nat.zero_le _
   ·exact Nat.le_trans hle (key n hn)
end
