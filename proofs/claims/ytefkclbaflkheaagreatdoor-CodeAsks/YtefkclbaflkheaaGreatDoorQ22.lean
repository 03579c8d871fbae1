/- KRight, KPlacB, KAhd. -/
import Derived.Test.YtefkclbaflkheaaGreatDoorQ21
set_option maxHeartbeats 4000000
set_option maxRecDepth 100000
namespace Go.Proofs.YtefkclbaflkheaaGreatDoor
open Tryz
open Go.RowKit
set_option linter.unusedVariables false
variable {tl:List Int} {x:Wc.In}
def rgt (x:Wc.In) (tl:List Int):Bool :=
 if x.op=1 then Wv.right x.v.k x.v.n x.v.d x.v.t x.v.b x.v.f && (smI x ⟨1,0,0,x.v,c0I,a0I,a0I⟩ && decide (tl=[]))
 else if x.op=2 then Wpl.rightC x.ce.s x.ce.r x.ce.c && (smI x ⟨2,0,0,v0I,x.ce,a0I,a0I⟩ && decide (tl=[]))
 else if x.op=3 then (decide (1<=x.a) && decide (x.a<=3)) && (smI x ⟨3,x.a,0,v0I,c0I,a0I,a0I⟩ && decide (tl=[]))
 else if x.op=4 then Wt.isBin x.a && (smI x ⟨4,x.a,0,v0I,c0I,a0I,a0I⟩ && decide (tl=[]))
 else if x.op=5 then apl x.a x.b && (smI x ⟨5,x.a,x.b,v0I,c0I,a0I,a0I⟩ && decide (tl=[]))
 else if x.op=6 then fld x.a && (smI x ⟨6,x.a,0,v0I,c0I,a0I,a0I⟩ && decide (tl=[]))
 else if x.op=7 then true && (smI x ⟨7,0,0,v0I,c0I,a0I,a0I⟩ && decide (tl=[]))
 else if x.op=8 then Wpl.rightA x.ar.s x.ar.t x.ar.l x.ar.b x.ar.r && (smI x ⟨8,0,0,v0I,c0I,x.ar,a0I⟩ && decide (tl=[]))
 else if x.op=9 then ((Wpl.rightA x.ar.s x.ar.t x.ar.l x.ar.b x.ar.r && Wpl.rightA x.pr.s x.pr.t x.pr.l x.pr.b x.pr.r) && shp x.ar x.pr) && (smI x ⟨9,0,0,v0I,c0I,x.ar,x.pr⟩ && decide (tl=[]))
 else if x.op=10 then true && (smI x ⟨10,0,0,v0I,c0I,a0I,a0I⟩ && decide (tl=[]))
 else if x.op=11 then (Wpl.rightA x.ar.s x.ar.t x.ar.l x.ar.b x.ar.r && (x.b == 1 || x.b == 2)) && (smI x ⟨11,0,x.b,v0I,c0I,x.ar,a0I⟩ && decide (tl=[]))
 else if x.op=12 then true && (smI x ⟨12,x.a,x.b,v0I,c0I,a0I,a0I⟩ && decide (tl=[]))
 else if x.op=13 then true && (smI x ⟨13,x.a,0,v0I,c0I,a0I,a0I⟩ && decide (tl=[]))
 else if x.op=14 then true && (smI x ⟨14,x.a,0,v0I,c0I,a0I,a0I⟩ && decide (tl=[]))
 else if x.op=15 then (decide (1<=(tl.length:Int)) && decide ((tl.length:Int)<=30)) && (smI x ⟨15,0,x.b,v0I,c0I,a0I,a0I⟩ && decide (tl=tl))
 else if x.op=16 then true && (smI x ⟨16,0,0,v0I,c0I,a0I,a0I⟩ && decide (tl=[]))
 else false
theorem zJn (h:x.op=1):rgt x tl=(Wv.right x.v.k x.v.n x.v.d x.v.t x.v.b x.v.f && (smI x ⟨1,0,0,x.v,c0I,a0I,a0I⟩ && decide (tl=[]))):=by
 unfold rgt;rw [if_pos h]
theorem zKX (h:x.op=2):rgt x tl=(Wpl.rightC x.ce.s x.ce.r x.ce.c && (smI x ⟨2,0,0,v0I,x.ce,a0I,a0I⟩ && decide (tl=[]))):=by
 unfold rgt;rw [if_neg (by omega),if_pos h]
theorem zKt (h:x.op=3):rgt x tl=((decide (1<=x.a) && decide (x.a<=3)) && (smI x ⟨3,x.a,0,v0I,c0I,a0I,a0I⟩ && decide (tl=[]))):=by
 unfold rgt;rw [if_neg (by omega),if_neg (by omega),if_pos h]
theorem zJ7 (h:x.op=4):rgt x tl=(Wt.isBin x.a && (smI x ⟨4,x.a,0,v0I,c0I,a0I,a0I⟩ && decide (tl=[]))):=by
 unfold rgt;rw [if_neg (by omega),if_neg (by omega),if_neg (by omega),if_pos h]
theorem zIV (h:x.op=5):rgt x tl=(apl x.a x.b && (smI x ⟨5,x.a,x.b,v0I,c0I,a0I,a0I⟩ && decide (tl=[]))):=by
 unfold rgt;rw [if_neg (by omega),if_neg (by omega),if_neg (by omega),if_neg (by omega),if_pos h]
theorem zHv (h:x.op=6):rgt x tl=(fld x.a && (smI x ⟨6,x.a,0,v0I,c0I,a0I,a0I⟩ && decide (tl=[]))):=by
 unfold rgt;rw [if_neg (by omega),if_neg (by omega),if_neg (by omega),if_neg (by omega),if_neg (by omega),if_pos h]
theorem zKA (h:x.op=7):rgt x tl=(true && (smI x ⟨7,0,0,v0I,c0I,a0I,a0I⟩ && decide (tl=[]))):=by
 unfold rgt;rw [if_neg (by omega),if_neg (by omega),if_neg (by omega),if_neg (by omega),if_neg (by omega),if_neg (by omega),if_pos h]
theorem zJi (h:x.op=8):rgt x tl=(Wpl.rightA x.ar.s x.ar.t x.ar.l x.ar.b x.ar.r && (smI x ⟨8,0,0,v0I,c0I,x.ar,a0I⟩ && decide (tl=[]))):=by
 unfold rgt;rw [if_neg (by omega),if_neg (by omega),if_neg (by omega),if_neg (by omega),if_neg (by omega),if_neg (by omega),if_neg (by omega),if_pos h]
theorem zKr (h:x.op=9):rgt x tl=(((Wpl.rightA x.ar.s x.ar.t x.ar.l x.ar.b x.ar.r && Wpl.rightA x.pr.s x.pr.t x.pr.l x.pr.b x.pr.r) && shp x.ar x.pr) && (smI x ⟨9,0,0,v0I,c0I,x.ar,x.pr⟩ && decide (tl=[]))):=by
 unfold rgt;rw [if_neg (by omega),if_neg (by omega),if_neg (by omega),if_neg (by omega),if_neg (by omega),if_neg (by omega),if_neg (by omega),if_neg (by omega),if_pos h]
theorem zFo (h:x.op=10):rgt x tl=(true && (smI x ⟨10,0,0,v0I,c0I,a0I,a0I⟩ && decide (tl=[]))):=by
 unfold rgt;rw [if_neg (by omega),if_neg (by omega),if_neg (by omega),if_neg (by omega),if_neg (by omega),if_neg (by omega),if_neg (by omega),if_neg (by omega),if_neg (by omega),if_pos h]
theorem zES (h:x.op=11):rgt x tl=((Wpl.rightA x.ar.s x.ar.t x.ar.l x.ar.b x.ar.r && (x.b == 1 || x.b == 2)) && (smI x ⟨11,0,x.b,v0I,c0I,x.ar,a0I⟩ && decide (tl=[]))):=by
 unfold rgt;rw [if_neg (by omega),if_neg (by omega),if_neg (by omega),if_neg (by omega),if_neg (by omega),if_neg (by omega),if_neg (by omega),if_neg (by omega),if_neg (by omega),if_neg (by omega),if_pos h]
theorem zGo (h:x.op=12):rgt x tl=(true && (smI x ⟨12,x.a,x.b,v0I,c0I,a0I,a0I⟩ && decide (tl=[]))):=by
 unfold rgt;rw [if_neg (by omega),if_neg (by omega),if_neg (by omega),if_neg (by omega),if_neg (by omega),if_neg (by omega),if_neg (by omega),if_neg (by omega),if_neg (by omega),if_neg (by omega),if_neg (by omega),if_pos h]
theorem zFw (h:x.op=13):rgt x tl=(true && (smI x ⟨13,x.a,0,v0I,c0I,a0I,a0I⟩ && decide (tl=[]))):=by
 unfold rgt;rw [if_neg (by omega),if_neg (by omega),if_neg (by omega),if_neg (by omega),if_neg (by omega),if_neg (by omega),if_neg (by omega),if_neg (by omega),if_neg (by omega),if_neg (by omega),if_neg (by omega),if_neg (by omega),if_pos h]
theorem zF1 (h:x.op=14):rgt x tl=(true && (smI x ⟨14,x.a,0,v0I,c0I,a0I,a0I⟩ && decide (tl=[]))):=by
 unfold rgt;rw [if_neg (by omega),if_neg (by omega),if_neg (by omega),if_neg (by omega),if_neg (by omega),if_neg (by omega),if_neg (by omega),if_neg (by omega),if_neg (by omega),if_neg (by omega),if_neg (by omega),if_neg (by omega),if_neg (by omega),if_pos h]
theorem zFp (h:x.op=15):rgt x tl=((decide (1<=(tl.length:Int)) && decide ((tl.length:Int)<=30)) && (smI x ⟨15,0,x.b,v0I,c0I,a0I,a0I⟩ && decide (tl=tl))):=by
 unfold rgt;rw [if_neg (by omega),if_neg (by omega),if_neg (by omega),if_neg (by omega),if_neg (by omega),if_neg (by omega),if_neg (by omega),if_neg (by omega),if_neg (by omega),if_neg (by omega),if_neg (by omega),if_neg (by omega),if_neg (by omega),if_neg (by omega),if_pos h]
theorem zHC (h:x.op=16):rgt x tl=(true && (smI x ⟨16,0,0,v0I,c0I,a0I,a0I⟩ && decide (tl=[]))):=by
 unfold rgt;rw [if_neg (by omega),if_neg (by omega),if_neg (by omega),if_neg (by omega),if_neg (by omega),if_neg (by omega),if_neg (by omega),if_neg (by omega),if_neg (by omega),if_neg (by omega),if_neg (by omega),if_neg (by omega),if_neg (by omega),if_neg (by omega),if_neg (by omega),if_pos h]
theorem zLE (h:x.op<1 \/ 16<x.op):rgt x tl=false:=by
 unfold rgt;rw [if_neg (by omega),if_neg (by omega),if_neg (by omega),if_neg (by omega),if_neg (by omega),if_neg (by omega),if_neg (by omega),if_neg (by omega),if_neg (by omega),if_neg (by omega),if_neg (by omega),if_neg (by omega),if_neg (by omega),if_neg (by omega),if_neg (by omega),if_neg (by omega)]
theorem zEq (x:Wc.In) (av:Option Addr) (n c:Nat) (tl:List Int) (w:World) (hz:RdZ w (.slice av n c) tl) (hl:tl.length<=1000000) (hf:Wt.FitV x.v) (hN:NmAt w) :
  CR 61 #[inV x (.slice av n c)] w (.bool (rgt x tl)):=by
 rcases zD1 x.op with h | h | h | h | h | h | h | h | h | h | h | h | h | h | h | h | h
 ·rw [zJn h];exact zJB x av n c tl w h hz hl hf.1.1 hf.1.2 hf.2.1.1 hf.2.1.2 hf.2.2
 ·rw [zKX h];exact zHQ x av n c tl w h hz hl
 ·rw [zKt h];exact zJC x av n c tl w h hz hl
 ·rw [zJ7 h];exact zIL x av n c tl w h hz hl
 ·rw [zIV h];exact zHd x av n c tl w h hz hl hN
 ·rw [zHv h];exact zIx x av n c tl w h hz hl
 ·rw [zKA h];exact zHl x av n c tl w h hz hl
 ·rw [zJi h];exact zHq x av n c tl w h hz hl
 ·rw [zKr h];exact zIj x av n c tl w h hz hl
 ·rw [zFo h];exact zGy x av n c tl w h hz hl
 ·rw [zES h];exact zGr x av n c tl w h hz hl
 ·rw [zGo h];exact zGT x av n c tl w h hz hl
 ·rw [zFw h];exact zFU x av n c tl w h hz hl
 ·rw [zF1 h];exact zGd x av n c tl w h hz hl
 ·rw [zFp h];exact zHF x av n c tl w h hz hl
 ·rw [zHC h];exact zFT x av n c tl w h hz hl
 ·rw [zLE h];refine (zHh x av n c tl w hz hl h).mono ?_;rintro e w' ⟨rfl,hb⟩;exact ⟨by rw [Bool.false_and],hb⟩
abbrev zeros23:Array Value:=#[.int .i64 0,.int .i64 0,.int .i64 0,.int .i64 0,.int .i64 0,.int .i64 0,.string ⟨#[]⟩,.bool false,.int .i64 0,.int .i64 0,.int .i64 0,.int .i64 0,.int .i64 0,.int .i64 0,.int .i64 0,.int .i64 0,.int .i64 0,.int .i64 0,.int .i64 0,.int .i64 0,.int .i64 0,.int .i64 0,.slice none 0 0]
abbrev pl1 (wr:World) (i:Nat):World:=(wr.alloc (.cells #[.int .i64 i] 3)).alloc (.cells zeros23 56)
theorem zCe {o a b at':Int} (h:tl.length<=1000000):(onw o a b tl at').1.length<=1000000/\(onw o a b tl at').2.length<=1000000:=by
 unfold onw;repeat' split
 all_goals simp
 exact h
theorem zFh (n i:Nat) (x:Wc.In × List Int) (r:List (Wc.In × List Int)):Wc.plcs rgt n i (x::r)=(Wc.plc rgt n i x && Wc.plcs rgt n (i+1) r):=rfl
theorem zBb (n i:Nat) (y:Wc.In) (tl:List Int):Wc.plc rgt n i (y,tl)=(rgt y tl && (((y.op == 16) == (i+1 == n)) && (!(onw y.op y.a y.b tl i).1.any (zBm i n) && !(onw y.op y.a y.b tl i).2.any (zBm i n)))):=rfl
def zEx (x:Wc.In × List Int):Prop:=zCz x.1/\∀ (av:Option Addr) (n c:Nat) (w:World),RdZ w (.slice av n c) x.2->x.2.length<=1000000->Wt.FitV x.1.v->NmAt w->CR 61 #[inV x.1 (.slice av n c)] w (.bool (rgt x.1 x.2))
theorem zGO (x:Wc.In × List Int):zEx x:=⟨zJl _,λav n c w hz hl hf hN=>zEq x.1 av n c x.2 w hz hl hf hN⟩
theorem zEi (L:List (Wc.In × List Int)) (v:Value) (w:World) (h:RdC w v L) (hl:L.length<=1000000) (ht:∀ x ∈ L,x.2.length<=1000000/\Wt.FitV x.1.v) (hN:NmAt w) (hCR:∀ x ∈ L,zEx x) :
  CR 35 #[v] w (.bool (Wc.plcs rgt L.length 0 L && decide (0<L.length))):=by
 obtain ⟨a1,c1,rfl,r1⟩:=h;have HR:Hid (RdC w (.slice a1 L.length c1) L):=⟨a1,c1,rfl,r1⟩
 have HT:Hid (∀ x ∈ L,x.2.length<=1000000/\Wt.FitV x.1.v):=ht;have HN:Hid (NmAt w):=hN;have HCR:Hid (∀ x ∈ L,zEx x):=hCR;clear hCR;obtain ⟨n,hn⟩:∃ n,L.length=n:=⟨_,rfl⟩
 have HL:Hid (L.length=n):=hn;rw [hn] at hl ⊢;obtain ⟨q,hq⟩:∃ q,Wc.plcs rgt n 0 L=q:=⟨_,rfl⟩
 have HQ:Hid (Wc.plcs rgt n 0 (L.drop 0)=q):=hq;rw [hq];have pB:=AtL.new0 w 36 [.slice a1 n c1];have hb0:=zAK (Below.refl _ w) (.cells #[.slice a1 n c1] 36);have hc0:(w.alloc (.cells #[.slice a1 n c1] 36)).cell? ⟨w.heap.size,0,none⟩=some (.slice a1 n c1):=pB.2.1 0 _ rfl;clear r1 ht hN hn hq pB;go_enter func35,ntmps35;go_upto_region 1 with fail
 generalize (w.alloc (.cells #[.slice a1 n c1] 36))=w0 at *;go_wp2_with fail
 go_loopg [10] n (λgk x wr=>∃ i:Nat,x=.int .i64 i/\gk=n - i/\i<=n/\Hid (Wc.plcs rgt n i (L.drop i)=q)/\wr.cell? ⟨w.heap.size,0,none⟩=some (.slice a1 n c1)/\Below w.heap.size w wr)
 case atStart=>exact ⟨0,rfl,rfl,Nat.zero_le _,HQ,hc0,hb0⟩
 case round =>
  clear hc0 hb0 HQ;obtain ⟨i,rfl,hg,hi,HP,hc,hb⟩:=hrel;by_cases hlt:i<n
  ·have hli:(i:Int)<(n:Int):=by omega
   have hwi:IntKind.i64.wrap ((i:Int)+1)=(i:Int)+1:=by rw [IntKind.wrap_i64];omega
   have hwn:IntKind.i64.wrap ((n:Int) - 1)=(n:Int) - 1:=by rw [IntKind.wrap_i64];omega
   have hil:i<L.length:=by rw [HL.out];exact hlt
   have H0:=HR.out.below hb;rw [HL.out] at H0;obtain ⟨q1,d1,e1,f1⟩:=H0;simp only [Value.slice.injEq] at e1;obtain ⟨ex1,ex2,ex3⟩:=e1;subst ex1;subst ex3;clear ex2;obtain ⟨bb,off,p,m,k,rfl,t1,y1,_⟩:=f1 i hil;obtain ⟨y,tl,hyt⟩:∃ y tl,L[i]=(y,tl):=⟨_,_,rfl⟩
   have HCY:Hid (zEx (y,tl)):=by have:=HCR.out (L[i]) (List.getElem_mem _);rw [hyt] at this;exact this
   obtain ⟨htl,hfv⟩:=HT.out L[i] (List.getElem_mem _);have HP2:Hid ((Wc.plc rgt n i (y,tl) && Wc.plcs rgt n (i+1) (L.drop (i+1)))=q):=by
    show _=q
    rw [<-HP.out,List.drop_eq_getElem_cons hil,hyt,zFh]
   rw [hyt] at t1 y1 htl hfv;have pI0:AtL (pl1 wr i) (wr.heap.size+1) zeros23.toList:=AtL.new1 wr _ _ _;have hth:World.there (pl1 wr i) (wr.heap.size+1) 0 (zAD y (.slice p m k)).toArray.size:=pI0.there;have HB:Hid (Below w.heap.size w wr):=hb;have HC:Hid (wr.cell? ⟨w.heap.size,0,none⟩=some (.slice (some ⟨bb,off,none⟩) n c1)):=hc;have HY:Hid (RdZ wr (.slice p m k) tl):=y1;have HF:Hid (Wt.FitV y.v):=hfv;clear pI0 f1 hyt HP hil hc hb y1 hfv;go_upto_region 4 with (first | (refine zAA (by rfl) 56 (.tmp 13) rfl bb (off+i * 23) rfl (zAD y (.slice p m k)) _ t1 underlying56 rfl (by kernel_rfl) ?_) | ((with_reducible refine wpList_store_mid ?_ 56 (.tmp 4) (.tmp 14) ?_ (wr.heap.size+1) 0 (zAD y (.slice p m k)).toArray ?_ ?_ ?_ ?_ ?_ ?_);rfl;rfl;rfl;rfl;exact hth;kernel_rfl;exact zAZ _ _ _ _))
   have hb:=HB.out;have hc:=HC.out;have y1:=HY.out;have hfv:=HF.out;have pI0:AtL (pl1 wr i) (wr.heap.size+1) zeros23.toList:=AtL.new1 wr _ _ _;have pC:AtL ((pl1 wr i).setCells (wr.heap.size+1) 0 (zAD y (.slice p m k))) wr.heap.size [.int .i64 i]:=((AtL.new0 wr _ [.int .i64 i]).alloc _).farAll (by omega) 0 _;have pI:AtL ((pl1 wr i).setCells (wr.heap.size+1) 0 (zAD y (.slice p m k))) (wr.heap.size+1) (zAD y (.slice p m k)):=pI0.setAll rfl;have hBw:Below wr.heap.size wr ((pl1 wr i).setCells (wr.heap.size+1) 0 (zAD y (.slice p m k))):=zAa (zAK (zAK (Below.refl _ wr) _) _) (Nat.le_succ _) _ 0;have HNW:Hid (NmAt ((pl1 wr i).setCells (wr.heap.size+1) 0 (zAD y (.slice p m k)))):=(HN.out.below hb).below hBw;have zW:=y1.below hBw;have cW:=zAC hBw hc;have hB0:=zAB hb hBw;clear pI0 hc hb hBw y1 HB HC HY HF;generalize (pl1 wr i).setCells (wr.heap.size+1) 0 (zAD y (.slice p m k))=W at *;have rI:=pI.range;clear hth t1;go_wp2_with (first | (refine zAA (by rfl) 56 (.tmp 4) rfl (wr.heap.size+1) 0 rfl (zAD y (.slice p m k)) _ rI underlying56 rfl (by kernel_rfl) ?_))
   refine (HCY.out.2 p m k W zW htl hfv HNW.out).mono ?_;rintro e w1 ⟨rfl,hb1⟩;replace pI:=AtL.below hb1 pI
   replace pC:=AtL.below hb1 pC
   replace zW:=zW.below hb1
   replace cW:=zAC hb1 cW
   replace hB0:=zAB hB0 hb1
   clear rI hb1 hfv HNW;have rI:=pI.range;have i0:=pI.2.1 0 _ rfl;have cA:=pC.2.1 0 _ rfl;obtain ⟨r,hr⟩:∃ r,rgt y tl=r:=⟨_,rfl⟩
   have HRG:Hid (rgt y tl=r):=hr;rw [hr];clear hr pI pC;cases r with
   | false =>
    go_wp2;go_ret;exact ⟨by rw [<-HP2.out,zBb,HRG.out];rfl,hB0⟩
   | true =>
    by_cases h16:y.op=16
    ·by_cases hla:(n:Int) - 1=(i:Int)
     ·have HE:Hid (((y.op == 16) == (i+1 == n))=true):=by show _=_;rw [show (y.op == 16)=true from by simp [h16],show (i+1 == n)=true from by simp;omega];rfl
      have OW:=zBW y p m k tl i;have hle:=zCe (o:=y.op) (a:=y.a) (b:=y.b) (at':=i) htl;have HO:Hid (∃ u,onw y.op y.a y.b tl i=u):=⟨_,rfl⟩
      obtain ⟨u,hu⟩:=HO.out;have HU:Hid (onw y.op y.a y.b tl i=u):=hu;rw [hu] at hle;have OW1:=OW w1 (by omega) zW;rw [hu] at OW1;obtain ⟨u1,u2⟩:=u;simp only at hle;have HLE:Hid (u1.length<=1000000/\u2.length<=1000000):=hle;clear OW HO hu zW htl hle;go_wp2_with (first | (refine zAA (by rfl) 56 (.tmp 4) rfl (wr.heap.size+1) 0 rfl (zAD y (.slice p m k)) _ rI underlying56 rfl (by kernel_rfl) ?_))
      refine OW1.mono ?_;rintro e w2 ⟨⟨c,c2,rfl,z1,z2,_,_⟩,hb2⟩;have Z2:Hid (RdZ w2 c2 u2):=z2;replace cA:=zAC hb2 cA
      replace cW:=zAC hb2 cW
      replace hB0:=zAB hB0 hb2
      clear rI i0 hb2 OW1;clear z2;have CA:=zAv u1 c i wr.heap.size w.heap.size _ n _ w2 z1 HLE.out.1 cA cW;clear z1;go_wp2_with fail
      refine CA.mono ?_;rintro e w3 ⟨rfl,hb3⟩;replace cA:=zAC hb3 cA
      replace cW:=zAC hb3 cW
      have z2:=Z2.out.below hb3;clear Z2;replace hB0:=zAB hB0 hb3
      clear CA hb3;obtain ⟨s1,hs1⟩:∃ s,u1.any (zBm i n)=s:=⟨_,rfl⟩
      have HS1:Hid (u1.any (zBm i n)=s1):=hs1;rw [hs1];clear hs1;cases s1 with
      | true =>
       go_wp2;go_ret;exact ⟨by rw [<-HP2.out,zBb,HRG.out,HE.out,HU.out,HS1.out];rfl,hB0⟩
      | false =>
       have CB:=zAv u2 c2 i wr.heap.size w.heap.size _ n _ w3 z2 HLE.out.2 cA cW;clear z2;go_wp2_with fail
       refine CB.mono ?_;rintro e w4 ⟨rfl,hb4⟩;replace cW:=zAC hb4 cW
       replace hB0:=zAB hB0 hb4
       clear CB hb4;obtain ⟨s2,hs2⟩:∃ s,u2.any (zBm i n)=s:=⟨_,rfl⟩
       have HS2:Hid (u2.any (zBm i n)=s2):=hs2;rw [hs2];clear hs2;cases s2 with
       | true =>
        go_wp2;go_ret;exact ⟨by rw [<-HP2.out,zBb,HRG.out,HE.out,HU.out,HS1.out,HS2.out];rfl,hB0⟩
       | false =>
        have HP3:Hid (Wc.plcs rgt n (i+1) (L.drop (i+1))=q):=by
         show _=q
         rw [<-HP2.out,zBb,HRG.out,HE.out,HU.out];simp only [HS1.out,HS2.out];rfl
        go_wp2_with fail
        go_roundg (n - (i+1))
        case rel=>exact ⟨i+1,by simp,rfl,hlt,HP3,cW,hB0⟩
        case measure=>omega
     ·have HE:Hid (((y.op == 16) == (i+1 == n))=false):=by show _=_;rw [show (y.op == 16)=true from by simp [h16],show (i+1 == n)=false from by simp;omega];rfl
      have hla2:¬ (i:Int)=(n:Int) - 1:=by omega
      have hla3:((i:Int) == (n:Int) - 1)=false:=by simp;omega
      have hla4:((n:Int) - 1 == (i:Int))=false:=by simp;omega
      go_wp2;go_ret;exact ⟨by rw [<-HP2.out,zBb,HRG.out,HE.out];rfl,hB0⟩
    ·have h16b:(y.op == 16)=false:=by simp [h16]
     by_cases hla:(n:Int) - 1=(i:Int)
     ·have HE:Hid (((y.op == 16) == (i+1 == n))=false):=by show _=_;rw [show (y.op == 16)=false from by simp [h16],show (i+1 == n)=true from by simp;omega];rfl
      go_wp2;go_ret;exact ⟨by rw [<-HP2.out,zBb,HRG.out,HE.out];rfl,hB0⟩
     ·have HE:Hid (((y.op == 16) == (i+1 == n))=true):=by show _=_;rw [show (y.op == 16)=false from by simp [h16],show (i+1 == n)=false from by simp;omega];rfl
      have hla2:¬ (i:Int)=(n:Int) - 1:=by omega
      have hla3:((i:Int) == (n:Int) - 1)=false:=by simp;omega
      have hla4:((n:Int) - 1 == (i:Int))=false:=by simp;omega
      have OW:=zBW y p m k tl i;have hle:=zCe (o:=y.op) (a:=y.a) (b:=y.b) (at':=i) htl;have HO:Hid (∃ u,onw y.op y.a y.b tl i=u):=⟨_,rfl⟩
      obtain ⟨u,hu⟩:=HO.out;have HU:Hid (onw y.op y.a y.b tl i=u):=hu;rw [hu] at hle;have OW1:=OW w1 (by omega) zW;rw [hu] at OW1;obtain ⟨u1,u2⟩:=u;simp only at hle;have HLE:Hid (u1.length<=1000000/\u2.length<=1000000):=hle;clear OW HO hu zW htl hle;go_wp2_with (first | (refine zAA (by rfl) 56 (.tmp 4) rfl (wr.heap.size+1) 0 rfl (zAD y (.slice p m k)) _ rI underlying56 rfl (by kernel_rfl) ?_))
      refine OW1.mono ?_;rintro e w2 ⟨⟨c,c2,rfl,z1,z2,_,_⟩,hb2⟩;have Z2:Hid (RdZ w2 c2 u2):=z2;replace cA:=zAC hb2 cA
      replace cW:=zAC hb2 cW
      replace hB0:=zAB hB0 hb2
      clear rI i0 hb2 OW1;clear z2;have CA:=zAv u1 c i wr.heap.size w.heap.size _ n _ w2 z1 HLE.out.1 cA cW;clear z1;go_wp2_with fail
      refine CA.mono ?_;rintro e w3 ⟨rfl,hb3⟩;replace cA:=zAC hb3 cA
      replace cW:=zAC hb3 cW
      have z2:=Z2.out.below hb3;clear Z2;replace hB0:=zAB hB0 hb3
      clear CA hb3;obtain ⟨s1,hs1⟩:∃ s,u1.any (zBm i n)=s:=⟨_,rfl⟩
      have HS1:Hid (u1.any (zBm i n)=s1):=hs1;rw [hs1];clear hs1;cases s1 with
      | true =>
       go_wp2;go_ret;exact ⟨by rw [<-HP2.out,zBb,HRG.out,HE.out,HU.out,HS1.out];rfl,hB0⟩
      | false =>
       have CB:=zAv u2 c2 i wr.heap.size w.heap.size _ n _ w3 z2 HLE.out.2 cA cW;clear z2;go_wp2_with fail
       refine CB.mono ?_;rintro e w4 ⟨rfl,hb4⟩;replace cW:=zAC hb4 cW
       replace hB0:=zAB hB0 hb4
       clear CB hb4;obtain ⟨s2,hs2⟩:∃ s,u2.any (zBm i n)=s:=⟨_,rfl⟩
       have HS2:Hid (u2.any (zBm i n)=s2):=hs2;rw [hs2];clear hs2;cases s2 with
       | true =>
        go_wp2;go_ret;exact ⟨by rw [<-HP2.out,zBb,HRG.out,HE.out,HU.out,HS1.out,HS2.out];rfl,hB0⟩
       | false =>
        have HP3:Hid (Wc.plcs rgt n (i+1) (L.drop (i+1))=q):=by
         show _=q
         rw [<-HP2.out,zBb,HRG.out,HE.out,HU.out];simp only [HS1.out,HS2.out];rfl
        go_wp2_with fail
        go_roundg (n - (i+1))
        case rel=>exact ⟨i+1,by simp,rfl,hlt,HP3,cW,hB0⟩
        case measure=>omega
  ·have hli:¬ (i:Int)<(n:Int):=by omega
   have hqt:Hid (q=true):=by
    show q=true
    rw [<-HP.out,List.drop_eq_nil_of_le (by rw [HL.out];omega)];rfl
   have hen:i=n:=by omega
   by_cases h0:0<n
   ·have h0z:(0:Int)<(n:Int):=by omega
    go_wp2;go_ret;exact ⟨by first | rfl | (rw [hqt.out];rfl) | (rw [hqt.out,decide_eq_true h0];rfl),hb⟩
   ·have h0z:¬ (0:Int)<(n:Int):=by omega
    go_wp2;go_ret;exact ⟨by first | rfl | (rw [hqt.out];rfl) | (rw [hqt.out,decide_eq_false h0];rfl) | simp,hb⟩
theorem RdZ.lits {w:World} {b:Nat} {l:List Int} (h:AtL w b (l.map (Value.int .i64))):RdZ w (.slice (some ⟨b,0,none⟩) l.length l.length) l:=by
 refine ⟨some ⟨b,0,none⟩,l.length,rfl,λi hi=>⟨b,0,rfl,?_⟩⟩;rw [Nat.zero_add];exact h.2.1 i _ (by simp [hi])
def aP (x:Wc.In) (tl:List Int) (i:Int):List Int:=(Wc.ahd x.op x.a x.b tl i 0 0).map (·.1)
theorem zDC (L:List (Wc.In × List Int)) (v:Value) (w:World) (h:RdC w v L) (i:Nat) (hi:i<L.length) (hl:L.length<=1000000) (ht:∀ x ∈ L,x.2.length<=1000000) :
  Calls prog 40 #[v,.int .i64 (i:Int)] w λe w'=>HndP (aP (L[i]).1 (L[i]).2 i) w e w'/\Below w.heap.size w w':=by
 obtain ⟨a1,c1,rfl,r1⟩:=h;obtain ⟨bb,off,p,mm,kk,rfl,t1,y1,hk⟩:=r1 i hi;obtain ⟨y,tl,hyt⟩:∃ y tl,L[i]=(y,tl):=⟨_,_,rfl⟩
 have htl:=ht L[i] (List.getElem_mem _);rw [hyt] at htl t1 y1;rw [hyt];have HTL:Hid (tl.length<=1000000):=htl;have HNP:Hid (Np (.slice p mm kk)):=by
  intro l c e;simp only [Value.slice.injEq] at e;obtain ⟨e1,_,e2⟩:=e;rw [<-e2];exact hk e1
 obtain ⟨n,hn⟩:∃ n,L.length=n:=⟨_,rfl⟩
 rw [hn] at hi hl ⊢;have hiz:(0:Int)<=(i:Int):=by omega
 have hin:(i:Int)<(n:Int):=by omega
 have hwi:IntKind.i64.wrap ((i:Int)+1)=(i:Int)+1:=by rw [IntKind.wrap_i64];omega
 obtain ⟨q,hq⟩:∃ q,aP y tl i=q:=⟨_,rfl⟩
 have HQ:Hid (aP y tl i=q):=hq;show Calls _ _ _ _ λe w'=>HndP (aP y tl i) w e w'/\_
 rw [hq];have pI0:AtL (w.alloc (.cells zeros23 56)) w.heap.size zeros23.toList:=AtL.new0 w _ _;have hth:World.there (w.alloc (.cells zeros23 56)) w.heap.size 0 (zAD y (.slice p mm kk)).toArray.size:=pI0.there;have HY:Hid (RdZ w (.slice p mm kk) tl):=y1;clear r1 hk ht htl hyt hn hq pI0 y1 hl hi;go_enter func40,ntmps40;go_upto_region 3 with (first | (refine zAA (by rfl) 56 (.tmp 9) rfl bb (off+i * 23) rfl (zAD y (.slice p mm kk)) _ t1 underlying56 rfl (by kernel_rfl) ?_) | ((with_reducible refine wpList_store_mid ?_ 56 (.tmp 6) (.tmp 10) ?_ w.heap.size 0 (zAD y (.slice p mm kk)).toArray ?_ ?_ ?_ ?_ ?_ ?_);rfl;rfl;rfl;rfl;exact hth;kernel_rfl;exact zAZ _ _ _ _))
 have pI0:AtL (w.alloc (.cells zeros23 56)) w.heap.size zeros23.toList:=AtL.new0 w _ _;have pI:AtL ((w.alloc (.cells zeros23 56)).setCells w.heap.size 0 (zAD y (.slice p mm kk))) w.heap.size (zAD y (.slice p mm kk)):=pI0.setAll rfl;have hB:Below w.heap.size w ((w.alloc (.cells zeros23 56)).setCells w.heap.size 0 (zAD y (.slice p mm kk))):=zAa (zAK (Below.refl _ w) _) (Nat.le_refl _) _ 0;clear pI0 hth t1;generalize (w.alloc (.cells zeros23 56)).setCells w.heap.size 0 (zAD y (.slice p mm kk))=W at *;have a0:=pI.2.1 0 _ rfl;have a1:=pI.2.1 1 _ rfl;have a2:=pI.2.1 2 _ rfl;have a22:=pI.2.1 22 _ rfl;have HBS:Hid (w.heap.size<=W.heap.size):=hB.size;by_cases h16:y.op=16
 ·have hf:Hid (q=[]):=by show _=_;rw [<-HQ.out];simp [aP,Wc.ahd,h16]
  go_wp2;go_ret;exact ⟨by rw [hf.out];exact HndP.of (OwnZ.nil _ w.heap.size) (Nat.le_refl _),hB⟩
 by_cases h12:y.op=12
 ·have hf:Hid (q=[(i:Int)+1,y.a,y.b]):=by show _=_;rw [<-HQ.out];simp [aP,Wc.ahd,h12]
  have hbs:=zAK (Below.refl _ W) (.cells #[.int .i64 ((i:Int)+1),.int .i64 (y.a),.int .i64 (y.b)] 3);have HR:Hid (RdZ (W.alloc (.cells #[.int .i64 ((i:Int)+1),.int .i64 (y.a),.int .i64 (y.b)] 3)) (.slice (some ⟨W.heap.size,0,none⟩) 3 3) [(i:Int)+1,y.a,y.b]):=RdZ.lits (l:=[(i:Int)+1,y.a,y.b]) (AtL.new0 W 3 _);have HB2:Hid (Below w.heap.size w (W.alloc (.cells #[.int .i64 ((i:Int)+1),.int .i64 (y.a),.int .i64 (y.b)] 3))):=zAB hB hbs;have HB3:Hid (w.heap.size<=(W.alloc (.cells #[.int .i64 ((i:Int)+1),.int .i64 (y.a),.int .i64 (y.b)] 3)).heap.size):=HB2.out.size;clear hbs;go_wp2_with (refine zA5 rfl (.tmp 17) (.tmp 24) rfl (W.alloc (.cells #[.int .i64 ((i:Int)+1),.int .i64 (y.a),.int .i64 (y.b)] 3)) (W.alloc (.cells #[.int .i64 ((i:Int)+1),.int .i64 (y.a),.int .i64 (y.b)] 3)).heap.size (Nat.le_refl _) (.slice none 0 0) [] rfl (OwnZ.nil _ _) _ [(i:Int)+1,y.a,y.b] rfl HR.out zAd (by simp) ?_;intro v2 w2 own2 hg2)
  go_ret;exact ⟨by rw [hf.out];exact HndP.of own2 HB3.out,zAr HB2.out (OwnZ.nil _ _) HB3.out hg2⟩
 by_cases h13:y.op=13
 ·have hf:Hid (q=[y.a]):=by show _=_;rw [<-HQ.out];simp [aP,Wc.ahd,h13]
  have hbs:=zAK (Below.refl _ W) (.cells #[.int .i64 (y.a)] 3);have HR:Hid (RdZ (W.alloc (.cells #[.int .i64 (y.a)] 3)) (.slice (some ⟨W.heap.size,0,none⟩) 1 1) [y.a]):=RdZ.lits (l:=[y.a]) (AtL.new0 W 3 _);have HB2:Hid (Below w.heap.size w (W.alloc (.cells #[.int .i64 (y.a)] 3))):=zAB hB hbs;have HB3:Hid (w.heap.size<=(W.alloc (.cells #[.int .i64 (y.a)] 3)).heap.size):=HB2.out.size;clear hbs;go_wp2_with (refine zA5 rfl (.tmp 28) (.tmp 31) rfl (W.alloc (.cells #[.int .i64 (y.a)] 3)) (W.alloc (.cells #[.int .i64 (y.a)] 3)).heap.size (Nat.le_refl _) (.slice none 0 0) [] rfl (OwnZ.nil _ _) _ [y.a] rfl HR.out zAd (by simp) ?_;intro v2 w2 own2 hg2)
  go_ret;exact ⟨by rw [hf.out];exact HndP.of own2 HB3.out,zAr HB2.out (OwnZ.nil _ _) HB3.out hg2⟩
 by_cases h14:y.op=14
 ·have hf:Hid (q=[y.a,(i:Int)+1]):=by show _=_;rw [<-HQ.out];simp [aP,Wc.ahd,h14]
  have hbs:=zAK (Below.refl _ W) (.cells #[.int .i64 (y.a),.int .i64 ((i:Int)+1)] 3);have HR:Hid (RdZ (W.alloc (.cells #[.int .i64 (y.a),.int .i64 ((i:Int)+1)] 3)) (.slice (some ⟨W.heap.size,0,none⟩) 2 2) [y.a,(i:Int)+1]):=RdZ.lits (l:=[y.a,(i:Int)+1]) (AtL.new0 W 3 _);have HB2:Hid (Below w.heap.size w (W.alloc (.cells #[.int .i64 (y.a),.int .i64 ((i:Int)+1)] 3))):=zAB hB hbs;have HB3:Hid (w.heap.size<=(W.alloc (.cells #[.int .i64 (y.a),.int .i64 ((i:Int)+1)] 3)).heap.size):=HB2.out.size;clear hbs;go_wp2_with (refine zA5 rfl (.tmp 35) (.tmp 40) rfl (W.alloc (.cells #[.int .i64 (y.a),.int .i64 ((i:Int)+1)] 3)) (W.alloc (.cells #[.int .i64 (y.a),.int .i64 ((i:Int)+1)] 3)).heap.size (Nat.le_refl _) (.slice none 0 0) [] rfl (OwnZ.nil _ _) _ [y.a,(i:Int)+1] rfl HR.out zAd (by simp) ?_;intro v2 w2 own2 hg2)
  go_ret;exact ⟨by rw [hf.out];exact HndP.of own2 HB3.out,zAr HB2.out (OwnZ.nil _ _) HB3.out hg2⟩
 by_cases h15:y.op=15
 ·have hf:Hid (q=tl++[y.b]):=by show _=_;rw [<-HQ.out];simp [aP,Wc.ahd,Function.comp_def,h15]
  go_upto_region 14 with (refine zA5 rfl (.tmp 44) (.tmp 46) rfl W W.heap.size (Nat.le_refl _) (.slice none 0 0) [] rfl (OwnZ.nil _ _) (.slice p mm kk) tl rfl (HY.out.below hB) HNP.out (by have:=HTL.out;simp;omega) ?_;intro v1 w1 own1 hg1)
  rw [List.nil_append] at own1;have hB1:Below w.heap.size w w1:=zAr hB (OwnZ.nil _ W.heap.size) HBS.out hg1;have b2:w1.cell? ⟨w.heap.size,2,none⟩=some (.int .i64 y.b):=by rw [<-a2];unfold World.cell?;rw [hg1.block _ pI.1 (by simp [Value.ownBlock])]
  have HW1:Hid (W.heap.size<=w1.heap.size):=hg1.size;have hbs:=zAK (Below.refl _ w1) (.cells #[.int .i64 y.b] 3);have HR:Hid (RdZ (w1.alloc (.cells #[.int .i64 y.b] 3)) (.slice (some ⟨w1.heap.size,0,none⟩) 1 1) [y.b]):=RdZ.lits (l:=[y.b]) (AtL.new0 w1 3 _);have HO2:Hid (OwnZ (w1.alloc (.cells #[.int .i64 y.b] 3)) W.heap.size v1 tl):=own1.below hbs;have HB2:Hid (Below w.heap.size w (w1.alloc (.cells #[.int .i64 y.b] 3))):=zAB hB1 hbs;have HB3:Hid (W.heap.size<=(w1.alloc (.cells #[.int .i64 y.b] 3)).heap.size):=Nat.le_trans HW1.out hbs.size;clear hbs a0 a1 a2 a22 own1 hg1 pI hB;go_wp2_with (refine zA5 rfl (.tmp 48) (.tmp 51) rfl (w1.alloc (.cells #[.int .i64 y.b] 3)) W.heap.size HB3.out v1 tl rfl HO2.out _ [y.b] rfl HR.out zAd (by have:=HTL.out;simp;omega) ?_;intro v2 w2 own2 hg2)
  go_ret;exact ⟨by rw [hf.out];exact HndP.of own2 HBS.out,zAr HB2.out HO2.out HBS.out hg2⟩
 have hf:Hid (q=[(i:Int)+1]):=by show _=_;rw [<-HQ.out];simp [aP,Wc.ahd,h16,h12,h13,h14,h15]
 have hbs:=zAK (Below.refl _ W) (.cells #[.int .i64 ((i:Int)+1)] 3);have HR:Hid (RdZ (W.alloc (.cells #[.int .i64 ((i:Int)+1)] 3)) (.slice (some ⟨W.heap.size,0,none⟩) 1 1) [(i:Int)+1]):=RdZ.lits (l:=[(i:Int)+1]) (AtL.new0 W 3 _);have HB2:Hid (Below w.heap.size w (W.alloc (.cells #[.int .i64 ((i:Int)+1)] 3))):=zAB hB hbs;have HB3:Hid (w.heap.size<=(W.alloc (.cells #[.int .i64 ((i:Int)+1)] 3)).heap.size):=HB2.out.size;clear hbs;go_wp2_with (refine zA5 rfl (.tmp 53) (.tmp 56) rfl (W.alloc (.cells #[.int .i64 ((i:Int)+1)] 3)) (W.alloc (.cells #[.int .i64 ((i:Int)+1)] 3)).heap.size (Nat.le_refl _) (.slice none 0 0) [] rfl (OwnZ.nil _ _) _ [(i:Int)+1] rfl HR.out zAd (by simp) ?_;intro v2 w2 own2 hg2)
 go_ret;exact ⟨by rw [hf.out];exact HndP.of own2 HB3.out,zAr HB2.out (OwnZ.nil _ _) HB3.out hg2⟩
