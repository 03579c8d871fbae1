/- Lemmas. -/
import Derived.Test.YtefkclbaflkheaaGreatDoorQ18
set_option maxHeartbeats 4000000
set_option maxRecDepth 100000
namespace Go.Proofs.YtefkclbaflkheaaGreatDoor
open Tryz
open Go.RowKit
set_option linter.unusedVariables false
variable {tl:List Int} {x:Wc.In} {w:World}
def rgt (x:Wc.In) (tl:List Int):Bool :=
 if x.op=1 then Wv.right x.v.k x.v.n x.v.d x.v.t x.v.b x.v.f && (smI x ⟨1,0,0,x.v,c0I,a0I,a0I⟩ && decide (tl=[]))
 else if x.op=2 then Wpl.rightC x.ce.s x.ce.r x.ce.c && (smI x ⟨2,0,0,v0I,x.ce,a0I,a0I⟩ && decide (tl=[]))
 else if x.op=3 then (decide (1<=x.a) && decide (x.a<=3)) && (smI x ⟨3,x.a,0,v0I,c0I,a0I,a0I⟩ && decide (tl=[]))
 else if x.op=4 then Wt.isBin x.a && (smI x ⟨4,x.a,0,v0I,c0I,a0I,a0I⟩ && decide (tl=[]))
 else if x.op=5 then apl x.a x.b && (smI x ⟨5,x.a,x.b,v0I,c0I,a0I,a0I⟩ && decide (tl=[]))
 else if x.op=6 then fld x.a && (smI x ⟨6,x.a,0,v0I,c0I,a0I,a0I⟩ && decide (tl=[]))
 else if x.op=7 then true && (smI x ⟨7,0,0,v0I,c0I,a0I,a0I⟩ && decide (tl=[]))
 else if x.op=8 then Wpl.rightA x.ar.s x.ar.t x.ar.l x.ar.b x.ar.r && (smI x ⟨8,0,0,v0I,c0I,x.ar,a0I⟩ && decide (tl=[]))
 else if x.op=9 then ((Wpl.rightA x.ar.s x.ar.t x.ar.l x.ar.b x.ar.r && Wpl.rightA x.pr.s x.pr.t x.pr.l x.pr.b x.pr.r) && shp x.ar x.pr) && (smI x ⟨9,0,0,v0I,c0I,x.ar,x.pr⟩ && decide (tl=[]))
 else if x.op=10 then true && (smI x ⟨10,0,0,v0I,c0I,a0I,a0I⟩ && decide (tl=[]))
 else if x.op=11 then (Wpl.rightA x.ar.s x.ar.t x.ar.l x.ar.b x.ar.r && (x.b == 1 || x.b == 2)) && (smI x ⟨11,0,x.b,v0I,c0I,x.ar,a0I⟩ && decide (tl=[]))
 else if x.op=12 then true && (smI x ⟨12,x.a,x.b,v0I,c0I,a0I,a0I⟩ && decide (tl=[]))
 else if x.op=13 then true && (smI x ⟨13,x.a,0,v0I,c0I,a0I,a0I⟩ && decide (tl=[]))
 else if x.op=14 then true && (smI x ⟨14,x.a,0,v0I,c0I,a0I,a0I⟩ && decide (tl=[]))
 else if x.op=15 then (decide (1<=(tl.length:Int)) && decide ((tl.length:Int)<=30)) && (smI x ⟨15,0,x.b,v0I,c0I,a0I,a0I⟩ && decide (tl=tl))
 else if x.op=16 then true && (smI x ⟨16,0,0,v0I,c0I,a0I,a0I⟩ && decide (tl=[]))
 else false
theorem zOf (h:x.op=1):rgt x tl=(Wv.right x.v.k x.v.n x.v.d x.v.t x.v.b x.v.f && (smI x ⟨1,0,0,x.v,c0I,a0I,a0I⟩ && decide (tl=[]))):=by
 unfold rgt;rw [if_pos h]
theorem zOu (h:x.op=2):rgt x tl=(Wpl.rightC x.ce.s x.ce.r x.ce.c && (smI x ⟨2,0,0,v0I,x.ce,a0I,a0I⟩ && decide (tl=[]))):=by
 unfold rgt;rw [if_neg (by omega),if_pos h]
theorem zPE (h:x.op=3):rgt x tl=((decide (1<=x.a) && decide (x.a<=3)) && (smI x ⟨3,x.a,0,v0I,c0I,a0I,a0I⟩ && decide (tl=[]))):=by
 unfold rgt;rw [if_neg (by omega),if_neg (by omega),if_pos h]
theorem zOt (h:x.op=4):rgt x tl=(Wt.isBin x.a && (smI x ⟨4,x.a,0,v0I,c0I,a0I,a0I⟩ && decide (tl=[]))):=by
 unfold rgt;rw [if_neg (by omega),if_neg (by omega),if_neg (by omega),if_pos h]
theorem zOP (h:x.op=5):rgt x tl=(apl x.a x.b && (smI x ⟨5,x.a,x.b,v0I,c0I,a0I,a0I⟩ && decide (tl=[]))):=by
 unfold rgt;rw [if_neg (by omega),if_neg (by omega),if_neg (by omega),if_neg (by omega),if_pos h]
theorem zOs (h:x.op=6):rgt x tl=(fld x.a && (smI x ⟨6,x.a,0,v0I,c0I,a0I,a0I⟩ && decide (tl=[]))):=by
 unfold rgt;rw [if_neg (by omega),if_neg (by omega),if_neg (by omega),if_neg (by omega),if_neg (by omega),if_pos h]
theorem zOq (h:x.op=7):rgt x tl=(true && (smI x ⟨7,0,0,v0I,c0I,a0I,a0I⟩ && decide (tl=[]))):=by
 unfold rgt;rw [if_neg (by omega),if_neg (by omega),if_neg (by omega),if_neg (by omega),if_neg (by omega),if_neg (by omega),if_pos h]
theorem zOw (h:x.op=8):rgt x tl=(Wpl.rightA x.ar.s x.ar.t x.ar.l x.ar.b x.ar.r && (smI x ⟨8,0,0,v0I,c0I,x.ar,a0I⟩ && decide (tl=[]))):=by
 unfold rgt;rw [if_neg (by omega),if_neg (by omega),if_neg (by omega),if_neg (by omega),if_neg (by omega),if_neg (by omega),if_neg (by omega),if_pos h]
theorem zPG (h:x.op=9):rgt x tl=(((Wpl.rightA x.ar.s x.ar.t x.ar.l x.ar.b x.ar.r && Wpl.rightA x.pr.s x.pr.t x.pr.l x.pr.b x.pr.r) && shp x.ar x.pr) && (smI x ⟨9,0,0,v0I,c0I,x.ar,x.pr⟩ && decide (tl=[]))):=by
 unfold rgt;rw [if_neg (by omega),if_neg (by omega),if_neg (by omega),if_neg (by omega),if_neg (by omega),if_neg (by omega),if_neg (by omega),if_neg (by omega),if_pos h]
theorem zO8 (h:x.op=10):rgt x tl=(true && (smI x ⟨10,0,0,v0I,c0I,a0I,a0I⟩ && decide (tl=[]))):=by
 unfold rgt;rw [if_neg (by omega),if_neg (by omega),if_neg (by omega),if_neg (by omega),if_neg (by omega),if_neg (by omega),if_neg (by omega),if_neg (by omega),if_neg (by omega),if_pos h]
theorem zLe (h:x.op=11):rgt x tl=((Wpl.rightA x.ar.s x.ar.t x.ar.l x.ar.b x.ar.r && (x.b == 1 || x.b == 2)) && (smI x ⟨11,0,x.b,v0I,c0I,x.ar,a0I⟩ && decide (tl=[]))):=by
 unfold rgt;rw [if_neg (by omega),if_neg (by omega),if_neg (by omega),if_neg (by omega),if_neg (by omega),if_neg (by omega),if_neg (by omega),if_neg (by omega),if_neg (by omega),if_neg (by omega),if_pos h]
theorem zNg (h:x.op=12):rgt x tl=(true && (smI x ⟨12,x.a,x.b,v0I,c0I,a0I,a0I⟩ && decide (tl=[]))):=by
 unfold rgt;rw [if_neg (by omega),if_neg (by omega),if_neg (by omega),if_neg (by omega),if_neg (by omega),if_neg (by omega),if_neg (by omega),if_neg (by omega),if_neg (by omega),if_neg (by omega),if_neg (by omega),if_pos h]
theorem zNm (h:x.op=13):rgt x tl=(true && (smI x ⟨13,x.a,0,v0I,c0I,a0I,a0I⟩ && decide (tl=[]))):=by
 unfold rgt;rw [if_neg (by omega),if_neg (by omega),if_neg (by omega),if_neg (by omega),if_neg (by omega),if_neg (by omega),if_neg (by omega),if_neg (by omega),if_neg (by omega),if_neg (by omega),if_neg (by omega),if_neg (by omega),if_pos h]
theorem zNj (h:x.op=14):rgt x tl=(true && (smI x ⟨14,x.a,0,v0I,c0I,a0I,a0I⟩ && decide (tl=[]))):=by
 unfold rgt;rw [if_neg (by omega),if_neg (by omega),if_neg (by omega),if_neg (by omega),if_neg (by omega),if_neg (by omega),if_neg (by omega),if_neg (by omega),if_neg (by omega),if_neg (by omega),if_neg (by omega),if_neg (by omega),if_neg (by omega),if_pos h]
theorem zNv (h:x.op=15):rgt x tl=((decide (1<=(tl.length:Int)) && decide ((tl.length:Int)<=30)) && (smI x ⟨15,0,x.b,v0I,c0I,a0I,a0I⟩ && decide (tl=tl))):=by
 unfold rgt;rw [if_neg (by omega),if_neg (by omega),if_neg (by omega),if_neg (by omega),if_neg (by omega),if_neg (by omega),if_neg (by omega),if_neg (by omega),if_neg (by omega),if_neg (by omega),if_neg (by omega),if_neg (by omega),if_neg (by omega),if_neg (by omega),if_pos h]
theorem zNs (h:x.op=16):rgt x tl=(true && (smI x ⟨16,0,0,v0I,c0I,a0I,a0I⟩ && decide (tl=[]))):=by
 unfold rgt;rw [if_neg (by omega),if_neg (by omega),if_neg (by omega),if_neg (by omega),if_neg (by omega),if_neg (by omega),if_neg (by omega),if_neg (by omega),if_neg (by omega),if_neg (by omega),if_neg (by omega),if_neg (by omega),if_neg (by omega),if_neg (by omega),if_neg (by omega),if_pos h]
theorem zPJ (h:x.op<1 \/ 16<x.op):rgt x tl=false:=by
 unfold rgt;rw [if_neg (by omega),if_neg (by omega),if_neg (by omega),if_neg (by omega),if_neg (by omega),if_neg (by omega),if_neg (by omega),if_neg (by omega),if_neg (by omega),if_neg (by omega),if_neg (by omega),if_neg (by omega),if_neg (by omega),if_neg (by omega),if_neg (by omega),if_neg (by omega)]
theorem zGQ (x:Wc.In) (av:Option Addr) (n c:Nat) (tl:List Int) (w:World) (hz:RdZ w (.slice av n c) tl) (hl:tl.length<=1000000) (hf:Wt.FitV x.v) (hN:NmAt w) :
  CR 61 #[inV x (.slice av n c)] w (.bool (rgt x tl)):=by
 rcases zNa x.op with h | h | h | h | h | h | h | h | h | h | h | h | h | h | h | h | h
 ·rw [zOf h];exact zKt x av n c tl w h hz hl hf.1.1 hf.1.2 hf.2.1.1 hf.2.1.2 hf.2.2
 ·rw [zOu h];exact zJd x av n c tl w h hz hl
 ·rw [zPE h];exact zKT x av n c tl w h hz hl
 ·rw [zOt h];exact zKs x av n c tl w h hz hl
 ·rw [zOP h];exact zJq x av n c tl w h hz hl hN
 ·rw [zOs h];exact zJu x av n c tl w h hz hl
 ·rw [zOq h];exact zL2 x av n c tl w h hz hl
 ·rw [zOw h];exact zLJ x av n c tl w h hz hl
 ·rw [zPG h];exact zKL x av n c tl w h hz hl
 ·rw [zO8 h];exact zHt x av n c tl w h hz hl
 ·rw [zLe h];exact zHB x av n c tl w h hz hl
 ·rw [zNg h];exact zHM x av n c tl w h hz hl
 ·rw [zNm h];exact zHv x av n c tl w h hz hl
 ·rw [zNj h];exact zHS x av n c tl w h hz hl
 ·rw [zNv h];exact zIz x av n c tl w h hz hl
 ·rw [zNs h];exact zIG x av n c tl w h hz hl
 ·rw [zPJ h];refine (zL0 x av n c tl w hz hl h).mono ?_;rintro e w' ⟨rfl,hb⟩;exact ⟨by rw [Bool.false_and],hb⟩
abbrev zeros23:Array Value:=#[.int .i64 0,.int .i64 0,.int .i64 0,.int .i64 0,.int .i64 0,.int .i64 0,.string ⟨#[]⟩,.bool false,.int .i64 0,.int .i64 0,.int .i64 0,.int .i64 0,.int .i64 0,.int .i64 0,.int .i64 0,.int .i64 0,.int .i64 0,.int .i64 0,.int .i64 0,.int .i64 0,.int .i64 0,.int .i64 0,.slice none 0 0]
abbrev pl1 (wr:World) (i:Nat):World:=(wr.alloc (.cells #[.int .i64 i] 3)).alloc (.cells zeros23 56)
theorem zEa {o a b at':Int} (h:tl.length<=1000000):(onw o a b tl at').1.length<=1000000/\(onw o a b tl at').2.length<=1000000:=by
 unfold onw;repeat' split
 all_goals simp
 exact h
theorem zHR (n i:Nat) (x:Wc.In × List Int) (r:List (Wc.In × List Int)):Wc.plcs rgt n i (x::r)=(Wc.plc rgt n i x && Wc.plcs rgt n (i+1) r):=rfl
theorem zCJ (n i:Nat) (y:Wc.In) (tl:List Int):Wc.plc rgt n i (y,tl)=(rgt y tl && (((y.op == 16) == (i+1 == n)) && (!(onw y.op y.a y.b tl i).1.any (zC8 i n) && !(onw y.op y.a y.b tl i).2.any (zC8 i n)))):=rfl
def zGe (x:Wc.In × List Int):Prop:=zEK x.1/\∀ (av:Option Addr) (n c:Nat) (w:World),RdZ w (.slice av n c) x.2->x.2.length<=1000000->Wt.FitV x.1.v->NmAt w->CR 61 #[inV x.1 (.slice av n c)] w (.bool (rgt x.1 x.2))
theorem zJO (x:Wc.In × List Int):zGe x:=⟨zNQ _,λav n c w hz hl hf hN=>zGQ x.1 av n c x.2 w hz hl hf hN⟩
theorem zGW (L:List (Wc.In × List Int)) (v:Value) (w:World) (h:RdC w v L) (hl:L.length<=1000000) (ht:∀ x ∈ L,x.2.length<=1000000/\Wt.FitV x.1.v) (hN:NmAt w) (hCR:∀ x ∈ L,zGe x) :
  CR 35 #[v] w (.bool (Wc.plcs rgt L.length 0 L && decide (0<L.length))):=by
 obtain ⟨a1,c1,rfl,r1⟩:=h;have HR:Hid (RdC w (.slice a1 L.length c1) L):=⟨a1,c1,rfl,r1⟩
 have HT:Hid (∀ x ∈ L,x.2.length<=1000000/\Wt.FitV x.1.v):=ht;have HN:Hid (NmAt w):=hN;have HCR:Hid (∀ x ∈ L,zGe x):=hCR;clear hCR;obtain ⟨n,hn⟩:∃ n,L.length=n:=⟨_,rfl⟩
 have HL:Hid (L.length=n):=hn;rw [hn] at hl ⊢;obtain ⟨q,hq⟩:∃ q,Wc.plcs rgt n 0 L=q:=⟨_,rfl⟩
 have HQ:Hid (Wc.plcs rgt n 0 (L.drop 0)=q):=hq;rw [hq];have pB:=AtL.new0 w 36 [.slice a1 n c1];have hb0:=zAM (Below.refl _ w) (.cells #[.slice a1 n c1] 36);have hc0:(w.alloc (.cells #[.slice a1 n c1] 36)).cell? ⟨w.heap.size,0,none⟩=some (.slice a1 n c1):=pB.2.1 0 _ rfl;clear r1 ht hN hn hq pB;go_enter func35,ntmps35;go_upto_region 1 with fail
 generalize (w.alloc (.cells #[.slice a1 n c1] 36))=w0 at *;go_wp2_with fail
 go_loopg [10] n (λgk x wr=>∃ i:Nat,x=.int .i64 i/\gk=n - i/\i<=n/\Hid (Wc.plcs rgt n i (L.drop i)=q)/\wr.cell? ⟨w.heap.size,0,none⟩=some (.slice a1 n c1)/\Below w.heap.size w wr)
 case atStart=>exact ⟨0,rfl,rfl,Nat.zero_le _,HQ,hc0,hb0⟩
 case round =>
  clear hc0 hb0 HQ;obtain ⟨i,rfl,hg,hi,HP,hc,hb⟩:=hrel;by_cases hlt:i<n
  ·have hli:(i:Int)<(n:Int):=by omega
   have hwi:IntKind.i64.wrap ((i:Int)+1)=(i:Int)+1:=by rw [IntKind.wrap_i64];omega
   have hwn:IntKind.i64.wrap ((n:Int) - 1)=(n:Int) - 1:=by rw [IntKind.wrap_i64];omega
   have hil:i<L.length:=by rw [HL.out];exact hlt
   have H0:=HR.out.below hb;rw [HL.out] at H0;obtain ⟨q1,d1,e1,f1⟩:=H0;simp only [Value.slice.injEq] at e1;obtain ⟨ex1,ex2,ex3⟩:=e1;subst ex1;subst ex3;clear ex2;obtain ⟨bb,off,p,m,k,rfl,t1,y1,_⟩:=f1 i hil;obtain ⟨y,tl,hyt⟩:∃ y tl,L[i]=(y,tl):=⟨_,_,rfl⟩
   have HCY:Hid (zGe (y,tl)):=by have:=HCR.out (L[i]) (List.getElem_mem _);rw [hyt] at this;exact this
   obtain ⟨htl,hfv⟩:=HT.out L[i] (List.getElem_mem _);have HP2:Hid ((Wc.plc rgt n i (y,tl) && Wc.plcs rgt n (i+1) (L.drop (i+1)))=q):=by
    show _=q
    rw [<-HP.out,List.drop_eq_getElem_cons hil,hyt,zHR]
   rw [hyt] at t1 y1 htl hfv;have pI0:AtL (pl1 wr i) (wr.heap.size+1) zeros23.toList:=AtL.new1 wr _ _ _;have hth:World.there (pl1 wr i) (wr.heap.size+1) 0 (zAD y (.slice p m k)).toArray.size:=pI0.there;have HB:Hid (Below w.heap.size w wr):=hb;have HC:Hid (wr.cell? ⟨w.heap.size,0,none⟩=some (.slice (some ⟨bb,off,none⟩) n c1)):=hc;have HY:Hid (RdZ wr (.slice p m k) tl):=y1;have HF:Hid (Wt.FitV y.v):=hfv;clear pI0 f1 hyt HP hil hc hb y1 hfv;go_upto_region 4 with (first | (refine zAA (by rfl) 56 (.tmp 13) rfl bb (off+i * 23) rfl (zAD y (.slice p m k)) _ t1 underlying56 rfl (by kernel_rfl) ?_) | ((with_reducible refine wpList_store_mid ?_ 56 (.tmp 4) (.tmp 14) ?_ (wr.heap.size+1) 0 (zAD y (.slice p m k)).toArray ?_ ?_ ?_ ?_ ?_ ?_);rfl;rfl;rfl;rfl;exact hth;kernel_rfl;exact zAj _ _ _ _))
   have hb:=HB.out;have hc:=HC.out;have y1:=HY.out;have hfv:=HF.out;have pI0:AtL (pl1 wr i) (wr.heap.size+1) zeros23.toList:=AtL.new1 wr _ _ _;have pC:AtL ((pl1 wr i).setCells (wr.heap.size+1) 0 (zAD y (.slice p m k))) wr.heap.size [.int .i64 i]:=((AtL.new0 wr _ [.int .i64 i]).alloc _).farAll (by omega) 0 _;have pI:AtL ((pl1 wr i).setCells (wr.heap.size+1) 0 (zAD y (.slice p m k))) (wr.heap.size+1) (zAD y (.slice p m k)):=pI0.setAll rfl;have hBw:Below wr.heap.size wr ((pl1 wr i).setCells (wr.heap.size+1) 0 (zAD y (.slice p m k))):=zAv (zAM (zAM (Below.refl _ wr) _) _) (Nat.le_succ _) _ 0;have HNW:Hid (NmAt ((pl1 wr i).setCells (wr.heap.size+1) 0 (zAD y (.slice p m k)))):=(HN.out.below hb).below hBw;have zW:=y1.below hBw;have cW:=zAC hBw hc;have hB0:=zAB hb hBw;clear pI0 hc hb hBw y1 HB HC HY HF;generalize (pl1 wr i).setCells (wr.heap.size+1) 0 (zAD y (.slice p m k))=W at *;have rI:=pI.range;clear hth t1;go_wp2_with (first | (refine zAA (by rfl) 56 (.tmp 4) rfl (wr.heap.size+1) 0 rfl (zAD y (.slice p m k)) _ rI underlying56 rfl (by kernel_rfl) ?_))
   refine (HCY.out.2 p m k W zW htl hfv HNW.out).mono ?_;rintro e w1 ⟨rfl,hb1⟩;replace pI:=AtL.below hb1 pI
   replace pC:=AtL.below hb1 pC
   replace zW:=zW.below hb1
   replace cW:=zAC hb1 cW
   replace hB0:=zAB hB0 hb1
   clear rI hb1 hfv HNW;have rI:=pI.range;have i0:=pI.2.1 0 _ rfl;have cA:=pC.2.1 0 _ rfl;obtain ⟨r,hr⟩:∃ r,rgt y tl=r:=⟨_,rfl⟩
   have HRG:Hid (rgt y tl=r):=hr;rw [hr];clear hr pI pC;cases r with
   | false =>
    go_wp2;go_ret;exact ⟨by rw [<-HP2.out,zCJ,HRG.out];rfl,hB0⟩
   | true =>
    by_cases h16:y.op=16
    ·by_cases hla:(n:Int) - 1=(i:Int)
     ·have HE:Hid (((y.op == 16) == (i+1 == n))=true):=by show _=_;rw [show (y.op == 16)=true from by simp [h16],show (i+1 == n)=true from by simp;omega];rfl
      have OW:=zBs y p m k tl i;have hle:=zEa (o:=y.op) (a:=y.a) (b:=y.b) (at':=i) htl;have HO:Hid (∃ u,onw y.op y.a y.b tl i=u):=⟨_,rfl⟩
      obtain ⟨u,hu⟩:=HO.out;have HU:Hid (onw y.op y.a y.b tl i=u):=hu;rw [hu] at hle;have OW1:=OW w1 (by omega) zW;rw [hu] at OW1;obtain ⟨u1,u2⟩:=u;simp only at hle;have HLE:Hid (u1.length<=1000000/\u2.length<=1000000):=hle;clear OW HO hu zW htl hle;go_wp2_with (first | (refine zAA (by rfl) 56 (.tmp 4) rfl (wr.heap.size+1) 0 rfl (zAD y (.slice p m k)) _ rI underlying56 rfl (by kernel_rfl) ?_))
      refine OW1.mono ?_;rintro e w2 ⟨⟨c,c2,rfl,z1,z2,_,_⟩,hb2⟩;have Z2:Hid (RdZ w2 c2 u2):=z2;replace cA:=zAC hb2 cA
      replace cW:=zAC hb2 cW
      replace hB0:=zAB hB0 hb2
      clear rI i0 hb2 OW1;clear z2;have CA:=zBE u1 c i wr.heap.size w.heap.size _ n _ w2 z1 HLE.out.1 cA cW;clear z1;go_wp2_with fail
      refine CA.mono ?_;rintro e w3 ⟨rfl,hb3⟩;replace cA:=zAC hb3 cA
      replace cW:=zAC hb3 cW
      have z2:=Z2.out.below hb3;clear Z2;replace hB0:=zAB hB0 hb3
      clear CA hb3;obtain ⟨s1,hs1⟩:∃ s,u1.any (zC8 i n)=s:=⟨_,rfl⟩
      have HS1:Hid (u1.any (zC8 i n)=s1):=hs1;rw [hs1];clear hs1;cases s1 with
      | true =>
       go_wp2;go_ret;exact ⟨by rw [<-HP2.out,zCJ,HRG.out,HE.out,HU.out,HS1.out];rfl,hB0⟩
      | false =>
       have CB:=zBE u2 c2 i wr.heap.size w.heap.size _ n _ w3 z2 HLE.out.2 cA cW;clear z2;go_wp2_with fail
       refine CB.mono ?_;rintro e w4 ⟨rfl,hb4⟩;replace cW:=zAC hb4 cW
       replace hB0:=zAB hB0 hb4
       clear CB hb4;obtain ⟨s2,hs2⟩:∃ s,u2.any (zC8 i n)=s:=⟨_,rfl⟩
       have HS2:Hid (u2.any (zC8 i n)=s2):=hs2;rw [hs2];clear hs2;cases s2 with
       | true =>
        go_wp2;go_ret;exact ⟨by rw [<-HP2.out,zCJ,HRG.out,HE.out,HU.out,HS1.out,HS2.out];rfl,hB0⟩
       | false =>
        have HP3:Hid (Wc.plcs rgt n (i+1) (L.drop (i+1))=q):=by
         show _=q
         rw [<-HP2.out,zCJ,HRG.out,HE.out,HU.out];simp only [HS1.out,HS2.out];rfl
        go_wp2_with fail
        go_roundg (n - (i+1))
        case rel=>exact ⟨i+1,by simp,rfl,hlt,HP3,cW,hB0⟩
        case measure=>omega
     ·have HE:Hid (((y.op == 16) == (i+1 == n))=false):=by show _=_;rw [show (y.op == 16)=true from by simp [h16],show (i+1 == n)=false from by simp;omega];rfl
      have hla2:¬ (i:Int)=(n:Int) - 1:=by omega
      have hla3:((i:Int) == (n:Int) - 1)=false:=by simp;omega
      have hla4:((n:Int) - 1 == (i:Int))=false:=by simp;omega
      go_wp2;go_ret;exact ⟨by rw [<-HP2.out,zCJ,HRG.out,HE.out];rfl,hB0⟩
    ·have h16b:(y.op == 16)=false:=by simp [h16]
     by_cases hla:(n:Int) - 1=(i:Int)
     ·have HE:Hid (((y.op == 16) == (i+1 == n))=false):=by show _=_;rw [show (y.op == 16)=false from by simp [h16],show (i+1 == n)=true from by simp;omega];rfl
      go_wp2;go_ret;exact ⟨by rw [<-HP2.out,zCJ,HRG.out,HE.out];rfl,hB0⟩
     ·have HE:Hid (((y.op == 16) == (i+1 == n))=true):=by show _=_;rw [show (y.op == 16)=false from by simp [h16],show (i+1 == n)=false from by simp;omega];rfl
      have hla2:¬ (i:Int)=(n:Int) - 1:=by omega
      have hla3:((i:Int) == (n:Int) - 1)=false:=by simp;omega
      have hla4:((n:Int) - 1 == (i:Int))=false:=by simp;omega
      have OW:=zBs y p m k tl i;have hle:=zEa (o:=y.op) (a:=y.a) (b:=y.b) (at':=i) htl;have HO:Hid (∃ u,onw y.op y.a y.b tl i=u):=⟨_,rfl⟩
      obtain ⟨u,hu⟩:=HO.out;have HU:Hid (onw y.op y.a y.b tl i=u):=hu;rw [hu] at hle;have OW1:=OW w1 (by omega) zW;rw [hu] at OW1;obtain ⟨u1,u2⟩:=u;simp only at hle;have HLE:Hid (u1.length<=1000000/\u2.length<=1000000):=hle;clear OW HO hu zW htl hle;go_wp2_with (first | (refine zAA (by rfl) 56 (.tmp 4) rfl (wr.heap.size+1) 0 rfl (zAD y (.slice p m k)) _ rI underlying56 rfl (by kernel_rfl) ?_))
      refine OW1.mono ?_;rintro e w2 ⟨⟨c,c2,rfl,z1,z2,_,_⟩,hb2⟩;have Z2:Hid (RdZ w2 c2 u2):=z2;replace cA:=zAC hb2 cA
      replace cW:=zAC hb2 cW
      replace hB0:=zAB hB0 hb2
      clear rI i0 hb2 OW1;clear z2;have CA:=zBE u1 c i wr.heap.size w.heap.size _ n _ w2 z1 HLE.out.1 cA cW;clear z1;go_wp2_with fail
      refine CA.mono ?_;rintro e w3 ⟨rfl,hb3⟩;replace cA:=zAC hb3 cA
      replace cW:=zAC hb3 cW
      have z2:=Z2.out.below hb3;clear Z2;replace hB0:=zAB hB0 hb3
      clear CA hb3;obtain ⟨s1,hs1⟩:∃ s,u1.any (zC8 i n)=s:=⟨_,rfl⟩
      have HS1:Hid (u1.any (zC8 i n)=s1):=hs1;rw [hs1];clear hs1;cases s1 with
      | true =>
       go_wp2;go_ret;exact ⟨by rw [<-HP2.out,zCJ,HRG.out,HE.out,HU.out,HS1.out];rfl,hB0⟩
      | false =>
       have CB:=zBE u2 c2 i wr.heap.size w.heap.size _ n _ w3 z2 HLE.out.2 cA cW;clear z2;go_wp2_with fail
       refine CB.mono ?_;rintro e w4 ⟨rfl,hb4⟩;replace cW:=zAC hb4 cW
       replace hB0:=zAB hB0 hb4
       clear CB hb4;obtain ⟨s2,hs2⟩:∃ s,u2.any (zC8 i n)=s:=⟨_,rfl⟩
       have HS2:Hid (u2.any (zC8 i n)=s2):=hs2;rw [hs2];clear hs2;cases s2 with
       | true =>
        go_wp2;go_ret;exact ⟨by rw [<-HP2.out,zCJ,HRG.out,HE.out,HU.out,HS1.out,HS2.out];rfl,hB0⟩
       | false =>
        have HP3:Hid (Wc.plcs rgt n (i+1) (L.drop (i+1))=q):=by
         show _=q
         rw [<-HP2.out,zCJ,HRG.out,HE.out,HU.out];simp only [HS1.out,HS2.out];rfl
        go_wp2_with fail
        go_roundg (n - (i+1))
        case rel=>exact ⟨i+1,by simp,rfl,hlt,HP3,cW,hB0⟩
        case measure=>omega
  ·have hli:¬ (i:Int)<(n:Int):=by omega
   have hqt:Hid (q=true):=by
    show q=true
    rw [<-HP.out,List.drop_eq_nil_of_le (by rw [HL.out];omega)];rfl
   have hen:i=n:=by omega
   by_cases h0:0<n
   ·have h0z:(0:Int)<(n:Int):=by omega
    go_wp2;go_ret;exact ⟨by first | rfl | (rw [hqt.out];rfl) | (rw [hqt.out,decide_eq_true h0];rfl),hb⟩
   ·have h0z:¬ (0:Int)<(n:Int):=by omega
    go_wp2;go_ret;exact ⟨by first | rfl | (rw [hqt.out];rfl) | (rw [hqt.out,decide_eq_false h0];rfl) | simp,hb⟩
theorem zFj (w:World) (o:Obj):w.heap.size<(w.alloc o).heap.size:=by
 show w.heap.size<(w.heap.push o).size
 simp
def zAc:List (Wc.In × Value)->List Value
 | []=>[]
 | x::r=>zAD x.1 x.2++zAc r
theorem zE4:∀ A:List (Wc.In × Value),(zAc A).length=A.length * 23
 | []=>rfl
 | x::r=>by simp [zAc,zE4 r,zAD];omega
theorem zDt:∀ (A C:List (Wc.In × Value)),zAc (A++C)=zAc A++zAc C
 | [],C=>rfl
 | x::r,C=>by simp [zAc,zDt r C]
def OwnI (w:World) (B:Nat) (v:Value) (A:List (Wc.In × Value)):Prop:=w.ownsRow B 56 23 v A.length (zAc A)
theorem OwnI.nil (w:World) (B:Nat):OwnI w B (.slice none 0 0) []:=⟨rfl,Or.inl ⟨rfl,rfl⟩⟩
theorem OwnI.below {w':World} {B:Nat} {v:Value} {A:List (Wc.In × Value)} (h:OwnI w B v A) (hb:Below w.heap.size w w'):OwnI w' B v A:=zAW (Fr.of_below [] hb) h (by simp)
theorem zM9:(prog.info? 56).map (λi=>(i.zero,i.size,i.bytes))=some (some (.agg (zAD (zAI 0) zAH).toArray),23,208):=by kernel_rfl
theorem zDo:∀ (A:List (Wc.In × Value)),(∀ p ∈ A,∃ av n c,p.2=.slice av n c)->∀ v ∈ zAc A,v.oneCell'=true
 | [],_,v,h=>by cases h
 | x::r,hs,v,h=>by
  obtain ⟨av,n,c,e⟩:=hs x (List.mem_cons_self ..);simp only [zAc,List.mem_append] at h;rcases h with h | h
  ·rw [e] at h;exact zLf _ _ _ _ v h
  ·exact zDo r (λp hp=>hs p (List.mem_cons_of_mem _ hp)) v h
theorem zP9 (x:Wc.In) (av:Option Addr) (n c:Nat) (w:World):(Instr.buildSlice 36 1 #[(0,.agg (zAD x (.slice av n c)).toArray)]).run prog w=.ok (.slice (some ⟨w.heap.size,0,none⟩) 1 1) (w.alloc (.cells (zAD x (.slice av n c)).toArray 56)):=by kernel_rfl
theorem zMy (i:Nat) (hi:i<23):(match some (Obj.cells #[.string ⟨#[65,66,83]⟩,.string ⟨#[83,73,71,78]⟩,.string ⟨#[73,78,84]⟩,.string ⟨#[82,79,85,78,68]⟩,.string ⟨#[77,79,68]⟩,.string ⟨#[81,85,79,84,73,69,78,84]⟩,.string ⟨#[80,79,87,69,82]⟩,.string ⟨#[78,79,84]⟩,.string ⟨#[76,69,78]⟩,.string ⟨#[76,69,70,84]⟩,.string ⟨#[82,73,71,72,84]⟩,.string ⟨#[77,73,68]⟩,.string ⟨#[82,69,80,84]⟩,.string ⟨#[70,73,78,68]⟩,.string ⟨#[85,80,80,69,82]⟩,.string ⟨#[76,79,87,69,82]⟩,.string ⟨#[84,82,73,77]⟩,.string ⟨#[86,65,76,85,69]⟩,.string ⟨#[73,83,78,85,77,66,69,82]⟩,.string ⟨#[73,83,84,69,88,84]⟩,.string ⟨#[73,83,66,76,65,78,75]⟩,.string ⟨#[73,83,69,82,82,79,82]⟩,.string ⟨#[78,65]⟩] 9) with | some (.cells c _ _)=>if (none:Option Nat).isSome then none else c[i]? | _=>none)=some (.string (nmN.getD i ⟨#[]⟩)):=by
 match i,hi with
 | 0,_ | 1,_ | 2,_ | 3,_ | 4,_ | 5,_ | 6,_ | 7,_ | 8,_ | 9,_ | 10,_ | 11,_ | 12,_ | 13,_ | 14,_ | 15,_ | 16,_ | 17,_ | 18,_ | 19,_ | 20,_ | 21,_ | 22,_=>rfl
 | n+23,h=>exact absurd h (by omega)
theorem zMc (i:Nat) (hi:i<23):(match some (Obj.cells #[.int .i64 1,.int .i64 1,.int .i64 1,.int .i64 1,.int .i64 2,.int .i64 2,.int .i64 2,.int .i64 1,.int .i64 1,.int .i64 1,.int .i64 1,.int .i64 3,.int .i64 2,.int .i64 2,.int .i64 1,.int .i64 1,.int .i64 1,.int .i64 1,.int .i64 1,.int .i64 1,.int .i64 1,.int .i64 1,.int .i64 0] 3) with | some (.cells c _ _)=>if (none:Option Nat).isSome then none else c[i]? | _=>none)=some (.int .i64 (leN.getD i 0)):=by
 match i,hi with
 | 0,_ | 1,_ | 2,_ | 3,_ | 4,_ | 5,_ | 6,_ | 7,_ | 8,_ | 9,_ | 10,_ | 11,_ | 12,_ | 13,_ | 14,_ | 15,_ | 16,_ | 17,_ | 18,_ | 19,_ | 20,_ | 21,_ | 22,_=>rfl
 | n+23,h=>exact absurd h (by omega)
theorem zBT {k:Nat} {o:Obj} (h:w.heap[k]? = some o):k<w.heap.size:=by
 rcases Nat.lt_or_ge k w.heap.size with q | q
 ·exact q
 ·rw [Array.getElem?_eq_none q] at h;cases h
theorem zBI (w:World):Calls prog 86 #[] w λe w'=>(∃ r B,e=.returned r/\OwnS w' B r allS/\w.heap.size<=B)/\Below w.heap.size w w':=by
 have pF:=AtL.new0 w 9 [.string ⟨#[83,85,77]⟩,.string ⟨#[80,82,79,68,85,67,84]⟩,.string ⟨#[67,79,85,78,84]⟩,.string ⟨#[67,79,85,78,84,65]⟩,.string ⟨#[77,73,78]⟩,.string ⟨#[77,65,88]⟩,.string ⟨#[65,86,69,82,65,71,69]⟩,.string ⟨#[65,78,68]⟩,.string ⟨#[79,82]⟩,.string ⟨#[88,79,82]⟩,.string ⟨#[67,79,78,67,65,84]⟩,.string ⟨#[83,85,77,83,81]⟩,.string ⟨#[71,67,68]⟩,.string ⟨#[70,73,82,83,84]⟩,.string ⟨#[76,65,83,84]⟩];have hb0:=zAM (Below.refl _ w) (.cells #[.string ⟨#[83,85,77]⟩,.string ⟨#[80,82,79,68,85,67,84]⟩,.string ⟨#[67,79,85,78,84]⟩,.string ⟨#[67,79,85,78,84,65]⟩,.string ⟨#[77,73,78]⟩,.string ⟨#[77,65,88]⟩,.string ⟨#[65,86,69,82,65,71,69]⟩,.string ⟨#[65,78,68]⟩,.string ⟨#[79,82]⟩,.string ⟨#[88,79,82]⟩,.string ⟨#[67,79,78,67,65,84]⟩,.string ⟨#[83,85,77,83,81]⟩,.string ⟨#[71,67,68]⟩,.string ⟨#[70,73,82,83,84]⟩,.string ⟨#[76,65,83,84]⟩] 9);have HF:Hid (∀ (wr:World),Fr [] (w.alloc (.cells #[.string ⟨#[83,85,77]⟩,.string ⟨#[80,82,79,68,85,67,84]⟩,.string ⟨#[67,79,85,78,84]⟩,.string ⟨#[67,79,85,78,84,65]⟩,.string ⟨#[77,73,78]⟩,.string ⟨#[77,65,88]⟩,.string ⟨#[65,86,69,82,65,71,69]⟩,.string ⟨#[65,78,68]⟩,.string ⟨#[79,82]⟩,.string ⟨#[88,79,82]⟩,.string ⟨#[67,79,78,67,65,84]⟩,.string ⟨#[83,85,77,83,81]⟩,.string ⟨#[71,67,68]⟩,.string ⟨#[70,73,82,83,84]⟩,.string ⟨#[76,65,83,84]⟩] 9)) wr->∀ i:Nat,i<15->wr.cell? ⟨w.heap.size,i,none⟩=some (.string (foN.getD i ⟨#[]⟩))):=by
  intro wr hf i hi;refine hf.cell (pF.2.1 i _ ?_) (by simp);have:∀ i:Nat,i<15->([.string ⟨#[83,85,77]⟩,.string ⟨#[80,82,79,68,85,67,84]⟩,.string ⟨#[67,79,85,78,84]⟩,.string ⟨#[67,79,85,78,84,65]⟩,.string ⟨#[77,73,78]⟩,.string ⟨#[77,65,88]⟩,.string ⟨#[65,86,69,82,65,71,69]⟩,.string ⟨#[65,78,68]⟩,.string ⟨#[79,82]⟩,.string ⟨#[88,79,82]⟩,.string ⟨#[67,79,78,67,65,84]⟩,.string ⟨#[83,85,77,83,81]⟩,.string ⟨#[71,67,68]⟩,.string ⟨#[70,73,82,83,84]⟩,.string ⟨#[76,65,83,84]⟩]:List Value)[i]? = some (.string (foN.getD i ⟨#[]⟩)):=by
   intro i hi;match i,hi with
   | 0,_ | 1,_ | 2,_ | 3,_ | 4,_ | 5,_ | 6,_ | 7,_ | 8,_ | 9,_ | 10,_ | 11,_ | 12,_ | 13,_ | 14,_=>rfl
  exact this i hi
 have HF0:Hid (Fr [] (w.alloc (.cells #[.string ⟨#[83,85,77]⟩,.string ⟨#[80,82,79,68,85,67,84]⟩,.string ⟨#[67,79,85,78,84]⟩,.string ⟨#[67,79,85,78,84,65]⟩,.string ⟨#[77,73,78]⟩,.string ⟨#[77,65,88]⟩,.string ⟨#[65,86,69,82,65,71,69]⟩,.string ⟨#[65,78,68]⟩,.string ⟨#[79,82]⟩,.string ⟨#[88,79,82]⟩,.string ⟨#[67,79,78,67,65,84]⟩,.string ⟨#[83,85,77,83,81]⟩,.string ⟨#[71,67,68]⟩,.string ⟨#[70,73,82,83,84]⟩,.string ⟨#[76,65,83,84]⟩] 9)) (w.alloc (.cells #[.string ⟨#[83,85,77]⟩,.string ⟨#[80,82,79,68,85,67,84]⟩,.string ⟨#[67,79,85,78,84]⟩,.string ⟨#[67,79,85,78,84,65]⟩,.string ⟨#[77,73,78]⟩,.string ⟨#[77,65,88]⟩,.string ⟨#[65,86,69,82,65,71,69]⟩,.string ⟨#[65,78,68]⟩,.string ⟨#[79,82]⟩,.string ⟨#[88,79,82]⟩,.string ⟨#[67,79,78,67,65,84]⟩,.string ⟨#[83,85,77,83,81]⟩,.string ⟨#[71,67,68]⟩,.string ⟨#[70,73,82,83,84]⟩,.string ⟨#[76,65,83,84]⟩] 9))):=Fr.refl _ _;have HW0:Hid (w.heap.size<(w.alloc (.cells #[.string ⟨#[83,85,77]⟩,.string ⟨#[80,82,79,68,85,67,84]⟩,.string ⟨#[67,79,85,78,84]⟩,.string ⟨#[67,79,85,78,84,65]⟩,.string ⟨#[77,73,78]⟩,.string ⟨#[77,65,88]⟩,.string ⟨#[65,86,69,82,65,71,69]⟩,.string ⟨#[65,78,68]⟩,.string ⟨#[79,82]⟩,.string ⟨#[88,79,82]⟩,.string ⟨#[67,79,78,67,65,84]⟩,.string ⟨#[83,85,77,83,81]⟩,.string ⟨#[71,67,68]⟩,.string ⟨#[70,73,82,83,84]⟩,.string ⟨#[76,65,83,84]⟩] 9)).heap.size):=pF.1
 have HB0:Hid (Below w.heap.size w (w.alloc (.cells #[.string ⟨#[83,85,77]⟩,.string ⟨#[80,82,79,68,85,67,84]⟩,.string ⟨#[67,79,85,78,84]⟩,.string ⟨#[67,79,85,78,84,65]⟩,.string ⟨#[77,73,78]⟩,.string ⟨#[77,65,88]⟩,.string ⟨#[65,86,69,82,65,71,69]⟩,.string ⟨#[65,78,68]⟩,.string ⟨#[79,82]⟩,.string ⟨#[88,79,82]⟩,.string ⟨#[67,79,78,67,65,84]⟩,.string ⟨#[83,85,77,83,81]⟩,.string ⟨#[71,67,68]⟩,.string ⟨#[70,73,82,83,84]⟩,.string ⟨#[76,65,83,84]⟩] 9))):=hb0;clear pF hb0;go_enter func86,ntmps86;go_upto_region 4 with fail
 generalize (w.alloc (.cells #[.string ⟨#[83,85,77]⟩,.string ⟨#[80,82,79,68,85,67,84]⟩,.string ⟨#[67,79,85,78,84]⟩,.string ⟨#[67,79,85,78,84,65]⟩,.string ⟨#[77,73,78]⟩,.string ⟨#[77,65,88]⟩,.string ⟨#[65,86,69,82,65,71,69]⟩,.string ⟨#[65,78,68]⟩,.string ⟨#[79,82]⟩,.string ⟨#[88,79,82]⟩,.string ⟨#[67,79,78,67,65,84]⟩,.string ⟨#[83,85,77,83,81]⟩,.string ⟨#[71,67,68]⟩,.string ⟨#[70,73,82,83,84]⟩,.string ⟨#[76,65,83,84]⟩] 9))=w0 at *;have HSZ:Hid (w.heap.size<=w0.heap.size):=Nat.le_of_lt HW0.out;go_wp2_with fail
 go_loopg [1,3] 15 (λgk u1 x wr=>∃ (i:Nat) (va:Value),va=u1/\x=.int .i64 i/\gk=15 - i/\i<=15/\Hid (OwnS wr w0.heap.size va ((List.range i).map f1))/\Hid (Fr [] w0 wr))
 case atStart=>exact ⟨0,_,rfl,rfl,rfl,Nat.zero_le _,OwnS.nil _ _,HF0⟩
 case round =>
  clear HF0;obtain ⟨i,va,rfl,rfl,hg,hi,HO,HFr⟩:=hrel;by_cases hlt:i<15
  ·have hli:(i:Int)<15:=by omega
   have hiz:(0:Int)<=(i:Int):=by omega
   have hwi:IntKind.i64.wrap ((i:Int)+1)=(i:Int)+1:=by rw [IntKind.wrap_i64];omega
   have hw1:IntKind.i64.wrap (1+(i:Int))=(i:Int)+1:=by rw [IntKind.wrap_i64];omega
   have c0:=HF.out wr HFr.out i hlt;obtain ⟨nm,hnm⟩:∃ nm,foN.getD i ⟨#[]⟩=nm:=⟨_,rfl⟩
   have HN:Hid (f1 i=⟨(i:Int)+1,1,nm,1,30,⟨#[120]⟩⟩):=by show _=_;rw [<-hnm];rfl
   rw [hnm] at c0;have hbs:=zAM (Below.refl _ wr) (.cells #[.int .i64 ((i:Int)+1),.int .i64 1,.string nm,.int .i64 1,.int .i64 30,.string ⟨#[120]⟩] 108);have HA:Hid (AtL (wr.alloc (.cells #[.int .i64 ((i:Int)+1),.int .i64 1,.string nm,.int .i64 1,.int .i64 30,.string ⟨#[120]⟩] 108)) wr.heap.size (zAs [⟨(i:Int)+1,1,nm,1,30,⟨#[120]⟩⟩])):=AtL.new0 wr 108 (zAs [⟨(i:Int)+1,1,nm,1,30,⟨#[120]⟩⟩]);have HO2:Hid (OwnS (wr.alloc (.cells #[.int .i64 ((i:Int)+1),.int .i64 1,.string nm,.int .i64 1,.int .i64 30,.string ⟨#[120]⟩] 108)) w0.heap.size va ((List.range i).map f1)):=HO.out.below hbs;have HF2:Hid (Fr [] w0 (wr.alloc (.cells #[.int .i64 ((i:Int)+1),.int .i64 1,.string nm,.int .i64 1,.int .i64 30,.string ⟨#[120]⟩] 108))):=HFr.out.trans (Fr.of_below [] hbs);clear hbs hnm HO HFr;go_wp2_with (refine zCB rfl (.tmp 15) (.tmp 23) rfl (wr.alloc (.cells #[.int .i64 ((i:Int)+1),.int .i64 1,.string nm,.int .i64 1,.int .i64 30,.string ⟨#[120]⟩] 108)) w0.heap.size HF2.out.size va ((List.range i).map f1) rfl HO2.out wr.heap.size [⟨(i:Int)+1,1,nm,1,30,⟨#[120]⟩⟩] rfl HA.out (by simp;omega) ?_;intro v2 w2 own2 hg2)
   have HO3:Hid (OwnS w2 w0.heap.size v2 ((List.range (i+1)).map f1)):=by show OwnS _ _ _ _;rw [List.range_succ,List.map_append,List.map_cons,List.map_nil,HN.out];exact own2
   have HF3:Hid (Fr [] w0 w2):=HF2.out.new (Fr.of_grown (S:=va.ownBlock.toList) hg2 (λk e=>by simp [e])) (λk hk=>Or.inr (HO2.out.blk (by simpa using hk)).1);clear own2 hg2 c0;go_roundg (15 - (i+1))
   case rel=>exact ⟨i+1,_,rfl,by simp,rfl,hlt,HO3,HF3⟩
   case measure=>omega
  ·have hli:¬ (i:Int)<15:=by omega
   have hi15:i=15:=by omega
   subst hi15;have hbs:=zAM (Below.refl _ wr) (.cells (zAs zBJ).toArray 108);have HA:Hid (AtL (wr.alloc (.cells (zAs zBJ).toArray 108)) wr.heap.size (zAs zBJ)):=AtL.new0 wr 108 (zAs zBJ);have HO2:Hid (OwnS (wr.alloc (.cells (zAs zBJ).toArray 108)) w0.heap.size va ((List.range 15).map f1)):=HO.out.below hbs;have HF2:Hid (Fr [] w0 (wr.alloc (.cells (zAs zBJ).toArray 108))):=HFr.out.trans (Fr.of_below [] hbs);clear hbs HO HFr HF;go_upto_region 8 with (first | (refine zFQ rfl rfl rfl rfl rfl rfl rfl rfl rfl rfl rfl rfl rfl ?_) | (refine zCB rfl (.tmp 25) (.tmp 37) rfl (wr.alloc (.cells (zAs zBJ).toArray 108)) w0.heap.size HF2.out.size va ((List.range 15).map f1) rfl HO2.out wr.heap.size zBJ rfl HA.out (by simp [zBJ]) ?_;intro v2 w2 own2 hg2))
   have HO3:Hid (OwnS w2 w0.heap.size v2 ((List.range 15).map f1++zBJ)):=own2;have HF3:Hid (Fr [] w0 w2):=HF2.out.new (Fr.of_grown (S:=va.ownBlock.toList) hg2 (λk e=>by simp [e])) (λk hk=>Or.inr (HO2.out.blk (by simpa using hk)).1);clear own2 hg2 HA HO2 HF2;have hbN:=zAM (Below.refl _ w2) (.cells #[.string ⟨#[65,66,83]⟩,.string ⟨#[83,73,71,78]⟩,.string ⟨#[73,78,84]⟩,.string ⟨#[82,79,85,78,68]⟩,.string ⟨#[77,79,68]⟩,.string ⟨#[81,85,79,84,73,69,78,84]⟩,.string ⟨#[80,79,87,69,82]⟩,.string ⟨#[78,79,84]⟩,.string ⟨#[76,69,78]⟩,.string ⟨#[76,69,70,84]⟩,.string ⟨#[82,73,71,72,84]⟩,.string ⟨#[77,73,68]⟩,.string ⟨#[82,69,80,84]⟩,.string ⟨#[70,73,78,68]⟩,.string ⟨#[85,80,80,69,82]⟩,.string ⟨#[76,79,87,69,82]⟩,.string ⟨#[84,82,73,77]⟩,.string ⟨#[86,65,76,85,69]⟩,.string ⟨#[73,83,78,85,77,66,69,82]⟩,.string ⟨#[73,83,84,69,88,84]⟩,.string ⟨#[73,83,66,76,65,78,75]⟩,.string ⟨#[73,83,69,82,82,79,82]⟩,.string ⟨#[78,65]⟩] 9);have HN0:Hid ((w2.alloc (.cells #[.string ⟨#[65,66,83]⟩,.string ⟨#[83,73,71,78]⟩,.string ⟨#[73,78,84]⟩,.string ⟨#[82,79,85,78,68]⟩,.string ⟨#[77,79,68]⟩,.string ⟨#[81,85,79,84,73,69,78,84]⟩,.string ⟨#[80,79,87,69,82]⟩,.string ⟨#[78,79,84]⟩,.string ⟨#[76,69,78]⟩,.string ⟨#[76,69,70,84]⟩,.string ⟨#[82,73,71,72,84]⟩,.string ⟨#[77,73,68]⟩,.string ⟨#[82,69,80,84]⟩,.string ⟨#[70,73,78,68]⟩,.string ⟨#[85,80,80,69,82]⟩,.string ⟨#[76,79,87,69,82]⟩,.string ⟨#[84,82,73,77]⟩,.string ⟨#[86,65,76,85,69]⟩,.string ⟨#[73,83,78,85,77,66,69,82]⟩,.string ⟨#[73,83,84,69,88,84]⟩,.string ⟨#[73,83,66,76,65,78,75]⟩,.string ⟨#[73,83,69,82,82,79,82]⟩,.string ⟨#[78,65]⟩] 9)).heap[w2.heap.size]? = some (.cells #[.string ⟨#[65,66,83]⟩,.string ⟨#[83,73,71,78]⟩,.string ⟨#[73,78,84]⟩,.string ⟨#[82,79,85,78,68]⟩,.string ⟨#[77,79,68]⟩,.string ⟨#[81,85,79,84,73,69,78,84]⟩,.string ⟨#[80,79,87,69,82]⟩,.string ⟨#[78,79,84]⟩,.string ⟨#[76,69,78]⟩,.string ⟨#[76,69,70,84]⟩,.string ⟨#[82,73,71,72,84]⟩,.string ⟨#[77,73,68]⟩,.string ⟨#[82,69,80,84]⟩,.string ⟨#[70,73,78,68]⟩,.string ⟨#[85,80,80,69,82]⟩,.string ⟨#[76,79,87,69,82]⟩,.string ⟨#[84,82,73,77]⟩,.string ⟨#[86,65,76,85,69]⟩,.string ⟨#[73,83,78,85,77,66,69,82]⟩,.string ⟨#[73,83,84,69,88,84]⟩,.string ⟨#[73,83,66,76,65,78,75]⟩,.string ⟨#[73,83,69,82,82,79,82]⟩,.string ⟨#[78,65]⟩] 9)):=zB6 _ _ _ rfl
   have HO4:Hid (OwnS (w2.alloc (.cells #[.string ⟨#[65,66,83]⟩,.string ⟨#[83,73,71,78]⟩,.string ⟨#[73,78,84]⟩,.string ⟨#[82,79,85,78,68]⟩,.string ⟨#[77,79,68]⟩,.string ⟨#[81,85,79,84,73,69,78,84]⟩,.string ⟨#[80,79,87,69,82]⟩,.string ⟨#[78,79,84]⟩,.string ⟨#[76,69,78]⟩,.string ⟨#[76,69,70,84]⟩,.string ⟨#[82,73,71,72,84]⟩,.string ⟨#[77,73,68]⟩,.string ⟨#[82,69,80,84]⟩,.string ⟨#[70,73,78,68]⟩,.string ⟨#[85,80,80,69,82]⟩,.string ⟨#[76,79,87,69,82]⟩,.string ⟨#[84,82,73,77]⟩,.string ⟨#[86,65,76,85,69]⟩,.string ⟨#[73,83,78,85,77,66,69,82]⟩,.string ⟨#[73,83,84,69,88,84]⟩,.string ⟨#[73,83,66,76,65,78,75]⟩,.string ⟨#[73,83,69,82,82,79,82]⟩,.string ⟨#[78,65]⟩] 9)) w0.heap.size v2 ((List.range 15).map f1++zBJ)):=HO3.out.below hbN;have HF4:Hid (Fr [] w0 (w2.alloc (.cells #[.string ⟨#[65,66,83]⟩,.string ⟨#[83,73,71,78]⟩,.string ⟨#[73,78,84]⟩,.string ⟨#[82,79,85,78,68]⟩,.string ⟨#[77,79,68]⟩,.string ⟨#[81,85,79,84,73,69,78,84]⟩,.string ⟨#[80,79,87,69,82]⟩,.string ⟨#[78,79,84]⟩,.string ⟨#[76,69,78]⟩,.string ⟨#[76,69,70,84]⟩,.string ⟨#[82,73,71,72,84]⟩,.string ⟨#[77,73,68]⟩,.string ⟨#[82,69,80,84]⟩,.string ⟨#[70,73,78,68]⟩,.string ⟨#[85,80,80,69,82]⟩,.string ⟨#[76,79,87,69,82]⟩,.string ⟨#[84,82,73,77]⟩,.string ⟨#[86,65,76,85,69]⟩,.string ⟨#[73,83,78,85,77,66,69,82]⟩,.string ⟨#[73,83,84,69,88,84]⟩,.string ⟨#[73,83,66,76,65,78,75]⟩,.string ⟨#[73,83,69,82,82,79,82]⟩,.string ⟨#[78,65]⟩] 9))):=HF3.out.trans (Fr.of_below [] hbN)
   have HZ4:Hid (w2.heap.size<(w2.alloc (.cells #[.string ⟨#[65,66,83]⟩,.string ⟨#[83,73,71,78]⟩,.string ⟨#[73,78,84]⟩,.string ⟨#[82,79,85,78,68]⟩,.string ⟨#[77,79,68]⟩,.string ⟨#[81,85,79,84,73,69,78,84]⟩,.string ⟨#[80,79,87,69,82]⟩,.string ⟨#[78,79,84]⟩,.string ⟨#[76,69,78]⟩,.string ⟨#[76,69,70,84]⟩,.string ⟨#[82,73,71,72,84]⟩,.string ⟨#[77,73,68]⟩,.string ⟨#[82,69,80,84]⟩,.string ⟨#[70,73,78,68]⟩,.string ⟨#[85,80,80,69,82]⟩,.string ⟨#[76,79,87,69,82]⟩,.string ⟨#[84,82,73,77]⟩,.string ⟨#[86,65,76,85,69]⟩,.string ⟨#[73,83,78,85,77,66,69,82]⟩,.string ⟨#[73,83,84,69,88,84]⟩,.string ⟨#[73,83,66,76,65,78,75]⟩,.string ⟨#[73,83,69,82,82,79,82]⟩,.string ⟨#[78,65]⟩] 9)).heap.size):=zFj _ _;clear hbN HO3 HF3;go_upto_region 9 with fail
   generalize (w2.alloc (.cells #[.string ⟨#[65,66,83]⟩,.string ⟨#[83,73,71,78]⟩,.string ⟨#[73,78,84]⟩,.string ⟨#[82,79,85,78,68]⟩,.string ⟨#[77,79,68]⟩,.string ⟨#[81,85,79,84,73,69,78,84]⟩,.string ⟨#[80,79,87,69,82]⟩,.string ⟨#[78,79,84]⟩,.string ⟨#[76,69,78]⟩,.string ⟨#[76,69,70,84]⟩,.string ⟨#[82,73,71,72,84]⟩,.string ⟨#[77,73,68]⟩,.string ⟨#[82,69,80,84]⟩,.string ⟨#[70,73,78,68]⟩,.string ⟨#[85,80,80,69,82]⟩,.string ⟨#[76,79,87,69,82]⟩,.string ⟨#[84,82,73,77]⟩,.string ⟨#[86,65,76,85,69]⟩,.string ⟨#[73,83,78,85,77,66,69,82]⟩,.string ⟨#[73,83,84,69,88,84]⟩,.string ⟨#[73,83,66,76,65,78,75]⟩,.string ⟨#[73,83,69,82,82,79,82]⟩,.string ⟨#[78,65]⟩] 9))=w3 at *;obtain ⟨NO,hNO⟩:∃ x,Obj.cells #[.string ⟨#[65,66,83]⟩,.string ⟨#[83,73,71,78]⟩,.string ⟨#[73,78,84]⟩,.string ⟨#[82,79,85,78,68]⟩,.string ⟨#[77,79,68]⟩,.string ⟨#[81,85,79,84,73,69,78,84]⟩,.string ⟨#[80,79,87,69,82]⟩,.string ⟨#[78,79,84]⟩,.string ⟨#[76,69,78]⟩,.string ⟨#[76,69,70,84]⟩,.string ⟨#[82,73,71,72,84]⟩,.string ⟨#[77,73,68]⟩,.string ⟨#[82,69,80,84]⟩,.string ⟨#[70,73,78,68]⟩,.string ⟨#[85,80,80,69,82]⟩,.string ⟨#[76,79,87,69,82]⟩,.string ⟨#[84,82,73,77]⟩,.string ⟨#[86,65,76,85,69]⟩,.string ⟨#[73,83,78,85,77,66,69,82]⟩,.string ⟨#[73,83,84,69,88,84]⟩,.string ⟨#[73,83,66,76,65,78,75]⟩,.string ⟨#[73,83,69,82,82,79,82]⟩,.string ⟨#[78,65]⟩] 9=x:=⟨_,rfl⟩
   have HNO:Hid (Obj.cells #[.string ⟨#[65,66,83]⟩,.string ⟨#[83,73,71,78]⟩,.string ⟨#[73,78,84]⟩,.string ⟨#[82,79,85,78,68]⟩,.string ⟨#[77,79,68]⟩,.string ⟨#[81,85,79,84,73,69,78,84]⟩,.string ⟨#[80,79,87,69,82]⟩,.string ⟨#[78,79,84]⟩,.string ⟨#[76,69,78]⟩,.string ⟨#[76,69,70,84]⟩,.string ⟨#[82,73,71,72,84]⟩,.string ⟨#[77,73,68]⟩,.string ⟨#[82,69,80,84]⟩,.string ⟨#[70,73,78,68]⟩,.string ⟨#[85,80,80,69,82]⟩,.string ⟨#[76,79,87,69,82]⟩,.string ⟨#[84,82,73,77]⟩,.string ⟨#[86,65,76,85,69]⟩,.string ⟨#[73,83,78,85,77,66,69,82]⟩,.string ⟨#[73,83,84,69,88,84]⟩,.string ⟨#[73,83,66,76,65,78,75]⟩,.string ⟨#[73,83,69,82,82,79,82]⟩,.string ⟨#[78,65]⟩] 9=NO):=hNO;rw [hNO] at HN0;clear hNO;have hbL:=zAM (Below.refl _ w3) (.cells #[.int .i64 1,.int .i64 1,.int .i64 1,.int .i64 1,.int .i64 2,.int .i64 2,.int .i64 2,.int .i64 1,.int .i64 1,.int .i64 1,.int .i64 1,.int .i64 3,.int .i64 2,.int .i64 2,.int .i64 1,.int .i64 1,.int .i64 1,.int .i64 1,.int .i64 1,.int .i64 1,.int .i64 1,.int .i64 1,.int .i64 0] 3);have HL5:Hid ((w3.alloc (.cells #[.int .i64 1,.int .i64 1,.int .i64 1,.int .i64 1,.int .i64 2,.int .i64 2,.int .i64 2,.int .i64 1,.int .i64 1,.int .i64 1,.int .i64 1,.int .i64 3,.int .i64 2,.int .i64 2,.int .i64 1,.int .i64 1,.int .i64 1,.int .i64 1,.int .i64 1,.int .i64 1,.int .i64 1,.int .i64 1,.int .i64 0] 3)).heap[w3.heap.size]? = some (.cells #[.int .i64 1,.int .i64 1,.int .i64 1,.int .i64 1,.int .i64 2,.int .i64 2,.int .i64 2,.int .i64 1,.int .i64 1,.int .i64 1,.int .i64 1,.int .i64 3,.int .i64 2,.int .i64 2,.int .i64 1,.int .i64 1,.int .i64 1,.int .i64 1,.int .i64 1,.int .i64 1,.int .i64 1,.int .i64 1,.int .i64 0] 3)):=zB6 _ _ _ rfl
   have HO5:Hid (OwnS (w3.alloc (.cells #[.int .i64 1,.int .i64 1,.int .i64 1,.int .i64 1,.int .i64 2,.int .i64 2,.int .i64 2,.int .i64 1,.int .i64 1,.int .i64 1,.int .i64 1,.int .i64 3,.int .i64 2,.int .i64 2,.int .i64 1,.int .i64 1,.int .i64 1,.int .i64 1,.int .i64 1,.int .i64 1,.int .i64 1,.int .i64 1,.int .i64 0] 3)) w0.heap.size v2 ((List.range 15).map f1++zBJ)):=HO4.out.below hbL;have HF5:Hid (Fr [] w0 (w3.alloc (.cells #[.int .i64 1,.int .i64 1,.int .i64 1,.int .i64 1,.int .i64 2,.int .i64 2,.int .i64 2,.int .i64 1,.int .i64 1,.int .i64 1,.int .i64 1,.int .i64 3,.int .i64 2,.int .i64 2,.int .i64 1,.int .i64 1,.int .i64 1,.int .i64 1,.int .i64 1,.int .i64 1,.int .i64 1,.int .i64 1,.int .i64 0] 3))):=HF4.out.trans (Fr.of_below [] hbL);have HN5:Hid ((w3.alloc (.cells #[.int .i64 1,.int .i64 1,.int .i64 1,.int .i64 1,.int .i64 2,.int .i64 2,.int .i64 2,.int .i64 1,.int .i64 1,.int .i64 1,.int .i64 1,.int .i64 3,.int .i64 2,.int .i64 2,.int .i64 1,.int .i64 1,.int .i64 1,.int .i64 1,.int .i64 1,.int .i64 1,.int .i64 1,.int .i64 1,.int .i64 0] 3)).heap[w2.heap.size]? = some NO):=by show _=_;rw [hbL.block _ HZ4.out];exact HN0.out
   clear hbL HO4 HF4 HN0 HZ4;go_upto_region 10 with fail
   generalize (w3.alloc (.cells #[.int .i64 1,.int .i64 1,.int .i64 1,.int .i64 1,.int .i64 2,.int .i64 2,.int .i64 2,.int .i64 1,.int .i64 1,.int .i64 1,.int .i64 1,.int .i64 3,.int .i64 2,.int .i64 2,.int .i64 1,.int .i64 1,.int .i64 1,.int .i64 1,.int .i64 1,.int .i64 1,.int .i64 1,.int .i64 1,.int .i64 0] 3))=w4 at *;obtain ⟨LO,hLO⟩:∃ x,Obj.cells #[.int .i64 1,.int .i64 1,.int .i64 1,.int .i64 1,.int .i64 2,.int .i64 2,.int .i64 2,.int .i64 1,.int .i64 1,.int .i64 1,.int .i64 1,.int .i64 3,.int .i64 2,.int .i64 2,.int .i64 1,.int .i64 1,.int .i64 1,.int .i64 1,.int .i64 1,.int .i64 1,.int .i64 1,.int .i64 1,.int .i64 0] 3=x:=⟨_,rfl⟩
   have HLO:Hid (Obj.cells #[.int .i64 1,.int .i64 1,.int .i64 1,.int .i64 1,.int .i64 2,.int .i64 2,.int .i64 2,.int .i64 1,.int .i64 1,.int .i64 1,.int .i64 1,.int .i64 3,.int .i64 2,.int .i64 2,.int .i64 1,.int .i64 1,.int .i64 1,.int .i64 1,.int .i64 1,.int .i64 1,.int .i64 1,.int .i64 1,.int .i64 0] 3=LO):=hLO;rw [hLO] at HL5;clear hLO;obtain ⟨NB,hNB⟩:∃ k,w2.heap.size=k:=⟨_,rfl⟩
   obtain ⟨LB,hLB⟩:∃ k,w3.heap.size=k:=⟨_,rfl⟩
   rw [hNB] at HN5;rw [hLB] at HL5;simp only [hNB,hLB];have HNC:Hid (∀ W:World,W.heap[NB]? = some NO->∀ i:Nat,i<23->W.cell? ⟨NB,i,none⟩=some (.string (nmN.getD i ⟨#[]⟩))):=by
    intro W hW i hi;unfold World.cell?;rw [hW,<-HNO.out];exact zMy i hi
   have HLC:Hid (∀ W:World,W.heap[LB]? = some LO->∀ i:Nat,i<23->W.cell? ⟨LB,i,none⟩=some (.int .i64 (leN.getD i 0))):=by
    intro W hW i hi;unfold World.cell?;rw [hW,<-HLO.out];exact zMc i hi
   have HDN:Hid (∀ (W:World) (B g:Nat) (va:Value) (A:List Sg),OwnS W B va A->va.ownBlock=some g->(W.heap[NB]? = some NO->NB ≠ g)/\(W.heap[LB]? = some LO->LB ≠ g)):=by
    intro W B g va A ho eg;refine ⟨λh1 h2=>?_,λh1 h2=>?_⟩
    ·rcases ho.2 with ⟨e,_⟩ | ⟨g',cap,cur,e,_,hg,_⟩
     ·rw [e] at eg;cases eg
     ·rw [e] at eg;have e2:g'=g:=by simpa [Value.ownBlock] using eg
      rw [e2,<-h2,h1,<-HNO.out] at hg;cases hg
    ·rcases ho.2 with ⟨e,_⟩ | ⟨g',cap,cur,e,_,hg,_⟩
     ·rw [e] at eg;cases eg
     ·rw [e] at eg;have e2:g'=g:=by simpa [Value.ownBlock] using eg
      rw [e2,<-h2,h1,<-HLO.out] at hg;cases hg
   have HO6:Hid (OwnS w4 w0.heap.size v2 ((List.range 15).map f1++zBJ++(List.range 0).map f3)):=by show OwnS _ _ _ _;rw [List.range_zero,List.map_nil,List.append_nil];exact HO5.out
   clear HNO HLO hNB hLB HO5;go_wp2_with fail
   go_loopg [1,6] 23 (λgk u1 x wr=>∃ (i:Nat) (va:Value),va=u1/\x=.int .i64 i/\gk=23 - i/\i<=23/\Hid (OwnS wr w0.heap.size va ((List.range 15).map f1++zBJ++(List.range i).map f3))/\Hid (Fr [] w0 wr)/\Hid (wr.heap[NB]? = some NO)/\Hid (wr.heap[LB]? = some LO))
   case atStart=>exact ⟨0,_,rfl,rfl,rfl,Nat.zero_le _,HO6,HF5,HN5,HL5⟩
   case round =>
    clear HO6 HF5 HN5 HL5;obtain ⟨i,va,rfl,rfl,hg,hi,HO,HFr,HNh,HLh⟩:=hrel;by_cases hlt:i<23
    ·have hli:(i:Int)<23:=by omega
     have hiz:(0:Int)<=(i:Int):=by omega
     have hwi:IntKind.i64.wrap ((i:Int)+1)=(i:Int)+1:=by rw [IntKind.wrap_i64];omega
     have hw4:IntKind.i64.wrap (40+(i:Int))=40+(i:Int):=by rw [IntKind.wrap_i64];omega
     have cN:=HNC.out wr HNh.out i hlt;have cL:=HLC.out wr HLh.out i hlt;obtain ⟨nm,hnm⟩:∃ nm,nmN.getD i ⟨#[]⟩=nm:=⟨_,rfl⟩
     obtain ⟨le,hle⟩:∃ le,leN.getD i 0=le:=⟨_,rfl⟩
     have HN:Hid (f3 i=⟨40+(i:Int),4,nm,le,if rnd nm=true then 2 else le,⟨#[118]⟩⟩):=by show _=_;rw [<-hnm,<-hle];rfl
     rw [hnm] at cN;rw [hle] at cL;clear hnm hle;go_upto_region 13 with fail
     have rb:=(Below.refl wr.heap.size wr).drew;have s1:=zAC rb cN;have s2:=zAC rb cL;have HO1:Hid (OwnS wr.drew w0.heap.size va ((List.range 15).map f1++zBJ++(List.range i).map f3)):=HO.out.below rb;have HF1:Hid (Fr [] w0 wr.drew):=HFr.out.trans (Fr.of_below [] rb);have HN1:Hid (wr.drew.heap[NB]? = some NO):=HNh.out;have HL1:Hid (wr.drew.heap[LB]? = some LO):=HLh.out;clear cN cL rb HO HFr HNh HLh;refine wp_region_held_drew (S:=λW=>W.cell? ⟨NB,i,none⟩=some (.string nm)/\W.cell? ⟨LB,i,none⟩=some (.int .i64 le)) (by kernel_rfl) ⟨s1,s2⟩ (λhHeld=>?_);generalize wr.drew=WD at *;refine tkQ 0 ?_
     refine tkQ 1 ?_
     refine tkQ 2 ?_
     refine tkQ 3 ?_
     refine tkQ 4 ?_
     refine tkQ 5 ?_
     refine tkQ 6 ?_
     refine tkQ 7 ?_
     refine tkQ 8 ?_
     refine tkQ 9 ?_
     refine tkQ 10 ?_
     refine tkQ 11 ?_
     refine tkQ 12 ?_
     refine tkQ 13 ?_
     refine tkQ 14 ?_
     have hbA:=zAM (Below.refl _ WD) (.cells (sg6 0 0 ⟨#[]⟩ 0 0 ⟨#[]⟩).toArray 108);refine rdQ 15 (λK hK=>?_);go_simp
     refine hkQ hK ⟨zAC hbA s1,zAC hbA s2⟩ (λhHeld=>?_);clear hK K
     have pK:AtL (WD.alloc (.cells (sg6 0 0 ⟨#[]⟩ 0 0 ⟨#[]⟩).toArray 108)) WD.heap.size (sg6 0 0 ⟨#[]⟩ 0 0 ⟨#[]⟩):=AtL.new0 WD _ _;obtain ⟨k0,k1,k2,k3,k4,k5,z0,z1,z2,z3,z4,z5⟩:=at6 pK;refine rdQ 16 (λK hK=>?_);go_simp
     have hb7:=zAM (Below.refl _ WD) (.cells (sg6 (40+(i:Int)) 4 nm le le ⟨#[118]⟩).toArray 108);refine hkQ hK ⟨zAC hb7 s1,zAC hb7 s2⟩ (λhHeld=>?_);clear hK K
     refine wpAnyH_done (by kernel_rfl) ?_ _;clear hHeld pK k0 k1 k2 k3 k4 k5 z0 z1 z2 z3 z4 z5 hbA;have pS:AtL (WD.alloc (.cells (sg6 (40+(i:Int)) 4 nm le le ⟨#[118]⟩).toArray 108)) WD.heap.size (sg6 (40+(i:Int)) 4 nm le le ⟨#[118]⟩):=AtL.new0 WD _ _;have d1:=zAC hb7 s1;have HOA:Hid (OwnS (WD.alloc (.cells (sg6 (40+(i:Int)) 4 nm le le ⟨#[118]⟩).toArray 108)) w0.heap.size va ((List.range 15).map f1++zBJ++(List.range i).map f3)):=HO1.out.below hb7;have HFA:Hid (Fr [] w0 (WD.alloc (.cells (sg6 (40+(i:Int)) 4 nm le le ⟨#[118]⟩).toArray 108))):=HF1.out.trans (Fr.of_below [] hb7);have HNA:Hid ((WD.alloc (.cells (sg6 (40+(i:Int)) 4 nm le le ⟨#[118]⟩).toArray 108)).heap[NB]? = some NO):=by show _=_;rw [hb7.block _ (zBT HN1.out)];exact HN1.out
     have HLA:Hid ((WD.alloc (.cells (sg6 (40+(i:Int)) 4 nm le le ⟨#[118]⟩).toArray 108)).heap[LB]? = some LO):=by show _=_;rw [hb7.block _ (zBT HL1.out)];exact HL1.out
     have HXN:Hid (NB<WD.heap.size/\LB<WD.heap.size/\w0.heap.size<=WD.heap.size/\∀ g,va.ownBlock=some g->g<WD.heap.size):=⟨zBT HN1.out,zBT HL1.out,HF1.out.size,λg e=>(HO1.out.blk e).2⟩
     clear hb7 s1 s2 HO1 HF1 HN1 HL1;generalize (WD.alloc (.cells (sg6 (40+(i:Int)) 4 nm le le ⟨#[118]⟩).toArray 108))=W7 at *;obtain ⟨X,hX⟩:∃ X,WD.heap.size=X:=⟨_,rfl⟩
     rw [hX] at pS HXN;simp only [hX];clear hX;obtain ⟨qr,hqr⟩:∃ b,rnd nm=b:=⟨_,rfl⟩
     rw [hqr] at HN;obtain ⟨mo,hmo⟩:∃ m:Int,(if qr=true then 2 else le)=m:=⟨_,rfl⟩
     have HMO:Hid ((if qr=true then 2 else le)=mo):=hmo;rw [hmo] at HN;clear hmo;go_upto_region 14 with fail
     go_cut [80] (λs wx=>s=.bool qr/\W7=wx)
     case first =>
      have hrc:((nm.toList == [82,79,85,78,68])=true/\qr=true) \/ ((nm.toList == [82,79,85,78,68])=false/\(nm.toList == [76,69,70,84])=true/\qr=true) \/ ((nm.toList == [82,79,85,78,68])=false/\(nm.toList == [76,69,70,84])=false/\(nm.toList == [82,73,71,72,84])=qr):=by
       rw [<-hqr];unfold rnd;cases (nm.toList == [82,79,85,78,68]) <;> cases (nm.toList == [76,69,70,84]) <;> simp
      clear hqr;rcases hrc with ⟨t1,rfl⟩ | ⟨t1,t2,rfl⟩ | ⟨t1,t2,t3⟩
      all_goals
       go_wp2_with fail
       go_meet
       case rel=>exact ⟨by first | rfl | simp [t3],rfl⟩
     case rest =>
      obtain ⟨rfl,rfl⟩:=hcut;clear hqr d1;go_upto_if 80 with fail
      go_cut [] (λwx=>AtL wx X (sg6 (40+(i:Int)) 4 nm le mo ⟨#[118]⟩)/\Hid (OwnS wx w0.heap.size va ((List.range 15).map f1++zBJ++(List.range i).map f3))/\Hid (Fr [] w0 wx)/\Hid (wx.heap[NB]? = some NO)/\Hid (wx.heap[LB]? = some LO))
      case first =>
       cases qr with
       | false =>
        have hm:le=mo:=HMO.out;subst hm;go_wp2_with fail
        go_meet
        case rel=>exact ⟨pS,HOA,HFA,HNA,HLA⟩
       | true =>
        have hm:2=mo:=HMO.out;subst hm;obtain ⟨g0,g1,g2,g3,g4,g5,y0,y1,y2,y3,y4,y5⟩:=at6 pS;have fr:Fr [X] W7 (W7.setCell ⟨X,4,none⟩ (.int .i64 2)):=Fr.of_grown (zAP _ _ _ _) (λk e=>by cases e;simp);have pS2:=pS.set 4 (.int .i64 2);have HOB:Hid (OwnS (W7.setCell ⟨X,4,none⟩ (.int .i64 2)) w0.heap.size va ((List.range 15).map f1++zBJ++(List.range i).map f3)):=zAW fr HOA.out (λg e=>by have:=HXN.out.2.2.2 g e;simp;omega);have HFB:Hid (Fr [] w0 (W7.setCell ⟨X,4,none⟩ (.int .i64 2))):=HFA.out.new fr (λk hk=>Or.inr (by simp at hk;have:=HXN.out;omega));have HNB2:Hid ((W7.setCell ⟨X,4,none⟩ (.int .i64 2)).heap[NB]? = some NO):=by show _=_;rw [fr.block _ (zBT HNA.out) (by have:=HXN.out;simp;omega)];exact HNA.out
        have HLB2:Hid ((W7.setCell ⟨X,4,none⟩ (.int .i64 2)).heap[LB]? = some LO):=by show _=_;rw [fr.block _ (zBT HLA.out) (by have:=HXN.out;simp;omega)];exact HLA.out
        clear fr HOA HFA HNA HLA g0 g1 g2 g3 g5 y0 y1 y2 y3 y5;go_wp2_with fail
        go_meet
        case rel=>exact ⟨pS2,HOB,HFB,HNB2,HLB2⟩
      case rest =>
       obtain ⟨pS3,HOB,HFB,HNB2,HLB2⟩:=hcut;clear HOA HFA HNA HLA pS;generalize wc=W8 at *;obtain ⟨g0,g1,g2,g3,g4,g5,y0,y1,y2,y3,y4,y5⟩:=at6 pS3;clear y0 y1 y2 y3 y4 y5 pS3;have hbs:=zAM (Below.refl _ W8) (.cells (sg6 (40+(i:Int)) 4 nm le mo ⟨#[118]⟩).toArray 108);have HA9:Hid (AtL (W8.alloc (.cells (sg6 (40+(i:Int)) 4 nm le mo ⟨#[118]⟩).toArray 108)) W8.heap.size (zAs [⟨40+(i:Int),4,nm,le,mo,⟨#[118]⟩⟩])):=AtL.new0 W8 108 (zAs [⟨40+(i:Int),4,nm,le,mo,⟨#[118]⟩⟩]);have HO9:Hid (OwnS (W8.alloc (.cells (sg6 (40+(i:Int)) 4 nm le mo ⟨#[118]⟩).toArray 108)) w0.heap.size va ((List.range 15).map f1++zBJ++(List.range i).map f3)):=HOB.out.below hbs;have HF9:Hid (Fr [] w0 (W8.alloc (.cells (sg6 (40+(i:Int)) 4 nm le mo ⟨#[118]⟩).toArray 108))):=HFB.out.trans (Fr.of_below [] hbs);have HN9:Hid ((W8.alloc (.cells (sg6 (40+(i:Int)) 4 nm le mo ⟨#[118]⟩).toArray 108)).heap[NB]? = some NO):=by show _=_;rw [hbs.block _ (zBT HNB2.out)];exact HNB2.out
       have HL9:Hid ((W8.alloc (.cells (sg6 (40+(i:Int)) 4 nm le mo ⟨#[118]⟩).toArray 108)).heap[LB]? = some LO):=by show _=_;rw [hbs.block _ (zBT HLB2.out)];exact HLB2.out
       clear hbs HOB HFB HNB2 HLB2;go_wp2_with (refine zCB rfl (.tmp 82) (.tmp 84) rfl (W8.alloc (.cells (sg6 (40+(i:Int)) 4 nm le mo ⟨#[118]⟩).toArray 108)) w0.heap.size HF9.out.size va ((List.range 15).map f1++zBJ++(List.range i).map f3) rfl HO9.out W8.heap.size [⟨40+(i:Int),4,nm,le,mo,⟨#[118]⟩⟩] rfl HA9.out (by simp [zBJ];omega) ?_;intro v3 w5 own3 hg3)
       have HOZ:Hid (OwnS w5 w0.heap.size v3 ((List.range 15).map f1++zBJ++(List.range (i+1)).map f3)):=by show OwnS _ _ _ _;rw [show List.range (i+1)=List.range i++[i] from List.range_succ,List.map_append,List.map_cons,List.map_nil,HN.out,<-List.append_assoc];exact own3
       have HFZ:Hid (Fr [] w0 w5):=HF9.out.new (Fr.of_grown (S:=va.ownBlock.toList) hg3 (λk e=>by simp [e])) (λk hk=>Or.inr (HO9.out.blk (by simpa using hk)).1);have HNZ:Hid (w5.heap[NB]? = some NO):=by show _=_;rw [hg3.block _ (zBT HN9.out) (λe=>(HDN.out _ _ NB _ _ HO9.out e.symm).1 HN9.out rfl)];exact HN9.out
       have HLZ:Hid (w5.heap[LB]? = some LO):=by show _=_;rw [hg3.block _ (zBT HL9.out) (λe=>(HDN.out _ _ LB _ _ HO9.out e.symm).2 HL9.out rfl)];exact HL9.out
       clear own3 hg3 g0 g1 g2 g3 g4 g5 HA9 HO9 HF9 HN9 HL9;go_roundg (23 - (i+1))
       case rel=>exact ⟨i+1,_,rfl,by simp,rfl,hlt,HOZ,HFZ,HNZ,HLZ⟩
       case measure=>omega
    ·have hli:¬ (i:Int)<23:=by omega
     have hi23:i=23:=by omega
     subst hi23;have HBF:Hid (Below w.heap.size w wr):=((Fr.of_below [] HB0.out).trans HFr.out).to_below (by simp);go_wp2;go_ret;exact ⟨⟨_,rfl,_,HO.out,HSZ.out⟩,HBF.out⟩
open Go.RowKit Wf
def wv (own:Int) (nm:List ByteArray) (x:Wt.Nd) (hs:List Wt.Nd) (i:Nat):Int:=if zB2 own nm x hs ≠ 0 then zB2 own nm x hs else if x.k=3/\i=0 then 82 else 0
section
variable {own:Int} {nm:List ByteArray} {x:Wt.Nd} {hs:List Wt.Nd} {i:Nat}
theorem wv2 (h:x.k=2):wv own nm x hs i=if shN own nm x.a.s<0 then 84 else 0:=by
 unfold wv zB2;rw [if_pos (Or.inl h)];split <;> simp [h]
theorem wv3 (h:x.k=3):wv own nm x hs i=if shN own nm x.a.s<0 then 84 else if i=0 then 82 else 0:=by
 unfold wv zB2;rw [if_pos (Or.inr h)];split <;> simp [h]
theorem zP1 (h:x.k=4 \/ x.k=5):wv own nm x hs i=if hs.any isA then 82 else 0:=by
 unfold wv;have e:zB2 own nm x hs=if hs.any isA then 82 else 0:=by
  unfold zB2;rw [if_neg (by omega),if_pos h]
 rw [e];have h3:¬ x.k=3:=by omega
 split <;> simp_all
theorem wv6 (h:x.k=6):wv own nm x hs i=zDC x hs:=by
 unfold wv;have e:zB2 own nm x hs=zDC x hs:=by
  unfold zB2;rw [if_neg (by omega),if_neg (by omega),if_pos h]
 rw [e];have h3:¬ x.k=3:=by omega
 simp only [h3,false_and,if_false];split
 ·rfl
 ·rename_i h0;exact (Decidable.not_not.1 h0).symm
theorem wvo (h:¬ x.k=2/\¬ x.k=3/\¬ x.k=4/\¬ x.k=5/\¬ x.k=6):wv own nm x hs i=0:=by
 unfold wv;have e:zB2 own nm x hs=0:=by
  unfold zB2;rw [if_neg (by omega),if_neg (by omega),if_neg (by omega)]
 rw [e];simp [h.2.1]
end
theorem zLB (n bb off cap i:Nat) (own:Int) (nm:List ByteArray) (av2:Option Addr) (m2 cap2:Nat) (w:World) (x:Wt.Nd) (hs:List Wt.Nd) (ks:List Nat) (hi:i<n) (hx:w.rangeAt bb (off+i * 20) (zAG x)) (hS:RdS w av2 nm) (hm2:m2=nm.length) (hl2:nm.length<=1000000)
  (hST:∀ W:World,Below w.heap.size w W->Calls prog 52 #[.slice (some ⟨bb,off,none⟩) n cap,.int .i64 (i:Int)] W λe w'=>∃ v,e=.returned v/\x5_OwnI w' W.heap.size v ks/\Below W.heap.size W w')
  (h6:¬ x.k=6) (hKL:(ks.length:Int)=Wt.parts x/\ks.length<=30/\Wt.right x=true) (hKN:hs.length=ks.length)
  (hKA:∀ j (hj:j<ks.length) (hj2:j<hs.length),ks[j] < n/\w.rangeAt bb (off+ks[j] * 20) (zAG hs[j])) :
  CR 31 #[.slice (some ⟨bb,off,none⟩) n cap,.int .i64 (i:Int),.int .i64 own,.slice av2 m2 cap2] w (.int .i64 (wv own (nm.take 16) x hs i)):=by
 have hb0:Below w.heap.size w ((w.alloc (.cells zN0 35)).setCells w.heap.size 0 (zAG x)):=zAv (zAM (Below.refl _ w) _) (Nat.le_refl _) _ 0;have hth:World.there (w.alloc (.cells zN0 35)) w.heap.size 0 (zAG x).toArray.size:=(AtL.new0 w 35 [.int .i64 0,.int .i64 0,.int .i64 0,.int .i64 0,.string ⟨#[]⟩,.bool false,.int .i64 0,.int .i64 0,.string ⟨#[]⟩,.int .i64 0,.string ⟨#[]⟩,.int .i64 0,.int .i64 0,.bool false,.bool false,.string ⟨#[]⟩,.int .i64 0,.int .i64 0,.bool false,.bool false]).there;have pX:AtL ((w.alloc (.cells zN0 35)).setCells w.heap.size 0 (zAG x)) w.heap.size (zAG x):=(AtL.new0 w 35 [.int .i64 0,.int .i64 0,.int .i64 0,.int .i64 0,.string ⟨#[]⟩,.bool false,.int .i64 0,.int .i64 0,.string ⟨#[]⟩,.int .i64 0,.string ⟨#[]⟩,.int .i64 0,.int .i64 0,.bool false,.bool false,.string ⟨#[]⟩,.int .i64 0,.int .i64 0,.bool false,.bool false]).setAll rfl;have ST:=hST _ hb0;have HRS:Hid (RdS ((w.alloc (.cells zN0 35)).setCells w.heap.size 0 (zAG x)) av2 nm):=hS.below hb0;have HSL:Hid (m2=nm.length/\nm.length<=1000000):=⟨hm2,hl2⟩
 have HKL:Hid ((ks.length:Int)=Wt.parts x/\ks.length<=30/\Wt.right x=true):=hKL;have HKA:Hid (∀ j (hj:j<ks.length) (hj2:j<hs.length),ks[j] < n/\w.rangeAt bb (off+ks[j] * 20) (zAG hs[j])):=hKA;have HKN:Hid (hs.length=ks.length):=hKN;have hi0:(0:Int)<=(i:Int):=by omega
 have hi1:(i:Int)<(n:Int):=by omega
 obtain ⟨z,hz⟩:∃ z,wv own (nm.take 16) x hs i=z:=⟨_,rfl⟩
 rw [hz];have HZ:Hid (wv own (nm.take 16) x hs i=z):=hz;clear hST hKL hKN hKA hS hm2 hl2 hi hz;go_enter func31,ntmps31;go_upto_region 2 with (first | (refine zAA (by rfl) 35 (.tmp 21) rfl bb (off+i * 20) rfl (zAG x) _ hx underlying35 rfl (by kernel_rfl) ?_) | ((with_reducible refine wpList_store_mid ?_ 35 (.tmp 9) (.tmp 22) ?_ w.heap.size 0 (zAG x).toArray ?_ ?_ ?_ ?_ ?_ ?_);rfl;rfl;rfl;rfl;exact hth;kernel_rfl;exact zC6 _))
 generalize ((w.alloc (.cells zN0 35)).setCells w.heap.size 0 (zAG x))=W at *;clear hth hx;go_wp2_with fail
 refine ST.mono ?_;rintro e w1 ⟨v,rfl,own1,hb1⟩;obtain ⟨avk,capk,rfl,hrk⟩:=zCa own1;have pX1:=AtL.below hb1 pX;have hB1:=zAB hb0 hb1;have c0:=pX1.2.1 0 (.int .i64 x.k) rfl;have HB1:Hid (Below w.heap.size w w1):=hB1;have HS1:Hid (RdS w1 av2 nm):=HRS.out.below hb1;have HRK:Hid (RdJ w1 avk ks):=hrk;have HX1:Hid (AtL w1 w.heap.size (zAG x)):=pX1;clear HRS ST own1 hb1 hb0 pX pX1 hrk;by_cases h2:x.k=2
 ·have HE:Hid ((if shN own (nm.take 16) x.a.s<0 then 84 else 0)=z):=by show _=_;rw [<-HZ.out,wv2 h2]
  clear HZ;have NU:=zB7 x.a.s own nm av2 m2 cap2 w1 HSL.out.1 HSL.out.2 HS1.out;have c10:=HX1.out.2.1 10 (.string x.a.s) rfl;generalize shN own (nm.take 16) x.a.s=sn at *;rw [h2] at c0;clear h2;go_wp2_with fail
  refine NU.mono ?_;rintro e w2 ⟨rfl,rfl⟩;by_cases hsn:sn<0
  ·go_wp2;go_ret;exact ⟨congrArg (λz=>Ending.returned (Value.int .i64 z)) (by rw [<-HE.out,if_pos hsn]:(84:Int)=z),hB1⟩
  ·go_wp2;go_ret;exact ⟨congrArg (λz=>Ending.returned (Value.int .i64 z)) (by rw [<-HE.out,if_neg (by omega)]:(0:Int)=z),hB1⟩
 by_cases h3:x.k=3
 ·have HE:Hid ((if shN own (nm.take 16) x.a.s<0 then 84 else if i=0 then 82 else 0)=z):=by show _=_;rw [<-HZ.out,wv3 h3]
  clear HZ;have NU:=zB7 x.a.s own nm av2 m2 cap2 w1 HSL.out.1 HSL.out.2 HS1.out;have c10:=HX1.out.2.1 10 (.string x.a.s) rfl;generalize shN own (nm.take 16) x.a.s=sn at *;rw [h3] at c0;clear h2 h3;go_wp2_with fail
  refine NU.mono ?_;rintro e w2 ⟨rfl,rfl⟩;by_cases hsn:sn<0
  ·go_wp2;go_ret;exact ⟨congrArg (λz=>Ending.returned (Value.int .i64 z)) (by rw [<-HE.out,if_pos hsn]:(84:Int)=z),hB1⟩
  ·by_cases hz:(i:Int)=0
   ·go_wp2;go_ret;exact ⟨congrArg (λz=>Ending.returned (Value.int .i64 z)) (by rw [<-HE.out,if_neg (by omega),if_pos (by omega)]:(82:Int)=z),hB1⟩
   ·go_wp2;go_ret;exact ⟨congrArg (λz=>Ending.returned (Value.int .i64 z)) (by rw [<-HE.out,if_neg (by omega),if_neg (by omega)]:(0:Int)=z),hB1⟩
 by_cases h45:x.k=4 \/ x.k=5
 ·obtain ⟨qa,hqa⟩:∃ q,hs.any isA=q:=⟨_,rfl⟩
  have HF:Hid ((if qa then 82 else 0)=z):=by show _=_;rw [<-HZ.out,zP1 h45,hqa]
  clear HZ;have HQ0:Hid ((hs.drop 0).any isA=qa):=hqa;have hwl:(ks.length:Int)<=30:=by have:=HKL.out.2.1;omega
  clear hqa;have hgo:∀ j:Nat,j<ks.length->∃ (q:Nat) (y:Wt.Nd),(avk=avk/\(∃ bk ok,avk=some ⟨bk,ok,none⟩/\w1.cell? ⟨bk,ok+j,none⟩=some (.int .i64 (q:Int))))/\q<n/\w1.cell? ⟨bb,off+q * 20+0,none⟩=some (.int .i64 y.k)/\(hs.drop j).any isA=(isA y || (hs.drop (j+1)).any isA):=by
   intro j hj;have hj2:j<hs.length:=by have:=HKN.out;omega
   obtain ⟨hq,he⟩:=HKA.out j hj hj2;obtain ⟨bk,ok,e1,e2⟩:=HRK.out j hj;refine ⟨ks[j],hs[j],⟨rfl,bk,ok,e1,e2⟩,hq,?_,?_⟩
   ·exact zAC HB1.out (he 0 _ rfl)
   ·rw [List.drop_eq_getElem_cons hj2,List.any_cons]
  have HGO:Hid _:=hgo;clear hgo;rcases h45 with h4 | h5
  all_goals
   first | rw [h4] at c0 | rw [h5] at c0
   clear h2 h3;go_wp2_with fail
   go_loopg [11] ks.length (λgk y wr=>∃ j:Nat,y=.int .i64 (j:Int)/\gk=ks.length - j/\j<=ks.length/\w1=wr/\Hid ((hs.drop j).any isA=qa))
   case atStart=>exact ⟨0,rfl,rfl,Nat.zero_le _,rfl,HQ0⟩
   case round =>
    obtain ⟨j,rfl,hg,hj,rfl,HP⟩:=hrel;clear HQ0;by_cases hlt:j<ks.length
    ·have hli:(j:Int)<(ks.length:Int):=by omega
     have hjz:(0:Int)<=(j:Int):=by omega
     have hwj:IntKind.i64.wrap ((j:Int)+1)=(j:Int)+1:=by rw [IntKind.wrap_i64];omega
     obtain ⟨q,y,⟨-,bk,ok,rfl,hck⟩,hq,hcy,hst⟩:=HGO.out j hlt;have HST:Hid ((isA y || (hs.drop (j+1)).any isA)=qa):=by show _=_;rw [<-hst];exact HP.out
     have hq0:(0:Int)<=(q:Int):=by omega
     have hq1:(q:Int)<(n:Int):=by omega
     simp only [Nat.add_zero] at hcy;clear hst HP;by_cases hy:y.k=3
     ·rw [hy] at hcy;have HE:Hid (true=qa):=by
       have:=HST.out;show true=qa
       rw [<-this];simp [isA,hy]
      clear HST;go_wp2;go_ret;exact ⟨congrArg (λz=>Ending.returned (Value.int .i64 z)) (by rw [<-HF.out,<-HE.out];rfl:(82:Int)=z),hB1⟩
     ·have HP2:Hid ((hs.drop (j+1)).any isA=qa):=by
       have:=HST.out;have hya:isA y=false:=by simp [isA,hy]
       rw [hya,Bool.false_or] at this;exact this
      clear HST;go_wp2_with fail
      go_roundg (ks.length - (j+1))
      case rel=>exact ⟨j+1,by simp,rfl,hlt,rfl,HP2⟩
      case measure=>omega
    ·have hli:¬ (j:Int)<(ks.length:Int):=by omega
     have HE:Hid (false=qa):=by
      have:=HP.out;rw [List.drop_eq_nil_of_le (by have:=HKN.out;omega)] at this;exact this
     clear HP;go_wp2;go_ret;exact ⟨congrArg (λz=>Ending.returned (Value.int .i64 z)) (by rw [<-HF.out,<-HE.out];rfl:(0:Int)=z),hB1⟩
 have HE:Hid (0=z):=by show _=_;rw [<-HZ.out,wvo ⟨h2,h3,λh=>h45 (Or.inl h),λh=>h45 (Or.inr h),h6⟩]
 have h4:¬ x.k=4:=λh=>h45 (Or.inl h)
 have h5:¬ x.k=5:=λh=>h45 (Or.inr h)
 clear h45;go_wp2;go_ret;exact ⟨congrArg (λz=>Ending.returned (Value.int .i64 z)) (by rw [<-HE.out]:(0:Int)=z),hB1⟩
open Go.RowKit Wf
theorem p22:(zAJ 22).p.data.toList=[97,118,97]:=by kernel_rfl
theorem p23:(zAJ 23).p.data.toList=[118,97,97]:=by kernel_rfl
theorem p24:(zAJ 24).p.data.toList=[97]:=by kernel_rfl
theorem l22:(zAJ 22).l=2/\(zAJ 22).m=3:=⟨by kernel_rfl,by kernel_rfl⟩
theorem l23:(zAJ 23).l=3/\(zAJ 23).m=3:=⟨by kernel_rfl,by kernel_rfl⟩
theorem l24:(zAJ 24).l=2/\(zAJ 24).m=2:=⟨by kernel_rfl,by kernel_rfl⟩
theorem zGc (id:Int) (hs:List Wt.Nd) (hl:(zAJ id).l<=(hs.length:Int)/\(hs.length:Int)<=(zAJ id).m) (ht:zA0 (zAJ id).p.data.toList hs 0=true) :
  (prs id hs.length=(-1,-1)/\zAd id hs=true) \/ ∃ (p q:Nat) (hp:p<hs.length) (hq:q<hs.length),prs id hs.length=((p:Int),(q:Int))/\isA hs[p]=true/\isA hs[q]=true/\zAd id hs=shp (zBR hs[p]) (zBR hs[q]):=by
 by_cases h22:id=22
 ·subst h22;rw [p22] at ht;rw [l22.1,l22.2] at hl;match hs,hl,ht with
  | [],hl,_=>simp at hl
  | [a],hl,_=>simp at hl
  | [a,b],_,ht =>
   refine Or.inl ⟨rfl,?_⟩;simp only [zA0] at ht;have:isA a=true/\isA b=false:=by
    cases h1:isA a <;> cases h2:isA b <;> simp [h1,h2] at ht ⊢
   simp [zAd,Wc.pairs,zAe,this.1,this.2]
  | [a,b,c],_,ht =>
   refine Or.inr ⟨0,2,by simp,by simp,rfl,?_⟩;simp only [zA0] at ht;have:isA a=true/\isA b=false/\isA c=true:=by
    cases h1:isA a <;> cases h2:isA b <;> cases h3:isA c <;> simp [h1,h2,h3] at ht ⊢
   refine ⟨this.1,this.2.2,?_⟩;simp [zAd,Wc.pairs,zAe,this.1,this.2.1,this.2.2,shp]
  | a::b::c::d::r,hl,_=>simp at hl;omega
 by_cases h23:id=23
 ·subst h23;rw [p23] at ht;rw [l23.1,l23.2] at hl;match hs,hl,ht with
  | [],hl,_=>simp at hl
  | [a],hl,_=>simp at hl
  | [a,b],hl,_=>simp at hl
  | [a,b,c],_,ht =>
   refine Or.inr ⟨1,2,by simp,by simp,rfl,?_⟩;simp only [zA0] at ht;have:isA a=false/\isA b=true/\isA c=true:=by
    cases h1:isA a <;> cases h2:isA b <;> cases h3:isA c <;> simp [h1,h2,h3] at ht ⊢
   refine ⟨this.2.1,this.2.2,?_⟩;simp [zAd,Wc.pairs,zAe,this.1,this.2.1,this.2.2,shp]
  | a::b::c::d::r,hl,_=>simp at hl;omega
 by_cases h24:id=24
 ·subst h24;rw [p24] at ht;rw [l24.1,l24.2] at hl;match hs,hl,ht with
  | [],hl,_=>simp at hl
  | [a],hl,_=>simp at hl
  | [a,b],_,ht =>
   refine Or.inr ⟨0,1,by simp,by simp,rfl,?_⟩;simp only [zA0] at ht;have:isA a=true/\isA b=true:=by
    cases h1:isA a <;> cases h2:isA b <;> simp [h1,h2] at ht ⊢
   refine ⟨this.1,this.2,?_⟩;simp [zAd,Wc.pairs,zAe,this.1,this.2,shp]
  | a::b::c::r,hl,_=>simp at hl;omega
 ·refine Or.inl ⟨?_,?_⟩
  ·unfold prs;rw [if_neg (by omega),if_neg h23,if_neg h24]
  ·unfold zAd;have:Wc.pairs id=false:=by simp [Wc.pairs,h22,h23,h24]
   rw [this];rfl
