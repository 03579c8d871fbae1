/- KWalkV, KRight, KPlacB, KHand. -/
import Derived.Test.YtedifblompcdkaaGreatDoorQ15
set_option maxHeartbeats 4000000
set_option maxRecDepth 100000
namespace Go.Proofs.YtedifblompcdkaaGreatDoor
open Tryz
variable {x:Wc.In} {tl:List Int} {w:World} {mk b n:Nat} {M:List (Option (Int × Nat))}
open Go.RowKit
set_option linter.unusedVariables false
abbrev zQz (ka kb:Nat) (x:Wc.In) (tv:Value) (W:World):Prop :=
 W.cell? ⟨ka,1,none⟩=some (.int .i64 x.a)/\W.frozen? ⟨kb,1,none⟩=false
theorem zIr {ka kb:Nat} {y:Wc.In} {tv tu:Value} {W:World} (h0:AtL W ka (zAM x tv)) (h1:AtL W kb (zAM y tu)):zQz ka kb x tv W :=
 ⟨h0.2.1 1 _ rfl,h1.2.2 1 (by show 1<23;decide)⟩
theorem zQa (x:Wc.In) (av:Option Addr) (n c:Nat) (tl:List Int) (w:World) (hk:x.op=7) (hz:RdZ w (.slice av n c) tl) (hl:tl.length<=1000000) :
  CR 84 #[inV x (.slice av n c)] w (.bool (true && (smI x ⟨7,0,0,v0I,c0I,a0I,a0I⟩ && decide (tl=[])))):=by
 have CS:∀ w',Below w.heap.size w w'->Calls prog 112 #[.agg (zAM x (.slice av n c)).toArray,.agg (zAM ⟨7,0,0,v0I,c0I,a0I,a0I⟩ zAV).toArray] w' λe w''=>e=.returned (.bool (smI x ⟨7,0,0,v0I,c0I,a0I,a0I⟩ && decide (tl=[])))/\Below w'.heap.size w' w'':=λw' hb=>zDQ x ⟨7,0,0,v0I,c0I,a0I,a0I⟩ _ _ tl [] w' (hz.below hb) (RdZ.nil _) hl (by first | exact hl | simp)
 generalize (smI x ⟨7,0,0,v0I,c0I,a0I,a0I⟩ && decide (tl=[]))=R at *;obtain ⟨tv,htv⟩:∃ tv,Value.slice av n c=tv:=⟨_,rfl⟩
 rw [htv] at CS ⊢;have pA0:AtL (zCf w x tv) w.heap.size (zAM x tv):=(AtL.new0 w _ _).alloc _;have pO0:AtL (zCf w x tv) (w.heap.size+1) (zAM (zAq 0) zAV):=AtL.new1 w _ _ _;have hth:World.there (zCf w x tv) (w.heap.size+1) 0 (zAM (zAq 7) zAV).toArray.size:=pO0.there;have hne:w.heap.size+1 ≠ w.heap.size:=by omega
 have pA:=pA0.farAll hne 0 (zAM (zAq 7) zAV);have pO:AtL ((zCf w x tv).setCells (w.heap.size+1) 0 (zAM (zAq 7) zAV)) (w.heap.size+1) (zAM (zAq 7) zAV):=pO0.setAll rfl;have hBa:Below w.heap.size w ((zCf w x tv).setCells (w.heap.size+1) 0 (zAM (zAq 7) zAV)):=zBJ (zAH (zAH (Below.refl _ w) _) _) (Nat.le_succ _) _ 0;clear pA0 pO0;have n0:(zAM x tv)[0]? = some (.int .i64 7):=by rw [<-hk];rfl
 have a0:World.cell? ((zCf w x tv).setCells (w.heap.size+1) 0 (zAM (zAq 7) zAV)) ⟨w.heap.size,0,none⟩=some (.int .i64 7):=pA.2.1 0 _ n0;show Calls _ _ #[.agg (zAM x tv).toArray] _ _
 have hS:zQz w.heap.size (w.heap.size+1) x tv ((zCf w x tv).setCells (w.heap.size+1) 0 (zAM (zAq 7) zAV)):=zIr pA pO;clear hz hl htv;go_enter func84,ntmps84;go_upto_region 1 with fail
 go_upto_region 2 with ((with_reducible refine wpList_store_mid ?_ 67 (.tmp 3) (.tmp 7) ?_ (w.heap.size+1) 0 (zAM (zAq 7) zAV).toArray ?_ ?_ ?_ ?_ ?_ ?_);rfl;rfl;rfl;rfl;exact hth;kernel_rfl;exact zHc _ _ _ _)
 generalize (zCf w x tv).setCells (w.heap.size+1) 0 (zAM (zAq 7) zAV)=W0 at *;clear hth;go_upto_region 33 with fail
 have pA1:=pA;have pO1:=pO;have hB1:=hBa;clear pA pO hBa hS a0;have rA:=pA1.range;have rO:=pO1.range;have hB2:=hB1;clear pA1 pO1 hB1;go_wp2_with (first | ((with_reducible refine zAB ?_ 67 (.tmp 1) ?_ w.heap.size 0 ?_ (zAM x tv) _ ?_ underlying67 ?_ ?_ ?_);rfl;rfl;rfl;exact rA;rfl;kernel_rfl) | ((with_reducible refine zAB ?_ 67 (.tmp 3) ?_ (w.heap.size+1) 0 ?_ (zAM ⟨7,0,0,v0I,c0I,a0I,a0I⟩ zAV) _ ?_ underlying67 ?_ ?_ ?_);rfl;rfl;rfl;exact rO;rfl;kernel_rfl) | (go_at_call 112;refine (CS _ hB2).mono ?_;rintro e w3 ⟨rfl,hb3⟩;have hB3:=zAA hB2 hb3))
 go_wp2;go_ret;first
 | exact ⟨by simp,hB2⟩
 | exact ⟨by simp,hB3⟩
theorem zJ8 (x:Wc.In) (av:Option Addr) (n c:Nat) (tl:List Int) (w:World) (hk:x.op=16) (hz:RdZ w (.slice av n c) tl) (hl:tl.length<=1000000) :
  CR 84 #[inV x (.slice av n c)] w (.bool (true && (smI x ⟨16,0,0,v0I,c0I,a0I,a0I⟩ && decide (tl=[])))):=by
 have CS:∀ w',Below w.heap.size w w'->Calls prog 112 #[.agg (zAM x (.slice av n c)).toArray,.agg (zAM ⟨16,0,0,v0I,c0I,a0I,a0I⟩ zAV).toArray] w' λe w''=>e=.returned (.bool (smI x ⟨16,0,0,v0I,c0I,a0I,a0I⟩ && decide (tl=[])))/\Below w'.heap.size w' w'':=λw' hb=>zDQ x ⟨16,0,0,v0I,c0I,a0I,a0I⟩ _ _ tl [] w' (hz.below hb) (RdZ.nil _) hl (by first | exact hl | simp)
 generalize (smI x ⟨16,0,0,v0I,c0I,a0I,a0I⟩ && decide (tl=[]))=R at *;obtain ⟨tv,htv⟩:∃ tv,Value.slice av n c=tv:=⟨_,rfl⟩
 rw [htv] at CS ⊢;have pA0:AtL (zCf w x tv) w.heap.size (zAM x tv):=(AtL.new0 w _ _).alloc _;have pO0:AtL (zCf w x tv) (w.heap.size+1) (zAM (zAq 0) zAV):=AtL.new1 w _ _ _;have hth:World.there (zCf w x tv) (w.heap.size+1) 0 (zAM (zAq 16) zAV).toArray.size:=pO0.there;have hne:w.heap.size+1 ≠ w.heap.size:=by omega
 have pA:=pA0.farAll hne 0 (zAM (zAq 16) zAV);have pO:AtL ((zCf w x tv).setCells (w.heap.size+1) 0 (zAM (zAq 16) zAV)) (w.heap.size+1) (zAM (zAq 16) zAV):=pO0.setAll rfl;have hBa:Below w.heap.size w ((zCf w x tv).setCells (w.heap.size+1) 0 (zAM (zAq 16) zAV)):=zBJ (zAH (zAH (Below.refl _ w) _) _) (Nat.le_succ _) _ 0;clear pA0 pO0;have n0:(zAM x tv)[0]? = some (.int .i64 16):=by rw [<-hk];rfl
 have a0:World.cell? ((zCf w x tv).setCells (w.heap.size+1) 0 (zAM (zAq 16) zAV)) ⟨w.heap.size,0,none⟩=some (.int .i64 16):=pA.2.1 0 _ n0;show Calls _ _ #[.agg (zAM x tv).toArray] _ _
 have hS:zQz w.heap.size (w.heap.size+1) x tv ((zCf w x tv).setCells (w.heap.size+1) 0 (zAM (zAq 16) zAV)):=zIr pA pO;clear hz hl htv;go_enter func84,ntmps84;go_upto_region 1 with fail
 go_upto_region 2 with ((with_reducible refine wpList_store_mid ?_ 67 (.tmp 3) (.tmp 7) ?_ (w.heap.size+1) 0 (zAM (zAq 16) zAV).toArray ?_ ?_ ?_ ?_ ?_ ?_);rfl;rfl;rfl;rfl;exact hth;kernel_rfl;exact zHc _ _ _ _)
 generalize (zCf w x tv).setCells (w.heap.size+1) 0 (zAM (zAq 16) zAV)=W0 at *;clear hth;go_upto_region 33 with fail
 have pA1:=pA;have pO1:=pO;have hB1:=hBa;clear pA pO hBa hS a0;have rA:=pA1.range;have rO:=pO1.range;have hB2:=hB1;clear pA1 pO1 hB1;go_wp2_with (first | ((with_reducible refine zAB ?_ 67 (.tmp 1) ?_ w.heap.size 0 ?_ (zAM x tv) _ ?_ underlying67 ?_ ?_ ?_);rfl;rfl;rfl;exact rA;rfl;kernel_rfl) | ((with_reducible refine zAB ?_ 67 (.tmp 3) ?_ (w.heap.size+1) 0 ?_ (zAM ⟨16,0,0,v0I,c0I,a0I,a0I⟩ zAV) _ ?_ underlying67 ?_ ?_ ?_);rfl;rfl;rfl;exact rO;rfl;kernel_rfl) | (go_at_call 112;refine (CS _ hB2).mono ?_;rintro e w3 ⟨rfl,hb3⟩;have hB3:=zAA hB2 hb3))
 go_wp2;go_ret;first
 | exact ⟨by simp,hB2⟩
 | exact ⟨by simp,hB3⟩
def rgt (x:Wc.In) (tl:List Int):Bool :=
 if x.op=1 then Wv.right x.v.k x.v.n x.v.d x.v.t x.v.b x.v.f && (smI x ⟨1,0,0,x.v,c0I,a0I,a0I⟩ && decide (tl=[]))
 else if x.op=2 then Wpl.rightC x.ce.s x.ce.r x.ce.c && (smI x ⟨2,0,0,v0I,x.ce,a0I,a0I⟩ && decide (tl=[]))
 else if x.op=3 then (decide (1<=x.a) && decide (x.a<=3)) && (smI x ⟨3,x.a,0,v0I,c0I,a0I,a0I⟩ && decide (tl=[]))
 else if x.op=4 then Wt.isBin x.a && (smI x ⟨4,x.a,0,v0I,c0I,a0I,a0I⟩ && decide (tl=[]))
 else if x.op=5 then apl x.a x.b && (smI x ⟨5,x.a,x.b,v0I,c0I,a0I,a0I⟩ && decide (tl=[]))
 else if x.op=6 then fld x.a && (smI x ⟨6,x.a,0,v0I,c0I,a0I,a0I⟩ && decide (tl=[]))
 else if x.op=7 then true && (smI x ⟨7,0,0,v0I,c0I,a0I,a0I⟩ && decide (tl=[]))
 else if x.op=8 then Wpl.rightA x.ar.s x.ar.t x.ar.l x.ar.b x.ar.r && (smI x ⟨8,0,0,v0I,c0I,x.ar,a0I⟩ && decide (tl=[]))
 else if x.op=9 then ((Wpl.rightA x.ar.s x.ar.t x.ar.l x.ar.b x.ar.r && Wpl.rightA x.pr.s x.pr.t x.pr.l x.pr.b x.pr.r) && shp x.ar x.pr) && (smI x ⟨9,0,0,v0I,c0I,x.ar,x.pr⟩ && decide (tl=[]))
 else if x.op=10 then true && (smI x ⟨10,0,0,v0I,c0I,a0I,a0I⟩ && decide (tl=[]))
 else if x.op=11 then (Wpl.rightA x.ar.s x.ar.t x.ar.l x.ar.b x.ar.r && (x.b == 1 || x.b == 2)) && (smI x ⟨11,0,x.b,v0I,c0I,x.ar,a0I⟩ && decide (tl=[]))
 else if x.op=12 then true && (smI x ⟨12,x.a,x.b,v0I,c0I,a0I,a0I⟩ && decide (tl=[]))
 else if x.op=13 then true && (smI x ⟨13,x.a,0,v0I,c0I,a0I,a0I⟩ && decide (tl=[]))
 else if x.op=14 then true && (smI x ⟨14,x.a,0,v0I,c0I,a0I,a0I⟩ && decide (tl=[]))
 else if x.op=15 then (decide (1<=(tl.length:Int)) && decide ((tl.length:Int)<=30)) && (smI x ⟨15,0,x.b,v0I,c0I,a0I,a0I⟩ && decide (tl=tl))
 else if x.op=16 then true && (smI x ⟨16,0,0,v0I,c0I,a0I,a0I⟩ && decide (tl=[]))
 else false
theorem zQk (h:x.op=2):rgt x tl=(Wpl.rightC x.ce.s x.ce.r x.ce.c && (smI x ⟨2,0,0,v0I,x.ce,a0I,a0I⟩ && decide (tl=[]))):=by
 unfold rgt;rw [if_neg (by omega),if_pos h]
theorem zQs (h:x.op=5):rgt x tl=(apl x.a x.b && (smI x ⟨5,x.a,x.b,v0I,c0I,a0I,a0I⟩ && decide (tl=[]))):=by
 unfold rgt;rw [if_neg (by omega),if_neg (by omega),if_neg (by omega),if_neg (by omega),if_pos h]
theorem zPV (h:x.op=11):rgt x tl=((Wpl.rightA x.ar.s x.ar.t x.ar.l x.ar.b x.ar.r && (x.b == 1 || x.b == 2)) && (smI x ⟨11,0,x.b,v0I,c0I,x.ar,a0I⟩ && decide (tl=[]))):=by
 unfold rgt;rw [if_neg (by omega),if_neg (by omega),if_neg (by omega),if_neg (by omega),if_neg (by omega),if_neg (by omega),if_neg (by omega),if_neg (by omega),if_neg (by omega),if_neg (by omega),if_pos h]
theorem zPR (h:x.op=16):rgt x tl=(true && (smI x ⟨16,0,0,v0I,c0I,a0I,a0I⟩ && decide (tl=[]))):=by
 unfold rgt;rw [if_neg (by omega),if_neg (by omega),if_neg (by omega),if_neg (by omega),if_neg (by omega),if_neg (by omega),if_neg (by omega),if_neg (by omega),if_neg (by omega),if_neg (by omega),if_neg (by omega),if_neg (by omega),if_neg (by omega),if_neg (by omega),if_neg (by omega),if_pos h]
abbrev zeros23:Array Value:=#[.int .i64 0,.int .i64 0,.int .i64 0,.int .i64 0,.int .i64 0,.int .i64 0,.string ⟨#[]⟩,.bool false,.int .i64 0,.int .i64 0,.int .i64 0,.int .i64 0,.int .i64 0,.int .i64 0,.int .i64 0,.int .i64 0,.int .i64 0,.int .i64 0,.int .i64 0,.int .i64 0,.int .i64 0,.int .i64 0,.slice none 0 0]
abbrev pl1 (wr:World) (i:Nat):World:=(wr.alloc (.cells #[.int .i64 i] 3)).alloc (.cells zeros23 67)
theorem zFn {o a b at':Int} (h:tl.length<=1000000):(onw o a b tl at').1.length<=1000000/\(onw o a b tl at').2.length<=1000000:=by
 unfold onw;repeat' split
 all_goals simp
 exact h
theorem zJp (n i:Nat) (x:Wc.In × List Int) (r:List (Wc.In × List Int)):Wc.plcs rgt n i (x::r)=(Wc.plc rgt n i x && Wc.plcs rgt n (i+1) r):=rfl
theorem zCH (n i:Nat) (y:Wc.In) (tl:List Int):Wc.plc rgt n i (y,tl)=(rgt y tl && (((y.op == 16) == (i+1 == n)) && (!(onw y.op y.a y.b tl i).1.any (zCl i n) && !(onw y.op y.a y.b tl i).2.any (zCl i n)))):=rfl
def zGH (x:Wc.In × List Int):Prop:=zGQ x.1/\∀ (av:Option Addr) (n c:Nat) (w:World),RdZ w (.slice av n c) x.2->x.2.length<=1000000->Wt.FitV x.1.v->NmAt w->CR 84 #[inV x.1 (.slice av n c)] w (.bool (rgt x.1 x.2))
theorem zHy (L:List (Wc.In × List Int)) (v:Value) (w:World) (h:RdC w v L) (hl:L.length<=1000000) (ht:∀ x ∈ L,x.2.length<=1000000/\Wt.FitV x.1.v) (hN:NmAt w) (hCR:∀ x ∈ L,zGH x) :
  CR 67 #[v] w (.bool (Wc.plcs rgt L.length 0 L && decide (0<L.length))):=by
 obtain ⟨a1,c1,rfl,r1⟩:=h;have HR:Hid (RdC w (.slice a1 L.length c1) L):=⟨a1,c1,rfl,r1⟩
 have HT:Hid (∀ x ∈ L,x.2.length<=1000000/\Wt.FitV x.1.v):=ht;have HN:Hid (NmAt w):=hN;have HCR:Hid (∀ x ∈ L,zGH x):=hCR;clear hCR;obtain ⟨n,hn⟩:∃ n,L.length=n:=⟨_,rfl⟩
 have HL:Hid (L.length=n):=hn;rw [hn] at hl ⊢;obtain ⟨q,hq⟩:∃ q,Wc.plcs rgt n 0 L=q:=⟨_,rfl⟩
 have HQ:Hid (Wc.plcs rgt n 0 (L.drop 0)=q):=hq;rw [hq];have pB:=AtL.new0 w 33 [.slice a1 n c1];have hb0:=zAH (Below.refl _ w) (.cells #[.slice a1 n c1] 33);have hc0:(w.alloc (.cells #[.slice a1 n c1] 33)).cell? ⟨w.heap.size,0,none⟩=some (.slice a1 n c1):=pB.2.1 0 _ rfl;clear r1 ht hN hn hq pB;go_enter func67,ntmps67;go_upto_region 1 with fail
 generalize (w.alloc (.cells #[.slice a1 n c1] 33))=w0 at *;go_wp2_with fail
 go_loopg [10] n (λgk x wr=>∃ i:Nat,x=.int .i64 i/\gk=n - i/\i<=n/\Hid (Wc.plcs rgt n i (L.drop i)=q)/\wr.cell? ⟨w.heap.size,0,none⟩=some (.slice a1 n c1)/\Below w.heap.size w wr)
 case atStart=>exact ⟨0,rfl,rfl,Nat.zero_le _,HQ,hc0,hb0⟩
 case round =>
  clear hc0 hb0 HQ;obtain ⟨i,rfl,hg,hi,HP,hc,hb⟩:=hrel;by_cases hlt:i<n
  ·have hli:(i:Int)<(n:Int):=by omega
   have hwi:IntKind.i64.wrap ((i:Int)+1)=(i:Int)+1:=by rw [IntKind.wrap_i64];omega
   have hwn:IntKind.i64.wrap ((n:Int) - 1)=(n:Int) - 1:=by rw [IntKind.wrap_i64];omega
   have hil:i<L.length:=by rw [HL.out];exact hlt
   have H0:=HR.out.below hb;rw [HL.out] at H0;obtain ⟨q1,d1,e1,f1⟩:=H0;simp only [Value.slice.injEq] at e1;obtain ⟨ex1,ex2,ex3⟩:=e1;subst ex1;subst ex3;clear ex2;obtain ⟨bb,off,p,m,k,rfl,t1,y1,_⟩:=f1 i hil;obtain ⟨y,tl,hyt⟩:∃ y tl,L[i]=(y,tl):=⟨_,_,rfl⟩
   have HCY:Hid (zGH (y,tl)):=by have:=HCR.out (L[i]) (List.getElem_mem _);rw [hyt] at this;exact this
   obtain ⟨htl,hfv⟩:=HT.out L[i] (List.getElem_mem _);have HP2:Hid ((Wc.plc rgt n i (y,tl) && Wc.plcs rgt n (i+1) (L.drop (i+1)))=q):=by
    show _=q
    rw [<-HP.out,List.drop_eq_getElem_cons hil,hyt,zJp]
   rw [hyt] at t1 y1 htl hfv;have pI0:AtL (pl1 wr i) (wr.heap.size+1) zeros23.toList:=AtL.new1 wr _ _ _;have hth:World.there (pl1 wr i) (wr.heap.size+1) 0 (zAM y (.slice p m k)).toArray.size:=pI0.there;have HB:Hid (Below w.heap.size w wr):=hb;have HC:Hid (wr.cell? ⟨w.heap.size,0,none⟩=some (.slice (some ⟨bb,off,none⟩) n c1)):=hc;have HY:Hid (RdZ wr (.slice p m k) tl):=y1;have HF:Hid (Wt.FitV y.v):=hfv;clear pI0 f1 hyt HP hil hc hb y1 hfv;go_upto_region 4 with (first | (refine zAB (by rfl) 67 (.tmp 13) rfl bb (off+i * 23) rfl (zAM y (.slice p m k)) _ t1 underlying67 rfl (by kernel_rfl) ?_) | ((with_reducible refine wpList_store_mid ?_ 67 (.tmp 4) (.tmp 14) ?_ (wr.heap.size+1) 0 (zAM y (.slice p m k)).toArray ?_ ?_ ?_ ?_ ?_ ?_);rfl;rfl;rfl;rfl;exact hth;kernel_rfl;exact zHc _ _ _ _))
   have hb:=HB.out;have hc:=HC.out;have y1:=HY.out;have hfv:=HF.out;have pI0:AtL (pl1 wr i) (wr.heap.size+1) zeros23.toList:=AtL.new1 wr _ _ _;have pC:AtL ((pl1 wr i).setCells (wr.heap.size+1) 0 (zAM y (.slice p m k))) wr.heap.size [.int .i64 i]:=((AtL.new0 wr _ [.int .i64 i]).alloc _).farAll (by omega) 0 _;have pI:AtL ((pl1 wr i).setCells (wr.heap.size+1) 0 (zAM y (.slice p m k))) (wr.heap.size+1) (zAM y (.slice p m k)):=pI0.setAll rfl;have hBw:Below wr.heap.size wr ((pl1 wr i).setCells (wr.heap.size+1) 0 (zAM y (.slice p m k))):=zBJ (zAH (zAH (Below.refl _ wr) _) _) (Nat.le_succ _) _ 0;have HNW:Hid (NmAt ((pl1 wr i).setCells (wr.heap.size+1) 0 (zAM y (.slice p m k)))):=(HN.out.below hb).below hBw;have zW:=y1.below hBw;have cW:=zAC hBw hc;have hB0:=zAA hb hBw;clear pI0 hc hb hBw y1 HB HC HY HF;generalize (pl1 wr i).setCells (wr.heap.size+1) 0 (zAM y (.slice p m k))=W at *;have rI:=pI.range;clear hth t1;go_wp2_with (first | (refine zAB (by rfl) 67 (.tmp 4) rfl (wr.heap.size+1) 0 rfl (zAM y (.slice p m k)) _ rI underlying67 rfl (by kernel_rfl) ?_))
   refine (HCY.out.2 p m k W zW htl hfv HNW.out).mono ?_;rintro e w1 ⟨rfl,hb1⟩;replace pI:=AtL.below hb1 pI
   replace pC:=AtL.below hb1 pC
   replace zW:=zW.below hb1
   replace cW:=zAC hb1 cW
   replace hB0:=zAA hB0 hb1
   clear rI hb1 hfv HNW;have rI:=pI.range;have i0:=pI.2.1 0 _ rfl;have cA:=pC.2.1 0 _ rfl;obtain ⟨r,hr⟩:∃ r,rgt y tl=r:=⟨_,rfl⟩
   have HRG:Hid (rgt y tl=r):=hr;rw [hr];clear hr pI pC;cases r with
   | false =>
    go_wp2;go_ret;exact ⟨by rw [<-HP2.out,zCH,HRG.out];rfl,hB0⟩
   | true =>
    by_cases h16:y.op=16
    ·by_cases hla:(n:Int) - 1=(i:Int)
     ·have HE:Hid (((y.op == 16) == (i+1 == n))=true):=by show _=_;rw [show (y.op == 16)=true from by simp [h16],show (i+1 == n)=true from by simp;omega];rfl
      have OW:=zBe y p m k tl i;have hle:=zFn (o:=y.op) (a:=y.a) (b:=y.b) (at':=i) htl;have HO:Hid (∃ u,onw y.op y.a y.b tl i=u):=⟨_,rfl⟩
      obtain ⟨u,hu⟩:=HO.out;have HU:Hid (onw y.op y.a y.b tl i=u):=hu;rw [hu] at hle;have OW1:=OW w1 (by omega) zW;rw [hu] at OW1;obtain ⟨u1,u2⟩:=u;simp only at hle;have HLE:Hid (u1.length<=1000000/\u2.length<=1000000):=hle;clear OW HO hu zW htl hle;go_wp2_with (first | (refine zAB (by rfl) 67 (.tmp 4) rfl (wr.heap.size+1) 0 rfl (zAM y (.slice p m k)) _ rI underlying67 rfl (by kernel_rfl) ?_))
      refine OW1.mono ?_;rintro e w2 ⟨⟨c,c2,rfl,z1,z2,_,_⟩,hb2⟩;have Z2:Hid (RdZ w2 c2 u2):=z2;replace cA:=zAC hb2 cA
      replace cW:=zAC hb2 cW
      replace hB0:=zAA hB0 hb2
      clear rI i0 hb2 OW1;clear z2;have CA:=zBG u1 c i wr.heap.size w.heap.size _ n _ w2 z1 HLE.out.1 cA cW;clear z1;go_wp2_with fail
      refine CA.mono ?_;rintro e w3 ⟨rfl,hb3⟩;replace cA:=zAC hb3 cA
      replace cW:=zAC hb3 cW
      have z2:=Z2.out.below hb3;clear Z2;replace hB0:=zAA hB0 hb3
      clear CA hb3;obtain ⟨s1,hs1⟩:∃ s,u1.any (zCl i n)=s:=⟨_,rfl⟩
      have HS1:Hid (u1.any (zCl i n)=s1):=hs1;rw [hs1];clear hs1;cases s1 with
      | true =>
       go_wp2;go_ret;exact ⟨by rw [<-HP2.out,zCH,HRG.out,HE.out,HU.out,HS1.out];rfl,hB0⟩
      | false =>
       have CB:=zBG u2 c2 i wr.heap.size w.heap.size _ n _ w3 z2 HLE.out.2 cA cW;clear z2;go_wp2_with fail
       refine CB.mono ?_;rintro e w4 ⟨rfl,hb4⟩;replace cW:=zAC hb4 cW
       replace hB0:=zAA hB0 hb4
       clear CB hb4;obtain ⟨s2,hs2⟩:∃ s,u2.any (zCl i n)=s:=⟨_,rfl⟩
       have HS2:Hid (u2.any (zCl i n)=s2):=hs2;rw [hs2];clear hs2;cases s2 with
       | true =>
        go_wp2;go_ret;exact ⟨by rw [<-HP2.out,zCH,HRG.out,HE.out,HU.out,HS1.out,HS2.out];rfl,hB0⟩
       | false =>
        have HP3:Hid (Wc.plcs rgt n (i+1) (L.drop (i+1))=q):=by
         show _=q
         rw [<-HP2.out,zCH,HRG.out,HE.out,HU.out];simp only [HS1.out,HS2.out];rfl
        go_wp2_with fail
        go_roundg (n - (i+1))
        case rel=>exact ⟨i+1,by simp,rfl,hlt,HP3,cW,hB0⟩
        case measure=>omega
     ·have HE:Hid (((y.op == 16) == (i+1 == n))=false):=by show _=_;rw [show (y.op == 16)=true from by simp [h16],show (i+1 == n)=false from by simp;omega];rfl
      have hla2:¬ (i:Int)=(n:Int) - 1:=by omega
      have hla3:((i:Int) == (n:Int) - 1)=false:=by simp;omega
      have hla4:((n:Int) - 1 == (i:Int))=false:=by simp;omega
      go_wp2;go_ret;exact ⟨by rw [<-HP2.out,zCH,HRG.out,HE.out];rfl,hB0⟩
    ·have h16b:(y.op == 16)=false:=by simp [h16]
     by_cases hla:(n:Int) - 1=(i:Int)
     ·have HE:Hid (((y.op == 16) == (i+1 == n))=false):=by show _=_;rw [show (y.op == 16)=false from by simp [h16],show (i+1 == n)=true from by simp;omega];rfl
      go_wp2;go_ret;exact ⟨by rw [<-HP2.out,zCH,HRG.out,HE.out];rfl,hB0⟩
     ·have HE:Hid (((y.op == 16) == (i+1 == n))=true):=by show _=_;rw [show (y.op == 16)=false from by simp [h16],show (i+1 == n)=false from by simp;omega];rfl
      have hla2:¬ (i:Int)=(n:Int) - 1:=by omega
      have hla3:((i:Int) == (n:Int) - 1)=false:=by simp;omega
      have hla4:((n:Int) - 1 == (i:Int))=false:=by simp;omega
      have OW:=zBe y p m k tl i;have hle:=zFn (o:=y.op) (a:=y.a) (b:=y.b) (at':=i) htl;have HO:Hid (∃ u,onw y.op y.a y.b tl i=u):=⟨_,rfl⟩
      obtain ⟨u,hu⟩:=HO.out;have HU:Hid (onw y.op y.a y.b tl i=u):=hu;rw [hu] at hle;have OW1:=OW w1 (by omega) zW;rw [hu] at OW1;obtain ⟨u1,u2⟩:=u;simp only at hle;have HLE:Hid (u1.length<=1000000/\u2.length<=1000000):=hle;clear OW HO hu zW htl hle;go_wp2_with (first | (refine zAB (by rfl) 67 (.tmp 4) rfl (wr.heap.size+1) 0 rfl (zAM y (.slice p m k)) _ rI underlying67 rfl (by kernel_rfl) ?_))
      refine OW1.mono ?_;rintro e w2 ⟨⟨c,c2,rfl,z1,z2,_,_⟩,hb2⟩;have Z2:Hid (RdZ w2 c2 u2):=z2;replace cA:=zAC hb2 cA
      replace cW:=zAC hb2 cW
      replace hB0:=zAA hB0 hb2
      clear rI i0 hb2 OW1;clear z2;have CA:=zBG u1 c i wr.heap.size w.heap.size _ n _ w2 z1 HLE.out.1 cA cW;clear z1;go_wp2_with fail
      refine CA.mono ?_;rintro e w3 ⟨rfl,hb3⟩;replace cA:=zAC hb3 cA
      replace cW:=zAC hb3 cW
      have z2:=Z2.out.below hb3;clear Z2;replace hB0:=zAA hB0 hb3
      clear CA hb3;obtain ⟨s1,hs1⟩:∃ s,u1.any (zCl i n)=s:=⟨_,rfl⟩
      have HS1:Hid (u1.any (zCl i n)=s1):=hs1;rw [hs1];clear hs1;cases s1 with
      | true =>
       go_wp2;go_ret;exact ⟨by rw [<-HP2.out,zCH,HRG.out,HE.out,HU.out,HS1.out];rfl,hB0⟩
      | false =>
       have CB:=zBG u2 c2 i wr.heap.size w.heap.size _ n _ w3 z2 HLE.out.2 cA cW;clear z2;go_wp2_with fail
       refine CB.mono ?_;rintro e w4 ⟨rfl,hb4⟩;replace cW:=zAC hb4 cW
       replace hB0:=zAA hB0 hb4
       clear CB hb4;obtain ⟨s2,hs2⟩:∃ s,u2.any (zCl i n)=s:=⟨_,rfl⟩
       have HS2:Hid (u2.any (zCl i n)=s2):=hs2;rw [hs2];clear hs2;cases s2 with
       | true =>
        go_wp2;go_ret;exact ⟨by rw [<-HP2.out,zCH,HRG.out,HE.out,HU.out,HS1.out,HS2.out];rfl,hB0⟩
       | false =>
        have HP3:Hid (Wc.plcs rgt n (i+1) (L.drop (i+1))=q):=by
         show _=q
         rw [<-HP2.out,zCH,HRG.out,HE.out,HU.out];simp only [HS1.out,HS2.out];rfl
        go_wp2_with fail
        go_roundg (n - (i+1))
        case rel=>exact ⟨i+1,by simp,rfl,hlt,HP3,cW,hB0⟩
        case measure=>omega
  ·have hli:¬ (i:Int)<(n:Int):=by omega
   have hqt:Hid (q=true):=by
    show q=true
    rw [<-HP.out,List.drop_eq_nil_of_le (by rw [HL.out];omega)];rfl
   have hen:i=n:=by omega
   by_cases h0:0<n
   ·have h0z:(0:Int)<(n:Int):=by omega
    go_wp2;go_ret;exact ⟨by first | rfl | (rw [hqt.out];rfl) | (rw [hqt.out,decide_eq_true h0];rfl),hb⟩
   ·have h0z:¬ (0:Int)<(n:Int):=by omega
    go_wp2;go_ret;exact ⟨by first | rfl | (rw [hqt.out];rfl) | (rw [hqt.out,decide_eq_false h0];rfl) | simp,hb⟩
def mkC (M:List (Option (Int × Nat))) (j:Nat):List Value:=match M.getD j none with
 | none=>[.int .i64 0,.int .i64 0,.bool false]
 | some (v,m)=>[.int .i64 v,.int .i64 (m:Int),.bool (decide (j ≠ 0))]
structure MkS (w:World) (b mk n:Nat) (M:List (Option (Int × Nat))):Prop where
 hd:w.cell? ⟨b,0,none⟩=some (.slice (some ⟨mk,0,none⟩) n n)
 at':∀ j:Nat,j<n->w.rangeAt mk (j * 3) (mkC M j)
 fz:∀ i:Nat,i<n * 3->w.frozen? ⟨mk,i,none⟩=false
 len:M.length=n
 mlt:mk<w.heap.size
theorem MkS.fr {S:List Nat} {w':World} (h:MkS w b mk n M) (hf:Fr S w w') (hb:b ∉ S) (hm:mk ∉ S):MkS w' b mk n M :=
 ⟨hf.cell h.hd hb,λj hj=>hf.range (h.at' j hj) hm,λi hi=>by rw [hf.frozen h.mlt hm];exact h.fz i hi,h.len,Nat.lt_of_lt_of_le h.mlt hf.size⟩
theorem zEy (M:List (Option (Int × Nat))) (j:Nat):∃ a c d,mkC M j=[.int .i64 a,.int .i64 c,.bool d]:=by
 unfold mkC;split
 ·exact ⟨_,_,_,rfl⟩
 ·exact ⟨_,_,_,rfl⟩
theorem MkS.three (h:MkS w b mk n M) {j:Nat} (hj:j<n):(∃ a:Int,w.cell? ⟨mk,j * 3,none⟩=some (.int .i64 a))/\(∃ a:Int,w.cell? ⟨mk,j * 3+1,none⟩=some (.int .i64 a))/\∃ d,w.cell? ⟨mk,j * 3+2,none⟩=some (.bool d):=by
 obtain ⟨a,c,d,e⟩:=zEy M j;have hr:=h.at' j hj;rw [e] at hr;exact ⟨⟨a,hr 0 _ rfl⟩,⟨c,hr 1 _ rfl⟩,⟨d,hr 2 _ rfl⟩⟩
theorem MkS.set (h:MkS w b mk n M) {j:Nat} (hj:j<n) (j0:j ≠ 0) (hbm:b ≠ mk) (v:Int) (m:Nat):MkS (((w.setCell ⟨mk,j * 3,none⟩ (.int .i64 v)).setCell ⟨mk,j * 3+1,none⟩ (.int .i64 (m:Int))).setCell ⟨mk,j * 3+2,none⟩ (.bool true)) b mk n (M.set j (some (v,m))):=by
 have fr:Fr [mk] w (((w.setCell ⟨mk,j * 3,none⟩ (.int .i64 v)).setCell ⟨mk,j * 3+1,none⟩ (.int .i64 (m:Int))).setCell ⟨mk,j * 3+2,none⟩ (.bool true)) :=
  ((Fr.of_grown (zAR _ _ _ _) (λk e=>by cases e;simp)).trans (Fr.of_grown (zAR _ _ _ _) (λk e=>by cases e;simp))).trans (Fr.of_grown (zAR _ _ _ _) (λk e=>by cases e;simp))
 obtain ⟨⟨y0,e0⟩,⟨y1,e1⟩,⟨y2,e2⟩⟩:=h.three hj;refine ⟨fr.cell h.hd (by simpa using hbm),λi hi=>?_,λi hi=>by rw [World.frozen?_setCell,World.frozen?_setCell,World.frozen?_setCell];exact h.fz i hi,by rw [List.length_set];exact h.len,Nat.lt_of_lt_of_le h.mlt fr.size⟩;by_cases e:i=j
 ·subst e;have hc:mkC (M.set i (some (v,m))) i=[.int .i64 v,.int .i64 (m:Int),.bool true]:=by
   unfold mkC;rw [Wc.getD_set M i i _ (by rw [h.len];exact hj),if_pos rfl];simp [j0]
  rw [hc];intro q u hq;match q,hq with
  | 0,hq =>
   cases hq
   rw [zAY _ _ _ (by omega),zAY _ _ _ (by omega)];exact zA4 e0 _
  | 1,hq =>
   cases hq
   rw [zAY _ _ _ (by omega)];exact zA4 (by rw [zAY _ _ _ (by omega)];exact e1) _
  | 2,hq =>
   cases hq
   exact zA4 (by rw [zAY _ _ _ (by omega),zAY _ _ _ (by omega)];exact e2) _
 ·have hc:mkC (M.set j (some (v,m))) i=mkC M i:=by
   unfold mkC;rw [Wc.getD_set M j i _ (by rw [h.len];exact hj),if_neg (λq=>e q.symm)]
  rw [hc];obtain ⟨a,c,d,ee⟩:=zEy M i;have hr:=h.at' i hi;rw [ee] at hr ⊢;intro q u hq;have hq3:q<3:=by
   rcases Nat.lt_or_ge q 3 with g | g
   ·exact g
   ·rw [List.getElem?_eq_none (by simpa using g)] at hq;cases hq
  have:=hr q u hq;rw [zAY _ _ _ (by omega),zAY _ _ _ (by omega),zAY _ _ _ (by omega)];exact this
theorem zEE {i1 i2 i3:Nat} {v1 v2 v3:Value}:Fr [mk] w (((w.setCell ⟨mk,i1,none⟩ v1).setCell ⟨mk,i2,none⟩ v2).setCell ⟨mk,i3,none⟩ v3) :=
 ((Fr.of_grown (zAR _ _ _ _) (λk e=>by cases e;simp)).trans (Fr.of_grown (zAR _ _ _ _) (λk e=>by cases e;simp))).trans (Fr.of_grown (zAR _ _ _ _) (λk e=>by cases e;simp))
theorem zM4 (x y x' y':Int) (w:World):(binOp .neq 160 (.agg #[.int .i64 x,.int .i64 y]) (.agg #[.int .i64 x',.int .i64 y'])).run prog w=.ok (.bool (!((x == x') && (y == y')))) w:=by
 by_cases h1:x=x'
 ·by_cases h2:y=y'
  ·simp [go_sem,h1,h2]
  ·simp [go_sem,h1,h2]
 ·simp [go_sem,h1]
def zRP (r:Option (List (Option (Int × Nat)))) (b mk n:Nat) (w:World) (e:Ending) (w':World):Prop:=match r with
 | some M2=>e=.returned (.bool true)/\MkS w' b mk n M2/\Fr [mk] w w'
 | none=>e=.returned (.bool false)/\Fr [mk] w w'
theorem zCh (b mk n:Nat) (M:List (Option (Int × Nat))) (v:Int) (m:Nat) (pl:List Int) (pv:Value) (w:World) (hM:MkS w b mk n M) (hbm:b ≠ mk) (hp:RdZ w pv pl) (hpl:∀ j ∈ pl,0<j/\j<(n:Int)) (hl:pl.length<=1000000) (hn:n<=1000000) (hpb:pl ≠ []->∀ g,pv.ownBlock=some g->g ≠ mk) :
  Calls prog 89 #[.pointer (some ⟨b,0,none⟩),.agg #[.int .i64 v,.int .i64 (m:Int)],pv] w λe w'=>zRP (Wc.handP (v,m) pl M) b mk n w e w':=by
 obtain ⟨a1,c1,rfl,r1⟩:=hp;have HR:Hid (RdZ w (.slice a1 pl.length c1) pl):=⟨a1,c1,rfl,r1⟩
 have HPB:Hid (pl ≠ []->∀ g,(Value.slice a1 pl.length c1).ownBlock=some g->g ≠ mk):=hpb;have HPL:Hid (∀ j ∈ pl,0<j/\j<(n:Int)):=hpl;obtain ⟨k,hk⟩:∃ k,pl.length=k:=⟨_,rfl⟩
 have HK:Hid (pl.length=k):=hk;rw [hk] at hl ⊢;obtain ⟨q,hq⟩:∃ q,Wc.handP (v,m) pl M=q:=⟨_,rfl⟩
 have HQ:Hid (Wc.handP (v,m) (pl.drop 0) M=q):=hq;rw [hq];have pH:=AtL.new0 w 160 [.int .i64 v,.int .i64 (m:Int)];have hb0:=zAH (Below.refl _ w) (.cells #[.int .i64 v,.int .i64 (m:Int)] 160);have hM0:=hM.fr (Fr.of_below [] hb0) (by simp) (by simp);have hF0:=Fr.of_below [mk] hb0;have h0:=pH.2.1 0 _ rfl;have h1:=pH.2.1 1 _ rfl;have nb:b ∉ [mk]:=by simpa using hbm
 have nw:w.heap.size ∉ [mk]:=by have:=hM.mlt;simp;omega
 clear r1 hpl hk hq pH hM hpb;go_enter func89,ntmps89;go_upto_region 1 with fail
 generalize (w.alloc (.cells #[.int .i64 v,.int .i64 (m:Int)] 160))=w0 at *;have HB0:Hid (Below w.heap.size w w0):=hb0;clear hb0;go_wp2_with fail
 go_loopg [11] k (λgk x wr=>∃ (i:Nat) (Mi:List (Option (Int × Nat))),x=.int .i64 i/\gk=k - i/\i<=k/\Hid (Wc.handP (v,m) (pl.drop i) Mi=q)/\Hid (MkS wr b mk n Mi)/\Hid (Fr [mk] w wr)/\wr.cell? ⟨w.heap.size,0,none⟩=some (.int .i64 v)/\wr.cell? ⟨w.heap.size,1,none⟩=some (.int .i64 (m:Int)))
 case atStart=>exact ⟨0,M,rfl,rfl,Nat.zero_le _,HQ,hM0,hF0,h0,h1⟩
 case round =>
  clear h0 h1 hM0 hF0 HQ;obtain ⟨i,Mi,rfl,hg,hi,HQ,HMi,HFi,h0,h1⟩:=hrel;by_cases hlt:i<k
  ·have hli:(i:Int)<(k:Int):=by omega
   have hwi:IntKind.i64.wrap ((i:Int)+1)=(i:Int)+1:=by rw [IntKind.wrap_i64];omega
   have hil:i<pl.length:=by rw [HK.out];exact hlt
   have hM:=HMi.out;have hF:=HFi.out;have H0:=HR.out;rw [HK.out] at H0;obtain ⟨q1,d1,e1,f1⟩:=H0;simp only [Value.slice.injEq] at e1;obtain ⟨ex1,ex2,ex3⟩:=e1;subst ex1;subst ex3;clear ex2;obtain ⟨bb,off,rfl,t1⟩:=f1 i hil;have hlb:=zAp t1;have t2:wr.cell? ⟨bb,off+i,none⟩=some (.int .i64 (pl[i])):=hF.cell t1 (by have:=HPB.out (by intro e;rw [e] at hil;simp at hil) bb rfl;simpa using this);obtain ⟨hj1,hj2⟩:=HPL.out pl[i] (List.getElem_mem _);obtain ⟨j,hj⟩:∃ j:Nat,pl[i]=(j:Int):=⟨pl[i].toNat,by omega⟩
   have HQ1:Hid (Wc.handP (v,m) ((j:Int)::pl.drop (i+1)) Mi=q):=by
    show _=q
    rw [<-HQ.out,List.drop_eq_getElem_cons hil,hj]
   rw [hj] at t2 hj1 hj2;have hjn:j<n:=by omega
   have hj0:j ≠ 0:=by omega
   have hjz:(0:Int)<=(j:Int):=by omega
   have hr:=hM.at' j hjn;have c0:=hM.hd;clear f1 t1 hil hj hj1 HMi HFi HQ;cases hgj:Mi.getD j none with
   | none =>
    have HQ2:Hid (Wc.handP (v,m) (pl.drop (i+1)) (Mi.set j (some (v,m)))=q):=by
     show _=q
     rw [<-HQ1.out];simp only [Wc.handP,Int.toNat_natCast,hgj]
    have e2:wr.cell? ⟨mk,j * 3+2,none⟩=some (.bool false):=by
     have:=hr 2 (.bool false) (by unfold mkC;rw [hgj];rfl);exact this
    clear hr;go_upto_region 4 with fail
    go_quiet (fail)
    go_upto_region 6 with fail
    have hbd:Below wr.heap.size wr (wr.drewN nq).drew:=(zAX (Below.refl _ wr) nq).drew;replace hM:=hM.fr (Fr.of_below [] hbd) (by simp) (by simp)
    replace hF:=hF.trans (Fr.of_below [mk] hbd)
    replace h0:=zAC hbd h0
    replace h1:=zAC hbd h1
    clear hbd;have c0:=hM.hd;refine wp_region_held_drew (S:=λW=>W.cell? ⟨b,0,none⟩=some (.slice (some ⟨mk,0,none⟩) n n)/\W.cell? ⟨w.heap.size,0,none⟩=some (.int .i64 v)/\W.cell? ⟨w.heap.size,1,none⟩=some (.int .i64 (m:Int))) (by kernel_rfl) ⟨c0,h0,h1⟩ (λhHeld=>?_);generalize (wr.drewN nq).drew=wd at *;refine tkQ 0 ?_
    refine tkQ 1 ?_
    refine tkQ 2 ?_
    refine tkQ 3 ?_
    refine tkQ 4 ?_
    refine tkQ 5 ?_
    refine tkQ 6 ?_
    refine tkQ 7 ?_
    have fq:=hM.fz;have f0:=fq (j * 3) (by omega);have f1:=fq (j * 3+1) (by omega);have f2:=fq (j * 3+2) (by omega);obtain ⟨⟨y0,e0⟩,⟨y1,e1⟩,⟨y2,e2⟩⟩:=hM.three hjn;have hMS:=hM.set hjn hj0 hbm v m;have fr3:Fr [mk] wd (((wd.setCell ⟨mk,j * 3,none⟩ (.int .i64 v)).setCell ⟨mk,j * 3+1,none⟩ (.int .i64 (m:Int))).setCell ⟨mk,j * 3+2,none⟩ (.bool true)):=zEE;have k0:=fr3.cell c0 nb;have k1:=fr3.cell h0 nw;have k2:=fr3.cell h1 nw;clear fq;refine rdQ 8 (λK hK=>?_);go_simp
    refine hkQ hK (⟨k0,k1,k2⟩) (λhHeld=>?_);clear hK K
    refine wpAnyH_done (by kernel_rfl) ?_ _;clear hHeld f0 f1 f2 e0 e1 e2 c0 h0 h1 hM;have HMS:Hid (MkS (((wd.setCell ⟨mk,j * 3,none⟩ (.int .i64 v)).setCell ⟨mk,j * 3+1,none⟩ (.int .i64 (m:Int))).setCell ⟨mk,j * 3+2,none⟩ (.bool true)) b mk n (Mi.set j (some (v,m)))):=hMS;have HF3:Hid (Fr [mk] w (((wd.setCell ⟨mk,j * 3,none⟩ (.int .i64 v)).setCell ⟨mk,j * 3+1,none⟩ (.int .i64 (m:Int))).setCell ⟨mk,j * 3+2,none⟩ (.bool true))):=hF.trans fr3;have H1:Hid _:=k1;have H2:Hid _:=k2;clear hMS hF fr3 k0 k1 k2;generalize (((wd.setCell ⟨mk,j * 3,none⟩ (.int .i64 v)).setCell ⟨mk,j * 3+1,none⟩ (.int .i64 (m:Int))).setCell ⟨mk,j * 3+2,none⟩ (.bool true))=w9 at *;go_wp2_with fail
    go_roundg (k - (i+1))
    case rel=>exact ⟨i+1,Mi.set j (some (v,m)),by simp,rfl,hlt,HQ2,HMS,HF3,H1.out,H2.out⟩
    case measure=>omega
   | some gg =>
    obtain ⟨gv,gm⟩:=gg;have a0:wr.cell? ⟨mk,j * 3,none⟩=some (.int .i64 gv):=hr 0 (.int .i64 gv) (by unfold mkC;rw [hgj];rfl);have a1:wr.cell? ⟨mk,j * 3+1,none⟩=some (.int .i64 (gm:Int)):=hr 1 (.int .i64 (gm:Int)) (by unfold mkC;rw [hgj];rfl);have e2:wr.cell? ⟨mk,j * 3+2,none⟩=some (.bool true):=hr 2 (.bool true) (by unfold mkC;rw [hgj];simp [hj0]);have NH:=λw=>zM4 gv (gm:Int) v (m:Int) w
    clear hr;by_cases hgh:(gv,gm)=(v,m)
    ·have HQ2:Hid (Wc.handP (v,m) (pl.drop (i+1)) (Mi.set j (some (v,m)))=q):=by
      show _=q
      rw [<-HQ1.out];simp only [Wc.handP,Int.toNat_natCast,hgj,if_pos hgh]
     have hx:(!((gv == v) && ((gm:Int) == (m:Int))))=false:=by
      obtain ⟨h2,h3⟩:=Prod.mk.inj hgh;rw [h2,h3];simp
     rw [hx] at NH;clear hx hgh;go_upto_region 4 with fail
     go_quiet (fail)
     go_upto_region 6 with fail
     have hbd:Below wr.heap.size wr (wr.drewN nq).drew:=(zAX (Below.refl _ wr) nq).drew;replace hM:=hM.fr (Fr.of_below [] hbd) (by simp) (by simp)
     replace hF:=hF.trans (Fr.of_below [mk] hbd)
     replace h0:=zAC hbd h0
     replace h1:=zAC hbd h1
     clear hbd;have c0:=hM.hd;refine wp_region_held_drew (S:=λW=>W.cell? ⟨b,0,none⟩=some (.slice (some ⟨mk,0,none⟩) n n)/\W.cell? ⟨w.heap.size,0,none⟩=some (.int .i64 v)/\W.cell? ⟨w.heap.size,1,none⟩=some (.int .i64 (m:Int))) (by kernel_rfl) ⟨c0,h0,h1⟩ (λhHeld=>?_);generalize (wr.drewN nq).drew=wd at *;refine tkQ 0 ?_
     refine tkQ 1 ?_
     refine tkQ 2 ?_
     refine tkQ 3 ?_
     refine tkQ 4 ?_
     refine tkQ 5 ?_
     refine tkQ 6 ?_
     refine tkQ 7 ?_
     have fq:=hM.fz;have f0:=fq (j * 3) (by omega);have f1:=fq (j * 3+1) (by omega);have f2:=fq (j * 3+2) (by omega);obtain ⟨⟨y0,e0⟩,⟨y1,e1⟩,⟨y2,e2⟩⟩:=hM.three hjn;have hMS:=hM.set hjn hj0 hbm v m;have fr3:Fr [mk] wd (((wd.setCell ⟨mk,j * 3,none⟩ (.int .i64 v)).setCell ⟨mk,j * 3+1,none⟩ (.int .i64 (m:Int))).setCell ⟨mk,j * 3+2,none⟩ (.bool true)):=zEE;have k0:=fr3.cell c0 nb;have k1:=fr3.cell h0 nw;have k2:=fr3.cell h1 nw;clear fq;refine rdQ 8 (λK hK=>?_);go_simp
     refine hkQ hK (⟨k0,k1,k2⟩) (λhHeld=>?_);clear hK K
     refine wpAnyH_done (by kernel_rfl) ?_ _;clear hHeld f0 f1 f2 e0 e1 e2 c0 h0 h1 hM;have HMS:Hid (MkS (((wd.setCell ⟨mk,j * 3,none⟩ (.int .i64 v)).setCell ⟨mk,j * 3+1,none⟩ (.int .i64 (m:Int))).setCell ⟨mk,j * 3+2,none⟩ (.bool true)) b mk n (Mi.set j (some (v,m)))):=hMS;have HF3:Hid (Fr [mk] w (((wd.setCell ⟨mk,j * 3,none⟩ (.int .i64 v)).setCell ⟨mk,j * 3+1,none⟩ (.int .i64 (m:Int))).setCell ⟨mk,j * 3+2,none⟩ (.bool true))):=hF.trans fr3;have H1:Hid _:=k1;have H2:Hid _:=k2;clear hMS hF fr3 k0 k1 k2;generalize (((wd.setCell ⟨mk,j * 3,none⟩ (.int .i64 v)).setCell ⟨mk,j * 3+1,none⟩ (.int .i64 (m:Int))).setCell ⟨mk,j * 3+2,none⟩ (.bool true))=w9 at *;go_wp2_with fail
     go_roundg (k - (i+1))
     case rel=>exact ⟨i+1,Mi.set j (some (v,m)),by simp,rfl,hlt,HQ2,HMS,HF3,H1.out,H2.out⟩
     case measure=>omega
    ·have HQ2:Hid (none=q):=by
      show _=q
      rw [<-HQ1.out];simp only [Wc.handP,Int.toNat_natCast,hgj,if_neg hgh]
     have hx:(!((gv == v) && ((gm:Int) == (m:Int))))=true:=by
      rw [Bool.not_eq_true',Bool.and_eq_false_iff];by_cases h2:gv=v
      ·right
       have h3:gm ≠ m:=λe=>hgh (by rw [h2,e])
       simp;omega
      ·left
       simpa using h2
     rw [hx] at NH;clear hx hgh;go_upto_region 4 with fail
     go_quiet (fail)
     go_wp2;go_ret;show zRP q b mk n w _ _
     rw [<-HQ2.out];exact ⟨rfl,hF.trans (Fr.of_below _ (zAX (Below.refl wr.heap.size wr) nq))⟩
  ·have hli:¬ (i:Int)<(k:Int):=by omega
   have hqe:some Mi=q:=by
    rw [<-HQ.out,List.drop_eq_nil_of_le (by rw [HK.out];omega)];rfl
   go_wp2;go_ret;show zRP q b mk n w _ _
   rw [<-hqe];exact ⟨rfl,HMi.out,HFi.out⟩
