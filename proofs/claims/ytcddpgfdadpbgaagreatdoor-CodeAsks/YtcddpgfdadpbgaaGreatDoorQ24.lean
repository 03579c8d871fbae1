/- KWalkM, KWalkN, KPlacB. -/
import Derived.Test.YtcddpgfdadpbgaaGreatDoorQ23
set_option maxHeartbeats 4000000
set_option maxRecDepth 100000
namespace Go.Proofs.YtcddpgfdadpbgaaGreatDoor
open Tryz
open Go.RowKit
set_option linter.unusedVariables false
variable {w w':World}
theorem zLc (x:Wc.In) (tl:List Int) (a1 a2:Option Addr) (n1 n2 c1 c2:Nat) (w:World) (h1:RdZ w (.slice a1 n1 c1) tl) (h2:RdZ w (.slice a2 n2 c2) tl) (hl:tl.length<=1000000) :
  CR 43 #[inV x (.slice a1 n1 c1),inV x (.slice a2 n2 c2)] w (.bool true):=by
 have pA:=(AtL.new0 w 52 (zAD x (.slice a1 n1 c1))).alloc (.cells (zAD x (.slice a2 n2 c2)).toArray 52);have pB:=AtL.new1 w (.cells (zAD x (.slice a1 n1 c1)).toArray 52) 52 (zAD x (.slice a2 n2 c2));have hB:=zAJ (zAJ (Below.refl _ w) (.cells (zAD x (.slice a1 n1 c1)).toArray 52)) (.cells (zAD x (.slice a2 n2 c2)).toArray 52);have IZ:=λw h1 h2=>zKe tl (.slice a1 n1 c1) (.slice a2 n2 c2) w h1 h2 hl
 have g1:=h1.below hB;have g2:=h2.below hB;have e0:((w.alloc (.cells (zAD x (.slice a1 n1 c1)).toArray 52)).alloc (.cells (zAD x (.slice a2 n2 c2)).toArray 52)).cell? ⟨w.heap.size,0,none⟩=some (.int .i64 x.op):=pA.2.1 0 _ rfl;have d0:((w.alloc (.cells (zAD x (.slice a1 n1 c1)).toArray 52)).alloc (.cells (zAD x (.slice a2 n2 c2)).toArray 52)).cell? ⟨w.heap.size+1,0,none⟩=some (.int .i64 x.op):=pB.2.1 0 _ rfl;have e1:((w.alloc (.cells (zAD x (.slice a1 n1 c1)).toArray 52)).alloc (.cells (zAD x (.slice a2 n2 c2)).toArray 52)).cell? ⟨w.heap.size,1,none⟩=some (.int .i64 x.a):=pA.2.1 1 _ rfl;have d1:((w.alloc (.cells (zAD x (.slice a1 n1 c1)).toArray 52)).alloc (.cells (zAD x (.slice a2 n2 c2)).toArray 52)).cell? ⟨w.heap.size+1,1,none⟩=some (.int .i64 x.a):=pB.2.1 1 _ rfl;have e2:((w.alloc (.cells (zAD x (.slice a1 n1 c1)).toArray 52)).alloc (.cells (zAD x (.slice a2 n2 c2)).toArray 52)).cell? ⟨w.heap.size,2,none⟩=some (.int .i64 x.b):=pA.2.1 2 _ rfl;have d2:((w.alloc (.cells (zAD x (.slice a1 n1 c1)).toArray 52)).alloc (.cells (zAD x (.slice a2 n2 c2)).toArray 52)).cell? ⟨w.heap.size+1,2,none⟩=some (.int .i64 x.b):=pB.2.1 2 _ rfl;have e3:((w.alloc (.cells (zAD x (.slice a1 n1 c1)).toArray 52)).alloc (.cells (zAD x (.slice a2 n2 c2)).toArray 52)).cell? ⟨w.heap.size,3,none⟩=some (.int .i64 x.v.k):=pA.2.1 3 _ rfl;have d3:((w.alloc (.cells (zAD x (.slice a1 n1 c1)).toArray 52)).alloc (.cells (zAD x (.slice a2 n2 c2)).toArray 52)).cell? ⟨w.heap.size+1,3,none⟩=some (.int .i64 x.v.k):=pB.2.1 3 _ rfl
 have e4:((w.alloc (.cells (zAD x (.slice a1 n1 c1)).toArray 52)).alloc (.cells (zAD x (.slice a2 n2 c2)).toArray 52)).cell? ⟨w.heap.size,4,none⟩=some (.int .i64 x.v.n):=pA.2.1 4 _ rfl;have d4:((w.alloc (.cells (zAD x (.slice a1 n1 c1)).toArray 52)).alloc (.cells (zAD x (.slice a2 n2 c2)).toArray 52)).cell? ⟨w.heap.size+1,4,none⟩=some (.int .i64 x.v.n):=pB.2.1 4 _ rfl;have e5:((w.alloc (.cells (zAD x (.slice a1 n1 c1)).toArray 52)).alloc (.cells (zAD x (.slice a2 n2 c2)).toArray 52)).cell? ⟨w.heap.size,5,none⟩=some (.int .i64 x.v.d):=pA.2.1 5 _ rfl;have d5:((w.alloc (.cells (zAD x (.slice a1 n1 c1)).toArray 52)).alloc (.cells (zAD x (.slice a2 n2 c2)).toArray 52)).cell? ⟨w.heap.size+1,5,none⟩=some (.int .i64 x.v.d):=pB.2.1 5 _ rfl;have e6:((w.alloc (.cells (zAD x (.slice a1 n1 c1)).toArray 52)).alloc (.cells (zAD x (.slice a2 n2 c2)).toArray 52)).cell? ⟨w.heap.size,6,none⟩=some (.string x.v.t):=pA.2.1 6 _ rfl;have d6:((w.alloc (.cells (zAD x (.slice a1 n1 c1)).toArray 52)).alloc (.cells (zAD x (.slice a2 n2 c2)).toArray 52)).cell? ⟨w.heap.size+1,6,none⟩=some (.string x.v.t):=pB.2.1 6 _ rfl;have e7:((w.alloc (.cells (zAD x (.slice a1 n1 c1)).toArray 52)).alloc (.cells (zAD x (.slice a2 n2 c2)).toArray 52)).cell? ⟨w.heap.size,7,none⟩=some (.bool x.v.b):=pA.2.1 7 _ rfl;have d7:((w.alloc (.cells (zAD x (.slice a1 n1 c1)).toArray 52)).alloc (.cells (zAD x (.slice a2 n2 c2)).toArray 52)).cell? ⟨w.heap.size+1,7,none⟩=some (.bool x.v.b):=pB.2.1 7 _ rfl
 have e8:((w.alloc (.cells (zAD x (.slice a1 n1 c1)).toArray 52)).alloc (.cells (zAD x (.slice a2 n2 c2)).toArray 52)).cell? ⟨w.heap.size,8,none⟩=some (.int .i64 x.v.f):=pA.2.1 8 _ rfl;have d8:((w.alloc (.cells (zAD x (.slice a1 n1 c1)).toArray 52)).alloc (.cells (zAD x (.slice a2 n2 c2)).toArray 52)).cell? ⟨w.heap.size+1,8,none⟩=some (.int .i64 x.v.f):=pB.2.1 8 _ rfl;have e9:((w.alloc (.cells (zAD x (.slice a1 n1 c1)).toArray 52)).alloc (.cells (zAD x (.slice a2 n2 c2)).toArray 52)).cell? ⟨w.heap.size,9,none⟩=some (.int .i64 x.ce.s):=pA.2.1 9 _ rfl;have d9:((w.alloc (.cells (zAD x (.slice a1 n1 c1)).toArray 52)).alloc (.cells (zAD x (.slice a2 n2 c2)).toArray 52)).cell? ⟨w.heap.size+1,9,none⟩=some (.int .i64 x.ce.s):=pB.2.1 9 _ rfl;have e10:((w.alloc (.cells (zAD x (.slice a1 n1 c1)).toArray 52)).alloc (.cells (zAD x (.slice a2 n2 c2)).toArray 52)).cell? ⟨w.heap.size,10,none⟩=some (.int .i64 x.ce.r):=pA.2.1 10 _ rfl;have d10:((w.alloc (.cells (zAD x (.slice a1 n1 c1)).toArray 52)).alloc (.cells (zAD x (.slice a2 n2 c2)).toArray 52)).cell? ⟨w.heap.size+1,10,none⟩=some (.int .i64 x.ce.r):=pB.2.1 10 _ rfl;have e11:((w.alloc (.cells (zAD x (.slice a1 n1 c1)).toArray 52)).alloc (.cells (zAD x (.slice a2 n2 c2)).toArray 52)).cell? ⟨w.heap.size,11,none⟩=some (.int .i64 x.ce.c):=pA.2.1 11 _ rfl;have d11:((w.alloc (.cells (zAD x (.slice a1 n1 c1)).toArray 52)).alloc (.cells (zAD x (.slice a2 n2 c2)).toArray 52)).cell? ⟨w.heap.size+1,11,none⟩=some (.int .i64 x.ce.c):=pB.2.1 11 _ rfl
 have e12:((w.alloc (.cells (zAD x (.slice a1 n1 c1)).toArray 52)).alloc (.cells (zAD x (.slice a2 n2 c2)).toArray 52)).cell? ⟨w.heap.size,12,none⟩=some (.int .i64 x.ar.s):=pA.2.1 12 _ rfl;have d12:((w.alloc (.cells (zAD x (.slice a1 n1 c1)).toArray 52)).alloc (.cells (zAD x (.slice a2 n2 c2)).toArray 52)).cell? ⟨w.heap.size+1,12,none⟩=some (.int .i64 x.ar.s):=pB.2.1 12 _ rfl;have e13:((w.alloc (.cells (zAD x (.slice a1 n1 c1)).toArray 52)).alloc (.cells (zAD x (.slice a2 n2 c2)).toArray 52)).cell? ⟨w.heap.size,13,none⟩=some (.int .i64 x.ar.t):=pA.2.1 13 _ rfl;have d13:((w.alloc (.cells (zAD x (.slice a1 n1 c1)).toArray 52)).alloc (.cells (zAD x (.slice a2 n2 c2)).toArray 52)).cell? ⟨w.heap.size+1,13,none⟩=some (.int .i64 x.ar.t):=pB.2.1 13 _ rfl;have e14:((w.alloc (.cells (zAD x (.slice a1 n1 c1)).toArray 52)).alloc (.cells (zAD x (.slice a2 n2 c2)).toArray 52)).cell? ⟨w.heap.size,14,none⟩=some (.int .i64 x.ar.l):=pA.2.1 14 _ rfl;have d14:((w.alloc (.cells (zAD x (.slice a1 n1 c1)).toArray 52)).alloc (.cells (zAD x (.slice a2 n2 c2)).toArray 52)).cell? ⟨w.heap.size+1,14,none⟩=some (.int .i64 x.ar.l):=pB.2.1 14 _ rfl;have e15:((w.alloc (.cells (zAD x (.slice a1 n1 c1)).toArray 52)).alloc (.cells (zAD x (.slice a2 n2 c2)).toArray 52)).cell? ⟨w.heap.size,15,none⟩=some (.int .i64 x.ar.b):=pA.2.1 15 _ rfl;have d15:((w.alloc (.cells (zAD x (.slice a1 n1 c1)).toArray 52)).alloc (.cells (zAD x (.slice a2 n2 c2)).toArray 52)).cell? ⟨w.heap.size+1,15,none⟩=some (.int .i64 x.ar.b):=pB.2.1 15 _ rfl
 have e16:((w.alloc (.cells (zAD x (.slice a1 n1 c1)).toArray 52)).alloc (.cells (zAD x (.slice a2 n2 c2)).toArray 52)).cell? ⟨w.heap.size,16,none⟩=some (.int .i64 x.ar.r):=pA.2.1 16 _ rfl;have d16:((w.alloc (.cells (zAD x (.slice a1 n1 c1)).toArray 52)).alloc (.cells (zAD x (.slice a2 n2 c2)).toArray 52)).cell? ⟨w.heap.size+1,16,none⟩=some (.int .i64 x.ar.r):=pB.2.1 16 _ rfl;have e17:((w.alloc (.cells (zAD x (.slice a1 n1 c1)).toArray 52)).alloc (.cells (zAD x (.slice a2 n2 c2)).toArray 52)).cell? ⟨w.heap.size,17,none⟩=some (.int .i64 x.pr.s):=pA.2.1 17 _ rfl;have d17:((w.alloc (.cells (zAD x (.slice a1 n1 c1)).toArray 52)).alloc (.cells (zAD x (.slice a2 n2 c2)).toArray 52)).cell? ⟨w.heap.size+1,17,none⟩=some (.int .i64 x.pr.s):=pB.2.1 17 _ rfl;have e18:((w.alloc (.cells (zAD x (.slice a1 n1 c1)).toArray 52)).alloc (.cells (zAD x (.slice a2 n2 c2)).toArray 52)).cell? ⟨w.heap.size,18,none⟩=some (.int .i64 x.pr.t):=pA.2.1 18 _ rfl;have d18:((w.alloc (.cells (zAD x (.slice a1 n1 c1)).toArray 52)).alloc (.cells (zAD x (.slice a2 n2 c2)).toArray 52)).cell? ⟨w.heap.size+1,18,none⟩=some (.int .i64 x.pr.t):=pB.2.1 18 _ rfl;have e19:((w.alloc (.cells (zAD x (.slice a1 n1 c1)).toArray 52)).alloc (.cells (zAD x (.slice a2 n2 c2)).toArray 52)).cell? ⟨w.heap.size,19,none⟩=some (.int .i64 x.pr.l):=pA.2.1 19 _ rfl;have d19:((w.alloc (.cells (zAD x (.slice a1 n1 c1)).toArray 52)).alloc (.cells (zAD x (.slice a2 n2 c2)).toArray 52)).cell? ⟨w.heap.size+1,19,none⟩=some (.int .i64 x.pr.l):=pB.2.1 19 _ rfl
 have e20:((w.alloc (.cells (zAD x (.slice a1 n1 c1)).toArray 52)).alloc (.cells (zAD x (.slice a2 n2 c2)).toArray 52)).cell? ⟨w.heap.size,20,none⟩=some (.int .i64 x.pr.b):=pA.2.1 20 _ rfl;have d20:((w.alloc (.cells (zAD x (.slice a1 n1 c1)).toArray 52)).alloc (.cells (zAD x (.slice a2 n2 c2)).toArray 52)).cell? ⟨w.heap.size+1,20,none⟩=some (.int .i64 x.pr.b):=pB.2.1 20 _ rfl;have e21:((w.alloc (.cells (zAD x (.slice a1 n1 c1)).toArray 52)).alloc (.cells (zAD x (.slice a2 n2 c2)).toArray 52)).cell? ⟨w.heap.size,21,none⟩=some (.int .i64 x.pr.r):=pA.2.1 21 _ rfl;have d21:((w.alloc (.cells (zAD x (.slice a1 n1 c1)).toArray 52)).alloc (.cells (zAD x (.slice a2 n2 c2)).toArray 52)).cell? ⟨w.heap.size+1,21,none⟩=some (.int .i64 x.pr.r):=pB.2.1 21 _ rfl;have e22:((w.alloc (.cells (zAD x (.slice a1 n1 c1)).toArray 52)).alloc (.cells (zAD x (.slice a2 n2 c2)).toArray 52)).cell? ⟨w.heap.size,22,none⟩=some (.slice a1 n1 c1):=pA.2.1 22 _ rfl;have d22:((w.alloc (.cells (zAD x (.slice a1 n1 c1)).toArray 52)).alloc (.cells (zAD x (.slice a2 n2 c2)).toArray 52)).cell? ⟨w.heap.size+1,22,none⟩=some (.slice a2 n2 c2):=pB.2.1 22 _ rfl;have Z:=IZ _ g1 g2;clear pA pB h1 h2 hl IZ g1 g2;go_enter func43,ntmps43;go_upto_region 1 with fail
 generalize ((w.alloc (.cells (zAD x (.slice a1 n1 c1)).toArray 52)).alloc (.cells (zAD x (.slice a2 n2 c2)).toArray 52))=W at *;go_wp2_with fail
 refine Z.mono ?_;rintro e w1 ⟨rfl,hb1⟩;have hB1:=zAB hB hb1;go_wp2;go_ret;exact ⟨by simp,hB1⟩
theorem zAK (hb:Below w.heap.size w w') {b o:Nat} {l:List Value} (h:w.rangeAt b o l):w'.rangeAt b o l:=λj v hv=>zAC hb (h j v hv)
def RdC (w:World) (v:Value) (L:List (Wc.In × List Int)):Prop:=∃ av cap,v=.slice av L.length cap/\∀ i (h:i<L.length),∃ bb off p m k,av=some ⟨bb,off,none⟩/\w.rangeAt bb (off+i * 23) (zAD (L[i]).1 (.slice p m k))/\RdZ w (.slice p m k) (L[i]).2/\(p=none->k=0)
theorem RdC.below {v:Value} {L:List (Wc.In × List Int)} (h:RdC w v L) (hb:Below w.heap.size w w'):RdC w' v L:=by
 obtain ⟨av,cap,e,h⟩:=h;refine ⟨av,cap,e,λi hi=>?_⟩;obtain ⟨bb,off,p,m,k,e1,h1,h2,h3⟩:=h i hi;exact ⟨bb,off,p,m,k,e1,zAK hb h1,h2.below hb,h3⟩
theorem zLP (L:List (Wc.In × List Int)) (v1 v2:Value) (w:World) (h1:RdC w v1 L) (h2:RdC w v2 L) (hl:L.length<=1000000) (ht:∀ x ∈ L,x.2.length<=1000000) :
  CR 20 #[v1,v2] w (.bool true):=by
 obtain ⟨a1,c1,rfl,r1⟩:=h1;obtain ⟨a2,c2,rfl,r2⟩:=h2;have H1:Hid (RdC w (.slice a1 L.length c1) L):=⟨a1,c1,rfl,r1⟩
 have H2:Hid (RdC w (.slice a2 L.length c2) L):=⟨a2,c2,rfl,r2⟩
 have HT:Hid (∀ x ∈ L,x.2.length<=1000000):=ht;obtain ⟨n,hn⟩:∃ n,L.length=n:=⟨_,rfl⟩
 rw [hn] at hl ⊢;clear r1 r2 ht;go_enter func20,ntmps20;go_wp2_with fail
 go_loopg [5] n (λgk x wr=>∃ i:Nat,x=.int .i64 i/\gk=n - i/\i<=n/\Below w.heap.size w wr)
 case atStart=>exact ⟨0,rfl,rfl,Nat.zero_le _,Below.refl _ _⟩
 case round =>
  obtain ⟨i,rfl,hg,hi,hb⟩:=hrel;by_cases hlt:i<n
  ·have hli:(i:Int)<(n:Int):=by omega
   have hwi:IntKind.i64.wrap ((i:Int)+1)=(i:Int)+1:=by rw [IntKind.wrap_i64];omega
   obtain ⟨q1,d1,e1,f1⟩:=H1.out.below hb;obtain ⟨q2,d2,e2,f2⟩:=H2.out.below hb;simp only [Value.slice.injEq,true_and] at e1 e2;obtain ⟨rfl,rfl⟩:=e1;obtain ⟨rfl,rfl⟩:=e2;obtain ⟨b1,o1,p1,m1,k1,rfl,t1,y1,_⟩:=f1 i (by omega);obtain ⟨b2,o2,p2,m2,k2,rfl,t2,y2,_⟩:=f2 i (by omega);have htl:=HT.out (L[i]) (List.getElem_mem _);generalize (L[i]).1=y at *;generalize (L[i]).2=tl at *;clear f1 f2;go_upto_region 6 with fail
   have rb:=(Below.refl wr.heap.size wr).drew;have s1:=zAK rb t1;have s2:=zAK rb t2;have z1:=y1.below rb;have z2:=y2.below rb;have hbd:=zAB hb rb;clear t1 t2 y1 y2;refine wp_region_held_drew (S:=λW=>W.rangeAt b1 (o1+i * 23) (zAD y (.slice p1 m1 k1))/\W.rangeAt b2 (o2+i * 23) (zAD y (.slice p2 m2 k2))) (by kernel_rfl) ⟨s1,s2⟩ (λhHeld=>?_);generalize wr.drew=WD at *;refine tkQ 0 ⟨some 17,.move (.tmp 0),22,"law.go:40",#[],none⟩ ?_
   refine tkQ 1 ⟨some 18,.move (.tmp 5),3,"law.go:40",#[],none⟩ ?_
   refine tkQ 2 ⟨some 19,.indexAddr 22 (.tmp 17) (.tmp 18),0,"law.go:40",#[⟨0,.data⟩,⟨1,.data⟩],none⟩ ?_
   refine wpAnyH_take (i:=3) (oi:=⟨some 20,.load 52 (.tmp 19),52,"law.go:40",#[⟨2,.data⟩],none⟩) (v:=.agg (zAD y (.slice p1 m1 k1)).toArray) rfl (by kernel_rfl) (by kernel_rfl) (by kernel_rfl) (λ_ _ _ h=>h) (yieldsIf_load_mid (by rfl) 52 (.tmp 19) rfl (b1) (o1+i * 23) rfl (zAD y (.slice p1 m1 k1)) _ (λ_ h=>h.1) underlying52 rfl (by kernel_rfl)) (by assumption) ?_;try simp only [Act.put,lA,lZ,lS]
   refine tkQ 4 ⟨some 21,.move (.tmp 1),22,"law.go:40",#[],none⟩ ?_
   refine tkQ 5 ⟨some 22,.move (.tmp 5),3,"law.go:40",#[],none⟩ ?_
   refine tkQ 6 ⟨some 23,.indexAddr 22 (.tmp 21) (.tmp 22),0,"law.go:40",#[⟨4,.data⟩,⟨5,.data⟩],none⟩ ?_
   refine wpAnyH_take (i:=7) (oi:=⟨some 24,.load 52 (.tmp 23),52,"law.go:40",#[⟨6,.data⟩],none⟩) (v:=.agg (zAD y (.slice p2 m2 k2)).toArray) rfl (by kernel_rfl) (by kernel_rfl) (by kernel_rfl) (λ_ _ _ h=>h) (yieldsIf_load_mid (by rfl) 52 (.tmp 23) rfl (b2) (o2+i * 23) rfl (zAD y (.slice p2 m2 k2)) _ (λ_ h=>h.2) underlying52 rfl (by kernel_rfl)) (by assumption) ?_;try simp only [Act.put,lA,lZ,lS]
   refine rdQ 8 ⟨some 25,.call {callee:=Callee.value (Operand.func 43),args:=#[.tmp 20,.tmp 24],argTypes:=#[52,52]},4,"law.go:40",#[⟨3,.data⟩,⟨7,.data⟩],none⟩ (λK hK=>?_);go_simp
   refine (zLc y tl p1 p2 m1 m2 k1 k2 WD z1 z2 (by omega)).mono ?_;rintro e w1 ⟨rfl,hb1⟩;have hB1:=zAB hbd hb1;go_wp2_with fail
   refine hkQ hK ⟨zAK hb1 s1,zAK hb1 s2⟩ (λhHeld=>?_);clear hK K
   refine tkQ 9 ⟨some 26,.unOp UnOp.not 4 (.tmp 25),4,"law.go:40",#[⟨8,.data⟩],none⟩ ?_
   refine wpAnyH_done (by kernel_rfl) ?_ _;have HB1:Hid (Below w.heap.size w w1):=hB1;clear hHeld s1 s2 z1 z2 hb1 hbd hB1 hb;go_wp2_with fail
   go_roundg (n - (i+1))
   case rel=>exact ⟨i+1,by simp,rfl,hlt,HB1.out⟩
   case measure=>omega
  ·have hli:¬ (i:Int)<(n:Int):=by omega
   go_wp2;go_ret;exact ⟨rfl,hb⟩
abbrev zeros23:Array Value:=#[.int .i64 0,.int .i64 0,.int .i64 0,.int .i64 0,.int .i64 0,.int .i64 0,.string ⟨#[]⟩,.bool false,.int .i64 0,.int .i64 0,.int .i64 0,.int .i64 0,.int .i64 0,.int .i64 0,.int .i64 0,.int .i64 0,.int .i64 0,.int .i64 0,.int .i64 0,.int .i64 0,.int .i64 0,.int .i64 0,.slice none 0 0]
abbrev pl1 (wr:World) (i:Nat):World:=(wr.alloc (.cells #[.int .i64 i] 3)).alloc (.cells zeros23 52)
theorem zDZ {o a b at':Int} {tl:List Int} (h:tl.length<=1000000):(onw o a b tl at').1.length<=1000000/\(onw o a b tl at').2.length<=1000000:=by
 unfold onw;repeat' split
 all_goals simp
 exact h
theorem zGH (n i:Nat) (x:Wc.In × List Int) (r:List (Wc.In × List Int)):Wc.plcs rgt n i (x::r)=(Wc.plc rgt n i x && Wc.plcs rgt n (i+1) r):=rfl
theorem zBZ (n i:Nat) (y:Wc.In) (tl:List Int):Wc.plc rgt n i (y,tl)=(rgt y tl && (((y.op == 16) == (i+1 == n)) && (!(onw y.op y.a y.b tl i).1.any (zBa i n) && !(onw y.op y.a y.b tl i).2.any (zBa i n)))):=rfl
theorem zE3 (L:List (Wc.In × List Int)) (v:Value) (w:World) (h:RdC w v L) (hl:L.length<=1000000) (ht:∀ x ∈ L,x.2.length<=1000000/\Wt.FitV x.1.v) (hN:NmAt w) :
  CR 17 #[v] w (.bool (Wc.plcs rgt L.length 0 L && decide (0<L.length))):=by
 obtain ⟨a1,c1,rfl,r1⟩:=h;have HR:Hid (RdC w (.slice a1 L.length c1) L):=⟨a1,c1,rfl,r1⟩
 have HT:Hid (∀ x ∈ L,x.2.length<=1000000/\Wt.FitV x.1.v):=ht;have HN:Hid (NmAt w):=hN;obtain ⟨n,hn⟩:∃ n,L.length=n:=⟨_,rfl⟩
 have HL:Hid (L.length=n):=hn;rw [hn] at hl ⊢;obtain ⟨q,hq⟩:∃ q,Wc.plcs rgt n 0 L=q:=⟨_,rfl⟩
 have HQ:Hid (Wc.plcs rgt n 0 (L.drop 0)=q):=hq;rw [hq];have pB:=AtL.new0 w 22 [.slice a1 n c1];have hb0:=zAJ (Below.refl _ w) (.cells #[.slice a1 n c1] 22);have hc0:(w.alloc (.cells #[.slice a1 n c1] 22)).cell? ⟨w.heap.size,0,none⟩=some (.slice a1 n c1):=pB.2.1 0 _ rfl;clear r1 ht hN hn hq pB;go_enter func17,ntmps17;go_upto_region 1 with fail
 generalize (w.alloc (.cells #[.slice a1 n c1] 22))=w0 at *;go_wp2_with fail
 go_loopg [10] n (λgk x wr=>∃ i:Nat,x=.int .i64 i/\gk=n - i/\i<=n/\Hid (Wc.plcs rgt n i (L.drop i)=q)/\wr.cell? ⟨w.heap.size,0,none⟩=some (.slice a1 n c1)/\Below w.heap.size w wr)
 case atStart=>exact ⟨0,rfl,rfl,Nat.zero_le _,HQ,hc0,hb0⟩
 case round =>
  clear hc0 hb0 HQ;obtain ⟨i,rfl,hg,hi,HP,hc,hb⟩:=hrel;by_cases hlt:i<n
  ·have hli:(i:Int)<(n:Int):=by omega
   have hwi:IntKind.i64.wrap ((i:Int)+1)=(i:Int)+1:=by rw [IntKind.wrap_i64];omega
   have hwn:IntKind.i64.wrap ((n:Int) - 1)=(n:Int) - 1:=by rw [IntKind.wrap_i64];omega
   have hil:i<L.length:=by rw [HL.out];exact hlt
   have H0:=HR.out.below hb;rw [HL.out] at H0;obtain ⟨q1,d1,e1,f1⟩:=H0;simp only [Value.slice.injEq] at e1;obtain ⟨ex1,ex2,ex3⟩:=e1;subst ex1;subst ex3;clear ex2;obtain ⟨bb,off,p,m,k,rfl,t1,y1,_⟩:=f1 i hil;obtain ⟨y,tl,hyt⟩:∃ y tl,L[i]=(y,tl):=⟨_,_,rfl⟩
   obtain ⟨htl,hfv⟩:=HT.out L[i] (List.getElem_mem _);have HP2:Hid ((Wc.plc rgt n i (y,tl) && Wc.plcs rgt n (i+1) (L.drop (i+1)))=q):=by
    show _=q
    rw [<-HP.out,List.drop_eq_getElem_cons hil,hyt,zGH]
   rw [hyt] at t1 y1 htl hfv;have pI0:AtL (pl1 wr i) (wr.heap.size+1) zeros23.toList:=AtL.new1 wr _ _ _;have hth:World.there (pl1 wr i) (wr.heap.size+1) 0 (zAD y (.slice p m k)).toArray.size:=pI0.there;have HB:Hid (Below w.heap.size w wr):=hb;have HC:Hid (wr.cell? ⟨w.heap.size,0,none⟩=some (.slice (some ⟨bb,off,none⟩) n c1)):=hc;have HY:Hid (RdZ wr (.slice p m k) tl):=y1;have HF:Hid (Wt.FitV y.v):=hfv;clear pI0 f1 hyt HP hil hc hb y1 hfv;go_upto_region 4 with (first | (refine zAA (by rfl) 52 (.tmp 13) rfl bb (off+i * 23) rfl (zAD y (.slice p m k)) _ t1 underlying52 rfl (by kernel_rfl) ?_) | ((with_reducible refine wpList_store_mid ?_ 52 (.tmp 4) (.tmp 14) ?_ (wr.heap.size+1) 0 (zAD y (.slice p m k)).toArray ?_ ?_ ?_ ?_ ?_ ?_);rfl;rfl;rfl;rfl;exact hth;kernel_rfl;exact zAT _ _ _ _))
   have hb:=HB.out;have hc:=HC.out;have y1:=HY.out;have hfv:=HF.out;have pI0:AtL (pl1 wr i) (wr.heap.size+1) zeros23.toList:=AtL.new1 wr _ _ _;have pC:AtL ((pl1 wr i).setCells (wr.heap.size+1) 0 (zAD y (.slice p m k))) wr.heap.size [.int .i64 i]:=((AtL.new0 wr _ [.int .i64 i]).alloc _).farAll (by omega) 0 _;have pI:AtL ((pl1 wr i).setCells (wr.heap.size+1) 0 (zAD y (.slice p m k))) (wr.heap.size+1) (zAD y (.slice p m k)):=pI0.setAll rfl;have hBw:Below wr.heap.size wr ((pl1 wr i).setCells (wr.heap.size+1) 0 (zAD y (.slice p m k))):=zA8 (zAJ (zAJ (Below.refl _ wr) _) _) (Nat.le_succ _) _ 0;have HNW:Hid (NmAt ((pl1 wr i).setCells (wr.heap.size+1) 0 (zAD y (.slice p m k)))):=(HN.out.below hb).below hBw;have zW:=y1.below hBw;have cW:=zAC hBw hc;have hB0:=zAB hb hBw;clear pI0 hc hb hBw y1 HB HC HY HF;generalize (pl1 wr i).setCells (wr.heap.size+1) 0 (zAD y (.slice p m k))=W at *;have rI:=pI.range;clear hth t1;go_wp2_with (first | (refine zAA (by rfl) 52 (.tmp 4) rfl (wr.heap.size+1) 0 rfl (zAD y (.slice p m k)) _ rI underlying52 rfl (by kernel_rfl) ?_))
   refine (zEN y p m k tl W zW htl hfv HNW.out).mono ?_;rintro e w1 ⟨rfl,hb1⟩;replace pI:=AtL.below hb1 pI
   replace pC:=AtL.below hb1 pC
   replace zW:=zW.below hb1
   replace cW:=zAC hb1 cW
   replace hB0:=zAB hB0 hb1
   clear rI hb1 hfv HNW;have rI:=pI.range;have i0:=pI.2.1 0 _ rfl;have cA:=pC.2.1 0 _ rfl;obtain ⟨r,hr⟩:∃ r,rgt y tl=r:=⟨_,rfl⟩
   have HRG:Hid (rgt y tl=r):=hr;rw [hr];clear hr pI pC;cases r with
   | false =>
    go_wp2;go_ret;exact ⟨by rw [<-HP2.out,zBZ,HRG.out];rfl,hB0⟩
   | true =>
    by_cases h16:y.op=16
    ·by_cases hla:(n:Int) - 1=(i:Int)
     ·have HE:Hid (((y.op == 16) == (i+1 == n))=true):=by show _=_;rw [show (y.op == 16)=true from by simp [h16],show (i+1 == n)=true from by simp;omega];rfl
      have OW:=zBR y p m k tl i;have hle:=zDZ (o:=y.op) (a:=y.a) (b:=y.b) (at':=i) htl;have HO:Hid (∃ u,onw y.op y.a y.b tl i=u):=⟨_,rfl⟩
      obtain ⟨u,hu⟩:=HO.out;have HU:Hid (onw y.op y.a y.b tl i=u):=hu;rw [hu] at hle;have OW1:=OW w1 (by omega) zW;rw [hu] at OW1;obtain ⟨u1,u2⟩:=u;simp only at hle;have HLE:Hid (u1.length<=1000000/\u2.length<=1000000):=hle;clear OW HO hu zW htl hle;go_wp2_with (first | (refine zAA (by rfl) 52 (.tmp 4) rfl (wr.heap.size+1) 0 rfl (zAD y (.slice p m k)) _ rI underlying52 rfl (by kernel_rfl) ?_))
      refine OW1.mono ?_;rintro e w2 ⟨⟨c,c2,rfl,z1,z2,_,_⟩,hb2⟩;have Z2:Hid (RdZ w2 c2 u2):=z2;replace cA:=zAC hb2 cA
      replace cW:=zAC hb2 cW
      replace hB0:=zAB hB0 hb2
      clear rI i0 hb2 OW1;clear z2;have CA:=zAm u1 c i wr.heap.size w.heap.size _ n _ w2 z1 HLE.out.1 cA cW;clear z1;go_wp2_with fail
      refine CA.mono ?_;rintro e w3 ⟨rfl,hb3⟩;replace cA:=zAC hb3 cA
      replace cW:=zAC hb3 cW
      have z2:=Z2.out.below hb3;clear Z2;replace hB0:=zAB hB0 hb3
      clear CA hb3;obtain ⟨s1,hs1⟩:∃ s,u1.any (zBa i n)=s:=⟨_,rfl⟩
      have HS1:Hid (u1.any (zBa i n)=s1):=hs1;rw [hs1];clear hs1;cases s1 with
      | true =>
       go_wp2;go_ret;exact ⟨by rw [<-HP2.out,zBZ,HRG.out,HE.out,HU.out,HS1.out];rfl,hB0⟩
      | false =>
       have CB:=zAm u2 c2 i wr.heap.size w.heap.size _ n _ w3 z2 HLE.out.2 cA cW;clear z2;go_wp2_with fail
       refine CB.mono ?_;rintro e w4 ⟨rfl,hb4⟩;replace cW:=zAC hb4 cW
       replace hB0:=zAB hB0 hb4
       clear CB hb4;obtain ⟨s2,hs2⟩:∃ s,u2.any (zBa i n)=s:=⟨_,rfl⟩
       have HS2:Hid (u2.any (zBa i n)=s2):=hs2;rw [hs2];clear hs2;cases s2 with
       | true =>
        go_wp2;go_ret;exact ⟨by rw [<-HP2.out,zBZ,HRG.out,HE.out,HU.out,HS1.out,HS2.out];rfl,hB0⟩
       | false =>
        have HP3:Hid (Wc.plcs rgt n (i+1) (L.drop (i+1))=q):=by
         show _=q
         rw [<-HP2.out,zBZ,HRG.out,HE.out,HU.out];simp only [HS1.out,HS2.out];rfl
        go_wp2_with fail
        go_roundg (n - (i+1))
        case rel=>exact ⟨i+1,by simp,rfl,hlt,HP3,cW,hB0⟩
        case measure=>omega
     ·have HE:Hid (((y.op == 16) == (i+1 == n))=false):=by show _=_;rw [show (y.op == 16)=true from by simp [h16],show (i+1 == n)=false from by simp;omega];rfl
      have hla2:¬ (i:Int)=(n:Int) - 1:=by omega
      have hla3:((i:Int) == (n:Int) - 1)=false:=by simp;omega
      have hla4:((n:Int) - 1 == (i:Int))=false:=by simp;omega
      go_wp2;go_ret;exact ⟨by rw [<-HP2.out,zBZ,HRG.out,HE.out];rfl,hB0⟩
    ·have h16b:(y.op == 16)=false:=by simp [h16]
     by_cases hla:(n:Int) - 1=(i:Int)
     ·have HE:Hid (((y.op == 16) == (i+1 == n))=false):=by show _=_;rw [show (y.op == 16)=false from by simp [h16],show (i+1 == n)=true from by simp;omega];rfl
      go_wp2;go_ret;exact ⟨by rw [<-HP2.out,zBZ,HRG.out,HE.out];rfl,hB0⟩
     ·have HE:Hid (((y.op == 16) == (i+1 == n))=true):=by show _=_;rw [show (y.op == 16)=false from by simp [h16],show (i+1 == n)=false from by simp;omega];rfl
      have hla2:¬ (i:Int)=(n:Int) - 1:=by omega
      have hla3:((i:Int) == (n:Int) - 1)=false:=by simp;omega
      have hla4:((n:Int) - 1 == (i:Int))=false:=by simp;omega
      have OW:=zBR y p m k tl i;have hle:=zDZ (o:=y.op) (a:=y.a) (b:=y.b) (at':=i) htl;have HO:Hid (∃ u,onw y.op y.a y.b tl i=u):=⟨_,rfl⟩
      obtain ⟨u,hu⟩:=HO.out;have HU:Hid (onw y.op y.a y.b tl i=u):=hu;rw [hu] at hle;have OW1:=OW w1 (by omega) zW;rw [hu] at OW1;obtain ⟨u1,u2⟩:=u;simp only at hle;have HLE:Hid (u1.length<=1000000/\u2.length<=1000000):=hle;clear OW HO hu zW htl hle;go_wp2_with (first | (refine zAA (by rfl) 52 (.tmp 4) rfl (wr.heap.size+1) 0 rfl (zAD y (.slice p m k)) _ rI underlying52 rfl (by kernel_rfl) ?_))
      refine OW1.mono ?_;rintro e w2 ⟨⟨c,c2,rfl,z1,z2,_,_⟩,hb2⟩;have Z2:Hid (RdZ w2 c2 u2):=z2;replace cA:=zAC hb2 cA
      replace cW:=zAC hb2 cW
      replace hB0:=zAB hB0 hb2
      clear rI i0 hb2 OW1;clear z2;have CA:=zAm u1 c i wr.heap.size w.heap.size _ n _ w2 z1 HLE.out.1 cA cW;clear z1;go_wp2_with fail
      refine CA.mono ?_;rintro e w3 ⟨rfl,hb3⟩;replace cA:=zAC hb3 cA
      replace cW:=zAC hb3 cW
      have z2:=Z2.out.below hb3;clear Z2;replace hB0:=zAB hB0 hb3
      clear CA hb3;obtain ⟨s1,hs1⟩:∃ s,u1.any (zBa i n)=s:=⟨_,rfl⟩
      have HS1:Hid (u1.any (zBa i n)=s1):=hs1;rw [hs1];clear hs1;cases s1 with
      | true =>
       go_wp2;go_ret;exact ⟨by rw [<-HP2.out,zBZ,HRG.out,HE.out,HU.out,HS1.out];rfl,hB0⟩
      | false =>
       have CB:=zAm u2 c2 i wr.heap.size w.heap.size _ n _ w3 z2 HLE.out.2 cA cW;clear z2;go_wp2_with fail
       refine CB.mono ?_;rintro e w4 ⟨rfl,hb4⟩;replace cW:=zAC hb4 cW
       replace hB0:=zAB hB0 hb4
       clear CB hb4;obtain ⟨s2,hs2⟩:∃ s,u2.any (zBa i n)=s:=⟨_,rfl⟩
       have HS2:Hid (u2.any (zBa i n)=s2):=hs2;rw [hs2];clear hs2;cases s2 with
       | true =>
        go_wp2;go_ret;exact ⟨by rw [<-HP2.out,zBZ,HRG.out,HE.out,HU.out,HS1.out,HS2.out];rfl,hB0⟩
       | false =>
        have HP3:Hid (Wc.plcs rgt n (i+1) (L.drop (i+1))=q):=by
         show _=q
         rw [<-HP2.out,zBZ,HRG.out,HE.out,HU.out];simp only [HS1.out,HS2.out];rfl
        go_wp2_with fail
        go_roundg (n - (i+1))
        case rel=>exact ⟨i+1,by simp,rfl,hlt,HP3,cW,hB0⟩
        case measure=>omega
  ·have hli:¬ (i:Int)<(n:Int):=by omega
   have hqt:Hid (q=true):=by
    show q=true
    rw [<-HP.out,List.drop_eq_nil_of_le (by rw [HL.out];omega)];rfl
   have hen:i=n:=by omega
   by_cases h0:0<n
   ·have h0z:(0:Int)<(n:Int):=by omega
    go_wp2;go_ret;exact ⟨by first | rfl | (rw [hqt.out];rfl) | (rw [hqt.out,decide_eq_true h0];rfl),hb⟩
   ·have h0z:¬ (0:Int)<(n:Int):=by omega
    go_wp2;go_ret;exact ⟨by first | rfl | (rw [hqt.out];rfl) | (rw [hqt.out,decide_eq_false h0];rfl) | simp,hb⟩
