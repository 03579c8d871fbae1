/- KWalkP, KWalkQ, KWalkR. -/
import Derived.Test.YtcddpgfdadpbgaaGreatDoorQ10
set_option maxHeartbeats 4000000
set_option maxRecDepth 100000
namespace Go.Proofs.YtcddpgfdadpbgaaGreatDoor
open Tryz
open Go.RowKit
set_option linter.unusedVariables false
variable {ka kb:Nat} {x:Wc.In} {tv:Value} {W:World}
theorem zCo {l m:List Int} {i:Nat} (h:l.take i=m.take i) (hl:i<l.length) (hm:i<m.length) (e:l[i]=m[i]):l.take (i+1)=m.take (i+1):=by
 rw [List.take_succ_eq_append_getElem hl,List.take_succ_eq_append_getElem hm,h,e]
theorem zFi (l m:List Int) (v1 v2:Value) (w:World) (h1:RdZ w v1 l) (h2:RdZ w v2 m) (hl:l.length<=1000000) (hm:m.length<=1000000) :
  CR 94 #[v1,v2] w (.bool (decide (l=m))):=by
 obtain ⟨a1,c1,rfl,r1⟩:=h1;obtain ⟨a2,c2,rfl,r2⟩:=h2;by_cases hlen:l.length=m.length
 ·have H1:Hid (∀ i (h:i<l.length),∃ bb off,a1=some ⟨bb,off,none⟩/\w.cell? ⟨bb,off+i,none⟩=some (.int .i64 (l[i]))):=r1;have H2:Hid (∀ i (h:i<m.length),∃ bb off,a2=some ⟨bb,off,none⟩/\w.cell? ⟨bb,off+i,none⟩=some (.int .i64 (m[i]))):=r2;obtain ⟨n,hn⟩:∃ n,l.length=n:=⟨_,rfl⟩
  have hm2:m.length=n:=by omega
  obtain ⟨q,hq⟩:∃ q,decide (l=m)=q:=⟨_,rfl⟩
  rw [hq,hn,hm2];rw [hn] at hl;have HQ:Hid (decide (l=m)=q):=hq;have HN:Hid (l.length=n):=hn;have HM:Hid (m.length=n):=hm2;clear r1 r2 hq hlen hm hn hm2;go_enter func94,ntmps94;go_wp2_with fail
  go_loopg [5,13] n (λgk y x wr=>∃ i:Nat,x=.int .i64 i/\gk=n - i/\i<=n/\Hid (l.take i=m.take i)/\Below w.heap.size w wr)
  case atStart=>exact ⟨0,rfl,rfl,Nat.zero_le _,(rfl:l.take 0=m.take 0),Below.refl _ _⟩
  case round =>
   obtain ⟨i,rfl,hg,hi,HT,hb⟩:=hrel;by_cases hlt:i<n
   ·have hli:(i:Int)<(n:Int):=by omega
    have hwi:IntKind.i64.wrap ((i:Int)+1)=(i:Int)+1:=by rw [IntKind.wrap_i64];omega
    have hil:i<l.length:=by rw [HN.out];exact hlt
    have him:i<m.length:=by rw [HM.out];exact hlt
    obtain ⟨b1,o1,rfl,q1⟩:=H1.out i hil;obtain ⟨b2,o2,rfl,q2⟩:=H2.out i him;have d1:=zAC hb q1;have d2:=zAC hb q2;have X:Hid (∃ z,l[i]=z/\z=l[i]):=⟨_,rfl,rfl⟩
    obtain ⟨x,hx⟩:∃ x,l[i]=x:=⟨_,rfl⟩
    obtain ⟨y,hy⟩:∃ y,m[i]=y:=⟨_,rfl⟩
    rw [hx] at d1;rw [hy] at d2;have HX:Hid (l[i]=x):=hx;have HY:Hid (m[i]=y):=hy;clear q1 q2 hx hy X;by_cases hxy:x=y
    ·have HT2:Hid (l.take (i+1)=m.take (i+1)):=zCo HT.out hil him (by rw [HX.out,HY.out];exact hxy);subst hxy;go_upto_region 6 with fail
     go_quiet (fail)
     go_wp2_with fail
     go_roundg (n - (i+1))
     case rel=>exact ⟨i+1,by simp,rfl,hlt,HT2,(clB hb)⟩
     case measure=>omega
    ·have hne:Hid (q=false):=by
      show q=false
      rw [<-HQ.out];refine decide_eq_false λe=>hxy ?_
      rw [<-HX.out,<-HY.out];simp only [e]
     go_upto_region 6 with fail
     go_quiet (fail)
     go_wp2;go_ret;exact ⟨by rw [hne.out];rfl,(clB hb)⟩
   ·have hli:¬ (i:Int)<(n:Int):=by omega
    have hqt:Hid (q=true):=by
     show q=true
     rw [<-HQ.out];have h:=HT.out;rw [List.take_of_length_le (by rw [HN.out];omega),List.take_of_length_le (by rw [HM.out];omega)] at h;exact decide_eq_true h
    go_wp2;go_ret;exact ⟨by rw [hqt.out];rfl,hb⟩
 ·have hne:decide (l=m)=false:=decide_eq_false λe=>hlen (by rw [e])
  have hz:¬ ((l.length:Int)=(m.length:Int)):=by omega
  rw [hne];clear r1 r2 hl hm;go_enter func94,ntmps94;go_wp2;go_ret;exact ⟨rfl,Below.refl _ _⟩
theorem zE0 (l m:List Int) (v1 v2:Value) (w:World) (h1:RdZ w v1 l) (h2:RdZ w v2 m) (hl:l.length<=1000000) (hm:m.length<=1000000) :
  CR 42 #[v1,v2] w (.bool (decide (l=m))):=by
 obtain ⟨a1,c1,rfl,r1⟩:=h1;obtain ⟨a2,c2,rfl,r2⟩:=h2;by_cases hlen:l.length=m.length
 ·have H1:Hid (∀ i (h:i<l.length),∃ bb off,a1=some ⟨bb,off,none⟩/\w.cell? ⟨bb,off+i,none⟩=some (.int .i64 (l[i]))):=r1;have H2:Hid (∀ i (h:i<m.length),∃ bb off,a2=some ⟨bb,off,none⟩/\w.cell? ⟨bb,off+i,none⟩=some (.int .i64 (m[i]))):=r2;obtain ⟨n,hn⟩:∃ n,l.length=n:=⟨_,rfl⟩
  have hm2:m.length=n:=by omega
  obtain ⟨q,hq⟩:∃ q,decide (l=m)=q:=⟨_,rfl⟩
  rw [hq,hn,hm2];rw [hn] at hl;have HQ:Hid (decide (l=m)=q):=hq;have HN:Hid (l.length=n):=hn;have HM:Hid (m.length=n):=hm2;clear r1 r2 hq hlen hm hn hm2;go_enter func42,ntmps42;go_wp2_with fail
  go_loopg [5] n (λgk x wr=>∃ i:Nat,x=.int .i64 i/\gk=n - i/\i<=n/\Hid (l.take i=m.take i)/\Below w.heap.size w wr)
  case atStart=>exact ⟨0,rfl,rfl,Nat.zero_le _,(rfl:l.take 0=m.take 0),Below.refl _ _⟩
  case round =>
   obtain ⟨i,rfl,hg,hi,HT,hb⟩:=hrel;by_cases hlt:i<n
   ·have hli:(i:Int)<(n:Int):=by omega
    have hwi:IntKind.i64.wrap ((i:Int)+1)=(i:Int)+1:=by rw [IntKind.wrap_i64];omega
    have hil:i<l.length:=by rw [HN.out];exact hlt
    have him:i<m.length:=by rw [HM.out];exact hlt
    obtain ⟨b1,o1,rfl,q1⟩:=H1.out i hil;obtain ⟨b2,o2,rfl,q2⟩:=H2.out i him;have d1:=zAC hb q1;have d2:=zAC hb q2;have X:Hid (∃ z,l[i]=z/\z=l[i]):=⟨_,rfl,rfl⟩
    obtain ⟨x,hx⟩:∃ x,l[i]=x:=⟨_,rfl⟩
    obtain ⟨y,hy⟩:∃ y,m[i]=y:=⟨_,rfl⟩
    rw [hx] at d1;rw [hy] at d2;have HX:Hid (l[i]=x):=hx;have HY:Hid (m[i]=y):=hy;clear q1 q2 hx hy X;by_cases hxy:x=y
    ·have HT2:Hid (l.take (i+1)=m.take (i+1)):=zCo HT.out hil him (by rw [HX.out,HY.out];exact hxy);subst hxy;go_upto_region 6 with fail
     go_quiet (fail)
     go_wp2_with fail
     go_roundg (n - (i+1))
     case rel=>exact ⟨i+1,by simp,rfl,hlt,HT2,(clB hb)⟩
     case measure=>omega
    ·have hne:Hid (q=false):=by
      show q=false
      rw [<-HQ.out];refine decide_eq_false λe=>hxy ?_
      rw [<-HX.out,<-HY.out];simp only [e]
     go_upto_region 6 with fail
     go_quiet (fail)
     go_wp2;go_ret;exact ⟨by rw [hne.out];rfl,(clB hb)⟩
   ·have hli:¬ (i:Int)<(n:Int):=by omega
    have hqt:Hid (q=true):=by
     show q=true
     rw [<-HQ.out];have h:=HT.out;rw [List.take_of_length_le (by rw [HN.out];omega),List.take_of_length_le (by rw [HM.out];omega)] at h;exact decide_eq_true h
    go_wp2;go_ret;exact ⟨by rw [hqt.out];rfl,hb⟩
 ·have hne:decide (l=m)=false:=decide_eq_false λe=>hlen (by rw [e])
  have hz:¬ ((l.length:Int)=(m.length:Int)):=by omega
  rw [hne];clear r1 r2 hl hm;go_enter func42,ntmps42;go_wp2;go_ret;exact ⟨rfl,Below.refl _ _⟩
def zIy (x y:Wpl.Cl):Bool:=(x.s == y.s) && ((x.r == y.r) && (x.c == y.c))
def zEe (x y:Wpl.Ar):Bool:=(x.s == y.s) && ((x.t == y.t) && ((x.l == y.l) && ((x.b == y.b) && (x.r == y.r))))
theorem zDu (x y:Wpl.Cl) (w:World):(binOp .eql 47 (.agg #[.int .i64 x.s,.int .i64 x.r,.int .i64 x.c]) (.agg #[.int .i64 y.s,.int .i64 y.r,.int .i64 y.c])).run prog w=.ok (.bool (zIy x y)) w:=by
 rw [run_eql_struct];unfold zIy;by_cases h1:x.s=y.s
 ·by_cases h2:x.r=y.r
  ·by_cases h3:x.c=y.c
   ·simp [go_sem,h1,h2,h3]
   ·simp [go_sem,h1,h2,h3]
  ·simp [go_sem,h1,h2]
 ·simp [go_sem,h1]
theorem zBb (x y:Wpl.Ar) (w:World):(binOp .eql 49 (.agg #[.int .i64 x.s,.int .i64 x.t,.int .i64 x.l,.int .i64 x.b,.int .i64 x.r]) (.agg #[.int .i64 y.s,.int .i64 y.t,.int .i64 y.l,.int .i64 y.b,.int .i64 y.r])).run prog w=.ok (.bool (zEe x y)) w:=by
 rw [run_eql_struct];unfold zEe;by_cases h1:x.s=y.s
 ·by_cases h2:x.t=y.t
  ·by_cases h3:x.l=y.l
   ·by_cases h4:x.b=y.b
    ·by_cases h5:x.r=y.r
     ·simp [go_sem,h1,h2,h3,h4,h5]
     ·simp [go_sem,h1,h2,h3,h4,h5]
    ·simp [go_sem,h1,h2,h3,h4]
   ·simp [go_sem,h1,h2,h3]
  ·simp [go_sem,h1,h2]
 ·simp [go_sem,h1]
def smI (x y:Wc.In):Bool:=(x.a == y.a) && ((x.b == y.b) && (zIg x.v y.v && (zIy x.ce y.ce && (zEe x.ar y.ar && zEe x.pr y.pr))))
theorem zAV (x y:Wc.In) (t1 t2:Value) (l1 l2:List Int) (w:World) (h1:RdZ w t1 l1) (h2:RdZ w t2 l2) (hl:l1.length<=1000000) (hm:l2.length<=1000000) :
  CR 62 #[inV x t1,inV y t2] w (.bool (smI x y && decide (l1=l2))):=by
 have pA:=(AtL.new0 w 52 (zAD x t1)).alloc (.cells (zAD y t2).toArray 52);have pB:=AtL.new1 w (.cells (zAD x t1).toArray 52) 52 (zAD y t2);have hB:=zAJ (zAJ (Below.refl _ w) (.cells (zAD x t1).toArray 52)) (.cells (zAD y t2).toArray 52);have Z:∀ w',Below ((w.alloc (.cells (zAD x t1).toArray 52)).alloc (.cells (zAD y t2).toArray 52)).heap.size ((w.alloc (.cells (zAD x t1).toArray 52)).alloc (.cells (zAD y t2).toArray 52)) w'->_:=λw' hb=>zFi l1 l2 t1 t2 w' ((h1.below hB).below hb) ((h2.below hB).below hb) hl hm
 clear h1 h2 hl hm;have EV:=λw=>zAk x.v.k x.v.n x.v.d x.v.t x.v.b x.v.f y.v.k y.v.n y.v.d y.v.t y.v.b y.v.f w
 have EC:=λw=>zDu x.ce y.ce w
 have ER:=λw=>zBb x.ar y.ar w
 have EP:=λw=>zBb x.pr y.pr w
 have HV:Hid (∃ q,zIg x.v y.v=q):=⟨_,rfl⟩
 have HC:Hid (∃ q,zIy x.ce y.ce=q):=⟨_,rfl⟩
 have HR:Hid (∃ q,zEe x.ar y.ar=q):=⟨_,rfl⟩
 have HP:Hid (∃ q,zEe x.pr y.pr=q):=⟨_,rfl⟩
 obtain ⟨qv,hv⟩:=HV.out;obtain ⟨qc,hc⟩:=HC.out;obtain ⟨qr,hr⟩:=HR.out;obtain ⟨qp,hp⟩:=HP.out;clear HV HC HR HP;rw [show eqV x.v.k x.v.n x.v.d x.v.t x.v.b x.v.f y.v.k y.v.n y.v.d y.v.t y.v.b y.v.f=qv from hv] at EV;rw [hc] at EC;rw [hr] at ER;rw [hp] at EP;have HV:Hid (zIg x.v y.v=qv):=hv;have HC:Hid (zIy x.ce y.ce=qc):=hc;have HR:Hid (zEe x.ar y.ar=qr):=hr;have HP:Hid (zEe x.pr y.pr=qp):=hp;clear hv hc hr hp;go_enter func62,ntmps62;go_upto_region 1 with fail
 generalize ((w.alloc (.cells (zAD x t1).toArray 52)).alloc (.cells (zAD y t2).toArray 52))=W at *;have e0:W.cell? ⟨w.heap.size,0,none⟩=some (.int .i64 x.op):=pA.2.1 0 _ rfl;have d0:W.cell? ⟨w.heap.size+1,0,none⟩=some (.int .i64 y.op):=pB.2.1 0 _ rfl;have e1:W.cell? ⟨w.heap.size,1,none⟩=some (.int .i64 x.a):=pA.2.1 1 _ rfl;have d1:W.cell? ⟨w.heap.size+1,1,none⟩=some (.int .i64 y.a):=pB.2.1 1 _ rfl;have e2:W.cell? ⟨w.heap.size,2,none⟩=some (.int .i64 x.b):=pA.2.1 2 _ rfl;have d2:W.cell? ⟨w.heap.size+1,2,none⟩=some (.int .i64 y.b):=pB.2.1 2 _ rfl;have e3:W.cell? ⟨w.heap.size,3,none⟩=some (.int .i64 x.v.k):=pA.2.1 3 _ rfl;have d3:W.cell? ⟨w.heap.size+1,3,none⟩=some (.int .i64 y.v.k):=pB.2.1 3 _ rfl;have e4:W.cell? ⟨w.heap.size,4,none⟩=some (.int .i64 x.v.n):=pA.2.1 4 _ rfl;have d4:W.cell? ⟨w.heap.size+1,4,none⟩=some (.int .i64 y.v.n):=pB.2.1 4 _ rfl;have e5:W.cell? ⟨w.heap.size,5,none⟩=some (.int .i64 x.v.d):=pA.2.1 5 _ rfl;have d5:W.cell? ⟨w.heap.size+1,5,none⟩=some (.int .i64 y.v.d):=pB.2.1 5 _ rfl;have e6:W.cell? ⟨w.heap.size,6,none⟩=some (.string x.v.t):=pA.2.1 6 _ rfl;have d6:W.cell? ⟨w.heap.size+1,6,none⟩=some (.string y.v.t):=pB.2.1 6 _ rfl;have e7:W.cell? ⟨w.heap.size,7,none⟩=some (.bool x.v.b):=pA.2.1 7 _ rfl;have d7:W.cell? ⟨w.heap.size+1,7,none⟩=some (.bool y.v.b):=pB.2.1 7 _ rfl;have e8:W.cell? ⟨w.heap.size,8,none⟩=some (.int .i64 x.v.f):=pA.2.1 8 _ rfl
 have d8:W.cell? ⟨w.heap.size+1,8,none⟩=some (.int .i64 y.v.f):=pB.2.1 8 _ rfl;have e9:W.cell? ⟨w.heap.size,9,none⟩=some (.int .i64 x.ce.s):=pA.2.1 9 _ rfl;have d9:W.cell? ⟨w.heap.size+1,9,none⟩=some (.int .i64 y.ce.s):=pB.2.1 9 _ rfl;have e10:W.cell? ⟨w.heap.size,10,none⟩=some (.int .i64 x.ce.r):=pA.2.1 10 _ rfl;have d10:W.cell? ⟨w.heap.size+1,10,none⟩=some (.int .i64 y.ce.r):=pB.2.1 10 _ rfl;have e11:W.cell? ⟨w.heap.size,11,none⟩=some (.int .i64 x.ce.c):=pA.2.1 11 _ rfl;have d11:W.cell? ⟨w.heap.size+1,11,none⟩=some (.int .i64 y.ce.c):=pB.2.1 11 _ rfl;have e12:W.cell? ⟨w.heap.size,12,none⟩=some (.int .i64 x.ar.s):=pA.2.1 12 _ rfl;have d12:W.cell? ⟨w.heap.size+1,12,none⟩=some (.int .i64 y.ar.s):=pB.2.1 12 _ rfl;have e13:W.cell? ⟨w.heap.size,13,none⟩=some (.int .i64 x.ar.t):=pA.2.1 13 _ rfl;have d13:W.cell? ⟨w.heap.size+1,13,none⟩=some (.int .i64 y.ar.t):=pB.2.1 13 _ rfl;have e14:W.cell? ⟨w.heap.size,14,none⟩=some (.int .i64 x.ar.l):=pA.2.1 14 _ rfl;have d14:W.cell? ⟨w.heap.size+1,14,none⟩=some (.int .i64 y.ar.l):=pB.2.1 14 _ rfl;have e15:W.cell? ⟨w.heap.size,15,none⟩=some (.int .i64 x.ar.b):=pA.2.1 15 _ rfl;have d15:W.cell? ⟨w.heap.size+1,15,none⟩=some (.int .i64 y.ar.b):=pB.2.1 15 _ rfl;have e16:W.cell? ⟨w.heap.size,16,none⟩=some (.int .i64 x.ar.r):=pA.2.1 16 _ rfl;have d16:W.cell? ⟨w.heap.size+1,16,none⟩=some (.int .i64 y.ar.r):=pB.2.1 16 _ rfl
 have e17:W.cell? ⟨w.heap.size,17,none⟩=some (.int .i64 x.pr.s):=pA.2.1 17 _ rfl;have d17:W.cell? ⟨w.heap.size+1,17,none⟩=some (.int .i64 y.pr.s):=pB.2.1 17 _ rfl;have e18:W.cell? ⟨w.heap.size,18,none⟩=some (.int .i64 x.pr.t):=pA.2.1 18 _ rfl;have d18:W.cell? ⟨w.heap.size+1,18,none⟩=some (.int .i64 y.pr.t):=pB.2.1 18 _ rfl;have e19:W.cell? ⟨w.heap.size,19,none⟩=some (.int .i64 x.pr.l):=pA.2.1 19 _ rfl;have d19:W.cell? ⟨w.heap.size+1,19,none⟩=some (.int .i64 y.pr.l):=pB.2.1 19 _ rfl;have e20:W.cell? ⟨w.heap.size,20,none⟩=some (.int .i64 x.pr.b):=pA.2.1 20 _ rfl;have d20:W.cell? ⟨w.heap.size+1,20,none⟩=some (.int .i64 y.pr.b):=pB.2.1 20 _ rfl;have e21:W.cell? ⟨w.heap.size,21,none⟩=some (.int .i64 x.pr.r):=pA.2.1 21 _ rfl;have d21:W.cell? ⟨w.heap.size+1,21,none⟩=some (.int .i64 y.pr.r):=pB.2.1 21 _ rfl;have e22:W.cell? ⟨w.heap.size,22,none⟩=some t1:=pA.2.1 22 _ rfl;have d22:W.cell? ⟨w.heap.size+1,22,none⟩=some t2:=pB.2.1 22 _ rfl;clear pA pB;by_cases h_a:x.a=y.a
 ·by_cases h_b:x.b=y.b
  ·cases qv with
   | false =>
    go_wp2;go_ret;exact ⟨by simp [smI,HV.out,HC.out,HR.out,HP.out],(clB hB)⟩
   | true =>
    cases qc with
    | false =>
     go_wp2;go_ret;exact ⟨by simp [smI,HV.out,HC.out,HR.out,HP.out],(clB hB)⟩
    | true =>
     cases qr with
     | false =>
      go_wp2;go_ret;exact ⟨by simp [smI,HV.out,HC.out,HR.out,HP.out],(clB hB)⟩
     | true =>
      cases qp with
      | false =>
       go_wp2;go_ret;exact ⟨by simp [smI,HV.out,HC.out,HR.out,HP.out],(clB hB)⟩
      | true =>
       go_wp2_with fail
       refine (Z _ (Below.refl _ _)).mono ?_;rintro e w1 ⟨rfl,hb1⟩;have hB1:=zAB hB hb1;go_wp2;go_ret;exact ⟨by simp [smI,h_a,h_b,HV.out,HC.out,HR.out,HP.out],(clB hB1)⟩
  ·go_wp2;go_ret;exact ⟨by simp [smI,h_a,h_b],(clB hB)⟩
 ·go_wp2;go_ret;exact ⟨by simp [smI,h_a],(clB hB)⟩
theorem zAY (x y:Wc.In) (t1 t2:Value) (w:World) :
  CR 66 #[inV x t1,inV y t2] w (.bool ((x.op == y.op) && smI x y)):=by
 have pA:=(AtL.new0 w 52 (zAD x t1)).alloc (.cells (zAD y t2).toArray 52);have pB:=AtL.new1 w (.cells (zAD x t1).toArray 52) 52 (zAD y t2);have hB:=zAJ (zAJ (Below.refl _ w) (.cells (zAD x t1).toArray 52)) (.cells (zAD y t2).toArray 52);have EV:=λw=>zAk x.v.k x.v.n x.v.d x.v.t x.v.b x.v.f y.v.k y.v.n y.v.d y.v.t y.v.b y.v.f w
 have EC:=λw=>zDu x.ce y.ce w
 have ER:=λw=>zBb x.ar y.ar w
 have EP:=λw=>zBb x.pr y.pr w
 have HV:Hid (∃ q,zIg x.v y.v=q):=⟨_,rfl⟩
 have HC:Hid (∃ q,zIy x.ce y.ce=q):=⟨_,rfl⟩
 have HR:Hid (∃ q,zEe x.ar y.ar=q):=⟨_,rfl⟩
 have HP:Hid (∃ q,zEe x.pr y.pr=q):=⟨_,rfl⟩
 obtain ⟨qv,hv⟩:=HV.out;obtain ⟨qc,hc⟩:=HC.out;obtain ⟨qr,hr⟩:=HR.out;obtain ⟨qp,hp⟩:=HP.out;clear HV HC HR HP;rw [show eqV x.v.k x.v.n x.v.d x.v.t x.v.b x.v.f y.v.k y.v.n y.v.d y.v.t y.v.b y.v.f=qv from hv] at EV;rw [hc] at EC;rw [hr] at ER;rw [hp] at EP;have HV:Hid (zIg x.v y.v=qv):=hv;have HC:Hid (zIy x.ce y.ce=qc):=hc;have HR:Hid (zEe x.ar y.ar=qr):=hr;have HP:Hid (zEe x.pr y.pr=qp):=hp;clear hv hc hr hp;go_enter func66,ntmps66;go_upto_region 1 with fail
 generalize ((w.alloc (.cells (zAD x t1).toArray 52)).alloc (.cells (zAD y t2).toArray 52))=W at *;have e0:W.cell? ⟨w.heap.size,0,none⟩=some (.int .i64 x.op):=pA.2.1 0 _ rfl;have d0:W.cell? ⟨w.heap.size+1,0,none⟩=some (.int .i64 y.op):=pB.2.1 0 _ rfl;have e1:W.cell? ⟨w.heap.size,1,none⟩=some (.int .i64 x.a):=pA.2.1 1 _ rfl;have d1:W.cell? ⟨w.heap.size+1,1,none⟩=some (.int .i64 y.a):=pB.2.1 1 _ rfl;have e2:W.cell? ⟨w.heap.size,2,none⟩=some (.int .i64 x.b):=pA.2.1 2 _ rfl;have d2:W.cell? ⟨w.heap.size+1,2,none⟩=some (.int .i64 y.b):=pB.2.1 2 _ rfl;have e3:W.cell? ⟨w.heap.size,3,none⟩=some (.int .i64 x.v.k):=pA.2.1 3 _ rfl;have d3:W.cell? ⟨w.heap.size+1,3,none⟩=some (.int .i64 y.v.k):=pB.2.1 3 _ rfl;have e4:W.cell? ⟨w.heap.size,4,none⟩=some (.int .i64 x.v.n):=pA.2.1 4 _ rfl;have d4:W.cell? ⟨w.heap.size+1,4,none⟩=some (.int .i64 y.v.n):=pB.2.1 4 _ rfl;have e5:W.cell? ⟨w.heap.size,5,none⟩=some (.int .i64 x.v.d):=pA.2.1 5 _ rfl;have d5:W.cell? ⟨w.heap.size+1,5,none⟩=some (.int .i64 y.v.d):=pB.2.1 5 _ rfl;have e6:W.cell? ⟨w.heap.size,6,none⟩=some (.string x.v.t):=pA.2.1 6 _ rfl;have d6:W.cell? ⟨w.heap.size+1,6,none⟩=some (.string y.v.t):=pB.2.1 6 _ rfl;have e7:W.cell? ⟨w.heap.size,7,none⟩=some (.bool x.v.b):=pA.2.1 7 _ rfl;have d7:W.cell? ⟨w.heap.size+1,7,none⟩=some (.bool y.v.b):=pB.2.1 7 _ rfl;have e8:W.cell? ⟨w.heap.size,8,none⟩=some (.int .i64 x.v.f):=pA.2.1 8 _ rfl
 have d8:W.cell? ⟨w.heap.size+1,8,none⟩=some (.int .i64 y.v.f):=pB.2.1 8 _ rfl;have e9:W.cell? ⟨w.heap.size,9,none⟩=some (.int .i64 x.ce.s):=pA.2.1 9 _ rfl;have d9:W.cell? ⟨w.heap.size+1,9,none⟩=some (.int .i64 y.ce.s):=pB.2.1 9 _ rfl;have e10:W.cell? ⟨w.heap.size,10,none⟩=some (.int .i64 x.ce.r):=pA.2.1 10 _ rfl;have d10:W.cell? ⟨w.heap.size+1,10,none⟩=some (.int .i64 y.ce.r):=pB.2.1 10 _ rfl;have e11:W.cell? ⟨w.heap.size,11,none⟩=some (.int .i64 x.ce.c):=pA.2.1 11 _ rfl;have d11:W.cell? ⟨w.heap.size+1,11,none⟩=some (.int .i64 y.ce.c):=pB.2.1 11 _ rfl;have e12:W.cell? ⟨w.heap.size,12,none⟩=some (.int .i64 x.ar.s):=pA.2.1 12 _ rfl;have d12:W.cell? ⟨w.heap.size+1,12,none⟩=some (.int .i64 y.ar.s):=pB.2.1 12 _ rfl;have e13:W.cell? ⟨w.heap.size,13,none⟩=some (.int .i64 x.ar.t):=pA.2.1 13 _ rfl;have d13:W.cell? ⟨w.heap.size+1,13,none⟩=some (.int .i64 y.ar.t):=pB.2.1 13 _ rfl;have e14:W.cell? ⟨w.heap.size,14,none⟩=some (.int .i64 x.ar.l):=pA.2.1 14 _ rfl;have d14:W.cell? ⟨w.heap.size+1,14,none⟩=some (.int .i64 y.ar.l):=pB.2.1 14 _ rfl;have e15:W.cell? ⟨w.heap.size,15,none⟩=some (.int .i64 x.ar.b):=pA.2.1 15 _ rfl;have d15:W.cell? ⟨w.heap.size+1,15,none⟩=some (.int .i64 y.ar.b):=pB.2.1 15 _ rfl;have e16:W.cell? ⟨w.heap.size,16,none⟩=some (.int .i64 x.ar.r):=pA.2.1 16 _ rfl;have d16:W.cell? ⟨w.heap.size+1,16,none⟩=some (.int .i64 y.ar.r):=pB.2.1 16 _ rfl
 have e17:W.cell? ⟨w.heap.size,17,none⟩=some (.int .i64 x.pr.s):=pA.2.1 17 _ rfl;have d17:W.cell? ⟨w.heap.size+1,17,none⟩=some (.int .i64 y.pr.s):=pB.2.1 17 _ rfl;have e18:W.cell? ⟨w.heap.size,18,none⟩=some (.int .i64 x.pr.t):=pA.2.1 18 _ rfl;have d18:W.cell? ⟨w.heap.size+1,18,none⟩=some (.int .i64 y.pr.t):=pB.2.1 18 _ rfl;have e19:W.cell? ⟨w.heap.size,19,none⟩=some (.int .i64 x.pr.l):=pA.2.1 19 _ rfl;have d19:W.cell? ⟨w.heap.size+1,19,none⟩=some (.int .i64 y.pr.l):=pB.2.1 19 _ rfl;have e20:W.cell? ⟨w.heap.size,20,none⟩=some (.int .i64 x.pr.b):=pA.2.1 20 _ rfl;have d20:W.cell? ⟨w.heap.size+1,20,none⟩=some (.int .i64 y.pr.b):=pB.2.1 20 _ rfl;have e21:W.cell? ⟨w.heap.size,21,none⟩=some (.int .i64 x.pr.r):=pA.2.1 21 _ rfl;have d21:W.cell? ⟨w.heap.size+1,21,none⟩=some (.int .i64 y.pr.r):=pB.2.1 21 _ rfl;have e22:W.cell? ⟨w.heap.size,22,none⟩=some t1:=pA.2.1 22 _ rfl;have d22:W.cell? ⟨w.heap.size+1,22,none⟩=some t2:=pB.2.1 22 _ rfl;clear pA pB;by_cases h_op:x.op=y.op
 ·by_cases h_a:x.a=y.a
  ·by_cases h_b:x.b=y.b
   ·cases qv with
    | false =>
     go_wp2;go_ret;exact ⟨by simp [smI,HV.out,HC.out,HR.out,HP.out],(clB hB)⟩
    | true =>
     cases qc with
     | false =>
      go_wp2;go_ret;exact ⟨by simp [smI,HV.out,HC.out,HR.out,HP.out],(clB hB)⟩
     | true =>
      cases qr with
      | false =>
       go_wp2;go_ret;exact ⟨by simp [smI,HV.out,HC.out,HR.out,HP.out],(clB hB)⟩
      | true =>
       cases qp with
       | false =>
        go_wp2;go_ret;exact ⟨by simp [smI,HV.out,HC.out,HR.out,HP.out],(clB hB)⟩
       | true =>
        go_wp2;go_ret;exact ⟨by simp [smI,h_op,h_a,h_b,HV.out,HC.out,HR.out,HP.out],(clB hB)⟩
   ·go_wp2;go_ret;exact ⟨by simp [smI,h_op,h_a,h_b],(clB hB)⟩
  ·go_wp2;go_ret;exact ⟨by simp [smI,h_op,h_a],(clB hB)⟩
 ·go_wp2;go_ret;exact ⟨by simp [smI,h_op],(clB hB)⟩
def v0I:Wt.Vl:=⟨0,0,0,⟨#[]⟩,false,0⟩
def c0I:Wpl.Cl:=⟨0,0,0⟩
def a0I:Wpl.Ar:=⟨0,0,0,0,0⟩
def zAE (k:Int):Wc.In:=⟨k,0,0,v0I,c0I,a0I,a0I⟩
abbrev zAG:Value:=.slice none 0 0
abbrev zAI (w:World) (x:Wc.In) (tv:Value):World:=(w.alloc (.cells (zAD x tv).toArray 52)).alloc (.cells #[.int .i64 0,.int .i64 0,.int .i64 0,.int .i64 0,.int .i64 0,.int .i64 0,.string ⟨#[]⟩,.bool false,.int .i64 0,.int .i64 0,.int .i64 0,.int .i64 0,.int .i64 0,.int .i64 0,.int .i64 0,.int .i64 0,.int .i64 0,.int .i64 0,.int .i64 0,.int .i64 0,.int .i64 0,.int .i64 0,.slice none 0 0] 52)
theorem zIU (x:Wc.In) (av:Option Addr) (n c:Nat):∀ v ∈ zAD x (.slice av n c),v.oneCell'=true:=by
 intro v hv;simp only [zAD,List.mem_cons,List.not_mem_nil,or_false] at hv;rcases hv with rfl | rfl | rfl | rfl | rfl | rfl | rfl | rfl | rfl | rfl | rfl | rfl | rfl | rfl | rfl | rfl | rfl | rfl | rfl | rfl | rfl | rfl | rfl <;> rfl
theorem zAT (x:Wc.In) (av:Option Addr) (n c:Nat):(zAD x (.slice av n c)).toArray.all (·.oneCell')=true:=all_oneCell_toArray (zIU x av n c)
abbrev zK8 (ka kb:Nat) (x:Wc.In) (tv:Value) (W:World):Prop :=
 W.cell? ⟨ka,3,none⟩=some (.int .i64 x.v.k)/\W.cell? ⟨ka,4,none⟩=some (.int .i64 x.v.n)/\W.cell? ⟨ka,5,none⟩=some (.int .i64 x.v.d)/\W.cell? ⟨ka,6,none⟩=some (.string x.v.t)/\W.cell? ⟨ka,7,none⟩=some (.bool x.v.b)/\W.cell? ⟨ka,8,none⟩=some (.int .i64 x.v.f)/\W.frozen? ⟨kb,3,none⟩=false/\W.frozen? ⟨kb,4,none⟩=false/\W.frozen? ⟨kb,5,none⟩=false/\W.frozen? ⟨kb,6,none⟩=false/\W.frozen? ⟨kb,7,none⟩=false/\W.frozen? ⟨kb,8,none⟩=false
theorem zDM {y:Wc.In} {tu:Value} (h0:AtL W ka (zAD x tv)) (h1:AtL W kb (zAD y tu)):zK8 ka kb x tv W :=
 ⟨h0.2.1 3 _ rfl,h0.2.1 4 _ rfl,h0.2.1 5 _ rfl,h0.2.1 6 _ rfl,h0.2.1 7 _ rfl,h0.2.1 8 _ rfl,h1.2.2 3 (by show 3<23;decide),h1.2.2 4 (by show 4<23;decide),h1.2.2 5 (by show 5<23;decide),h1.2.2 6 (by show 6<23;decide),h1.2.2 7 (by show 7<23;decide),h1.2.2 8 (by show 8<23;decide)⟩
theorem zBQ (h:zK8 ka kb x tv W) (hne:kb ≠ ka) (j:Nat) (u:Value):zK8 ka kb x tv (W.setCell ⟨kb,j,none⟩ u):=by
 obtain ⟨h3,h4,h5,h6,h7,h8,g3,g4,g5,g6,g7,g8⟩:=h;refine ⟨?_,?_,?_,?_,?_,?_,?_,?_,?_,?_,?_,?_⟩;any_goals rw [World.cell?_setCell_far _ _ _ _ (by simpa using hne)];assumption
 all_goals rw [World.frozen?_setCell];assumption
theorem zGp (x:Wc.In) (av:Option Addr) (n c:Nat) (tl:List Int) (w:World) (hk:x.op=1) (hz:RdZ w (.slice av n c) tl) (hl:tl.length<=1000000) (h1:-9223372036854775808<=x.v.n) (h2:x.v.n<=9223372036854775807) (h3:-9223372036854775808<=x.v.d) (h4:x.v.d<=9223372036854775807) (hs:x.v.t.size<=9223372036854775807) :
  CR 33 #[inV x (.slice av n c)] w (.bool (Wv.right x.v.k x.v.n x.v.d x.v.t x.v.b x.v.f && (smI x ⟨1,0,0,x.v,c0I,a0I,a0I⟩ && decide (tl=[])))):=by
 have C:=(λw=>zBt x.v w h1 h2 h3 h4 hs:∀ w:World,CR 57 #[.agg #[.int .i64 x.v.k,.int .i64 x.v.n,.int .i64 x.v.d,.string x.v.t,.bool x.v.b,.int .i64 x.v.f]] w (.bool (Wv.right x.v.k x.v.n x.v.d x.v.t x.v.b x.v.f)))
 have CS:∀ w',Below w.heap.size w w'->Calls prog 62 #[.agg (zAD x (.slice av n c)).toArray,.agg (zAD ⟨1,0,0,x.v,c0I,a0I,a0I⟩ zAG).toArray] w' λe w''=>e=.returned (.bool (smI x ⟨1,0,0,x.v,c0I,a0I,a0I⟩ && decide (tl=[])))/\Below w'.heap.size w' w'':=λw' hb=>zAV x ⟨1,0,0,x.v,c0I,a0I,a0I⟩ _ _ tl [] w' (hz.below hb) (RdZ.nil _) hl (by first | exact hl | simp)
 obtain ⟨tv,htv⟩:∃ tv,Value.slice av n c=tv:=⟨_,rfl⟩
 rw [htv] at CS ⊢;generalize (smI x ⟨1,0,0,x.v,c0I,a0I,a0I⟩ && decide (tl=[]))=R at *;generalize Wv.right x.v.k x.v.n x.v.d x.v.t x.v.b x.v.f=q at *;have pA0:AtL (zAI w x tv) w.heap.size (zAD x tv):=(AtL.new0 w _ _).alloc _;have pO0:AtL (zAI w x tv) (w.heap.size+1) (zAD (zAE 0) zAG):=AtL.new1 w _ _ _;have hth:World.there (zAI w x tv) (w.heap.size+1) 0 (zAD (zAE 1) zAG).toArray.size:=pO0.there;have hne:w.heap.size+1 ≠ w.heap.size:=by omega
 have pA:=pA0.farAll hne 0 (zAD (zAE 1) zAG);have pO:AtL ((zAI w x tv).setCells (w.heap.size+1) 0 (zAD (zAE 1) zAG)) (w.heap.size+1) (zAD (zAE 1) zAG):=pO0.setAll rfl;have hBa:Below w.heap.size w ((zAI w x tv).setCells (w.heap.size+1) 0 (zAD (zAE 1) zAG)):=zA8 (zAJ (zAJ (Below.refl _ w) _) _) (Nat.le_succ _) _ 0;clear pA0 pO0;have n0:(zAD x tv)[0]? = some (.int .i64 1):=by rw [<-hk];rfl
 have a0:World.cell? ((zAI w x tv).setCells (w.heap.size+1) 0 (zAD (zAE 1) zAG)) ⟨w.heap.size,0,none⟩=some (.int .i64 1):=pA.2.1 0 _ n0;show Calls _ _ #[.agg (zAD x tv).toArray] _ _
 have hS:zK8 w.heap.size (w.heap.size+1) x tv ((zAI w x tv).setCells (w.heap.size+1) 0 (zAD (zAE 1) zAG)):=zDM pA pO;clear hz hl htv;cases q
 all_goals
  go_enter func33,ntmps33;go_upto_region 1 with fail
  go_upto_region 2 with ((with_reducible refine wpList_store_mid ?_ 52 (.tmp 3) (.tmp 7) ?_ (w.heap.size+1) 0 (zAD (zAE 1) zAG).toArray ?_ ?_ ?_ ?_ ?_ ?_);rfl;rfl;rfl;rfl;exact hth;kernel_rfl;exact zAT _ _ _ _)
  generalize (zAI w x tv).setCells (w.heap.size+1) 0 (zAD (zAE 1) zAG)=W0 at *;clear hth;go_upto_region 4 with fail
  go_region_held3 (zK8 w.heap.size (w.heap.size+1) x tv)
   (with_reducible first | exact hS | assumption | exact zDM pA1 pO1 | exact (zBQ (zBQ (zBQ (zBQ (zBQ (zBQ (by assumption) (by omega) _ _) (by omega) _ _) (by omega) _ _) (by omega) _ _) (by omega) _ _) (by omega) _ _) | exact zDM (AtL.drew pA) (AtL.drew pO))
   (first | (go_at_call 57;refine (C _).mono ?_;rintro e w1 ⟨rfl,hb⟩;have pA1:=AtL.below hb (AtL.drew pA);have pO1:=AtL.below hb (AtL.drew pO);have o3:=pO1.2.1 3 _ rfl;have o4:=pO1.2.1 4 _ rfl;have o5:=pO1.2.1 5 _ rfl;have o6:=pO1.2.1 6 _ rfl;have o7:=pO1.2.1 7 _ rfl;have o8:=pO1.2.1 8 _ rfl;have hB1:=zAB hBa.drew hb))
  all_goals
   clear pA pO hS C hBa o3 o4 o5 o6 o7 o8 a0;have pA2:AtL ((((((w1.setCell ⟨w.heap.size+1,3,none⟩ (.int .i64 x.v.k)).setCell ⟨w.heap.size+1,4,none⟩ (.int .i64 x.v.n)).setCell ⟨w.heap.size+1,5,none⟩ (.int .i64 x.v.d)).setCell ⟨w.heap.size+1,6,none⟩ (.string x.v.t)).setCell ⟨w.heap.size+1,7,none⟩ (.bool x.v.b)).setCell ⟨w.heap.size+1,8,none⟩ (.int .i64 x.v.f)) w.heap.size (zAD x tv):=((((((pA1.far hne 3 (.int .i64 x.v.k)).far hne 4 (.int .i64 x.v.n)).far hne 5 (.int .i64 x.v.d)).far hne 6 (.string x.v.t)).far hne 7 (.bool x.v.b)).far hne 8 (.int .i64 x.v.f))
   have pO2:AtL ((((((w1.setCell ⟨w.heap.size+1,3,none⟩ (.int .i64 x.v.k)).setCell ⟨w.heap.size+1,4,none⟩ (.int .i64 x.v.n)).setCell ⟨w.heap.size+1,5,none⟩ (.int .i64 x.v.d)).setCell ⟨w.heap.size+1,6,none⟩ (.string x.v.t)).setCell ⟨w.heap.size+1,7,none⟩ (.bool x.v.b)).setCell ⟨w.heap.size+1,8,none⟩ (.int .i64 x.v.f)) (w.heap.size+1) (zAD ⟨1,0,0,x.v,c0I,a0I,a0I⟩ zAG):=((((((pO1.set 3 (.int .i64 x.v.k)).set 4 (.int .i64 x.v.n)).set 5 (.int .i64 x.v.d)).set 6 (.string x.v.t)).set 7 (.bool x.v.b)).set 8 (.int .i64 x.v.f))
   have hB2:Below w.heap.size w ((((((w1.setCell ⟨w.heap.size+1,3,none⟩ (.int .i64 x.v.k)).setCell ⟨w.heap.size+1,4,none⟩ (.int .i64 x.v.n)).setCell ⟨w.heap.size+1,5,none⟩ (.int .i64 x.v.d)).setCell ⟨w.heap.size+1,6,none⟩ (.string x.v.t)).setCell ⟨w.heap.size+1,7,none⟩ (.bool x.v.b)).setCell ⟨w.heap.size+1,8,none⟩ (.int .i64 x.v.f)):=(clB hB1)
   clear pA1 pO1 hB1;generalize ((((((w1.setCell ⟨w.heap.size+1,3,none⟩ (.int .i64 x.v.k)).setCell ⟨w.heap.size+1,4,none⟩ (.int .i64 x.v.n)).setCell ⟨w.heap.size+1,5,none⟩ (.int .i64 x.v.d)).setCell ⟨w.heap.size+1,6,none⟩ (.string x.v.t)).setCell ⟨w.heap.size+1,7,none⟩ (.bool x.v.b)).setCell ⟨w.heap.size+1,8,none⟩ (.int .i64 x.v.f))=W2 at *;have rA:=pA2.range;have rO:=pO2.range;clear pA2 pO2;go_wp2_with (first | ((with_reducible refine zAA ?_ 52 (.tmp 1) ?_ w.heap.size 0 ?_ (zAD x tv) _ ?_ underlying52 ?_ ?_ ?_);rfl;rfl;rfl;exact rA;rfl;kernel_rfl) | ((with_reducible refine zAA ?_ 52 (.tmp 3) ?_ (w.heap.size+1) 0 ?_ (zAD ⟨1,0,0,x.v,c0I,a0I,a0I⟩ zAG) _ ?_ underlying52 ?_ ?_ ?_);rfl;rfl;rfl;exact rO;rfl;kernel_rfl) | (go_at_call 62;refine (CS _ hB2).mono ?_;rintro e w3 ⟨rfl,hb3⟩;have hB3:=zAB hB2 hb3))
   go_wp2;go_ret;first
   | exact ⟨by simp,hB2⟩
   | exact ⟨by simp,hB3⟩
