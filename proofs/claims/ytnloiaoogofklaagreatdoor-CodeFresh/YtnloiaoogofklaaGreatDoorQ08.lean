/- KWalkP, KWalkQ, KWalkR, KCd, KWalkH, KWalkK, KWalkI, KWalkJ, KWalkY, KRows. -/
import Derived.Test.YtnloiaoogofklaaGreatDoorQ07
import Derived.Maps.OwnSet
set_option maxHeartbeats 4000000
set_option maxRecDepth 100000
set_option linter.unusedVariables false
namespace Go.Proofs.YtnloiaoogofklaaGreatDoor
open Tryz
open Go.RowKit
variable {ka kb:Nat} {x:Wc.In} {tv:Value} {W:World}
theorem zI6 {l m:List Int} {i:Nat} (h:l.take i=m.take i) (hl:i<l.length) (hm:i<m.length) (e:l[i]=m[i]):l.take (i+1)=m.take (i+1):=by
 rw [List.take_succ_eq_append_getElem hl,List.take_succ_eq_append_getElem hm,h,e]
theorem zHm (l m:List Int) (v1 v2:Value) (w:World) (h1:RdZ w v1 l) (h2:RdZ w v2 m) (hl:l.length<=1000000) (hm:m.length<=1000000) :
  CR 108 #[v1,v2] w (.bool (decide (l=m))):=by
 obtain ⟨a1,c1,rfl,r1⟩:=h1;obtain ⟨a2,c2,rfl,r2⟩:=h2;by_cases hlen:l.length=m.length
 ·have H1:Hid (∀ i (h:i<l.length),∃ bb off,a1=some ⟨bb,off,none⟩/\w.cell? ⟨bb,off+i,none⟩=some (.int .i64 (l[i]))):=r1;have H2:Hid (∀ i (h:i<m.length),∃ bb off,a2=some ⟨bb,off,none⟩/\w.cell? ⟨bb,off+i,none⟩=some (.int .i64 (m[i]))):=r2;obtain ⟨n,hn⟩:∃ n,l.length=n:=⟨_,rfl⟩
  have hm2:m.length=n:=by omega
  obtain ⟨q,hq⟩:∃ q,decide (l=m)=q:=⟨_,rfl⟩
  rw [hq,hn,hm2];rw [hn] at hl;have HQ:Hid (decide (l=m)=q):=hq;have HN:Hid (l.length=n):=hn;have HM:Hid (m.length=n):=hm2;clear r1 r2 hq hlen hm hn hm2;go_enter func108,ntmps108;go_wp2_with fail
  go_loopg [5,13] n (λgk y x wr=>∃ i:Nat,x=.int .i64 i/\gk=n - i/\i<=n/\Hid (l.take i=m.take i)/\Below w.heap.size w wr)
  case atStart=>exact ⟨0,rfl,rfl,Nat.zero_le _,(rfl:l.take 0=m.take 0),Below.refl _ _⟩
  case round =>
   obtain ⟨i,rfl,hg,hi,HT,hb⟩:=hrel;by_cases hlt:i<n
   ·have hli:(i:Int)<(n:Int):=by omega
    have hwi:IntKind.i64.wrap ((i:Int)+1)=(i:Int)+1:=by rw [IntKind.wrap_i64];omega
    have hil:i<l.length:=by rw [HN.out];exact hlt
    have him:i<m.length:=by rw [HM.out];exact hlt
    obtain ⟨b1,o1,rfl,q1⟩:=H1.out i hil;obtain ⟨b2,o2,rfl,q2⟩:=H2.out i him;have d1:=zAC hb q1;have d2:=zAC hb q2;have X:Hid (∃ z,l[i]=z/\z=l[i]):=⟨_,rfl,rfl⟩
    obtain ⟨x,hx⟩:∃ x,l[i]=x:=⟨_,rfl⟩
    obtain ⟨y,hy⟩:∃ y,m[i]=y:=⟨_,rfl⟩
    rw [hx] at d1;rw [hy] at d2;have HX:Hid (l[i]=x):=hx;have HY:Hid (m[i]=y):=hy;clear q1 q2 hx hy X;by_cases hxy:x=y
    ·have HT2:Hid (l.take (i+1)=m.take (i+1)):=zI6 HT.out hil him (by rw [HX.out,HY.out];exact hxy);subst hxy;go_upto_region 6 with fail
     go_quiet (fail)
     go_wp2_with fail
     go_roundg (n - (i+1))
     case rel=>exact ⟨i+1,by simp,rfl,hlt,HT2,(clB hb)⟩
     case measure=>omega
    ·have hne:Hid (q=false):=by
      show q=false
      rw [<-HQ.out];refine decide_eq_false λe=>hxy ?_
      rw [<-HX.out,<-HY.out];simp only [e]
     go_upto_region 6 with fail
     go_quiet (fail)
     go_wp2;go_ret;exact ⟨by rw [hne.out];rfl,(clB hb)⟩
   ·have hli:¬ (i:Int)<(n:Int):=by omega
    have hqt:Hid (q=true):=by
     show q=true
     rw [<-HQ.out];have h:=HT.out;rw [List.take_of_length_le (by rw [HN.out];omega),List.take_of_length_le (by rw [HM.out];omega)] at h;exact decide_eq_true h
    go_wp2;go_ret;exact ⟨by rw [hqt.out];rfl,hb⟩
 ·have hne:decide (l=m)=false:=decide_eq_false λe=>hlen (by rw [e])
  have hz:¬ ((l.length:Int)=(m.length:Int)):=by omega
  rw [hne];clear r1 r2 hl hm;go_enter func108,ntmps108;go_wp2;go_ret;exact ⟨rfl,Below.refl _ _⟩
def zLu (x y:Wpl.Cl):Bool:=(x.s == y.s) && ((x.r == y.r) && (x.c == y.c))
def zBu (x y:Wpl.Ar):Bool:=(x.s == y.s) && ((x.t == y.t) && ((x.l == y.l) && ((x.b == y.b) && (x.r == y.r))))
theorem zJk (x y:Wpl.Cl):zLu x y=true ↔ x=y:=by
 obtain ⟨a,b,c⟩:=x;obtain ⟨d,e,f⟩:=y;simp [zLu]
theorem zCb (x y:Wpl.Ar):zBu x y=true ↔ x=y:=by
 obtain ⟨a,b,c,g,i⟩:=x;obtain ⟨d,e,f,h,j⟩:=y;simp [zBu]
theorem zL5 (x y:Wpl.Cl) (w:World):(binOp .eql 24 (.agg #[.int .i64 x.s,.int .i64 x.r,.int .i64 x.c]) (.agg #[.int .i64 y.s,.int .i64 y.r,.int .i64 y.c])).run prog w=.ok (.bool (zLu x y)) w:=by
 rw [run_eql_struct];unfold zLu;by_cases h1:x.s=y.s
 ·by_cases h2:x.r=y.r
  ·by_cases h3:x.c=y.c
   ·simp [go_sem,h1,h2,h3]
   ·simp [go_sem,h1,h2,h3]
  ·simp [go_sem,h1,h2]
 ·simp [go_sem,h1]
theorem zFr (x y:Wpl.Ar) (w:World):(binOp .eql 45 (.agg #[.int .i64 x.s,.int .i64 x.t,.int .i64 x.l,.int .i64 x.b,.int .i64 x.r]) (.agg #[.int .i64 y.s,.int .i64 y.t,.int .i64 y.l,.int .i64 y.b,.int .i64 y.r])).run prog w=.ok (.bool (zBu x y)) w:=by
 rw [run_eql_struct];unfold zBu;by_cases h1:x.s=y.s
 ·by_cases h2:x.t=y.t
  ·by_cases h3:x.l=y.l
   ·by_cases h4:x.b=y.b
    ·by_cases h5:x.r=y.r
     ·simp [go_sem,h1,h2,h3,h4,h5]
     ·simp [go_sem,h1,h2,h3,h4,h5]
    ·simp [go_sem,h1,h2,h3,h4]
   ·simp [go_sem,h1,h2,h3]
  ·simp [go_sem,h1,h2]
 ·simp [go_sem,h1]
def smI (x y:Wc.In):Bool:=(x.a == y.a) && ((x.b == y.b) && (zLi x.v y.v && (zLu x.ce y.ce && (zBu x.ar y.ar && zBu x.pr y.pr))))
theorem zA5 (x y:Wc.In) (t1 t2:Value) (l1 l2:List Int) (w:World) (h1:RdZ w t1 l1) (h2:RdZ w t2 l2) (hl:l1.length<=1000000) (hm:l2.length<=1000000) :
  CR 74 #[inV x t1,inV y t2] w (.bool (smI x y && decide (l1=l2))):=by
 have pA:=(AtL.new0 w 48 (zAD x t1)).alloc (.cells (zAD y t2).toArray 48);have pB:=AtL.new1 w (.cells (zAD x t1).toArray 48) 48 (zAD y t2);have hB:=zAL (zAL (Below.refl _ w) (.cells (zAD x t1).toArray 48)) (.cells (zAD y t2).toArray 48);have Z:∀ w',Below ((w.alloc (.cells (zAD x t1).toArray 48)).alloc (.cells (zAD y t2).toArray 48)).heap.size ((w.alloc (.cells (zAD x t1).toArray 48)).alloc (.cells (zAD y t2).toArray 48)) w'->_:=λw' hb=>zHm l1 l2 t1 t2 w' ((h1.below hB).below hb) ((h2.below hB).below hb) hl hm
 clear h1 h2 hl hm;have EV:=λw=>zCO x.v.k x.v.n x.v.d x.v.t x.v.b x.v.f y.v.k y.v.n y.v.d y.v.t y.v.b y.v.f w
 have EC:=λw=>zL5 x.ce y.ce w
 have ER:=λw=>zFr x.ar y.ar w
 have EP:=λw=>zFr x.pr y.pr w
 have HV:Hid (∃ q,zLi x.v y.v=q):=⟨_,rfl⟩
 have HC:Hid (∃ q,zLu x.ce y.ce=q):=⟨_,rfl⟩
 have HR:Hid (∃ q,zBu x.ar y.ar=q):=⟨_,rfl⟩
 have HP:Hid (∃ q,zBu x.pr y.pr=q):=⟨_,rfl⟩
 obtain ⟨qv,hv⟩:=HV.out;obtain ⟨qc,hc⟩:=HC.out;obtain ⟨qr,hr⟩:=HR.out;obtain ⟨qp,hp⟩:=HP.out;clear HV HC HR HP;rw [show eqV x.v.k x.v.n x.v.d x.v.t x.v.b x.v.f y.v.k y.v.n y.v.d y.v.t y.v.b y.v.f=qv from hv] at EV;rw [hc] at EC;rw [hr] at ER;rw [hp] at EP;have HV:Hid (zLi x.v y.v=qv):=hv;have HC:Hid (zLu x.ce y.ce=qc):=hc;have HR:Hid (zBu x.ar y.ar=qr):=hr;have HP:Hid (zBu x.pr y.pr=qp):=hp;clear hv hc hr hp;go_enter func74,ntmps74;go_upto_region 1 with fail
 generalize ((w.alloc (.cells (zAD x t1).toArray 48)).alloc (.cells (zAD y t2).toArray 48))=W at *;have e0:W.cell? ⟨w.heap.size,0,none⟩=some (.int .i64 x.op):=pA.2.1 0 _ rfl;have d0:W.cell? ⟨w.heap.size+1,0,none⟩=some (.int .i64 y.op):=pB.2.1 0 _ rfl;have e1:W.cell? ⟨w.heap.size,1,none⟩=some (.int .i64 x.a):=pA.2.1 1 _ rfl;have d1:W.cell? ⟨w.heap.size+1,1,none⟩=some (.int .i64 y.a):=pB.2.1 1 _ rfl;have e2:W.cell? ⟨w.heap.size,2,none⟩=some (.int .i64 x.b):=pA.2.1 2 _ rfl;have d2:W.cell? ⟨w.heap.size+1,2,none⟩=some (.int .i64 y.b):=pB.2.1 2 _ rfl;have e3:W.cell? ⟨w.heap.size,3,none⟩=some (.int .i64 x.v.k):=pA.2.1 3 _ rfl;have d3:W.cell? ⟨w.heap.size+1,3,none⟩=some (.int .i64 y.v.k):=pB.2.1 3 _ rfl;have e4:W.cell? ⟨w.heap.size,4,none⟩=some (.int .i64 x.v.n):=pA.2.1 4 _ rfl;have d4:W.cell? ⟨w.heap.size+1,4,none⟩=some (.int .i64 y.v.n):=pB.2.1 4 _ rfl;have e5:W.cell? ⟨w.heap.size,5,none⟩=some (.int .i64 x.v.d):=pA.2.1 5 _ rfl;have d5:W.cell? ⟨w.heap.size+1,5,none⟩=some (.int .i64 y.v.d):=pB.2.1 5 _ rfl;have e6:W.cell? ⟨w.heap.size,6,none⟩=some (.string x.v.t):=pA.2.1 6 _ rfl;have d6:W.cell? ⟨w.heap.size+1,6,none⟩=some (.string y.v.t):=pB.2.1 6 _ rfl;have e7:W.cell? ⟨w.heap.size,7,none⟩=some (.bool x.v.b):=pA.2.1 7 _ rfl;have d7:W.cell? ⟨w.heap.size+1,7,none⟩=some (.bool y.v.b):=pB.2.1 7 _ rfl;have e8:W.cell? ⟨w.heap.size,8,none⟩=some (.int .i64 x.v.f):=pA.2.1 8 _ rfl
 have d8:W.cell? ⟨w.heap.size+1,8,none⟩=some (.int .i64 y.v.f):=pB.2.1 8 _ rfl;have e9:W.cell? ⟨w.heap.size,9,none⟩=some (.int .i64 x.ce.s):=pA.2.1 9 _ rfl;have d9:W.cell? ⟨w.heap.size+1,9,none⟩=some (.int .i64 y.ce.s):=pB.2.1 9 _ rfl;have e10:W.cell? ⟨w.heap.size,10,none⟩=some (.int .i64 x.ce.r):=pA.2.1 10 _ rfl;have d10:W.cell? ⟨w.heap.size+1,10,none⟩=some (.int .i64 y.ce.r):=pB.2.1 10 _ rfl;have e11:W.cell? ⟨w.heap.size,11,none⟩=some (.int .i64 x.ce.c):=pA.2.1 11 _ rfl;have d11:W.cell? ⟨w.heap.size+1,11,none⟩=some (.int .i64 y.ce.c):=pB.2.1 11 _ rfl;have e12:W.cell? ⟨w.heap.size,12,none⟩=some (.int .i64 x.ar.s):=pA.2.1 12 _ rfl;have d12:W.cell? ⟨w.heap.size+1,12,none⟩=some (.int .i64 y.ar.s):=pB.2.1 12 _ rfl;have e13:W.cell? ⟨w.heap.size,13,none⟩=some (.int .i64 x.ar.t):=pA.2.1 13 _ rfl;have d13:W.cell? ⟨w.heap.size+1,13,none⟩=some (.int .i64 y.ar.t):=pB.2.1 13 _ rfl;have e14:W.cell? ⟨w.heap.size,14,none⟩=some (.int .i64 x.ar.l):=pA.2.1 14 _ rfl;have d14:W.cell? ⟨w.heap.size+1,14,none⟩=some (.int .i64 y.ar.l):=pB.2.1 14 _ rfl;have e15:W.cell? ⟨w.heap.size,15,none⟩=some (.int .i64 x.ar.b):=pA.2.1 15 _ rfl;have d15:W.cell? ⟨w.heap.size+1,15,none⟩=some (.int .i64 y.ar.b):=pB.2.1 15 _ rfl;have e16:W.cell? ⟨w.heap.size,16,none⟩=some (.int .i64 x.ar.r):=pA.2.1 16 _ rfl;have d16:W.cell? ⟨w.heap.size+1,16,none⟩=some (.int .i64 y.ar.r):=pB.2.1 16 _ rfl
 have e17:W.cell? ⟨w.heap.size,17,none⟩=some (.int .i64 x.pr.s):=pA.2.1 17 _ rfl;have d17:W.cell? ⟨w.heap.size+1,17,none⟩=some (.int .i64 y.pr.s):=pB.2.1 17 _ rfl;have e18:W.cell? ⟨w.heap.size,18,none⟩=some (.int .i64 x.pr.t):=pA.2.1 18 _ rfl;have d18:W.cell? ⟨w.heap.size+1,18,none⟩=some (.int .i64 y.pr.t):=pB.2.1 18 _ rfl;have e19:W.cell? ⟨w.heap.size,19,none⟩=some (.int .i64 x.pr.l):=pA.2.1 19 _ rfl;have d19:W.cell? ⟨w.heap.size+1,19,none⟩=some (.int .i64 y.pr.l):=pB.2.1 19 _ rfl;have e20:W.cell? ⟨w.heap.size,20,none⟩=some (.int .i64 x.pr.b):=pA.2.1 20 _ rfl;have d20:W.cell? ⟨w.heap.size+1,20,none⟩=some (.int .i64 y.pr.b):=pB.2.1 20 _ rfl;have e21:W.cell? ⟨w.heap.size,21,none⟩=some (.int .i64 x.pr.r):=pA.2.1 21 _ rfl;have d21:W.cell? ⟨w.heap.size+1,21,none⟩=some (.int .i64 y.pr.r):=pB.2.1 21 _ rfl;have e22:W.cell? ⟨w.heap.size,22,none⟩=some t1:=pA.2.1 22 _ rfl;have d22:W.cell? ⟨w.heap.size+1,22,none⟩=some t2:=pB.2.1 22 _ rfl;clear pA pB;by_cases h_a:x.a=y.a
 ·by_cases h_b:x.b=y.b
  ·cases qv with
   | false =>
    go_wp2;go_ret;exact ⟨by simp [smI,HV.out,HC.out,HR.out,HP.out],(clB hB)⟩
   | true =>
    cases qc with
    | false =>
     go_wp2;go_ret;exact ⟨by simp [smI,HV.out,HC.out,HR.out,HP.out],(clB hB)⟩
    | true =>
     cases qr with
     | false =>
      go_wp2;go_ret;exact ⟨by simp [smI,HV.out,HC.out,HR.out,HP.out],(clB hB)⟩
     | true =>
      cases qp with
      | false =>
       go_wp2;go_ret;exact ⟨by simp [smI,HV.out,HC.out,HR.out,HP.out],(clB hB)⟩
      | true =>
       go_wp2_with fail
       refine (Z _ (Below.refl _ _)).mono ?_;rintro e w1 ⟨rfl,hb1⟩;have hB1:=zAB hB hb1;go_wp2;go_ret;exact ⟨by simp [smI,h_a,h_b,HV.out,HC.out,HR.out,HP.out],(clB hB1)⟩
  ·go_wp2;go_ret;exact ⟨by simp [smI,h_a,h_b],(clB hB)⟩
 ·go_wp2;go_ret;exact ⟨by simp [smI,h_a],(clB hB)⟩
def v0I:Wt.Vl:=⟨0,0,0,⟨#[]⟩,false,0⟩
def c0I:Wpl.Cl:=⟨0,0,0⟩
def a0I:Wpl.Ar:=⟨0,0,0,0,0⟩
def zAG (k:Int):Wc.In:=⟨k,0,0,v0I,c0I,a0I,a0I⟩
abbrev zAH:Value:=.slice none 0 0
abbrev zAX (w:World) (x:Wc.In) (tv:Value):World:=(w.alloc (.cells (zAD x tv).toArray 48)).alloc (.cells #[.int .i64 0,.int .i64 0,.int .i64 0,.int .i64 0,.int .i64 0,.int .i64 0,.string ⟨#[]⟩,.bool false,.int .i64 0,.int .i64 0,.int .i64 0,.int .i64 0,.int .i64 0,.int .i64 0,.int .i64 0,.int .i64 0,.int .i64 0,.int .i64 0,.int .i64 0,.int .i64 0,.int .i64 0,.int .i64 0,.slice none 0 0] 48)
theorem zG6 (x:Wc.In) (av:Option Addr) (n c:Nat):∀ v ∈ zAD x (.slice av n c),v.oneCell'=true:=by
 intro v hv;simp only [zAD,List.mem_cons,List.not_mem_nil,or_false] at hv;rcases hv with rfl | rfl | rfl | rfl | rfl | rfl | rfl | rfl | rfl | rfl | rfl | rfl | rfl | rfl | rfl | rfl | rfl | rfl | rfl | rfl | rfl | rfl | rfl <;> rfl
theorem zAf (x:Wc.In) (av:Option Addr) (n c:Nat):(zAD x (.slice av n c)).toArray.all (·.oneCell')=true:=all_oneCell_toArray (zG6 x av n c)
abbrev zP1 (ka kb:Nat) (x:Wc.In) (tv:Value) (W:World):Prop :=
 W.cell? ⟨ka,3,none⟩=some (.int .i64 x.v.k)/\W.cell? ⟨ka,4,none⟩=some (.int .i64 x.v.n)/\W.cell? ⟨ka,5,none⟩=some (.int .i64 x.v.d)/\W.cell? ⟨ka,6,none⟩=some (.string x.v.t)/\W.cell? ⟨ka,7,none⟩=some (.bool x.v.b)/\W.cell? ⟨ka,8,none⟩=some (.int .i64 x.v.f)/\W.frozen? ⟨kb,3,none⟩=false/\W.frozen? ⟨kb,4,none⟩=false/\W.frozen? ⟨kb,5,none⟩=false/\W.frozen? ⟨kb,6,none⟩=false/\W.frozen? ⟨kb,7,none⟩=false/\W.frozen? ⟨kb,8,none⟩=false
theorem zEo {y:Wc.In} {tu:Value} (h0:AtL W ka (zAD x tv)) (h1:AtL W kb (zAD y tu)):zP1 ka kb x tv W :=
 ⟨h0.2.1 3 _ rfl,h0.2.1 4 _ rfl,h0.2.1 5 _ rfl,h0.2.1 6 _ rfl,h0.2.1 7 _ rfl,h0.2.1 8 _ rfl,h1.2.2 3 (by show 3<23;decide),h1.2.2 4 (by show 4<23;decide),h1.2.2 5 (by show 5<23;decide),h1.2.2 6 (by show 6<23;decide),h1.2.2 7 (by show 7<23;decide),h1.2.2 8 (by show 8<23;decide)⟩
theorem zBo (h:zP1 ka kb x tv W) (hne:kb ≠ ka) (j:Nat) (u:Value):zP1 ka kb x tv (W.setCell ⟨kb,j,none⟩ u):=by
 obtain ⟨h3,h4,h5,h6,h7,h8,g3,g4,g5,g6,g7,g8⟩:=h;refine ⟨?_,?_,?_,?_,?_,?_,?_,?_,?_,?_,?_,?_⟩;any_goals rw [World.cell?_setCell_far _ _ _ _ (by simpa using hne)];assumption
 all_goals rw [World.frozen?_setCell];assumption
theorem zKz (x:Wc.In) (av:Option Addr) (n c:Nat) (tl:List Int) (w:World) (hk:x.op=1) (hz:RdZ w (.slice av n c) tl) (hl:tl.length<=1000000) (h1:-9223372036854775808<=x.v.n) (h2:x.v.n<=9223372036854775807) (h3:-9223372036854775808<=x.v.d) (h4:x.v.d<=9223372036854775807) (hs:x.v.t.size<=9223372036854775807) :
  CR 50 #[inV x (.slice av n c)] w (.bool (Wv.right x.v.k x.v.n x.v.d x.v.t x.v.b x.v.f && (smI x ⟨1,0,0,x.v,c0I,a0I,a0I⟩ && decide (tl=[])))):=by
 have C:=(λw=>zDQ x.v w h1 h2 h3 h4 hs:∀ w:World,CR 69 #[.agg #[.int .i64 x.v.k,.int .i64 x.v.n,.int .i64 x.v.d,.string x.v.t,.bool x.v.b,.int .i64 x.v.f]] w (.bool (Wv.right x.v.k x.v.n x.v.d x.v.t x.v.b x.v.f)))
 have CS:∀ w',Below w.heap.size w w'->Calls prog 74 #[.agg (zAD x (.slice av n c)).toArray,.agg (zAD ⟨1,0,0,x.v,c0I,a0I,a0I⟩ zAH).toArray] w' λe w''=>e=.returned (.bool (smI x ⟨1,0,0,x.v,c0I,a0I,a0I⟩ && decide (tl=[])))/\Below w'.heap.size w' w'':=λw' hb=>zA5 x ⟨1,0,0,x.v,c0I,a0I,a0I⟩ _ _ tl [] w' (hz.below hb) (RdZ.nil _) hl (by first | exact hl | simp)
 obtain ⟨tv,htv⟩:∃ tv,Value.slice av n c=tv:=⟨_,rfl⟩
 rw [htv] at CS ⊢;generalize (smI x ⟨1,0,0,x.v,c0I,a0I,a0I⟩ && decide (tl=[]))=R at *;generalize Wv.right x.v.k x.v.n x.v.d x.v.t x.v.b x.v.f=q at *;have pA0:AtL (zAX w x tv) w.heap.size (zAD x tv):=(AtL.new0 w _ _).alloc _;have pO0:AtL (zAX w x tv) (w.heap.size+1) (zAD (zAG 0) zAH):=AtL.new1 w _ _ _;have hth:World.there (zAX w x tv) (w.heap.size+1) 0 (zAD (zAG 1) zAH).toArray.size:=pO0.there;have hne:w.heap.size+1 ≠ w.heap.size:=by omega
 have pA:=pA0.farAll hne 0 (zAD (zAG 1) zAH);have pO:AtL ((zAX w x tv).setCells (w.heap.size+1) 0 (zAD (zAG 1) zAH)) (w.heap.size+1) (zAD (zAG 1) zAH):=pO0.setAll rfl;have hBa:Below w.heap.size w ((zAX w x tv).setCells (w.heap.size+1) 0 (zAD (zAG 1) zAH)):=zAs (zAL (zAL (Below.refl _ w) _) _) (Nat.le_succ _) _ 0;clear pA0 pO0;have n0:(zAD x tv)[0]? = some (.int .i64 1):=by rw [<-hk];rfl
 have a0:World.cell? ((zAX w x tv).setCells (w.heap.size+1) 0 (zAD (zAG 1) zAH)) ⟨w.heap.size,0,none⟩=some (.int .i64 1):=pA.2.1 0 _ n0;show Calls _ _ #[.agg (zAD x tv).toArray] _ _
 have hS:zP1 w.heap.size (w.heap.size+1) x tv ((zAX w x tv).setCells (w.heap.size+1) 0 (zAD (zAG 1) zAH)):=zEo pA pO;clear hz hl htv;cases q
 all_goals
  go_enter func50,ntmps50;go_upto_region 1 with fail
  go_upto_region 2 with ((with_reducible refine wpList_store_mid ?_ 48 (.tmp 3) (.tmp 7) ?_ (w.heap.size+1) 0 (zAD (zAG 1) zAH).toArray ?_ ?_ ?_ ?_ ?_ ?_);rfl;rfl;rfl;rfl;exact hth;kernel_rfl;exact zAf _ _ _ _)
  generalize (zAX w x tv).setCells (w.heap.size+1) 0 (zAD (zAG 1) zAH)=W0 at *;clear hth;go_upto_region 4 with fail
  go_region_held3 (zP1 w.heap.size (w.heap.size+1) x tv)
   (with_reducible first | exact hS | assumption | exact zEo pA1 pO1 | exact (zBo (zBo (zBo (zBo (zBo (zBo (by assumption) (by omega) _ _) (by omega) _ _) (by omega) _ _) (by omega) _ _) (by omega) _ _) (by omega) _ _) | exact zEo (AtL.drew pA) (AtL.drew pO))
   (first | (go_at_call 69;refine (C _).mono ?_;rintro e w1 ⟨rfl,hb⟩;have pA1:=AtL.below hb (AtL.drew pA);have pO1:=AtL.below hb (AtL.drew pO);have o3:=pO1.2.1 3 _ rfl;have o4:=pO1.2.1 4 _ rfl;have o5:=pO1.2.1 5 _ rfl;have o6:=pO1.2.1 6 _ rfl;have o7:=pO1.2.1 7 _ rfl;have o8:=pO1.2.1 8 _ rfl;have hB1:=zAB hBa.drew hb))
  all_goals
   clear pA pO hS C hBa o3 o4 o5 o6 o7 o8 a0;have pA2:AtL ((((((w1.setCell ⟨w.heap.size+1,3,none⟩ (.int .i64 x.v.k)).setCell ⟨w.heap.size+1,4,none⟩ (.int .i64 x.v.n)).setCell ⟨w.heap.size+1,5,none⟩ (.int .i64 x.v.d)).setCell ⟨w.heap.size+1,6,none⟩ (.string x.v.t)).setCell ⟨w.heap.size+1,7,none⟩ (.bool x.v.b)).setCell ⟨w.heap.size+1,8,none⟩ (.int .i64 x.v.f)) w.heap.size (zAD x tv):=((((((pA1.far hne 3 (.int .i64 x.v.k)).far hne 4 (.int .i64 x.v.n)).far hne 5 (.int .i64 x.v.d)).far hne 6 (.string x.v.t)).far hne 7 (.bool x.v.b)).far hne 8 (.int .i64 x.v.f))
   have pO2:AtL ((((((w1.setCell ⟨w.heap.size+1,3,none⟩ (.int .i64 x.v.k)).setCell ⟨w.heap.size+1,4,none⟩ (.int .i64 x.v.n)).setCell ⟨w.heap.size+1,5,none⟩ (.int .i64 x.v.d)).setCell ⟨w.heap.size+1,6,none⟩ (.string x.v.t)).setCell ⟨w.heap.size+1,7,none⟩ (.bool x.v.b)).setCell ⟨w.heap.size+1,8,none⟩ (.int .i64 x.v.f)) (w.heap.size+1) (zAD ⟨1,0,0,x.v,c0I,a0I,a0I⟩ zAH):=((((((pO1.set 3 (.int .i64 x.v.k)).set 4 (.int .i64 x.v.n)).set 5 (.int .i64 x.v.d)).set 6 (.string x.v.t)).set 7 (.bool x.v.b)).set 8 (.int .i64 x.v.f))
   have hB2:Below w.heap.size w ((((((w1.setCell ⟨w.heap.size+1,3,none⟩ (.int .i64 x.v.k)).setCell ⟨w.heap.size+1,4,none⟩ (.int .i64 x.v.n)).setCell ⟨w.heap.size+1,5,none⟩ (.int .i64 x.v.d)).setCell ⟨w.heap.size+1,6,none⟩ (.string x.v.t)).setCell ⟨w.heap.size+1,7,none⟩ (.bool x.v.b)).setCell ⟨w.heap.size+1,8,none⟩ (.int .i64 x.v.f)):=(clB hB1)
   clear pA1 pO1 hB1;generalize ((((((w1.setCell ⟨w.heap.size+1,3,none⟩ (.int .i64 x.v.k)).setCell ⟨w.heap.size+1,4,none⟩ (.int .i64 x.v.n)).setCell ⟨w.heap.size+1,5,none⟩ (.int .i64 x.v.d)).setCell ⟨w.heap.size+1,6,none⟩ (.string x.v.t)).setCell ⟨w.heap.size+1,7,none⟩ (.bool x.v.b)).setCell ⟨w.heap.size+1,8,none⟩ (.int .i64 x.v.f))=W2 at *;have rA:=pA2.range;have rO:=pO2.range;clear pA2 pO2;go_wp2_with (first | ((with_reducible refine zAA ?_ 48 (.tmp 1) ?_ w.heap.size 0 ?_ (zAD x tv) _ ?_ underlying48 ?_ ?_ ?_);rfl;rfl;rfl;exact rA;rfl;kernel_rfl) | ((with_reducible refine zAA ?_ 48 (.tmp 3) ?_ (w.heap.size+1) 0 ?_ (zAD ⟨1,0,0,x.v,c0I,a0I,a0I⟩ zAH) _ ?_ underlying48 ?_ ?_ ?_);rfl;rfl;rfl;exact rO;rfl;kernel_rfl) | (go_at_call 74;refine (CS _ hB2).mono ?_;rintro e w3 ⟨rfl,hb3⟩;have hB3:=zAB hB2 hb3))
   go_wp2;go_ret;first
   | exact ⟨by simp,hB2⟩
   | exact ⟨by simp,hB3⟩
end Go.Proofs.YtnloiaoogofklaaGreatDoor
namespace Go.Proofs.YtnloiaoogofklaaGreatDoor.Wf
open Go.Proofs.YtnloiaoogofklaaGreatDoor
def idx (s:ByteArray):List ByteArray->Nat->Int
 | [],_=>-1
 | t::r,i=>if t=s then (i:Int) else idx s r (i+1)
def shN (own:Int) (nm:List ByteArray) (s:ByteArray):Int:=if s=⟨#[]⟩ then own else idx s nm 0
def zBy (x:Wt.Nd):Wpl.Ar:=⟨0,min x.a.r x.b.r,min x.a.c x.b.c,max x.a.r x.b.r,max x.a.c x.b.c⟩
def zA8 (own:Int) (nm:List ByteArray) (x:Wt.Nd):Wpl.Ar:={zBy x with s:=shN own nm x.a.s}
def zHB (own:Int) (nm:List ByteArray) (x:Wt.Nd):Wpl.Cl:=⟨shN own nm x.a.s,x.a.r,x.a.c⟩
def isA (x:Wt.Nd):Bool:=x.k == 3
def zAe (s:ByteArray):Nat:=fnN.findIdx (λl=>decide ((⟨l.toArray⟩:ByteArray)=s))
def zAh (p:List UInt8):List Wt.Nd->Nat->Bool
 | [],_=>true
 | x::r,i=>if (p.getD (min i (p.length - 1)) 0 == 97 && !isA x) || (p.getD (min i (p.length - 1)) 0 == 118 && isA x) then false else zAh p r (i+1)
def zAr (l:List Wt.Nd):List Wt.Nd:=l.filter isA
def zBF (id:Int) (l:List Wt.Nd):Bool :=
 if Wc.pairs id then
  let a:=zBy ((zAr l).headD ⟨0,v0I,0,⟨#[]⟩,0,Wt.r0,Wt.r0⟩)
  let b:=zBy ((zAr l).getLastD ⟨0,v0I,0,⟨#[]⟩,0,Wt.r0,Wt.r0⟩)
  (a.b - a.t == b.b - b.t) && (a.r - a.l == b.r - b.l)
 else true
def zHF (x:Wt.Nd) (ks:List Wt.Nd):Int :=
 let id:Int:=(zAe x.nm:Nat)
 if zAx id=false then 80
 else if x.ar<(zAO id).l \/ (zAO id).m<x.ar then 81
 else if zAh (zAO id).p.data.toList ks 0=false then 82
 else if zBF id ks=false then 83 else 0
def zDD (own:Int) (nm:List ByteArray) (x:Wt.Nd) (ks:List Wt.Nd):Int :=
 if x.k=2 \/ x.k=3 then (if shN own nm x.a.s<0 then 84 else 0)
 else if x.k=4 \/ x.k=5 then (if ks.any isA then 82 else 0)
 else if x.k=6 then zHF x ks else 0
def zPL:List Int->Int
 | []=>0
 | a::r=>if a=0 then zPL r else a
def zCA (own:Int) (nm:List ByteArray):(n:Nat)->Tr n->Int
 | 0,t=>Empty.elim t
 | n+1,t=>zPL (zDD own nm (Br.x t) ((Br.ks t).map (hd n))::(Br.ks t).map (zCA own nm n))
abbrev I:=Wc.In × List Int
def ins (o a b:Int):I:=(⟨o,a,b,v0I,c0I,a0I,a0I⟩,[])
def zBd (v:Wt.Vl):I:=(⟨1,0,0,v,c0I,a0I,a0I⟩,[])
def zGw (c:Wpl.Cl):I:=(⟨2,0,0,v0I,c,a0I,a0I⟩,[])
def zAv (o b:Int) (a p:Wpl.Ar):I:=(⟨o,0,b,v0I,c0I,a,p⟩,[])
def zDJ (k:Int):Wt.Vl:=⟨1,k,1,⟨#[]⟩,false,0⟩
def zLk:Wt.Vl:=⟨3,0,0,⟨#[]⟩,false,0⟩
def zA6 {α:Type} (f:α->Nat->List I):List α->Nat->List I
 | [],_=>[]
 | k::r,a=>f k a++zA6 f r (a+(f k a).length)
def zAm {α:Type} (f:α->Nat->List I) (k:α) (a:Nat):List I:=f k a++[ins 7 0 0]
section
variable (own:Int) (nm:List ByteArray)
def zC2 {α:Type} (h:α->Wt.Nd) (f:α->Nat->List I) (k:α) (a:Nat):List I :=
 if isA (h k) then [zAv 8 0 (zA8 own nm (h k)) a0I] else zAm f k a
def zDL {α:Type} (h:α->Wt.Nd) (f:α->Nat->List I) (id:Int) (ks:List α) (a:Nat):List I :=
 let ars:=zAr (ks.map h)
 let vs:=ks.filter (λk=>!isA (h k))
 let x:=zA8 own nm (ars.headD ⟨0,v0I,0,⟨#[]⟩,0,Wt.r0,Wt.r0⟩)
 let y:=zA8 own nm (ars.getLastD ⟨0,v0I,0,⟨#[]⟩,0,Wt.r0,Wt.r0⟩)
 if id=26 then [zBd (zDJ (x.b - x.t+1))]
 else if id=27 then [zBd (zDJ (x.r - x.l+1))]
 else if id=25 then zA6 f vs a++[zAv 11 vs.length x a0I]
 else ins 6 id 0::(zA6 (zAm f) vs (a+1)++[if Wc.pairs id then zAv 9 0 x y else zAv 8 0 x a0I,ins 10 0 0])
def zDM {α:Type} (f:α->Nat->List I) (yes:α) (no:List α) (a:Nat):List I :=
 let y:=f yes (a+1)
 let m:=a+1+y.length+1
 let z:=if no.isEmpty then [zBd zLk] else zA6 f no m
 ins 12 m (m+z.length:Nat)::(y++ins 13 (m+z.length:Nat) 0::z)
def chB {α:Type} (f:α->Nat->List I) (e:Int):List α->Nat->List I
 | [],_=>[]
 | k::r,a=>ins 13 e 0::(f k (a+1)++chB f e r (a+1+(f k (a+1)).length))
def chT {α:Type} (f:α->Nat->List I):List α->Nat->List Int
 | [],_=>[]
 | k::r,a=>((a+1:Nat):Int)::chT f r (a+1+(f k (a+1)).length)
def zCM {α:Type} (f:α->Nat->List I) (l:List α) (a:Nat):List I :=
 match l with
 | []=>[(⟨15,0,(a+1:Nat),v0I,c0I,a0I,a0I⟩,[])]
 | k::r =>
  let y:=f k (a+1)
  let m:=a+1+y.length
  let e:=m+(chB f 0 r m).length
  (⟨15,0,(e:Nat),v0I,c0I,a0I,a0I⟩,((a+1:Nat):Int)::chT f r m)::(y++chB f e r m)
def zCi {α:Type} (f:α->Nat->List I) (id:Int) (ks:List α) (a:Nat):List I :=
 match ks with
 | []=>[]
 | c::r =>
  let y:=f c a
  y++(match r with
   | []=>if id=32 then zCM f [] (a+y.length) else []
   | u::no=>if id=30 then zDM f u no (a+y.length)
    else if id=31 then ins 14 (a+y.length+1+(f u (a+y.length+1)).length:Nat) 0::f u (a+y.length+1)
    else zCM f (u::no) (a+y.length))
def zDN {α:Type} (h:α->Wt.Nd) (f:α->Nat->List I) (x:Wt.Nd) (ks:List α) (a:Nat):List I :=
 let id:Int:=(zAe x.nm:Nat)
 let c:=(zAO id).c
 if c=4 then zA6 f ks a++[ins 5 id x.ar]
 else if c=1 then ins 6 id 0::(zA6 (zC2 own nm h f) ks (a+1)++[ins 10 0 0])
 else if c=2 then zDL own nm h f id ks a
 else zCi f id ks a
def zBY {α:Type} (h:α->Wt.Nd) (f:α->Nat->List I) (x:Wt.Nd) (ks:List α) (a:Nat):List I :=
 if x.k=1 then [zBd x.v]
 else if x.k=2 then [zGw (zHB own nm x)]
 else if x.k=4 then zA6 f ks a++[ins 3 x.op 0]
 else if x.k=5 then zA6 f ks a++[ins 4 x.op 0]
 else if x.k=6 then zDN own nm h f x ks a else []
def cod:(n:Nat)->Tr n->Nat->List I
 | 0,t,_=>Empty.elim t
 | n+1,t,a=>zBY own nm (hd n) (cod n) (Br.x t) (Br.ks t) a
end
end Go.Proofs.YtnloiaoogofklaaGreatDoor.Wf
namespace Go.Proofs.YtnloiaoogofklaaGreatDoor
open Tryz
open Go.RowKit
variable {w:World} {b ck:Nat} {es:Array MapEntry} {P:Program}
theorem zG2 (id:Int) (w:World) (hN:NmAt w):CR 37 #[.int .i64 id] w (.tuple #[.agg (zDE id).toArray,.bool (zAx id)]):=by
 unfold zDE;by_cases h0:id<0
 ·have e:zAx id=false:=by unfold zAx;rw [decide_eq_false (by omega)];rfl
  rw [e];exact zK4 id w hN h0
 by_cases h1:63<=id
 ·have e:zAx id=false:=by unfold zAx;rw [decide_eq_false (p:=id<63) (by omega),Bool.false_and,Bool.and_false]
  rw [e];exact zKt id w hN h1
 by_cases he:zEm id=[]
 ·have e:zAx id=false:=by unfold zAx;rw [he];simp
  rw [e];exact zKG id w hN (by omega) (by omega) he
 ·have e:zAx id=true:=by
   unfold zAx;rw [decide_eq_true (by omega),decide_eq_true (by omega)];cases hx:zEm id with
   | nil=>exact absurd hx he
   | cons a t=>rfl
  rw [e,if_pos rfl];exact zNh id w hN (by omega) (by omega) he
def apl (id n:Int):Bool:=zAx id && ((zAO id).c == 4 && (decide ((zAO id).l<=n) && decide (n<=(zAO id).m)))
theorem zFZ (id n:Int) (w:World) (hN:NmAt w):CR 70 #[.int .i64 id,.int .i64 n] w (.bool (apl id n)):=by
 have BY:=zG2 id w hN;unfold zDE at BY;unfold apl;cases hk:zAx id with
 | false =>
  rw [hk,if_neg (by simp)] at BY;unfold zero6 at BY;clear hk hN;go_enter func70,ntmps70;go_wp2_with fail
  refine BY.mono ?_;rintro e w1 ⟨rfl,hb1⟩;have pZ:=AtL.new0 w1 66 (sg6 0 0 ⟨#[]⟩ 0 0 ⟨#[]⟩);have hB1:=zAL hb1 (.cells (sg6 0 0 ⟨#[]⟩ 0 0 ⟨#[]⟩).toArray 66);obtain ⟨b0,b1,b2,b3,b4,b5,k0,k1,k2,k3,k4,k5⟩:=at6 pZ;clear BY;go_wp2;go_ret;exact ⟨by simp,(clB hb1)⟩
 | true =>
  rw [hk,if_pos rfl] at BY;clear hk hN;generalize zAO id=s at *;generalize (⟨(zEm id).toArray⟩:ByteArray)=nm at *;cases h4:(s.c == 4) with
  | false =>
   go_enter func70,ntmps70;go_wp2_with fail
   refine BY.mono ?_;rintro e w1 ⟨rfl,hb1⟩;have pZ:=AtL.new0 w1 66 (sg6 0 0 ⟨#[]⟩ 0 0 ⟨#[]⟩);have hB1:=zAL hb1 (.cells (sg6 0 0 ⟨#[]⟩ 0 0 ⟨#[]⟩).toArray 66);have hth:World.there (w1.alloc (.cells (sg6 0 0 ⟨#[]⟩ 0 0 ⟨#[]⟩).toArray 66)) w1.heap.size 0 (sg6 id s.c nm s.l s.m s.p).toArray.size:=pZ.there;clear BY;go_upto_region 2 with ((with_reducible refine wpList_store_mid ?_ 66 (.tmp 5) (.tmp 10) ?_ (w1.heap.size) 0 (sg6 id s.c nm s.l s.m s.p).toArray ?_ ?_ ?_ ?_ ?_ ?_);rfl;rfl;rfl;rfl;exact hth;kernel_rfl;exact zO4 _ _ _ _ _ _)
   have pZ9:AtL ((w1.alloc (.cells (sg6 0 0 ⟨#[]⟩ 0 0 ⟨#[]⟩).toArray 66)).setCells w1.heap.size 0 (sg6 id s.c nm s.l s.m s.p)) w1.heap.size (sg6 id s.c nm s.l s.m s.p):=pZ.setAll rfl;have hB9:Below w.heap.size w ((w1.alloc (.cells (sg6 0 0 ⟨#[]⟩ 0 0 ⟨#[]⟩).toArray 66)).setCells w1.heap.size 0 (sg6 id s.c nm s.l s.m s.p)):=zAs hB1 hb1.size _ 0;generalize World.setCells (w1.alloc (.cells (sg6 0 0 ⟨#[]⟩ 0 0 ⟨#[]⟩).toArray 66)) w1.heap.size 0 (sg6 id s.c nm s.l s.m s.p)=W9 at *;obtain ⟨b0,b1,b2,b3,b4,b5,k0,k1,k2,k3,k4,k5⟩:=at6 pZ9;go_wp2;go_ret;exact ⟨by simp,hB9⟩
  | true =>
   by_cases hl:s.l<=n
   ·by_cases hm:n<=s.m
    ·go_enter func70,ntmps70;go_wp2_with fail
     refine BY.mono ?_;rintro e w1 ⟨rfl,hb1⟩;have pZ:=AtL.new0 w1 66 (sg6 0 0 ⟨#[]⟩ 0 0 ⟨#[]⟩);have hB1:=zAL hb1 (.cells (sg6 0 0 ⟨#[]⟩ 0 0 ⟨#[]⟩).toArray 66);have hth:World.there (w1.alloc (.cells (sg6 0 0 ⟨#[]⟩ 0 0 ⟨#[]⟩).toArray 66)) w1.heap.size 0 (sg6 id s.c nm s.l s.m s.p).toArray.size:=pZ.there;clear BY;go_upto_region 2 with ((with_reducible refine wpList_store_mid ?_ 66 (.tmp 5) (.tmp 10) ?_ (w1.heap.size) 0 (sg6 id s.c nm s.l s.m s.p).toArray ?_ ?_ ?_ ?_ ?_ ?_);rfl;rfl;rfl;rfl;exact hth;kernel_rfl;exact zO4 _ _ _ _ _ _)
     have pZ9:AtL ((w1.alloc (.cells (sg6 0 0 ⟨#[]⟩ 0 0 ⟨#[]⟩).toArray 66)).setCells w1.heap.size 0 (sg6 id s.c nm s.l s.m s.p)) w1.heap.size (sg6 id s.c nm s.l s.m s.p):=pZ.setAll rfl;have hB9:Below w.heap.size w ((w1.alloc (.cells (sg6 0 0 ⟨#[]⟩ 0 0 ⟨#[]⟩).toArray 66)).setCells w1.heap.size 0 (sg6 id s.c nm s.l s.m s.p)):=zAs hB1 hb1.size _ 0;generalize World.setCells (w1.alloc (.cells (sg6 0 0 ⟨#[]⟩ 0 0 ⟨#[]⟩).toArray 66)) w1.heap.size 0 (sg6 id s.c nm s.l s.m s.p)=W9 at *;obtain ⟨b0,b1,b2,b3,b4,b5,k0,k1,k2,k3,k4,k5⟩:=at6 pZ9;go_wp2;go_ret;exact ⟨by simp [hl,hm],hB9⟩
    ·go_enter func70,ntmps70;go_wp2_with fail
     refine BY.mono ?_;rintro e w1 ⟨rfl,hb1⟩;have pZ:=AtL.new0 w1 66 (sg6 0 0 ⟨#[]⟩ 0 0 ⟨#[]⟩);have hB1:=zAL hb1 (.cells (sg6 0 0 ⟨#[]⟩ 0 0 ⟨#[]⟩).toArray 66);have hth:World.there (w1.alloc (.cells (sg6 0 0 ⟨#[]⟩ 0 0 ⟨#[]⟩).toArray 66)) w1.heap.size 0 (sg6 id s.c nm s.l s.m s.p).toArray.size:=pZ.there;clear BY;go_upto_region 2 with ((with_reducible refine wpList_store_mid ?_ 66 (.tmp 5) (.tmp 10) ?_ (w1.heap.size) 0 (sg6 id s.c nm s.l s.m s.p).toArray ?_ ?_ ?_ ?_ ?_ ?_);rfl;rfl;rfl;rfl;exact hth;kernel_rfl;exact zO4 _ _ _ _ _ _)
     have pZ9:AtL ((w1.alloc (.cells (sg6 0 0 ⟨#[]⟩ 0 0 ⟨#[]⟩).toArray 66)).setCells w1.heap.size 0 (sg6 id s.c nm s.l s.m s.p)) w1.heap.size (sg6 id s.c nm s.l s.m s.p):=pZ.setAll rfl;have hB9:Below w.heap.size w ((w1.alloc (.cells (sg6 0 0 ⟨#[]⟩ 0 0 ⟨#[]⟩).toArray 66)).setCells w1.heap.size 0 (sg6 id s.c nm s.l s.m s.p)):=zAs hB1 hb1.size _ 0;generalize World.setCells (w1.alloc (.cells (sg6 0 0 ⟨#[]⟩ 0 0 ⟨#[]⟩).toArray 66)) w1.heap.size 0 (sg6 id s.c nm s.l s.m s.p)=W9 at *;obtain ⟨b0,b1,b2,b3,b4,b5,k0,k1,k2,k3,k4,k5⟩:=at6 pZ9;go_wp2;go_ret;exact ⟨by simp [hl],hB9⟩
   ·go_enter func70,ntmps70;go_wp2_with fail
    refine BY.mono ?_;rintro e w1 ⟨rfl,hb1⟩;have pZ:=AtL.new0 w1 66 (sg6 0 0 ⟨#[]⟩ 0 0 ⟨#[]⟩);have hB1:=zAL hb1 (.cells (sg6 0 0 ⟨#[]⟩ 0 0 ⟨#[]⟩).toArray 66);have hth:World.there (w1.alloc (.cells (sg6 0 0 ⟨#[]⟩ 0 0 ⟨#[]⟩).toArray 66)) w1.heap.size 0 (sg6 id s.c nm s.l s.m s.p).toArray.size:=pZ.there;clear BY;go_upto_region 2 with ((with_reducible refine wpList_store_mid ?_ 66 (.tmp 5) (.tmp 10) ?_ (w1.heap.size) 0 (sg6 id s.c nm s.l s.m s.p).toArray ?_ ?_ ?_ ?_ ?_ ?_);rfl;rfl;rfl;rfl;exact hth;kernel_rfl;exact zO4 _ _ _ _ _ _)
    have pZ9:AtL ((w1.alloc (.cells (sg6 0 0 ⟨#[]⟩ 0 0 ⟨#[]⟩).toArray 66)).setCells w1.heap.size 0 (sg6 id s.c nm s.l s.m s.p)) w1.heap.size (sg6 id s.c nm s.l s.m s.p):=pZ.setAll rfl;have hB9:Below w.heap.size w ((w1.alloc (.cells (sg6 0 0 ⟨#[]⟩ 0 0 ⟨#[]⟩).toArray 66)).setCells w1.heap.size 0 (sg6 id s.c nm s.l s.m s.p)):=zAs hB1 hb1.size _ 0;generalize World.setCells (w1.alloc (.cells (sg6 0 0 ⟨#[]⟩ 0 0 ⟨#[]⟩).toArray 66)) w1.heap.size 0 (sg6 id s.c nm s.l s.m s.p)=W9 at *;obtain ⟨b0,b1,b2,b3,b4,b5,k0,k1,k2,k3,k4,k5⟩:=at6 pZ9;go_wp2;go_ret;exact ⟨by simp;omega,hB9⟩
def FoldL (w:World) (b o:Nat) (F:List (Int × Int)):Prop:=∃ av cap,w.cell? ⟨b,o,none⟩=some (.slice av F.length cap)/\∀ i (h:i<F.length),∃ bb off,av=some ⟨bb,off,none⟩/\w.cell? ⟨bb,off+i * 2,none⟩=some (.int .i64 (F[i]).1)/\w.cell? ⟨bb,off+i * 2+1,none⟩=some (.int .i64 (F[i]).2)
theorem FoldL.below {w':World} {o:Nat} {F:List (Int × Int)} (h:FoldL w b o F) (hb:Below w.heap.size w w'):FoldL w' b o F:=by
 obtain ⟨av,cap,h1,h2⟩:=h;refine ⟨av,cap,zAC hb h1,λi hi=>?_⟩;obtain ⟨bb,off,e,h3,h4⟩:=h2 i hi;exact ⟨bb,off,e,zAC hb h3,zAC hb h4⟩
theorem zHZ (b o:Nat) (w:World):CR 109 #[.pointer (some ⟨b,o,none⟩),.int .i64 0] w (.tuple #[.agg #[.int .i64 0,.int .i64 0],.bool false]):=by
 have pZ:=AtL.new0 w 177 [.int .i64 0,.int .i64 0];have hB:=zAL (Below.refl _ w) (.cells #[.int .i64 0,.int .i64 0] 177);obtain ⟨b0,b1,k0,k1⟩:=pZ.two;clear pZ;go_enter func109,ntmps109;go_upto_region 1 with fail
 generalize (w.alloc (.cells #[.int .i64 0,.int .i64 0] 177))=W at *;go_wp2;refine bodyPost_ret (v:=.tuple #[.agg #[.int .i64 0,.int .i64 0],.bool false]) (by simp [results,results109,go_sem,b0,b1]) rfl ⟨rfl,(clB hB)⟩
theorem zLE (b o:Nat) (F:List (Int × Int)) (i:Nat) (w:World) (hF:FoldL w b o F) (hi:i<F.length) (hl:F.length<=1000000):CR 109 #[.pointer (some ⟨b,o,none⟩),.int .i64 ((i:Int)+1)] w (.tuple #[.agg #[.int .i64 (F[i]).1,.int .i64 (F[i]).2],.bool true]):=by
 have pZ:=AtL.new0 w 177 [.int .i64 0,.int .i64 0];have hB:=zAL (Below.refl _ w) (.cells #[.int .i64 0,.int .i64 0] 177);obtain ⟨av,cap,h1,h2⟩:=hF.below hB;obtain ⟨bb,off,rfl,h3,h4⟩:=h2 i hi;obtain ⟨b0,b1,k0,k1⟩:=pZ.two;have n0:((i:Int)+1 == 0)=false:=by simp;omega
 have w1:IntKind.i64.wrap ((i:Int)+1 - 1)=(i:Int):=by rw [IntKind.wrap_i64];omega
 have w2:IntKind.i64.wrap (i:Int)=(i:Int):=by rw [IntKind.wrap_i64];omega
 have l0:(0:Int)<=(i:Int):=by omega
 have l1:(i:Int)<(F.length:Int):=by omega
 generalize (F[i]).1=x at *;generalize (F[i]).2=y at *;clear pZ h2 hF hi hl;go_enter func109,ntmps109;go_upto_region 1 with fail
 generalize (w.alloc (.cells #[.int .i64 0,.int .i64 0] 177))=W at *;go_wp2;refine bodyPost_ret (v:=.tuple #[.agg #[.int .i64 x,.int .i64 y],.bool true]) (by simp [results,results109,go_sem,b0,b1]) rfl ⟨rfl,(clB hB)⟩
def fld (id:Int):Bool:=decide ((1<=id/\id<=15) \/ (20<=id/\id<=24))
def zAE (id n k:Int):List Value:=[.int .i64 id,.int .i64 0,.int .i64 n,.int .i64 1,.int .i64 k,.int .i64 0,.int .i64 0,.string ⟨#[]⟩,.bool false,.int .i64 0,.int .i64 0,.int .i64 0,.int .i64 0,.string ⟨#[]⟩,.bool false,.int .i64 0,.bool false,.bool false,.bool false,.int .i64 0,.int .i64 0]
theorem zB0 (id n k:Int):(zAE id n k).toArray.all (·.oneCell')=true:=by
 apply all_oneCell_toArray
 intro v hv;simp only [zAE,List.mem_cons,List.not_mem_nil,or_false] at hv;rcases hv with rfl | rfl | rfl | rfl | rfl | rfl | rfl | rfl | rfl | rfl | rfl | rfl | rfl | rfl | rfl | rfl | rfl | rfl | rfl | rfl | rfl <;> rfl
open Go.ChangeMaps (setBlock heap_setBlock_same heap_setBlock_other)
open Go.ChangeShapes Go.WideShapes Go.MapKept
theorem zCv (hb:w.heap[b]? = some (.map es ck)) (o:Obj):w.grownBy (setBlock w b o) (some b) :=
 ⟨rfl,rfl,rfl,by simp [setBlock],λi _ hi=>heap_setBlock_other hb _ (λe=>hi (by rw [e]))⟩
theorem zFR {t k e:TypeId} (ht:P.underlying t=some (.map k e)) (hb:w.heap[b]? = some (.map es ck)) {key:Value} (val:Value)
  (hc:(Instr.checkKey false 10000 k key).run P w=.ok () w) (hf:(Instr.findKey k key es.toList).run P w=.ok none w) :
  (Instr.mapUpdate t (.map (some b)) key val).run P w=.ok () (setBlock w b (.map (es.push ⟨key,val,ck⟩) (ck+1))):=by
 simp [Instr.mapUpdate,run_underlying ht,MapKept.run_getObj_map hb,hc,hf,MapKept.run_setObj_map _ hb,Result.andThen,setBlock]
theorem zA1 {t k e:TypeId} (ht:P.underlying t=some (.map k e)) (hb:w.heap[b]? = some (.map es ck)) {key v:Value} {j:Nat}
  (hc:(Instr.checkKey es.isEmpty 10000 k key).run P w=.ok () w) (hf:(Instr.findKey k key es.toList).run P w=.ok (some (j,v)) w) :
  (Instr.lookup t (.map (some b)) key true).run P w=.ok (.tuple #[v,.bool true]) w:=by
 simp [Instr.lookup,run_underlying ht,MapKept.run_getObj_map hb,hc,hf,Result.andThen]
theorem zDC {t k e:TypeId} (ht:P.underlying t=some (.map k e)) (hb:w.heap[b]? = some (.map es ck)) {key z:Value}
  (hc:(Instr.checkKey es.isEmpty 10000 k key).run P w=.ok () w) (hf:(Instr.findKey k key es.toList).run P w=.ok none w) (hz:(zeroValue e).run P w=.ok z w) :
  (Instr.lookup t (.map (some b)) key true).run P w=.ok (.tuple #[z,.bool false]) w:=by
 simp [Instr.lookup,run_underlying ht,MapKept.run_getObj_map hb,hc,hf,hz,Result.andThen]
def zOK:List (Int × Nat)->Array MapEntry
 | []=>#[]
 | (k,f)::r=>(zOK r).push ⟨.int .i64 k,.func (.func f) #[] #[],r.length⟩
def KM (w:World) (b:Nat) (l:List (Int × Nat)):Prop:=w.heap[b]? = some (.map (zOK l) l.length)
theorem zCV (k:Int):∀ (l:List MapEntry) (i:Nat),(∀ e ∈ l,∃ j,e.key=.int .i64 j/\j ≠ k)->Instr.findNow (.int .i64) (.int .i64 k) l i=some none
 | [],_,_=>rfl
 | e::r,i,h=>by
  obtain ⟨j,hj,hne⟩:=h e (List.mem_cons_self ..);have hs:Instr.sameNow (.int .i64) (.int .i64 k) e.key=some false:=by
   rw [hj];simp [Instr.sameNow];omega
  simp only [Instr.findNow,hs];exact zCV k r (i+1) λe he=>h e (List.mem_cons_of_mem _ he)
theorem zEJ (k:Int):∀ l:List (Int × Nat),(∀ p ∈ l,p.1 ≠ k)->∀ e ∈ (zOK l).toList,∃ j,e.key=.int .i64 j/\j ≠ k
 | [],_,e,he=>by simp [zOK] at he
 | (q,f)::r,h,e,he=>by
  simp only [zOK,Array.toList_push,List.mem_append,List.mem_singleton] at he;rcases he with he | rfl
  ·exact zEJ k r (λp hp=>h p (List.mem_cons_of_mem _ hp)) e he
  ·exact ⟨q,rfl,h (q,f) (List.mem_cons_self ..)⟩
theorem zDH (em:Bool) (k:Int) (w:World):(Instr.checkKey em 10000 3 (.int .i64 k)).run prog w=.ok () w:=by kernel_rfl
theorem zH3 (l:List (Int × Nat)) (k:Int) (h:∀ p ∈ l,p.1 ≠ k) (w:World):(Instr.findKey 3 (.int .i64 k) (zOK l).toList).run prog w=.ok none w:=by
 have h1:=zCV k (zOK l).toList 0 (zEJ k l h);simp [Instr.findKey,go_sem,h1]
theorem zDI:prog.underlying 199=some (.map 3 197):=by kernel_rfl
theorem zFT {ops:Array Oper} {rest:List Oper} {op:Oper} {a:Act} {Q:Exit->Act->World->Prop} (hgd:op.guard=none) (m x v:Operand) (ho:op.op=.insert 199 m x v) (b:Nat) (hm:a.eval m=.map (some b)) (k:Int) (hx:a.eval x=.int .i64 k) (f:Nat) (hv:a.eval v=.func (.func f) #[] #[])
  (r:List (Int × Nat)) (h:KM w b r) (hn:∀ p ∈ r,p.1 ≠ k)
  (hK:∀ w',KM w' b ((k,f)::r)->w.grownBy w' (some b)->wpList prog ops Q rest (a.put op.dst undef) w'):wpList prog ops Q (op::rest) a w:=by
 refine wpList_plain hgd λK' hK'=>?_
 have hrun:=zFR zDI h (.func (.func f) #[] #[]) (zDH false k w) (zH3 r k hn w);unfold Oper.wp;simp [execOp,ho,hm,hx,hv,hrun,Result.andThen];exact hK' _ _ (hK _ (heap_setBlock_same h _) (zCv h _))
def kT:List (Int × Nat):=[(24,151),(23,150),(22,149),(21,148),(20,147),(15,146),(14,145),(13,144),(12,143),(11,142),(10,141),(9,140),(8,139),(7,138),(6,137),(5,136),(4,135),(3,134),(2,133),(1,132)]
theorem zAZ (w:World):Calls prog 130 #[] w λe w'=>(∃ b,e=.returned (.map (some b))/\KM w' b kT)/\Below w.heap.size w w':=by
 have hM:KM (w.alloc (.map #[] 0)) w.heap.size []:=by
  show (w.alloc (.map #[] 0)).heap[w.heap.size]? = some (.map #[] 0)
  exact Array.getElem?_push_size
 have hB:=zAL (Below.refl _ w) (.map #[] 0);have hmk:∀ w:World,(Instr.makeMap 199 none).run prog w=.ok (.map (some w.heap.size)) (w.alloc (.map #[] 0)):=λw=>by kernel_rfl
 go_enter func130,ntmps130;go_upto_region 1 with fail
 go_wp2_with (refine zFT rfl _ _ _ rfl w.heap.size rfl _ rfl _ rfl _ hM (by decide) ?_;clear hM;intro wn hM gn;replace hB:=hB.grown gn hB.size (λk e=>by cases e;exact Nat.le_refl _);clear gn)
 go_ret;exact ⟨⟨_,rfl,hM⟩,hB⟩
end Go.Proofs.YtnloiaoogofklaaGreatDoor
namespace Go.Proofs.YtnloiaoogofklaaGreatDoor.Wc
def zHD (F:List (Nat × Int)):Nat->Nat->List Int
 | 0,_=>[]
 | _+1,0=>[]
 | f+1,k+1=>match F[k]? with
  | none=>[]
  | some x=>zHD F f x.1++[x.2]
structure Rows (F:List (Nat × Int)):Prop where
 ahead:∀ (k:Nat) (x:Nat × Int),F[k]? = some x->x.1<=k
 once:∀ (i j:Nat) (x:Nat × Int),F[i]? = some x->F[j]? = some x->i=j
theorem zBV (F:List (Nat × Int)) (f:Nat):zHD F f 0=[]:=by cases f <;> rfl
theorem zAo (F:List (Nat × Int)) (f k:Nat) (x:Nat × Int) (h:F[k]? = some x):zHD F (f+1) (k+1)=zHD F f x.1++[x.2]:=by
 simp only [zHD,h]
theorem zL2 {F:List (Nat × Int)} (h:Rows F):∀ (f m n:Nat),m<=f->n<=f->m<=F.length->n<=F.length->zHD F f m=zHD F f n->m=n:=by
 intro f;induction f with
 | zero=>intro m n hm hn _ _ _;omega
 | succ f ih =>
  intro m n hm hn hmF hnF e;cases m with
  | zero =>
   cases n with
   | zero=>rfl
   | succ k =>
    obtain ⟨x,hx⟩:∃ x,F[k]? = some x:=⟨_,List.getElem?_eq_getElem (by omega)⟩
    rw [zBV,zAo F f k x hx] at e;simp at e
  | succ j =>
   obtain ⟨y,hy⟩:∃ y,F[j]? = some y:=⟨_,List.getElem?_eq_getElem (by omega)⟩
   cases n with
   | zero =>
    rw [zBV,zAo F f j y hy] at e;simp at e
   | succ k =>
    obtain ⟨x,hx⟩:∃ x,F[k]? = some x:=⟨_,List.getElem?_eq_getElem (by omega)⟩
    rw [zAo F f j y hy,zAo F f k x hx] at e;obtain ⟨e1,e2⟩:=List.append_inj' e rfl;have a1:=h.ahead j y hy;have a2:=h.ahead k x hx;have e3:=ih y.1 x.1 (by omega) (by omega) (by omega) (by omega) e1;have e4:y.2=x.2:=by simpa using e2
    have e5:y=x:=Prod.ext e3 e4;rw [e5] at hy;rw [h.once j k x hy hx]
theorem zLN {F:List (Nat × Int)} (h:Rows F) (x:Nat × Int):∀ (f n:Nat),n<=F.length->zHD (F++[x]) f n=zHD F f n:=by
 intro f;induction f with
 | zero=>intro n _;rfl
 | succ f ih =>
  intro n hn;cases n with
  | zero=>rfl
  | succ k =>
   obtain ⟨y,hy⟩:∃ y,F[k]? = some y:=⟨_,List.getElem?_eq_getElem (by omega)⟩
   have hy2:(F++[x])[k]? = some y:=by rw [List.getElem?_append_left (by omega)];exact hy
   have a:=h.ahead k y hy;rw [zAo F f k y hy,zAo _ f k y hy2,ih y.1 (by omega)]
theorem Rows.app {F:List (Nat × Int)} (h:Rows F) {x:Nat × Int} (hx:x.1<=F.length) (hn:∀ k:Nat,F[k]? ≠ some x):Rows (F++[x]):=by
 have old:∀ (k:Nat) (y:Nat × Int),(F++[x])[k]? = some y->F[k]? = some y \/ (k=F.length/\y=x):=by
  intro k y e;by_cases hk:k<F.length
  ·rw [List.getElem?_append_left hk] at e;exact Or.inl e
  ·rw [List.getElem?_append_right (by omega)] at e;by_cases h0:k - F.length=0
   ·rw [h0] at e;simp at e;exact Or.inr ⟨by omega,e.symm⟩
   ·rw [List.getElem?_eq_none (by simp;omega)] at e;cases e
 refine ⟨λk y e=>?_,λi j y e1 e2=>?_⟩
 ·rcases old k y e with e | ⟨rfl,rfl⟩
  ·exact h.ahead k y e
  ·exact hx
 ·rcases old i y e1 with q1 | ⟨i1,y1⟩
  ·rcases old j y e2 with q2 | ⟨j1,y1⟩
   ·exact h.once i j y q1 q2
   ·rw [y1] at q1;exact absurd q1 (hn i)
  ·rcases old j y e2 with q2 | ⟨j1,_⟩
   ·rw [y1] at q2;exact absurd q2 (hn j)
   ·rw [i1,j1]
theorem Rows.nil:Rows []:=⟨λk x e=>by simp at e,λi j x e=>by simp at e⟩
theorem zCz {F:List (Nat × Int)} (h:Rows F):∀ (f n g:Nat),n<=f->n<=g->n<=F.length->zHD F f n=zHD F g n:=by
 intro f;induction f with
 | zero =>
  intro n g hn _ _;have e:n=0:=by omega
  rw [e,zBV,zBV]
 | succ f ih =>
  intro n g hn hg hF;cases n with
  | zero=>rw [zBV,zBV]
  | succ k =>
   obtain ⟨y,hy⟩:∃ y,F[k]? = some y:=⟨_,List.getElem?_eq_getElem (by omega)⟩
   have a:=h.ahead k y hy;cases g with
   | zero=>omega
   | succ g=>rw [zAo F f k y hy,zAo F g k y hy,ih y.1 g (by omega) (by omega) (by omega)]
end Go.Proofs.YtnloiaoogofklaaGreatDoor.Wc
