/- KWalkQ, KWalkR, KCd, KWalkH, KWalkK, KWalkI, KWalkY, KRows, KHtA, KHtB, KHtC, KHts. -/
import Derived.Test.YtedifblompcdkaaGreatDoorQ10
set_option maxHeartbeats 4000000
set_option maxRecDepth 100000
set_option linter.unusedVariables false
namespace Go.Proofs.YtedifblompcdkaaGreatDoor
open Tryz
open Go.RowKit
def zPo (x y:Wpl.Cl):Bool:=(x.s == y.s) && ((x.r == y.r) && (x.c == y.c))
def zCF (x y:Wpl.Ar):Bool:=(x.s == y.s) && ((x.t == y.t) && ((x.l == y.l) && ((x.b == y.b) && (x.r == y.r))))
theorem zHE (x y:Wpl.Ar):zCF x y=true ↔ x=y:=by
 obtain ⟨a,b,c,g,i⟩:=x;obtain ⟨d,e,f,h,j⟩:=y;simp [zCF]
theorem zMB (x y:Wpl.Cl) (w:World):(binOp .eql 24 (.agg #[.int .i64 x.s,.int .i64 x.r,.int .i64 x.c]) (.agg #[.int .i64 y.s,.int .i64 y.r,.int .i64 y.c])).run prog w=.ok (.bool (zPo x y)) w:=by
 rw [run_eql_struct];unfold zPo;by_cases h1:x.s=y.s
 ·by_cases h2:x.r=y.r
  ·by_cases h3:x.c=y.c
   ·simp [go_sem,h1,h2,h3]
   ·simp [go_sem,h1,h2,h3]
  ·simp [go_sem,h1,h2]
 ·simp [go_sem,h1]
theorem zHF (x y:Wpl.Ar) (w:World):(binOp .eql 64 (.agg #[.int .i64 x.s,.int .i64 x.t,.int .i64 x.l,.int .i64 x.b,.int .i64 x.r]) (.agg #[.int .i64 y.s,.int .i64 y.t,.int .i64 y.l,.int .i64 y.b,.int .i64 y.r])).run prog w=.ok (.bool (zCF x y)) w:=by
 rw [run_eql_struct];unfold zCF;by_cases h1:x.s=y.s
 ·by_cases h2:x.t=y.t
  ·by_cases h3:x.l=y.l
   ·by_cases h4:x.b=y.b
    ·by_cases h5:x.r=y.r
     ·simp [go_sem,h1,h2,h3,h4,h5]
     ·simp [go_sem,h1,h2,h3,h4,h5]
    ·simp [go_sem,h1,h2,h3,h4]
   ·simp [go_sem,h1,h2,h3]
  ·simp [go_sem,h1,h2]
 ·simp [go_sem,h1]
def smI (x y:Wc.In):Bool:=(x.a == y.a) && ((x.b == y.b) && (zNj x.v y.v && (zPo x.ce y.ce && (zCF x.ar y.ar && zCF x.pr y.pr))))
theorem zDQ (x y:Wc.In) (t1 t2:Value) (l1 l2:List Int) (w:World) (h1:RdZ w t1 l1) (h2:RdZ w t2 l2) (hl:l1.length<=1000000) (hm:l2.length<=1000000) :
  CR 112 #[inV x t1,inV y t2] w (.bool (smI x y && decide (l1=l2))):=by
 have pA:=(AtL.new0 w 67 (zAM x t1)).alloc (.cells (zAM y t2).toArray 67);have pB:=AtL.new1 w (.cells (zAM x t1).toArray 67) 67 (zAM y t2);have hB:=zAH (zAH (Below.refl _ w) (.cells (zAM x t1).toArray 67)) (.cells (zAM y t2).toArray 67);have Z:∀ w',Below ((w.alloc (.cells (zAM x t1).toArray 67)).alloc (.cells (zAM y t2).toArray 67)).heap.size ((w.alloc (.cells (zAM x t1).toArray 67)).alloc (.cells (zAM y t2).toArray 67)) w'->_:=λw' hb=>zKC l1 l2 t1 t2 w' ((h1.below hB).below hb) ((h2.below hB).below hb) hl hm
 clear h1 h2 hl hm;have EV:=λw=>zCO x.v.k x.v.n x.v.d x.v.t x.v.b x.v.f y.v.k y.v.n y.v.d y.v.t y.v.b y.v.f w
 have EC:=λw=>zMB x.ce y.ce w
 have ER:=λw=>zHF x.ar y.ar w
 have EP:=λw=>zHF x.pr y.pr w
 have HV:Hid (∃ q,zNj x.v y.v=q):=⟨_,rfl⟩
 have HC:Hid (∃ q,zPo x.ce y.ce=q):=⟨_,rfl⟩
 have HR:Hid (∃ q,zCF x.ar y.ar=q):=⟨_,rfl⟩
 have HP:Hid (∃ q,zCF x.pr y.pr=q):=⟨_,rfl⟩
 obtain ⟨qv,hv⟩:=HV.out;obtain ⟨qc,hc⟩:=HC.out;obtain ⟨qr,hr⟩:=HR.out;obtain ⟨qp,hp⟩:=HP.out;clear HV HC HR HP;rw [show eqV x.v.k x.v.n x.v.d x.v.t x.v.b x.v.f y.v.k y.v.n y.v.d y.v.t y.v.b y.v.f=qv from hv] at EV;rw [hc] at EC;rw [hr] at ER;rw [hp] at EP;have HV:Hid (zNj x.v y.v=qv):=hv;have HC:Hid (zPo x.ce y.ce=qc):=hc;have HR:Hid (zCF x.ar y.ar=qr):=hr;have HP:Hid (zCF x.pr y.pr=qp):=hp;clear hv hc hr hp;go_enter func112,ntmps112;go_upto_region 1 with fail
 generalize ((w.alloc (.cells (zAM x t1).toArray 67)).alloc (.cells (zAM y t2).toArray 67))=W at *;have e0:W.cell? ⟨w.heap.size,0,none⟩=some (.int .i64 x.op):=pA.2.1 0 _ rfl;have d0:W.cell? ⟨w.heap.size+1,0,none⟩=some (.int .i64 y.op):=pB.2.1 0 _ rfl;have e1:W.cell? ⟨w.heap.size,1,none⟩=some (.int .i64 x.a):=pA.2.1 1 _ rfl;have d1:W.cell? ⟨w.heap.size+1,1,none⟩=some (.int .i64 y.a):=pB.2.1 1 _ rfl;have e2:W.cell? ⟨w.heap.size,2,none⟩=some (.int .i64 x.b):=pA.2.1 2 _ rfl;have d2:W.cell? ⟨w.heap.size+1,2,none⟩=some (.int .i64 y.b):=pB.2.1 2 _ rfl;have e3:W.cell? ⟨w.heap.size,3,none⟩=some (.int .i64 x.v.k):=pA.2.1 3 _ rfl;have d3:W.cell? ⟨w.heap.size+1,3,none⟩=some (.int .i64 y.v.k):=pB.2.1 3 _ rfl;have e4:W.cell? ⟨w.heap.size,4,none⟩=some (.int .i64 x.v.n):=pA.2.1 4 _ rfl;have d4:W.cell? ⟨w.heap.size+1,4,none⟩=some (.int .i64 y.v.n):=pB.2.1 4 _ rfl;have e5:W.cell? ⟨w.heap.size,5,none⟩=some (.int .i64 x.v.d):=pA.2.1 5 _ rfl;have d5:W.cell? ⟨w.heap.size+1,5,none⟩=some (.int .i64 y.v.d):=pB.2.1 5 _ rfl;have e6:W.cell? ⟨w.heap.size,6,none⟩=some (.string x.v.t):=pA.2.1 6 _ rfl;have d6:W.cell? ⟨w.heap.size+1,6,none⟩=some (.string y.v.t):=pB.2.1 6 _ rfl;have e7:W.cell? ⟨w.heap.size,7,none⟩=some (.bool x.v.b):=pA.2.1 7 _ rfl;have d7:W.cell? ⟨w.heap.size+1,7,none⟩=some (.bool y.v.b):=pB.2.1 7 _ rfl;have e8:W.cell? ⟨w.heap.size,8,none⟩=some (.int .i64 x.v.f):=pA.2.1 8 _ rfl
 have d8:W.cell? ⟨w.heap.size+1,8,none⟩=some (.int .i64 y.v.f):=pB.2.1 8 _ rfl;have e9:W.cell? ⟨w.heap.size,9,none⟩=some (.int .i64 x.ce.s):=pA.2.1 9 _ rfl;have d9:W.cell? ⟨w.heap.size+1,9,none⟩=some (.int .i64 y.ce.s):=pB.2.1 9 _ rfl;have e10:W.cell? ⟨w.heap.size,10,none⟩=some (.int .i64 x.ce.r):=pA.2.1 10 _ rfl;have d10:W.cell? ⟨w.heap.size+1,10,none⟩=some (.int .i64 y.ce.r):=pB.2.1 10 _ rfl;have e11:W.cell? ⟨w.heap.size,11,none⟩=some (.int .i64 x.ce.c):=pA.2.1 11 _ rfl;have d11:W.cell? ⟨w.heap.size+1,11,none⟩=some (.int .i64 y.ce.c):=pB.2.1 11 _ rfl;have e12:W.cell? ⟨w.heap.size,12,none⟩=some (.int .i64 x.ar.s):=pA.2.1 12 _ rfl;have d12:W.cell? ⟨w.heap.size+1,12,none⟩=some (.int .i64 y.ar.s):=pB.2.1 12 _ rfl;have e13:W.cell? ⟨w.heap.size,13,none⟩=some (.int .i64 x.ar.t):=pA.2.1 13 _ rfl;have d13:W.cell? ⟨w.heap.size+1,13,none⟩=some (.int .i64 y.ar.t):=pB.2.1 13 _ rfl;have e14:W.cell? ⟨w.heap.size,14,none⟩=some (.int .i64 x.ar.l):=pA.2.1 14 _ rfl;have d14:W.cell? ⟨w.heap.size+1,14,none⟩=some (.int .i64 y.ar.l):=pB.2.1 14 _ rfl;have e15:W.cell? ⟨w.heap.size,15,none⟩=some (.int .i64 x.ar.b):=pA.2.1 15 _ rfl;have d15:W.cell? ⟨w.heap.size+1,15,none⟩=some (.int .i64 y.ar.b):=pB.2.1 15 _ rfl;have e16:W.cell? ⟨w.heap.size,16,none⟩=some (.int .i64 x.ar.r):=pA.2.1 16 _ rfl;have d16:W.cell? ⟨w.heap.size+1,16,none⟩=some (.int .i64 y.ar.r):=pB.2.1 16 _ rfl
 have e17:W.cell? ⟨w.heap.size,17,none⟩=some (.int .i64 x.pr.s):=pA.2.1 17 _ rfl;have d17:W.cell? ⟨w.heap.size+1,17,none⟩=some (.int .i64 y.pr.s):=pB.2.1 17 _ rfl;have e18:W.cell? ⟨w.heap.size,18,none⟩=some (.int .i64 x.pr.t):=pA.2.1 18 _ rfl;have d18:W.cell? ⟨w.heap.size+1,18,none⟩=some (.int .i64 y.pr.t):=pB.2.1 18 _ rfl;have e19:W.cell? ⟨w.heap.size,19,none⟩=some (.int .i64 x.pr.l):=pA.2.1 19 _ rfl;have d19:W.cell? ⟨w.heap.size+1,19,none⟩=some (.int .i64 y.pr.l):=pB.2.1 19 _ rfl;have e20:W.cell? ⟨w.heap.size,20,none⟩=some (.int .i64 x.pr.b):=pA.2.1 20 _ rfl;have d20:W.cell? ⟨w.heap.size+1,20,none⟩=some (.int .i64 y.pr.b):=pB.2.1 20 _ rfl;have e21:W.cell? ⟨w.heap.size,21,none⟩=some (.int .i64 x.pr.r):=pA.2.1 21 _ rfl;have d21:W.cell? ⟨w.heap.size+1,21,none⟩=some (.int .i64 y.pr.r):=pB.2.1 21 _ rfl;have e22:W.cell? ⟨w.heap.size,22,none⟩=some t1:=pA.2.1 22 _ rfl;have d22:W.cell? ⟨w.heap.size+1,22,none⟩=some t2:=pB.2.1 22 _ rfl;clear pA pB;by_cases h_a:x.a=y.a
 ·by_cases h_b:x.b=y.b
  ·cases qv with
   | false =>
    go_wp2;go_ret;exact ⟨by simp [smI,HV.out,HC.out,HR.out,HP.out],(clB hB)⟩
   | true =>
    cases qc with
    | false =>
     go_wp2;go_ret;exact ⟨by simp [smI,HV.out,HC.out,HR.out,HP.out],(clB hB)⟩
    | true =>
     cases qr with
     | false =>
      go_wp2;go_ret;exact ⟨by simp [smI,HV.out,HC.out,HR.out,HP.out],(clB hB)⟩
     | true =>
      cases qp with
      | false =>
       go_wp2;go_ret;exact ⟨by simp [smI,HV.out,HC.out,HR.out,HP.out],(clB hB)⟩
      | true =>
       go_wp2_with fail
       refine (Z _ (Below.refl _ _)).mono ?_;rintro e w1 ⟨rfl,hb1⟩;have hB1:=zAA hB hb1;go_wp2;go_ret;exact ⟨by simp [smI,h_a,h_b,HV.out,HC.out,HR.out,HP.out],(clB hB1)⟩
  ·go_wp2;go_ret;exact ⟨by simp [smI,h_a,h_b],(clB hB)⟩
 ·go_wp2;go_ret;exact ⟨by simp [smI,h_a],(clB hB)⟩
def v0I:Wt.Vl:=⟨0,0,0,⟨#[]⟩,false,0⟩
def c0I:Wpl.Cl:=⟨0,0,0⟩
def a0I:Wpl.Ar:=⟨0,0,0,0,0⟩
def zAq (k:Int):Wc.In:=⟨k,0,0,v0I,c0I,a0I,a0I⟩
abbrev zAV:Value:=.slice none 0 0
abbrev zCf (w:World) (x:Wc.In) (tv:Value):World:=(w.alloc (.cells (zAM x tv).toArray 67)).alloc (.cells #[.int .i64 0,.int .i64 0,.int .i64 0,.int .i64 0,.int .i64 0,.int .i64 0,.string ⟨#[]⟩,.bool false,.int .i64 0,.int .i64 0,.int .i64 0,.int .i64 0,.int .i64 0,.int .i64 0,.int .i64 0,.int .i64 0,.int .i64 0,.int .i64 0,.int .i64 0,.int .i64 0,.int .i64 0,.int .i64 0,.slice none 0 0] 67)
theorem zNK (x:Wc.In) (av:Option Addr) (n c:Nat):∀ v ∈ zAM x (.slice av n c),v.oneCell'=true:=by
 intro v hv;simp only [zAM,List.mem_cons,List.not_mem_nil,or_false] at hv;rcases hv with rfl | rfl | rfl | rfl | rfl | rfl | rfl | rfl | rfl | rfl | rfl | rfl | rfl | rfl | rfl | rfl | rfl | rfl | rfl | rfl | rfl | rfl | rfl <;> rfl
theorem zHc (x:Wc.In) (av:Option Addr) (n c:Nat):(zAM x (.slice av n c)).toArray.all (·.oneCell')=true:=all_oneCell_toArray (zNK x av n c)
end Go.Proofs.YtedifblompcdkaaGreatDoor
namespace Go.Proofs.YtedifblompcdkaaGreatDoor.Wf
open Go.Proofs.YtedifblompcdkaaGreatDoor
def idx (s:ByteArray):List ByteArray->Nat->Int
 | [],_=>-1
 | t::r,i=>if t=s then (i:Int) else idx s r (i+1)
def shN (own:Int) (nm:List ByteArray) (s:ByteArray):Int:=if s=⟨#[]⟩ then own else idx s nm 0
def zCC (x:Wt.Nd):Wpl.Ar:=⟨0,min x.a.r x.b.r,min x.a.c x.b.c,max x.a.r x.b.r,max x.a.c x.b.c⟩
def zAc (own:Int) (nm:List ByteArray) (x:Wt.Nd):Wpl.Ar:={zCC x with s:=shN own nm x.a.s}
def zK2 (own:Int) (nm:List ByteArray) (x:Wt.Nd):Wpl.Cl:=⟨shN own nm x.a.s,x.a.r,x.a.c⟩
def isA (x:Wt.Nd):Bool:=x.k == 3
def zAu (s:ByteArray):Nat:=fnN.findIdx (λl=>decide ((⟨l.toArray⟩:ByteArray)=s))
def zBA (p:List UInt8):List Wt.Nd->Nat->Bool
 | [],_=>true
 | x::r,i=>if (p.getD (min i (p.length - 1)) 0 == 97 && !isA x) || (p.getD (min i (p.length - 1)) 0 == 118 && isA x) then false else zBA p r (i+1)
def zBq (l:List Wt.Nd):List Wt.Nd:=l.filter isA
def zB7 (id:Int) (l:List Wt.Nd):Bool :=
 if Wc.pairs id then
  let a:=zCC ((zBq l).headD ⟨0,v0I,0,⟨#[]⟩,0,Wt.r0,Wt.r0⟩)
  let b:=zCC ((zBq l).getLastD ⟨0,v0I,0,⟨#[]⟩,0,Wt.r0,Wt.r0⟩)
  (a.b - a.t == b.b - b.t) && (a.r - a.l == b.r - b.l)
 else true
def zLr (x:Wt.Nd) (ks:List Wt.Nd):Int :=
 let id:Int:=(zAu x.nm:Nat)
 if zBT id=false then 80
 else if x.ar<(zAP id).l \/ (zAP id).m<x.ar then 81
 else if zBA (zAP id).p.data.toList ks 0=false then 82
 else if zB7 id ks=false then 83 else 0
def zHJ (own:Int) (nm:List ByteArray) (x:Wt.Nd) (ks:List Wt.Nd):Int :=
 if x.k=2 \/ x.k=3 then (if shN own nm x.a.s<0 then 84 else 0)
 else if x.k=4 \/ x.k=5 then (if ks.any isA then 82 else 0)
 else if x.k=6 then zLr x ks else 0
def zQ0:List Int->Int
 | []=>0
 | a::r=>if a=0 then zQ0 r else a
def zC8 (own:Int) (nm:List ByteArray):(n:Nat)->Tr n->Int
 | 0,t=>Empty.elim t
 | n+1,t=>zQ0 (zHJ own nm (Br.x t) ((Br.ks t).map (hd n))::(Br.ks t).map (zC8 own nm n))
abbrev I:=Wc.In × List Int
def ins (o a b:Int):I:=(⟨o,a,b,v0I,c0I,a0I,a0I⟩,[])
def zCQ (v:Wt.Vl):I:=(⟨1,0,0,v,c0I,a0I,a0I⟩,[])
def zPK (c:Wpl.Cl):I:=(⟨2,0,0,v0I,c,a0I,a0I⟩,[])
def zCI (o b:Int) (a p:Wpl.Ar):I:=(⟨o,0,b,v0I,c0I,a,p⟩,[])
def zG0 (k:Int):Wt.Vl:=⟨1,k,1,⟨#[]⟩,false,0⟩
def zNh:Wt.Vl:=⟨3,0,0,⟨#[]⟩,false,0⟩
def zA1 {α:Type} (f:α->Nat->List I):List α->Nat->List I
 | [],_=>[]
 | k::r,a=>f k a++zA1 f r (a+(f k a).length)
def zAx {α:Type} (f:α->Nat->List I) (k:α) (a:Nat):List I:=f k a++[ins 7 0 0]
section
variable (own:Int) (nm:List ByteArray)
def zCd {α:Type} (h:α->Wt.Nd) (f:α->Nat->List I) (k:α) (a:Nat):List I :=
 if isA (h k) then [zCI 8 0 (zAc own nm (h k)) a0I] else zAx f k a
def zD7 {α:Type} (h:α->Wt.Nd) (f:α->Nat->List I) (id:Int) (ks:List α) (a:Nat):List I :=
 let ars:=zBq (ks.map h)
 let vs:=ks.filter (λk=>!isA (h k))
 let x:=zAc own nm (ars.headD ⟨0,v0I,0,⟨#[]⟩,0,Wt.r0,Wt.r0⟩)
 let y:=zAc own nm (ars.getLastD ⟨0,v0I,0,⟨#[]⟩,0,Wt.r0,Wt.r0⟩)
 if id=26 then [zCQ (zG0 (x.b - x.t+1))]
 else if id=27 then [zCQ (zG0 (x.r - x.l+1))]
 else if id=25 then zA1 f vs a++[zCI 11 vs.length x a0I]
 else ins 6 id 0::(zA1 (zAx f) vs (a+1)++[if Wc.pairs id then zCI 9 0 x y else zCI 8 0 x a0I,ins 10 0 0])
def zCu {α:Type} (f:α->Nat->List I) (yes:α) (no:List α) (a:Nat):List I :=
 let y:=f yes (a+1)
 let m:=a+1+y.length+1
 let z:=if no.isEmpty then [zCQ zNh] else zA1 f no m
 ins 12 m (m+z.length:Nat)::(y++ins 13 (m+z.length:Nat) 0::z)
def chB {α:Type} (f:α->Nat->List I) (e:Int):List α->Nat->List I
 | [],_=>[]
 | k::r,a=>ins 13 e 0::(f k (a+1)++chB f e r (a+1+(f k (a+1)).length))
def chT {α:Type} (f:α->Nat->List I):List α->Nat->List Int
 | [],_=>[]
 | k::r,a=>((a+1:Nat):Int)::chT f r (a+1+(f k (a+1)).length)
def zCe {α:Type} (f:α->Nat->List I) (l:List α) (a:Nat):List I :=
 match l with
 | []=>[(⟨15,0,(a+1:Nat),v0I,c0I,a0I,a0I⟩,[])]
 | k::r =>
  let y:=f k (a+1)
  let m:=a+1+y.length
  let e:=m+(chB f 0 r m).length
  (⟨15,0,(e:Nat),v0I,c0I,a0I,a0I⟩,((a+1:Nat):Int)::chT f r m)::(y++chB f e r m)
def zCy {α:Type} (f:α->Nat->List I) (id:Int) (ks:List α) (a:Nat):List I :=
 match ks with
 | []=>[]
 | c::r =>
  let y:=f c a
  y++(match r with
   | []=>if id=32 then zCe f [] (a+y.length) else []
   | u::no=>if id=30 then zCu f u no (a+y.length)
    else if id=31 then ins 14 (a+y.length+1+(f u (a+y.length+1)).length:Nat) 0::f u (a+y.length+1)
    else zCe f (u::no) (a+y.length))
def zD4 {α:Type} (h:α->Wt.Nd) (f:α->Nat->List I) (x:Wt.Nd) (ks:List α) (a:Nat):List I :=
 let id:Int:=(zAu x.nm:Nat)
 let c:=(zAP id).c
 if c=4 then zA1 f ks a++[ins 5 id x.ar]
 else if c=1 then ins 6 id 0::(zA1 (zCd own nm h f) ks (a+1)++[ins 10 0 0])
 else if c=2 then zD7 own nm h f id ks a
 else zCy f id ks a
def zBX {α:Type} (h:α->Wt.Nd) (f:α->Nat->List I) (x:Wt.Nd) (ks:List α) (a:Nat):List I :=
 if x.k=1 then [zCQ x.v]
 else if x.k=2 then [zPK (zK2 own nm x)]
 else if x.k=4 then zA1 f ks a++[ins 3 x.op 0]
 else if x.k=5 then zA1 f ks a++[ins 4 x.op 0]
 else if x.k=6 then zD4 own nm h f x ks a else []
def cod:(n:Nat)->Tr n->Nat->List I
 | 0,t,_=>Empty.elim t
 | n+1,t,a=>zBX own nm (hd n) (cod n) (Br.x t) (Br.ks t) a
end
end Go.Proofs.YtedifblompcdkaaGreatDoor.Wf
namespace Go.Proofs.YtedifblompcdkaaGreatDoor
open Tryz
open Go.RowKit
variable {w:World} {b ck:Nat} {es:Array MapEntry} {P:Program}
theorem zLb (id:Int) (w:World) (hN:NmAt w):CR 136 #[.int .i64 id] w (.tuple #[.agg (zD3 id).toArray,.bool (zBT id)]):=by
 unfold zD3;by_cases h0:id<0
 ·have e:zBT id=false:=by unfold zBT;rw [decide_eq_false (by omega)];rfl
  rw [e];exact zLv id w hN h0
 by_cases h1:63<=id
 ·have e:zBT id=false:=by unfold zBT;rw [decide_eq_false (p:=id<63) (by omega),Bool.false_and,Bool.and_false]
  rw [e];exact zM8 id w hN h1
 by_cases he:zFf id=[]
 ·have e:zBT id=false:=by unfold zBT;rw [he];simp
  rw [e];exact zMD id w hN (by omega) (by omega) he
 ·have e:zBT id=true:=by
   unfold zBT;rw [decide_eq_true (by omega),decide_eq_true (by omega)];cases hx:zFf id with
   | nil=>exact absurd hx he
   | cons a t=>rfl
  rw [e,if_pos rfl];exact zOU id w hN (by omega) (by omega) he
def apl (id n:Int):Bool:=zBT id && ((zAP id).c == 4 && (decide ((zAP id).l<=n) && decide (n<=(zAP id).m)))
def FoldL (w:World) (b o:Nat) (F:List (Int × Int)):Prop:=∃ av cap,w.cell? ⟨b,o,none⟩=some (.slice av F.length cap)/\∀ i (h:i<F.length),∃ bb off,av=some ⟨bb,off,none⟩/\w.cell? ⟨bb,off+i * 2,none⟩=some (.int .i64 (F[i]).1)/\w.cell? ⟨bb,off+i * 2+1,none⟩=some (.int .i64 (F[i]).2)
theorem FoldL.below {w':World} {o:Nat} {F:List (Int × Int)} (h:FoldL w b o F) (hb:Below w.heap.size w w'):FoldL w' b o F:=by
 obtain ⟨av,cap,h1,h2⟩:=h;refine ⟨av,cap,zAC hb h1,λi hi=>?_⟩;obtain ⟨bb,off,e,h3,h4⟩:=h2 i hi;exact ⟨bb,off,e,zAC hb h3,zAC hb h4⟩
theorem zJk (b o:Nat) (w:World):CR 143 #[.pointer (some ⟨b,o,none⟩),.int .i64 0] w (.tuple #[.agg #[.int .i64 0,.int .i64 0],.bool false]):=by
 have pZ:=AtL.new0 w 240 [.int .i64 0,.int .i64 0];have hB:=zAH (Below.refl _ w) (.cells #[.int .i64 0,.int .i64 0] 240);obtain ⟨b0,b1,k0,k1⟩:=pZ.two;clear pZ;go_enter func143,ntmps143;go_upto_region 1 with fail
 generalize (w.alloc (.cells #[.int .i64 0,.int .i64 0] 240))=W at *;go_wp2;refine bodyPost_ret (v:=.tuple #[.agg #[.int .i64 0,.int .i64 0],.bool false]) (by simp [results,results143,go_sem,b0,b1]) rfl ⟨rfl,(clB hB)⟩
theorem zMq (b o:Nat) (F:List (Int × Int)) (i:Nat) (w:World) (hF:FoldL w b o F) (hi:i<F.length) (hl:F.length<=1000000):CR 143 #[.pointer (some ⟨b,o,none⟩),.int .i64 ((i:Int)+1)] w (.tuple #[.agg #[.int .i64 (F[i]).1,.int .i64 (F[i]).2],.bool true]):=by
 have pZ:=AtL.new0 w 240 [.int .i64 0,.int .i64 0];have hB:=zAH (Below.refl _ w) (.cells #[.int .i64 0,.int .i64 0] 240);obtain ⟨av,cap,h1,h2⟩:=hF.below hB;obtain ⟨bb,off,rfl,h3,h4⟩:=h2 i hi;obtain ⟨b0,b1,k0,k1⟩:=pZ.two;have n0:((i:Int)+1 == 0)=false:=by simp;omega
 have w1:IntKind.i64.wrap ((i:Int)+1 - 1)=(i:Int):=by rw [IntKind.wrap_i64];omega
 have w2:IntKind.i64.wrap (i:Int)=(i:Int):=by rw [IntKind.wrap_i64];omega
 have l0:(0:Int)<=(i:Int):=by omega
 have l1:(i:Int)<(F.length:Int):=by omega
 generalize (F[i]).1=x at *;generalize (F[i]).2=y at *;clear pZ h2 hF hi hl;go_enter func143,ntmps143;go_upto_region 1 with fail
 generalize (w.alloc (.cells #[.int .i64 0,.int .i64 0] 240))=W at *;go_wp2;refine bodyPost_ret (v:=.tuple #[.agg #[.int .i64 x,.int .i64 y],.bool true]) (by simp [results,results143,go_sem,b0,b1]) rfl ⟨rfl,(clB hB)⟩
def fld (id:Int):Bool:=decide ((1<=id/\id<=15) \/ (20<=id/\id<=24))
open Go.ChangeMaps (setBlock heap_setBlock_same heap_setBlock_other)
open Go.ChangeShapes Go.WideShapes Go.MapKept
theorem zE7 (hb:w.heap[b]? = some (.map es ck)) (o:Obj):w.grownBy (setBlock w b o) (some b) :=
 ⟨rfl,rfl,rfl,by simp [setBlock],λi _ hi=>heap_setBlock_other hb _ (λe=>hi (by rw [e]))⟩
theorem zOf {t k e:TypeId} (ht:P.underlying t=some (.map k e)) (hb:w.heap[b]? = some (.map es ck)) {key:Value} (val:Value)
  (hc:(Instr.checkKey false 10000 k key).run P w=.ok () w) (hf:(Instr.findKey k key es.toList).run P w=.ok none w) :
  (Instr.mapUpdate t (.map (some b)) key val).run P w=.ok () (setBlock w b (.map (es.push ⟨key,val,ck⟩) (ck+1))):=by
 simp [Instr.mapUpdate,run_underlying ht,MapKept.run_getObj_map hb,hc,hf,MapKept.run_setObj_map _ hb,Result.andThen,setBlock]
theorem zMc {t k e:TypeId} (ht:P.underlying t=some (.map k e)) (hb:w.heap[b]? = some (.map es ck)) {key v:Value} {j:Nat}
  (hc:(Instr.checkKey es.isEmpty 10000 k key).run P w=.ok () w) (hf:(Instr.findKey k key es.toList).run P w=.ok (some (j,v)) w) :
  (Instr.lookup t (.map (some b)) key true).run P w=.ok (.tuple #[v,.bool true]) w:=by
 simp [Instr.lookup,run_underlying ht,MapKept.run_getObj_map hb,hc,hf,Result.andThen]
theorem zJc {t k e:TypeId} (ht:P.underlying t=some (.map k e)) (hb:w.heap[b]? = some (.map es ck)) {key z:Value}
  (hc:(Instr.checkKey es.isEmpty 10000 k key).run P w=.ok () w) (hf:(Instr.findKey k key es.toList).run P w=.ok none w) (hz:(zeroValue e).run P w=.ok z w) :
  (Instr.lookup t (.map (some b)) key true).run P w=.ok (.tuple #[z,.bool false]) w:=by
 simp [Instr.lookup,run_underlying ht,MapKept.run_getObj_map hb,hc,hf,hz,Result.andThen]
end Go.Proofs.YtedifblompcdkaaGreatDoor
namespace Go.Proofs.YtedifblompcdkaaGreatDoor.Wc
def zIN (F:List (Nat × Int)):Nat->Nat->List Int
 | 0,_=>[]
 | _+1,0=>[]
 | f+1,k+1=>match F[k]? with
  | none=>[]
  | some x=>zIN F f x.1++[x.2]
structure Rows (F:List (Nat × Int)):Prop where
 ahead:∀ (k:Nat) (x:Nat × Int),F[k]? = some x->x.1<=k
 once:∀ (i j:Nat) (x:Nat × Int),F[i]? = some x->F[j]? = some x->i=j
theorem zBV (F:List (Nat × Int)) (f:Nat):zIN F f 0=[]:=by cases f <;> rfl
theorem zAz (F:List (Nat × Int)) (f k:Nat) (x:Nat × Int) (h:F[k]? = some x):zIN F (f+1) (k+1)=zIN F f x.1++[x.2]:=by
 simp only [zIN,h]
theorem zLS {F:List (Nat × Int)} (h:Rows F):∀ (f m n:Nat),m<=f->n<=f->m<=F.length->n<=F.length->zIN F f m=zIN F f n->m=n:=by
 intro f;induction f with
 | zero=>intro m n hm hn _ _ _;omega
 | succ f ih =>
  intro m n hm hn hmF hnF e;cases m with
  | zero =>
   cases n with
   | zero=>rfl
   | succ k =>
    obtain ⟨x,hx⟩:∃ x,F[k]? = some x:=⟨_,List.getElem?_eq_getElem (by omega)⟩
    rw [zBV,zAz F f k x hx] at e;simp at e
  | succ j =>
   obtain ⟨y,hy⟩:∃ y,F[j]? = some y:=⟨_,List.getElem?_eq_getElem (by omega)⟩
   cases n with
   | zero =>
    rw [zBV,zAz F f j y hy] at e;simp at e
   | succ k =>
    obtain ⟨x,hx⟩:∃ x,F[k]? = some x:=⟨_,List.getElem?_eq_getElem (by omega)⟩
    rw [zAz F f j y hy,zAz F f k x hx] at e;obtain ⟨e1,e2⟩:=List.append_inj' e rfl;have a1:=h.ahead j y hy;have a2:=h.ahead k x hx;have e3:=ih y.1 x.1 (by omega) (by omega) (by omega) (by omega) e1;have e4:y.2=x.2:=by simpa using e2
    have e5:y=x:=Prod.ext e3 e4;rw [e5] at hy;rw [h.once j k x hy hx]
theorem zMX {F:List (Nat × Int)} (h:Rows F) (x:Nat × Int):∀ (f n:Nat),n<=F.length->zIN (F++[x]) f n=zIN F f n:=by
 intro f;induction f with
 | zero=>intro n _;rfl
 | succ f ih =>
  intro n hn;cases n with
  | zero=>rfl
  | succ k =>
   obtain ⟨y,hy⟩:∃ y,F[k]? = some y:=⟨_,List.getElem?_eq_getElem (by omega)⟩
   have hy2:(F++[x])[k]? = some y:=by rw [List.getElem?_append_left (by omega)];exact hy
   have a:=h.ahead k y hy;rw [zAz F f k y hy,zAz _ f k y hy2,ih y.1 (by omega)]
theorem Rows.app {F:List (Nat × Int)} (h:Rows F) {x:Nat × Int} (hx:x.1<=F.length) (hn:∀ k:Nat,F[k]? ≠ some x):Rows (F++[x]):=by
 have old:∀ (k:Nat) (y:Nat × Int),(F++[x])[k]? = some y->F[k]? = some y \/ (k=F.length/\y=x):=by
  intro k y e;by_cases hk:k<F.length
  ·rw [List.getElem?_append_left hk] at e;exact Or.inl e
  ·rw [List.getElem?_append_right (by omega)] at e;by_cases h0:k - F.length=0
   ·rw [h0] at e;simp at e;exact Or.inr ⟨by omega,e.symm⟩
   ·rw [List.getElem?_eq_none (by simp;omega)] at e;cases e
 refine ⟨λk y e=>?_,λi j y e1 e2=>?_⟩
 ·rcases old k y e with e | ⟨rfl,rfl⟩
  ·exact h.ahead k y e
  ·exact hx
 ·rcases old i y e1 with q1 | ⟨i1,y1⟩
  ·rcases old j y e2 with q2 | ⟨j1,y1⟩
   ·exact h.once i j y q1 q2
   ·rw [y1] at q1;exact absurd q1 (hn i)
  ·rcases old j y e2 with q2 | ⟨j1,_⟩
   ·rw [y1] at q2;exact absurd q2 (hn j)
   ·rw [i1,j1]
theorem Rows.nil:Rows []:=⟨λk x e=>by simp at e,λi j x e=>by simp at e⟩
theorem zDU {F:List (Nat × Int)} (h:Rows F):∀ (f n g:Nat),n<=f->n<=g->n<=F.length->zIN F f n=zIN F g n:=by
 intro f;induction f with
 | zero =>
  intro n g hn _ _;have e:n=0:=by omega
  rw [e,zBV,zBV]
 | succ f ih =>
  intro n g hn hg hF;cases n with
  | zero=>rw [zBV,zBV]
  | succ k =>
   obtain ⟨y,hy⟩:∃ y,F[k]? = some y:=⟨_,List.getElem?_eq_getElem (by omega)⟩
   have a:=h.ahead k y hy;cases g with
   | zero=>omega
   | succ g=>rw [zAz F f k y hy,zAz F g k y hy,ih y.1 g (by omega) (by omega) (by omega)]
end Go.Proofs.YtedifblompcdkaaGreatDoor.Wc
namespace Go.Proofs.YtedifblompcdkaaGreatDoor
open Go.RowKit
open Go.ChangeMaps (setBlock heap_setBlock_same heap_setBlock_other)
open Go.ChangeShapes Go.WideShapes Go.MapKept
variable {w w' w'':World} {S T:List Nat} {b mb:Nat} {F:List (Nat × Int)} {lv v:Value}
abbrev fr2 (x:Nat × Int):Value:=.agg #[.int .i64 x.1,.int .i64 x.2]
def zRV:Nat->List (Nat × Int)->List MapEntry
 | _,[]=>[]
 | i,x::r=>⟨fr2 x,.int .i64 ((i:Int)+1),i⟩::zRV (i+1) r
def FM (w:World) (b:Nat) (F:List (Nat × Int)):Prop:=∃ es:Array MapEntry,w.heap[b]? = some (.map es F.length)/\es.toList=zRV 0 F
theorem FM.lt (h:FM w b F):b<w.heap.size:=by
 obtain ⟨es,h,_⟩:=h;rcases Nat.lt_or_ge b w.heap.size with g | g
 ·exact g
 ·rw [Array.getElem?_eq_none g] at h;cases h
theorem FM.below (h:FM w b F) (hb:Below w.heap.size w w'):FM w' b F:=by
 have hlt:=h.lt;obtain ⟨es,h1,h2⟩:=h;exact ⟨es,by rw [hb.block b hlt];exact h1,h2⟩
structure Fr (S:List Nat) (w w':World):Prop where
 os:w'.os=w.os
 tape:w'.tape=w.tape
 output:w'.output=w.output
 size:w.heap.size<=w'.heap.size
 block:∀ k:Nat,k<w.heap.size->k ∉ S->w'.heap[k]? = w.heap[k]?
theorem Fr.refl (S:List Nat) (w:World):Fr S w w:=⟨rfl,rfl,rfl,Nat.le_refl _,λ_ _ _=>rfl⟩
theorem Fr.of_below (S:List Nat) {w w':World} (h:Below w.heap.size w w'):Fr S w w':=⟨h.os,h.tape,h.output,h.size,λk hk _=>h.block k hk⟩
theorem Fr.of_grown {row:Option Nat} (h:w.grownBy w' row) (hr:∀ k,row=some k->k ∈ S):Fr S w w' :=
 ⟨h.os,h.tape,h.output,h.size,λk hk hn=>h.block k hk (λe=>hn (hr k e.symm))⟩
theorem Fr.trans (h:Fr S w w') (h':Fr S w' w''):Fr S w w'' :=
 ⟨h'.os.trans h.os,h'.tape.trans h.tape,h'.output.trans h.output,Nat.le_trans h.size h'.size,λk hk hn=>(h'.block k (Nat.lt_of_lt_of_le hk h.size) hn).trans (h.block k hk hn)⟩
theorem Fr.mono (h:Fr S w w') (hs:∀ k ∈ S,k ∈ T):Fr T w w':=⟨h.os,h.tape,h.output,h.size,λk hk hn=>h.block k hk (λe=>hn (hs k e))⟩
theorem Fr.new (h:Fr S w w') (h':Fr T w' w'') (hs:∀ k ∈ T,k ∈ S \/ w.heap.size<=k):Fr S w w'' :=
 ⟨h'.os.trans h.os,h'.tape.trans h.tape,h'.output.trans h.output,Nat.le_trans h.size h'.size,λk hk hn=>(h'.block k (Nat.lt_of_lt_of_le hk h.size) (λe=>(hs k e).elim hn (λg=>absurd hk (Nat.not_lt.2 g)))).trans (h.block k hk hn)⟩
theorem Fr.to_below (h:Fr S w w') (hs:∀ k ∈ S,w.heap.size<=k):Below w.heap.size w w' :=
 ⟨h.os,h.tape,h.output,h.size,λk hk=>h.block k hk (λe=>absurd hk (Nat.not_lt.2 (hs k e)))⟩
theorem zAp {o:Nat} (h:w.cell? ⟨b,o,none⟩=some v):b<w.heap.size:=by
 rcases Nat.lt_or_ge b w.heap.size with g | g
 ·exact g
 ·unfold World.cell? at h;simp only [Array.getElem?_eq_none g] at h;cases h
theorem Fr.cell (h:Fr S w w') {b o:Nat} {v:Value} (hc:w.cell? ⟨b,o,none⟩=some v) (hn:b ∉ S):w'.cell? ⟨b,o,none⟩=some v:=by
 rw [<-hc];unfold World.cell?;rw [h.block b (zAp hc) hn]
theorem Fr.frozen (h:Fr S w w') {b o:Nat} (hb:b<w.heap.size) (hn:b ∉ S):w'.frozen? ⟨b,o,none⟩=w.frozen? ⟨b,o,none⟩:=by
 unfold World.frozen?;rw [h.block b hb hn]
theorem Fr.range (h:Fr S w w') {b o:Nat} {l:List Value} (hr:w.rangeAt b o l) (hn:b ∉ S):w'.rangeAt b o l:=λj v hv=>h.cell (hr j v hv) hn
theorem Fr.fm (h:Fr S w w') {b:Nat} {F:List (Nat × Int)} (hm:FM w b F) (hn:b ∉ S):FM w' b F:=by
 have hlt:=hm.lt;obtain ⟨es,h1,h2⟩:=hm;exact ⟨es,by rw [h.block b hlt hn];exact h1,h2⟩
def zFV:List (Nat × Int)->List Value
 | []=>[]
 | x::r=>.int .i64 x.1 :: .int .i64 x.2::zFV r
theorem zEs:∀ F:List (Nat × Int),(zFV F).length=F.length * 2
 | []=>rfl
 | x::r=>by simp [zFV,zEs r];omega
theorem zE3:∀ (F:List (Nat × Int)) (i:Nat) (h:i<F.length),(zFV F)[i * 2]? = some (.int .i64 (F[i]).1)/\(zFV F)[i * 2+1]? = some (.int .i64 (F[i]).2)
 | x::r,0,_=>⟨rfl,rfl⟩
 | x::r,i+1,h=>by
  have:=zE3 r i (by simpa using h);have e:(i+1) * 2=i * 2+2:=by omega
  rw [e];exact this
structure FS (w:World) (b mb:Nat) (lv:Value) (F:List (Nat × Int)):Prop where
 hd:w.cell? ⟨b,1,none⟩=some lv
 hf:w.frozen? ⟨b,1,none⟩=false
 own:w.ownsRow (b+1) 240 2 lv F.length (zFV F)
 mp:w.cell? ⟨b,2,none⟩=some (.map (some mb))
 fm:FM w mb F
 lt:mb<b
theorem zAL {B:Nat} {T:TypeId} {k:Nat} {n:Nat} {xs:List Value} (h:w.ownsRow B T k v n xs) {g:Nat} (e:v.ownBlock=some g):B<=g/\g<w.heap.size:=by
 rcases h.2 with ⟨rfl,_⟩ | ⟨g',cap,cur,rfl,hb,hg,_⟩
 ·cases e
 ·have e2:g'=g:=by simpa [Value.ownBlock] using e
  subst e2;refine ⟨hb,?_⟩;rcases Nat.lt_or_ge g' w.heap.size with q | q
  ·exact q
  ·rw [Array.getElem?_eq_none q] at hg;cases hg
theorem zAZ (h:Fr S w w') {B:Nat} {T:TypeId} {k:Nat} {v:Value} {n:Nat} {xs:List Value} (ho:w.ownsRow B T k v n xs) (hn:∀ g,v.ownBlock=some g->g ∉ S):w'.ownsRow B T k v n xs:=by
 have hb:=λ{g} (e:v.ownBlock=some g)=>zAL ho e
 refine ⟨ho.1,?_⟩;rcases ho.2 with q | ⟨g,cap,cur,rfl,hb1,hg,r1,r2,r3,r4⟩
 ·exact Or.inl q
 ·exact Or.inr ⟨g,cap,cur,rfl,hb1,by rw [h.block g (hb rfl).2 (hn g rfl)];exact hg,r1,r2,r3,r4⟩
theorem FS.list (h:FS w b mb lv F):FoldL w b 1 (F.map λx=>((x.1:Int),x.2)):=by
 rcases h.own.2 with ⟨e,h0⟩ | ⟨g,cap,cur,e,hb1,hg,r1,r2,r3,r4⟩
 ·have hF:F=[]:=List.eq_nil_of_length_eq_zero h0;subst hF;refine ⟨none,0,by rw [h.hd,e];rfl,λi hi=>absurd hi (Nat.not_lt_zero _)⟩
 ·refine ⟨some ⟨g,0,none⟩,cap,by rw [h.hd,e];simp,λi hi=>⟨g,0,rfl,?_⟩⟩;have hi2:i<F.length:=by simpa using hi
  have hl:=zEs F;have hg2:∀ j v,(zFV F)[j]? = some v->w.cell? ⟨g,j,none⟩=some v:=by
   intro j v hv;have hj:j<F.length * 2:=by
    rw [<-hl];rcases Nat.lt_or_ge j (zFV F).length with q | q
    ·exact q
    ·rw [List.getElem?_eq_none q] at hv;cases hv
   rw [<-r4,List.getElem?_take_of_lt hj] at hv;unfold World.cell?;simp only [hg];simpa using hv
  obtain ⟨q1,q2⟩:=zE3 F i hi2;have c1:=hg2 _ _ q1;have c2:=hg2 _ _ q2;simp only [List.getElem_map,Nat.zero_add];exact ⟨c1,c2⟩
theorem zAY (w:World) (b:Nat) (v:Value) {i j:Nat} (h:i ≠ j):(w.setCell ⟨b,i,none⟩ v).cell? ⟨b,j,none⟩=w.cell? ⟨b,j,none⟩:=by
 simp [World.cell?,World.setCell,Array.getElem?_modify];cases w.heap[b]? with
 | none=>rfl
 | some o=>cases o <;> simp [h]
theorem zA4 {i:Nat} {u:Value} (h:w.cell? ⟨b,i,none⟩=some u) (v:Value):(w.setCell ⟨b,i,none⟩ v).cell? ⟨b,i,none⟩=some v:=by
 unfold World.cell? at h;simp only [Option.isSome_none] at h;cases hq:w.heap[b]? with
 | none=>rw [hq] at h;cases h
 | some o =>
  rw [hq] at h;cases o with
  | cells c t f =>
   have h2:c[i]? = some u:=by simpa using h
   have h3:=(Array.getElem?_eq_some_iff.1 h2).1;simp [World.cell?,World.setCell,Array.getElem?_modify,hq,h3]
  | _=>simp at h
theorem zAR (w:World) (b i:Nat) (v:Value):w.grownBy (w.setCell ⟨b,i,none⟩ v) (some b) :=
 ⟨rfl,rfl,rfl,by simp [World.setCell],λk _ hk=>by simp [World.setCell,Array.getElem?_modify];intro e;exact absurd (by rw [e]) hk⟩
theorem FS.fr (h:FS w b mb lv F) (hf:Fr S w w') (hb:b ∉ S) (hm:mb ∉ S) (hl:∀ g,lv.ownBlock=some g->g ∉ S):FS w' b mb lv F :=
 ⟨hf.cell h.hd hb,by rw [hf.frozen (zAp h.hd) hb];exact h.hf,zAZ hf h.own hl,hf.cell h.mp hb,hf.fm h.fm hm,h.lt⟩
theorem FS.below (h:FS w b mb lv F) (hb:Below w.heap.size w w'):FS w' b mb lv F :=
 h.fr (Fr.of_below [] hb) (by simp) (by simp) (by simp)
end Go.Proofs.YtedifblompcdkaaGreatDoor
namespace Go.Proofs.YtedifblompcdkaaGreatDoor.Wc
def rw0 (F:List (Nat × Int)) (m:Nat):List Int:=zIN F m m
theorem zGg (F:List (Nat × Int)):rw0 F 0=[]:=rfl
theorem zId {F:List (Nat × Int)} (h:Rows F) (x:Nat × Int) {m:Nat} (hm:m<=F.length):rw0 (F++[x]) m=rw0 F m:=zMX h x m m hm
theorem zOr {F:List (Nat × Int)} (h:Rows F) {m n:Nat} (hm:m<=F.length) (hn:n<=F.length) (e:rw0 F m=rw0 F n):m=n:=by
 unfold rw0 at e;rw [zDU h m m F.length (Nat.le_refl _) hm hm,zDU h n n F.length (Nat.le_refl _) hn hn] at e;exact zLS h F.length m n hm hn hm hn e
theorem zDq {F:List (Nat × Int)} (h:Rows F) {k:Nat} {x:Nat × Int} (e:F[k]? = some x):rw0 F (k+1)=rw0 F x.1++[x.2]:=by
 have hk:k<F.length:=by
  rcases Nat.lt_or_ge k F.length with g | g
  ·exact g
  ·rw [List.getElem?_eq_none g] at e;cases e
 have ha:=h.ahead k x e;unfold rw0;rw [zAz F k k x e,zDU h k x.1 x.1 ha (Nat.le_refl _) (by omega)]
def handP (h:Int × Nat):List Int->List (Option (Int × Nat))->Option (List (Option (Int × Nat)))
 | [],M=>some M
 | j::r,M=>match M.getD j.toNat none with
  | none=>handP h r (M.set j.toNat (some h))
  | some g=>if g=h then handP h r (M.set j.toNat (some h)) else none
def behF (F:List (Nat × Int)) (o a:Int) (m:Nat):Option (Nat × List (Nat × Int)) :=
 if o=6 then (match F.findIdx? (· == (m,a)) with | some k=>some (k+1,F) | none=>some (F.length+1,F++[(m,a)]))
 else if o=7 then (if m=0 then none else some (m,F))
 else if o=8 then (if m=0 \/ pairs (F.getD (m - 1) (0,0)).2=true then none else some (m,F))
 else if o=9 then (if m=0 \/ pairs (F.getD (m - 1) (0,0)).2=false then none else some (m,F))
 else if o=10 then (if m=0 then none else some ((F.getD (m - 1) (0,0)).1,F))
 else if o=16 then (if m=0 then some (m,F) else none)
 else some (m,F)
abbrev PS:=List (Option (Int × Nat)) × List (Nat × Int)
def stepP (i:Nat) (o a b:Int) (tl:List Int) (s:PS):Option PS :=
 match s.1.getD i none with
 | none=>none
 | some (v,m)=>match behF s.2 o a m with
  | none=>none
  | some (m2,F2)=>if v<(swO o b).1 \/ (o=16/\(swO o b).1<v) then none else
   match handP (v - (swO o b).1+(swO o b).2,m2) (onw o a b tl i).1 s.1 with
   | none=>none
   | some M1=>match handP (v,m) (onw o a b tl i).2 M1 with
    | none=>none
    | some M2=>some (M2,F2)
def zLX (o a:Int) (f:List Int):List Int:=if o=6 then f++[a] else if o=10 then f.dropLast else f
def zRk (n i:Nat) (o b:Int) (v:Int) (f:List Int):Bool :=
 decide (¬(o=16/\i+1<n)/\(nds o b).1<=v/\(nds o b).2.1<=f.length/\(o=16->v=1/\f.length=0)/\(o=8 \/ o=9->pairs (f.getLastD 0)=decide (o=9)))
theorem getD_set {α:Type} (l:List (Option α)) (i j:Nat) (x:Option α) (hi:i<l.length):(l.set i x).getD j none=if i=j then x else l.getD j none:=by
 simp only [List.getD_eq_getElem?_getD,List.getElem?_set];by_cases h:i=j
 ·subst h;simp [hi]
 ·simp [h]
theorem zPx (o:Int):o=6 \/ o=7 \/ o=8 \/ o=9 \/ o=10 \/ o=16 \/ (o ≠ 6/\o ≠ 7/\o ≠ 8/\o ≠ 9/\o ≠ 10/\o ≠ 16):=by omega
theorem zJU {F:List (Nat × Int)} (h:Rows F) {m:Nat} (hm:m<=F.length) (h0:m ≠ 0):(F.getD (m - 1) (0,0)).1<=F.length/\rw0 F m=rw0 F (F.getD (m - 1) (0,0)).1++[(F.getD (m - 1) (0,0)).2]:=by
 cases m with
 | zero=>exact absurd rfl h0
 | succ k =>
  obtain ⟨x,hx⟩:∃ x,F[k]? = some x:=⟨_,List.getElem?_eq_getElem (by omega)⟩
  have e:F.getD (k+1 - 1) (0,0)=x:=by rw [Nat.add_sub_cancel,List.getD_eq_getElem?_getD,hx];rfl
  rw [e];have ha:=h.ahead k x hx;exact ⟨by omega,zDq h hx⟩
def bst (o:Int) (f:List Int):Bool :=
 decide ((o=7 \/ o=8 \/ o=9 \/ o=10->1<=f.length)/\(o=16->f.length=0)/\(o=8 \/ o=9->pairs (f.getLastD 0)=decide (o=9)))
structure Beh (F:List (Nat × Int)) (o a:Int) (m m2:Nat) (F2:List (Nat × Int)):Prop where
 rows:Rows F2
 le:F.length<=F2.length
 old:∀ k:Nat,k<=F.length->rw0 F2 k=rw0 F k
 le2:m2<=F2.length
 row:rw0 F2 m2=zLX o a (rw0 F m)
theorem beh_some {F:List (Nat × Int)} (h:Rows F) {o a:Int} {m:Nat} (hm:m<=F.length) (hb:bst o (rw0 F m)=true):∃ m2 F2,behF F o a m=some (m2,F2)/\Beh F o a m m2 F2:=by
 simp only [bst,decide_eq_true_eq] at hb;obtain ⟨b1,b2,b3⟩:=hb;rcases zPx o with rfl | rfl | rfl | rfl | rfl | rfl | ⟨n1,n2,n3,n4,n5,n6⟩
 ·have e0:behF F 6 a m=(match F.findIdx? (· == (m,a)) with | some k=>some (k+1,F) | none=>some (F.length+1,F++[(m,a)])):=by simp [behF]
  rw [e0];cases e:F.findIdx? (· == (m,a)) with
  | some k =>
   rw [List.findIdx?_eq_some_iff_getElem] at e;obtain ⟨g1,g2,_⟩:=e;have g3:F[k]=(m,a):=by simpa using g2
   have g4:F[k]? = some (m,a):=by rw [List.getElem?_eq_getElem g1,g3]
   exact ⟨k+1,F,rfl,h,Nat.le_refl _,λ_ _=>rfl,g1,by rw [zDq h g4];simp [zLX]⟩
  | none =>
   rw [List.findIdx?_eq_none_iff] at e;have hno:∀ k:Nat,F[k]? ≠ some (m,a):=by
    intro k hk;have:=e (m,a) (List.mem_of_getElem? hk);simp at this
   have hr:=h.app (x:=(m,a)) hm hno;refine ⟨F.length+1,F++[(m,a)],rfl,hr,by simp,λk hk=>zId h _ hk,by simp,?_⟩;have g:(F++[(m,a)])[F.length]? = some (m,a):=by simp
   rw [zDq hr g,zId h _ hm];simp [zLX]
 all_goals
  try
   have h0:m ≠ 0:=by
    intro e;subst e;simp [zGg] at b1
   obtain ⟨t1,t2⟩:=zJU h hm h0;rw [t2] at b3;simp only [List.getLastD_concat] at b3
 ·exact ⟨m,F,by simp [behF,h0],h,Nat.le_refl _,λ_ _=>rfl,hm,by simp [zLX]⟩
 ·have b4:=b3 (by simp);exact ⟨m,F,by simp only [behF];rw [b4];simp [h0],h,Nat.le_refl _,λ_ _=>rfl,hm,by simp [zLX]⟩
 ·have b4:=b3 (by simp);exact ⟨m,F,by simp only [behF];rw [b4];simp [h0],h,Nat.le_refl _,λ_ _=>rfl,hm,by simp [zLX]⟩
 ·exact ⟨_,F,by simp [behF,h0],h,Nat.le_refl _,λ_ _=>rfl,t1,by rw [t2];simp [zLX]⟩
 ·have h0:m=0:=by
   have q:=b2 rfl;have q2:rw0 F m=rw0 F 0:=by rw [zGg];exact List.eq_nil_of_length_eq_zero q
   exact zOr h hm (Nat.zero_le _) q2
  exact ⟨m,F,by simp [behF,h0],h,Nat.le_refl _,λ_ _=>rfl,hm,by simp [zLX]⟩
 ·exact ⟨m,F,by simp [behF,n1,n2,n3,n4,n5,n6],h,Nat.le_refl _,λ_ _=>rfl,hm,by simp [zLX,n1,n5]⟩
theorem beh_none {F:List (Nat × Int)} (h:Rows F) {o a:Int} {m:Nat} (hm:m<=F.length) (hb:bst o (rw0 F m)=false):behF F o a m=none:=by
 simp only [bst,decide_eq_false_iff_not] at hb;rcases zPx o with rfl | rfl | rfl | rfl | rfl | rfl | ⟨n1,n2,n3,n4,n5,n6⟩
 ·exact absurd ⟨λq=>by omega,λq=>by omega,λq=>by omega⟩ hb
 all_goals
  try
   rcases Nat.eq_zero_or_pos m with h0 | hp
   ·subst h0;simp [behF]
   obtain ⟨t1,t2⟩:=zJU h hm (by omega);have h0:m ≠ 0:=by omega
   rw [t2] at hb;simp only [List.getLastD_concat,List.length_append,List.length_cons,List.length_nil] at hb
 ·exact absurd ⟨λq=>by omega,λq=>by omega,λq=>by omega⟩ hb
 ·simp only [behF];cases hq:pairs (F.getD (m - 1) (0,0)).2 with
  | true=>simp
  | false=>rw [hq] at hb;exact absurd ⟨λq=>by omega,λq=>by omega,λq=>rfl⟩ hb
 ·simp only [behF];cases hq:pairs (F.getD (m - 1) (0,0)).2 with
  | false=>simp
  | true=>rw [hq] at hb;exact absurd ⟨λq=>by omega,λq=>by omega,λq=>rfl⟩ hb
 ·exact absurd ⟨λq=>by omega,λq=>by omega,λq=>by omega⟩ hb
 ·have h0:m ≠ 0:=by
   intro e;subst e;exact hb ⟨λq=>by omega,λ_=>rfl,λq=>by omega⟩
  simp [behF,h0]
 ·exact absurd ⟨λq=>by omega,λq=>by omega,λq=>by omega⟩ hb
def runP {α:Type} (st:Nat->α->PS->Option PS):Nat->List α->PS->Bool
 | _,[],_=>true
 | i,x::r,s=>match st i x s with
  | none=>false
  | some s2=>runP st (i+1) r s2
def plc (rg:In->List Int->Bool) (n i:Nat) (x:In × List Int):Bool :=
 rg x.1 x.2 && (((x.1.op == 16) == (i+1 == n)) && (!(onw x.1.op x.1.a x.1.b x.2 i).1.any (λj=>decide (j<=(i:Int) \/ (n:Int)<=j)) && !(onw x.1.op x.1.a x.1.b x.2 i).2.any (λj=>decide (j<=(i:Int) \/ (n:Int)<=j))))
def plcs (rg:In->List Int->Bool) (n:Nat):Nat->List (In × List Int)->Bool
 | _,[]=>true
 | i,x::r=>plc rg n i x && plcs rg n (i+1) r
theorem plcs_iff (rg:In->List Int->Bool) (n:Nat):∀ (l:List (In × List Int)) (i:Nat),plcs rg n i l=true ↔ ∀ (k:Nat) (hk:k<l.length),plc rg n (i+k) (l[k])=true:=by
 intro l;induction l with
 | nil=>intro i;exact ⟨λ_ k hk=>absurd hk (Nat.not_lt_zero _),λ_=>rfl⟩
 | cons x r ih =>
  intro i;simp only [plcs,Bool.and_eq_true,ih (i+1)];constructor
  ·rintro ⟨h1,h2⟩ k hk;cases k with
   | zero=>exact h1
   | succ q =>
    have:=h2 q (by simp at hk;omega);simp only [List.getElem_cons_succ];rw [show i+(q+1)=i+1+q from by omega];exact this
  ·intro h;refine ⟨h 0 (by simp),λk hk=>?_⟩;have:=h (k+1) (by simp;omega);simp only [List.getElem_cons_succ] at this;rw [show i+1+k=i+(k+1) from by omega];exact this
def spI (i:Nat) (x:In × List Int) (s:PS):Option PS:=stepP i x.1.op x.1.a x.1.b x.2 s
def sP (n:Nat):PS:=((List.replicate n none).set 0 (some (0,0)),[])
def chkP (rg:In->List Int->Bool) (L:List (In × List Int)):Bool:=plcs rg L.length 0 L && (decide (0<L.length) && runP spI 0 L (sP L.length))
theorem zMt {l:List Int} {i n:Nat}:(!l.any (λj=>decide (j<=(i:Int) \/ (n:Int)<=j)))=true ↔ ∀ j ∈ l,(i:Int)<j/\j<(n:Int):=by
 simp only [Bool.not_eq_true',List.any_eq_false,decide_eq_true_eq];exact ⟨λh j hj=>by have:=h j hj;omega,λh j hj=>by have:=h j hj;omega⟩
theorem plc_iff (rg:In->List Int->Bool) (n i:Nat) (x:In × List Int):plc rg n i x=true ↔ rg x.1 x.2=true/\(x.1.op=16 ↔ i+1=n)/\(∀ j ∈ (onw x.1.op x.1.a x.1.b x.2 i).1,(i:Int)<j/\j<(n:Int))/\∀ j ∈ (onw x.1.op x.1.a x.1.b x.2 i).2,(i:Int)<j/\j<(n:Int):=by
 unfold plc;rw [Bool.and_eq_true,Bool.and_eq_true,Bool.and_eq_true,zMt,zMt];have e:((x.1.op == 16) == (i+1 == n))=true ↔ (x.1.op=16 ↔ i+1=n):=by
  rw [beq_iff_eq,Bool.eq_iff_iff,beq_iff_eq,beq_iff_eq]
 rw [e]
end Go.Proofs.YtedifblompcdkaaGreatDoor.Wc
