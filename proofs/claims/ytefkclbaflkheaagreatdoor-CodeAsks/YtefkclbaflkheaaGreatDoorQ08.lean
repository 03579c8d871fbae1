/- KWalkR, KCd, KWalkH, KWalkK, KWalkI, KWalkJ, KWalkY, KRows, KHtA, KHtB. -/
import Derived.Test.YtefkclbaflkheaaGreatDoorQ07
import Derived.Maps.OwnSet
set_option maxHeartbeats 4000000
set_option maxRecDepth 100000
set_option linter.unusedVariables false
namespace Go.Proofs.YtefkclbaflkheaaGreatDoor
open Tryz
open Go.RowKit
variable {ka kb:Nat} {x:Wc.In} {tv:Value} {W:World}
def v0I:Wt.Vl:=⟨0,0,0,⟨#[]⟩,false,0⟩
def c0I:Wpl.Cl:=⟨0,0,0⟩
def a0I:Wpl.Ar:=⟨0,0,0,0,0⟩
def zAE (k:Int):Wc.In:=⟨k,0,0,v0I,c0I,a0I,a0I⟩
abbrev zAG:Value:=.slice none 0 0
abbrev zAJ (w:World) (x:Wc.In) (tv:Value):World:=(w.alloc (.cells (zAD x tv).toArray 56)).alloc (.cells #[.int .i64 0,.int .i64 0,.int .i64 0,.int .i64 0,.int .i64 0,.int .i64 0,.string ⟨#[]⟩,.bool false,.int .i64 0,.int .i64 0,.int .i64 0,.int .i64 0,.int .i64 0,.int .i64 0,.int .i64 0,.int .i64 0,.int .i64 0,.int .i64 0,.int .i64 0,.int .i64 0,.int .i64 0,.int .i64 0,.slice none 0 0] 56)
theorem zJZ (x:Wc.In) (av:Option Addr) (n c:Nat):∀ v ∈ zAD x (.slice av n c),v.oneCell'=true:=by
 intro v hv;simp only [zAD,List.mem_cons,List.not_mem_nil,or_false] at hv;rcases hv with rfl | rfl | rfl | rfl | rfl | rfl | rfl | rfl | rfl | rfl | rfl | rfl | rfl | rfl | rfl | rfl | rfl | rfl | rfl | rfl | rfl | rfl | rfl <;> rfl
theorem zAZ (x:Wc.In) (av:Option Addr) (n c:Nat):(zAD x (.slice av n c)).toArray.all (·.oneCell')=true:=all_oneCell_toArray (zJZ x av n c)
abbrev zLh (ka kb:Nat) (x:Wc.In) (tv:Value) (W:World):Prop :=
 W.cell? ⟨ka,3,none⟩=some (.int .i64 x.v.k)/\W.cell? ⟨ka,4,none⟩=some (.int .i64 x.v.n)/\W.cell? ⟨ka,5,none⟩=some (.int .i64 x.v.d)/\W.cell? ⟨ka,6,none⟩=some (.string x.v.t)/\W.cell? ⟨ka,7,none⟩=some (.bool x.v.b)/\W.cell? ⟨ka,8,none⟩=some (.int .i64 x.v.f)/\W.frozen? ⟨kb,3,none⟩=false/\W.frozen? ⟨kb,4,none⟩=false/\W.frozen? ⟨kb,5,none⟩=false/\W.frozen? ⟨kb,6,none⟩=false/\W.frozen? ⟨kb,7,none⟩=false/\W.frozen? ⟨kb,8,none⟩=false
theorem zDk {y:Wc.In} {tu:Value} (h0:AtL W ka (zAD x tv)) (h1:AtL W kb (zAD y tu)):zLh ka kb x tv W :=
 ⟨h0.2.1 3 _ rfl,h0.2.1 4 _ rfl,h0.2.1 5 _ rfl,h0.2.1 6 _ rfl,h0.2.1 7 _ rfl,h0.2.1 8 _ rfl,h1.2.2 3 (by show 3<23;decide),h1.2.2 4 (by show 4<23;decide),h1.2.2 5 (by show 5<23;decide),h1.2.2 6 (by show 6<23;decide),h1.2.2 7 (by show 7<23;decide),h1.2.2 8 (by show 8<23;decide)⟩
theorem zBS (h:zLh ka kb x tv W) (hne:kb ≠ ka) (j:Nat) (u:Value):zLh ka kb x tv (W.setCell ⟨kb,j,none⟩ u):=by
 obtain ⟨h3,h4,h5,h6,h7,h8,g3,g4,g5,g6,g7,g8⟩:=h;refine ⟨?_,?_,?_,?_,?_,?_,?_,?_,?_,?_,?_,?_⟩;any_goals rw [World.cell?_setCell_far _ _ _ _ (by simpa using hne)];assumption
 all_goals rw [World.frozen?_setCell];assumption
theorem zJB (x:Wc.In) (av:Option Addr) (n c:Nat) (tl:List Int) (w:World) (hk:x.op=1) (hz:RdZ w (.slice av n c) tl) (hl:tl.length<=1000000) (h1:-9223372036854775808<=x.v.n) (h2:x.v.n<=9223372036854775807) (h3:-9223372036854775808<=x.v.d) (h4:x.v.d<=9223372036854775807) (hs:x.v.t.size<=9223372036854775807) :
  CR 61 #[inV x (.slice av n c)] w (.bool (Wv.right x.v.k x.v.n x.v.d x.v.t x.v.b x.v.f && (smI x ⟨1,0,0,x.v,c0I,a0I,a0I⟩ && decide (tl=[])))):=by
 have C:=(λw=>zCR x.v w h1 h2 h3 h4 hs:∀ w:World,CR 92 #[.agg #[.int .i64 x.v.k,.int .i64 x.v.n,.int .i64 x.v.d,.string x.v.t,.bool x.v.b,.int .i64 x.v.f]] w (.bool (Wv.right x.v.k x.v.n x.v.d x.v.t x.v.b x.v.f)))
 have CS:∀ w',Below w.heap.size w w'->Calls prog 97 #[.agg (zAD x (.slice av n c)).toArray,.agg (zAD ⟨1,0,0,x.v,c0I,a0I,a0I⟩ zAG).toArray] w' λe w''=>e=.returned (.bool (smI x ⟨1,0,0,x.v,c0I,a0I,a0I⟩ && decide (tl=[])))/\Below w'.heap.size w' w'':=λw' hb=>zA0 x ⟨1,0,0,x.v,c0I,a0I,a0I⟩ _ _ tl [] w' (hz.below hb) (RdZ.nil _) hl (by first | exact hl | simp)
 obtain ⟨tv,htv⟩:∃ tv,Value.slice av n c=tv:=⟨_,rfl⟩
 rw [htv] at CS ⊢;generalize (smI x ⟨1,0,0,x.v,c0I,a0I,a0I⟩ && decide (tl=[]))=R at *;generalize Wv.right x.v.k x.v.n x.v.d x.v.t x.v.b x.v.f=q at *;have pA0:AtL (zAJ w x tv) w.heap.size (zAD x tv):=(AtL.new0 w _ _).alloc _;have pO0:AtL (zAJ w x tv) (w.heap.size+1) (zAD (zAE 0) zAG):=AtL.new1 w _ _ _;have hth:World.there (zAJ w x tv) (w.heap.size+1) 0 (zAD (zAE 1) zAG).toArray.size:=pO0.there;have hne:w.heap.size+1 ≠ w.heap.size:=by omega
 have pA:=pA0.farAll hne 0 (zAD (zAE 1) zAG);have pO:AtL ((zAJ w x tv).setCells (w.heap.size+1) 0 (zAD (zAE 1) zAG)) (w.heap.size+1) (zAD (zAE 1) zAG):=pO0.setAll rfl;have hBa:Below w.heap.size w ((zAJ w x tv).setCells (w.heap.size+1) 0 (zAD (zAE 1) zAG)):=zAa (zAK (zAK (Below.refl _ w) _) _) (Nat.le_succ _) _ 0;clear pA0 pO0;have n0:(zAD x tv)[0]? = some (.int .i64 1):=by rw [<-hk];rfl
 have a0:World.cell? ((zAJ w x tv).setCells (w.heap.size+1) 0 (zAD (zAE 1) zAG)) ⟨w.heap.size,0,none⟩=some (.int .i64 1):=pA.2.1 0 _ n0;show Calls _ _ #[.agg (zAD x tv).toArray] _ _
 have hS:zLh w.heap.size (w.heap.size+1) x tv ((zAJ w x tv).setCells (w.heap.size+1) 0 (zAD (zAE 1) zAG)):=zDk pA pO;clear hz hl htv;cases q
 all_goals
  go_enter func61,ntmps61;go_upto_region 1 with fail
  go_upto_region 2 with ((with_reducible refine wpList_store_mid ?_ 56 (.tmp 3) (.tmp 7) ?_ (w.heap.size+1) 0 (zAD (zAE 1) zAG).toArray ?_ ?_ ?_ ?_ ?_ ?_);rfl;rfl;rfl;rfl;exact hth;kernel_rfl;exact zAZ _ _ _ _)
  generalize (zAJ w x tv).setCells (w.heap.size+1) 0 (zAD (zAE 1) zAG)=W0 at *;clear hth;go_upto_region 4 with fail
  go_region_held3 (zLh w.heap.size (w.heap.size+1) x tv)
   (with_reducible first | exact hS | assumption | exact zDk pA1 pO1 | exact (zBS (zBS (zBS (zBS (zBS (zBS (by assumption) (by omega) _ _) (by omega) _ _) (by omega) _ _) (by omega) _ _) (by omega) _ _) (by omega) _ _) | exact zDk (AtL.drew pA) (AtL.drew pO))
   (first | (go_at_call 92;refine (C _).mono ?_;rintro e w1 ⟨rfl,hb⟩;have pA1:=AtL.below hb (AtL.drew pA);have pO1:=AtL.below hb (AtL.drew pO);have o3:=pO1.2.1 3 _ rfl;have o4:=pO1.2.1 4 _ rfl;have o5:=pO1.2.1 5 _ rfl;have o6:=pO1.2.1 6 _ rfl;have o7:=pO1.2.1 7 _ rfl;have o8:=pO1.2.1 8 _ rfl;have hB1:=zAB hBa.drew hb))
  all_goals
   clear pA pO hS C hBa o3 o4 o5 o6 o7 o8 a0;have pA2:AtL ((((((w1.setCell ⟨w.heap.size+1,3,none⟩ (.int .i64 x.v.k)).setCell ⟨w.heap.size+1,4,none⟩ (.int .i64 x.v.n)).setCell ⟨w.heap.size+1,5,none⟩ (.int .i64 x.v.d)).setCell ⟨w.heap.size+1,6,none⟩ (.string x.v.t)).setCell ⟨w.heap.size+1,7,none⟩ (.bool x.v.b)).setCell ⟨w.heap.size+1,8,none⟩ (.int .i64 x.v.f)) w.heap.size (zAD x tv):=((((((pA1.far hne 3 (.int .i64 x.v.k)).far hne 4 (.int .i64 x.v.n)).far hne 5 (.int .i64 x.v.d)).far hne 6 (.string x.v.t)).far hne 7 (.bool x.v.b)).far hne 8 (.int .i64 x.v.f))
   have pO2:AtL ((((((w1.setCell ⟨w.heap.size+1,3,none⟩ (.int .i64 x.v.k)).setCell ⟨w.heap.size+1,4,none⟩ (.int .i64 x.v.n)).setCell ⟨w.heap.size+1,5,none⟩ (.int .i64 x.v.d)).setCell ⟨w.heap.size+1,6,none⟩ (.string x.v.t)).setCell ⟨w.heap.size+1,7,none⟩ (.bool x.v.b)).setCell ⟨w.heap.size+1,8,none⟩ (.int .i64 x.v.f)) (w.heap.size+1) (zAD ⟨1,0,0,x.v,c0I,a0I,a0I⟩ zAG):=((((((pO1.set 3 (.int .i64 x.v.k)).set 4 (.int .i64 x.v.n)).set 5 (.int .i64 x.v.d)).set 6 (.string x.v.t)).set 7 (.bool x.v.b)).set 8 (.int .i64 x.v.f))
   have hB2:Below w.heap.size w ((((((w1.setCell ⟨w.heap.size+1,3,none⟩ (.int .i64 x.v.k)).setCell ⟨w.heap.size+1,4,none⟩ (.int .i64 x.v.n)).setCell ⟨w.heap.size+1,5,none⟩ (.int .i64 x.v.d)).setCell ⟨w.heap.size+1,6,none⟩ (.string x.v.t)).setCell ⟨w.heap.size+1,7,none⟩ (.bool x.v.b)).setCell ⟨w.heap.size+1,8,none⟩ (.int .i64 x.v.f)):=(clB hB1)
   clear pA1 pO1 hB1;generalize ((((((w1.setCell ⟨w.heap.size+1,3,none⟩ (.int .i64 x.v.k)).setCell ⟨w.heap.size+1,4,none⟩ (.int .i64 x.v.n)).setCell ⟨w.heap.size+1,5,none⟩ (.int .i64 x.v.d)).setCell ⟨w.heap.size+1,6,none⟩ (.string x.v.t)).setCell ⟨w.heap.size+1,7,none⟩ (.bool x.v.b)).setCell ⟨w.heap.size+1,8,none⟩ (.int .i64 x.v.f))=W2 at *;have rA:=pA2.range;have rO:=pO2.range;clear pA2 pO2;go_wp2_with (first | ((with_reducible refine zAA ?_ 56 (.tmp 1) ?_ w.heap.size 0 ?_ (zAD x tv) _ ?_ underlying56 ?_ ?_ ?_);rfl;rfl;rfl;exact rA;rfl;kernel_rfl) | ((with_reducible refine zAA ?_ 56 (.tmp 3) ?_ (w.heap.size+1) 0 ?_ (zAD ⟨1,0,0,x.v,c0I,a0I,a0I⟩ zAG) _ ?_ underlying56 ?_ ?_ ?_);rfl;rfl;rfl;exact rO;rfl;kernel_rfl) | (go_at_call 97;refine (CS _ hB2).mono ?_;rintro e w3 ⟨rfl,hb3⟩;have hB3:=zAB hB2 hb3))
   go_wp2;go_ret;first
   | exact ⟨by simp,hB2⟩
   | exact ⟨by simp,hB3⟩
end Go.Proofs.YtefkclbaflkheaaGreatDoor
namespace Go.Proofs.YtefkclbaflkheaaGreatDoor.Wf
open Go.Proofs.YtefkclbaflkheaaGreatDoor
def idx (s:ByteArray):List ByteArray->Nat->Int
 | [],_=>-1
 | t::r,i=>if t=s then (i:Int) else idx s r (i+1)
def shN (own:Int) (nm:List ByteArray) (s:ByteArray):Int:=if s=⟨#[]⟩ then own else idx s nm 0
def zMG (x:Wt.Nd):Wpl.Ar:=⟨0,min x.a.r x.b.r,min x.a.c x.b.c,max x.a.r x.b.r,max x.a.c x.b.c⟩
def zKv (own:Int) (nm:List ByteArray) (x:Wt.Nd):Wpl.Ar:={zMG x with s:=shN own nm x.a.s}
def zFy (own:Int) (nm:List ByteArray) (x:Wt.Nd):Wpl.Cl:=⟨shN own nm x.a.s,x.a.r,x.a.c⟩
def isA (x:Wt.Nd):Bool:=x.k == 3
def zMh (s:ByteArray):Nat:=fnN.findIdx (λl=>decide ((⟨l.toArray⟩:ByteArray)=s))
def zL7 (p:List UInt8):List Wt.Nd->Nat->Bool
 | [],_=>true
 | x::r,i=>if (p.getD (min i (p.length - 1)) 0 == 97 && !isA x) || (p.getD (min i (p.length - 1)) 0 == 118 && isA x) then false else zL7 p r (i+1)
def zDr (l:List Wt.Nd):List Wt.Nd:=l.filter isA
def zKW (id:Int) (l:List Wt.Nd):Bool :=
 if Wc.pairs id then
  let a:=zMG ((zDr l).headD ⟨0,v0I,0,⟨#[]⟩,0,Wt.r0,Wt.r0⟩)
  let b:=zMG ((zDr l).getLastD ⟨0,v0I,0,⟨#[]⟩,0,Wt.r0,Wt.r0⟩)
  (a.b - a.t == b.b - b.t) && (a.r - a.l == b.r - b.l)
 else true
def zLT (x:Wt.Nd) (ks:List Wt.Nd):Int :=
 let id:Int:=(zMh x.nm:Nat)
 if zAt id=false then 80
 else if x.ar<(zA7 id).l \/ (zA7 id).m<x.ar then 81
 else if zL7 (zA7 id).p.data.toList ks 0=false then 82
 else if zKW id ks=false then 83 else 0
def zJX (own:Int) (nm:List ByteArray) (x:Wt.Nd) (ks:List Wt.Nd):Int :=
 if x.k=2 \/ x.k=3 then (if shN own nm x.a.s<0 then 84 else 0)
 else if x.k=4 \/ x.k=5 then (if ks.any isA then 82 else 0)
 else if x.k=6 then zLT x ks else 0
def zLf:List Int->Int
 | []=>0
 | a::r=>if a=0 then zLf r else a
def zCJ (own:Int) (nm:List ByteArray):(n:Nat)->Tr n->Int
 | 0,t=>Empty.elim t
 | n+1,t=>zLf (zJX own nm (Br.x t) ((Br.ks t).map (hd n))::(Br.ks t).map (zCJ own nm n))
abbrev I:=Wc.In × List Int
def ins (o a b:Int):I:=(⟨o,a,b,v0I,c0I,a0I,a0I⟩,[])
def zJb (v:Wt.Vl):I:=(⟨1,0,0,v,c0I,a0I,a0I⟩,[])
def zLJ (c:Wpl.Cl):I:=(⟨2,0,0,v0I,c,a0I,a0I⟩,[])
def zME (o b:Int) (a p:Wpl.Ar):I:=(⟨o,0,b,v0I,c0I,a,p⟩,[])
def zMi (k:Int):Wt.Vl:=⟨1,k,1,⟨#[]⟩,false,0⟩
def zMl:Wt.Vl:=⟨3,0,0,⟨#[]⟩,false,0⟩
def zBk {α:Type} (f:α->Nat->List I):List α->Nat->List I
 | [],_=>[]
 | k::r,a=>f k a++zBk f r (a+(f k a).length)
def zEm {α:Type} (f:α->Nat->List I) (k:α) (a:Nat):List I:=f k a++[ins 7 0 0]
section
variable (own:Int) (nm:List ByteArray)
def zMN {α:Type} (h:α->Wt.Nd) (f:α->Nat->List I) (k:α) (a:Nat):List I :=
 if isA (h k) then [zME 8 0 (zKv own nm (h k)) a0I] else zEm f k a
def zLm {α:Type} (h:α->Wt.Nd) (f:α->Nat->List I) (id:Int) (ks:List α) (a:Nat):List I :=
 let ars:=zDr (ks.map h)
 let vs:=ks.filter (λk=>!isA (h k))
 let x:=zKv own nm (ars.headD ⟨0,v0I,0,⟨#[]⟩,0,Wt.r0,Wt.r0⟩)
 let y:=zKv own nm (ars.getLastD ⟨0,v0I,0,⟨#[]⟩,0,Wt.r0,Wt.r0⟩)
 if id=26 then [zJb (zMi (x.b - x.t+1))]
 else if id=27 then [zJb (zMi (x.r - x.l+1))]
 else if id=25 then zBk f vs a++[zME 11 vs.length x a0I]
 else ins 6 id 0::(zBk (zEm f) vs (a+1)++[if Wc.pairs id then zME 9 0 x y else zME 8 0 x a0I,ins 10 0 0])
def zL6 {α:Type} (f:α->Nat->List I) (yes:α) (no:List α) (a:Nat):List I :=
 let y:=f yes (a+1)
 let m:=a+1+y.length+1
 let z:=if no.isEmpty then [zJb zMl] else zBk f no m
 ins 12 m (m+z.length:Nat)::(y++ins 13 (m+z.length:Nat) 0::z)
def chB {α:Type} (f:α->Nat->List I) (e:Int):List α->Nat->List I
 | [],_=>[]
 | k::r,a=>ins 13 e 0::(f k (a+1)++chB f e r (a+1+(f k (a+1)).length))
def chT {α:Type} (f:α->Nat->List I):List α->Nat->List Int
 | [],_=>[]
 | k::r,a=>((a+1:Nat):Int)::chT f r (a+1+(f k (a+1)).length)
def zIZ {α:Type} (f:α->Nat->List I) (l:List α) (a:Nat):List I :=
 match l with
 | []=>[(⟨15,0,(a+1:Nat),v0I,c0I,a0I,a0I⟩,[])]
 | k::r =>
  let y:=f k (a+1)
  let m:=a+1+y.length
  let e:=m+(chB f 0 r m).length
  (⟨15,0,(e:Nat),v0I,c0I,a0I,a0I⟩,((a+1:Nat):Int)::chT f r m)::(y++chB f e r m)
def zKj {α:Type} (f:α->Nat->List I) (id:Int) (ks:List α) (a:Nat):List I :=
 match ks with
 | []=>[]
 | c::r =>
  let y:=f c a
  y++(match r with
   | []=>if id=32 then zIZ f [] (a+y.length) else []
   | u::no=>if id=30 then zL6 f u no (a+y.length)
    else if id=31 then ins 14 (a+y.length+1+(f u (a+y.length+1)).length:Nat) 0::f u (a+y.length+1)
    else zIZ f (u::no) (a+y.length))
def zF8 {α:Type} (h:α->Wt.Nd) (f:α->Nat->List I) (x:Wt.Nd) (ks:List α) (a:Nat):List I :=
 let id:Int:=(zMh x.nm:Nat)
 let c:=(zA7 id).c
 if c=4 then zBk f ks a++[ins 5 id x.ar]
 else if c=1 then ins 6 id 0::(zBk (zMN own nm h f) ks (a+1)++[ins 10 0 0])
 else if c=2 then zLm own nm h f id ks a
 else zKj f id ks a
def zBZ {α:Type} (h:α->Wt.Nd) (f:α->Nat->List I) (x:Wt.Nd) (ks:List α) (a:Nat):List I :=
 if x.k=1 then [zJb x.v]
 else if x.k=2 then [zLJ (zFy own nm x)]
 else if x.k=4 then zBk f ks a++[ins 3 x.op 0]
 else if x.k=5 then zBk f ks a++[ins 4 x.op 0]
 else if x.k=6 then zF8 own nm h f x ks a else []
def cod:(n:Nat)->Tr n->Nat->List I
 | 0,t,_=>Empty.elim t
 | n+1,t,a=>zBZ own nm (hd n) (cod n) (Br.x t) (Br.ks t) a
end
end Go.Proofs.YtefkclbaflkheaaGreatDoor.Wf
namespace Go.Proofs.YtefkclbaflkheaaGreatDoor
open Tryz
open Go.RowKit
variable {w:World} {b ck:Nat} {es:Array MapEntry} {P:Program}
theorem zI2 (id:Int) (w:World) (hN:NmAt w):CR 118 #[.int .i64 id] w (.tuple #[.agg (zKy id).toArray,.bool (zAt id)]):=by
 unfold zKy;by_cases h0:id<0
 ·have e:zAt id=false:=by unfold zAt;rw [decide_eq_false (by omega)];rfl
  rw [e];exact zIR id w hN h0
 by_cases h1:63<=id
 ·have e:zAt id=false:=by unfold zAt;rw [decide_eq_false (p:=id<63) (by omega),Bool.false_and,Bool.and_false]
  rw [e];exact zJJ id w hN h1
 by_cases he:zEH id=[]
 ·have e:zAt id=false:=by unfold zAt;rw [he];simp
  rw [e];exact zI9 id w hN (by omega) (by omega) he
 ·have e:zAt id=true:=by
   unfold zAt;rw [decide_eq_true (by omega),decide_eq_true (by omega)];cases hx:zEH id with
   | nil=>exact absurd hx he
   | cons a t=>rfl
  rw [e,if_pos rfl];exact zK9 id w hN (by omega) (by omega) he
def apl (id n:Int):Bool:=zAt id && ((zA7 id).c == 4 && (decide ((zA7 id).l<=n) && decide (n<=(zA7 id).m)))
theorem zDt (id n:Int) (w:World) (hN:NmAt w):CR 93 #[.int .i64 id,.int .i64 n] w (.bool (apl id n)):=by
 have BY:=zI2 id w hN;unfold zKy at BY;unfold apl;cases hk:zAt id with
 | false =>
  rw [hk,if_neg (by simp)] at BY;unfold zero6 at BY;clear hk hN;go_enter func93,ntmps93;go_wp2_with fail
  refine BY.mono ?_;rintro e w1 ⟨rfl,hb1⟩;have pZ:=AtL.new0 w1 108 (sg6 0 0 ⟨#[]⟩ 0 0 ⟨#[]⟩);have hB1:=zAK hb1 (.cells (sg6 0 0 ⟨#[]⟩ 0 0 ⟨#[]⟩).toArray 108);obtain ⟨b0,b1,b2,b3,b4,b5,k0,k1,k2,k3,k4,k5⟩:=at6 pZ;clear BY;go_wp2;go_ret;exact ⟨by simp,(clB hb1)⟩
 | true =>
  rw [hk,if_pos rfl] at BY;clear hk hN;generalize zA7 id=s at *;generalize (⟨(zEH id).toArray⟩:ByteArray)=nm at *;cases h4:(s.c == 4) with
  | false =>
   go_enter func93,ntmps93;go_wp2_with fail
   refine BY.mono ?_;rintro e w1 ⟨rfl,hb1⟩;have pZ:=AtL.new0 w1 108 (sg6 0 0 ⟨#[]⟩ 0 0 ⟨#[]⟩);have hB1:=zAK hb1 (.cells (sg6 0 0 ⟨#[]⟩ 0 0 ⟨#[]⟩).toArray 108);have hth:World.there (w1.alloc (.cells (sg6 0 0 ⟨#[]⟩ 0 0 ⟨#[]⟩).toArray 108)) w1.heap.size 0 (sg6 id s.c nm s.l s.m s.p).toArray.size:=pZ.there;clear BY;go_upto_region 2 with ((with_reducible refine wpList_store_mid ?_ 108 (.tmp 5) (.tmp 10) ?_ (w1.heap.size) 0 (sg6 id s.c nm s.l s.m s.p).toArray ?_ ?_ ?_ ?_ ?_ ?_);rfl;rfl;rfl;rfl;exact hth;kernel_rfl;exact zJM _ _ _ _ _ _)
   have pZ9:AtL ((w1.alloc (.cells (sg6 0 0 ⟨#[]⟩ 0 0 ⟨#[]⟩).toArray 108)).setCells w1.heap.size 0 (sg6 id s.c nm s.l s.m s.p)) w1.heap.size (sg6 id s.c nm s.l s.m s.p):=pZ.setAll rfl;have hB9:Below w.heap.size w ((w1.alloc (.cells (sg6 0 0 ⟨#[]⟩ 0 0 ⟨#[]⟩).toArray 108)).setCells w1.heap.size 0 (sg6 id s.c nm s.l s.m s.p)):=zAa hB1 hb1.size _ 0;generalize World.setCells (w1.alloc (.cells (sg6 0 0 ⟨#[]⟩ 0 0 ⟨#[]⟩).toArray 108)) w1.heap.size 0 (sg6 id s.c nm s.l s.m s.p)=W9 at *;obtain ⟨b0,b1,b2,b3,b4,b5,k0,k1,k2,k3,k4,k5⟩:=at6 pZ9;go_wp2;go_ret;exact ⟨by simp,hB9⟩
  | true =>
   by_cases hl:s.l<=n
   ·by_cases hm:n<=s.m
    ·go_enter func93,ntmps93;go_wp2_with fail
     refine BY.mono ?_;rintro e w1 ⟨rfl,hb1⟩;have pZ:=AtL.new0 w1 108 (sg6 0 0 ⟨#[]⟩ 0 0 ⟨#[]⟩);have hB1:=zAK hb1 (.cells (sg6 0 0 ⟨#[]⟩ 0 0 ⟨#[]⟩).toArray 108);have hth:World.there (w1.alloc (.cells (sg6 0 0 ⟨#[]⟩ 0 0 ⟨#[]⟩).toArray 108)) w1.heap.size 0 (sg6 id s.c nm s.l s.m s.p).toArray.size:=pZ.there;clear BY;go_upto_region 2 with ((with_reducible refine wpList_store_mid ?_ 108 (.tmp 5) (.tmp 10) ?_ (w1.heap.size) 0 (sg6 id s.c nm s.l s.m s.p).toArray ?_ ?_ ?_ ?_ ?_ ?_);rfl;rfl;rfl;rfl;exact hth;kernel_rfl;exact zJM _ _ _ _ _ _)
     have pZ9:AtL ((w1.alloc (.cells (sg6 0 0 ⟨#[]⟩ 0 0 ⟨#[]⟩).toArray 108)).setCells w1.heap.size 0 (sg6 id s.c nm s.l s.m s.p)) w1.heap.size (sg6 id s.c nm s.l s.m s.p):=pZ.setAll rfl;have hB9:Below w.heap.size w ((w1.alloc (.cells (sg6 0 0 ⟨#[]⟩ 0 0 ⟨#[]⟩).toArray 108)).setCells w1.heap.size 0 (sg6 id s.c nm s.l s.m s.p)):=zAa hB1 hb1.size _ 0;generalize World.setCells (w1.alloc (.cells (sg6 0 0 ⟨#[]⟩ 0 0 ⟨#[]⟩).toArray 108)) w1.heap.size 0 (sg6 id s.c nm s.l s.m s.p)=W9 at *;obtain ⟨b0,b1,b2,b3,b4,b5,k0,k1,k2,k3,k4,k5⟩:=at6 pZ9;go_wp2;go_ret;exact ⟨by simp [hl,hm],hB9⟩
    ·go_enter func93,ntmps93;go_wp2_with fail
     refine BY.mono ?_;rintro e w1 ⟨rfl,hb1⟩;have pZ:=AtL.new0 w1 108 (sg6 0 0 ⟨#[]⟩ 0 0 ⟨#[]⟩);have hB1:=zAK hb1 (.cells (sg6 0 0 ⟨#[]⟩ 0 0 ⟨#[]⟩).toArray 108);have hth:World.there (w1.alloc (.cells (sg6 0 0 ⟨#[]⟩ 0 0 ⟨#[]⟩).toArray 108)) w1.heap.size 0 (sg6 id s.c nm s.l s.m s.p).toArray.size:=pZ.there;clear BY;go_upto_region 2 with ((with_reducible refine wpList_store_mid ?_ 108 (.tmp 5) (.tmp 10) ?_ (w1.heap.size) 0 (sg6 id s.c nm s.l s.m s.p).toArray ?_ ?_ ?_ ?_ ?_ ?_);rfl;rfl;rfl;rfl;exact hth;kernel_rfl;exact zJM _ _ _ _ _ _)
     have pZ9:AtL ((w1.alloc (.cells (sg6 0 0 ⟨#[]⟩ 0 0 ⟨#[]⟩).toArray 108)).setCells w1.heap.size 0 (sg6 id s.c nm s.l s.m s.p)) w1.heap.size (sg6 id s.c nm s.l s.m s.p):=pZ.setAll rfl;have hB9:Below w.heap.size w ((w1.alloc (.cells (sg6 0 0 ⟨#[]⟩ 0 0 ⟨#[]⟩).toArray 108)).setCells w1.heap.size 0 (sg6 id s.c nm s.l s.m s.p)):=zAa hB1 hb1.size _ 0;generalize World.setCells (w1.alloc (.cells (sg6 0 0 ⟨#[]⟩ 0 0 ⟨#[]⟩).toArray 108)) w1.heap.size 0 (sg6 id s.c nm s.l s.m s.p)=W9 at *;obtain ⟨b0,b1,b2,b3,b4,b5,k0,k1,k2,k3,k4,k5⟩:=at6 pZ9;go_wp2;go_ret;exact ⟨by simp [hl],hB9⟩
   ·go_enter func93,ntmps93;go_wp2_with fail
    refine BY.mono ?_;rintro e w1 ⟨rfl,hb1⟩;have pZ:=AtL.new0 w1 108 (sg6 0 0 ⟨#[]⟩ 0 0 ⟨#[]⟩);have hB1:=zAK hb1 (.cells (sg6 0 0 ⟨#[]⟩ 0 0 ⟨#[]⟩).toArray 108);have hth:World.there (w1.alloc (.cells (sg6 0 0 ⟨#[]⟩ 0 0 ⟨#[]⟩).toArray 108)) w1.heap.size 0 (sg6 id s.c nm s.l s.m s.p).toArray.size:=pZ.there;clear BY;go_upto_region 2 with ((with_reducible refine wpList_store_mid ?_ 108 (.tmp 5) (.tmp 10) ?_ (w1.heap.size) 0 (sg6 id s.c nm s.l s.m s.p).toArray ?_ ?_ ?_ ?_ ?_ ?_);rfl;rfl;rfl;rfl;exact hth;kernel_rfl;exact zJM _ _ _ _ _ _)
    have pZ9:AtL ((w1.alloc (.cells (sg6 0 0 ⟨#[]⟩ 0 0 ⟨#[]⟩).toArray 108)).setCells w1.heap.size 0 (sg6 id s.c nm s.l s.m s.p)) w1.heap.size (sg6 id s.c nm s.l s.m s.p):=pZ.setAll rfl;have hB9:Below w.heap.size w ((w1.alloc (.cells (sg6 0 0 ⟨#[]⟩ 0 0 ⟨#[]⟩).toArray 108)).setCells w1.heap.size 0 (sg6 id s.c nm s.l s.m s.p)):=zAa hB1 hb1.size _ 0;generalize World.setCells (w1.alloc (.cells (sg6 0 0 ⟨#[]⟩ 0 0 ⟨#[]⟩).toArray 108)) w1.heap.size 0 (sg6 id s.c nm s.l s.m s.p)=W9 at *;obtain ⟨b0,b1,b2,b3,b4,b5,k0,k1,k2,k3,k4,k5⟩:=at6 pZ9;go_wp2;go_ret;exact ⟨by simp;omega,hB9⟩
def FoldL (w:World) (b o:Nat) (F:List (Int × Int)):Prop:=∃ av cap,w.cell? ⟨b,o,none⟩=some (.slice av F.length cap)/\∀ i (h:i<F.length),∃ bb off,av=some ⟨bb,off,none⟩/\w.cell? ⟨bb,off+i * 2,none⟩=some (.int .i64 (F[i]).1)/\w.cell? ⟨bb,off+i * 2+1,none⟩=some (.int .i64 (F[i]).2)
theorem FoldL.below {w':World} {o:Nat} {F:List (Int × Int)} (h:FoldL w b o F) (hb:Below w.heap.size w w'):FoldL w' b o F:=by
 obtain ⟨av,cap,h1,h2⟩:=h;refine ⟨av,cap,zAC hb h1,λi hi=>?_⟩;obtain ⟨bb,off,e,h3,h4⟩:=h2 i hi;exact ⟨bb,off,e,zAC hb h3,zAC hb h4⟩
theorem zGS (b o:Nat) (w:World):CR 141 #[.pointer (some ⟨b,o,none⟩),.int .i64 0] w (.tuple #[.agg #[.int .i64 0,.int .i64 0],.bool false]):=by
 have pZ:=AtL.new0 w 193 [.int .i64 0,.int .i64 0];have hB:=zAK (Below.refl _ w) (.cells #[.int .i64 0,.int .i64 0] 193);obtain ⟨b0,b1,k0,k1⟩:=pZ.two;clear pZ;go_enter func141,ntmps141;go_upto_region 1 with fail
 generalize (w.alloc (.cells #[.int .i64 0,.int .i64 0] 193))=W at *;go_wp2;refine bodyPost_ret (v:=.tuple #[.agg #[.int .i64 0,.int .i64 0],.bool false]) (by simp [results,results141,go_sem,b0,b1]) rfl ⟨rfl,(clB hB)⟩
theorem zIW (b o:Nat) (F:List (Int × Int)) (i:Nat) (w:World) (hF:FoldL w b o F) (hi:i<F.length) (hl:F.length<=1000000):CR 141 #[.pointer (some ⟨b,o,none⟩),.int .i64 ((i:Int)+1)] w (.tuple #[.agg #[.int .i64 (F[i]).1,.int .i64 (F[i]).2],.bool true]):=by
 have pZ:=AtL.new0 w 193 [.int .i64 0,.int .i64 0];have hB:=zAK (Below.refl _ w) (.cells #[.int .i64 0,.int .i64 0] 193);obtain ⟨av,cap,h1,h2⟩:=hF.below hB;obtain ⟨bb,off,rfl,h3,h4⟩:=h2 i hi;obtain ⟨b0,b1,k0,k1⟩:=pZ.two;have n0:((i:Int)+1 == 0)=false:=by simp;omega
 have w1:IntKind.i64.wrap ((i:Int)+1 - 1)=(i:Int):=by rw [IntKind.wrap_i64];omega
 have w2:IntKind.i64.wrap (i:Int)=(i:Int):=by rw [IntKind.wrap_i64];omega
 have l0:(0:Int)<=(i:Int):=by omega
 have l1:(i:Int)<(F.length:Int):=by omega
 generalize (F[i]).1=x at *;generalize (F[i]).2=y at *;clear pZ h2 hF hi hl;go_enter func141,ntmps141;go_upto_region 1 with fail
 generalize (w.alloc (.cells #[.int .i64 0,.int .i64 0] 193))=W at *;go_wp2;refine bodyPost_ret (v:=.tuple #[.agg #[.int .i64 x,.int .i64 y],.bool true]) (by simp [results,results141,go_sem,b0,b1]) rfl ⟨rfl,(clB hB)⟩
def fld (id:Int):Bool:=decide ((1<=id/\id<=15) \/ (20<=id/\id<=24))
theorem zBU (id:Int) (w:World):Calls prog 146 #[.int .i64 id] w λe w'=>e=.returned (.bool (fld id))/\w=w':=by
 have HF:∀ b,fld id=b->Hid (fld id=b):=λ_ h=>h
 by_cases h1:1<=id
 ·have d1:decide (1<=id)=true:=decide_eq_true h1;by_cases h2:id<=15
  ·have e:=HF true (by unfold fld;rw [decide_eq_true_iff];omega);rw [e.out];clear HF e;go_enter func146,ntmps146;go_wp2;go_ret;exact ⟨by simp,rfl⟩
  ·by_cases h3:20<=id
   ·by_cases h4:id<=24
    ·have e:=HF true (by unfold fld;rw [decide_eq_true_iff];omega);rw [e.out];clear HF e;go_enter func146,ntmps146;go_wp2;go_ret;exact ⟨by simp,rfl⟩
    ·have e:=HF false (by unfold fld;rw [decide_eq_false_iff_not];omega);rw [e.out];clear HF e;go_enter func146,ntmps146;go_wp2;go_ret;exact ⟨by simp,rfl⟩
   ·have e:=HF false (by unfold fld;rw [decide_eq_false_iff_not];omega);rw [e.out];clear HF e;go_enter func146,ntmps146;go_wp2;go_ret;exact ⟨by simp,rfl⟩
 ·have e:=HF false (by unfold fld;rw [decide_eq_false_iff_not];omega);have h3:¬ 20<=id:=by omega
  rw [e.out];clear HF e;go_enter func146,ntmps146;go_wp2;go_ret;exact ⟨by simp,rfl⟩
theorem zHi (id:Int) (w:World) (h:fld id=false):Calls prog 105 #[.int .i64 id] w λe w'=>(∃ v,e=.returned (.tuple #[v,.int .i64 1]))/\Below w.heap.size w w':=by
 have F:=zBU id w;rw [h] at F;clear h;go_enter func105,ntmps105;go_wp2_with fail
 refine F.mono ?_;rintro e w1 ⟨rfl,rfl⟩;go_wp2;go_ret2
 exact ⟨⟨_,rfl⟩,Below.refl _ _⟩
def zAF (id n k:Int):List Value:=[.int .i64 id,.int .i64 0,.int .i64 n,.int .i64 1,.int .i64 k,.int .i64 0,.int .i64 0,.string ⟨#[]⟩,.bool false,.int .i64 0,.int .i64 0,.int .i64 0,.int .i64 0,.string ⟨#[]⟩,.bool false,.int .i64 0,.bool false,.bool false,.bool false,.int .i64 0,.int .i64 0]
theorem zAn (id n k:Int):(zAF id n k).toArray.all (·.oneCell')=true:=by
 apply all_oneCell_toArray
 intro v hv;simp only [zAF,List.mem_cons,List.not_mem_nil,or_false] at hv;rcases hv with rfl | rfl | rfl | rfl | rfl | rfl | rfl | rfl | rfl | rfl | rfl | rfl | rfl | rfl | rfl | rfl | rfl | rfl | rfl | rfl | rfl <;> rfl
open Go.ChangeMaps (setBlock heap_setBlock_same heap_setBlock_other)
open Go.ChangeShapes Go.WideShapes Go.MapKept
theorem zBQ (hb:w.heap[b]? = some (.map es ck)) (o:Obj):w.grownBy (setBlock w b o) (some b) :=
 ⟨rfl,rfl,rfl,by simp [setBlock],λi _ hi=>heap_setBlock_other hb _ (λe=>hi (by rw [e]))⟩
theorem zDq {t k e:TypeId} (ht:P.underlying t=some (.map k e)) (hb:w.heap[b]? = some (.map es ck)) {key:Value} (val:Value)
  (hc:(Instr.checkKey false 10000 k key).run P w=.ok () w) (hf:(Instr.findKey k key es.toList).run P w=.ok none w) :
  (Instr.mapUpdate t (.map (some b)) key val).run P w=.ok () (setBlock w b (.map (es.push ⟨key,val,ck⟩) (ck+1))):=by
 simp [Instr.mapUpdate,run_underlying ht,MapKept.run_getObj_map hb,hc,hf,MapKept.run_setObj_map _ hb,Result.andThen,setBlock]
theorem zAX {t k e:TypeId} (ht:P.underlying t=some (.map k e)) (hb:w.heap[b]? = some (.map es ck)) {key v:Value} {j:Nat}
  (hc:(Instr.checkKey es.isEmpty 10000 k key).run P w=.ok () w) (hf:(Instr.findKey k key es.toList).run P w=.ok (some (j,v)) w) :
  (Instr.lookup t (.map (some b)) key true).run P w=.ok (.tuple #[v,.bool true]) w:=by
 simp [Instr.lookup,run_underlying ht,MapKept.run_getObj_map hb,hc,hf,Result.andThen]
theorem zCC {t k e:TypeId} (ht:P.underlying t=some (.map k e)) (hb:w.heap[b]? = some (.map es ck)) {key z:Value}
  (hc:(Instr.checkKey es.isEmpty 10000 k key).run P w=.ok () w) (hf:(Instr.findKey k key es.toList).run P w=.ok none w) (hz:(zeroValue e).run P w=.ok z w) :
  (Instr.lookup t (.map (some b)) key true).run P w=.ok (.tuple #[z,.bool false]) w:=by
 simp [Instr.lookup,run_underlying ht,MapKept.run_getObj_map hb,hc,hf,hz,Result.andThen]
def zKd:List (Int × Nat)->Array MapEntry
 | []=>#[]
 | (k,f)::r=>(zKd r).push ⟨.int .i64 k,.func (.func f) #[] #[],r.length⟩
def KM (w:World) (b:Nat) (l:List (Int × Nat)):Prop:=w.heap[b]? = some (.map (zKd l) l.length)
theorem zBi (k:Int):∀ (l:List MapEntry) (i:Nat),(∀ e ∈ l,∃ j,e.key=.int .i64 j/\j ≠ k)->Instr.findNow (.int .i64) (.int .i64 k) l i=some none
 | [],_,_=>rfl
 | e::r,i,h=>by
  obtain ⟨j,hj,hne⟩:=h e (List.mem_cons_self ..);have hs:Instr.sameNow (.int .i64) (.int .i64 k) e.key=some false:=by
   rw [hj];simp [Instr.sameNow];omega
  simp only [Instr.findNow,hs];exact zBi k r (i+1) λe he=>h e (List.mem_cons_of_mem _ he)
theorem zCr (k:Int):∀ l:List (Int × Nat),(∀ p ∈ l,p.1 ≠ k)->∀ e ∈ (zKd l).toList,∃ j,e.key=.int .i64 j/\j ≠ k
 | [],_,e,he=>by simp [zKd] at he
 | (q,f)::r,h,e,he=>by
  simp only [zKd,Array.toList_push,List.mem_append,List.mem_singleton] at he;rcases he with he | rfl
  ·exact zCr k r (λp hp=>h p (List.mem_cons_of_mem _ hp)) e he
  ·exact ⟨q,rfl,h (q,f) (List.mem_cons_self ..)⟩
theorem zCL (em:Bool) (k:Int) (w:World):(Instr.checkKey em 10000 3 (.int .i64 k)).run prog w=.ok () w:=by kernel_rfl
theorem zGC (l:List (Int × Nat)) (k:Int) (h:∀ p ∈ l,p.1 ≠ k) (w:World):(Instr.findKey 3 (.int .i64 k) (zKd l).toList).run prog w=.ok none w:=by
 have h1:=zBi k (zKd l).toList 0 (zCr k l h);simp [Instr.findKey,go_sem,h1]
theorem zCM:prog.underlying 224=some (.map 3 222):=by kernel_rfl
theorem zEB {ops:Array Oper} {rest:List Oper} {op:Oper} {a:Act} {Q:Exit->Act->World->Prop} (hgd:op.guard=none) (m x v:Operand) (ho:op.op=.insert 224 m x v) (b:Nat) (hm:a.eval m=.map (some b)) (k:Int) (hx:a.eval x=.int .i64 k) (f:Nat) (hv:a.eval v=.func (.func f) #[] #[])
  (r:List (Int × Nat)) (h:KM w b r) (hn:∀ p ∈ r,p.1 ≠ k)
  (hK:∀ w',KM w' b ((k,f)::r)->w.grownBy w' (some b)->wpList prog ops Q rest (a.put op.dst undef) w'):wpList prog ops Q (op::rest) a w:=by
 refine wpList_plain hgd λK' hK'=>?_
 have hrun:=zDq zCM h (.func (.func f) #[] #[]) (zCL false k w) (zGC r k hn w);unfold Oper.wp;simp [execOp,ho,hm,hx,hv,hrun,Result.andThen];exact hK' _ _ (hK _ (heap_setBlock_same h _) (zBQ h _))
def kT:List (Int × Nat):=[(24,197),(23,196),(22,195),(21,194),(20,193),(15,192),(14,191),(13,190),(12,189),(11,188),(10,187),(9,186),(8,185),(7,184),(6,183),(5,182),(4,181),(3,180),(2,179),(1,178)]
theorem zAW (w:World):Calls prog 176 #[] w λe w'=>(∃ b,e=.returned (.map (some b))/\KM w' b kT)/\Below w.heap.size w w':=by
 have hM:KM (w.alloc (.map #[] 0)) w.heap.size []:=by
  show (w.alloc (.map #[] 0)).heap[w.heap.size]? = some (.map #[] 0)
  exact Array.getElem?_push_size
 have hB:=zAK (Below.refl _ w) (.map #[] 0);have hmk:∀ w:World,(Instr.makeMap 224 none).run prog w=.ok (.map (some w.heap.size)) (w.alloc (.map #[] 0)):=λw=>by kernel_rfl
 go_enter func176,ntmps176;go_upto_region 1 with fail
 go_wp2_with (refine zEB rfl _ _ _ rfl w.heap.size rfl _ rfl _ rfl _ hM (by decide) ?_;clear hM;intro wn hM gn;replace hB:=hB.grown gn hB.size (λk e=>by cases e;exact Nat.le_refl _);clear gn)
 go_ret;exact ⟨⟨_,rfl,hM⟩,hB⟩
end Go.Proofs.YtefkclbaflkheaaGreatDoor
namespace Go.Proofs.YtefkclbaflkheaaGreatDoor.Wc
def zFS (F:List (Nat × Int)):Nat->Nat->List Int
 | 0,_=>[]
 | _+1,0=>[]
 | f+1,k+1=>match F[k]? with
  | none=>[]
  | some x=>zFS F f x.1++[x.2]
structure Rows (F:List (Nat × Int)):Prop where
 ahead:∀ (k:Nat) (x:Nat × Int),F[k]? = some x->x.1<=k
 once:∀ (i j:Nat) (x:Nat × Int),F[i]? = some x->F[j]? = some x->i=j
theorem zBC (F:List (Nat × Int)) (f:Nat):zFS F f 0=[]:=by cases f <;> rfl
theorem zAj (F:List (Nat × Int)) (f k:Nat) (x:Nat × Int) (h:F[k]? = some x):zFS F (f+1) (k+1)=zFS F f x.1++[x.2]:=by
 simp only [zFS,h]
theorem zHg {F:List (Nat × Int)} (h:Rows F):∀ (f m n:Nat),m<=f->n<=f->m<=F.length->n<=F.length->zFS F f m=zFS F f n->m=n:=by
 intro f;induction f with
 | zero=>intro m n hm hn _ _ _;omega
 | succ f ih =>
  intro m n hm hn hmF hnF e;cases m with
  | zero =>
   cases n with
   | zero=>rfl
   | succ k =>
    obtain ⟨x,hx⟩:∃ x,F[k]? = some x:=⟨_,List.getElem?_eq_getElem (by omega)⟩
    rw [zBC,zAj F f k x hx] at e;simp at e
  | succ j =>
   obtain ⟨y,hy⟩:∃ y,F[j]? = some y:=⟨_,List.getElem?_eq_getElem (by omega)⟩
   cases n with
   | zero =>
    rw [zBC,zAj F f j y hy] at e;simp at e
   | succ k =>
    obtain ⟨x,hx⟩:∃ x,F[k]? = some x:=⟨_,List.getElem?_eq_getElem (by omega)⟩
    rw [zAj F f j y hy,zAj F f k x hx] at e;obtain ⟨e1,e2⟩:=List.append_inj' e rfl;have a1:=h.ahead j y hy;have a2:=h.ahead k x hx;have e3:=ih y.1 x.1 (by omega) (by omega) (by omega) (by omega) e1;have e4:y.2=x.2:=by simpa using e2
    have e5:y=x:=Prod.ext e3 e4;rw [e5] at hy;rw [h.once j k x hy hx]
theorem zI7 {F:List (Nat × Int)} (h:Rows F) (x:Nat × Int):∀ (f n:Nat),n<=F.length->zFS (F++[x]) f n=zFS F f n:=by
 intro f;induction f with
 | zero=>intro n _;rfl
 | succ f ih =>
  intro n hn;cases n with
  | zero=>rfl
  | succ k =>
   obtain ⟨y,hy⟩:∃ y,F[k]? = some y:=⟨_,List.getElem?_eq_getElem (by omega)⟩
   have hy2:(F++[x])[k]? = some y:=by rw [List.getElem?_append_left (by omega)];exact hy
   have a:=h.ahead k y hy;rw [zAj F f k y hy,zAj _ f k y hy2,ih y.1 (by omega)]
theorem Rows.app {F:List (Nat × Int)} (h:Rows F) {x:Nat × Int} (hx:x.1<=F.length) (hn:∀ k:Nat,F[k]? ≠ some x):Rows (F++[x]):=by
 have old:∀ (k:Nat) (y:Nat × Int),(F++[x])[k]? = some y->F[k]? = some y \/ (k=F.length/\y=x):=by
  intro k y e;by_cases hk:k<F.length
  ·rw [List.getElem?_append_left hk] at e;exact Or.inl e
  ·rw [List.getElem?_append_right (by omega)] at e;by_cases h0:k - F.length=0
   ·rw [h0] at e;simp at e;exact Or.inr ⟨by omega,e.symm⟩
   ·rw [List.getElem?_eq_none (by simp;omega)] at e;cases e
 refine ⟨λk y e=>?_,λi j y e1 e2=>?_⟩
 ·rcases old k y e with e | ⟨rfl,rfl⟩
  ·exact h.ahead k y e
  ·exact hx
 ·rcases old i y e1 with q1 | ⟨i1,y1⟩
  ·rcases old j y e2 with q2 | ⟨j1,y1⟩
   ·exact h.once i j y q1 q2
   ·rw [y1] at q1;exact absurd q1 (hn i)
  ·rcases old j y e2 with q2 | ⟨j1,_⟩
   ·rw [y1] at q2;exact absurd q2 (hn j)
   ·rw [i1,j1]
theorem Rows.nil:Rows []:=⟨λk x e=>by simp at e,λi j x e=>by simp at e⟩
theorem zCD {F:List (Nat × Int)} (h:Rows F):∀ (f n g:Nat),n<=f->n<=g->n<=F.length->zFS F f n=zFS F g n:=by
 intro f;induction f with
 | zero =>
  intro n g hn _ _;have e:n=0:=by omega
  rw [e,zBC,zBC]
 | succ f ih =>
  intro n g hn hg hF;cases n with
  | zero=>rw [zBC,zBC]
  | succ k =>
   obtain ⟨y,hy⟩:∃ y,F[k]? = some y:=⟨_,List.getElem?_eq_getElem (by omega)⟩
   have a:=h.ahead k y hy;cases g with
   | zero=>omega
   | succ g=>rw [zAj F f k y hy,zAj F g k y hy,ih y.1 g (by omega) (by omega) (by omega)]
end Go.Proofs.YtefkclbaflkheaaGreatDoor.Wc
namespace Go.Proofs.YtefkclbaflkheaaGreatDoor
open Tryz
open Go.RowKit
open Go.ChangeMaps (setBlock heap_setBlock_same heap_setBlock_other)
open Go.ChangeShapes Go.WideShapes Go.MapKept
variable {w w' w'':World} {S T:List Nat} {b:Nat} {F:List (Nat × Int)} {v:Value}
abbrev fr2 (x:Nat × Int):Value:=.agg #[.int .i64 x.1,.int .i64 x.2]
def zFR:Nat->List (Nat × Int)->List MapEntry
 | _,[]=>[]
 | i,x::r=>⟨fr2 x,.int .i64 ((i:Int)+1),i⟩::zFR (i+1) r
theorem zEO:∀ (F:List (Nat × Int)) (i:Nat) (x:Nat × Int),zFR i (F++[x])=zFR i F++[⟨fr2 x,.int .i64 (((i+F.length:Nat):Int)+1),i+F.length⟩]
 | [],i,x=>rfl
 | y::r,i,x=>by
  show _::zFR (i+1) (r++[x])=_::(zFR (i+1) r++_)
  rw [zEO r (i+1) x];have e:i+1+r.length=i+(r.length+1):=by omega
  rw [e];rfl
def FM (w:World) (b:Nat) (F:List (Nat × Int)):Prop:=∃ es:Array MapEntry,w.heap[b]? = some (.map es F.length)/\es.toList=zFR 0 F
theorem FM.lt (h:FM w b F):b<w.heap.size:=by
 obtain ⟨es,h,_⟩:=h;rcases Nat.lt_or_ge b w.heap.size with g | g
 ·exact g
 ·rw [Array.getElem?_eq_none g] at h;cases h
theorem FM.below (h:FM w b F) (hb:Below w.heap.size w w'):FM w' b F:=by
 have hlt:=h.lt;obtain ⟨es,h1,h2⟩:=h;exact ⟨es,by rw [hb.block b hlt];exact h1,h2⟩
theorem zMZ (em:Bool) (x y:Int) (w:World):(Instr.checkKey em 10000 193 (.agg #[.int .i64 x,.int .i64 y])).run prog w=.ok () w:=by kernel_rfl
theorem zKB (x y x' y':Int) (w:World):(Op.equal 193 (.agg #[.int .i64 x,.int .i64 y]) (.agg #[.int .i64 x',.int .i64 y'])).run prog w=.ok ((x == x') && (y == y')) w:=by
 show (Op.equalIn (9998+2) 193 _ _).run _ _=_
 by_cases h1:x=x'
 ·by_cases h2:y=y'
  ·simp [go_sem,h1,h2]
  ·simp [go_sem,h1,h2]
 ·simp [go_sem,h1]
theorem zJp (x y:Nat × Int) (w:World):(Op.equal 193 (fr2 x) (fr2 y)).run prog w=.ok (y == x) w:=by
 rw [zKB];congr 1
 obtain ⟨a,b⟩:=x;obtain ⟨c,d⟩:=y;rw [Bool.eq_iff_iff];simp only [Bool.and_eq_true,beq_iff_eq,Prod.mk.injEq];omega
theorem zMB (x:Nat × Int) (w:World):∀ (F:List (Nat × Int)) (i:Nat),(Instr.findAsking 193 (fr2 x) (zFR i F) i).run prog w=.ok ((F.findIdx? (· == x)).map λk=>(i+k,Value.int .i64 (((i+k:Nat):Int)+1))) w
 | [],i=>rfl
 | y::r,i=>by
  have h:=zMB x w r (i+1);have e:=zJp x y w;unfold zFR;rw [List.findIdx?_cons];cases hq:(y == x) with
  | true =>
   rw [hq] at e;simp [Instr.findAsking,e,Result.andThen]
  | false =>
   rw [hq] at e;simp [Instr.findAsking,e,Result.andThen,h];cases r.findIdx? (· == x) with
   | none=>rfl
   | some k =>
    simp;omega
theorem zMa (x:Nat × Int) (F:List (Nat × Int)) (w:World):(Instr.findKey 193 (fr2 x) (zFR 0 F)).run prog w=.ok ((F.findIdx? (· == x)).map λk=>(k,Value.int .i64 ((k:Int)+1))) w:=by
 have h:=zMB x w F 0;cases F with
 | nil=>simp [Instr.findKey,go_sem,zFR,Instr.findNow]
 | cons y r =>
  simp [Instr.findKey,go_sem,zFR,Instr.findNow,Instr.sameNow];simpa [zFR] using h
structure Fr (S:List Nat) (w w':World):Prop where
 os:w'.os=w.os
 tape:w'.tape=w.tape
 output:w'.output=w.output
 size:w.heap.size<=w'.heap.size
 block:∀ k:Nat,k<w.heap.size->k ∉ S->w'.heap[k]? = w.heap[k]?
theorem Fr.refl (S:List Nat) (w:World):Fr S w w:=⟨rfl,rfl,rfl,Nat.le_refl _,λ_ _ _=>rfl⟩
theorem Fr.of_below (S:List Nat) {w w':World} (h:Below w.heap.size w w'):Fr S w w':=⟨h.os,h.tape,h.output,h.size,λk hk _=>h.block k hk⟩
theorem Fr.of_grown {row:Option Nat} (h:w.grownBy w' row) (hr:∀ k,row=some k->k ∈ S):Fr S w w' :=
 ⟨h.os,h.tape,h.output,h.size,λk hk hn=>h.block k hk (λe=>hn (hr k e.symm))⟩
theorem Fr.trans (h:Fr S w w') (h':Fr S w' w''):Fr S w w'' :=
 ⟨h'.os.trans h.os,h'.tape.trans h.tape,h'.output.trans h.output,Nat.le_trans h.size h'.size,λk hk hn=>(h'.block k (Nat.lt_of_lt_of_le hk h.size) hn).trans (h.block k hk hn)⟩
theorem Fr.mono (h:Fr S w w') (hs:∀ k ∈ S,k ∈ T):Fr T w w':=⟨h.os,h.tape,h.output,h.size,λk hk hn=>h.block k hk (λe=>hn (hs k e))⟩
theorem Fr.new (h:Fr S w w') (h':Fr T w' w'') (hs:∀ k ∈ T,k ∈ S \/ w.heap.size<=k):Fr S w w'' :=
 ⟨h'.os.trans h.os,h'.tape.trans h.tape,h'.output.trans h.output,Nat.le_trans h.size h'.size,λk hk hn=>(h'.block k (Nat.lt_of_lt_of_le hk h.size) (λe=>(hs k e).elim hn (λg=>absurd hk (Nat.not_lt.2 g)))).trans (h.block k hk hn)⟩
theorem Fr.to_below (h:Fr S w w') (hs:∀ k ∈ S,w.heap.size<=k):Below w.heap.size w w' :=
 ⟨h.os,h.tape,h.output,h.size,λk hk=>h.block k hk (λe=>absurd hk (Nat.not_lt.2 (hs k e)))⟩
theorem zAV {o:Nat} (h:w.cell? ⟨b,o,none⟩=some v):b<w.heap.size:=by
 rcases Nat.lt_or_ge b w.heap.size with g | g
 ·exact g
 ·unfold World.cell? at h;simp only [Array.getElem?_eq_none g] at h;cases h
theorem Fr.cell (h:Fr S w w') {b o:Nat} {v:Value} (hc:w.cell? ⟨b,o,none⟩=some v) (hn:b ∉ S):w'.cell? ⟨b,o,none⟩=some v:=by
 rw [<-hc];unfold World.cell?;rw [h.block b (zAV hc) hn]
theorem Fr.frozen (h:Fr S w w') {b o:Nat} (hb:b<w.heap.size) (hn:b ∉ S):w'.frozen? ⟨b,o,none⟩=w.frozen? ⟨b,o,none⟩:=by
 unfold World.frozen?;rw [h.block b hb hn]
theorem Fr.range (h:Fr S w w') {b o:Nat} {l:List Value} (hr:w.rangeAt b o l) (hn:b ∉ S):w'.rangeAt b o l:=λj v hv=>h.cell (hr j v hv) hn
theorem Fr.fm (h:Fr S w w') {b:Nat} {F:List (Nat × Int)} (hm:FM w b F) (hn:b ∉ S):FM w' b F:=by
 have hlt:=hm.lt;obtain ⟨es,h1,h2⟩:=hm;exact ⟨es,by rw [h.block b hlt hn];exact h1,h2⟩
def zBL:List (Nat × Int)->List Value
 | []=>[]
 | x::r=>.int .i64 x.1 :: .int .i64 x.2::zBL r
theorem zDP:∀ F:List (Nat × Int),(zBL F).length=F.length * 2
 | []=>rfl
 | x::r=>by simp [zBL,zDP r];omega
theorem zBr:∀ (F G:List (Nat × Int)),zBL (F++G)=zBL F++zBL G
 | [],G=>rfl
 | x::r,G=>by simp [zBL,zBr r G]
theorem zDM:∀ (F:List (Nat × Int)) (i:Nat) (h:i<F.length),(zBL F)[i * 2]? = some (.int .i64 (F[i]).1)/\(zBL F)[i * 2+1]? = some (.int .i64 (F[i]).2)
 | x::r,0,_=>⟨rfl,rfl⟩
 | x::r,i+1,h=>by
  have:=zDM r i (by simpa using h);have e:(i+1) * 2=i * 2+2:=by omega
  rw [e];exact this
structure FS (w:World) (b mb:Nat) (lv:Value) (F:List (Nat × Int)):Prop where
 hd:w.cell? ⟨b,1,none⟩=some lv
 hf:w.frozen? ⟨b,1,none⟩=false
 own:w.ownsRow (b+1) 193 2 lv F.length (zBL F)
 mp:w.cell? ⟨b,2,none⟩=some (.map (some mb))
 fm:FM w mb F
 lt:mb<b
theorem zAT {B:Nat} {T:TypeId} {k:Nat} {n:Nat} {xs:List Value} (h:w.ownsRow B T k v n xs) {g:Nat} (e:v.ownBlock=some g):B<=g/\g<w.heap.size:=by
 rcases h.2 with ⟨rfl,_⟩ | ⟨g',cap,cur,rfl,hb,hg,_⟩
 ·cases e
 ·have e2:g'=g:=by simpa [Value.ownBlock] using e
  subst e2;refine ⟨hb,?_⟩;rcases Nat.lt_or_ge g' w.heap.size with q | q
  ·exact q
  ·rw [Array.getElem?_eq_none q] at hg;cases hg
theorem zAc (h:Fr S w w') {B:Nat} {T:TypeId} {k:Nat} {v:Value} {n:Nat} {xs:List Value} (ho:w.ownsRow B T k v n xs) (hn:∀ g,v.ownBlock=some g->g ∉ S):w'.ownsRow B T k v n xs:=by
 have hb:=λ{g} (e:v.ownBlock=some g)=>zAT ho e
 refine ⟨ho.1,?_⟩;rcases ho.2 with q | ⟨g,cap,cur,rfl,hb1,hg,r1,r2,r3,r4⟩
 ·exact Or.inl q
 ·exact Or.inr ⟨g,cap,cur,rfl,hb1,by rw [h.block g (hb rfl).2 (hn g rfl)];exact hg,r1,r2,r3,r4⟩
theorem FS.list {mb:Nat} {lv:Value} (h:FS w b mb lv F):FoldL w b 1 (F.map λx=>((x.1:Int),x.2)):=by
 rcases h.own.2 with ⟨e,h0⟩ | ⟨g,cap,cur,e,hb1,hg,r1,r2,r3,r4⟩
 ·have hF:F=[]:=List.eq_nil_of_length_eq_zero h0;subst hF;refine ⟨none,0,by rw [h.hd,e];rfl,λi hi=>absurd hi (Nat.not_lt_zero _)⟩
 ·refine ⟨some ⟨g,0,none⟩,cap,by rw [h.hd,e];simp,λi hi=>⟨g,0,rfl,?_⟩⟩;have hi2:i<F.length:=by simpa using hi
  have hl:=zDP F;have hg2:∀ j v,(zBL F)[j]? = some v->w.cell? ⟨g,j,none⟩=some v:=by
   intro j v hv;have hj:j<F.length * 2:=by
    rw [<-hl];rcases Nat.lt_or_ge j (zBL F).length with q | q
    ·exact q
    ·rw [List.getElem?_eq_none q] at hv;cases hv
   rw [<-r4,List.getElem?_take_of_lt hj] at hv;unfold World.cell?;simp only [hg];simpa using hv
  obtain ⟨q1,q2⟩:=zDM F i hi2;have c1:=hg2 _ _ q1;have c2:=hg2 _ _ q2;simp only [List.getElem_map,Nat.zero_add];exact ⟨c1,c2⟩
