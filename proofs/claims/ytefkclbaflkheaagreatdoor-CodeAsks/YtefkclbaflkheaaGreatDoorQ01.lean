/- Plain, LPlain, VPlain, TPlain, WalkA, WalkB, PKit, LRun, VWalkA, VEq, PPlain, PWalkA, VWalkB, VWalkC, TKit. -/
import Derived.Test.YtefkclbaflkheaaGreatDoorChecked
import Derived.WalkKit
import Derived.WalkSpells
import Derived.RowKit3
import Derived.Deep.QuietTactic
import Derived.BigQuiet
import Derived.Deep.RegionWith
import Derived.Deep.RegionHeld3
import Derived.Deep.DeepCutAuto
import Derived.Deep.Light
import Derived.Deep.CutBlock
import Derived.Deep.LoopGhost
import Derived.Deep.MidRow
set_option maxHeartbeats 400000
set_option maxRecDepth 100000
set_option linter.unusedVariables false
namespace Go.Proofs.YtefkclbaflkheaaGreatDoor.Wnum
def rightB (n d:Int):Bool:=decide (-1000000000000<=n/\n<=1000000000000/\1<=d/\d<=1000000/\Int.gcd n d=1)
end Go.Proofs.YtefkclbaflkheaaGreatDoor.Wnum
namespace Wlx
def dig (c:UInt8):Bool:=decide (48<=(c.toNat:Int)) && decide ((c.toNat:Int)<=57)
def cap (c:UInt8):Bool:=decide (65<=(c.toNat:Int)) && decide ((c.toNat:Int)<=90)
def low (c:UInt8):Bool:=decide (97<=(c.toNat:Int)) && decide ((c.toNat:Int)<=122)
def prt (c:UInt8):Bool:=decide (32<=(c.toNat:Int)) && decide ((c.toNat:Int)<=126)
def runP (p:UInt8->Bool):List UInt8->Nat
 | []=>0
 | c::t=>if p c then runP p t+1 else 0
def zLi:List UInt8->List UInt8->Bool
 | [],_=>true
 | _::_,[]=>false
 | a::p,b::t=>decide (a=b) && zLi p t
def marks:List (List UInt8):=[[60,62],[60,61],[62,61],[43],[45],[42],[47],[94],[38],[37],[40],[41],[44],[58],[33],[61],[60],[62]]
def zLA:List UInt8->List UInt8
 | []=>[]
 | [c]=>[c]
 | c::d::t=>if c=34/\d=34 then 34::zLA t else c::zLA (d::t)
def zMd (k:Nat) (l:List UInt8):List UInt8:=if k=2 then zLA ((l.drop 1).take (l.length - 2)) else l
end Wlx
namespace Go.Proofs.YtefkclbaflkheaaGreatDoor.Wv
def prts (l:List UInt8):Bool:=l.all Wlx.prt
theorem prts_cons (c:UInt8) (t:List UInt8):prts (c::t)=(Wlx.prt c && prts t):=rfl
def flt (f:Int):Bool:=decide (1<=f) && decide (f<=8)
def right (k n d:Int) (t:ByteArray) (b:Bool) (f:Int):Bool :=
 if k=0 then decide (n=0) && decide (d=0) && decide (t=⟨#[]⟩) && !b && decide (f=0)
 else if k=1 then Wnum.rightB n d && decide (t=⟨#[]⟩) && !b && decide (f=0)
 else if k=2 then (decide (t.size<=256) && prts t.data.toList) && decide (n=0) && decide (d=0) && !b && decide (f=0)
 else if k=3 then decide (n=0) && decide (d=0) && decide (t=⟨#[]⟩) && decide (f=0)
 else if k=4 then flt f && decide (n=0) && decide (d=0) && decide (t=⟨#[]⟩) && !b
 else false
end Go.Proofs.YtefkclbaflkheaaGreatDoor.Wv
namespace Go.Proofs.YtefkclbaflkheaaGreatDoor.Wt
structure Vl where
 k:Int
 n:Int
 d:Int
 t:ByteArray
 b:Bool
 f:Int
structure Rf where
 s:ByteArray
 r:Int
 c:Int
 fr:Bool
 fc:Bool
structure Nd where
 k:Int
 v:Vl
 op:Int
 nm:ByteArray
 ar:Int
 a:Rf
 b:Rf
def v0:Vl:=⟨0,0,0,⟨#[]⟩,false,0⟩
def r0:Rf:=⟨⟨#[]⟩,0,0,false,false⟩
def isNm (p:UInt8->Bool) (l:List UInt8):Bool:=decide (1<=l.length) && decide (l.length<=16) && p (l.headD 0) && l.all (λc=>p c || Wlx.dig c)
def ltr (c:UInt8):Bool:=Wlx.cap c || Wlx.low c
def fnNm (b:ByteArray):Bool:=isNm Wlx.cap b.data.toList
def shNm (b:ByteArray):Bool:=isNm ltr b.data.toList
def inR (r c:Int):Bool:=decide (0<=r) && decide (r<65536) && (decide (0<=c) && decide (c<256))
def rfOk (a:Rf):Bool:=inR a.r a.c && (decide (a.s=⟨#[]⟩) || shNm a.s)
def vlOk (v:Vl):Bool :=
 if v.k=0 then false
 else if v.k=1 then Wv.right v.k v.n v.d v.t v.b v.f && decide (0<=v.n) && decide (1000000 % v.d=0)
 else Wv.right v.k v.n v.d v.t v.b v.f
def opsT:List (Int × List UInt8 × Int) :=
 [(21,[61],0),(22,[60,62],0),(23,[60],0),(24,[60,61],0),(25,[62],0),(26,[62,61],0),(16,[38],1),(11,[43],2),(12,[45],2),(13,[42],3),(14,[47],3),(15,[94],4),(1,[45],5),(2,[43],5),(3,[37],6)]
def opOf (o:Int):Option (Int × List UInt8 × Int):=opsT.find? λx=>x.1 == o
def isBin (o:Int):Bool:=(decide (11<=o) && decide (o<=16)) || (decide (21<=o) && decide (o<=26))
def parts (x:Nd):Int:=if x.k=4 then 1 else if x.k=5 then 2 else x.ar
end Go.Proofs.YtefkclbaflkheaaGreatDoor.Wt
namespace Go.Proofs.YtefkclbaflkheaaGreatDoor
open Tryz
open Go.RowKit
theorem bQD {B:Nat} {a w:World} (h:Below B a w) (n:Nat):Below B a (w.drewN n):=⟨h.os,h.tape,h.output,h.size,h.block⟩
theorem bQE {w W w1:World} (h0:Below w.heap.size w W) (hb:Below W.heap.size W w1):Below w.heap.size w w1:=h0.trans (hb.mono h0.size)
theorem bQA {w W:World} (h:Below w.heap.size w W) (o:Obj):Below w.heap.size w (W.alloc o):=h.alloc h.size o
theorem clA {P:Prop} (h:P:=by with_reducible repeat (first | exact Below.refl _ _ | refine bQD ?_ _ | refine Below.setCell ?_ (by first | (simp;done) | (simp;omega) | omega) _ | refine Below.drew ?_ | refine bQE ?_ (by assumption) | refine bQA ?_ _)):P:=h
theorem clB {P Q:Prop} (h:P) (f:P->Q:=by (intro q;with_reducible repeat (first | exact q | refine bQD ?_ _ | refine Below.setCell ?_ (by first | (simp;done) | (simp;omega) | omega) _ | refine Below.drew ?_ | refine bQA ?_ _))):Q:=f h
abbrev CR (f:Nat) (x:Array Value) (w:World) (v:Value):Prop:=Calls prog f x w λe w'=>e=.returned v/\Below w.heap.size w w'
theorem lA {α:Type} (l:List α) (i:Nat) (a:α):l.toArray.setIfInBounds i a=(l.set i a).toArray:=by simp
theorem lZ {α:Type} (x a:α) (l:List α):(x::l).set 0 a=a::l:=rfl
theorem lS {α:Type} (x a:α) (l:List α) (i:Nat):(x::l).set (i+1) a=x::l.set i a:=rfl
abbrev zN0:Array Value:=#[.int .i64 0,.int .i64 0,.int .i64 0,.int .i64 0,.string ⟨#[]⟩,.bool false,.int .i64 0,.int .i64 0,.string ⟨#[]⟩,.int .i64 0,.string ⟨#[]⟩,.int .i64 0,.int .i64 0,.bool false,.bool false,.string ⟨#[]⟩,.int .i64 0,.int .i64 0,.bool false,.bool false]
abbrev zP0:Array Value:=#[.int .i64 0,.int .i64 0,.int .i64 0,.int .i64 0,.string ⟨#[]⟩,.bool false,.int .i64 0,.int .i64 0,.string ⟨#[]⟩,.int .i64 0,.string ⟨#[]⟩,.int .i64 0,.int .i64 0,.bool false,.bool false,.string ⟨#[]⟩,.int .i64 0,.int .i64 0,.bool false,.bool false,.slice none 0 0]
abbrev zR0:Array Value:=#[.string ⟨#[]⟩,.int .i64 0,.int .i64 0,.bool false,.bool false]
abbrev zV0:Array Value:=#[.int .i64 0,.int .i64 0,.int .i64 0,.string ⟨#[]⟩,.bool false,.int .i64 0]
open Go.RowKit
variable {W w W':World} {k:Nat} {a b c d e:Value} {vs:List Value}
theorem zBg {k:IntKind} {a b:Int} (h:a=b):Ending.returned (.int k a)=.returned (.int k b):=by rw [h]
theorem zHs (a:Int) (w:World) (h1:-9223372036854775807<=a) (h2:a<=9223372036854775807) :
  Calls prog 175 #[.int .i64 a] w λe w'=>e=.returned (.int .i64 (a.natAbs:Int))/\w=w':=by
 by_cases h:a<0
 ·go_enter func175,ntmps175;go_wp2;go_ret;exact ⟨zBg (by omega),rfl⟩
 ·go_enter func175,ntmps175;go_wp2;go_ret;exact ⟨zBg (by omega),rfl⟩
theorem zDc (a b:Int) (w:World) (h1:-9223372036854775807<=a) (h2:a<=9223372036854775807) (h3:-9223372036854775807<=b) (h4:b<=9223372036854775807) :
  Calls prog 162 #[.int .i64 a,.int .i64 b] w λe w'=>e=.returned (.int .i64 (Int.gcd a b:Int))/\∃ n,w'=w.drewN n:=by
 have b1:a.natAbs<=9223372036854775807:=by omega
 have b2:b.natAbs<=9223372036854775807:=by omega
 have H:Hid (Nat.gcd a.natAbs b.natAbs=Int.gcd a b):=(rfl:Nat.gcd a.natAbs b.natAbs=Int.gcd a b)
 go_enter func162,ntmps162;go_wp2_with (go_at_call 175;refine (zHs _ _ (by assumption) (by assumption)).mono ?_;rintro e w' ⟨rfl,rfl⟩)
 go_loopw [0,1] (λx y wr=>∃ p q:Nat,x=.int .i64 p/\y=.int .i64 q/\p<=9223372036854775807/\q<=9223372036854775807/\Hid (Nat.gcd p q=Int.gcd a b)/\∃ n,wr=w.drewN n) (λ_ y _=>(intOf y).toNat)
 case atStart=>exact ⟨a.natAbs,b.natAbs,rfl,rfl,b1,b2,H,0,rfl⟩
 case round =>
  obtain ⟨p,q,rfl,rfl,hp,hq,hg,n,rfl⟩:=hrel;by_cases hz:q=0
  ·subst hz;go_wp2;go_ret;exact ⟨zBg (by rw [<-hg.out,Nat.gcd_zero_right]),n,rfl⟩
  ·have hz':((q:Int) != 0)=true:=by simp;omega
   go_wp2;go_quiet (fail)
   go_wp2;go_roundw
   case rel=>exact ⟨q,p % q,rfl,by go_num,hq,by have:=Nat.mod_lt p (Nat.pos_of_ne_zero hz);omega,by exact (show Nat.gcd q (p % q)=Int.gcd a b by rw [<-hg.out,Nat.gcd_comm p q,Nat.gcd_rec q p,Nat.gcd_comm]),_,World.drewN_drewN ..⟩
   case measure=>simp [intOf];have:=Nat.mod_lt p (Nat.pos_of_ne_zero hz);omega
theorem zAo {B:Nat} {a:World} (h:Below B a w) (n:Nat):Below B a (w.drewN n):=⟨h.os,h.tape,h.output,h.size,h.block⟩
theorem zAB {w1:World} (h0:Below w.heap.size w W) (hb:Below W.heap.size W w1):Below w.heap.size w w1:=h0.trans (hb.mono h0.size)
theorem zAK (h:Below w.heap.size w W) (o:Obj):Below w.heap.size w (W.alloc o):=h.alloc h.size o
theorem zAf {a b:Bool} (h:a=b):Ending.returned (.bool a)=.returned (.bool b):=by rw [h]
theorem zHA (n d:Int) (w:World) (h1:-9223372036854775808<=n) (h2:n<=9223372036854775807) (h3:-9223372036854775808<=d) (h4:d<=9223372036854775807) :
  CR 134 #[.agg #[.int .i64 n,.int .i64 d]] w (.bool (Wnum.rightB n d)):=by
 by_cases c1:n < -1000000000000
 ·have e:Hid (Wnum.rightB n d=false):=by show Wnum.rightB n d=false;unfold Wnum.rightB;rw [decide_eq_false_iff_not];omega
  rw [e.out];clear e;go_enter func134,ntmps134;go_wp2;go_ret;exact ⟨rfl,(Below.refl _ _).alloc (Nat.le_refl _) _⟩
 by_cases c2:1000000000000<n
 ·have e:Hid (Wnum.rightB n d=false):=by show Wnum.rightB n d=false;unfold Wnum.rightB;rw [decide_eq_false_iff_not];omega
  rw [e.out];clear e;go_enter func134,ntmps134;go_wp2;go_ret;exact ⟨rfl,(Below.refl _ _).alloc (Nat.le_refl _) _⟩
 by_cases c3:d<1
 ·have e:Hid (Wnum.rightB n d=false):=by show Wnum.rightB n d=false;unfold Wnum.rightB;rw [decide_eq_false_iff_not];omega
  rw [e.out];clear e;go_enter func134,ntmps134;go_wp2;go_ret;exact ⟨rfl,(Below.refl _ _).alloc (Nat.le_refl _) _⟩
 by_cases c4:1000000<d
 ·have e:Hid (Wnum.rightB n d=false):=by show Wnum.rightB n d=false;unfold Wnum.rightB;rw [decide_eq_false_iff_not];omega
  rw [e.out];clear e;go_enter func134,ntmps134;go_wp2;go_ret;exact ⟨rfl,(Below.refl _ _).alloc (Nat.le_refl _) _⟩
 have e:Hid ((((Int.gcd n d:Nat):Int) == 1)=Wnum.rightB n d):=by
  show _=_
  unfold Wnum.rightB;by_cases g:Int.gcd n d=1
  ·rw [g,decide_eq_true (by omega)];rfl
  ·rw [decide_eq_false (by omega),beq_eq_false_iff_ne];omega
 rw [<-e.out];clear e;go_enter func134,ntmps134;go_wp2_with (go_at_call 162;refine (zDc _ _ _ (by omega) (by omega) (by omega) (by omega)).mono ?_;rintro e w' ⟨rfl,nq,rfl⟩)
 go_ret;exact ⟨rfl,zAo ((Below.refl _ _).alloc (Nat.le_refl _) _) _⟩
theorem zD2 {a b:Bool} (h:a=b):Ending.returned (.bool a)=.returned (.bool b):=by rw [h]
theorem zJq {P:Program} {c:Code} {Q:Exit->Act->World->Prop} {a:Act} (h:∀ K:Act->World->Prop,(∀ a w,Q .normal a w->K a w)->c.wp P (Exit.then K Q) a w):c.wp P Q a w :=
 Code.wp_mono (λe a w hh=>by cases e <;> exact hh) (h (λa w=>Q .normal a w) (λ_ _ h=>h))
def AtL (W:World) (k:Nat) (vs:List Value):Prop :=
 k<W.heap.size/\(∀ i v,vs[i]? = some v->W.cell? ⟨k,i,none⟩=some v)/\(∀ i,i<vs.length->W.frozen? ⟨k,i,none⟩=false)
theorem AtL.lt (h:AtL W k vs):k<W.heap.size:=h.1
theorem AtL.new (W:World) (t:TypeId) {k:Nat} (hk:k=W.heap.size) (vs:List Value):AtL (W.alloc (.cells vs.toArray t)) k vs:=by
 subst hk;refine ⟨by simp [go_sem],λi v h=>?_,λi h=>?_⟩
 ·simp [go_sem,h]
 ·simp [go_sem]
theorem AtL.new0 (W:World) (t:TypeId) (vs:List Value):AtL (W.alloc (.cells vs.toArray t)) W.heap.size vs:=AtL.new W t rfl vs
theorem AtL.new1 (W:World) (o:Obj) (t:TypeId) (vs:List Value):AtL ((W.alloc o).alloc (.cells vs.toArray t)) (W.heap.size+1) vs:=AtL.new (W.alloc o) t (by simp only [World.size_alloc]) vs
theorem AtL.alloc (h:AtL W k vs) (o:Obj):AtL (W.alloc o) k vs:=by
 obtain ⟨h1,h2,h3⟩:=h;refine ⟨by simp [go_sem];omega,λi v hi=>?_,λi hi=>?_⟩
 ·rw [World.cell?_alloc_past _ _ _ h1];exact h2 i v hi
 ·rw [World.frozen?_alloc_old _ _ _ (by simp;omega)];exact h3 i hi
theorem AtL.below (hb:Below W.heap.size W W') {k:Nat} {vs:List Value} (h:AtL W k vs):AtL W' k vs:=by
 obtain ⟨h1,h2,h3⟩:=h;refine ⟨Nat.lt_of_lt_of_le h1 hb.size,λi v hi=>?_,λi hi=>?_⟩
 ·exact (hb.cell (p:=⟨k,i,none⟩) h1).trans (h2 i v hi)
 ·exact (hb.frozen (p:=⟨k,i,none⟩) h1).trans (h3 i hi)
theorem AtL.drew (h:AtL W k vs):AtL W.drew k vs:=AtL.below (Below.refl _ _).drew h
theorem AtL.far (h:AtL W k vs) {j:Nat} (hj:j ≠ k) (o:Nat) (v:Value):AtL (W.setCell ⟨j,o,none⟩ v) k vs:=by
 obtain ⟨h1,h2,h3⟩:=h;refine ⟨by simpa [go_sem] using h1,λi u hi=>?_,λi hi=>?_⟩
 ·rw [World.cell?_setCell_far _ _ _ _ (by simpa using hj)];exact h2 i u hi
 ·rw [World.frozen?_setCell];exact h3 i hi
theorem AtL.set (h:AtL W k vs) (o:Nat) (u:Value):AtL (W.setCell ⟨k,o,none⟩ u) k (vs.set o u):=by
 obtain ⟨h1,h2,h3⟩:=h;refine ⟨by simpa [go_sem] using h1,λi v hi=>?_,λi hi=>?_⟩
 ·by_cases e:o=i
  ·subst e;by_cases hl:o<vs.length
   ·rw [List.getElem?_set_self hl] at hi;obtain rfl:=Option.some.inj hi;exact World.cell?_setCell_same _ _ _ (h2 o vs[o] (List.getElem?_eq_getElem hl))
   ·rw [List.getElem?_eq_none (by simp;omega)] at hi;cases hi
  ·rw [List.getElem?_set_ne e] at hi;rw [World.cell?_setCell_other _ _ _ _ (by first | (simp;done) | (simp;omega))];exact h2 i v hi
 ·rw [World.frozen?_setCell];exact h3 i (by simpa using hi)
theorem AtL.two (h:AtL W k [a,b]) :
  W.cell? ⟨k,0,none⟩=some a/\W.cell? ⟨k,1,none⟩=some b/\W.frozen? ⟨k,0,none⟩=false/\W.frozen? ⟨k,1,none⟩=false :=
 ⟨h.2.1 0 a rfl,h.2.1 1 b rfl,h.2.2 0 (by simp),h.2.2 1 (by simp)⟩
theorem AtL.three (h:AtL W k [a,b,c]) :
  W.cell? ⟨k,0,none⟩=some a/\W.cell? ⟨k,1,none⟩=some b/\W.cell? ⟨k,2,none⟩=some c/\W.frozen? ⟨k,0,none⟩=false/\W.frozen? ⟨k,1,none⟩=false/\W.frozen? ⟨k,2,none⟩=false :=
 ⟨h.2.1 0 a rfl,h.2.1 1 b rfl,h.2.1 2 c rfl,h.2.2 0 (by simp),h.2.2 1 (by simp),h.2.2 2 (by simp)⟩
theorem AtL.five (h:AtL W k [a,b,c,d,e]) :
  W.cell? ⟨k,0,none⟩=some a/\W.cell? ⟨k,1,none⟩=some b/\W.cell? ⟨k,2,none⟩=some c/\W.cell? ⟨k,3,none⟩=some d/\W.cell? ⟨k,4,none⟩=some e /\
  W.frozen? ⟨k,0,none⟩=false/\W.frozen? ⟨k,1,none⟩=false/\W.frozen? ⟨k,2,none⟩=false/\W.frozen? ⟨k,3,none⟩=false/\W.frozen? ⟨k,4,none⟩=false :=
 ⟨h.2.1 0 a rfl,h.2.1 1 b rfl,h.2.1 2 c rfl,h.2.1 3 d rfl,h.2.1 4 e rfl,h.2.2 0 (by simp),h.2.2 1 (by simp),h.2.2 2 (by simp),h.2.2 3 (by simp),h.2.2 4 (by simp)⟩
abbrev zLn (W:World) (k:Nat) (a b c d e:Value):Prop :=
 W.cell? ⟨k,0,none⟩=some a/\W.cell? ⟨k,1,none⟩=some b/\W.cell? ⟨k,2,none⟩=some c/\W.cell? ⟨k,3,none⟩=some d/\W.cell? ⟨k,4,none⟩=some e
theorem zCQ (hb:Below W.heap.size W W') {k:Nat} {a b c d e:Value} (h:zLn W k a b c d e):zLn W' k a b c d e:=by
 have hk:=World.block_lt_of_cell? W ⟨k,0,none⟩ h.1;obtain ⟨h0,h1,h2,h3,h4⟩:=h;exact ⟨(hb.cell (p:=⟨k,0,none⟩) hk).trans h0,(hb.cell (p:=⟨k,1,none⟩) hk).trans h1,(hb.cell (p:=⟨k,2,none⟩) hk).trans h2,(hb.cell (p:=⟨k,3,none⟩) hk).trans h3,(hb.cell (p:=⟨k,4,none⟩) hk).trans h4⟩
theorem zFv (h:zLn W k a b c d e):zLn W.drew k a b c d e:=zCQ (Below.refl _ _).drew h
abbrev zM8 (W:World) (k:Nat) (a b c:Value):Prop :=
 W.cell? ⟨k,0,none⟩=some a/\W.cell? ⟨k,1,none⟩=some b/\W.cell? ⟨k,2,none⟩=some c
theorem AtL.f5 (h:AtL W k [a,b,c,d,e]):zLn W k a b c d e:=⟨h.2.1 0 a rfl,h.2.1 1 b rfl,h.2.1 2 c rfl,h.2.1 3 d rfl,h.2.1 4 e rfl⟩
theorem AtL.f3 (h:AtL W k [a,b,c]):zM8 W k a b c:=⟨h.2.1 0 a rfl,h.2.1 1 b rfl,h.2.1 2 c rfl⟩
theorem AtL.put5 (h:AtL W k [a,b,c,d,e]) (x y z u v:Value) :
  AtL (((((W.setCell ⟨k,0,none⟩ x).setCell ⟨k,1,none⟩ y).setCell ⟨k,2,none⟩ z).setCell ⟨k,3,none⟩ u).setCell ⟨k,4,none⟩ v) k [x,y,z,u,v]:=((((h.set 0 x).set 1 y).set 2 z).set 3 u).set 4 v
theorem zAx {n:Nat} (hb:Below n w W) (hk:n<=k) (x y z u v:Value) :
  Below n w (((((W.setCell ⟨k,0,none⟩ x).setCell ⟨k,1,none⟩ y).setCell ⟨k,2,none⟩ z).setCell ⟨k,3,none⟩ u).setCell ⟨k,4,none⟩ v) :=
 ((((hb.setCell (p:=⟨k,0,none⟩) hk x).setCell (p:=⟨k,1,none⟩) hk y).setCell (p:=⟨k,2,none⟩) hk z).setCell (p:=⟨k,3,none⟩) hk u).setCell (p:=⟨k,4,none⟩) hk v
theorem zAC (hb:Below W.heap.size W W') {k o:Nat} {v:Value} (h:W.cell? ⟨k,o,none⟩=some v):W'.cell? ⟨k,o,none⟩=some v :=
 (hb.cell (p:=⟨k,o,none⟩) (World.block_lt_of_cell? W ⟨k,o,none⟩ h)).trans h
theorem zBw (b:ByteArray) (i:Nat) (h:i<b.size):b.data.toList.drop i=b[i]::b.data.toList.drop (i+1):=List.drop_eq_getElem_cons (by simpa using h)
theorem zB6 (b:ByteArray) (i:Nat) (h:¬ i<b.size):b.data.toList.drop i=[]:=List.drop_eq_nil_of_le (by have:b.data.toList.length=b.size:=rfl;omega)
theorem zCX (f:Int) (w:World):Calls prog 136 #[.int .i64 f] w λe w'=>e=.returned (.bool (Wv.flt f))/\w=w':=by
 unfold Wv.flt;go_enter func136,ntmps136;by_cases a:1<=f
 ·go_wp2;go_ret;exact ⟨zAf (by simp [a]),rfl⟩
 ·go_wp2;go_ret;exact ⟨zAf (by rw [decide_eq_false (by omega)];rfl),rfl⟩
theorem zFb (c:UInt8):Wlx.prt c=(decide (32<=(c.toNat:Int)) && decide ((c.toNat:Int)<=126)):=by
 unfold Wlx.prt;simp
theorem zEY (b:ByteArray) (w:World) (hs:b.size<=9223372036854775807):Calls prog 135 #[.string b] w λe w'=>e=.returned (.bool (Wv.prts b.data.toList))/\w=w':=by
 obtain ⟨R,hR⟩:∃ R,Wv.prts b.data.toList=R:=⟨_,rfl⟩
 have E0:Hid (R=Wv.prts (b.data.toList.drop 0)):=hR.symm;rw [hR];clear hR;go_enter func135,ntmps135;go_wp2_with fail
 go_loopg [6] (b.size) (λgk x wr=>∃ j:Nat,x=.int .i64 j/\gk=b.size - j/\j<=b.size/\Hid (R=Wv.prts (b.data.toList.drop j))/\wr=w)
 case atStart=>exact ⟨0,rfl,rfl,Nat.zero_le _,E0,rfl⟩
 case round =>
  obtain ⟨j,rfl,hg,hj,HR,rfl⟩:=hrel;by_cases hlt:j<b.size
  ·have hli:(j:Int)<(b.size:Int):=by omega
   have hd:=zBw b j hlt;have hp:=zFb (b[j]);by_cases c1:((b[j]).toNat:Int)<32
   ·have E:Hid (R=false):=by show _=_;rw [HR.out,hd,Wv.prts_cons,hp,decide_eq_false (by omega)];rfl
    clear HR hd hp;go_wp2;go_ret;exact ⟨by rw [E.out];rfl,rfl⟩
   ·by_cases c2:(126:Int)<((b[j]).toNat:Int)
    ·have E:Hid (R=false):=by show _=_;rw [HR.out,hd,Wv.prts_cons,hp,decide_eq_false (p:=((b[j]).toNat:Int)<=126) (by omega)];simp
     clear HR hd hp;go_wp2;go_ret;exact ⟨by rw [E.out];rfl,rfl⟩
    ·have E:Hid (R=Wv.prts (b.data.toList.drop (j+1))):=by show _=_;rw [HR.out,hd,Wv.prts_cons,hp,decide_eq_true (by omega),decide_eq_true (by omega)];rfl
     clear HR hd hp;go_wp2_with fail
     go_roundg (b.size - (j+1))
     case rel=>exact ⟨j+1,by simp,rfl,hlt,E,by first | trivial | rfl⟩
     case measure=>omega
  ·have hli:¬ (j:Int)<(b.size:Int):=by omega
   have E:Hid (R=true):=by show _=_;rw [HR.out,zB6 b j hlt];rfl
   clear HR;go_wp2;go_ret;exact ⟨by rw [E.out];rfl,rfl⟩
theorem zL9 (a b:Int) (w:World):(if a=b then (Result.ok true w:Result Bool) else Result.ok false w)=Result.ok (a == b) w:=by by_cases h:a=b <;> simp [h]
theorem zKU (a b:Bool) (w:World):(if a=b then (Result.ok true w:Result Bool) else Result.ok false w)=Result.ok (a == b) w:=by by_cases h:a=b <;> simp [h]
theorem zBh (a b:ByteArray):((a == b)=true)=(a=b):=by
 obtain ⟨⟨x⟩⟩:=a;obtain ⟨⟨y⟩⟩:=b;have h:((⟨⟨x⟩⟩:ByteArray) == ⟨⟨y⟩⟩)=(x == y):=by
  show ((⟨x⟩:Array UInt8) == ⟨y⟩)=(x == y)
  simp
 rw [h];simp
def eqV (k n d:Int) (t:ByteArray) (b:Bool) (f:Int) (k' n' d':Int) (t':ByteArray) (b':Bool) (f':Int):Bool :=
 (k == k') && ((n == n') && ((d == d') && ((t == t') && ((b == b') && (f == f')))))
theorem zJR (x:Nat) (k n d:Int) (t:ByteArray) (b:Bool) (f:Int) (k' n' d':Int) (t':ByteArray) (b':Bool) (f':Int) (w:World) :
  (Op.equalIn (x+3) 31 (.agg #[.int .i64 k,.int .i64 n,.int .i64 d,.string t,.bool b,.int .i64 f]) (.agg #[.int .i64 k',.int .i64 n',.int .i64 d',.string t',.bool b',.int .i64 f'])).run prog w=.ok (eqV k n d t b f k' n' d' t' b' f') w:=by
 unfold eqV;rw [beq_toListBytes];by_cases h1:k=k'
 ·by_cases h2:n=n'
  ·by_cases h3:d=d'
   ·by_cases h4:t.toList=t'.toList
    ·by_cases h5:b=b'
     ·simp [go_sem,h1,h2,h3,h4,h5,zL9]
     ·simp [go_sem,h1,h2,h3,h4,h5]
    ·simp [go_sem,h1,h2,h3,h4]
   ·simp [go_sem,h1,h2,h3]
  ·simp [go_sem,h1,h2]
 ·simp [go_sem,h1]
theorem zAu (k n d:Int) (t:ByteArray) (b:Bool) (f:Int) (k' n' d':Int) (t':ByteArray) (b':Bool) (f':Int) (w:World) :
  (binOp .eql 31 (.agg #[.int .i64 k,.int .i64 n,.int .i64 d,.string t,.bool b,.int .i64 f]) (.agg #[.int .i64 k',.int .i64 n',.int .i64 d',.string t',.bool b',.int .i64 f'])).run prog w=.ok (.bool (eqV k n d t b f k' n' d' t' b' f')) w:=by
 rw [run_eql_struct,show (10000:Nat)=9997+3 from rfl,zJR];rfl
def eqR (s:ByteArray) (r c:Int) (fr fc:Bool) (s':ByteArray) (r' c':Int) (fr' fc':Bool):Bool :=
 (s == s') && ((r == r') && ((c == c') && ((fr == fr') && (fc == fc'))))
theorem zJP (x:Nat) (s:ByteArray) (r c:Int) (fr fc:Bool) (s':ByteArray) (r' c':Int) (fr' fc':Bool) (w:World) :
  (Op.equalIn (x+2) 33 (.agg #[.string s,.int .i64 r,.int .i64 c,.bool fr,.bool fc]) (.agg #[.string s',.int .i64 r',.int .i64 c',.bool fr',.bool fc'])).run prog w=.ok (eqR s r c fr fc s' r' c' fr' fc') w:=by
 unfold eqR;rw [beq_toListBytes];by_cases h1:s.toList=s'.toList
 ·by_cases h2:r=r'
  ·by_cases h3:c=c'
   ·by_cases h4:fr=fr'
    ·simp [go_sem,h1,h2,h3,h4,zKU]
    ·simp [go_sem,h1,h2,h3,h4]
   ·simp [go_sem,h1,h2,h3]
  ·simp [go_sem,h1,h2]
 ·simp [go_sem,h1]
end Go.Proofs.YtefkclbaflkheaaGreatDoor
namespace Wpl
structure Cl where
 s:Int
 r:Int
 c:Int
structure Ar where
 s:Int
 t:Int
 l:Int
 b:Int
 r:Int
def inB (n m:Int):Bool:=decide (0<=n) && decide (n<m)
def rightC (s r c:Int):Bool:=inB s 16 && inB r 65536 && inB c 256
theorem rightC_iff {s r c:Int}:rightC s r c=true ↔ 0<=s/\s<16/\0<=r/\r<65536/\0<=c/\c<256:=by simp [rightC,inB];omega
theorem rightC_not {s r c:Int}:rightC s r c=false ↔ ¬ (0<=s/\s<16/\0<=r/\r<65536/\0<=c/\c<256):=by rw [<-rightC_iff];simp
def rightA (s t l b r:Int):Bool:=decide (0<=s/\s<16/\0<=t/\t<=b/\b<65536/\0<=l/\l<=r/\r<256)
theorem rightA_iff {s t l b r:Int}:rightA s t l b r=true ↔ 0<=s/\s<16/\0<=t/\t<=b/\b<65536/\0<=l/\l<=r/\r<256:=by simp [rightA]
def lacks (q:Int) (c:Cl):Bool:=decide (c.s ≠ q) || !rightC c.s c.r c.c
def grow (a:Ar) (c:Cl):Ar:=⟨a.s,min a.t c.r,min a.l c.c,max a.b c.r,max a.r c.c⟩
def zDG (c:Cl):Ar:=⟨c.s,c.r,c.c,c.r,c.c⟩
def nullA:Ar:=⟨0,0,0,0,0⟩
def sizeA (s t l b r:Int):Int:=if rightA s t l b r then (b - t+1) * (r - l+1) else 0
def anyN (q:Int) (F:Nat->Cl):Nat->Bool
 | 0=>false
 | n+1=>anyN q F n || lacks q (F n)
theorem anyN_hit {q:Int} {F:Nat->Cl} {n j:Nat} (hj:j<n) (h:lacks q (F j)=true):anyN q F n=true:=by
 induction n with
 | zero=>omega
 | succ n ih =>
  by_cases e:j=n
  ·subst e;simp [anyN,h]
  ·simp [anyN,ih (by omega)]
theorem anyN_miss {q:Int} {F:Nat->Cl} {n:Nat} (h:∀ j,j<n->lacks q (F j)=false):anyN q F n=false:=by
 induction n with
 | zero=>rfl
 | succ n ih=>simp [anyN,ih (λj hj=>h j (by omega)),h n (by omega)]
def hullU (F:Nat->Cl):Nat->Ar
 | 0=>zDG (F 0)
 | j+1=>grow (hullU F j) (F (j+1))
def hullOk (F:Nat->Cl) (n:Nat):Bool:=decide (n ≠ 0) && !anyN (F 0).s F n
def hullV (F:Nat->Cl) (n:Nat):Ar:=if hullOk F n then hullU F (n - 1) else nullA
def zCx (s r c s' r' c':Int):Bool:=if s ≠ s' then decide (s<s') else if r ≠ r' then decide (r<r') else decide (c<c')
def zMX (s t l b r:Int) (i:Nat):Cl:=if i=0 then ⟨s,t,l⟩ else ⟨s,b,r⟩
def isA (a:Ar) (s t l b r:Int):Bool:=decide (a.s=s/\a.t=t/\a.l=l/\a.b=b/\a.r=r)
end Wpl
namespace Go.Proofs.YtefkclbaflkheaaGreatDoor
open Tryz
open Go.RowKit
variable {W w:World} {k ka kb:Nat} {us:List Value} {n d f:Int} {t:ByteArray} {b:Bool}
theorem zHK {B:Nat} {a:World} (h:Below B a w) (n:Nat):Below B a (w.drewN n):=⟨h.os,h.tape,h.output,h.size,h.block⟩
theorem zAh {w1:World} (h0:Below w.heap.size w W) (hb:Below W.heap.size W w1):Below w.heap.size w w1:=h0.trans (hb.mono h0.size)
theorem zBf (h:Below w.heap.size w W) (o:Obj):Below w.heap.size w (W.alloc o):=h.alloc h.size o
theorem zCB (n m:Int) (w:World) :
  Calls prog 44 #[.int .i64 n,.int .i64 m] w λe w'=>e=.returned (.bool (Wpl.inB n m))/\w=w':=by
 unfold Wpl.inB;by_cases h:0<=n
 ·rw [decide_eq_true h];go_enter func44,ntmps44;go_wp2;go_ret;exact ⟨by simp,rfl⟩
 ·rw [decide_eq_false h];go_enter func44,ntmps44;go_wp2;go_ret;exact ⟨by simp,rfl⟩
theorem zAg (s r c:Int) (w:World) :
  CR 22 #[.agg #[.int .i64 s,.int .i64 r,.int .i64 c]] w (.bool (Wpl.rightC s r c)):=by
 have B1:=λw=>zCB s 16 w
 have B2:=λw=>zCB r 65536 w
 have B3:=λw=>zCB c 256 w
 unfold Wpl.rightC;generalize Wpl.inB s 16=b1 at *;generalize Wpl.inB r 65536=b2 at *;generalize Wpl.inB c 256=b3 at *;cases b1
 ·go_enter func22,ntmps22;go_wp2_with fail
  refine (B1 _).mono ?_;rintro e w1 ⟨rfl,rfl⟩;go_wp2;go_ret;exact ⟨rfl,clA⟩
 cases b2
 ·go_enter func22,ntmps22;go_wp2_with fail
  refine (B1 _).mono ?_;rintro e w1 ⟨rfl,rfl⟩;go_wp2_with fail
  refine (B2 _).mono ?_;rintro e w1 ⟨rfl,rfl⟩;go_wp2;go_ret;exact ⟨rfl,clA⟩
 ·go_enter func22,ntmps22;go_wp2_with fail
  refine (B1 _).mono ?_;rintro e w1 ⟨rfl,rfl⟩;go_wp2_with fail
  refine (B2 _).mono ?_;rintro e w1 ⟨rfl,rfl⟩;go_wp2_with fail
  refine (B3 _).mono ?_;rintro e w1 ⟨rfl,rfl⟩;go_wp2;go_ret;exact ⟨rfl,clA⟩
theorem zF0 (s t l b r:Int) (w:World) :
  CR 138 #[.agg #[.int .i64 s,.int .i64 t,.int .i64 l,.int .i64 b,.int .i64 r]] w (.agg #[.int .i64 s,.int .i64 t,.int .i64 l]):=by
 go_enter func138,ntmps138;go_wp2;refine bodyPost_ret (v:=.agg #[.int .i64 s,.int .i64 t,.int .i64 l]) (by simp [results,results138,go_sem]) rfl ⟨rfl,?_⟩;exact clA
theorem zI4 (s t l b r:Int) (w:World) :
  CR 139 #[.agg #[.int .i64 s,.int .i64 t,.int .i64 l,.int .i64 b,.int .i64 r]] w (.agg #[.int .i64 s,.int .i64 b,.int .i64 r]):=by
 go_enter func139,ntmps139;go_wp2;refine bodyPost_ret (v:=.agg #[.int .i64 s,.int .i64 b,.int .i64 r]) (by simp [results,results139,go_sem]) rfl ⟨rfl,?_⟩;exact clA
theorem zGg (q s r c:Int) (w:World) :
  CR 148 #[.int .i64 q,.agg #[.int .i64 s,.int .i64 r,.int .i64 c]] w (.bool (Wpl.lacks q ⟨s,r,c⟩)):=by
 have R:=λw=>zAg s r c w
 unfold Wpl.lacks;show Calls _ _ _ _ λe w'=>e=.returned (.bool (decide (s ≠ q) || !Wpl.rightC s r c))/\_
 generalize Wpl.rightC s r c=b at *;by_cases h:s=q
 ·subst h;go_enter func148,ntmps148;go_wp2_with fail
  refine (R _).mono ?_;rintro e w1 ⟨rfl,hb⟩;go_wp2;go_ret;exact ⟨by simp,clA⟩
 ·rw [decide_eq_true (show s ≠ q from h)];go_enter func148,ntmps148;go_wp2;go_ret;exact ⟨rfl,clA⟩
abbrev Six (W:World) (k:Nat) (a b c d e f:Value):Prop :=
 W.cell? ⟨k,0,none⟩=some a/\W.cell? ⟨k,1,none⟩=some b/\W.cell? ⟨k,2,none⟩=some c/\W.cell? ⟨k,3,none⟩=some d/\W.cell? ⟨k,4,none⟩=some e/\W.cell? ⟨k,5,none⟩=some f
theorem AtL.f6 {a b c d e f:Value} (h:AtL W k [a,b,c,d,e,f]):Six W k a b c d e f:=⟨h.2.1 0 a rfl,h.2.1 1 b rfl,h.2.1 2 c rfl,h.2.1 3 d rfl,h.2.1 4 e rfl,h.2.1 5 f rfl⟩
theorem zLL (n d:Int) (t:ByteArray) (b:Bool) (f:Int):eqV 0 n d t b f 0 0 0 ⟨#[]⟩ false 0=Wv.right 0 n d t b f:=by
 unfold eqV Wv.right;rw [if_pos rfl];rw [Bool.eq_iff_iff];simp [and_assoc,zBh]
theorem zIn (n d:Int) (t:ByteArray) (b:Bool) (f:Int) (w:World) :
  CR 92 #[.agg #[.int .i64 0,.int .i64 n,.int .i64 d,.string t,.bool b,.int .i64 f]] w (.bool (Wv.right 0 n d t b f)):=by
 rw [<-zLL];have hq:=zAu 0 n d t b f 0 0 0 ⟨#[]⟩ false 0;generalize eqV 0 n d t b f 0 0 0 ⟨#[]⟩ false 0=R at *;go_enter func92,ntmps92;go_wp2;go_ret;exact ⟨rfl,clA⟩
abbrev VrS (ka kb:Nat) (k n d:Int) (t:ByteArray) (b:Bool) (f:Int) (W:World):Prop :=
 Six W ka (.int .i64 k) (.int .i64 n) (.int .i64 d) (.string t) (.bool b) (.int .i64 f)/\W.frozen? ⟨kb,0,none⟩=false/\W.frozen? ⟨kb,1,none⟩=false/\W.frozen? ⟨kb,2,none⟩=false/\W.frozen? ⟨kb,3,none⟩=false/\W.frozen? ⟨kb,4,none⟩=false/\W.frozen? ⟨kb,5,none⟩=false
theorem zBd {k:Int} (h0:AtL W ka [.int .i64 k,.int .i64 n,.int .i64 d,.string t,.bool b,.int .i64 f]) (h1:AtL W kb us) (hl:us.length=6):VrS ka kb k n d t b f W :=
 ⟨h0.f6,h1.2.2 0 (by omega),h1.2.2 1 (by omega),h1.2.2 2 (by omega),h1.2.2 3 (by omega),h1.2.2 4 (by omega),h1.2.2 5 (by omega)⟩
theorem zB1 {k:Int} (h:VrS ka kb k n d t b f W) (hne:kb ≠ ka) (o:Nat) (u:Value):VrS ka kb k n d t b f (W.setCell ⟨kb,o,none⟩ u):=by
 obtain ⟨⟨h0,h1,h2,h3,h4,h5⟩,g0,g1,g2,g3,g4,g5⟩:=h;refine ⟨⟨?_,?_,?_,?_,?_,?_⟩,?_,?_,?_,?_,?_,?_⟩;any_goals rw [World.cell?_setCell_far _ _ _ _ (by simpa using hne)];assumption
 all_goals rw [World.frozen?_setCell];assumption
theorem zDh (f:Int) (w:World):CR 136 #[.int .i64 f] w (.bool (Wv.flt f)):=(zCX f w).mono λe w' h=>⟨h.1,h.2 ▸ Below.refl _ _⟩
theorem zGN (b:ByteArray) (w:World) (hs:b.size<=9223372036854775807):CR 135 #[.string b] w (.bool (Wv.prts b.data.toList)):=(zEY b w hs).mono λe w' h=>⟨h.1,h.2 ▸ Below.refl _ _⟩
theorem zLb (n d:Int) (t:ByteArray) (b:Bool) (f:Int):(Wnum.rightB n d && eqV 1 n d t b f 1 n d ⟨#[]⟩ false 0)=Wv.right 1 n d t b f:=by
 unfold eqV Wv.right;rw [if_neg (by decide)];rw [if_pos rfl];rw [Bool.eq_iff_iff];simp [and_assoc,zBh]
theorem zHc (n d:Int) (t:ByteArray) (b:Bool) (f:Int) (w:World) (h1:-9223372036854775808<=n) (h2:n<=9223372036854775807) (h3:-9223372036854775808<=d) (h4:d<=9223372036854775807) :
  CR 92 #[.agg #[.int .i64 1,.int .i64 n,.int .i64 d,.string t,.bool b,.int .i64 f]] w (.bool (Wv.right 1 n d t b f)):=by
 rw [<-zLb];have C:=λw=>zHA n d w h1 h2 h3 h4
 have hq:=zAu 1 n d t b f 1 n d ⟨#[]⟩ false 0;generalize eqV 1 n d t b f 1 n d ⟨#[]⟩ false 0=R at *;generalize Wnum.rightB n d=q at *;have pA:AtL ((w.alloc (.cells #[.int .i64 1,.int .i64 n,.int .i64 d,.string t,.bool b,.int .i64 f] 31)).alloc (.cells #[.int .i64 1,.int .i64 0,.int .i64 0,.string ⟨#[]⟩,.bool false,.int .i64 0] 31)) w.heap.size [.int .i64 1,.int .i64 n,.int .i64 d,.string t,.bool b,.int .i64 f]:=(AtL.new0 w _ _).alloc _;have pO:AtL ((w.alloc (.cells #[.int .i64 1,.int .i64 n,.int .i64 d,.string t,.bool b,.int .i64 f] 31)).alloc (.cells #[.int .i64 1,.int .i64 0,.int .i64 0,.string ⟨#[]⟩,.bool false,.int .i64 0] 31)) (w.heap.size+1) [.int .i64 1,.int .i64 0,.int .i64 0,.string ⟨#[]⟩,.bool false,.int .i64 0]:=AtL.new1 w _ _ _;have hS:VrS w.heap.size (w.heap.size+1) 1 n d t b f ((w.alloc (.cells #[.int .i64 1,.int .i64 n,.int .i64 d,.string t,.bool b,.int .i64 f] 31)).alloc (.cells #[.int .i64 1,.int .i64 0,.int .i64 0,.string ⟨#[]⟩,.bool false,.int .i64 0] 31)):=zBd pA pO rfl;cases q
 all_goals
  go_enter func92,ntmps92;go_upto_region 6 with fail
  go_region_held3 (VrS w.heap.size (w.heap.size+1) 1 n d t b f)
   (with_reducible first | exact hS | assumption | exact zBd pA1 pO1 rfl | exact zB1 (by assumption) (by omega) _ _ | exact zB1 (zB1 (by assumption) (by omega) _ _) (by omega) _ _ | exact zBd (AtL.drew pA) (AtL.drew pO) rfl)
   (first | (go_at_call 134;refine (C _).mono ?_;rintro e w1 ⟨rfl,hb⟩;have pA1:=AtL.below hb (AtL.drew pA);have pO1:=AtL.below hb (AtL.drew pO);obtain ⟨a0,a1,a2,a3,a4,a5⟩:=pA1.f6;obtain ⟨o0,o1,o2,o3,o4,o5⟩:=pO1.f6;have hB1:=zAB (zAK (zAK (Below.refl _ w) _) _).drew hb))
  all_goals
   go_wp2;go_ret;exact ⟨by simp,(clB hB1)⟩
theorem zLN (n d:Int) (t:ByteArray) (b:Bool) (f:Int):(Wv.flt f && eqV 4 n d t b f 4 0 0 ⟨#[]⟩ false f)=Wv.right 4 n d t b f:=by
 unfold eqV Wv.right;rw [if_neg (by decide)];rw [if_neg (by decide)];rw [if_neg (by decide)];rw [if_neg (by decide)];rw [if_pos rfl];rw [Bool.eq_iff_iff];simp [and_assoc,zBh]
theorem zHk (n d:Int) (t:ByteArray) (b:Bool) (f:Int) (w:World) :
  CR 92 #[.agg #[.int .i64 4,.int .i64 n,.int .i64 d,.string t,.bool b,.int .i64 f]] w (.bool (Wv.right 4 n d t b f)):=by
 rw [<-zLN];have C:=λw=>zDh f w
 have hq:=zAu 4 n d t b f 4 0 0 ⟨#[]⟩ false f;generalize eqV 4 n d t b f 4 0 0 ⟨#[]⟩ false f=R at *;generalize Wv.flt f=q at *;have pA:AtL ((w.alloc (.cells #[.int .i64 4,.int .i64 n,.int .i64 d,.string t,.bool b,.int .i64 f] 31)).alloc (.cells #[.int .i64 4,.int .i64 0,.int .i64 0,.string ⟨#[]⟩,.bool false,.int .i64 0] 31)) w.heap.size [.int .i64 4,.int .i64 n,.int .i64 d,.string t,.bool b,.int .i64 f]:=(AtL.new0 w _ _).alloc _;have pO:AtL ((w.alloc (.cells #[.int .i64 4,.int .i64 n,.int .i64 d,.string t,.bool b,.int .i64 f] 31)).alloc (.cells #[.int .i64 4,.int .i64 0,.int .i64 0,.string ⟨#[]⟩,.bool false,.int .i64 0] 31)) (w.heap.size+1) [.int .i64 4,.int .i64 0,.int .i64 0,.string ⟨#[]⟩,.bool false,.int .i64 0]:=AtL.new1 w _ _ _;have hS:VrS w.heap.size (w.heap.size+1) 4 n d t b f ((w.alloc (.cells #[.int .i64 4,.int .i64 n,.int .i64 d,.string t,.bool b,.int .i64 f] 31)).alloc (.cells #[.int .i64 4,.int .i64 0,.int .i64 0,.string ⟨#[]⟩,.bool false,.int .i64 0] 31)):=zBd pA pO rfl;cases q
 all_goals
  go_enter func92,ntmps92;go_upto_region 12 with fail
  go_region_held3 (VrS w.heap.size (w.heap.size+1) 4 n d t b f)
   (with_reducible first | exact hS | assumption | exact zBd pA1 pO1 rfl | exact zB1 (by assumption) (by omega) _ _ | exact zB1 (zB1 (by assumption) (by omega) _ _) (by omega) _ _ | exact zBd (AtL.drew pA) (AtL.drew pO) rfl)
   (first | (go_at_call 136;refine (C _).mono ?_;rintro e w1 ⟨rfl,hb⟩;have pA1:=AtL.below hb (AtL.drew pA);have pO1:=AtL.below hb (AtL.drew pO);obtain ⟨a0,a1,a2,a3,a4,a5⟩:=pA1.f6;obtain ⟨o0,o1,o2,o3,o4,o5⟩:=pO1.f6;have hB1:=zAB (zAK (zAK (Below.refl _ w) _) _).drew hb))
  all_goals
   go_wp2;go_ret;exact ⟨by simp,(clB hB1)⟩
theorem zLK (n d:Int) (t:ByteArray) (b:Bool) (f:Int):((decide (t.size<=256) && Wv.prts t.data.toList) && eqV 2 n d t b f 2 0 0 t false 0)=Wv.right 2 n d t b f:=by
 unfold eqV Wv.right;rw [if_neg (by decide)];rw [if_neg (by decide)];rw [if_pos rfl];rw [Bool.eq_iff_iff];simp [and_assoc,zBh]
theorem zLr (n d:Int) (t:ByteArray) (b:Bool) (f:Int):eqV 3 n d t b f 3 0 0 ⟨#[]⟩ b 0=Wv.right 3 n d t b f:=by
 unfold eqV Wv.right;rw [if_neg (by decide)];rw [if_neg (by decide)];rw [if_neg (by decide)];rw [if_pos rfl];rw [Bool.eq_iff_iff];simp [and_assoc,zBh]
theorem zIp (n d:Int) (t:ByteArray) (b:Bool) (f:Int) (w:World) :
  CR 92 #[.agg #[.int .i64 3,.int .i64 n,.int .i64 d,.string t,.bool b,.int .i64 f]] w (.bool (Wv.right 3 n d t b f)):=by
 rw [<-zLr];have hq:=zAu 3 n d t b f 3 0 0 ⟨#[]⟩ b 0;generalize eqV 3 n d t b f 3 0 0 ⟨#[]⟩ b 0=R at *;go_enter func92,ntmps92;go_wp2;go_ret;exact ⟨rfl,clA⟩
theorem zHj (k n d:Int) (t:ByteArray) (b:Bool) (f:Int) (w:World) (hk:k<0 \/ 4<k) :
  CR 92 #[.agg #[.int .i64 k,.int .i64 n,.int .i64 d,.string t,.bool b,.int .i64 f]] w (.bool (Wv.right k n d t b f)):=by
 have E:Hid (Wv.right k n d t b f=false):=by
  show _=_
  unfold Wv.right;rw [if_neg (by omega),if_neg (by omega),if_neg (by omega),if_neg (by omega),if_neg (by omega)]
 rw [E.out];clear E;go_enter func92,ntmps92;go_wp2;go_ret;exact ⟨rfl,clA⟩
theorem zHm (n d:Int) (t:ByteArray) (b:Bool) (f:Int) (w:World) (hs:t.size<=9223372036854775807) :
  CR 92 #[.agg #[.int .i64 2,.int .i64 n,.int .i64 d,.string t,.bool b,.int .i64 f]] w (.bool (Wv.right 2 n d t b f)):=by
 rw [<-zLK];have C:=λw=>zGN t w hs
 have hq:=zAu 2 n d t b f 2 0 0 t false 0;generalize eqV 2 n d t b f 2 0 0 t false 0=R at *;generalize Wv.prts t.data.toList=q at *;have pA:AtL ((w.alloc (.cells #[.int .i64 2,.int .i64 n,.int .i64 d,.string t,.bool b,.int .i64 f] 31)).alloc (.cells #[.int .i64 2,.int .i64 0,.int .i64 0,.string ⟨#[]⟩,.bool false,.int .i64 0] 31)) w.heap.size [.int .i64 2,.int .i64 n,.int .i64 d,.string t,.bool b,.int .i64 f]:=(AtL.new0 w _ _).alloc _;have pO:AtL ((w.alloc (.cells #[.int .i64 2,.int .i64 n,.int .i64 d,.string t,.bool b,.int .i64 f] 31)).alloc (.cells #[.int .i64 2,.int .i64 0,.int .i64 0,.string ⟨#[]⟩,.bool false,.int .i64 0] 31)) (w.heap.size+1) [.int .i64 2,.int .i64 0,.int .i64 0,.string ⟨#[]⟩,.bool false,.int .i64 0]:=AtL.new1 w _ _ _;have hS:VrS w.heap.size (w.heap.size+1) 2 n d t b f ((w.alloc (.cells #[.int .i64 2,.int .i64 n,.int .i64 d,.string t,.bool b,.int .i64 f] 31)).alloc (.cells #[.int .i64 2,.int .i64 0,.int .i64 0,.string ⟨#[]⟩,.bool false,.int .i64 0] 31)):=zBd pA pO rfl;by_cases hl:t.size<=256
 ·have hli:(t.size:Int)<=256:=by omega
  rw [decide_eq_true hl];cases q
  all_goals
   go_enter func92,ntmps92;go_upto_region 8 with fail
   go_region_held3 (VrS w.heap.size (w.heap.size+1) 2 n d t b f)
    (with_reducible first | exact hS | assumption | exact zBd pA1 pO1 rfl | exact zB1 (by assumption) (by omega) _ _ | exact zBd (AtL.drew pA) (AtL.drew pO) rfl)
    (first | (go_at_call 135;refine (C _).mono ?_;rintro e w1 ⟨rfl,hb⟩;have pA1:=AtL.below hb (AtL.drew pA);have pO1:=AtL.below hb (AtL.drew pO);obtain ⟨a0,a1,a2,a3,a4,a5⟩:=pA1.f6;obtain ⟨o0,o1,o2,o3,o4,o5⟩:=pO1.f6;have hB1:=zAB (zAK (zAK (Below.refl _ w) _) _).drew hb))
   all_goals
    go_wp2;go_ret;exact ⟨by simp,(clB hB1)⟩
 ·have hli:¬ (t.size:Int)<=256:=by omega
  rw [decide_eq_false hl];go_enter func92,ntmps92;go_upto_region 8 with fail
  go_big_region
  all_goals
   go_wp2;go_ret;exact ⟨by simp,clA⟩
def vl6 (v:Wt.Vl):List Value:=[.int .i64 v.k,.int .i64 v.n,.int .i64 v.d,.string v.t,.bool v.b,.int .i64 v.f]
def rf5 (a:Wt.Rf):List Value:=[.string a.s,.int .i64 a.r,.int .i64 a.c,.bool a.fr,.bool a.fc]
def zAN (x:Wt.Nd):List Value:=[.int .i64 x.k,.int .i64 x.v.k,.int .i64 x.v.n,.int .i64 x.v.d,.string x.v.t,.bool x.v.b,.int .i64 x.v.f,.int .i64 x.op,.string x.nm,.int .i64 x.ar,.string x.a.s,.int .i64 x.a.r,.int .i64 x.a.c,.bool x.a.fr,.bool x.a.fc,.string x.b.s,.int .i64 x.b.r,.int .i64 x.b.c,.bool x.b.fr,.bool x.b.fc]
def vlV (v:Wt.Vl):Value:=.agg (vl6 v).toArray
def rfV (a:Wt.Rf):Value:=.agg (rf5 a).toArray
def ndV (x:Wt.Nd):Value:=.agg (zAN x).toArray
def opsR:List Value:=Wt.opsT.flatMap λx=>[.int .i64 x.1,.string ⟨x.2.1.toArray⟩,.int .i64 x.2.2]
def OpsAt (w:World):Prop:=w.rangeAt 1 0 opsR
theorem OpsAt.below {w':World} (h:OpsAt w) (hb:Below w.heap.size w w'):OpsAt w':=λj v hv=>zAC hb (h j v hv)
theorem OpsAt.alloc (h:OpsAt w) (o:Obj):OpsAt (w.alloc o):=h.below ((Below.refl _ _).alloc (Nat.le_refl _) _)
theorem AtL.there (h:AtL W k us):W.there k 0 us.length:=λj hj =>
 ⟨by rw [Nat.zero_add,h.2.1 j us[j] (List.getElem?_eq_getElem hj)];rfl,by rw [Nat.zero_add];exact h.2.2 j hj⟩
theorem AtL.range (h:AtL W k us):W.rangeAt k 0 us:=λj v hv=>by rw [Nat.zero_add];exact h.2.1 j v hv
theorem zBG (k:Nat):∀ (vs:List Value) (o:Nat) (W:World),(W.setCells k o vs).heap.size=W.heap.size
 | [],_,_=>rfl
 | v::r,o,W=>by rw [World.setCells,zBG k r];simp [go_sem]
theorem AtL.setAll {vs:List Value} (h:AtL W k us) (hl:vs.length=us.length):AtL (W.setCells k 0 vs) k vs:=by
 refine ⟨by rw [zBG];exact h.1,λi v hv=>?_,λi hi=>?_⟩
 ·have:=World.rangeAt_setCells_same W k 0 vs (by rw [hl];exact h.there) i v hv;rw [Nat.zero_add] at this;exact this
 ·rw [World.frozen?_setCells];exact h.2.2 i (by omega)
theorem AtL.farAll {b:Nat} (h:AtL W k us) (hb:b ≠ k) (o:Nat) (vs:List Value):AtL (W.setCells b o vs) k us:=by
 refine ⟨by rw [zBG];exact h.1,λi v hv=>?_,λi hi=>?_⟩
 ·rw [World.cell?_setCells_out b vs o W _ (λh1=>absurd h1.symm hb)];exact h.2.1 i v hv
 ·rw [World.frozen?_setCells];exact h.2.2 i hi
theorem zAa (hb:Below w.heap.size w W) (hk:w.heap.size<=k):∀ (vs:List Value) (o:Nat),Below w.heap.size w (W.setCells k o vs):=by
 intro vs;induction vs generalizing W with
 | nil=>intro o;exact hb
 | cons v r ih=>intro o;rw [World.setCells];exact ih (hb.setCell (p:=⟨k,o,none⟩) hk v) (o+1)
end Go.Proofs.YtefkclbaflkheaaGreatDoor
namespace Go.Proofs.YtefkclbaflkheaaGreatDoor
